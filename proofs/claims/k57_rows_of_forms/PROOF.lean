import PyProof.Rows.All
import Wide.All
import OpenK.AllK
import Wide.FinOn
import Lean
import PyProof.EqAt
import PyProof.EqKinds
import PyProof.TupleCall
import PyProof.CompFree
import PyProof.StationsW
import PyProof.ExcClass3
import PyProof.Commute
import OpenK.KGet
import OpenK.KMeth
import PyProof.ExcArgs
import PyProof.ZipIter
import PyProof.ListNew
import PyProof.EnumMake
import PyProof.EnumStmt
import KE.KRevSl
import PyProof.WalkInts
import PyProof.Rows.MinMaxN
import PyProof.AttrMissHeap
import PyProof.DictList
import PyProof.DictUpdate
import KE.KDictOf
import PyProof.DictWalks
import PyProof.Conv_int_bool
import PyProof.Rows.SetFrom
import PyProof.SetRoads
import PyProof.ForAny
import KE.KDictSum
import PyProof.AutoListH
import KE.KRevIter
import KE.KDictList
import PyProof.ConsumeWalk
import PyProof.TupleIter
import PyProof.EnumIter
import PyProof.ZipIter
import PyProof.DictRoadsH
import PyProof.StrCalls2
import PyProof.StrWalks
import PyProof.StrLawsChain
import PyProof.CallStr
import KE.KIntText
import PyProof.StrLawsTight
import PyProof.StrLawsIn
import PyProof.Rows.CatFin
import PyProof.Rows.StrClose3
import KE.KxText
import KE.KStateDown
import PyProof.Rows.Range3
import PySem.Challenge.RW_unjump_k57_rows_of_forms
open Bool renaming false_ne_true→Bf9, and_eq_true→Bz9
open PySem renaming wpAny_bind→Aa, wpAny_pure→Ak, Spec→Hf, wpAny_mono→Hl, wpAny_field→Hq, wpAny_holding→Hu, wpAny_callSpecial?_slot→Ii, wpAny_newObj_type→Il, wpAny_seqItems→Kb, tupleKind_room_in1→Ko, wpAny_passesOwn→Kt, wpAny_call_entry→Kz, wpAny_comprehension_free→Lf, mem_of_lookup→Lh, wpAny_Call_Name_kw→Lp, wpAny_setField_rec→Lr, sizeLine_eq→Lu, wpAny_rule→Mg
open List renaming length_map→Ab, getElem?_eq_some_iff→Ac, length_append→Ae, getElem?_eq_getElem→Ag, size_toArray→Ah, getElem?_map→Ai, length_singleton→Aj, mem_singleton→Am, map_append→Ao, mem_cons→Aq, length_cons→Ar, mem_append_right→Ax, range→Ay, mem_append→Az, mem_cons_of_mem→Bk, append_assoc→Bs, not_mem_nil→Db, getElem?_append_right→Dc, map_cons→Dd, reverse_append→De, append_nil→Dg, filter_append→Dh, filter_cons_of_pos→Dj, getElem?_append_left→Dk, filter_cons_of_neg→Dl, mem_cons_self→Dm, replicate→Dn, getElem?_set_ne→Ds, length_set→Dt, length_filter_le→Du, drop_eq_getElem_cons→Dv, getElem?_set_self→Dw, mem_of_getElem?→Dx, getD_eq_getElem?_getD→Dy, set→Ha, lookup_cons→Hi, all_eq_true→Hj, getElem?_eq_none_iff→Hk, contains_iff_mem→Hm, getElem?_eq_none→Hn, mem_filter→Ho, find?_cons→Hr, length_take→Hs, take_length→Ht, all_cons→Hv, mem_map→Hw, mem_range→Hx, eq_nil_or_concat→Hz, concat_eq_append→Ia, getElem_mem→Ic, length_range→Im, nodup_cons→Io, range_succ→Iq, replicate_succ→Iu, length_reverse→Iw, any_cons→Ix, mem_append_left→Kd, getElem?_mapIdx→Ke, prefix_rfl→Kf, reverse_cons→Kg, drop_eq_nil_of_le→Kk, flatten_cons→Ku, pairwise_append→Kx, map_nil→Le, filterMap_cons→Lg, pairwise_singleton→Ll, nil_append→Lq, filter_nil→Ls, take_of_length_le→Lv, length_drop→Lz, cons_append→Ma, any_eq_true→Mb, dropLast_concat→Mc, length→Mi
open PySem.W renaming Frag→Af, keepIn→Hd, kia_one→Hh, kitOne→Kh, fnOf→Km, findIn→Lx, nsIn→Md, codeIn→Mf
open PySem.Heap renaming lt_size→Al, get?_push_of_some→An, get?_push_size→As, SameBut→Ib, get?_update_self→Iy, size_push→Ka, get?_update_other→Kj
open PySem.Value renaming ref→Au, none→Lm, type→Ly
open Option.some renaming inj→Aw
open Option renaming map_eq_some_iff→Ch, bind_eq_some_iff→Ik, isSome_iff_exists→Ky
open Ne renaming symm→Df
open PySem.NameKind renaming free→Di, cell→He
open PySem.SeqAt renaming EqAt→Dp
open False renaming elim→Dq
open PySem.Builtin.SmallTypes renaming nextOf→Dz, ownedTupleIsFree→Ih
open Sum renaming inl→Hb, inr→Me
open PyProof.Rows renaming slot_tuple_getitem→Hg, callWith_type1→Kl
open Int renaming toNat_natCast→Hy, emod_nonneg→Ip, emod_lt_of_pos→Kc, zero_add→Kr
open PySem.Txt renaming slice→Ig
open Array renaming length_toList→Ir
open PySem.Obj renaming mapSeq→Ki
open LawfulBEq renaming eq_of_beq→Kn
open PySem.Builtin.List renaming listExtendWith→Kq, listTooLong→Ld
open True renaming intro→Kv
open PySem.Builtin.Slice renaming slicePlaces→Kw
open PySem.Builtin.Tuple renaming tupleExact→La
open PySem.Heap.SameBut renaming update→Li
open PySem.Builtin.Str renaming occurrences→Lj
open Iff renaming rfl→Mh
set_option bootstrap.genMatcherCode false
set_option Elab.async false
set_option linter.all false
set_option maxRecDepth 100000
set_option genSizeOf false
set_option compiler.extract_closed false
set_option autoImplicit true
namespace L2
open PySem PySem.Spec PyProof.Rows
noncomputable abbrev Key:=Sum Int Str
noncomputable def C3:Key→Value→Bool
 | .inl k,v=>Value.isInt k v
 | .inr x,v=>Value.isStrOf x v
noncomputable def keyH(w:World):Key→Int
 | .inl k=>hashInt k
 | .inr x=>hashStr w x
theorem Zr:∀{k:Key} {v:Value},C3 k v=true→(∃i t,k=Hb i∧v=Value.int i t)∨(∃x t,k=Me x∧v=Value.str x t)
 | .inl i,v,h=>by
  obtain⟨t,e⟩:=Value.isInt_shape (k:=i) (v:=v) h
  exact .inl ⟨i,t,rfl,e⟩
 | .inr x,v,h=>by
  obtain⟨t,e⟩:=Value.isStrOf_shape (x:=x) (v:=v) h
  exact .inr ⟨x,t,rfl,e⟩
theorem Z18(i:Int)(t:Tok):C3 (.inl i) (.int i t)=true:=by simp[C3,Value.isInt]
theorem Z82(x:Str)(t:Tok):C3 (.inr x) (.str x t)=true:=by simp[C3,Value.isStrOf]
theorem Y08(a b:Int):decide ((Hb a:Key)=Hb b)=(a==b):=by
 by_cases e:a=b
 ·subst e;simp
 ·have h:¬(Hb a:Key)=Hb b:=fun q=>e (Hb.inj q)
  rw[decide_eq_false h]
  exact(beq_eq_false_iff_ne.mpr e).symm
theorem Y59(a b:Str):decide ((Me a:Key)=Me b)=decide (a=b):=by
 by_cases e:a=b
 ·subst e;simp
 ·have h:¬(Me a:Key)=Me b:=fun q=>e (Me.inj q)
  rw[decide_eq_false h,decide_eq_false e]
theorem Y62(a:Int)(b:Str):decide ((Hb a:Key)=Me b)=false:=decide_eq_false (fun q=>nomatch q)
theorem Y66(a:Str)(b:Int):decide ((Me a:Key)=Hb b)=false:=decide_eq_false (fun q=>nomatch q)
noncomputable def Zz(prog:Program)(w:World):PySem.KeyKind prog w Key where
 is:=C3
 hash:=keyH w
 inj:=fun v a b ha hb=>by
  rcases Zr ha with⟨i,t,rfl,rfl⟩ | ⟨x,t,rfl,rfl⟩
  ·rcases Zr hb with⟨j,u,rfl,e⟩ | ⟨y,u,rfl,e⟩
   ·injection e with e1 _;rw[e1]
   ·exact nomatch e
  ·rcases Zr hb with⟨j,u,rfl,e⟩ | ⟨y,u,rfl,e⟩
   ·exact nomatch e
   ·injection e with e1 _;rw[e1]
 byValue:=fun k v h=>by
  rcases Zr h with⟨i,t,rfl,rfl⟩ | ⟨x,t,rfl,rfl⟩<;>rfl
 pyHash:=fun hv h=>by
  rcases Zr hv with⟨i,t,rfl,rfl⟩ | ⟨x,t,rfl,rfl⟩
  ·exact wpAny_pyHash_int h
  ·exact wpAny_pyHash_str h
 eqBool:=fun hu hv h=>by
  rcases Zr hu with⟨i,t,rfl,rfl⟩ | ⟨x,t,rfl,rfl⟩
  ·rcases Zr hv with⟨j,u,rfl,rfl⟩ | ⟨y,u,rfl,rfl⟩
   ·rw[Y08] at h;exact wpAny_eqBool_int h
   ·rw[Y62] at h;exact Dp.int_str i t y u _ _ _ _ h
  ·rcases Zr hv with⟨j,u,rfl,rfl⟩ | ⟨y,u,rfl,rfl⟩
   ·rw[Y66] at h;exact Dp.str_int x t j u _ _ _ _ h
   ·rw[Y59] at h;exact wpAny_eqBool_str h
 «strs»:=fun k x t v h=>by
  rcases Zr h with⟨i,u,rfl,e⟩ | ⟨y,u,rfl,e⟩
  ·exact nomatch e
  ·injection e with e1 _
   subst e1
   cases v<;>rfl
theorem Gb(prog:Program)(w:World)(i:Int)(t:Tok):(Zz prog w).is (.inl i) (.int i t)=true:=Z18 i t
theorem Gw(prog:Program)(w:World)(x:Str)(t:Tok):(Zz prog w).is (.inr x) (.str x t)=true:=Z82 x t
inductive V where
 | non | bl (b:Bool) | int (i:Int) | str (x:Str) | byt (b:Array UInt8) | flt (b:UInt64) | ref (a:Addr) | ty (n:String)
 deriving DecidableEq
def RelV:V→Value→Prop
 | .non,u=>u=Lm
 | .bl b,u=>u=Value.bool b
 | .int i,u=>∃t,u=Value.int i t
 | .str x,u=>∃t,u=Value.str x t
 | .byt b,u=>∃t,u=Value.bytes b t
 | .flt b,u=>∃t,u=Value.float b t
 | .ref a,u=>u=Au a
 | .ty n,u=>u=Ly n
abbrev Vals:List V→List Value→Prop:=Paired RelV
theorem Vals.length{xs:List V}{us:List Value}(r:Vals xs us):xs.length=us.length:=Paired.length r
theorem Vals.get:∀{xs:List V} {us:List Value} {i:Nat} {x:V},Vals xs us→xs[i]?=some x→∃u,us[i]?=some u∧RelV x u
 | _,_,_,_,.nil,e=>by simp at e
 | _,_,0,_,.cons r _,e=>by simp at e;subst e;exact⟨_,rfl,r⟩
 | _,_,i+1,x,.cons _ t,e=>by
  obtain⟨u,h1,h2⟩:=Vals.get (i:=i) (x:=x) t (by simpa using e)
  exact⟨u,by simpa using h1,h2⟩
theorem Vals.set{x:V}{u:Value}(r:RelV x u):∀{xs:List V} {us:List Value} (i:Nat),Vals xs us→Vals (xs.set i x) (us.set i u)
 | _,_,_,.nil=> .nil
 | _,_,0,.cons _ t=> .cons r t
 | _,_,i+1,.cons q t=> .cons q (Vals.set r i t)
theorem Vals.append:∀{xs ys:List V} {us ws:List Value},Vals xs us→Vals ys ws→Vals (xs++ys) (us++ws)
 | _,_,_,_,.nil,s=>s
 | _,_,_,_,.cons r t,s=> .cons r (Vals.append t s)
theorem Vals.take:∀{xs:List V} {us:List Value} (n:Nat),Vals xs us→Vals (xs.take n) (us.take n)
 | _,_,0,_=> .nil
 | _,_,_+1,.nil=> .nil
 | _,_,n+1,.cons r t=> .cons r (Vals.take n t)
theorem Vals.drop:∀{xs:List V} {us:List Value} (n:Nat),Vals xs us→Vals (xs.drop n) (us.drop n)
 | _,_,0,r=>r
 | _,_,_+1,.nil=> .nil
 | _,_,n+1,.cons _ t=>Vals.drop n t
def RelO:Option V→Option Value→Prop
 | some v,some u=>RelV v u
 | none,none=>True
 | _,_=>False
def KV{κ:Type}:List (κ×V)→List (κ×Value)→Prop:=Paired fun(p:κ×V) (q:κ×Value)=>p.1=q.1∧RelV p.2 q.2
noncomputable def kV:Key→V
 | .inl i=> .int i
 | .inr x=> .str x
inductive HO where
 | lst (xs:List V)
 | tup (xs:List V)
 | dK (kvs:List (Key×V)) | dT (kvs:List (List Key×V))
 | set (S:Int→Bool) (n:Nat)
 | ins (C dx:Addr) (fs:List (Str×V))
 | own (x:Addr)
 | xd (fs:List (Str×V))
 | met (f x:Addr)
 | rng (lo hi:Int)
 | frz (o:Obj) (u:HO)
 | tbl (ps:Array Value)
 | ext (φ:Heap→Prop)
noncomputable abbrev Hp:=Addr→Option HO
noncomputable def upd(H:Hp)(a:Addr)(o:HO):Hp:=fun b=>if b=a then some o else H b
theorem Ye{H:Hp}{a:Addr}{o:HO}:upd H a o a=some o:=by unfold upd;rw[if_pos rfl]
theorem Zi{H:Hp}{a b:Addr}{o:HO}(h:b≠a):upd H a o b=H b:=by unfold upd;rw[if_neg h]
theorem Y31{H:Hp}{a b:Addr}{o u:HO}(h:H a=some o)(h':H b=some u)(d:o≠u):a≠b:=by
 intro e;subst e;rw[h] at h';exact d (Aw h')
theorem X4{H:Hp}{a b:Addr}{o:HO}(h:H a=some o)(h':H b=none):a≠b:=by
 intro e;subst e;rw[h] at h';cases h'
section
variable(P:Program)(w:World)
def Yc(H:Hp)(h:Heap)(a:Addr):HO→Prop
 | .lst xs=>xs.length≤sizeLine∧∃(its:List Value) (n:Nat),Vals xs its∧h.get? a=some {cls:= .type "list",data:= .seq its.toArray n}
 | .tup xs=>xs.length≤sizeLine∧∃its:List Value,Vals xs its∧IsTup h a its.toArray
 | .dK kvs=>kvs.length≤sizeLine∧(a==sysModules)=false∧∃vs,KV kvs vs∧h.DictOf (Zz P w) a vs
 | .dT kvs=>kvs.length≤sizeLine∧(a==sysModules)=false∧∃xs:List (List Key×Addr×Value),
   Paired (fun(p:List Key×V) (q:List Key×Addr×Value)=>p.1=q.1∧H q.2.1=some (.tup (p.1.map kV))∧RelV p.2 q.2.2) kvs xs∧
   ∃o es ep,h.get? a=some o∧o.ExactDict∧o.data= .dict es ep∧es.toList=xs.map (entryOfKey (tupleKind (Zz P w)))∧(xs.map (·.1)).Nodup
 | .set S n=>h.SetOf (intKind P w) a S n
 | .ins C dx fs=>H dx=some (.own a)∧fs.length≤1000∧dx≠a∧h.get? a=some (PySem.W.instObj C dx)∧
   ∃mA,h.Ns1 dx mA∧(∀f,RelO (fs.lookup f) (mA f))∧PySem.Within mA (fs.map (·.1))
 | .own _=>∃o,h.get? a=some o
 | .xd fs=>∃mA,h.Ns1 a mA∧∀f,RelO (fs.lookup f) (mA f)
 | .rng lo hi=>∃t u v,h.get? a=some {cls:= .type "range",data:= .fields #[.int lo t,.int hi u,.int 1 v]}
 | .frz o u=>h.get? a=some o∧Yc H h a u
 | .tbl ps=>h.get? a=some {cls:= .none,data:= .fields ps}
 | .met f x=>h.get? a=some (PySem.W.methodObj (.ref f) (.ref x))
 | .ext φ=>φ h∧(∃o,h.get? a=some o)∧∀h1 h2:Heap,φ h1→(∀o,h1.get? a=some o→h2.get? a=some o)→φ h2
def HOk(H:Hp)(h:Heap):Prop:=∀a o,H a=some o→Yc P w H h a o
end
section
variable{P:Program}{w:World}{H H':Hp}{h h':Heap}{a:Addr}{o:HO}
theorem Yc.lt(x:Yc P w H h a o):a<h.objs.size:=by
 cases o with
 | lst xs=>obtain⟨_,_,_,_,e⟩:=x;exact Al e
 | tup xs=>obtain⟨_,_,_,p⟩:=x;exact p.lt
 | dK kvs=>obtain⟨_,_,_,_,o,_,_,e,_⟩:=x;exact Al e
 | dT kvs=>obtain⟨_,_,_,_,o,_,_,e,_⟩:=x;exact Al e
 | set S n=>obtain⟨o,_,_,_,e,_⟩:=x;exact Al e
 | ins C dx fs=>obtain⟨_,_,_,e,_⟩:=x;exact Al e
 | own y=>obtain⟨_,e⟩:=x;exact Al e
 | xd fs=>obtain⟨_,⟨_,_,_,e,_⟩,_⟩:=x;exact Al e
 | rng lo hi=>obtain⟨_,_,_,e⟩:=x;exact Al e
 | frz ob u=>obtain⟨e,_⟩:=x;exact Al e
 | tbl ps=>exact Al (show h.get? a=some _ from x)
 | met f y=>exact Al (show h.get? a=some _ from x)
 | ext φ=>obtain⟨_,⟨_,e⟩,_⟩:=x;exact Al e
theorem Paired.mapP{α β:Type}{F G:α→β→Prop}:∀{l₁:List α} {l₂:List β},Paired F l₁ l₂→(∀a b,F a b→G a b)→Paired G l₁ l₂
 | _,_,.nil,_=> .nil
 | _,_,.cons r t,f=> .cons (f _ _ r) (Paired.mapP t f)
theorem Yc.stay(x:Yc P w H h a o)(k:∀b u,(b=a∨H b=some (.own a))→h.get? b=some u→h'.get? b=some u)
  (ho:∀b,H b=some (.own a)→H' b=some (.own a)) (ht:∀b xs,H b=some (.tup xs)→H' b=some (.tup xs)):Yc P w H' h' a o:=by
 induction o with
 | lst xs=>obtain⟨z,its,n,r,e⟩:=x;exact⟨z,its,n,r,k _ _ (.inl rfl) e⟩
 | tup xs=>obtain⟨z,its,r,ob,e,c⟩:=x;exact⟨z,its,r,ob,k _ _ (.inl rfl) e,c⟩
 | dK kvs=>obtain⟨z,y,vs,r,ob,es,ep,e,c⟩:=x;exact⟨z,y,vs,r,ob,es,ep,k _ _ (.inl rfl) e,c⟩
 | dT kvs=>
  obtain⟨z,y,xs,r,ob,es,ep,e,c⟩:=x
  exact⟨z,y,xs,Paired.mapP r fun p q z=>⟨z.1,ht _ _ z.2.1,z.2.2⟩,ob,es,ep,k _ _ (.inl rfl) e,c⟩
 | set S n=>obtain⟨ob,es,ep,t,e,c⟩:=x;exact⟨ob,es,ep,t,k _ _ (.inl rfl) e,c⟩
 | ins C dx fs=>
  obtain⟨d,z,ne,e,mA,⟨od,es,ep,e2,c⟩,r⟩:=x
  exact⟨ho _ d,z,ne,k _ _ (.inl rfl) e,mA,⟨od,es,ep,k _ _ (.inr d) e2,c⟩,r⟩
 | own y=>obtain⟨ob,e⟩:=x;exact⟨ob,k _ _ (.inl rfl) e⟩
 | xd fs=>obtain⟨mA,⟨od,es,ep,e,c⟩,r⟩:=x;exact⟨mA,⟨od,es,ep,k _ _ (.inl rfl) e,c⟩,r⟩
 | rng lo hi=>obtain⟨t,u,v,e⟩:=x;exact⟨t,u,v,k _ _ (.inl rfl) e⟩
 | frz ob u ih=>obtain⟨e,q⟩:=x;exact⟨k _ _ (.inl rfl) e,ih q⟩
 | tbl ps=>
  have e:h.get? a=some {cls:= .none,data:= .fields ps}:=x
  show h'.get? a=some {cls:= .none,data:= .fields ps}
  exact k a _ (.inl rfl) e
 | met f y=>
  have e:h.get? a=some (PySem.W.methodObj (.ref f) (.ref y)):=x
  show h'.get? a=some (PySem.W.methodObj (.ref f) (.ref y))
  exact k a _ (.inl rfl) e
 | ext φ=>obtain⟨p,⟨o,e⟩,st⟩:=x;exact⟨st _ _ p fun o q=>k _ _ (.inl rfl) q,⟨o,k _ _ (.inl rfl) e⟩,st⟩
theorem HOk.lt(x:HOk P w H h)(e:H a=some o):a<h.objs.size:=(x a o e).lt
theorem HOk.fresh(x:HOk P w H h)(e:h.objs.size≤a):H a=none:=by
 cases q:H a with
 | none=>rfl
 | some u=>exact absurd (Nat.lt_of_lt_of_le (x.lt q) e) (Nat.lt_irrefl _)
theorem HOk.kept(x:HOk P w H h)(k:∀b u,h.get? b=some u→h'.get? b=some u):HOk P w H h':=fun a o e=>
 (x a o e).stay (fun b u _ q=>k b u q) (fun _ q=>q) fun _ _ q=>q
theorem HOk.laid(x:HOk P w H h)(k:∀b u,h.get? b=some u→h'.get? b=some u)(hp:h.objs.size≤a)(new:Yc P w (upd H a o) h' a o):HOk P w (upd H a o) h':=fun b u e=>by
 have hn:=x.fresh hp
 by_cases hb:b=a
 ·subst hb;rw[Ye] at e;cases e;exact new
 ·rw[Zi hb] at e
  exact(x b u e).stay (fun c v _ q=>k c v q) (fun c q=>by rw[Zi (X4 q hn)];exact q) fun c xs q=>by rw[Zi (X4 q hn)];exact q
end
def Rd(H:Hp)(a:Addr)(u:HO):Prop:=H a=some u∨∃o,H a=some (.frz o u)
theorem Rd.ok{P:Program}{w:World}{H:Hp}{h:Heap}{a:Addr}{u:HO}(r:Rd H a u)(x:HOk P w H h):Yc P w H h a u:=by
 rcases r with r | ⟨o,r⟩
 ·exact x a u r
 ·obtain⟨_,q⟩:=x a _ r
  exact q
def Mut:Option HO→Prop
 | some (.lst _)=>True
 | some (.dK _)=>True
 | some (.dT _)=>True
 | some (.set _ _)=>True
 | some (.ins _ _ _)=>True
 | some (.ext _)=>True
 | _=>False
section
variable{P:Program}{w:World}{H:Hp}{h h':Heap}{x e:Addr}{o':HO}
theorem HOk.write(ok:HOk P w H h)(mu:Mut (H x))(he:e=x∨H e=some (.own x))(k:∀b u,b≠e→h.get? b=some u→h'.get? b=some u)(heo:∃u,h'.get? e=some u)
  (new:Yc P w (upd H x o') h' x o'):HOk P w (upd H x o') h':=fun b u q=>by
 have nown:∀c y,H c=some (.own y)→c≠x:=fun c y r z=>by subst z;rw[r] at mu;exact mu
 have ntup:∀c xs,H c=some (.tup xs)→c≠x:=fun c xs r z=>by subst z;rw[r] at mu;exact mu
 by_cases hb:b=x
 ·subst hb;rw[Ye] at q;cases q;exact new
 ·rw[Zi hb] at q
  by_cases hbe:b=e
  ·have q':H b=some (.own x):=by
    rcases he with z | z
    ·exact absurd (hbe.trans z) hb
    ·rw[hbe];exact z
   rw[q] at q';cases q'
   obtain⟨v,hv⟩:=heo
   exact⟨v,by rw[hbe];exact hv⟩
  ·refine(ok b u q).stay (fun c v hc r=>k c v ?_ r) (fun c r=>by rw[Zi (nown c b r)];exact r) fun c xs r=>by rw[Zi (ntup c xs r)];exact r
   rcases hc with rfl | hc
   ·exact hbe
   ·rintro rfl
    rcases he with z | z
    ·exact nown c b hc z
    ·rw[hc] at z;cases z;exact hb rfl
end
structure Un(fs ex:List Addr)(H H':Hp)(h h':Heap):Prop where
 keep:∀b o,h.get? b=some o→H b=none→b∉fs→b∉ex→h'.get? b=some o
 slot:∀b o,h.get? b=some o→H b=none→b∈fs→b∉ex→∃sl,h'.get? b=some {o with slots:=sl}
 free:∀b o,h.get? b=some o→H b=none→b∉ex→H' b=none
 there:∀b o,h.get? b=some o→b∉ex→∃o',h'.get? b=some o'
 tups:∀b xs,H b=some (.tup xs)→H' b=some (.tup xs)
 frzs:∀b o u,H b=some (.frz o u)→H' b=some (.frz o u)
 tbls:∀b ps,H b=some (.tbl ps)→∃more,H' b=some (.tbl (ps++more))
section
variable{fs fs' ex ex':List Addr}{H H1 H2:Hp}{h h1 h2 h':Heap}{a x e:Addr}{o:HO}
theorem Un.any(u:Un fs ex H H1 h h1){b:Addr}{ob:Obj}(q:h.get? b=some ob)(n:H b=none)(hx:b∉ex):∃sl,h1.get? b=some {ob with slots:=sl}:=by
 by_cases hb:b∈fs
 ·exact u.slot b ob q n hb hx
 ·exact⟨ob.slots,u.keep b ob q n hb hx⟩
theorem Un.kept(k:∀b u,h.get? b=some u→h'.get? b=some u):Un fs ex H H h h':=
 ⟨fun b ob q _ _ _=>k b ob q,fun b ob q _ _ _=>⟨ob.slots,k b ob q⟩,fun _ _ _ n _=>n,fun b ob q _=>⟨ob,k b ob q⟩,fun _ _ q=>q,fun _ _ _ q=>q,fun _ ps q=>⟨#[],by rw[q];simp⟩⟩
theorem Un.refl:Un fs ex H H h h:=Un.kept fun _ _ q=>q
theorem Un.laid(k:∀b u,h.get? b=some u→h'.get? b=some u)(hp:h.objs.size≤a)(hn:H a=none):Un fs ex H (upd H a o) h h' where
 keep:=fun b u q _ _ _=>k b u q
 slot:=fun b u q _ _ _=>⟨u.slots,k b u q⟩
 free:=fun b u q n _=>by rw[Zi (Nat.ne_of_lt (Nat.lt_of_lt_of_le (Al q) hp))];exact n
 there:=fun b u q _=>⟨u,k b u q⟩
 tups:=fun b xs q=>by rw[Zi (X4 q hn)];exact q
 frzs:=fun b u xs q=>by rw[Zi (X4 q hn)];exact q
 tbls:=fun b ps q=>⟨#[],by rw[Zi (X4 q hn),q];simp⟩
theorem Un.write(mu:Mut (H x))(he:e=x∨H e=some (.own x))(k:∀b u,b≠e→h.get? b=some u→h'.get? b=some u)(heo:∃u,h'.get? e=some u):Un fs ex H (upd H x o) h h':=by
 have hx:∀b,H b=none→b≠x:=fun b n z=>by subst z;rw[n] at mu;exact mu
 have hb:∀b,H b=none→b≠e:=fun b n z=>by
  subst z
  rcases he with r | r
  ·exact hx b n r
  ·rw[n] at r;cases r
 have hm:∀b u,H b=some u→¬Mut (some u)→b≠x:=fun b u q nm z=>by subst z;rw[q] at mu;exact nm mu
 refine⟨fun b u q n _ _=>k b u (hb b n) q,fun b u q n _ _=>⟨u.slots,k b u (hb b n) q⟩,fun b u q n _=>by rw[Zi (hx b n)];exact n,fun b u q _=>?_,
  fun b xs q=>by rw[Zi (hm b _ q fun z=>z)];exact q,fun b u xs q=>by rw[Zi (hm b _ q fun z=>z)];exact q,fun b ps q=>⟨#[],by rw[Zi (hm b _ q fun z=>z),q];simp⟩⟩
 by_cases hbe:b=e
 ·subst hbe;exact heo
 ·exact⟨u,k b u hbe q⟩
end
noncomputable def trk(h:Heap)(H:Hp):List Addr:=(Ay h.objs.size).filter fun a=>(H a).isSome
noncomputable def hidT(h:Heap)(H:Hp):Heap:=PySem.W.hideAll h (trk h H)
theorem Z28(h:Heap)(H:Hp):(hidT h H).objs.size=h.objs.size:=PySem.W.hideAll_size _ _
theorem Zd9{h:Heap}{H:Hp}{b:Addr}{o:Obj}(e:h.get? b=some o)(n:H b=none):(hidT h H).get? b=some o:=
 PySem.W.hideAll_get _ e fun hm=>by
  have q:(H b).isSome=true:=(Ho.mp hm).2
  rw[n] at q;simp at q
theorem Zv4{h:Heap}{H:Hp}{b:Addr}{o:Obj}(e:(hidT h H).get? b=some o):h.get? b=some o∧H b=none:=by
 have e':h.get? b=some o:=PySem.W.of_hideAll (trk h H) e
 refine⟨e',?_⟩
 cases q:H b with
 | none=>rfl
 | some x=>
  have hm:b∈trk h H:=Ho.mpr ⟨Hx.mpr (Al e'),by simp[q]⟩
  have z:(hidT h H).get? b=none:=PySem.W.hideAll_none (trk h H) hm
  rw[z] at e;cases e
noncomputable def Zp5(g h:Heap)(L:Addr):List (Addr×Obj):=(Ay h.objs.size).filterMap fun a=>if a=L∨(g.get? a).isSome=true then none else(h.get? a).map fun o=>(a,o)
noncomputable def rest(g h:Heap)(L d:Addr):List (Addr×Obj):=(Zp5 g h L).filter fun p=>decide (p.1≠d)
structure Mod(K:Af)(mg:Str→Option Value)(base:Heap):Prop where
 kin:K.In base
 glob:base.Ns mainGlobals mg
 blt:∃mb,base.Ns builtinsNs mb∧∀x:Str,x≠"__name__"→mb x=bootBuiltins x
 nolimit:base.NoLimit
structure Cx where
 prog:Program
 w:World
 K:Af
 mg:Str→Option Value
 base:Heap
 A:Around
 N:List Str
 s₀:Shared
 H₀:Hp
 env:Env
 outer:List Env
 stack:List Env
 ex:List Addr
 fn:Str→Bool
 calm:Bool
 pn:List (Addr×Obj)
 xe:Value→Shared→Prop
noncomputable def frs(l:List Env):List Addr:=l.filterMap (·.frame)
noncomputable abbrev Cx.fs(X:Cx):List Addr:=frs X.outer
def Vis(sc:Scope)(x:Str):Prop:=sc.names.lookup x=some .local∨sc.names.lookup x=some .cell∨sc.names.lookup x=some .free
def Loc(sc:Scope)(x:Str):Prop:=sc.names.lookup x=some .local∨sc.names.lookup x=some .cell
def Look(env:Env)(h:Heap)(m:Str→Option Value)(x:Str)(u:Value):Prop:=
 (env.kindOf x=some .local∧m x=some u)∨((env.kindOf x=some .cell∨env.kindOf x=some .free)∧∃c,env.cells.lookup x=some c∧h.IsCell c (some u))
structure Cx.Ok(X:Cx):Prop where
 mod:Mod X.K X.mg X.base
 kind:X.env.scope.kind= .function
 glob:X.env.globals=mainGlobals
 blt:X.env.builtins=builtinsNs
 above:X.s₀.heap.objs.size≤X.env.locals
 inj:∀x y c,X.env.cells.lookup x=some c→X.env.cells.lookup y=some c→x=y
 has:∀x,(X.env.kindOf x=some .cell∨X.env.kindOf x=some .free)→∃c,X.env.cells.lookup x=some c
 cab:∀x c,X.fn x=true→X.env.cells.lookup x=some c→X.s₀.heap.objs.size≤c
 hd:X.calm=true→X.A.handled=none
 frames:X.A.frames=some X.stack
 stk:X.stack=X.outer∨(X.stack=X.env::X.outer∧X.env.frame=some X.env.locals)
 exf:∀b∈X.ex,b≠X.env.locals∧∀x c,X.env.cells.lookup x=some c→c≠b
 bs:∀b o,X.base.get? b=some o→X.s₀.heap.get? b=some o∧X.H₀ b=none
 bsz:X.base.objs.size≤X.s₀.heap.objs.size
 noex:∀b o,X.base.get? b=some o→b∉X.ex
 exfs:∀b∈X.ex,b∉X.fs
 funs:X.s₀.heap.FunFrames X.base X.outer
 frf:∀b∈X.fs,X.H₀ b=none
structure Inv(X:Cx)(pins:List (Addr×Obj))(σ:List (Option V))(H:Hp)(s:Shared):Prop where
 ok:X.Ok
 os:s.os=X.s₀.os
 bare:AllBare s.gens
 base:Un X.fs X.ex X.H₀ H X.s₀.heap s.heap
 loc:∃m,s.heap.Ns X.env.locals m∧∀(i:Nat) (x:Str) (v:V),X.N[i]?=some x→σ[i]?=some (some v)→Vis X.env.scope x→∃u,RelV v u∧Look X.env s.heap m x u
 cell:∀x c,X.env.cells.lookup x=some c→∃v,s.heap.IsCell c v
 free:H X.env.locals=none
 freeC:∀x c,X.env.cells.lookup x=some c→H c=none
 pin:∀p∈X.pn++pins,s.heap.get? p.1=some p.2∧H p.1=none∧p.1≠X.env.locals∧p.1∉X.fs∧∀v,p.2.data≠ .cell v
 hok:HOk X.prog X.w H s.heap
 len:σ.length=X.N.length
section
variable{X:Cx}{pins:List (Addr×Obj)}{σ:List (Option V)}{H H':Hp}{s:Shared}{h':Heap}
theorem Cx.Ok.nofr(ok:X.Ok){b:Addr}{o:Obj}(e:X.base.get? b=some o):b∉X.fs:=fun hb=>by
 have:=(ok.funs.mem hb).1
 rw[e] at this;cases this
theorem Inv.bs(I:Inv X pins σ H s):∀b o,X.base.get? b=some o→s.heap.get? b=some o∧H b=none:=fun b o e=>
 ⟨I.base.keep b o (I.ok.bs b o e).1 (I.ok.bs b o e).2 (I.ok.nofr e) (I.ok.noex b o e),I.base.free b o (I.ok.bs b o e).1 (I.ok.bs b o e).2 (I.ok.noex b o e)⟩
theorem Inv.bk(I:Inv X pins σ H s):∀b o,X.base.get? b=some o→s.heap.get? b=some o:=fun b o e=>(I.bs b o e).1
theorem Inv.mod(I:Inv X pins σ H s):Mod X.K X.mg X.base:=I.ok.mod
theorem Inv.kIn(I:Inv X pins σ H s):X.K.In s.heap:=I.ok.mod.kin.keeps I.bk
theorem Inv.lt(I:Inv X pins σ H s):X.env.locals<s.heap.objs.size:=by obtain⟨_,hn,_⟩:=I.loc;exact hn.lt
theorem Inv.sz(I:Inv X pins σ H s):X.s₀.heap.objs.size≤s.heap.objs.size:=Nat.le_trans I.ok.above (Nat.le_of_lt I.lt)
theorem Inv.nofs(I:Inv X pins σ H s){a:Addr}(h:s.heap.objs.size≤a):a∉X.fs:=fun hb=>by
 obtain⟨_,o,ho,_⟩:=I.ok.funs.mem hb
 exact absurd (Nat.lt_of_lt_of_le (Al ho) (Nat.le_trans I.sz h)) (Nat.lt_irrefl _)
theorem Inv.cne(I:Inv X pins σ H s):∀x c,X.env.cells.lookup x=some c→c≠X.env.locals:=fun x c e z=>by
 obtain⟨v,o,ho,hd⟩:=I.cell x c e
 obtain⟨m,⟨o',es,ep,ho',hd',_⟩,_⟩:=I.loc
 rw[z,ho'] at ho;cases ho;rw[hd'] at hd;cases hd
theorem Inv.funs(I:Inv X pins σ H s):s.heap.FunFrames X.base X.outer:=by
 have all:∀(l:List Env),(∀b∈frs l,b∈X.fs)→X.s₀.heap.FunFrames X.base l→s.heap.FunFrames X.base l:=by
  intro l
  induction l with
  | nil=>intro _ _;trivial
  | cons env r ih=>
   intro hs hl
   obtain⟨hk,⟨L,o,hf,hn,ho,hd⟩,hr⟩:=hl
   have hL:L∈X.fs:=hs L (by unfold frs;rw[Lg,hf];exact Dm)
   obtain⟨sl,e⟩:=I.base.slot L o ho (I.ok.frf L hL) hL fun z=>I.ok.exfs L z hL
   exact⟨hk,⟨L,_,hf,hn,e,hd⟩,ih (fun b hb=>hs b (by unfold frs;rw[Lg,hf];exact Bk _ hb)) hr⟩
 exact all X.outer (fun _ hb=>hb) I.ok.funs
theorem Inv.stack(I:Inv X pins σ H s):s.heap.FunFrames X.base X.stack:=by
 rcases I.ok.stk with e | ⟨e,hf⟩
 ·rw[e];exact I.funs
 ·rw[e]
  obtain⟨m,hn,_⟩:=I.loc
  refine .cons (by rw[I.ok.kind];decide) hf hn ?_ I.funs
  exact Heap.get?_none_of_le (Nat.le_trans I.ok.bsz I.ok.above)
theorem Inv.stkSub(I:Inv X pins σ H s):∀b∈frs X.stack,b∈X.env.locals::X.fs:=fun b hb=>by
 rcases I.ok.stk with e | ⟨e,hf⟩
 ·rw[e] at hb;exact Bk _ hb
 ·rw[e] at hb
  unfold frs at hb
  rw[Lg,hf] at hb
  exact hb
theorem Inv.stkFree(I:Inv X pins σ H s):∀b∈frs X.stack,H b=none:=fun b hb=>by
 rcases Aq.mp (I.stkSub b hb) with e | hb
 ·rw[e];exact I.free
 ·obtain⟨_,o,ho,_⟩:=I.ok.funs.mem hb
  exact I.base.free b o ho (I.ok.frf b hb) fun z=>I.ok.exfs b z hb
theorem Inv.step{g':Array GenState}{t':Nat}{d':Drawn}{ch:List Addr}(I:Inv X pins σ H s)
  (hch:∀b∈ch,(b∈X.ex∨X.s₀.heap.objs.size≤b)∧b≠X.env.locals∧(∀x c,X.env.cells.lookup x=some c→c≠b)∧∀p∈X.pn++pins,p.1≠b)
  (keep:∀b o,b≠X.env.locals→b∉X.fs→b∉ch→s.heap.get? b=some o→H b=none→h'.get? b=some o)
  (slot:∀b o,b≠X.env.locals→b∈X.fs→b∉ch→s.heap.get? b=some o→H b=none→∃sl,h'.get? b=some {o with slots:=sl}) (free:∀b o,b∉ch→s.heap.get? b=some o→H b=none→H' b=none)
  (there:∀b o,b∉ch→s.heap.get? b=some o→∃o',h'.get? b=some o')
  (tups:∀b xs,H b=some (.tup xs)→H' b=some (.tup xs)) (frzs:∀b o u,H b=some (.frz o u)→H' b=some (.frz o u)) (tbls:∀b ps,H b=some (.tbl ps)→∃more,H' b=some (.tbl (ps++more)))
  (ns:∀m,s.heap.Ns X.env.locals m→h'.Ns X.env.locals m) (hok:HOk X.prog X.w H' h') (hg:AllBare g'):
  Inv X pins σ H' {s with heap:=h',gens:=g',drawn:=d',toks:=t'}:=by
 have neL:∀b o,X.s₀.heap.get? b=some o→b≠X.env.locals:=fun b o e=>Nat.ne_of_lt (Nat.lt_of_lt_of_le (Al e) I.ok.above)
 have neC:∀b o,X.s₀.heap.get? b=some o→b∉X.ex→b∉ch:=fun b o e hx hb=>by
  rcases(hch b hb).1 with z | z
  ·exact hx z
  ·exact absurd (Nat.lt_of_lt_of_le (Al e) z) (Nat.lt_irrefl _)
 have cellK:∀x c,X.env.cells.lookup x=some c→∀v,s.heap.IsCell c v→h'.IsCell c v:=fun x c e v ⟨o,ho,hd⟩=>by
  have nch:c∉ch:=fun z=>(hch c z).2.2.1 x c e rfl
  by_cases hc:c∈X.fs
  ·obtain⟨sl,q⟩:=slot c o (I.cne x c e) hc nch ho (I.freeC x c e)
   exact⟨_,q,hd⟩
  ·exact⟨o,keep c o (I.cne x c e) hc nch ho (I.freeC x c e),hd⟩
 refine⟨I.ok,I.os,hg,⟨fun b o e n hb hx=>?_,fun b o e n hb hx=>?_,fun b o e n hx=>?_,fun b o e hx=>?_,fun b xs e=>tups b xs (I.base.tups b xs e),fun b o xs e=>frzs b o xs (I.base.frzs b o xs e),fun b ps e=>?_⟩,?_,fun x c e=>?_,?_,fun x c e=>?_,fun p hp=>?_,hok,I.len⟩
 ·exact keep b o (neL b o e) hb (neC b o e hx) (I.base.keep b o e n hb hx) (I.base.free b o e n hx)
 ·obtain⟨sl,e1⟩:=I.base.slot b o e n hb hx
  obtain⟨sl',e2⟩:=slot b _ (neL b o e) hb (neC b o e hx) e1 (I.base.free b o e n hx)
  exact⟨sl',e2⟩
 ·obtain⟨o',e1⟩:=I.base.there b o e hx
  exact free b o' (neC b o e hx) e1 (I.base.free b o e n hx)
 ·obtain⟨o',e1⟩:=I.base.there b o e hx
  exact there b o' (neC b o e hx) e1
 ·obtain⟨m1,e1⟩:=I.base.tbls b ps e
  obtain⟨m2,e2⟩:=tbls b _ e1
  exact⟨m1++m2,by rw[e2,Array.append_assoc]⟩
 ·obtain⟨m,hn,hl⟩:=I.loc
  refine⟨m,ns m hn,fun i x v e1 e2 e3=>?_⟩
  obtain⟨u,r,l⟩:=hl i x v e1 e2 e3
  refine⟨u,r,?_⟩
  rcases l with l | ⟨k,c,e,z⟩
  ·exact .inl l
  ·exact .inr ⟨k,c,e,cellK x c e _ z⟩
 ·obtain⟨v,z⟩:=I.cell x c e
  exact⟨v,cellK x c e v z⟩
 ·obtain⟨m,⟨o,_,_,ho,_⟩,_⟩:=I.loc
  exact free _ o (fun z=>(hch _ z).2.1 rfl) ho I.free
 ·obtain⟨v,o,ho,hd⟩:=I.cell x c e
  exact free c o (fun z=>(hch c z).2.2.1 x c e rfl) ho (I.freeC x c e)
 ·obtain⟨e,n,ne,nf,d⟩:=I.pin p hp
  have nch:p.1∉ch:=fun z=>(hch p.1 z).2.2.2 p hp rfl
  exact⟨keep p.1 p.2 ne nf nch e n,free p.1 p.2 nch e n,ne,nf,d⟩
theorem Inv.un{t':Nat}(I:Inv X pins σ H s)(u:Un X.fs [] H H' s.heap h')(hok:HOk X.prog X.w H' h'):Inv X pins σ H' {s with heap:=h',toks:=t'}:=by
 obtain⟨m,⟨o,es,ep,ho,r⟩,_⟩:=id I.loc
 obtain⟨sl,hL⟩:=u.any ho I.free (by simp)
 exact I.step (g':=s.gens) (d':=s.drawn) (ch:=[]) (fun _ z=>nomatch z) (fun b o _ hb _ e n=>u.keep b o e n hb (by simp)) (fun b o _ hb _ e n=>u.slot b o e n hb (by simp)) (fun b o _ e n=>u.free b o e n (by simp)) (fun b o _ e=>u.there b o e (by simp)) u.tups u.frzs u.tbls (fun m' hm=>by
  obtain⟨o',es',ep',ho',r'⟩:=hm
  rw[ho] at ho';cases ho'
  exact⟨_,es',ep',hL,r'⟩) hok I.bare
theorem Inv.call{g':Array GenState}{t':Nat}{d':Drawn}{ch:List Addr}(I:Inv X pins σ H s)(u:Un (frs X.stack) ch H H' s.heap h')(hok:HOk X.prog X.w H' h')(hg:AllBare g')
  (hch:∀b∈ch,(b∈X.ex∨X.s₀.heap.objs.size≤b)∧b≠X.env.locals∧(∀x c,X.env.cells.lookup x=some c→c≠b)∧∀p∈X.pn++pins,p.1≠b):
  Inv X pins σ H' {s with heap:=h',gens:=g',drawn:=d',toks:=t'}:=by
 obtain⟨m,⟨o,es,ep,ho,r⟩,_⟩:=id I.loc
 obtain⟨sl,hL⟩:=u.any ho I.free fun z=>(hch _ z).2.1 rfl
 exact I.step (ch:=ch) hch (fun b o hL hb hc e n=>u.keep b o e n (fun z=>(Aq.mp (I.stkSub b z)).elim hL hb) hc) (fun b o _ _ hc e n=>u.any e n hc) (fun b o hc e n=>u.free b o e n hc) (fun b o hc e=>u.there b o e hc) u.tups u.frzs u.tbls (fun m' hm=>by
  obtain⟨o',es',ep',ho',r'⟩:=hm
  rw[ho] at ho';cases ho'
  exact⟨_,es',ep',hL,r'⟩) hok hg
theorem Inv.turned{t':Nat}{it:Addr}(I:Inv X pins σ H s)(k:∀b o,b≠it→s.heap.get? b=some o→h'.get? b=some o)(hn:H it=none)(hL:it≠X.env.locals)
  (h1:it∈X.ex∨X.s₀.heap.objs.size≤it) (h2:∀x c,X.env.cells.lookup x=some c→c≠it) (h3:∀p∈X.pn++pins,p.1≠it):Inv X pins σ H {s with heap:=h',toks:=t'}:=by
 have nit:∀b u,H b=some u→b≠it:=fun b u e z=>by rw[z,hn] at e;cases e
 refine I.step (g':=s.gens) (d':=s.drawn) (ch:=[it]) (fun b hb=>?_) (fun b o _ _ hc e _=>k b o (fun z=>hc (by simp[z])) e) (fun b o _ _ hc e _=>⟨o.slots,k b o (fun z=>hc (by simp[z])) e⟩) (fun _ _ _ _ n=>n)
  (fun b o hc e=>⟨o,k b o (fun z=>hc (by simp[z])) e⟩) (fun _ _ e=>e) (fun _ _ _ e=>e) (fun b ps e=>⟨#[],by rw[e];simp⟩) (fun m hm=>?_) (fun b u e=>?_) I.bare
 ·have e:b=it:=by simpa using hb
  subst e
  exact⟨h1,hL,h2,h3⟩
 ·obtain⟨o,es,ep,ho,r⟩:=hm
  exact⟨o,es,ep,k _ o (Df hL) ho,r⟩
 ·refine(I.hok b u e).stay (fun c v hc q=>k c v ?_ q) (fun _ q=>q) fun _ _ q=>q
  rcases hc with z | z
  ·rw[z];exact nit b u e
  ·exact nit c _ z
theorem Inv.tok(I:Inv X pins σ H s)(t:Nat):Inv X pins σ H {s with toks:=t}:=I.un (h':=s.heap) (t':=t) Un.refl I.hok
theorem Inv.kept{t':Nat}(I:Inv X pins σ H s)(k:∀b u,s.heap.get? b=some u→h'.get? b=some u):Inv X pins σ H {s with heap:=h',toks:=t'}:=I.un (Un.kept k) (I.hok.kept k)
theorem Inv.laid{a:Addr}{o:HO}{t':Nat}(I:Inv X pins σ H s)(k:∀b u,s.heap.get? b=some u→h'.get? b=some u)(hp:s.heap.objs.size≤a)(new:Yc X.prog X.w (upd H a o) h' a o):
  Inv X pins σ (upd H a o) {s with heap:=h',toks:=t'}:=I.un (Un.laid k hp (I.hok.fresh hp)) (I.hok.laid k hp new)
theorem Inv.write{x e:Addr}{o:HO}{t':Nat}(I:Inv X pins σ H s)(mu:Mut (H x))(he:e=x∨H e=some (.own x))(k:∀b u,b≠e→s.heap.get? b=some u→h'.get? b=some u)(heo:∃u,h'.get? e=some u)
  (new:Yc X.prog X.w (upd H x o) h' x o):Inv X pins σ (upd H x o) {s with heap:=h',toks:=t'}:=I.un (Un.write mu he k heo) (I.hok.write mu he k heo new)
theorem Inv.pins_of{pins':List (Addr×Obj)}(I:Inv X pins σ H s)(h:∀p∈pins',s.heap.get? p.1=some p.2∧H p.1=none∧p.1≠X.env.locals∧p.1∉X.fs∧∀v,p.2.data≠ .cell v):Inv X pins' σ H s:=
 ⟨I.ok,I.os,I.bare,I.base,I.loc,I.cell,I.free,I.freeC,fun p hp=>(Az.mp hp).elim (fun z=>I.pin p (Kd _ z)) (h p),I.hok,I.len⟩
theorem Fu{N:List Str}(hN:N.Nodup){i j:Nat}{x:Str}(a:N[i]?=some x)(b:N[j]?=some x):i=j:=by
 obtain⟨h1,e1⟩:=Ac.mp a
 obtain⟨h2,e2⟩:=Ac.mp b
 exact(List.getElem_inj hN).mp (e1.trans e2.symm)
theorem Sv{M:Model}{A:Around}{E:Value→Shared→Prop}{i:Nat}{x:Str}{v:V}{u:Value}{Q:Unit→Shared→Prop}(I:Inv X pins σ H s)(hN:X.N.Nodup)(hi:X.N[i]?=some x)(hx:Loc X.env.scope x)(r:RelV v u)
  (h:∀s',Inv X pins (σ.set i (some v)) H s'→(∃a,Ib a s.heap s'.heap∧(a=X.env.locals∨X.env.cells.lookup x=some a))→Q () s') (hf:X.fn x=true∨X.env.scope.names.lookup x=some .local:=by first | exact .inl rfl | exact .inr rfl | assumption):wpAny M A (storeName X.env x u) Q E s:=by
 obtain⟨m,hn,hl⟩:=id I.loc
 have hcls:(X.env.scope.kind== .class || (X.env.scope.kind== .module&&X.env.locals !=X.env.globals))=false:=by rw[I.ok.kind];rfl
 have hiσ:i<σ.length:=by rw[I.len];exact(Ac.mp hi).1
 have cne:=I.cne
 have tracked:∀{a:Addr} {h':Heap},(∃o,s.heap.get? a=some o∧H a=none)→Ib a s.heap h'→HOk X.prog X.w H h':=fun{a h'} ha hs b ob e=>by
  obtain⟨_,_,hfree⟩:=ha
  refine(I.hok b ob e).stay (fun c w' hc q=>(hs.2 c ?_).trans q) (fun _ q=>q) fun _ _ q=>q
  rintro rfl
  rcases hc with rfl | hc
  ·rw[hfree] at e;cases e
  ·rw[hfree] at hc;cases hc
 rcases hx with hk | hk
 ·refine wpAny_storeName_local hk hn (fun h' hn' hs=>?_) hcls
  obtain⟨oL,_,_,hoL,_⟩:=id hn
  refine h _ ⟨I.ok,I.os,I.bare,⟨fun b o e n hb hx=>?_,fun b o e n hb hx=>?_,I.base.free,fun b o e hx=>?_,I.base.tups,I.base.frzs,I.base.tbls⟩,⟨_,hn',fun j y v' e1 e2 e3=>?_⟩,fun y c e=>?_,I.free,I.freeC,fun p hp=>?_,tracked ⟨oL,hoL,I.free⟩ hs,by simpa using I.len⟩ ⟨_,hs,.inl rfl⟩
  ·exact(hs.2 b (Nat.ne_of_lt (Nat.lt_of_lt_of_le (Al e) I.ok.above))).trans (I.base.keep b o e n hb hx)
  ·obtain⟨sl,e1⟩:=I.base.slot b o e n hb hx
   exact⟨sl,(hs.2 b (Nat.ne_of_lt (Nat.lt_of_lt_of_le (Al e) I.ok.above))).trans e1⟩
  ·obtain⟨o',e1⟩:=I.base.there b o e hx
   exact⟨o',(hs.2 b (Nat.ne_of_lt (Nat.lt_of_lt_of_le (Al e) I.ok.above))).trans e1⟩
  ·by_cases hj:j=i
   ·subst hj
    rw[hi] at e1;cases e1
    rw[Dw hiσ] at e2
    cases e2
    exact⟨u,r,.inl ⟨hk,by simp⟩⟩
   ·rw[Ds (Df hj)] at e2
    obtain⟨u',r',q⟩:=hl j y v' e1 e2 e3
    refine⟨u',r',?_⟩
    rcases q with⟨k,e⟩ | ⟨k,c,e,z⟩
    ·refine .inl ⟨k,?_⟩
     have:y≠x:=fun e=>hj (Fu hN e1 (e ▸ hi))
     simp[this,e]
    ·exact .inr ⟨k,c,e,z.sameBut hs (cne y c e)⟩
  ·obtain⟨w',z⟩:=I.cell y c e
   exact⟨w',z.sameBut hs (cne y c e)⟩
  ·obtain⟨e,n,ne,nf,d⟩:=I.pin p hp
   exact⟨(hs.2 p.1 ne).trans e,n,ne,nf,d⟩
 ·have hfn:X.fn x=true:=by
   rcases hf with z | z
   ·exact z
   ·rw[z] at hk;cases hk
  obtain⟨c,hc⟩:=I.ok.has x (.inl hk)
  obtain⟨w',z⟩:=I.cell x c hc
  refine wpAny_storeName_cell I.ok.kind hk hc z (fun h' hc' hs=>?_)
  obtain⟨oc,hoc,hocd⟩:=id z
  refine h {s with heap:=h'} ⟨I.ok,I.os,I.bare,⟨fun b o e n hb hx=>?_,fun b o e n hb hx=>?_,I.base.free,fun b o e hx=>?_,I.base.tups,I.base.frzs,I.base.tbls⟩,⟨m,hn.sameBut hs (Df (cne x c hc)),fun j y v' e1 e2 e3=>?_⟩,fun y c' e=>?_,I.free,I.freeC,fun p hp=>?_,tracked ⟨oc,hoc,I.freeC x c hc⟩ hs,by simpa using I.len⟩ ⟨c,hs,.inr hc⟩
  ·exact(hs.2 b (Nat.ne_of_lt (Nat.lt_of_lt_of_le (Al e) (I.ok.cab x c hfn hc)))).trans (I.base.keep b o e n hb hx)
  ·obtain⟨sl,e1⟩:=I.base.slot b o e n hb hx
   exact⟨sl,(hs.2 b (Nat.ne_of_lt (Nat.lt_of_lt_of_le (Al e) (I.ok.cab x c hfn hc)))).trans e1⟩
  ·obtain⟨o',e1⟩:=I.base.there b o e hx
   exact⟨o',(hs.2 b (Nat.ne_of_lt (Nat.lt_of_lt_of_le (Al e) (I.ok.cab x c hfn hc)))).trans e1⟩
  ·by_cases hj:j=i
   ·subst hj
    rw[hi] at e1;cases e1
    rw[Dw hiσ] at e2
    cases e2
    exact⟨u,r,.inr ⟨.inl hk,c,hc,hc'⟩⟩
   ·rw[Ds (Df hj)] at e2
    obtain⟨u',r',q⟩:=hl j y v' e1 e2 e3
    refine⟨u',r',?_⟩
    rcases q with q | ⟨k,c',e,z'⟩
    ·exact .inl q
    ·refine .inr ⟨k,c',e,z'.sameBut hs ?_⟩
     rintro rfl
     exact hj (Fu hN e1 (I.ok.inj _ _ _ e hc ▸ hi))
  ·by_cases hcc:c'=c
   ·subst hcc;exact⟨_,hc'⟩
   ·obtain⟨w2,z2⟩:=I.cell y c' e
    exact⟨w2,z2.sameBut hs hcc⟩
  ·obtain⟨e,n,ne,nf,d⟩:=I.pin p hp
   refine⟨(hs.2 p.1 ?_).trans e,n,ne,nf,d⟩
   intro q
   rw[q,hoc] at e
   have q':oc=p.2:=Aw e
   exact d w' (by rw[←q'];exact hocd)
theorem Zj6{M:Model}{A:Around}{E:Value→Shared→Prop}{i:Nat}{x:Str}{v:V}{u:Value}{Q:Unit→Shared→Prop}(I:Inv X pins σ H s)(hN:X.N.Nodup)(hi:X.N[i]?=some x)(hx:Loc X.env.scope x)(r:RelV v u)
  (h:∀s',Inv X pins (σ.set i (some v)) H s'→Q () s') (hf:X.fn x=true∨X.env.scope.names.lookup x=some .local:=by first | exact .inl rfl | exact .inr rfl | assumption):wpAny M A (storeName X.env x u) Q E s:=
 Sv I hN hi hx r (fun s' I' _=>h s' I') hf
theorem Inv.call'{s':Shared}{ch:List Addr}(I:Inv X pins σ H s)(ho:s'.os=s.os)(u:Un (frs X.stack) ch H H' s.heap s'.heap)(hok:HOk X.prog X.w H' s'.heap)(hg:AllBare s'.gens)
  (hch:∀b∈ch,(b∈X.ex∨X.s₀.heap.objs.size≤b)∧b≠X.env.locals∧(∀x c,X.env.cells.lookup x=some c→c≠b)∧∀p∈X.pn++pins,p.1≠b):Inv X pins σ H' s':=by
 obtain⟨h',g',d',t',o'⟩:=s'
 have e:o'=s.os:=ho
 subst e
 exact I.call (g':=g') (t':=t') (d':=d') u hok hg hch
end
abbrev XK:=Value→Option Addr→Hp→Prop
noncomputable abbrev St:=List (Option V)
abbrev VK:=V→Hp→Prop
abbrev TE:=St→Hp→VK→Prop
abbrev TT:=St→Hp→(Bool→Hp→Prop)→Prop
abbrev TA:=St→Hp→(List V→Hp→Prop)→Prop
structure Ends where
 nx:St→Hp→Prop
 rt:VK
 bk:St→Hp→Prop:=fun _ _=>False
 ct:St→Hp→Prop:=fun _ _=>False
abbrev TS:=Ends→St→Hp→Prop
def EP(X:Cx)(pins:List (Addr×Obj))(σ:St)(Q:VK)(u:Value)(s':Shared):Prop:=∃v H',Inv X pins σ H' s'∧RelV v u∧Q v H'
def TP(X:Cx)(pins:List (Addr×Obj))(σ:St)(Q:Bool→Hp→Prop)(b:Bool)(s':Shared):Prop:=∃H',Inv X pins σ H' s'∧Q b H'
def AP(X:Cx)(pins:List (Addr×Obj))(σ:St)(Q:List V→Hp→Prop)(us:List Value)(s':Shared):Prop:=∃vs H',Inv X pins σ H' s'∧Vals vs us∧Q vs H'
def SP(X:Cx)(pins:List (Addr×Obj))(D:Ends)(f:Flow)(s':Shared):Prop:=
 match f with
 | .next=>∃σ' H',Inv X pins σ' H' s'∧D.nx σ' H'
 | .brk=>∃σ' H',Inv X pins σ' H' s'∧D.bk σ' H'
 | .cont=>∃σ' H',Inv X pins σ' H' s'∧D.ct σ' H'
 | .ret u=>∃v σ' H',Inv X pins σ' H' s'∧RelV v u∧D.rt v H'
def PE(X:Cx)(e:Expr)(t:TE):Prop:=
 ∀(pins:List (Addr×Obj)) (s:Shared) (σ:St) (H:Hp) (Q:VK),Inv X pins σ H s→t σ H Q→wpAny (model X.prog X.w) X.A (eval e X.env) (EP X pins σ Q) X.xe s
def PT(X:Cx)(e:Expr)(t:TT):Prop:=
 ∀(pins:List (Addr×Obj)) (s:Shared) (σ:St) (H:Hp) (Q:Bool→Hp→Prop),Inv X pins σ H s→t σ H Q→wpAny (model X.prog X.w) X.A (isTrue e X.env (eval e X.env)) (TP X pins σ Q) X.xe s
def PW(X:Cx)(e:Expr)(t:TT):Prop:=
 ∀(whole:Sem Value) (pins:List (Addr×Obj)) (s:Shared) (σ:St) (H:Hp) (Q:Bool→Hp→Prop),Inv X pins σ H s→t σ H Q→wpAny (model X.prog X.w) X.A (isTrue e X.env whole) (TP X pins σ Q) X.xe s
theorem PW.pt{X:Cx}{e:Expr}{t:TT}(h:PW X e t):PT X e t:=h _
def PA(X:Cx)(es:List Expr)(t:TA):Prop:=
 ∀(pos:Pos) (pins:List (Addr×Obj)) (s:Shared) (σ:St) (H:Hp) (Q:List V→Hp→Prop),Inv X pins σ H s→t σ H Q→wpAny (model X.prog X.w) X.A (spliced (backTo pos (starEach es X.env))) (AP X pins σ Q) X.xe s
def PS(X:Cx)(st:Stmt)(t:TS):Prop:=
 ∀(pins:List (Addr×Obj)) (s:Shared) (σ:St) (H:Hp) (D:Ends),Inv X pins σ H s→t D σ H→wpAny (model X.prog X.w) X.A (exec st X.env) (SP X pins D) X.xe s
def PSs(X:Cx)(st:List Stmt)(t:TS):Prop:=
 ∀(pins:List (Addr×Obj)) (s:Shared) (σ:St) (H:Hp) (D:Ends),Inv X pins σ H s→t D σ H→wpAny (model X.prog X.w) X.A (execs st X.env) (SP X pins D) X.xe s
theorem thn{α:Type}{t:Sem α}{Q Q':α→Shared→Prop}{M:Model}{A:Around}{E:Value→Shared→Prop}{s:Shared}(h:wpAny M A t Q E s)(hQ:∀a s,Q a s→Q' a s):wpAny M A t Q' E s:=Hl h hQ fun _ _ x=>x
section
variable{X:Cx}
theorem bin{a b:Expr}{ta tb:TE}(ha:PE X a ta)(hb:PE X b tb){pins:List (Addr×Obj)}{s:Shared}{σ:St}{H:Hp}{R:V→V→Hp→Prop}(I:Inv X pins σ H s)(h:ta σ H fun x H1=>tb σ H1 fun y H2=>R x y H2)
  {α:Type} {Q:α→Shared→Prop} {f:Value→Value→Sem α}
  (hf:∀v u s2 x y H2,Inv X pins σ H2 s2→RelV x v→RelV y u→R x y H2→wpAny (model X.prog X.w) X.A (f v u) Q X.xe s2):
  wpAny (model X.prog X.w) X.A (eval a X.env) (fun v s₁=>wpAny (model X.prog X.w) X.A (eval b X.env) (fun u s₂=>wpAny (model X.prog X.w) X.A (f v u) Q X.xe s₂) X.xe s₁) X.xe s:=by
 refine thn (ha pins s σ H _ I h) fun v s1 zz2=>?_
 obtain⟨x,H1,I1,r1,q1⟩:=zz2
 refine thn (hb pins s1 σ H1 _ I1 q1) fun u s2 zz3=>?_
 obtain⟨y,H2,I2,r2,q2⟩:=zz3
 exact hf v u s2 x y H2 I2 r1 r2 q2
def tVar(i:Nat):TE:=fun σ H Q=>∃v,σ[i]?=some (some v)∧Q v H
def tC(v:V):TE:=fun _ H Q=>Q v H
theorem Y92{i:Nat}{x:Str}{pos:Pos}(hN:X.N[i]?=some x)(hv:Vis X.env.scope x)(hd:(x==("__debug__":Str))=false:=by decide)(hcd:(x==("__classdict__":Str))=false:=by decide):PE X (.Name x pos) (tVar i):=by
 intro pins s σ H Q I h
 obtain⟨v,e,h⟩:=h
 obtain⟨m,hn,hl⟩:=I.loc
 obtain⟨u,r,l⟩:=hl i x v hN e hv
 have fin:EP X pins σ Q u s:=⟨v,H,I,r,h⟩
 rcases l with⟨hk,hm⟩ | ⟨hk,c,hc,hcell⟩
 ·exact wpAny_Name (wpAny_loadName_local I.ok.kind hk hn hm fin) hd
 ·rcases hk with hk | hk
  ·exact wpAny_Name (wpAny_loadName_cell I.ok.kind hk hc hcell fin) hd
  ·exact wpAny_Name (wpAny_loadName_free I.ok.kind hk hc hcell fin hcd) hd
theorem Y86{i j pos}:PE X (.Constant (.int i) j pos) (tC (.int i)):=fun _ _ _ H _ I h=>wpAny_Constant_int ⟨.int i,H,I.tok _,⟨_,rfl⟩,h⟩
theorem Ye1{b j pos}:PE X (.Constant (.bool b) j pos) (tC (.bl b)):=fun _ _ _ H _ I h=>Constant_bool ⟨.bl b,H,I,rfl,h⟩
theorem Y22{j pos}:PE X (.Constant .none j pos) (tC .non):=fun _ _ _ H _ I h=>Constant_none ⟨.non,H,I,rfl,h⟩
theorem Y50{x j pos}:PE X (.Constant (.str x) j pos) (tC (.str x)):=fun _ _ _ H _ I h=>Calls.Constant_str ⟨.str x,H,I.tok _,⟨_,rfl⟩,h⟩
def Gl(X:Cx)(x:Str):Prop:=X.env.kindOf x=some .globalImplicit
theorem Gi{E:Value→Shared→Prop}{pins:List (Addr×Obj)}{s:Shared}{σ:St}{H:Hp}{x:Str}{u:Value}{pos:Pos}{Q:Value→Shared→Prop}(I:Inv X pins σ H s)(hg:Gl X x)(hm:X.mg x=some u)(h:Q u s)
  (hd:(x==("__debug__":Str))=false:=by decide):wpAny (model X.prog X.w) X.A (eval (.Name x pos) X.env) Q E s:=
 Calls.Name_function_global I.ok.kind hg (Calls.loadGlobal_global (by rw[I.ok.glob];exact I.mod.glob.keeps I.bk) hm h) hd
theorem Qc{E:Value→Shared→Prop}{pins:List (Addr×Obj)}{s:Shared}{σ:St}{H:Hp}{x:Str}{u:Value}{pos:Pos}{Q:Value→Shared→Prop}(I:Inv X pins σ H s)(hg:Gl X x)(hm:X.mg x=none)(hv:bootBuiltins x=some u)(h:Q u s)
  (hn:x≠"__name__":=by decide) (hd:(x==("__debug__":Str))=false:=by decide):wpAny (model X.prog X.w) X.A (eval (.Name x pos) X.env) Q E s:=by
 obtain⟨mb,h1,h2⟩:=I.mod.blt
 exact Calls.Name_function_global I.ok.kind hg (Calls.loadGlobal_builtin (by rw[I.ok.glob];exact I.mod.glob.keeps I.bk) hm (by rw[I.ok.blt];exact h1.keeps I.bk) ((h2 x hn).trans hv) h) hd
theorem Zy5{x:Str}{v:V}{u:Value}{pos:Pos}(hg:Gl X x)(hm:X.mg x=some u)(r:RelV v u)(hd:(x==("__debug__":Str))=false:=by decide):PE X (.Name x pos) (tC v):=
 fun _ _ _ H _ I h=>Gi I hg hm ⟨v,H,I,r,h⟩ hd
theorem Zt2{x:Str}{v:V}{u:Value}{pos:Pos}(hg:Gl X x)(hm:X.mg x=none)(hv:bootBuiltins x=some u)(r:RelV v u)(hn:x≠"__name__":=by decide)(hd:(x==("__debug__":Str))=false:=by decide):PE X (.Name x pos) (tC v):=
 fun _ _ _ H _ I h=>Qc I hg hm hv ⟨v,H,I,r,h⟩ hn hd
variable{a b:Expr}{ta tb:TE}{pos:Pos}
variable{tA tB':TT}{rest:List Expr}
def tAnd(t u:TT):TT:=fun σ H Q=>t σ H fun c H1=>if c=true then u σ H1 Q else Q false H1
def tOr(t u:TT):TT:=fun σ H Q=>t σ H fun c H1=>if c=true then Q true H1 else u σ H1 Q
def tNot(t:TT):TT:=fun σ H Q=>t σ H fun c H1=>Q (!c) H1
theorem Zz9(ha:PT X a tA):PW X (.BoolOp .And [a] pos) tA:=by
 intro wh pins s σ H Q I h
 refine isTrue_and (thn (ha pins s σ H Q I h) fun c s1 e=>?_)
 cases c with
 | true=>exact isTrue_and_nil e
 | false=>exact e
theorem Y23(ha:PT X a tA):PW X (.BoolOp .Or [a] pos) tA:=by
 intro wh pins s σ H Q I h
 refine isTrue_or (thn (ha pins s σ H Q I h) fun c s1 e=>?_)
 cases c with
 | false=>exact isTrue_or_nil e
 | true=>exact e
theorem Y63(ha:PT X a tA)(hb:PW X (.BoolOp .And (b::rest) pos) tB'):PW X (.BoolOp .And (a::b::rest) pos) (tAnd tA tB'):=by
 intro wh pins s σ H Q I h
 refine isTrue_and (thn (ha pins s σ H _ I h) fun c s1 zz4=>?_)
 obtain⟨H1,I1,q1⟩:=zz4
 cases c with
 | true=>exact hb wh pins s1 σ H1 Q I1 q1
 | false=>exact⟨H1,I1,q1⟩
theorem Yc3(ha:PT X a tA)(hb:PW X (.BoolOp .Or (b::rest) pos) tB'):PW X (.BoolOp .Or (a::b::rest) pos) (tOr tA tB'):=by
 intro wh pins s σ H Q I h
 refine isTrue_or (thn (ha pins s σ H _ I h) fun c s1 zz5=>?_)
 obtain⟨H1,I1,q1⟩:=zz5
 cases c with
 | true=>exact⟨H1,I1,q1⟩
 | false=>exact hb wh pins s1 σ H1 Q I1 q1
theorem Y95(ha:PT X a tA):PT X (.UnaryOp .Not a pos) (tNot tA):=by
 intro pins s σ H Q I h
 exact isTrue_not (ha pins s σ H (fun c H1=>Q (!c) H1) I h)
theorem Y15{op}{t:TE}(h:PE X a t):PE X (.BoolOp op [a] pos) t:=fun pins s σ H Q I hw=>BoolOp_one (h pins s σ H Q I hw)
end
def SqL(K:Af)(H:Hp)(a:Addr)(xs:List V):Prop:=
 Rd H a (.lst xs)∨
  ∃(o:Obj) (its:Array Value) (n:Nat),K.lookup a=some o∧o.cls= .type "list"∧o.dict=none∧o.data= .seq its n∧its.size≤sizeLine∧Vals xs its.toList
def SqT(K:Af)(H:Hp)(a:Addr)(xs:List V):Prop:=
 Rd H a (.tup xs)∨
  ∃(o:Obj) (its:Array Value) (n:Nat),K.lookup a=some o∧o.cls= .type "tuple"∧o.data= .seq its n∧its.size≤sizeLine∧Vals xs its.toList
noncomputable def absV:Value→Option V
 | .none=>some .non
 | .bool b=>some (.bl b)
 | .int i _=>some (.int i)
 | .str x _=>some (.str x)
 | .bytes b _=>some (.byt b)
 | .float b _=>some (.flt b)
 | .ref a=>some (.ref a)
 | .type n=>some (.ty n)
 | _=>none
theorem RelV.abs{x:V}{u:Value}(r:RelV x u):absV u=some x:=by
 cases x with
 | non=>cases r;rfl
 | bl _=>cases r;rfl
 | int _=>obtain⟨t,rfl⟩:=r;rfl
 | str _=>obtain⟨t,rfl⟩:=r;rfl
 | byt _=>obtain⟨t,rfl⟩:=r;rfl
 | flt _=>obtain⟨t,rfl⟩:=r;rfl
 | ref _=>cases r;rfl
 | ty _=>cases r;rfl
theorem RelV.inj{x y:V}{u:Value}(r:RelV x u)(q:RelV y u):x=y:=Aw (r.abs.symm.trans q.abs)
theorem Vals.inj:∀{xs ys:List V} {us:List Value},Vals xs us→Vals ys us→xs=ys
 | _,_,_,.nil,.nil=>rfl
 | _,_,_,.cons r t,.cons r' t'=>by rw[r.inj r',Vals.inj t t']
section
variable{X:Cx}{pins:List (Addr×Obj)}{σ:St}{H:Hp}{s:Shared}{a:Addr}{xs ys:List V}
theorem SqT.of{K:Af}(h:H a=some (.tup xs)):SqT K H a xs:= .inl (.inl h)
theorem Inv.list(I:Inv X pins σ H s)(h:SqL X.K H a xs):∃its:List Value,Vals xs its∧PlainL s.heap a its.toArray∧xs.length≤sizeLine:=by
 rcases h with h | ⟨o,its,n,hk,hc,hd,hs,hz,r⟩
 ·obtain⟨z,its,n,r,e⟩:=h.ok I.hok
  exact⟨its,r,⟨_,n,e,rfl,rfl,rfl⟩,z⟩
 ·refine⟨its.toList,r,⟨o,n,I.kIn a o hk,hc,hd,by simpa using hs⟩,?_⟩
  have e:=r.length
  simp only[Ir] at e
  omega
theorem Inv.tuple(I:Inv X pins σ H s)(h:SqT X.K H a xs):∃its:List Value,Vals xs its∧IsTup s.heap a its.toArray∧xs.length≤sizeLine:=by
 rcases h with h | ⟨o,its,n,hk,hc,hs,hz,r⟩
 ·obtain⟨z,its,r,p⟩:=h.ok I.hok
  exact⟨its,r,p,z⟩
 ·refine⟨its.toList,r,⟨o,I.kIn a o hk,hc,n,by simpa using hs⟩,?_⟩
  have e:=r.length
  simp only[Ir] at e
  omega
theorem Inv.list_inj(I:Inv X pins σ H s)(h:SqL X.K H a xs)(h':SqL X.K H a ys):xs=ys:=by
 obtain⟨its,r,⟨o,n,e,_,_,d⟩,_⟩:=I.list h
 obtain⟨its',r',⟨o',n',e',_,_,d'⟩,_⟩:=I.list h'
 rw[e] at e';cases e'
 rw[d] at d'
 injection d' with d1 _
 have:its=its':=by simpa using congrArg Array.toList d1
 subst this
 exact r.inj r'
theorem Inv.tuple_inj(I:Inv X pins σ H s)(h:SqT X.K H a xs)(h':SqT X.K H a ys):xs=ys:=by
 obtain⟨its,r,⟨o,e,_,n,d⟩,_⟩:=I.tuple h
 obtain⟨its',r',⟨o',e',_,n',d'⟩,_⟩:=I.tuple h'
 rw[e] at e';cases e'
 rw[d] at d'
 injection d' with d1 _
 have:its=its':=by simpa using congrArg Array.toList d1
 subst this
 exact r.inj r'
end
abbrev Cx.wish(X:Cx)(E:Value→Shared→Prop):Cx:={X with xe:=E}
noncomputable abbrev Cx.nox(X:Cx):Cx:=X.wish fun _ _=>False
theorem Cx.Ok.wish{X:Cx}(ok:X.Ok)(E:Value→Shared→Prop):(X.wish E).Ok:=
 ⟨ok.mod,ok.kind,ok.glob,ok.blt,ok.above,ok.inj,ok.has,ok.cab,ok.hd,ok.frames,ok.stk,ok.exf,ok.bs,ok.bsz,ok.noex,ok.exfs,ok.funs,ok.frf⟩
theorem Cx.Ok.unwish{X:Cx}{E:Value→Shared→Prop}(ok:(X.wish E).Ok):X.Ok:=
 ⟨ok.mod,ok.kind,ok.glob,ok.blt,ok.above,ok.inj,ok.has,ok.cab,ok.hd,ok.frames,ok.stk,ok.exf,ok.bs,ok.bsz,ok.noex,ok.exfs,ok.funs,ok.frf⟩
section
variable{X:Cx}{pins:List (Addr×Obj)}{σ:St}{H:Hp}{s:Shared}{E:Value→Shared→Prop}
theorem Inv.wish(I:Inv X pins σ H s)(E:Value→Shared→Prop):Inv (X.wish E) pins σ H s:=⟨I.ok.wish E,I.os,I.bare,I.base,I.loc,I.cell,I.free,I.freeC,I.pin,I.hok,I.len⟩
theorem Inv.unwish(I:Inv (X.wish E) pins σ H s):Inv X pins σ H s:=⟨I.ok.unwish,I.os,I.bare,I.base,I.loc,I.cell,I.free,I.freeC,I.pin,I.hok,I.len⟩
theorem SP.unwish{D:Ends}{f:Flow}{s':Shared}(h:SP (X.wish E) pins D f s'):SP X pins D f s':=by
 cases f with
 | next=>obtain⟨σ',H',I,q⟩:=h;exact⟨σ',H',I.unwish,q⟩
 | brk=>obtain⟨σ',H',I,q⟩:=h;exact⟨σ',H',I.unwish,q⟩
 | cont=>obtain⟨σ',H',I,q⟩:=h;exact⟨σ',H',I.unwish,q⟩
 | ret u=>obtain⟨v,σ',H',I,r,q⟩:=h;exact⟨v,σ',H',I.unwish,r,q⟩
theorem PSs.nox{st:List Stmt}{t:TS}(h:PSs X.nox st t):PSs X st t:=fun pins s σ H D I hw=>
 Hl (h pins s σ H D (I.wish _) hw) (fun _ _ q=>q.unwish) fun _ _ z=>Dq z
end
section
variable{X:Cx}{st:Stmt}{rest:List Stmt}{t u:TS}{e:Expr}{te:TE}{pos:Pos}
def Yb2:TS:=fun D σ H=>D.nx σ H
def tSeq(t u:TS):TS:=fun D σ H=>t {D with nx:=u D} σ H
theorem Zv0:PSs X [] Yb2:=fun _ _ σ H _ I h=>wpAny_execs_nil ⟨σ,H,I,h⟩
theorem Ze9(h1:PS X st t)(h2:PSs X rest u):PSs X (st::rest) (tSeq t u):=by
 intro pins s σ H D I h
 refine wpAny_execs_cons (thn (h1 pins s σ H {D with nx:=u D} I h) fun f s1 q=>?_)
 cases f with
 | next=>
  obtain⟨σ',H',I',q⟩:=q
  exact h2 pins s1 σ' H' D I' q
 | ret v=>exact q
 | brk=>exact q
 | cont=>exact q
theorem Inv.quiet{pins:List (Addr×Obj)}{σ:St}{H:Hp}{s:Shared}(I:Inv X pins σ H s):interactive X.env=false:=by simp[interactive,I.ok.kind]
def Ye4(te:TE):TS:=fun D σ H=>te σ H fun _ H1=>D.nx σ H1
theorem Zt3(he:PE X e te)(hs:swapsWith e none pos.line X.env=pure false:=by rfl):PS X (.Expr e pos) (Ye4 te):=by
 intro pins s σ H D I h
 exact wpAny_Expr_any (thn (he pins s σ H _ I h) fun v s1 zz6=>by obtain⟨x,H1,I1,r1,q1⟩:=zz6;exact⟨σ,H1,I1,q1⟩) I.quiet hs
def tRet(te:TE):TS:=fun D σ H=>te σ H D.rt
theorem Y17(he:PE X e te):PS X (.Return (some e) pos) (tRet te):=by
 intro pins s σ H D I h
 exact wpAny_Return_some (thn (he pins s σ H _ I h) fun v s1 zz7=>by obtain⟨x,H1,I1,r1,q1⟩:=zz7;exact⟨x,σ,H1,I1,r1,q1⟩)
def tIfS(c:TT)(t u:TS):TS:=fun D σ H=>c σ H fun b H1=>if b=true then t D σ H1 else u D σ H1
theorem Ye0{c:Expr}{a b:List Stmt}{tc:TT}(hc:PT X c tc)(ha:PSs X a t)(hb:PSs X b u):PS X (.If c a b pos) (tIfS tc t u):=by
 intro pins s σ H D I h
 refine wpAny_If (thn (hc pins s σ H _ I h) fun d s1 zz8=>?_)
 obtain⟨H1,I1,q1⟩:=zz8
 cases d with
 | true=>exact ha pins s1 σ H1 D I1 q1
 | false=>exact hb pins s1 σ H1 D I1 q1
def Y46:TS:=fun _ _ _=>False
theorem Zi6:PS X st Y46:=fun _ _ _ _ _ _ h=>h.elim
end
abbrev TG:=V→St→Hp→(St→Hp→Prop)→Prop
abbrev TGs:=List V→St→Hp→(St→Hp→Prop)→Prop
def PG(X:Cx)(target:Expr)(t:TG):Prop:=
 ∀(pins:List (Addr×Obj)) (s:Shared) (σ:St) (H:Hp) (v:V) (u:Value) (Q:St→Hp→Prop),Inv X pins σ H s→RelV v u→t v σ H Q→
  wpAny (model X.prog X.w) X.A (assign target X.env u) (fun _ s'=>∃σ' H',Inv X pins σ' H' s'∧Q σ' H') X.xe s
def PGs(X:Cx)(ts:List Expr)(t:TGs):Prop:=
 ∀(pins:List (Addr×Obj)) (s:Shared) (σ:St) (H:Hp) (vs:List V) (us:List Value) (Q:St→Hp→Prop),Inv X pins σ H s→Vals vs us→t vs σ H Q→
  wpAny (model X.prog X.w) X.A (assignInOrder ((assignEach ts X.env).map (·.2)) us) (fun _ s'=>∃σ' H',Inv X pins σ' H' s'∧Q σ' H') X.xe s
abbrev TSet:=V→V→V→Hp→(Hp→Prop)→Prop
def PSet(X:Cx)(t:TSet):Prop:=
 ∀(pins:List (Addr×Obj)) (s:Shared) (σ:St) (H:Hp) (o i v:V) (ov iv u:Value) (Q:Hp→Prop),Inv X pins σ H s→RelV o ov→RelV i iv→RelV v u→t o i v H Q→
  wpAny (model X.prog X.w) X.A (setItem ov iv u) (fun _ s'=>∃H',Inv X pins σ H' s'∧Q H') X.xe s
section
variable{X:Cx}{pos:Pos}
noncomputable def Z42(i:Nat):TG:=fun v σ H Q=>Q (σ.set i (some v)) H
theorem Z39{i:Nat}{x:Str}(hN:X.N.Nodup)(hi:X.N[i]?=some x)(hx:Loc X.env.scope x)(hf:X.fn x=true∨X.env.scope.names.lookup x=some .local:=by first | exact .inl rfl | exact .inr rfl | assumption):PG X (.Name x pos) (Z42 i):=by
 intro pins s σ H v u Q I r h
 exact wpAny_assign_Name (Zj6 I hN hi hx r (fun s' I'=>⟨_,H,I',h⟩) hf)
noncomputable def gNil:TGs:=fun vs σ H Q=>vs=[]∧Q σ H
noncomputable def Y88(t:TG)(u:TGs):TGs:=fun vs σ H Q=>∃v r,vs=v::r∧t v σ H fun σ' H'=>u r σ' H' Q
theorem Zx2:PGs X [] gNil:=by
 intro pins s σ H vs us Q I r h
 obtain⟨e,h⟩:=h
 subst e
 cases r
 exact assignInOrder_nil ⟨σ,H,I,h⟩
theorem Ze5{e:Expr}{es:List Expr}{t:TG}{u:TGs}(h1:PG X e t)(h2:PGs X es u)
  (hs:(assignEach (e::es) X.env).map (·.2)=assign e X.env::(assignEach es X.env).map (·.2):=by rfl):PGs X (e::es) (Y88 t u):=by
 intro pins s σ H vs us Q I r h
 obtain⟨v,vr,e1,h⟩:=h
 subst e1
 cases r with
 | cons r rr=>
  rw[hs]
  refine assignInOrder_cons (thn (h1 pins s σ H _ _ _ I r h) fun _ s1 zz9=>?_)
  obtain⟨σ1,H1,I1,q1⟩:=zz9
  exact h2 pins s1 σ1 H1 _ _ Q I1 rr q1
noncomputable def gTup(K:Af)(n:Nat)(t:TGs):TG:=fun v σ H Q=>∃a xs,v= .ref a∧SqT K H a xs∧xs.length=n∧t xs σ H Q
theorem Zo5{es:List Expr}{k:Nat}{t:TGs}{n:Nat}(hc:X.calm=true)(h:PGs X es t)
  (hn:(assignEach es X.env).length=n:=by rfl) (hst:(assignEach es X.env).findIdx? (·.1)=none:=by rfl):PG X (.Tuple es k pos) (gTup X.K n t):=by
 intro pins s σ H v u Q I r hw
 obtain⟨a,xs,e1,hq,hl,hw⟩:=hw
 subst e1
 cases r
 obtain⟨its,rv,ht,hz⟩:=I.tuple hq
 refine assign_Tuple_tuple (I.ok.hd hc) ht (by simp[hn,←hl,rv.length]) hst fun h' hx=>?_
 have I1:Inv X pins σ H {s with heap:=h'}:=I.kept (t':=s.toks) fun b o e=>hx b o (Nat.ne_of_lt (Al e)) e
 exact h pins _ σ H xs _ Q I1 (by simpa using rv) hw
def tAsg(te:TE)(g:TG):TS:=fun D σ H=>te σ H fun x H1=>g x σ H1 D.nx
theorem Z74{tg e:Expr}{te:TE}{g:TG}(he:PE X e te)(hg:PG X tg g)(hs:swapsWithSole [tg] e pos.line X.env=pure false:=by rfl)(hw:swappedStores [tg] e X.env=pure none:=by rfl)
  (h1:(assignEach [tg] X.env).map (·.2)=[assign tg X.env]:=by rfl):PS X (.Assign [tg] e pos) (tAsg te g):=by
 intro pins s σ H D I h
 refine wpAny_Assign_stores (thn (he pins s σ H _ I h) fun v s1 zz10=>?_) hs hw
 obtain⟨x,H1,I1,r1,q1⟩:=zz10
 rw[h1]
 exact thn (hg pins s1 σ H1 x v _ I1 r1 q1) fun _ s2 q=>q
end
section
variable{X:Cx}{pos:Pos}
def Zm0(c:TT)(tb:TS):TS:=fun D σ H=>∃W:Nat→St→Hp→Prop,(∃m,W m σ H)∧∀m σ H,W m σ H→
 c σ H fun b H1=>if b=true then ∃N:St→Hp→Prop,(∀σ' H',N σ' H'→∃m',m'<m∧W m' σ' H')∧tb {D with nx:=N,ct:=N,bk:=D.nx} σ H1 else D.nx σ H1
theorem Zk9{c:Expr}{body:List Stmt}{tc:TT}{tb:TS}(hp:PassesOwn (model X.prog X.w) X.A X.env X.xe)(hc:PT X c tc)(hb:PSs X body tb):PS X (.While c body [] pos) (Zm0 tc tb):=by
 intro pins s σ H D I h
 obtain⟨W,⟨m0,w0⟩,turn⟩:=h
 refine wpAny_While (codeAny_whileLoop (fun n s'=>∃σ' H',Inv X pins σ' H' s'∧W n σ' H') ?_ m0 ⟨σ,H,I,w0⟩)
 rintro n s1 ⟨σ1,H1,I1,w1⟩
 refine Kt hp (thn (hc pins s1 σ1 H1 _ I1 (turn n σ1 H1 w1)) fun b s2 zz11=>?_)
 obtain⟨H2,I2,q2⟩:=zz11
 cases b with
 | true=>
  obtain⟨N,hN,q2⟩:=q2
  rw[if_pos rfl]
  refine Kt hp (thn (hb pins s2 σ1 H2 _ I2 q2) fun f s3 q3=>?_)
  cases f with
  | next=>
   obtain⟨σ3,H3,I3,n3⟩:=q3
   obtain⟨m',hm,w3⟩:=hN σ3 H3 n3
   exact⟨m',hm,σ3,H3,I3,w3⟩
  | cont=>
   obtain⟨σ3,H3,I3,n3⟩:=q3
   obtain⟨m',hm,w3⟩:=hN σ3 H3 n3
   exact⟨m',hm,σ3,H3,I3,w3⟩
  | brk=>exact q3
  | ret v=>exact q3
 | false=>
  rw[if_neg Bf9]
  exact wpAny_execs_nil ⟨σ1,H2,I2,q2⟩
end
structure It where
 go:Nat→Hp→Prop
 yld:Nat→Hp→V→Hp→Prop
 stop:Nat→Hp→Prop
def FpOk(X:Cx)(pins:List (Addr×Obj))(H:Hp)(b:Addr):Prop:=
 H b=none∧b≠X.env.locals∧b∉X.fs∧(b∈X.ex∨X.s₀.heap.objs.size≤b)∧(∀x c,X.env.cells.lookup x=some c→c≠b)∧∀p∈X.pn++pins,p.1≠b
theorem Inv.fpOk{X:Cx}{pins:List (Addr×Obj)}{σ:St}{H H':Hp}{s:Shared}{b:Addr}(I:Inv X pins σ H s)(hb:s.heap.objs.size≤b)(hn:H' b=none):FpOk X pins H' b:=by
 refine⟨hn,Nat.ne_of_gt (Nat.lt_of_lt_of_le I.lt hb),I.nofs hb,.inr (Nat.le_trans I.sz hb),fun x c e z=>?_,fun p hp z=>?_⟩
 ·obtain⟨v,q⟩:=I.cell x c e
  exact absurd (Nat.lt_of_lt_of_le q.lt (by rw[z];exact hb)) (Nat.lt_irrefl _)
 ·exact absurd (Nat.lt_of_lt_of_le (Al (I.pin p hp).1) (by rw[z];exact hb)) (Nat.lt_irrefl _)
structure Turn(P:Program)(w:World)(K:Af)(tg:Expr)(J:It)(fp:List Addr)(it:Addr)(tn:Nat→Heap→Prop):Prop where
 mem:it∈fp
 obj:∀i h,tn i h→∀b∈fp,∃o,h.get? b=some o∧∀v,o.data≠ .cell v
 keep:∀i h h',tn i h→(∀b∈fp,∀o,h.get? b=some o→h'.get? b=some o)→tn i h'
 item:∀(X:Cx),X.prog=P→X.w=w→X.K=K→X.calm=true→∀(i:Nat) (pins:List (Addr×Obj)) (s:Shared) (σ:St) (H:Hp) (E:Value→Shared→Prop),Inv X pins σ H s→(∀b∈fp,FpOk X pins H b)→tn i s.heap→J.go i H→
  wpAny (model P w) X.A (pyNext (.ref it)) (fun r s1=>∃u,r=some u∧
   wpAny (model P w) X.A (letOwnedTupleGo tg (.ref it) u) (fun _ s2=>∃x H',Inv X pins σ H' s2∧RelV x u∧J.yld i H x H'∧tn (i+1) s2.heap∧∀b∈fp,H' b=none) E s1) E s
 done:∀(X:Cx),X.prog=P→X.w=w→X.K=K→X.calm=true→∀(i:Nat) (pins:List (Addr×Obj)) (s:Shared) (σ:St) (H:Hp) (E:Value→Shared→Prop),Inv X pins σ H s→(∀b∈fp,FpOk X pins H b)→tn i s.heap→J.stop i H→
  wpAny (model P w) X.A (pyNext (.ref it)) (fun r s1=>r=none∧Inv X pins σ H s1) E s
 self:∀(A:Around) (i:Nat) (s:Shared) (Q:Value→Shared→Prop) (E:Value→Shared→Prop),tn i s.heap→Q (.ref it) s→wpAny (model P w) A (pyIter (.ref it)) Q E s
abbrev TI:=St→Hp→(It→Hp→Prop)→Prop
def PIE(X:Cx)(pins:List (Addr×Obj))(σ:St)(tg:Expr)(R:It→Hp→Prop)(itv:Value)(s2:Shared):Prop:=
 ∃(it:Addr) (fp:List Addr) (tn:Nat→Heap→Prop) (J:It) (H':Hp),itv= .ref it∧Inv X pins σ H' s2∧Turn X.prog X.w X.K tg J fp it tn∧tn 0 s2.heap∧(∀b∈fp,FpOk X pins H' b)∧R J H'
def PI(X:Cx)(tg iter:Expr)(wi:TI):Prop:=
 ∀(pins:List (Addr×Obj)) (s:Shared) (σ:St) (H:Hp) (R:It→Hp→Prop),Inv X pins σ H s→wi σ H R→
  wpAny (model X.prog X.w) X.A (eval iter X.env) (fun v s1=>wpAny (model X.prog X.w) X.A (pyIter v) (PIE X pins σ tg R) X.xe s1) X.xe s
theorem Zp8{M:Model}{A:Around}{E:Value→Shared→Prop}{s:Shared}{tg:Expr}{it:Addr}{u:Value}{o:Obj}{n:String}{vs:Array Value}{Q:Unit→Shared→Prop}(ho:s.heap.get? it=some o)(hc:o.cls= .type n)(hd:o.data= .fields vs)
  (hn:["enumerate","zip","dict_itemiterator","dict_reverseitemiterator","odict_iterator","itertools.zip_longest","itertools.pairwise"].contains n=false) (hQ:Q () s):wpAny M A (letOwnedTupleGo tg (.ref it) u) Q E s:=by
 unfold letOwnedTupleGo
 cases tg<;>first
  | exact Ak hQ
  |(cases u<;>first
    | exact Ak hQ
    |(refine Aa (wpAny_load ho ?_)
      rw[hc,hd]
      show wpAny M A (if (["enumerate","zip","dict_itemiterator","dict_reverseitemiterator","odict_iterator","itertools.zip_longest","itertools.pairwise"].contains n&&vs[0]?==some (rawInt _))=true then _ else _) Q E s
      rw[if_neg (by intro h;rw[hn,Bool.false_and] at h;cases h)]
      exact Ak hQ))
noncomputable def Itl(K:Af)(a:Addr):It:=
 ⟨fun i H=>∃xs x,SqL K H a xs∧xs[i]?=some x,fun i H x H'=>H'=H∧∀xs,SqL K H a xs→xs[i]?=some x,fun i H=>∃xs,SqL K H a xs∧xs.length≤i⟩
noncomputable def Itt(K:Af)(a:Addr):It:=
 ⟨fun i H=>∃xs x,SqT K H a xs∧xs[i]?=some x,fun i H x H'=>H'=H∧∀xs,SqT K H a xs→xs[i]?=some x,fun i H=>∃xs,SqT K H a xs∧xs.length≤i⟩
noncomputable def Itr(lo:Int)(n:Nat):It:=⟨fun i _=>i<n,fun i H x H'=>H'=H∧x= .int (lo+i),fun i _=>n≤i⟩
theorem Bw{P:Program}{w:World}{K:Af}{tg:Expr}(a it:Addr):Turn P w K tg (Itl K a) [it] it (fun i h=>h.IsListIter it a i) where
 mem:=by simp
 obj:=fun i h st b hb=>by
  have e:b=it:=by simpa using hb
  subst e
  obtain⟨o,e,c,d⟩:=st
  exact⟨o,e,fun v z=>by rw[d] at z;cases z⟩
 keep:=fun i h h' st k=>st.at fun o e=>k it (by simp) o e
 item:=by
  intro X hP hw hK hc i pins s σ H E I hf st hg
  subst hP hw hK
  obtain⟨xs,x,hq,hx⟩:=hg
  obtain⟨its,rv,p,hz⟩:=I.list hq
  obtain⟨u,hu,ru⟩:=rv.get hx
  obtain⟨f0,f1,f2,f3,f4,f5⟩:=hf it (by simp)
  refine wpAny_pyNext_list_item st p.isList (x:=u) (by simpa using hu) fun h' st' sb=>?_
  have I1:Inv X pins σ H {s with heap:=h'}:=I.turned (t':=s.toks) (fun b o hb e=>(sb.2 b hb).trans e) f0 f1 f3 f4 f5
  obtain⟨o,e,c,d⟩:=id st'
  exact⟨u,rfl,Zp8 (s:={s with heap:=h'}) e c d (by decide) ⟨x,H,I1,ru,⟨rfl,fun ys hy=>by rw[I.list_inj hy hq];exact hx⟩,st',fun b hb=>(hf b hb).1⟩⟩
 done:=by
  intro X hP hw hK hc i pins s σ H E I hf st hg
  subst hP hw hK
  obtain⟨xs,hq,hx⟩:=hg
  obtain⟨its,rv,p,hz⟩:=I.list hq
  obtain⟨f0,f1,f2,f3,f4,f5⟩:=hf it (by simp)
  have hl:=rv.length
  exact wpAny_pyNext_list_end (I.ok.hd hc) st p.isList (by simp;omega) fun h' eb=>⟨rfl,I.turned (t':=s.toks) (fun b o hb e=>eb b o hb e) f0 f1 f3 f4 f5⟩
 self:=fun _ _ _ _ _ st h=>wpAny_pyIter_listiter st h
theorem Co{P:Program}{w:World}{K:Af}{tg:Expr}(a it:Addr):Turn P w K tg (Itt K a) [it] it (fun i h=>h.IsTupleIter it a i) where
 mem:=by simp
 obj:=fun i h st b hb=>by
  have e:b=it:=by simpa using hb
  subst e
  obtain⟨o,e,c,d⟩:=st
  exact⟨o,e,fun v z=>by rw[d] at z;cases z⟩
 keep:=fun i h h' st k=>st.at fun o e=>k it (by simp) o e
 item:=by
  intro X hP hw hK hc i pins s σ H E I hf st hg
  subst hP hw hK
  obtain⟨xs,x,hq,hx⟩:=hg
  obtain⟨its,rv,p,hz⟩:=I.tuple hq
  obtain⟨u,hu,ru⟩:=rv.get hx
  obtain⟨f0,f1,f2,f3,f4,f5⟩:=hf it (by simp)
  refine wpAny_pyNext_tuple_item st (show s.heap.IsTuple a its.toArray from p) (x:=u) (by simpa using hu) fun h' st' sb=>?_
  have I1:Inv X pins σ H {s with heap:=h'}:=I.turned (t':=s.toks) (fun b o hb e=>(sb.2 b hb).trans e) f0 f1 f3 f4 f5
  obtain⟨o,e,c,d⟩:=id st'
  exact⟨u,rfl,Zp8 (s:={s with heap:=h'}) e c d (by decide) ⟨x,H,I1,ru,⟨rfl,fun ys hy=>by rw[I.tuple_inj hy hq];exact hx⟩,st',fun b hb=>(hf b hb).1⟩⟩
 done:=by
  intro X hP hw hK hc i pins s σ H E I hf st hg
  subst hP hw hK
  obtain⟨xs,hq,hx⟩:=hg
  obtain⟨its,rv,p,hz⟩:=I.tuple hq
  obtain⟨f0,f1,f2,f3,f4,f5⟩:=hf it (by simp)
  have hl:=rv.length
  exact wpAny_pyNext_tuple_end (I.ok.hd hc) st (show s.heap.IsTuple a its.toArray from p) (by simp;omega) fun h' eb=>⟨rfl,I.turned (t':=s.toks) (fun b o hb e=>eb b o hb e) f0 f1 f3 f4 f5⟩
 self:=fun _ _ _ _ _ st h=>wpAny_pyIter_tupleiter st h
theorem C2{P:Program}{w:World}{K:Af}{tg:Expr}(it:Addr)(lo:Int)(n:Nat):Turn P w K tg (Itr lo n) [it] it (fun i h=>IsRangeIter h it (lo+(i:Nat) * 1) ((n:Int) - (i:Nat)) 1) where
 mem:=by simp
 obj:=fun i h st b hb=>by
  have e:b=it:=by simpa using hb
  subst e
  exact⟨_,st,fun v z=>by
   have z':Data.fields _=Data.cell v:=z
   cases z'⟩
 keep:=fun i h h' st k=>k it (by simp) _ st
 item:=by
  intro X hP hw hK hc i pins s σ H E I hf st hg
  subst hP hw hK
  obtain⟨f0,f1,f2,f3,f4,f5⟩:=hf it (by simp)
  have W:=Walks.range (prog:=X.prog) (w:=X.w) (I.ok.hd hc) it lo 1 n
  refine W.item i s _ _ hg st fun v h' tk hv st' kk=>?_
  obtain⟨t,rfl⟩:=hv
  have I1:Inv X pins σ H {s with heap:=h',toks:=tk}:=I.turned (fun b o hb e=>kk b o (by simpa using hb) e) f0 f1 f3 f4 f5
  refine⟨_,rfl,Zp8 (s:={s with heap:=h',toks:=tk}) (n:="range_iterator") st' rfl rfl (by decide) ⟨.int (lo+i),H,I1,⟨t,?_⟩,⟨rfl,rfl⟩,st',fun b hb=>(hf b hb).1⟩⟩
  rw[Int.mul_one]
 done:=by
  intro X hP hw hK hc i pins s σ H E I hf st hg
  subst hP hw hK
  obtain⟨f0,f1,f2,f3,f4,f5⟩:=hf it (by simp)
  exact wpAny_pyNext_range_end (I.ok.hd hc) st (by have:n≤i:=hg;omega) fun h' eb=>⟨rfl,I.turned (t':=s.toks) (fun b o hb e=>eb b o hb e) f0 f1 f3 f4 f5⟩
 self:=fun _ _ _ _ _ st h=>wpAny_pyIter_rangeiter st h
section
variable{X:Cx}{tg:Expr}
theorem Zc5{pins:List (Addr×Obj)}{σ:St}{H:Hp}{s:Shared}{R:It→Hp→Prop}{E:Value→Shared→Prop}{lo hi:Int}{t u v:Tok}{tk:Nat}(I:Inv X pins σ H s)(h1:-(2 ^ 62)≤lo)(h2:lo<2 ^ 62)(h3:-(2 ^ 62)≤hi)(h4:hi<2 ^ 62)
  (q:R (Itr lo (hi - lo).toNat) H):wpAny (model X.prog X.w) X.A (pyIter (.ref s.heap.objs.size)) (PIE X pins σ tg R) E {s with heap:=s.heap.push {cls:= .type "range",data:= .fields #[.int lo t,.int hi u,.int 1 v]},toks:=tk}:=by
 refine wpAny_pyIter_range (IsRange.new ..) (small_one h1 h2 h3 h4) ?_
 have I1:Inv X pins σ H {s with heap:=s.heap.push {cls:= .type "range",data:= .fields #[.int lo t,.int hi u,.int 1 v]},toks:=tk}:=I.kept fun b o e=>An _ e
 refine⟨(s.heap.push {cls:= .type "range",data:= .fields #[.int lo t,.int hi u,.int 1 v]}).objs.size,[(s.heap.push {cls:= .type "range",data:= .fields #[.int lo t,.int hi u,.int 1 v]}).objs.size],_,_,H,rfl,
  I1.kept (t':=tk) fun b o e=>An _ e,C2 _ lo (hi - lo).toNat,?_,fun b hb=>?_,q⟩
 ·have e1:lo+((0:Nat):Int) * 1=lo:=by simp
  have e2:(((hi - lo).toNat:Nat):Int) - ((0:Nat):Int)=Builtin.Range.rangeSize lo hi 1:=by rw[rangeSize_one];split<;>omega
  show IsRangeIter _ _ (lo+((0:Nat):Int) * 1) ((((hi - lo).toNat:Nat):Int) - ((0:Nat):Int)) 1
  rw[e1,e2]
  exact As _ rfl
 ·have e:b=(s.heap.push {cls:= .type "range",data:= .fields #[.int lo t,.int hi u,.int 1 v]}).objs.size:=by simpa using hb
  subst e
  exact I1.fpOk (Nat.le_refl _) (I1.hok.fresh (Nat.le_refl _))
def Ya7(ta:TA):TI:=fun σ H R=>ta σ H fun vs H1=>∃j:Int,vs=[.int j]∧ -(2 ^ 62)≤j∧j<2 ^ 62∧R (Itr 0 j.toNat) H1
theorem Z03{a:Expr}{ta:TA}{p pos:Pos}(hg:Gl X "range")(hm:X.mg "range"=none)(ha:PA X [a] ta)(hs:starEach [a] X.env=[(false,eval a X.env)]:=by rfl):PI X tg (.Call (.Name "range" p) [a] [] pos) (Ya7 ta):=by
 intro pins s σ H R I h
 refine Call_ (Qc I hg hm boot_range (Kl (thn (ha pos pins s σ H _ I h) fun us s1 zz12=>?_) hs rfl))
 obtain⟨vs,H1,I1,r1,q1⟩:=zz12
 obtain⟨j,e,q1,q2,q⟩:=q1
 subst e
 cases r1 with
 | cons r rr=>
  cases rr
  obtain⟨t,rfl⟩:=r
  exact call_range_1 (Zc5 I1 (by omega) (by omega) q1 q2 (by simpa using q))
def tFor(wi:TI)(g:TG)(tb:TS):TS:=fun D σ H=>wi σ H fun J H1=>∃W:Nat→Nat→St→Hp→Prop,(∃m,W 0 m σ H1)∧∀i m σ H,W i m σ H→
 (J.stop i H∧D.nx σ H)∨(J.go i H∧∃N:St→Hp→Prop,(∀σ' H',N σ' H'→∃m',m'<m∧W (i+1) m' σ' H')∧∀x H',J.yld i H x H'→g x σ H' fun σ2 H2=>tb {D with nx:=N,ct:=N,bk:=D.nx} σ2 H2)
noncomputable def Gy(fp:List Addr)(h:Heap):List (Addr×Obj):=fp.filterMap fun b=>(h.get? b).map fun o=>(b,o)
theorem Y9{fp:List Addr}{h:Heap}{b:Addr}{o:Obj}(hb:b∈fp)(e:h.get? b=some o):(b,o)∈Gy fp h:=List.mem_filterMap.mpr ⟨b,hb,by rw[e];rfl⟩
theorem Z49{fp:List Addr}{h:Heap}{p:Addr×Obj}(hp:p∈Gy fp h):p.1∈fp∧h.get? p.1=some p.2:=by
 obtain⟨b,hb,e⟩:=List.mem_filterMap.mp hp
 cases q:h.get? b with
 | none=>rw[q] at e;cases e
 | some o=>
  rw[q] at e
  have e':(b,o)=p:=Aw e
  subst e'
  exact⟨hb,q⟩
theorem Inv.pinned{pins:List (Addr×Obj)}{σ:St}{H:Hp}{s:Shared}{fp:List Addr}(I:Inv X pins σ H s)(hf:∀b∈fp,FpOk X pins H b)(ho:∀b∈fp,∃o,s.heap.get? b=some o∧∀v,o.data≠ .cell v):Inv X (pins++Gy fp s.heap) σ H s:=
 I.pins_of fun p hp=>(Az.mp hp).elim (fun z=>I.pin p (Ax _ z)) fun z=>by
  obtain⟨hb,e⟩:=Z49 z
  obtain⟨f0,f1,f2,_⟩:=hf p.1 hb
  obtain⟨o,e',d⟩:=ho p.1 hb
  rw[e] at e';cases e'
  exact⟨e,f0,f1,f2,d⟩
theorem Inv.unpinned{pins pl:List (Addr×Obj)}{σ:St}{H:Hp}{s:Shared}(I:Inv X (pins++pl) σ H s):Inv X pins σ H s:=I.pins_of fun p hp=>I.pin p (Ax _ (Kd _ hp))
theorem Y99{iter:Expr}{body:List Stmt}{wi:TI}{g:TG}{tb:TS}{pos:Pos}(hp:PassesOwn (model X.prog X.w) X.A X.env X.xe)(hc:X.calm=true)(hi:PI X tg iter wi)(hg:PG X tg g)(hb:PSs X body tb)
  (hs:∀x,foldedSetIterable iter X.env x=pure x:=by intro _;rfl):PS X (.For tg iter body [] pos) (tFor wi g tb):=by
 intro pins s σ H D I h
 refine wpAny_For (thn (hi pins s σ H _ I h) fun v s1 h1=>thn h1 fun itv s2 h2=>?_) hs
 obtain⟨it,fp,tn,J,H2,e,I2,T,st2,f2,W,⟨m0,w0⟩,turn⟩:=h2
 subst e
 have stat:∀{H':Hp},(∀b∈fp,H' b=none)→∀b∈fp,FpOk X pins H' b:=fun hn b hb=>⟨hn b hb,(f2 b hb).2⟩
 refine codeAny_forLoop_any (fun n s'=>∃i σ' H',Inv X pins σ' H' s'∧tn i s'.heap∧(∀b∈fp,H' b=none)∧W i n σ' H') ?_ m0 ⟨0,σ,H2,I2,st2,fun b hb=>(f2 b hb).1,w0⟩
 rintro n s3 ⟨i,σ3,H3,I3,st3,fr3,w3⟩
 rcases turn i n σ3 H3 w3 with⟨stop,qn⟩ | ⟨go,N,hN,step⟩
 ·refine Kt hp (thn (T.done X rfl rfl rfl hc i pins s3 σ3 H3 X.xe I3 (stat fr3) st3 stop) fun r s4 zz13=>?_)
  obtain⟨hr,I4⟩:=zz13
  subst hr
  exact wpAny_execs_nil ⟨σ3,H3,I4,qn⟩
 ·refine Kt hp (thn (T.item X rfl rfl rfl hc i pins s3 σ3 H3 X.xe I3 (stat fr3) st3 go) fun r s4 zz14=>?_)
  obtain⟨u,hr,h4⟩:=zz14
  subst hr
  refine Kt hp (thn h4 fun _ s5 zz15=>?_)
  obtain⟨x,H5,I5,r5,y5,st5,fr5⟩:=zz15
  have I5':=I5.pinned (stat fr5) (T.obj _ _ st5)
  refine Kt hp (thn (hg _ s5 σ3 H5 x u _ I5' r5 (step x H5 y5)) fun _ s6 zz16=>?_)
  obtain⟨σ6,H6,I6,q6⟩:=zz16
  refine Kt hp (thn (hb _ s6 σ6 H6 _ I6 q6) fun f s7 q7=>?_)
  have again:∀{σ7:St} {H7:Hp},Inv X (pins++Gy fp s5.heap) σ7 H7 s7→N σ7 H7→∃m,m<n∧∃i σ' H',Inv X pins σ' H' s7∧tn i s7.heap∧(∀b∈fp,H' b=none)∧W i m σ' H':=fun{σ7 H7} I7 n7=>by
   obtain⟨m',hm,w7⟩:=hN σ7 H7 n7
   refine⟨m',hm,i+1,σ7,H7,I7.unpinned,T.keep _ _ _ st5 fun b hb o e=>(I7.pin (b,o) (Ax _ (Ax _ (Y9 hb e)))).1,fun b hb=>?_,w7⟩
   obtain⟨o,e,d⟩:=T.obj _ _ st5 b hb
   exact(I7.pin (b,o) (Ax _ (Ax _ (Y9 hb e)))).2.1
  cases f with
  | next=>obtain⟨σ7,H7,I7,n7⟩:=q7;exact again I7 n7
  | cont=>obtain⟨σ7,H7,I7,n7⟩:=q7;exact again I7 n7
  | brk=>obtain⟨σ7,H7,I7,q7⟩:=q7;exact⟨σ7,H7,I7.unpinned,q7⟩
  | ret v=>obtain⟨x7,σ7,H7,I7,r7,q7⟩:=q7;exact⟨x7,σ7,H7,I7.unpinned,r7,q7⟩
end
theorem O8{c:TT}{tb:TS}{D:Ends}{σ:St}{H:Hp}(Pv:St→Hp→Prop)(μ:St→Hp→Nat)(h0:Pv σ H)
  (hs:∀σ H,Pv σ H→c σ H fun b H1=>if b=true then tb {D with nx:=fun σ' H'=>Pv σ' H'∧μ σ' H'<μ σ H,ct:=fun σ' H'=>Pv σ' H'∧μ σ' H'<μ σ H,bk:=D.nx} σ H1 else D.nx σ H1)
  (mono:∀σ H Q Q',(∀b H1,Q b H1→Q' b H1)→c σ H Q→c σ H Q'):Zm0 c tb D σ H:=by
 refine⟨fun m σ H=>m=μ σ H∧Pv σ H,⟨_,rfl,h0⟩,?_⟩
 rintro m σ H ⟨rfl,p⟩
 refine mono σ H _ _ (fun b H1 q=>?_) (hs σ H p)
 cases b with
 | true=>exact⟨_,fun σ' H' zz17=>by obtain⟨p',l⟩:=zz17;exact⟨_,l,rfl,p'⟩,q⟩
 | false=>exact q
abbrev R2:=V→V→Hp→VK→Prop
def OpR(X:Cx)(f:Value→Value→Sem Value)(r:R2):Prop:=
 ∀(pins:List (Addr×Obj)) (s:Shared) (σ:St) (H:Hp) (x y:V) (v u:Value) (Q:VK),Inv X pins σ H s→RelV x v→RelV y u→r x y H Q→
  wpAny (model X.prog X.w) X.A (f v u) (EP X pins σ Q) X.xe s
def UnR(X:Cx)(f:Value→Sem Value)(r:V→Hp→VK→Prop):Prop:=
 ∀(pins:List (Addr×Obj)) (s:Shared) (σ:St) (H:Hp) (x:V) (v:Value) (Q:VK),Inv X pins σ H s→RelV x v→r x H Q→
  wpAny (model X.prog X.w) X.A (f v) (EP X pins σ Q) X.xe s
def Wm(X:Cx)(f:Value)(r:List V→Hp→VK→Prop):Prop:=
 ∀(pins:List (Addr×Obj)) (s:Shared) (σ:St) (H:Hp) (xs:List V) (us:List Value) (Q:VK),Inv X pins σ H s→Vals xs us→r xs H Q→
  wpAny (model X.prog X.w) X.A (call f us) (EP X pins σ Q) X.xe s
def TruR(X:Cx)(r:V→Hp→(Bool→Hp→Prop)→Prop):Prop:=
 ∀(pins:List (Addr×Obj)) (s:Shared) (σ:St) (H:Hp) (x:V) (v:Value) (Q:Bool→Hp→Prop),Inv X pins σ H s→RelV x v→r x H Q→
  wpAny (model X.prog X.w) X.A (truthy v) (TP X pins σ Q) X.xe s
def tOp(r:R2)(ta tb:TE):TE:=fun σ H Q=>ta σ H fun x H1=>tb σ H1 fun y H2=>r x y H2 Q
def tUn(r:V→Hp→VK→Prop)(ta:TE):TE:=fun σ H Q=>ta σ H fun x H1=>r x H1 Q
def rI(C:Int→Int→Prop)(g:Int→Int→V):R2:=fun x y H Q=>∃i j,x= .int i∧y= .int j∧C i j∧Q (g i j) H
def rI0(g:Int→Int→V):R2:=fun x y H Q=>∃i j,x= .int i∧y= .int j∧Q (g i j) H
def rU(g:Int→V):V→Hp→VK→Prop:=fun x H Q=>∃i,x= .int i∧Q (g i) H
section
variable{X:Cx}{a b c:Expr}{ta tb tc:TE}{pos:Pos}
theorem binT(ha:PE X a ta)(hb:PE X b tb){pins:List (Addr×Obj)}{s:Shared}{σ:St}{H:Hp}{R:V→V→Hp→Prop}(I:Inv X pins σ H s)
  (h:ta σ H fun x H1=>tb σ H1 fun y H2=>R x y H2) {Q:Value→Shared→Prop} {f:Value→Value→Sem Value}
  (hf:∀v u s2 x y H2,Inv X pins σ H2 s2→RelV x v→RelV y u→R x y H2→wpAny (model X.prog X.w) X.A (f v u) Q X.xe s2):
  wpAny (model X.prog X.w) X.A (eval a X.env) (fun v s₁=>wpAny (model X.prog X.w) X.A (eval b X.env) (fun u s₂=>wpAny (model X.prog X.w) X.A (f v u) Q X.xe s₂) X.xe s₁) X.xe s:=by
 refine thn (ha pins s σ H _ I h) fun v s1 zz18=>?_
 obtain⟨x,H1,I1,r1,q1⟩:=zz18
 refine thn (hb pins s1 σ H1 _ I1 q1) fun u s2 zz19=>?_
 obtain⟨y,H2,I2,r2,q2⟩:=zz19
 exact hf v u s2 x y H2 I2 r1 r2 q2
theorem Yb1{op:Operator}{r:R2}(ho:OpR X (binaryOp op) r)(ha:PE X a ta)(hb:PE X b tb):PE X (.BinOp a op b pos) (tOp r ta tb):=by
 intro pins s σ H Q I h
 exact wpAny_BinOp (binT ha hb I h fun v u s2 x y H2 I2 rx ry q=>ho pins s2 σ H2 x y v u Q I2 rx ry q)
theorem Yb3{op:UnaryOp}{r:V→Hp→VK→Prop}(ho:UnR X (unaryOp op) r)(ha:PE X a ta):PE X (.UnaryOp op a pos) (tUn r ta):=by
 intro pins s σ H Q I h
 exact UnaryOp_ (thn (ha pins s σ H _ I h) fun v s1 zz20=>by obtain⟨x,H1,I1,r1,q1⟩:=zz20;exact ho pins s1 σ H1 x v Q I1 r1 q1)
theorem opI{f:Value→Value→Sem Value}{C:Int→Int→Prop}{g:Int→Int→Int}
  (rule:∀(i j:Int) (t u:Tok) (s:Shared) (Q:Value→Shared→Prop) (E:Value→Shared→Prop),C i j→Q (.int (g i j) s.toks) {s with toks:=s.toks+1}→wpAny (model X.prog X.w) X.A (f (.int i t) (.int j u)) Q E s):
  OpR X f (rI C fun i j=> .int (g i j)):=by
 intro pins s σ H x y v u Q I rx ry h
 obtain⟨i,j,rfl,rfl,hc,q⟩:=h
 obtain⟨t,rfl⟩:=rx
 obtain⟨t',rfl⟩:=ry
 exact rule i j t t' s _ _ hc ⟨.int (g i j),H,I.tok _,⟨_,rfl⟩,q⟩
theorem opI0{f:Value→Value→Sem Value}{g:Int→Int→Int}
  (rule:∀(i j:Int) (t u:Tok) (s:Shared) (Q:Value→Shared→Prop) (E:Value→Shared→Prop),Q (.int (g i j) s.toks) {s with toks:=s.toks+1}→wpAny (model X.prog X.w) X.A (f (.int i t) (.int j u)) Q E s):
  OpR X f (rI0 fun i j=> .int (g i j)):=by
 intro pins s σ H x y v u Q I rx ry h
 obtain⟨i,j,rfl,rfl,q⟩:=h
 obtain⟨t,rfl⟩:=rx
 obtain⟨t',rfl⟩:=ry
 exact rule i j t t' s _ _ ⟨.int (g i j),H,I.tok _,⟨_,rfl⟩,q⟩
theorem opB0{f:Value→Value→Sem Value}{g:Int→Int→Bool}
  (rule:∀(i j:Int) (t u:Tok) (s:Shared) (Q:Value→Shared→Prop) (E:Value→Shared→Prop),Q (.bool (g i j)) s→wpAny (model X.prog X.w) X.A (f (.int i t) (.int j u)) Q E s):
  OpR X f (rI0 fun i j=> .bl (g i j)):=by
 intro pins s σ H x y v u Q I rx ry h
 obtain⟨i,j,rfl,rfl,q⟩:=h
 obtain⟨t,rfl⟩:=rx
 obtain⟨t',rfl⟩:=ry
 exact rule i j t t' s _ _ ⟨.bl (g i j),H,I,rfl,q⟩
def CPow(i j:Int):Prop:=0≤j∧j≤1000000∧i.natAbs<2 ^ 64
def CMul(i j:Int):Prop:=(-(2 ^ 64)<i∧i<2 ^ 64)∨(-(2 ^ 64)<j∧j<2 ^ 64)
theorem CMul.ok{i j:Int}(h:CMul i j):IntMulOk i j:=by
 rcases h with⟨h1,h2⟩ | ⟨h1,h2⟩
 ·exact .of_left (intBits_le_64 h1 h2)
 ·exact .of_right (intBits_le_64 h1 h2)
theorem Y96:OpR X (binaryOp .Add) (rI0 fun i j=> .int (i+j)):=opI0 fun _ _ _ _ _ _ _ q=>add_int q
theorem Y80:OpR X (binaryOp .Sub) (rI0 fun i j=> .int (i - j)):=opI0 fun _ _ _ _ _ _ _ q=>sub_int q
theorem Zv6:OpR X (binaryOp .Mod) (rI (fun _ j=>j≠0) fun i j=> .int (i.fmod j)):=opI fun _ _ _ _ _ _ _ hc q=>mod_int' hc q
theorem Y09:OpR X (binaryOp .Pow) (rI CPow fun i j=> .int (i ^ j.toNat)):=opI fun _ _ _ _ _ _ _ hc q=>pow_int_small hc.1 hc.2.1 hc.2.2 q
theorem unI{f:Value→Sem Value}{g:Int→Int}
  (rule:∀(i:Int) (t:Tok) (s:Shared) (Q:Value→Shared→Prop) (E:Value→Shared→Prop),Q (.int (g i) s.toks) {s with toks:=s.toks+1}→wpAny (model X.prog X.w) X.A (f (.int i t)) Q E s):
  UnR X f (rU fun i=> .int (g i)):=by
 intro pins s σ H x v Q I rx h
 obtain⟨i,rfl,q⟩:=h
 obtain⟨t,rfl⟩:=rx
 exact rule i t s _ _ ⟨.int (g i),H,I.tok _,⟨_,rfl⟩,q⟩
theorem Y33:UnR X (unaryOp .USub) (rU fun i=> .int (-i)):=unI fun _ _ _ _ _ q=>neg_int q
end
noncomputable def scal:V→V→Bool
 | .non,.non=>true | .non,.int _=>true | .int _,.non=>true | .non,.bl _=>true | .bl _,.non=>true | .non,.str _=>true | .str _,.non=>true
 | .int _,.int _=>true | .bl _,.bl _=>true | .str _,.str _=>true | .byt _,.byt _=>true
 | .int _,.str _=>true | .str _,.int _=>true | .bl _,.str _=>true | .str _,.bl _=>true
 | _,_=>false
def rEq:R2:=fun x y H Q=>scal x y=true∧Q (.bl (decide (x=y))) H
def rNe:R2:=fun x y H Q=>scal x y=true∧Q (.bl (!decide (x=y))) H
theorem Z23{i j:Int}:decide (V.int i=V.int j)=(i==j):=by
 rw[Bool.eq_iff_iff]
 simp
theorem Zn9{i j:Bool}:decide (V.bl i=V.bl j)=(i==j):=by
 rw[Bool.eq_iff_iff]
 simp
theorem Z98{i j:Str}:decide (V.str i=V.str j)=(i==j):=by
 rw[Bool.eq_iff_iff]
 simp
theorem Z47{i j:Array UInt8}:decide (V.byt i=V.byt j)=(i.toList==j.toList):=by
 rw[Bool.eq_iff_iff]
 cases i
 cases j
 simp
section
variable{X:Cx}{a b c:Expr}{ta tb tc:TE}{pos:Pos}
theorem Zj{pins:List (Addr×Obj)}{σ:St}{H:Hp}{s:Shared}{Q:VK}{k k':Bool}(I:Inv X pins σ H s)(q:Q (.bl k) H)(e:k=k'):EP X pins σ Q (.bool k') s:=by
 subst e
 exact⟨.bl k,H,I,rfl,q⟩
theorem Ye5:OpR X (compareOp .Eq) rEq:=by
 intro pins s σ H x y v u Q I rx ry h
 obtain⟨hs,q⟩:=h
 cases x with
 | non=>
  cases rx
  cases y with
  | non=>cases ry;exact PySem.EqNone.eq_none_none (Zj I q (by simp))
  | bl j=>cases ry;exact PySem.EqNone.eq_none_bool (Zj I q (by simp))
  | int j=>obtain⟨t',rfl⟩:=ry;exact PySem.EqNone.eq_none_int (Zj I q (by simp))
  | str j=>obtain⟨t',rfl⟩:=ry;exact PySem.EqNone.eq_none_str (Zj I q (by simp))
  | _=>exact absurd (show false=true from hs) Bf9
 | bl i=>
  cases rx
  cases y with
  | non=>cases ry;exact PySem.EqNone.eq_bool_none (Zj I q (by simp))
  | bl j=>cases ry;exact eq_bool (Zj I q Zn9)
  | str j=>obtain⟨t',rfl⟩:=ry;exact PySem.EqMixed.eq_bool_str (Zj I q (by simp))
  | _=>exact absurd (show false=true from hs) Bf9
 | int i=>
  obtain⟨t,rfl⟩:=rx
  cases y with
  | non=>cases ry;exact PySem.EqNone.eq_int_none (Zj I q (by simp))
  | int j=>obtain⟨t',rfl⟩:=ry;exact eq_int (Zj I q Z23)
  | str j=>obtain⟨t',rfl⟩:=ry;exact PySem.EqMixed.eq_int_str (Zj I q (by simp))
  | _=>exact absurd (show false=true from hs) Bf9
 | str i=>
  obtain⟨t,rfl⟩:=rx
  cases y with
  | non=>cases ry;exact PySem.EqNone.eq_str_none (Zj I q (by simp))
  | bl j=>cases ry;exact PySem.EqMixed.eq_str_bool (Zj I q (by simp))
  | int j=>obtain⟨t',rfl⟩:=ry;exact PySem.EqMixed.eq_str_int (Zj I q (by simp))
  | str j=>obtain⟨t',rfl⟩:=ry;exact eq_str (Zj I q Z98)
  | _=>exact absurd (show false=true from hs) Bf9
 | byt i=>
  obtain⟨t,rfl⟩:=rx
  cases y with
  | byt j=>obtain⟨t',rfl⟩:=ry;exact PySem.W.eq_bytes (Zj I q Z47)
  | _=>exact absurd (show false=true from hs) Bf9
 | _=>cases y<;>exact absurd (show false=true from hs) Bf9
theorem Yb8:OpR X (compareOp .NotEq) rNe:=by
 intro pins s σ H x y v u Q I rx ry h
 obtain⟨hs,q⟩:=h
 cases x with
 | non=>
  cases rx
  cases y with
  | non=>cases ry;exact PySem.EqNone.ne_none_none (Zj I q (by simp))
  | bl j=>cases ry;exact PySem.EqNone.ne_none_bool (Zj I q (by simp))
  | int j=>obtain⟨t',rfl⟩:=ry;exact PySem.EqNone.ne_none_int (Zj I q (by simp))
  | str j=>obtain⟨t',rfl⟩:=ry;exact PySem.EqNone.ne_none_str (Zj I q (by simp))
  | _=>exact absurd (show false=true from hs) Bf9
 | bl i=>
  cases rx
  cases y with
  | non=>cases ry;exact PySem.EqNone.ne_bool_none (Zj I q (by simp))
  | bl j=>cases ry;exact ne_bool (Zj I q (congrArg not Zn9))
  | str j=>obtain⟨t',rfl⟩:=ry;exact PySem.EqMixed.ne_bool_str (Zj I q (by simp))
  | _=>exact absurd (show false=true from hs) Bf9
 | int i=>
  obtain⟨t,rfl⟩:=rx
  cases y with
  | non=>cases ry;exact PySem.EqNone.ne_int_none (Zj I q (by simp))
  | int j=>obtain⟨t',rfl⟩:=ry;exact ne_int (Zj I q (congrArg not Z23))
  | str j=>obtain⟨t',rfl⟩:=ry;exact PySem.EqMixed.ne_int_str (Zj I q (by simp))
  | _=>exact absurd (show false=true from hs) Bf9
 | str i=>
  obtain⟨t,rfl⟩:=rx
  cases y with
  | non=>cases ry;exact PySem.EqNone.ne_str_none (Zj I q (by simp))
  | bl j=>cases ry;exact PySem.EqMixed.ne_str_bool (Zj I q (by simp))
  | int j=>obtain⟨t',rfl⟩:=ry;exact PySem.EqMixed.ne_str_int (Zj I q (by simp))
  | str j=>obtain⟨t',rfl⟩:=ry;exact ne_str (Zj I q (congrArg not Z98))
  | _=>exact absurd (show false=true from hs) Bf9
 | byt i=>
  obtain⟨t,rfl⟩:=rx
  cases y with
  | byt j=>obtain⟨t',rfl⟩:=ry;exact PySem.W.ne_bytes (Zj I q (congrArg not Z47))
  | _=>exact absurd (show false=true from hs) Bf9
 | _=>cases y<;>exact absurd (show false=true from hs) Bf9
theorem Yd7:OpR X (compareOp .Lt) (rI0 fun i j=> .bl (decide (i<j))):=opB0 fun _ _ _ _ _ _ _ q=>lt_int q
theorem Ya6:OpR X (compareOp .LtE) (rI0 fun i j=> .bl (decide (i≤j))):=opB0 fun _ _ _ _ _ _ _ q=>le_int q
theorem Yd5:OpR X (compareOp .Gt) (rI0 fun i j=> .bl (decide (j<i))):=opB0 fun _ _ _ _ _ _ _ q=>gt_int q
theorem Yb5:OpR X (compareOp .GtE) (rI0 fun i j=> .bl (decide (j≤i))):=opB0 fun _ _ _ _ _ _ _ q=>ge_int q
theorem Zb6:OpR X (compareOp .In) (fun x y H Q=>∃i j,x= .str i∧y= .str j∧Q (.bl (!(Lj j i 0 j.length 1).isEmpty)) H):=by
 intro pins s σ H x y v u Q I rx ry h
 obtain⟨i,j,rfl,rfl,q⟩:=h
 obtain⟨t,rfl⟩:=rx
 obtain⟨t',rfl⟩:=ry
 exact in_str (Zj I q rfl)
theorem R7:OpR X (compareOp .Is) (fun x y H Q=>y= .non∧Q (.bl (decide (x= .non))) H):=by
 intro pins s σ H x y v u Q I rx ry h
 obtain⟨rfl,q⟩:=h
 cases ry
 refine is_none_gen (Zj I q ?_)
 cases x<;>first
  |(cases rx;rfl)
  |(obtain⟨t,rfl⟩:=rx;rfl)
theorem Jf:OpR X (compareOp .NotIn) (fun x y H Q=>∃i j,x= .str i∧y= .str j∧Q (.bl (!(!(Lj j i 0 j.length 1).isEmpty))) H):=by
 intro pins s σ H x y v u Q I rx ry h
 obtain⟨i,j,rfl,rfl,q⟩:=h
 obtain⟨t,rfl⟩:=rx
 obtain⟨t',rfl⟩:=ry
 exact notIn_str (Zj I q rfl)
theorem Zt0{op:CmpOp}{r:R2}(ho:OpR X (compareOp op) r)(ha:PE X a ta)(hb:PE X b tb)(hm:behindInMarks op b=false):PE X (.Compare a [op] [b] pos) (tOp r ta tb):=by
 intro pins s σ H Q I h
 exact wpAny_Compare1 (binT ha hb I h fun v u s2 x y H2 I2 rx ry q=>ho pins s2 σ H2 x y v u Q I2 rx ry q) hm
def Y75(t:TE):TT:=fun σ H Q=>t σ H fun x H'=>∃k,x= .bl k∧Q k H'
theorem Zv8{op:CmpOp}{r:R2}(ho:OpR X (compareOp op) r)(ha:PE X a ta)(hb:PE X b tb)(hm:behindInMarks op b=false):PT X (.Compare a [op] [b] pos) (Y75 (tOp r ta tb)):=by
 intro pins s σ H Q I h
 refine wpAny_isTrue_Compare1 (thn (ha pins s σ H _ I h) fun v s1 ⟨x,H1,I1,r1,q1⟩=>thn (hb pins s1 σ H1 _ I1 q1) fun u s2 ⟨y,H2,I2,r2,q2⟩=>
  thn (ho pins s2 σ H2 x y v u _ I2 r1 r2 q2) fun c s3 ⟨z,H3,I3,r3,k,e,q3⟩=>?_) hm
 subst e
 cases r3
 exact wpAny_truthy_bool ⟨H3,I3,q3⟩
def TruV(K:Af)(x:V)(H:Hp)(k:Bool):Prop:=
 match x with
 | .non=>k=false
 | .bl b=>k=b
 | .int i=>k=(i !=0)
 | .str y=>y.length≤sizeLine∧k=((y.length:Int) !=0)
 | .byt y=>y.size≤sizeLine∧k=((y.size:Int) !=0)
 | .ref p=>(∃xs,SqL K H p xs∧k= !xs.isEmpty)∨(∃xs,SqT K H p xs∧k= !xs.isEmpty)∨∃kvs,H p=some (.dK kvs)∧k= !kvs.isEmpty
 | _=>False
theorem C7{κ:Type}{kvs:List (κ×V)}{vs:List (κ×Value)}(r:KV kvs vs):(!vs.isEmpty)= !kvs.isEmpty:=by
 cases r<;>rfl
theorem Qz{xs:List V}{its:List Value}(r:Vals xs its):(!its.toArray.isEmpty)= !xs.isEmpty:=by
 cases r<;>simp
theorem Sq:(sizeLine:Nat)<2 ^ 63:=by rw[Lu];decide
theorem Fq:TruR X (fun x H Q=>∃k,TruV X.K x H k∧Q k H):=by
 intro pins s σ H x v Q I rx h
 obtain⟨k,e,q⟩:=h
 have hl:=Sq
 have hs:sizeLine=16777216:=Lu
 cases x with
 | non=>
  cases rx
  have e':k=false:=e
  subst e'
  exact truthy_none ⟨H,I,q⟩
 | bl b=>
  cases rx
  have e':k=b:=e
  subst e'
  exact wpAny_truthy_bool ⟨H,I,q⟩
 | int i=>
  obtain⟨t,rfl⟩:=rx
  have e':k=(i !=0):=e
  subst e'
  exact PySem.P.truthy_int ⟨H,I,q⟩
 | str y=>
  obtain⟨t,rfl⟩:=rx
  obtain⟨hy,e'⟩:y.length≤sizeLine∧k=((y.length:Int) !=0):=e
  subst e'
  exact PySem.P.truthy_str (by omega) ⟨H,I.tok _,q⟩
 | byt y=>
  obtain⟨t,rfl⟩:=rx
  obtain⟨hy,e'⟩:y.size≤sizeLine∧k=((y.size:Int) !=0):=e
  subst e'
  exact PySem.W.truthy_bytes (by omega) ⟨H,I.tok _,q⟩
 | ref p=>
  cases rx
  have e':(∃xs,SqL X.K H p xs∧k= !xs.isEmpty)∨(∃xs,SqT X.K H p xs∧k= !xs.isEmpty)∨∃kvs,H p=some (.dK kvs)∧k= !kvs.isEmpty:=e
  rcases e' with⟨xs,hx,e'⟩ | ⟨xs,hx,e'⟩ | ⟨kvs,hx,e'⟩
  ·subst e'
   obtain⟨its,r,pl,hz⟩:=I.list hx
   have hlen:=r.length
   exact wpAny_truthy_list pl.isList (by simp only[Ah];omega) ⟨H,I.tok _,by rw[Qz r];exact q⟩
  ·subst e'
   obtain⟨its,r,pl,hz⟩:=I.tuple hx
   have hlen:=r.length
   exact truthy_tuple pl (by simp only[Ah];omega) ⟨H,I.tok _,by rw[Qz r];exact q⟩
  ·subst e'
   obtain⟨hz,hS,vs,r,m⟩:kvs.length≤sizeLine∧(p==sysModules)=false∧∃vs,KV kvs vs∧s.heap.DictOf (Zz X.prog X.w) p vs:=I.hok p _ hx
   have hlen:kvs.length=vs.length:=Paired.length r
   exact wpAny_truthy_dict hS m (by omega) ⟨H,I.tok _,by rw[C7 r];exact q⟩
 | _=>exact(show False from e).elim
theorem Zh8(ha:PE X a ta)(he:∀whole,isTrue a X.env whole=(do let v ←whole;standAt a.pos;holding [v] (truthy v))):
  PT X a (fun σ H Q=>ta σ H fun x H'=>∃k,TruV X.K x H' k∧Q k H'):=by
 intro pins s σ H Q I h
 exact isTrue_plain (thn (ha pins s σ H _ I h) fun v s1 zz22=>by obtain⟨x,H1,I1,r1,q1⟩:=zz22;exact Fq pins s1 σ H1 x v Q I1 r1 q1) (he _)
theorem C0:OpR X (binaryOp .Add) (fun x y H Q=>∃i j,x= .str i∧y= .str j∧i.length+j.length≤sizeLine∧Q (.str (i++j)) H):=by
 intro pins s σ H x y v u Q I rx ry h
 obtain⟨i,j,rfl,rfl,hz,q⟩:=h
 obtain⟨t,rfl⟩:=rx
 obtain⟨t',rfl⟩:=ry
 exact add_str (fun t' tk=>⟨.str (i++j),H,I.tok _,⟨_,rfl⟩,q⟩) hz
theorem Nw{x:V}{us:List Value}(r:Vals [x] us):∃u,us=[u]∧RelV x u:=by
 cases r with
 | cons r1 r2=>cases r2;exact⟨_,rfl,r1⟩
theorem O7{x y:V}{us:List Value}(r:Vals [x,y] us):∃u w',us=[u,w']∧RelV x u∧RelV y w':=by
 cases r with
 | cons r1 r2=>
  cases r2 with
  | cons r3 r4=>cases r4;exact⟨_,_,rfl,r1,r3⟩
theorem Z27(hc:X.calm=true):Wm X (.builtin "max") (fun xs H Q=>∃i j,xs=[.int i,.int j]∧Q (.int (if j >i then j else i)) H):=by
 intro pins s σ H xs us Q I r h
 obtain⟨i,j,rfl,q⟩:=h
 obtain⟨u,w',rfl,⟨t,rfl⟩,⟨t',rfl⟩⟩:=O7 r
 refine max_two_ints (I.ok.hd hc) fun h' tk k=>⟨_,H,I.kept k,?_,q⟩
 by_cases hj:j >i
 ·rw[if_pos hj,if_pos hj];exact⟨_,rfl⟩
 ·rw[if_neg hj,if_neg hj];exact⟨_,rfl⟩
theorem Z86(hc:X.calm=true):Wm X (.builtin "min") (fun xs H Q=>∃i j,xs=[.int i,.int j]∧Q (.int (if j<i then j else i)) H):=by
 intro pins s σ H xs us Q I r h
 obtain⟨i,j,rfl,q⟩:=h
 obtain⟨u,w',rfl,⟨t,rfl⟩,⟨t',rfl⟩⟩:=O7 r
 refine min_two_ints (I.ok.hd hc) fun h' tk k=>⟨_,H,I.kept k,?_,q⟩
 by_cases hj:j<i
 ·rw[if_pos hj,if_pos hj];exact⟨_,rfl⟩
 ·rw[if_neg hj,if_neg hj];exact⟨_,rfl⟩
end
structure ObjM(h:Heap)(x dx C:Addr)(mA:Str→Option Value):Prop where
 obj:h.get? x=some (PySem.W.instObj C dx)
 ns:h.Ns1 dx mA
 ne:dx≠x
theorem Je{h:Heap}{dx:Addr}{mA:Str→Option Value}(n:h.Ns1 dx mA):∃od,h.get? dx=some od∧∀name,PySem.W.lookIn name od=some (mA name):=by
 obtain⟨o,es,ep,ho,hd,hk,_,hm⟩:=n
 refine⟨o,ho,fun name=>?_⟩
 have e:=hm name
 unfold nsFind findBy at e
 rw[←Array.find?_toList] at e
 unfold PySem.W.lookIn
 rw[hd]
 dsimp only
 split
 ·rename_i y q
  rw[q] at e
  exact congrArg some e
 ·rename_i q
  rw[q] at e
  have a:es.toList.any (·.refKey)=false:=by
   rw[List.any_eq_false]
   intro y hy
   obtain⟨z,t,hkey⟩:=hk y (Array.mem_toList_iff.mp hy)
   simp[DictEntry.refKey,hkey]
  have a':¬es.toList.any (·.refKey)=true:=by rw[a];exact Bf9
  rw[if_neg a']
  exact congrArg some e
theorem ObjM.look{h:Heap}{x dx C:Addr}{mA:Str→Option Value}(I:ObjM h x dx C mA):∃od,PySem.W.InstAt h x (PySem.W.instObj C dx) C (some od)∧∀name,PySem.W.lookIn name od=some (mA name):=
 let ⟨od,ho,hl⟩:=Je I.ns
 ⟨od,⟨I.obj,rfl,rfl,ho⟩,hl⟩
theorem RelO.some_of{v:V}{o:Option Value}(r:RelO (some v) o):∃u,o=some u∧RelV v u:=by
 cases o with
 | none=>exact(show False from r).elim
 | some u=>exact⟨u,rfl,r⟩
theorem RelO.none_of{o:Option Value}(r:RelO none o):o=none:=by
 cases o with
 | none=>rfl
 | some u=>exact(show False from r).elim
section
variable{P:Program}{w:World}{H H':Hp}{h h':Heap}{a C dx:Addr}{fs fs':List (Str×V)}
theorem Zz2(hok:HOk P w H h)(e:H a=some (.ins C dx fs)):∃mA,ObjM h a dx C mA∧(∀f,RelO (fs.lookup f) (mA f))∧PySem.Within mA (fs.map (·.1))∧fs.length≤1000∧H dx=some (.own a):=by
 obtain⟨d,z,ne,ob,mA,n,r,q⟩:=(show Yc P w H h a (.ins C dx fs) from hok a _ e)
 exact⟨mA,⟨ob,n,ne⟩,r,q,z,d⟩
end
structure Cls(K:Af)(C:Addr):Prop where
 pg:PySem.W.plainGet K C Str.empty=true
 hd:PySem.W.hasDictIn K C=true
 po:PySem.W.plainOver K C=true
 sa:Lx K (.ref C) "__setattr__"=some (some (.builtin "object.__setattr__"))
theorem Cls.get{K:Af}{C:Addr}(c:Cls K C)(f:Str):PySem.W.plainGet K C f=true:=c.pg
structure Con(K:Af)(C:Addr)(f:Str)(v:V)(u:Value):Prop where
 at_:Lx K (.ref C) f=some (some u)
 rel:RelV v u
 get:PySem.W.specialIn K u "__get__"=some none
 cp:PySem.W.copiedNames.contains f=false
structure Meth(K:Af)(C:Addr)(m:Str)(f:Addr):Prop where
 at_:Lx K (.ref C) m=some (some (.ref f))
 fn:PySem.W.isFn K (.ref f)=true
 kp:Hd K (.ref f)=true
section
variable{X:Cx}{pins:List (Addr×Obj)}{σ:St}{H:Hp}{s:Shared}{A:Around}{E:Value→Shared→Prop}{Q:Value→Shared→Prop}{c:Value}{b:Bool}
inductive TyOf (K:Af) (H:Hp):V→Value→Prop where
 | non:TyOf K H .non (.type "NoneType")
 | bl (x:Bool):TyOf K H (.bl x) (.type "bool")
 | int (i:Int):TyOf K H (.int i) (.type "int")
 | str (x:Str):TyOf K H (.str x) (.type "str")
 | flt (x:UInt64):TyOf K H (.flt x) (.type "float")
 | lst {a:Addr} {xs:List V} (e:H a=some (.lst xs)):TyOf K H (.ref a) (.type "list")
 | frz {a:Addr} {o:Obj} {xs:List V} (e:H a=some (.frz o (.lst xs))):TyOf K H (.ref a) (.type "list")
 | tup {a:Addr} {xs:List V} (e:H a=some (.tup xs)):TyOf K H (.ref a) (.type "tuple")
 | dK {a:Addr} {kvs:List (Key×V)} (e:H a=some (.dK kvs)):TyOf K H (.ref a) (.type "dict")
 | dT {a:Addr} {kvs:List (List Key×V)} (e:H a=some (.dT kvs)):TyOf K H (.ref a) (.type "dict")
 | ins {a C dx:Addr} {fs:List (Str×V)} (e:H a=some (.ins C dx fs)) (cl:Cls K C) (ha:Lx K (.ref C) "__class__"=some (some (.builtin "object.__class__")))
   (hn:PySem.W.specialIn K (.builtin "object.__class__") "__get__"=some (some (.builtin "getset_descriptor.__get__"))) (htk:PySem.W.takesIn K (.builtin "object.__class__")=some true)
   (hm:PySem.W.mroIn K C (.type "object")=some true):TyOf K H (.ref a) (.ref C)
theorem Zb9{x:V}{u t:Value}(I:Inv X pins σ H s)(rx:RelV x u)(ty:TyOf X.K H x t)(e:Kh X.K t c=some b)(h:∀tk,Q (.bool b) {s with toks:=tk}):
  wpAny (model X.prog X.w) A (call (.builtin "isinstance") [u,c]) Q E s:=by
 cases ty with
 | non=>cases (show u=Lm from rx);exact Hh PySem.W.kitx_none I.kIn Kv e (fun z=>nomatch z) h
 | bl y=>cases (show u=Value.bool y from rx);exact Hh PySem.W.kitx_bool I.kIn Kv e (fun z=>nomatch z) h
 | int i=>obtain⟨t,q⟩:=(show ∃t,u=Value.int i t from rx);cases q;exact Hh PySem.W.kitx_int I.kIn Kv e (fun z=>nomatch z) h
 | str y=>obtain⟨t,q⟩:=(show ∃t,u=Value.str y t from rx);cases q;exact Hh PySem.W.kitx_str I.kIn Kv e (fun z=>nomatch z) h
 | flt y=>obtain⟨t,q⟩:=(show ∃t,u=Value.float y t from rx);cases q;exact Hh PySem.W.kitx_float I.kIn Kv e (fun z=>nomatch z) h
 | @lst a xs ea=>
  cases (show u=Au a from rx)
  obtain⟨_,_,n,_,h1⟩:=(show Yc X.prog X.w H s.heap a (.lst xs) from I.hok a _ ea)
  exact Hh PySem.W.kitx_list I.kIn ⟨_,h1,rfl⟩ e (fun z=>nomatch z) h
 | @frz a ob xs ea=>
  cases (show u=Au a from rx)
  obtain⟨_,_,_,n,_,h1⟩:=(show Yc X.prog X.w H s.heap a (.frz ob (.lst xs)) from I.hok a _ ea)
  exact Hh PySem.W.kitx_list I.kIn ⟨_,h1,rfl⟩ e (fun z=>nomatch z) h
 | @tup a xs ea=>
  cases (show u=Au a from rx)
  obtain⟨_,_,_,p⟩:=(show Yc X.prog X.w H s.heap a (.tup xs) from I.hok a _ ea)
  obtain⟨o,h1,h2,_⟩:=p
  exact Hh PySem.W.kitx_tuple I.kIn ⟨o,h1,h2⟩ e (fun z=>nomatch z) h
 | @dK a kvs ea=>
  cases (show u=Au a from rx)
  obtain⟨_,_,vs,_,p⟩:=(show Yc X.prog X.w H s.heap a (.dK kvs) from I.hok a _ ea)
  obtain⟨o,es,ep,h1,h2,_⟩:=p
  exact Hh PySem.W.kitx_dict I.kIn ⟨o,h1,h2.1⟩ e (fun z=>nomatch z) h
 | @dT a kvs ea=>
  cases (show u=Au a from rx)
  obtain⟨_,_,xs,_,o,es,ep,h1,h2,_⟩:=(show Yc X.prog X.w H s.heap a (.dT kvs) from I.hok a _ ea)
  exact Hh PySem.W.kitx_dict I.kIn ⟨o,h1,h2.1⟩ e (fun z=>nomatch z) h
 | @ins a C dx fs ea cl ha hn htk hm=>
  cases (show u=Au a from rx)
  obtain⟨mA,O,_⟩:=Zz2 I.hok ea
  obtain⟨od,J,_⟩:=O.look
  exact Hh (PySem.W.kitx_own (cl.get _) cl.hd ha hn htk hm) I.kIn J e (fun z=>nomatch z) h
end
structure Room(k:Nat)(A:Around):Prop where
 hd:A.handled=none
 dp:A.depth+3 * k+5<recursionLimit
 un:A.units+16 * k+200<cLine
theorem Room.mono{j k:Nat}{A:Around}(r:Room k A)(h:j≤k):Room j A:=⟨r.hd,by have:=r.dp;omega,by have:=r.un;omega⟩
theorem Room.deeper{k:Nat}{A:Around}(r:Room (k+1) A)(env:Env):Room k (A.deeper env):=
 ⟨r.hd,by have:=r.dp;show A.depth+1+3 * k+5<_;omega,by have:=r.un;show A.units+3+16 * k+200<_;omega⟩
theorem Room.depth{k:Nat}{A:Around}(r:Room k A):A.depth<recursionLimit:=by have:=r.dp;omega
theorem Room.units{k:Nat}{A:Around}(r:Room k A):A.units+64<cLine:=by have:=r.un;omega
def tNil:TA:=fun _ H Q=>Q [] H
def Yc4(ta:TE)(tr:TA):TA:=fun σ H Q=>ta σ H fun x H1=>tr σ H1 fun xs H2=>Q (x::xs) H2
section
variable{X:Cx}{e:Expr}{es:List Expr}{te:TE}{t:TA}{pos:Pos}
theorem Jb:PA X [] tNil:=fun _ _ _ _ H Q I h=>Calls.spliced_nil ⟨[],H,I,.nil,h⟩
theorem Rt(ha:PE X e te)(hr:PA X es t)(hs:starEach (e::es) X.env=(false,eval e X.env)::starEach es X.env:=by rfl):PA X (e::es) (Yc4 te t):=by
 intro pos pins s σ H Q I h
 rw[hs]
 show wpAny _ _ (spliced ((false,eval e X.env)::backTo pos (starEach es X.env))) _ _ s
 refine Calls.spliced_cons (thn (ha pins s σ H _ I h) fun u s1 zz23=>?_)
 obtain⟨x,H1,I1,r1,q1⟩:=zz23
 exact thn (hr pos pins s1 σ H1 _ I1 q1) fun us s2 zz24=>by obtain⟨xs,H2,I2,r2,q2⟩:=zz24;exact⟨x::xs,H2,I2,.cons r1 r2,q2⟩
def tTup(t:TA):TE:=fun σ H Q=>t σ H fun xs H1=>xs.length≤sizeLine∧∀p,H1 p=none→Q (.ref p) (upd H1 p (.tup xs))
def tLst(t:TA):TE:=fun σ H Q=>t σ H fun xs H1=>xs.length≤sizeLine∧∀p,H1 p=none→Q (.ref p) (upd H1 p (.lst xs))
theorem Y11{x1}(h:PA X es t):PE X (.Tuple es x1 pos) (tTup t):=by
 intro pins s σ H Q I hq
 refine wpAny_Tuple_spliced (thn (h pos pins s σ H _ I hq) fun us s1 ⟨xs,H1,I1,r,z,q⟩=>⟨by rw[←r.length];exact z,?_⟩)
 have hf:H1 s1.heap.objs.size=none:=I1.hok.fresh (Nat.le_refl _)
 refine⟨.ref s1.heap.objs.size,upd H1 s1.heap.objs.size (.tup xs),I1.laid (t':=s1.toks) (fun b u e=>An _ e) (Nat.le_refl _) ?_,rfl,q _ hf⟩
 exact⟨z,us,r,⟨_,As _ rfl,rfl,_,rfl⟩⟩
theorem Y52(h:PA X es t):PE X (.List es pos) (tLst t):=by
 intro pins s σ H Q I hq
 refine wpAny_List_spliced (thn (h pos pins s σ H _ I hq) fun us s1 ⟨xs,H1,I1,r,z,q⟩=>⟨by rw[←r.length];exact z,?_⟩)
 have hf:H1 s1.heap.objs.size=none:=I1.hok.fresh (Nat.le_refl _)
 refine⟨.ref s1.heap.objs.size,upd H1 s1.heap.objs.size (.lst xs),I1.laid (t':=s1.toks) (fun b u e=>An _ e) (Nat.le_refl _) ?_,rfl,q _ hf⟩
 exact⟨z,us,0,r,As _ rfl⟩
end
abbrev Sp:=List V→Hp→VK→XK→Prop
abbrev CXT:=List Env→Hp→Shared→XK→Value→Shared→Prop
structure Env0(P:Program)(w:World)(K:Af)(mg:Str→Option Value)(base:Heap)(A:Around)(outer:List Env)(s:Shared)(H:Hp):Prop where
 frames:A.frames=some outer
 mod:Mod K mg base
 bs:∀b o,base.get? b=some o→s.heap.get? b=some o∧H b=none
 bsz:base.objs.size≤s.heap.objs.size
 funs:s.heap.FunFrames base outer
 frf:∀b∈frs outer,H b=none
 hok:HOk P w H s.heap
 bare:AllBare s.gens
def CE(outer:List Env)(P:Program)(w:World)(H:Hp)(s:Shared)(Q:VK)(u:Value)(s':Shared):Prop:=
 ∃v H',s'.os=s.os∧AllBare s'.gens∧Un (frs outer) [] H H' s.heap s'.heap∧HOk P w H' s'.heap∧RelV v u∧Q v H'
def CR(CX:CXT)(outer:List Env)(P:Program)(w:World)(H:Hp)(s:Shared)(Q:VK)(E:XK)(r:Result)(s':Shared):Prop:=
 match r with
 | .ok (.ret u)=>CE outer P w H s Q u s'
 | .ok _=>False
 | .error e=>CX outer H s E e s'
structure FnOk(P:Program)(w:World)(K:Af)(mg:Str→Option Value)(base:Heap)(CX:CXT)(k:Nat)(f:Addr)(fd:FuncData)(ps:List Str)(sp:Sp):Prop where
 len:∀vs H Q E,sp vs H Q E→vs.length=ps.length
 run:∀(A:Around) (outer:List Env) (s:Shared) (H:Hp) (args:Args) (us:List Value) (vs:List V) (Q:VK) (E:XK),Room k A→Env0 P w K mg base A outer s H→BindsTo s fd args (ps.zip us)→Vals vs us→sp vs H Q E→
  codeAny (model P w) A (.call (.ref f) args) (CR CX outer P w H s Q E) s
section
variable{X:Cx}{pins:List (Addr×Obj)}{σ:St}{H:Hp}{s s':Shared}
theorem Inv.env0(I:Inv X pins σ H s):Env0 X.prog X.w X.K X.mg X.base X.A X.stack s H:=
 ⟨I.ok.frames,I.ok.mod,I.bs,Nat.le_trans I.ok.bsz I.sz,I.stack,I.stkFree,I.hok,I.bare⟩
theorem Inv.after{Q:VK}{u:Value}(I:Inv X pins σ H s)(h:CE X.stack X.prog X.w H s Q u s'):EP X pins σ Q u s':=by
 obtain⟨v,H',os,bare,un,hok,r,q⟩:=h
 obtain⟨hh,g,d,t,os'⟩:=s'
 obtain rfl:os'=s.os:=os
 exact⟨v,H',I.call (h':=hh) (g':=g) (d':=d) (t':=t) (ch:=[]) un hok bare (fun b z=>absurd z (by simp)),r,q⟩
end
def Y72(sp:Sp)(dvs:List V)(E:XK)(t:TA):TE:=fun σ H Q=>t σ H fun vs H1=>sp (vs++dvs) H1 Q E
def Sh(K:Af)(fd:FuncData)(ps:List Str)(ds:List Value):Prop:=
 ∀(s:Shared) (us:List Value),K.In s.heap→(us++ds).length=ps.length→BindsTo s fd ⟨us,[]⟩ (ps.zip (us++ds))
theorem Sh.all{K:Af}{fd:FuncData}{ps:List Str}(h:∀us:List Value,us.length=ps.length→bindArgs fd ⟨us,[]⟩=pure (ps.zip us)):Sh K fd ps []:=fun s us _ hl=>by
 rw[Dg] at hl ⊢
 exact .of_eq (h us hl)
def E3(CX:CXT)(X:Cx)(E:XK):Prop:=∀(pins:List (Addr×Obj)) (σ:St) (H:Hp) (s:Shared) (e:Value) (s':Shared),Inv X pins σ H s→CX X.stack H s E e s'→X.xe e s'
section
variable{X:Cx}{CX:CXT}{k:Nat}{f C:Addr}{fd:FuncData}{ps:List Str}{sp:Sp}{dvs:List V}{ds:List Value}{E:XK}{x m:Str}{p pos apos:Pos}{e o:Expr}{es:List Expr}{ta:TE}{t:TA}
theorem Zp2{pins:List (Addr×Obj)}{σ:St}{H:Hp}{s:Shared}{Q:VK}{us:List Value}{vs:List V}(F:FnOk X.prog X.w X.K X.mg X.base CX k f fd ps sp)(hr:Room k X.A)(hb:Sh X.K fd ps ds)(hd:Vals dvs ds)(hx:E3 CX X E)
  (I:Inv X pins σ H s) (r:Vals vs us) (h:sp (vs++dvs) H Q E):wpAny (model X.prog X.w) X.A (call (.ref f) us) (EP X pins σ Q) X.xe s:=by
 have r2:Vals (vs++dvs) (us++ds):=r.append hd
 have hl:(us++ds).length=ps.length:=by rw[←r2.length];exact F.len _ _ _ _ h
 refine wpAny_call (codeAny_mono (F.run X.A X.stack s H ⟨us,[]⟩ (us++ds) (vs++dvs) Q E hr I.env0 (hb s us I.kIn hl) r2 h) fun r s' hq=>?_)
 cases r with
 | error e=>exact hx pins σ H s e s' I hq
 | ok fl=>
  cases fl with
  | ret u=>exact I.after hq
  | next=>exact Dq hq
  | brk=>exact Dq hq
  | cont=>exact Dq hq
theorem Zz7(F:FnOk X.prog X.w X.K X.mg X.base CX k f fd ps sp)(hr:Room k X.A)(hg:Gl X x)(hm:X.mg x=some (.ref f))(hk:Hd X.K (.ref f)=true)(hb:Sh X.K fd ps ds)(hd:Vals dvs ds)(hx:E3 CX X E)
  (ha:PA X (e::es) t) (hdb:(x==("__debug__":Str))=false:=by decide) (he:starEach (e::es) X.env=(false,eval e X.env)::starEach es X.env:=by rfl) (hpl:(backTo pos (starEach es X.env)).any (·.1)=false:=by rfl):
  PE X (.Call (.Name x p) (e::es) [] pos) (Y72 sp dvs E t):=by
 intro pins s σ H Q I h
 refine Lp (Gi I hg hm ?_ hdb)
 refine PySem.W.callWith_K (h₀:=X.base) I.ok.mod.kin hk (thn (ha pos pins s σ H _ I h) fun us s1 ⟨vs,H1,I1,r,q⟩=>⟨I1.kIn,?_⟩) he hpl
 exact Zp2 F hr hb hd hx I1 r q
theorem Zl3(F:FnOk X.prog X.w X.K X.mg X.base CX k f fd ps sp)(hr:Room k X.A)(hg:Gl X x)(hm:X.mg x=some (.ref f))(hk:Hd X.K (.ref f)=true)(hb:Sh X.K fd ps ds)(hd:Vals dvs ds)(hx:E3 CX X E)
  (hdb:(x==("__debug__":Str))=false:=by decide):PE X (.Call (.Name x p) [] [] pos) (Y72 sp dvs E tNil):=by
 intro pins s σ H Q I h
 refine Lp (Gi I hg hm ?_ hdb)
 exact PySem.W.callWith_K0 I.kIn hk (Zp2 (us:=[]) F hr hb hd hx I .nil h)
structure Mk(K:Af)(C f:Addr):Prop where
 makes:PySem.W.makesIn K C=true
 init:Lx K (.ref C) "__init__"=some (some (.ref f))
 fn:PySem.W.isFn K (.ref f)=true
 kp:Hd K (.ref C)=true
end
section
variable{X:Cx}{CX:CXT}{k:Nat}{f C:Addr}{fd:FuncData}{ps ks:List Str}{sp:Sp}{E:XK}{x m:Str}{p pos apos kpos:Pos}{e o:Expr}{es:List Expr}{kws:List Keyword}{te ta:TE}{t tk:TA}{nm:Option Str}
structure KBinds(K:Af)(fd:FuncData)(ps ks:List Str)(g:List Value→List Value→List Value)(gV:List V→List V→List V):Prop where
 to:∀(s:Shared) (us ws:List Value),K.In s.heap→(g us ws).length=ps.length→BindsTo s fd ⟨us,ks.zip ws⟩ (ps.zip (g us ws))
 rel:∀{vs:List V} {us:List Value} {zs:List V} {ws:List Value},Vals vs us→Vals zs ws→Vals (gV vs zs) (g us ws)
variable{g:List Value→List Value→List Value}{gV:List V→List V→List V}
end
structure FnScope(N P:List Str)(sc:Scope):Prop where
 kind:sc.kind= .function
 co:sc.isCoroutine=false
 gen:sc.isGenerator=false
 nd:N.Nodup
 pre:N.take P.length=P
 par:∀x∈P,sc.names.lookup x=some .local∨sc.names.lookup x=some .cell
 nofree:∀y∈sc.names,y.2≠ .free
theorem Jr{kindOf:Str→Option NameKind}{x:Str}:∀{binds:List (Str×Value)} {m:Str→Option Value},(∀v,(x,v)∉binds)→bindL kindOf binds m x=m x
 | [],_,_=>rfl
 |(n,v)::r,m,h=>by
  unfold bindL
  rw[Jr fun w hw=>h w (Bk _ hw)]
  split
  ·have:x≠n:=by rintro rfl;exact h v Dm
   simp[this]
  ·rfl
theorem Jk{kindOf:Str→Option NameKind}{x:Str}:∀{binds:List (Str×Value)} {m:Str→Option Value},(∀v,(x,v)∉binds)→bindC kindOf binds m x=m x
 | [],_,_=>rfl
 |(n,v)::r,m,h=>by
  unfold bindC
  rw[Jk fun w hw=>h w (Bk _ hw)]
  split
  ·rfl
  ·have:x≠n:=by rintro rfl;exact h v Dm
   simp[this]
theorem N7{kindOf:Str→Option NameKind}{x:Str}{v:Value}:∀{P:List Str} {vs:List Value} {i:Nat} {m:Str→Option Value},P.Nodup→P[i]?=some x→vs[i]?=some v→kindOf x=some .local→
  bindL kindOf (P.zip vs) m x=some v
 | [],_,_,_,_,h,_,_=>by simp at h
 | _::_,[],_,_,_,_,h,_=>by simp at h
 | p::P,w::vs,0,m,nd,h1,h2,hk=>by
  simp at h1 h2;subst h1;subst h2
  show bindL kindOf ((p,w)::P.zip vs) m p=_
  unfold bindL
  rw[Jr fun v hv=>(Io.mp nd).1 (List.of_mem_zip hv).1,if_pos hk]
  simp
 | p::P,w::vs,i+1,m,nd,h1,h2,hk=>by
  show bindL kindOf ((p,w)::P.zip vs) m x=_
  unfold bindL
  exact N7 (i:=i) (Io.mp nd).2 (by simpa using h1) (by simpa using h2) hk
theorem Ju{kindOf:Str→Option NameKind}{x:Str}{v:Value}:∀{P:List Str} {vs:List Value} {i:Nat} {m:Str→Option Value},P.Nodup→P[i]?=some x→vs[i]?=some v→kindOf x≠some .local→
  bindC kindOf (P.zip vs) m x=some v
 | [],_,_,_,_,h,_,_=>by simp at h
 | _::_,[],_,_,_,_,h,_=>by simp at h
 | p::P,w::vs,0,m,nd,h1,h2,hk=>by
  simp at h1 h2;subst h1;subst h2
  show bindC kindOf ((p,w)::P.zip vs) m p=_
  unfold bindC
  rw[Jk fun v hv=>(Io.mp nd).1 (List.of_mem_zip hv).1,if_neg hk]
  simp
 | p::P,w::vs,i+1,m,nd,h1,h2,hk=>by
  show bindC kindOf ((p,w)::P.zip vs) m x=_
  unfold bindC
  exact Ju (i:=i) (Io.mp nd).2 (by simpa using h1) (by simpa using h2) hk
noncomputable def start(N:List Str)(vs:List V):St:=vs.map some++Dn (N.length - vs.length) none
def cxOf(CX:CXT)(P:Program)(w:World)(K:Af)(mg:Str→Option Value)(base:Heap)(N:List Str)(qual:Str)(scope:Scope)(f:Addr)(cd:Value)(A:Around)(outer:List Env)(s:Shared)(H:Hp)(E:XK):Cx where
 prog:=P
 w:=w
 K:=K
 mg:=mg
 base:=base
 A:=A.deeper (envOfC qual scope s.heap.objs.size f cd)
 N:=N
 s₀:=s
 H₀:=H
 env:=envOfC qual scope s.heap.objs.size f cd
 outer:=outer
 stack:=envOfC qual scope s.heap.objs.size f cd::outer
 ex:=[]
 calm:=true
 fn:=fun _=>true
 pn:=[]
 xe:=fun e s'=>wpAny (model P w) (A.deeper (envOfC qual scope s.heap.objs.size f cd)) (leaving (envOfC qual scope s.heap.objs.size f cd) e) (fun _ s''=>CX outer H s E e s'') (fun e' s''=>CX outer H s E e' s'') s'
theorem Ej{sc:Scope}{n:Nat}{x:Str}(h:sc.names.lookup x=some .cell):∃c,(cellsFrom n sc.names []).lookup x=some c:=by
 have q:=PySem.W.cellsFrom_some sc.names n [] (.inl h)
 exact Ky.mp q
theorem Z06{CX:CXT}{P:Program}{w:World}{K:Af}{mg:Str→Option Value}{base:Heap}{N ps:List Str}{qual:Str}{scope:Scope}{f:Addr}{cd:Value}{A:Around}{outer:List Env}{s s1:Shared}{H:Hp}{E:XK}{us:List Value}{vs:List V}
  (S:FnScope N ps scope) (hd:A.handled=none) (e0:Env0 P w K mg base A outer s H) (hl:vs.length=ps.length) (r:Vals vs us)
  (x:InCallC s s.heap.objs.size (bindL (envOfC qual scope s.heap.objs.size f cd).kindOf (ps.zip us) fun _=>none) (cellsFrom (s.heap.objs.size+1) scope.names []) (bindC (envOfC qual scope s.heap.objs.size f cd).kindOf (ps.zip us) fun _=>none) s1):
  Inv (cxOf CX P w K mg base N qual scope f cd A outer s H E) [] (start N vs) H s1:=by
 have hpl:ps.length≤N.length:=by have:=congrArg Mi S.pre;rw[Hs] at this;omega
 obtain⟨h1,tk,rfl,hk⟩:=x.done
 have noA:∀b:Addr,b∉(cxOf CX P w K mg base N qual scope f cd A outer s H E).ex:=fun b z=>absurd (show b∈([]:List Addr) from z) (by simp)
 refine⟨⟨e0.mod,S.kind,rfl,rfl,Nat.le_refl _,fun y z c h1 h2=>?_,fun y hy=>?_,fun y c _ h=>?_,fun _=>hd,Around.frames_deeper e0.frames,.inr ⟨rfl,rfl⟩,fun b z=>absurd z (noA b),e0.bs,e0.bsz,fun b _ _=>noA b,fun b z=>absurd z (noA b),e0.funs,e0.frf⟩,
  rfl,e0.bare,Un.kept hk,⟨_,x.toInCall.ns,fun i y v h1 h2 h3=>?_⟩,fun y c h=>⟨_,x.cell y c h⟩,e0.hok.fresh (Nat.le_refl _),fun y c h=>?_,fun p hp=>absurd (show p∈([]:List (Addr×Obj)) from hp) (by simp),e0.hok.kept hk,?_⟩
 ·exact name_of_addr x.apart (Lh h1) (Lh h2)
 ·have hy:scope.names.lookup y=some .cell∨scope.names.lookup y=some .free:=hy
  rcases hy with hy | hy
  ·exact Ej hy
  ·exact absurd rfl (S.nofree _ (Lh hy))
 ·exact Nat.le_of_lt (x.above y c (Lh h))
 ·have hi:i<vs.length:=by
   unfold start at h2
   by_cases hi:i<vs.length
   ·exact hi
   ·rw[Dc (by simpa using hi)] at h2
    rw[List.getElem?_replicate] at h2
    split at h2<;>cases h2
  have ha:vs[i]?=some v:=by
   unfold start at h2
   rw[Dk (by simpa using hi),Ai] at h2
   cases e:vs[i]? with
   | none=>rw[e] at h2;cases h2
   | some a=>rw[e] at h2;cases h2;rfl
  obtain⟨u,hu,rv⟩:=r.get ha
  have hp:ps[i]?=some y:=by
   rw[←S.pre,List.getElem?_take_of_lt (by omega)];exact h1
  have ndP:ps.Nodup:=by rw[←S.pre];exact S.nd.sublist (List.take_sublist _ _)
  refine⟨u,rv,?_⟩
  rcases S.par y (Dx hp) with k | k
  ·exact .inl ⟨k,N7 ndP hp hu k⟩
  ·obtain⟨c,e⟩:=Ej (n:=s.heap.objs.size+1) k
   refine .inr ⟨.inl k,c,e,?_⟩
   have q:=x.cell y c e
   rw[Ju ndP hp hu (by show scope.names.lookup y≠_;rw[k];decide)] at q
   exact q
 ·exact e0.hok.fresh (Nat.le_of_lt (x.above y c (Lh h)))
 ·unfold start
  show _=N.length
  rw[Ae,Ab,List.length_replicate]
  omega
theorem Yc0{CX:CXT}{P:Program}{w:World}{K:Af}{mg:Str→Option Value}{base:Heap}{k:Nat}{f:Addr}{name qual:Str}{params:Arguments}{body:List Stmt}{scope:Scope}{dV kV doc pm cdv ct oc:Value}{an od:Option Addr}
  {osl:Array (Option Value)} {N ps:List Str} {sp:Sp} (lk:K.lookup f=some ⟨oc,od,.func (Km name qual params body scope dV kV doc pm an cdv ct),osl⟩) (hcd:Mf K cdv qual=true) (S:FnScope N ps scope)
  (len:∀vs H Q E,sp vs H Q E→vs.length=ps.length)
  (hbody:∀(A:Around) (outer:List Env) (s:Shared) (H:Hp) (vs:List V) (Q:VK) (E:XK),Room k (A.deeper (envOfC qual scope s.heap.objs.size f cdv))→sp vs H Q E→
   ∃t,PSs (cxOf CX P w K mg base N qual scope f cdv A outer s H E) body t∧t {nx:=fun _ H'=>Q .non H',rt:=Q} (start N vs) H):
  FnOk P w K mg base CX (k+1) f (Km name qual params body scope dV kV doc pm an cdv ct) ps sp:=by
 refine⟨len,fun A outer s H args us vs Q E hr e0 hb r hsp=>?_⟩
 have hl:=len _ _ _ _ hsp
 have KX:K.In s.heap:=e0.mod.kin.keeps fun b o e=>(e0.bs b o e).1
 have lim:s.heap.NoLimit:=e0.mod.nolimit.keeps fun b o e=>(e0.bs b o e).1
 have hkind:∀y∈ps.zip us,scope.names.lookup y.1=some .local∨(scope.names.lookup y.1=some .cell∧((cellsFrom (s.heap.objs.size+1) scope.names []).lookup y.1).isSome=true):=fun⟨n,v⟩ hy=>by
  rcases S.par n (List.of_mem_zip hy).1 with q | q
  ·exact .inl q
  ·exact .inr ⟨q,PySem.W.cellsFrom_some _ _ _ (.inl q)⟩
 refine codeAny_call_function hr.depth (KX _ _ lk) rfl S.co S.gen rfl (PySem.W.codeRec_of KX hcd) (hb _ _ _ _ ?_)
 refine wpAny_newFunctionEnv_cells S.kind hkind fun env he s1 x=>?_
 subst he
 refine⟨lim.keeps x.toInCall.keep,codeAny_func ?_⟩
 obtain⟨t,ht,hq⟩:=hbody A outer s H vs Q E (hr.deeper _) hsp
 have I:Inv (cxOf CX P w K mg base N qual scope f cdv A outer s H E) [] (start N vs) H s1:=Z06 S hr.hd e0 hl r x
 refine Hl (ht [] s1 (start N vs) H _ I hq) (fun fl s' hs=>?_) fun e s' hs=>hs
 have fin:∀{σ':St} {H':Hp} {v:V} {u:Value},Inv (cxOf CX P w K mg base N qual scope f cdv A outer s H E) [] σ' H' s'→RelV v u→Q v H'→CE outer P w H s Q u s':=
  fun{σ' H' v u} J rv q=>⟨v,H',J.os,J.bare,J.base,J.hok,rv,q⟩
 cases fl with
 | ret u=>
  obtain⟨v,σ',H',J,rv,q⟩:=hs
  exact fin J rv q
 | next=>
  obtain⟨σ',H',J,q⟩:=hs
  exact fin (v:=V.non) (u:=Lm) J rfl q
 | brk=>
  obtain⟨_,_,_,q⟩:=hs
  exact Dq q
 | cont=>
  obtain⟨_,_,_,q⟩:=hs
  exact Dq q
section
variable{X:Cx}{x:Str}{p pos:Pos}{e:Expr}{es:List Expr}{t:TA}{id T:String}{r:List V→Hp→VK→Prop}
def tCB(r:List V→Hp→VK→Prop)(t:TA):TE:=fun σ H Q=>t σ H fun vs H1=>r vs H1 Q
theorem Zg9(hc:Wm X (.builtin id) r)(hg:Gl X x)(hm:X.mg x=none)(hv:bootBuiltins x=some (.builtin id))(ha:PA X (e::es) t)(hn:x≠"__name__":=by decide)(hdb:(x==("__debug__":Str))=false:=by decide)
  (he:starEach (e::es) X.env=(false,eval e X.env)::starEach es X.env:=by rfl) (hpl:(backTo pos (starEach es X.env)).any (·.1)=false:=by rfl):PE X (.Call (.Name x p) (e::es) [] pos) (tCB r t):=by
 intro pins s σ H Q I h
 refine Lp (Qc I hg hm hv ?_ hn hdb)
 exact PyProof.Rows.callWith_builtin1 (thn (ha pos pins s σ H _ I h) fun us s1 zz29=>by obtain⟨vs,H1,I1,r1,q1⟩:=zz29;exact hc pins s1 σ H1 vs us Q I1 r1 q1) he hpl
theorem Sy(hc:Wm X (.type T) r)(hg:Gl X x)(hm:X.mg x=none)(hv:bootBuiltins x=some (.type T))(ha:PA X (e::es) t)(hn:x≠"__name__":=by decide)(hdb:(x==("__debug__":Str))=false:=by decide)
  (he:starEach (e::es) X.env=(false,eval e X.env)::starEach es X.env:=by rfl) (hpl:(backTo pos (starEach es X.env)).any (·.1)=false:=by rfl):PE X (.Call (.Name x p) (e::es) [] pos) (tCB r t):=by
 intro pins s σ H Q I h
 refine Lp (Qc I hg hm hv ?_ hn hdb)
 exact Kl (thn (ha pos pins s σ H _ I h) fun us s1 zz30=>by obtain⟨vs,H1,I1,r1,q1⟩:=zz30;exact hc pins s1 σ H1 vs us Q I1 r1 q1) he hpl
end
end L2
namespace HT
open PySem PyProof.Rows
section
open PySem.SeqAt
open PySem.AutoSeq1 (wpAny_loadPart')
open PySem.MeetsSeq PySem.MeetsSeq2 PySem.MeetsSeq3
end
section
variable{prog:Program}{w:World}{A:Around}{E:Value→Shared→Prop}{s:Shared}
theorem Zx4{t b:Addr}{vs ws:List Value}{Q:Value→Shared→Prop}(ht:IsTup s.heap t vs.toArray)(hb:IsTup s.heap b ws.toArray)(hv:vs≠[])
  (h1:ws=[]→Q (.ref t) s) (h2:ws≠[]→Q (.ref s.heap.objs.size) {s with heap:=s.heap.push {cls:= .type "tuple",data:= .seq (vs++ws).toArray}})
  (hsz:vs.length+ws.length≤sizeLine):wpAny (model prog w) A (binaryOp .Add (.ref t) (.ref b)) Q E s:=by
 obtain⟨⟨cls,dd,data,sl⟩,ho,hc,n,hd⟩:=id ht
 obtain⟨⟨cls2,dd2,data2,sl2⟩,ho2,hc2,n2,hd2⟩:=id hb
 simp only at hc hd hc2 hd2
 subst hc hd hc2 hd2
 have e:vs.toArray++ws.toArray=(vs++ws).toArray:=by simp
 by_cases hw:ws=[]
 ·exact concat_meets ⟨_,ho,rfl⟩ ⟨_,ho2,rfl⟩ noFill_tuple_add seq_tuple_add PySem.F.slot_tuple_add PySem.F.entry_tuple_add (PySem.F.args_tuple_add_2 _ _)
   (tuple_addW1 t b vs.toArray ws.toArray n n2 dd dd2 sl sl2 (by simpa using hv) (by simp[hw])) ⟨ho,ho2,h1 hw⟩
 ·refine concat_meets ⟨_,ho,rfl⟩ ⟨_,ho2,rfl⟩ noFill_tuple_add seq_tuple_add PySem.F.slot_tuple_add PySem.F.entry_tuple_add (PySem.F.args_tuple_add_2 _ _)
   (tuple_addW2 t b vs.toArray ws.toArray n n2 dd dd2 sl sl2 (by simpa using hv) (by simpa using hw) (by rw[Ah,Ah];exact hsz)) ⟨ho,ho2,?_⟩
  rw[e]
  exact h2 hw
noncomputable def sIx(n d:Nat):Option Int→Nat
 | none=>d
 | some v=>if v<0 then(v+(n:Int)).toNat else min v.toNat n
theorem Y28(n d:Nat)(hd:d≤n)(o:Option Int):sIx n d o≤n:=by
 cases o with
 | none=>exact hd
 | some v=>
  show(if v<0 then(v+(n:Int)).toNat else min v.toNat n)≤n
  by_cases hv:v<0
  ·rw[if_pos hv];omega
  ·rw[if_neg hv];exact Nat.min_le_right _ _
theorem Z20(v:Int)(n d:Nat):(if v<0 then max (v+(n:Int)) 0 else min v (n:Int))=((sIx n d (some v):Nat):Int):=by
 show(if v<0 then max (v+(n:Int)) 0 else min v (n:Int))=(((if v<0 then(v+(n:Int)).toNat else min v.toNat n):Nat):Int)
 by_cases hv:v<0
 ·simp only[if_pos hv];omega
 ·simp only[if_neg hv];omega
theorem Cz(lo hi:Option Int)(n:Nat):Builtin.Slice.sliceAdjust lo hi 1 (n:Int)=(((sIx n 0 lo:Nat):Int),((sIx n n hi:Nat):Int)):=by
 have h1:¬((1:Int)<0):=by omega
 unfold Builtin.Slice.sliceAdjust
 simp only[h1,if_false]
 refine Prod.ext ?_ ?_
 ·cases lo with
  | none=>rfl
  | some v=>exact Z20 v n 0
 ·cases hi with
  | none=>rfl
  | some v=>exact Z20 v n n
theorem B4(i j:Nat):Kw (i:Int) (j:Int) 1=j - i:=by
 unfold Kw
 have h1:(1:Int) >0:=by omega
 simp only[h1,if_true,Int.ediv_one]
 split<;>omega
theorem Pa(p:IsPart v o)(h:Q o s):wpAny (model prog w) A (Builtin.Slice.slicePartIndex v) Q E s:=by
 cases p with
 | none=>exact slicePart_none h
 | int i t=>exact slicePart_int h
theorem Xk{sl:Addr}{vl vu:Value}{lo hi:Option Int}{n:Nat}{Q:Int×Int×Nat→Shared→Prop}(hs:s.heap.IsSliceOf sl vl vu .none)(pl:IsPart vl lo)(pu:IsPart vu hi)
  (h:Q (((sIx n 0 lo:Nat):Int),1,sIx n n hi - sIx n 0 lo) s):wpAny (model prog w) A (Builtin.Slice.sliceApplied (.ref sl) (pure (n:Int))) Q E s:=by
 obtain⟨os,hos,hcs,hds⟩:=id hs
 unfold Builtin.Slice.sliceApplied Builtin.Slice.sliceFields
 refine Aa (Aa (Hq hos hds (x:=vl) rfl (Aa (Hq hos hds (x:=vu) rfl (Aa (Hq hos hds (x:= .none) rfl (Ak ?_)))))))
 refine Aa (slicePart_none ?_)
 show wpAny _ _ (if ((1:Int)==0)=true then _ else _) _ _ s
 rw[if_neg (by decide)]
 refine Aa (Pa pl (Aa (Pa pu (Aa (Ak ?_)))))
 show wpAny _ _ (match Builtin.Slice.sliceAdjust lo hi 1 (n:Int) with | (lo,hi)=>pure (lo,(1:Int),Kw lo hi 1)) _ _ s
 rw[Cz lo hi n]
 show wpAny _ _ (pure (((sIx n 0 lo:Nat):Int),(1:Int),Kw ((sIx n 0 lo:Nat):Int) ((sIx n n hi:Nat):Int) 1)) _ _ s
 rw[B4]
 exact Ak h
theorem Zk3(xs:Array Value)(i k:Nat):((Ay k).filterMap fun(m:Nat)=>xs[((i:Int)+(m:Int) * 1).toNat]?).toArray=((xs.toList.drop i).take k).toArray:=by
 have e:(fun(m:Nat)=>xs[((i:Int)+(m:Int) * 1).toNat]?)=fun m=>xs[i+m]?:=by
  funext m
  have:((i:Int)+(m:Int) * 1).toNat=i+m:=by omega
  rw[this]
 rw[e]
 have:=pick_run xs i k
 rw[List.filterMap_map] at this
 have e2:((fun x=>xs[x]?) ∘ fun x=>i+x)=fun m=>xs[i+m]?:=rfl
 rw[e2] at this
 rw[this]
theorem Vr{t sl:Addr}{items:Array Value}{vl vu:Value}{lo hi:Option Int}{Q:Value→Shared→Prop}(ht:IsTup s.heap t items)(hs:s.heap.IsSliceOf sl vl vu .none)(pl:IsPart vl lo)(pu:IsPart vu hi)
  (hw:¬(sIx items.size 0 lo=0∧sIx items.size items.size hi=items.size))
  (h:Q (.ref s.heap.objs.size) {s with heap:=s.heap.push {cls:= .type "tuple",data:= .seq ((items.toList.drop (sIx items.size 0 lo)).take (sIx items.size items.size hi - sIx items.size 0 lo)).toArray}})
  (hsz:items.size≤sizeLine):wpAny (model prog w) A (getItem (.ref t) (.ref sl)) Q E s:=by
 have htake:sizeOk (.seq ((items.toList.drop (sIx items.size 0 lo)).take (sIx items.size items.size hi - sIx items.size 0 lo)).toArray):=by
  show((items.toList.drop (sIx items.size 0 lo)).take (sIx items.size items.size hi - sIx items.size 0 lo)).toArray.size≤sizeLine
  rw[Ah,Hs,Lz,Ir]
  omega
 have hj:sIx items.size items.size hi≤items.size:=Y28 _ _ (Nat.le_refl _) hi
 obtain⟨os,hos,hcs,hds⟩:=id hs
 have hTs:s.TypeIs (.ref sl) "slice":=⟨os,hos,hcs⟩
 unfold getItem
 try with_reducible refine Hu ?_
 first | refine Aa (Ak ?_) | skip
 refine Aa (wpAny_sequenceKey ht.typeIs (by decide) ?_)
 refine Aa (Ii (name:=Str.ofString "__getitem__") ht.typeIs Hg
  (Kz Hg ht.typeIs entry_tuple_getitem ?_ (args_tuple_getitem _ _)))
 show wpAny _ _ (Builtin.Tuple.tupleItemsOf (.ref t) >>=_) _ _ s
 refine Aa (tupleItemsOf_ ht ?_)
 refine Aa (wpAny_typeOf hTs ?_)
 rw[if_pos (by decide)]
 refine Aa (Xk hs pl pu ?_)
 have hno:¬((((sIx items.size 0 lo:Nat):Int)==0&&(1:Int)==1&&(sIx items.size items.size hi - sIx items.size 0 lo)==items.size)=true):=by
  intro q
  rw[Bz9,Bz9] at q
  have q1:((sIx items.size 0 lo:Nat):Int)=0:=Kn q.1.1
  have q2:sIx items.size items.size hi - sIx items.size 0 lo=items.size:=Kn q.2
  exact hw ⟨by omega,by omega⟩
 show wpAny _ _ (if (((sIx items.size 0 lo:Nat):Int)==0&&(1:Int)==1&&(sIx items.size items.size hi - sIx items.size 0 lo)==items.size)=true then _ else _) _ _ s
 rw[if_neg hno,Zk3]
 first
  | exact Aa (m:=La _) (Il (Ak ⟨_,rfl,Ak h⟩) htake)
  | exact Aa (m:=La _) (Il (Aa (Ak (Ak ⟨_,rfl,Ak h⟩))) htake)
  | exact Aa (Aa (m:=La _) (Il (Ak (Ak ⟨_,rfl,Ak h⟩)) htake))
  | exact Aa (Aa (m:=La _) (Il (Ak ⟨_,rfl,Ak h⟩) htake))
end
end HT
namespace L2
open PySem PySem.Spec PyProof.Rows
abbrev TO:=St→Hp→(Option Int→Hp→Prop)→Prop
def PO(X:Cx)(e:Option Expr)(t:TO):Prop:=
 ∀(pins:List (Addr×Obj)) (s:Shared) (σ:St) (H:Hp) (Q:Option Int→Hp→Prop),Inv X pins σ H s→t σ H Q→
  wpAny (model X.prog X.w) X.A (evalPart e X.env) (fun u s'=>∃o H',Inv X pins σ H' s'∧IsPart u o∧Q o H') X.xe s
def Zv3:TO:=fun _ H Q=>Q none H
def Yd0(t:TE):TO:=fun σ H Q=>t σ H fun x H1=>∃i,x= .int i∧Q (some i) H1
section
variable{X:Cx}{e:Expr}{te:TE}{lo hi:Option Expr}{tl th:TO}{pos p2:Pos}
theorem Zx3:PO X none Zv3:=by
 intro pins s σ H Q I h
 rw[evalPart_none]
 exact Ak ⟨none,H,I,.none,h⟩
theorem Zr9(h:PE X e te):PO X (some e) (Yd0 te):=by
 intro pins s σ H Q I hw
 rw[evalPart_some]
 refine thn (h pins s σ H _ I hw) fun u s1 zz31=>?_
 obtain⟨x,H1,I1,r1,q1⟩:=zz31
 obtain⟨i,rfl,q⟩:=q1
 obtain⟨t,rfl⟩:=r1
 exact⟨some i,H1,I1,.int i t,q⟩
def SlR(X:Cx)(r:V→Option Int→Option Int→Hp→VK→Prop):Prop:=
 ∀(pins:List (Addr×Obj)) (s:Shared) (σ:St) (H:Hp) (x:V) (v vl vu:Value) (lo hi:Option Int) (sl:Addr) (Q:VK),Inv X pins σ H s→RelV x v→s.heap.IsSliceOf sl vl vu .none→IsPart vl lo→IsPart vu hi→r x lo hi H Q→
  ∃T id,typeLookup (.type T) "__getitem__"=pure (some (.builtin id))∧s.TypeIs v T∧wpAny (model X.prog X.w) X.A (getItem v (.ref sl)) (EP X pins σ Q) X.xe s
def tSl(r:V→Option Int→Option Int→Hp→VK→Prop)(te:TE)(tl th:TO):TE:=fun σ H Q=>te σ H fun x H1=>tl σ H1 fun l H2=>th σ H2 fun u H3=>r x l u H3 Q
theorem Fg(hr:SlR X r)(he:PE X e te)(hl:PO X lo tl)(hu:PO X hi th):PE X (.Subscript e (.Slice lo hi none p2) pos) (tSl r te tl th):=by
 intro pins s σ H Q I h
 refine Subscript_ (thn (he pins s σ H _ I h) fun v s1 zz32=>?_)
 obtain⟨x,H1,I1,r1,q1⟩:=zz32
 refine wpAny_Slice (thn (hl pins s1 σ H1 _ I1 q1) fun vl s2 ⟨l,H2,I2,pl,q2⟩=>thn (hu pins s2 σ H2 _ I2 q2) fun vu s3 zz34=>?_)
 obtain⟨u,H3,I3,pu,q3⟩:=zz34
 rw[evalPart_none]
 refine Ak ?_
 have I4:Inv X pins σ H3 {s3 with heap:=s3.heap.push {cls:= .type "slice",data:= .fields #[vl,vu,.none]}}:=I3.kept (t':=s3.toks) fun b ob q=>An _ q
 obtain⟨T,id,hT,ht,hg⟩:=hr pins {s3 with heap:=s3.heap.push {cls:= .type "slice",data:= .fields #[vl,vu,.none]}} σ H3 x v vl vu l u s3.heap.objs.size Q I4 r1 (Heap.IsSliceOf.new ..) pl pu q3
 show wpAny (model X.prog X.w) X.A (subscriptTail e (.Slice lo hi none p2) v (.ref s3.heap.objs.size)) (EP X pins σ Q) X.xe {s3 with heap:=s3.heap.push {cls:= .type "slice",data:= .fields #[vl,vu,.none]}}
 exact tail_any (ops:=[.ref s3.heap.objs.size,v]) ht hT hg (by with_unfolding_all rfl)
noncomputable def cutV(xs:List V)(lo hi:Option Int):List V:=(xs.drop (HT.sIx xs.length 0 lo)).take (HT.sIx xs.length xs.length hi - HT.sIx xs.length 0 lo)
theorem Rx(xs:List V)(lo hi:Option Int):(cutV xs lo hi).length≤xs.length:=by
 unfold cutV
 rw[Hs,Lz]
 omega
def rSlT(K:Af):V→Option Int→Option Int→Hp→VK→Prop:=fun x lo hi H Q=>∃a xs,x= .ref a∧SqT K H a xs∧
 ¬(HT.sIx xs.length 0 lo=0∧HT.sIx xs.length xs.length hi=xs.length)∧∀p,H p=none→Q (.ref p) (upd H p (.tup (cutV xs lo hi)))
theorem Zp3:SlR X (rSlT X.K):=by
 intro pins s σ H x v vl vu lo hi sl Q I rx hs pl pu h
 obtain⟨a,xs,rfl,hx,hw,q⟩:=h
 cases rx
 obtain⟨its,r,ht,hz⟩:=I.tuple hx
 have hlen:its.toArray.size=xs.length:=by rw[Ah];exact r.length.symm
 refine⟨"tuple",_,Hg.lookup,ht.typeIs,?_⟩
 refine HT.Vr ht hs pl pu (by rw[hlen];exact hw) ?_ (by rw[hlen];exact hz)
 rw[hlen]
 refine⟨.ref s.heap.objs.size,_,I.laid (t':=s.toks) (o:= .tup (cutV xs lo hi)) (fun b ob q=>An _ q) (Nat.le_refl _) ?_,rfl,q _ (I.hok.fresh (Nat.le_refl _))⟩
 exact⟨Nat.le_trans (Rx xs lo hi) hz,_,(r.drop (HT.sIx xs.length 0 lo)).take (HT.sIx xs.length xs.length hi - HT.sIx xs.length 0 lo),IsTup.new _ _⟩
def Yc5(K:Af):R2:=fun x y H Q=>∃a b xs ys,x= .ref a∧y= .ref b∧SqT K H a xs∧SqT K H b ys∧xs≠[]∧xs.length+ys.length≤sizeLine∧
 (ys=[]→Q (.ref a) H)∧(ys≠[]→∀p,H p=none→Q (.ref p) (upd H p (.tup (xs++ys))))
theorem Vals.nil_iff(r:Vals xs us):us=[]↔xs=[]:=by
 cases r with
 | nil=>simp
 | cons _ _=>simp
theorem Zs9:OpR X (binaryOp .Add) (Yc5 X.K):=by
 intro pins s σ H x y v u Q I rx ry h
 obtain⟨a,b,xs,ys,rfl,rfl,ha,hb,hx,hz,q1,q2⟩:=h
 cases rx
 cases ry
 obtain⟨its,r1,p1,_⟩:=I.tuple ha
 obtain⟨its2,r2,p2,_⟩:=I.tuple hb
 refine HT.Zx4 p1 p2 (fun z=>hx (r1.nil_iff.mp z)) (fun z=>⟨.ref a,H,I,rfl,q1 (r2.nil_iff.mp z)⟩) (fun z=>?_) (by rw[←r1.length,←r2.length];exact hz)
 refine⟨.ref s.heap.objs.size,_,I.laid (t':=s.toks) (o:= .tup (xs++ys)) (fun b ob q=>An _ q) (Nat.le_refl _) ?_,rfl,q2 (fun w=>z (r2.nil_iff.mpr w)) _ (I.hok.fresh (Nat.le_refl _))⟩
 exact⟨by rw[Ae];exact hz,_,r1.append r2,IsTup.new _ _⟩
end
noncomputable def ixN(n:Nat)(i:Int):Option Nat:=if 0≤i then(if i<n then some i.toNat else none) else if -(n:Int)≤i then some (i+n).toNat else none
noncomputable def atI{α:Type}(xs:List α)(i:Int):Option α:=(ixN xs.length i).bind fun j=>xs[j]?
theorem Zc3{n:Nat}(h:ixN n i=some j):seqIndex? i n=some j∧j<n∧ -(n:Int)≤i∧i<n:=by
 unfold ixN at h
 by_cases h0:0≤i
 ·rw[if_pos h0] at h
  by_cases h1:i<n
  ·rw[if_pos h1] at h
   have e:i.toNat=j:=Aw h
   exact⟨by rw[seqIndex_of h0 h1,e],by omega,by omega,h1⟩
  ·rw[if_neg h1] at h;cases h
 ·rw[if_neg h0] at h
  by_cases h1:-(n:Int)≤i
  ·rw[if_pos h1] at h
   have e:(i+n).toNat=j:=Aw h
   exact⟨by rw[seqIndex_neg (by omega) h1,e],by omega,h1,by omega⟩
  ·rw[if_neg h1] at h;cases h
theorem G7{α:Type}{xs:List α}{i:Int}{v:α}(h:atI xs i=some v):∃j,seqIndex? i xs.length=some j∧xs[j]?=some v∧j<xs.length∧ -(xs.length:Int)≤i∧i<xs.length:=by
 unfold atI at h
 cases e:ixN xs.length i with
 | none=>rw[e] at h;cases h
 | some j=>
  rw[e] at h
  obtain⟨h1,h2,h3,h4⟩:=Zc3 e
  exact⟨j,h1,h,h2,h3,h4⟩
theorem Xd{α:Type}{xs:List α}{j:Nat}{v:α}(h:xs[j]?=some v):atI xs (j:Int)=some v:=by
 have hj:j<xs.length:=(Ac.mp h).1
 have e:ixN xs.length (j:Int)=some j:=by
  unfold ixN
  rw[if_pos (by omega),if_pos (by omega)];simp
 unfold atI;rw[e];exact h
theorem S9{α:Type}(xs:List α)(v:α):atI (xs++[v]) (-1)=some v:=by
 have hl:(xs++[v]).length=xs.length+1:=by simp
 have e:ixN (xs++[v]).length (-1)=some xs.length:=by
  unfold ixN
  rw[hl,if_neg (by decide),if_pos (by omega)]
  congr 1
  omega
 unfold atI
 rw[e]
 show(xs++[v])[xs.length]?=some v
 simp
def Z46(b:Expr):Prop:=∀o i,subscripted b false o i=operate [o,i] (getItem o i)
def IxR(X:Cx)(r:R2):Prop:=
 ∀(value slice:Expr) (pins:List (Addr×Obj)) (s:Shared) (σ:St) (H:Hp) (x y:V) (v u:Value) (Q:VK),Inv X pins σ H s→RelV x v→RelV y u→r x y H Q→
  subscripted slice false v u=operate [v,u] (getItem v u)→wpAny (model X.prog X.w) X.A (subscriptTail value slice v u) (EP X pins σ Q) X.xe s
def MtR(X:Cx)(id:String)(r:V→List V→Hp→VK→Prop):Prop:=
 ∀(pins:List (Addr×Obj)) (s:Shared) (σ:St) (H:Hp) (x:V) (xs:List V) (v:Value) (us:List Value) (Q:VK),Inv X pins σ H s→RelV x v→Vals xs us→r x xs H Q→
  wpAny (model X.prog X.w) X.A (call (.builtin id) (v::us)) (EP X pins σ Q) X.xe s
section
variable{X:Cx}{a b:Expr}{ta tb:TE}{pos:Pos}
theorem Yd1(hr:IxR X r)(ha:PE X a ta)(hb:PE X b tb)(hs:Z46 b):PE X (.Subscript a b pos) (tOp r ta tb):=by
 intro pins s σ H Q I h
 exact Subscript_ (binT ha hb I h fun v u s2 x y H2 I2 rx ry q=>hr a b pins s2 σ H2 x y v u Q I2 rx ry q (hs _ _))
def rIxL(K:Af):R2:=fun x y H Q=>∃p xs i v,x= .ref p∧y= .int i∧SqL K H p xs∧atI xs i=some v∧Q v H
def rIxT(K:Af):R2:=fun x y H Q=>∃p xs i v,x= .ref p∧y= .int i∧SqT K H p xs∧atI xs i=some v∧Q v H
def rIxS:R2:=fun x y H Q=>∃z i c,x= .str z∧y= .int i∧z.length≤sizeLine∧atI z.cps.toList i=some c∧Q (.str ⟨#[c]⟩) H
theorem Zs2:IxR X (rIxL X.K):=by
 intro value slice pins s σ H x y v u Q I rx ry h hs
 obtain⟨p,xs,i,z,rfl,rfl,hq,he,q⟩:=h
 cases rx
 obtain⟨t,rfl⟩:=ry
 obtain⟨its,r,pl,hz⟩:=I.list hq
 obtain⟨j,h1,h2,h3,h4,h5⟩:=G7 he
 obtain⟨w,ew,rw'⟩:=r.get h2
 have hl:=r.length
 have hn:=Sq
 have fin:EP X pins σ Q w s:=⟨z,H,I,rw',q⟩
 by_cases h0:0≤i
 ·have hj:i.toNat=j:=by
   rw[seqIndex_of h0 h5] at h1
   exact Aw h1
  exact item_listR pl.isList h0 (by omega) (by rw[hj];simpa using ew) fin hs
 ·have hj:(i+(its.toArray.size:Int)).toNat=j:=by
   rw[seqIndex_neg (by omega) h4] at h1
   rw[Ah,←hl]
   exact Aw h1
  exact subscriptTail_builtinR (x:=w) pl.isList.typeIs slot_list_getitem.lookup
   (wpAny_getItem_list_neg (Q:=fun r s'=>r=w∧EP X pins σ Q r s') pl.isList (by omega) (by rw[Ah]<;>omega) (by omega) (by rw[hj];simpa using ew) ⟨rfl,fin⟩) hs
theorem Zo9:IxR X (rIxT X.K):=by
 intro value slice pins s σ H x y v u Q I rx ry h hs
 obtain⟨p,xs,i,z,rfl,rfl,hq,he,q⟩:=h
 cases rx
 obtain⟨t,rfl⟩:=ry
 obtain⟨its,r,pl,hz⟩:=I.tuple hq
 obtain⟨j,h1,h2,h3,h4,h5⟩:=G7 he
 obtain⟨w,ew,rw'⟩:=r.get h2
 have hl:=r.length
 have hn:=Sq
 have fin:EP X pins σ Q w s:=⟨z,H,I,rw',q⟩
 exact subscriptTail_builtinR (x:=w) pl.typeIs slot_tuple_getitem.lookup
  (getItem_tuple (j:=j) (Q:=fun r s'=>r=w∧EP X pins σ Q r s') pl (by omega) (by omega) (by rw[Ah,←hl];exact h1) (by simpa using ew) ⟨rfl,fin⟩) hs
theorem Y13:IxR X rIxS:=by
 intro value slice pins s σ H x y v u Q I rx ry h hs
 obtain⟨z,i,c,rfl,rfl,hz,he,q⟩:=h
 obtain⟨t,rfl⟩:=rx
 obtain⟨t',rfl⟩:=ry
 obtain⟨j,h1,h2,h3,h4,h5⟩:=G7 he
 have hl:z.cps.toList.length=z.length:=by simp[Str.length]
 rw[hl] at h1 h4 h5
 have hn:=Sq
 exact tail_any (typeIs_str s z t) slot_str_getitem.lookup (getItem_str (c:=c) (by
  have e1:decide (i< -(2 ^ 63:Int))=false:=decide_eq_false (by omega)
  have e2:decide (i ≥ 2 ^ 63)=false:=decide_eq_false (by omega)
  rw[e1,e2,Bool.or_false]) (by rw[h1];simpa using h2) ⟨.str ⟨#[c]⟩,H,I.tok _,⟨_,rfl⟩,q⟩) hs
theorem Cq(its:List Value)(n j:Nat)(u:Value):Ki (·.setIfInBounds j u) {cls:= .type "list",data:= .seq its.toArray n}={cls:= .type "list",data:= .seq (its.set j u).toArray n}:=by
 simp[Ki]
theorem Inv.lst{pins:List (Addr×Obj)}{σ:St}{H:Hp}{s:Shared}{p:Addr}{xs:List V}(I:Inv X pins σ H s)(h:H p=some (.lst xs)):
  ∃(its:List Value) (n:Nat),Vals xs its∧s.heap.get? p=some {cls:= .type "list",data:= .seq its.toArray n}∧xs.length≤sizeLine:=by
 obtain⟨z,its,n,r,e⟩:=I.hok p _ h
 exact⟨its,n,r,e,z⟩
theorem Inv.lstUpd{pins:List (Addr×Obj)}{σ:St}{H:Hp}{s:Shared}{p:Addr}{xs ys:List V}{its its':List Value}{n n':Nat}{f:Obj→Obj}(I:Inv X pins σ H s)(h:H p=some (.lst xs))
  (ho:s.heap.get? p=some {cls:= .type "list",data:= .seq its.toArray n}) (hf:f {cls:= .type "list",data:= .seq its.toArray n}={cls:= .type "list",data:= .seq its'.toArray n'}) (r:Vals ys its') (hz:ys.length≤sizeLine) (t:Nat):
  Inv X pins σ (upd H p (.lst ys)) {s with heap:=s.heap.update p f,toks:=t}:=by
 have e:(s.heap.update p f).get? p=some {cls:= .type "list",data:= .seq its'.toArray n'}:=by
  rw[Iy f ho (by rw[hf]<;>rfl),hf]
 refine I.write (x:=p) (e:=p) (by rw[h];trivial) (.inl rfl) (fun b u hb q=>(Kj _ _ (Df hb)).trans q) ⟨_,e⟩ ?_
 exact⟨hz,its',n',r,e⟩
def Y42:V→V→V→Hp→(Hp→Prop)→Prop:=fun o i v H Q=>∃p xs k j,o= .ref p∧i= .int k∧H p=some (.lst xs)∧ixN xs.length k=some j∧Q (upd H p (.lst (xs.set j v)))
theorem Zf6:PSet X Y42:=by
 intro pins s σ H o i v ov iv u Q I ro ri rv h
 obtain⟨p,xs,k,j,rfl,rfl,hp,hj,q⟩:=h
 cases ro
 obtain⟨t,rfl⟩:=ri
 obtain⟨its,n,r,ho,hz⟩:=I.lst hp
 obtain⟨h1,h2,h3,h4⟩:=Zc3 hj
 have hl:=r.length
 have hn:=Sq
 have I':Inv X pins σ (upd H p (.lst (xs.set j v))) {s with heap:=s.heap.update p (Ki (·.setIfInBounds j u))}:=
  I.lstUpd hp ho (Cq its n j u) (r.set rv j) (by rw[Dt];exact hz) s.toks
 by_cases h0:0≤k
 ·have hk:k.toNat=j:=by
   rw[seqIndex_of h0 h4] at h1
   exact Aw h1
  exact PySem.W.ki_setAt ho h0 (by omega) (by rw[Ah,←hl];exact h4) (by rw[hk];exact⟨_,I',q⟩)
 ·have hk:(k+(its.toArray.size:Int)).toNat=j:=by
   rw[seqIndex_neg (by omega) h3] at h1
   rw[Ah,←hl]
   exact Aw h1
  exact PySem.W.ki_setBack ho (by omega) (by rw[Ah,←hl];exact h3) (by omega) (by rw[hk];exact⟨_,I',q⟩)
theorem Nz(lo hi:Option Int)(n:Nat):(sliceBounds lo hi none n).1=((HT.sIx n 0 lo:Nat):Int)∧(sliceBounds lo hi none n).2.1=((HT.sIx n n hi:Nat):Int)∧(sliceBounds lo hi none n).2.2=1:=by
 refine⟨?_,?_,rfl⟩
 ·cases lo with
  | none=>simp[sliceBounds,HT.sIx]
  | some i=>
   simp only[sliceBounds,HT.sIx,Option.getD_none,show(1:Int) >0 by decide,if_true]
   by_cases h:i<0
   ·simp only[h,if_true]<;>omega
   ·simp only[h,if_false]<;>omega
 ·cases hi with
  | none=>simp[sliceBounds,HT.sIx]
  | some i=>
   simp only[sliceBounds,HT.sIx,Option.getD_none,show(1:Int) >0 by decide,if_true]
   by_cases h:i<0
   ·simp only[h,if_true]<;>omega
   ·simp only[h,if_false]<;>omega
theorem Oy(its:List Value)(lo hi:Option Int):slicePick its.toArray lo hi none=((its.drop (HT.sIx its.length 0 lo)).take (HT.sIx its.length its.length hi - HT.sIx its.length 0 lo)).toArray:=by
 obtain⟨h1,h2,h3⟩:=Nz lo hi its.toArray.size
 unfold slicePick
 rw[h1,h2,h3]
 simp only[sliceRange_one,pick_run,Ah]<;>rfl
def rSlL(K:Af):V→Option Int→Option Int→Hp→VK→Prop:=fun x lo hi H Q=>∃a xs,x= .ref a∧SqL K H a xs∧∀p,H p=none→Q (.ref p) (upd H p (.lst (cutV xs lo hi)))
theorem Zs1:SlR X (rSlL X.K):=by
 intro pins s σ H x v vl vu lo hi sl Q I rx hs pl pu h
 obtain⟨a,xs,rfl,hx,q⟩:=h
 cases rx
 obtain⟨its,r,ht,hz⟩:=I.list hx
 have hlen:=r.length
 refine⟨"list",_,slot_list_getitem.lookup,ht.isList.typeIs,?_⟩
 refine wpAny_getItem_list_slice ht.isList hs pl pu .none (by simp) ?_ (by rw[Ah]<;>omega)
 rw[Oy,←hlen]
 refine⟨.ref s.heap.objs.size,_,I.laid (t':=s.toks) (o:= .lst (cutV xs lo hi)) (fun b ob q=>An _ q) (Nat.le_refl _) ?_,rfl,q _ (I.hok.fresh (Nat.le_refl _))⟩
 exact⟨Nat.le_trans (Rx xs lo hi) hz,_,0,(r.drop (HT.sIx xs.length 0 lo)).take (HT.sIx xs.length xs.length hi - HT.sIx xs.length 0 lo),As _ rfl⟩
noncomputable def Yy:V→Bool
 | .non=>true
 | .bl _=>true
 | .int _=>true
 | .str _=>true
 | _=>false
noncomputable def eqV:V→V→Bool
 | .non,.non=>true
 | .bl a,.bl b=>a==b
 | .bl a,.int b=>(if a then 1 else 0)==b
 | .int a,.bl b=>a==(if b then 1 else 0)
 | .int a,.int b=>a==b
 | .str a,.str b=>a==b
 | _,_=>false
theorem Er{y x:V}(ry:RelV y u)(rx:RelV x v)(fy:Yy y=true)(fx:Yy x=true):Dp A s u v (eqV y x):=by
 cases y with
 | non=>
  cases ry
  cases x with
  | non=>cases rx;exact Dp.same _
  | bl b=>cases rx;exact Dp.none_bool b
  | int b=>obtain⟨t,rfl⟩:=rx;exact Dp.none_int b t
  | str b=>obtain⟨t,rfl⟩:=rx;exact Dp.none_str b t
  | _=>exact absurd (show false=true from fx) Bf9
 | bl a=>
  cases ry
  cases x with
  | non=>cases rx;exact Dp.bool_none a
  | bl b=>cases rx;exact Dp.bool_bool a b
  | int b=>obtain⟨t,rfl⟩:=rx;exact Dp.bool_int a b t
  | str b=>obtain⟨t,rfl⟩:=rx;exact Dp.bool_str a b t
  | _=>exact absurd (show false=true from fx) Bf9
 | int a=>
  obtain⟨t',rfl⟩:=ry
  cases x with
  | non=>cases rx;exact Dp.int_none a t'
  | bl b=>cases rx;exact Dp.int_bool a t' b
  | int b=>obtain⟨t,rfl⟩:=rx;exact Dp.int_int a t' b t
  | str b=>obtain⟨t,rfl⟩:=rx;exact Dp.int_str a t' b t
  | _=>exact absurd (show false=true from fx) Bf9
 | str a=>
  obtain⟨t',rfl⟩:=ry
  cases x with
  | non=>cases rx;exact Dp.str_none a t'
  | bl b=>cases rx;exact Dp.str_bool a t' b
  | int b=>obtain⟨t,rfl⟩:=rx;exact Dp.str_int a t' b t
  | str b=>obtain⟨t,rfl⟩:=rx;exact Dp.str_str a t' b t
  | _=>exact absurd (show false=true from fx) Bf9
 | _=>exact absurd (show false=true from fy) Bf9
noncomputable def eqU(x:V)(u:Value):Bool:=match u with
 | .none=>eqV .non x
 | .bool b=>eqV (.bl b) x
 | .int i _=>eqV (.int i) x
 | .str z _=>eqV (.str z) x
 | _=>false
theorem Zo0{x y:V}(r:RelV y u)(f:Yy y=true):eqU x u=eqV y x:=by
 cases y with
 | non=>cases r;rfl
 | bl b=>cases r;rfl
 | int i=>obtain⟨t,rfl⟩:=r;rfl
 | str z=>obtain⟨t,rfl⟩:=r;rfl
 | _=>exact absurd (show false=true from f) Bf9
theorem Rg{x:V}:∀{xs:List V} {us:List Value},Vals xs us→xs.all Yy=true→us.any (eqU x)=xs.any fun y=>eqV y x
 | _,_,.nil,_=>rfl
 | y::xs,u::us,.cons r t,f=>by
  rw[Hv,Bz9] at f
  rw[Ix,Ix,Zo0 r f.1,Rg t f.2]
theorem Vd{x:V}(rx:RelV x v)(fx:Yy x=true):∀{xs:List V} {us:List Value},Vals xs us→xs.all Yy=true→∀u∈us,Dp A s u v (eqU x u)
 | _,_,.nil,_=>fun u hu=>by cases hu
 | y::xs,u::us,.cons r t,f=>fun u' hu=>by
  rw[Hv,Bz9] at f
  rcases Aq.mp hu with rfl | hu
  ·rw[Zo0 r f.1];exact Er r rx f.1 fx
  ·exact Vd rx fx t f.2 u' hu
noncomputable def inV(x:V)(xs:List V):Bool:=xs.any fun y=>eqV y x
def rIn(K:Af)(neg:Bool):R2:=fun x y H Q=>∃p xs,y= .ref p∧(SqL K H p xs∨SqT K H p xs)∧Yy x=true∧xs.all Yy=true∧Q (.bl (if neg then !inV x xs else inV x xs)) H
theorem Z83:OpR X (compareOp .In) (rIn X.K false):=by
 intro pins s σ H x y v u Q I rx ry h
 obtain⟨p,xs,rfl,hq,fx,fs,q⟩:=h
 cases ry
 rcases hq with hq | hq
 ·obtain⟨its,r,pl,hz⟩:=I.list hq
  refine SeqAt.in_listAt (eqU x) pl.isList (fun w hw=>Vd rx fx r fs w (by simpa using hw)) ⟨.bl _,H,I,rfl,?_⟩
  rw[show its.toArray.any (eqU x)=its.any (eqU x) by simp,Rg r fs]
  exact q
 ·obtain⟨its,r,pl,hz⟩:=I.tuple hq
  refine SeqAt.in_tupleAt (eqU x) pl (fun w hw=>Vd rx fx r fs w (by simpa using hw)) ⟨.bl _,H,I,rfl,?_⟩
  rw[show its.toArray.any (eqU x)=its.any (eqU x) by simp,Rg r fs]
  exact q
theorem J7:OpR X (compareOp .NotIn) (rIn X.K true):=by
 intro pins s σ H x y v u Q I rx ry h
 obtain⟨p,xs,rfl,hq,fx,fs,q⟩:=h
 cases ry
 rcases hq with hq | hq
 ·obtain⟨its,r,pl,hz⟩:=I.list hq
  refine SeqAt.notIn_listAt (eqU x) pl.isList (fun w hw=>Vd rx fx r fs w (by simpa using hw)) ⟨.bl _,H,I,rfl,?_⟩
  rw[show its.toArray.any (eqU x)=its.any (eqU x) by simp,Rg r fs]
  exact q
 ·obtain⟨its,r,pl,hz⟩:=I.tuple hq
  refine SeqAt.notIn_tupleAt (eqU x) pl (fun w hw=>Vd rx fx r fs w (by simpa using hw)) ⟨.bl _,H,I,rfl,?_⟩
  rw[show its.toArray.any (eqU x)=its.any (eqU x) by simp,Rg r fs]
  exact q
theorem Tu:Wm X (.builtin "len") (fun xs H Q=>∃p ys,xs=[.ref p]∧(SqL X.K H p ys∨SqT X.K H p ys)∧Q (.int ys.length) H):=by
 intro pins s σ H xs us Q I r h
 obtain⟨p,ys,rfl,hq,q⟩:=h
 obtain⟨u,rfl,rx⟩:=Nw r
 cases rx
 have hn:=Sq
 rcases hq with hq | hq
 ·obtain⟨its,r',pl,hz⟩:=I.list hq
  have hlen:=r'.length
  exact Calls.call_len_list pl.isList (by simp only[Ah]<;>omega) ⟨.int ys.length,H,I.tok _,⟨s.toks+1,by rw[Ah,hlen]⟩,q⟩
 ·obtain⟨its,r',pl,hz⟩:=I.tuple hq
  have hlen:=r'.length
  exact len_tuple pl (by simp only[Ah]<;>omega) ⟨.int ys.length,H,I.tok _,⟨s.toks+1,by rw[Ah,hlen]⟩,q⟩
theorem Ny:Wm X (.builtin "len") (fun xs H Q=>∃z,xs=[.str z]∧z.length≤sizeLine∧Q (.int z.length) H):=by
 intro pins s σ H xs us Q I r h
 obtain⟨z,rfl,hz,q⟩:=h
 obtain⟨u,rfl,t,rfl⟩:=Nw r
 have hn:=Sq
 exact len_str (by omega) ⟨.int z.length,H,I.tok _,⟨_,rfl⟩,q⟩
theorem Jg:Wm X (.type "list") (fun xs H Q=>∃p ys,xs=[.ref p]∧(SqL X.K H p ys∨SqT X.K H p ys)∧∀l,H l=none→Q (.ref l) (upd H l (.lst ys))):=by
 intro pins s σ H xs us Q I r h
 obtain⟨p,ys,rfl,hq,q⟩:=h
 obtain⟨u,rfl,rx⟩:=Nw r
 cases rx
 have fin:∀(its:List Value),Vals ys its→ys.length≤sizeLine→∀(h':Heap) (c':Nat),(∀b o',s.heap.get? b=some o'→h'.get? b=some o')→
   h'.get? s.heap.objs.size=some {cls:= .type "list",dict:=none,data:= .seq its.toArray c',slots:=#[]}→EP X pins σ Q (.ref s.heap.objs.size) {s with heap:=h'}:=fun its r' hz h' c' kp e=>
  ⟨.ref s.heap.objs.size,_,I.laid (t':=s.toks) kp (Nat.le_refl _) (show Yc X.prog X.w _ h' _ (.lst ys) from⟨hz,its,c',r',e⟩),rfl,q _ (I.hok.fresh (Nat.le_refl _))⟩
 rcases hq with hq | hq
 ·obtain⟨its,r',pl,hz⟩:=I.list hq
  have hlen:=r'.length
  obtain⟨o,ho,hc,n,hd⟩:=pl.isList
  exact call_list_seq p (.inl rfl) ho hc hd (fun h' c' kp e=>fin its r' hz h' c' kp e) (by simp only[Ah]<;>omega)
 ·obtain⟨its,r',pl,hz⟩:=I.tuple hq
  have hlen:=r'.length
  obtain⟨o,ho,hc,n,hd⟩:=pl
  exact call_list_seq p (.inr rfl) ho hc hd (fun h' c' kp e=>fin its r' hz h' c' kp e) (by simp only[Ah]<;>omega)
def tyV(K:Af)(T:String)(x:V)(H:Hp):Prop:=match x with
 | .str _=>T="str"
 | .int _=>T="int"
 | .ref p=>(T="list"∧∃xs,SqL K H p xs)∨(T="tuple"∧∃o,K.lookup p=some o∧o.cls= .type "tuple"∧o.dict=none)∨
   (T="dict"∧((∃kvs,H p=some (.dK kvs))∨∃kvs,H p=some (.dT kvs)))∨(T="set"∧∃S n,H p=some (.set S n))
 | _=>False
theorem Zn8{x:V}(I:Inv X pins σ H s)(r:RelV x v)(ty:tyV X.K T x H):
  s.TypeIs v T∧∀a,v= .ref a→∃ob,s.heap.get? a=some ob∧ob.dict=none:=by
 cases x with
 | str z=>
  obtain⟨t,rfl⟩:=r
  cases (show T="str" from ty)
  exact⟨typeIs_str s z t,fun _ e=>nomatch e⟩
 | int i=>
  obtain⟨t,rfl⟩:=r
  cases (show T="int" from ty)
  exact⟨typeIs_int s i t,fun _ e=>nomatch e⟩
 | ref p=>
  cases r
  rcases ty with⟨rfl,xs,hq⟩ | ⟨rfl,o,hk,hc,hd⟩ | ⟨rfl,hk⟩ | ⟨rfl,S,n,hk⟩
  ·obtain⟨its,_,pl,_⟩:=I.list hq
   refine⟨pl.isList.typeIs,fun a e=>?_⟩
   cases e
   obtain⟨o,n,e,c,hd,_⟩:=pl
   exact⟨o,e,hd⟩
  ·refine⟨⟨o,I.kIn p o hk,hc⟩,fun a e=>?_⟩
   cases e
   exact⟨o,I.kIn _ o hk,hd⟩
  ·have z:∃o,s.heap.get? p=some o∧o.ExactDict:=by
    rcases hk with⟨kvs,hk⟩ | ⟨kvs,hk⟩
    ·obtain⟨_,_,_,_,o,_,_,e,ex,_⟩:=I.hok p _ hk
     exact⟨o,e,ex⟩
    ·obtain⟨_,_,_,_,o,_,_,e,ex,_⟩:=I.hok p _ hk
     exact⟨o,e,ex⟩
   obtain⟨o,e,ex⟩:=z
   refine⟨⟨o,e,ex.1⟩,fun a e2=>?_⟩
   cases e2
   exact⟨o,e,ex.2.1⟩
  ·obtain⟨o,_,_,_,e,ex,_⟩:=I.hok p _ hk
   refine⟨⟨o,e,ex.1⟩,fun a e2=>?_⟩
   cases e2
   exact⟨o,e,ex.2.1⟩
 | _=>exact Dq ty
def tBM0(K:Af)(T:String)(r:V→List V→Hp→VK→Prop)(to:TE):TE:=fun σ H Q=>to σ H fun x H1=>tyV K T x H1∧r x [] H1 Q
def tBM(K:Af)(T:String)(r:V→List V→Hp→VK→Prop)(to:TE)(t:TA):TE:=fun σ H Q=>to σ H fun x H1=>tyV K T x H1∧t σ H1 fun xs H2=>r x xs H2 Q
variable{o e:Expr}{es:List Expr}{to:TE}{t:TA}{name:Str}{apos cpos:Pos}{T id:String}{r:V→List V→Hp→VK→Prop}
theorem Ya2(pa:PlainAttrs T)(slot:Slot T name id)(hty:typeOf (.builtin id)=pure (.type "method_descriptor"))(hm:MtR X id r)(ho:PE X o to)
  (hbase:attributeBase o name X.env (eval o X.env)=eval o X.env:=by rfl) (hline:(apos.endLine==cpos.line)=true:=by rfl):PE X (.Call (.Attribute o name apos) [] [] cpos) (tBM0 X.K T r to):=by
 intro pins s σ H Q I h
 refine wpAny_Call_method0_late hbase hline (thn (ho pins s σ H _ I h) fun v s1 zz35=>?_)
 obtain⟨x,H1,I1,r1,ty,q1⟩:=zz35
 obtain⟨h1,h2⟩:=Zn8 I1 r1 ty
 exact⟨T,id,pa,slot,hty,h1,h2,Calls.callWith_builtin rfl (PySem.evalArgs_none (hm pins s1 σ H1 x [] v [] Q I1 r1 .nil q1))⟩
theorem Yb4(pa:PlainAttrs T)(slot:Slot T name id)(hty:typeOf (.builtin id)=pure (.type "method_descriptor"))(hm:MtR X id r)(ho:PE X o to)(ha:PA X (e::es) t)
  (hbase:attributeBase o name X.env (eval o X.env)=eval o X.env:=by rfl)
  (hfew:((backTo cpos (starEach (e::es) X.env)).all (fun x=> !x.1)&&(backToKw cpos (keywordEach [] X.env)).all (fun x=>x.1.isSome)
   &&decide ((e::es).length+([]:List Keyword).length+(if ([]:List Keyword).isEmpty then 0 else 1)<30))=true:=by rfl)
  (hline:(apos.endLine==cpos.line)=true:=by rfl) (hs:starEach (e::es) X.env=(false,eval e X.env)::starEach es X.env:=by rfl) (hplain:(backTo cpos (starEach es X.env)).any (·.1)=false:=by rfl):
  PE X (.Call (.Attribute o name apos) (e::es) [] cpos) (tBM X.K T r to t):=by
 intro pins s σ H Q I h
 refine wpAny_Call_method_late hbase hfew hline rfl (thn (ho pins s σ H _ I h) fun v s1 zz36=>?_)
 obtain⟨x,H1,I1,r1,ty,q1⟩:=zz36
 obtain⟨h1,h2⟩:=Zn8 I1 r1 ty
 refine⟨T,id,pa,slot,hty,h1,h2,?_⟩
 have hA:=ha cpos pins s1 σ H1 _ I1 q1
 rw[hs] at hA ⊢
 refine Calls.callWith_builtin (by show(false || (backTo cpos (starEach es X.env)).any (·.1))=false;rw[hplain]<;>rfl) (Calls.evalArgs_plain ?_)
 exact thn hA fun us s2 zz37=>by obtain⟨vs,H2,I2,r2,q2⟩:=zz37;exact hm pins s2 σ H2 x vs v us Q I2 r1 r2 q2
end
def MtM(X:Cx)(id:String)(r:V→List V→Hp→VK→Prop):Prop:=
 ∀(pins:List (Addr×Obj)) (s:Shared) (σ:St) (H:Hp) (x:V) (xs:List V) (v:Value) (us:List Value) (Q:VK),Inv X pins σ H s→RelV x v→Vals xs us→r x xs H Q→
  wpAny (model X.prog X.w) X.A (call (.builtin id) (v::us)) (EP X pins σ Q) X.xe s
theorem Vals.one:∀{x:V} {us:List Value},Vals [x] us→∃u,us=[u]∧RelV x u
 | _,_,.cons r .nil=>⟨_,rfl,r⟩
theorem Vals.zero:∀{us:List Value},Vals [] us→us=[]
 | _,.nil=>rfl
theorem Vals.dropLast(h:Vals xs us):Vals xs.dropLast us.dropLast:=by
 induction h with
 | nil=>exact .nil
 | cons r t ih=>
  cases t with
  | nil=>exact .nil
  | cons q t'=>exact .cons r ih
theorem Vals.reverse(h:Vals xs us):Vals xs.reverse us.reverse:=by
 induction h with
 | nil=>exact .nil
 | cons r t ih=>rw[Kg,Kg];exact Vals.append ih (.cons r .nil)
theorem Vals.rep(h:Vals xs us):∀k:Nat,Vals (Dn k xs).flatten (Dn k us).flatten
 | 0=> .nil
 | k+1=>by
  rw[Iu,Iu,Ku,Ku]
  exact Vals.append h (Vals.rep h k)
theorem B0{α:Type}(l:List α):l.eraseIdx (l.length - 1)=l.dropLast:=by
 induction l with
 | nil=>rfl
 | cons a r ih=>
  cases r with
  | nil=>rfl
  | cons b r=>
   have e:(a::b::r).length - 1=((b::r).length - 1)+1:=by
    have h1:(a::b::r).length=r.length+2:=rfl
    have h2:(b::r).length=r.length+1:=rfl
    omega
   rw[e,List.eraseIdx_cons_succ,ih]
   all_goals rfl
theorem Jd(its:List Value):∀(k:Nat) (acc:List Value),
  List.foldl (fun x1 x2=>x1++x2) acc.toArray (Dn k its.toArray)=(acc++(Dn k its).flatten).toArray
 | 0,acc=>by simp
 | k+1,acc=>by
  have e:acc.toArray++its.toArray=(acc++its).toArray:=by simp
  have e2:(acc++its)++(Dn k its).flatten=acc++(Dn (k+1) its).flatten:=by
   rw[Iu,Ku,Bs]
  rw[←e2,←Jd its k (acc++its),←e,Iu,List.foldl_cons]
section
variable{X:Cx}{pins:List (Addr×Obj)}{σ:St}{H:Hp}{s:Shared}{l b:Addr}{xs ys zs:List V}
theorem Inv.lset{its its':List Value}{n:Nat}{f:Array Value→Array Value}{t':Nat}(I:Inv X pins σ H s)(hH:H l=some (.lst xs))
  (e:s.heap.get? l=some {cls:= .type "list",data:= .seq its.toArray n}) (hf:f its.toArray=its'.toArray) (hv:Vals ys its') (hz:ys.length≤sizeLine):
  Inv X pins σ (upd H l (.lst ys)) {s with heap:=s.heap.update l (Ki f),toks:=t'}:=by
 have q:=PySem.IsL.update e f
 rw[hf] at q
 refine I.write (x:=l) (e:=l) (by rw[hH];exact trivial) (.inl rfl) (fun b' u hb hu=>(Kj s.heap (Ki f) (Df hb)).trans hu) ⟨_,q⟩ ?_
 exact⟨hz,its',_,hv,q⟩
theorem Inv.lnew(I:Inv X pins σ H s)(hv:Vals ys its)(hz:ys.length≤sizeLine):
  Inv X pins σ (upd H s.heap.objs.size (.lst ys)) {s with heap:=s.heap.push {cls:= .type "list",data:= .seq its.toArray},toks:=t'}:=
 I.laid (fun _ _ q=>An _ q) (Nat.le_refl _) ⟨hz,its,0,hv,As _ rfl⟩
theorem Inv.fresh(I:Inv X pins σ H s):H s.heap.objs.size=none:=I.hok.fresh (Nat.le_refl _)
theorem Inv.lstM(I:Inv X pins σ H s)(hH:H l=some (.lst xs)):xs.length≤sizeLine∧∃(its:List Value) (n:Nat),Vals xs its∧xs.length=its.length∧s.heap.get? l=some {cls:= .type "list",data:= .seq its.toArray n}:=by
 obtain⟨z,its,n,r,e⟩:=I.hok l _ hH
 exact⟨z,its,n,r,r.length,e⟩
theorem Fs{n:Nat}(h:n≤sizeLine):Ld n=false:=by
 unfold Ld
 exact decide_eq_false (by omega)
end
section
variable{X:Cx}
def Zw6:V→List V→Hp→VK→Prop:=fun x vs H Q=>∃l xs y,x= .ref l∧vs=[y]∧H l=some (.lst xs)∧xs.length<sizeLine∧Q .non (upd H l (.lst (xs++[y])))
theorem Rk:MtM X "list.append" Zw6:=by
 intro pins s σ H x vs v us Q I rx rv h
 obtain⟨l,xs,y,rfl,rfl,hH,hz,q⟩:=h
 cases rx
 obtain⟨u,rfl,ru⟩:=rv.one
 obtain⟨z,its,n,r,hl,e⟩:=I.lstM hH
 refine call_meets F.slot_list_append ⟨_,e,rfl⟩ F.entry_list_append (F.args_list_append_2 _ _) (PySem.list_append l its.toArray n u (by rw[Ah];omega)) ⟨e,?_⟩
 refine⟨.non,_,I.lset (its':=its++[u]) hH e (by simp) (r.append (.cons ru .nil)) ?_,rfl,q⟩
 rw[Ae,Aj]
 omega
def Zq4:V→List V→Hp→VK→Prop:=fun x vs H Q=>∃l b xs zs,x= .ref l∧vs=[.ref b]∧H l=some (.lst xs)∧H b=some (.lst zs)∧xs.length+zs.length≤sizeLine∧Q .non (upd H l (.lst (xs++zs)))
theorem Be:MtM X "list.extend" Zq4:=by
 intro pins s σ H x vs v us Q I rx rv h
 obtain⟨l,b,xs,zs,rfl,rfl,hH,hB,hz,q⟩:=h
 cases rx
 obtain⟨u,rfl,ru⟩:=rv.one
 cases ru
 obtain⟨z,its,n,r,hl,e⟩:=I.lstM hH
 obtain⟨z2,its2,n2,r2,hl2,e2⟩:=I.lstM hB
 have hsz:its.toArray.size+its2.toArray.size≤sizeLine:=by rw[Ah,Ah];omega
 have hlong:¬(!its.toArray.isEmpty&&Ld (its.toArray.size+its2.toArray.size))=true:=by
  rw[Fs hsz,Bool.and_false]
  exact Bf9
 refine call_meets F.slot_list_extend ⟨_,e,rfl⟩ F.entry_list_extend (F.args_list_extend_2 _ _)
  (AutoSeq1.list_extend_list_list_0 l its.toArray n b its2.toArray n2 hlong (by rw[Ah];omega) (by omega)) ⟨e,e2,?_⟩
 refine⟨.non,_,I.lset (its':=its++its2) hH e (by simp) (r.append r2) ?_,rfl,q⟩
 rw[Ae]
 omega
def rPop:V→List V→Hp→VK→Prop:=fun x vs H Q=>∃l xs y,x= .ref l∧vs=[]∧H l=some (.lst xs)∧xs[xs.length - 1]?=some y∧Q y (upd H l (.lst xs.dropLast))
theorem Y84:MtM X "list.pop" rPop:=by
 intro pins s σ H x vs v us Q I rx rv h
 obtain⟨l,xs,y,rfl,rfl,hH,hy,q⟩:=h
 cases rx
 have hus:=rv.zero
 subst hus
 obtain⟨z,its,n,r,hl,e⟩:=I.lstM hH
 obtain⟨u,hu,ru⟩:=r.get hy
 have hy':its.toArray[its.toArray.size - 1]?=some u:=by
  show its.toArray[its.length - 1]?=some u
  rw[←Array.getElem?_toList,←hl]
  exact hu
 refine call_meets F.slot_list_pop ⟨_,e,rfl⟩ F.entry_list_pop (F.args_list_pop_1 _) (MeetsSeq.list_pop_last l its.toArray n u hy' (by rw[Ah];omega)) ⟨e,?_⟩
 refine⟨y,_,I.lset (its':=its.dropLast) hH e ?_ r.dropLast ?_,ru,q⟩
 ·show its.toArray.eraseIdxIfInBounds (its.toArray.size - 1)=its.dropLast.toArray
  rw[Ah,List.eraseIdxIfInBounds_toArray,B0]
 ·rw[List.length_dropLast]
  omega
def Y97:V→List V→Hp→VK→Prop:=fun x vs H Q=>∃l xs,x= .ref l∧vs=[]∧H l=some (.lst xs)∧Q .non (upd H l (.lst []))
theorem Zd7:MtM X "list.clear" Y97:=by
 intro pins s σ H x vs v us Q I rx rv h
 obtain⟨l,xs,rfl,rfl,hH,q⟩:=h
 cases rx
 have hus:=rv.zero
 subst hus
 obtain⟨z,its,n,r,hl,e⟩:=I.lstM hH
 refine call_meets F.slot_list_clear ⟨_,e,rfl⟩ F.entry_list_clear (F.args_list_clear_1 _) (AutoSeq1.list_clear_list_0 l its.toArray n (by rw[Ah];omega)) ⟨e,?_⟩
 exact⟨.non,_,I.lset (its':=[]) (ys:=[]) hH e rfl .nil (Nat.zero_le _),rfl,q⟩
def rCat:R2:=fun x y H Q=>∃l b xs zs,x= .ref l∧y= .ref b∧H l=some (.lst xs)∧H b=some (.lst zs)∧xs.length+zs.length≤sizeLine∧∀p,H p=none→Q (.ref p) (upd H p (.lst (xs++zs)))
theorem Y35:OpR X (binaryOp .Add) rCat:=by
 intro pins s σ H x y v u Q I rx ry h
 obtain⟨l,b,xs,zs,rfl,rfl,hH,hB,hz,q⟩:=h
 cases rx
 cases ry
 obtain⟨z,its,n,r,hl,e⟩:=I.lstM hH
 obtain⟨z2,its2,n2,r2,hl2,e2⟩:=I.lstM hB
 refine PySem.P.add_list e e2 ?_ (by rw[Ah,Ah];omega)
 have ea:its.toArray++its2.toArray=(its++its2).toArray:=by simp
 rw[ea]
 exact⟨.ref _,_,I.lnew (t':=s.toks) (r.append r2) (by rw[Ae];omega),rfl,q _ I.fresh⟩
def rRep:R2:=fun x y H Q=>∃l k xs,x= .ref l∧y= .int k∧H l=some (.lst xs)∧ -(2 ^ 63)≤k∧k<2 ^ 63∧xs.length * k.toNat≤sizeLine∧
 ∀p,H p=none→Q (.ref p) (upd H p (.lst (Dn k.toNat xs).flatten))
theorem Zy7{α:Type}(xs:List α)(k:Nat):(Dn k xs).flatten.length=k * xs.length:=by
 induction k with
 | zero=>simp
 | succ k ih=>rw[Iu,Ku,Ae,ih,Nat.succ_mul,Nat.add_comm]
theorem Y85:OpR X (binaryOp .Mult) rRep:=by
 intro pins s σ H x y v u Q I rx ry h
 obtain⟨l,k,xs,rfl,rfl,hH,h1,h2,hz,q⟩:=h
 cases rx
 obtain⟨t,rfl⟩:=ry
 obtain⟨z,its,n,r,hl,e⟩:=I.lstM hH
 have hlen:its.toArray.size * k.toNat≤sizeLine:=by rw[Ah,←hl];exact hz
 have hcap:¬its.toArray.size * k.toNat >(2 ^ 63 - 1) / 8:=by
  have:(sizeLine:Nat)≤(2 ^ 63 - 1) / 8:=by decide
  omega
 have hfit:¬(!Builtin.List.listFitsIndex k)=true:=by
  rw[fitsIndex_both h1 h2]
  exact Bf9
 have hlong:¬Ld (its.toArray.size * k.toNat)=true:=by
  rw[Fs hlen]
  exact Bf9
 have hnew:List.foldl (fun x1 x2=>x1++x2) #[] (Dn (if its.toArray.isEmpty=true then 0 else k.toNat) its.toArray)=(Dn k.toNat its).flatten.toArray:=by
  have f0:∀m:Nat,List.foldl (fun x1 x2=>x1++x2) #[] (Dn m its.toArray)=(Dn m its).flatten.toArray:=fun m=>by
   have:=Jd its m []
   rw[Lq] at this
   exact this
  rw[f0]
  cases its with
  | nil=>simp
  | cons a r'=>rw[if_neg (by simp)]
 refine wpAny_binaryOp_repeat_ref (T:="list") (U:="int") (by decide) ⟨_,e,rfl⟩ (fun s'=>typeIs_int s' k t) noFill_list_mul F.fills_int_mul F.slot_int_rmul repeat_list F.slot_int_index.lookup
  (call_meets F.slot_int_rmul (typeIs_int s k t) F.entry_int_rmul (F.args_int_rmul_2 _ _) (int___rmul___int_list k t l its.toArray n)
   ⟨e,rfl,⟨_,e,rfl⟩,call_meets F.slot_list_mul ⟨_,e,rfl⟩ F.entry_list_mul (F.args_list_mul_2 _ _) (AutoListH.list___mul___list_int_3 l its.toArray n k t hfit hcap hlong) ⟨e,?_⟩⟩)
 rw[hnew]
 exact⟨.ref _,_,I.lnew (t':=s.toks) (r.rep k.toNat) (by rw[Zy7,Nat.mul_comm];exact hz),rfl,q _ I.fresh⟩
end
section
variable{κ:Type}[DecidableEq κ]
noncomputable def valV(kvs:List (κ×V))(k:κ):Option V:=(kvs.find? fun kv=>decide (kv.1=k)).map (·.2)
noncomputable def putK(kvs:List (κ×V))(k:κ)(v:V):List (κ×V):=
 if (kvs.any fun kv=>decide (kv.1=k))=true then kvs.map (fun kv=>if kv.1=k then(kv.1,v) else kv) else kvs++[(k,v)]
theorem O3{p:κ×V}{k:κ}(e:p.1=k):valV (p::r) k=some p.2:=by simp[valV,Hr,e]
theorem Pu{p:κ×V}{k:κ}(e:¬p.1=k):valV (p::r) k=valV r k:=by simp[valV,Hr,e]
theorem Fp(k:κ):∀kvs:List (κ×V),(kvs.any fun kv=>decide (kv.1=k))=(valV kvs k).isSome
 | []=>rfl
 | p::r=>by
  rw[Ix]
  by_cases e:p.1=k
  ·simp only[O3 e,decide_eq_true e,Bool.true_or,Option.isSome_some]
  ·rw[Pu e,decide_eq_false e,Bool.false_or];exact Fp k r
theorem Wn(kvs:List (κ×V))(k:κ)(v:V):(putK kvs k v).length≤kvs.length+1:=by
 unfold putK
 split
 ·rw[Ab];omega
 ·rw[Ae,Ar,List.length_nil];omega
theorem RelO.isSome_eq(r:RelO o u):o.isSome=u.isSome:=by
 cases o with
 | none=>cases u with
  | none=>rfl
  | some _=>exact(show False from r).elim
 | some _=>cases u with
  | none=>exact(show False from r).elim
  | some _=>rfl
theorem RelO.getD{d:V}(r:RelO o u)(rd:RelV d d'):RelV (o.getD d) (u.getD d'):=by
 cases o with
 | none=>cases u with
  | none=>exact rd
  | some _=>exact(show False from r).elim
 | some _=>cases u with
  | none=>exact(show False from r).elim
  | some _=>exact r
theorem KV.val(r:KV kvs vs)(k:κ):RelO (valV kvs k) (valueAt vs k):=by
 unfold KV at r
 induction r with
 | nil=>exact Kv
 | @cons p q ps qs h t ih=>
  obtain⟨h1,h2⟩:=h
  by_cases e:p.1=k
  ·have e':q.1=k:=h1.symm.trans e
   have b:valueAt (q::qs) k=some q.2:=by simp[valueAt,Hr,e']
   rw[O3 e,b];exact h2
  ·have e':¬q.1=k:=fun z=>e (h1.trans z)
   have b:valueAt (q::qs) k=valueAt qs k:=by simp[valueAt,Hr,e']
   rw[Pu e,b];exact ih
theorem KV.any(r:KV kvs vs)(k:κ):(kvs.any fun kv=>decide (kv.1=k))=vs.any fun kv=>decide (kv.1=k):=by
 unfold KV at r
 induction r with
 | nil=>rfl
 | cons h t ih=>rw[Ix,Ix,ih,h.1]
theorem KV.repl(r:KV kvs vs)(k:κ){y:V}(ry:RelV y u):
  KV (kvs.map fun kv=>if kv.1=k then(kv.1,y) else kv) (vs.map fun kv=>if kv.1=k then(kv.1,u) else kv):=by
 unfold KV at r ⊢
 induction r with
 | nil=>exact .nil
 | @cons p q ps qs h t ih=>
  rw[Dd,Dd]
  refine .cons ?_ ih
  obtain⟨h1,h2⟩:=h
  by_cases e:p.1=k
  ·rw[if_pos e,if_pos (h1.symm.trans e)];exact⟨h1,ry⟩
  ·rw[if_neg e,if_neg (fun z=>e (h1.trans z))];exact⟨h1,h2⟩
theorem KV.put(r:KV kvs vs)(k:κ){y:V}(ry:RelV y u):KV (putK kvs k y) (stored vs k u):=by
 unfold putK stored
 rw[r.any k]
 by_cases e:(vs.any fun kv=>decide (kv.1=k))=true
 ·rw[if_pos e,if_pos e];exact r.repl k ry
 ·rw[if_neg e,if_neg e];exact Paired.snoc r ⟨rfl,ry⟩
theorem KV.length(r:KV kvs vs):kvs.length=vs.length:=Paired.length r
end
theorem Ce{k:Key}(r:RelV (kV k) u):(Zz P w).is k u=true:=by
 cases k with
 | inl i=>obtain⟨t,e⟩:=(show ∃t,u=Value.int i t from r);subst e;exact Gb P w i t
 | inr x=>obtain⟨t,e⟩:=(show ∃t,u=Value.str x t from r);subst e;exact Gw P w x t
theorem J3:∀{ks:List Key} {us:List Value},Vals (ks.map kV) us→ItemsAre (Zz P w) ks us
 | [],_,r=>by rw[Le] at r;cases r;exact .nil
 | k::ks,_,r=>by
  rw[Dd] at r
  cases r with
  | cons h t=>exact .cons (Ce h) (J3 t)
abbrev KT(H:Hp):List (List Key×V)→List (List Key×Addr×Value)→Prop:=Paired fun p q=>p.1=q.1∧H q.2.1=some (.tup (p.1.map kV))∧RelV p.2 q.2.2
theorem KT.val{H:Hp}(r:KT H kvs xs)(k:List Key):RelO (valV kvs k) ((atKey xs k).map (·.2)):=by
 induction r with
 | nil=>exact Kv
 | @cons p q ps qs h t ih=>
  obtain⟨h1,_,h2⟩:=h
  by_cases e:p.1=k
  ·have e':q.1=k:=h1.symm.trans e
   have b:atKey (q::qs) k=some q.2:=by simp[atKey,Hr,e']
   rw[O3 e,b];exact h2
  ·have e':¬q.1=k:=fun z=>e (h1.trans z)
   have b:atKey (q::qs) k=atKey qs k:=by simp[atKey,Hr,e']
   rw[Pu e,b];exact ih
theorem KT.repl{H:Hp}(r:KT H kvs xs)(k:List Key){y:V}(ry:RelV y u):
  KT H (kvs.map fun kv=>if kv.1=k then(kv.1,y) else kv) (xs.map (putAt k u)):=by
 induction r with
 | nil=>exact .nil
 | @cons p q ps qs h t ih=>
  rw[Dd,Dd]
  refine .cons ?_ ih
  obtain⟨h1,h2,h3⟩:=h
  unfold putAt
  by_cases e:p.1=k
  ·rw[if_pos e,if_pos (h1.symm.trans e)];exact⟨h1,h2,ry⟩
  ·rw[if_neg e,if_neg (fun z=>e (h1.trans z))];exact⟨h1,h2,h3⟩
theorem KT.put{H:Hp}(r:KT H kvs xs)(k:List Key){y:V}(hb:H b=some (.tup (k.map kV)))(ry:RelV y u):
  KT H (putK kvs k y) (storedH xs k b u):=by
 have e:(kvs.any fun kv=>decide (kv.1=k))=(atKey xs k).isSome:=by
  rw[Fp,(r.val k).isSome_eq,Option.isSome_map]
 unfold putK storedH
 rw[e]
 by_cases q:(atKey xs k).isSome=true
 ·rw[if_pos q,if_pos q];exact r.repl k ry
 ·rw[if_neg q,if_neg q];exact Paired.snoc r ⟨rfl,hb,ry⟩
theorem KT.keeps{H H':Hp}(r:KT H kvs xs)(ht:∀b ys,H b=some (.tup ys)→H' b=some (.tup ys)):KT H' kvs xs:=
 Paired.mapP r fun _ _ z=>⟨z.1,ht _ _ z.2.1,z.2.2⟩
section
variable{P:Program}{w:World}{H:Hp}{h:Heap}{a:Addr}
theorem Y12(ok:HOk P w H h)(e:Rd H a u):Yc P w H h a u:=e.ok ok
theorem G6(ok:HOk P w H h)(e:Rd H a (.dK kvs)):kvs.length≤sizeLine∧(a==sysModules)=false∧∃vs,KV kvs vs∧h.DictOf (Zz P w) a vs:=
 show Yc P w H h a (.dK kvs) from Y12 ok e
theorem Zv9(ok:HOk P w H h)(e:H a=some (.dK kvs)):kvs.length≤sizeLine∧(a==sysModules)=false∧∃vs,KV kvs vs∧h.DictOf (Zz P w) a vs:=G6 ok (.inl e)
theorem Ri(ok:HOk P w H h)(e:H a=some (.tup (ks.map kV))):(tupleKind (Zz P w)).is h ks a:=by
 obtain⟨_,its,r,o,h1,h2,n,h3⟩:=(show Yc P w H h a (.tup (ks.map kV)) from ok a _ e)
 exact⟨o,its.toArray,n,h1,h2,h3,by simpa using J3 r⟩
theorem Cp(ok:HOk P w H h)(e:Rd H a (.dT kvs)):kvs.length≤sizeLine∧(a==sysModules)=false∧
  ∃xs,KT H kvs xs∧h.DictOfH (tupleKind (Zz P w)) a xs:=by
 obtain⟨z,y,xs,r,o,es,ep,h1,h2,h3,h4,h5⟩:=(show Yc P w H h a (.dT kvs) from Y12 ok e)
 refine⟨z,y,xs,r,o,es,ep,h1,h2,h3,h4,fun x hx=>?_,h5⟩
 have all:∀{l:List (List Key×V)} {m:List (List Key×Addr×Value)},KT H l m→∀x∈m,(tupleKind (Zz P w)).is h x.1 x.2.1:=by
  intro l m q
  induction q with
  | nil=>intro x hx;exact nomatch hx
  | @cons p q ps qs hq t ih=>
   intro x hx
   rcases Aq.mp hx with e | hx
   ·subst e
    exact Ri ok (by rw[←hq.1];exact hq.2.1)
   ·exact ih x hx
 exact all r x hx
theorem Y30(ok:HOk P w H h)(e:H a=some (.dT kvs)):kvs.length≤sizeLine∧(a==sysModules)=false∧
  ∃xs,KT H kvs xs∧h.DictOfH (tupleKind (Zz P w)) a xs:=Cp ok (.inl e)
end
def DGet(H:Hp)(a:Addr)(y:V)(r:Option V):Prop:=
 (∃kvs k,Rd H a (.dK kvs)∧y=kV k∧r=valV kvs k)∨∃kvs k b,Rd H a (.dT kvs)∧y= .ref b∧H b=some (.tup (k.map kV))∧r=valV kvs k
def DPut(H:Hp)(a:Addr)(y v:V)(H':Hp):Prop:=
 (∃kvs k,H a=some (.dK kvs)∧y=kV k∧kvs.length<sizeLine∧H'=upd H a (.dK (putK kvs k v)))∨
 ∃kvs k b,H a=some (.dT kvs)∧y= .ref b∧H b=some (.tup (k.map kV))∧kvs.length<sizeLine∧H'=upd H a (.dT (putK kvs k v))
theorem DGet.k{H:Hp}{a:Addr}{k:Key}(e:H a=some (.dK kvs)):DGet H a (kV k) (valV kvs k):= .inl ⟨kvs,k,.inl e,rfl,rfl⟩
theorem DGet.t{H:Hp}{a b:Addr}{k:List Key}(e:H a=some (.dT kvs))(eb:H b=some (.tup (k.map kV))):DGet H a (.ref b) (valV kvs k):= .inr ⟨kvs,k,b,.inl e,rfl,eb,rfl⟩
theorem DPut.k{H:Hp}{a:Addr}{k:Key}{v:V}(e:H a=some (.dK kvs))(hl:kvs.length<sizeLine):DPut H a (kV k) v (upd H a (.dK (putK kvs k v))):= .inl ⟨kvs,k,e,rfl,hl,rfl⟩
theorem DPut.t{H:Hp}{a b:Addr}{k:List Key}{v:V}(e:H a=some (.dT kvs))(eb:H b=some (.tup (k.map kV)))(hl:kvs.length<sizeLine):
  DPut H a (.ref b) v (upd H a (.dT (putK kvs k v))):= .inr ⟨kvs,k,b,e,rfl,eb,hl,rfl⟩
section
variable{X:Cx}{pins:List (Addr×Obj)}{σ:St}{H:Hp}{s:Shared}{a:Addr}{y v:V}{u r:Value}{o:Option V}{A:Around}{E:Value→Shared→Prop}
theorem Inv.big(I:Inv X pins σ H s):sysModules<s.heap.objs.size:=by
 have h:mainGlobals<s.heap.objs.size:=(I.mod.glob.keeps I.bk).lt
 exact Nat.lt_trans (by decide) h
theorem Br(hu:A.units+1<cLine)(I:Inv X pins σ H s)(g:DGet H a y (some v))(ry:RelV y u)(h:∀w' s',Inv X pins σ H s'→RelV v w'→Q w' s'):
  wpAny (model X.prog X.w) A (getItem (.ref a) u) Q E s:=by
 rcases g with⟨kvs,k,e,ey,l⟩ | ⟨kvs,k,b,e,ey,eb,l⟩
 ·subst ey
  obtain⟨z,hd,vs,rel,dd⟩:=G6 I.hok e
  obtain⟨w',hw,rw'⟩:=RelO.some_of (v:=v) (o:=valueAt vs k) (by rw[l];exact rel.val k)
  exact wpAny_getItem_of (Ce ry) dd.mapOf hw (h w' _ (I.tok _) rw')
 ·subst ey
  cases (show u=Au b from ry)
  obtain⟨z,hd,xs,rel,dd⟩:=Cp I.hok e
  obtain⟨w',hw,rw'⟩:=RelO.some_of (v:=v) (o:=(atKey xs k).map (·.2)) (by rw[l];exact rel.val k)
  obtain⟨p,hp,hp2⟩:=Ch.mp hw
  refine wpAny_getItem_heap (Ko hu) (Ri I.hok eb) dd hp ?_
  rw[hp2]
  exact h w' _ (I.tok _) rw'
theorem d_in(hu:A.units+1<cLine)(I:Inv X pins σ H s)(g:DGet H a y o)(ry:RelV y u)(h:∀s',Inv X pins σ H s'→Q (.bool o.isSome) s'):
  wpAny (model X.prog X.w) A (compareOp .In u (.ref a)) Q E s:=by
 rcases g with⟨kvs,k,e,ey,l⟩ | ⟨kvs,k,b,e,ey,eb,l⟩
 ·subst ey
  obtain⟨z,hd,vs,rel,dd⟩:=G6 I.hok e
  refine wpAny_in_of (Ce ry) hd dd.mapOf ?_
  rw[←(rel.val k).isSome_eq,←l]
  exact h _ (I.tok _)
 ·subst ey
  cases (show u=Au b from ry)
  obtain⟨z,hd,xs,rel,dd⟩:=Cp I.hok e
  refine wpAny_in_heap (Ko hu) (Ri I.hok eb) hd dd ?_
  have q:=(rel.val k).isSome_eq
  rw[Option.isSome_map] at q
  rw[←q,←l]
  exact h _ (I.tok _)
theorem Z34(hu:A.units+1<cLine)(I:Inv X pins σ H s)(g:DGet H a y o)(ry:RelV y u)(h:∀s',Inv X pins σ H s'→Q (.bool (!o.isSome)) s'):
  wpAny (model X.prog X.w) A (compareOp .NotIn u (.ref a)) Q E s:=by
 rcases g with⟨kvs,k,e,ey,l⟩ | ⟨kvs,k,b,e,ey,eb,l⟩
 ·subst ey
  obtain⟨z,hd,vs,rel,dd⟩:=G6 I.hok e
  refine wpAny_notIn_of (Ce ry) hd dd.mapOf ?_
  rw[←(rel.val k).isSome_eq,←l]
  exact h _ (I.tok _)
 ·subst ey
  cases (show u=Au b from ry)
  obtain⟨z,hd,xs,rel,dd⟩:=Cp I.hok e
  refine wpAny_notIn_heap (Ko hu) (Ri I.hok eb) hd dd ?_
  have q:=(rel.val k).isSome_eq
  rw[Option.isSome_map] at q
  rw[←q,←l]
  exact h _ (I.tok _)
theorem G4(I:Inv X pins σ H s)(mu:Mut (H a))(hs:Ib a s.heap h')(he:∃q,h'.get? a=some q)(new:Yc X.prog X.w (upd H a ob) h' a ob):
  Inv X pins σ (upd H a ob) {s with heap:=h',toks:=t'}:=
 I.write (x:=a) (e:=a) mu (.inl rfl) (fun b q hb z=>(hs.2 b hb).trans z) he new
theorem Y02(z:kvs.length≤sizeLine)(hd:(a==sysModules)=false)(rel:KV kvs vs)(dd:h'.DictOf (Zz P w) a vs):
  Yc P w H' h' a (.dK kvs):=⟨z,hd,vs,rel,dd⟩
theorem Z72(hu:A.units+1<cLine)(I:Inv X pins σ H s)(g:DPut H a y v H')(ry:RelV y u)(rv:RelV v r)(h:∀s',Inv X pins σ H' s'→Q () s'):
  wpAny (model X.prog X.w) A (setItem (.ref a) u r) Q E s:=by
 rcases g with⟨kvs,k,e,ey,l,eH⟩ | ⟨kvs,k,b,e,ey,eb,l,eH⟩
 ·subst ey eH
  obtain⟨z,hd,vs,rel,dd⟩:=Zv9 I.hok e
  have hz:vs.length≤sizeLine:=by rw[←rel.length];exact z
  have hl:(putK kvs k v).length≤sizeLine:=by have:=Wn kvs k v;omega
  refine wpAny_setItem_pairs (hsz:=hz) (Ce ry) dd fun h' dd' hs=>h _ ?_
  have he:∃q,h'.get? a=some q:=by obtain⟨q,_,_,hq,_⟩:=dd';exact⟨q,hq⟩
  exact G4 I (by rw[e];exact Kv) hs he (Y02 hl hd (rel.put k rv) dd')
 ·subst ey eH
  cases (show u=Au b from ry)
  obtain⟨z,hd,xs,rel,dd⟩:=Y30 I.hok e
  have hz:xs.length≤sizeLine:=by rw[←Paired.length rel];exact z
  have hl:(putK kvs k v).length≤sizeLine:=by have:=Wn kvs k v;omega
  refine wpAny_setItem_heap (hsz:=hz) (Ko hu) (Ri I.hok eb) dd fun h' dd' hs=>h _ ?_
  obtain⟨q,es,ep,hq,h2,h3,h4,_,h5⟩:=dd'
  refine G4 I (by rw[e];exact Kv) hs ⟨q,hq⟩ ⟨hl,hd,_,(rel.put k eb rv).keeps fun c ys ec=>?_,q,es,ep,hq,h2,h3,h4,h5⟩
  rw[Zi (Y31 ec e (fun z=>nomatch z))]
  exact ec
end
section
variable{X:Cx}{pins:List (Addr×Obj)}{σ:St}{H:Hp}{s:Shared}{a:Addr}{kvs:List (Key×V)}{k:Key}{u:Value}{A:Around}{E:Value→Shared→Prop}
theorem Yb7(I:Inv X pins σ H s)(e:Rd H a (.dK kvs))(h:∀t s',Inv X pins σ H s'→Q (.int kvs.length t) s'):wpAny (model X.prog X.w) A (call (.builtin "len") [.ref a]) Q E s:=by
 obtain⟨z,hd,vs,rel,dd⟩:=G6 I.hok e
 refine call_len_dict hd dd (by rw[←rel.length];rw[Lu] at z;omega) ?_
 rw[←rel.length]
 exact h _ _ (I.tok _)
end
theorem Gm{H:Hp}{a:Addr}{y:V}(I:Inv X pins σ H s)(g:DGet H a y o):s.TypeIs (.ref a) "dict":=by
 rcases g with⟨kvs,k,e,_,_⟩ | ⟨kvs,k,b,e,_,_,_⟩
 ·obtain⟨_,_,vs,_,dd⟩:=G6 I.hok e
  exact dd.typeIs
 ·obtain⟨_,_,xs,_,dd⟩:=Cp I.hok e
  exact dd.typeIs
theorem Zi4{H:Hp}(h:Heap)(hb:sysModules<h.objs.size):Yc P w H (h.push {cls:= .type "dict",data:= .dict #[]}) h.objs.size (.dK []):=
 ⟨Nat.zero_le _,beq_eq_false_iff_ne.mpr (Df (Nat.ne_of_lt hb)),[],.nil,Heap.DictOf.new h⟩
theorem Zj2{H:Hp}(h:Heap)(hb:sysModules<h.objs.size):Yc P w H (h.push {cls:= .type "dict",data:= .dict #[]}) h.objs.size (.dT []):=
 ⟨Nat.zero_le _,beq_eq_false_iff_ne.mpr (Df (Nat.ne_of_lt hb)),[],.nil,_,#[],0,As _ rfl,⟨rfl,rfl,rfl⟩,rfl,rfl,List.nodup_nil⟩
def Y69:TE:=fun _ H Q=>∀p,H p=none→Q (.ref p) (upd H p (.dK []))
def Y68:TE:=fun _ H Q=>∀p,H p=none→Q (.ref p) (upd H p (.dT []))
section
variable{X:Cx}{pos:Pos}
theorem Ze3:PE X (.Dict [] [] pos) Y69:=fun pins s σ H Q I h=>
 wpAny_Dict_empty ⟨.ref s.heap.objs.size,_,I.laid (a:=s.heap.objs.size) (o:= .dK []) (t':=s.toks) (fun _ _ q=>An _ q) (Nat.le_refl _) (Zi4 s.heap I.big),rfl,h _ (I.hok.fresh (Nat.le_refl _))⟩
theorem Zf2:PE X (.Dict [] [] pos) Y68:=fun pins s σ H Q I h=>
 wpAny_Dict_empty ⟨.ref s.heap.objs.size,_,I.laid (a:=s.heap.objs.size) (o:= .dT []) (t':=s.toks) (fun _ _ q=>An _ q) (Nat.le_refl _) (Zj2 s.heap I.big),rfl,h _ (I.hok.fresh (Nat.le_refl _))⟩
end
structure M1(X:Cx)(o:Expr)(m:Str)(apos:Pos)(e:Expr)(cpos:Pos):Prop where
 base:attributeBase o m X.env (eval o X.env)=eval o X.env
 few:((backTo cpos (starEach [e] X.env)).all (fun x=> !x.1)&&(backToKw cpos (keywordEach [] X.env)).all (fun x=>x.1.isSome)
  &&decide (([e]:List Expr).length+([]:List Keyword).length+(if ([]:List Keyword).isEmpty then 0 else 1)<30))=true
 line:(apos.endLine==cpos.line)=true
 trees:backTo cpos (starEach [e] X.env)=[(false,eval e X.env)]
structure M2(X:Cx)(o:Expr)(m:Str)(apos:Pos)(e f:Expr)(cpos:Pos):Prop where
 base:attributeBase o m X.env (eval o X.env)=eval o X.env
 few:((backTo cpos (starEach [e,f] X.env)).all (fun x=> !x.1)&&(backToKw cpos (keywordEach [] X.env)).all (fun x=>x.1.isSome)
  &&decide (([e,f]:List Expr).length+([]:List Keyword).length+(if ([]:List Keyword).isEmpty then 0 else 1)<30))=true
 line:(apos.endLine==cpos.line)=true
 trees:backTo cpos (starEach [e,f] X.env)=[(false,eval e X.env),(false,eval f X.env)]
section
variable{X:Cx}{pins:List (Addr×Obj)}{σ:St}{H:Hp}{s:Shared}{a:Addr}{y d:V}{u r:Value}{o:Option V}{A:Around}{E:Value→Shared→Prop}
theorem Y90(hu:A.units+1<cLine)(I:Inv X pins σ H s)(g:DGet H a y o)(ry:RelV y u)(rd:RelV d r)(h:∀w' s',Inv X pins σ H s'→RelV (o.getD d) w'→Q w' s'):
  wpAny (model X.prog X.w) A (call (.builtin "dict.get") [.ref a,u,r]) Q E s:=by
 rcases g with⟨kvs,k,e,ey,l⟩ | ⟨kvs,k,b,e,ey,eb,l⟩
 ·subst ey
  obtain⟨z,hd,vs,rel,dd⟩:=G6 I.hok e
  refine call_meetsIn PySem.F.slot_dict_get dd.typeIs PySem.F.entry_dict_get (PySem.F.args_dict_get_3 _ _ _) (meets_dict_get_default (Zz X.prog X.w) a (Ce ry) hd r) ⟨_,dd.mapOf,h _ _ (I.tok _) ?_⟩
  rw[l]
  exact(rel.val k).getD rd
 ·subst ey
  cases (show u=Au b from ry)
  obtain⟨z,hd,xs,rel,dd⟩:=Cp I.hok e
  refine call_meetsIn PySem.F.slot_dict_get dd.typeIs PySem.F.entry_dict_get (PySem.F.args_dict_get_3 _ _ _) (meetsH_dict_get_default (tupleKind (Zz X.prog X.w)) a b hd r) ⟨Ko hu,k,xs,Ri I.hok eb,dd,h _ _ (I.tok _) ?_⟩
  rw[l]
  exact(rel.val k).getD rd
end
end L2
namespace Att
open PySem PySem.W PySem.Calls PyProof.Rows
theorem Rh:∀(ns:List Int) (vs:List Value),WellAll P h vs (ns.map WData.int)→IntsAre vs ns:=by
 intro ns
 induction ns with
 | nil=>
  intro vs w
  rw[Le] at w
  cases w
  exact .nil
 | cons n ns ih=>
  intro vs w
  rw[Dd] at w
  cases w with
  | cons a b=>
   cases a
   exact .cons _ _ (ih _ b)
theorem script_of{l:OpenLaw}{n:Nat}(hn:l.most=some n){P:Params}{h:Heap}{args:List WData}{vals:List Value}
  (hpre:l.row.toRowW.claim.pre args=true) (hwl:WellAll P h vals args):
  ∃a vs ns,vals=[Au a]∧args=[WData.list (ns.map WData.int)]∧h.get? a=some {cls:= .type "list",data:= .seq vs.toArray}∧IntsAre vs ns∧ns.length≤n:=by
 have hsh:WShape.hasAll [] args [.list .int]=true:=(pre_splitW hpre).1
 have hc:l.pre.holds [] {args:=args}=true:=(pre_splitW hpre).2
 obtain⟨d,r,rfl,h1,h2⟩:=hasAllW_cons hsh
 obtain rfl:=hasAllW_nil h2
 obtain⟨xs,rfl,h3⟩:=hasW_list h1
 obtain⟨ns,rfl⟩:=items_int h3
 have hlen:ns.length≤n:=by
  unfold OpenLaw.pre at hc
  have h4:(WTm.not (.lt (.lit (.int (n:Int))) (.len (.arg 0)))).holds [] {args:=[.list (ns.map .int)]}=true:=by
   have h4:=(holds_andW hc).1
   rw[hn] at h4
   exact h4
  have h5:=condW_of h4 (w_not (w_lt w_lit (w_len_list (w_arg rfl))))
  rw[Ab] at h5
  refine Nat.le_of_not_lt fun q=>?_
  have q':(n:Int)< ((ns.length:Nat):Int):=by omega
  first
   |(rw[decide_eq_true q'] at h5;exact absurd h5 (by decide))
   |(simp at h5;omega)
 cases hwl with
 | cons w1 w2=>
  cases w2
  cases w1 with
  | list ho hall=>exact⟨_,_,ns,rfl,rfl,ho,Rh ns _ hall,hlen⟩
theorem post_true(l:OpenLaw)(args:List WData):l.row.toRowW.claim.post args (.bool true) args=true:=
 postW_of (r:=l.row.toRowW) (X:=(true==true))
  (show WShape.has [] (.bool true) .bool=true by first | rfl | decide | simp[WShape.has,WShape.arms,WShape.armsAll])
  (show(WTm.eq .res (.lit (.bool true))).value [] {args:=args,res:=some (.bool true),after:=args}=some (.bool (true==true)) from w_eq_bool (w_res rfl) w_lit) rfl
end Att
namespace L2
open PySem PySem.Spec PyProof.Rows
theorem V5:∀{vs:List Value} {ns:List Int},IntsAre vs ns→Vals (ns.map V.int) vs
 | _,_,.nil=> .nil
 | _,_,.cons n t h=> .cons ⟨t,rfl⟩ (V5 h)
def Only(H:Hp):Prop:=∀b,H b=none∨∃o xs,H b=some (.frz o (.lst xs))
theorem Zk7{P:Program}{w:World}{K:Af}{mg mb:Str→Option Value}{CX:CXT}{k:Nat}{fa a:Addr}{fd:FuncData}{x:Str}{sp:Sp}{s₁:Shared}{vs:List Value}{ns:List Int}
  (KX:K.In s₁.heap) (hns:s₁.heap.Ns mainGlobals mg) (hb:s₁.heap.Ns builtinsNs mb) (hbb:∀x:Str,x≠"__name__"→mb x=bootBuiltins x) (hlim:s₁.heap.NoLimit) (hg:s₁.gens=#[])
  (ha:s₁.heap.get? a=some {cls:= .type "list",data:= .seq vs.toArray}) (hi:IntsAre vs ns) (hl:ns.length≤sizeLine) (hr:Room k callerA)
  (F:∀base:Heap,K.In base→base.Ns mainGlobals mg→FnOk P w K mg base CX k fa fd [x] sp) (hbind:∀(s:Shared) (u:Value),BindsTo s fd ⟨[u],[]⟩ [(x,u)])
  (hsp:∀H:Hp,Only H→SqL K H a (ns.map V.int)→sp [.ref a] H (fun v _=>v= .bl true) fun _ _ _=>False)
  (hCX:∀H e s',CX [] H s₁ (fun _ _ _=>False) e s'→False):
  codeAny (model P w) callerA (.call (.ref fa) ⟨[.ref a],[]⟩) (fun r s'=>r= .ok (.ret (.bool true))∧OldK s₁.heap s'.heap∧s'.os=s₁.os∧AllBare s'.gens) s₁:=by
 have rv:=V5 hi
 have lenV:=hi.length
 have core:∀H:Hp,Only H→SqL K H a (ns.map V.int)→HOk P w H s₁.heap→(∀b,H b≠none→b=a)→(H a≠none→K.lookup a=none)→
   codeAny (model P w) callerA (.call (.ref fa) ⟨[.ref a],[]⟩) (fun r s'=>r= .ok (.ret (.bool true))∧OldK s₁.heap s'.heap∧s'.os=s₁.os∧AllBare s'.gens) s₁:=by
  intro H hO hS hok hA hK
  have base_of:∀{b:Addr} {o:Obj},s₁.heap.get? b=some o→H b=none→(hidT s₁.heap H).get? b=some o:=fun e n=>Zd9 e n
  have noA:∀{b:Addr} {o:Obj} {es:Array DictEntry} {ep:Nat},s₁.heap.get? b=some o→o.data= .dict es ep→H b=none:=fun{b o es ep} e d=>by
   cases q:H b with
   | none=>rfl
   | some u=>
    have e':b=a:=hA b (by rw[q];simp)
    subst e'
    rw[ha] at e;cases e
    have d':Data.seq vs.toArray _=Data.dict es ep:=d
    cases d'
  have nsK:∀{b:Addr} {m:Str→Option Value},s₁.heap.Ns b m→(hidT s₁.heap H).Ns b m:=fun{b m} zz38=>by obtain⟨o,es,ep,e,d,r⟩:=zz38;exact⟨o,es,ep,base_of e (noA e d),d,r⟩
  have hKb:K.In (hidT s₁.heap H):=fun b o e=>base_of (KX b o e) (by
   cases q:H b with
   | none=>rfl
   | some u=>
    have e':b=a:=hA b (by rw[q];simp)
    subst e'
    rw[hK (by rw[q];simp)] at e;cases e)
  have hM:Mod K mg (hidT s₁.heap H):=⟨hKb,nsK hns,⟨mb,nsK hb,hbb⟩,let ⟨mc,h1,h2⟩:=hlim;⟨mc,nsK h1,h2⟩⟩
  have e0:Env0 P w K mg (hidT s₁.heap H) callerA [] s₁ H:=⟨rfl,hM,fun b o e=>Zv4 e,Nat.le_of_eq (Z28 _ _),trivial,fun b hb=>absurd (show b∈([]:List Addr) from hb) (by simp),hok,.of_eq hg⟩
  refine codeAny_mono ((F _ hKb (nsK hns)).run callerA [] s₁ H ⟨[.ref a],[]⟩ [.ref a] [.ref a] _ _ hr e0 (hbind s₁ (.ref a)) (.cons rfl .nil) (hsp H hO hS)) fun r s' h=>?_
  cases r with
  | error e=>exact(hCX H e s' h).elim
  | ok fl=>
   cases fl with
   | next=>exact Dq h
   | brk=>exact Dq h
   | cont=>exact Dq h
   | ret u=>
    obtain⟨v,H',os,bare,un,hok',r',q⟩:=h
    have q':v= .bl true:=q
    subst q'
    obtain rfl:u=Value.bool true:=r'
    refine⟨rfl,OldK.of_keep fun b o e=>?_,os,bare⟩
    cases q:H b with
    | none=>exact un.keep b o e q (by intro z;exact absurd (show b∈([]:List Addr) from z) (by simp)) (by simp)
    | some u=>
     rcases hO b with z | ⟨ob,xs,z⟩
     ·rw[q] at z;cases z
     ·have z2:=un.frzs b ob _ z
      obtain⟨e1,_⟩:=hok b _ z
      obtain⟨e2,_⟩:=hok' b _ z2
      rw[e] at e1;cases e1
      exact e2
 cases hk:K.lookup a with
 | some o=>
  have e:=KX a o hk
  rw[ha] at e
  cases e
  refine core (fun _=>none) (fun _=> .inl rfl) (.inr ⟨_,vs.toArray,_,hk,rfl,rfl,rfl,by rw[Ah,lenV];exact hl,by simpa using rv⟩) (fun b u z=>by have z':(none:Option HO)=some u:=z;cases z') (fun b z=>absurd rfl z) fun z=>absurd rfl z
 | none=>
  refine core (fun b=>if b=a then some (.frz {cls:= .type "list",data:= .seq vs.toArray} (.lst (ns.map V.int))) else none) (fun b=>?_) (.inl (.inr ⟨{cls:= .type "list",data:= .seq vs.toArray},if_pos rfl⟩)) (fun b u z=>?_) (fun b z=>?_) fun _=>hk
  ·by_cases hb:b=a
   ·exact .inr ⟨_,_,if_pos hb⟩
   ·exact .inl (if_neg hb)
  ·by_cases hb:b=a
   ·have z':=(if_pos hb).symm.trans z
    cases z'
    subst hb
    exact⟨ha,by rw[Ab];exact hl,vs,_,rv,ha⟩
   ·have z':=(if_neg hb).symm.trans z
    cases z'
  ·by_cases hb:b=a
   ·exact hb
   ·exact absurd (if_neg hb) z
noncomputable def Wj(s:Stmt):Arguments:=match s with
 | .FunctionDef _ a _ _ _ _ _ _ _ _=>a
 | _=>{posonlyargs:=[],args:=[],vararg:=none,kwonlyargs:=[],kw_defaults:=[],kwarg:=none,defaults:=[]}
noncomputable def Yp(s:Stmt):List Stmt:=match s with
 | .FunctionDef _ _ b _ _ _ _ _ _ _=>b
 | _=>[]
noncomputable def Zt(s:Stmt):Scope:=match s with
 | .FunctionDef _ _ _ _ _ _ sc _ _ _=>sc
 | _=>{kind:= .function,names:=[],isGenerator:=false,isCoroutine:=false}
noncomputable abbrev CX0:CXT:=fun _ _ _ _ _ _=>False
abbrev E0:XK:=fun _ _ _=>False
structure Fun(K:Af)(x qual:Str)(st:Stmt)(f:Addr)(fd:FuncData):Prop where
 ex:∃(oc:Value) (od:Option Addr) (dV kV doc pm:Value) (an:Option Addr) (cdv ct:Value) (osl:Array (Option Value)),
  fd=Km x qual (Wj st) (Yp st) (Zt st) dV kV doc pm an cdv ct∧K.lookup f=some ⟨oc,od,.func fd,osl⟩∧Mf K cdv qual=true
 kp:Hd K (.ref f)=true
section
variable{P:Program}{w:World}{K:Af}{mg:Str→Option Value}{base:Heap}
theorem Fun.ok{x qual:Str}{st:Stmt}{f:Addr}{fd:FuncData}{N ps:List Str}{k:Nat}{sp:Sp}(F:Fun K x qual st f fd)(S:FnScope N ps (Zt st))(len:∀vs H Q E,sp vs H Q E→vs.length=ps.length)
  (hbody:∀(cdv:Value) (A:Around) (outer:List Env) (s:Shared) (H:Hp) (vs:List V) (Q:VK) (E:XK),Room k (A.deeper (envOfC qual (Zt st) s.heap.objs.size f cdv))→sp vs H Q E→
   ∃t,PSs (cxOf CX0 P w K mg base N qual (Zt st) f cdv A outer s H E).nox (Yp st) t∧t {nx:=fun _ H'=>Q .non H',rt:=Q} (start N vs) H):FnOk P w K mg base CX0 (k+1) f fd ps sp:=by
 obtain⟨oc,od,dV,kV,doc,pm,an,cdv,ct,osl,rfl,lk,hcd⟩:=F.ex
 refine Yc0 lk hcd S len fun A outer s H vs Q E hr hsp=>?_
 obtain⟨t,h,q⟩:=hbody cdv A outer s H vs Q E hr hsp
 exact⟨t,h.nox,q⟩
theorem Y91{x qual:Str}{st:Stmt}{f:Addr}{oc:Value}{od an:Option Addr}{osl:Array (Option Value)}{dV kV doc pm cdv ct:Value}(l:K.lookup f=some ⟨oc,od,.func (Km x qual (Wj st) (Yp st) (Zt st) dV kV doc pm an cdv ct),osl⟩)
  (c:Mf K cdv qual=true) (k:Hd K (.ref f)=true):Fun K x qual st f (Km x qual (Wj st) (Yp st) (Zt st) dV kV doc pm an cdv ct):=⟨⟨oc,od,dV,kV,doc,pm,an,cdv,ct,osl,rfl,l,c⟩,k⟩
end
section
variable{X:Cx}
theorem Z12:Wm X (.builtin "len") (fun xs H Q=>∃a kvs,xs=[V.ref a]∧H a=some (.dK kvs)∧Q (.int kvs.length) H):=by
 intro pins s σ H xs us Q I r h
 obtain⟨a,kvs,rfl,ha,q⟩:=h
 obtain⟨u,rfl,ru⟩:=Nw r
 cases ru
 exact Yb7 I (.inl ha) fun t s' I'=>⟨.int kvs.length,H,I',⟨t,rfl⟩,q⟩
end
end L2
namespace L3
open PySem PySem.Spec PyProof.Rows L2
def Bits(n:Nat)(x:Int):Prop:=x.natAbs<2 ^ n
theorem Cg{m n:Nat}(h:m<2 ^ n)(hn:0<n):m.log2<n:=by
 rcases Nat.eq_zero_or_pos m with h0 | h0
 ·rw[h0];exact hn
 ·exact(Nat.log2_lt (Nat.ne_of_gt h0)).mpr h
section
variable{X:Cx}
def Z24(_ j:Int):Prop:=j≠0∧j.natAbs.log2<9000
theorem Zk6:OpR X (binaryOp .FloorDiv) (rI Z24 fun i j=> .int (i.fdiv j)):=opI fun _ _ _ _ _ _ _ hc q=>floordiv_int hc.1 q (.inl (PyProof.noPylong_of_log2 hc.2))
theorem Zu3:OpR X (binaryOp .Mult) (rI IntMulOk fun i j=> .int (i * j)):=opI fun _ _ _ _ _ _ _ hc q=>mul_int q hc
def rIsB(K:Af):List V→Hp→VK→Prop:=fun xs H Q=>∃x n t b,xs=[x,.ty n]∧TyOf K H x t∧Kh K t (.type n)=some b∧Q (.bl b) H
theorem Zl1:Wm X (.builtin "isinstance") (rIsB X.K):=by
 intro pins s σ H xs us Q I r h
 obtain⟨x,n,t,b,rfl,ty,e,q⟩:=h
 obtain⟨u,v,rfl,ru,rv⟩:=O7 r
 obtain rfl:v=Ly n:=rv
 exact Zb9 I ru ty e fun tk=>⟨.bl b,H,I.tok tk,rfl,q⟩
end
mutual
def Rep(K:Af)(H:Hp):PyData→V→Prop
 | .none,v=>v= .non
 | .bool b,v=>v= .bl b
 | .int i,v=>v= .int i
 | .str x,v=>v= .str x
 | .list ds,v=>∃a xs,v= .ref a∧SqL K H a xs∧X2 K H ds xs
 | .tuple ds,v=>∃a xs,v= .ref a∧SqT K H a xs∧X2 K H ds xs
 | .dict _,_=>False
def X2(K:Af)(H:Hp):List PyData→List V→Prop
 | [],xs=>xs=[]
 | d::ds,xs=>∃v vs,xs=v::vs∧Rep K H d v∧X2 K H ds vs
end
section
variable{X:Cx}{pins:List (Addr×Obj)}{σ:L2.St}{H:Hp}{s:Shared}
mutual
theorem Rep.reads(I:Inv X pins σ H s):∀(d:PyData) (v:V) (u:Value),Rep X.K H d v→RelV v u→∃as,Reads s.heap u d as
 | .none,v,u,h,r=>by
  unfold Rep at h;subst h
  cases (show u=Lm from r)
  exact⟨[],.none⟩
 | .bool b,v,u,h,r=>by
  unfold Rep at h;subst h
  cases (show u=Value.bool b from r)
  exact⟨[],.bool b⟩
 | .int i,v,u,h,r=>by
  unfold Rep at h;subst h
  obtain⟨t,rfl⟩:=(show ∃t,u=Value.int i t from r)
  exact⟨[],.int i t⟩
 | .str x,v,u,h,r=>by
  unfold Rep at h;subst h
  obtain⟨t,rfl⟩:=(show ∃t,u=Value.str x t from r)
  exact⟨[],.str x t⟩
 | .list ds,v,u,h,r=>by
  unfold Rep at h
  obtain⟨a,xs,rfl,hq,ha⟩:=h
  cases (show u=Au a from r)
  obtain⟨its,rv,⟨o,n,h1,h2,_,h4⟩,_⟩:=I.list hq
  obtain⟨as,hr⟩:=X2.reads I ds xs its ha rv
  exact⟨_,.list h1 h2 h4 hr⟩
 | .tuple ds,v,u,h,r=>by
  unfold Rep at h
  obtain⟨a,xs,rfl,hq,ha⟩:=h
  cases (show u=Au a from r)
  obtain⟨its,rv,⟨o,h1,h2,n,h4⟩,_⟩:=I.tuple hq
  obtain⟨as,hr⟩:=X2.reads I ds xs its ha rv
  exact⟨_,.tuple h1 h2 h4 hr⟩
 | .dict kvs,v,u,h,r=>by
  unfold Rep at h
  exact h.elim
theorem X2.reads(I:Inv X pins σ H s):∀(ds:List PyData) (xs:List V) (us:List Value),X2 X.K H ds xs→Vals xs us→∃as,ReadsAll s.heap us ds as
 | [],xs,us,h,r=>by
  unfold X2 at h;subst h
  cases r
  exact⟨[],.nil⟩
 | d::ds,xs,us,h,r=>by
  unfold X2 at h
  obtain⟨v,vs,rfl,h1,h2⟩:=h
  cases r with
  | cons r1 r2=>
   obtain⟨as,q1⟩:=Rep.reads I d v _ h1 r1
   obtain⟨bs,q2⟩:=X2.reads I ds vs _ h2 r2
   exact⟨_,.cons q1 q2⟩
end
end
section
variable{X:Cx}
def rEqD(K:Af)(neg:Bool):R2:=fun x y H Q=>∃da db,Rep K H da x∧Rep K H db y∧da.canLay0=true∧db.canLay0=true∧min da.depth db.depth≤60∧Q (.bl (if neg then !PyData.eqv da db else PyData.eqv da db)) H
theorem Y16(hu:X.A.units+64<cLine):OpR X (compareOp .Eq) (rEqD X.K false):=by
 intro pins s σ H x y v u Q I rx ry h
 obtain⟨da,db,h1,h2,h3,h4,h5,q⟩:=h
 obtain⟨as,q1⟩:=Rep.reads I da x v h1 rx
 obtain⟨bs,q2⟩:=Rep.reads I db y u h2 ry
 exact PySem.SeqAt.compareEq_reads q1 q2 h3 h4 (by omega) ⟨.bl _,H,I,rfl,q⟩
end
end L3
namespace L3
open PySem PySem.W PySem.Calls PyProof.Rows L2
noncomputable def bigN:Nat:=1048576
theorem Sk:∀(ns:List Int) (i:Int),i∈ns→WData.weight (.int i)≤WData.weightAll (ns.map WData.int)
 | [],_,h=>nomatch h
 | n::r,i,h=>by
  rw[Dd]
  have e:WData.weightAll (WData.int n::r.map WData.int)=WData.weight (.int n)+1+WData.weightAll (r.map WData.int):=by simp[WData.weightAll]
  rw[e]
  rcases Aq.mp h with q | q
  ·subst q;omega
  ·have:=Sk r i q;omega
theorem Rr{ns:List Int}(h:WData.layableAll [WData.list (ns.map WData.int)]=true):∀i∈ns,Bits bigN i:=by
 intro i hi
 have h1:WData.layable (WData.list (ns.map WData.int))=true:=by simpa[WData.layableAll] using h
 unfold WData.layable at h1
 rw[Bz9] at h1
 have h2:WData.weight (WData.list (ns.map WData.int))≤2 ^ 20:=of_decide_eq_true h1.2
 have h3:WData.weight (WData.list (ns.map WData.int))=WData.weightAll (ns.map WData.int):=by simp[WData.weight]
 have h4:=Sk ns i hi
 have h5:WData.weight (.int i)=if i==0 then 0 else i.natAbs.log2+1:=by simp[WData.weight]
 unfold Bits bigN
 by_cases h0:i=0
 ·subst h0;exact Nat.two_pow_pos _
 ·have hb:(i==0)=false:=by simpa using h0
  rw[hb] at h5
  have h6:i.natAbs.log2<1048576:=by
   have:(2:Nat) ^ 20=1048576:=by decide
   simp only[Bool.false_eq_true,if_false] at h5
   omega
  exact(Nat.log2_lt (by omega)).mp h6
theorem Jv{l:OpenLaw}{n:Nat}{q:Program}{loose:List Str}{XP:(Str→Option Value)→Heap→Prop}{YP:World→Heap→Prop}{d:DefRec}(hn:l.most=some n)(hdf:d.params.defaults=[])
  (call:∀(w:World) (s₀ s₁:Shared) (mg mb:Str→Option Value) (fa:Addr) (o:Obj) (pm cd doc:Value) (a:Addr) (vs:List Value) (ns:List Int),
   Ground q loose [] XP w s₀ mg mb s₁.heap→YP w s₁.heap→mg d.name=some (.ref fa)→
   s₁.heap.get? a=some {cls:= .type "list",data:= .seq vs.toArray}→IntsAre vs ns→ns.length≤n→(∀i∈ns,Bits bigN i)→s₁.gens=#[]→
   codeAny (model l.prog w) callerA (.call (.ref fa) ⟨[.ref a],[]⟩) (fun r s'=>r= .ok (.ret (.bool true))∧OldK s₁.heap s'.heap∧s'.os=s₁.os∧AllBare s'.gens) s₁):
  WalkO q loose XP YP l.row.toRowW d [] (fun f vs=>PySem.call f vs):=by
 intro w s₀ s₁ mg mb G Y fa o pm cd doc dV kV ho hd hcd hD hmg hg args vals as hpre hlay hrd hwl hlo
 obtain⟨a,vs,ns,rfl,rfl,hobj,hints,hlen⟩:=Att.script_of hn hpre hwl
 refine enter_call (codeAny_mono (call w s₀ s₁ mg mb fa o pm cd doc a vs ns G Y hmg hobj hints hlen (Rr hlay) hg) fun r s' hq=>?_)
 obtain⟨rfl,h2,h3,h4⟩:=hq
 exact⟨.inl ⟨.bool true,.bool true,[],rfl,fun _=>rfl,.bool true,Att.post_true l _,fun _=>⟨List.Pairwise.nil,fun _ hm=>(nomatch hm)⟩⟩,h2,h3,h4⟩
theorem Y83{l:PySem.W.OpenLaw}{n k:Nat}{q:Program}{loose:List Str}{XP:(Str→Option Value)→Heap→Prop}{YP:World→Heap→Prop}{d:DefRec}{K:Params→Af}{CX:World→CXT}{sp:World→Sp}{x:Str}
  (hn:l.most=some n) (hn2:n≤sizeLine) (hdf:d.params.defaults=[]) (hr:Room k callerA) (hY:∀(w:World) (h:Heap),YP w h→(K w.params).In h)
  (F:∀(w:World) (mg:Str→Option Value) (fa:Addr) (h:Heap),(K w.params).In h→h.Ns mainGlobals mg→mg d.name=some (.ref fa)→
   ∃fd:FuncData,(∀(s:Shared) (u:Value),BindsTo s fd ⟨[u],[]⟩ [(x,u)])∧∀base:Heap,(K w.params).In base→base.Ns mainGlobals mg→FnOk l.prog w (K w.params) mg base (CX w) k fa fd [x] (sp w))
  (hsp:∀(w:World) (H:Hp) (a:Addr) (ns:List Int),ns.length≤n→(∀i∈ns,Bits bigN i)→Only H→SqL (K w.params) H a (ns.map V.int)→sp w [.ref a] H (fun v _=>v= .bl true) fun _ _ _=>False)
  (hCX:∀(w:World) (H:Hp) (s:Shared) (e:Value) (s':Shared),CX w [] H s (fun _ _ _=>False) e s'→False):
  PySem.W.WalkO q loose XP YP l.row.toRowW d [] (fun f vs=>PySem.call f vs):=by
 refine Jv hn hdf fun w s₀ s₁ mg mb fa o pm cd doc a vs ns G Y hmg hobj hints hlen hbits hg=>?_
 have KX:=hY w _ Y
 obtain⟨fd,hb,hF⟩:=F w mg fa _ KX G.T.g hmg
 exact Zk7 KX G.T.g G.T.b G.T.builtins G.T.nolimit hg hobj hints (Nat.le_trans hlen hn2) hr hF hb (fun H hO hS=>hsp w H a ns hlen hbits hO hS) fun H e s'=>hCX w H s₁ e s'
end L3
namespace L3
open PySem
section
variable{P:Program}{w:World}{A:Around}{R:Result→Shared→Prop}{s:Shared}{elt tg iter c:Expr}{scope:Scope}{pos:Pos}{it acc:Value}{env:Env}
abbrev noE:Value→Shared→Prop:=fun _ _=>False
theorem B9(I:Nat→Shared→Prop)
  (turn:∀n s,I n s→wpAny (model P w) A (pyNext it) (fun r s1=>match r with
   | none=>R (.ok .next) s1
   | some v=>wpAny (model P w) A (letOwnedTupleGo tg it v) (fun _ s2=>wpAny (model P w) A (assign tg env v) (fun _ s3=>wpAny (model P w) A (eval elt env) (fun x s4=>
     wpAny (model P w) A (call (.builtin "list.append") [acc,x]) (fun _ s5=>∃m,m<n∧I m s5) noE s4) noE s3) noE s2) noE s1) noE s)
  (n:Nat) (h:I n s):codeAny (model P w) A (.compLoop (.ListComp elt [⟨tg,iter,[],0⟩] scope pos) 0 it acc env) R s:=by
 refine codeAny_loop rfl I (fun m z hI=>?_) n h
 show wpAny _ A ((compTurn (.ListComp elt [⟨tg,iter,[],0⟩] scope pos) 0 it acc env).onRaise fun x=>do noteFrame x env;theTreesLotGoes x) _ _ z
 refine wpAny_noted ?_
 rw[compTurn_list1]
 refine Aa (wpAny_standAt (Aa (Hl (turn m z hI) (fun r s1 h1=>?_) fun _ _ f=>f.elim)))
 cases r with
 | none=>exact Ak h1
 | some v=>
  refine Aa (Hl h1 (fun _ s2 h2=>?_) fun _ _ f=>f.elim)
  refine Aa (Hl h2 (fun _ s3 h3=>?_) fun _ _ f=>f.elim)
  refine Aa (Aa (Hl h3 (fun x s4 h4=>?_) fun _ _ f=>f.elim))
  exact Aa (Hl h4 (fun _ s5 h5=>Ak (Ak ⟨rfl,h5⟩)) fun _ _ f=>f.elim)
theorem Cs(I:Nat→Shared→Prop)
  (turn:∀n s,I n s→wpAny (model P w) A (pyNext it) (fun r s1=>match r with
   | none=>R (.ok .next) s1
   | some v=>wpAny (model P w) A (letOwnedTupleGo tg it v) (fun _ s2=>wpAny (model P w) A (assign tg env v) (fun _ s3=>wpAny (model P w) A (isTrue c env (eval c env)) (fun ok s4=>
     if ok=true then wpAny (model P w) A (eval elt env) (fun x s5=>wpAny (model P w) A (call (.builtin "list.append") [acc,x]) (fun _ s6=>∃m,m<n∧I m s6) noE s5) noE s4
     else ∃m,m<n∧I m s4) noE s3) noE s2) noE s1) noE s)
  (n:Nat) (h:I n s):codeAny (model P w) A (.compLoop (.ListComp elt [⟨tg,iter,[c],0⟩] scope pos) 0 it acc env) R s:=by
 refine codeAny_loop rfl I (fun m z hI=>?_) n h
 show wpAny _ A ((compTurn (.ListComp elt [⟨tg,iter,[c],0⟩] scope pos) 0 it acc env).onRaise fun x=>do noteFrame x env;theTreesLotGoes x) _ _ z
 refine wpAny_noted ?_
 rw[compTurn_list]
 refine Aa (wpAny_standAt (Aa (Hl (turn m z hI) (fun r s1 h1=>?_) fun _ _ f=>f.elim)))
 cases r with
 | none=>exact Ak h1
 | some v=>
  refine Aa (Hl h1 (fun _ s2 h2=>?_) fun _ _ f=>f.elim)
  refine Aa (Hl h2 (fun _ s3 h3=>?_) fun _ _ f=>f.elim)
  refine Aa (wpAny_tests_one (Hl h3 (fun ok s4 h4=>?_) fun _ _ f=>f.elim))
  cases ok with
  | false=>exact Ak ⟨rfl,h4⟩
  | true=>
   refine Aa (Aa (Hl h4 (fun x s5 h5=>?_) fun _ _ f=>f.elim))
   exact Aa (Hl h5 (fun _ s6 h6=>Ak (Ak ⟨rfl,h6⟩)) fun _ _ f=>f.elim)
end
theorem Ta:∀(names:List (Str×NameKind)) (acc:List (Str×Addr)),(∀n,(n,Di)∈names→∃c,env.cells.lookup n=some c)→
  (∀x c,acc.lookup x=some c→env.cells.lookup x=some c)→
  ∃cl,(forIn names acc fun(x:Str×NameKind) (cs:List (Str×Addr))=>match x with
   |(name,kind)=>if (kind==Di)=true then do let c ←cellOf env name;pure (ForInStep.yield ((name,c)::cs)) else pure (ForInStep.yield cs):Sem (List (Str×Addr)))=pure cl∧
   (∀x c,cl.lookup x=some c→env.cells.lookup x=some c)∧(∀n,(n,Di)∈names→∃c,cl.lookup n=some c)∧∀x c,acc.lookup x=some c→∃c',cl.lookup x=some c'
 | [],acc,_,ha=>⟨acc,rfl,ha,(fun _ h=>nomatch h),fun x c e=>⟨c,e⟩⟩
 |(n,k)::r,acc,hn,ha=>by
  by_cases hk:k= .free
  ·subst hk
   obtain⟨c,hc⟩:=hn n Dm
   obtain⟨cl,e,h1,h2,h3⟩:=Ta r ((n,c)::acc) (fun m hm=>hn m (Bk _ hm)) (fun x d hx=>by
    rw[Hi] at hx
    cases q:x==n with
    | true=>rw[q] at hx;cases hx;rw[Kn q];exact hc
    | false=>rw[q] at hx;exact ha x d hx)
   refine⟨cl,?_,h1,fun m hm=>?_,fun x d hx=>?_⟩
   ·rw[List.forIn_cons]
    show(bind (bind (cellOf env n) _) _:Sem _)=_
    unfold cellOf
    rw[hc]
    exact e
   ·rcases Aq.mp hm with q | q
    ·cases q;exact h3 n c (by simp[Hi])
    ·exact h2 m q
   ·cases q:x==n with
    | true=>exact h3 x c (by rw[Hi,q])
    | false=>exact h3 x d (by rw[Hi,q];exact hx)
  ·have hb:(k==Di)=false:=by simpa using hk
   obtain⟨cl,e,h1,h2,h3⟩:=Ta r acc (fun m hm=>hn m (Bk _ hm)) ha
   refine⟨cl,?_,h1,fun m hm=>?_,h3⟩
   ·rw[List.forIn_cons]
    show(bind (if (k==Di)=true then _ else _) _:Sem _)=_
    rw[hb]
    exact e
   ·rcases Aq.mp hm with q | q
    ·cases q;exact absurd rfl hk
    ·exact h2 m q
theorem W9(hn:∀n,(n,Di)∈scope.names→∃c,env.cells.lookup n=some c):
  ∃cl,closureFor scope env=pure cl∧(∀x c,cl.lookup x=some c→env.cells.lookup x=some c)∧∀n,(n,Di)∈scope.names→∃c,cl.lookup n=some c:=by
 obtain⟨cl,e,h1,h2,_⟩:=Ta scope.names [] hn (fun x c h=>by cases h)
 refine⟨cl,?_,h1,h2⟩
 exact(congrArg (fun t:Sem (List (Str×Addr))=>bind t fun z=>pure z) e).trans rfl
end L3
namespace L3
open PySem PySem.Spec PyProof.Rows L2
noncomputable def cxC(X:Cx)(N':List Str)(scope:Scope)(cl:List (Str×Addr))(C:Addr)(fp:List Addr)(pins:List (Addr×Obj))(s:Shared)(H:Hp):Cx where
 prog:=X.prog
 w:=X.w
 K:=X.K
 mg:=X.mg
 base:=X.base
 A:=X.A
 N:=N'
 s₀:=s
 H₀:=H
 env:=compEnvC scope cl C X.env
 outer:=X.stack
 stack:=X.stack
 ex:=fp
 fn:=fun x=>scope.names.any fun y=>y.1==x&&y.2== .cell
 calm:=X.calm
 pn:=X.pn++pins
 xe:=noE
noncomputable def Xi(scope dsc:Scope):Scope:=
 {scope with names:=scope.names.map fun(n,k)=>if (k== .free&&dsc.kind== .function&&dsc.names.lookup n==some .cell) then(n,.cell) else(n,k)}
noncomputable def Vm(js:List (Option Nat))(σ:L2.St):L2.St:=js.map fun o=>o.bind fun j=>(σ[j]?).join
structure CompScope(dsc:Scope)(dN N':List Str)(js:List (Option Nat))(scope:Scope):Prop where
 kind:scope.kind= .function
 nd:(scope.names.map (·.1)).Nodup
 loc:∀y∈scope.names,y.2= .local→scope.names.lookup y.1=some .local
 len:js.length=N'.length
 cap:∀(i:Nat) (x:Str) (j:Nat),N'[i]?=some x→js[i]?=some (some j)→dN[j]?=some x∧(x,Di)∈scope.names
 free:∀n,(n,Di)∈scope.names→dsc.names.lookup n=some .cell∨dsc.names.lookup n=some .free
 seen:∀n,(n,Di)∈scope.names→(Xi scope dsc).names.lookup n=some .cell∨(Xi scope dsc).names.lookup n=some .free
noncomputable def Vg(dsc:Scope)(dN N':List Str)(js:List (Option Nat))(scope:Scope):Bool:=
 scope.kind== .function&&decide ((scope.names.map (·.1)).Nodup)&&scope.names.all (fun y=>y.2 != .local || scope.names.lookup y.1==some .local)&&js.length==N'.length&&
 (N'.zip js).all (fun p=>match p.2 with | some j=>dN[j]?==some p.1&&scope.names.contains (p.1,Di) | none=>true)&&
 scope.names.all (fun y=>y.2 != .free || ((dsc.names.lookup y.1==some .cell || dsc.names.lookup y.1==some .free)&&((Xi scope dsc).names.lookup y.1==some .cell || (Xi scope dsc).names.lookup y.1==some .free)))
theorem CompScope.of(h:Vg dsc dN N' js scope=true):CompScope dsc dN N' js scope:=by
 unfold Vg at h
 simp only[Bz9,Hj,beq_iff_eq,bne_iff_ne,Bool.or_eq_true,decide_eq_true_eq] at h
 obtain⟨⟨⟨⟨⟨h1,h2⟩,h3⟩,h4⟩,h5⟩,h6⟩:=h
 refine⟨h1,h2,fun y hy hl=>(h3 y hy).resolve_left fun z=>z hl,h4,fun i x j e1 e2=>?_,fun n hn=>?_,fun n hn=>?_⟩
 ·have hm:(x,some j)∈N'.zip js:=Dx (i:=i) (by rw[List.getElem?_zip_eq_some];exact⟨e1,e2⟩)
  have q:=h5 _ hm
  simp only[Bz9,beq_iff_eq,Hm] at q
  exact q
 ·exact((h6 _ hn).resolve_left fun z=>z rfl).1
 ·exact((h6 _ hn).resolve_left fun z=>z rfl).2
theorem Wi{env:Env}{x:Str}{k:NameKind}:∀{names:List (Str×NameKind)},
  (names.map fun(n,k)=>if (k==Di&&env.scope.kind== .function&&env.kindOf n==some .cell) then(n,He) else(n,k)).lookup x=some k→(k= .cell∨k= .free)→(x,Di)∈names∨(x,He)∈names
 | [],h,_=>by simp at h
 |(n,q)::r,h,hk=>by
  rw[Dd] at h
  by_cases hx:x=n
  ·subst hx
   have hq:q= .free∨q= .cell:=by
    by_cases c:(q==Di&&env.scope.kind== .function&&env.kindOf x==some .cell)=true
    ·rw[Bz9,Bz9] at c
     exact .inl (Kn c.1.1)
    ·simp only[if_neg c] at h
     rw[Hi,beq_self_eq_true] at h
     have e:q=k:=Aw h
     rcases hk with z | z
     ·exact .inr (e.trans z)
     ·exact .inl (e.trans z)
   rcases hq with rfl | rfl
   ·exact .inl Dm
   ·exact .inr Dm
  ·have hb:(x==n)=false:=by simpa using hx
   have rest:(r.map fun(n,k)=>if (k==Di&&env.scope.kind== .function&&env.kindOf n==some .cell) then(n,He) else(n,k)).lookup x=some k:=by
    by_cases c:(q==Di&&env.scope.kind== .function&&env.kindOf n==some .cell)=true
    ·simp only[if_pos c] at h
     rw[Hi,hb] at h
     exact h
    ·simp only[if_neg c] at h
     rw[Hi,hb] at h
     exact h
   exact(Wi (env:=env) rest hk).imp (Bk _) (Bk _)
structure BlockCells(X:Cx)(scope:Scope)(cl:List (Str×Addr))(sz:Nat)(h1:Heap):Prop where
 each:∀x c,cl.lookup x=some c→X.env.cells.lookup x=some c∨(sz<c∧h1.IsCell c none)
 free:∀n,(n,Di)∈scope.names→∃c,cl.lookup n=some c∧X.env.cells.lookup n=some c
 own:∀n,(n,He)∈scope.names→∃c,cl.lookup n=some c∧sz<c
 inj:∀x y c,cl.lookup x=some c→cl.lookup y=some c→sz<c→x=y
theorem Vl{x:Str}:∀(names:List (Str×NameKind)) (n:Nat) (acc:List (Str×Addr)),(x,He)∉names→(cellsFrom n names acc).lookup x=acc.lookup x
 | [],_,_,_=>rfl
 |(y,k)::r,n,acc,h=>by
  have hr:(x,He)∉r:=fun z=>h (Bk _ z)
  unfold cellsFrom
  split
  ·rename_i hk
   have hxy:(x==y)=false:=by
    rw[beq_eq_false_iff_ne]
    intro e
    apply h
    rw[e,←Kn hk]
    exact Dm
   rw[Vl r _ _ hr,Hi,hxy]
  ·exact Vl r n acc hr
theorem R6{x:Str}:∀(names:List (Str×NameKind)) (n:Nat) (acc:List (Str×Addr)),(x,He)∈names→∃c,(cellsFrom n names acc).lookup x=some c∧n≤c
 | [],_,_,h=>by cases h
 |(y,k)::r,n,acc,h=>by
  unfold cellsFrom
  by_cases hr:(x,He)∈r
  ·split
   ·obtain⟨c,e,l⟩:=R6 r (n+1) ((y,n)::acc) hr
    exact⟨c,e,by omega⟩
   ·exact R6 r n acc hr
  ·rcases Aq.mp h with e | e
   ·cases e
    rw[if_pos (by rfl),Vl r _ _ hr,Hi,beq_self_eq_true]
    exact⟨n,rfl,Nat.le_refl _⟩
   ·exact absurd e hr
theorem Wl:∀(names:List (Str×NameKind)) (n:Nat) (acc cl:List (Str×Addr)),∃own,cellsFrom n names (acc++cl)=own++cl∧cellsFrom n names acc=own
 | [],n,acc,cl=>⟨acc,rfl,rfl⟩
 |(y,k)::r,n,acc,cl=>by
  unfold cellsFrom
  split
  ·exact Wl r (n+1) ((y,n)::acc) cl
  ·exact Wl r n acc cl
theorem W6{x:Str}:∀{a b:List (Str×Addr)},(a++b).lookup x=some c→a.lookup x=some c∨b.lookup x=some c
 | [],b,h=> .inr h
 |(y,d)::a,b,h=>by
  rw[Ma,Hi] at h
  rw[Hi]
  cases e:x==y with
  | true=>rw[e] at h;exact .inl h
  | false=>rw[e] at h;exact W6 h
theorem Pd{H:Hp}(nd:(scope.names.map (·.1)).Nodup)(I:Inv X pins σ H s)(o:Obj)
  (c1:∀x c,cl.lookup x=some c→X.env.cells.lookup x=some c) (c2:∀n,(n,Di)∈scope.names→∃c,cl.lookup n=some c):
  BlockCells X scope (cellsFrom (s.heap.objs.size+1) scope.names cl) s.heap.objs.size (pushCells (s.heap.push o) scope.names):=by
 obtain⟨own,e1,e2⟩:=Wl scope.names (s.heap.objs.size+1) [] cl
 rw[Lq] at e1
 have ok:=cellsFrom_ok scope.names (s.heap.push o) (s.heap.objs.size+1) [] ⟨fun _ _ hm=>(nomatch hm),List.Pairwise.nil⟩ (by rw[Ka];exact Nat.le_refl _)
 rw[Ka,e2] at ok
 have old:∀x c,cl.lookup x=some c→c<s.heap.objs.size:=by
  intro x c e
  obtain⟨v,q⟩:=I.cell x c (c1 x c e)
  exact q.lt
 have one:∀{n:Str},(n,Di)∈scope.names→(n,He)∉scope.names:=by
  intro n h1 h2
  have key:∀(l:List (Str×NameKind)),(l.map (·.1)).Nodup→(n,Di)∈l→(n,He)∈l→False:=by
   intro l
   induction l with
   | nil=>intro _ h;cases h
   | cons y r ih=>
    intro hn a b
    rw[Dd,Io] at hn
    rcases Aq.mp a with e1 | a2
    ·rcases Aq.mp b with e2 | b2
     ·rw[←e1] at e2;cases e2
     ·exact hn.1 (Hw.mpr ⟨_,b2,by rw[←e1]⟩)
    ·rcases Aq.mp b with e2 | b2
     ·exact hn.1 (Hw.mpr ⟨_,a2,by rw[←e2]⟩)
     ·exact ih hn.2 a2 b2
  exact key _ nd h1 h2
 refine⟨fun x c e=>?_,fun n hn=>?_,fun n hn=>?_,fun x y c hx hy hc=>?_⟩
 ·rw[e1] at e
  rcases W6 e with z | z
  ·obtain⟨a,b⟩:=ok.empty x c (mem_of_lookup z)
   exact .inr ⟨b,a⟩
  ·exact .inl (c1 x c z)
 ·obtain⟨c,hc⟩:=c2 n hn
  refine⟨c,?_,c1 n c hc⟩
  rw[Vl _ _ _ (one hn)]
  exact hc
 ·obtain⟨c,a,b⟩:=R6 scope.names (s.heap.objs.size+1) cl hn
  exact⟨c,a,b⟩
 ·rw[e1] at hx hy
  rcases W6 hx with z | z
  ·rcases W6 hy with z2 | z2
   ·exact name_of_addr ok.apart (mem_of_lookup z) (mem_of_lookup z2)
   ·exact absurd (old y c z2) (Nat.lt_asymm hc)
  ·exact absurd (old x c z) (Nat.lt_asymm hc)
theorem Pq{M:Model}{A:Around}{E:Value→Shared→Prop}{s:Shared}{scope:Scope}{globals:Addr}{cl:List (Str×Addr)}{qual:Str}{o:Env}{Q:Env→Shared→Prop}
  (hQ:Q {scope:=scope,locals:=s.heap.objs.size,globals:=globals,cells:=cellsFrom (s.heap.objs.size+1) scope.names cl,qual:=qual,func:=none,code:=o.code,frame:=o.frame,builtins:=o.builtins} {s with heap:=pushCells (s.heap.push {cls:= .type "dict",data:= .dict #[]}) scope.names}):
  wpAny M A (newFunctionEnv scope globals cl [] qual none .none (some o)) Q E s:=by
 simp only[newFunctionEnv,Option.isSome_some,if_true]
 refine Aa (wpAny_alloc ?_)
 refine Aa (wpAny_layCells _ (fun name kind cells=>by cases hkc:kind==He<;>simp[hkc]) _ _ _ _ ?_)
 rw[show({s with heap:=s.heap.push {cls:= .type "dict",data:= .dict #[]}}:Shared).heap.objs.size=s.heap.objs.size+1 from Ka ..]
 rw[List.forIn_nil]
 exact Aa (Ak (Ak hQ))
section
variable{X:Cx}{elt tg iter c:Expr}{scope:Scope}{pos:Pos}{N':List Str}{js:List (Option Nat)}{wi:TI}{g:TG}{te:TE}{tc:TT}
theorem Pn{N':List Str}{js:List (Option Nat)}{pins:List (Addr×Obj)}{σ:L2.St}{H:Hp}{s:Shared}{cl:List (Str×Addr)}{fp:List Addr}{h1:Heap}{tk:Nat}(S:CompScope X.env.scope X.N N' js scope)(I:Inv X pins σ H s)
  (bc:BlockCells X scope cl s.heap.objs.size h1) (hf:∀b∈fp,FpOk X pins H b) (hlt:∀b∈fp,b<s.heap.objs.size)
  {m:Str→Option Value} (hn:h1.Ns s.heap.objs.size m) (hk:∀b o,s.heap.get? b=some o→h1.get? b=some o):
  Inv (cxC X N' scope cl s.heap.objs.size fp pins s H) [] (Vm js σ) H {s with heap:=h1,toks:=tk}:=by
 have ok:(cxC X N' scope cl s.heap.objs.size fp pins s H).Ok:=by
  refine⟨I.ok.mod,S.kind,I.ok.glob,I.ok.blt,Nat.le_refl _,fun x y c h1 h2=>?_,fun x hx=>?_,fun x c hx e=>?_,I.ok.hd,I.ok.frames,.inl rfl,fun b hb=>⟨Nat.ne_of_lt (hlt b hb),fun x c e=>?_⟩,
   I.bs,Nat.le_trans I.ok.bsz I.sz,fun b o e hb=>?_,fun b hb hx=>?_,I.stack,I.stkFree⟩
  ·rcases bc.each x c h1 with z | z
   ·rcases bc.each y c h2 with z2 | z2
    ·exact I.ok.inj x y c z z2
    ·exact bc.inj x y c h1 h2 z2.1
   ·exact bc.inj x y c h1 h2 z.1
  ·have hx':(relabel scope X.env).names.lookup x=some .cell∨(relabel scope X.env).names.lookup x=some .free:=hx
   have hm:(x,Di)∈scope.names∨(x,He)∈scope.names:=by
    rcases hx' with z | z
    ·exact Wi z (.inl rfl)
    ·exact Wi z (.inr rfl)
   rcases hm with z | z
   ·obtain⟨c,e,_⟩:=bc.free x z;exact⟨c,e⟩
   ·obtain⟨c,e,_⟩:=bc.own x z;exact⟨c,e⟩
  ·have hx':(scope.names.any fun y=>y.1==x&&y.2==He)=true:=hx
   rw[Mb] at hx'
   obtain⟨⟨y,k⟩,hm,hy⟩:=hx'
   rw[Bz9] at hy
   have e1:y=x:=Kn hy.1
   have e2:k= .cell:=Kn hy.2
   subst e1 e2
   obtain⟨c',e',l⟩:=bc.own _ hm
   have:c'=c:=Aw (e'.symm.trans e)
   subst this
   exact Nat.le_of_lt l
  ·rcases bc.each x c e with z | z
   ·exact(hf b hb).2.2.2.2.1 x c z
   ·exact fun q=>absurd z.1 (Nat.lt_asymm (by rw[q];exact hlt b hb))
  ·obtain⟨_,_,_,f3,_⟩:=hf b hb
   rcases f3 with z | z
   ·exact I.ok.noex b o e z
   ·exact absurd (Nat.lt_of_lt_of_le (Al e) (Nat.le_trans I.ok.bsz z)) (Nat.lt_irrefl _)
  ·obtain⟨_,f1,f2,_⟩:=hf b hb
   rcases Aq.mp (I.stkSub b hx) with z | z
   ·exact f1 z
   ·exact f2 z
 refine⟨ok,rfl,I.bare,Un.kept hk,⟨m,hn,fun i x v e1 e2 e3=>?_⟩,fun x c e=>?_,I.hok.fresh (Nat.le_refl _),fun x c e=>(bc.each x c e).elim (fun z=>I.freeC x c z) (fun z=>I.hok.fresh (Nat.le_of_lt z.1)),fun p hp=>?_,I.hok.kept hk,?_⟩
 ·have e2':(Vm js σ)[i]?=some (some v):=e2
  unfold Vm at e2'
  rw[Ai] at e2'
  cases q:js[i]? with
  | none=>rw[q] at e2';cases e2'
  | some o=>
   rw[q] at e2'
   cases o with
   | none=>cases e2'
   | some j=>
    have e4:(σ[j]?).join=some v:=Aw e2'
    obtain⟨hN,hm⟩:=S.cap i x j e1 q
    have hσ:σ[j]?=some (some v):=by
     cases z:σ[j]? with
     | none=>rw[z] at e4;cases e4
     | some o=>rw[z] at e4;exact congrArg some e4
    obtain⟨m0,hn0,hl⟩:=I.loc
    obtain⟨c,hc,hc0⟩:=bc.free x hm
    have hv:Vis X.env.scope x:=(S.free x hm).elim (fun z=> .inr (.inl z)) fun z=> .inr (.inr z)
    obtain⟨u,r,l⟩:=hl j x v hN hσ hv
    refine⟨u,r,.inr ⟨?_,c,hc,?_⟩⟩
    ·exact S.seen x hm
    ·rcases l with⟨kl,_⟩ | ⟨_,c',hc',cell⟩
     ·rcases S.free x hm with y | y<;>(have z:=y.symm.trans (show X.env.scope.names.lookup x=some .local from kl);cases z)
     ·rw[hc0] at hc'
      cases hc'
      obtain⟨o,ho,hd⟩:=cell
      exact⟨o,hk _ _ ho,hd⟩
 ·rcases bc.each x c e with z | z
  ·obtain⟨v,o,ho,hd⟩:=I.cell x c z
   exact⟨v,o,hk _ _ ho,hd⟩
  ·exact⟨none,z.2⟩
 ·have hp':p∈X.pn++pins:=(Az.mp hp).elim (fun z=>z) fun z=>absurd z (by simp)
  obtain⟨e,n,ne,nf,d⟩:=I.pin p hp'
  refine⟨hk _ _ e,n,Nat.ne_of_lt (Al e),fun z=>?_,d⟩
  rcases Aq.mp (I.stkSub p.1 z) with y | y
  ·exact ne y
  ·exact nf y
 ·show(Vm js σ).length=N'.length
  unfold Vm
  rw[Ab];exact S.len
end
section
variable{X:Cx}{elt tg iter c:Expr}{scope:Scope}{pos:Pos}{N':List Str}{js:List (Option Nat)}{wi:TI}{g:TG}{te:TE}{tc:TT}
def Za4(js:List (Option Nat))(wi:TI)(g:TG)(te:TE):TE:=fun σ H Q=>wi σ H fun J H1=>∀D,H1 D=none→∃W:Nat→Nat→L2.St→Hp→Prop,(∃m,W 0 m (Vm js σ) (upd H1 D (.lst [])))∧
 ∀i m σc Hc,W i m σc Hc→(J.stop i Hc∧Q (.ref D) Hc)∨(J.go i Hc∧∀x H',J.yld i Hc x H'→g x σc H' fun σ2 H2=>te σ2 H2 fun y H4=>∃acc,H4 D=some (.lst acc)∧acc.length<sizeLine∧
  ∃m',m'<m∧W (i+1) m' σ2 (upd H4 D (.lst (acc++[y]))))
def Zm9(js:List (Option Nat))(wi:TI)(g:TG)(tc:TT)(te:TE):TE:=fun σ H Q=>wi σ H fun J H1=>∀D,H1 D=none→∃W:Nat→Nat→L2.St→Hp→Prop,(∃m,W 0 m (Vm js σ) (upd H1 D (.lst [])))∧
 ∀i m σc Hc,W i m σc Hc→(J.stop i Hc∧Q (.ref D) Hc)∨(J.go i Hc∧∀x H',J.yld i Hc x H'→g x σc H' fun σ2 H2=>tc σ2 H2 fun b H3=>if b=true then te σ2 H3 fun y H4=>∃acc,H4 D=some (.lst acc)∧acc.length<sizeLine∧
  ∃m',m'<m∧W (i+1) m' σ2 (upd H4 D (.lst (acc++[y]))) else ∃m',m'<m∧W (i+1) m' σ2 H3)
theorem Rz{pins:List (Addr×Obj)}{σ:L2.St}{H2:Hp}{s2:Shared}{cl:List (Str×Addr)}{it:Addr}{fp:List Addr}{tn:Nat→Heap→Prop}{J:It}{QD:Addr→Hp→Prop}{R:Value→Addr→Result→Shared→Prop}{E:Value→Shared→Prop}
  (hc:X.calm=true) (S:CompScope X.env.scope X.N N' js scope) (c1:∀x c,cl.lookup x=some c→X.env.cells.lookup x=some c) (c2:∀n,(n,Di)∈scope.names→∃c,cl.lookup n=some c)
  (hg:∀cl C fp pins s H,PG (cxC X N' scope cl C fp pins s H) tg g) (he:∀cl C fp pins s H,PE (cxC X N' scope cl C fp pins s H) elt te)
  (I2:Inv X pins σ H2 s2) (T:Turn X.prog X.w X.K tg J fp it tn) (st2:tn 0 s2.heap) (f2:∀b∈fp,FpOk X pins H2 b)
  (q:∀D,H2 D=none→∃W:Nat→Nat→L2.St→Hp→Prop,(∃m,W 0 m (Vm js σ) (upd H2 D (.lst [])))∧
   ∀i m σc Hc,W i m σc Hc→(J.stop i Hc∧QD D Hc)∨(J.go i Hc∧∀x H',J.yld i Hc x H'→g x σc H' fun σ2 H2=>te σ2 H2 fun y H4=>∃acc,H4 D=some (.lst acc)∧acc.length<sizeLine∧
    ∃m',m'<m∧W (i+1) m' σ2 (upd H4 D (.lst (acc++[y])))))
  (back:∀(D C:Addr) (Hc:Hp) (s4:Shared),(∃m,s4.heap.Ns C m)→Inv X pins σ Hc s4→Hc C=none→C≠X.env.locals→X.s₀.heap.objs.size≤C→(∀x c,X.env.cells.lookup x=some c→c≠C)→(∀p∈X.pn++pins,p.1≠C)→QD D Hc→R (.ref D) C (.ok .next) s4):
  wpAny (model X.prog X.w) X.A (newList []) (fun acc s3=>wpAny (model X.prog X.w) X.A (newFunctionEnv scope X.env.globals cl [] X.env.qual none .none (some X.env)) (fun cenv s4=>
   codeAny (model X.prog X.w) X.A (.compStart (.ListComp elt [⟨tg,iter,[],0⟩] scope pos) 0 (.ref it) acc {cenv with scope:=relabel scope X.env}) (R acc cenv.locals) s4) E s3) E s2:=by
 refine Il (Pq ?_)
 dsimp only
 have I3:Inv X pins σ (upd H2 s2.heap.objs.size (.lst [])) {s2 with heap:=s2.heap.push {cls:= .type "list",data:= .seq ([]:List Value).toArray}}:=I2.lnew (its:=[]) (t':=s2.toks) .nil (Nat.zero_le _)
 obtain⟨W,⟨m0,w0⟩,turn⟩:=q s2.heap.objs.size I2.fresh
 have hob:=T.obj 0 _ st2
 have f3:∀b∈fp,FpOk X pins (upd H2 s2.heap.objs.size (.lst [])) b:=fun b hb=>by
  obtain⟨o,e,_⟩:=hob b hb
  exact⟨by rw[Zi (Nat.ne_of_lt (Al e))];exact(f2 b hb).1,(f2 b hb).2⟩
 generalize hS3:(s2.heap.push {cls:= .type "list",data:= .seq ([]:List Value).toArray}:Heap)=h3 at *
 have k23:∀b o,s2.heap.get? b=some o→h3.get? b=some o:=fun b o e=>by rw[←hS3];exact An _ e
 have hlt:∀b∈fp,b<h3.objs.size:=fun b hb=>by
  obtain⟨o,e,_⟩:=hob b hb
  exact Al (k23 b o e)
 have bc:=Pd S.nd I3 {cls:= .type "dict",data:= .dict #[]} c1 c2
 have hns:(pushCells (h3.push {cls:= .type "dict",data:= .dict #[]}) scope.names).Ns h3.objs.size (fun _=>none):=(Heap.Ns.new h3 (.type "dict")).keeps (pushCells_keeps _ _)
 have k31:∀b o,h3.get? b=some o→(pushCells (h3.push {cls:= .type "dict",data:= .dict #[]}) scope.names).get? b=some o:=fun b o e=>pushCells_keeps _ _ b o (An _ e)
 dsimp only at bc
 generalize cellsFrom (h3.objs.size+1) scope.names cl=cl' at bc ⊢
 generalize pushCells (h3.push {cls:= .type "dict",data:= .dict #[]}) scope.names=h1 at bc hns k31 ⊢
 have I4:=Pn (tk:=s2.toks) S I3 bc f3 hlt hns k31
 have st4:tn 0 h1:=T.keep 0 _ h1 st2 fun b hb o e=>k31 b o (k23 b o e)
 have nofs:∀b∈fp,b∉(cxC X N' scope cl' h3.objs.size fp pins {s2 with heap:=h3} (upd H2 s2.heap.objs.size (.lst []))).fs:=I4.ok.exfs
 have stat:∀{H':Hp},(∀b∈fp,H' b=none)→∀b∈fp,FpOk (cxC X N' scope cl' h3.objs.size fp pins {s2 with heap:=h3} (upd H2 s2.heap.objs.size (.lst []))) [] H' b:=fun{H'} hn b hb=>
  ⟨hn b hb,Nat.ne_of_lt (hlt b hb),nofs b hb,.inl hb,fun x c e=>(bc.each x c e).elim (fun z=>(f3 b hb).2.2.2.2.1 x c z) (fun z q=>absurd z.1 (Nat.lt_asymm (by rw[q];exact hlt b hb))),fun p hp=>(f3 b hb).2.2.2.2.2 p (by simpa[cxC] using hp)⟩
 have loop:codeAny (model X.prog X.w) X.A (.compLoop (.ListComp elt [⟨tg,iter,[],0⟩] scope pos) 0 (.ref it) (.ref s2.heap.objs.size) (compEnvC scope cl' h3.objs.size X.env))
   (R (.ref s2.heap.objs.size) h3.objs.size) {s2 with heap:=h1,toks:=s2.toks}:=by
  refine B9 (fun n s'=>∃i σc Hc,Inv (cxC X N' scope cl' h3.objs.size fp pins {s2 with heap:=h3} (upd H2 s2.heap.objs.size (.lst []))) [] σc Hc s'∧tn i s'.heap∧(∀b∈fp,Hc b=none)∧W i n σc Hc) ?_ m0
   ⟨0,_,_,I4,st4,fun b hb=>(f3 b hb).1,w0⟩
  rintro n z ⟨i,σc,Hc,Iz,stz,frz,wz⟩
  rcases turn i n σc Hc wz with⟨stop,qd⟩ | ⟨go,step⟩
  ·refine thn (T.done (cxC X N' scope cl' h3.objs.size fp pins {s2 with heap:=h3} (upd H2 s2.heap.objs.size (.lst []))) rfl rfl rfl hc i [] z σc Hc noE Iz (stat frz) stz stop) fun r s4 zz39=>?_
   obtain⟨hr,I5⟩:=zz39
   subst hr
   have J5:Inv X pins σ Hc s4:=I3.call' (s':=s4) I5.os I5.base I5.hok I5.bare fun b hb=>⟨(f3 b hb).2.2.2.1,(f3 b hb).2.1,(f3 b hb).2.2.2.2.1,(f3 b hb).2.2.2.2.2⟩
   obtain⟨m,hm,_⟩:=I5.loc
   refine back _ _ Hc s4 ⟨m,hm⟩ J5 I5.free (Nat.ne_of_gt I3.lt) (Nat.le_trans I3.ok.above (Nat.le_of_lt I3.lt)) (fun x c e z=>?_) (fun p hp z=>?_) qd
   ·obtain⟨v,q⟩:=I3.cell x c e
    exact absurd q.lt (by rw[z];exact Nat.lt_irrefl _)
   ·exact absurd (Al (I3.pin p hp).1) (by rw[z];exact Nat.lt_irrefl _)
  ·refine thn (T.item (cxC X N' scope cl' h3.objs.size fp pins {s2 with heap:=h3} (upd H2 s2.heap.objs.size (.lst []))) rfl rfl rfl hc i [] z σc Hc noE Iz (stat frz) stz go) fun r s4 zz40=>?_
   obtain⟨u,hr,h4⟩:=zz40
   subst hr
   refine thn h4 fun _ s5 zz41=>?_
   obtain⟨x,H5,I5,r5,y5,st5,fr5⟩:=zz41
   have I5':=I5.pinned (stat fr5) (T.obj _ _ st5)
   refine thn (hg _ _ _ _ _ _ _ s5 σc H5 x u _ I5' r5 (step x H5 y5)) fun _ s6 zz42=>?_
   obtain⟨σ6,H6,I6,q6⟩:=zz42
   refine thn (he _ _ _ _ _ _ _ s6 σ6 H6 _ I6 q6) fun v s7 zz43=>?_
   obtain⟨y,H7,I7,r7,acc,hD,hlen,m',hm,w7⟩:=zz43
   refine thn (Rk _ s7 σ6 H7 (.ref s2.heap.objs.size) [y] (.ref s2.heap.objs.size) [v] (fun _ H8=>H8=upd H7 s2.heap.objs.size (.lst (acc++[y]))) I7 rfl (.cons r7 .nil) ⟨_,acc,y,rfl,rfl,hD,hlen,rfl⟩) fun _ s8 zz44=>?_
   obtain⟨_,H8,I8,_,e8⟩:=zz44
   subst e8
   refine⟨m',hm,i+1,σ6,_,I8.unpinned,T.keep _ _ _ st5 fun b hb o e=>(I8.pin (b,o) (Ax _ (Ax _ (Y9 hb e)))).1,fun b hb=>?_,w7⟩
   obtain⟨o,e,d⟩:=T.obj _ _ st5 b hb
   exact(I8.pin (b,o) (Ax _ (Ax _ (Y9 hb e)))).2.1
 exact codeAny_compStart_list loop (T.self _ 0 _ _ _ st4 loop)
theorem Zg6(hc:X.calm=true)(ho:Vg X.env.scope X.N N' js scope=true)(hi:PI X tg iter wi)(hg:∀cl C fp pins s H,PG (cxC X N' scope cl C fp pins s H) tg g)(he:∀cl C fp pins s H,PE (cxC X N' scope cl C fp pins s H) elt te)
  (hs:∀x,foldedSetIterable iter X.env x=pure x:=by intro _;rfl):PE X (.ListComp elt [⟨tg,iter,[],0⟩] scope pos) (Za4 js wi g te):=by
 intro pins s σ H Q I h
 have S:=CompScope.of ho
 obtain⟨cl,hcl,c1,c2⟩:=W9 (scope:=scope) (env:=X.env) fun n hn=>I.ok.has n (S.free n hn)
 rw[eval_ListComp]
 refine Lf (use:=none) rfl hs hcl S.kind S.loc (thn (hi pins s σ H _ I h) fun v s1 h1=>thn h1 fun itv s2 h2=>?_)
 obtain⟨it,fp,tn,J,H2,e,I2,T,st2,f2,q2⟩:=h2
 subst e
 refine Rz (QD:=fun D Hc=>Q (.ref D) Hc) (R:=fun acc C=>compPost (model X.prog X.w) X.A X.xe none (EP X pins σ Q) acc C) hc S c1 c2 hg he I2 T st2 f2 q2 ?_
 rintro D C Hc s4 ⟨m,hm⟩ J4 fC nL sC cC pC qd
 refine⟨m,hm,fun h' hs'=>⟨.ref D,Hc,?_,rfl,qd⟩⟩
 exact J4.turned (t':=s4.toks) (fun b o hb e=>(hs'.2 b hb).trans e) fC nL (.inr sC) cC pC
def Y47(i:Nat)(js:List (Option Nat))(wi:TI)(g:TG)(te:TE):TS:=fun D σ H=>Za4 js wi g te σ H fun v H1=>D.nx (σ.set i (some v)) H1
theorem Zj1{i:Nat}{x:Str}(hc:X.calm=true)(ho:Vg X.env.scope X.N N' js scope=true)(hN:X.N.Nodup)(hx:X.N[i]?=some x)(hl:X.env.scope.names.lookup x=some .local)(hi:PI X tg iter wi)
  (hg:∀cl C fp pins s H,PG (cxC X N' scope cl C fp pins s H) tg g) (he:∀cl C fp pins s H,PE (cxC X N' scope cl C fp pins s H) elt te)
  (hsw:swapsWith (.ListComp elt [⟨tg,iter,[],0⟩] scope pos) (some (.Name x px)) spos.line X.env=pure true)
  (hs:∀x,foldedSetIterable iter X.env x=pure x:=by intro _;rfl):PS X (.Assign [.Name x px] (.ListComp elt [⟨tg,iter,[],0⟩] scope pos) spos) (Y47 i js wi g te):=by
 intro pins s σ H D I h
 have S:=CompScope.of ho
 obtain⟨cl,hcl,c1,c2⟩:=W9 (scope:=scope) (env:=X.env) fun n hn=>I.ok.has n (S.free n hn)
 rw[exec_Assign_Name_used _ _ _ _ hsw]
 refine Aa (wpAny_standAt (Aa ?_))
 show wpAny _ _ (do let _ ←comprehension (.ListComp elt [⟨tg,iter,[],0⟩] scope pos) scope X.env _ (newList []) false (eval iter X.env) (some (assign (.Name x px) X.env))) _ _ s
 refine Aa (Hl (Lf (use:=some (assign (.Name x px) X.env)) (Q:=fun _ s'=>SP X pins D .next s') rfl hs hcl S.kind S.loc (thn (hi pins s σ H _ I h) fun v s1 h1=>thn h1 fun itv s2 h2=>?_)) (fun _ s' hq=>Ak (Ak hq)) fun _ _ e=>e)
 obtain⟨it,fp,tn,J,H2,e,I2,T,st2,f2,q2⟩:=h2
 subst e
 refine Rz (QD:=fun E' Hc=>D.nx (σ.set i (some (.ref E'))) Hc) (R:=fun acc C=>compPost (model X.prog X.w) X.A X.xe (some (assign (.Name x px) X.env)) (fun _ s'=>SP X pins D .next s') acc C) hc S c1 c2 hg he I2 T st2 f2 q2 ?_
 rintro E' C Hc s4 ⟨m,hm⟩ J4 fC nL sC cC pC qd
 show wpAny _ _ (assign (.Name x px) X.env (.ref E')) _ _ s4
 refine wpAny_assign_Name (Sv J4 hN hx (.inl hl) (v:= .ref E') rfl (fun s5 J5 zz45=>?_) (.inr hl))
 obtain⟨a,sb,ha⟩:=zz45
 have hCa:C≠a:=by
  rcases ha with z | z
  ·rw[z];exact nL
  ·exact(cC x a z).symm
 refine⟨m,hm.sameBut sb hCa,fun h' hs'=>⟨σ.set i (some (.ref E')),Hc,?_,qd⟩⟩
 exact J5.turned (t':=s5.toks) (fun b o hb e=>(hs'.2 b hb).trans e) fC nL (.inr sC) cC pC
theorem Sl{pins:List (Addr×Obj)}{σ:L2.St}{H2:Hp}{s2:Shared}{cl:List (Str×Addr)}{it:Addr}{fp:List Addr}{tn:Nat→Heap→Prop}{J:It}{QD:Addr→Hp→Prop}{R:Value→Addr→Result→Shared→Prop}{E:Value→Shared→Prop}
  (hc:X.calm=true) (S:CompScope X.env.scope X.N N' js scope) (c1:∀x c,cl.lookup x=some c→X.env.cells.lookup x=some c) (c2:∀n,(n,Di)∈scope.names→∃c,cl.lookup n=some c)
  (hg:∀cl C fp pins s H,PG (cxC X N' scope cl C fp pins s H) tg g) (hq:∀cl C fp pins s H,PT (cxC X N' scope cl C fp pins s H) c tc) (he:∀cl C fp pins s H,PE (cxC X N' scope cl C fp pins s H) elt te)
  (I2:Inv X pins σ H2 s2) (T:Turn X.prog X.w X.K tg J fp it tn) (st2:tn 0 s2.heap) (f2:∀b∈fp,FpOk X pins H2 b)
  (q:∀D,H2 D=none→∃W:Nat→Nat→L2.St→Hp→Prop,(∃m,W 0 m (Vm js σ) (upd H2 D (.lst [])))∧
   ∀i m σc Hc,W i m σc Hc→(J.stop i Hc∧QD D Hc)∨(J.go i Hc∧∀x H',J.yld i Hc x H'→g x σc H' fun σ2 H2=>tc σ2 H2 fun b H3=>if b=true then te σ2 H3 fun y H4=>∃acc,H4 D=some (.lst acc)∧acc.length<sizeLine∧
    ∃m',m'<m∧W (i+1) m' σ2 (upd H4 D (.lst (acc++[y]))) else ∃m',m'<m∧W (i+1) m' σ2 H3))
  (back:∀(D C:Addr) (Hc:Hp) (s4:Shared),(∃m,s4.heap.Ns C m)→Inv X pins σ Hc s4→Hc C=none→C≠X.env.locals→X.s₀.heap.objs.size≤C→(∀x c,X.env.cells.lookup x=some c→c≠C)→(∀p∈X.pn++pins,p.1≠C)→QD D Hc→R (.ref D) C (.ok .next) s4):
  wpAny (model X.prog X.w) X.A (newList []) (fun acc s3=>wpAny (model X.prog X.w) X.A (newFunctionEnv scope X.env.globals cl [] X.env.qual none .none (some X.env)) (fun cenv s4=>
   codeAny (model X.prog X.w) X.A (.compStart (.ListComp elt [⟨tg,iter,[c],0⟩] scope pos) 0 (.ref it) acc {cenv with scope:=relabel scope X.env}) (R acc cenv.locals) s4) E s3) E s2:=by
 refine Il (Pq ?_)
 dsimp only
 have I3:Inv X pins σ (upd H2 s2.heap.objs.size (.lst [])) {s2 with heap:=s2.heap.push {cls:= .type "list",data:= .seq ([]:List Value).toArray}}:=I2.lnew (its:=[]) (t':=s2.toks) .nil (Nat.zero_le _)
 obtain⟨W,⟨m0,w0⟩,turn⟩:=q s2.heap.objs.size I2.fresh
 have hob:=T.obj 0 _ st2
 have f3:∀b∈fp,FpOk X pins (upd H2 s2.heap.objs.size (.lst [])) b:=fun b hb=>by
  obtain⟨o,e,_⟩:=hob b hb
  exact⟨by rw[Zi (Nat.ne_of_lt (Al e))];exact(f2 b hb).1,(f2 b hb).2⟩
 generalize hS3:(s2.heap.push {cls:= .type "list",data:= .seq ([]:List Value).toArray}:Heap)=h3 at *
 have k23:∀b o,s2.heap.get? b=some o→h3.get? b=some o:=fun b o e=>by rw[←hS3];exact An _ e
 have hlt:∀b∈fp,b<h3.objs.size:=fun b hb=>by
  obtain⟨o,e,_⟩:=hob b hb
  exact Al (k23 b o e)
 have bc:=Pd S.nd I3 {cls:= .type "dict",data:= .dict #[]} c1 c2
 have hns:(pushCells (h3.push {cls:= .type "dict",data:= .dict #[]}) scope.names).Ns h3.objs.size (fun _=>none):=(Heap.Ns.new h3 (.type "dict")).keeps (pushCells_keeps _ _)
 have k31:∀b o,h3.get? b=some o→(pushCells (h3.push {cls:= .type "dict",data:= .dict #[]}) scope.names).get? b=some o:=fun b o e=>pushCells_keeps _ _ b o (An _ e)
 dsimp only at bc
 generalize cellsFrom (h3.objs.size+1) scope.names cl=cl' at bc ⊢
 generalize pushCells (h3.push {cls:= .type "dict",data:= .dict #[]}) scope.names=h1 at bc hns k31 ⊢
 have I4:=Pn (tk:=s2.toks) S I3 bc f3 hlt hns k31
 have st4:tn 0 h1:=T.keep 0 _ h1 st2 fun b hb o e=>k31 b o (k23 b o e)
 have nofs:∀b∈fp,b∉(cxC X N' scope cl' h3.objs.size fp pins {s2 with heap:=h3} (upd H2 s2.heap.objs.size (.lst []))).fs:=I4.ok.exfs
 have stat:∀{H':Hp},(∀b∈fp,H' b=none)→∀b∈fp,FpOk (cxC X N' scope cl' h3.objs.size fp pins {s2 with heap:=h3} (upd H2 s2.heap.objs.size (.lst []))) [] H' b:=fun{H'} hn b hb=>
  ⟨hn b hb,Nat.ne_of_lt (hlt b hb),nofs b hb,.inl hb,fun x c e=>(bc.each x c e).elim (fun z=>(f3 b hb).2.2.2.2.1 x c z) (fun z q=>absurd z.1 (Nat.lt_asymm (by rw[q];exact hlt b hb))),fun p hp=>(f3 b hb).2.2.2.2.2 p (by simpa[cxC] using hp)⟩
 have loop:codeAny (model X.prog X.w) X.A (.compLoop (.ListComp elt [⟨tg,iter,[c],0⟩] scope pos) 0 (.ref it) (.ref s2.heap.objs.size) (compEnvC scope cl' h3.objs.size X.env))
   (R (.ref s2.heap.objs.size) h3.objs.size) {s2 with heap:=h1,toks:=s2.toks}:=by
  refine Cs (fun n s'=>∃i σc Hc,Inv (cxC X N' scope cl' h3.objs.size fp pins {s2 with heap:=h3} (upd H2 s2.heap.objs.size (.lst []))) [] σc Hc s'∧tn i s'.heap∧(∀b∈fp,Hc b=none)∧W i n σc Hc) ?_ m0
   ⟨0,_,_,I4,st4,fun b hb=>(f3 b hb).1,w0⟩
  rintro n z ⟨i,σc,Hc,Iz,stz,frz,wz⟩
  rcases turn i n σc Hc wz with⟨stop,qd⟩ | ⟨go,step⟩
  ·refine thn (T.done (cxC X N' scope cl' h3.objs.size fp pins {s2 with heap:=h3} (upd H2 s2.heap.objs.size (.lst []))) rfl rfl rfl hc i [] z σc Hc noE Iz (stat frz) stz stop) fun r s4 zz46=>?_
   obtain⟨hr,I5⟩:=zz46
   subst hr
   have J5:Inv X pins σ Hc s4:=I3.call' (s':=s4) I5.os I5.base I5.hok I5.bare fun b hb=>⟨(f3 b hb).2.2.2.1,(f3 b hb).2.1,(f3 b hb).2.2.2.2.1,(f3 b hb).2.2.2.2.2⟩
   obtain⟨m,hm,_⟩:=I5.loc
   refine back _ _ Hc s4 ⟨m,hm⟩ J5 I5.free (Nat.ne_of_gt I3.lt) (Nat.le_trans I3.ok.above (Nat.le_of_lt I3.lt)) (fun x c e z=>?_) (fun p hp z=>?_) qd
   ·obtain⟨v,q⟩:=I3.cell x c e
    exact absurd q.lt (by rw[z];exact Nat.lt_irrefl _)
   ·exact absurd (Al (I3.pin p hp).1) (by rw[z];exact Nat.lt_irrefl _)
  ·refine thn (T.item (cxC X N' scope cl' h3.objs.size fp pins {s2 with heap:=h3} (upd H2 s2.heap.objs.size (.lst []))) rfl rfl rfl hc i [] z σc Hc noE Iz (stat frz) stz go) fun r s4 zz47=>?_
   obtain⟨u,hr,h4⟩:=zz47
   subst hr
   refine thn h4 fun _ s5 zz48=>?_
   obtain⟨x,H5,I5,r5,y5,st5,fr5⟩:=zz48
   have I5':=I5.pinned (stat fr5) (T.obj _ _ st5)
   refine thn (hg _ _ _ _ _ _ _ s5 σc H5 x u _ I5' r5 (step x H5 y5)) fun _ s6 zz49=>?_
   obtain⟨σ6,H6,I6,q6⟩:=zz49
   refine thn (hq _ _ _ _ _ _ _ s6 σ6 H6 _ I6 q6) fun ok s6' zz50=>?_
   obtain⟨H6',I6',q6'⟩:=zz50
   cases ok with
   | false=>
    rw[if_neg Bf9] at q6' ⊢
    obtain⟨m',hm,w7⟩:=q6'
    refine⟨m',hm,i+1,σ6,_,I6'.unpinned,T.keep _ _ _ st5 fun b hb o e=>(I6'.pin (b,o) (Ax _ (Ax _ (Y9 hb e)))).1,fun b hb=>?_,w7⟩
    obtain⟨o,e,d⟩:=T.obj _ _ st5 b hb
    exact(I6'.pin (b,o) (Ax _ (Ax _ (Y9 hb e)))).2.1
   | true=>
   rw[if_pos rfl] at q6' ⊢
   refine thn (he _ _ _ _ _ _ _ s6' σ6 H6' _ I6' q6') fun v s7 zz51=>?_
   obtain⟨y,H7,I7,r7,acc,hD,hlen,m',hm,w7⟩:=zz51
   refine thn (Rk _ s7 σ6 H7 (.ref s2.heap.objs.size) [y] (.ref s2.heap.objs.size) [v] (fun _ H8=>H8=upd H7 s2.heap.objs.size (.lst (acc++[y]))) I7 rfl (.cons r7 .nil) ⟨_,acc,y,rfl,rfl,hD,hlen,rfl⟩) fun _ s8 zz52=>?_
   obtain⟨_,H8,I8,_,e8⟩:=zz52
   subst e8
   refine⟨m',hm,i+1,σ6,_,I8.unpinned,T.keep _ _ _ st5 fun b hb o e=>(I8.pin (b,o) (Ax _ (Ax _ (Y9 hb e)))).1,fun b hb=>?_,w7⟩
   obtain⟨o,e,d⟩:=T.obj _ _ st5 b hb
   exact(I8.pin (b,o) (Ax _ (Ax _ (Y9 hb e)))).2.1
 exact codeAny_compStart_list loop (T.self _ 0 _ _ _ st4 loop)
theorem Zd2(hc:X.calm=true)(ho:Vg X.env.scope X.N N' js scope=true)(hi:PI X tg iter wi)(hg:∀cl C fp pins s H,PG (cxC X N' scope cl C fp pins s H) tg g)(hq:∀cl C fp pins s H,PT (cxC X N' scope cl C fp pins s H) c tc)(he:∀cl C fp pins s H,PE (cxC X N' scope cl C fp pins s H) elt te)
  (hs:∀x,foldedSetIterable iter X.env x=pure x:=by intro _;rfl):PE X (.ListComp elt [⟨tg,iter,[c],0⟩] scope pos) (Zm9 js wi g tc te):=by
 intro pins s σ H Q I h
 have S:=CompScope.of ho
 obtain⟨cl,hcl,c1,c2⟩:=W9 (scope:=scope) (env:=X.env) fun n hn=>I.ok.has n (S.free n hn)
 rw[eval_ListComp]
 refine Lf (use:=none) rfl hs hcl S.kind S.loc (thn (hi pins s σ H _ I h) fun v s1 h1=>thn h1 fun itv s2 h2=>?_)
 obtain⟨it,fp,tn,J,H2,e,I2,T,st2,f2,q2⟩:=h2
 subst e
 refine Sl (QD:=fun D Hc=>Q (.ref D) Hc) (R:=fun acc C=>compPost (model X.prog X.w) X.A X.xe none (EP X pins σ Q) acc C) hc S c1 c2 hg hq he I2 T st2 f2 q2 ?_
 rintro D C Hc s4 ⟨m,hm⟩ J4 fC nL sC cC pC qd
 refine⟨m,hm,fun h' hs'=>⟨.ref D,Hc,?_,rfl,qd⟩⟩
 exact J4.turned (t':=s4.toks) (fun b o hb e=>(hs'.2 b hb).trans e) fC nL (.inr sC) cC pC
def Y34(i:Nat)(js:List (Option Nat))(wi:TI)(g:TG)(tc:TT)(te:TE):TS:=fun D σ H=>Zm9 js wi g tc te σ H fun v H1=>D.nx (σ.set i (some v)) H1
theorem Zk8{i:Nat}{x:Str}(hc:X.calm=true)(ho:Vg X.env.scope X.N N' js scope=true)(hN:X.N.Nodup)(hx:X.N[i]?=some x)(hl:X.env.scope.names.lookup x=some .local)(hi:PI X tg iter wi)
  (hg:∀cl C fp pins s H,PG (cxC X N' scope cl C fp pins s H) tg g) (hq:∀cl C fp pins s H,PT (cxC X N' scope cl C fp pins s H) c tc) (he:∀cl C fp pins s H,PE (cxC X N' scope cl C fp pins s H) elt te)
  (hsw:swapsWith (.ListComp elt [⟨tg,iter,[c],0⟩] scope pos) (some (.Name x px)) spos.line X.env=pure true)
  (hs:∀x,foldedSetIterable iter X.env x=pure x:=by intro _;rfl):PS X (.Assign [.Name x px] (.ListComp elt [⟨tg,iter,[c],0⟩] scope pos) spos) (Y34 i js wi g tc te):=by
 intro pins s σ H D I h
 have S:=CompScope.of ho
 obtain⟨cl,hcl,c1,c2⟩:=W9 (scope:=scope) (env:=X.env) fun n hn=>I.ok.has n (S.free n hn)
 rw[exec_Assign_Name_used _ _ _ _ hsw]
 refine Aa (wpAny_standAt (Aa ?_))
 show wpAny _ _ (do let _ ←comprehension (.ListComp elt [⟨tg,iter,[c],0⟩] scope pos) scope X.env _ (newList []) false (eval iter X.env) (some (assign (.Name x px) X.env))) _ _ s
 refine Aa (Hl (Lf (use:=some (assign (.Name x px) X.env)) (Q:=fun _ s'=>SP X pins D .next s') rfl hs hcl S.kind S.loc (thn (hi pins s σ H _ I h) fun v s1 h1=>thn h1 fun itv s2 h2=>?_)) (fun _ s' hq=>Ak (Ak hq)) fun _ _ e=>e)
 obtain⟨it,fp,tn,J,H2,e,I2,T,st2,f2,q2⟩:=h2
 subst e
 refine Sl (QD:=fun E' Hc=>D.nx (σ.set i (some (.ref E'))) Hc) (R:=fun acc C=>compPost (model X.prog X.w) X.A X.xe (some (assign (.Name x px) X.env)) (fun _ s'=>SP X pins D .next s') acc C) hc S c1 c2 hg hq he I2 T st2 f2 q2 ?_
 rintro E' C Hc s4 ⟨m,hm⟩ J4 fC nL sC cC pC qd
 show wpAny _ _ (assign (.Name x px) X.env (.ref E')) _ _ s4
 refine wpAny_assign_Name (Sv J4 hN hx (.inl hl) (v:= .ref E') rfl (fun s5 J5 zz53=>?_) (.inr hl))
 obtain⟨a,sb,ha⟩:=zz53
 have hCa:C≠a:=by
  rcases ha with z | z
  ·rw[z];exact nL
  ·exact(cC x a z).symm
 refine⟨m,hm.sameBut sb hCa,fun h' hs'=>⟨σ.set i (some (.ref E')),Hc,?_,qd⟩⟩
 exact J5.turned (t':=s5.toks) (fun b o hb e=>(hs'.2 b hb).trans e) fC nL (.inr sC) cC pC
end
end L3
namespace L3
open PySem
def ExAt(h:Heap)(e:Addr)(cls:Value)(dd:Option Addr)(tb:Value):Prop:=∃oe vs,h.get? e=some oe∧(oe.cls=cls∧oe.dict=dd)∧oe.data= .fields vs∧vs[1]?=some tb
def TbAt(h:Heap)(T:Addr)(fl:Value):Prop:=∃oT ts,h.get? T=some oT∧oT.data= .fields ts∧ts[3]?=some fl
structure Flown(fs xs:List Addr)(h h':Heap):Prop where
 keep:∀b o,h.get? b=some o→b∉fs→b∉xs→h'.get? b=some o
 slot:∀b o,h.get? b=some o→b∈fs→b∉xs→∃sl,h'.get? b=some {o with slots:=sl}
 there:∀b o,h.get? b=some o→∃o',h'.get? b=some o'
end L3
namespace L3
open PySem PySem.W
section
variable{prog:Program}{w:World}{A:Around}{h:Heap}{g:Array GenState}{d:Drawn}{t:Nat}{os:OsState}
variable{nm q:Str}{C N f:Addr}{bs bm:List Value}{hdct:Bool}{sn:List Str}{sub:List Value}{ab:Bool}{col:Option Bool}{dd:Option Addr}{k0 k1 k2 k3 k5:Option Value}{Bn newId inN:String}{bmN:List Value}
structure ExcCls(h:Heap)(C:Addr)(nm q:Str)(N:Addr)(bs bm:List Value)(hdct:Bool)(sn:List Str)(sub:List Value)(ab:Bool)(col:Option Bool)(dd:Option Addr)(k0 k1 k2 k3 k5:Option Value)(Bn newId:String):Prop where
 obj:h.get? C=some (excClassObj nm q C N bs bm hdct sn sub ab col dd k0 k1 k2 k3 k5 newId)
 hB:(Au C::bm).contains (.type Bn)=true
 hA:(Au C::bm).contains (.type "AttributeError")=false
 hN:(Au C::bm).contains (.type "NameError")=false
 hE:(Au C::bm).contains (.type "BaseException")=true
end
end L3
namespace L3
open PySem PySem.W PySem.Calls PyProof.Rows Builtin Builtin.ObjectAttr
structure ExcSet(K:Frag)(C:Addr)(name:Str):Prop where
 cls:∃cd own,clsIn K C=some cd∧cd.hasDict=true∧cd.mro=own++[.type "ValueError",.type "Exception",.type "BaseException",.type "object"]∧∀v∈own,∃a,v=Au a
 no:findIn K (.ref C) name=some none
 set:findIn K (.ref C) "__setattr__"=some (some (.builtin "object.__setattr__"))
section
variable{prog:Program}{w:World}{A:Around}{K:Frag}{C e:Addr}{s:Shared}{name:Str}{R:Result→Shared→Prop}
structure ExcGet(K:Frag)(C:Addr)(name:Str):Prop where
 cls:∃cd,clsIn K C=some cd∧cd.hasDict=true
 no:findIn K (.ref C) name=some none
 ga:findIn K (.ref C) "__getattribute__"=some (some (.builtin "BaseException.__getattribute__"))
 gh:findIn K (.ref C) "__getattr__"=some none
 base:mroIn K C (.type "BaseException")=some true
theorem Zx1(self:Value):bindSpecial (.builtin "BaseException.__getattribute__") self=pure (.builtin "BaseException.__getattribute__",[self]):=by kernel_rfl
theorem Zs7:builtinKind "BaseException.__getattribute__"=some .slot:=by decide+kernel
theorem Zi7:splitId "BaseException.__getattribute__"=some ("BaseException","__getattribute__"):=by decide+kernel
theorem Zd4:plainId "BaseException.__getattribute__"=true:=by decide+kernel
theorem Zz8(a b:Value):argsOk "BaseException.__getattribute__" ⟨[a,b],[]⟩:=by unfold argsOk;kernel_rfl
end
end L3
namespace L3
open PySem PySem.Spec PyProof.Rows L2
noncomputable def XO(e:Addr)(cls:Value)(dd:Option Addr):HO:= .ext fun h=>∃oe vs tb,h.get? e=some oe∧(oe.cls=cls∧oe.dict=dd)∧oe.data= .fields vs∧vs[1]?=some tb
theorem XO.at{H:Hp}(x:Yc P w H h e (XO e cls dd)):∃tb,ExAt h e cls dd tb:=by
 obtain⟨⟨oe,vs,tb,q1,q2,q3,q4⟩,_⟩:=x
 exact⟨tb,oe,vs,q1,q2,q3,q4⟩
noncomputable def CX1(P:Program)(w:World):CXT:=fun outer H s E e s'=>∃(ea T:Addr) (cls:Value) (dd:Option Addr) (H':Hp),e= .ref ea∧s'.os=s.os∧AllBare s'.gens∧Un (frs outer) [] H H' s.heap s'.heap∧HOk P w H' s'.heap∧
 (s.heap.objs.size≤ea∧s.heap.objs.size≤T)∧H' ea=some (XO ea cls dd)∧(H' T=none∧T≠ea)∧ExAt s'.heap ea cls dd (.ref T)∧TbAt s'.heap T .none∧E cls dd H'
structure Leaves(X:Cx)(E:XK):Prop where
 stk:X.stack=X.env::X.outer
 fr:X.env.frame=some X.env.locals
 ex:X.ex=[]
 xe:∀e s',wpAny (model X.prog X.w) X.A (leaving X.env e) (fun _ s''=>CX1 X.prog X.w X.outer X.H₀ X.s₀ E e s'') (fun e' s''=>CX1 X.prog X.w X.outer X.H₀ X.s₀ E e' s'') s'→X.xe e s'
structure ExcMk(K:Af)(C f:Addr):Prop where
 cls:∃nm q N bs bm hdct sn sub ab col dd k0 k1 k2 k3 k5,K.lookup C=some (excClassObj nm q C N bs bm hdct sn sub ab col dd k0 k1 k2 k3 k5 "ValueError.__new__")∧(Au C::bm).contains (.type "ValueError")=true∧
  (Au C::bm).contains (.type "AttributeError")=false∧(Au C::bm).contains (.type "NameError")=false∧(Au C::bm).contains (.type "BaseException")=true
 init:Lx K (.ref C) "__init__"=some (some (.ref f))
 fn:PySem.W.isFn K (.ref f)=true
 kp:Hd K (.ref C)=true
end L3
namespace L3
open PySem PySem.W PySem.Calls PyProof.Rows Builtin Builtin.ObjectAttr
section
variable{prog:Program}{w:World}{A:Around}{E:Value→Shared→Prop}{K:Frag}{C D e:Addr}{s:Shared}
structure ExcIs(K:Frag)(C:Addr):Prop where
 cls:∃cd,clsIn K C=some cd∧cd.hasDict=true
 ga:findIn K (.ref C) "__getattribute__"=some (some (.builtin "BaseException.__getattribute__"))
 gh:findIn K (.ref C) "__getattr__"=some none
 base:mroIn K C (.type "BaseException")=some true
 own:findIn K (.ref C) "__class__"=some (some (.builtin "object.__class__"))
 ds:specialIn K (.builtin "object.__class__") "__get__"=some (some (.builtin "getset_descriptor.__get__"))
 tk:takesIn K (.builtin "object.__class__")=some true
 obj:mroIn K C (.type "object")=some true
theorem Z78{oe:Obj}{od:Obj}{Q:Option Value→Shared→Prop}(X:K.In s.heap)(S:ExcIs K C)(J:InstAt s.heap e oe C (some od))(h:Q (some (.ref C)) {s with toks:=s.toks+1}):
  wpAny (model prog w) A (getAttr? (.ref e) "__class__") Q E s:=by
 obtain⟨⟨cd,hcd,hdict⟩,hga,hgh,hbase,hown,hds,htk,hobj⟩:=S
 obtain⟨hp,g,d,t,os⟩:=s
 have hf:findObj K C (some od) "__class__"=some (.bind (.builtin "getset_descriptor.__get__") (.builtin "object.__class__")):=findObj_data (by rw[hcd];rfl) hown hds htk
 have L0:=J.type (M:=model prog w)
 have L1:=looks_findIn (M:=model prog w) X hga
 have L2:=looks_findIn (M:=model prog w) X hgh
 have L3':=looks_find (M:=model prog w) X J hf
 have sub:Looks (model prog w) hp (isInstance (.ref e) (.type "BaseException")) true:=L0.andThen (looks_mroIn X hbase)
 unfold getAttr? getAttrBy? getAttrBy
 refine Aa (wpAny_mkText (Aa (wpAny_attempt (Hu (Aa (L0.at (Aa (L1.at ?_))))))))
 show wpAny _ _ (getAttrByItsOwn _ _ _ _ _ _) _ _ _
 unfold getAttrByItsOwn
 refine Aa (L2.at (Aa (wpAny_attempt (Hu ?_))))
 unfold callGetattribute
 rw[if_neg (by decide)]
 unfold boundAndCalled
 rw[Zx1]
 refine Aa (Ak (wpAny_call ?_))
 refine codeAny_call_builtin Zd4 F.entry_bexc_ga (@check_slot (model prog w) _ _ _ "BaseException.__getattribute__" "BaseException" "__getattribute__" (.ref e) [.str "__class__" t] [] _ Zs7 Zi7 sub (Zz8 (.ref e) (.str "__class__" t)) ?_)
 show wpAny _ _ (typeOf (.ref e) >>=fun tp=>find (.ref e) tp "__class__" >>=_) _ _ _
 refine Aa (L0.at (Aa (L3'.at ?_)))
 have hcall:=class_get (prog:=prog) (w:=w) (A:=A.in1) (s:=⟨hp,g,d,t+1,os⟩) (tp:= .ref C) (R:=fun r s'=>r= .ok (.ret (.ref C))∧s'=⟨hp,g,d,t+1,os⟩) X J hobj ⟨rfl,rfl⟩
 unfold bindTo
 refine Aa (Hu (wpAny_call (codeAny_mono hcall fun r s' z=>?_)))
 obtain⟨rfl,rfl⟩:=z
 refine Ak ?_
 show wpAny _ _ (handedOut (.ref C)) _ _ _
 exact handed_on rfl (Ak h)
end
end L3
namespace L3
open PySem PySem.Spec PyProof.Rows L2
section
variable{K:Af}{C e:Addr}
theorem Fw(S:ExcIs K C):PySem.W.KitX K (.ref e) (.ref C) (fun h=>PySem.W.InstAt h e oe C (some od)) where
 ty:=fun _ _ _ I=>I.type
 it:=fun _ _ X _=>by
  obtain⟨cd,hcd,_⟩:=S.cls
  unfold PySem.W.clsIn at hcd
  split at hcd
  ·rename_i ho
   intro A' Q' E' s' k q
   unfold isType loadHead
   exact Aa (wpAny_loadPart (k _ _ (X _ _ ho)) (Ak q))
  ·cases hcd
 ne:=fun h tp dd its n sl X htp=>by
  obtain⟨cd,hcd,_⟩:=S.cls
  refine Bool.eq_false_iff.mpr fun q=>?_
  have z:C=tp:=Au.inj (beq_iff_eq.mp q)
  subst z
  unfold PySem.W.clsIn at hcd
  split at hcd
  ·rename_i ho
   have y:=(X _ _ ho).symm.trans htp
   cases y
  ·cases hcd
 ca:=fun X I k=>Z78 X S I k
variable{X:Cx}{pins:List (Addr×Obj)}{σ:L2.St}{H:Hp}{s:Shared}{dx:Addr}{fs:List (Str×V)}
theorem Fa(I:Inv X pins σ H s)(he:H e=some (XO e (.ref C) (some dx)))(hd:H dx=some (.xd fs)):∃(oe od:Obj) (mA:Str→Option Value),PySem.W.InstAt s.heap e oe C (some od)∧(∀name,PySem.W.lookIn name od=some (mA name))∧∀f,RelO (fs.lookup f) (mA f):=by
 obtain⟨tb,oe,vs,h1,⟨h2,h3⟩,h4,_⟩:=XO.at (I.hok e _ he)
 obtain⟨mA,hn,hr⟩:=(show Yc X.prog X.w H s.heap dx (.xd fs) from I.hok dx _ hd)
 obtain⟨od,q1,q2⟩:=Je hn
 refine⟨oe,od,mA,⟨h1,h2,by unfold PySem.W.notCls;rw[h4],by rw[h3];exact q1⟩,q2,hr⟩
def rIsX(K:Af):List V→Hp→VK→Prop:=fun xs H Q=>∃e C dx fs c cv b,xs=[.ref e,c]∧H e=some (XO e (.ref C) (some dx))∧H dx=some (.xd fs)∧ExcIs K C∧(∀u,RelV c u→u=cv)∧Kh K (.ref C) cv=some b∧Q (.bl b) H
theorem Ed:Wm X (.builtin "isinstance") (rIsX X.K):=by
 intro pins s σ H xs us Q I r h
 obtain⟨e,C,dx,fs,c,cv,b,rfl,he,hd,S,hc,k,q⟩:=h
 obtain⟨u,v,rfl,ru,rv⟩:=O7 r
 obtain rfl:u=Au e:=ru
 cases hc v rv
 obtain⟨oe,od,mA,J,_⟩:=Fa I he hd
 exact Hh (Fw S) I.kIn J k (fun z=>nomatch z) fun tk=>⟨.bl b,H,I.tok tk,rfl,q⟩
end
def XP(X:Cx)(pins:List (Addr×Obj))(σ:L2.St)(E:XK)(x:Value)(s':Shared):Prop:=∃(e T:Addr) (cls:Value) (dd:Option Addr) (H':Hp),x= .ref e∧Inv X pins σ H' s'∧FpOk X pins H' T∧T≠e∧H' e=some (XO e cls dd)∧
 ExAt s'.heap e cls dd (.ref T)∧TbAt s'.heap T .none∧E cls dd H'
abbrev TEX:=L2.St→Hp→VK→XK→Prop
abbrev TSX:=Ends→XK→L2.St→Hp→Prop
structure Catch(K:Af)(C D:Addr)(b:Bool):Prop where
 ty:PySem.W.typeIn K (.ref D)=some (.type "type")
 cls:(PySem.W.clsIn K D).isSome=true
 exc:PySem.W.mroIn K D (.type "BaseException")=some true
 sub:PySem.W.mroIn K C (.ref D)=some b
section
open PySem.W
end
end L3
namespace L3
open PySem PyProof.Rows
section
variable{prog:Program}{w:World}{A:Around}{E:Value→Shared→Prop}{s:Shared}
abbrev Zm2(h:Heap)(z TI TO:Addr)(f0:Value)(b:Bool):Prop:=
 h.get? z=some {cls:= .type "zip",dict:=none,data:= .fields #[f0,.bool b,.bool false,.ref TI,.ref TO],slots:=#[]}
end
section
variable{prog:Program}{w:World}{A:Around}{E:Value→Shared→Prop}{s:Shared}
structure ZS(h0 h:Heap)(S z TI TO i1 i2 l1 l2:Addr)(xs ys:Array Value)(Ts:List Addr):Prop where
 kept:∀b o,h0.get? b=some o→h.get? b=some o
 zp:(Ts=[]∧Zm2 h z TI TO .none false∧∃a b,IsPair h TO a b)∨∃(T:Addr) (b:Bool) (oT:Obj),Zm2 h z TI TO (rawInt T) b∧h.get? T=some oT
 ti:IsPair h TI (.ref i1) (.ref i2)
 to:∃o,h.get? TO=some o
 t1:h.IsListIter i1 l1 Ts.length
 t2:h.IsListIter i2 l2 Ts.length
 nd:Ts.Nodup
 tp:∀(j:Nat) T,Ts[j]?=some T→∃x y,xs[j]?=some x∧ys[j]?=some y∧IsPair h T x y
 tb:∀T∈Ts,h0.objs.size≤T∧T≠z∧T≠TO∧T≠i1∧T≠i2∧T≠S
structure ZF(h0:Heap)(S z TI TO i1 i2 l1 l2:Addr)(xs ys:Array Value):Prop where
 D:ZipApart z TI TO i1 i2 l1 l2
 l1:h0.IsList l1 xs
 l2:h0.IsList l2 ys
 nz:h0.objs.size≤z
 nTO:h0.objs.size≤TO
 n1:h0.objs.size≤i1
 n2:h0.objs.size≤i2
 nS:h0.objs.size≤S
 sz:S≠z
 sTI:S≠TI
 sTO:S≠TO
 s1:S≠i1
 s2:S≠i2
end
structure ZEnd(h0 h:Heap)(S:Addr)(xs ys:Array Value)(Ts:List Addr):Prop where
 kept:∀b o,h0.get? b=some o→h.get? b=some o
 len:Ts.length=min xs.size ys.size
 nd:Ts.Nodup
 tp:∀(j:Nat) T,Ts[j]?=some T→∃x y,xs[j]?=some x∧ys[j]?=some y∧IsPair h T x y
 tb:∀T∈Ts,h0.objs.size≤T∧T≠S
 so:∃c,h.get? S=some {cls:= .type "list",dict:=none,data:= .seq (Ts.map Au).toArray c,slots:=#[]}
end L3
namespace L3
open PySem PySem.Spec PyProof.Rows L2
section
variable{X:Cx}{pins:List (Addr×Obj)}{σ:L2.St}{H H':Hp}{s:Shared}{h':Heap}
theorem Wz:∀Ts:List Addr,Vals (Ts.map V.ref) (Ts.map Au)
 | []=> .nil
 | _::r=> .cons rfl (Wz r)
end
section
variable{X:Cx}
noncomputable def eqVs(vs ys:List V):Bool:=(Ay (min vs.length ys.length)).all (fun j=>eqV (vs.getD j .non) (ys.getD j .non))&&vs.length==ys.length
noncomputable def eqUT(H:Hp)(ys:List V):Value→Bool
 | .ref a=>match H a with
  | some (.tup vs)=>eqVs vs ys
  | _=>false
 | _=>false
theorem Zj8{x:V}(h:Yy x=true):eqV x x=true:=by
 cases x<;>first | rfl | (simp[eqV];done) | exact absurd (show false=true from h) Bf9
theorem Z60(h:xs.all Yy=true):eqVs xs xs=true:=by
 unfold eqVs
 rw[Bz9,Hj]
 refine⟨fun j hj=>?_,by simp⟩
 rw[Hx] at hj
 have hl:j<xs.length:=by omega
 rw[Hj] at h
 rw[Dy,Ag hl]
 exact Zj8 (h _ (Ic hl))
theorem Y07{H:Hp}(I:Inv X pins σ H s)(hu:A.units+2<cLine){a b:Addr}(ha:H a=some (.tup vs))(hb:H b=some (.tup ys))(fa:vs.all Yy=true)(fb:ys.all Yy=true):Dp A s (.ref a) (.ref b) (eqVs vs ys):=by
 by_cases e:a=b
 ·subst e
  rw[ha] at hb
  cases hb
  rw[Z60 fa]
  exact Dp.same _
 ·obtain⟨us,ru,ta,_⟩:=I.tuple (.of ha)
  obtain⟨ws,rw',tb,_⟩:=I.tuple (.of hb)
  have l1:=ru.length
  have l2:=rw'.length
  have key:=SeqAt.RcAt.tuples (A:=A) (e:=fun j=>eqV (vs.getD j .non) (ys.getD j .non)) ta tb (by omega) (fun j h1 h2=>by
   have j1:j<vs.length:=by rw[Ah] at h1;omega
   have j2:j<ys.length:=by rw[Ah] at h2;omega
   obtain⟨u,e1,r1⟩:=ru.get (Ag j1)
   obtain⟨w,e2,r2⟩:=rw'.get (Ag j2)
   have x1:us.toArray[j]=u:=by have:=(Ac.mp e1).2;simpa using this
   have x2:ws.toArray[j]=w:=by have:=(Ac.mp e2).2;simpa using this
   rw[x1,x2,Dy,Dy,Ag j1,Ag j2]
   rw[Hj] at fa fb
   exact Er r1 r2 (fa _ (Ic j1)) (fb _ (Ic j2)))
  have hs:((Ay (min us.toArray.size ws.toArray.size)).all (fun j=>eqV (vs.getD j .non) (ys.getD j .non))&&us.toArray.size==ws.toArray.size)=eqVs vs ys:=by
   unfold eqVs
   rw[Ah,Ah,l1,l2]
  rw[hs] at key
  exact Dp.of_refs e key
theorem Zq0{H:Hp}{a b:Addr}(I:Inv X pins σ H s)(k:∀c o,c≠a→c≠b→s.heap.get? c=some o→h'.get? c=some o)(fa:FpOk X pins H a)(fb:FpOk X pins H b):Inv X pins σ H {s with heap:=h',toks:=t'}:=by
 have na:∀c u,H c=some u→c≠a:=by
  intro c u e z
  rw[z,fa.1] at e
  cases e
 have nb:∀c u,H c=some u→c≠b:=by
  intro c u e z
  rw[z,fb.1] at e
  cases e
 have kk:∀c o,c∉[a,b]→s.heap.get? c=some o→h'.get? c=some o:=by
  intro c o hc e
  refine k c o ?_ ?_ e
  ·intro z;apply hc;rw[z];simp
  ·intro z;apply hc;rw[z];simp
 refine I.step (ch:=[a,b]) (g':=s.gens) (d':=s.drawn) ?_ ?_ ?_ ?_ ?_ ?_ ?_ ?_ ?_ ?_ I.bare
 ·intro c hc
  have:c=a∨c=b:=by simpa using hc
  rcases this with rfl | rfl
  ·exact⟨fa.2.2.2.1,fa.2.1,fa.2.2.2.2.1,fa.2.2.2.2.2⟩
  ·exact⟨fb.2.2.2.1,fb.2.1,fb.2.2.2.2.1,fb.2.2.2.2.2⟩
 ·intro c o _ _ hc e _;exact kk c o hc e
 ·intro c o _ _ hc e _;exact⟨o.slots,kk c o hc e⟩
 ·intro _ _ _ _ n;exact n
 ·intro c o hc e;exact⟨o,kk c o hc e⟩
 ·intro _ _ e;exact e
 ·intro _ _ _ e;exact e
 ·intro c ps e;exact⟨#[],by rw[e];simp⟩
 ·rintro m ⟨o,es,ep,ho,r⟩
  exact⟨o,es,ep,k _ o (Df fa.2.1) (Df fb.2.1) ho,r⟩
 ·intro c u e
  refine(I.hok c u e).stay ?_ (fun _ q=>q) fun _ _ q=>q
  intro d v hd q
  rcases hd with z | z
  ·subst z;exact k d v (na d u e) (nb d u e) q
  ·exact k d v (na d _ z) (nb d _ z) q
noncomputable def Ite(K:Af)(a:Addr):It:=
 ⟨fun i H=>∃xs x,SqL K H a xs∧xs[i]?=some x,fun i H x H'=>∃p y,H p=none∧H'=upd H p (.tup [.int i,y])∧x= .ref p∧∀xs,SqL K H a xs→xs[i]?=some y,fun i H=>∃xs,SqL K H a xs∧xs.length≤i⟩
theorem Vq{h:Heap}{o u:Obj}{b:Addr}(e:(h.push o).get? b=some u):h.get? b=some u∨b=h.objs.size:=by
 by_cases hb:b=h.objs.size
 ·exact .inr hb
 ·refine .inl ?_
  have hl:=Al e
  rw[Ka] at hl
  obtain⟨e1,e2⟩:=Heap.get?_some_iff.mp e
  refine Heap.get?_some_iff.mpr ⟨?_,e2⟩
  cases h
  simpa[Heap.push,Array.getElem?_push,hb] using e1
theorem Z90{P:Program}{w:World}{K:Af}{elts:List Expr}{x1:Nat}{tp:Pos}(a e it:Addr)(hne:e≠it):
  Turn P w K (.Tuple elts x1 tp) (Ite K a) [e,it] e (fun i h=>(∃old,IsEnum h e it i old)∧h.IsListIter it a i) where
 mem:=by simp
 obj:=by
  rintro i h ⟨⟨old,he⟩,hit⟩ b hb
  have:b=e∨b=it:=by simpa using hb
  rcases this with rfl | rfl
  ·exact⟨_,he,fun v z=>by cases z⟩
  ·obtain⟨o,e,c,d⟩:=hit
   exact⟨o,e,fun v z=>by rw[d] at z;cases z⟩
 keep:=by
  rintro i h h' ⟨⟨old,he⟩,hit⟩ k
  exact⟨⟨old,k e (by simp) _ he⟩,hit.at fun o z=>k it (by simp) o z⟩
 item:=by
  rintro X rfl rfl rfl hc i pins s σ H E I hf ⟨⟨old,he⟩,hit⟩ ⟨xs,x,hq,hx⟩
  obtain⟨its,rv,p,hz⟩:=I.list hq
  obtain⟨u,hu,ru⟩:=rv.get hx
  have fe:=hf e (by simp)
  have fi:=hf it (by simp)
  have le:e<s.heap.objs.size:=Al he
  have li:it<s.heap.objs.size:=by obtain⟨o,z,_⟩:=hit;exact Al z
  refine wpAny_pyNext_enum_item he hit p.isList (x:=u) (by simpa using hu) hne fun h1 ho hit1 hT hsz hk=>?_
  refine⟨_,rfl,wpAny_letOwnedTupleGo_enum ho fun h2 he2 hs2=>?_⟩
  replace hs2:Ib e h1 h2:=hs2
  have hT2:h2.get? s.heap.objs.size=some {cls:= .type "tuple",data:= .seq #[.int i s.toks,u]}:=(hs2.2 _ (Nat.ne_of_gt le)).trans hT
  have hn:H s.heap.objs.size=none:=I.hok.fresh (Nat.le_refl _)
  have I1:Inv X pins σ (upd H s.heap.objs.size (.tup [.int i,x])) {s with heap:=s.heap.push {cls:= .type "tuple",data:= .seq #[.int i s.toks,u]},toks:=s.toks+1}:=by
   refine I.laid (fun b ob q=>An _ q) (Nat.le_refl _) ⟨show 2≤sizeLine by rw[Lu];omega,[.int i s.toks,u],.cons ⟨_,rfl⟩ (.cons ru .nil),⟨_,As _ rfl,rfl,_,rfl⟩⟩
  have up:∀b,b<s.heap.objs.size→FpOk X pins H b→FpOk X pins (upd H s.heap.objs.size (.tup [.int i,x])) b:=by
   rintro b lb ⟨f0,f⟩
   refine⟨?_,f⟩
   rw[Zi (Nat.ne_of_lt lb)]
   exact f0
  have I2:=Zq0 (h':=h2) (t':=s.toks+1) I1 (fun c o ha hb e'=>by
   rcases Vq e' with z | z
   ·exact(hs2.2 c ha).trans (hk c o ha hb z)
   ·subst z
    have z2:(s.heap.push {cls:= .type "tuple",data:= .seq #[.int i s.toks,u]}).get? s.heap.objs.size=some o:=e'
    rw[As _ rfl] at z2
    cases z2
    exact hT2) (up e le fe) (up it li fi)
  refine⟨.ref s.heap.objs.size,_,I2,rfl,⟨_,x,hn,rfl,rfl,fun ys hy=>by rw[I.list_inj hy hq];exact hx⟩,⟨⟨_,by simpa using he2⟩,hit1.at fun o z=>(hs2.2 it (Df hne)).trans z⟩,fun b hb=>?_⟩
  have:b=e∨b=it:=by simpa using hb
  rcases this with rfl | rfl
  ·exact(up _ le fe).1
  ·exact(up _ li fi).1
 done:=by
  rintro X rfl rfl rfl hc i pins s σ H E I hf ⟨⟨old,he⟩,hit⟩ ⟨xs,hq,hx⟩
  obtain⟨its,rv,p,hz⟩:=I.list hq
  obtain⟨f0,f1,f2,f3,f4,f5⟩:=hf it (by simp)
  have hl:=rv.length
  exact wpAny_pyNext_enum_end (I.ok.hd hc) he hit p.isList (by simp;omega) fun h' eb=>⟨rfl,I.turned (t':=s.toks) (fun b o hb e=>eb b o hb e) f0 f1 f3 f4 f5⟩
 self:=by
  rintro A i s Q E ⟨⟨old,he⟩,hit⟩ h
  exact wpAny_pyIter_enum he h
def Yc7(K:Af)(ta:TA):TI:=fun σ H R=>ta σ H fun vs H1=>∃a,vs=[V.ref a]∧(∃xs,SqL K H1 a xs)∧R (Ite K a) H1
theorem Zr7{p pos:Pos}(hg:Gl X "enumerate")(hm:X.mg "enumerate"=none)(ha:PA X [l] ta)(hs:starEach [l] X.env=[(false,eval l X.env)]):
  PI X (.Tuple elts x1 tp) (.Call (.Name "enumerate" p) [l] [] pos) (Yc7 X.K ta):=by
 intro pins s σ H R I h
 refine Call_ (Qc I hg hm (u:= .type "enumerate") (by kernel_rfl) (Kl (thn (ha pos pins s σ H _ I h) fun us s1 zz54=>?_) hs rfl))
 obtain⟨vs,H1,I1,r1,q1⟩:=zz54
 obtain⟨a,rfl,⟨xs,hq⟩,q⟩:=q1
 obtain⟨u,rfl,ru⟩:=Nw r1
 cases ru
 obtain⟨its,rv,pl,hz⟩:=I1.list hq
 refine call_enumerate_list pl.isList fun h' he hit hsz hk=>?_
 refine wpAny_pyIter_enum he ?_
 have hne:s1.heap.objs.size+1≠s1.heap.objs.size:=by omega
 refine⟨s1.heap.objs.size+1,[s1.heap.objs.size+1,s1.heap.objs.size],_,_,H1,rfl,I1.kept (t':=s1.toks) hk,Z90 a _ _ hne,⟨⟨_,he⟩,hit⟩,fun b hb=>?_,q⟩
 have hb':s1.heap.objs.size≤b:=by
  have:b=s1.heap.objs.size+1∨b=s1.heap.objs.size:=by simpa using hb
  rcases this with rfl | rfl
  ·exact Nat.le_succ _
  ·exact Nat.le_refl _
 exact I1.fpOk hb' (I1.hok.fresh hb')
end
end L3
namespace PySem
end PySem
namespace L3
open PySem PySem.Spec PyProof.Rows L2
section
variable{X:Cx}
theorem Oh{pins:List (Addr×Obj)}{σ:L2.St}{H:Hp}{s:Shared}{h':Heap}{t':Nat}{ch:List Addr}(I:Inv X pins σ H s)(k:∀c o,c∉ch→s.heap.get? c=some o→h'.get? c=some o)(f:∀b∈ch,FpOk X pins H b):Inv X pins σ H {s with heap:=h',toks:=t'}:=by
 have nn:∀c u,H c=some u→c∉ch:=by
  intro c u e z
  rw[(f c z).1] at e
  cases e
 refine I.step (ch:=ch) (g':=s.gens) (d':=s.drawn) ?_ ?_ ?_ ?_ ?_ ?_ ?_ ?_ ?_ ?_ I.bare
 ·intro c hc
  exact⟨(f c hc).2.2.2.1,(f c hc).2.1,(f c hc).2.2.2.2.1,(f c hc).2.2.2.2.2⟩
 ·intro c o _ _ hc e _;exact k c o hc e
 ·intro c o _ _ hc e _;exact⟨o.slots,k c o hc e⟩
 ·intro _ _ _ _ n;exact n
 ·intro c o hc e;exact⟨o,k c o hc e⟩
 ·intro _ _ e;exact e
 ·intro _ _ _ e;exact e
 ·intro c ps e;exact⟨#[],by rw[e];simp⟩
 ·rintro m ⟨o,es,ep,ho,r⟩
  exact⟨o,es,ep,k _ o (fun z=>(f _ z).2.1 rfl) ho,r⟩
 ·intro c u e
  refine(I.hok c u e).stay ?_ (fun _ q=>q) fun _ _ q=>q
  intro d v hd q
  rcases hd with z | z
  ·subst z;exact k d v (nn d u e) q
  ·exact k d v (nn d _ z) q
noncomputable def Itz(K:Af)(a b:Addr):It:=
 ⟨fun i H=>∃xs ys x y,SqL K H a xs∧SqL K H b ys∧xs[i]?=some x∧ys[i]?=some y,
  fun i H x H'=>∃p u v,H p=none∧H'=upd H p (.tup [u,v])∧x= .ref p∧(∀xs,SqL K H a xs→xs[i]?=some u)∧∀ys,SqL K H b ys→ys[i]?=some v,
  fun i H=>∃xs ys,SqL K H a xs∧SqL K H b ys∧(xs.length≤i∨ys.length≤i)⟩
theorem Zk1{P:Program}{w:World}{K:Af}{elts:List Expr}{x1:Nat}{tp:Pos}(z TI TO i1 i2 a b:Addr)(D:ZipApart z TI TO i1 i2 a b):
  Turn P w K (.Tuple elts x1 tp) (Itz K a b) [z,TI,TO,i1,i2] z (fun i h=>IsZip h z TI TO .none∧IsPair h TI (.ref i1) (.ref i2)∧(∃u v,IsPair h TO u v)∧h.IsListIter i1 a i∧h.IsListIter i2 b i) where
 mem:=by simp
 obj:=by
  rintro i h ⟨hz,hTI,⟨u,v,hTO⟩,⟨o1,e1,_,d1⟩,⟨o2,e2,_,d2⟩⟩ c hc
  simp only[Aq,Db,or_false] at hc
  rcases hc with rfl | rfl | rfl | rfl | rfl
  ·exact⟨_,hz,fun v q=>by cases q⟩
  ·exact⟨_,hTI,fun v q=>by cases q⟩
  ·exact⟨_,hTO,fun v q=>by cases q⟩
  ·exact⟨_,e1,fun v q=>by rw[d1] at q;cases q⟩
  ·exact⟨_,e2,fun v q=>by rw[d2] at q;cases q⟩
 keep:=by
  rintro i h h' ⟨hz,hTI,⟨u,v,hTO⟩,h1,h2⟩ k
  exact⟨k z (by simp) _ hz,k TI (by simp) _ hTI,⟨u,v,k TO (by simp) _ hTO⟩,h1.at fun o q=>k i1 (by simp) o q,h2.at fun o q=>k i2 (by simp) o q⟩
 item:=by
  rintro X rfl rfl rfl hc i pins s σ H E I hf ⟨hz,hTI,⟨u0,v0,hTO⟩,h1,h2⟩ ⟨xs,ys,x,y,hq,hr,hx,hy⟩
  obtain⟨its,rv,p,_⟩:=I.list hq
  obtain⟨jts,rw2,p2,_⟩:=I.list hr
  obtain⟨u,hu,ru⟩:=rv.get hx
  obtain⟨v,hv,rv2⟩:=rw2.get hy
  have lt:∀c∈[z,TI,TO,i1,i2],@LT.lt Nat _ c s.heap.objs.size:=by
   intro c hc
   simp only[Aq,Db,or_false] at hc
   obtain⟨o1,e1,_⟩:=id h1
   obtain⟨o2,e2,_⟩:=id h2
   rcases hc with rfl | rfl | rfl | rfl | rfl
   ·exact Al hz
   ·exact Al hTI
   ·exact Al hTO
   ·exact Al e1
   ·exact Al e2
  refine wpAny_pyNext_zip_item D hz hTI hTO h1 h2 p.isList p2.isList (x:=u) (y:=v) (by simpa using hu) (by simpa using hv) fun hh ho hTO2 g1 g2 hT hsz hk=>?_
  refine⟨_,rfl,wpAny_letOwnedTupleGo_zip ho fun h3 hz3 hs3=>?_⟩
  replace hs3:Ib z hh h3:=hs3
  have nz:s.heap.objs.size≠z:=Nat.ne_of_gt (lt z (by simp))
  have hT3:h3.get? s.heap.objs.size=some {cls:= .type "tuple",data:= .seq #[u,v]}:=(hs3.2 _ nz).trans hT
  have hn:H s.heap.objs.size=none:=I.hok.fresh (Nat.le_refl _)
  have I1:Inv X pins σ (upd H s.heap.objs.size (.tup [x,y])) {s with heap:=s.heap.push {cls:= .type "tuple",data:= .seq #[u,v]},toks:=s.toks}:=
   I.laid (fun b ob q=>An _ q) (Nat.le_refl _) ⟨show 2≤sizeLine by rw[Lu];omega,[u,v],.cons ru (.cons rv2 .nil),⟨_,As _ rfl,rfl,_,rfl⟩⟩
  have up:∀c∈[z,TI,TO,i1,i2],FpOk X pins (upd H s.heap.objs.size (.tup [x,y])) c:=by
   intro c hc
   refine⟨?_,(hf c hc).2⟩
   rw[Zi (Nat.ne_of_lt (lt c hc))]
   exact(hf c hc).1
  have I2:=Oh (h':=h3) (t':=s.toks) I1 (fun c o hc e'=>by
   simp only[Aq,Db,or_false,not_or] at hc
   rcases Vq e' with q | q
   ·exact(hs3.2 c hc.1).trans (hk c o hc.1 hc.2.2.1 hc.2.2.2.1 hc.2.2.2.2 q)
   ·subst q
    have z2:(s.heap.push {cls:= .type "tuple",data:= .seq #[u,v]}).get? s.heap.objs.size=some o:=e'
    rw[As _ rfl] at z2
    cases z2
    exact hT3) up
  refine⟨.ref s.heap.objs.size,_,I2,rfl,⟨_,x,y,hn,rfl,rfl,fun zs hs=>by rw[I.list_inj hs hq];exact hx,fun zs hs=>by rw[I.list_inj hs hr];exact hy⟩,
   ⟨hz3,(hs3.2 TI D.TIz).trans (hk TI _ D.TIz D.TITO D.TIi1 D.TIi2 hTI),⟨_,_,(hs3.2 TO D.TOz).trans hTO2⟩,g1.at fun o q=>(hs3.2 i1 D.i1z).trans q,g2.at fun o q=>(hs3.2 i2 D.i2z).trans q⟩,fun c hc=>(up c hc).1⟩
 done:=by
  rintro X rfl rfl rfl hc i pins s σ H E I hf ⟨hz,hTI,⟨u0,v0,hTO⟩,h1,h2⟩ ⟨xs,ys,hq,hr,hl⟩
  obtain⟨its,rv,p,_⟩:=I.list hq
  obtain⟨jts,rw2,p2,_⟩:=I.list hr
  have l1:=rv.length
  have l2:=rw2.length
  refine wpAny_pyNext_zip_end (I.ok.hd hc) D hz hTI hTO h1 h2 p.isList p2.isList ?_ fun h' eb=>⟨rfl,Oh (t':=s.toks) I (ch:=[z,TI,TO,i1,i2]) (fun c o hc e=>?_) hf⟩
  ·rcases hl with hl | hl
   ·exact .inl (by simp;omega)
   ·exact .inr (by simp;omega)
  ·simp only[Aq,Db,or_false,not_or] at hc
   exact eb c o hc.1 hc.2.2.1 hc.2.2.2.1 hc.2.2.2.2 e
 self:=by
  rintro A i s Q E ⟨hz,_⟩ h
  exact wpAny_pyIter_zip hz h
end
end L3
namespace SW
open PySem
def Rise(xs:Array Nat):Prop:=∀i k,i<k→k<xs.size→xs.getD i 0<xs.getD k 0
structure At(xs:Array Nat)(j i:Nat):Prop where
 le:i≤xs.size
 lo:∀k,k<i→xs.getD k 0<j
 hi:∀k,i≤k→k<xs.size→j≤xs.getD k 0
structure TOk(t:SetTable)(led:Bool):Prop where
 rise:Rise t.place
 dum:t.dummies=#[]
 led:t.led=led
end SW
namespace SW
open PySem PyProof.Rows
section
variable{M:Model}{prog:Program}{w:World}{A:Around}{E:Value→Shared→Prop}{s:Shared}
inductive KeysOf {K:Type} [DecidableEq K] (knd:KeyKind prog w K):List K→List (Int×Value)→Prop
 | nil:KeysOf knd [] []
 | cons {k:K} {e:Int×Value} {ks:List K} {l:List (Int×Value)} (h:knd.is k e.2=true) (r:KeysOf knd ks l):KeysOf knd (k::ks) (e::l)
variable{K:Type}[DecidableEq K]{knd:KeyKind prog w K}
structure SetO(knd:KeyKind prog w K)(led:Bool)(o:Obj)(ks:List K):Prop where
 ex:o.ExactSet
 dat:∃es ep t,o.data= .set es ep t∧ElemsOf knd es.toList∧KeysOf knd ks es.toList∧t.fits es.size=true∧TOk t led
 nd:ks.Nodup
 sm:ks.length<scanBound
end
section
variable{prog:Program}{w:World}{A:Around}{E:Value→Shared→Prop}{s:Shared}
end
section
variable{prog:Program}{w:World}{A:Around}{E:Value→Shared→Prop}{s:Shared}
noncomputable abbrev itO(f:Value)(i:Nat)(a:Addr)(n ep:Nat):Obj:={cls:= .type "set_iterator",dict:=none,data:= .fields #[f,rawInt i,.ref a,rawInt n,rawInt ep],slots:=#[]}
section
variable{a I:Addr}{o:Obj}{es:Array (Int×Value)}{ep:Nat}{t:SetTable}
theorem Zi8{Q:Fin→Shared→Prop}{R:Value→Shared→Prop}(hh:A.handled=none)(h:∀h' e,(∀b u,s.heap.get? b=some u→h'.get? b=some u)→(∃u,h'.get? e=some u∧u.cls= .type "StopIteration")→R (.ref e) {s with heap:=h'}):wpAny (model prog w) A (newExc (.type "StopIteration") [] >>=fun e=>(raiseNew e:Sem Fin)) Q R s:=by
 refine Aa ?_
 simp only[newExc,newTuple]
 refine Aa (Il ?_ (by size_fits))
 refine Aa (m:=firstArgMember _ _) (wpAny_of_eq (a:=Lm) (by first | rfl | (simp only[firstArgMember];rfl)) ?_)
 refine Il ?_ (by size_fits)
 simp only[raiseNew]
 refine Aa (wpAny_handled ?_)
 rw[hh]
 refine Aa (Ak (wpAny_throw ?_))
 exact h _ _ (fun b u q=>An _ (An _ q)) ⟨_,As _ rfl,rfl⟩
end
end
section
variable{prog:Program}{w:World}{A:Around}{E:Value→Shared→Prop}{s:Shared}
structure ItSt(w:World)(I a T:Addr)(o:Obj)(es:Array (Int×Value))(ep:Nat)(t:SetTable)(vs:List Value)(i:Nat)(h:Heap):Prop where
 set:h.get? a=some o
 md:(w.params.followText "set-order"=true∧vs=(pickOrder (w.params.setOrder a ep) es).toList.map (·.2)∧h.get? I=some (itO (rawInt 0) i a es.size ep))
  ∨(w.params.followText "set-order"=false∧(!t.plain&&decide (es.size >1))=false∧t.led=true∧Rise t.place∧vs=es.toList.map (·.2)∧∃slot,SetTable.below t.place slot=i∧h.get? I=some (itO (rawInt slot) i a es.size ep))
  ∨(∃pl:List Nat,h.IsTuple T (pl.map fun(k:Nat)=>rawInt k).toArray∧vs=pl.map (fun k=>(es.getD k (0,.none)).2)∧(∀k∈pl,k<es.size)∧h.get? I=some (itO (.ref T) i a es.size ep))
end
end SW
namespace SW
open PySem PyProof.Rows PySem.W
end SW
namespace SW
open PySem PyProof.Rows
end SW
namespace L3
open PySem PySem.Spec PyProof.Rows L2
section
variable{X:Cx}{pins:List (Addr×Obj)}{σ:L2.St}{H:Hp}{s:Shared}
theorem V5:∀{vs:List Value} {ns:List Int},IntsAre vs ns→Vals (ns.map V.int) vs
 | _,_,.nil=> .nil
 | _,_,.cons n t r=> .cons ⟨t,rfl⟩ (V5 r)
end
section
variable{X:Cx}{pins:List (Addr×Obj)}{σ:L2.St}{H:Hp}{s:Shared}
theorem Z61{prog:Program}{w:World}{A:Around}{E:Value→Shared→Prop}{s:Shared}{t sl:Addr}{its:Array Value}{vl vu:Value}{lo hi:Option Int}{Q:Value→Shared→Prop}(ht:IsTup s.heap t its)(hs:s.heap.IsSliceOf sl vl vu .none)(pl:IsPart vl lo)(pu:IsPart vu hi)
  (hw:HT.sIx its.size 0 lo=0∧HT.sIx its.size its.size hi=its.size) (h:Q (.ref t) s):wpAny (model prog w) A (getItem (.ref t) (.ref sl)) Q E s:=by
 obtain⟨os,hos,hcs,hds⟩:=id hs
 have hTs:s.TypeIs (.ref sl) "slice":=⟨os,hos,hcs⟩
 unfold getItem
 try with_reducible refine Hu ?_
 first | refine Aa (Ak ?_) | skip
 refine Aa (wpAny_sequenceKey ht.typeIs (by decide) ?_)
 refine Aa (Ii (name:=Str.ofString "__getitem__") ht.typeIs Hg (Kz Hg ht.typeIs entry_tuple_getitem ?_ (args_tuple_getitem _ _)))
 show wpAny _ _ (Builtin.Tuple.tupleItemsOf (.ref t) >>=_) _ _ s
 refine Aa (tupleItemsOf_ ht (Aa (wpAny_typeOf hTs ?_)))
 rw[if_pos (by decide)]
 refine Aa (HT.Xk hs pl pu ?_)
 show wpAny _ _ (if (((HT.sIx its.size 0 lo:Nat):Int)==0&&(1:Int)==1&&(HT.sIx its.size its.size hi - HT.sIx its.size 0 lo)==its.size)=true then _ else _) _ _ s
 rw[if_pos (by rw[hw.1,hw.2];simp)]
 refine Aa ?_
 unfold Builtin.Tuple.tupleIsExact
 refine Aa (wpAny_typeOf ht.typeIs (Ak ?_))
 rw[if_pos (by decide)]
 exact Aa (Mg (Ak ⟨_,rfl,Ak h⟩))
theorem Zs0:SlR X (fun x lo hi H Q=>∃a xs,x= .ref a∧SqT X.K H a xs∧(HT.sIx xs.length 0 lo=0∧HT.sIx xs.length xs.length hi=xs.length)∧Q x H):=by
 intro pins s σ H x v vl vu lo hi sl Q I rx hs pl pu h
 obtain⟨a,xs,rfl,hx,hw,q⟩:=h
 cases rx
 obtain⟨its,r,ht,hz⟩:=I.tuple hx
 have hlen:its.toArray.size=xs.length:=by rw[Ah];exact r.length.symm
 exact⟨"tuple",_,Hg.lookup,ht.typeIs,Z61 ht hs pl pu (by rw[hlen];exact hw) ⟨.ref a,H,I,rfl,q⟩⟩
end
end L3
namespace L2
open PySem PySem.Spec PyProof.Rows
variable{X:Cx}
end L2
namespace SW
open PySem PySem.Spec PyProof.Rows
section
variable{prog:Program}{w:World}{A:Around}{E:Value→Shared→Prop}{s:Shared}
theorem Cb:typeLookup (.type "list_reverseiterator") "__len__"=pure none:=by rw[typeLookup_type,builtinLookup_eq_fast];kernel_rfl
theorem Py:Slot "list_reverseiterator" "__length_hint__" "list_reverseiterator.__length_hint__":=
 .of (owner:="list_reverseiterator") (n:="__length_hint__") (by rw[typeLookup_type,builtinLookup_eq_fast];kernel_rfl) (by decide+kernel) (by decide+kernel) (by decide+kernel)
  (by first | exact .inl (by decide+kernel) | exact .inr (by decide+kernel)) (by rw[isSubtype_type];kernel_rfl)
theorem Zd6(hT:s.TypeIs (.ref r) "list_reverseiterator")(h:Q false s):wpAny (model prog w) A (Builtin.List.listLengthHint (.ref r)) Q E s:=by
 unfold Builtin.List.listLengthHint
 refine Aa (wpAny_specialOf hT Cb ?_)
 show wpAny _ A (specialOf (Au r) (Str.ofString "__length_hint__") >>=_) _ _ _
 refine Aa (wpAny_specialOf hT Py.lookup ?_)
 generalize hid:("list_reverseiterator.__length_hint__":String)=id0
 wp_delta
 rw[show splitId id0=some ("list_reverseiterator","__length_hint__") from by subst hid;decide+kernel]
 subst hid
 refine Aa (wpAny_isInstance (T:="list_reverseiterator") (b:=true) hT (by rw[isSubtype_type];kernel_rfl) ?_)
 refine wpAny_ite_split (fun hab=>absurd hab (by decide)) (fun _=>?_)
 dsimp only
 refine wpAny_ite_split (fun _=>?_) (fun hab=>absurd (by decide+kernel) hab)
 refine wpAny_ite_split (fun hab=>absurd hab (by decide+kernel)) (fun _=>?_)
 exact Ak h
theorem Zr1{I l S:Addr}{items:Array Value}{res:Value}{R:Result→Shared→Prop}(hh:A.handled=none)(hit:s.heap.IsRevIter I l ((items.size:Int) - 1))(hl:s.heap.IsList l items)(hz:items.size≤sizeLine)(hlI:l≠I)(hSI:S≠I)(hSl:S≠l)(c0:Nat)(hS:s.heap.get? S=some {cls:= .type "list",data:= .seq #[] c0})
  (hR:∀h' tk acc c',ItemsOf (fun i v=>items[items.size - 1 - i]?=some v) acc items.size→(∀b u,b≠S→b≠I→s.heap.get? b=some u→h'.get? b=some u)→h'.get? S=some {cls:= .type "list",dict:=none,data:= .seq acc c',slots:=#[]}→R (.ok (.ret res)) {s with heap:=h',toks:=tk}):
  wpAny (model prog w) A.in1 (Kq (.ref S) (.ref I) res)
   (fun fin s'=>match fin with | .done f=>R (.ok f) s' | .again c'=>c'.quiet=true∧codeAny (model prog w) A c' R s') (fun e s'=>R (.error e) s') s:=by
 have W:=Walks.listRev (prog:=prog) (w:=w) (A:=A.in1) hh I l hlI items
 have nf:S∉[I,l]:=by
  simp only[Aq,Db,or_false,not_or]
  exact⟨hSI,hSl⟩
 have st0:0≤items.size∧s.heap.IsRevIter I l ((items.size:Int) - 1 - ((0:Nat):Int))∧s.heap.IsList l items:=⟨Nat.zero_le _,by rw[show(items.size:Int) - 1 - ((0:Nat):Int)=(items.size:Int) - 1 by omega];exact hit,hl⟩
 have hT:=hit.typeIs
 unfold Kq
 refine Aa (wpAny_typeOf hT ?_)
 have q1:Builtin.List.listSameRef (.ref S) (.ref I)=false:=by simp[Builtin.List.listSameRef,hSI]
 have q2:(Ly "list_reverseiterator"==Ly "list")=false:=by decide
 have q3:(Ly "list_reverseiterator"==Ly "tuple")=false:=by decide
 simp only[q1,q2,q3,Bool.or_false,Bool.false_eq_true,if_false]
 refine Aa (wpAny_pyIter_revIter hit ?_)
 have key:∀(h2:Heap) (c1 tk:Nat),(0≤items.size∧h2.IsRevIter I l ((items.size:Int) - 1 - ((0:Nat):Int))∧h2.IsList l items)→(∀b u,b≠S→s.heap.get? b=some u→h2.get? b=some u)→h2.get? S=some {cls:= .type "list",data:= .seq #[] c1}→
   codeAny (model prog w) A (.builtin "list.extend.loop" ⟨[.ref S,.ref I,res],[]⟩) R {s with heap:=h2,toks:=tk}:=by
  intro h2 c1 tk st2 k2 g2
  refine codeAny_extend_loopS W.toS hz S nf res items.size 0 _ #[] c1 rfl (Nat.zero_le _) st2 g2 (ItemsOf.nil _) fun s' acc c' mv hS' hacc=>?_
  rw[Moved.eq_with mv]
  refine hR s'.heap s'.toks acc c' hacc (fun b u hb hI e=>mv.heap b u ?_ (k2 b u hb e)) hS'
  intro hm
  rcases Aq.mp hm with z | z
  ·exact hb z
  ·exact hI (Am.mp z)
 refine Aa (Hu (Zd6 hT ?_))
 refine wpAny_ite_split (fun _=>?_) fun _=>Ak ⟨plainId_quiet PySem.F.plain_extend_loop _,key _ c0 _ st0 (fun b u _ e=>e) hS⟩
 refine Aa (Mg (Aa ?_))
 show wpAny _ _ (updateSeq S (·.push .none) >>=fun _=>updateSeq S (·.pop)) _ _ _
 refine Aa (wpAny_updateSeq hS rfl ?_)
 have g2:=Iy (Ki (·.push Lm)) hS rfl
 refine wpAny_updateSeq (hz:=by seq_fits) g2 rfl ?_
 have g3:=Iy (Ki (·.pop)) g2 rfl
 have far:∀b u,b≠S→s.heap.get? b=some u→((s.heap.update S (Ki (·.push Lm))).update S (Ki (·.pop))).get? b=some u:=fun b u hb e=>(Kj _ _ (Df hb)).trans ((Kj _ _ (Df hb)).trans e)
 exact Ak ⟨plainId_quiet PySem.F.plain_extend_loop _,key _ _ _ (W.frame 0 _ _ st0 fun b hb u e=>far b u (fun z=>nf (z ▸ hb)) e) far g3⟩
theorem Zj9{I l S:Addr}{items:Array Value}{R:Result→Shared→Prop}(hh:A.handled=none)(hit:s.heap.IsRevIter I l ((items.size:Int) - 1))(hl:s.heap.IsList l items)(hz:items.size≤sizeLine)(hlI:l≠I)(hSI:S≠I)(hSl:S≠l)(hS:s.heap.get? S=some {cls:= .type "list",data:= .seq #[]})
  (hR:∀h' tk acc c',ItemsOf (fun i v=>items[items.size - 1 - i]?=some v) acc items.size→(∀b u,b≠S→b≠I→s.heap.get? b=some u→h'.get? b=some u)→h'.get? S=some {cls:= .type "list",dict:=none,data:= .seq acc c',slots:=#[]}→R (.ok (.ret .none)) {s with heap:=h',toks:=tk}):
  wpAny (model prog w) A.in1 (Builtin.«list.__init__» ⟨[.ref S,.ref I],[]⟩)
   (fun fin s'=>match fin with | .done f=>R (.ok f) s' | .again c'=>c'.quiet=true∧codeAny (model prog w) A c' R s') (fun e s'=>R (.error e) s') s:=by
 show wpAny _ _ (do let old ←Builtin.List.listItems (.ref S);Builtin.List.listUpdate (.ref S) (fun _=>#[]);letGo old.toList.reverse;Kq (.ref S) (.ref I) .none) _ _ s
 refine Aa ?_
 unfold Builtin.List.listItems
 refine Aa (Kb hS rfl (Ak ?_))
 show wpAny _ _ (updateSeq S (fun _=>#[]) >>=fun _=>letGo (#[]:Array Value).toList.reverse >>=fun _=>Kq (.ref S) (.ref I) .none) _ _ s
 refine Aa (wpAny_updateSeq hS rfl ?_)
 have hS₂:=Iy (Ki (fun _=>(#[]:Array Value))) hS rfl
 have oth:∀b o,b≠S→s.heap.get? b=some o→(s.heap.update S (Ki (fun _=>(#[]:Array Value)))).get? b=some o:=
  fun b o hb e=>(Kj _ _ (Df hb)).trans e
 refine Aa (wpAny_letGo ?_)
 obtain⟨ol,hol,hol2⟩:=hl
 refine Zr1 hh (hit.at fun o e=>oth _ o (Df hSI) e) ⟨ol,oth _ ol (Df hSl) hol,hol2⟩ hz hlI hSI hSl _ hS₂ fun h' tk acc c' ha hk hS'=>?_
 exact hR h' tk acc c' ha (fun b o hb hI e=>hk b o hb hI (oth b o hb e)) hS'
theorem O9{I l:Addr}{items:Array Value}{Q:Value→Shared→Prop}(hh:A.handled=none)(hit:s.heap.IsRevIter I l ((items.size:Int) - 1))(hl:s.heap.IsList l items)(hz:items.size≤sizeLine)(hlI:l≠I)
  (hQ:∀h' tk acc c',ItemsOf (fun i v=>items[items.size - 1 - i]?=some v) acc items.size→(∀b u,b≠I→s.heap.get? b=some u→h'.get? b=some u)→h'.get? s.heap.objs.size=some {cls:= .type "list",dict:=none,data:= .seq acc c',slots:=#[]}→Q (.ref s.heap.objs.size) {s with heap:=h',toks:=tk}):
  wpAny (model prog w) A (call (.type "list") [.ref I]) Q E s:=by
 refine callType_codes (Q₁:=fun obj s₁=>obj= .ref s.heap.objs.size∧s₁={s with heap:=s.heap.push {cls:= .type "list",data:= .seq #[]}}) PySem.F.called_list (PySem.F.typeCall_list_1 _) PySem.F.entry_list_init
  (code_list_new _ ⟨rfl,rfl⟩) fun obj s₁ h₁=>?_
 obtain⟨rfl,rfl⟩:=h₁
 have hS:(s.heap.push {cls:= .type "list",data:= .seq #[]}).get? s.heap.objs.size=some {cls:= .type "list",data:= .seq #[]}:=As _ rfl
 obtain⟨oi,hoi,hoi2⟩:=id hit
 obtain⟨ol,hol,hol2⟩:=id hl
 refine⟨⟨_,hS,rfl⟩,PySem.F.args_list_init_2 _ _,Zj9 (A:=A.in1) hh (hit.at fun o e=>An _ e) ⟨ol,An _ hol,hol2⟩ hz hlI (Nat.ne_of_gt (Al hoi)) (Nat.ne_of_gt (Al hol)) hS (fun h' tk acc c' ha hk hS'=>?_)⟩
 exact⟨rfl,hQ h' tk acc c' ha (fun b o hI e=>hk b o (Nat.ne_of_lt (Al e)) hI (An _ e)) hS'⟩
end
end SW
namespace L3
open PySem PySem.Spec PyProof.Rows L2
section
variable{X:Cx}{pins:List (Addr×Obj)}{σ:L2.St}{H:Hp}{s:Shared}
def Eg(m:Nat)(p l:Addr)(n:Nat):Heap→Prop:=fun h=>h.IsRevIter p l ((n:Int) - 1)∧m≤p∧l≠p
noncomputable def del(H:Hp)(p:Addr):Hp:=fun b=>if b=p then none else H b
theorem Zl2{p S:Addr}(I:Inv X pins σ H s)(hp:H p=some (.ext φ))(hm:X.s₀.heap.objs.size≤p)(k:∀b u,b≠p→s.heap.get? b=some u→h'.get? b=some u)(hS:s.heap.objs.size≤S)(new:Yc X.prog X.w (upd (del H p) S o) h' S o):Inv X pins σ (upd (del H p) S o) {s with heap:=h',toks:=t'}:=by
 have ne:∀b,H b=none→b≠p:=fun b e z=>by subst z;rw[hp] at e;cases e
 have nS:H S=none:=I.hok.fresh hS
 have de:∀b o',H b=some o'→b≠p→upd (del H p) S o b=some o':=fun b o' e n=>by
  rw[Zi (fun z=>by subst z;rw[nS] at e;cases e)]
  unfold del;rw[if_neg n];exact e
 refine I.step (g':=s.gens) (d':=s.drawn) (ch:=[p]) ?_ (fun b o _ _ hb e _=>k b o (by simpa using hb) e) (fun b o _ _ hb e _=>⟨o.slots,k b o (by simpa using hb) e⟩) (fun b o hb e n=>?_) (fun b o hb e=>⟨o,k b o (by simpa using hb) e⟩) (fun b xs e=>de b _ e fun z=>by subst z;rw[hp] at e;cases e) (fun b o u e=>de b _ e fun z=>by subst z;rw[hp] at e;cases e) (fun b ps e=>⟨#[],by rw[de b _ e fun z=>by subst z;rw[hp] at e;cases e];simp⟩) ?_ ?_ I.bare
 ·intro b hb
  cases Am.mp hb
  exact⟨.inr hm,fun z=>ne _ I.free z.symm,fun x c e z=>ne _ (I.freeC x c e) z,fun q hq z=>ne _ (I.pin q hq).2.1 z⟩
 ·rw[Zi (Nat.ne_of_lt (Nat.lt_of_lt_of_le (Al e) hS))]
  unfold del
  split
  ·rfl
  ·exact n
 ·rintro m ⟨o,es,ep,ho,r⟩
  exact⟨o,es,ep,k _ _ (ne _ I.free) ho,r⟩
 ·intro a o' e
  by_cases ha:a=S
  ·subst ha
   rw[Ye] at e
   cases e
   exact new
  rw[Zi ha] at e
  have ea:a≠p:=fun z=>by subst z;unfold del at e;rw[if_pos rfl] at e;cases e
  have e':H a=some o':=by unfold del at e;rw[if_neg ea] at e;exact e
  refine(I.hok a o' e').stay (fun b u hb q=>k b u (fun z=>?_) q) (fun b hb=>de b _ hb fun z=>?_) fun b xs hb=>de b _ hb fun z=>?_
  ·subst z
   rcases hb with z | z
   ·exact ea z.symm
   ·rw[hp] at z;cases z
  ·subst z;rw[hp] at hb;cases hb
  ·subst z;rw[hp] at hb;cases hb
def rRev(X:Cx):List V→Hp→VK→Prop:=fun xs H Q=>∃l ys,xs=[V.ref l]∧SqL X.K H l ys∧∀p,H p=none→l≠p→Q (.ref p) (upd H p (.ext (Eg X.s₀.heap.objs.size p l ys.length)))
theorem Zf9:Wm X (.type "reversed") (rRev X):=by
 intro pins s σ H xs us Q I r h
 obtain⟨l,ys,rfl,hl,q⟩:=h
 obtain⟨u,rfl,ru⟩:=Nw r
 cases ru
 obtain⟨its,rv,pl,hz⟩:=I.list hl
 have il:=pl.isList
 have lt:l<s.heap.objs.size:=by obtain⟨o,ho,_⟩:=il;exact Al ho
 have hn:its.toArray.size=ys.length:=by rw[Ah,rv.length]
 refine call_reversed_list il ?_
 have it:(s.heap.push (revObj l ((its.toArray.size:Int) - 1))).IsRevIter s.heap.objs.size l ((ys.length:Int) - 1):=⟨_,As _ rfl,rfl,by rw[←hn];rfl⟩
 refine⟨.ref _,_,I.laid (a:=s.heap.objs.size) (o:= .ext (Eg X.s₀.heap.objs.size s.heap.objs.size l ys.length)) (t':=s.toks) (fun b o e=>An _ e) (Nat.le_refl _) ⟨⟨it,I.sz,Nat.ne_of_lt lt⟩,⟨_,As _ rfl⟩,fun h1 h2 zz55 k=>by obtain⟨a1,a2⟩:=zz55;exact⟨a1.at k,a2⟩⟩,rfl,q _ (I.hok.fresh (Nat.le_refl _)) (Nat.ne_of_lt lt)⟩
def Y77(X:Cx):List V→Hp→VK→Prop:=fun xs H Q=>∃p l ys,xs=[V.ref p]∧H p=some (.ext (Eg X.s₀.heap.objs.size p l ys.length))∧SqL X.K H l ys∧∀S,H S=none→Q (.ref S) (upd (del H p) S (.lst ys.reverse))
theorem B3(hc:X.calm=true):Wm X (.type "list") (Y77 X):=by
 intro pins s σ H xs us Q I r h
 obtain⟨p,l,ys,rfl,hp,hl,q⟩:=h
 obtain⟨u,rfl,ru⟩:=Nw r
 cases ru
 obtain⟨⟨it,hm,hlp⟩,_,_⟩:=I.hok p _ hp
 obtain⟨its,rv,pl,hz⟩:=I.list hl
 have hn:its.toArray.size=ys.length:=by rw[Ah,rv.length]
 refine SW.O9 (I.ok.hd hc) (by rw[hn];exact it) pl.isList (by rw[hn];exact hz) hlp fun h' tk acc c ha k g=>?_
 have e:acc=acc.toList.toArray:=by simp
 rw[e] at g
 refine⟨.ref _,_,Zl2 (t':=tk) I hp hm k (Nat.le_refl _) (o:= .lst ys.reverse) ⟨by rw[Iw];exact hz,acc.toList,c,?_,g⟩,rfl,q _ (I.hok.fresh (Nat.le_refl _))⟩
 have el:acc.toList=its.reverse:=by
  refine List.ext_getElem? fun i=>?_
  by_cases hi:i<its.length
  ·obtain⟨v,hv⟩:∃v,acc.toList[i]?=some v:=⟨_,Ag (by rw[Ir,ha.1];simpa using hi)⟩
   have:=ha.2 i v (by rw[←Array.getElem?_toList];exact hv)
   rw[hv,List.getElem?_reverse hi,←this]
   simp
  ·rw[Hn (by rw[Ir,ha.1];simpa using hi),Hn (by simpa using hi)]
 rw[el]
 exact rv.reverse
end
section
variable{X:Cx}{pins:List (Addr×Obj)}{σ:L2.St}{H:Hp}{s:Shared}
theorem N0{E:Value→Shared→Prop}{it t:Addr}(hne:t≠it):∀(n i:Nat) (s:Shared) (Q:List Value→Shared→Prop),s.heap.IsListIter it t i→s.heap.IsList t items→i+n≤items.size→
  (∀h',h'.IsListIter it t (i+n)→Ib it s.heap h'→Q ((items.toList.drop i).take n) {s with heap:=h'})→wpAny (model prog w) A (draw (.ref it) n) Q E s
 | 0,i,s,Q,hit,_,_,hQ=>by
  show wpAny _ _ (pure []) Q E s
  exact Ak (by simpa using hQ s.heap hit (Ib.refl ..))
 | n+1,i,s,Q,hit,ht,hle,hQ=>by
  have hlt:i<items.size:=by omega
  show wpAny _ _ (pyNext (.ref it) >>=_) Q E s
  refine Aa (wpAny_pyNext_list_item hit ht (x:=items[i]) (by simp[hlt]) fun h₁ hit₁ hs₁=>?_)
  refine Aa (Hu (N0 hne n (i+1) _ _ hit₁ (ht.extBut hs₁.extBut hne) (by omega) fun h₂ hit₂ hs₂=>Ak ?_))
  have hd:items.toList.drop i=items[i]::items.toList.drop (i+1):=by simp[Dv,hlt]
  have:=hQ h₂ (by rw[show i+(n+1)=i+1+n by omega];exact hit₂) (hs₁.trans hs₂)
  rw[hd,List.take_succ_cons] at this
  exact this
theorem S3{prog:Program}{w:World}{A:Around}{E:Value→Shared→Prop}{s:Shared}{t:Addr}{items:Array Value}{Q:List Value→Shared→Prop}(hh:A.handled=none)(ht:s.heap.IsList t items)
  (hQ:∀h',Heap.ExtBut s.heap.objs.size s.heap h'→Q items.toList {s with heap:=h'}):wpAny (model prog w) A (unpackItems (.ref t) items.size none) Q E s:=by
 have hlt:t≠s.heap.objs.size:=by obtain⟨o,ho,_⟩:=ht;exact Nat.ne_of_lt (Al ho)
 unfold unpackItems
 refine Aa ?_
 ·unfold notIterableAtAll
  refine Aa (wpAny_specialOf ht.typeIs slot_list_iter.lookup ?_)
  refine Ak ?_
  simp only[Bool.false_eq_true,if_false]
  refine Aa (Hu (wpAny_pyIter_list ht ?_))
  refine Aa (Hu (N0 hlt items.size 0 _ _ ⟨_,As _ rfl,rfl,rfl⟩ (ht.push _) (by omega) fun h₁ hit₁ hs₁=>?_))
  have hall:List.take items.size (List.drop 0 items.toList)=items.toList:=by
   rw[List.drop_zero];exact Lv (by simp)
  rw[hall]
  rw[if_neg (by simp)]
  have ht₁:h₁.IsList t items:=(ht.push _).extBut hs₁.extBut hlt
  refine Aa (Hu (wpAny_pyNext_list_end hh hit₁ ht₁ (by simp) fun h₂ he₂=>?_))
  simp only[Option.isSome_none,Bool.false_eq_true,if_false]
  refine Ak (hQ h₂ fun b o hb e=>he₂ b o hb (hs₁.extBut b o hb (An _ e)))
noncomputable def gLst(K:Af)(n:Nat)(t:TGs):TG:=fun v σ H Q=>∃a xs,v= .ref a∧(SqT K H a xs∨SqL K H a xs)∧xs.length=n∧t xs σ H Q
theorem Y18{es:List Expr}{k:Nat}{pos:Pos}{t:TGs}{n:Nat}(hc:X.calm=true)(h:PGs X es t)
  (hn:(assignEach es X.env).length=n:=by rfl) (hst:(assignEach es X.env).findIdx? (·.1)=none:=by rfl):PG X (.Tuple es k pos) (gLst X.K n t):=by
 intro pins s σ H v u Q I r hw
 obtain⟨a,xs,e1,hq,hl,hw⟩:=hw
 rcases hq with hq | hq
 ·exact Zo5 hc h hn hst pins s σ H v u Q I r ⟨a,xs,e1,hq,hl,hw⟩
 subst e1
 cases r
 obtain⟨its,rv,ht,hz⟩:=I.list hq
 have hsz:its.toArray.size=n:=by rw[Ah,←rv.length];exact hl
 rw[PyProof.Rows.assign_Tuple]
 refine Aa (wpAny_standAt ?_)
 unfold unpack
 rw[hn,hst,←hsz]
 refine Aa (Hu (S3 (I.ok.hd hc) ht.isList fun h' hx=>?_))
 have I1:Inv X pins σ H {s with heap:=h'}:=I.kept (t':=s.toks) fun b o e=>hx b o (Nat.ne_of_lt (Al e)) e
 exact h pins _ σ H xs _ Q I1 (by simpa using rv) hw
theorem Zl7(I:Inv X pins σ H s)(hu:X.A.units+64<cLine)(neg:Bool){p b:Addr}(hp:SqL X.K H p vs)(hb:SqL X.K H b [])(q:Q (.bl (if neg then !vs.isEmpty else vs.isEmpty)) H):
  wpAny (model X.prog X.w) X.A (compareOp (if neg then .NotEq else .Eq) (.ref p) (.ref b)) (EP X pins σ Q) X.xe s:=by
 obtain⟨its,r,pl,_⟩:=I.list hp
 obtain⟨jts,r2,pl2,_⟩:=I.list hb
 have l2:jts=[]:=by cases r2;rfl
 subst l2
 cases vs with
 | nil=>
  cases r
  cases neg with
  | true=>exact SeqAt.RcNeAt.lists (e:=fun _=>true) pl.isList pl2.isList rfl (by omega) (fun j h=>absurd h (Nat.not_lt_zero _)) _ _ _ _ ⟨.bl _,H,I,rfl,q⟩
  | false=>exact SeqAt.RcAt.lists (e:=fun _=>true) pl.isList pl2.isList rfl (by omega) (fun j h=>absurd h (Nat.not_lt_zero _)) _ _ _ _ ⟨.bl _,H,I,rfl,q⟩
 | cons v vs=>
  have hz:(its.toArray.size !=([]:List Value).toArray.size)=true:=by
   cases r
   rfl
  cases neg with
  | true=>exact SeqAt.RcNeAt.lists_lengths pl.isList pl2.isList hz (by omega) _ _ _ _ ⟨.bl _,H,I,rfl,q⟩
  | false=>exact SeqAt.RcAt.lists_lengths pl.isList pl2.isList hz (by omega) _ _ _ _ ⟨.bl _,H,I,rfl,q⟩
theorem Zr6(I:Inv X pins σ H s)(hu:X.A.units+64<cLine)(neg:Bool){a b:Addr}(ha:SqT X.K H a vs)(hb:SqT X.K H b ys)(fa:vs.all Yy=true)(fb:ys.all Yy=true)(q:Q (.bl (if neg then !eqVs vs ys else eqVs vs ys)) H):
  wpAny (model X.prog X.w) X.A (compareOp (if neg then .NotEq else .Eq) (.ref a) (.ref b)) (EP X pins σ Q) X.xe s:=by
 obtain⟨us,ru,ta,_⟩:=I.tuple ha
 obtain⟨ws,rw',tb,_⟩:=I.tuple hb
 have l1:=ru.length
 have l2:=rw'.length
 have he:∀j (h1:j<us.toArray.size) (h2:j<ws.toArray.size),Dp X.A.in1 s us.toArray[j] ws.toArray[j] (eqV (vs.getD j .non) (ys.getD j .non)):=fun j h1 h2=>by
  have j1:j<vs.length:=by rw[Ah] at h1;omega
  have j2:j<ys.length:=by rw[Ah] at h2;omega
  obtain⟨u,e1,r1⟩:=ru.get (Ag j1)
  obtain⟨w,e2,r2⟩:=rw'.get (Ag j2)
  have x1:us.toArray[j]=u:=by have:=(Ac.mp e1).2;simpa using this
  have x2:ws.toArray[j]=w:=by have:=(Ac.mp e2).2;simpa using this
  rw[x1,x2,Dy,Dy,Ag j1,Ag j2]
  rw[Hj] at fa fb
  exact Er r1 r2 (fa _ (Ic j1)) (fb _ (Ic j2))
 have hs:((Ay (min us.toArray.size ws.toArray.size)).all (fun j=>eqV (vs.getD j .non) (ys.getD j .non))&&us.toArray.size==ws.toArray.size)=eqVs vs ys:=by
  unfold eqVs
  rw[Ah,Ah,l1,l2]
 cases neg with
 | true=>exact SeqAt.RcNeAt.tuples (e:=fun j=>eqV (vs.getD j .non) (ys.getD j .non)) ta tb (by omega) he _ _ _ _ ⟨.bl _,H,I,rfl,by rw[hs];exact q⟩
 | false=>exact SeqAt.RcAt.tuples (e:=fun j=>eqV (vs.getD j .non) (ys.getD j .non)) ta tb (by omega) he _ _ _ _ ⟨.bl _,H,I,rfl,by rw[hs];exact q⟩
end
end L3
namespace L3
open PySem PySem.Spec PyProof.Rows L2 PySem.Builtin PySem.Builtin.Str
end L3
namespace Tt
open PySem PySem.Builtin PySem.Builtin.Str
noncomputable abbrev L(x:Str):List Nat:=x.cps.toList
theorem L_ext{x y:Str}(h:L x=L y):x=y:=by
 cases x;cases y
 exact congrArg Str.mk (Array.toList_inj.mp h)
theorem L_app(a b:Str):L (a++b)=L a++L b:=by
 show(a.cps++b.cps).toList=_
 rw[Array.toList_append]
theorem L_len(x:Str):(L x).length=x.length:=Ir
theorem L_from(x:Str){i:Nat}(h:i≤x.length):L (Ig x (some (i:Int)) none)=(L x).drop i:=by
 rw[PyProof.Rows.slice_from_eq (b:=x.length) (by omega) (by omega) rfl]
 show((x.cps.toList.drop i).take _)=_
 rw[Lv]
 rw[Lz]
 have:=L_len x
 simp only[L] at this
 omega
theorem L_to(x:Str){i:Nat}(h:i≤x.length):L (Ig x none (some (i:Int)))=(L x).take i:=by
 have e:=PyProof.Rows.slice_closes_to (x:=x) (j:=i) ⟨by omega,by have:=L_len x;simp only[L] at this;omega⟩
 rw[Kn e]
 show(x.cps.toList.drop 0).take _=_
 rw[List.drop_zero]
 congr 1
end Tt
namespace L3
open PySem PySem.Spec PyProof.Rows L2
section
variable{prog:Program}{w:World}{K:Type}[DecidableEq K]{knd:HeapKind prog w K}{A:Around}{E:Value→Shared→Prop}{s:Shared}
theorem Zy6{d a:Addr}{xs:List (K×Addr×Value)}{k:K}{dflt:Value}{Q:Value→Shared→Prop}(hu:knd.room A)(hkey:knd.is s.heap k a)(hm:s.heap.DictOfH knd d xs)
  (h1:∀p,atKey xs k=some p→Q p.2 {s with toks:=s.toks+knd.draws k})
  (h2:atKey xs k=none→∀h',h'.DictOfH knd d (storedH xs k a dflt)→Ib d s.heap h'→Q dflt {s with heap:=h',toks:=s.toks+knd.draws k})
  (hsz:xs.length≤sizeLine):wpAny (model prog w) A (dictSetDefault d (.ref a) dflt) Q E s:=by
 obtain⟨o,es,ep,ho,hc,hd,he,his,hn⟩:=hm
 unfold dictSetDefault
 try with_reducible refine Hu ?_
 refine Aa (knd.pyHash hu hkey (Aa (wpAny_dictFind_heap (s:={s with toks:=s.toks+knd.draws k}) hu hkey ho hd he his hn ?_ ?_)))
 ·intro hno
  have hnot:k∉xs.map (·.1):=not_mem_keys_of_get hno
  refine Aa (Mg (Aa (wpAny_updateDictKeys (hz:=by have e:=size_of_entries he;omega) (s:={s with toks:=s.toks+knd.draws k}) ho hd (Ak (h2 (atKey_none_of_get hno) _ ⟨_,_,ep+1,Iy _ ho (Obj.isFreed_of_dict (Obj.data_mapDictKeys hd _)),
   hc.mapDictKeys _,Obj.data_mapDictKeys hd _,?_,?_,?_⟩ (Li ..))))))
  ·rw[storedH_new (atKey_none_of_get hno)]
   simp[he,entryOfKey]
  ·rw[storedH_new (atKey_none_of_get hno)]
   intro x hx
   rcases Az.mp hx with hx | hx
   ·exact knd.keeps (his x hx) ho hd (Li ..)
   ·simp only[Am] at hx
    subst hx
    exact knd.keeps hkey ho hd (Li ..)
  ·rw[storedH_new (atKey_none_of_get hno)]
   rw[Ao,List.nodup_append]
   refine⟨hn,by simp,?_⟩
   intro x hx y hy
   simp only[Dd,Le,Am] at hy
   subst hy
   exact fun e=>hnot (e ▸ hx)
 ·intro j p hj
  refine Aa (wpAny_dictEntries (s:={s with toks:=s.toks+knd.draws k}) ho hd ?_)
  rw[entry_at he j,hj]
  exact Aa (Mg (Ak (h1 _ (atKey_of_get hn hj))))
theorem Ou(knd:HeapKind prog w K)(d a:Addr)(hd:(d==sysModules)=false)(dflt:Value):
  MeetsIn prog w (Builtin.«dict.setdefault» ⟨[.ref d,.ref a,dflt],[]⟩) (fun A R s=>knd.room A.in1∧∃k xs,knd.is s.heap k a∧s.heap.DictOfH knd d xs∧xs.length≤sizeLine∧
   (∀p,atKey xs k=some p→R (.ok (.ret p.2)) {s with toks:=s.toks+knd.draws k})∧
   (atKey xs k=none→∀h',h'.DictOfH knd d (storedH xs k a dflt)→Ib d s.heap h'→R (.ok (.ret dflt)) {s with heap:=h',toks:=s.toks+knd.draws k})):=
 .of_wp fun A R s ⟨hu,k,xs,hkey,hm,hz,h1,h2⟩=>by
  unfold Builtin.«dict.setdefault»
  refine Aa ?_
  unfold Builtin.Dict.keyAndDefault
  refine Aa (wpAny_notOrdered_dict hm.typeIs ?_)
  show wpAny _ _ (pure (d,Au a,some dflt)) _ _ s
  refine Ak ?_
  show wpAny _ _ (if (d==sysModules)=true then _ else(dictSetDefault d (.ref a) dflt >>=_)) _ _ s
  rw[if_neg (by rw[hd];exact Bf9)]
  exact Aa (Zy6 (hsz:=hz) hu hkey hm (fun p hp=>Ak ⟨p.2,rfl,h1 p hp⟩) fun hn h' hm' hs'=>Ak ⟨dflt,rfl,h2 hn h' hm' hs'⟩)
end
section
variable{X:Cx}{pins:List (Addr×Obj)}{σ:L2.St}{H:Hp}{s:Shared}{a b:Addr}{d:V}{r:Value}{A:Around}{E:Value→Shared→Prop}
theorem Zc9{kvs:List (List Key×V)}{k:List Key}{Q:Value→Shared→Prop}(hu:A.units+1<cLine)(I:Inv X pins σ H s)(e:H a=some (.dT kvs))(eb:H b=some (.tup (k.map kV)))(hl:kvs.length<sizeLine)(rd:RelV d r)
  (h1:∀v w' s',valV kvs k=some v→Inv X pins σ H s'→RelV v w'→Q w' s')
  (h2:∀s',valV kvs k=none→Inv X pins σ (upd H a (.dT (putK kvs k d))) s'→Q r s'):
  wpAny (model X.prog X.w) A (call (.builtin "dict.setdefault") [.ref a,.ref b,r]) Q E s:=by
 obtain⟨z,hd,xs,rel,dd⟩:=Y30 I.hok e
 have hz:xs.length≤sizeLine:=by rw[←Paired.length rel];exact z
 have hp:(putK kvs k d).length≤sizeLine:=by have:=Wn kvs k d;omega
 refine call_meetsIn PySem.F.slot_dict_setdefault dd.typeIs PySem.F.entry_dict_setdefault (PySem.F.args_dict_setdefault_3 _ _ _) (Ou (tupleKind (Zz X.prog X.w)) a b hd r) ⟨Ko hu,k,xs,Ri I.hok eb,dd,hz,fun p hp=>?_,fun hn h' dd' hs=>?_⟩
 ·have rv:=rel.val k
  cases l:valV kvs k with
  | none=>rw[l] at rv;rw[hp] at rv;exact absurd (RelO.none_of rv) (by simp)
  | some v=>
   rw[l] at rv
   obtain⟨w',hw,rw'⟩:=RelO.some_of rv
   rw[hp] at hw
   cases hw
   exact h1 v _ _ l (I.tok _) rw'
 ·have rv:=rel.val k
  have l:valV kvs k=none:=by
   cases l:valV kvs k with
   | none=>rfl
   | some v=>
    rw[l] at rv
    obtain⟨w',hw,rw'⟩:=RelO.some_of rv
    rw[hn] at hw
    cases hw
  refine h2 _ l ?_
  obtain⟨q,es,ep,hq,g2,g3,g4,_,g5⟩:=dd'
  refine G4 I (by rw[e];exact Kv) hs ⟨q,hq⟩ ⟨hp,hd,_,(rel.put k eb rd).keeps fun c ys ec=>?_,q,es,ep,hq,g2,g3,g4,g5⟩
  rw[Zi (Y31 ec e (fun z=>nomatch z))]
  exact ec
end
end L3
namespace ZT
open PySem PyProof.Rows
structure Nx(P:Program)(w:World)(i l:Addr)(its:Array Value)(St:Nat→Heap→Prop):Prop where
 obj:∀k h,St k h→∃o,h.get? i=some o∧o.cls≠ .type "zip"∧∀v,o.data≠ .cell v
 stay:∀k h h',St k h→(∀b o,b=i∨b=l→h.get? b=some o→h'.get? b=some o)→St k h'
 item:∀{A:Around} {E:Value→Shared→Prop} {s:Shared} {k:Nat} {x:Value} {Q:Value→Shared→Prop},St k s.heap→its[k]?=some x→(∀h',St (k+1) h'→Ib i s.heap h'→Q x {s with heap:=h'})→wpAny (model P w) A (Dz (.ref i)) Q E s
 done:∀{A:Around} {E:Value→Shared→Prop} {s:Shared} {k:Nat} {Q:Value→Shared→Prop},A.handled=none→St k s.heap→its[k]?=none→(∀h' e,(∀c o,c≠i→s.heap.get? c=some o→h'.get? c=some o)→(∃o,h'.get? e=some o∧o.cls= .type "StopIteration")→E (.ref e) {s with heap:=h'})→wpAny (model P w) A (Dz (.ref i)) Q E s
section
variable{prog:Program}{w:World}{A:Around}{E:Value→Shared→Prop}{s:Shared}
theorem Nx.tuple{i l:Addr}(hne:l≠i)(its:Array Value):Nx prog w i l its (fun k h=>h.IsTupleIter i l k∧h.IsTuple l its) where
 obj:=fun k h zz57=>by obtain⟨⟨o,e,c,d⟩,_⟩:=zz57;exact⟨o,e,by rw[c];decide,fun v z=>by rw[d] at z;cases z⟩
 stay:=fun k h h' zz58 q=>by obtain⟨⟨o,e,r⟩,⟨u,e2,r2⟩⟩:=zz58;exact⟨⟨o,q i o (.inl rfl) e,r⟩,⟨u,q l u (.inr rfl) e2,r2⟩⟩
 item:=by
  rintro A E s k x Q ⟨a,b⟩ hx q
  obtain⟨o,ho,hc,hd⟩:=id a
  obtain⟨ol,hol,hcl,nl,hdl⟩:=id b
  unfold Dz
  refine Aa (Ii (name:=Str.ofString "__next__") a.typeIs F.slot_tuple_iterator_next (Kz F.slot_tuple_iterator_next a.typeIs F.entry_tuple_iterator_next ?_ (F.args_tuple_iterator_next_1 _)))
  show wpAny _ _ (field (.ref i) 0 >>=_) _ _ s
  refine Aa (Hq ho hd (x:= .ref l) rfl ?_)
  show wpAny _ _ (if (Au l==Lm)=true then _ else _) _ _ s
  rw[if_neg (by exact Bf9)]
  show wpAny _ _ (field (.ref i) 1 >>=_) _ _ s
  refine Aa (Hq ho hd (x:= .int k 0) rfl ?_)
  show wpAny _ _ (seqItems? (.ref l) >>=_) _ _ s
  refine Aa (Kb hol hdl ?_)
  simp only[Hy,hx]
  have sb:=Li s.heap i (Obj.mapFields (·.setIfInBounds 1 (rawInt ((k:Int)+1))))
  refine Aa (wpAny_setField ho hd (by simp) (Ak ⟨x,rfl,Ak (q _ ⟨?_,b.extBut sb.extBut hne⟩ sb)⟩))
  exact⟨_,Iy _ ho (Obj.isFreed_of_fields (Obj.data_mapFields hd _)),(Obj.cls_mapFields ..).trans hc,by rw[Obj.data_mapFields hd];simp[rawInt]⟩
 done:=by
  rintro A E s k Q hh ⟨a,b⟩ hx q
  obtain⟨o,ho,hc,hd⟩:=id a
  obtain⟨ol,hol,hcl,nl,hdl⟩:=id b
  unfold Dz
  refine Aa (Ii (name:=Str.ofString "__next__") a.typeIs F.slot_tuple_iterator_next (Kz F.slot_tuple_iterator_next a.typeIs F.entry_tuple_iterator_next ?_ (F.args_tuple_iterator_next_1 _)))
  show wpAny _ _ (field (.ref i) 0 >>=_) _ _ s
  refine Aa (Hq ho hd (x:= .ref l) rfl ?_)
  show wpAny _ _ (if (Au l==Lm)=true then _ else _) _ _ s
  rw[if_neg (by exact Bf9)]
  show wpAny _ _ (field (.ref i) 1 >>=_) _ _ s
  refine Aa (Hq ho hd (x:= .int k 0) rfl ?_)
  show wpAny _ _ (seqItems? (.ref l) >>=_) _ _ s
  refine Aa (Kb hol hdl ?_)
  simp only[Hy,hx]
  refine Aa (Mg (Aa (wpAny_setField ho hd (by simp) ?_)))
  refine SW.Zi8 (A:=A.in1) hh fun h' e kp he=>q h' e (fun c u hc2 z=>kp c u ((Li ..).extBut c u hc2 z)) he
structure Ap(z TI TO i1 i2 l1 l2:Addr):Prop where
 z1:TI≠z∧TO≠z∧i1≠z∧i2≠z∧l1≠z∧l2≠z
 z2:TI≠TO∧i1≠TO∧i2≠TO∧l1≠TO∧l2≠TO
 z3:TI≠i1∧i2≠i1∧l1≠i1∧l2≠i1
 z4:TI≠i2∧l1≠i2∧l2≠i2
variable{z TI TO i1 i2 l1 l2:Addr}{xs ys:Array Value}{S1 S2:Nat→Heap→Prop}
theorem Oo{T:Addr}{a b x:Value}{k:Nat}{Q:Unit→Shared→Prop}(hT:IsPair s.heap T a b)
  (h:∀h',h'.get? T=some {cls:= .type "tuple",data:= .seq ((#[a,b]:Array Value).setIfInBounds k x)}→Ib T s.heap h'→Q () {s with heap:=h'}):wpAny (model prog w) A (updateSeq T (·.setIfInBounds k x)) Q E s:=wpAny_updateSeq_pair hT h
theorem Y37{k:Nat}{x y a b:Value}{Q:Value→Shared→Prop}(D:Ap z TI TO i1 i2 l1 l2)(N1:Nx prog w i1 l1 xs S1)(N2:Nx prog w i2 l2 ys S2)
  (hz:IsZip s.heap z TI TO .none) (hI:IsPair s.heap TI (.ref i1) (.ref i2)) (hO:IsPair s.heap TO a b) (h1:S1 k s.heap) (h2:S2 k s.heap) (hx:xs[k]?=some x) (hy:ys[k]?=some y)
  (q:∀h',IsZip h' z TI TO (rawInt s.heap.objs.size)→IsPair h' TO x y→S1 (k+1) h'→S2 (k+1) h'→IsPair h' s.heap.objs.size x y→h'.objs.size=s.heap.objs.size+1→(∀c o,c≠z→c≠TO→c≠i1→c≠i2→s.heap.get? c=some o→h'.get? c=some o)→Q (.ref s.heap.objs.size) {s with heap:=h'}):
  wpAny (model prog w) A (Builtin.«zip.__next__» ⟨[.ref z],[]⟩) (fun fin s'=>∃v,fin= .done (.ret v)∧Q v s') E s:=by
 obtain⟨⟨d1,d2,d3,d4,d5,d6⟩,⟨e1,e2,e3,e4,e5⟩,⟨f1,f2,f3,f4⟩,g1,g2,g3⟩:=D
 show wpAny _ _ (field (.ref z) 2 >>=_) _ _ _
 refine Aa (Hq (x:= .bool false) hz rfl rfl ?_)
 show wpAny _ _ (field (.ref z) 3 >>=_) _ _ _
 refine Aa (Hq (x:= .ref TI) hz rfl rfl (Aa (Kb hI rfl ?_)))
 show wpAny _ _ (Ih (.ref z) >>=_) _ _ _
 refine Aa ?_
 unfold Ih
 refine Aa (Hq (x:= .none) hz rfl rfl (Ak ?_))
 simp only[if_true]
 refine Aa (Mg (Aa (Hq (x:= .ref TO) hz rfl rfl (Aa (Lr hz (by simp) fun ha za sa=>?_)))))
 replace za:IsZip ha z TI TO .ellipsis:=za
 refine Aa ?_
 simp only[List.zipIdx_cons,List.zipIdx_nil,List.forIn_cons,List.forIn_nil]
 refine Aa (Aa (wpAny_onRaise ?_))
 show wpAny _ _ (Dz (.ref i1) >>=_) _ _ _
 have h1a:S1 k ha:=N1.stay _ _ _ h1 fun c o hc e=>sa.extBut c o (by rcases hc with rfl | rfl<;>assumption) e
 have h2a:S2 k ha:=N2.stay _ _ _ h2 fun c o hc e=>sa.extBut c o (by rcases hc with rfl | rfl<;>assumption) e
 refine Aa (N1.item h1a hx fun hb h1b sb=>Ak ?_)
 have Ob:IsPair hb TO a b:=sb.extBut _ _ (Df e2) (sa.extBut _ _ d2 hO)
 have h2b:S2 k hb:=N2.stay _ _ _ h2a fun c o hc e=>sb.extBut c o (by rcases hc with rfl | rfl<;>assumption) e
 refine Aa (Kb Ob rfl (Aa (Oo Ob fun hc Oc sc=>?_)))
 replace Oc:IsPair hc TO x b:=Oc
 refine Aa (wpAny_letGo (Ak ?_))
 refine Aa (Aa (wpAny_onRaise ?_))
 show wpAny _ _ (Dz (.ref i2) >>=_) _ _ _
 have h2c:S2 k hc:=N2.stay _ _ _ h2b fun c o hc e=>sc.extBut c o (by rcases hc with rfl | rfl<;>assumption) e
 have h1c:S1 (k+1) hc:=N1.stay _ _ _ h1b fun c o hc e=>sc.extBut c o (by rcases hc with rfl | rfl<;>assumption) e
 refine Aa (N2.item h2c hy fun hd h2d sd=>Ak ?_)
 have Od:IsPair hd TO x b:=sd.extBut _ _ (Df e3) Oc
 have h1d:S1 (k+1) hd:=N1.stay _ _ _ h1c fun c o hc e=>sd.extBut c o (by rcases hc with rfl | rfl;exact Df f2;assumption) e
 refine Aa (Kb Od rfl (Aa (Oo Od fun he Oe se=>?_)))
 replace Oe:IsPair he TO x y:=Oe
 refine Aa (wpAny_letGo (Ak (Ak ?_)))
 refine Aa (Kb Oe rfl (Aa (wpAny_newTuple ?_)))
 have h1e:S1 (k+1) he:=N1.stay _ _ _ h1d fun c o hc e=>se.extBut c o (by rcases hc with rfl | rfl<;>assumption) e
 have h2e:S2 (k+1) he:=N2.stay _ _ _ h2d fun c o hc e=>se.extBut c o (by rcases hc with rfl | rfl<;>assumption) e
 have sz:he.objs.size=s.heap.objs.size:=by rw[se.1,sd.1,sc.1,sb.1,sa.1]
 have ze:IsZip he z TI TO .ellipsis:=se.extBut _ _ (Df d2) (sd.extBut _ _ (Df d4) (sc.extBut _ _ (Df d2) (sb.extBut _ _ (Df d3) za)))
 have ke:∀c o,c≠z→c≠TO→c≠i1→c≠i2→s.heap.get? c=some o→he.get? c=some o:=fun c o c1 c2 c3 c4 e=>
  se.extBut _ _ c2 (sd.extBut _ _ c4 (sc.extBut _ _ c2 (sb.extBut _ _ c3 (sa.extBut _ _ c1 e))))
 have lz:z<he.objs.size:=Al ze
 show wpAny _ _ (Builtin.SmallTypes.ownedTupleHandOut (.ref z) (.ref he.objs.size) >>=_) _ _ _
 refine Aa ?_
 unfold Builtin.SmallTypes.ownedTupleHandOut
 have zf:IsZip (he.push {cls:= .type "tuple",data:= .seq #[x,y]}) z TI TO .ellipsis:=An _ ze
 refine Aa (Lr zf (by simp) fun hg zg sg=>?_)
 replace zg:IsZip hg z TI TO (rawInt he.objs.size):=zg
 refine Lr zg (by simp) fun hh zh sh=>?_
 replace zh:IsZip hh z TI TO (rawInt he.objs.size):=zh
 have up:∀c o,c≠z→he.get? c=some o→hh.get? c=some o:=fun c o c1 e=>sh.extBut _ _ c1 (sg.extBut _ _ c1 (An _ e))
 have Th:IsPair hh he.objs.size x y:=sh.extBut _ _ (Nat.ne_of_gt lz) (sg.extBut _ _ (Nat.ne_of_gt lz) (As _ rfl))
 have zs:hh.objs.size=he.objs.size+1:=by rw[sh.1,sg.1,Ka]
 rw[sz] at zh Th zs
 refine Ak ⟨_,rfl,?_⟩
 show Q (.ref he.objs.size) _
 rw[sz]
 exact q hh zh (up _ _ d2 Oe) (N1.stay _ _ _ h1e fun c o hc e=>up c o (by rcases hc with rfl | rfl<;>assumption) e) (N2.stay _ _ _ h2e fun c o hc e=>up c o (by rcases hc with rfl | rfl<;>assumption) e) Th zs fun c o c1 c2 c3 c4 e=>up c o c1 (ke c o c1 c2 c3 c4 e)
theorem Yb0{k:Nat}{a b:Value}{Q:Fin→Shared→Prop}(hh:A.handled=none)(D:Ap z TI TO i1 i2 l1 l2)(N1:Nx prog w i1 l1 xs S1)(N2:Nx prog w i2 l2 ys S2)
  (hz:IsZip s.heap z TI TO .none) (hI:IsPair s.heap TI (.ref i1) (.ref i2)) (hO:IsPair s.heap TO a b) (h1:S1 k s.heap) (h2:S2 k s.heap) (hend:xs[k]?=none∨ys[k]?=none)
  (q:∀h' e,(∀c o,c≠z→c≠TO→c≠i1→c≠i2→s.heap.get? c=some o→h'.get? c=some o)→(∃o,h'.get? e=some o∧o.cls= .type "StopIteration")→E (.ref e) {s with heap:=h'}):
  wpAny (model prog w) A (Builtin.«zip.__next__» ⟨[.ref z],[]⟩) Q E s:=by
 obtain⟨⟨d1,d2,d3,d4,d5,d6⟩,⟨e1,e2,e3,e4,e5⟩,⟨f1,f2,f3,f4⟩,g1,g2,g3⟩:=D
 show wpAny _ _ (field (.ref z) 2 >>=_) _ _ _
 refine Aa (Hq (x:= .bool false) hz rfl rfl ?_)
 show wpAny _ _ (field (.ref z) 3 >>=_) _ _ _
 refine Aa (Hq (x:= .ref TI) hz rfl rfl (Aa (Kb hI rfl ?_)))
 show wpAny _ _ (Ih (.ref z) >>=_) _ _ _
 refine Aa ?_
 unfold Ih
 refine Aa (Hq (x:= .none) hz rfl rfl (Ak ?_))
 simp only[if_true]
 refine Aa (Mg (Aa (Hq (x:= .ref TO) hz rfl rfl (Aa (Lr hz (by simp) fun ha za sa=>?_)))))
 replace za:IsZip ha z TI TO .ellipsis:=za
 refine Aa ?_
 simp only[List.zipIdx_cons,List.zipIdx_nil,List.forIn_cons,List.forIn_nil]
 refine Aa (Aa (wpAny_onRaise ?_))
 show wpAny _ _ (Dz (.ref i1) >>=_) _ _ _
 have h1a:S1 k ha:=N1.stay _ _ _ h1 fun c o hc e=>sa.extBut c o (by rcases hc with rfl | rfl<;>assumption) e
 have h2a:S2 k ha:=N2.stay _ _ _ h2 fun c o hc e=>sa.extBut c o (by rcases hc with rfl | rfl<;>assumption) e
 have fin:∀(h2:Heap) (e:Addr),IsZip h2 z TI TO .ellipsis→(∀c o,c≠z→c≠TO→c≠i1→c≠i2→s.heap.get? c=some o→h2.get? c=some o)→(∃o,h2.get? e=some o∧o.cls= .type "StopIteration")→wpAny (model prog w) A (setField (.ref z) 0 .none) (fun _ s'=>E (.ref e) s') E {s with heap:=h2}:=by
  rintro h2 e zz kp ⟨o,ho,hc⟩
  refine Lr zz (by simp) fun h3 _ s3=>q h3 e (fun c o c1 c2 c3 c4 x=>s3.extBut _ _ c1 (kp c o c1 c2 c3 c4 x)) ⟨o,s3.extBut _ _ ?_ ho,hc⟩
  rintro rfl
  rw[zz] at ho
  cases ho
  exact absurd (show Ly "zip"=Ly "StopIteration" from hc) (by decide)
 cases hx:xs[k]? with
 | none=>
  refine Aa (N1.done (s:={s with heap:=ha}) hh h1a hx fun hb e kb he=>?_)
  exact fin hb e (kb _ _ (Df d3) za) (fun c o c1 _ c3 _ x=>kb _ _ c3 (sa.extBut _ _ c1 x)) he
 | some x=>
  have hy:ys[k]?=none:=hend.resolve_left (by rw[hx];intro z;cases z)
  refine Aa (N1.item (s:={s with heap:=ha}) h1a hx fun hb h1b sb=>Ak ?_)
  have Ob:IsPair hb TO a b:=sb.extBut _ _ (Df e2) (sa.extBut _ _ d2 hO)
  have h2b:S2 k hb:=N2.stay _ _ _ h2a fun c o hc e=>sb.extBut c o (by rcases hc with rfl | rfl<;>assumption) e
  refine Aa (Kb Ob rfl (Aa (Oo Ob fun hc Oc sc=>?_)))
  refine Aa (wpAny_letGo (Ak ?_))
  refine Aa (Aa (wpAny_onRaise ?_))
  show wpAny _ _ (Dz (.ref i2) >>=_) _ _ _
  have h2c:S2 k hc:=N2.stay _ _ _ h2b fun c o hc e=>sc.extBut c o (by rcases hc with rfl | rfl<;>assumption) e
  have zc:IsZip hc z TI TO .ellipsis:=sc.extBut _ _ (Df d2) (sb.extBut _ _ (Df d3) za)
  refine Aa (N2.done (s:={s with heap:=hc}) hh h2c hy fun hd e kd he=>?_)
  exact fin hd e (kd _ _ (Df d4) zc) (fun c o c1 c2 c3 c4 x=>kd _ _ c4 (sc.extBut _ _ c2 (sb.extBut _ _ c3 (sa.extBut _ _ c1 x)))) he
end
noncomputable abbrev zh1(h:Heap)(t:Addr):Heap:=h.push {cls:= .type "tuple_iterator",data:= .fields #[.ref t,.int 0 0]}
noncomputable abbrev zh2(h:Heap)(t l:Addr):Heap:=(zh1 h t).push {cls:= .type "tuple_iterator",data:= .fields #[.ref l,.int 0 0]}
noncomputable abbrev zh3(h:Heap)(t l:Addr):Heap:=(zh2 h t l).push {cls:= .type "tuple",data:= .seq #[.ref h.objs.size,.ref (zh1 h t).objs.size]}
noncomputable abbrev zh4(h:Heap)(t l:Addr):Heap:=(zh3 h t l).push {cls:= .type "tuple",data:= .seq #[.none,.none]}
noncomputable abbrev zh5(h:Heap)(t l:Addr):Heap:=(zh4 h t l).push {cls:= .type "zip",data:= .fields #[.none,.bool false,.bool false,.ref (zh2 h t l).objs.size,.ref (zh3 h t l).objs.size]}
theorem Y48(t l:Addr)(xs ys:Array Value):Meets (Builtin.«zip.__new__» ⟨[.type "zip",.ref t,.ref l],[]⟩) (fun _ R s=>s.heap.IsTuple t xs∧s.heap.IsTuple l ys∧R (.ok (.ret (.ref (zh4 s.heap t l).objs.size))) {s with heap:=zh5 s.heap t l}):=
 .of_wp fun prog w A R s h=>by
  obtain⟨hp,g,d,tk,os⟩:=s
  obtain⟨ht,hl,h⟩:=h
  have sub0:=sub_zip
  have hT:Heap.IsTuple (Shared.heap ⟨hp,g,d,tk,os⟩) t xs:=ht
  have hL:Heap.IsTuple (Shared.heap ⟨hp.push {cls:= .type "tuple_iterator",data:= .fields #[.ref t,.int 0 0]},g,d,tk,os⟩) l ys:=Heap.IsTuple.push hl _
  wp_walk using wpAny_pyIter_tuple hT,wpAny_pyIter_tuple hL
  exact⟨_,rfl,h⟩
section
variable{prog:Program}{w:World}{A:Around}{E:Value→Shared→Prop}{s:Shared}
theorem zt_call{t l:Addr}{xs ys:Array Value}{Q:Value→Shared→Prop}(ht:s.heap.IsTuple t xs)(hl:s.heap.IsTuple l ys)
  (h:∀h',IsZip h' (s.heap.objs.size+4) (s.heap.objs.size+2) (s.heap.objs.size+3) .none→IsPair h' (s.heap.objs.size+2) (.ref s.heap.objs.size) (.ref (s.heap.objs.size+1))→IsPair h' (s.heap.objs.size+3) .none .none→
   h'.IsTupleIter s.heap.objs.size t 0→h'.IsTupleIter (s.heap.objs.size+1) l 0→(∀c o,s.heap.get? c=some o→h'.get? c=some o)→Q (.ref (s.heap.objs.size+4)) {s with heap:=h'}):
  wpAny (model prog w) A (call (.type "zip") [.ref t,.ref l]) Q E s:=by
 refine callType_new F.called_zip (by decide) (F.typeCall_zip_2 _ _) (F.newCall_zip_2 _ _) (fun obj=>F.args_object_init_3 obj _ _) F.entry_zip_new (Y48 t l xs ys) ⟨ht,hl,?_⟩
 have z1:(zh1 s.heap t).objs.size=s.heap.objs.size+1:=Ka ..
 have z2:(zh2 s.heap t l).objs.size=s.heap.objs.size+2:=by rw[Ka,z1]
 have z3:(zh3 s.heap t l).objs.size=s.heap.objs.size+3:=by rw[Ka,z2]
 have z4:(zh4 s.heap t l).objs.size=s.heap.objs.size+4:=by rw[Ka,z3]
 have up:∀{h:Heap} {o:Obj} {c:Addr} {u:Obj},h.get? c=some u→(h.push o).get? c=some u:=fun e=>An _ e
 have g5:(zh5 s.heap t l).get? (zh4 s.heap t l).objs.size=some _:=As _ rfl
 have g4:(zh5 s.heap t l).get? (zh3 s.heap t l).objs.size=some _:=up (As _ rfl)
 have g3:(zh5 s.heap t l).get? (zh2 s.heap t l).objs.size=some _:=up (up (As _ rfl))
 have g2:(zh5 s.heap t l).get? (zh1 s.heap t).objs.size=some _:=up (up (up (As _ rfl)))
 have g1:(zh5 s.heap t l).get? s.heap.objs.size=some _:=up (up (up (up (As _ rfl))))
 show _∧_
 rw[z2,z3,z4] at g5
 rw[z1,z2] at g3
 rw[z3] at g4
 rw[z1] at g2
 rw[z4]
 exact⟨⟨_,g5,rfl⟩,h _ g5 g3 g4 ⟨_,g1,rfl,rfl⟩ ⟨_,g2,rfl,rfl⟩ fun c o e=>up (up (up (up (up e))))⟩
variable{z TI TO i1 i2 l1 l2:Addr}{xs ys:Array Value}{S1 S2:Nat→Heap→Prop}
theorem zn_item{k:Nat}{x y a b:Value}{Q:Option Value→Shared→Prop}(D:Ap z TI TO i1 i2 l1 l2)(N1:Nx prog w i1 l1 xs S1)(N2:Nx prog w i2 l2 ys S2)
  (hz:IsZip s.heap z TI TO .none) (hI:IsPair s.heap TI (.ref i1) (.ref i2)) (hO:IsPair s.heap TO a b) (h1:S1 k s.heap) (h2:S2 k s.heap) (hx:xs[k]?=some x) (hy:ys[k]?=some y)
  (q:∀h',IsZip h' z TI TO (rawInt s.heap.objs.size)→IsPair h' TO x y→S1 (k+1) h'→S2 (k+1) h'→IsPair h' s.heap.objs.size x y→h'.objs.size=s.heap.objs.size+1→(∀c o,c≠z→c≠TO→c≠i1→c≠i2→s.heap.get? c=some o→h'.get? c=some o)→Q (some (.ref s.heap.objs.size)) {s with heap:=h'}):
  wpAny (model prog w) A (pyNext (.ref z)) Q E s:=by
 have hT:s.TypeIs (.ref z) "zip":=⟨_,hz,rfl⟩
 unfold pyNext
 exact Aa (wpAny_attempt (Ii (name:=Str.ofString "__next__") hT F.slot_zip_next (Kz F.slot_zip_next hT F.entry_zip_next (Y37 D N1 N2 hz hI hO h1 h2 hx hy fun h' a1 a2 a3 a4 a5 a6 a7=>Ak (q h' a1 a2 a3 a4 a5 a6 a7)) (F.args_zip_next_1 _))))
theorem zn_end{k:Nat}{a b:Value}{Q:Option Value→Shared→Prop}(hh:A.handled=none)(D:Ap z TI TO i1 i2 l1 l2)(N1:Nx prog w i1 l1 xs S1)(N2:Nx prog w i2 l2 ys S2)
  (hz:IsZip s.heap z TI TO .none) (hI:IsPair s.heap TI (.ref i1) (.ref i2)) (hO:IsPair s.heap TO a b) (h1:S1 k s.heap) (h2:S2 k s.heap) (hend:xs[k]?=none∨ys[k]?=none)
  (q:∀h',(∀c o,c≠z→c≠TO→c≠i1→c≠i2→s.heap.get? c=some o→h'.get? c=some o)→Q none {s with heap:=h'}):wpAny (model prog w) A (pyNext (.ref z)) Q E s:=by
 have hT:s.TypeIs (.ref z) "zip":=⟨_,hz,rfl⟩
 unfold pyNext
 refine Aa (wpAny_attempt (Ii (name:=Str.ofString "__next__") hT F.slot_zip_next (Kz F.slot_zip_next hT F.entry_zip_next (Yb0 (A:=A.in1) hh D N1 N2 hz hI hO h1 h2 hend fun h' e hk he=>?_) (F.args_zip_next_1 _))))
 obtain⟨o,ho,hc⟩:=he
 exact Aa (wpAny_isInstance (T:="StopIteration") (b:=true) ⟨o,ho,hc⟩ isSubtype_stop (Ak (q _ hk)))
end
end ZT
namespace L3
open PySem PySem.Spec PyProof.Rows L2
section
variable{X:Cx}
noncomputable def Itzt(K:Af)(a b:Addr)(xs ys:List V):It:=
 ⟨fun i H=>∃x y,SqT K H a xs∧SqT K H b ys∧xs[i]?=some x∧ys[i]?=some y,
  fun i H x H'=>∃p u v,H p=none∧H'=upd H p (.tup [u,v])∧x= .ref p∧xs[i]?=some u∧ys[i]?=some v,
  fun i H=>SqT K H a xs∧SqT K H b ys∧(xs.length≤i∨ys.length≤i)⟩
theorem Bc{P:Program}{w:World}{K:Af}{elts:List Expr}{x1:Nat}{tp:Pos}{z TI TO i1 i2 a b:Addr}{xs ys:List V}(D:ZT.Ap z TI TO i1 i2 a b):
  Turn P w K (.Tuple elts x1 tp) (Itzt K a b xs ys) [z,TI,TO,i1,i2] z (fun i h=>IsZip h z TI TO .none∧IsPair h TI (.ref i1) (.ref i2)∧(∃u v,IsPair h TO u v)∧h.IsTupleIter i1 a i∧h.IsTupleIter i2 b i) where
 mem:=by simp
 obj:=by
  rintro i h ⟨hz,hTI,⟨u,v,hTO⟩,⟨o1,e1,_,d1⟩,⟨o2,e2,_,d2⟩⟩ c hc
  simp only[Aq,Db,or_false] at hc
  rcases hc with rfl | rfl | rfl | rfl | rfl
  ·exact⟨_,hz,fun v q=>by cases q⟩
  ·exact⟨_,hTI,fun v q=>by cases q⟩
  ·exact⟨_,hTO,fun v q=>by cases q⟩
  ·exact⟨_,e1,fun v q=>by rw[d1] at q;cases q⟩
  ·exact⟨_,e2,fun v q=>by rw[d2] at q;cases q⟩
 keep:=by
  rintro i h h' ⟨hz,hTI,⟨u,v,hTO⟩,⟨o,e,r⟩,⟨o2,e2,r2⟩⟩ k
  exact⟨k z (by simp) _ hz,k TI (by simp) _ hTI,⟨u,v,k TO (by simp) _ hTO⟩,⟨o,k i1 (by simp) _ e,r⟩,⟨o2,k i2 (by simp) _ e2,r2⟩⟩
 item:=by
  rintro X rfl rfl rfl hc i pins s σ H E I hf ⟨hz,hTI,⟨u0,v0,hTO⟩,h1,h2⟩ ⟨x,y,hq,hr,hx,hy⟩
  obtain⟨its,rv,p,_⟩:=I.tuple hq
  obtain⟨jts,rw2,p2,_⟩:=I.tuple hr
  obtain⟨u,hu,ru⟩:=rv.get hx
  obtain⟨v,hv,rv2⟩:=rw2.get hy
  have lt:∀c∈[z,TI,TO,i1,i2],@LT.lt Nat _ c s.heap.objs.size:=by
   intro c hc
   simp only[Aq,Db,or_false] at hc
   obtain⟨o1,e1,_⟩:=id h1
   obtain⟨o2,e2,_⟩:=id h2
   rcases hc with rfl | rfl | rfl | rfl | rfl
   ·exact Al hz
   ·exact Al hTI
   ·exact Al hTO
   ·exact Al e1
   ·exact Al e2
  refine ZT.zn_item D (ZT.Nx.tuple D.z3.2.2.1 its.toArray) (ZT.Nx.tuple D.z4.2.2 jts.toArray) hz hTI hTO ⟨h1,p⟩ ⟨h2,p2⟩ (x:=u) (y:=v) (by simpa using hu) (by simpa using hv) fun hh ho hTO2 g1 g2 hT hsz hk=>?_
  refine⟨_,rfl,wpAny_letOwnedTupleGo_zip ho fun h3 hz3 hs3=>?_⟩
  replace hs3:Ib z hh h3:=hs3
  obtain⟨⟨a1,a2,a3,a4,a5,a6⟩,⟨b1,b2,b3,b4,b5⟩,⟨c1,c2,c3,c4⟩,e1,e2,e3⟩:=D
  have nz:s.heap.objs.size≠z:=Nat.ne_of_gt (lt z (by simp))
  have hT3:h3.get? s.heap.objs.size=some {cls:= .type "tuple",data:= .seq #[u,v]}:=(hs3.2 _ nz).trans hT
  have hn:H s.heap.objs.size=none:=I.hok.fresh (Nat.le_refl _)
  have I1:Inv X pins σ (upd H s.heap.objs.size (.tup [x,y])) {s with heap:=s.heap.push {cls:= .type "tuple",data:= .seq #[u,v]},toks:=s.toks}:=
   I.laid (fun b ob q=>An _ q) (Nat.le_refl _) ⟨show 2≤sizeLine by rw[Lu];omega,[u,v],.cons ru (.cons rv2 .nil),⟨_,As _ rfl,rfl,_,rfl⟩⟩
  have up:∀c∈[z,TI,TO,i1,i2],FpOk X pins (upd H s.heap.objs.size (.tup [x,y])) c:=by
   intro c hc
   refine⟨?_,(hf c hc).2⟩
   rw[Zi (Nat.ne_of_lt (lt c hc))]
   exact(hf c hc).1
  have I2:=Oh (h':=h3) (t':=s.toks) I1 (fun c o hc e'=>by
   simp only[Aq,Db,or_false,not_or] at hc
   rcases Vq e' with q | q
   ·exact(hs3.2 c hc.1).trans (hk c o hc.1 hc.2.2.1 hc.2.2.2.1 hc.2.2.2.2 q)
   ·subst q
    have z2:(s.heap.push {cls:= .type "tuple",data:= .seq #[u,v]}).get? s.heap.objs.size=some o:=e'
    rw[As _ rfl] at z2
    cases z2
    exact hT3) up
  obtain⟨q1,q2,q3⟩:=g1.1
  obtain⟨q4,q5,q6⟩:=g2.1
  refine⟨.ref s.heap.objs.size,_,I2,rfl,⟨_,x,y,hn,rfl,rfl,hx,hy⟩,
   ⟨hz3,(hs3.2 TI a1).trans (hk TI _ a1 b1 c1 e1 hTI),⟨_,_,(hs3.2 TO a2).trans hTO2⟩,⟨q1,(hs3.2 i1 a3).trans q2,q3⟩,⟨q4,(hs3.2 i2 a4).trans q5,q6⟩⟩,fun c hc=>(up c hc).1⟩
 done:=by
  rintro X rfl rfl rfl hc i pins s σ H E I hf ⟨hz,hTI,⟨u0,v0,hTO⟩,h1,h2⟩ ⟨hq,hr,hl⟩
  obtain⟨its,rv,p,_⟩:=I.tuple hq
  obtain⟨jts,rw2,p2,_⟩:=I.tuple hr
  have l1:=rv.length
  have l2:=rw2.length
  refine ZT.zn_end (I.ok.hd hc) D (ZT.Nx.tuple D.z3.2.2.1 its.toArray) (ZT.Nx.tuple D.z4.2.2 jts.toArray) hz hTI hTO ⟨h1,p⟩ ⟨h2,p2⟩ ?_ fun h' eb=>⟨rfl,Oh (t':=s.toks) I (ch:=[z,TI,TO,i1,i2]) (fun c o hc e=>?_) hf⟩
  ·rcases hl with hl | hl
   ·exact .inl (by simp;omega)
   ·exact .inr (by simp;omega)
  ·simp only[Aq,Db,or_false,not_or] at hc
   exact eb c o hc.1 hc.2.2.1 hc.2.2.2.1 hc.2.2.2.2 e
 self:=by
  rintro A i s Q E ⟨hz,_⟩ h
  exact wpAny_pyIter_zip hz h
def Yd6(K:Af)(ta:TA):TI:=fun σ H R=>ta σ H fun vs H1=>(∃a b,vs=[V.ref a,V.ref b]∧(∃xs,SqL K H1 a xs)∧(∃ys,SqL K H1 b ys)∧R (Itz K a b) H1)∨(∃a b xs ys,vs=[V.ref a,V.ref b]∧SqT K H1 a xs∧SqT K H1 b ys∧R (Itzt K a b xs ys) H1)
theorem Zy1{elts:List Expr}{x1:Nat}{tp:Pos}{l:Expr}{ls:List Expr}{ta:TA}{p pos:Pos}(hg:Gl X "zip")(hm:X.mg "zip"=none)(ha:PA X (l::ls) ta)(he:starEach (l::ls) X.env=(false,eval l X.env)::starEach ls X.env)(hpl:(backTo pos (starEach ls X.env)).any (·.1)=false):
  PI X (.Tuple elts x1 tp) (.Call (.Name "zip" p) (l::ls) [] pos) (Yd6 X.K ta):=by
 intro pins s σ H R I h
 refine Lp (Qc I hg hm (u:= .type "zip") (by kernel_rfl) ?_)
 refine Kl (thn (ha pos pins s σ H _ I h) fun us s1 zz59=>?_) he hpl
 obtain⟨vs,H1,I1,rv,q⟩:=zz59
 have hb:∀c∈[s1.heap.objs.size+4,s1.heap.objs.size+2,s1.heap.objs.size+3,s1.heap.objs.size,s1.heap.objs.size+1],@LE.le Nat _ s1.heap.objs.size c:=by
  intro c hc
  simp only[Aq,Db,or_false] at hc
  rcases hc with rfl | rfl | rfl | rfl | rfl
  ·exact Nat.le_add_right _ _
  ·exact Nat.le_add_right _ _
  ·exact Nat.le_add_right _ _
  ·exact Nat.le_refl _
  ·exact Nat.le_add_right _ _
 rcases q with⟨a,b,ev,⟨xs,hp⟩,⟨ys,hq⟩,q⟩ | ⟨a,b,xs,ys,ev,hp,hq,q⟩
 ·subst ev
  obtain⟨u1,u2,rfl,e1,e2⟩:=O7 rv
  cases e1
  cases e2
  obtain⟨us,r1,pl1,z1⟩:=I1.list hp
  obtain⟨ws,r2,pl2,z2⟩:=I1.list hq
  have L1:=pl1.isList
  have L2:=pl2.isList
  have lt1:@LT.lt Nat _ a s1.heap.objs.size:=by obtain⟨o,e,_⟩:=L1;exact Al e
  have lt2:@LT.lt Nat _ b s1.heap.objs.size:=by obtain⟨o,e,_⟩:=L2;exact Al e
  refine call_zip_2 L1 L2 fun h' a1 a2 a3 a4 a5 a6 kp=>wpAny_pyIter_zip a1 ?_
  have D:ZipApart (s1.heap.objs.size+4) (s1.heap.objs.size+2) (s1.heap.objs.size+3) s1.heap.objs.size (s1.heap.objs.size+1) a b:=by
   constructor<;>(show(_:Nat)≠_)<;>omega
  exact⟨s1.heap.objs.size+4,[s1.heap.objs.size+4,s1.heap.objs.size+2,s1.heap.objs.size+3,s1.heap.objs.size,s1.heap.objs.size+1],_,_,H1,rfl,I1.kept (t':=s1.toks) kp,Zk1 _ _ _ _ _ a b D,⟨a1,a2,⟨_,_,a3⟩,a4,a5⟩,fun c hc=>I1.fpOk (hb c hc) (I1.hok.fresh (hb c hc)),q⟩
 ·subst ev
  obtain⟨u1,u2,rfl,e1,e2⟩:=O7 rv
  cases e1
  cases e2
  obtain⟨us,r1,pl1,z1⟩:=I1.tuple hp
  obtain⟨ws,r2,pl2,z2⟩:=I1.tuple hq
  have lt1:@LT.lt Nat _ a s1.heap.objs.size:=by obtain⟨o,e,_⟩:=pl1;exact Al e
  have lt2:@LT.lt Nat _ b s1.heap.objs.size:=by obtain⟨o,e,_⟩:=pl2;exact Al e
  refine ZT.zt_call pl1 pl2 fun h' a1 a2 a3 a4 a5 kp=>wpAny_pyIter_zip a1 ?_
  have D:ZT.Ap (s1.heap.objs.size+4) (s1.heap.objs.size+2) (s1.heap.objs.size+3) s1.heap.objs.size (s1.heap.objs.size+1) a b:=by
   refine⟨⟨?_,?_,?_,?_,?_,?_⟩,⟨?_,?_,?_,?_,?_⟩,⟨?_,?_,?_,?_⟩,?_,?_,?_⟩<;>(show(_:Nat)≠_)<;>omega
  exact⟨s1.heap.objs.size+4,[s1.heap.objs.size+4,s1.heap.objs.size+2,s1.heap.objs.size+3,s1.heap.objs.size,s1.heap.objs.size+1],_,_,H1,rfl,I1.kept (t':=s1.toks) kp,Bc D,⟨a1,a2,⟨_,_,a3⟩,a4,a5⟩,fun c hc=>I1.fpOk (hb c hc) (I1.hok.fresh (hb c hc)),q⟩
end
end L3
namespace U
open PySem PySem.Spec PyProof.Rows L2 L3
inductive D where
 | non | bl (b:Bool) | int (i:Int) | str (x:Str) | tup (ds:List D) | ref (n:Nat) | ty (n:String) | gtup (ds:List D) | cls (a:Addr) | exn (e C dx:Addr) (row:D)
inductive Cell where
 | lst (ds:List D) | frz (ds:List D) | dct (kvs:List (Key×D)) | fdc (kvs:List (Key×D)) | dcp (kvs:List (List Key×D))
noncomputable abbrev Z2:=List Cell
noncomputable abbrev DEnv:=List (Option D)
abbrev DK:=D→Z2→Prop
abbrev DX:=Addr→D→Z2→Prop
abbrev DE:=DEnv→Z2→DK→Prop
abbrev DA:=DEnv→Z2→(List D→Z2→Prop)→Prop
abbrev DT:=DEnv→Z2→(Bool→Z2→Prop)→Prop
abbrev DSp:=List D→Z2→DK→DX→Prop
structure DEnds where
 nx:DEnv→Z2→Prop
 rt:DK
 bk:DEnv→Z2→Prop:=fun _ _=>False
 ct:DEnv→Z2→Prop:=fun _ _=>False
abbrev DS:=DEnds→DEnv→Z2→Prop
structure Vw where
 K:Af
 H:Hp
 μ:Nat→Addr
 n:Nat
mutual
def RD(w:Vw):D→V→Prop
 | .non,v=>v= .non
 | .bl b,v=>v= .bl b
 | .int i,v=>v= .int i
 | .str x,v=>v= .str x
 | .tup ds,v=>∃a vs,v= .ref a∧w.H a=some (.tup vs)∧RDs w ds vs
 | .ref i,v=>i<w.n∧v= .ref (w.μ i)
 | .ty n,v=>v= .ty n
 | .gtup ds,v=>∃a vs,v= .ref a∧SqT w.K w.H a vs∧RDs w ds vs
 | .cls a,v=>v= .ref a
 | .exn e C dx row,v=>v= .ref e∧w.H e=some (XO e (.ref C) (some dx))∧∃r,w.H dx=some (.xd [("row",r)])∧RD w row r
def RDs(w:Vw):List D→List V→Prop
 | [],vs=>vs=[]
 | d::ds,vs=>∃v r,vs=v::r∧RD w d v∧RDs w ds r
end
def RKV{κ:Type}(w:Vw):List (κ×D)→List (κ×V)→Prop
 | [],vs=>vs=[]
 |(k,d)::ds,vs=>∃v r,vs=(k,v)::r∧RD w d v∧RKV w ds r
def SqF(K:Af)(H:Hp)(a:Addr)(vs:List V):Prop:=(∃o,H a=some (.frz o (.lst vs)))∨SqL K (fun _=>none) a vs
noncomputable def Cell.mut:Cell→Bool
 | .frz _=>false
 | _=>true
def O4(w:Vw):Cell→Addr→Prop
 | .lst ds,a=>∃vs,w.H a=some (.lst vs)∧RDs w ds vs
 | .frz ds,a=>∃vs,SqF w.K w.H a vs∧RDs w ds vs
 | .dct kvs,a=>∃vs,w.H a=some (.dK vs)∧RKV w kvs vs
 | .fdc kvs,a=>∃o vs,w.H a=some (.frz o (.dK vs))∧RKV w kvs vs
 | .dcp kvs,a=>∃vs,w.H a=some (.dT vs)∧RKV w kvs vs
structure RS(w:Vw)(M:Z2):Prop where
 len:w.n=M.length
 inj:∀(i j:Nat) (ci cj:Cell),M[i]?=some ci→M[j]?=some cj→ci.mut=true→cj.mut=true→w.μ i=w.μ j→i=j
 cell:∀i c,M[i]?=some c→O4 w c (w.μ i)
noncomputable def Imm:HO→Bool
 | .tup _ | .xd _ | .ext _ | .frz _ _=>true
 | _=>false
structure Ext(w w':Vw):Prop where
 K:w'.K=w.K
 n:w.n≤w'.n
 μ:∀i,i<w.n→w'.μ i=w.μ i
 imm:∀a o,w.H a=some o→Imm o=true→w'.H a=some o
theorem Ext.refl(w:Vw):Ext w w:=⟨rfl,Nat.le_refl _,fun _ _=>rfl,fun _ _ h _=>h⟩
theorem Ext.trans{a b c:Vw}(x:Ext a b)(y:Ext b c):Ext a c:=
 ⟨y.K.trans x.K,Nat.le_trans x.n y.n,fun i h=>(y.μ i (Nat.lt_of_lt_of_le h x.n)).trans (x.μ i h),fun p o h q=>y.imm p o (x.imm p o h q) q⟩
theorem Ext.sqT(x:Ext w w'){a:Addr}(h:SqT w.K w.H a vs):SqT w'.K w'.H a vs:=by
 rw[x.K]
 rcases h with(h | ⟨o,h⟩) | h
 ·exact .inl (.inl (x.imm _ _ h rfl))
 ·exact .inl (.inr ⟨o,x.imm _ _ h rfl⟩)
 ·exact .inr h
mutual
theorem RD.ext(x:Ext w w'):∀{d:D} {v:V},RD w d v→RD w' d v
 | .non,v,h=>by unfold RD at *;exact h
 | .bl b,v,h=>by unfold RD at *;exact h
 | .int i,v,h=>by unfold RD at *;exact h
 | .str _,v,h=>by unfold RD at *;exact h
 | .tup ds,v,h=>by
  unfold RD at *
  obtain⟨a,vs,e,q,r⟩:=h
  exact⟨a,vs,e,x.imm _ _ q rfl,RDs.ext x r⟩
 | .ref i,v,h=>by
  unfold RD at *
  exact⟨Nat.lt_of_lt_of_le h.1 x.n,by rw[x.μ i h.1];exact h.2⟩
 | .ty n,v,h=>by unfold RD at *;exact h
 | .gtup ds,v,h=>by
  unfold RD at *
  obtain⟨a,vs,e,q,r⟩:=h
  exact⟨a,vs,e,x.sqT q,RDs.ext x r⟩
 | .cls a,v,h=>by unfold RD at *;exact h
 | .exn e C dx row,v,h=>by
  unfold RD at *
  obtain⟨e1,q,r,q2,q3⟩:=h
  exact⟨e1,x.imm _ _ q rfl,r,x.imm _ _ q2 rfl,RD.ext x q3⟩
theorem RDs.ext(x:Ext w w'):∀{ds:List D} {vs:List V},RDs w ds vs→RDs w' ds vs
 | [],vs,h=>by unfold RDs at *;exact h
 | d::ds,vs,h=>by
  unfold RDs at *
  obtain⟨v,r,e,h1,h2⟩:=h
  exact⟨v,r,e,RD.ext x h1,RDs.ext x h2⟩
end
theorem RKV.ext{κ:Type}{w w':Vw}(x:Ext w w'):∀{ds:List (κ×D)} {vs:List (κ×V)},RKV w ds vs→RKV w' ds vs
 | [],vs,h=>by unfold RKV at *;exact h
 |(k,d)::ds,vs,h=>by
  unfold RKV at *
  obtain⟨v,r,e,h1,h2⟩:=h
  exact⟨v,r,e,RD.ext x h1,RKV.ext x h2⟩
structure Ext0(w w':Vw):Prop where
 K:w'.K=w.K
 n:w.n≤w'.n
 μ:∀i,i<w.n→w'.μ i=w.μ i
 imm:∀a o,w.H a=some o→Imm o=true→(∀ob kvs,o≠ .frz ob (.dK kvs))→w'.H a=some o
mutual
theorem RD.ext0(x:Ext0 w w'):∀{d:D} {v:V},RD w d v→RD w' d v
 | .non,v,h=>by unfold RD at *;exact h
 | .bl b,v,h=>by unfold RD at *;exact h
 | .int i,v,h=>by unfold RD at *;exact h
 | .str _,v,h=>by unfold RD at *;exact h
 | .tup ds,v,h=>by
  unfold RD at *
  obtain⟨a,vs,e,q,r⟩:=h
  exact⟨a,vs,e,x.imm _ _ q rfl (fun _ _ z=>by cases z),RDs.ext0 x r⟩
 | .ref i,v,h=>by
  unfold RD at *
  exact⟨Nat.lt_of_lt_of_le h.1 x.n,by rw[x.μ i h.1];exact h.2⟩
 | .ty n,v,h=>by unfold RD at *;exact h
 | .gtup ds,v,h=>by
  unfold RD at *
  obtain⟨a,vs,e,q,r⟩:=h
  refine⟨a,vs,e,?_,RDs.ext0 x r⟩
  rw[x.K]
  rcases q with(h | ⟨o,h⟩) | h
  ·exact .inl (.inl (x.imm _ _ h rfl (fun _ _ z=>by cases z)))
  ·exact .inl (.inr ⟨o,x.imm _ _ h rfl (fun _ _ z=>by cases z)⟩)
  ·exact .inr h
 | .cls a,v,h=>by unfold RD at *;exact h
 | .exn e C dx row,v,h=>by
  unfold RD at *
  obtain⟨e1,q,r,q2,q3⟩:=h
  exact⟨e1,x.imm _ _ q rfl (fun _ _ z=>by cases z),r,x.imm _ _ q2 rfl (fun _ _ z=>by cases z),RD.ext0 x q3⟩
theorem RDs.ext0(x:Ext0 w w'):∀{ds:List D} {vs:List V},RDs w ds vs→RDs w' ds vs
 | [],vs,h=>by unfold RDs at *;exact h
 | d::ds,vs,h=>by
  unfold RDs at *
  obtain⟨v,r,e,h1,h2⟩:=h
  exact⟨v,r,e,RD.ext0 x h1,RDs.ext0 x h2⟩
end
theorem RDs.nil(w:Vw):RDs w [] []:=by unfold RDs;rfl
theorem RDs.cons{w:Vw}{d:D}{v:V}{ds:List D}{vs:List V}(h:RD w d v)(r:RDs w ds vs):RDs w (d::ds) (v::vs):=by unfold RDs;exact⟨v,vs,rfl,h,r⟩
theorem RDs.length:∀{ds:List D} {vs:List V},RDs w ds vs→vs.length=ds.length
 | [],vs,h=>by unfold RDs at h;subst h;rfl
 | d::ds,vs,h=>by
  unfold RDs at h
  obtain⟨v,r,rfl,_,h2⟩:=h
  simp[h2.length]
theorem RDs.get:∀{ds:List D} {vs:List V} {i:Nat} {d:D},RDs w ds vs→ds[i]?=some d→∃v,vs[i]?=some v∧RD w d v
 | [],vs,i,d,h,e=>by simp at e
 | d::ds,vs,i,d',h,e=>by
  unfold RDs at h
  obtain⟨v,r,rfl,h1,h2⟩:=h
  cases i with
  | zero=>simp at e;subst e;exact⟨v,rfl,h1⟩
  | succ i=>simpa using RDs.get h2 (by simpa using e)
theorem RDs.append:∀{ds es:List D} {vs us:List V},RDs w ds vs→RDs w es us→RDs w (ds++es) (vs++us)
 | [],es,vs,us,h,g=>by unfold RDs at h;subst h;exact g
 | d::ds,es,vs,us,h,g=>by
  unfold RDs at h
  obtain⟨v,r,rfl,h1,h2⟩:=h
  exact RDs.cons h1 (RDs.append h2 g)
theorem RDs.take:∀{ds:List D} {vs:List V} (n:Nat),RDs w ds vs→RDs w (ds.take n) (vs.take n)
 | _,_,0,_=>by simp[RDs.nil]
 | [],vs,n+1,h=>by unfold RDs at h;subst h;simp[RDs.nil]
 | d::ds,vs,n+1,h=>by
  unfold RDs at h
  obtain⟨v,r,rfl,h1,h2⟩:=h
  exact RDs.cons h1 (RDs.take n h2)
theorem RDs.drop:∀{ds:List D} {vs:List V} (n:Nat),RDs w ds vs→RDs w (ds.drop n) (vs.drop n)
 | _,_,0,h=>by simpa using h
 | [],vs,n+1,h=>by unfold RDs at h;subst h;simp[RDs.nil]
 | d::ds,vs,n+1,h=>by
  unfold RDs at h
  obtain⟨v,r,rfl,h1,h2⟩:=h
  simpa using RDs.drop n h2
theorem RDs.set{d:D}{v:V}(q:RD w d v):∀{ds:List D} {vs:List V} (n:Nat),RDs w ds vs→RDs w (ds.set n d) (vs.set n v)
 | [],vs,n,h=>by unfold RDs at h;subst h;simp[RDs.nil]
 | d::ds,vs,0,h=>by
  unfold RDs at h
  obtain⟨v,r,rfl,h1,h2⟩:=h
  exact RDs.cons q h2
 | d::ds,vs,n+1,h=>by
  unfold RDs at h
  obtain⟨v,r,rfl,h1,h2⟩:=h
  exact RDs.cons h1 (RDs.set q n h2)
theorem RDs.reverse:∀{ds:List D} {vs:List V},RDs w ds vs→RDs w ds.reverse vs.reverse
 | [],vs,h=>by unfold RDs at h;subst h;simp[RDs.nil]
 | d::ds,vs,h=>by
  unfold RDs at h
  obtain⟨v,r,rfl,h1,h2⟩:=h
  simp only[Kg]
  exact(RDs.reverse h2).append (RDs.cons h1 (RDs.nil w))
noncomputable def Vw.push(w:Vw)(a:Addr)(o:HO):Vw:=⟨w.K,upd w.H a o,fun i=>if i=w.n then a else w.μ i,w.n+1⟩
noncomputable def Vw.alloc(w:Vw)(a:Addr)(o:HO):Vw:={w with H:=upd w.H a o}
theorem R9{a:Addr}(h:w.H a=none):Ext w (w.alloc a o):=
 ⟨rfl,Nat.le_refl _,fun _ _=>rfl,fun b u q _=>by
  show upd w.H a o b=some u
  rw[Zi (by rintro rfl;rw[h] at q;cases q)];exact q⟩
theorem X8{a:Addr}(h:w.H a=none):Ext w (w.push a o):=
 ⟨rfl,Nat.le_succ _,fun i hi=>by show(if i=w.n then a else w.μ i)=_;rw[if_neg (by omega)],fun b u q _=>by
  show upd w.H a o b=some u
  rw[Zi (by rintro rfl;rw[h] at q;cases q)];exact q⟩
theorem SqF.stay{a:Addr}(x:Ext w w')(h:SqF w.K w.H a vs):SqF w'.K w'.H a vs:=by
 rcases h with⟨o,h⟩ | h
 ·exact .inl ⟨o,x.imm _ _ h rfl⟩
 ·rw[x.K];exact .inr h
theorem SqF.sq{K:Af}{H:Hp}{a:Addr}(h:SqF K H a vs):SqL K H a vs:=by
 rcases h with⟨o,h⟩ | (h | ⟨o,h⟩) | h
 ·exact .inl (.inr ⟨o,h⟩)
 ·cases h
 ·cases h
 ·exact .inr h
theorem O4.some{a:Addr}(hm:c.mut=true)(h:O4 w c a):∃o,w.H a=some o:=by
 cases c with
 | lst ds=>obtain⟨vs,q,_⟩:=h;exact⟨_,q⟩
 | frz ds=>cases hm
 | dct ds=>obtain⟨vs,q,_⟩:=h;exact⟨_,q⟩
 | fdc ds=>obtain⟨o,vs,q,_⟩:=h;exact⟨_,q⟩
 | dcp ds=>obtain⟨vs,q,_⟩:=h;exact⟨_,q⟩
theorem O4.stay{a:Addr}(x:Ext w w')(h:O4 w c a)(k:c.mut=true→w'.H a=w.H a):O4 w' c a:=by
 cases c with
 | lst ds=>obtain⟨vs,q,r⟩:=h;exact⟨vs,(k rfl).trans q,r.ext x⟩
 | frz ds=>obtain⟨vs,q,r⟩:=h;exact⟨vs,q.stay x,r.ext x⟩
 | dct ds=>obtain⟨vs,q,r⟩:=h;exact⟨vs,(k rfl).trans q,r.ext x⟩
 | fdc ds=>obtain⟨o,vs,q,r⟩:=h;exact⟨o,vs,(k rfl).trans q,r.ext x⟩
 | dcp ds=>obtain⟨vs,q,r⟩:=h;exact⟨vs,(k rfl).trans q,r.ext x⟩
theorem RS.alloc{a:Addr}(R:RS w M)(h:w.H a=none):RS (w.alloc a o) M:=
 ⟨R.len,R.inj,fun i c e=>by
  have q:=R.cell i c e
  refine q.stay (R9 h) fun hm=>?_
  obtain⟨u,hu⟩:=q.some hm
  exact Zi (fun z=>by have z:w.μ i=a:=z;rw[z,h] at hu;cases hu)⟩
theorem RS.push{a:Addr}(R:RS w M)(h:w.H a=none)(new:O4 (w.push a o) c a):RS (w.push a o) (M++[c]):=by
 have old:∀(i:Nat) (ci:Cell),(M++[c])[i]?=some ci→(i=w.n∧ci=c)∨(i<w.n∧M[i]?=some ci):=fun i ci e=>by
  by_cases hi:i<M.length
  ·rw[Dk hi] at e
   exact .inr ⟨by rw[R.len];exact hi,e⟩
  ·rw[Dc (by omega)] at e
   have hz:i - M.length=0:=by
    have:=(Ac.mp e).1
    simp at this
    omega
   rw[hz] at e
   simp at e
   exact .inl ⟨by rw[R.len];omega,e.symm⟩
 have no:∀(i:Nat) (ci:Cell),M[i]?=some ci→ci.mut=true→w.μ i≠a:=fun i ci e hm z=>by
  obtain⟨u,hu⟩:=(R.cell i ci e).some hm
  rw[z,h] at hu;cases hu
 refine⟨by show w.n+1=_;rw[R.len];simp,fun i j ci cj ei ej mi mj e=>?_,fun i c' e=>?_⟩
 ·change (if i=w.n then a else w.μ i)=(if j=w.n then a else w.μ j) at e
  rcases old i ci ei with⟨h1,_⟩ | ⟨h1,h1'⟩
  ·rcases old j cj ej with⟨h2,_⟩ | ⟨h2,h2'⟩
   ·omega
   ·rw[if_pos h1,if_neg (by omega)] at e
    exact absurd e.symm (no j cj h2' mj)
  ·rcases old j cj ej with⟨h2,_⟩ | ⟨h2,h2'⟩
   ·rw[if_neg (by omega),if_pos h2] at e
    exact absurd e (no i ci h1' mi)
   ·rw[if_neg (by omega),if_neg (by omega)] at e
    exact R.inj i j ci cj h1' h2' mi mj e
 ·show O4 _ c' (if i=w.n then a else w.μ i)
  rcases old i c' e with⟨h1,rfl⟩ | ⟨h1,h1'⟩
  ·rw[if_pos h1];exact new
  ·rw[if_neg (by omega)]
   have q:=R.cell i c' h1'
   exact q.stay (X8 h) fun hm=>Zi (no i c' h1' hm)
theorem Yq{a:Addr}(h:w.H a=some u)(hu:Imm u=false):Ext w (w.alloc a o):=
 ⟨rfl,Nat.le_refl _,fun _ _=>rfl,fun b v q z=>by
  show upd w.H a o b=some v
  rw[Zi (by rintro rfl;rw[h] at q;cases q;rw[hu] at z;cases z)];exact q⟩
theorem RS.write{i:Nat}(R:RS w M)(h0:M[i]?=some c0)(hm:c0.mut=true)(hc:c.mut=true)(h:w.H (w.μ i)=some u)(hu:Imm u=false)(new:O4 (w.alloc (w.μ i) o) c (w.μ i)):RS (w.alloc (w.μ i) o) (M.set i c):=by
 have hi:i<M.length:=(Ac.mp h0).1
 have old:∀(j:Nat) (cj:Cell),(M.set i c)[j]?=some cj→cj.mut=true→∃cj',M[j]?=some cj'∧cj'.mut=true:=fun j cj e mj=>by
  by_cases h1:j=i
  ·subst h1;exact⟨c0,h0,hm⟩
  ·rw[Ds (Df h1)] at e
   exact⟨cj,e,mj⟩
 refine⟨by show w.n=_;rw[R.len];simp,fun a b ca cb ea eb ma mb e=>?_,fun j c' e=>?_⟩
 ·obtain⟨ca',ea',ma'⟩:=old a ca ea ma
  obtain⟨cb',eb',mb'⟩:=old b cb eb mb
  exact R.inj a b ca' cb' ea' eb' ma' mb' e
 ·by_cases h1:j=i
  ·subst h1
   rw[Dw hi] at e
   cases e
   exact new
  ·rw[Ds (Df h1)] at e
   have q:=R.cell j c' e
   exact q.stay (Yq h hu) fun mj=>Zi (fun z=>h1 (R.inj j i c' c0 e h0 mj hm z))
inductive Op where
 | add | sub | mul | fdiv | mod | pow
 deriving DecidableEq
inductive Cm where
 | lt | le | gt | ge | eq | ne | is | isin | notin
 deriving DecidableEq
inductive Bf where
 | len | isinst | min2 | max2 | list1 | int1
 deriving DecidableEq
inductive Mt where
 | append | get2 | pop0 | clear | setd | extend
 deriving DecidableEq
inductive Ty where
 | int | str | bool | list | tuple | dict | valueError
 deriving DecidableEq
noncomputable def Yj:Ty→String
 | .int=>"int" | .str=>"str" | .bool=>"bool" | .list=>"list" | .tuple=>"tuple" | .dict=>"dict" | .valueError=>"ValueError"
set_option genInjectivity false in
mutual
inductive E where
 | var (i:Nat) | int (i:Int) | bl (b:Bool) | non | str (x:Str) | ty (x:Ty) | glb (k:Nat)
 | bin (op:Op) (a b:E) | neg (a:E) | not (a:E) | cmp (op:Cm) (a b:E) | bop (isAnd:Bool) (es:Es)
 | lst (es:Es) | tup (es:Es) | dict0 | dictT | ix (a b:E) | sl (a:E) (lo hi:Eo)
 | call (f:Nat) (es:Es) | bf (b:Bf) (es:Es) | mt (m:Mt) (o:E) (es:Es)
 | comp (N':List Str) (js:List (Option Nat)) (tg:List Nat) (it:It) (cd:Eo) (e:E)
 | lrev (a:E) | slW (a:E) (lo hi:Eo)
inductive Es where
 | nil | cons (e:E) (r:Es)
inductive Eo where
 | no | yes (e:E)
inductive It where
 | seq (e:E) | rng1 (a:E) | enm (e:E) | zip (es:Es)
end
set_option genInjectivity false in
mutual
inductive S where
 | never | ret (e:E) | expr (e:E)
 | set (tg:List Nat) (e:E) | setL (tg:List Nat) (e:E)
 | put (o i v:E)
 | ite (c:E) (a b:Ss) | for_ (tg:List Nat) (it:It) (b:Ss) | while_ (c:E) (b:Ss)
inductive Ss where
 | nil | cons (s:S) (r:Ss)
end
noncomputable def Zc(M:Z2)(n:Nat):Option (List D):=match M[n]? with
 | some (.lst xs)=>some xs
 | some (.frz xs)=>some xs
 | _=>none
noncomputable def Z4(M:Z2)(n:Nat):Option (List D):=match M[n]? with
 | some (.lst xs)=>some xs
 | _=>none
noncomputable def Zs(M:Z2)(n:Nat):Option (List (Key×D)):=match M[n]? with
 | some (.dct xs)=>some xs
 | _=>none
noncomputable def Z95(M:Z2)(n:Nat):Option (List (Key×D)):=match M[n]? with
 | some (.dct xs)=>some xs
 | some (.fdc xs)=>some xs
 | _=>none
noncomputable def Zq(M:Z2)(n:Nat):Option (List (List Key×D)):=match M[n]? with
 | some (.dcp xs)=>some xs
 | _=>none
noncomputable def valD{κ:Type}[DecidableEq κ](kvs:List (κ×D))(k:κ):Option D:=(kvs.find? fun kv=>decide (kv.1=k)).map (·.2)
noncomputable def putD{κ:Type}[DecidableEq κ](kvs:List (κ×D))(k:κ)(v:D):List (κ×D):=
 if (kvs.any fun kv=>decide (kv.1=k))=true then kvs.map (fun kv=>if kv.1=k then(kv.1,v) else kv) else kvs++[(k,v)]
noncomputable def keyD:D→Option Key
 | .int i=>some (.inl i)
 | .str x=>some (.inr x)
 | _=>none
noncomputable def kD:Key→D
 | .inl i=> .int i
 | .inr x=> .str x
noncomputable def qdiv(i j:Int):Int:=if 0<j then i / j else i.fdiv j
noncomputable def qmod(i j:Int):Int:=if 0<j then i % j else i.fmod j
theorem Zv1(i j:Int):i.fdiv j=qdiv i j:=by
 unfold qdiv
 split
 ·exact Int.fdiv_eq_ediv_of_nonneg _ (by omega)
 ·rfl
theorem Zx7(i j:Int):i.fmod j=qmod i j:=by
 unfold qmod
 split
 ·exact Int.fmod_eq_emod_of_nonneg _ (by omega)
 ·rfl
theorem Zg5{i j:Int}(h:0<j):qdiv i j=i / j:=if_pos h
theorem Zc4{i j:Int}(h:0<j):qmod i j=i % j:=if_pos h
def Ci(x:D)(F:Int→Prop):Prop:=match x with
 | .int i=>F i
 | _=>False
def onBl(x:D)(F:Bool→Prop):Prop:=match x with
 | .bl b=>F b
 | _=>False
def Q6(x:D)(F:Nat→Prop):Prop:=match x with
 | .ref n=>F n
 | _=>False
def Zi0(x:D)(F:List D→Prop):Prop:=match x with
 | .tup l=>F l
 | _=>False
def Q1(x y:D)(F:Int→Int→Prop):Prop:=Ci x fun i=>Ci y fun j=>F i j
def at0(l:List D)(P:Prop):Prop:=match l with
 | []=>P
 | _::_=>False
def at1(l:List D)(F:D→Prop):Prop:=match l with
 | []=>False
 | a::r=>at0 r (F a)
def at2(l:List D)(F:D→D→Prop):Prop:=match l with
 | []=>False
 | a::r=>at1 r (F a)
theorem Xq{x:D}(h:Ci x F):∃i,x= .int i∧F i:=by
 cases x with
 | int i=>exact⟨i,rfl,h⟩
 | _=>exact Dq h
theorem Zh6{x:D}(h:onBl x F):∃b,x= .bl b∧F b:=by
 cases x with
 | bl b=>exact⟨b,rfl,h⟩
 | _=>exact Dq h
theorem Yr{x:D}(h:Q6 x F):∃n,x= .ref n∧F n:=by
 cases x with
 | ref n=>exact⟨n,rfl,h⟩
 | _=>exact Dq h
theorem Sc{x:D}(h:Zi0 x F):∃l,x= .tup l∧F l:=by
 cases x with
 | tup l=>exact⟨l,rfl,h⟩
 | _=>exact Dq h
theorem Y6{x y:D}(h:Q1 x y F):∃i j,x= .int i∧y= .int j∧F i j:=by
 obtain⟨i,rfl,h1⟩:=Xq h
 obtain⟨j,rfl,h2⟩:=Xq h1
 exact⟨i,j,rfl,rfl,h2⟩
theorem Jy(h:at0 l P):l=[]∧P:=by
 cases l with
 | nil=>exact⟨rfl,h⟩
 | cons _ _=>exact Dq h
theorem Ti(h:at1 l F):∃a,l=[a]∧F a:=by
 cases l with
 | nil=>exact Dq h
 | cons a r=>obtain⟨rfl,h1⟩:=Jy h;exact⟨a,rfl,h1⟩
theorem Vn(h:at2 l F):∃a b,l=[a,b]∧F a b:=by
 cases l with
 | nil=>exact Dq h
 | cons a r=>obtain⟨b,rfl,h1⟩:=Ti h;exact⟨a,b,rfl,h1⟩
def addD(x y:D)(M:Z2)(Q:DK):Prop:=match x with
 | .int i=>Ci y fun j=>Q (.int (i+j)) M
 | .str a=>match y with
  | .str b=>a.length+b.length≤sizeLine∧Q (.str (a++b)) M
  | _=>False
 | .tup a=>Zi0 y fun b=>a≠[]∧a.length+b.length≤sizeLine∧Q (.tup (a++b)) M
 | .ref a=>Q6 y fun b=>∃xs ys,Z4 M a=some xs∧Z4 M b=some ys∧xs.length+ys.length≤sizeLine∧Q (.ref M.length) (M++[.lst (xs++ys)])
 | _=>False
def mulD(x y:D)(M:Z2)(Q:DK):Prop:=match x with
 | .int i=>Ci y fun j=>IntMulOk i j∧Q (.int (i * j)) M
 | .ref a=>Ci y fun k=>∃xs,Z4 M a=some xs∧0≤k∧k<2 ^ 62∧xs.length * k.toNat≤sizeLine∧Q (.ref M.length) (M++[.lst (Dn k.toNat xs).flatten])
 | _=>False
def opD(op:Op)(x y:D)(M:Z2)(Q:DK):Prop:=match op with
 | .add=>addD x y M Q
 | .mul=>mulD x y M Q
 | .sub=>Q1 x y fun i j=>Q (.int (i - j)) M
 | .fdiv=>Q1 x y fun i j=>Z24 i j∧Q (.int (qdiv i j)) M
 | .mod=>Q1 x y fun i j=>j≠0∧Q (.int (qmod i j)) M
 | .pow=>Q1 x y fun i j=>CPow i j∧Q (.int (i ^ j.toNat)) M
mutual
def PD(M:Z2):PyData→D→Prop
 | .none,d=>d= .non
 | .bool b,d=>d= .bl b
 | .int i,d=>d= .int i
 | .str x,d=>d= .str x
 | .list xs,d=>∃n ds,d= .ref n∧Zc M n=some ds∧PDs M xs ds
 | .tuple xs,d=>∃ds,d= .tup ds∧PDs M xs ds
 | .dict _,_=>False
def PDs(M:Z2):List PyData→List D→Prop
 | [],ds=>ds=[]
 | x::xs,ds=>∃d r,ds=d::r∧PD M x d∧PDs M xs r
end
noncomputable def Zu:D→Bool
 | .non | .bl _ | .int _ | .str _=>true
 | _=>false
noncomputable def eqF:D→D→Bool
 | .non,.non=>true
 | .bl a,.bl b=>a==b
 | .bl a,.int b=>(if a then 1 else 0)==b
 | .int a,.bl b=>a==(if b then 1 else 0)
 | .int a,.int b=>a==b
 | .str a,.str b=>a==b
 | _,_=>false
noncomputable def eqFs(xs ys:List D):Bool:=(Ay (min xs.length ys.length)).all (fun j=>eqF (xs.getD j .non) (ys.getD j .non))&&xs.length==ys.length
noncomputable def inD(x:D)(xs:List D):Bool:=xs.any fun y=>eqF y x
noncomputable def eqKV(a b:List (Key×D)):Bool:=a.length==b.length&&a.all fun kv=>match valD b kv.1 with
 | some y=>eqF kv.2 y
 | none=>false
noncomputable def eqS(x y:D):Option Bool:=match x with
 | .int i=>match y with
  | .int j=>some (decide (i=j))
  | .str _=>some false
  | .non=>some false
  | _=>none
 | .str i=>match y with
  | .str j=>some (decide (i=j))
  | .int _=>some false
  | .non=>some false
  | .bl _=>some false
  | _=>none
 | .bl i=>match y with
  | .bl j=>some (decide (i=j))
  | .non=>some false
  | .str _=>some false
  | _=>none
 | .non=>match y with
  | .non=>some true
  | .int _=>some false
  | .bl _=>some false
  | .str _=>some false
  | _=>none
 | _=>none
def eqD(M:Z2)(x y:D)(Q:Bool→Prop):Prop:=match eqS x y with
 | some b=>Q b
 | none=>(∃da db,PD M da x∧PD M db y∧da.canLay0=true∧db.canLay0=true∧min da.depth db.depth≤60∧Q (PyData.eqv da db))∨
   (∃m n a b,x= .ref m∧y= .ref n∧Zs M m=some a∧Zs M n=some b∧(a.all fun kv=>Zu kv.2)=true∧(b.all fun kv=>Zu kv.2)=true∧Q (eqKV a b))∨(∃m n xs,x= .ref m∧y= .ref n∧Zc M m=some xs∧Zc M n=some []∧Q xs.isEmpty)∨(∃xs ys,(x= .tup xs∨x= .gtup xs)∧(y= .tup ys∨y= .gtup ys)∧xs.all Zu=true∧ys.all Zu=true∧Q (eqFs xs ys))
noncomputable def N9(M:Z2):D→Option (List D)
 | .ref n=>Zc M n
 | .tup xs=>some xs
 | .gtup xs=>some xs
 | _=>none
def inQ(M:Z2):D→D→(Bool→Prop)→Prop
 | .str a,.str b,Q=>Q (!(Lj b a 0 b.length 1).isEmpty)
 | x,.ref n,Q=>(∃xs,Zc M n=some xs∧Zu x=true∧xs.all Zu=true∧Q (inD x xs))∨(∃kvs k,Zs M n=some kvs∧keyD x=some k∧Q (valD kvs k).isSome)∨(∃(ys:List D) (xs:List (List D)),x= .tup ys∧Zc M n=some (xs.map .tup)∧ys.all Zu=true∧(xs.all fun zs=>zs.all Zu)=true∧Q (xs.any fun zs=>eqFs zs ys))∨∃(kvs:List (List Key×D)) (ks:List Key),x= .tup (ks.map kD)∧Zq M n=some kvs∧Q (valD kvs ks).isSome
 | x,.tup xs,Q=>Zu x=true∧xs.all Zu=true∧Q (inD x xs)
 | x,.gtup xs,Q=>Zu x=true∧xs.all Zu=true∧Q (inD x xs)
 | _,_,_=>False
def nonD(x y:D)(Q:Bool→Prop):Prop:=match y with
 | .non=>match x with
  | .non=>Q true
  | .bl _=>Q false
  | .int _=>Q false
  | .str _=>Q false
  | .tup _=>Q false
  | .ref _=>Q false
  | .exn _ _ _ _=>Q false
  | _=>False
 | _=>False
def cmD(M:Z2)(op:Cm)(x y:D)(Q:Bool→Prop):Prop:=match op with
 | .lt=>Q1 x y fun i j=>Q (decide (i<j))
 | .le=>Q1 x y fun i j=>Q (decide (i≤j))
 | .gt=>Q1 x y fun i j=>Q (decide (j<i))
 | .ge=>Q1 x y fun i j=>Q (decide (j≤i))
 | .eq=>eqD M x y Q
 | .ne=>eqD M x y fun b=>Q (!b)
 | .is=>nonD x y Q
 | .isin=>inQ M x y Q
 | .notin=>inQ M x y fun b=>Q (!b)
def truD(M:Z2):D→(Bool→Prop)→Prop
 | .non,Q=>Q false
 | .bl b,Q=>Q b
 | .int i,Q=>Q (i !=0)
 | .str x,Q=>x.length≤sizeLine∧Q ((x.length:Int) !=0)
 | .tup xs,Q=>Q (!xs.isEmpty)
 | .ref n,Q=>(∃xs,Zc M n=some xs∧Q (!xs.isEmpty))∨(∃xs,Zs M n=some xs∧Q (!xs.isEmpty))
 | _,_=>False
def ixD(M:Z2):D→D→(D→Prop)→Prop
 | .ref n,k,Q=>(∃xs i d,k= .int i∧Zc M n=some xs∧atI xs i=some d∧Q d)∨(∃kvs y d,Z95 M n=some kvs∧keyD k=some y∧valD kvs y=some d∧Q d)∨(∃kvs ks d,Zq M n=some kvs∧k= .tup (ks.map kD)∧valD kvs ks=some d∧Q d)
 | .tup xs,.int i,Q=>∃d,atI xs i=some d∧Q d
 | .gtup xs,.int i,Q=>∃d,atI xs i=some d∧Q d
 | .str z,.int i,Q=>z.length≤sizeLine∧∃c,atI z.cps.toList i=some c∧Q (.str ⟨#[c]⟩)
 | _,_,_=>False
noncomputable def cutD{α:Type}(xs:List α)(lo hi:Option Int):List α:=(xs.drop (HT.sIx xs.length 0 lo)).take (HT.sIx xs.length xs.length hi - HT.sIx xs.length 0 lo)
def slD:D→Option Int→Option Int→Z2→DK→Prop
 | .str z,lo,hi,M,Q=>z.length≤sizeLine∧Q (.str (Ig z lo hi)) M
 | .ref n,lo,hi,M,Q=>∃xs,Zc M n=some xs∧Q (.ref M.length) (M++[.lst (cutD xs lo hi)])
 | .tup xs,lo,hi,M,Q=>¬(HT.sIx xs.length 0 lo=0∧HT.sIx xs.length xs.length hi=xs.length)∧Q (.tup (cutD xs lo hi)) M
 | _,_,_,_,_=>False
noncomputable def tyD(M:Z2):D→Option String
 | .non=>some "NoneType"
 | .bl _=>some "bool"
 | .int _=>some "int"
 | .str _=>some "str"
 | .tup _=>some "tuple"
 | .ref n=>match M[n]? with
  | some (.lst _)=>some "list"
  | some (.frz _)=>none
  | some (.dct _)=>some "dict"
  | some (.fdc _)=>none
  | some (.dcp _)=>none
  | none=>none
 | _=>none
def isD(K:Af)(M:Z2):D→D→(Bool→Prop)→Prop
 | .exn _ C _ _,.cls c,Q=>∃b,ExcIs K C∧Kh K (.ref C) (.ref c)=some b∧Q b
 | .exn _ C _ _,.ty c,Q=>∃b,ExcIs K C∧Kh K (.ref C) (.type c)=some b∧Q b
 | .exn _ C _ _,.tup cs,Q=>∃(as:List Addr) (b:Bool),cs=as.map D.cls∧ExcIs K C∧PySem.W.kitAny K (.ref C) (as.map Au)=some b∧Q b
 | d,.ty c,Q=>∃t b,tyD M d=some t∧Kh K (.type t) (.type c)=some b∧Q b
 | _,_,_=>False
def lenD(x:D)(M:Z2)(Q:DK):Prop:=match x with
 | .ref n=>(∃xs,Zc M n=some xs∧Q (.int xs.length) M)∨(∃xs,Zs M n=some xs∧Q (.int xs.length) M)
 | .tup xs=>Q (.int xs.length) M
 | .str x=>x.length≤sizeLine∧Q (.int x.length) M
 | _=>False
def bfD(K:Af)(b:Bf)(l:List D)(M:Z2)(Q:DK):Prop:=match b with
 | .len=>at1 l fun x=>lenD x M Q
 | .isinst=>at2 l fun d c=>isD K M d c fun b=>Q (.bl b) M
 | .min2=>at2 l fun x y=>Q1 x y fun i j=>Q (.int (if j<i then j else i)) M
 | .max2=>at2 l fun x y=>Q1 x y fun i j=>Q (.int (if j >i then j else i)) M
 | .list1=>at1 l fun d=>∃xs,N9 M d=some xs∧Q (.ref M.length) (M++[.lst xs])
 | .int1=>at1 l fun x=>onBl x fun b=>Q (.int (if b then 1 else 0)) M
def setD(b:Bool)(n:Nat)(M:Z2)(Q:DK):Prop:=match b with
 | true=>∃ns:List Int,Zc M n=some (ns.map .int)∧ns.length<64∧∀ms:List Int,ms.Pairwise (· < ·)→(∀i,i∈ms↔i∈ns)→Q (.ref M.length) (M++[.lst (ms.map .int)])
 | false=>∃ks:List Key,Zc M n=some (ks.map kD)∧ks.length+1<scanBound∧∀ks':List Key,ks'.Nodup→(∀k,k∈ks'↔k∈ks)→Q (.int ks'.length) M
def mtD(m:Mt)(o:D)(l:List D)(M:Z2)(Q:DK):Prop:=Q6 o fun n=>match m with
 | .append=>at1 l fun d=>∃xs,Z4 M n=some xs∧xs.length<sizeLine∧Q .non (M.set n (.lst (xs++[d])))
 | .setd=>at2 l fun t z=>∃(kvs:List (List Key×D)) (ks:List Key),Zq M n=some kvs∧t= .tup (ks.map kD)∧kvs.length<sizeLine∧(∀d,valD kvs ks=some d→Q d M)∧(valD kvs ks=none→Q z (M.set n (.dcp (putD kvs ks z))))
 | .get2=>at2 l fun k z=>∃kvs y,Zs M n=some kvs∧keyD k=some y∧Q ((valD kvs y).getD z) M
 | .pop0=>at0 l (∃xs d,Z4 M n=some xs∧xs[xs.length - 1]?=some d∧Q d (M.set n (.lst xs.dropLast)))
 | .clear=>at0 l (∃xs,Z4 M n=some xs∧Q .non (M.set n (.lst [])))
 | .extend=>at1 l fun t=>Q6 t fun m=>∃xs ys,Z4 M n=some xs∧Z4 M m=some ys∧xs.length+ys.length≤sizeLine∧Q .non (M.set n (.lst (xs++ys)))
def mtK(m:Mt)(o:D)(M:Z2):Prop:=Q6 o fun n=>match m with
 | .get2=>(Zs M n).isSome=true
 | .setd=>(Zq M n).isSome=true
 | _=>(Zc M n).isSome=true
def tgD:List Nat→D→DEnv→(DEnv→Prop)→Prop
 | [i],d,σ,Q=>Q (σ.set i (some d))
 | is,.tup ds,σ,Q=>ds.length=is.length∧Q ((is.zip ds).foldl (fun σ p=>σ.set p.1 (some p.2)) σ)
 | _,_,_,_=>False
inductive Own where
 | no | lst (n:Nat) | enm (n:Nat) | dct (n:Nat) | two (n m:Nat)
noncomputable def Yc8(kvs:List (Key×D)):List D:=kvs.map fun p=>kD p.1
noncomputable def Jt(xs:List D):List D:=xs.mapIdx fun i d=> .tup [.int i,d]
noncomputable def zipT(ys zs:List D):List D:=(ys.zip zs).map fun p=>D.tup [p.1,p.2]
def zip2(M:Z2)(a b:D)(Q:Own→List D→Prop):Prop:=match a with
 | .ref n=>Q6 b fun m=>∃ys zs,Zc M n=some ys∧Zc M m=some zs∧Q (.two n m) (zipT ys zs)
 | .tup ys=>Zi0 b fun zs=>Q .no (zipT ys zs)
 | _=>False
def itD(M:Z2):D→(Own→List D→Prop)→Prop
 | .ref n,R=>∃xs,Zc M n=some xs∧R (.lst n) xs
 | .tup xs,R=>R .no xs
 | .gtup xs,R=>R .no xs
 | _,_=>False
noncomputable def Pw(lo:Int)(n:Nat):List D:=(Ay n).map fun(k:Nat)=>D.int (lo+(k:Int))
def Q5(own:Own)(xs:List D)(M:Z2):Prop:=match own with
 | .lst n=>Zc M n=some xs
 | .enm n=>∃ys,Zc M n=some ys∧xs=Jt ys
 | .dct n=>∃kvs,M[n]?=some (.fdc kvs)∧xs=Yc8 kvs
 | .two n m=>∃ys zs,Zc M n=some ys∧Zc M m=some zs∧xs=zipT ys zs
 | .no=>True
def forD(own:Own)(xs:List D)(tg:List Nat)(body:DS):List D→DEnds→DEnv→Z2→Prop
 | [],R,σ,M=>Q5 own xs M∧R.nx σ M
 | d::r,R,σ,M=>Q5 own xs M∧tgD tg d σ fun σ'=>body {nx:=fun σ2 M2=>forD own xs tg body r R σ2 M2,rt:=R.rt,bk:=R.nx,ct:=fun σ2 M2=>forD own xs tg body r R σ2 M2} σ' M
def O0(own:Own)(xs:List D)(tg:List Nat)(cd:DT)(el:DE)(z:Nat):List D→DEnv→Z2→(Z2→Prop)→Prop
 | [],_,M,Q=>Q5 own xs M∧Q M
 | d::r,σ,M,Q=>Q5 own xs M∧tgD tg d σ fun σ'=>cd σ' M fun b M1=>if b=true then
   el σ' M1 fun y M2=>∃acc,Z4 M2 z=some acc∧acc.length<sizeLine∧O0 own xs tg cd el z r σ' (M2.set z (.lst (acc++[y]))) Q
   else O0 own xs tg cd el z r σ' M1 Q
noncomputable def capD(js:List (Option Nat))(σ:DEnv):DEnv:=js.map fun o=>o.bind fun j=>(σ[j]?).join
abbrev noX:DX:=fun _ _ _=>False
structure Cfg where
 K:Af
 Γ:List DSp
 G:List D
mutual
def te(c:Cfg)(X:DX):E→DE
 | .var i,σ,M,Q=>match σ[i]? with
  | some (some d)=>Q d M
  | _=>False
 | .int i,_,M,Q=>Q (.int i) M
 | .bl b,_,M,Q=>Q (.bl b) M
 | .non,_,M,Q=>Q .non M
 | .str x,_,M,Q=>Q (.str x) M
 | .ty n,_,M,Q=>Q (.ty (Yj n)) M
 | .glb k,_,M,Q=>match c.G[k]? with
  | some d=>Q d M
  | none=>False
 | .bin op a b,σ,M,Q=>te c X a σ M fun x M1=>te c X b σ M1 fun y M2=>opD op x y M2 Q
 | .neg a,σ,M,Q=>te c X a σ M fun x M1=>match x with
  | .int i=>Q (.int (-i)) M1
  | _=>False
 | .not a,σ,M,Q=>te c X a σ M fun x M1=>truD M1 x fun b=>Q (.bl (!b)) M1
 | .cmp op a b,σ,M,Q=>te c X a σ M fun x M1=>te c X b σ M1 fun y M2=>cmD M2 op x y fun r=>Q (.bl r) M2
 | .bop k es,σ,M,Q=>tbop c X k es σ M Q
 | .lst es,σ,M,Q=>tes c X es σ M fun ds M1=>ds.length≤sizeLine∧Q (.ref M1.length) (M1++[.lst ds])
 | .tup es,σ,M,Q=>tes c X es σ M fun ds M1=>ds.length≤sizeLine∧Q (.tup ds) M1
 | .dict0,_,M,Q=>Q (.ref M.length) (M++[.dct []])
 | .dictT,_,M,Q=>Q (.ref M.length) (M++[.dcp []])
 | .ix a b,σ,M,Q=>te c X a σ M fun x M1=>te c X b σ M1 fun y M2=>ixD M2 x y fun d=>Q d M2
 | .sl a lo hi,σ,M,Q=>te c X a σ M fun x M1=>teo c X lo σ M1 fun l M2=>teo c X hi σ M2 fun h M3=>slD x l h M3 Q
 | .call f es,σ,M,Q=>tes c X es σ M fun ds M1=>match c.Γ[f]? with
  | some sp=>sp ds M1 Q X
  | none=>False
 | .bf b es,σ,M,Q=>tes c X es σ M fun ds M1=>bfD c.K b ds M1 Q
 | .slW a lo hi,σ,M,Q=>te c X a σ M fun x M1=>teo c X lo σ M1 fun l M2=>teo c X hi σ M2 fun h M3=>Zi0 x fun xs=>Q (.tup (cutD xs l h)) M3
 | .lrev a,σ,M,Q=>te c X a σ M fun x M1=>Q6 x fun n=>∃xs,Zc M1 n=some xs∧Q (.ref M1.length) (M1++[.lst xs.reverse])
 | .mt m o es,σ,M,Q=>te c X o σ M fun x M1=>mtK m x M1∧tes c X es σ M1 fun ds M2=>mtD m x ds M2 Q
 | .comp _ js tg it cd e,σ,M,Q=>tit c X it σ M fun own xs M1=>O0 own xs tg (tcd c noX cd) (te c noX e) M1.length xs (capD js σ) (M1++[.lst []]) fun M2=>Q (.ref M1.length) M2
def tbop(c:Cfg)(X:DX)(k:Bool):Es→DE
 | .nil,_,_,_=>False
 | .cons e .nil,σ,M,Q=>te c X e σ M Q
 | .cons e (.cons e2 r),σ,M,Q=>te c X e σ M fun x M1=>truD M1 x fun b=>if b=k then tbop c X k (.cons e2 r) σ M1 Q else Q x M1
def tes(c:Cfg)(X:DX):Es→DA
 | .nil,_,M,Q=>Q [] M
 | .cons e r,σ,M,Q=>te c X e σ M fun d M1=>tes c X r σ M1 fun ds M2=>Q (d::ds) M2
def teo(c:Cfg)(X:DX):Eo→DEnv→Z2→(Option Int→Z2→Prop)→Prop
 | .no,_,M,Q=>Q none M
 | .yes e,σ,M,Q=>te c X e σ M fun d M1=>match d with
  | .int i=>Q (some i) M1
  | _=>False
def tcd(c:Cfg)(X:DX):Eo→DT
 | .no,_,M,Q=>Q true M
 | .yes e,σ,M,Q=>te c X e σ M fun x M1=>truD M1 x fun b=>Q b M1
def tit(c:Cfg)(X:DX):It→DEnv→Z2→(Own→List D→Z2→Prop)→Prop
 | .seq e,σ,M,Q=>te c X e σ M fun d M1=>itD M1 d fun own xs=>Q own xs M1
 | .rng1 a,σ,M,Q=>te c X a σ M fun d M1=>match d with
  | .int j=> -(2 ^ 62)≤j∧j<2 ^ 62∧Q .no (Pw 0 j.toNat) M1
  | _=>False
 | .enm e,σ,M,Q=>te c X e σ M fun d M1=>match d with
  | .ref n=>∃xs,Zc M1 n=some xs∧Q (.enm n) (Jt xs) M1
  | _=>False
 | .zip es,σ,M,Q=>tes c X es σ M fun ds M1=>at2 ds fun a b=>zip2 M1 a b fun o xs=>Q o xs M1
end
theorem evar9{c X i σ M Q}:te c X (.var i) σ M Q=(match σ[i]? with|some (some d)=>Q d M|_=>False):=rfl
theorem eint9{c X i u1 M Q}:te c X (.int i) u1 M Q=(Q (.int i) M):=rfl
theorem ebl9{c X b u1 M Q}:te c X (.bl b) u1 M Q=(Q (.bl b) M):=rfl
theorem enon9{c X u1 M Q}:te c X .non u1 M Q=(Q .non M):=rfl
theorem estr9{c X x u1 M Q}:te c X (.str x) u1 M Q=(Q (.str x) M):=rfl
theorem ety9{c X n u1 M Q}:te c X (.ty n) u1 M Q=(Q (.ty (Yj n)) M):=rfl
theorem eglb9{c X k u1 M Q}:te c X (.glb k) u1 M Q=(match c.G[k]? with|some d=>Q d M|none=>False):=rfl
theorem ebin9{c X op a b σ M Q}:te c X (.bin op a b) σ M Q=(te c X a σ M fun x M1=>te c X b σ M1 fun y M2=>opD op x y M2 Q):=rfl
theorem eneg9{c X a σ M Q}:te c X (.neg a) σ M Q=(te c X a σ M fun x M1=>match x with|.int i=>Q (.int (-i)) M1|_=>False):=rfl
theorem enot9{c X a σ M Q}:te c X (.not a) σ M Q=(te c X a σ M fun x M1=>truD M1 x fun b=>Q (.bl (!b)) M1):=rfl
theorem ecmp9{c X op a b σ M Q}:te c X (.cmp op a b) σ M Q=(te c X a σ M fun x M1=>te c X b σ M1 fun y M2=>cmD M2 op x y fun r=>Q (.bl r) M2):=rfl
theorem ebop9{c X k es σ M Q}:te c X (.bop k es) σ M Q=(tbop c X k es σ M Q):=rfl
theorem elst9{c X es σ M Q}:te c X (.lst es) σ M Q=(tes c X es σ M fun ds M1=>ds.length≤sizeLine∧Q (.ref M1.length) (M1++[.lst ds])):=rfl
theorem etup9{c X es σ M Q}:te c X (.tup es) σ M Q=(tes c X es σ M fun ds M1=>ds.length≤sizeLine∧Q (.tup ds) M1):=rfl
theorem edict09{c X u1 M Q}:te c X .dict0 u1 M Q=(Q (.ref M.length) (M++[.dct []])):=rfl
theorem edictT9{c X u1 M Q}:te c X .dictT u1 M Q=(Q (.ref M.length) (M++[.dcp []])):=rfl
theorem eix9{c X a b σ M Q}:te c X (.ix a b) σ M Q=(te c X a σ M fun x M1=>te c X b σ M1 fun y M2=>ixD M2 x y fun d=>Q d M2):=rfl
theorem esl9{c X a lo hi σ M Q}:te c X (.sl a lo hi) σ M Q=(te c X a σ M fun x M1=>teo c X lo σ M1 fun l M2=>teo c X hi σ M2 fun h M3=>slD x l h M3 Q):=rfl
theorem ecall9{c X f es σ M Q}:te c X (.call f es) σ M Q=(tes c X es σ M fun ds M1=>match c.Γ[f]? with|some sp=>sp ds M1 Q X|none=>False):=rfl
theorem ebf9{c X b es σ M Q}:te c X (.bf b es) σ M Q=(tes c X es σ M fun ds M1=>bfD c.K b ds M1 Q):=rfl
theorem eslW9{c X a lo hi σ M Q}:te c X (.slW a lo hi) σ M Q=(te c X a σ M fun x M1=>teo c X lo σ M1 fun l M2=>teo c X hi σ M2 fun h M3=>Zi0 x fun xs=>Q (.tup (cutD xs l h)) M3):=rfl
theorem elrev9{c X a σ M Q}:te c X (.lrev a) σ M Q=(te c X a σ M fun x M1=>Q6 x fun n=>∃xs,Zc M1 n=some xs∧Q (.ref M1.length) (M1++[.lst xs.reverse])):=rfl
theorem emt9{c X m o es σ M Q}:te c X (.mt m o es) σ M Q=(te c X o σ M fun x M1=>mtK m x M1∧tes c X es σ M1 fun ds M2=>mtD m x ds M2 Q):=rfl
theorem ecomp9{c X u1 js tg it cd e σ M Q}:te c X (.comp u1 js tg it cd e) σ M Q=(tit c X it σ M fun own xs M1=>O0 own xs tg (tcd c noX cd) (te c noX e) M1.length xs (capD js σ) (M1++[.lst []]) fun M2=>Q (.ref M1.length) M2):=rfl
def tt(c:Cfg)(X:DX)(e:E):DT:=fun σ M Q=>te c X e σ M fun x M1=>truD M1 x fun b=>Q b M1
mutual
def ts(c:Cfg)(X:DX):S→DS
 | .never,_,_,_=>False
 | .ret e,R,σ,M=>te c X e σ M R.rt
 | .expr e,R,σ,M=>te c X e σ M fun _ M1=>R.nx σ M1
 | .setL tg e,R,σ,M=>te c X e σ M fun d M1=>Q6 d fun n=>∃ds,Zc M1 n=some ds∧ds.length=tg.length∧R.nx ((tg.zip ds).foldl (fun σ p=>σ.set p.1 (some p.2)) σ) M1
 | .set tg e,R,σ,M=>te c X e σ M fun d M1=>tgD tg d σ fun σ'=>R.nx σ' M1
 | .put o i v,R,σ,M=>te c X v σ M fun d M1=>te c X o σ M1 fun x M2=>te c X i σ M2 fun y M3=>match x with
  | .ref n=>(∃xs k j,y= .int k∧Z4 M3 n=some xs∧ixN xs.length k=some j∧R.nx σ (M3.set n (.lst (xs.set j d))))∨
    (∃kvs k,Zs M3 n=some kvs∧keyD y=some k∧kvs.length<sizeLine∧R.nx σ (M3.set n (.dct (putD kvs k d))))∨
    (∃kvs ks,Zq M3 n=some kvs∧y= .tup (ks.map kD)∧kvs.length<sizeLine∧R.nx σ (M3.set n (.dcp (putD kvs ks d))))
  | _=>False
 | .ite t a b,R,σ,M=>tt c X t σ M fun r M1=>if r=true then tss c X a R σ M1 else tss c X b R σ M1
 | .for_ tg it b,R,σ,M=>tit c X it σ M fun own xs M1=>forD own xs tg (tss c X b) xs R σ M1
 | .while_ t b,R,σ,M=>∃W:Nat→DEnv→Z2→Prop,(∃m,W m σ M)∧∀m σ M,W m σ M→tt c X t σ M fun r M1=>if r=true then
   tss c X b {nx:=fun σ2 M2=>∃m',m'<m∧W m' σ2 M2,rt:=R.rt,bk:=R.nx,ct:=fun σ2 M2=>∃m',m'<m∧W m' σ2 M2} σ M1 else R.nx σ M1
def tss(c:Cfg)(X:DX):Ss→DS
 | .nil,R,σ,M=>R.nx σ M
 | .cons s r,R,σ,M=>ts c X s {R with nx:=fun σ' M'=>tss c X r R σ' M'} σ M
end
def REnv(w:Vw)(σD:DEnv)(σ:L2.St):Prop:=σD.length=σ.length∧∀(i:Nat) d,σD[i]?=some (some d)→∃v,σ[i]?=some (some v)∧RD w d v
theorem REnv.ext(h:REnv w σD σ)(x:Ext w w'):REnv w' σD σ:=
 ⟨h.1,fun i d e=>by obtain⟨v,q,r⟩:=h.2 i d e;exact⟨v,q,r.ext x⟩⟩
theorem REnv.set{d:D}{v:V}(h:REnv w σD σ)(i:Nat)(r:RD w d v):REnv w (σD.set i (some d)) (σ.set i (some v)):=by
 refine⟨by simp[h.1],fun j d' e=>?_⟩
 by_cases hj:i=j
 ·subst hj
  by_cases hl:i<σD.length
  ·rw[Dw hl] at e
   cases e
   exact⟨v,by rw[Dw (by rw[←h.1];exact hl)],r⟩
  ·rw[Hn (by simp;omega)] at e
   cases e
 ·rw[Ds hj] at e
  rw[Ds hj]
  exact h.2 j d' e
structure StOk(w0 w:Vw)(σD:DEnv)(M:Z2)(σ:L2.St)(H:Hp):Prop where
 heap:w.H=H
 ext:Ext w0 w
 rs:RS w M
 env:REnv w σD σ
theorem StOk.next{H:Hp}(s:StOk w0 w σD M σ H)(x:Ext w w')(r:RS w' M'):StOk w0 w' σD M' σ w'.H:=
 ⟨rfl,s.ext.trans x,r,s.env.ext x⟩
def Aft(w:Vw)(QD:DK)(Q:VK):Prop:=∀v w' d M',Ext w w'→RS w' M'→RD w' d v→QD d M'→Q v w'.H
def tF(w0:Vw)(f:DE):TE:=fun σ H Q=>∃w σD M QD,StOk w0 w σD M σ H∧f σD M QD∧Aft w QD Q
def tFA(w0:Vw)(f:DA):TA:=fun σ H Q=>∃w σD M QD,StOk w0 w σD M σ H∧f σD M QD∧∀vs w' ds M',Ext w w'→RS w' M'→RDs w' ds vs→QD ds M'→Q vs w'.H
def tFT(w0:Vw)(f:DT):TT:=fun σ H Q=>∃w σD M QD,StOk w0 w σD M σ H∧f σD M QD∧∀b w' M',Ext w w'→RS w' M'→QD b M'→Q b w'.H
def tFO(w0:Vw)(f:DEnv→Z2→(Option Int→Z2→Prop)→Prop):TO:=fun σ H Q=>∃w σD M QD,StOk w0 w σD M σ H∧f σD M QD∧∀b w' M',Ext w w'→RS w' M'→QD b M'→Q b w'.H
def tFS(w0:Vw)(f:DS):TS:=fun R σ H=>∃w σD M RD',StOk w0 w σD M σ H∧f RD' σD M∧
 (∀σ' w' σD' M',Ext w w'→RS w' M'→REnv w' σD' σ'→RD'.nx σD' M'→R.nx σ' w'.H)∧Aft w RD'.rt R.rt∧
 (∀σ' w' σD' M',Ext w w'→RS w' M'→REnv w' σD' σ'→RD'.bk σD' M'→R.bk σ' w'.H)∧
 (∀σ' w' σD' M',Ext w w'→RS w' M'→REnv w' σD' σ'→RD'.ct σD' M'→R.ct σ' w'.H)
def xkOf(w:Vw)(Z:DX):XK:=fun cls dd H'=>∃C dx r w' row M',cls= .ref C∧dd=some dx∧w'.H=H'∧Ext w w'∧RS w' M'∧H' dx=some (.xd [("row",r)])∧RD w' row r∧Z C row M'
def spF(K:Af)(sp:DSp):Sp:=fun vs H Q E=>∃w ds M QD Z,w.K=K∧w.H=H∧RS w M∧RDs w ds vs∧sp ds M QD Z∧Aft w QD Q∧∀cls dd H',xkOf w Z cls dd H'→E cls dd H'
theorem Aft.ext(h:Aft w QD Q)(x:Ext w w'):Aft w' QD Q:=fun v w2 d M y r q p=>h v w2 d M (x.trans y) r q p
section
variable{X:Cx}{e:Expr}{w0:Vw}
theorem PE.imp{t t':TE}(h:PE X e t)(k:∀σ H Q,t' σ H Q→t σ H Q):PE X e t':=fun pins s σ H Q I q=>h pins s σ H Q I (k σ H Q q)
theorem PT.imp{t t':TT}(h:PT X e t)(k:∀σ H Q,t' σ H Q→t σ H Q):PT X e t':=fun pins s σ H Q I q=>h pins s σ H Q I (k σ H Q q)
theorem PA.imp{t t':TA}(h:PA X es t)(k:∀σ H Q,t' σ H Q→t σ H Q):PA X es t':=fun pos pins s σ H Q I q=>h pos pins s σ H Q I (k σ H Q q)
theorem PS.imp{st:Stmt}{t t':TS}(h:PS X st t)(k:∀R σ H,t' R σ H→t R σ H):PS X st t':=fun pins s σ H R I q=>h pins s σ H R I (k R σ H q)
theorem PSs.imp{st:List Stmt}{t t':TS}(h:PSs X st t)(k:∀R σ H,t' R σ H→t R σ H):PSs X st t':=fun pins s σ H R I q=>h pins s σ H R I (k R σ H q)
end
def rF(w0:Vw)(g:D→D→Z2→DK→Prop):R2:=fun x y H Q=>∃w M dx dy QD,w.H=H∧Ext w0 w∧RS w M∧RD w dx x∧RD w dy y∧g dx dy M QD∧Aft w QD Q
theorem Ze{i:Int}{v:V}:RD w (.int i) v↔v= .int i:=by unfold RD;exact Mh
theorem Zm{i:Str}{v:V}:RD w (.str i) v↔v= .str i:=by unfold RD;exact Mh
theorem Yw{i:Bool}{v:V}:RD w (.bl i) v↔v= .bl i:=by unfold RD;exact Mh
theorem Zw{v:V}:RD w .non v↔v= .non:=by unfold RD;exact Mh
theorem Zw0{n:String}{v:V}:RD w (.ty n) v↔v= .ty n:=by unfold RD;exact Mh
theorem Zn1{n:Addr}{v:V}:RD w (.cls n) v↔v= .ref n:=by unfold RD;exact Mh
theorem Zg{i:Nat}{v:V}:RD w (.ref i) v↔i<w.n∧v= .ref (w.μ i):=by unfold RD;exact Mh
theorem Y5{v:V}:RD w (.tup ds) v↔∃a vs,v= .ref a∧w.H a=some (.tup vs)∧RDs w ds vs:=by unfold RD;exact Mh
theorem Xo{v:V}:RD w (.gtup ds) v↔∃a vs,v= .ref a∧SqT w.K w.H a vs∧RDs w ds vs:=by unfold RD;exact Mh
theorem Fc{v:V}:RD w (.exn e C dx row) v↔v= .ref e∧w.H e=some (XO e (.ref C) (some dx))∧∃r,w.H dx=some (.xd [("row",r)])∧RD w row r:=Iff.of_eq (by rw[RD])
theorem RDs.empty(h:RDs w ds []):ds=[]:=by
 have:=h.length
 exact List.length_eq_zero_iff.mp this.symm
theorem Zy0{n:Nat}(h:Z4 M n=some xs):Zc M n=some xs:=by
 unfold Z4 at h
 unfold Zc
 split at h
 ·rename_i e;rw[e];exact h
 ·cases h
theorem O5{n:Nat}(h:Z4 M n=some xs):M[n]?=some (.lst xs):=by
 unfold Z4 at h
 split at h
 ·rename_i e;rw[e];cases h;rfl
 ·cases h
theorem Px{n:Nat}(h:Zs M n=some xs):M[n]?=some (.dct xs):=by
 unfold Zs at h
 split at h
 ·rename_i e;rw[e];cases h;rfl
 ·cases h
theorem RS.list{n:Nat}(R:RS w M)(h:Z4 M n=some xs):M[n]?=some (.lst xs)∧∃vs,w.H (w.μ n)=some (.lst vs)∧RDs w xs vs:=
 ⟨O5 h,R.cell n _ (O5 h)⟩
theorem RS.listL{n:Nat}(R:RS w M)(h:Zc M n=some xs):n<w.n∧∃vs,SqL w.K w.H (w.μ n) vs∧RDs w xs vs∧True:=by
 unfold Zc at h
 split at h
 ·rename_i ys e
  cases h
  obtain⟨vs,q,r⟩:=R.cell n _ e
  exact⟨by rw[R.len];exact(Ac.mp e).1,vs,.inl (.inl q),r,trivial⟩
 ·rename_i ys e
  cases h
  obtain⟨vs,q,r⟩:=R.cell n _ e
  exact⟨by rw[R.len];exact(Ac.mp e).1,vs,q.sq,r,trivial⟩
 ·cases h
theorem Zw5{n:Nat}(h:Zs M n=some xs):Z95 M n=some xs:=by
 unfold Z95;rw[Px h]
theorem RS.dictF{n:Nat}(R:RS w M)(h:Z95 M n=some xs):∃vs,Rd w.H (w.μ n) (.dK vs)∧RKV w xs vs:=by
 unfold Z95 at h
 split at h
 ·rename_i ys e
  cases h
  obtain⟨vs,q1,q2⟩:=R.cell n _ e
  exact⟨vs,.inl q1,q2⟩
 ·rename_i ys e
  cases h
  obtain⟨o,vs,q1,q2⟩:=R.cell n _ e
  exact⟨vs,.inr ⟨o,q1⟩,q2⟩
 ·cases h
theorem RS.dict{n:Nat}(R:RS w M)(h:Zs M n=some xs):M[n]?=some (.dct xs)∧∃vs,w.H (w.μ n)=some (.dK vs)∧RKV w xs vs:=
 ⟨Px h,R.cell n _ (Px h)⟩
theorem X9{p:Addr}(R:RS w M)(hp:w.H p=none)(r:RDs w xs vs):Ext w (w.push p (.lst vs))∧RS (w.push p (.lst vs)) (M++[.lst xs])∧RD (w.push p (.lst vs)) (.ref M.length) (.ref p):=by
 refine⟨X8 hp,R.push hp ⟨vs,Ye,r.ext (X8 hp)⟩,Zg.mpr ⟨?_,?_⟩⟩
 ·show M.length<w.n+1
  rw[R.len];omega
 ·show V.ref p=V.ref (if M.length=w.n then p else w.μ M.length)
  rw[if_pos R.len.symm]
theorem Fn{M:Z2}{n:Nat}{xs:List (List Key×D)}(h:Zq M n=some xs):M[n]?=some (.dcp xs):=by
 unfold Zq at h
 split at h
 ·rename_i e;rw[e];cases h;rfl
 ·cases h
theorem RS.dictP{w:Vw}{M:Z2}{n:Nat}{xs:List (List Key×D)}(R:RS w M)(h:Zq M n=some xs):M[n]?=some (.dcp xs)∧∃vs,w.H (w.μ n)=some (.dT vs)∧RKV w xs vs:=
 ⟨Fn h,R.cell n _ (Fn h)⟩
theorem Z02{w:Vw}{M:Z2}{p:Addr}{xs:List (List Key×D)}{vs:List (List Key×V)}(R:RS w M)(hp:w.H p=none)(r:RKV w xs vs):Ext w (w.push p (.dT vs))∧RS (w.push p (.dT vs)) (M++[.dcp xs])∧RD (w.push p (.dT vs)) (.ref M.length) (.ref p):=by
 refine⟨X8 hp,R.push hp ⟨vs,Ye,r.ext (X8 hp)⟩,Zg.mpr ⟨?_,?_⟩⟩
 ·show M.length<w.n+1
  rw[R.len];omega
 ·show V.ref p=V.ref (if M.length=w.n then p else w.μ M.length)
  rw[if_pos R.len.symm]
theorem Q3{w:Vw}{M:Z2}{n:Nat}{us vs:List (List Key×V)}{ys xs:List (List Key×D)}(R:RS w M)(hn:M[n]?=some (.dcp ys))(h:w.H (w.μ n)=some (.dT us))(r:RKV w xs vs):Ext w (w.alloc (w.μ n) (.dT vs))∧RS (w.alloc (w.μ n) (.dT vs)) (M.set n (.dcp xs)):=
 ⟨Yq h rfl,R.write hn rfl rfl h rfl ⟨vs,Ye,r.ext (Yq h rfl)⟩⟩
theorem Ze8{p:Addr}(R:RS w M)(hp:w.H p=none)(r:RKV w xs vs):Ext w (w.push p (.dK vs))∧RS (w.push p (.dK vs)) (M++[.dct xs])∧RD (w.push p (.dK vs)) (.ref M.length) (.ref p):=by
 refine⟨X8 hp,R.push hp ⟨vs,Ye,r.ext (X8 hp)⟩,Zg.mpr ⟨?_,?_⟩⟩
 ·show M.length<w.n+1
  rw[R.len];omega
 ·show V.ref p=V.ref (if M.length=w.n then p else w.μ M.length)
  rw[if_pos R.len.symm]
theorem Wr{p:Addr}(R:RS w M)(hp:w.H p=none)(r:RDs w xs vs):Ext w (w.alloc p (.tup vs))∧RS (w.alloc p (.tup vs)) M∧RD (w.alloc p (.tup vs)) (.tup xs) (.ref p):=
 ⟨R9 hp,R.alloc hp,Y5.mpr ⟨p,vs,rfl,Ye,r.ext (R9 hp)⟩⟩
theorem Yn{n:Nat}(R:RS w M)(hn:M[n]?=some (.lst ys))(h:w.H (w.μ n)=some (.lst us))(r:RDs w xs vs):Ext w (w.alloc (w.μ n) (.lst vs))∧RS (w.alloc (w.μ n) (.lst vs)) (M.set n (.lst xs)):=
 ⟨Yq h rfl,R.write hn rfl rfl h rfl ⟨vs,Ye,r.ext (Yq h rfl)⟩⟩
theorem C1{n:Nat}(R:RS w M)(hn:M[n]?=some (.dct ys))(h:w.H (w.μ n)=some (.dK us))(r:RKV w xs vs):Ext w (w.alloc (w.μ n) (.dK vs))∧RS (w.alloc (w.μ n) (.dK vs)) (M.set n (.dct xs)):=
 ⟨Yq h rfl,R.write hn rfl rfl h rfl ⟨vs,Ye,r.ext (Yq h rfl)⟩⟩
section
variable{X:Cx}{w0:Vw}
theorem Tf{f:Value→Value→Sem Value}{g:Int→Int→V}{o:D→D→Z2→DK→Prop}{C:Int→Int→Prop}{k:Int→Int→D}(h:OpR X f (rI C g))(hk:∀w i j,RD w (k i j) (g i j))
  {pins:List (Addr×Obj)} {s:Shared} {σ:L2.St} {x y:V} {v u:Value} {Q:VK} {w:Vw} {M:Z2} {QD:DK} {i j:Int} (I:Inv X pins σ w.H s) (rx:RelV x v) (ry:RelV y u) (R:RS w M) (hx:RD w (.int i) x) (hy:RD w (.int j) y)
  (hc:C i j) (q:QD (k i j) M) (a:Aft w QD Q):wpAny (model X.prog X.w) X.A (f v u) (EP X pins σ Q) X.xe s:=by
 cases Ze.mp hx
 cases Ze.mp hy
 exact h pins s σ w.H _ _ v u Q I rx ry ⟨i,j,rfl,rfl,hc,a _ w _ M (Ext.refl w) R (hk w i j) q⟩
noncomputable def opOf:Op→Operator
 | .add=> .Add | .sub=> .Sub | .mul=> .Mult | .fdiv=> .FloorDiv | .mod=> .Mod | .pow=> .Pow
theorem Y54(h:OpR X f (rI0 g)):OpR X f (rI (fun _ _=>True) g):=fun pins s σ H x y v u Q I rx ry zz60=>by obtain⟨i,j,e1,e2,_,q⟩:=zz60;exact h pins s σ H x y v u Q I rx ry ⟨i,j,e1,e2,q⟩
theorem RDs.rep(h:RDs w xs vs):∀n:Nat,RDs w (Dn n xs).flatten (Dn n vs).flatten
 | 0=>RDs.nil w
 | n+1=>by
  rw[Iu,Iu,Ku,Ku]
  exact h.append (RDs.rep h n)
theorem Zi9(op:Op):OpR X (binaryOp (opOf op)) (rF w0 (opD op)):=by
 intro pins s σ H x y v u Q I rx ry h
 obtain⟨w,M,dx,dy,QD,rfl,e0,R,hx,hy,g,a⟩:=h
 have ri:∀w (i:Int),RD w (.int i) (.int i):=fun w i=>Ze.mpr rfl
 cases op with
 | add=>
  cases dx with
  | int i=>
   obtain⟨j,rfl,g2⟩:=Xq g;clear g;have g:=g2
   exact Tf (o:=opD .add) (C:=fun _ _=>True) (k:=fun i j=> .int (i+j)) (Y54 Y96) (fun w i j=>ri w _) I rx ry R hx hy trivial g a
  | str z=>
   cases dy with
   | str z2=>
    cases Zm.mp hx;cases Zm.mp hy
    exact C0 pins s σ w.H _ _ v u Q I rx ry ⟨_,_,rfl,rfl,g.1,a _ w _ M (Ext.refl w) R (Zm.mpr rfl) g.2⟩
   | _=>exact Dq g
  | tup l=>
   obtain⟨l2,rfl,g2⟩:=Sc g;clear g;have g:=g2
   obtain⟨a1,vs1,rfl,h1,r1⟩:=Y5.mp hx
   obtain⟨a2,vs2,rfl,h2,r2⟩:=Y5.mp hy
   obtain⟨g1,g2,g3⟩:=g
   refine Zs9 pins s σ w.H _ _ v u Q I rx ry ⟨a1,a2,vs1,vs2,rfl,rfl,.of h1,.of h2,?_,by rw[r1.length,r2.length];exact g2,fun z=>?_,fun _ p hp=>?_⟩
   ·intro z;subst z;have:=r1.length;simp at this;exact g1 (List.length_eq_zero_iff.mp this.symm)
   ·subst z
    cases r2.empty
    rw[Dg] at g3
    exact a _ w _ M (Ext.refl w) R hx g3
   ·obtain⟨x1,x2,x3⟩:=Wr R hp (r1.append r2)
    exact a _ _ _ M x1 x2 x3 g3
  | ref n=>
   obtain⟨n2,rfl,g2⟩:=Yr g;clear g;have g:=g2
   obtain⟨h1,rfl⟩:=Zg.mp hx
   obtain⟨h2,rfl⟩:=Zg.mp hy
   obtain⟨xs,ys,g1,g2,g3,g4⟩:=g
   obtain⟨_,vs1,q1,r1⟩:=R.list g1
   obtain⟨_,vs2,q2,r2⟩:=R.list g2
   refine Y35 pins s σ w.H _ _ v u Q I rx ry ⟨_,_,vs1,vs2,rfl,rfl,q1,q2,by rw[r1.length,r2.length];exact g3,fun p hp=>?_⟩
   obtain⟨x1,x2,x3⟩:=X9 R hp (r1.append r2)
   exact a _ _ _ _ x1 x2 x3 g4
  | _=>exact Dq g
 | mul=>
  cases dx with
  | int i=>
   obtain⟨j,rfl,g2⟩:=Xq g;clear g;have g:=g2
   exact Tf (o:=opD .add) (C:=IntMulOk) (k:=fun i j=> .int (i * j)) Zu3 (fun w i j=>ri w _) I rx ry R hx hy g.1 g.2 a
  | ref n=>
   obtain⟨k,rfl,g2⟩:=Xq g;clear g;have g:=g2
   obtain⟨h1,rfl⟩:=Zg.mp hx
   cases Ze.mp hy
   obtain⟨xs,g1,g2,g3,g4,g5⟩:=g
   obtain⟨_,vs1,q1,r1⟩:=R.list g1
   refine Y85 pins s σ w.H _ _ v u Q I rx ry ⟨_,_,vs1,rfl,rfl,q1,by omega,by omega,by rw[r1.length];exact g4,fun p hp=>?_⟩
   obtain⟨x1,x2,x3⟩:=X9 R hp (r1.rep _)
   exact a _ _ _ _ x1 x2 x3 g5
  | _=>exact Dq g
 | sub=>
  obtain⟨i,j,rfl,rfl,g2⟩:=Y6 g;clear g;have g:=g2
  exact Tf (o:=opD .add) (C:=fun _ _=>True) (k:=fun i j=> .int (i - j)) (Y54 Y80) (fun w i j=>ri w _) I rx ry R hx hy trivial g a
 | fdiv=>
  obtain⟨i,j,rfl,rfl,g2⟩:=Y6 g;clear g;have g:=g2
  exact Tf (o:=opD .add) (C:=Z24) (k:=fun i j=> .int (qdiv i j)) Zk6 (fun w i j=>by rw[Zv1];exact ri w _) I rx ry R hx hy g.1 g.2 a
 | mod=>
  obtain⟨i,j,rfl,rfl,g2⟩:=Y6 g;clear g;have g:=g2
  exact Tf (o:=opD .add) (C:=fun _ j=>j≠0) (k:=fun i j=> .int (qmod i j)) Zv6 (fun w i j=>by rw[Zx7];exact ri w _) I rx ry R hx hy g.1 g.2 a
 | pow=>
  obtain⟨i,j,rfl,rfl,g2⟩:=Y6 g;clear g;have g:=g2
  exact Tf (o:=opD .add) (C:=CPow) (k:=fun i j=> .int (i ^ j.toNat)) Y09 (fun w i j=>ri w _) I rx ry R hx hy g.1 g.2 a
end
def rB(w0:Vw)(g:Z2→D→D→(Bool→Prop)→Prop):R2:=fun x y H Q=>∃w M dx dy QD,w.H=H∧w.K=w0.K∧RS w M∧RD w dx x∧RD w dy y∧g M dx dy QD∧∀b,QD b→Q (.bl b) H
mutual
theorem Z10(R:RS w M):∀(da:PyData) {d:D} {v:V},PD M da d→RD w d v→Rep w.K w.H da v
 | .none,d,v,h,r=>by unfold PD at h;subst h;unfold Rep;exact Zw.mp r
 | .bool b,d,v,h,r=>by unfold PD at h;subst h;unfold Rep;exact Yw.mp r
 | .int b,d,v,h,r=>by unfold PD at h;subst h;unfold Rep;exact Ze.mp r
 | .str b,d,v,h,r=>by unfold PD at h;subst h;unfold Rep;exact Zm.mp r
 | .list xs,d,v,h,r=>by
  unfold PD at h
  obtain⟨n,ds,rfl,h1,h2⟩:=h
  obtain⟨_,rfl⟩:=Zg.mp r
  obtain⟨_,vs,q1,q2,_⟩:=R.listL h1
  unfold Rep
  exact⟨_,vs,rfl,q1,Rl R xs h2 q2⟩
 | .tuple xs,d,v,h,r=>by
  unfold PD at h
  obtain⟨ds,rfl,h2⟩:=h
  obtain⟨a,vs,rfl,q1,q2⟩:=Y5.mp r
  unfold Rep
  exact⟨_,vs,rfl,.of q1,Rl R xs h2 q2⟩
 | .dict _,d,v,h,r=>by unfold PD at h;exact h.elim
theorem Rl(R:RS w M):∀(xs:List PyData) {ds:List D} {vs:List V},PDs M xs ds→RDs w ds vs→X2 w.K w.H xs vs
 | [],ds,vs,h,r=>by unfold PDs at h;subst h;unfold RDs at r;unfold X2;exact r
 | x::xs,ds,vs,h,r=>by
  unfold PDs at h
  obtain⟨d,r',rfl,h1,h2⟩:=h
  unfold RDs at r
  obtain⟨v,r2,rfl,q1,q2⟩:=r
  unfold X2
  exact⟨v,r2,rfl,Z10 R x h1 q1,Rl R xs h2 q2⟩
end
theorem Wb{d:D}{v:V}(f:Zu d=true)(r:RD w d v):Yy v=true:=by
 cases d<;>simp[Zu] at f
 ·cases Zw.mp r;rfl
 ·cases Yw.mp r;rfl
 ·cases Ze.mp r;rfl
 ·cases Zm.mp r;rfl
theorem Gr{d e:D}{v u:V}(f:Zu d=true)(g:Zu e=true)(r:RD w d v)(q:RD w e u):eqV v u=eqF d e:=by
 cases d<;>simp[Zu] at f
 all_goals (cases e<;>simp[Zu] at g)
 all_goals first
  |(first | cases Zw.mp r | cases Yw.mp r | cases Ze.mp r | cases Zm.mp r)
 all_goals first
  |(first | cases Zw.mp q | cases Yw.mp q | cases Ze.mp q | cases Zm.mp q)
 all_goals rfl
theorem Zm8{x:D}{v:V}(f:Zu x=true)(r:RD w x v):∀{ds:List D} {vs:List V},ds.all Zu=true→RDs w ds vs→inV v vs=inD x ds∧vs.all Yy=true
 | [],vs,_,h=>by unfold RDs at h;subst h;exact⟨rfl,rfl⟩
 | d::ds,vs,g,h=>by
  unfold RDs at h
  obtain⟨v1,r1,rfl,h1,h2⟩:=h
  simp only[Hv,Bz9] at g
  obtain⟨i1,i2⟩:=Zm8 f r g.2 h2
  refine⟨?_,by simp only[Hv,Bz9];exact⟨Wb g.1 h1,i2⟩⟩
  unfold inV inD at *
  rw[Ix,Ix,Gr g.1 f h1 r,i1]
theorem RKV.val{κ:Type}[DecidableEq κ]{w:Vw}:∀{ds:List (κ×D)} {vs:List (κ×V)} (k:κ),RKV w ds vs→(valD ds k=none∧valV vs k=none)∨∃d v,valD ds k=some d∧valV vs k=some v∧RD w d v
 | [],vs,k,h=>by unfold RKV at h;subst h;exact .inl ⟨rfl,rfl⟩
 |(k',d)::ds,vs,k,h=>by
  unfold RKV at h
  obtain⟨v,r,rfl,h1,h2⟩:=h
  by_cases e:k'=k
  ·exact .inr ⟨d,v,by simp[valD,Hr,e],by simp[valV,Hr,e],h1⟩
  ·have:=RKV.val k h2
   simpa[valD,valV,Hr,e] using this
theorem RKV.length{κ:Type}{w:Vw}:∀{ds:List (κ×D)} {vs:List (κ×V)},RKV w ds vs→vs.length=ds.length
 | [],vs,h=>by unfold RKV at h;subst h;rfl
 |(k',d)::ds,vs,h=>by
  unfold RKV at h
  obtain⟨v,r,rfl,h1,h2⟩:=h
  simp[RKV.length h2]
theorem RKV.any{κ:Type}[DecidableEq κ]{w:Vw}(k:κ):∀{ds:List (κ×D)} {vs:List (κ×V)},RKV w ds vs→(vs.any fun kv=>decide (kv.1=k))=(ds.any fun kv=>decide (kv.1=k))
 | [],vs,h=>by unfold RKV at h;subst h;rfl
 |(k',d)::ds,vs,h=>by
  unfold RKV at h
  obtain⟨v,r,rfl,h1,h2⟩:=h
  simp[RKV.any k h2]
theorem RKV.repl{κ:Type}[DecidableEq κ]{w:Vw}{k:κ}{d:D}{v:V}(q:RD w d v):∀{ds:List (κ×D)} {vs:List (κ×V)},RKV w ds vs→RKV w (ds.map fun kv=>if kv.1=k then(kv.1,d) else kv) (vs.map fun kv=>if kv.1=k then(kv.1,v) else kv)
 | [],vs,h=>by unfold RKV at h;subst h;unfold RKV;rfl
 |(k',d')::ds,vs,h=>by
  unfold RKV at h
  obtain⟨v',r,rfl,h1,h2⟩:=h
  simp only[Dd]
  by_cases e:k'=k
  ·rw[if_pos e,if_pos e]
   unfold RKV
   exact⟨v,_,rfl,q,RKV.repl q h2⟩
  ·rw[if_neg e,if_neg e]
   unfold RKV
   exact⟨v',_,rfl,h1,RKV.repl q h2⟩
theorem RKV.snoc{κ:Type}{w:Vw}{k:κ}{d:D}{v:V}(q:RD w d v):∀{ds:List (κ×D)} {vs:List (κ×V)},RKV w ds vs→RKV w (ds++[(k,d)]) (vs++[(k,v)])
 | [],vs,h=>by unfold RKV at h;subst h;unfold RKV;exact⟨v,[],rfl,q,by unfold RKV;rfl⟩
 |(k',d')::ds,vs,h=>by
  unfold RKV at h
  obtain⟨v',r,rfl,h1,h2⟩:=h
  show RKV w ((k',d')::(ds++[(k,d)])) _
  unfold RKV
  exact⟨v',_,rfl,h1,RKV.snoc q h2⟩
theorem RKV.put{κ:Type}[DecidableEq κ]{w:Vw}{k:κ}{d:D}{v:V}(q:RD w d v){ds:List (κ×D)}{vs:List (κ×V)}(h:RKV w ds vs):RKV w (putD ds k d) (putK vs k v):=by
 unfold putD putK
 rw[h.any k]
 split
 ·exact h.repl q
 ·exact h.snoc q
theorem J0{w:Vw}:∀{ks:List Key} {vs:List V},RDs w (ks.map kD) vs→vs=ks.map kV
 | [],vs,h=>by unfold RDs at h;exact h
 | k::ks,vs,h=>by
  rw[Dd] at h
  unfold RDs at h
  obtain⟨v,r,rfl,h1,h2⟩:=h
  rw[J0 h2]
  cases k with
  | inl i=>rw[Ze.mp h1];rfl
  | inr x=>rw[Zm.mp h1];rfl
theorem Ox{w:Vw}{ks:List Key}{v:V}(r:RD w (.tup (ks.map kD)) v):∃b,v= .ref b∧w.H b=some (.tup (ks.map kV)):=by
 obtain⟨b,vs,rfl,h1,h2⟩:=Y5.mp r
 exact⟨b,rfl,by rw[←J0 h2];exact h1⟩
theorem Oj{d:D}{k:Key}{v:V}(h:keyD d=some k)(r:RD w d v):v=kV k:=by
 cases d<;>simp[keyD] at h
 ·subst h;exact Ze.mp r
 ·subst h;exact Zm.mp r
section
variable{X:Cx}{w0:Vw}
noncomputable def cmOf:Cm→CmpOp
 | .lt=> .Lt | .le=> .LtE | .gt=> .Gt | .ge=> .GtE | .eq=> .Eq | .ne=> .NotEq | .is=> .Is | .isin=> .In | .notin=> .NotIn
theorem Y78(hu:X.A.units+64<cLine):OpR X (compareOp .NotEq) (rEqD X.K true):=by
 intro pins s σ H x y v u Q I rx ry h
 obtain⟨da,db,h1,h2,h3,h4,h5,q⟩:=h
 obtain⟨as,q1⟩:=Rep.reads I da x v h1 rx
 obtain⟨bs,q2⟩:=Rep.reads I db y u h2 ry
 exact PySem.SeqAt.compareNe_reads q1 q2 h3 h4 (by omega) ⟨.bl _,H,I,rfl,q⟩
theorem Jh{w:Vw}{pins:List (Addr×Obj)}{σ:L2.St}{s:Shared}{A:Around}{b:List (Key×D)}{vb:List (Key×V)}{ub:List (Key×Value)}(rb:RKV w b vb)(kb:KV vb ub)(fb:(b.all fun kv=>Zu kv.2)=true):
  ∀{a:List (Key×D)} {va:List (Key×V)} {ua:List (Key×Value)},(a.all fun kv=>Zu kv.2)=true→RKV w a va→KV va ua→PySem.W.KeqHits A s ub ua (a.all fun kv=>match valD b kv.1 with
   | some y=>eqF kv.2 y
   | none=>false)
 | [],va,ua,_,h,k=>by
  unfold RKV at h;subst h
  cases k
  exact .nil
 |(k0,d)::a,va,ua,f,h,k=>by
  unfold RKV at h
  obtain⟨v,r,rfl,h1,h2⟩:=h
  simp only[Hv,Bz9] at f
  cases k with
  | @cons _ q _ ur hk kr=>
   obtain⟨k1,u⟩:=q
   obtain⟨e1,e2⟩:=hk
   dsimp only at e1 e2
   subst e1
   have ih:=Jh (A:=A) (s:=s) (pins:=pins) (σ:=σ) rb kb fb f.2 h2 kr
   rw[Hv]
   rcases rb.val k0 with⟨n1,n2⟩ | ⟨y,vy,n1,n2,n3⟩
   ·have hz:=kb.val k0
    rw[n2] at hz
    have hz':valueAt ub k0=none:=RelO.none_of hz
    simp only[n1,Bool.false_and]
    exact .miss hz'
   ·have hz:=kb.val k0
    rw[n2] at hz
    obtain⟨uy,ey,ry⟩:=hz.some_of
    have fy:Zu y=true:=by
     have hm:(k0,y)∈b:=by
      unfold valD at n1
      obtain⟨p,hp,e⟩:=Ch.mp n1
      have:=List.find?_some hp
      have hk:p.1=k0:=of_decide_eq_true this
      have:=List.mem_of_find?_eq_some hp
      rw[←e,←hk];exact this
     exact(Hj.mp fb) _ hm
    simp only[n1]
    refine .hit ey ?_ ih
    rw[←Gr f.1 fy h1 n3]
    exact Er e2 ry (Wb f.1 h1) (Wb fy n3)
theorem Xu:∀{ds:List D} {vs:List V},ds.all Zu=true→RDs w ds vs→vs.all Yy=true
 | [],vs,_,r=>by unfold RDs at r;subst r;rfl
 | d::ds,vs,f,r=>by
  unfold RDs at r
  obtain⟨v,vr,rfl,h1,h2⟩:=r
  rw[Hv,Bz9] at f
  rw[Hv,Wb f.1 h1,Xu f.2 h2]
  rfl
theorem E5(f:xs.all Zu=true)(g:ys.all Zu=true)(r:RDs w xs vs)(q:RDs w ys us):eqVs vs us=eqFs xs ys:=by
 unfold eqVs eqFs
 rw[r.length,q.length]
 congr 1
 have:∀j∈Ay (min xs.length ys.length),eqV (vs.getD j .non) (us.getD j .non)=eqF (xs.getD j .non) (ys.getD j .non):=by
  intro j hj
  rw[Hx] at hj
  have j1:j<xs.length:=by omega
  have j2:j<ys.length:=by omega
  obtain⟨v,e1,r1⟩:=r.get (Ag j1)
  obtain⟨u,e2,r2⟩:=q.get (Ag j2)
  rw[Hj] at f g
  simp only[Dy,e1,e2,Ag j1,Ag j2,Option.getD_some]
  exact Gr (f _ (Ic j1)) (g _ (Ic j2)) r1 r2
 rw[Bool.eq_iff_iff,Hj,Hj]
 constructor
 ·intro h j hj;rw[←this j hj];exact h j hj
 ·intro h j hj;rw[this j hj];exact h j hj
theorem Ev(hK:X.K=w0.K)(hu:X.A.units+64<cLine)(neg:Bool):OpR X (compareOp (if neg then .NotEq else .Eq)) (rB w0 fun M x y Q=>eqD M x y fun b=>Q (if neg then !b else b)):=by
 intro pins s σ H x y v u Q I rx ry h
 obtain⟨w,M,dx,dy,QD,rfl,e0,R,hx,hy,g,a⟩:=h
 have key:∀b:Bool,(scal x y=true∧decide (x=y)=b)→QD (if neg then !b else b)→wpAny (model X.prog X.w) X.A (compareOp (if neg then .NotEq else .Eq) v u) (EP X pins σ Q) X.xe s:=by
  rintro b ⟨h1,h2⟩ hq
  cases neg with
  | true=>exact Yb8 pins s σ w.H x y v u Q I rx ry ⟨h1,by rw[h2];exact a _ hq⟩
  | false=>exact Ye5 pins s σ w.H x y v u Q I rx ry ⟨h1,by rw[h2];exact a _ hq⟩
 have hs:∀b,eqS dx dy=some b→scal x y=true∧decide (x=y)=b:=by
  intro b h
  cases dx with
  | int i=>
   cases Ze.mp hx
   cases dy with
   | int j=>cases Ze.mp hy;cases h;exact⟨rfl,by simp⟩
   | str j=>cases Zm.mp hy;cases h;exact⟨rfl,by simp⟩
   | non=>cases Zw.mp hy;cases h;exact⟨rfl,by simp⟩
   | _=>cases h
  | str i=>
   cases Zm.mp hx
   cases dy with
   | str j=>cases Zm.mp hy;cases h;exact⟨rfl,by simp⟩
   | int j=>cases Ze.mp hy;cases h;exact⟨rfl,by simp⟩
   | non=>cases Zw.mp hy;cases h;exact⟨rfl,by simp⟩
   | bl j=>cases Yw.mp hy;cases h;exact⟨rfl,by simp⟩
   | _=>cases h
  | bl i=>
   cases Yw.mp hx
   cases dy with
   | bl j=>cases Yw.mp hy;cases h;exact⟨rfl,by simp⟩
   | non=>cases Zw.mp hy;cases h;exact⟨rfl,by simp⟩
   | str j=>cases Zm.mp hy;cases h;exact⟨rfl,by simp⟩
   | _=>cases h
  | non=>
   cases Zw.mp hx
   cases dy with
   | non=>cases Zw.mp hy;cases h;exact⟨rfl,by simp⟩
   | int j=>cases Ze.mp hy;cases h;exact⟨rfl,by simp⟩
   | bl j=>cases Yw.mp hy;cases h;exact⟨rfl,by simp⟩
   | str j=>cases Zm.mp hy;cases h;exact⟨rfl,by simp⟩
   | _=>cases h
  | _=>cases h
 unfold eqD at g
 cases hb:eqS dx dy with
 | some b=>
  rw[hb] at g
  exact key b (hs b hb) g
 | none=>
  rw[hb] at g
  rcases g with⟨da,db,p1,p2,p3,p4,p5,g⟩ | ⟨m,n,ka,kb,rfl,rfl,p1,p2,f1,f2,g⟩ | ⟨m,n,xs,rfl,rfl,p1,p2,g⟩ | ⟨xs,ys,ex,ey,f1,f2,g⟩
  ·have q1:=Z10 R da p1 hx
   have q2:=Z10 R db p2 hy
   rw[e0,←hK] at q1 q2
   cases neg with
   | true=>exact Y78 hu pins s σ w.H x y v u Q I rx ry ⟨da,db,q1,q2,p3,p4,p5,a _ g⟩
   | false=>exact Y16 hu pins s σ w.H x y v u Q I rx ry ⟨da,db,q1,q2,p3,p4,p5,a _ g⟩
  ·obtain⟨_,rfl⟩:=Zg.mp hx
   obtain⟨_,rfl⟩:=Zg.mp hy
   obtain⟨_,va,ha,ra⟩:=R.dict p1
   obtain⟨_,vb,hb,rb⟩:=R.dict p2
   cases (show v=Au (w.μ m) from rx)
   cases (show u=Au (w.μ n) from ry)
   obtain⟨_,s1,ua,k1,d1⟩:=Zv9 I.hok ha
   obtain⟨_,s2,ub,k2,d2⟩:=Zv9 I.hok hb
   have hits:=Jh (A:=X.A.in1) (s:=s) (pins:=pins) (σ:=σ) rb k2 f2 f1 ra k1
   have hl:(ua.length==ub.length&&(ka.all fun kv=>match valD kb kv.1 with
    | some y=>eqF kv.2 y
    | none=>false))=eqKV ka kb:=by
    unfold eqKV
    rw[←k1.length,←k2.length,ra.length,rb.length]
    all_goals rfl
   cases neg with
   | true=>exact PySem.W.keq_ne s1 s2 d1 d2 (by omega) (fun _=>hits) ⟨.bl _,w.H,I,rfl,by rw[hl];exact a _ g⟩
   | false=>exact PySem.W.keq_eq s1 s2 d1 d2 (by omega) (fun _=>hits) ⟨.bl _,w.H,I,rfl,by rw[hl];exact a _ g⟩
  ·obtain⟨_,rfl⟩:=Zg.mp hx
   obtain⟨_,rfl⟩:=Zg.mp hy
   obtain⟨_,va,ha,ra,_⟩:=R.listL p1
   obtain⟨_,vb,hb,rb,_⟩:=R.listL p2
   rw[e0,←hK] at ha hb
   unfold RDs at rb
   subst rb
   cases (show v=Au (w.μ m) from rx)
   cases (show u=Au (w.μ n) from ry)
   have he:va.isEmpty=xs.isEmpty:=by have:=ra.length;cases va<;>cases xs<;>simp_all
   exact Zl7 I hu neg ha hb (by rw[he];exact a _ g)
  ·have tp:∀{d:D} {zs:List D} {x:V},(d= .tup zs∨d= .gtup zs)→RD w d x→∃p vs,x= .ref p∧SqT X.K w.H p vs∧RDs w zs vs:=by
    rintro d zs x (rfl | rfl) r
    ·obtain⟨p,vs,e,q1,q2⟩:=Y5.mp r
     exact⟨p,vs,e,.of q1,q2⟩
    ·obtain⟨p,vs,e,q1,q2⟩:=Xo.mp r
     rw[e0,←hK] at q1
     exact⟨p,vs,e,q1,q2⟩
   obtain⟨p,va,rfl,ha,ra⟩:=tp ex hx
   obtain⟨p2,vb,rfl,hb,rb⟩:=tp ey hy
   cases (show v=Au p from rx)
   cases (show u=Au p2 from ry)
   exact Zr6 I hu neg ha hb (Xu f1 ra) (Xu f2 rb) (by rw[E5 f1 f2 ra rb];exact a _ g)
theorem Ng:∀{xs:List (List D)} {vs:List V},RDs w (xs.map .tup) vs→(xs.all fun zs=>zs.all Zu)=true→∃ts:List (List V),ts.length=vs.length∧(∀(j:Nat) u,vs[j]?=some u→∃a us,u= .ref a∧w.H a=some (.tup us)∧ts[j]?=some us∧us.all Yy=true)∧∀(ys:List D) (t:List V),ys.all Zu=true→RDs w ys t→(ts.any fun us=>eqVs us t)=xs.any fun zs=>eqFs zs ys
 | [],vs,h,_=>by
  rw[Le] at h
  unfold RDs at h
  subst h
  exact⟨[],rfl,fun j u e=>by simp at e,fun _ _ _ _=>rfl⟩
 | z::zs,vs,h,f=>by
  rw[Dd] at h
  unfold RDs at h
  obtain⟨v,r,rfl,h1,h2⟩:=h
  rw[Hv,Bz9] at f
  obtain⟨a,us,rfl,k1,k2⟩:=Y5.mp h1
  obtain⟨ts,t1,t2,t3⟩:=Ng h2 f.2
  refine⟨us::ts,by rw[Ar,Ar,t1],fun j u e=>?_,fun ys t fy ry=>by rw[Ix,Ix,t3 ys t fy ry,E5 f.1 fy k2 ry]⟩
  cases j with
  | zero=>cases e;exact⟨a,us,rfl,k1,rfl,Xu f.1 k2⟩
  | succ j=>
   obtain⟨a',us',e1,e2,e3,e4⟩:=t2 j u (by simpa using e)
   exact⟨a',us',e1,e2,by simpa using e3,e4⟩
theorem Yd9{H:Hp}(I:Inv X pins σ H s)(hu:X.A.units+64<cLine)(neg:Bool){p b:Addr}{ts:List (List V)}{t:List V}(hx:SqL X.K H p xs)(hl:xs.length=ts.length)(ht:∀(j:Nat) u,xs[j]?=some u→∃a us,u= .ref a∧H a=some (.tup us)∧ts[j]?=some us∧us.all Yy=true)(hb:H b=some (.tup t))(ft:t.all Yy=true)
  (q:Q (.bl (if neg then !(ts.any fun us=>eqVs us t) else ts.any fun us=>eqVs us t)) H):
  wpAny (model X.prog X.w) X.A (compareOp (if neg then .NotIn else .In) (.ref b) (.ref p)) (EP X pins σ Q) X.xe s:=by
 obtain⟨its,r,pl,hz⟩:=I.list hx
 have at':∀(j:Nat) w,its[j]?=some w→∃a us,w= .ref a∧H a=some (.tup us)∧ts[j]?=some us∧us.all Yy=true:=by
  intro j w hw
  have hj:j<xs.length:=by rw[r.length];exact(Ac.mp hw).1
  obtain⟨a,us,e1,e2,e3,e4⟩:=ht j xs[j] (Ag hj)
  obtain⟨w',w1,w2⟩:=r.get (Ag hj)
  rw[hw] at w1
  cases w1
  rw[e1] at w2
  cases w2
  exact⟨a,us,rfl,e2,e3,e4⟩
 have ev:∀(a:Addr) (us:List V),H a=some (.tup us)→eqUT H t (.ref a)=eqVs us t:=by
  intro a us e
  show(match H a with | some (.tup vs)=>eqVs vs t | _=>false)=_
  rw[e]
 have he:∀w∈its.toArray,Dp X.A.in1 s w (.ref b) (eqUT H t w):=by
  intro w hw
  obtain⟨j,hj⟩:=List.getElem?_of_mem (show w∈its by simpa using hw)
  obtain⟨a,us,rfl,e2,e3,e4⟩:=at' j w hj
  rw[ev a _ e2]
  exact Y07 I (by show X.A.units+1+2<cLine;omega) e2 hb e4 ft
 have any:its.toArray.any (eqUT H t)=ts.any fun us=>eqVs us t:=by
  rw[show its.toArray.any (eqUT H t)=its.any (eqUT H t) by simp]
  have:its.map (eqUT H t)=ts.map fun us=>eqVs us t:=by
   refine List.ext_getElem? fun j=>?_
   rw[Ai,Ai]
   cases hw:its[j]? with
   | none=>
    rw[Hn (by rw[←hl,r.length];exact Hk.mp hw)]
    rfl
   | some w=>
    obtain⟨a,us,rfl,e2,e3,e4⟩:=at' j w hw
    rw[e3]
    show some _=some _
    rw[ev a _ e2]
  have e1:its.any (eqUT H t)=(its.map (eqUT H t)).any id:=by rw[List.any_map];rfl
  have e2:(ts.any fun us=>eqVs us t)=(ts.map fun us=>eqVs us t).any id:=by rw[List.any_map];rfl
  rw[e1,e2,this]
 cases neg with
 | true=>exact SeqAt.notIn_listAt (eqUT H t) pl.isList he ⟨.bl _,H,I,rfl,by rw[any];exact q⟩
 | false=>exact SeqAt.in_listAt (eqUT H t) pl.isList he ⟨.bl _,H,I,rfl,by rw[any];exact q⟩
theorem E9(hK:X.K=w0.K)(hu:X.A.units+64<cLine)(neg:Bool):OpR X (compareOp (if neg then .NotIn else .In)) (rB w0 fun M x y Q=>inQ M x y fun b=>Q (if neg then !b else b)):=by
 intro pins s σ H x y v u Q I rx ry h
 obtain⟨w,M,dx,dy,QD,rfl,e0,R,hx,hy,g,a⟩:=h
 have seq:∀{p:Addr} {vs:List V} {xs:List D},y= .ref p→(SqL X.K w.H p vs∨SqT X.K w.H p vs)→RDs w xs vs→Zu dx=true→xs.all Zu=true→QD (if neg then !inD dx xs else inD dx xs)→
   wpAny (model X.prog X.w) X.A (compareOp (if neg then .NotIn else .In) v u) (EP X pins σ Q) X.xe s:=by
  intro p vs xs ey q1 q2 g2 g3 g4
  obtain⟨i1,i2⟩:=Zm8 g2 hx g3 q2
  cases neg with
  | true=>exact J7 pins s σ w.H _ _ v u Q I rx ry ⟨p,vs,ey,q1,Wb g2 hx,i2,by rw[i1];exact a _ g4⟩
  | false=>exact Z83 pins s σ w.H _ _ v u Q I rx ry ⟨p,vs,ey,q1,Wb g2 hx,i2,by rw[i1];exact a _ g4⟩
 unfold inQ at g
 split at g
 ·cases Zm.mp hx;cases Zm.mp hy
  cases neg with
  | true=>exact Jf pins s σ w.H _ _ v u Q I rx ry ⟨_,_,rfl,rfl,a _ g⟩
  | false=>exact Zb6 pins s σ w.H _ _ v u Q I rx ry ⟨_,_,rfl,rfl,a _ g⟩
 ·obtain⟨_,rfl⟩:=Zg.mp hy
  rcases g with⟨xs,g1,g2,g3,g4⟩ | ⟨kvs,k,g1,g2,g3⟩ | ⟨ys,xs,rfl,g1,g2,g3,g4⟩ | ⟨kvs,ks,rfl,g1,g3⟩
  ·obtain⟨_,vs,q1,q2,_⟩:=R.listL g1
   rw[e0,←hK] at q1
   exact seq rfl (.inl q1) q2 g2 g3 g4
  ·obtain⟨_,vs,q1,q2⟩:=R.dict g1
   cases Oj g2 hx
   cases (show u=Au _ from ry)
   have hv:valV vs k=none∧valD kvs k=none∨∃d v',valD kvs k=some d∧valV vs k=some v':=by
    rcases q2.val k with⟨n1,n2⟩ | ⟨d,v',n1,n2,_⟩
    ·exact .inl ⟨n2,n1⟩
    ·exact .inr ⟨d,v',n1,n2⟩
   have hb:(valV vs k).isSome=(valD kvs k).isSome:=by
    rcases hv with⟨n1,n2⟩ | ⟨d,v',n1,n2⟩
    ·rw[n1,n2];rfl
    ·rw[n1,n2];rfl
   have hu1:X.A.units+1<cLine:=by omega
   cases neg with
   | true=>exact Z34 hu1 I (DGet.k (k:=k) q1) rx fun s' I'=>⟨.bl (!(valV vs k).isSome),w.H,I',rfl,by rw[hb];exact a _ g3⟩
   | false=>exact d_in hu1 I (DGet.k (k:=k) q1) rx fun s' I'=>⟨.bl (valV vs k).isSome,w.H,I',rfl,by rw[hb];exact a _ g3⟩
  ·obtain⟨_,vs,q1,q2,_⟩:=R.listL g1
   rw[e0,←hK] at q1
   obtain⟨b,us,rfl,hb,rb⟩:=Y5.mp hx
   cases (show v=Au b from rx)
   cases (show u=Au _ from ry)
   obtain⟨ts,h1,h2,h3⟩:=Ng q2 g3
   refine Yd9 I hu neg q1 h1.symm h2 hb (Xu g2 rb) ?_
   rw[h3 _ _ g2 rb]
   exact a _ g4
  ·obtain⟨_,vs,q1,q2⟩:=R.dictP g1
   obtain⟨b,rfl,hb⟩:=Ox hx
   cases (show u=Au _ from ry)
   have hb2:(valV vs ks).isSome=(valD kvs ks).isSome:=by
    rcases q2.val ks with⟨n1,n2⟩ | ⟨d,v',n1,n2,_⟩
    ·rw[n1,n2];rfl
    ·rw[n1,n2];rfl
   have hu1:X.A.units+1<cLine:=by omega
   cases neg with
   | true=>exact Z34 hu1 I (DGet.t (k:=ks) q1 hb) rx fun s' I'=>⟨.bl (!(valV vs ks).isSome),w.H,I',rfl,by rw[hb2];exact a _ g3⟩
   | false=>exact d_in hu1 I (DGet.t (k:=ks) q1 hb) rx fun s' I'=>⟨.bl (valV vs ks).isSome,w.H,I',rfl,by rw[hb2];exact a _ g3⟩
 ·obtain⟨p,vs,e,q1,q2⟩:=Y5.mp hy
  exact seq e (.inr (.of q1)) q2 g.1 g.2.1 g.2.2
 ·obtain⟨p,vs,e,q1,q2⟩:=Xo.mp hy
  rw[e0,←hK] at q1
  exact seq e (.inr q1) q2 g.1 g.2.1 g.2.2
 ·exact g.elim
theorem F8(hK:X.K=w0.K)(hu:X.A.units+64<cLine)(op:Cm):OpR X (compareOp (cmOf op)) (rB w0 fun M=>cmD M op):=by
 intro pins s σ H x y v u Q I rx ry h
 obtain⟨w,M,dx,dy,QD,rfl,e0,R,hx,hy,g,a⟩:=h
 cases op with
 | lt=>
  obtain⟨i,j,rfl,rfl,g2⟩:=Y6 g;clear g;have g:=g2
  cases Ze.mp hx;cases Ze.mp hy
  exact Yd7 pins s σ w.H _ _ v u Q I rx ry ⟨_,_,rfl,rfl,a _ g⟩
 | le=>
  obtain⟨i,j,rfl,rfl,g2⟩:=Y6 g;clear g;have g:=g2
  cases Ze.mp hx;cases Ze.mp hy
  exact Ya6 pins s σ w.H _ _ v u Q I rx ry ⟨_,_,rfl,rfl,a _ g⟩
 | gt=>
  obtain⟨i,j,rfl,rfl,g2⟩:=Y6 g;clear g;have g:=g2
  cases Ze.mp hx;cases Ze.mp hy
  exact Yd5 pins s σ w.H _ _ v u Q I rx ry ⟨_,_,rfl,rfl,a _ g⟩
 | ge=>
  obtain⟨i,j,rfl,rfl,g2⟩:=Y6 g;clear g;have g:=g2
  cases Ze.mp hx;cases Ze.mp hy
  exact Yb5 pins s σ w.H _ _ v u Q I rx ry ⟨_,_,rfl,rfl,a _ g⟩
 | eq=>
  exact Ev hK hu false pins s σ w.H x y v u Q I rx ry ⟨w,M,_,_,QD,rfl,e0,R,hx,hy,g,a⟩
 | ne=>
  exact Ev hK hu true pins s σ w.H x y v u Q I rx ry ⟨w,M,_,_,QD,rfl,e0,R,hx,hy,g,a⟩
 | is=>
  cases dy with
  | non=>
   cases dx with
   | non=>
    cases Zw.mp hx;cases Zw.mp hy
    exact R7 pins s σ w.H _ _ v u Q I rx ry ⟨rfl,a _ g⟩
   | bl b=>
    cases Yw.mp hx;cases Zw.mp hy
    exact R7 pins s σ w.H _ _ v u Q I rx ry ⟨rfl,a _ g⟩
   | int i=>
    cases Ze.mp hx;cases Zw.mp hy
    exact R7 pins s σ w.H _ _ v u Q I rx ry ⟨rfl,a _ g⟩
   | str z=>
    cases Zm.mp hx;cases Zw.mp hy
    exact R7 pins s σ w.H _ _ v u Q I rx ry ⟨rfl,a _ g⟩
   | tup l=>
    obtain⟨_,_,rfl,_⟩:=Y5.mp hx;cases Zw.mp hy
    exact R7 pins s σ w.H _ _ v u Q I rx ry ⟨rfl,a _ g⟩
   | ref n=>
    obtain⟨_,rfl⟩:=Zg.mp hx;cases Zw.mp hy
    exact R7 pins s σ w.H _ _ v u Q I rx ry ⟨rfl,a _ g⟩
   | exn e C d q=>
    obtain⟨rfl,_⟩:=Fc.mp hx;cases Zw.mp hy
    exact R7 pins s σ w.H _ _ v u Q I rx ry ⟨rfl,a _ g⟩
   | _=>exact Dq g
  | _=>exact Dq g
 | isin=>
  exact E9 hK hu false pins s σ w.H x y v u Q I rx ry ⟨w,M,_,_,QD,rfl,e0,R,hx,hy,g,a⟩
 | notin=>
  exact E9 hK hu true pins s σ w.H x y v u Q I rx ry ⟨w,M,_,_,QD,rfl,e0,R,hx,hy,g,a⟩
end
theorem RKV.isEmpty(h:RKV w ds vs):vs.isEmpty=ds.isEmpty:=by
 cases ds with
 | nil=>unfold RKV at h;subst h;rfl
 | cons p ds=>obtain⟨k,d⟩:=p;unfold RKV at h;obtain⟨v,r,rfl,_⟩:=h;rfl
theorem RDs.isEmpty(h:RDs w ds vs):vs.isEmpty=ds.isEmpty:=by
 cases ds with
 | nil=>unfold RDs at h;subst h;rfl
 | cons d ds=>unfold RDs at h;obtain⟨v,r,rfl,_⟩:=h;rfl
theorem Ww{K:Af}{d:D}{x:V}(hK:w.K=K)(R:RS w M)(r:RD w d x)(g:truD M d QD):∃k,TruV K x w.H k∧QD k:=by
 unfold truD at g
 split at g
 ·cases Zw.mp r;exact⟨_,rfl,g⟩
 ·cases Yw.mp r;exact⟨_,rfl,g⟩
 ·cases Ze.mp r;exact⟨_,rfl,g⟩
 ·cases Zm.mp r;exact⟨_,⟨g.1,rfl⟩,g.2⟩
 ·obtain⟨a,vs,rfl,q1,q2⟩:=Y5.mp r
  exact⟨_,.inr (.inl ⟨vs,.of q1,rfl⟩),by rw[q2.isEmpty];exact g⟩
 ·obtain⟨_,rfl⟩:=Zg.mp r
  rcases g with⟨xs,g1,g2⟩ | ⟨xs,g1,g2⟩
  ·obtain⟨_,vs,q1,q2,_⟩:=R.listL g1
   rw[hK] at q1
   exact⟨_,.inl ⟨vs,q1,rfl⟩,by rw[q2.isEmpty];exact g2⟩
  ·obtain⟨_,vs,q1,q2⟩:=R.dict g1
   exact⟨_,.inr (.inr ⟨vs,q1,rfl⟩),by rw[q2.isEmpty];exact g2⟩
 ·exact g.elim
theorem Jz{i:Int}{d:D}(r:RDs w xs vs)(h:atI xs i=some d):∃v,atI vs i=some v∧RD w d v:=by
 unfold atI at *
 rw[r.length]
 obtain⟨j,h1,h2⟩:=Ik.mp h
 obtain⟨v,q1,q2⟩:=r.get h2
 exact⟨v,by rw[h1];exact q1,q2⟩
theorem Jw{w:Vw}{xs:List D}{vs:List V}{lo hi:Option Int}(r:RDs w xs vs):RDs w (cutD xs lo hi) (cutV vs lo hi):=by
 unfold cutD cutV
 rw[r.length]
 exact(r.drop _).take _
section
variable{X:Cx}{w0:Vw}
theorem Z04(hu:X.A.units+1<cLine):IxR X (fun x y H Q=>∃a v,x= .ref a∧DGet H a y (some v)∧Q v H):=by
 intro value slice pins s σ H x y v u Q I rx ry h hs
 obtain⟨a,vv,rfl,g,q⟩:=h
 cases rx
 have hT:=Gm I g
 have h₂:wpAny (model X.prog X.w) X.A (getItem (.ref a) u) (EP X pins σ Q) X.xe s:=Br hu I g ry fun w' s3 I3 rw'=>⟨vv,H,I3,rw',q⟩
 unfold subscriptTail
 refine Aa ?_
 rw[getitemInPython_of_ne hT.not_modules]
 refine Aa (wpAny_specialOf hT PySem.F.slot_dict_getitem.lookup ?_)
 have fin:wpAny (model X.prog X.w) X.A (subscripted slice false (.ref a) u) (fun r s₃=>wpAny (model X.prog X.w) X.A (letTemporaryGo value (.ref a) r >>=fun _=>pure r) (EP X pins σ Q) X.xe s₃) X.xe s:=by
  rw[hs]
  exact wpAny_operating (Hl h₂ (fun r s₃ h₃=>Aa (wpAny_letTemporaryGo (Ak h₃))) fun _ _ x=>x)
 first
  | exact Ak (Aa fin)
  | exact Aa (Ak (Aa fin))
  | exact Aa fin
def rX(w0:Vw):R2:=fun x y H Q=>∃w M dx dy QD,w.H=H∧w.K=w0.K∧RS w M∧RD w dx x∧RD w dy y∧ixD M dx dy QD∧∀d v,QD d→RD w d v→Q v H
theorem Ze4(hK:X.K=w0.K)(hu:X.A.units+64<cLine):IxR X (rX w0):=by
 intro value slice pins s σ H x y v u Q I rx ry h hs
 obtain⟨w,M,dx,dy,QD,rfl,e0,R,hx,hy,g,a⟩:=h
 unfold ixD at g
 split at g
 ·obtain⟨_,rfl⟩:=Zg.mp hx
  rcases g with⟨xs,i,d,rfl,g1,g2,g3⟩ | ⟨kvs,k,d,g1,g2,g3,g4⟩ | ⟨kvs,ks,d,g1,rfl,g3,g4⟩
  ·cases Ze.mp hy
   obtain⟨_,vs,q1,q2,_⟩:=R.listL g1
   rw[e0,←hK] at q1
   obtain⟨vv,z1,z2⟩:=Jz q2 g2
   exact Zs2 value slice pins s σ w.H _ _ v u Q I rx ry ⟨_,vs,i,vv,rfl,rfl,q1,z1,a _ _ g3 z2⟩ hs
  ·obtain⟨vs,q1,q2⟩:=R.dictF g1
   cases Oj g2 hy
   rcases q2.val k with⟨n1,n2⟩ | ⟨d',v',n1,n2,n3⟩
   ·rw[n1] at g3;cases g3
   ·rw[n1] at g3;cases g3
    refine Z04 (by omega) value slice pins s σ w.H _ _ v u Q I rx ry ⟨_,v',rfl,?_,a _ _ g4 n3⟩ hs
    have:DGet w.H (w.μ _) (kV k) (valV vs k):= .inl ⟨vs,k,q1,rfl,rfl⟩
    rw[n2] at this
    exact this
  ·obtain⟨_,vs,q1,q2⟩:=R.dictP g1
   obtain⟨b,rfl,hb⟩:=Ox hy
   rcases q2.val ks with⟨n1,n2⟩ | ⟨d',v',n1,n2,n3⟩
   ·rw[n1] at g3;cases g3
   ·rw[n1] at g3;cases g3
    refine Z04 (by omega) value slice pins s σ w.H _ _ v u Q I rx ry ⟨_,v',rfl,?_,a _ _ g4 n3⟩ hs
    have:=DGet.t (k:=ks) q1 hb
    rw[n2] at this
    exact this
 ·cases Ze.mp hy
  obtain⟨p,vs,rfl,q1,q2⟩:=Y5.mp hx
  obtain⟨d,g1,g2⟩:=g
  obtain⟨vv,z1,z2⟩:=Jz q2 g1
  exact Zo9 value slice pins s σ w.H _ _ v u Q I rx ry ⟨_,vs,_,vv,rfl,rfl,.of q1,z1,a _ _ g2 z2⟩ hs
 ·cases Ze.mp hy
  obtain⟨p,vs,rfl,q1,q2⟩:=Xo.mp hx
  rw[e0,←hK] at q1
  obtain⟨d,g1,g2⟩:=g
  obtain⟨vv,z1,z2⟩:=Jz q2 g1
  exact Zo9 value slice pins s σ w.H _ _ v u Q I rx ry ⟨_,vs,_,vv,rfl,rfl,q1,z1,a _ _ g2 z2⟩ hs
 ·cases Ze.mp hy;cases Zm.mp hx
  obtain⟨g0,c,g1,g2⟩:=g
  exact Y13 value slice pins s σ w.H _ _ v u Q I rx ry ⟨_,_,c,rfl,rfl,g0,g1,a _ _ g2 (Zm.mpr rfl)⟩ hs
 ·exact g.elim
theorem Y76:SlR X (fun x lo hi H Q=>∃z,x= .str z∧z.length≤sizeLine∧Q (.str (Ig z lo hi)) H):=by
 intro pins s σ H x v vl vu lo hi sl Q I rx hs pl pu h
 obtain⟨z,rfl,hz,q⟩:=h
 obtain⟨t,rfl⟩:=rx
 have key:∀l u:Option (Int×Tok),l.map (·.1)=lo→u.map (·.1)=hi→vl=partValue l→vu=partValue u→wpAny (model X.prog X.w) X.A (getItem (.str z t) (.ref sl)) (EP X pins σ Q) X.xe s:=by
  intro l u e1 e2 e3 e4
  subst e1 e2 e3 e4
  refine wpAny_getItem_str_slice (l:=l) (u:=u) (st:=none) hs rfl ?_
  exact post_val_or_str ⟨Nat.le_trans (Txt.slice_le z _ _) hz,fun t' k=>⟨.str (Ig z _ _),H,I.tok _,⟨_,rfl⟩,q⟩⟩
 refine⟨"str",_,PySem.F.slot_str_getitem.lookup,typeIs_str _ _ _,?_⟩
 cases pl with
 | none=>
  cases pu with
  | none=>exact key none none rfl rfl rfl rfl
  | int j tj=>exact key none (some (j,tj)) rfl rfl rfl rfl
 | int i ti=>
  cases pu with
  | none=>exact key (some (i,ti)) none rfl rfl rfl rfl
  | int j tj=>exact key (some (i,ti)) (some (j,tj)) rfl rfl rfl rfl
def rSl(w0:Vw):V→Option Int→Option Int→Hp→VK→Prop:=fun x lo hi H Q=>∃w M dx QD,w.H=H∧w.K=w0.K∧RS w M∧RD w dx x∧slD dx lo hi M QD∧Aft w QD Q
theorem Zh4(hK:X.K=w0.K):SlR X (rSl w0):=by
 intro pins s σ H x v vl vu lo hi sl Q I rx hs pl pu h
 obtain⟨w,M,dx,QD,rfl,e0,R,hx,g,a⟩:=h
 unfold slD at g
 split at g
 ·cases Zm.mp hx
  exact Y76 pins s σ w.H _ v vl vu _ _ sl Q I rx hs pl pu ⟨_,rfl,g.1,a _ w _ M (Ext.refl w) R (Zm.mpr rfl) g.2⟩
 ·obtain⟨_,rfl⟩:=Zg.mp hx
  obtain⟨xs,g1,g2⟩:=g
  obtain⟨_,vs,q1,q2,_⟩:=R.listL g1
  rw[e0,←hK] at q1
  refine Zs1 pins s σ w.H _ v vl vu _ _ sl Q I rx hs pl pu ⟨_,vs,rfl,q1,fun p hp=>?_⟩
  obtain⟨x1,x2,x3⟩:=X9 R hp (Jw (lo:=lo) (hi:=hi) q2)
  exact a _ _ _ _ x1 x2 x3 g2
 ·obtain⟨p,vs,rfl,q1,q2⟩:=Y5.mp hx
  refine Zp3 pins s σ w.H _ v vl vu _ _ sl Q I rx hs pl pu ⟨_,vs,rfl,.of q1,by rw[q2.length];exact g.1,fun p hp=>?_⟩
  obtain⟨x1,x2,x3⟩:=Wr R hp (Jw (lo:=lo) (hi:=hi) q2)
  exact a _ _ _ _ x1 x2 x3 g.2
 ·exact g.elim
def rC(w0:Vw)(g:List D→Z2→DK→Prop):List V→Hp→VK→Prop:=fun xs H Q=>∃w M ds QD,w.H=H∧w.K=w0.K∧RS w M∧RDs w ds xs∧g ds M QD∧Aft w QD Q
noncomputable def bfOf:Bf→Str×Value
 | .len=>("len",.builtin "len") | .isinst=>("isinstance",.builtin "isinstance") | .min2=>("min",.builtin "min") | .max2=>("max",.builtin "max")
 | .list1=>("list",.type "list") | .int1=>("int",.type "int")
theorem rds1{d:D}(h:RDs w [d] xs):∃v,xs=[v]∧RD w d v:=by
 unfold RDs at h
 obtain⟨v,r,rfl,h1,h2⟩:=h
 unfold RDs at h2
 subst h2
 exact⟨v,rfl,h1⟩
theorem rds2{d e:D}(h:RDs w [d,e] xs):∃v u,xs=[v,u]∧RD w d v∧RD w e u:=by
 unfold RDs at h
 obtain⟨v,r,rfl,h1,h2⟩:=h
 obtain⟨u,rfl,h3⟩:=rds1 h2
 exact⟨v,u,rfl,h1,h3⟩
theorem rds0(h:RDs w [] xs):xs=[]:=by unfold RDs at h;exact h
theorem Z96:∀{as:List Addr} {vs:List V},RDs w (as.map D.cls) vs→vs=as.map V.ref
 | [],vs,h=>rds0 h
 | a::r,vs,h=>by
  rw[Dd] at h
  unfold RDs at h
  obtain⟨v,vs',rfl,h1,h2⟩:=h
  rw[Zn1.mp h1,Z96 h2]
  rfl
def Ye6(K:Af):List V→Hp→VK→Prop:=fun xs H Q=>∃(e C dx:Addr) (fs:List (Str×V)) (p:Addr) (as:List Addr) (b:Bool),xs=[.ref e,.ref p]∧H e=some (XO e (.ref C) (some dx))∧H dx=some (.xd fs)∧ExcIs K C∧H p=some (.tup (as.map V.ref))∧PySem.W.kitAny K (.ref C) (as.map Au)=some b∧Q (.bl b) H
theorem Wz:∀{as:List Addr} {us:List Value},Vals (as.map V.ref) us→us=as.map Au
 | [],us,h=>by cases h;rfl
 | a::r,us,h=>by
  cases h with
  | cons h1 h2=>
   obtain rfl:_=Au a:=h1
   rw[Wz h2]
   rfl
theorem Z69:Wm X (.builtin "isinstance") (Ye6 X.K):=by
 intro pins s σ H xs us Q I r h
 obtain⟨e,C,dx,fs,p,as,b,rfl,he,hd,S,hp,k,q⟩:=h
 obtain⟨u,v,rfl,ru,rv⟩:=O7 r
 obtain rfl:u=Au e:=ru
 obtain rfl:v=Au p:=rv
 obtain⟨oe,od,mA,J,_⟩:=Fa I he hd
 obtain⟨its,r',⟨⟨oc,odd,dat,sl⟩,g1,g2,n,g3⟩,hz⟩:=I.tuple (.of hp)
 cases Wz r'
 dsimp only at g2 g3
 subst g2 g3
 exact PySem.W.kia_tup (Fw S) I.kIn J g1 k (fun z=>nomatch z) fun tk=>⟨.bl b,H,I.tok tk,rfl,q⟩
theorem Y01{K:Af}{d:D}{x:V}{t:String}(R:RS w M)(r:RD w d x)(h:tyD M d=some t):TyOf K w.H x (.type t):=by
 unfold tyD at h
 split at h
 ·cases h;cases Zw.mp r;exact .non
 ·cases h;cases Yw.mp r;exact .bl _
 ·cases h;cases Ze.mp r;exact .int _
 ·cases h;cases Zm.mp r;exact .str _
 ·cases h;obtain⟨a,vs,rfl,q,_⟩:=Y5.mp r;exact .tup q
 ·obtain⟨_,rfl⟩:=Zg.mp r
  split at h
  ·rename_i e;cases h;obtain⟨vs,q,_⟩:=R.cell _ _ e;exact .lst q
  ·cases h
  ·rename_i e;cases h;obtain⟨vs,q,_⟩:=R.cell _ _ e;exact .dK q
  ·cases h
  ·cases h
  ·cases h
 ·cases h
noncomputable def Q0:Bf→Bool
 | .min2 | .max2=>false
 | _=>true
theorem Z59:Wm X (.type "int") (fun xs H Q=>∃b,xs=[.bl b]∧Q (.int (if b then 1 else 0)) H):=by
 intro pins s σ H xs us Q I r h
 obtain⟨b,rfl,q⟩:=h
 obtain⟨u,rfl,e⟩:=Nw r
 cases e
 exact call_int_bool ⟨.int _,H,I.tok _,⟨_,rfl⟩,q⟩
theorem Zg1(hK:X.K=w0.K)(b:Bf)(hc:X.calm=true∨Q0 b=true):Wm X (bfOf b).2 (rC w0 (bfD w0.K b)):=by
 intro pins s σ H xs us Q I r h
 obtain⟨w,M,ds,QD,rfl,e0,R,hx,g,a⟩:=h
 cases b with
 | len=>
  obtain⟨x,rfl,g2⟩:=Ti g;clear g;have g:=g2
  cases x with
  | ref n=>
   obtain⟨v,rfl,r1⟩:=rds1 hx
   obtain⟨_,rfl⟩:=Zg.mp r1
   rcases g with⟨xs,g1,g2⟩ | ⟨xs,g1,g2⟩
   ·obtain⟨_,vs,q1,q2,_⟩:=R.listL g1
    rw[e0,←hK] at q1
    exact Tu pins s σ w.H _ us Q I r ⟨_,vs,rfl,.inl q1,a _ w _ M (Ext.refl w) R (Ze.mpr (by rw[q2.length])) g2⟩
   ·obtain⟨_,vs,q1,q2⟩:=R.dict g1
    exact Z12 pins s σ w.H _ us Q I r ⟨_,vs,rfl,q1,a _ w _ M (Ext.refl w) R (Ze.mpr (by rw[q2.length])) g2⟩
  | tup l=>
   obtain⟨v,rfl,r1⟩:=rds1 hx
   obtain⟨p,vs,rfl,q1,q2⟩:=Y5.mp r1
   exact Tu pins s σ w.H _ us Q I r ⟨_,vs,rfl,.inr (.of q1),a _ w _ M (Ext.refl w) R (Ze.mpr (by rw[q2.length])) g⟩
  | str z=>
   obtain⟨v,rfl,r1⟩:=rds1 hx
   cases Zm.mp r1
   exact Ny pins s σ w.H _ us Q I r ⟨_,rfl,g.1,a _ w _ M (Ext.refl w) R (Ze.mpr rfl) g.2⟩
  | _=>exact Dq g
 | isinst=>
  obtain⟨x,y,rfl,g2⟩:=Vn g;clear g;have g:=g2
  obtain⟨v,u,rfl,r1,r2⟩:=rds2 hx
  unfold isD at g
  split at g
  ·obtain⟨b,g1,g2,g3⟩:=g
   obtain⟨rfl,q1,row,q2,q3⟩:=Fc.mp r1
   cases Zn1.mp r2
   rw[←hK] at g1 g2
   exact Ed pins s σ w.H _ us Q I r ⟨_,_,_,_,_,_,b,rfl,q1,q2,g1,fun u hu=>hu,g2,a _ w _ M (Ext.refl w) R (Yw.mpr rfl) g3⟩
  ·obtain⟨b,g1,g2,g3⟩:=g
   obtain⟨rfl,q1,row,q2,q3⟩:=Fc.mp r1
   cases Zw0.mp r2
   rw[←hK] at g1 g2
   exact Ed pins s σ w.H _ us Q I r ⟨_,_,_,_,_,_,b,rfl,q1,q2,g1,fun u hu=>hu,g2,a _ w _ M (Ext.refl w) R (Yw.mpr rfl) g3⟩
  ·obtain⟨as,b,rfl,g1,g2,g3⟩:=g
   obtain⟨rfl,q1,row,q2,q3⟩:=Fc.mp r1
   obtain⟨p,vs,rfl,q4,q5⟩:=Y5.mp r2
   cases Z96 q5
   rw[←hK] at g1 g2
   exact Z69 pins s σ w.H _ us Q I r ⟨_,_,_,_,_,_,b,rfl,q1,q2,g1,q4,g2,a _ w _ M (Ext.refl w) R (Yw.mpr rfl) g3⟩
  ·obtain⟨t,b,g1,g2,g3⟩:=g
   cases Zw0.mp r2
   rw[←hK] at g2
   exact Zl1 pins s σ w.H _ us Q I r ⟨_,_,_,b,rfl,Y01 R r1 g1,g2,a _ w _ M (Ext.refl w) R (Yw.mpr rfl) g3⟩
  ·exact g.elim
 | min2=>
  obtain⟨x,y,rfl,g2⟩:=Vn g;clear g;have g:=g2
  obtain⟨i,j,rfl,rfl,g2⟩:=Y6 g;clear g;have g:=g2
  obtain⟨v,u,rfl,r1,r2⟩:=rds2 hx
  cases Ze.mp r1;cases Ze.mp r2
  exact Z86 (hc.resolve_right (by simp[Q0])) pins s σ w.H _ us Q I r ⟨_,_,rfl,a _ w _ M (Ext.refl w) R (Ze.mpr rfl) g⟩
 | max2=>
  obtain⟨x,y,rfl,g2⟩:=Vn g;clear g;have g:=g2
  obtain⟨i,j,rfl,rfl,g2⟩:=Y6 g;clear g;have g:=g2
  obtain⟨v,u,rfl,r1,r2⟩:=rds2 hx
  cases Ze.mp r1;cases Ze.mp r2
  exact Z27 (hc.resolve_right (by simp[Q0])) pins s σ w.H _ us Q I r ⟨_,_,rfl,a _ w _ M (Ext.refl w) R (Ze.mpr rfl) g⟩
 | list1=>
  obtain⟨x,rfl,g2⟩:=Ti g;clear g;have g:=g2
  obtain⟨v,rfl,r1⟩:=rds1 hx
  obtain⟨xs,g1,g2⟩:=g
  have:∃p vs,v= .ref p∧(SqL X.K w.H p vs∨SqT X.K w.H p vs)∧RDs w xs vs:=by
   rw[hK,←e0]
   unfold N9 at g1
   split at g1
   ·obtain⟨_,rfl⟩:=Zg.mp r1
    obtain⟨_,vs,q1,q2,_⟩:=R.listL g1
    exact⟨_,vs,rfl,.inl q1,q2⟩
   ·cases g1
    obtain⟨p,vs,rfl,q1,q2⟩:=Y5.mp r1
    exact⟨_,vs,rfl,.inr (.of q1),q2⟩
   ·cases g1
    obtain⟨p,vs,rfl,q1,q2⟩:=Xo.mp r1
    exact⟨_,vs,rfl,.inr q1,q2⟩
   ·cases g1
  obtain⟨p,vs,rfl,q1,q2⟩:=this
  refine Jg pins s σ w.H _ us Q I r ⟨p,vs,rfl,q1,fun l hl=>?_⟩
  obtain⟨x1,x2,x3⟩:=X9 R hl q2
  exact a _ _ _ _ x1 x2 x3 g2
 | int1=>
  obtain⟨x,rfl,g2⟩:=Ti g;clear g;have g:=g2
  obtain⟨i,rfl,g2⟩:=Zh6 g;clear g;have g:=g2
  obtain⟨v,rfl,r1⟩:=rds1 hx
  cases Yw.mp r1
  exact Z59 pins s σ w.H _ us Q I r ⟨_,rfl,a _ w _ M (Ext.refl w) R (Ze.mpr rfl) g⟩
end
noncomputable def mtT:Mt→String
 | .append | .pop0 | .clear | .extend=>"list"
 | .get2 | .setd=>"dict"
noncomputable def mtN:Mt→Str
 | .append=>"append" | .pop0=>"pop" | .clear=>"clear" | .extend=>"extend" | .get2=>"get" | .setd=>"setdefault"
noncomputable def mtI:Mt→String
 | .append=>"list.append" | .pop0=>"list.pop" | .clear=>"list.clear" | .extend=>"list.extend" | .get2=>"dict.get" | .setd=>"dict.setdefault"
theorem Y03:∀m:Mt,PlainAttrs (mtT m)
 | .append | .pop0 | .clear | .extend=>PySem.F.plainAttrs_list
 | .get2 | .setd=>PySem.F.plainAttrs_dict
theorem Z84:∀m:Mt,Slot (mtT m) (mtN m) (mtI m)
 | .append=>PySem.F.slot_list_append | .pop0=>PySem.F.slot_list_pop | .clear=>PySem.F.slot_list_clear | .extend=>PySem.F.slot_list_extend
 | .get2=>PySem.F.slot_dict_get
 | .setd=>PySem.F.slot_dict_setdefault
theorem Y89:∀m:Mt,typeOf (.builtin (mtI m))=pure (.type "method_descriptor")
 | .append=>PySem.F.type_list_append | .pop0=>PySem.F.type_list_pop | .clear=>PySem.F.type_list_clear | .extend=>PySem.F.type_list_extend
 | .get2=>PySem.F.type_dict_get
 | .setd=>PySem.F.type_dict_setdefault
def rM(w0:Vw)(m:Mt):V→List V→Hp→VK→Prop:=fun x xs H Q=>∃w M dx ds QD,w.H=H∧w.K=w0.K∧RS w M∧RD w dx x∧RDs w ds xs∧mtD m dx ds M QD∧Aft w QD Q
theorem Zm3{d:D}{x:V}(R:RS w M)(r:RD w d x)(h:mtK m d M):tyV w.K (mtT m) x w.H:=by
 have L:∀{n:Nat},RD w (.ref n) x→(Zc M n).isSome=true→tyV w.K "list" x w.H:=by
  intro n r h
  obtain⟨_,rfl⟩:=Zg.mp r
  obtain⟨xs,e⟩:=Ky.mp h
  obtain⟨_,vs,q1,_⟩:=R.listL e
  exact .inl ⟨rfl,vs,q1⟩
 have K:∀{n:Nat},RD w (.ref n) x→(Zs M n).isSome=true→tyV w.K "dict" x w.H:=by
  intro n r h
  obtain⟨_,rfl⟩:=Zg.mp r
  obtain⟨xs,e⟩:=Ky.mp h
  obtain⟨_,vs,q1,_⟩:=R.dict e
  exact .inr (.inr (.inl ⟨rfl,.inl ⟨vs,q1⟩⟩))
 have P:∀{n:Nat},RD w (.ref n) x→(Zq M n).isSome=true→tyV w.K "dict" x w.H:=by
  intro n r h
  obtain⟨_,rfl⟩:=Zg.mp r
  obtain⟨xs,e⟩:=Ky.mp h
  obtain⟨_,vs,q1,_⟩:=R.dictP e
  exact .inr (.inr (.inl ⟨rfl,.inr ⟨vs,q1⟩⟩))
 obtain⟨n,rfl,h⟩:=Yr h
 cases m with
 | get2=>exact K r h
 | setd=>exact P r h
 | _=>exact L r h
theorem RDs.dropLast(r:RDs w xs vs):RDs w xs.dropLast vs.dropLast:=by
 rw[List.dropLast_eq_take,List.dropLast_eq_take,r.length]
 exact r.take _
section
variable{X:Cx}{w0:Vw}
theorem Zd0(hK:X.K=w0.K)(hu:X.A.units+64<cLine)(m:Mt):MtR X (mtI m) (rM w0 m):=by
 intro pins s σ H x xs v us Q I rx r h
 obtain⟨w,M,dx,ds,QD,rfl,e0,R,hx,hs,g,a⟩:=h
 obtain⟨n,rfl,g2⟩:=Yr g;clear g;have g:=g2
 cases m with
 | append=>
  obtain⟨x,rfl,g2⟩:=Ti g;clear g;have g:=g2
  obtain⟨_,rfl⟩:=Zg.mp hx
  obtain⟨y,rfl,ry⟩:=rds1 hs
  obtain⟨ds,g1,g2,g3⟩:=g
  obtain⟨hn,vs,q1,q2⟩:=R.list g1
  obtain⟨x1,x2⟩:=Yn R hn q1 (q2.append (RDs.cons ry (RDs.nil w)))
  exact Rk pins s σ w.H _ _ v us Q I rx r ⟨_,vs,y,rfl,rfl,q1,by rw[q2.length];exact g2,a _ _ _ _ x1 x2 (Zw.mpr rfl) g3⟩
 | setd=>
  obtain⟨x,y,rfl,g2⟩:=Vn g;clear g;have g:=g2
  obtain⟨_,rfl⟩:=Zg.mp hx
  obtain⟨y,z,rfl,ry,rz⟩:=rds2 hs
  obtain⟨kvs,k,g1,rfl,g0,g2,g3⟩:=g
  obtain⟨hn,vs,q1,q2⟩:=R.dictP g1
  obtain⟨u,u2,rfl,ru,ru2⟩:=O7 r
  cases (show v=Au _ from rx)
  obtain⟨b,rfl,hb⟩:=Ox ry
  cases (show u=Au _ from ru)
  refine Zc9 (by omega) I q1 hb (by rw[q2.length];exact g0) ru2 (fun v w' s' hv I' rw'=>⟨_,w.H,I',rw',?_⟩) fun s' hv I'=>⟨_,_,I',ru2,?_⟩
  ·rcases q2.val k with⟨n1,n2⟩ | ⟨d',v',n1,n2,n3⟩
   ·rw[hv] at n2;cases n2
   ·rw[hv] at n2;cases n2
    exact a _ w _ M (Ext.refl w) R n3 (g2 _ n1)
  ·rcases q2.val k with⟨n1,n2⟩ | ⟨d',v',n1,n2,n3⟩
   ·obtain⟨t1,t2⟩:=Q3 R hn q1 (q2.put (k:=k) rz)
    exact a _ _ _ _ t1 t2 (rz.ext t1) (g3 n1)
   ·rw[hv] at n2;cases n2
 | get2=>
  obtain⟨x,y,rfl,g2⟩:=Vn g;clear g;have g:=g2
  obtain⟨_,rfl⟩:=Zg.mp hx
  obtain⟨y,z,rfl,ry,rz⟩:=rds2 hs
  obtain⟨kvs,k,g1,g2,g3⟩:=g
  obtain⟨hn,vs,q1,q2⟩:=R.dict g1
  obtain⟨u,u2,rfl,ru,ru2⟩:=O7 r
  cases (show v=Au _ from rx)
  cases Oj g2 ry
  refine Y90 (by omega) I (DGet.k (k:=k) q1) ru ru2 fun w' s' I' rw'=>⟨_,w.H,I',rw',?_⟩
  rcases q2.val k with⟨n1,n2⟩ | ⟨d',v',n1,n2,n3⟩
  ·rw[n1] at g3
   rw[n2]
   exact a _ w _ M (Ext.refl w) R rz g3
  ·rw[n1] at g3
   rw[n2]
   exact a _ w _ M (Ext.refl w) R n3 g3
 | pop0=>
  obtain⟨rfl,g2⟩:=Jy g;clear g;have g:=g2
  obtain⟨_,rfl⟩:=Zg.mp hx
  cases rds0 hs
  obtain⟨ds,d,g1,g2,g3⟩:=g
  obtain⟨hn,vs,q1,q2⟩:=R.list g1
  obtain⟨y,z1,z2⟩:=q2.get g2
  obtain⟨x1,x2⟩:=Yn R hn q1 q2.dropLast
  exact Y84 pins s σ w.H _ _ v us Q I rx r ⟨_,vs,y,rfl,rfl,q1,by rw[q2.length];exact z1,a _ _ _ _ x1 x2 (z2.ext x1) g3⟩
 | clear=>
  obtain⟨rfl,g2⟩:=Jy g;clear g;have g:=g2
  obtain⟨_,rfl⟩:=Zg.mp hx
  cases rds0 hs
  obtain⟨ds,g1,g3⟩:=g
  obtain⟨hn,vs,q1,q2⟩:=R.list g1
  obtain⟨x1,x2⟩:=Yn R hn q1 (RDs.nil w)
  exact Zd7 pins s σ w.H _ _ v us Q I rx r ⟨_,vs,rfl,rfl,q1,a _ _ _ _ x1 x2 (Zw.mpr rfl) g3⟩
 | extend=>
  obtain⟨x,rfl,g2⟩:=Ti g;clear g;have g:=g2
  obtain⟨m2,rfl,g2⟩:=Yr g;clear g;have g:=g2
  obtain⟨_,rfl⟩:=Zg.mp hx
  obtain⟨y,rfl,ry⟩:=rds1 hs
  obtain⟨_,rfl⟩:=Zg.mp ry
  obtain⟨ds,es,g1,g2,g4,g3⟩:=g
  obtain⟨hn,vs,q1,q2⟩:=R.list g1
  obtain⟨hn',vs',q1',q2'⟩:=R.list g2
  obtain⟨x1,x2⟩:=Yn R hn q1 (q2.append q2')
  exact Be pins s σ w.H _ _ v us Q I rx r ⟨_,_,vs,vs',rfl,rfl,q1,q1',by rw[q2.length,q2'.length];exact g4,a _ _ _ _ x1 x2 (Zw.mpr rfl) g3⟩
end
noncomputable def gF(w0:Vw)(tg:List Nat):TG:=fun v σ H Q=>∃w σD M d QD,StOk w0 w σD M σ H∧RD w d v∧tgD tg d σD QD∧∀σ' σD',REnv w σD' σ'→QD σD'→Q σ' H
noncomputable def gAll:List Nat→TGs
 | []=>gNil
 | i::is=>Y88 (Z42 i) (gAll is)
theorem Of{w:Vw}{H:Hp}{Q:L2.St→Hp→Prop}{QD:DEnv→Prop}(k:∀σ' σD',REnv w σD' σ'→QD σD'→Q σ' H):∀(is:List Nat) {ds:List D} {vs:List V} {σ:L2.St} {σD:DEnv},RDs w ds vs→ds.length=is.length→REnv w σD σ→
  QD ((is.zip ds).foldl (fun σ p=>σ.set p.1 (some p.2)) σD)→gAll is vs σ H Q
 | [],ds,vs,σ,σD,r,hl,e,q=>by
  cases List.length_eq_zero_iff.mp hl
  cases rds0 r
  exact⟨rfl,k _ _ e q⟩
 | i::is,ds,vs,σ,σD,r,hl,e,q=>by
  cases ds with
  | nil=>simp at hl
  | cons d ds=>
   unfold RDs at r
   obtain⟨v,vr,rfl,h1,h2⟩:=r
   refine⟨v,vr,rfl,?_⟩
   show gAll is vr (σ.set i (some v)) H Q
   exact Of k is h2 (by simpa using hl) (e.set i h1) q
section
variable{X:Cx}{w0:Vw}
theorem PG.imp{t t':TG}(h:PG X e t)(k:∀v σ H Q,t' v σ H Q→t v σ H Q):PG X e t':=fun pins s σ H v u Q I r q=>h pins s σ H v u Q I r (k v σ H Q q)
theorem Y61{i:Nat}(h:PG X e (Z42 i)):PG X e (gF w0 [i]):=PG.imp h fun v σ H Q zz61=>by obtain⟨w,σD,M,d,QD,S,r,g,k⟩:=zz61;exact k _ _ (S.env.set i r) g
theorem Z11{is:List Nat}(h:PG X e (gLst X.K is.length (gAll is))):PG X e (fun v σ H Q=>∃w σD M n ds,∃QD:DEnv→Prop,StOk w0 w σD M σ H∧X.K=w.K∧RD w (.ref n) v∧Zc M n=some ds∧ds.length=is.length∧QD ((is.zip ds).foldl (fun σ p=>σ.set p.1 (some p.2)) σD)∧∀σ' σD',REnv w σD' σ'→QD σD'→Q σ' H):=PG.imp h fun v σ H Q ⟨w,σD,M,n,ds,QD,S,hK,r,e1,g1,g2,k⟩=>by
 obtain⟨_,rfl⟩:=Zg.mp r
 obtain⟨_,vs,q1,q2,_⟩:=S.rs.listL e1
 rw[S.heap,←hK] at q1
 exact⟨_,vs,rfl,.inr q1,by rw[q2.length];exact g1,Of k is q2 g1 S.env g2⟩
theorem Zw9{is:List Nat}(hl:2≤is.length)(h:PG X e (gTup X.K is.length (gAll is))):PG X e (gF w0 is):=PG.imp h fun v σ H Q ⟨w,σD,M,d,QD,S,r,g,k⟩=>by
 unfold tgD at g
 split at g
 ·simp at hl
 ·obtain⟨a,vs,rfl,q1,q2⟩:=Y5.mp r
  obtain⟨g1,g2⟩:=g
  rw[S.heap] at q1
  exact⟨a,vs,rfl,.of q1,by rw[q2.length];exact g1,Of k is q2 g1 S.env g2⟩
 ·exact g.elim
end
structure Ck where
 N:List Str
 sc:Scope
 FN:List Str
 GN:List Str
 BN:List Str
 loops:Bool
 calm:Bool
 tries:Bool
 raises:List Nat
 cells:Bool
 own:List Str
noncomputable def Gh(scope:Scope):List Str:=(scope.names.filter fun y=>y.2== .cell).map (·.1)
noncomputable def Ck.vis(k:Ck)(x:Str):Bool:=(k.sc.names.lookup x==some .local || k.sc.names.lookup x==some .cell || k.sc.names.lookup x==some .free)&&!(x==("__debug__":Str))&&!(x==("__classdict__":Str))
noncomputable def Ck.glob(k:Ck)(x:Str):Bool:=k.sc.names.lookup x==some .globalImplicit&&!(x==("__debug__":Str))&&!(x==("__name__":Str))
noncomputable def Ck.loc(k:Ck)(x:Str):Bool:=k.sc.names.lookup x==some .local
noncomputable def Ck.locC(k:Ck)(x:Str):Bool:=k.loc x || ((k.cells || k.own.contains x)&&k.sc.names.lookup x==some .cell)
noncomputable def Bp:Expr→Bool
 | .Call (.Name x _) [] [] _=>x !=("super":Str)
 | _=>true
noncomputable def G3:Expr→Bool
 | .Slice ..=>false
 | _=>true
noncomputable def Z43:Expr→Bool
 | .Set ..=>false
 | _=>true
noncomputable def Sg:Expr→Bool
 | .Starred ..=>false
 | _=>true
noncomputable def isIn:Cm→Bool
 | .isin | .notin=>true
 | _=>false
noncomputable def Bq(k:Ck):List Nat→List Expr→Bool
 | [],[]=>true
 | i::is,.Name x _::es=>k.N[i]?==some x&&k.locC x&&Bq k is es
 | _,_=>false
noncomputable def Nc(k:Ck)(is:List Nat):Expr→Bool
 | .Name x _=>match is with
  | [i]=>k.N[i]?==some x&&k.locC x
  | _=>false
 | .Tuple es _ _=>k.calm&&decide (2≤is.length)&&Bq k is es
 | _=>false
noncomputable def chkP:List (Str×Str)→List (Option Expr)→List Expr→Bool
 | [],[],[]=>true
 | p::ps,some (.Constant (.str a) _ _)::ks,.Constant (.str b) _ _::vs=>p.1==a&&p.2==b&&chkP ps ks vs
 | _,_,_=>false
noncomputable def itTg:It→Expr→Bool
 | .enm _,.Tuple ..=>true
 | .enm _,_=>false
 | .zip _,.Tuple ..=>true
 | .zip _,_=>false
 | _,_=>true
theorem Zx{c:Prop}[Decidable c]{F:c→Bool}(h:(if q:c then F q else false)=true):∃q:c,F q=true:=by
 by_cases q:c
 ·rw[dif_pos q] at h;exact⟨q,h⟩
 ·rw[dif_neg q] at h;exact absurd h Bf9
noncomputable def Vk(zz:Expr)(F:Str→Bool):Bool:=if q:zz.ctorIdx=23 then Expr.Name.elim (motive_1:=fun _=>Bool) zz q (fun x _=>F x) else false
theorem Yb{zz:Expr}{F:Str→Bool}(h:Vk zz F=true):∃x p,zz= .Name x p∧F x=true:=by
 obtain⟨q,h⟩:=Zx h
 exact Expr.Name.elim (motive_1:=fun zz=>∀q:zz.ctorIdx=23,Expr.Name.elim (motive_1:=fun _=>Bool) zz q (fun x _=>F x)=true→∃x p,zz= .Name x p∧F x=true) zz q (fun x p _ h=>⟨x,p,rfl,h⟩) q h
noncomputable def Sr(zz:Expr)(F:Const→Bool):Bool:=if q:zz.ctorIdx=19 then Expr.Constant.elim (motive_1:=fun _=>Bool) zz q (fun v _ _=>F v) else false
theorem Xc{zz:Expr}{F:Const→Bool}(h:Sr zz F=true):∃v j p,zz= .Constant v j p∧F v=true:=by
 obtain⟨q,h⟩:=Zx h
 exact Expr.Constant.elim (motive_1:=fun zz=>∀q:zz.ctorIdx=19,Expr.Constant.elim (motive_1:=fun _=>Bool) zz q (fun v _ _=>F v)=true→∃v j p,zz= .Constant v j p∧F v=true) zz q (fun v j p _ h=>⟨v,j,p,rfl,h⟩) q h
noncomputable def Y05(zz:Expr)(F:Expr→Operator→Expr→Bool):Bool:=if q:zz.ctorIdx=2 then Expr.BinOp.elim (motive_1:=fun _=>Bool) zz q (fun l o r _=>F l o r) else false
theorem Z80{zz:Expr}{F:Expr→Operator→Expr→Bool}(h:Y05 zz F=true):∃l o r p,zz= .BinOp l o r p∧F l o r=true:=by
 obtain⟨q,h⟩:=Zx h
 exact Expr.BinOp.elim (motive_1:=fun zz=>∀q:zz.ctorIdx=2,Expr.BinOp.elim (motive_1:=fun _=>Bool) zz q (fun l o r _=>F l o r)=true→∃l o r p,zz= .BinOp l o r p∧F l o r=true) zz q (fun l o r p _ h=>⟨l,o,r,p,rfl,h⟩) q h
noncomputable def onUn(zz:Expr)(F:UnaryOp→Expr→Bool):Bool:=if q:zz.ctorIdx=3 then Expr.UnaryOp.elim (motive_1:=fun _=>Bool) zz q (fun o l _=>F o l) else false
theorem Fz{zz:Expr}{F:UnaryOp→Expr→Bool}(h:onUn zz F=true):∃o l p,zz= .UnaryOp o l p∧F o l=true:=by
 obtain⟨q,h⟩:=Zx h
 exact Expr.UnaryOp.elim (motive_1:=fun zz=>∀q:zz.ctorIdx=3,Expr.UnaryOp.elim (motive_1:=fun _=>Bool) zz q (fun o l _=>F o l)=true→∃o l p,zz= .UnaryOp o l p∧F o l=true) zz q (fun o l p _ h=>⟨o,l,p,rfl,h⟩) q h
noncomputable def Y41(zz:Expr)(F:Expr→(List CmpOp)→(List Expr)→Bool):Bool:=if q:zz.ctorIdx=15 then Expr.Compare.elim (motive_1:=fun _=>Bool) zz q (fun l os rs _=>F l os rs) else false
theorem Za6{zz:Expr}{F:Expr→(List CmpOp)→(List Expr)→Bool}(h:Y41 zz F=true):∃l os rs p,zz= .Compare l os rs p∧F l os rs=true:=by
 obtain⟨q,h⟩:=Zx h
 exact Expr.Compare.elim (motive_1:=fun zz=>∀q:zz.ctorIdx=15,Expr.Compare.elim (motive_1:=fun _=>Bool) zz q (fun l os rs _=>F l os rs)=true→∃l os rs p,zz= .Compare l os rs p∧F l os rs=true) zz q (fun l os rs p _ h=>⟨l,os,rs,p,rfl,h⟩) q h
noncomputable def Zo1(zz:Expr)(F:BoolOp→(List Expr)→Bool):Bool:=if q:zz.ctorIdx=0 then Expr.BoolOp.elim (motive_1:=fun _=>Bool) zz q (fun o ls _=>F o ls) else false
theorem B6{zz:Expr}{F:BoolOp→(List Expr)→Bool}(h:Zo1 zz F=true):∃o ls p,zz= .BoolOp o ls p∧F o ls=true:=by
 obtain⟨q,h⟩:=Zx h
 exact Expr.BoolOp.elim (motive_1:=fun zz=>∀q:zz.ctorIdx=0,Expr.BoolOp.elim (motive_1:=fun _=>Bool) zz q (fun o ls _=>F o ls)=true→∃o ls p,zz= .BoolOp o ls p∧F o ls=true) zz q (fun o ls p _ h=>⟨o,ls,p,rfl,h⟩) q h
noncomputable def Y82(zz:Expr)(F:(List Expr)→Bool):Bool:=if q:zz.ctorIdx=24 then Expr.List.elim (motive_1:=fun _=>Bool) zz q (fun ls _=>F ls) else false
theorem Zb3{zz:Expr}{F:(List Expr)→Bool}(h:Y82 zz F=true):∃ls p,zz= .List ls p∧F ls=true:=by
 obtain⟨q,h⟩:=Zx h
 exact Expr.List.elim (motive_1:=fun zz=>∀q:zz.ctorIdx=24,Expr.List.elim (motive_1:=fun _=>Bool) zz q (fun ls _=>F ls)=true→∃ls p,zz= .List ls p∧F ls=true) zz q (fun ls p _ h=>⟨ls,p,rfl,h⟩) q h
noncomputable def Zt6(zz:Expr)(F:(List Expr)→Bool):Bool:=if q:zz.ctorIdx=25 then Expr.Tuple.elim (motive_1:=fun _=>Bool) zz q (fun ls _ _=>F ls) else false
theorem Np{zz:Expr}{F:(List Expr)→Bool}(h:Zt6 zz F=true):∃ls j p,zz= .Tuple ls j p∧F ls=true:=by
 obtain⟨q,h⟩:=Zx h
 exact Expr.Tuple.elim (motive_1:=fun zz=>∀q:zz.ctorIdx=25,Expr.Tuple.elim (motive_1:=fun _=>Bool) zz q (fun ls _ _=>F ls)=true→∃ls j p,zz= .Tuple ls j p∧F ls=true) zz q (fun ls j p _ h=>⟨ls,j,p,rfl,h⟩) q h
noncomputable def Y20(zz:Expr)(F:(List (Option Expr))→(List Expr)→Bool):Bool:=if q:zz.ctorIdx=6 then Expr.Dict.elim (motive_1:=fun _=>Bool) zz q (fun ks vs _=>F ks vs) else false
theorem Bd{zz:Expr}{F:(List (Option Expr))→(List Expr)→Bool}(h:Y20 zz F=true):∃ks vs p,zz= .Dict ks vs p∧F ks vs=true:=by
 obtain⟨q,h⟩:=Zx h
 exact Expr.Dict.elim (motive_1:=fun zz=>∀q:zz.ctorIdx=6,Expr.Dict.elim (motive_1:=fun _=>Bool) zz q (fun ks vs _=>F ks vs)=true→∃ks vs p,zz= .Dict ks vs p∧F ks vs=true) zz q (fun ks vs p _ h=>⟨ks,vs,p,rfl,h⟩) q h
noncomputable def Zx6(zz:Expr)(F:Expr→Expr→Bool):Bool:=if q:zz.ctorIdx=21 then Expr.Subscript.elim (motive_1:=fun _=>Bool) zz q (fun l r _=>F l r) else false
theorem Ji{zz:Expr}{F:Expr→Expr→Bool}(h:Zx6 zz F=true):∃l r p,zz= .Subscript l r p∧F l r=true:=by
 obtain⟨q,h⟩:=Zx h
 exact Expr.Subscript.elim (motive_1:=fun zz=>∀q:zz.ctorIdx=21,Expr.Subscript.elim (motive_1:=fun _=>Bool) zz q (fun l r _=>F l r)=true→∃l r p,zz= .Subscript l r p∧F l r=true) zz q (fun l r p _ h=>⟨l,r,p,rfl,h⟩) q h
noncomputable def Y19(zz:Expr)(F:(Option Expr)→(Option Expr)→(Option Expr)→Bool):Bool:=if q:zz.ctorIdx=26 then Expr.Slice.elim (motive_1:=fun _=>Bool) zz q (fun x y z _=>F x y z) else false
theorem Z89{zz:Expr}{F:(Option Expr)→(Option Expr)→(Option Expr)→Bool}(h:Y19 zz F=true):∃x y z p,zz= .Slice x y z p∧F x y z=true:=by
 obtain⟨q,h⟩:=Zx h
 exact Expr.Slice.elim (motive_1:=fun zz=>∀q:zz.ctorIdx=26,Expr.Slice.elim (motive_1:=fun _=>Bool) zz q (fun x y z _=>F x y z)=true→∃x y z p,zz= .Slice x y z p∧F x y z=true) zz q (fun x y z p _ h=>⟨x,y,z,p,rfl,h⟩) q h
noncomputable def Rv(zz:Expr)(F:Expr→(List Expr)→(List Keyword)→Pos→Bool):Bool:=if q:zz.ctorIdx=16 then Expr.Call.elim (motive_1:=fun _=>Bool) zz q (fun fn ls kws p=>F fn ls kws p) else false
theorem Ym{zz:Expr}{F:Expr→(List Expr)→(List Keyword)→Pos→Bool}(h:Rv zz F=true):∃fn ls kws p,zz= .Call fn ls kws p∧F fn ls kws p=true:=by
 obtain⟨q,h⟩:=Zx h
 exact Expr.Call.elim (motive_1:=fun zz=>∀q:zz.ctorIdx=16,Expr.Call.elim (motive_1:=fun _=>Bool) zz q (fun fn ls kws p=>F fn ls kws p)=true→∃fn ls kws p,zz= .Call fn ls kws p∧F fn ls kws p=true) zz q (fun fn ls kws p _ h=>⟨fn,ls,kws,p,rfl,h⟩) q h
noncomputable def Zn5(zz:Expr)(F:Expr→Str→Pos→Bool):Bool:=if q:zz.ctorIdx=20 then Expr.Attribute.elim (motive_1:=fun _=>Bool) zz q (fun l g p=>F l g p) else false
theorem Cf{zz:Expr}{F:Expr→Str→Pos→Bool}(h:Zn5 zz F=true):∃l g p,zz= .Attribute l g p∧F l g p=true:=by
 obtain⟨q,h⟩:=Zx h
 exact Expr.Attribute.elim (motive_1:=fun zz=>∀q:zz.ctorIdx=20,Expr.Attribute.elim (motive_1:=fun _=>Bool) zz q (fun l g p=>F l g p)=true→∃l g p,zz= .Attribute l g p∧F l g p=true) zz q (fun l g p _ h=>⟨l,g,p,rfl,h⟩) q h
noncomputable def onLC(zz:Expr)(F:Expr→(List Comprehension)→Scope→Bool):Bool:=if q:zz.ctorIdx=8 then Expr.ListComp.elim (motive_1:=fun _=>Bool) zz q (fun el gens scope _=>F el gens scope) else false
theorem Fi{zz:Expr}{F:Expr→(List Comprehension)→Scope→Bool}(h:onLC zz F=true):∃el gens scope p,zz= .ListComp el gens scope p∧F el gens scope=true:=by
 obtain⟨q,h⟩:=Zx h
 exact Expr.ListComp.elim (motive_1:=fun zz=>∀q:zz.ctorIdx=8,Expr.ListComp.elim (motive_1:=fun _=>Bool) zz q (fun el gens scope _=>F el gens scope)=true→∃el gens scope p,zz= .ListComp el gens scope p∧F el gens scope=true) zz q (fun el gens scope p _ h=>⟨el,gens,scope,p,rfl,h⟩) q h
noncomputable def on0{α:Type}(l:List α)(b:Bool):Bool:=match l with
 | []=>b
 | _::_=>false
noncomputable def on1{α:Type}(l:List α)(F:α→Bool):Bool:=match l with
 | []=>false
 | x::r=>on0 r (F x)
noncomputable def onC{α:Type}(l:List α)(F:α→List α→Bool):Bool:=match l with
 | []=>false
 | x::r=>F x r
theorem Xf{α:Type}{l:List α}{b:Bool}(h:on0 l b=true):l=[]∧b=true:=by
 cases l with
 | nil=>exact⟨rfl,h⟩
 | cons _ _=>exact absurd h Bf9
theorem Vo{α:Type}{l:List α}{F:α→Bool}(h:on1 l F=true):∃x,l=[x]∧F x=true:=by
 cases l with
 | nil=>exact absurd h Bf9
 | cons x r=>obtain⟨rfl,h⟩:=Xf h;exact⟨x,rfl,h⟩
theorem Z73{α:Type}{l:List α}{F:α→List α→Bool}(h:onC l F=true):∃x r,l=x::r∧F x r=true:=by
 cases l with
 | nil=>exact absurd h Bf9
 | cons x r=>exact⟨x,r,rfl,h⟩
noncomputable def noO{α:Type}(o:Option α)(b:Bool):Bool:=match o with
 | none=>b
 | some _=>false
theorem Zx0{α:Type}{o:Option α}{b:Bool}(h:noO o b=true):o=none∧b=true:=by
 cases o with
 | none=>exact⟨rfl,h⟩
 | some _=>exact absurd h Bf9
noncomputable def onZ(i:Int)(b:Bool):Bool:=match i with
 | .ofNat 0=>b
 | _=>false
theorem By{i:Int}{b:Bool}(h:onZ i b=true):i=0∧b=true:=by
 rcases i with(_ | n) | n
 ·exact⟨rfl,h⟩
 ·exact absurd h Bf9
 ·exact absurd h Bf9
mutual
noncomputable def chkE(k:Ck):E→Expr→Bool
 | .var i,ex=>Vk ex fun x=>k.N[i]?==some x&&k.vis x
 | .int i,ex=>Sr ex fun v=>match v with
  | .int j=>i==j
  | _=>false
 | .bl b,ex=>Sr ex fun v=>match v with
  | .bool c=>b==c
  | _=>false
 | .non,ex=>Sr ex fun v=>match v with
  | .none=>true
  | _=>false
 | .str x,ex=>Sr ex fun v=>match v with
  | .str y=>x==y
  | _=>false
 | .ty t,ex=>Vk ex fun x=>x==Str.ofString (Yj t)&&k.glob x&&k.BN.contains x
 | .glb g,ex=>Vk ex fun x=>k.GN[g]?==some x&&k.glob x
 | .bin op a b,ex=>Y05 ex fun l o r=>o==opOf op&&chkE k a l&&chkE k b r
 | .neg a,ex=>onUn ex fun o l=>o== .USub&&chkE k a l
 | .not a,ex=>onUn ex fun o l=>o== .Not&&chkE k a l
 | .cmp op a b,ex=>Y41 ex fun l os rs=>on1 os fun o=>on1 rs fun r=>o==cmOf op&&(!isIn op || Z43 r)&&chkE k a l&&chkE k b r
 | .bop b es,ex=>Zo1 ex fun o ls=>o==(if b then .And else .Or)&&Wf k es ls
 | .lst es,ex=>Y82 ex fun ls=>Wf k es ls
 | .tup es,ex=>Zt6 ex fun ls=>Wf k es ls
 | .dict0,ex=>Y20 ex fun ks vs=>on0 ks (on0 vs true)
 | .dictT,.Dict [] [] _=>true
 | .ix a b,ex=>Zx6 ex fun l r=>G3 r&&chkE k a l&&chkE k b r
 | .sl a lo hi,ex=>Zx6 ex fun l r=>Y19 r fun x y z=>noO z (chkE k a l&&chkO k lo x&&chkO k hi y)
 | .slW a lo hi,.Subscript l (.Slice x y none _) _=>chkE k a l&&chkO k lo x&&chkO k hi y
 | .lrev a,.Call (.Name x _) [.Call (.Name y _) [l] [] _] [] _=>k.calm&&x==("list":Str)&&y==("reversed":Str)&&k.glob x&&k.glob y&&k.BN.contains x&&k.BN.contains y&&Sg l&&chkE k a l
 | .call f es,ex=>Rv ex fun fn ls kws _=>Vk fn fun x=>on0 kws (k.calm&&k.FN[f]?==some x&&k.glob x&&Wf k es ls)
 | .bf b es,ex=>Rv ex fun fn ls kws _=>Vk fn fun x=>on0 kws (onC ls fun l ls=>(k.calm || Q0 b)&&x==(bfOf b).1&&k.glob x&&k.BN.contains x&&Wf k es (l::ls))
 | .mt m o es,ex=>Rv ex fun fn ls kws cp=>Zn5 fn fun l nm ap=>on0 kws (nm==mtN m&&Bp l&&ap.endLine==cp.line&&decide (ls.length<30)&&chkE k o l&&Wf k es ls)
 | .comp N' js tg it cd e,ex=>onLC ex fun el gens scope=>on1 gens fun g=>match g with
  | ⟨t,iter,ifs,as⟩=>onZ as (k.calm&&Vg k.sc k.N N' js scope&&Z43 iter&&Ze0 k it iter&&decide N'.Nodup&&
   Nc {k with N:=N',sc:=Xi scope k.sc,cells:=false,own:=Gh scope,tries:=false,raises:=[]} tg t&&chkC {k with N:=N',sc:=Xi scope k.sc,cells:=false,own:=Gh scope,tries:=false,raises:=[]} cd ifs&&chkE {k with N:=N',sc:=Xi scope k.sc,cells:=false,own:=Gh scope,tries:=false,raises:=[]} e el&&itTg it t)
 | _,_=>false
noncomputable def Wf(k:Ck):Es→List Expr→Bool
 | .nil,[]=>true
 | .cons e r,x::xs=>chkE k e x&&Sg x&&Wf k r xs
 | _,_=>false
noncomputable def chkO(k:Ck):Eo→Option Expr→Bool
 | .no,none=>true
 | .yes e,some x=>chkE k e x
 | _,_=>false
noncomputable def chkC(k:Ck):Eo→List Expr→Bool
 | .no,[]=>true
 | .yes e,[x]=>chkE k e x&&noIf e
 | _,_=>false
noncomputable def Ze0(k:Ck):It→Expr→Bool
 | .seq e,x=>chkE k e x
 | .rng1 a,ex=>Rv ex fun fn ls kws _=>Vk fn fun x=>on0 kws (on1 ls fun l=>x==("range":Str)&&k.glob x&&k.BN.contains x&&Sg l&&chkE k a l)
 | .enm e,ex=>Rv ex fun fn ls kws _=>Vk fn fun x=>on0 kws (on1 ls fun l=>x==("enumerate":Str)&&k.glob x&&k.BN.contains x&&Sg l&&chkE k e l)
 | .zip es,ex=>Rv ex fun fn ls kws _=>Vk fn fun x=>on0 kws (onC ls fun l ls=>x==("zip":Str)&&k.glob x&&k.BN.contains x&&Wf k es (l::ls))
noncomputable def noIf:E→Bool
 | .not a=>noIf a
 | .bop _ es=>B7 es
 | _=>true
noncomputable def B7:Es→Bool
 | .nil=>true
 | .cons e r=>noIf e&&B7 r
end
def Zf0(X:Cx)(x:Str)(sp:DSp):Prop:=
 ∃(kk:Nat) (f:Addr) (fd:FuncData) (ps:List Str) (ds:List Value) (dvs:List V) (dD:List D) (sp0:DSp),FnOk X.prog X.w X.K X.mg X.base (CX1 X.prog X.w) kk f fd ps (spF X.K sp0)∧Room kk X.A∧X.mg x=some (.ref f)∧Hd X.K (.ref f)=true∧
  Sh X.K fd ps ds∧Vals dvs ds∧(∀w:Vw,w.K=X.K→RDs w dD dvs)∧∀as M Q Z,sp as M Q Z→sp0 (as++dD) M Q Z
structure Good(c:Cfg)(k:Ck)(Z:DX)(w0:Vw)(X:Cx):Prop where
 hK:X.K=c.K
 wK:w0.K=c.K
 N:X.N=k.N
 nd:X.N.Nodup
 sc:X.env.scope=k.sc
 calm:k.calm=true→X.calm=true
 units:X.A.units+64<cLine
 fns:k.calm=true→∀(f:Nat) (x:Str) (sp:DSp),k.FN[f]?=some x→c.Γ[f]?=some sp→Zf0 X x sp
 flen:k.FN.length=c.Γ.length
 glb:∀(g:Nat) (x:Str) (d:D),k.GN[g]?=some x→c.G[g]?=some d→∃v u,X.mg x=some u∧RelV v u∧∀w:Vw,w.K=X.K→RD w d v
 blt:∀x,x∈k.BN→X.mg x=none
 exc:∃E,E3 (CX1 X.prog X.w) X E∧∀cls dd H',xkOf w0 Z cls dd H'→E cls dd H'
 stk:k.tries=true→X.stack=X.env::X.outer∧X.env.frame=some X.env.locals
 po:k.loops=true→PassesOwn (model X.prog X.w) X.A X.env X.xe
 fnc:k.cells=true→∀x,X.fn x=true
 fno:∀x,x∈k.own→X.fn x=true
theorem Z68(x:Ext w w')(h:xkOf w' Z cls dd H'):xkOf w Z cls dd H':=by
 obtain⟨C,dx,r,w2,row,M,e1,e2,e3,e4,h5⟩:=h
 exact⟨C,dx,r,w2,row,M,e1,e2,e3,x.trans e4,h5⟩
def ttD(f:DE):DT:=fun σ M Q=>f σ M fun x M1=>truD M1 x fun b=>Q b M1
section
variable{c:Cfg}{k:Ck}{Z:DX}{w0:Vw}{X:Cx}
theorem Good.gl(G:Good c k Z w0 X){x:Str}(h:k.glob x=true):Gl X x∧(x==("__debug__":Str))=false∧x≠"__name__":=by
 unfold Ck.glob at h
 simp only[Bz9,beq_iff_eq,Bool.not_eq_true',beq_eq_false_iff_ne] at h
 refine⟨?_,by simpa using h.1.2,h.2⟩
 unfold Gl Env.kindOf
 rw[G.sc];exact h.1.1
theorem Good.vis(G:Good c k Z w0 X){x:Str}(h:k.vis x=true):Vis X.env.scope x∧(x==("__debug__":Str))=false∧(x==("__classdict__":Str))=false:=by
 unfold Ck.vis at h
 simp only[Bz9,beq_iff_eq,Bool.not_eq_true',Bool.or_eq_true] at h
 refine⟨?_,h.1.2,h.2⟩
 unfold Vis
 rw[G.sc]
 rcases h.1.1 with(q | q) | q
 ·exact .inl q
 ·exact .inr (.inl q)
 ·exact .inr (.inr q)
theorem Good.locC(G:Good c k Z w0 X){x:Str}(h:k.locC x=true):Loc X.env.scope x∧(X.fn x=true∨X.env.scope.names.lookup x=some .local):=by
 unfold Ck.locC Ck.loc at h
 rw[Bool.or_eq_true,Bz9] at h
 rcases h with h | ⟨h1,h2⟩
 ·have hl:X.env.scope.names.lookup x=some .local:=by rw[G.sc];exact Kn h
  exact⟨.inl hl,.inr hl⟩
 ·refine⟨.inr (by rw[G.sc];exact Kn h2),.inl ?_⟩
  rw[Bool.or_eq_true,Hm] at h1
  rcases h1 with z | z
  ·exact G.fnc z x
  ·exact G.fno x z
theorem Good.eK(G:Good c k Z w0 X):X.K=w0.K:=G.hK.trans G.wK.symm
theorem StOk.K{w w0:Vw}{σD:DEnv}{M:Z2}{σ:L2.St}{H:Hp}(S:StOk w0 w σD M σ H):w.K=w0.K:=S.ext.K
theorem Y2{H:Hp}(S:StOk w0 w σD M σ H)(h:f σD M QD)(a:Aft w QD Q):tF w0 f σ H Q:=⟨w,σD,M,QD,S,h,a⟩
theorem Nt(h:Bp l=true):attributeBase l nm env (eval l env)=eval l env:=by
 unfold attributeBase
 split
 ·rename_i id np pos
  have:(id !="super" || nm=="__class__" || env.kindOf "super" !=some .globalImplicit || env.kindOf "__class__" !=some .free)=true:=by
   have:(id !=("super":Str))=true:=h
   rw[this];rfl
  simp only[this,if_true]
 ·rfl
theorem Zv{x:Expr}(h:Sg x=true):starEach (x::xs) env=(false,eval x env)::starEach xs env:=by
 cases x<;>first | rfl | cases h
theorem X7{k:Ck}:∀(es:Es) (xs:List Expr),Wf k es xs=true→(starEach xs env).all (fun p=> !p.1)=true
 | .nil,[],_=>rfl
 | .nil,_::_,h=>absurd h Bf9
 | .cons e r,[],h=>absurd h Bf9
 | .cons e r,x::xs,h=>by
  simp only[Wf,Bz9] at h
  rw[Zv h.1.2]
  simp only[Hv,Bool.not_false,Bool.true_and]
  exact X7 r xs h.2
theorem S6(h:l.all (fun p=> !p.1)=true):(backTo pos l).any (·.1)=false:=by
 induction l with
 | nil=>rfl
 | cons p r ih=>
  simp only[Hv,Bz9,Bool.not_eq_true'] at h
  show(p.1 || (backTo pos r).any (·.1))=false
  rw[h.1,ih h.2];rfl
theorem Zf7(h:l.all (fun p=> !p.1)=true):(backTo pos l).all (fun x=> !x.1)=true:=by
 induction l with
 | nil=>rfl
 | cons p r ih=>
  simp only[Hv,Bz9] at h
  show((!p.1)&&(backTo pos r).all (fun x=> !x.1))=true
  rw[h.1,ih h.2];rfl
theorem Yd2(G:Good c k Z w0 X)(h:PE X ex (tF w0 f))(he:∀whole,isTrue ex X.env whole=(do let v ←whole;standAt ex.pos;holding [v] (truthy v))):PT X ex (tFT w0 (ttD f)):=by
 refine PT.imp (Zh8 h he) fun σ H Q zz64=>?_
 obtain⟨w,σD,M,QD,S,g,a⟩:=zz64
 refine Y2 S g fun v w' d M' x r rd q=>?_
 obtain⟨b,t1,t2⟩:=Ww (K:=X.K) (by rw[x.K,S.K,G.eK]) r rd q
 exact⟨b,t1,a b w' M' x r t2⟩
theorem Zq5(h:PT X ex (Y75 (tF w0 f)))(hb:∀σD M QD,f σD M QD→f σD M fun d M'=>(∃b,d= .bl b)∧QD d M'):PT X ex (tFT w0 (ttD f)):=by
 refine PT.imp h fun σ H Q zz65=>?_
 obtain⟨w,σD,M,QD,S,g,a⟩:=zz65
 refine Y2 S (hb _ _ _ g) fun v w' d M' x r rd q=>?_
 obtain⟨⟨b,rfl⟩,q⟩:=q
 cases Yw.mp rd
 exact⟨b,rfl,a b w' M' x r q⟩
theorem Z17{H:Hp}(h:tF w0 (fun σD M QD=>fa σD M fun x M1=>fb σD M1 fun y M2=>g x y M2 QD) σ H Q):tOp (rF w0 g) (tF w0 fa) (tF w0 fb) σ H Q:=by
 obtain⟨w,σD,M,QD,S,g0,a⟩:=h
 refine Y2 S g0 fun x w1 dx M1 x1 r1 rx q1=>?_
 refine Y2 (S.next x1 r1) q1 fun y w2 dy M2 x2 r2 ry q2=>?_
 exact⟨w2,M2,dx,dy,QD,rfl,(S.ext.trans x1).trans x2,r2,rx.ext x2,ry,q2,a.ext (x1.trans x2)⟩
theorem J1{H:Hp}(h:tF w0 (fun σD M QD=>fa σD M fun x M1=>fb σD M1 fun y M2=>g M2 x y fun b=>QD (.bl b) M2) σ H Q):tOp (rB w0 g) (tF w0 fa) (tF w0 fb) σ H Q:=by
 obtain⟨w,σD,M,QD,S,g0,a⟩:=h
 refine Y2 S g0 fun x w1 dx M1 x1 r1 rx q1=>?_
 refine Y2 (S.next x1 r1) q1 fun y w2 dy M2 x2 r2 ry q2=>?_
 exact⟨w2,M2,dx,dy,_,rfl,((S.ext.trans x1).trans x2).K,r2,rx.ext x2,ry,q2,fun b hb=>a _ w2 _ M2 (x1.trans x2) r2 (Yw.mpr rfl) hb⟩
theorem Zy8{a:Expr}(ha:PE X a ta):PE X (.UnaryOp .Not a pos) (fun σ H Q=>ta σ H fun x H1=>∃b,TruV X.K x H1 b∧Q (.bl (!b)) H1):=by
 intro pins s σ H Q I h
 refine UnaryOp_ (thn (ha pins s σ H _ I h) fun v s1 zz66=>?_)
 obtain⟨x,H1,I1,r1,q1⟩:=zz66
 refine not_of (thn (Fq pins s1 σ H1 x v (fun b H2=>Q (.bl (!b)) H2) I1 r1 q1) fun b s2 zz67=>by obtain⟨H2,I2,q2⟩:=zz67;exact⟨.bl (!b),H2,I2,rfl,q2⟩)
theorem Zp7(t:Ty):bootBuiltins (Str.ofString (Yj t))=some (.type (Yj t)):=by
 cases t
 ·exact boot_int
 ·exact boot_str
 ·exact boot_bool
 ·exact boot_list
 ·exact boot_tuple
 ·exact boot_dict
 ·show bootBuiltins "ValueError"=some (.type "ValueError")
  decide+kernel
theorem Gs:bootBuiltins "sorted"=some (.builtin "sorted"):=by decide+kernel
theorem Og:bootBuiltins "reversed"=some (.type "reversed"):=by decide+kernel
theorem Zu8(b:Bf):bootBuiltins (bfOf b).1=some (bfOf b).2:=by
 cases b<;>first | exact PySem.boot_len | exact boot_isinstance | exact PyProof.Rows.boot_min | exact PyProof.Rows.boot_max | exact boot_list | exact boot_tuple | exact boot_dict | exact boot_str | exact Gs | exact boot_int
end
def JOk(w1:Vw)(J:L2.It)(own:Own)(xs:List D):Prop:=∀w M,Ext w1 w→RS w M→Q5 own xs M→∀i:Nat,
 (∀d,xs[i]?=some d→J.go i w.H∧∀x H',J.yld i w.H x H'→∃w',w'.H=H'∧Ext w w'∧RS w' M∧RD w' d x)∧(xs.length≤i→J.stop i w.H)
def iF(w0:Vw)(f:DEnv→Z2→(Own→List D→Z2→Prop)→Prop):TI:=fun σ H R=>∃w σD M QD,StOk w0 w σD M σ H∧f σD M QD∧
 ∀J w' own xs M',Ext w w'→RS w' M'→JOk w' J own xs→QD own xs M'→R J w'.H
section
variable{c:Cfg}{k:Ck}{Z:DX}{w0:Vw}{X:Cx}
theorem PI.imp{t t':TI}(h:PI X tg it t)(q:∀σ H R,t' σ H R→t σ H R):PI X tg it t':=fun pins s σ H R I z=>h pins s σ H R I (q σ H R z)
theorem Y26(hl:PE X l tl):PI X tg l (fun σ H R=>tl σ H fun x H1=>(∃a,x= .ref a∧(∃xs,SqL X.K H1 a xs)∧R (Itl X.K a) H1)∨∃a,x= .ref a∧(∃xs,SqT X.K H1 a xs)∧R (Itt X.K a) H1):=by
 intro pins s σ H R I h
 refine thn (hl pins s σ H _ I h) fun v s1 zz68=>?_
 obtain⟨x,H1,I1,r1,q1⟩:=zz68
 have fp:∀b∈[s1.heap.objs.size],FpOk X pins H1 b:=fun b hb=>by
  have e:b=s1.heap.objs.size:=by simpa using hb
  subst e
  exact I1.fpOk (Nat.le_refl _) (I1.hok.fresh (Nat.le_refl _))
 rcases q1 with⟨a,e,⟨xs,hq⟩,q⟩ | ⟨a,e,⟨xs,hq⟩,q⟩
 ·subst e
  cases r1
  obtain⟨its,rv,p,hz⟩:=I1.list hq
  refine wpAny_pyIter_list p.isList ?_
  exact⟨s1.heap.objs.size,[s1.heap.objs.size],_,_,H1,rfl,I1.kept (t':=s1.toks) fun b o e=>An _ e,Bw a _,⟨_,As _ rfl,rfl,rfl⟩,fp,q⟩
 ·subst e
  cases r1
  obtain⟨its,rv,p,hz⟩:=I1.tuple hq
  refine wpAny_pyIter_tuple (show s1.heap.IsTuple a its.toArray from p) ?_
  exact⟨s1.heap.objs.size,[s1.heap.objs.size],_,_,H1,rfl,I1.kept (t':=s1.toks) fun b o e=>An _ e,Co a _,⟨_,As _ rfl,rfl,rfl⟩,fp,q⟩
theorem Zl0{n:Nat}(hK:X.K=w1.K)(hn:n<w1.n):JOk w1 (Itl X.K (w1.μ n)) (.lst n) xs:=by
 intro w M x R st i
 obtain⟨_,vs,q1,q2,_⟩:=R.listL st
 rw[x.μ n hn,x.K,←hK] at q1
 refine⟨fun d e=>?_,fun hl=>⟨vs,q1,by rw[q2.length];exact hl⟩⟩
 obtain⟨v,z1,z2⟩:=q2.get e
 refine⟨⟨vs,v,q1,z1⟩,fun y H' ⟨e1,e2⟩=>⟨w,e1.symm,Ext.refl w,R,?_⟩⟩
 have:=e2 vs q1
 rw[z1] at this
 cases this
 exact z2
theorem Zh2{n:Nat}(hK:X.K=w1.K)(hn:n<w1.n):JOk w1 (Ite X.K (w1.μ n)) (.enm n) xs:=by
 intro w M x R st i
 obtain⟨ys,st,rfl⟩:=st
 obtain⟨_,vs,q1,q2,_⟩:=R.listL st
 rw[x.μ n hn,x.K,←hK] at q1
 refine⟨fun d e=>?_,fun hl=>⟨vs,q1,by rw[q2.length];unfold Jt at hl;rw[List.length_mapIdx] at hl;exact hl⟩⟩
 unfold Jt at e
 rw[Ke,Ch] at e
 obtain⟨d,e,rfl⟩:=e
 obtain⟨v,z1,z2⟩:=q2.get e
 refine⟨⟨vs,v,q1,z1⟩,fun y H' zz70=>?_⟩
 obtain⟨p,u,hp,e1,e2,e3⟩:=zz70
 have:=e3 vs q1
 rw[z1] at this
 cases this
 subst e1 e2
 obtain⟨a1,a2,a3⟩:=Wr R hp (RDs.cons (Ze.mpr (rfl:V.int (i:Int)=_)) (RDs.cons z2 (RDs.nil w)))
 exact⟨_,rfl,a1,a2,a3⟩
theorem Z36(h1:RDs w ys us)(h2:RDs w zs vs){i:Nat}{d:D}(e:(zipT ys zs)[i]?=some d):∃x y u v,d= .tup [x,y]∧us[i]?=some u∧vs[i]?=some v∧RD w x u∧RD w y v:=by
 unfold zipT at e
 rw[Ai,Ch] at e
 obtain⟨p,e,rfl⟩:=e
 rw[List.getElem?_zip_eq_some] at e
 obtain⟨u,a1,a2⟩:=h1.get e.1
 obtain⟨v,b1,b2⟩:=h2.get e.2
 exact⟨_,_,u,v,rfl,a1,b1,a2,b2⟩
theorem Zx8{n m:Nat}(hK:X.K=w1.K)(hn:n<w1.n)(hm:m<w1.n):JOk w1 (Itz X.K (w1.μ n) (w1.μ m)) (.two n m) xs:=by
 intro w M x R st i
 obtain⟨ys,zs,st,st2,rfl⟩:=st
 obtain⟨_,us,q1,q2,_⟩:=R.listL st
 obtain⟨_,vs,p1,p2,_⟩:=R.listL st2
 rw[x.μ n hn,x.K,←hK] at q1
 rw[x.μ m hm,x.K,←hK] at p1
 refine⟨fun d e=>?_,fun hl=>⟨us,vs,q1,p1,?_⟩⟩
 ·obtain⟨dx,dy,u,v,rfl,a1,a2,a3,a4⟩:=Z36 q2 p2 e
  refine⟨⟨us,vs,u,v,q1,p1,a1,a2⟩,fun y H' zz71=>?_⟩
  obtain⟨p,u',v',hp,e1,e2,e3,e4⟩:=zz71
  have h3:=e3 us q1
  have h4:=e4 vs p1
  rw[a1] at h3
  rw[a2] at h4
  cases h3
  cases h4
  subst e1 e2
  obtain⟨b1,b2,b3⟩:=Wr R hp (RDs.cons a3 (RDs.cons a4 (RDs.nil w)))
  exact⟨_,rfl,b1,b2,b3⟩
 ·have l1:=q2.length
  have l2:=p2.length
  unfold zipT at hl
  rw[Ab,List.length_zip] at hl
  omega
theorem Zh7{a b:D}(h:zip2 M a b Q):(∃n m ys zs,a= .ref n∧b= .ref m∧Zc M n=some ys∧Zc M m=some zs∧Q (.two n m) (zipT ys zs))∨(∃ys zs,a= .tup ys∧b= .tup zs∧Q .no (zipT ys zs)):=by
 cases a with
 | ref n=>
  obtain⟨m,rfl,ys,zs,h1,h2,h3⟩:=Yr h
  exact .inl ⟨n,m,ys,zs,rfl,rfl,h1,h2,h3⟩
 | tup ys=>
  obtain⟨zs,rfl,h1⟩:=Sc h
  exact .inr ⟨ys,zs,rfl,rfl,h1⟩
 | _=>exact Dq h
theorem Zj0{a b:Addr}(ha:w1.H a=some (.tup us))(hb:w1.H b=some (.tup vs))(hr:RDs w1 ys us)(hs:RDs w1 zs vs):JOk w1 (Itzt X.K a b us vs) .no (zipT ys zs):=by
 intro w M x R st i
 have q1:SqT X.K w.H a us:= .of (x.imm _ _ ha rfl)
 have p1:SqT X.K w.H b vs:= .of (x.imm _ _ hb rfl)
 have q2:=hr.ext x
 have p2:=hs.ext x
 refine⟨fun d e=>?_,fun hl=>⟨q1,p1,?_⟩⟩
 ·obtain⟨dx,dy,u,v,rfl,a1,a2,a3,a4⟩:=Z36 q2 p2 e
  refine⟨⟨u,v,q1,p1,a1,a2⟩,fun y H' zz72=>?_⟩
  obtain⟨p,u',v',hp,e1,e2,e3,e4⟩:=zz72
  rw[a1] at e3
  rw[a2] at e4
  cases e3
  cases e4
  subst e1 e2
  obtain⟨b1,b2,b3⟩:=Wr R hp (RDs.cons a3 (RDs.cons a4 (RDs.nil w)))
  exact⟨_,rfl,b1,b2,b3⟩
 ·have l1:=q2.length
  have l2:=p2.length
  unfold zipT at hl
  rw[Ab,List.length_zip] at hl
  omega
theorem Zb4{a:Addr}(hK:X.K=w1.K)(h:SqT w1.K w1.H a vs)(r:RDs w1 xs vs):JOk w1 (Itt X.K a) .no xs:=by
 intro w M x R st i
 have q1:=x.sqT h
 rw[x.K,←hK] at q1
 have q2:=r.ext x
 refine⟨fun d e=>?_,fun hl=>⟨vs,q1,by rw[q2.length];exact hl⟩⟩
 obtain⟨v,z1,z2⟩:=q2.get e
 refine⟨⟨vs,v,q1,z1⟩,fun y H' ⟨e1,e2⟩=>⟨w,e1.symm,Ext.refl w,R,?_⟩⟩
 have:=e2 vs q1
 rw[z1] at this
 cases this
 exact z2
theorem Zq9{w1:Vw}{lo:Int}{n:Nat}:JOk w1 (Itr lo n) .no (Pw lo n):=by
 intro w M x R st i
 unfold Pw
 refine⟨fun d e=>?_,fun hl=>?_⟩
 ·rw[Ai,Ch] at e
  obtain⟨j,h1,rfl⟩:=e
  obtain⟨h2,h3⟩:=Ac.mp h1
  have hj:j=i:=by simpa using h3.symm
  subst hj
  have h4:j<n:=by simpa using h2
  exact⟨h4,fun y H' zz74=>by obtain⟨e1,e2⟩:=zz74;exact⟨w,e1.symm,Ext.refl w,R,by rw[e2];exact Ze.mpr rfl⟩⟩
 ·have:n≤i:=by simpa using hl
  exact this
theorem Za1{H:Hp}:(cxC X N' scope cl C fp pins s H).env.scope=Xi scope X.env.scope:=rfl
theorem Good.block(G:Good c k Z w0 X)(hc:k.calm=true)(hn:N'.Nodup)(cl:List (Str×Addr))(C:Addr)(fp:List Addr)(pins:List (Addr×Obj))(s:Shared)(H:Hp):
  Good c {k with N:=N',sc:=Xi scope k.sc,cells:=false,own:=Gh scope,tries:=false,raises:=[]} noX w0 (cxC X N' scope cl C fp pins s H) where
 hK:=G.hK
 wK:=G.wK
 N:=rfl
 nd:=hn
 sc:=by rw[Za1,G.sc]
 calm:=fun _=>G.calm hc
 units:=G.units
 fns:=fun _ f x sp h1 h2=>by
  obtain⟨kk,f,fd,ps,ds,dvs,dD,sp0,h⟩:=G.fns hc f x sp h1 h2
  exact⟨kk,f,fd,ps,ds,dvs,dD,sp0,h⟩
 flen:=G.flen
 glb:=G.glb
 blt:=G.blt
 exc:=⟨E0,fun _ _ _ _ _ _ _ h=>by
  obtain⟨_,_,_,_,_,_,_,_,_,_,_,_,_,_,_,h⟩:=h
  exact h.elim,fun cls dd H' h=>by
  obtain⟨_,_,_,_,_,_,_,_,_,_,_,_,_,h⟩:=h
  exact h.elim⟩
 stk:=fun h=>by cases h
 po:=fun _=>PassesOwn.never
 fnc:=fun h=>by cases h
 fno:=fun x hx=>by
  show(scope.names.any fun y=>y.1==x&&y.2==He)=true
  have hx:x∈(scope.names.filter fun y=>y.2==He).map (·.1):=hx
  obtain⟨y,hy,rfl⟩:=Hw.mp hx
  obtain⟨h1,h2⟩:=Ho.mp hy
  rw[Mb]
  exact⟨y,h1,by rw[beq_self_eq_true,Bool.true_and];exact h2⟩
theorem Good.tgs(G:Good c k Z w0 X):∀(is:List Nat) (es:List Expr),Bq k is es=true→PGs X es (gAll is)∧(assignEach es X.env).length=is.length∧(assignEach es X.env).findIdx? (·.1)=none:=by
 have one:∀(i:Nat) (x:Str) (pos:Pos),k.N[i]?=some x→k.locC x=true→PG X (.Name x pos) (Z42 i):=fun i x pos h1 h2=>by
  obtain⟨l1,l2⟩:=G.locC h2
  exact Z39 G.nd (by rw[G.N];exact h1) l1 l2
 intro is
 induction is with
 | nil=>
  intro es h
  cases es with
  | nil=>exact⟨Zx2,rfl,rfl⟩
  | cons e es=>exact absurd h Bf9
 | cons i is ih=>
  intro es h
  cases es with
  | nil=>exact absurd h Bf9
  | cons e es=>
   cases e with
   | Name x pos=>
    change (_&&_)=true at h
    simp only[Bz9,beq_iff_eq] at h
    obtain⟨h1,h2,h3⟩:=ih es h.2
    refine⟨Ze5 (one i x pos h.1.1 h.1.2) h1 rfl,?_,?_⟩
    ·show(assignEach es X.env).length+1=is.length+1
     rw[h2]
    ·show((false,_)::assignEach es X.env).findIdx? (·.1)=none
     rw[List.findIdx?_cons,h3]
     rfl
   | _=>exact absurd h Bf9
theorem Good.tgt(G:Good c k Z w0 X):∀(is:List Nat) (ex:Expr),Nc k is ex=true→PG X ex (gF w0 is):=by
 have one:∀(i:Nat) (x:Str) (pos:Pos),k.N[i]?=some x→k.locC x=true→PG X (.Name x pos) (Z42 i):=fun i x pos h1 h2=>by
  obtain⟨l1,l2⟩:=G.locC h2
  exact Z39 G.nd (by rw[G.N];exact h1) l1 l2
 have many:=G.tgs
 intro is ex h
 cases ex with
 | Name x pos=>
  match is,h with
  | [i],h=>
   change (_&&_)=true at h
   simp only[Bz9,beq_iff_eq] at h
   exact Y61 (one _ x pos h.1 h.2)
  | [],h=>exact absurd h Bf9
  | _::_::_,h=>exact absurd h Bf9
 | Tuple es kk pos=>
  change (_&&_)=true at h
  simp only[Bz9,decide_eq_true_eq] at h
  obtain⟨h1,h2,h3⟩:=many is es h.2
  exact Zw9 h.1.2 (Zo5 (G.calm h.1.1) h1 h2 h3)
 | _=>exact absurd h Bf9
theorem Zx5(h:REnv w σD σ):REnv w (capD js σD) (Vm js σ):=by
 refine⟨by unfold capD Vm;simp,fun i d e=>?_⟩
 unfold capD at e
 unfold Vm
 rw[Ai] at e ⊢
 cases hj:js[i]? with
 | none=>rw[hj] at e;cases e
 | some o=>
  rw[hj] at e
  simp only[Option.map_some,Option.some.injEq] at e ⊢
  cases o with
  | none=>cases e
  | some j=>
   simp only[Option.bind_some] at e ⊢
   cases hz:σD[j]? with
   | none=>rw[hz] at e;cases e
   | some z=>
    rw[hz] at e
    have e':z=some d:=e
    subst e'
    obtain⟨v,q1,q2⟩:=h.2 j d hz
    exact⟨v,by rw[q1];rfl,q2⟩
theorem Ze2{own:Own}{M1:Z2}(e0:Ext w0 w1)(hH:w1.H=H1)(R1:RS w1 M1)(env:REnv w1 σD σ)(jk:JOk w1 J own xs)
  (h:O0 own xs tg cd el M1.length xs σD (M1++[.lst []]) QD) (a:Aft w1 (fun d M=>d= .ref M1.length∧QD M) Q):∀p,H1 p=none→∃W:Nat→Nat→L2.St→Hp→Prop,(∃m,W 0 m σ (upd H1 p (.lst [])))∧
   ∀i m σc Hc,W i m σc Hc→(J.stop i Hc∧Q (.ref p) Hc)∨(J.go i Hc∧∀x H',J.yld i Hc x H'→gF w0 tg x σc H' fun σ2 H2=>tFT w0 cd σ2 H2 fun b H3=>if b=true then tF w0 el σ2 H3 fun y H4=>∃acc,H4 p=some (.lst acc)∧acc.length<sizeLine∧
    ∃m',m'<m∧W (i+1) m' σ2 (upd H4 p (.lst (acc++[y]))) else ∃m',m'<m∧W (i+1) m' σ2 H3):=by
 intro p hp
 subst hH
 obtain⟨x1,R2,rz⟩:=X9 (xs:=[]) R1 hp (RDs.nil w1)
 have hz:M1.length< (w1.push p (.lst [])).n∧p=(w1.push p (.lst [])).μ M1.length:=by
  obtain⟨z1,z2⟩:=Zg.mp rz
  exact⟨z1,by injection z2⟩
 refine⟨fun i m σc Hc=>∃w σE M,StOk w0 w σE M σc Hc∧Ext (w1.push p (.lst [])) w∧i≤xs.length∧m=xs.length - i∧O0 own xs tg cd el M1.length (xs.drop i) σE M QD,⟨xs.length,w1.push p (.lst []),σD,_,⟨rfl,e0.trans x1,R2,env.ext x1⟩,Ext.refl _,Nat.zero_le _,rfl,h⟩,?_⟩
 rintro i m σc Hc ⟨w,σE,M,S,x2,hi,rfl,hc⟩
 have x12:Ext w1 w:=x1.trans x2
 have hp':w.μ M1.length=p:=(x2.μ _ hz.1).trans hz.2.symm
 have hlt:M1.length<w.n:=Nat.lt_of_lt_of_le hz.1 x2.n
 have stp:∀st:Q5 own xs M,_:=fun st=>jk w M x12 S.rs st i
 rw[S.heap] at stp
 by_cases hil:i<xs.length
 ·rw[Dv hil] at hc
  obtain⟨st,hc⟩:=hc
  obtain⟨j1,j2⟩:=(stp st).1 xs[i] (Ag hil)
  refine .inr ⟨j1,fun x H' hy=>?_⟩
  obtain⟨w3,rfl,x3,R3,rd3⟩:=j2 x H' hy
  refine⟨w3,σE,M,xs[i],_,⟨rfl,S.ext.trans x3,R3,S.env.ext x3⟩,rd3,hc,fun σ2 σE2 env2 q2=>?_⟩
  refine⟨w3,σE2,M,_,⟨rfl,S.ext.trans x3,R3,env2⟩,q2,fun b w4 M4 x4 R4 q4=>?_⟩
  cases b with
  | true=>
   rw[if_pos rfl] at q4 ⊢
   refine Y2 ⟨rfl,(S.ext.trans x3).trans x4,R4,env2.ext x4⟩ q4 fun y w5 dy M5 x5 R5 rd5 q5=>?_
   obtain⟨acc,g1,g2,g3⟩:=q5
   obtain⟨hn,vs,z1,z2⟩:=R5.list g1
   have x35:Ext w w5:=(x3.trans x4).trans x5
   have hp5:w5.μ M1.length=p:=(x35.μ _ hlt).trans hp'
   obtain⟨y1,y2⟩:=Yn R5 hn z1 (z2.append (RDs.cons rd5 (RDs.nil w5)))
   rw[hp5] at z1 y1 y2
   refine⟨vs,z1,by rw[z2.length];exact g2,xs.length - (i+1),by omega,w5.alloc p (.lst (vs++[y])),σE2,_,⟨rfl,(S.ext.trans x35).trans y1,y2,(env2.ext (x4.trans x5)).ext y1⟩,(x2.trans x35).trans y1,hil,rfl,g3⟩
  | false=>
   rw[if_neg Bf9] at q4 ⊢
   exact⟨xs.length - (i+1),by omega,w4,σE2,M4,⟨rfl,(S.ext.trans x3).trans x4,R4,env2.ext x4⟩,(x2.trans x3).trans x4,hil,rfl,q4⟩
 ·rw[Kk (by omega)] at hc
  obtain⟨st,hq⟩:=hc
  refine .inl ⟨(stp st).2 (by omega),?_⟩
  have:=a (.ref p) w (.ref M1.length) M x12 S.rs (Zg.mpr ⟨hlt,by rw[hp']⟩) ⟨rfl,hq⟩
  rw[S.heap] at this
  exact this
end
def Zp4(c:Cfg)(e:E):Prop:=∀(k:Ck) (Z:DX) (w0:Vw) (X:Cx) (ex:Expr),Good c k Z w0 X→chkE k e ex=true→PE X ex (tF w0 (te c Z e))∧(noIf e=true→PT X ex (tFT w0 (ttD (te c Z e))))
def Zr3(c:Cfg)(es:Es):Prop:=∀(k:Ck) (Z:DX) (w0:Vw) (X:Cx) (ls:List Expr),Good c k Z w0 X→Wf k es ls=true→PA X ls (tFA w0 (tes c Z es))∧
 ∀(b:Bool) (pos:Pos),PE X (.BoolOp (if b then .And else .Or) ls pos) (tF w0 (tbop c Z b es))∧(B7 es=true→PW X (.BoolOp (if b then .And else .Or) ls pos) (tFT w0 (ttD (tbop c Z b es))))
def Zn7(c:Cfg)(eo:Eo):Prop:=(∀(k:Ck) (Z:DX) (w0:Vw) (X:Cx) (lo:Option Expr),Good c k Z w0 X→chkO k eo lo=true→PO X lo (tFO w0 (teo c Z eo)))∧
 ∀(k:Ck) (Z:DX) (w0:Vw) (X:Cx) (ls:List Expr),Good c k Z w0 X→chkC k eo ls=true→(∃x,ls=[x]∧PT X x (tFT w0 (tcd c Z eo)))∨(ls=[]∧eo= .no)
def Y55(c:Cfg)(it:It):Prop:=∀(k:Ck) (Z:DX) (w0:Vw) (X:Cx) (tg ex:Expr),Good c k Z w0 X→Ze0 k it ex=true→itTg it tg=true→PI X tg ex (iF w0 (tit c Z it))
section
variable{c:Cfg}{k:Ck}{Z:DX}{w0:Vw}{X:Cx}
theorem Qq{d:D}{v:V}{H:Hp}(hv:∀w:Vw,w.K=w0.K→RD w d v)(h:tF w0 (fun _ M Q=>Q d M) σ H Q):tC v σ H Q:=by
 obtain⟨w,σD,M,QD,S,g,a⟩:=h
 have:=a v w d M (Ext.refl w) S.rs (hv w S.K) g
 rw[S.heap] at this
 exact this
theorem both(G:Good c k Z w0 X)(h:PE X ex (tF w0 f))(he:∀whole,isTrue ex X.env whole=(do let v ←whole;standAt ex.pos;holding [v] (truthy v))):
  PE X ex (tF w0 f)∧(b=true→PT X ex (tFT w0 (ttD f))):=⟨h,fun _=>Yd2 G h he⟩
theorem Cc{x:Str}(G:Good c k Z w0 X)(hc:k.calm=true)(hf:k.FN[f]?=some x)(hg:k.glob x=true)(hs:Wf k es ls=true)(ih:PA X ls (tFA w0 (tes c Z es))):
  PE X (.Call (.Name x np) ls [] pos) (tF w0 (te c Z (.call f es))):=by
 obtain⟨g1,g2,g3⟩:=G.gl hg
 obtain⟨E,ps,xk⟩:=G.exc
 cases hsp:c.Γ[f]? with
 | none=>
  have h1:=(Ac.mp hf).1
  have h2:=Hk.mp hsp
  rw[G.flen] at h1
  omega
 | some sp=>
  obtain⟨kk,fa,fd,pr,ds,dvs,dD,sp0,F,hr,hm,hk,hb,hd,hD,hsp0⟩:=G.fns hc f x sp hf hsp
  have key:∀σ H Q,tF w0 (te c Z (.call f es)) σ H Q→tFA w0 (tes c Z es) σ H fun vs H1=>spF X.K sp0 (vs++dvs) H1 Q E:=by
   rintro σ H Q ⟨w,σD,M,QD,S,g,a⟩
   refine⟨w,σD,M,_,S,g,fun vs w' ds' M' x' r' rd' q'=>?_⟩
   have q':sp ds' M' QD Z:=by
    have:=q'
    simp only[hsp] at this
    exact this
   have hKw:w'.K=X.K:=by rw[x'.K,S.K,G.eK]
   exact⟨w',ds'++dD,M',QD,Z,hKw,rfl,r',rd'.append (hD w' hKw),hsp0 _ _ _ _ q',a.ext x',fun cls dd H' hx=>xk cls dd H' (Z68 (S.ext.trans x') hx)⟩
  cases ls with
  | nil=>
   refine PE.imp (Zl3 F hr g1 hm hk hb hd ps g2) fun σ H Q h=>?_
   have h2:=key σ H Q h
   obtain⟨w,σD,M,QD,S,g,a⟩:=h2
   cases es with
   | nil=>
    have:=a [] w [] M (Ext.refl w) S.rs (RDs.nil w) g
    rw[S.heap] at this
    exact this
   | cons e r=>exact absurd hs Bf9
  | cons l ls=>
   cases es with
   | nil=>exact absurd hs Bf9
   | cons e r=>
    change (_&&_)=true at hs
    simp only[Bz9] at hs
    exact PE.imp (Zz7 F hr g1 hm hk hb hd ps ih g2 (Zv hs.1.2) (S6 (X7 r ls hs.2))) key
theorem te_var{i:Nat}:te c Z (.var i) σ M Q=(match σ[i]? with | some (some d)=>Q d M | _=>False):=rfl
theorem te_glb:te c Z (.glb g) σ M Q=(match c.G[g]? with | some d=>Q d M | none=>False):=rfl
theorem Bt{i:Nat}{x:Str}(G:Good c k Z w0 X)(h1:k.N[i]?=some x)(h2:k.vis x=true):PE X (.Name x pos) (tF w0 (te c Z (.var i))):=by
 obtain⟨v1,v2,v3⟩:=G.vis h2
 refine PE.imp (Y92 (i:=i) (by rw[G.N];exact h1) v1 v2 v3) fun σ H Q zz75=>?_
 obtain⟨w,σD,M,QD,S,g,a⟩:=zz75
 rw[te_var] at g
 split at g
 ·rename_i d e
  obtain⟨v,q1,q2⟩:=S.env.2 i d e
  have:=a v w d M (Ext.refl w) S.rs q2 g
  rw[S.heap] at this
  exact⟨v,q1,this⟩
 ·exact g.elim
theorem Z76{x:Str}(G:Good c k Z w0 X)(h1:k.GN[g]?=some x)(h2:k.glob x=true):PE X (.Name x pos) (tF w0 (te c Z (.glb g))):=by
 obtain⟨g1,g2,g3⟩:=G.gl h2
 cases hd:c.G[g]? with
 | none=>
  refine PE.imp (t:=fun _ _ _=>False) (fun _ _ _ _ _ _ h=>h.elim) fun σ H Q zz76=>?_
  obtain⟨w,σD,M,QD,S,q,a⟩:=zz76
  rw[te_glb] at q
  rw[hd] at q
  exact q
 | some d=>
  obtain⟨v,u,q1,q2,q3⟩:=G.glb g x d h1 hd
  refine PE.imp (Zy5 g1 q1 q2 g2) fun σ H Q h=>Qq (d:=d) (fun w hw=>q3 w (by rw[hw,G.eK])) ?_
  obtain⟨w,σD,M,QD,S,q,a⟩:=h
  rw[te_glb] at q
  rw[hd] at q
  exact⟨w,σD,M,QD,S,q,a⟩
theorem Ye2(hs:Wf k es (l::ls)=true):starEach (l::ls) X.env=(false,eval l X.env)::starEach ls X.env∧(backTo pos (starEach ls X.env)).any (·.1)=false:=by
 cases es with
 | nil=>exact absurd hs Bf9
 | cons e r=>
  change (_&&_)=true at hs
  simp only[Bz9] at hs
  exact⟨Zv hs.1.2,S6 (X7 r ls hs.2)⟩
theorem Ze7{x:Str}(G:Good c k Z w0 X)(hc:k.calm=true∨Q0 b=true)(hx:x=(bfOf b).1)(hg:k.glob x=true)(hB:x∈k.BN)(hs:Wf k es (l::ls)=true)(ih:PA X (l::ls) (tFA w0 (tes c Z es))):
  PE X (.Call (.Name x np) (l::ls) [] pos) (tF w0 (te c Z (.bf b es))):=by
 obtain⟨g1,g2,g3⟩:=G.gl hg
 have hm:=G.blt x hB
 have hb:bootBuiltins x=some (bfOf b).2:=by rw[hx];exact Zu8 b
 have snd:=Zg1 (w0:=w0) G.eK b (hc.imp G.calm id)
 have st:starEach (l::ls) X.env=(false,eval l X.env)::starEach ls X.env∧(backTo pos (starEach ls X.env)).any (·.1)=false:=by
  cases es with
  | nil=>exact absurd hs Bf9
  | cons e r=>
   change (_&&_)=true at hs
   simp only[Bz9] at hs
   exact⟨Zv hs.1.2,S6 (X7 r ls hs.2)⟩
 have key:∀σ H Q,tF w0 (te c Z (.bf b es)) σ H Q→tCB (rC w0 (bfD w0.K b)) (tFA w0 (tes c Z es)) σ H Q:=by
  rintro σ H Q ⟨w,σD,M,QD,S,g,a⟩
  refine⟨w,σD,M,_,S,g,fun vs w' ds M' x' r' rd' q'=>?_⟩
  rw[←G.wK] at q'
  exact⟨w',M',ds,QD,rfl,by rw[x'.K,S.K],r',rd',q',a.ext x'⟩
 cases hv:(bfOf b).2 with
 | builtin id=>
  rw[hv] at hb snd
  exact PE.imp (Zg9 snd g1 hm hb ih g3 g2 st.1 st.2) key
 | type T=>
  rw[hv] at hb snd
  exact PE.imp (Sy snd g1 hm hb ih g3 g2 st.1 st.2) key
 | _=>cases b<;>cases hv
theorem Zl6(G:Good c k Z w0 X)(hb:Bp l=true)(hl:(ap.endLine==cp.line)=true)(hn:ls.length<30)(hs:Wf k es ls=true)(ho:PE X l (tF w0 (te c Z o)))(ih:PA X ls (tFA w0 (tes c Z es))):
  PE X (.Call (.Attribute l (mtN m) ap) ls [] cp) (tF w0 (te c Z (.mt m o es))):=by
 have snd:=Zd0 (w0:=w0) G.eK G.units m
 cases ls with
 | nil=>
  refine PE.imp (Ya2 (Y03 m) (Z84 m) (Y89 m) snd ho (Nt hb) hl) fun σ H Q zz77=>?_
  obtain⟨w,σD,M,QD,S,g,a⟩:=zz77
  refine Y2 S g fun x w1 dx M1 x1 r1 rx q1=>?_
  have ty:=Zm3 r1 rx q1.1
  rw[x1.K,S.K,←G.eK] at ty
  refine⟨ty,?_⟩
  cases es with
  | nil=>exact⟨w1,M1,dx,[],QD,rfl,by rw[x1.K,S.K],r1,rx,RDs.nil w1,q1.2,a.ext x1⟩
  | cons e r=>exact absurd hs Bf9
 | cons l' ls=>
  cases es with
  | nil=>exact absurd hs Bf9
  | cons e r=>
   have hs':=hs
   change (_&&_)=true at hs'
   simp only[Bz9] at hs'
   have few:((backTo cp (starEach (l'::ls) X.env)).all (fun x=> !x.1)&&(backToKw cp (keywordEach [] X.env)).all (fun x=>x.1.isSome)
     &&decide ((l'::ls).length+([]:List Keyword).length+(if ([]:List Keyword).isEmpty then 0 else 1)<30))=true:=by
    rw[Zf7 (X7 _ _ hs)]
    show(true&&true&&decide ((l'::ls).length+0+0<30))=true
    simpa using hn
   refine PE.imp (Yb4 (Y03 m) (Z84 m) (Y89 m) snd ho ih (Nt hb) few hl (Zv hs'.1.2) (S6 (X7 r ls hs'.2))) fun σ H Q zz78=>?_
   obtain⟨w,σD,M,QD,S,g,a⟩:=zz78
   refine Y2 S g fun x w1 dx M1 x1 r1 rx q1=>?_
   have ty:=Zm3 r1 rx q1.1
   rw[x1.K,S.K,←G.eK] at ty
   refine⟨ty,w1,σD,M1,_,S.next x1 r1,q1.2,fun vs w2 ds M2 x2 r2 rd2 q2=>?_⟩
   exact⟨w2,M2,dx,ds,QD,rfl,by rw[x2.K,x1.K,S.K],r2,rx.ext x2,rd2,q2,a.ext (x1.trans x2)⟩
theorem Zl4{a:E}{lo hi:Eo}{l:Expr}{x y:Option Expr}{p2 pos:Pos}(G:Good c k Z w0 X)(ha:PE X l (tF w0 (te c Z a)))(h1:PO X x (tFO w0 (teo c Z lo)))(h2:PO X y (tFO w0 (teo c Z hi))):
  PE X (.Subscript l (.Slice x y none p2) pos) (tF w0 (te c Z (.sl a lo hi))):=by
 refine PE.imp (Fg (Zh4 (w0:=w0) G.eK) ha h1 h2) fun σ H Q zz79=>?_
 obtain⟨w,σD,M,QD,S,g,aq⟩:=zz79
 refine Y2 S g fun x w1 dx M1 x1 r1 rx q1=>?_
 refine⟨w1,σD,M1,_,S.next x1 r1,q1,fun l w2 M2 x2 r2 q2=>?_⟩
 refine⟨w2,σD,M2,_,(S.next x1 r1).next x2 r2,q2,fun h w3 M3 x3 r3 q3=>?_⟩
 exact⟨w3,M3,dx,QD,rfl,by rw[x3.K,x2.K,x1.K,S.K],r3,rx.ext (x2.trans x3),q3,aq.ext ((x1.trans x2).trans x3)⟩
theorem sl_W:SlR X (fun x lo hi H Q=>∃a xs,x= .ref a∧SqT X.K H a xs∧((HT.sIx xs.length 0 lo=0∧HT.sIx xs.length xs.length hi=xs.length)→Q x H)∧∀p,H p=none→Q (.ref p) (upd H p (.tup (cutV xs lo hi)))):=by
 intro pins s σ H x v vl vu lo hi sl Q I rx hs pl pu h
 obtain⟨a,xs,rfl,hx,h1,h2⟩:=h
 by_cases hw:HT.sIx xs.length 0 lo=0∧HT.sIx xs.length xs.length hi=xs.length
 ·exact Zs0 pins s σ H _ v vl vu lo hi sl Q I rx hs pl pu ⟨a,xs,rfl,hx,hw,h1 hw⟩
 ·exact Zp3 pins s σ H _ v vl vu lo hi sl Q I rx hs pl pu ⟨a,xs,rfl,hx,hw,h2⟩
theorem Z00{a:E}{lo hi:Eo}{l:Expr}{x y:Option Expr}{p2 pos:Pos}(G:Good c k Z w0 X)(ha:PE X l (tF w0 (te c Z a)))(h1:PO X x (tFO w0 (teo c Z lo)))(h2:PO X y (tFO w0 (teo c Z hi))):
  PE X (.Subscript l (.Slice x y none p2) pos) (tF w0 (te c Z (.slW a lo hi))):=by
 refine PE.imp (Fg sl_W ha h1 h2) fun σ H Q zz80=>?_
 obtain⟨w,σD,M,QD,S,g,aq⟩:=zz80
 refine Y2 S g fun x w1 dx M1 x1 r1 rx q1=>?_
 have S1:=S.next x1 r1
 refine⟨w1,σD,M1,_,S1,q1,fun l1 w2 M2 x2 r2 q2=>?_⟩
 have S2:=S1.next x2 r2
 refine⟨w2,σD,M2,_,S2,q2,fun h1 w3 M3 x3 r3 q3=>?_⟩
 obtain⟨xs,rfl,q4⟩:=Sc q3
 have rx3:=(rx.ext x2).ext x3
 obtain⟨p,vs,rfl,e1,e2⟩:=Y5.mp rx3
 refine⟨p,vs,rfl,.of e1,fun hw=>?_,fun q hq=>?_⟩
 ·have e:cutD xs l1 h1=xs:=by
   unfold cutD
   rw[←e2.length,hw.1,hw.2,List.drop_zero,Nat.sub_zero,e2.length,Ht]
  rw[e] at q4
  exact aq _ _ _ _ ((x1.trans x2).trans x3) r3 rx3 q4
 ·obtain⟨y1,y2,y3⟩:=Wr r3 hq (Jw (lo:=l1) (hi:=h1) e2)
  exact aq _ _ _ _ (((x1.trans x2).trans x3).trans y1) y2 y3 q4
theorem C8{a:E}{x y:Str}(G:Good c k Z w0 X)(hc:k.calm=true)(hx:x=("list":Str))(hy:y=("reversed":Str))(hg:k.glob x=true)(hg':k.glob y=true)(hB:x∈k.BN)(hB':y∈k.BN)(hl:Sg l=true)(ih:PE X l (tF w0 (te c Z a))):
  PE X (.Call (.Name x p1) [.Call (.Name y p2) [l] [] q2] [] q1) (tF w0 (te c Z (.lrev a))):=by
 obtain⟨g1,g2,g3⟩:=G.gl hg
 obtain⟨g1',g2',g3'⟩:=G.gl hg'
 have hset:=Sy (p:=p2) (pos:=q2) (Zf9 (X:=X)) g1' (G.blt _ hB') (by rw[hy];exact Og) (Rt ih Jb (Zv hl)) g3' g2' (Zv hl) rfl
 refine PE.imp (Sy (B3 (X:=X) (G.calm hc)) g1 (G.blt _ hB) (by rw[hx];exact boot_list) (Rt hset Jb rfl) g3 g2 rfl rfl) fun σ H Q zz81=>?_
 obtain⟨w,σD,M,QD,S,g,aq⟩:=zz81
 refine Y2 S g fun x w1 dx M1 x1 r1 rx q1=>?_
 obtain⟨n,rfl,q1⟩:=Yr q1
 obtain⟨hn,rfl⟩:=Zg.mp rx
 obtain⟨xs,e1,q⟩:=q1
 have hK:w1.K=X.K:=by rw[x1.K,S.K,G.eK]
 obtain⟨_,vs,z1,z2,_⟩:=r1.listL e1
 rw[hK] at z1
 refine⟨_,vs,rfl,z1,fun p hp hlp=>?_⟩
 refine⟨p,w1.μ n,vs,rfl,Ye,?_,fun t ht=>?_⟩
 ·rcases z1 with(z1 | ⟨o,z1⟩) | z1
  ·exact .inl (.inl (by rw[Zi hlp];exact z1))
  ·exact .inl (.inr ⟨o,by rw[Zi hlp];exact z1⟩)
  ·exact .inr z1
 ·have hd:del (upd w1.H p (.ext (Eg X.s₀.heap.objs.size p (w1.μ n) vs.length))) p=w1.H:=by
   funext b
   unfold del
   split
   ·rename_i e;rw[e];exact hp.symm
   ·rename_i e;exact Zi e
  have ht':w1.H t=none:=by
   by_cases e:t=p
   ·rw[e];exact hp
   ·rw[Zi e] at ht;exact ht
  rw[hd]
  obtain⟨y1,y2,y3⟩:=X9 r1 ht' z2.reverse
  exact aq _ _ _ _ (x1.trans y1) y2 y3 q
theorem Zc7{a b:E}(G:Good c k Z w0 X)(hn:G3 r=true)(ha:PE X l (tF w0 (te c Z a)))(hb:PE X r (tF w0 (te c Z b))):PE X (.Subscript l r pos) (tF w0 (te c Z (.ix a b))):=by
 have pl:Z46 r:=by
  intro o i
  cases r<;>first | rfl | cases hn
 refine PE.imp (Yd1 (Ze4 (w0:=w0) G.eK G.units) ha hb pl) fun σ H Q zz82=>?_
 obtain⟨w,σD,M,QD,S,g,aq⟩:=zz82
 refine Y2 S g fun x w1 dx M1 x1 r1 rx q1=>?_
 refine Y2 (S.next x1 r1) q1 fun y w2 dy M2 x2 r2 ry q2=>?_
 exact⟨w2,M2,dx,dy,_,rfl,by rw[x2.K,x1.K,S.K],r2,rx.ext x2,ry,q2,fun d v hq hr=>aq v w2 d M2 (x1.trans x2) r2 hr hq⟩
theorem Qb{el t iter:Expr}(G:Good c k Z w0 X)(hc:k.calm=true)(ho:Vg k.sc k.N N' js scope=true)(hns:Z43 iter=true)(hn:N'.Nodup)
  (hi:PI X t iter (iF w0 (tit c Z it))) (ht:Nc {k with N:=N',sc:=Xi scope k.sc,cells:=false,own:=Gh scope,tries:=false,raises:=[]} tg t=true) (hd:chkC {k with N:=N',sc:=Xi scope k.sc,cells:=false,own:=Gh scope,tries:=false,raises:=[]} cd ifs=true) (he:chkE {k with N:=N',sc:=Xi scope k.sc,cells:=false,own:=Gh scope,tries:=false,raises:=[]} e el=true) (ihe:Zp4 c e) (ihd:Zn7 c cd):
  PE X (.ListComp el [⟨t,iter,ifs,0⟩] scope pos) (tF w0 (te c Z (.comp N' js tg it cd e)))∧
  ∀(i:Nat) (x:Str) (px spos:Pos),X.N[i]?=some x→X.env.scope.names.lookup x=some .local→swapsWith (.ListComp el [⟨t,iter,ifs,0⟩] scope pos) (some (.Name x px)) spos.line X.env=pure true→
   PS X (.Assign [.Name x px] (.ListComp el [⟨t,iter,ifs,0⟩] scope pos) spos) (fun R σ H=>tF w0 (te c Z (.comp N' js tg it cd e)) σ H fun v H1=>R.nx (σ.set i (some v)) H1):=by
 have ho':Vg X.env.scope X.N N' js scope=true:=by rw[G.sc,G.N];exact ho
 have hf:∀x,foldedSetIterable iter X.env x=pure x:=by
  intro x
  cases iter<;>first | rfl | cases hns
 have hg:=fun cl C fp pins s H=>(Good.block G hc (scope:=scope) hn cl C fp pins s H).tgt tg t ht
 have hel:=fun cl C fp pins s H=>(ihe _ _ _ _ el (Good.block G hc (scope:=scope) hn cl C fp pins s H) he).1
 have key:∀σ H Q,tF w0 (te c Z (.comp N' js tg it cd e)) σ H Q→iF w0 (tit c Z it) σ H fun J H1=>∀p,H1 p=none→∃W:Nat→Nat→L2.St→Hp→Prop,(∃m,W 0 m (Vm js σ) (upd H1 p (.lst [])))∧
   ∀i m σc Hc,W i m σc Hc→(J.stop i Hc∧Q (.ref p) Hc)∨(J.go i Hc∧∀x H',J.yld i Hc x H'→gF w0 tg x σc H' fun σ2 H2=>tFT w0 (tcd c noX cd) σ2 H2 fun b H3=>if b=true then tF w0 (te c noX e) σ2 H3 fun y H4=>∃acc,H4 p=some (.lst acc)∧acc.length<sizeLine∧
    ∃m',m'<m∧W (i+1) m' σ2 (upd H4 p (.lst (acc++[y]))) else ∃m',m'<m∧W (i+1) m' σ2 H3):=by
  rintro σ H Q ⟨w,σD,M,QD,S,g,a⟩
  refine⟨w,σD,M,_,S,g,fun J w1 own xs M1 x1 R1 jk q1=>?_⟩
  exact Ze2 (S.ext.trans x1) rfl R1 (Zx5 (S.env.ext x1)) jk q1 fun v w2 d M2 x2 r2 rd2 zz83=>by obtain⟨e2,q2⟩:=zz83;exact a v w2 d M2 (x1.trans x2) r2 rd2 (by rw[e2];exact q2)
 have nocd:∀{σ:L2.St} {H:Hp} {P:Bool→Hp→Prop},cd= .no→tFT w0 (tcd c noX cd) σ H P→P true H:=by
  intro σ H P e h
  subst e
  obtain⟨w,σD,M,QD,S,g,a⟩:=h
  have:=a true w M (Ext.refl w) S.rs g
  rw[S.heap] at this
  exact this
 cases ifs with
 | nil=>
  have hcd:cd= .no:=by
   cases cd with
   | no=>rfl
   | yes e'=>exact absurd hd Bf9
  have key0:∀σ H Q,tF w0 (te c Z (.comp N' js tg it cd e)) σ H Q→Za4 js (iF w0 (tit c Z it)) (gF w0 tg) (tF w0 (te c noX e)) σ H Q:=by
   intro σ H Q h
   obtain⟨w,σD,M,QD,S,g,a⟩:=key σ H Q h
   refine⟨w,σD,M,QD,S,g,fun J w' own xs M' x' r' jk q p hp=>?_⟩
   obtain⟨W,w1,w2⟩:=a J w' own xs M' x' r' jk q p hp
   refine⟨W,w1,fun i m σc Hc hW=>(w2 i m σc Hc hW).imp id fun⟨z1,z2⟩=>⟨z1,fun x H' hy=>?_⟩⟩
   obtain⟨v1,v2,v3,v4,v5,v6,v7,v8,v9⟩:=z2 x H' hy
   refine⟨v1,v2,v3,v4,v5,v6,v7,v8,fun σ' σD' en q'=>?_⟩
   have:=nocd hcd (v9 σ' σD' en q')
   rw[if_pos rfl] at this
   exact this
  exact⟨PE.imp (Zg6 (G.calm hc) ho' hi hg hel hf) key0,fun i x px spos h1 h2 h3=>PS.imp (Zj1 (G.calm hc) ho' G.nd h1 h2 hi hg hel h3 hf) fun R σ H h=>key0 σ H _ h⟩
 | cons x0 ifs=>
  have hq:∀cl C fp pins s H,∃x,x0::ifs=[x]∧PT (cxC X N' scope cl C fp pins s H) x (tFT w0 (tcd c noX cd)):=fun cl C fp pins s H=>by
   rcases ihd.2 _ _ _ _ (x0::ifs) (Good.block G hc (scope:=scope) hn cl C fp pins s H) hd with h | ⟨h,_⟩
   ·exact h
   ·cases h
  have e0:ifs=[]:=by
   cases cd with
   | no=>exact absurd hd Bf9
   | yes e'=>
    cases ifs with
    | nil=>rfl
    | cons _ _=>exact absurd hd Bf9
  subst e0
  have hq':∀cl C fp pins s H,PT (cxC X N' scope cl C fp pins s H) x0 (tFT w0 (tcd c noX cd)):=fun cl C fp pins s H=>by
   obtain⟨x,h1,h2⟩:=hq cl C fp pins s H
   cases h1
   exact h2
  exact⟨PE.imp (Zd2 (G.calm hc) ho' hi hg hq' hel hf) key,fun i x px spos h1 h2 h3=>PS.imp (Zk8 (G.calm hc) ho' G.nd h1 h2 hi hg hq' hel h3 hf) fun R σ H h=>key σ H _ h⟩
end
section
variable{c:Cfg}{k:Ck}{Z:DX}{w0:Vw}{X:Cx}
theorem te_cmp_bl{a b:E}(σD:DEnv)(M:Z2)(QD:DK)(h:te c Z (.cmp op a b) σD M QD):te c Z (.cmp op a b) σD M fun d M'=>(∃b,d= .bl b)∧QD d M':=by
 have e:(fun(d:D) (M':Z2)=>QD d M')=QD:=rfl
 show te c Z a σD M fun x M1=>te c Z b σD M1 fun y M2=>cmD M2 op x y fun r=>(∃b,D.bl r= .bl b)∧QD (.bl r) M2
 have h:te c Z a σD M (fun x M1=>te c Z b σD M1 fun y M2=>cmD M2 op x y fun r=>QD (.bl r) M2):=h
 have:(fun(x:D) (M1:Z2)=>te c Z b σD M1 fun y M2=>cmD M2 op x y fun r=>QD (.bl r) M2)=fun x M1=>te c Z b σD M1 fun y M2=>cmD M2 op x y fun r=>(∃b,D.bl r= .bl b)∧QD (.bl r) M2:=by
  funext x M1
  congr 1
  funext y M2
  congr 1
  funext r
  exact propext ⟨fun h=>⟨⟨r,rfl⟩,h⟩,fun h=>h.2⟩
 rw[this] at h
 exact h
theorem Zu6{a b:Expr}{rest:List Expr}(ha:PE X a ta)(hb:PE X (.BoolOp .And (b::rest) pos) tb):PE X (.BoolOp .And (a::b::rest) pos) (fun σ H Q=>ta σ H fun x H1=>∃z,TruV X.K x H1 z∧if z=true then tb σ H1 Q else Q x H1):=by
 intro pins s σ H Q I h
 refine BoolOp_and (thn (ha pins s σ H _ I h) fun v s1 zz85=>?_)
 obtain⟨x,H1,I1,r1,q1⟩:=zz85
 refine thn (Fq pins s1 σ H1 x v (fun z H2=>if z=true then tb σ H2 Q else Q x H2) I1 r1 q1) fun z s2 zz86=>?_
 obtain⟨H2,I2,q2⟩:=zz86
 cases z with
 | true=>exact hb pins s2 σ H2 Q I2 (by rw[if_pos rfl] at q2;exact q2)
 | false=>exact⟨x,H2,I2,r1,by rw[if_neg Bf9] at q2;exact q2⟩
theorem Y70{a b:Expr}{rest:List Expr}(ha:PE X a ta)(hb:PE X (.BoolOp .Or (b::rest) pos) tb):PE X (.BoolOp .Or (a::b::rest) pos) (fun σ H Q=>ta σ H fun x H1=>∃z,TruV X.K x H1 z∧if z=true then Q x H1 else tb σ H1 Q):=by
 intro pins s σ H Q I h
 refine BoolOp_or (thn (ha pins s σ H _ I h) fun v s1 zz87=>?_)
 obtain⟨x,H1,I1,r1,q1⟩:=zz87
 refine thn (Fq pins s1 σ H1 x v (fun z H2=>if z=true then Q x H2 else tb σ H2 Q) I1 r1 q1) fun z s2 zz88=>?_
 obtain⟨H2,I2,q2⟩:=zz88
 cases z with
 | false=>exact hb pins s2 σ H2 Q I2 (by rw[if_neg Bf9] at q2;exact q2)
 | true=>exact⟨x,H2,I2,r1,by rw[if_pos rfl] at q2;exact q2⟩
theorem Jn{n:Nat}(h1:Zc M n=some xs)(h2:Zs M n=some ys):False:=by
 unfold Zc at h1
 unfold Zs at h2
 cases h:M[n]? with
 | none=>rw[h] at h2;cases h2
 | some c=>rw[h] at h1 h2;cases c<;>simp at h1 h2
theorem E4{x:D}{k:Bool}:truD M x (fun b=>if b=k then A else truD M x P)=truD M x (fun b=>if b=k then A else P b):=by
 cases x with
 | str y=>
  apply propext
  show(y.length≤sizeLine∧if ((y.length:Int) !=0)=k then A else(y.length≤sizeLine∧P ((y.length:Int) !=0)))↔(y.length≤sizeLine∧if ((y.length:Int) !=0)=k then A else P ((y.length:Int) !=0))
  split<;>simp (config:={contextual:=true})
 | ref n=>
  apply propext
  have key:∀Q:Bool→Prop,truD M (.ref n) Q↔(∃xs,Zc M n=some xs∧Q (!xs.isEmpty))∨(∃xs,Zs M n=some xs∧Q (!xs.isEmpty)):=fun Q=>Mh
  constructor
  ·intro h
   rcases(key _).mp h with⟨xs,h1,h2⟩ | ⟨xs,h1,h2⟩
   ·refine(key _).mpr (.inl ⟨xs,h1,?_⟩)
    split at h2
    ·rename_i e;rw[if_pos e];exact h2
    ·rename_i e
     rw[if_neg e]
     rcases(key _).mp h2 with⟨ys,g1,g2⟩ | ⟨ys,g1,g2⟩
     ·rw[h1] at g1;cases g1;exact g2
     ·exact(Jn h1 g1).elim
   ·refine(key _).mpr (.inr ⟨xs,h1,?_⟩)
    split at h2
    ·rename_i e;rw[if_pos e];exact h2
    ·rename_i e
     rw[if_neg e]
     rcases(key _).mp h2 with⟨ys,g1,g2⟩ | ⟨ys,g1,g2⟩
     ·exact(Jn g1 h1).elim
     ·rw[h1] at g1;cases g1;exact g2
  ·intro h
   rcases(key _).mp h with⟨xs,h1,h2⟩ | ⟨xs,h1,h2⟩
   ·refine(key _).mpr (.inl ⟨xs,h1,?_⟩)
    split at h2
    ·rename_i e;rw[if_pos e];exact h2
    ·rename_i e;rw[if_neg e];exact(key _).mpr (.inl ⟨xs,h1,h2⟩)
   ·refine(key _).mpr (.inr ⟨xs,h1,?_⟩)
    split at h2
    ·rename_i e;rw[if_pos e];exact h2
    ·rename_i e;rw[if_neg e];exact(key _).mpr (.inr ⟨xs,h1,h2⟩)
 | non=>rfl
 | bl b=>rfl
 | int i=>rfl
 | tup xs=>rfl
 | _=>rfl
theorem te_bop_tt(h:ttD (tbop c Z true (.cons e (.cons e2 r))) σD M QD):
  ttD (te c Z e) σD M fun z M1=>if z=true then ttD (tbop c Z true (.cons e2 r)) σD M1 QD else QD false M1:=by
 have hh:(fun(x:D) (M1:Z2)=>truD M1 x fun b=>if b=true then ttD (tbop c Z true (.cons e2 r)) σD M1 QD else truD M1 x fun b=>QD b M1)=
   fun x M1=>truD M1 x fun z=>if z=true then ttD (tbop c Z true (.cons e2 r)) σD M1 QD else QD false M1:=by
  funext x M1
  rw[E4]
  congr 1
  funext b
  cases b<;>rfl
 have h':te c Z e σD M fun(x:D) (M1:Z2)=>truD M1 x fun b=>if b=true then ttD (tbop c Z true (.cons e2 r)) σD M1 QD else truD M1 x fun b=>QD b M1:=h
 rw[hh] at h'
 exact h'
theorem te_bop_ff(h:ttD (tbop c Z false (.cons e (.cons e2 r))) σD M QD):
  ttD (te c Z e) σD M fun z M1=>if z=true then QD true M1 else ttD (tbop c Z false (.cons e2 r)) σD M1 QD:=by
 have hh:(fun(x:D) (M1:Z2)=>truD M1 x fun b=>if b=false then ttD (tbop c Z false (.cons e2 r)) σD M1 QD else truD M1 x fun b=>QD b M1)=
   fun x M1=>truD M1 x fun z=>if z=true then QD true M1 else ttD (tbop c Z false (.cons e2 r)) σD M1 QD:=by
  funext x M1
  rw[E4]
  congr 1
  funext b
  cases b<;>rfl
 have h':te c Z e σD M fun(x:D) (M1:Z2)=>truD M1 x fun b=>if b=false then ttD (tbop c Z false (.cons e2 r)) σD M1 QD else truD M1 x fun b=>QD b M1:=h
 rw[hh] at h'
 exact h'
end
theorem Ca{k:Ck}{a:E}(h:chkE k (.lrev a) ex=true):∃x y l p1 p2 q1 q2,ex= .Call (.Name x p1) [.Call (.Name y p2) [l] [] q2] [] q1∧
  (k.calm&&x==("list":Str)&&y==("reversed":Str)&&k.glob x&&k.glob y&&k.BN.contains x&&k.BN.contains y&&Sg l&&chkE k a l)=true:=by
 cases ex with
 | Call fn as kws q1=>
  cases fn with
  | Name x p1=>
   cases as with
   | nil=>exact absurd h Bf9
   | cons a0 as=>
   cases a0 with
   | Call fn2 as2 kws2 q2=>
    cases fn2 with
    | Name y p2=>
     cases as2 with
     | nil=>exact absurd h Bf9
     | cons l ls=>
     cases ls with
     | cons _ _=>exact absurd h Bf9
     | nil=>
     cases kws2 with
     | cons _ _=>exact absurd h Bf9
     | nil=>
     cases as with
     | cons _ _=>exact absurd h Bf9
     | nil=>
     cases kws with
     | cons _ _=>exact absurd h Bf9
     | nil=>exact⟨x,y,l,p1,p2,q1,q2,rfl,h⟩
    | _=>exact absurd h Bf9
   | _=>exact absurd h Bf9
  | _=>exact absurd h Bf9
 | _=>exact absurd h Bf9
theorem Z37{k:Ck}(h:Ze0 k (.zip es) ex=true):∃l ls p q,ex= .Call (.Name "zip" p) (l::ls) [] q∧(k.glob "zip"&&k.BN.contains "zip"&&Wf k es (l::ls))=true:=by
 obtain⟨fn,ls,kws,pos,rfl,h⟩:=Ym h
 obtain⟨x,np,rfl,h⟩:=Yb h
 obtain⟨rfl,h⟩:=Xf h
 obtain⟨l,ls,rfl,h⟩:=Z73 h
 change (_&&_)=true at h
 simp only[Bz9,beq_iff_eq] at h
 obtain⟨⟨⟨rfl,h1⟩,h2⟩,h3⟩:=h
 refine⟨l,ls,_,_,rfl,?_⟩
 simp only[Bz9]
 exact⟨⟨h1,h2⟩,h3⟩
mutual
theorem Zl(c:Cfg):∀e:E,Zp4 c e
 | .var i,k,Z,w0,X,ex,G,h=>by
  obtain⟨x,pos,rfl,h⟩:=Yb h
  change (_&&_)=true at h
  simp only[Bz9,beq_iff_eq] at h
  exact both G (Bt G h.1 h.2) fun _=>rfl
 | .int i,k,Z,w0,X,ex,G,h=>by
  obtain⟨v,j,pos,rfl,h⟩:=Xc h
  cases v with
  | int m=>
   have h:(i==m)=true:=h
   simp only[beq_iff_eq] at h
   subst h
   exact both G (PE.imp Y86 fun σ H Q q=>Qq (fun _ _=>Ze.mpr rfl) q) fun _=>rfl
  | _=>exact absurd h Bf9
 | .bl i,k,Z,w0,X,ex,G,h=>by
  obtain⟨v,j,pos,rfl,h⟩:=Xc h
  cases v with
  | bool m=>
   have h:(i==m)=true:=h
   simp only[beq_iff_eq] at h
   subst h
   exact both G (PE.imp Ye1 fun σ H Q q=>Qq (fun _ _=>Yw.mpr rfl) q) fun _=>rfl
  | _=>exact absurd h Bf9
 | .non,k,Z,w0,X,ex,G,h=>by
  obtain⟨v,j,pos,rfl,h⟩:=Xc h
  cases v with
  | none=>exact both G (PE.imp Y22 fun σ H Q q=>Qq (fun _ _=>Zw.mpr rfl) q) fun _=>rfl
  | _=>exact absurd h Bf9
 | .str i,k,Z,w0,X,ex,G,h=>by
  obtain⟨v,j,pos,rfl,h⟩:=Xc h
  cases v with
  | str m=>
   have h:(i==m)=true:=h
   simp only[beq_iff_eq] at h
   subst h
   exact both G (PE.imp Y50 fun σ H Q q=>Qq (fun _ _=>Zm.mpr rfl) q) fun _=>rfl
  | _=>exact absurd h Bf9
 | .ty t,k,Z,w0,X,ex,G,h=>by
  obtain⟨x,pos,rfl,h⟩:=Yb h
  change (_&&_)=true at h
  simp only[Bz9,beq_iff_eq,Hm] at h
  obtain⟨g1,g2,g3⟩:=G.gl h.1.2
  exact both G (PE.imp (Zt2 (v:= .ty (Yj t)) g1 (G.blt x h.2) (by rw[h.1.1];exact Zp7 t) rfl g3 g2) fun σ H Q q=>Qq (fun _ _=>Zw0.mpr rfl) q) fun _=>rfl
 | .glb g,k,Z,w0,X,ex,G,h=>by
  obtain⟨x,pos,rfl,h⟩:=Yb h
  change (_&&_)=true at h
  simp only[Bz9,beq_iff_eq] at h
  exact both G (Z76 G h.1 h.2) fun _=>rfl
 | .bin op a b,k,Z,w0,X,ex,G,h=>by
  obtain⟨l,o,r,pos,rfl,h⟩:=Z80 h
  change (_&&_)=true at h
  simp only[Bz9,beq_iff_eq] at h
  obtain⟨⟨rfl,h1⟩,h2⟩:=h
  exact both G (PE.imp (Yb1 (Zi9 (w0:=w0) op) (Zl c a k Z w0 X l G h1).1 (Zl c b k Z w0 X r G h2).1) fun σ H Q q=>Z17 q) fun _=>rfl
 | .neg a,k,Z,w0,X,ex,G,h=>by
  obtain⟨o,l,pos,rfl,h⟩:=Fz h
  change (_&&_)=true at h
  simp only[Bz9,beq_iff_eq] at h
  obtain⟨rfl,h1⟩:=h
  refine both G (PE.imp (Yb3 Y33 (Zl c a k Z w0 X l G h1).1) fun σ H Q zz89=>?_) fun _=>rfl
  obtain⟨w,σD,M,QD,S,g,aq⟩:=zz89
  refine Y2 S g fun x w1 dx M1 x1 r1 rx q1=>?_
  split at q1
  ·cases Ze.mp rx
   exact⟨_,rfl,aq _ w1 _ M1 x1 r1 (Ze.mpr rfl) q1⟩
  ·exact q1.elim
 | .not a,k,Z,w0,X,ex,G,h=>by
  obtain⟨o,l,pos,rfl,h⟩:=Fz h
  change (_&&_)=true at h
  simp only[Bz9,beq_iff_eq] at h
  obtain⟨rfl,h1⟩:=h
  obtain⟨i1,i2⟩:=Zl c a k Z w0 X l G h1
  refine⟨PE.imp (Zy8 i1) fun σ H Q ⟨w,σD,M,QD,S,g,aq⟩=>?_,fun hn=>PT.imp (Y95 (i2 hn)) fun σ H Q ⟨w,σD,M,QD,S,g,aq⟩=>?_⟩
  ·refine Y2 S g fun x w1 dx M1 x1 r1 rx q1=>?_
   obtain⟨b,t1,t2⟩:=Ww (K:=X.K) (by rw[x1.K,S.K,G.eK]) r1 rx q1
   exact⟨b,t1,aq _ w1 _ M1 x1 r1 (Yw.mpr rfl) t2⟩
  ·exact⟨w,σD,M,fun b M1=>QD (!b) M1,S,g,fun b w' M' x' r' q'=>aq _ w' M' x' r' q'⟩
 | .cmp op a b,k,Z,w0,X,ex,G,h=>by
  obtain⟨l,os,rs,pos,rfl,h⟩:=Za6 h
  obtain⟨o,rfl,h⟩:=Vo h
  obtain⟨r,rfl,h⟩:=Vo h
  change (_&&_)=true at h
  simp only[Bz9,beq_iff_eq] at h
  obtain⟨⟨⟨rfl,h0⟩,h1⟩,h2⟩:=h
  have hm:behindInMarks (cmOf op) r=false:=by
   cases r with
   | Set es kk p=>cases op<;>first | (simp[isIn,Z43] at h0;done) | (simp[behindInMarks,cmOf])
   | _=>rfl
  have ia:=(Zl c a k Z w0 X l G h1).1
  have ib:=(Zl c b k Z w0 X r G h2).1
  refine⟨PE.imp (Zt0 (F8 (w0:=w0) G.eK G.units op) ia ib hm) fun σ H Q q=>J1 q,fun _=>Zq5 (PT.imp (Zv8 (F8 (w0:=w0) G.eK G.units op) ia ib hm) fun σ H Q q=>J1 q) te_cmp_bl⟩
 | .bop b es,k,Z,w0,X,ex,G,h=>by
  obtain⟨o,ls,pos,rfl,h⟩:=B6 h
  change (_&&_)=true at h
  simp only[Bz9,beq_iff_eq] at h
  obtain⟨rfl,h⟩:=h
  cases b with
  | true=>
   obtain⟨i1,i2⟩:=(Xa c es k Z w0 X ls G h).2 true pos
   exact⟨i1,fun hn=>(i2 hn).pt⟩
  | false=>
   obtain⟨i1,i2⟩:=(Xa c es k Z w0 X ls G h).2 false pos
   exact⟨i1,fun hn=>(i2 hn).pt⟩
 | .lst es,k,Z,w0,X,ex,G,h=>by
  obtain⟨ls,pos,rfl,h⟩:=Zb3 h
  refine both G (PE.imp (Y52 (Xa c es k Z w0 X ls G h).1) fun σ H Q zz92=>?_) fun _=>rfl
  obtain⟨w,σD,M,QD,S,g,aq⟩:=zz92
  refine⟨w,σD,M,_,S,g,fun vs w1 ds M1 x1 r1 rd1 q1=>⟨by rw[rd1.length];exact q1.1,fun p hp=>?_⟩⟩
  obtain⟨y1,y2,y3⟩:=X9 r1 hp rd1
  exact aq _ _ _ _ (x1.trans y1) y2 y3 q1.2
 | .tup es,k,Z,w0,X,ex,G,h=>by
  obtain⟨ls,kk,pos,rfl,h⟩:=Np h
  refine both G (PE.imp (Y11 (Xa c es k Z w0 X ls G h).1) fun σ H Q zz93=>?_) fun _=>rfl
  obtain⟨w,σD,M,QD,S,g,aq⟩:=zz93
  refine⟨w,σD,M,_,S,g,fun vs w1 ds M1 x1 r1 rd1 q1=>⟨by rw[rd1.length];exact q1.1,fun p hp=>?_⟩⟩
  obtain⟨y1,y2,y3⟩:=Wr r1 hp rd1
  exact aq _ _ _ _ (x1.trans y1) y2 y3 q1.2
 | .dict0,k,Z,w0,X,ex,G,h=>by
  obtain⟨ks,vs,pos,rfl,h⟩:=Bd h
  obtain⟨rfl,h⟩:=Xf h
  obtain⟨rfl,_⟩:=Xf h
  refine both G (PE.imp Ze3 fun σ H Q zz94=>?_) fun _=>rfl
  obtain⟨w,σD,M,QD,S,g,aq⟩:=zz94
  intro p hp
  rw[←S.heap] at hp
  obtain⟨y1,y2,y3⟩:=Ze8 (xs:=[]) (vs:=[]) S.rs hp (by unfold RKV;rfl)
  have:=aq _ _ _ _ y1 y2 y3 g
  rw[←S.heap]
  exact this
 | .dictT,k,Z,w0,X,ex,G,h=>by
  cases ex with
  | Dict ks vs pos=>
   match ks,vs,h with
   | [],[],h=>
    refine both G (PE.imp Zf2 fun σ H Q zz95=>?_) fun _=>rfl
    obtain⟨w,σD,M,QD,S,g,aq⟩:=zz95
    intro p hp
    rw[←S.heap] at hp
    obtain⟨y1,y2,y3⟩:=Z02 (xs:=[]) (vs:=[]) S.rs hp (by unfold RKV;rfl)
    have:=aq _ _ _ _ y1 y2 y3 g
    rw[←S.heap]
    exact this
   | [],_::_,h=>exact absurd h Bf9
   | _::_,_,h=>exact absurd h Bf9
  | _=>exact absurd h Bf9
 | .ix a b,k,Z,w0,X,ex,G,h=>by
  obtain⟨l,r,pos,rfl,h⟩:=Ji h
  change (_&&_)=true at h
  simp only[Bz9] at h
  exact both G (Zc7 G h.1.1 (Zl c a k Z w0 X l G h.1.2).1 (Zl c b k Z w0 X r G h.2).1) fun _=>rfl
 | .sl a lo hi,k,Z,w0,X,ex,G,h=>by
  obtain⟨l,r,pos,rfl,h⟩:=Ji h
  obtain⟨x,y,z,p2,rfl,h⟩:=Z89 h
  obtain⟨rfl,h⟩:=Zx0 h
  change (_&&_)=true at h
  simp only[Bz9] at h
  exact both G (Zl4 G (Zl c a k Z w0 X l G h.1.1).1 ((Q9 c lo).1 k Z w0 X x G h.1.2) ((Q9 c hi).1 k Z w0 X y G h.2)) fun _=>rfl
 | .slW a lo hi,k,Z,w0,X,ex,G,h=>by
  cases ex with
  | Subscript l r pos=>
   cases r with
   | Slice x y z p2=>
    cases z with
    | none=>
     change (_&&_)=true at h
     simp only[Bz9] at h
     exact both G (Z00 G (Zl c a k Z w0 X l G h.1.1).1 ((Q9 c lo).1 k Z w0 X x G h.1.2) ((Q9 c hi).1 k Z w0 X y G h.2)) fun _=>rfl
    | some _=>exact absurd h Bf9
   | _=>exact absurd h Bf9
  | _=>exact absurd h Bf9
 | .lrev a,k,Z,w0,X,ex,G,h=>by
  obtain⟨x,y,l,p1,p2,q1,q2,rfl,hs⟩:=Ca h
  simp only[Bz9,beq_iff_eq,Hm] at hs
  obtain⟨⟨⟨⟨⟨⟨⟨⟨h1,h2⟩,h3⟩,h4⟩,h5⟩,h6⟩,h7⟩,h8⟩,h9⟩:=hs
  exact both G (C8 G h1 h2 h3 h4 h5 h6 h7 h8 (Zl c a k Z w0 X l G h9).1) fun _=>rfl
 | .call f es,k,Z,w0,X,ex,G,h=>by
  obtain⟨fn,ls,kws,pos,rfl,h⟩:=Ym h
  obtain⟨x,np,rfl,h⟩:=Yb h
  obtain⟨rfl,h⟩:=Xf h
  change (_&&_)=true at h
  simp only[Bz9,beq_iff_eq] at h
  exact both G (Cc G h.1.1.1 h.1.1.2 h.1.2 h.2 (Xa c es k Z w0 X ls G h.2).1) fun _=>rfl
 | .bf b es,k,Z,w0,X,ex,G,h=>by
  obtain⟨fn,ls,kws,pos,rfl,h⟩:=Ym h
  obtain⟨x,np,rfl,h⟩:=Yb h
  obtain⟨rfl,h⟩:=Xf h
  obtain⟨l,ls,rfl,h⟩:=Z73 h
  change (_&&_)=true at h
  simp only[Bz9,beq_iff_eq,Bool.or_eq_true,Hm] at h
  exact both G (Ze7 G h.1.1.1.1 h.1.1.1.2 h.1.1.2 h.1.2 h.2 (Xa c es k Z w0 X (l::ls) G h.2).1) fun _=>rfl
 | .mt m o es,k,Z,w0,X,ex,G,h=>by
  obtain⟨fn,ls,kws,pos,rfl,h⟩:=Ym h
  obtain⟨l,nm,ap,rfl,h⟩:=Cf h
  obtain⟨rfl,h⟩:=Xf h
  change (_&&_)=true at h
  simp only[Bz9,beq_iff_eq,decide_eq_true_eq] at h
  obtain⟨⟨⟨⟨⟨rfl,h1⟩,h2⟩,h3⟩,h4⟩,h5⟩:=h
  exact both G (Zl6 G h1 (by rw[h2];simp) h3 h5 (Zl c o k Z w0 X l G h4).1 (Xa c es k Z w0 X ls G h5).1) fun _=>rfl
 | .comp N' js tg it cd e,k,Z,w0,X,ex,G,h=>by
  obtain⟨el,gens,scope,pos,rfl,h⟩:=Fi h
  obtain⟨g,rfl,h⟩:=Vo h
  obtain⟨t,iter,ifs,as⟩:=g
  obtain⟨rfl,h⟩:=By h
  change (_&&_)=true at h
  simp only[Bz9,decide_eq_true_eq] at h
  obtain⟨⟨⟨⟨⟨⟨⟨⟨h1,h2⟩,h3⟩,h4⟩,h5⟩,h6⟩,h7⟩,h8⟩,h9⟩:=h
  exact both G (Qb G h1 h2 h3 h5 (Z64 c it k Z w0 X t iter G h4 h9) h6 h7 h8 (Zl c e) (Q9 c cd)).1 fun _=>rfl
theorem Xa(c:Cfg):∀es:Es,Zr3 c es
 | .nil,k,Z,w0,X,ls,G,h=>by
  cases ls with
  | nil=>
   refine⟨PA.imp Jb fun σ H Q zz96=>?_,fun b pos=>⟨PE.imp (t:=fun _ _ _=>False) (fun _ _ _ _ _ _ h=>h.elim) fun σ H Q zz97=>by obtain⟨w,σD,M,QD,S,g,aq⟩:=zz97;exact g,fun _ whole pins s σ H Q I zz98=>by obtain⟨w,σD,M,QD,S,g,aq⟩:=zz98;exact g.elim⟩⟩
   obtain⟨w,σD,M,QD,S,g,aq⟩:=zz96
   have:=aq [] w [] M (Ext.refl w) S.rs (RDs.nil w) g
   rw[S.heap] at this
   exact this
  | cons l ls=>exact absurd h Bf9
 | .cons e r,k,Z,w0,X,ls,G,h=>by
  cases ls with
  | nil=>exact absurd h Bf9
  | cons l ls=>
   change (_&&_)=true at h
   simp only[Bz9] at h
   obtain⟨ie,it⟩:=Zl c e k Z w0 X l G h.1.1
   obtain⟨ir,ib⟩:=Xa c r k Z w0 X ls G h.2
   refine⟨PA.imp (Rt ie ir (Zv h.1.2)) fun σ H Q ⟨w,σD,M,QD,S,g,aq⟩=>?_,fun b pos=>?_⟩
   ·refine Y2 S g fun v w1 d M1 x1 r1 rd1 q1=>?_
    refine⟨w1,σD,M1,_,S.next x1 r1,q1,fun vs w2 ds M2 x2 r2 rd2 q2=>?_⟩
    exact aq _ w2 _ M2 (x1.trans x2) r2 (RDs.cons (rd1.ext x2) rd2) q2
   ·cases r with
    | nil=>
     cases ls with
     | cons _ _=>exact absurd h.2 Bf9
     | nil=>
      refine⟨PE.imp (Y15 ie) fun σ H Q q=>q,fun hn=>?_⟩
      have hn':noIf e=true:=by simpa[B7] using hn
      cases b with
      | true=>exact fun whole pins s σ H Q I q=>Zz9 (it hn') whole pins s σ H Q I q
      | false=>exact fun whole pins s σ H Q I q=>Y23 (it hn') whole pins s σ H Q I q
    | cons e2 r2=>
     cases ls with
     | nil=>exact absurd h.2 Bf9
     | cons l2 ls=>
      obtain⟨jb,jw⟩:=ib b pos
      constructor
      ·cases b with
       | true=>
        refine PE.imp (Zu6 ie jb) fun σ H Q zz100=>?_
        obtain⟨w,σD,M,QD,S,g,aq⟩:=zz100
        refine Y2 S g fun v w1 d M1 x1 r1 rd1 q1=>?_
        obtain⟨z,t1,t2⟩:=Ww (K:=X.K) (by rw[x1.K,S.K,G.eK]) r1 rd1 q1
        refine⟨z,t1,?_⟩
        cases z with
        | true=>rw[if_pos rfl] at t2 ⊢;exact Y2 (S.next x1 r1) t2 (aq.ext x1)
        | false=>rw[if_neg Bf9] at t2 ⊢;exact aq _ w1 _ M1 x1 r1 rd1 t2
       | false=>
        refine PE.imp (Y70 ie jb) fun σ H Q zz101=>?_
        obtain⟨w,σD,M,QD,S,g,aq⟩:=zz101
        refine Y2 S g fun v w1 d M1 x1 r1 rd1 q1=>?_
        obtain⟨z,t1,t2⟩:=Ww (K:=X.K) (by rw[x1.K,S.K,G.eK]) r1 rd1 q1
        refine⟨z,t1,?_⟩
        cases z with
        | false=>rw[if_pos rfl] at t2;rw[if_neg Bf9];exact Y2 (S.next x1 r1) t2 (aq.ext x1)
        | true=>rw[if_neg (by decide)] at t2;rw[if_pos rfl];exact aq _ w1 _ M1 x1 r1 rd1 t2
      ·intro hn
       have hn':noIf e=true∧B7 (.cons e2 r2)=true:=by
        have:(noIf e&&B7 (.cons e2 r2))=true:=hn
        simpa using this
       have jw':=jw hn'.2
       cases b with
       | true=>
        rintro whole pins s σ H Q I ⟨w,σD,M,QD,S,g,aq⟩
        refine Y63 (it hn'.1) jw' whole pins s σ H Q I ?_
        refine⟨w,σD,M,fun z M1=>if z=true then ttD (tbop c Z true (.cons e2 r2)) σD M1 QD else QD false M1,S,?_,fun z w1 M1 x1 r1 q1=>?_⟩
        ·exact te_bop_tt g
        ·cases z with
         | true=>rw[if_pos rfl] at q1 ⊢;exact⟨w1,σD,M1,QD,S.next x1 r1,q1,fun z w2 M2 x2 r2 q2=>aq z w2 M2 (x1.trans x2) r2 q2⟩
         | false=>rw[if_neg Bf9] at q1 ⊢;exact aq _ w1 M1 x1 r1 q1
       | false=>
        rintro whole pins s σ H Q I ⟨w,σD,M,QD,S,g,aq⟩
        refine Yc3 (it hn'.1) jw' whole pins s σ H Q I ?_
        refine⟨w,σD,M,fun z M1=>if z=true then QD true M1 else ttD (tbop c Z false (.cons e2 r2)) σD M1 QD,S,?_,fun z w1 M1 x1 r1 q1=>?_⟩
        ·exact te_bop_ff g
        ·cases z with
         | true=>rw[if_pos rfl] at q1 ⊢;exact aq _ w1 M1 x1 r1 q1
         | false=>rw[if_neg Bf9] at q1 ⊢;exact⟨w1,σD,M1,QD,S.next x1 r1,q1,fun z w2 M2 x2 r2 q2=>aq z w2 M2 (x1.trans x2) r2 q2⟩
theorem Q9(c:Cfg):∀eo:Eo,Zn7 c eo
 | .no=>⟨fun k Z w0 X lo G h=>by
   cases lo with
   | none=>
    rintro pins s σ H Q I ⟨w,σD,M,QD,S,g,aq⟩
    refine Zx3 pins s σ H Q I ?_
    have:=aq none w M (Ext.refl w) S.rs g
    rw[S.heap] at this
    exact this
   | some _=>exact absurd h Bf9,fun k Z w0 X ls G h=>by
   cases ls with
   | nil=>exact .inr ⟨rfl,rfl⟩
   | cons _ _=>exact absurd h Bf9⟩
 | .yes e=>⟨fun k Z w0 X lo G h=>by
   cases lo with
   | none=>exact absurd h Bf9
   | some x=>
    rintro pins s σ H Q I ⟨w,σD,M,QD,S,g,aq⟩
    refine Zr9 (Zl c e k Z w0 X x G h).1 pins s σ H Q I ?_
    refine Y2 S g fun v w1 d M1 x1 r1 rd1 q1=>?_
    split at q1
    ·cases Ze.mp rd1
     exact⟨_,rfl,aq _ w1 M1 x1 r1 q1⟩
    ·exact q1.elim,fun k Z w0 X ls G h=>by
   match ls,h with
   | [x],h=>
    change (_&&_)=true at h
    simp only[Bz9] at h
    exact .inl ⟨x,rfl,(Zl c e k Z w0 X x G h.1).2 h.2⟩
   | [],h=>exact absurd h Bf9
   | _::_::_,h=>exact absurd h Bf9⟩
theorem Z64(c:Cfg):∀it:It,Y55 c it
 | .seq e,k,Z,w0,X,tg,ex,G,h,_=>by
  refine PI.imp (Y26 (Zl c e k Z w0 X ex G h).1) fun σ H R zz102=>?_
  obtain⟨w,σD,M,QD,S,g,aq⟩:=zz102
  refine Y2 S g fun v w1 d M1 x1 r1 rd1 q1=>?_
  have hK:X.K=w1.K:=by rw[x1.K,S.K,G.eK]
  unfold itD at q1
  split at q1
  ·obtain⟨hn,rfl⟩:=Zg.mp rd1
   obtain⟨xs,z1,z2⟩:=q1
   obtain⟨_,vs,y1,y2,_⟩:=r1.listL z1
   rw[←hK] at y1
   exact .inl ⟨_,rfl,⟨vs,y1⟩,aq _ w1 _ _ M1 x1 r1 (Zl0 hK hn) z2⟩
  ·obtain⟨a,vs,rfl,y1,y2⟩:=Y5.mp rd1
   exact .inr ⟨a,rfl,⟨vs,.of y1⟩,aq _ w1 _ _ M1 x1 r1 (Zb4 hK (.of y1) y2) q1⟩
  ·obtain⟨a,vs,rfl,y1,y2⟩:=Xo.mp rd1
   exact .inr ⟨a,rfl,⟨vs,by rw[hK];exact y1⟩,aq _ w1 _ _ M1 x1 r1 (Zb4 hK y1 y2) q1⟩
  ·exact q1.elim
 | .rng1 a,k,Z,w0,X,tg,ex,G,h,_=>by
  obtain⟨fn,ls,kws,pos,rfl,h⟩:=Ym h
  obtain⟨x,np,rfl,h⟩:=Yb h
  obtain⟨rfl,h⟩:=Xf h
  obtain⟨l,rfl,h⟩:=Vo h
  change (_&&_)=true at h
  simp only[Bz9,beq_iff_eq,Hm] at h
  obtain⟨⟨⟨⟨rfl,h1⟩,h2⟩,h3⟩,h4⟩:=h
  obtain⟨g1,g2,g3⟩:=G.gl h1
  refine PI.imp (Z03 g1 (G.blt _ h2) (Rt (Zl c a k Z w0 X l G h4).1 Jb (Zv h3)) (Zv h3)) fun σ H R zz103=>?_
  obtain⟨w,σD,M,QD,S,g,aq⟩:=zz103
  refine Y2 S g fun v w1 d M1 x1 r1 rd1 q1=>?_
  split at q1
  ·cases Ze.mp rd1
   exact⟨_,rfl,q1.1,q1.2.1,aq _ w1 _ _ M1 x1 r1 Zq9 q1.2.2⟩
  ·exact q1.elim
 | .zip es,k,Z,w0,X,tg,ex,G,h,ht=>by
  cases tg with
  | Tuple elts ctx tp=>
   obtain⟨l,ls,p,q,rfl,h2⟩:=Z37 h
   simp only[Bz9,Hm] at h2
   obtain⟨⟨h3,h4⟩,h5⟩:=h2
   obtain⟨g1,g2,g3⟩:=G.gl h3
   obtain⟨s1,s2⟩:=Ye2 h5
   refine PI.imp (Zy1 g1 (G.blt _ h4) (Xa c es k Z w0 X (l::ls) G h5).1 s1 s2) fun σ H R zz104=>?_
   obtain⟨w,σD,M,QD,S,g,aq⟩:=zz104
   refine⟨w,σD,M,_,S,g,fun vs w1 ds M1 x1 r1 rd1 q1=>?_⟩
   obtain⟨da,db,rfl,q2⟩:=Vn q1
   have hK:X.K=w1.K:=by rw[x1.K,S.K,G.eK]
   obtain⟨v1,v2,rfl,a1,a2⟩:=rds2 rd1
   rcases Zh7 q2 with⟨n,m,ys,zs,rfl,rfl,z1,z2,z3⟩ | ⟨ys,zs,rfl,rfl,z3⟩
   ·obtain⟨hn,rfl⟩:=Zg.mp a1
    obtain⟨hm,rfl⟩:=Zg.mp a2
    obtain⟨_,us,y1,_,_⟩:=r1.listL z1
    obtain⟨_,vs,y2,_,_⟩:=r1.listL z2
    rw[←hK] at y1 y2
    exact .inl ⟨_,_,rfl,⟨us,y1⟩,⟨vs,y2⟩,aq _ w1 _ _ M1 x1 r1 (Zx8 hK hn hm) z3⟩
   ·obtain⟨p1,us,rfl,y1,y2⟩:=Y5.mp a1
    obtain⟨p2,vs,rfl,y3,y4⟩:=Y5.mp a2
    exact .inr ⟨_,_,us,vs,rfl,.of y1,.of y3,aq _ w1 _ _ M1 x1 r1 (Zj0 y1 y3 y2 y4) z3⟩
  | _=>exact absurd ht Bf9
 | .enm a,k,Z,w0,X,tg,ex,G,h,ht=>by
  obtain⟨elts,ctx,tp,rfl,_⟩:=Np (F:=fun _=>true) (show Zt6 tg (fun _=>true)=true by cases tg<;>first | rfl | exact ht)
  obtain⟨fn,ls,kws,pos,rfl,h⟩:=Ym h
  obtain⟨x,np,rfl,h⟩:=Yb h
  obtain⟨rfl,h⟩:=Xf h
  obtain⟨l,rfl,h⟩:=Vo h
  change (_&&_)=true at h
  simp only[Bz9,beq_iff_eq,Hm] at h
  obtain⟨⟨⟨⟨rfl,h1⟩,h2⟩,h3⟩,h4⟩:=h
  obtain⟨g1,g2,g3⟩:=G.gl h1
  refine PI.imp (Zr7 g1 (G.blt _ h2) (Rt (Zl c a k Z w0 X l G h4).1 Jb (Zv h3)) (Zv h3)) fun σ H R zz105=>?_
  obtain⟨w,σD,M,QD,S,g,aq⟩:=zz105
  refine Y2 S g fun v w1 d M1 x1 r1 rd1 q1=>?_
  have hK:X.K=w1.K:=by rw[x1.K,S.K,G.eK]
  split at q1
  ·obtain⟨hn,rfl⟩:=Zg.mp rd1
   obtain⟨xs,z1,z2⟩:=q1
   obtain⟨_,vs,y1,y2,_⟩:=r1.listL z1
   rw[←hK] at y1
   exact⟨_,rfl,⟨vs,y1⟩,aq _ w1 _ _ M1 x1 r1 (Zh2 hK hn) z2⟩
  ·exact q1.elim
end
noncomputable def Qh:Expr→Bool
 | .ListComp .. | .SetComp .. | .DictComp ..=>false
 | _=>true
noncomputable def Om:Expr→Bool
 | .Tuple ..=>false
 | _=>true
noncomputable def Zo8:Expr→Bool
 | .Name ..=>true
 | _=>false
noncomputable def Zr5(k:Ck)(t x:Expr):Bool:=match t,x with
 | .Name n pos,.ListComp _ _ scope p=>k.sc.kind== .function&&k.loc n&&pos.line==p.line&&!(scope.names.any fun(m,j)=>m==n&&(j== .local || j== .cell))
 | _,_=>false
noncomputable def Y57(k:Ck)(t x:Expr):Bool:=match t,x with
 | .Name n _,.ListComp ..=>k.sc.names.lookup n==some .cell
 | _,_=>false
mutual
noncomputable def chkS(k:Ck):S→Stmt→Bool
 | .never,_=>true
 | .ret e,.Return (some x) _=>chkE k e x
 | .expr e,.Expr x _=>Qh x&&chkE k e x
 | .setL tg e,.Assign [.Tuple es _ _] x _=>k.calm&&Bq k tg es&&chkE k e x&&Qh x&&Om x
 | .set tg e,.Assign [t] x _=>Nc k tg t&&chkE k e x&&((Qh x&&(Zo8 t || Om x)) || (Zr5 k t x&&decide (tg.length=1)) || Y57 k t x)
 | .put o i v,.Assign [.Subscript l r _] x _=>G3 r&&Qh x&&chkE k v x&&chkE k o l&&chkE k i r
 | .ite t a b,.If x ls rs _=>chkE k t x&&noIf t&&Ol k a ls&&Ol k b rs
 | .for_ tg it b,.For t x ls [] _=>k.calm&&k.loops&&Z43 x&&Nc k tg t&&Ze0 k it x&&Ol k b ls&&itTg it t
 | .while_ t b,.While x ls [] _=>k.loops&&chkE k t x&&noIf t&&Ol k b ls
 | _,_=>false
noncomputable def Ol(k:Ck):Ss→List Stmt→Bool
 | .nil,[]=>true
 | .cons s r,x::xs=>chkS k s x&&Ol k r xs
 | _,_=>false
end
section
variable{c:Cfg}{k:Ck}{Z:DX}{w0:Vw}{X:Cx}
theorem Ov{x:Expr}{t:Option Expr}(h:Qh x=true):swapsWith x t line env=pure false:=by
 cases x<;>first | rfl | cases h
theorem Nj{H:Hp}(S:StOk w0 w σD M σ H)(h:f RR σD M)
  (h1:∀σ' w' σD' M',Ext w w'→RS w' M'→REnv w' σD' σ'→RR.nx σD' M'→R.nx σ' w'.H) (h2:Aft w RR.rt R.rt)
  (h3:∀σ' w' σD' M',Ext w w'→RS w' M'→REnv w' σD' σ'→RR.bk σD' M'→R.bk σ' w'.H)
  (h4:∀σ' w' σD' M',Ext w w'→RS w' M'→REnv w' σD' σ'→RR.ct σD' M'→R.ct σ' w'.H):tFS w0 f R σ H:=⟨w,σD,M,RR,S,h,h1,h2,h3,h4⟩
theorem Zw8{w1:Vw}{J:L2.It}{own:Own}{xs:List D}{tg:List Nat}{body:DS}{M1:Z2}{H1:Hp}{σD:DEnv}{σ:L2.St}{RR:DEnds}{R:Ends}(S:StOk w0 w1 σD M1 σ H1)(jk:JOk w1 J own xs)
  (h:forD own xs tg body xs RR σD M1)
  (h1:∀σ' w' σD' M',Ext w1 w'→RS w' M'→REnv w' σD' σ'→RR.nx σD' M'→R.nx σ' w'.H) (h2:Aft w1 RR.rt R.rt):
  ∃W:Nat→Nat→L2.St→Hp→Prop,(∃m,W 0 m σ H1)∧∀i m σ H,W i m σ H→
   (J.stop i H∧R.nx σ H)∨(J.go i H∧∃N:L2.St→Hp→Prop,(∀σ' H',N σ' H'→∃m',m'<m∧W (i+1) m' σ' H')∧∀x H',J.yld i H x H'→gF w0 tg x σ H' fun σ2 H2=>tFS w0 body {R with nx:=N,ct:=N,bk:=R.nx} σ2 H2):=by
 refine⟨fun i m σ H=>∃w σE M,StOk w0 w σE M σ H∧Ext w1 w∧i≤xs.length∧m=xs.length - i∧forD own xs tg body (xs.drop i) RR σE M,⟨xs.length,w1,σD,M1,S,Ext.refl _,Nat.zero_le _,rfl,h⟩,?_⟩
 rintro i m σc Hc ⟨w,σE,M,S1,x1,hi,rfl,hc⟩
 have stp:∀st:Q5 own xs M,_:=fun st=>jk w M x1 S1.rs st i
 rw[S1.heap] at stp
 by_cases hil:i<xs.length
 ·rw[Dv hil] at hc
  obtain⟨st,hc⟩:=hc
  obtain⟨j1,j2⟩:=(stp st).1 xs[i] (Ag hil)
  refine .inr ⟨j1,fun σ' H'=>∃w σE M,StOk w0 w σE M σ' H'∧Ext w1 w∧i+1≤xs.length∧forD own xs tg body (xs.drop (i+1)) RR σE M,?_,fun x H' hy=>?_⟩
  ·rintro σ' H' ⟨w2,σ2,M2,S2,x2,l2,f2⟩
   exact⟨xs.length - (i+1),by omega,w2,σ2,M2,S2,x2,l2,rfl,f2⟩
  ·obtain⟨w3,rfl,x3,R3,rd3⟩:=j2 x H' hy
   refine⟨w3,σE,M,xs[i],_,⟨rfl,S1.ext.trans x3,R3,S1.env.ext x3⟩,rd3,hc,fun σ2 σE2 env2 q2=>?_⟩
   have nxt:∀σ' w' σD' M',Ext w3 w'→RS w' M'→REnv w' σD' σ'→forD own xs tg body (xs.drop (i+1)) RR σD' M'→
     ∃w σE M,StOk w0 w σE M σ' w'.H∧Ext w1 w∧i+1≤xs.length∧forD own xs tg body (xs.drop (i+1)) RR σE M:=
    fun σ' w' σD' M' x' r' e' q'=>⟨w',σD',M',⟨rfl,(S1.ext.trans x3).trans x',r',e'⟩,(x1.trans x3).trans x',hil,q'⟩
   exact Nj ⟨rfl,S1.ext.trans x3,R3,env2⟩ q2 nxt (fun v w' d M' x' r' rd' q'=>h2 v w' d M' ((x1.trans x3).trans x') r' rd' q')
    (fun σ' w' σD' M' x' r' e' q'=>h1 σ' w' σD' M' ((x1.trans x3).trans x') r' e' q') nxt
 ·rw[Kk (by omega)] at hc
  obtain⟨st,hq⟩:=hc
  refine .inl ⟨(stp st).2 (by omega),?_⟩
  have:=h1 σc w σE M x1 S1.rs S1.env hq
  rw[S1.heap] at this
  exact this
theorem Y51{o i value:Expr}{td ty tv:TE}(hu:X.A.units+1<cLine)(ho:PE X o td)(hi:PE X i ty)(hv:PE X value tv)(hs:swapsWith value (some (.Subscript o i pos')) pos.line X.env=pure false):
  PS X (.Assign [.Subscript o i pos'] value pos) (fun R σ H=>tv σ H fun v H1=>td σ H1 fun x H2=>ty σ H2 fun y H3=>Y42 x y v H3 (fun H4=>R.nx σ H4)∨∃a H4,x= .ref a∧DPut H3 a y v H4∧R.nx σ H4):=by
 intro pins s σ H D I h
 refine wpAny_Assign_Subscript (thn (hv pins s σ H _ I h) fun r s1 ⟨v,H1,I1,rv,q1⟩=>thn (ho pins s1 σ H1 _ I1 q1) fun u s2 ⟨x,H2,I2,rx,q2⟩=>thn (hi pins s2 σ H2 _ I2 q2) fun iv s3 zz108=>?_) hs
 obtain⟨y,H3,I3,ry,q3⟩:=zz108
 rcases q3 with q3 | ⟨a,H4,ex,g,q3⟩
 ·exact thn (Zf6 pins s3 σ H3 x y v u iv r (fun H4=>D.nx σ H4) I3 rx ry rv q3) fun _ s4 zz109=>by obtain⟨H4,I4,q4⟩:=zz109;exact⟨σ,H4,I4,q4⟩
 ·subst ex
  obtain rfl:u=Au a:=rx
  exact Z72 hu I3 g ry rv fun s4 I4=>⟨σ,H4,I4,q3⟩
end
def Fy(c:Cfg)(s:S):Prop:=∀(k:Ck) (Z:DX) (w0:Vw) (X:Cx) (st:Stmt),Good c k Z w0 X→chkS k s st=true→PS X st (tFS w0 (ts c Z s))
def Zq1(c:Cfg)(s:Ss):Prop:=∀(k:Ck) (Z:DX) (w0:Vw) (X:Cx) (st:List Stmt),Good c k Z w0 X→Ol k s st=true→PSs X st (tFS w0 (tss c Z s))
theorem Ba{k:Ck}{t x:Expr}(h:Zr5 k t x=true):∃n np el gens scope p,t= .Name n np∧x= .ListComp el gens scope p:=by
 cases t with
 | Name n np=>
  cases x with
  | ListComp el gens scope p=>exact⟨_,_,_,_,_,_,rfl,rfl⟩
  | _=>exact absurd h Bf9
 | _=>exact absurd h Bf9
theorem Cr{k:Ck}{t x:Expr}(h:Y57 k t x=true):∃n np el gens scope p,t= .Name n np∧x= .ListComp el gens scope p∧k.sc.names.lookup n=some .cell:=by
 cases t with
 | Name n np=>
  cases x with
  | ListComp el gens scope p=>exact⟨_,_,_,_,_,_,rfl,rfl,Kn h⟩
  | _=>exact absurd h Bf9
 | _=>exact absurd h Bf9
theorem Cv{k:Ck}{p:Pos}(h:chkE k e (.ListComp el gens scope p)=true):
  ∃N' js tg it cd e' t iter ifs,e= .comp N' js tg it cd e'∧gens=[⟨t,iter,ifs,0⟩]:=by
 cases e with
 | comp N' js tg it cd e'=>
  obtain⟨_,_,_,_,he,h⟩:=Fi h
  cases he
  obtain⟨g,rfl,h⟩:=Vo h
  obtain⟨t,iter,ifs,as⟩:=g
  obtain⟨rfl,_⟩:=By h
  exact⟨_,_,_,_,_,_,_,_,_,rfl,rfl⟩
 | _=>exact absurd h Bf9
theorem C5{k:Ck}{tg:List Nat}{e:E}{st:Stmt}(h:chkS k (.setL tg e) st=true):∃es kk p x pos,st= .Assign [.Tuple es kk p] x pos∧(k.calm&&Bq k tg es&&chkE k e x&&Qh x&&Om x)=true:=by
 cases st with
 | Assign ts' x pos=>
  cases ts' with
  | nil=>exact absurd h Bf9
  | cons t r=>
   cases t with
   | Tuple es kk p=>
    cases r with
    | nil=>exact⟨es,kk,p,x,pos,rfl,h⟩
    | cons _ _=>exact absurd h Bf9
   | _=>exact absurd h Bf9
 | _=>exact absurd h Bf9
theorem Cu(c:Cfg)(tg:List Nat)(e:E):Fy c (.setL tg e):=by
 intro k Z w0 X st G h
 obtain⟨es,kk,p,x,pos,rfl,hs⟩:=C5 h
 simp only[Bz9] at hs
 obtain⟨⟨⟨⟨hc,ht⟩,he⟩,hn⟩,hu⟩:=hs
 have h1:∀t:Expr,swapsWithSole [t] x pos.line X.env=pure false:=fun t=>Ov hn
 have h2:swappedStores [.Tuple es kk p] x X.env=pure none:=by
  cases x<;>first | rfl | cases hu
 obtain⟨i1,i2,i3⟩:=G.tgs tg es ht
 refine PS.imp (Z74 (Zl c e k Z w0 X x G he).1 (Z11 (w0:=w0) (Y18 (G.calm hc) i1 i2 i3)) (h1 _) h2 rfl) fun R σ H zz110=>?_
 obtain⟨w,σD,M,RR,S,q,q1,q2,q3,q4⟩:=zz110
 refine Y2 S q fun v w' d M' x' r' rd' q'=>?_
 obtain⟨n,rfl,ds,e1,e2,e3⟩:=Yr q'
 exact⟨w',σD,M',n,ds,_,S.next x' r',by rw[x'.K,S.K,G.eK],rd',e1,e2,e3,fun σ' σD' e' z=>q1 σ' w' σD' M' x' r' e' z⟩
theorem Z35(c:Cfg)(tg:List Nat)(e:E):Fy c (.set tg e):=by
  intro k Z w0 X st G h
  cases st with
  | Assign ts' x pos=>
   match ts',h with
   | [t],h=>
    change (_&&_)=true at h
    simp only[Bz9,Bool.or_eq_true,decide_eq_true_eq] at h
    obtain⟨⟨ht,he⟩,h⟩:=h
    rcases h with(⟨hc,hs⟩ | ⟨hs,hl⟩) | hs
    rotate_left 2
    ·obtain⟨n,np,el,gens,scope,p,rfl,rfl,hcell⟩:=Cr hs
     have h1:swapsWithSole [.Name n np] (.ListComp el gens scope p) pos.line X.env=pure false:=by
      have hk:X.env.kindOf n=some .cell:=by
       unfold Env.kindOf
       rw[G.sc];exact hcell
      have hk':(X.env.kindOf n==some NameKind.local)=false:=by rw[hk];rfl
      unfold swapsWithSole swapsWith
      simp only[hk',Bool.and_false,Bool.false_and]
     refine PS.imp (Z74 (Zl c e k Z w0 X _ G he).1 (G.tgt tg _ ht) h1 rfl rfl) fun R σ H zz111=>?_
     obtain⟨w,σD,M,RR,S,q,q1,q2,q3,q4⟩:=zz111
     refine Y2 S q fun v w' d M' x' r' rd' q'=>?_
     exact⟨w',σD,M',d,_,S.next x' r',rd',q',fun σ' σD' e' z=>q1 σ' w' σD' M' x' r' e' z⟩
    ·have h1:swapsWithSole [t] x pos.line X.env=pure false:=Ov hc
     have h2:swappedStores [t] x X.env=pure none:=by
      cases t with
      | Name n p=>cases x<;>rfl
      | Tuple es kk p=>
       have:Om x=true:=hs.resolve_left (by simp[Zo8])
       cases x<;>first | rfl | cases this
      | _=>exact absurd ht Bf9
     have h3:(assignEach [t] X.env).map (·.2)=[assign t X.env]:=by
      cases t with
      | Name n p=>rfl
      | Tuple es kk p=>rfl
      | _=>exact absurd ht Bf9
     refine PS.imp (Z74 (Zl c e k Z w0 X x G he).1 (G.tgt tg t ht) h1 h2 h3) fun R σ H zz112=>?_
     obtain⟨w,σD,M,RR,S,q,q1,q2,q3,q4⟩:=zz112
     refine Y2 S q fun v w' d M' x' r' rd' q'=>?_
     exact⟨w',σD,M',d,_,S.next x' r',rd',q',fun σ' σD' e' z=>q1 σ' w' σD' M' x' r' e' z⟩
    ·match tg,hl,ht with
     | [i],_,ht=>
      obtain⟨n,np,el,gens,scope,p,rfl,rfl⟩:=Ba hs
      obtain⟨N',js,tg,it,cd,e,t2,iter,ifs,rfl,rfl⟩:=Cv he
      change (_&&_)=true at he
      simp only[Bz9,decide_eq_true_eq] at he
      obtain⟨⟨⟨⟨⟨⟨⟨⟨h1,h2⟩,h3⟩,h4⟩,h5⟩,h6⟩,h7⟩,h8⟩,h9⟩:=he
      change (_&&_)=true at ht
      simp only[Bz9,beq_iff_eq] at ht
      simp only[Zr5,Bz9,beq_iff_eq,Bool.not_eq_true'] at hs
      obtain⟨⟨⟨s1,s2⟩,s3⟩,s4⟩:=hs
      have hl':X.env.scope.names.lookup n=some .local:=by
       unfold Ck.loc at s2
       rw[G.sc];exact Kn s2
      have hsw:swapsWith (.ListComp el [⟨t2,iter,ifs,0⟩] scope p) (some (.Name n np)) pos.line X.env=pure true:=by
       unfold swapsWith
       have hb:(X.env.blockKind==ScopeKind.function)=true:=by
        unfold Env.blockKind
        rw[G.sc,s1];rfl
       have hk:(X.env.kindOf n==some NameKind.local)=true:=by
        unfold Env.kindOf
        rw[hl'];rfl
       have hp:(np.line==(Expr.ListComp el [⟨t2,iter,ifs,0⟩] scope p).pos.line)=true:=by
        show(np.line==p.line)=true
        rw[s3];simp
       simp only[hb,hk,hp,s4,Bool.not_false,Bool.and_self]
      refine PS.imp ((Qb G h1 h2 h3 h5 (Z64 c it k Z w0 X t2 iter G h4 h9) h6 h7 h8 (Zl c e) (Q9 c cd)).2 i n np pos (by rw[G.N];exact ht.1) hl' hsw) fun R σ H zz113=>?_
      obtain⟨w,σD,M,RR,S,q,q1,q2,q3,q4⟩:=zz113
      have q:te c Z (.comp N' js tg it cd e) σD M fun d M1=>RR.nx (σD.set i (some d)) M1:=q
      refine Y2 S q fun v w' d M' x' r' rd' q'=>?_
      exact q1 _ w' _ M' x' r' ((S.env.ext x').set i rd') q'
     | [],hl,_=>simp at hl
     | _::_::_,hl,_=>simp at hl
   | [],h=>exact absurd h Bf9
   | _::_::_,h=>exact absurd h Bf9
  | _=>exact absurd h Bf9
theorem Z14(c:Cfg)(o i v:E):Fy c (.put o i v):=by
  intro k Z w0 X st G h
  cases st with
  | Assign ts' x pos=>
   match ts',h with
   | [t],h=>
    cases t with
    | Subscript l r p=>
     change (_&&_)=true at h
     simp only[Bz9] at h
     obtain⟨⟨⟨⟨h1,h2⟩,h3⟩,h4⟩,h5⟩:=h
     refine PS.imp (Y51 (by have:=G.units;omega) (Zl c o k Z w0 X l G h4).1 (Zl c i k Z w0 X r G h5).1 (Zl c v k Z w0 X x G h3).1 (Ov h2)) fun R σ H zz114=>?_
     obtain⟨w,σD,M,RR,S,q,q1,q2,q3,q4⟩:=zz114
     refine Y2 S q fun vv w1 dv M1 x1 r1 rd1 z1=>?_
     refine Y2 (S.next x1 r1) z1 fun vo w2 dob M2 x2 r2 rd2 z2=>?_
     refine Y2 ((S.next x1 r1).next x2 r2) z2 fun vi w3 di M3 x3 r3 rd3 z3=>?_
     split at z3
     ·obtain⟨hn,rfl⟩:=Zg.mp (rd2.ext x3)
      rcases z3 with⟨xs,kk,j,rfl,y1,y2,y3⟩ | ⟨kvs,kk,y1,y2,y3,y4⟩ | ⟨kvs,ks,y1,rfl,y3,y4⟩
      ·cases Ze.mp rd3
       obtain⟨hn,vs,u1,u2⟩:=r3.list y1
       obtain⟨t1,t2⟩:=Yn r3 hn u1 (u2.set (rd1.ext (x2.trans x3)) j)
       exact .inl ⟨_,vs,kk,j,rfl,rfl,u1,by rw[u2.length];exact y2,q1 σ _ σD _ (((x1.trans x2).trans x3).trans t1) t2 (S.env.ext (((x1.trans x2).trans x3).trans t1)) y3⟩
      ·obtain⟨hn,vs,u1,u2⟩:=r3.dict y1
       cases Oj y2 rd3
       obtain⟨t1,t2⟩:=C1 r3 hn u1 (u2.put (k:=kk) (rd1.ext (x2.trans x3)))
       exact .inr ⟨_,_,rfl,DPut.k (k:=kk) u1 (by rw[u2.length];exact y3),q1 σ _ σD _ (((x1.trans x2).trans x3).trans t1) t2 (S.env.ext (((x1.trans x2).trans x3).trans t1)) y4⟩
      ·obtain⟨hn,vs,u1,u2⟩:=r3.dictP y1
       obtain⟨b,rfl,hb⟩:=Ox rd3
       obtain⟨t1,t2⟩:=Q3 r3 hn u1 (u2.put (k:=ks) (rd1.ext (x2.trans x3)))
       exact .inr ⟨_,_,rfl,DPut.t (k:=ks) u1 hb (by rw[u2.length];exact y3),q1 σ _ σD _ (((x1.trans x2).trans x3).trans t1) t2 (S.env.ext (((x1.trans x2).trans x3).trans t1)) y4⟩
     ·exact z3.elim
    | _=>exact absurd h Bf9
   | [],h=>exact absurd h Bf9
   | a::b::r,h=>cases a<;>exact absurd h Bf9
  | _=>exact absurd h Bf9
mutual
theorem Y43(c:Cfg):∀s:S,Fy c s
 | .never,k,Z,w0,X,st,G,h=>PS.imp Zi6 fun R σ H zz115=>by obtain⟨w,σD,M,RR,S,q,_⟩:=zz115;exact q
 | .ret e,k,Z,w0,X,st,G,h=>by
  cases st with
  | Return v pos=>
   cases v with
   | some x=>exact PS.imp (Y17 (Zl c e k Z w0 X x G h).1) fun R σ H zz116=>by obtain⟨w,σD,M,RR,S,q,h1,h2,h3,h4⟩:=zz116;exact Y2 S q h2
   | none=>exact absurd h Bf9
  | _=>exact absurd h Bf9
 | .expr e,k,Z,w0,X,st,G,h=>by
  cases st with
  | Expr x pos=>
   change (_&&_)=true at h
   simp only[Bz9] at h
   exact PS.imp (Zt3 (Zl c e k Z w0 X x G h.2).1 (Ov h.1)) fun R σ H zz117=>by obtain⟨w,σD,M,RR,S,q,h1,h2,h3,h4⟩:=zz117;exact Y2 S q fun v w' d M' x' r' rd' q'=>h1 σ w' σD M' x' r' (S.env.ext x') q'
  | _=>exact absurd h Bf9
 | .setL tg e,k,Z,w0,X,st,G,h=>Cu c tg e k Z w0 X st G h
 | .set tg e,k,Z,w0,X,st,G,h=>Z35 c tg e k Z w0 X st G h
 | .put o i v,k,Z,w0,X,st,G,h=>Z14 c o i v k Z w0 X st G h
 | .ite t a b,k,Z,w0,X,st,G,h=>by
  cases st with
  | If x ls rs pos=>
   change (_&&_)=true at h
   simp only[Bz9] at h
   obtain⟨⟨⟨h1,h2⟩,h3⟩,h4⟩:=h
   refine PS.imp (Ye0 ((Zl c t k Z w0 X x G h1).2 h2) (Tc c a k Z w0 X ls G h3) (Tc c b k Z w0 X rs G h4)) fun R σ H zz118=>?_
   obtain⟨w,σD,M,RR,S,q,q1,q2,q3,q4⟩:=zz118
   refine⟨w,σD,M,_,S,q,fun z w1 M1 x1 r1 y1=>?_⟩
   have fin:∀{f:DS},f RR σD M1→tFS w0 f R σ w1.H:=fun hf=>Nj (S.next x1 r1) hf (fun σ' w' σD' M' x' r' e' z=>q1 σ' w' σD' M' (x1.trans x') r' e' z) (q2.ext x1)
    (fun σ' w' σD' M' x' r' e' z=>q3 σ' w' σD' M' (x1.trans x') r' e' z) (fun σ' w' σD' M' x' r' e' z=>q4 σ' w' σD' M' (x1.trans x') r' e' z)
   cases z with
   | true=>
    rw[if_pos rfl] at y1
    show if (true:Bool)=true then _ else _
    rw[if_pos rfl];exact fin y1
   | false=>
    rw[if_neg Bf9] at y1
    show if (false:Bool)=true then _ else _
    rw[if_neg Bf9];exact fin y1
  | _=>exact absurd h Bf9
 | .for_ tg it b,k,Z,w0,X,st,G,h=>by
  cases st with
  | For t x ls els pos=>
   cases els with
   | nil=>
    change (_&&_)=true at h
    simp only[Bz9] at h
    obtain⟨⟨⟨⟨⟨⟨h1,h2⟩,h3⟩,h4⟩,h5⟩,h6⟩,h7⟩:=h
    have hf:∀v,foldedSetIterable x X.env v=pure v:=by
     intro v
     cases x<;>first | rfl | cases h3
    refine PS.imp (Y99 (G.po h2) (G.calm h1) (Z64 c it k Z w0 X t x G h5 h7) (G.tgt tg t h4) (Tc c b k Z w0 X ls G h6) hf) fun R σ H zz119=>?_
    obtain⟨w,σD,M,RR,S,q,q1,q2,q3,q4⟩:=zz119
    refine⟨w,σD,M,_,S,q,fun J w1 own xs M1 x1 r1 jk z=>?_⟩
    exact Zw8 (S.next x1 r1) jk z (fun σ' w' σD' M' x' r' e' z=>q1 σ' w' σD' M' (x1.trans x') r' e' z) (q2.ext x1)
   | cons _ _=>exact absurd h Bf9
  | _=>exact absurd h Bf9
 | .while_ t b,k,Z,w0,X,st,G,h=>by
  cases st with
  | While x ls els pos=>
   cases els with
   | nil=>
    change (_&&_)=true at h
    simp only[Bz9] at h
    obtain⟨⟨⟨h1,h2⟩,h3⟩,h4⟩:=h
    refine PS.imp (Zk9 (G.po h1) ((Zl c t k Z w0 X x G h2).2 h3) (Tc c b k Z w0 X ls G h4)) fun R σ H zz120=>?_
    obtain⟨w,σD,M,RR,S,q,q1,q2,q3,q4⟩:=zz120
    obtain⟨W,⟨m0,hm0⟩,step⟩:=q
    refine⟨fun m σ H=>∃w2 σE M2,StOk w0 w2 σE M2 σ H∧Ext w w2∧W m σE M2,⟨m0,w,σD,M,S,Ext.refl w,hm0⟩,?_⟩
    rintro m σ2 H2 ⟨w2,σE,M2,S2,x2,hW⟩
    refine⟨w2,σE,M2,_,S2,step m σE M2 hW,fun z w3 M3 x3 r3 y3=>?_⟩
    cases z with
    | false=>
     rw[if_neg Bf9] at y3 ⊢
     exact q1 σ2 w3 σE M3 (x2.trans x3) r3 (S2.env.ext x3) y3
    | true=>
     rw[if_pos rfl] at y3 ⊢
     have nxt:∀σ' w' σD' M',Ext w3 w'→RS w' M'→REnv w' σD' σ'→(∃m',m'<m∧W m' σD' M')→∃m',m'<m∧∃w2 σE M2,StOk w0 w2 σE M2 σ' w'.H∧Ext w w2∧W m' σE M2:=
      fun σ' w' σD' M' x' r' e' zz121=>by obtain⟨m',l',z'⟩:=zz121;exact⟨m',l',w',σD',M',⟨rfl,(S2.ext.trans x3).trans x',r',e'⟩,(x2.trans x3).trans x',z'⟩
     refine⟨fun σ' H'=>∃m',m'<m∧∃w2 σE M2,StOk w0 w2 σE M2 σ' H'∧Ext w w2∧W m' σE M2,fun σ' H' z=>z,?_⟩
     exact Nj (S2.next x3 r3) y3 nxt (fun v w' d M' x' r' rd' z'=>q2 v w' d M' ((x2.trans x3).trans x') r' rd' z') (fun σ' w' σD' M' x' r' e' z'=>q1 σ' w' σD' M' ((x2.trans x3).trans x') r' e' z') nxt
   | cons _ _=>exact absurd h Bf9
  | _=>exact absurd h Bf9
theorem Tc(c:Cfg):∀s:Ss,Zq1 c s
 | .nil,k,Z,w0,X,st,G,h=>by
  cases st with
  | nil=>
   refine PSs.imp Zv0 fun R σ H zz122=>?_
   obtain⟨w,σD,M,RR,S,q,h1,_⟩:=zz122
   have:=h1 σ w σD M (Ext.refl w) S.rs S.env q
   rw[S.heap] at this
   exact this
  | cons _ _=>exact absurd h Bf9
 | .cons s r,k,Z,w0,X,st,G,h=>by
  cases st with
  | nil=>exact absurd h Bf9
  | cons x xs=>
   change (_&&_)=true at h
   simp only[Bz9] at h
   refine PSs.imp (Ze9 (Y43 c s k Z w0 X x G h.1) (Tc c r k Z w0 X xs G h.2)) fun R σ H zz123=>?_
   obtain⟨w,σD,M,RR,S,q,h1,h2,h3,h4⟩:=zz123
   refine Nj S q ?_ h2 h3 h4
   intro σ' w' σD' M' x' r' e' q'
   exact Nj ⟨rfl,S.ext.trans x',r',e'⟩ q' (fun σ2 w2 σD2 M2 x2 r2 e2 z=>h1 σ2 w2 σD2 M2 (x'.trans x2) r2 e2 z) (h2.ext x') (fun σ2 w2 σD2 M2 x2 r2 e2 z=>h3 σ2 w2 σD2 M2 (x'.trans x2) r2 e2 z) (fun σ2 w2 σD2 M2 x2 r2 e2 z=>h4 σ2 w2 σD2 M2 (x'.trans x2) r2 e2 z)
end
theorem FnOk.cx{K:Af}{k:Nat}(F:FnOk P w K mg base CX0 k f fd ps sp):FnOk P w K mg base CX k f fd ps sp:=
 ⟨F.len,fun A outer s H args us vs Q E hr he hb hv hs=>codeAny_mono (F.run A outer s H args us vs Q E hr he hb hv hs) fun r s' h=>by
  cases r with
  | error e=>exact Dq h
  | ok fl=>cases fl<;>exact h⟩
structure Prg(P:Program)(w:World)(K:Af)(mg:Str→Option Value)(base:Heap)(c:Cfg)(FN GN BN:List Str)(lv:Nat):Prop where
 hK:c.K=K
 fns:∀(f:Nat) (x:Str) (sp:DSp),FN[f]?=some x→c.Γ[f]?=some sp→∃(kk:Nat) (f:Addr) (fd:FuncData) (ps:List Str) (ds:List Value) (dvs:List V) (dD:List D) (sp0:DSp),FnOk P w K mg base (CX1 P w) kk f fd ps (spF K sp0)∧kk≤lv∧mg x=some (.ref f)∧Hd K (.ref f)=true∧
  Sh K fd ps ds∧Vals dvs ds∧(∀w:Vw,w.K=K→RDs w dD dvs)∧∀as M Q Z,sp as M Q Z→sp0 (as++dD) M Q Z
 flen:FN.length=c.Γ.length
 glb:∀(g:Nat) (x:Str) (d:D),GN[g]?=some x→c.G[g]?=some d→∃v u,mg x=some u∧RelV v u∧∀w:Vw,w.K=K→RD w d v
 blt:∀x,x∈BN→mg x=none
noncomputable def start0(N:List Str)(ds:List D):DEnv:=ds.map some++Dn (N.length - ds.length) none
theorem Zb2(r:RDs w ds vs):REnv w (start0 N ds) (L2.start N vs):=by
 refine⟨by unfold start0 L2.start;simp[r.length],fun i d e=>?_⟩
 unfold start0 at e
 unfold L2.start
 by_cases hi:i<ds.length
 ·rw[Dk (by simpa using hi),Ai] at e
  rw[Dk (by rw[Ab,r.length];exact hi),Ai]
  cases hd:ds[i]? with
  | none=>rw[hd] at e;cases e
  | some d'=>
   rw[hd] at e
   have e':d'=d:=by simpa using e
   subst e'
   obtain⟨v,q1,q2⟩:=r.get hd
   exact⟨v,by rw[q1];rfl,q2⟩
 ·rw[Dc (by simpa using hi)] at e
  have:=Ac.mp e
  simp at this
section
variable{P:Program}{w:World}{K:Af}{mg:Str→Option Value}{base:Heap}{c:Cfg}{FN GN BN:List Str}{lv:Nat}{x qual:Str}{st:Stmt}{f:Addr}{fd:FuncData}{N ps:List Str}
noncomputable abbrev ck0(N:List Str)(st:Stmt)(FN GN BN:List Str):Ck:=⟨N,Zt st,FN,GN,BN,true,true,true,[],true,[]⟩
theorem fn0(Pr:Prg P w K mg base c FN GN BN lv)(F:Fun K x qual st f fd)(S:FnScope N ps (Zt st)){body:Ss}(hc:Ol (ck0 N st FN GN BN) body (Yp st)=true){sp:DSp}(hl:∀ds M Q Z,sp ds M Q Z→ds.length=ps.length)
  (hb:∀ds M Q Z,sp ds M Q Z→tss c noX body {nx:=fun _ M=>Q .non M,rt:=Q} (start0 N ds) M):FnOk P w K mg base (CX1 P w) (lv+1) f fd ps (spF K sp):=by
 refine FnOk.cx (F.ok S (fun vs H Q E h=>?_) fun cdv A outer s H vs Q E hr h=>?_)
 ·obtain⟨w,ds,M,QD,Z,_,_,_,r,h,_⟩:=h
  rw[r.length];exact hl _ _ _ _ h
 obtain⟨w',ds,M,QD,Z,hK',rfl,R,r,h,a,xk⟩:=h
 have G:Good c (ck0 N st FN GN BN) noX w' (cxOf CX0 P w K mg base N qual (Zt st) f cdv A outer s w'.H E).nox:=
  {hK:=Pr.hK.symm
   wK:=hK'.trans Pr.hK.symm
   N:=rfl
   nd:=S.nd
   sc:=rfl
   calm:=fun _=>rfl
   units:=hr.units
   fns:=fun _ f x sp h1 h2=>by
    obtain⟨kk,f,fd,ps,ds,dvs,dD,sp0,F,hk,h⟩:=Pr.fns f x sp h1 h2
    exact⟨kk,f,fd,ps,ds,dvs,dD,sp0,F,hr.mono hk,h⟩
   flen:=Pr.flen
   glb:=Pr.glb
   blt:=Pr.blt
   exc:=⟨E0,fun _ _ _ _ _ _ _ h=>by
    obtain⟨_,_,_,_,_,_,_,_,_,_,_,_,_,_,_,h⟩:=h
    exact h.elim,fun cls dd H' h=>by
    obtain⟨_,_,_,_,_,_,_,_,_,_,_,_,_,h⟩:=h
    exact h.elim⟩
   stk:=fun _=>⟨rfl,rfl⟩
   po:=fun _=>PassesOwn.never
   fnc:=fun _ _=>rfl
   fno:=fun _ h=>by cases h}
 refine⟨_,Tc c body _ _ w' _ _ G hc,w',start0 N ds,M,{nx:=fun _ M=>QD .non M,rt:=QD},⟨rfl,Ext.refl w',R,Zb2 r⟩,hb _ _ _ _ h,?_,a,?_,?_⟩
 ·exact fun σ' w2 σD' M' x' r' e' q'=>a .non w2 .non M' x' r' (Zw.mpr rfl) q'
 ·exact fun σ' w2 σD' M' x' r' e' q'=>q'.elim
 ·exact fun σ' w2 σD' M' x' r' e' q'=>q'.elim
end
def B8:DSp:=fun ds M Q _=>∃ns:List Int,ds=[.ref 0]∧M=[.frz (ns.map .int)]∧ns.length≤63∧(∀i∈ns,Bits bigN i)∧∀M',Q (.bl true) M'
theorem Ef(w:Vw):∀ns:List Int,RDs w (ns.map .int) (ns.map V.int)
 | []=>RDs.nil w
 | _::r=>RDs.cons (Ze.mpr rfl) (Ef w r)
theorem Zh0{l:PySem.W.OpenLaw}{k:Nat}{q:Program}{loose:List Str}{XP:(Str→Option Value)→Heap→Prop}{YP:World→Heap→Prop}{d:DefRec}{K:Params→Af}{x:Str}(hn:l.most=some 63)(hdf:d.params.defaults=[])(hr:Room k callerA)
  (hY:∀(w:World) (h:Heap),YP w h→(K w.params).In h)
  (F:∀(w:World) (mg:Str→Option Value) (fa:Addr) (h:Heap),(K w.params).In h→h.Ns mainGlobals mg→mg d.name=some (.ref fa)→
   ∃fd:FuncData,(∀(s:Shared) (u:Value),BindsTo s fd ⟨[u],[]⟩ [(x,u)])∧∀base:Heap,(K w.params).In base→base.Ns mainGlobals mg→FnOk l.prog w (K w.params) mg base (CX1 l.prog w) k fa fd [x] (spF (K w.params) B8)):
  PySem.W.WalkO q loose XP YP l.row.toRowW d [] (fun f vs=>PySem.call f vs):=by
 refine Y83 (n:=63) (k:=k) (x:=x) (CX:=fun w=>CX1 l.prog w) (sp:=fun w=>spF (K w.params) B8) hn (by decide) hdf hr hY F (fun w H a ns hl hb hO hS=>?_) fun w H s e s' h=>?_
 ·have hF:SqF (K w.params) H a (ns.map V.int):=by
   rcases hS with(h | ⟨o,h⟩) | h
   ·rcases hO a with z | ⟨o,xs,z⟩
    ·rw[z] at h;cases h
    ·rw[z] at h;cases h
   ·exact .inl ⟨o,h⟩
   ·exact .inr (.inr h)
  refine⟨⟨K w.params,H,fun _=>a,1⟩,[.ref 0],[.frz (ns.map .int)],fun d _=>d= .bl true,noX,rfl,rfl,⟨rfl,fun i j ci cj ei ej mi mj _=>?_,fun i c' e=>?_⟩,RDs.cons (Zg.mpr ⟨Nat.one_pos,rfl⟩) (RDs.nil _),⟨ns,rfl,rfl,hl,hb,fun _=>rfl⟩,fun v w' d M' _ _ rd e=>?_,fun cls dd H' h=>?_⟩
  ·have h1:=(Ac.mp ei).1
   have h2:=(Ac.mp ej).1
   simp at h1 h2
   omega
  ·have h1:=(Ac.mp e).1
   have hi:i=0:=by simp at h1;exact h1
   subst hi
   simp at e
   subst e
   exact⟨_,hF,Ef _ ns⟩
  ·subst e
   exact Yw.mp rd
  ·obtain⟨_,_,_,_,_,_,_,_,_,_,_,_,_,h⟩:=h
   exact h.elim
 ·obtain⟨_,_,_,_,_,_,_,_,_,_,_,_,_,_,_,h⟩:=h
  exact h.elim
def bot:DSp:=fun _ _ _ _=>False
def Ent(K:Af)(mg:Str→Option Value)(x:Str):Prop:=∃(f:Addr) (fd:FuncData) (ps:List Str),mg x=some (.ref f)∧Hd K (.ref f)=true∧Sh K fd ps []
section
variable{P:Program}{w:World}{K:Af}{mg:Str→Option Value}{base:Heap}{Γ:List DSp}{G:List D}{FN GN BN:List Str}{lv:Nat}
theorem Prg.zero(hF:∀x∈FN,Ent K mg x)(hl:FN.length=Γ.length)(hb:∀sp∈Γ,sp=bot)(hg:∀(g:Nat) (x:Str) (d:D),GN[g]?=some x→G[g]?=some d→∃v u,mg x=some u∧RelV v u∧∀w:Vw,w.K=K→RD w d v)(hB:∀x∈BN,mg x=none):
  Prg P w K mg base ⟨K,Γ,G⟩ FN GN BN 0 where
 hK:=rfl
 fns:=fun f x sp h1 h2=>by
  obtain⟨fa,fd,ps,e1,e2,e3⟩:=hF x (Dx h1)
  have hs:sp=bot:=hb sp (Dx h2)
  subst hs
  have no:∀vs H Q E,¬spF K bot vs H Q E:=fun vs H Q E zz124=>by obtain⟨_,_,_,_,_,_,_,_,_,h,_⟩:=zz124;exact h
  exact⟨0,fa,fd,ps,[],[],[],bot,⟨fun vs H Q E h=>absurd h (no vs H Q E),fun A outer s H args us vs Q E _ _ _ _ h=>absurd h (no vs H Q E)⟩,Nat.le_refl _,e1,e2,e3,.nil,fun w _=>RDs.nil w,fun _ _ _ _ h=>h.elim⟩
 flen:=hl
 glb:=hg
 blt:=hB
theorem Prg.add(Pr:Prg P w K mg base ⟨K,Γ,G⟩ FN GN BN lv)(n:Nat){x:Str}(hx:FN[n]?=some x)(F:FnOk P w K mg base (CX1 P w) kk f fd ps (spF K sp))(h1:kk≤lv')(h2:lv≤lv')(hm:mg x=some (.ref f))(hk:Hd K (.ref f)=true)(hb:Sh K fd ps []):
  Prg P w K mg base ⟨K,Γ.set n sp,G⟩ FN GN BN lv' where
 hK:=rfl
 fns:=fun m y sp' e1 e2=>by
  by_cases hmn:n=m
  ·subst hmn
   rw[hx] at e1
   cases e1
   have hl:n<Γ.length:=by rw[←Pr.flen];exact(Ac.mp hx).1
   have e2:(Γ.set n sp)[n]?=some sp':=e2
   rw[Dw hl] at e2
   cases e2
   exact⟨kk,f,fd,ps,[],[],[],sp,F,h1,hm,hk,hb,.nil,fun w _=>RDs.nil w,fun as M Q Z h=>by rw[Dg];exact h⟩
  ·have e2:(Γ.set n sp)[m]?=some sp':=e2
   rw[Ds hmn] at e2
   obtain⟨kk,f,fd,ps,ds,dvs,dD,sp0,F,hk,h⟩:=Pr.fns m y sp' e1 e2
   exact⟨kk,f,fd,ps,ds,dvs,dD,sp0,F,Nat.le_trans hk h2,h⟩
 flen:=by rw[Pr.flen];simp
 glb:=Pr.glb
 blt:=Pr.blt
end
theorem Zh{a:Nat}(h:Zc M a=some xs):Zc (M++N) a=some xs:=by
 unfold Zc at *
 have ha:a<M.length:=by
  cases e:M[a]? with
  | none=>rw[e] at h;cases h
  | some c=>exact(Ac.mp e).1
 rw[Dk ha];exact h
theorem Z8{a:Nat}(h:Z4 M a=some xs):Z4 (M++N) a=some xs:=by
 unfold Z4 at *
 have ha:a<M.length:=by
  cases e:M[a]? with
  | none=>rw[e] at h;cases h
  | some c=>exact(Ac.mp e).1
 rw[Dk ha];exact h
theorem Z56{M N:Z2}{a:Nat}{xs:List (List Key×D)}(h:Zq M a=some xs):Zq (M++N) a=some xs:=by
 unfold Zq at *
 have ha:a<M.length:=by
  cases e:M[a]? with
  | none=>rw[e] at h;cases h
  | some c=>exact(Ac.mp e).1
 rw[Dk ha];exact h
theorem Zl9(M:Z2)(c:Cell)(N:Z2):(M++c::N)[M.length]?=some c:=by simp
theorem Zt5(M N:Z2)(k:Nat):(M++N)[M.length+k]?=N[k]?:=by rw[Dc (by omega)];congr 1;omega
theorem Zd(M:Z2)(xs:List D)(N:Z2):Zc (M++ .lst xs::N) M.length=some xs:=by unfold Zc;rw[Zl9]
theorem Z5(M:Z2)(xs:List D)(N:Z2):Z4 (M++ .lst xs::N) M.length=some xs:=by unfold Z4;rw[Zl9]
theorem X6(M N:Z2)(k:Nat):Z4 (M++N) (M.length+k)=Z4 N k:=by unfold Z4;rw[Zt5]
theorem Zq7(M:Z2)(c d:Cell)(N:Z2):(M++c::N).set M.length d=M++d::N:=by
 rw[List.set_append_right _ _ (Nat.le_refl _)];simp
theorem Z1{n:Nat}(h:Z4 M n=some xs):Zc M n=some xs:=Zy0 h
theorem Xv{a b:Nat}(h:b≠a):Zc (M.set b c) a=Zc M a:=by unfold Zc;rw[Ds h]
theorem Za{a b:Nat}(h:b≠a):Z4 (M.set b c) a=Z4 M a:=by unfold Z4;rw[Ds h]
theorem Yt{n:Nat}(h:Zs M n=some xs):n<M.length:=by
 unfold Zs at h
 cases e:M[n]? with
 | none=>rw[e] at h;cases h
 | some c=>exact(Ac.mp e).1
theorem Xn{lo:Int}{n i:Nat}(h:i<n):(Pw lo n)[i]?=some (.int (lo+i)):=by
 unfold Pw;rw[Ai,List.getElem?_range h];rfl
theorem Zk(lo:Int)(n:Nat):(Pw lo n).length=n:=by unfold Pw;simp
theorem Xy{own:Own}{xs:List D}{tg:List Nat}{body:DS}{R:DEnds}{σ:DEnv}{M:Z2}(I:Nat→DEnv→Z2→Prop)(h0:I 0 σ M)(hs:∀i σ M,i≤xs.length→I i σ M→Q5 own xs M)
  (step:∀(i:Nat) (d:D) σ M (C:DEnv→Z2→Prop),xs[i]?=some d→I i σ M→(∀σ2 M2,I (i+1) σ2 M2→C σ2 M2)→tgD tg d σ fun σ'=>body {nx:=C,rt:=R.rt,bk:=R.nx,ct:=C} σ' M)
  (fin:∀σ M,I xs.length σ M→R.nx σ M):forD own xs tg body xs R σ M:=by
 have key:∀(j:Nat) σ M,j≤xs.length→I (xs.length - j) σ M→forD own xs tg body (xs.drop (xs.length - j)) R σ M:=by
  intro j
  induction j with
  | zero=>
   intro σ M _ h
   rw[Nat.sub_zero] at h ⊢
   rw[List.drop_length]
   exact⟨hs _ σ M (Nat.le_refl _) h,fin σ M h⟩
  | succ j ih=>
   intro σ M hj h
   have hi:xs.length - (j+1)<xs.length:=by omega
   have e:xs.length - (j+1)+1=xs.length - j:=by omega
   rw[Dv hi]
   refine⟨hs _ σ M (by omega) h,step _ _ σ M _ (Ag hi) h fun σ2 M2 h2=>?_⟩
   rw[e] at h2 ⊢
   exact ih σ2 M2 (by omega) h2
 have:=key xs.length σ M (Nat.le_refl _) (by rw[Nat.sub_self];exact h0)
 rw[Nat.sub_self] at this
 exact this
theorem Yu{lo:Int}{n:Nat}{tg:List Nat}{body:DS}{R:DEnds}{σ:DEnv}{M:Z2}(I:Nat→DEnv→Z2→Prop)(h0:I 0 σ M)
  (step:∀(i:Nat) σ M (C:DEnv→Z2→Prop),i<n→I i σ M→(∀σ2 M2,I (i+1) σ2 M2→C σ2 M2)→tgD tg (.int (lo+i)) σ fun σ'=>body {nx:=C,rt:=R.rt,bk:=R.nx,ct:=C} σ' M)
  (fin:∀σ M,I n σ M→R.nx σ M):forD .no (Pw lo n) tg body (Pw lo n) R σ M:=by
 refine Xy I h0 (fun _ _ _ _ _=>trivial) (fun i d σ M C hd hI hC=>?_) (fun σ M h=>fin σ M (by rw[Zk] at h;exact h))
 have hi:i<n:=by
  have:=(Ac.mp hd).1
  rwa[Zk] at this
 rw[Xn hi] at hd
 cases hd
 exact step i σ M C hi hI hC
theorem Yi{own:Own}{z:Nat}(I:Nat→DEnv→Z2→Prop)(h0:I 0 σ M)(hs:∀i σ M,i≤xs.length→I i σ M→Q5 own xs M)
  (step:∀(i:Nat) (d:D) σ M (C:DEnv→Z2→Prop),xs[i]?=some d→I i σ M→(∀σ2 M2,I (i+1) σ2 M2→C σ2 M2)→tgD tg d σ fun σ'=>cd σ' M fun b M1=>if b=true then
   el σ' M1 fun y M2=>∃acc,Z4 M2 z=some acc∧acc.length<sizeLine∧C σ' (M2.set z (.lst (acc++[y]))) else C σ' M1)
  (fin:∀σ M,I xs.length σ M→Q M):O0 own xs tg cd el z xs σ M Q:=by
 have key:∀(j:Nat) σ M,j≤xs.length→I (xs.length - j) σ M→O0 own xs tg cd el z (xs.drop (xs.length - j)) σ M Q:=by
  intro j
  induction j with
  | zero=>
   intro σ M _ h
   rw[Nat.sub_zero] at h ⊢
   rw[List.drop_length]
   exact⟨hs _ σ M (Nat.le_refl _) h,fin σ M h⟩
  | succ j ih=>
   intro σ M hj h
   have hi:xs.length - (j+1)<xs.length:=by omega
   have e:xs.length - (j+1)+1=xs.length - j:=by omega
   rw[Dv hi]
   refine⟨hs _ σ M (by omega) h,step _ _ σ M (fun σ2 M2=>O0 own xs tg cd el z (xs.drop (xs.length - (j+1)+1)) σ2 M2 Q) (Ag hi) h fun σ2 M2 h2=>?_⟩
   rw[e] at h2 ⊢
   exact ih σ2 M2 (by omega) h2
 have:=key xs.length σ M (Nat.le_refl _) (by rw[Nat.sub_self];exact h0)
 rw[Nat.sub_self] at this
 exact this
theorem O8{c:Cfg}{X:DX}{t:E}{b:Ss}{R:DEnds}{σ:DEnv}{M:Z2}(I:DEnv→Z2→Prop)(μ:DEnv→Z2→Nat)(h0:I σ M)
  (step:∀σ M,I σ M→tt c X t σ M fun r M1=>if r=true then tss c X b {nx:=fun σ2 M2=>I σ2 M2∧μ σ2 M2<μ σ M,rt:=R.rt,bk:=R.nx,ct:=fun σ2 M2=>I σ2 M2∧μ σ2 M2<μ σ M} σ M1 else R.nx σ M1):
  ts c X (.while_ t b) R σ M:=by
 refine⟨fun m σ M=>m=μ σ M∧I σ M∧True,⟨_,rfl,h0,trivial⟩,?_⟩
 rintro m σ M ⟨rfl,hI,_⟩
 have e:∀σ0 M0,(fun(σ2:DEnv) (M2:Z2)=>∃m',m'<μ σ0 M0∧m'=μ σ2 M2∧I σ2 M2∧True)=fun σ2 M2=>I σ2 M2∧μ σ2 M2<μ σ0 M0:=by
  intro σ0 M0
  funext σ2 M2
  apply propext
  constructor
  ·rintro⟨m',h1,rfl,h2,_⟩;exact⟨h2,h1⟩
  ·rintro⟨h1,h2⟩;exact⟨_,h2,rfl,h1,trivial⟩
 rw[e σ M]
 exact step σ M hI
theorem mulR{i j:Int}(h1:-(2 ^ 64)<j)(h2:j<2 ^ 64):IntMulOk i j:=CMul.ok (.inr ⟨h1,h2⟩)
theorem mulL{i j:Int}(h1:-(2 ^ 64)<i)(h2:i<2 ^ 64):IntMulOk i j:=CMul.ok (.inl ⟨h1,h2⟩)
theorem Zf{i j:Int}(h1:0<j)(h2:j<2 ^ 64):Z24 i j:=by
 refine⟨by omega,?_⟩
 have h3:j.natAbs<2 ^ 64:=by omega
 exact Nat.lt_trans (Cg h3 (by decide)) (by decide)
theorem Z0{n:Nat}(h:n≤16000000):n≤sizeLine:=by rw[Lu];omega
theorem Z3{n:Nat}(h:n≤16000000):n<sizeLine:=by rw[Lu];omega
section
variable{M:Z2}{Q:DK}{B:Bool→Prop}{i j:Int}{a b:Str}{p q:Bool}{xs ys:List D}{n m:Nat}{K:Af}
theorem op_add_i:opD .add (.int i) (.int j) M Q=Q (.int (i+j)) M:=rfl
theorem op_add_s:opD .add (.str a) (.str b) M Q=(a.length+b.length≤sizeLine∧Q (.str (a++b)) M):=rfl
theorem op_add_t:opD .add (.tup xs) (.tup ys) M Q=(xs≠[]∧xs.length+ys.length≤sizeLine∧Q (.tup (xs++ys)) M):=rfl
theorem op_add_l:opD .add (.ref n) (.ref m) M Q=∃xs ys,Z4 M n=some xs∧Z4 M m=some ys∧xs.length+ys.length≤sizeLine∧Q (.ref M.length) (M++[.lst (xs++ys)]):=rfl
theorem op_sub_i:opD .sub (.int i) (.int j) M Q=Q (.int (i - j)) M:=rfl
theorem op_mul_i:opD .mul (.int i) (.int j) M Q=(IntMulOk i j∧Q (.int (i * j)) M):=rfl
theorem op_mul_l:opD .mul (.ref n) (.int i) M Q=∃xs,Z4 M n=some xs∧0≤i∧i<2 ^ 62∧xs.length * i.toNat≤sizeLine∧Q (.ref M.length) (M++[.lst (Dn i.toNat xs).flatten]):=rfl
theorem op_fdiv_i:opD .fdiv (.int i) (.int j) M Q=(Z24 i j∧Q (.int (qdiv i j)) M):=rfl
theorem op_mod_i:opD .mod (.int i) (.int j) M Q=(j≠0∧Q (.int (qmod i j)) M):=rfl
theorem op_pow_i:opD .pow (.int i) (.int j) M Q=(CPow i j∧Q (.int (i ^ j.toNat)) M):=rfl
theorem cm_lt_i:cmD M .lt (.int i) (.int j) B=B (decide (i<j)):=rfl
theorem cm_le_i:cmD M .le (.int i) (.int j) B=B (decide (i≤j)):=rfl
theorem cm_gt_i:cmD M .gt (.int i) (.int j) B=B (decide (j<i)):=rfl
theorem cm_ge_i:cmD M .ge (.int i) (.int j) B=B (decide (j≤i)):=rfl
theorem cm_eq{x y:D}:cmD M .eq x y B=eqD M x y B:=rfl
theorem cm_ne{x y:D}:cmD M .ne x y B=eqD M x y fun b=>B (!b):=rfl
theorem cm_in{x y:D}:cmD M .isin x y B=inQ M x y B:=rfl
theorem cm_notin{x y:D}:cmD M .notin x y B=inQ M x y fun b=>B (!b):=rfl
theorem cm_is_n:cmD M .is .non .non B=B true:=rfl
theorem cm_is_i:cmD M .is (.int i) .non B=B false:=rfl
theorem cm_is_s:cmD M .is (.str a) .non B=B false:=rfl
theorem cm_is_b:cmD M .is (.bl p) .non B=B false:=rfl
theorem cm_is_t:cmD M .is (.tup xs) .non B=B false:=rfl
theorem cm_is_r:cmD M .is (.ref n) .non B=B false:=rfl
theorem eq_i:eqD M (.int i) (.int j) B=B (decide (i=j)):=rfl
theorem eq_s:eqD M (.str a) (.str b) B=B (decide (a=b)):=rfl
theorem eq_b:eqD M (.bl p) (.bl q) B=B (decide (p=q)):=rfl
theorem eq_nn:eqD M .non .non B=B true:=rfl
theorem eq_is:eqD M (.int i) (.str b) B=B false:=rfl
theorem eq_si:eqD M (.str b) (.int i) B=B false:=rfl
theorem tru_b:truD M (.bl p) B=B p:=rfl
theorem tru_i:truD M (.int i) B=B (i !=0):=rfl
theorem tru_n:truD M .non B=B false:=rfl
theorem tru_t:truD M (.tup xs) B=B (!xs.isEmpty):=rfl
theorem ix_t:ixD M (.tup xs) (.int i) F=∃d,atI xs i=some d∧F d:=rfl
theorem ix_g:ixD M (.gtup xs) (.int i) F=∃d,atI xs i=some d∧F d:=rfl
theorem ix_s:ixD M (.str a) (.int i) F=(a.length≤sizeLine∧∃c,atI a.cps.toList i=some c∧F (.str ⟨#[c]⟩)):=rfl
theorem ix_l{k:Nat}(h:Zc M n=some xs){d:D}(hd:xs[k]?=some d)(hF:F d):ixD M (.ref n) (.int k) F:= .inl ⟨xs,k,d,rfl,h,Xd hd,hF⟩
theorem Wo(h:Zc M n=some xs){d:D}(hd:atI xs i=some d)(hF:F d):ixD M (.ref n) (.int i) F:= .inl ⟨xs,i,d,rfl,h,hd,hF⟩
theorem ix_d{F:D→Prop}{kvs:List (Key×D)}{k:D}{y:Key}(h:Zs M n=some kvs)(hk:keyD k=some y){d:D}(hd:valD kvs y=some d)(hF:F d):ixD M (.ref n) k F:= .inr (.inl ⟨kvs,y,d,Zw5 h,hk,hd,hF⟩)
theorem ix_p{F:D→Prop}{kvs:List (List Key×D)}{ks:List Key}(h:Zq M n=some kvs){d:D}(hd:valD kvs ks=some d)(hF:F d):ixD M (.ref n) (.tup (ks.map kD)) F:= .inr (.inr ⟨kvs,ks,d,h,rfl,hd,hF⟩)
theorem sl_s{lo hi:Option Int}:slD (.str a) lo hi M Q=(a.length≤sizeLine∧Q (.str (Ig a lo hi)) M):=rfl
theorem sl_t{lo hi:Option Int}:slD (.tup xs) lo hi M Q=(¬(HT.sIx xs.length 0 lo=0∧HT.sIx xs.length xs.length hi=xs.length)∧Q (.tup (cutD xs lo hi)) M):=rfl
theorem sl_l{lo hi:Option Int}:slD (.ref n) lo hi M Q=∃xs,Zc M n=some xs∧Q (.ref M.length) (M++[.lst (cutD xs lo hi)]):=rfl
noncomputable def tyNon:Ty→Bool:=fun _=>false
noncomputable def tyBl:Ty→Bool
 | .bool=>true | .int=>true | _=>false
noncomputable def tyInt:Ty→Bool
 | .int=>true | _=>false
noncomputable def tyStr:Ty→Bool
 | .str=>true | _=>false
noncomputable def tyTup:Ty→Bool
 | .tuple=>true | _=>false
noncomputable def tyLst:Ty→Bool
 | .list=>true | _=>false
noncomputable def tyDct:Ty→Bool
 | .dict=>true | _=>false
theorem Q7{d:D}{t:Ty}{v:Bool}(hd:∀e C dx r,d≠ .exn e C dx r)(h1:tyD M d=some s)(h2:Kh K (.type s) (.type (Yj t))=some v):isD K M d (.ty (Yj t)) B=B v:=by
 have:isD K M d (.ty (Yj t)) B=∃t' b,tyD M d=some t'∧Kh K (.type t') (.type (Yj t))=some b∧B b:=by
  cases d<;>first | rfl | exact absurd rfl (hd _ _ _ _)
 rw[this]
 apply propext
 constructor
 ·rintro⟨t',b,e1,e2,h⟩
  rw[h1] at e1
  cases e1
  rw[h2] at e2
  cases e2
  exact h
 ·intro h;exact⟨s,v,h1,h2,h⟩
theorem is_non{t:Ty}:isD K M .non (.ty (Yj t)) B=B (tyNon t):=Q7 (fun _ _ _ _ h=>nomatch h) rfl (by cases t<;>rfl)
theorem is_bl{t:Ty}:isD K M (.bl p) (.ty (Yj t)) B=B (tyBl t):=Q7 (fun _ _ _ _ h=>nomatch h) rfl (by cases t<;>rfl)
theorem is_int{t:Ty}:isD K M (.int i) (.ty (Yj t)) B=B (tyInt t):=Q7 (fun _ _ _ _ h=>nomatch h) rfl (by cases t<;>rfl)
theorem is_str{t:Ty}:isD K M (.str a) (.ty (Yj t)) B=B (tyStr t):=Q7 (fun _ _ _ _ h=>nomatch h) rfl (by cases t<;>rfl)
theorem is_tup{t:Ty}:isD K M (.tup xs) (.ty (Yj t)) B=B (tyTup t):=Q7 (fun _ _ _ _ h=>nomatch h) rfl (by cases t<;>rfl)
theorem Bx{t:Ty}(h:Z4 M n=some xs):isD K M (.ref n) (.ty (Yj t)) B=B (tyLst t):=Q7 (s:="list") (fun _ _ _ _ h=>nomatch h) (by simp only[tyD,O5 h]) (by cases t<;>rfl)
theorem Zb(h:Zc M n=some xs)(hq:Q (.int xs.length) M):bfD K .len [.ref n] M Q:= .inl ⟨xs,h,hq⟩
theorem bf_len_t:bfD K .len [.tup xs] M Q=Q (.int xs.length) M:=rfl
theorem bf_len_s:bfD K .len [.str a] M Q=(a.length≤sizeLine∧Q (.int a.length) M):=rfl
theorem bf_is{d c:D}:bfD K .isinst [d,c] M Q=isD K M d c fun b=>Q (.bl b) M:=rfl
theorem bf_min:bfD K .min2 [.int i,.int j] M Q=Q (.int (if j<i then j else i)) M:=rfl
theorem bf_max:bfD K .max2 [.int i,.int j] M Q=Q (.int (if j >i then j else i)) M:=rfl
theorem bf_list{d:D}:bfD K .list1 [d] M Q=∃xs,N9 M d=some xs∧Q (.ref M.length) (M++[.lst xs]):=rfl
theorem bf_int:bfD K .int1 [.bl p] M Q=Q (.int (if p then 1 else 0)) M:=rfl
theorem at2_xy{x y:D}:at2 [x,y] F=F x y:=rfl
theorem onRef_r:Q6 (.ref n) F=F n:=rfl
theorem on_ref:Q6 (.ref n) F=F n:=rfl
theorem set_f:setD false n M Q=∃ks:List Key,Zc M n=some (ks.map kD)∧ks.length+1<scanBound∧∀ks':List Key,ks'.Nodup→(∀k,k∈ks'↔k∈ks)→Q (.int ks'.length) M:=rfl
theorem ati0{α:Type}{x:α}{l:List α}:atI (x::l) 0=some x:=Xd (j:=0) rfl
theorem ati1{α:Type}{x y:α}{l:List α}:atI (x::y::l) 1=some y:=Xd (j:=1) rfl
theorem ati2{α:Type}{x y z:α}{l:List α}:atI (x::y::z::l) 2=some z:=Xd (j:=2) rfl
theorem ofS_inj{a b:String}:(Str.ofString a=Str.ofString b)=(a=b):=by
 apply propext
 constructor
 ·intro h
  rw[Str.ofString_eq_toList,Str.ofString_eq_toList] at h
  have h1:=congrArg (fun s:Str=>s.cps.toList) h
  simp only at h1
  have inj:∀{l m:List Char},l.map Char.toNat=m.map Char.toNat→l=m:=by
   intro l
   induction l with
   | nil=>intro m h;cases m<;>simp_all
   | cons c l ih=>
    intro m h
    cases m with
    | nil=>simp at h
    | cons e m=>
     rw[Dd,Dd,List.cons.injEq] at h
     rw[ih h.2,Char.toNat_inj.mp h.1]
  exact String.toList_inj.mp (inj h1)
 ·intro h;rw[h]
theorem mt_setd_r{t z:D}:mtD .setd (.ref n) [t,z] M Q=∃(kvs:List (List Key×D)) (ks:List Key),Zq M n=some kvs∧t= .tup (ks.map kD)∧kvs.length<sizeLine∧(∀d,valD kvs ks=some d→Q d M)∧(valD kvs ks=none→Q z (M.set n (.dcp (putD kvs ks z)))):=rfl
theorem ati3{α:Type}{x y z u:α}{l:List α}:atI (x::y::z::u::l) 3=some u:=Xd (j:=3) rfl
theorem ati4{α:Type}{x y z u v:α}{l:List α}:atI (x::y::z::u::v::l) 4=some v:=Xd (j:=4) rfl
theorem ati5{α:Type}{x y z u v w:α}{l:List α}:atI (x::y::z::u::v::w::l) 5=some w:=Xd (j:=5) rfl
theorem mk_setd:mtK .setd (.ref n) M=((Zq M n).isSome=true):=rfl
theorem mt_append_r{d:D}:mtD .append (.ref n) [d] M Q=∃xs,Z4 M n=some xs∧xs.length<sizeLine∧Q .non (M.set n (.lst (xs++[d]))):=rfl
theorem mt_get2_r{k z:D}:mtD .get2 (.ref n) [k,z] M Q=∃kvs y,Zs M n=some kvs∧keyD k=some y∧Q ((valD kvs y).getD z) M:=rfl
theorem mt_pop_r:mtD .pop0 (.ref n) [] M Q=∃xs d,Z4 M n=some xs∧xs[xs.length - 1]?=some d∧Q d (M.set n (.lst xs.dropLast)):=rfl
theorem mt_clear_r:mtD .clear (.ref n) [] M Q=∃xs,Z4 M n=some xs∧Q .non (M.set n (.lst [])):=rfl
theorem mt_extend_r:mtD .extend (.ref n) [.ref m] M Q=∃xs ys,Z4 M n=some xs∧Z4 M m=some ys∧xs.length+ys.length≤sizeLine∧Q .non (M.set n (.lst (xs++ys))):=rfl
theorem mk_extend:mtK .extend (.ref n) M=((Zc M n).isSome=true):=rfl
theorem mk_append:mtK .append (.ref n) M=((Zc M n).isSome=true):=rfl
theorem mk_pop:mtK .pop0 (.ref n) M=((Zc M n).isSome=true):=rfl
theorem mk_clear:mtK .clear (.ref n) M=((Zc M n).isSome=true):=rfl
theorem mk_get2:mtK .get2 (.ref n) M=((Zs M n).isSome=true):=rfl
theorem tg_one{k:Nat}{d:D}:tgD [k] d σ F=F (σ.set k (some d)):=by cases d<;>rfl
theorem tg_two{k l:Nat}{d e:D}:tgD [k,l] (.tup [d,e]) σ F=F ((σ.set k (some d)).set l (some e)):=by
 show([d,e].length=[k,l].length∧F _)=_
 simp
theorem it_r:itD M (.ref n) R=∃xs,Zc M n=some xs∧R (.lst n) xs:=rfl
theorem it_t:itD M (.tup xs) R=R .no xs:=rfl
theorem it_g:itD M (.gtup xs) R=R .no xs:=rfl
theorem key_i:keyD (.int i)=some (.inl i):=rfl
theorem key_s:keyD (.str a)=some (.inr a):=rfl
theorem in_ss:inQ M (.str a) (.str b) B=B (!(Lj b a 0 b.length 1).isEmpty):=rfl
end
theorem Z7{α:Type}{o:Option α}{x:α}(h:o=some x):o.isSome=true:=by rw[h];rfl
theorem Prg.up{K:Af}(Pr:Prg P w K mg base c FN GN BN lv)(h:lv≤lv'):Prg P w K mg base c FN GN BN lv' where
 hK:=Pr.hK
 fns:=fun m y sp e1 e2=>by
  obtain⟨kk,f,fd,ps,ds,dvs,dD,sp0,F,hk,r⟩:=Pr.fns m y sp e1 e2
  exact⟨kk,f,fd,ps,ds,dvs,dD,sp0,F,Nat.le_trans hk h,r⟩
 flen:=Pr.flen
 glb:=Pr.glb
 blt:=Pr.blt
def Rest(c:Cfg)(X:DX)(r:Ss)(R:DEnds)(σ:DEnv)(M:Z2):Prop:=tss c X r R σ M
theorem tss_nil:tss c X .nil R σ M=R.nx σ M:=rfl
theorem tss_cons:tss c X (.cons s r) R σ M=ts c X s {R with nx:=fun σ' M'=>Rest c X r R σ' M'} σ M:=rfl
theorem Su{c:Cfg}{X:DX}{r:Ss}{R:DEnds}{σ:DEnv}{M:Z2}(h:tss c X r R σ M):Rest c X r R σ M:=h
theorem Zn4{α:Type}{P:List α→Prop}(h:P [])(l:List α)(e:l.length=0):P l:=by
 cases l with
 | nil=>exact h
 | cons _ _=>cases e
theorem Ew{α:Type}{n:Nat}{P:List α→Prop}(h:∀a l,l.length=n→P (a::l))(l:List α)(e:l.length=n+1):P l:=by
 cases l with
 | nil=>cases e
 | cons a r=>exact h a r (Nat.succ.inj e)
theorem Zo6{α:Type}{P:List α→Prop}(h:∀a,P [a]):∀l:List α,l.length=1→P l:=Ew fun a=>Zn4 (h a)
theorem Zm1{α:Type}{P:List α→Prop}(h:∀a b,P [a,b]):∀l:List α,l.length=2→P l:=Ew fun a=>Zo6 (P:=fun l=>P (a::l)) (h a)
theorem Zo2{α:Type}{P:List α→Prop}(h:∀a b c,P [a,b,c]):∀l:List α,l.length=3→P l:=Ew fun a=>Zm1 (P:=fun l=>P (a::l)) (h a)
theorem Y39{α:Type}{P:List α→Prop}(h:∀a b c d,P [a,b,c,d]):∀l:List α,l.length=4→P l:=Ew fun a=>Zo2 (P:=fun l=>P (a::l)) (h a)
theorem Z26{α:Type}{P:α→Prop}:∀x∈([]:List α),P x:=fun _ h=>absurd h Db
theorem all_cons{α:Type}{P:α→Prop}{a:α}{l:List α}(h:P a)(t:∀x∈l,P x):∀x∈a::l,P x:=fun x hx=>(Aq.mp hx).elim (fun e=>e ▸ h) (t x)
end U
namespace GT
inductive Av (g:Nat→List Nat) (a:Nat):Nat→Prop
 | zero:a≠0→Av g a 0
 | step {x y:Nat}:Av g a x→y∈g x→y≠a→Av g a y
structure Num(g:Nat→List Nat)(n:Nat):Prop where
 pos:0<n
 cl:∀x,x<n→∀y∈g x,y<n
 up:∀k,k<n→k≠0→∃p,p<k∧k∈g p
structure Must(g:Nat→List Nat)(k m:Nat):Prop where
 ne:m≠k
 dom:¬Av g m k
 last:∀d,d≠k→¬Av g d k→d≤m
structure Wk(g:Nat→List Nat)(n:Nat)(B:List Nat)(T:List (Nat×Nat))(F:List Nat):Prop where
 bn:B.Nodup
 bl:∀x∈B,x<n
 z:0∈B
 mem:∀x,x∈B↔(∃s,(x,s)∈T)∨x∈F
 nd:(T.map (·.1)++F).Nodup
 first:∀p,T[0]?=some p→p.1=0
 chain:∀(i:Nat) p q,T[i]?=some p→T[i+1]?=some q→q.1∈g p.1
 steps:∀a s,(a,s)∈T→s≤(g a).length∧∀j y,j<s→(g a)[j]?=some y→y∈B
 fin:∀d∈F,∀y∈g d,y∈B
 par:∀(i:Nat) x,F[i]?=some x→x≠0→∃p,x∈g p∧p∈B∧p∉F.take (i+1)
theorem Zd8:∀{n:Nat} {B:List Nat},B.Nodup→(∀x∈B,x<n)→B.length≤n:=by
 intro n B h1 h2
 have:B.length≤(Ay n).length:=List.Nodup.length_le_of_subset h1 (fun x hx=>Hx.mpr (h2 x hx))
 simpa using this
structure Ord(g:Nat→List Nat)(n:Nat)(O:List Nat):Prop where
 nd:O.Nodup
 lt:∀x∈O,x<n
 z:O[0]?=some 0
 cl:∀x∈O,∀y∈g x,y∈O
 up:∀(k:Nat) x,O[k]?=some x→k≠0→∃(j:Nat) (p:Nat),j<k∧O[j]?=some p∧x∈g p
structure Fd(g:Nat→List Nat)(n a:Nat)(L:List Nat)(t:Nat):Prop where
 nd:L.Nodup
 z:L[0]?=some 0
 av:∀x∈L,Av g a x
 done:∀(i:Nat) x,i<t→L[i]?=some x→∀y∈g x,y=a∨y∈L
 le:t≤L.length
end GT
namespace ND
structure St where
 b:List Nat
 s:List (Nat×List Nat)
 d:List Nat
noncomputable def stp(g:Nat→List Nat):St→St
 | ⟨b,[],d⟩=>⟨b,[],d⟩
 | ⟨b,(x,[])::s,d⟩=>⟨b,s,d++[x]⟩
 | ⟨b,(x,t::r)::s,d⟩=>if t∈b then⟨b,(x,r)::s,d⟩ else⟨b++[t],(t,g t)::(x,r)::s,d⟩
noncomputable def itr(g:Nat→List Nat):Nat→St→St
 | 0,s=>s
 | k+1,s=>stp g (itr g k s)
def Ends(g:Nat→List Nat)(x:Nat)(d:List Nat):Prop:=∃k b,itr g k ⟨[x],[(x,g x)],[]⟩=⟨b,[],d⟩
noncomputable def mp(π:Nat→Nat)(s:St):St:=⟨s.b.map π,s.s.map fun p=>(π p.1,p.2.map π),s.d.map π⟩
structure In(S:Nat→Prop)(z:St):Prop where
 b:∀x∈z.b,S x
 s:∀p∈z.s,S p.1∧∀t∈p.2,S t
 d:∀x∈z.d,S x
structure Ok(g:Nat→List Nat)(x:Nat)(s:St):Prop where
 nb:s.b.Nodup
 nd:(s.s.map (·.1)++s.d).Nodup
 eq:∀y,y∈s.b↔y∈s.s.map (·.1)∨y∈s.d
 cl:∀y∈s.d,∀t∈g y,t∈s.b
 op:∀p∈s.s,(∀t∈p.2,t∈g p.1)∧∀t∈g p.1,t∈p.2∨t∈s.b
 bot:s.s.getLast?.map (·.1)=some x∨(s.s=[]∧s.d.getLast?=some x)
end ND
namespace LN
inductive Orb (J:Nat→Option Nat):Nat→Nat→Prop
 | refl (p:Nat):Orb J p p
 | step {p q r:Nat}:J p=some q→Orb J q r→Orb J p r
theorem Orb.trans{J:Nat→Option Nat}{p q r:Nat}(h:Orb J p q)(g:Orb J q r):Orb J p r:=by
 induction h with
 | refl _=>exact g
 | step e _ ih=>exact .step e (ih g)
def Ln(J:Nat→Option Nat)(n:Nat)(m:Nat→Option Nat):Prop:=∀p g,m p=some g→p<n∧(J p=none→g=p)∧(∀q,J p=some q→m q=some g)∧Orb J p g
def Lk(J:Nat→Option Nat):Nat→List Nat→Nat→Prop
 | s,[],p=>s=p
 | s,x::r,p=>s=x∧∃q,J x=some q∧Lk J q r p
end LN
namespace CY
open LN
noncomputable def it(J:Nat→Option Nat):Nat→Nat→Option Nat
 | 0,p=>some p
 | k+1,p=>(J p).bind (it J k)
section
variable{J:Nat→Option Nat}
theorem Yk:∀(a b p:Nat),it J (a+b) p=(it J a p).bind (it J b)
 | 0,b,p=>by rw[Nat.zero_add];rfl
 | a+1,b,p=>by
  rw[Nat.add_right_comm]
  show(J p).bind _=((J p).bind _).bind _
  cases J p with
  | none=>rfl
  | some q=>exact Yk a b q
theorem Wy:∀{k p q:Nat},it J k p=some q→Orb J p q
 | 0,p,q,h=>by cases h;exact .refl _
 | k+1,p,q,h=>by
  obtain⟨r,h1,h2⟩:=Ik.mp (show(J p).bind _=some q from h)
  exact .step h1 (Wy h2)
theorem Z55{p q:Nat}(h:Orb J p q):∃k,it J k p=some q:=by
 induction h with
 | refl _=>exact⟨0,rfl⟩
 | step e _ ih=>obtain⟨k,hk⟩:=ih;exact⟨k+1,by show(J _).bind _=_;rw[e];exact hk⟩
def Cyc(J:Nat→Option Nat)(a:Nat):Prop:=∃d,0<d∧it J d a=some a
theorem Zm7{n p q:Nat}(hJ:∀p q,J p=some q→p<n)(h:it J (n+1) p=some q):Cyc J q:=by
 have hx:∀k,k≤n→∃x,it J k p=some x∧x<n:=by
  intro k hk
  rw[show n+1=k+(n - k+1) by omega,Yk] at h
  obtain⟨x,h1,h2⟩:=Ik.mp h
  obtain⟨y,h3,_⟩:=Ik.mp (show(J x).bind _=some q from h2)
  exact⟨x,h1,hJ _ _ h3⟩
 have rep:∃a b,a<b∧b≤n∧it J a p=it J b p:=by
  refine Classical.byContradiction fun hno=>?_
  have nd:((Ay (n+1)).map fun k=>(it J k p).getD 0).Nodup:=by
   refine List.pairwise_map.mpr (List.Pairwise.imp_of_mem ?_ List.pairwise_lt_range)
   intro a b ha hb hab e
   have hb':=Hx.mp hb
   obtain⟨x,e1,_⟩:=hx a (by omega)
   obtain⟨y,e2,_⟩:=hx b (by omega)
   rw[e1,e2] at e
   exact hno ⟨a,b,hab,by omega,by rw[e1,e2];exact congrArg some e⟩
  have:=GT.Zd8 nd (n:=n) fun x hx'=>by
   obtain⟨k,hk,rfl⟩:=Hw.mp hx'
   obtain⟨y,e,hy⟩:=hx k (by have:=Hx.mp hk;omega)
   rw[e];exact hy
  rw[Ab,Im] at this
  omega
 obtain⟨a,b,hab,hb,e⟩:=rep
 obtain⟨x,e1,_⟩:=hx a (by omega)
 have e2:it J (b - a) x=some x:=by
  have:=e
  rw[show b=a+(b - a) by omega,Yk,e1] at this
  exact this.symm
 have e3:it J (n+1 - a) x=some q:=by
  have:=h
  rw[show n+1=a+(n+1 - a) by omega,Yk,e1] at this
  exact this
 refine⟨b - a,by omega,?_⟩
 have e4:=Yk (J:=J) (n+1 - a) (b - a) x
 rw[e3,Nat.add_comm,Yk,e2] at e4
 exact e4.symm.trans e3
theorem fork{p q:Nat}(h:Orb J p q):∀{r},Orb J p r→Orb J q r∨Orb J r q:=by
 induction h with
 | refl _=>intro r g;exact .inl g
 | step e h ih=>
  intro r g
  cases g with
  | refl _=>exact .inr (.step e h)
  | step e' g=>rw[e] at e';cases e';exact ih g
theorem V8{q r:Nat}(h:J q=none)(o:Orb J q r):r=q:=by
 cases o with
 | refl _=>rfl
 | step e _=>rw[h] at e;cases e
theorem Cyc.goes{a:Nat}(h:Cyc J a):J a≠none:=by
 obtain⟨d,h0,h1⟩:=h
 intro z
 cases d with
 | zero=>omega
 | succ d=>rw[show it J (d+1) a=(J a).bind (it J d) from rfl,z] at h1;cases h1
theorem Z44{a d:Nat}(h:it J d a=some a):∀k,it J (k * d) a=some a
 | 0=>by rw[Nat.zero_mul];rfl
 | k+1=>by rw[Nat.succ_mul,Yk,Z44 h k];exact h
theorem Cyc.back{a x:Nat}(h:Cyc J a)(o:Orb J a x):Orb J x a:=by
 obtain⟨d,h0,h1⟩:=h
 obtain⟨k,hk⟩:=Z55 o
 have h2:=Z44 h1 (k+1)
 have hge:k≤(k+1) * d:=Nat.le_trans (Nat.le_succ k) (Nat.le_mul_of_pos_right _ h0)
 rw[show(k+1) * d=k+((k+1) * d - k) by omega,Yk,hk] at h2
 exact Wy h2
def RC(J:Nat→Option Nat)(p:Nat)(v:Int):Prop:=(∃q:Nat,v=q∧Orb J p q∧J q=none)∨∃l:Nat,v= -1 - l∧Orb J p l∧Cyc J l∧∀x,Orb J l x→l≤x
theorem G8{p q l:Nat}(h1:Orb J p q)(h2:J q=none)(h3:Orb J p l)(h4:Cyc J l):False:=by
 rcases fork h1 h3 with o | o
 ·exact h4.goes (by rw[V8 h2 o];exact h2)
 ·exact h4.goes (by rw[V8 h2 (h4.back o)];exact h2)
theorem RC.uniq{p:Nat}{v w:Int}(h:RC J p v)(g:RC J p w):v=w:=by
 rcases h with⟨q,rfl,a,b⟩ | ⟨l,rfl,a,b,c⟩<;>rcases g with⟨q',rfl,a',b'⟩ | ⟨l',rfl,a',b',c'⟩
 ·rcases fork a a' with o | o
  ·rw[V8 b o]
  ·rw[V8 b' o]
 ·exact(G8 a b a' b').elim
 ·exact(G8 a' b' a b).elim
 ·have:Orb J l l'∧Orb J l' l:=by
   rcases fork a a' with o | o
   ·exact⟨o,b.back o⟩
   ·exact⟨b'.back o,o⟩
  have h1:=c _ this.1
  have h2:=c' _ this.2
  omega
theorem RC.ring{p l:Nat}{v:Int}(h:RC J p v)(o:Orb J p l)(c:Cyc J l):v<0∧RC J l v:=by
 rcases h with⟨q,rfl,a,b⟩ | ⟨l',rfl,a,b,d⟩
 ·exact(G8 a b o c).elim
 ·refine⟨by omega,.inr ⟨l',rfl,?_,b,d⟩⟩
  rcases fork o a with z | z
  ·exact z
  ·exact b.back z
end
section
variable{N J:Nat→Option Nat}{φ:Nat→Nat}
theorem Zb1(hs:∀p q,N p=some q→(φ q=φ p∧p<q)∨J (φ p)=some (φ q)):∀{d p q:Nat},it N d p=some q→(φ q=φ p∧p≤q∧(0<d→p<q))∨∃e,0<e∧it J e (φ p)=some (φ q)
 | 0,p,q,h=>by cases h;exact .inl ⟨rfl,Nat.le_refl _,fun z=>by omega⟩
 | d+1,p,q,h=>by
  obtain⟨r,h1,h2⟩:=Ik.mp (show(N p).bind _=some q from h)
  rcases hs p r h1 with⟨a,b⟩ | a<;>rcases Zb1 hs h2 with⟨c,e,f⟩ | ⟨e,e0,he⟩
  ·exact .inl ⟨c.trans a,by omega,fun _=>by omega⟩
  ·exact .inr ⟨e,e0,by rw[←a];exact he⟩
  ·exact .inr ⟨1,by omega,by show(J _).bind _=_;rw[a,c];rfl⟩
  ·exact .inr ⟨e+1,by omega,by show(J _).bind _=_;rw[a];exact he⟩
theorem Z91(hs:∀p q,N p=some q→(φ q=φ p∧p<q)∨J (φ p)=some (φ q)){p q:Nat}(o:Orb N p q):Orb J (φ p) (φ q):=by
 obtain⟨k,hk⟩:=Z55 o
 rcases Zb1 hs hk with⟨a,_⟩ | ⟨e,_,he⟩
 ·rw[a];exact .refl _
 ·exact Wy he
theorem Zu5(hs:∀p q,N p=some q→(φ q=φ p∧p<q)∨J (φ p)=some (φ q)){l:Nat}(h:Cyc N l):Cyc J (φ l):=by
 obtain⟨d,h0,h1⟩:=h
 rcases Zb1 hs h1 with⟨_,_,a⟩ | ⟨e,e0,he⟩
 ·exact absurd (a h0) (Nat.lt_irrefl _)
 ·exact⟨e,e0,he⟩
theorem Ya0(hs:∀p q,N p=some q→(φ q=φ p∧p<q)∨J (φ p)=some (φ q))(hn:∀p,N p=none→J (φ p)=none){p:Nat}{v w:Int}(h:RC N p v)(g:RC J (φ p) w):
  (∃q:Nat,v=q∧N q=none∧Orb N p q∧w=φ q)∨∃l:Nat,v= -1 - l∧Cyc N l∧Orb N p l∧w<0∧RC J (φ l) w:=by
 rcases h with⟨q,rfl,a,b⟩ | ⟨l,rfl,a,b,_⟩
 ·exact .inl ⟨q,rfl,b,a,g.uniq (.inl ⟨φ q,rfl,Z91 hs a,hn q b⟩)⟩
 ·obtain⟨h1,h2⟩:=g.ring (Z91 hs a) (Zu5 hs b)
  exact .inr ⟨l,rfl,b,a,h1,h2⟩
end
section
variable{J:Nat→Option Nat}
def Lw(J:Nat→Option Nat)(x k l h:Nat):Prop:=0<k∧it J k x=some h∧(∃e,e<k∧it J e x=some l)∧∀e y,e<k→it J e x=some y→l≤y
theorem Lw.zero{x h:Nat}(e:J x=some h):Lw J x 1 x h:=⟨Nat.one_pos,by show(J x).bind _=_;rw[e];rfl,⟨0,Nat.one_pos,rfl⟩,fun e y he hy=>by
 have:e=0:=by omega
 subst this
 cases hy
 exact Nat.le_refl _⟩
theorem Lw.step{x k l h h':Nat}(w:Lw J x k l h)(e:J h=some h'):Lw J x (k+1) (min l h) h':=by
 obtain⟨w0,w1,⟨a,a1,a2⟩,w3⟩:=w
 refine⟨by omega,?_,?_,?_⟩
 ·rw[Yk,w1];show(J h).bind _=_;rw[e];rfl
 ·rcases Nat.le_total l h with z | z
  ·rw[Nat.min_eq_left z];exact⟨a,by omega,a2⟩
  ·rw[Nat.min_eq_right z];exact⟨k,by omega,w1⟩
 ·intro b y hb hy
  rcases Nat.lt_succ_iff_lt_or_eq.mp hb with z | rfl
  ·exact Nat.le_trans (Nat.min_le_left _ _) (w3 b y z hy)
  ·rw[w1] at hy;cases hy;exact Nat.min_le_right _ _
theorem Y32{x k:Nat}(hk:0<k)(e:it J k x=some x)(a:Nat):it J a x=it J (a % k) x:=by
 have h:=Yk (J:=J) (a / k * k) (a % k) x
 rw[Z44 e,Nat.mul_comm,Nat.div_add_mod] at h
 exact h
theorem Lw.done{x k l:Nat}(w:Lw J x k l x):Orb J x l∧Cyc J l∧∀y,Orb J l y→l≤y:=by
 obtain⟨w0,w1,⟨a,a1,a2⟩,w3⟩:=w
 have o:=Wy a2
 have back:Orb J l x:=Cyc.back ⟨k,w0,w1⟩ o
 refine⟨o,⟨k,w0,?_⟩,fun y hy=>?_⟩
 ·have h:=Yk (J:=J) a k x
  rw[a2,Nat.add_comm,Yk,w1] at h
  exact h.symm.trans a2
 ·obtain⟨b,hb⟩:=Z55 (o.trans hy)
  rw[Y32 w0 w1] at hb
  exact w3 _ y (Nat.mod_lt _ w0) hb
theorem RC.of_lw{p x k l:Nat}(o:Orb J p x)(w:Lw J x k l x):RC J p (-1 - l):=by
 obtain⟨a,b,c⟩:=w.done
 exact .inr ⟨l,rfl,o.trans a,b,c⟩
theorem Cyc.next{x k h l d:Nat}(c:it J d x=some x)(hd:0<d)(w:Lw J x k l h):∃h',J h=some h':=by
 have:Cyc J h:=by
  have h1:=Yk (J:=J) k d x
  rw[w.2.1,Nat.add_comm,Yk,c] at h1
  exact⟨d,hd,h1.symm.trans w.2.1⟩
 cases e:J h with
 | none=>exact absurd e this.goes
 | some h'=>exact⟨h',rfl⟩
end
end CY
namespace K57
open PySem PySem.Spec PyProof.Rows L2 L3 U
abbrev Rd(K:Af)(Γ:List DSp)(G:List D)(sp:DSp)(b:Ss)(N:List Str):Prop:=∀ds M Q Z,sp ds M Q Z→tss ⟨K,Γ,G⟩ noX b {nx:=fun _ M=>Q .non M,rt:=Q} (start0 N ds) M
noncomputable def top(i:Nat):Stmt:=PySem.Challenge.pw_unjump_k57_rows_of_forms.main.body.getD i (.Pass ⟨0,0,0,0⟩)
noncomputable def FN:List Str:="line_of"::"told_within"::"lines_of"::"with_goal"::"begin_rows"::"begin_no"::"finish_rows"::"rows_of"::"_law_raw"::"_law_mix"::"_law_kept"::"_law_sign"::"_law_word"::"_law_names"::"_law_operand"::"_law_begins"::"_law_deed"::"_law_goes"::"_law_first"::"_law_close"::"_law_step"::"_law_lines"::"_law_nested"::"_law_marks"::"_law_next"::"_law_comes"::"_law_no"::"_law_alike"::"_law_depth"::"_law_wrapped"::"_law_row_come"::"_law_goal"::"_law_row"::"_law_shape"::"_law_deeds"::"_law_pairs"::"_law_same"::"law"::[]
noncomputable def GN:List Str:=["ELSE","DONE","OPENERS"]
noncomputable def BN:List Str:=["list","reversed","len","enumerate","range","int","min","zip","isinstance","tuple","str","bool","max"]
noncomputable abbrev Z93:Stmt:=top 5
noncomputable def Nq:List Str:=["statement"]
noncomputable def Ws:Ss:=
 (.cons (.ret (.var 0))
 .nil)
noncomputable def Ys:Ss:=
 (.cons (.ite (.cmp .isin (.ix (.var 0) (.int 0)) (.tup (.cons (.str "round") (.cons (.str "part") .nil)))) (.cons (.ret (.slW (.var 0) .no (.yes (.int 2))))
 .nil) .nil)
 Ws)
noncomputable def Jc:Ss:=
 (.cons (.ite (.cmp .eq (.ix (.var 0) (.int 0)) (.str "choice")) (.cons (.ret (.sl (.var 0) .no (.yes (.int 4))))
 .nil) .nil)
 Ys)
noncomputable abbrev O1:Stmt:=top 6
noncomputable def Y3:List Str:=["statement","yes","no"]
noncomputable def Xz:Ss:=
 (.cons (.ret (.bin .add (.bin .add (.bin .add (.var 1) (.lst (.cons (.glb 0) .nil))) (.var 2)) (.lst (.cons (.glb 1) .nil))))
 .nil)
noncomputable def Xx:Ss:=
 (.cons (.set [1,2] (.sl (.var 0) (.yes (.int 4)) .no))
 (.cons (.ite (.cmp .eq (.var 2) (.lst .nil)) (.cons (.ret (.bin .add (.var 1) (.lst (.cons (.glb 1) .nil))))
 .nil) .nil)
 Xz))
noncomputable def Yh:Ss:=
 (.cons (.ite (.cmp .ne (.ix (.var 0) (.int 0)) (.str "choice")) (.cons (.ret (.lst .nil))
 .nil) .nil)
 Xx)
noncomputable def Y1:Ss:=
 (.cons (.ite (.cmp .isin (.ix (.var 0) (.int 0)) (.tup (.cons (.str "round") (.cons (.str "part") .nil)))) (.cons (.ret (.bin .add (.ix (.var 0) (.int 2)) (.lst (.cons (.glb 1) .nil))))
 .nil) .nil)
 Yh)
noncomputable abbrev B2:Stmt:=top 4
noncomputable def Qg:List Str:=["form","told","left","statement"]
noncomputable def Tw:Ss:=
 (.cons (.ret (.var 1))
 .nil)
noncomputable def Tx:Ss:=
 (.cons (.set [3] (.mt .pop0 (.var 2) .nil))
 (.cons (.expr (.mt .append (.var 1) (.cons (.call 0 (.cons (.var 3) .nil)) .nil)))
 (.cons (.expr (.mt .extend (.var 2) (.cons (.lrev (.call 1 (.cons (.var 3) .nil))) .nil)))
 .nil)))
noncomputable def Qx:Ss:=
 (.cons (.set [1] (.lst .nil))
 (.cons (.set [2] (.lrev (.var 0)))
 (.cons (.while_ (.cmp .ne (.var 2) (.lst .nil)) Tx)
 Tw)))
noncomputable abbrev Jx:Stmt:=top 12
noncomputable def Sm:List Str:=["row","places"]
noncomputable def Xg:Ss:=
 (.cons (.ret (.var 0))
 .nil)
noncomputable def Rm:Ss:=
 (.cons (.ite (.cmp .isin (.ix (.var 0) (.int 0)) (.tup (.cons (.str "test") (.cons (.str "jump") .nil)))) (.cons (.ret (.bin .add (.sl (.var 0) .no (.yes (.neg (.int 1)))) (.tup (.cons (.ix (.var 1) (.ix (.var 0) (.neg (.int 1)))) .nil))))
 .nil) .nil)
 Xg)
noncomputable abbrev N5:Stmt:=top 9
noncomputable def Tn:List Str:=["line","told","places","number"]
noncomputable def Wh:Ss:=
 (.cons (.set [3] (.bf .len (.cons (.var 1) .nil)))
 (.cons (.expr (.mt .append (.var 1) (.cons (.bin .add (.bin .add (.tup (.cons (.str "test") .nil)) (.sl (.var 0) (.yes (.int 1)) .no)) (.tup (.cons (.tup (.cons (.str "yes") (.cons (.var 3) .nil))) .nil))) .nil)))
 (.cons (.expr (.mt .append (.var 1) (.cons (.tup (.cons (.str "jump") (.cons (.tup (.cons (.str "no") (.cons (.var 3) .nil))) .nil))) .nil)))
 (.cons (.put (.var 2) (.tup (.cons (.str "yes") (.cons (.var 3) .nil))) (.bf .len (.cons (.var 1) .nil)))
 (.cons (.ret (.tup (.cons (.str "choice") (.cons (.var 3) .nil))))
 .nil)))))
noncomputable def Tm:Ss:=
 (.cons (.ite (.cmp .ne (.ix (.var 0) (.int 0)) (.str "choice")) (.cons (.put (.var 2) (.tup (.cons (.str "again") (.cons (.ix (.var 0) (.int 1)) .nil))) (.bf .len (.cons (.var 1) .nil)))
 (.cons (.ret (.var 0))
 .nil)) .nil)
 Wh)
noncomputable abbrev C4:Stmt:=top 10
noncomputable def Qw:List Str:=["choice","told","places"]
noncomputable def Pf:Ss:=
 (.cons (.expr (.mt .append (.var 1) (.cons (.tup (.cons (.str "jump") (.cons (.tup (.cons (.str "behind") (.cons (.ix (.var 0) (.int 1)) .nil))) .nil))) .nil)))
 (.cons (.put (.var 2) (.tup (.cons (.str "no") (.cons (.ix (.var 0) (.int 1)) .nil))) (.bf .len (.cons (.var 1) .nil)))
 .nil))
noncomputable abbrev Os:Stmt:=top 11
noncomputable def V3:List Str:=["done","told","places","kind","number"]
noncomputable def Yg:Ss:=
 (.cons (.ite (.cmp .isin (.var 3) (.tup (.cons (.str "round") (.cons (.str "part") .nil)))) (.cons (.put (.var 2) (.tup (.cons (.str "leave") (.cons (.var 4) .nil))) (.bf .len (.cons (.var 1) .nil)))
 .nil) .nil)
 .nil)
noncomputable def Zy:Ss:=
 (.cons (.ite (.cmp .eq (.var 3) (.str "round")) (.cons (.expr (.mt .append (.var 1) (.cons (.tup (.cons (.str "jump") (.cons (.tup (.cons (.str "again") (.cons (.var 4) .nil))) .nil))) .nil)))
 .nil) .nil)
 Yg)
noncomputable def Wv:Ss:=
 (.cons (.set [3,4] (.var 0))
 (.cons (.ite (.cmp .eq (.var 3) (.str "choice")) (.cons (.expr (.mt .setd (.var 2) (.cons (.tup (.cons (.str "no") (.cons (.var 4) .nil))) (.cons (.bf .len (.cons (.var 1) .nil)) .nil))))
 (.cons (.put (.var 2) (.tup (.cons (.str "behind") (.cons (.var 4) .nil))) (.bf .len (.cons (.var 1) .nil)))
 .nil)) .nil)
 Zy))
noncomputable abbrev Z99:Stmt:=top 8
noncomputable def Ni:List Str:=["form","told","places","opened","line"]
noncomputable def Sd:Ss:=
 (.cons (.expr (.mt .append (.var 1) (.cons (.tup (.cons (.str "end") .nil)) .nil)))
 (.cons (.ret (.comp ["number","row","places"] [none,none,(some 2)] [0,1] (.enm (.var 1)) .no (.bin .add (.tup (.cons (.var 0) .nil)) (.call 3 (.cons (.var 1) (.cons (.var 2) .nil))))))
 .nil))
noncomputable def Wt:Ss:=
 (.cons (.ite (.cmp .isin (.ix (.var 4) (.int 0)) (.glb 2)) (.cons (.expr (.mt .append (.var 3) (.cons (.call 4 (.cons (.var 4) (.cons (.var 1) (.cons (.var 2) .nil)))) .nil)))
 .nil) (.cons (.ite (.cmp .eq (.var 4) (.glb 0)) (.cons (.expr (.call 5 (.cons (.ix (.var 3) (.neg (.int 1))) (.cons (.var 1) (.cons (.var 2) .nil)))))
 .nil) (.cons (.ite (.cmp .eq (.var 4) (.glb 1)) (.cons (.expr (.call 6 (.cons (.mt .pop0 (.var 3) .nil) (.cons (.var 1) (.cons (.var 2) .nil)))))
 .nil) (.cons (.ite (.cmp .isin (.ix (.var 4) (.int 0)) (.tup (.cons (.str "leave") (.cons (.str "again") .nil)))) (.cons (.expr (.mt .append (.var 1) (.cons (.tup (.cons (.str "jump") (.cons (.var 4) .nil))) .nil)))
 .nil) (.cons (.expr (.mt .append (.var 1) (.cons (.var 4) .nil)))
 .nil))
 .nil))
 .nil))
 .nil))
 .nil)
noncomputable def Nk:Ss:=
 (.cons (.set [1] (.lst .nil))
 (.cons (.set [2] .dictT)
 (.cons (.set [3] (.lst .nil))
 (.cons (.for_ [4] (.seq (.call 2 (.cons (.var 0) .nil))) Wt)
 Sd))))
noncomputable abbrev Y44:Stmt:=top 14
noncomputable def Zm6:List Str:=["_law_script","_law_k"]
noncomputable def Ek:Ss:=
 (.cons (.ret (.ix (.var 0) (.bin .mod (.var 1) (.bf .len (.cons (.var 0) .nil)))))
 .nil)
noncomputable def Zo7:Ss:=
 (.cons (.ite (.cmp .eq (.bf .len (.cons (.var 0) .nil)) (.int 0)) (.cons (.ret (.var 1))
 .nil) .nil)
 Ek)
noncomputable abbrev Y04:Stmt:=top 15
noncomputable def Zn6:List Str:=["_law_script","_law_k","_law_turn"]
noncomputable def E2:Ss:=
 (.cons (.set [2] (.bin .fdiv (.var 1) (.bf .len (.cons (.var 0) .nil))))
 (.cons (.ret (.bin .mod (.bin .mul (.bin .add (.bin .mod (.call 8 (.cons (.var 0) (.cons (.var 1) .nil))) (.int 2147483629)) (.int 2)) (.bin .add (.int 48271) (.bin .mul (.bin .mul (.int 7) (.var 2)) (.var 2)))) (.int 2147483647)))
 .nil))
noncomputable def Zl8:Ss:=
 (.cons (.ite (.cmp .eq (.bf .len (.cons (.var 0) .nil)) (.int 0)) (.cons (.ret (.bin .mod (.bin .mul (.bin .add (.bin .mul (.var 1) (.var 1)) (.int 3)) (.int 48271)) (.int 2147483647)))
 .nil) .nil)
 E2)
noncomputable abbrev Zy9:Stmt:=top 16
noncomputable def Z53:List Str:=[]
noncomputable def Z67:Ss:=
 (.cons (.ret (.lst (.cons (.str "if") (.cons (.str "jump") (.cons (.str "end") (.cons (.str "rest") (.cons (.str "round") (.cons (.str "part") (.cons (.str "leave") (.cons (.str "again") (.cons (.str "else") (.cons (.str "done") .nil))))))))))))
 .nil)
noncomputable abbrev Zv2:Stmt:=top 17
noncomputable def Z01:List Str:=["_law_number","_law_first_here"]
noncomputable def J6:Ss:=
 (.cons (.ret (.ix (.str "abcdefghijklmnopqrstuvwxyz0123456789") (.bin .mod (.var 0) (.int 36))))
 .nil)
noncomputable def Za0:Ss:=
 (.cons (.ite (.var 1) (.cons (.ret (.ix (.str "abcdefghijklmnopqrstuvwxyz") (.bin .mod (.var 0) (.int 26))))
 .nil) .nil)
 J6)
noncomputable abbrev Zs5:Stmt:=top 18
noncomputable def Z87:List Str:=["_law_number","_law_size","_law_word_here","_law_k"]
noncomputable def J9:Ss:=
 (.cons (.ret (.var 2))
 .nil)
noncomputable def Jq:Ss:=
 (.cons (.set [0] (.bin .mod (.bin .mul (.bin .add (.var 0) (.int 2)) (.int 69621)) (.int 2147483629)))
 (.cons (.set [2] (.bin .add (.var 2) (.call 11 (.cons (.bin .fdiv (.var 0) (.int 64)) (.cons (.cmp .eq (.var 3) (.int 0)) .nil)))))
 .nil))
noncomputable def Zb7:Ss:=
 (.cons (.set [2] (.str ""))
 (.cons (.for_ [3] (.rng1 (.var 1)) Jq)
 J9))
noncomputable abbrev Zh5:Stmt:=top 19
noncomputable def Fh:List Str:=["_law_script","_law_first_here","_law_stem","_law_at","_law_names_here","_law_k","_law_number","_law_word_here"]
noncomputable def Qp:Ss:=
 (.cons (.ret (.var 4))
 .nil)
noncomputable def Td:Ss:=
 (.cons (.expr (.mt .append (.var 4) (.cons (.var 7) .nil)))
 .nil)
noncomputable def Tb:Ss:=
 (.cons (.ite (.cmp .isin (.var 7) (.call 10 .nil)) (.cons (.set [7] (.bin .add (.str "q") (.sl (.var 7) (.yes (.int 1)) .no)))
 .nil) .nil)
 Td)
noncomputable def Vx:Ss:=
 (.cons (.ite (.bop true (.cons (.cmp .eq (.var 5) (.int 4)) (.cons (.cmp .eq (.bin .mod (.var 6) (.int 4)) (.int 1)) .nil))) (.cons (.set [7] (.bin .add (.ix (.call 10 .nil) (.bin .mod (.bin .fdiv (.var 6) (.int 4)) (.int 10))) (.call 11 (.cons (.bin .fdiv (.var 6) (.int 64)) (.cons (.bl false) .nil)))))
 .nil) .nil)
 Tb)
noncomputable def Qo:Ss:=
 (.cons (.set [6] (.call 9 (.cons (.var 0) (.cons (.bin .add (.int 902) (.var 5)) .nil))))
 (.cons (.set [7] (.bin .add (.bin .add (.sl (.var 2) .no (.yes (.var 3))) (.call 11 (.cons (.bin .add (.bin .fdiv (.var 1) (.int 512)) (.bin .mul (.int 7) (.var 5))) (.cons (.cmp .eq (.var 3) (.int 0)) .nil)))) (.sl (.var 2) (.yes (.bin .add (.var 3) (.int 1))) .no)))
 (.cons (.ite (.cmp .eq (.bin .mod (.var 1) (.int 2)) (.int 0)) (.cons (.set [7] (.call 12 (.cons (.var 6) (.cons (.bin .add (.int 1) (.bin .mod (.bin .fdiv (.var 6) (.int 8)) (.int 8))) .nil))))
 .nil) .nil)
 Vx)))
noncomputable def Ec:Ss:=
 (.cons (.set [1] (.call 9 (.cons (.var 0) (.cons (.int 901) .nil))))
 (.cons (.set [2] (.call 12 (.cons (.var 1) (.cons (.bin .add (.int 1) (.bin .mod (.bin .fdiv (.var 1) (.int 8)) (.int 8))) .nil))))
 (.cons (.set [3] (.bin .mod (.bin .fdiv (.var 1) (.int 64)) (.bf .len (.cons (.var 2) .nil))))
 (.cons (.set [4] (.lst .nil))
 (.cons (.for_ [5] (.rng1 (.int 5)) Qo)
 Qp)))))
noncomputable abbrev Ct:Stmt:=top 20
noncomputable def Pt:List Str:=["_law_script","_law_k","_law_names_here","_law_number","_law_big"]
noncomputable def S0:Ss:=
 (.cons (.ret (.var 4))
 .nil)
noncomputable def W3:Ss:=
 (.cons (.ite (.cmp .eq (.bin .mod (.bin .fdiv (.var 3) (.int 12)) (.int 2)) (.int 0)) (.cons (.ret (.bin .sub (.int 0) (.var 4)))
 .nil) .nil)
 S0)
noncomputable def Tv:Ss:=
 (.cons (.set [4] (.bin .mod (.bin .mul (.bin .mod (.call 8 (.cons (.var 0) (.cons (.var 1) .nil))) (.bin .pow (.int 10) (.int 18))) (.bin .add (.int 1) (.bin .mod (.bin .fdiv (.var 3) (.int 24)) (.int 1000)))) (.bin .pow (.int 10) (.int 18))))
 (.cons (.ite (.cmp .eq (.bin .mod (.bin .fdiv (.var 3) (.int 3)) (.int 4)) (.int 0)) (.cons (.set [4] (.bin .sub (.bin .sub (.bin .pow (.int 10) (.int 18)) (.int 1)) (.bin .mod (.bin .fdiv (.var 3) (.int 24)) (.int 3))))
 .nil) .nil)
 W3))
noncomputable def Tj:Ss:=
 (.cons (.ite (.cmp .eq (.bin .mod (.var 3) (.int 3)) (.int 1)) (.cons (.ret (.bin .sub (.bin .mod (.bin .fdiv (.var 3) (.int 3)) (.int 41)) (.int 20)))
 .nil) .nil)
 Tv)
noncomputable def Qi:Ss:=
 (.cons (.ite (.cmp .eq (.bin .mod (.var 3) (.int 3)) (.int 0)) (.cons (.ret (.ix (.var 2) (.bin .mod (.bin .fdiv (.var 3) (.int 3)) (.int 5))))
 .nil) .nil)
 Tj)
noncomputable abbrev Zb5:Stmt:=top 21
noncomputable def Ja:List Str:=["_law_line"]
noncomputable def Na:Ss:=
 (.cons (.ret (.bop false (.cons (.cmp .eq (.ix (.var 0) (.int 0)) (.str "if")) (.cons (.cmp .eq (.ix (.var 0) (.int 0)) (.str "round")) (.cons (.cmp .eq (.ix (.var 0) (.int 0)) (.str "part")) .nil)))))
 .nil)
noncomputable abbrev Zr8:Stmt:=top 22
noncomputable def Z66:List Str:=["_law_script","_law_k","_law_names_here","_law_number","_law_one","_law_other","_law_sign_here","_law_goes_here"]
noncomputable def Nn:Ss:=
 (.cons (.set [6] (.ix (.lst (.cons (.str "+") (.cons (.str "-") (.cons (.str "/") (.cons (.str "rest") (.cons (.str "&") (.cons (.str "^") .nil))))))) (.bin .mod (.bin .fdiv (.var 3) (.int 24)) (.int 6))))
 (.cons (.set [7] (.ix (.var 2) (.bin .mod (.bin .fdiv (.var 3) (.int 144)) (.int 5))))
 (.cons (.ret (.tup (.cons (.str "sum") (.cons (.var 7) (.cons (.var 4) (.cons (.var 6) (.cons (.var 5) .nil)))))))
 .nil)))
noncomputable def Z30:Ss:=
 (.cons (.set [4] (.call 14 (.cons (.var 0) (.cons (.var 1) (.cons (.var 2) (.cons (.bin .fdiv (.bin .mod (.bin .mul (.var 3) (.int 16807)) (.int 2147483563)) (.int 8)) .nil))))))
 (.cons (.set [5] (.call 14 (.cons (.var 0) (.cons (.bin .add (.var 1) (.int 1)) (.cons (.var 2) (.cons (.bin .fdiv (.bin .mod (.bin .mul (.var 3) (.int 39373)) (.int 2147483543)) (.int 8)) .nil))))))
 (.cons (.ite (.cmp .lt (.bin .mod (.var 3) (.int 24)) (.int 4)) (.cons (.set [6] (.ix (.lst (.cons (.str "<") (.cons (.str "=") .nil))) (.bin .mod (.bin .fdiv (.var 3) (.int 24)) (.int 2))))
 (.cons (.ret (.tup (.cons (.str "if") (.cons (.var 4) (.cons (.var 6) (.cons (.var 5) .nil))))))
 .nil)) .nil)
 Nn)))
noncomputable abbrev Zz3:Stmt:=top 23
noncomputable def Za2:List Str:=["_law_stack","_law_number","_law_homes","_law_rounds"]
noncomputable def Nv:Ss:=
 (.cons (.ret (.tup (.cons (.str "leave") (.cons (.ix (.var 2) (.bin .mod (.bin .fdiv (.var 1) (.int 24)) (.bf .len (.cons (.var 2) .nil)))) .nil))))
 .nil)
noncomputable def Rq:Ss:=
 (.cons (.ite (.cmp .eq (.var 2) (.lst .nil)) (.cons (.ret .non)
 .nil) .nil)
 Nv)
noncomputable def Z65:Ss:=
 (.cons (.set [2] (.comp ["_law_one"] [none] [0] (.seq (.var 0)) (.yes (.cmp .ge (.ix (.var 0) (.int 1)) (.int 0))) (.ix (.var 0) (.int 1))))
 (.cons (.set [3] (.comp ["_law_one"] [none] [0] (.seq (.var 0)) (.yes (.cmp .eq (.ix (.var 0) (.int 0)) (.str "round"))) (.ix (.var 0) (.int 1))))
 (.cons (.ite (.bop true (.cons (.cmp .eq (.bin .mod (.var 1) (.int 24)) (.int 16)) (.cons (.cmp .ne (.var 3) (.lst .nil)) .nil))) (.cons (.ret (.tup (.cons (.str "again") (.cons (.ix (.var 3) (.bin .mod (.bin .fdiv (.var 1) (.int 24)) (.bf .len (.cons (.var 3) .nil)))) .nil))))
 .nil) .nil)
 Rq)))
noncomputable abbrev Zj7:Stmt:=top 24
noncomputable def F4:List Str:=["_law_script","_law_number"]
noncomputable def Fx:Ss:=
 (.cons (.set [1] (.call 9 (.cons (.var 0) (.cons (.int 911) .nil))))
 (.cons (.ret (.ix (.lst (.cons (.bin .mod (.bin .fdiv (.var 1) (.int 8)) (.int 10000)) (.cons (.int 0) (.cons (.int 9999) .nil)))) (.bin .mod (.var 1) (.int 3))))
 .nil))
noncomputable abbrev Ze6:Stmt:=top 25
noncomputable def Fb:List Str:=["_law_stack","_law_number","_law_top"]
noncomputable def Vy:Ss:=
 (.cons (.ret (.tup (.cons (.str "done") .nil)))
 .nil)
noncomputable def Ey:Ss:=
 (.cons (.set [2] (.mt .pop0 (.var 0) .nil))
 (.cons (.ite (.bop true (.cons (.cmp .eq (.ix (.var 2) (.int 0)) (.str "if")) (.cons (.cmp .gt (.bin .mod (.bin .fdiv (.var 1) (.int 24)) (.int 3)) (.int 0)) .nil))) (.cons (.expr (.mt .append (.var 0) (.cons (.tup (.cons (.str "else") (.cons (.neg (.int 1)) .nil))) .nil)))
 (.cons (.ret (.tup (.cons (.str "else") .nil)))
 .nil)) .nil)
 Vy))
noncomputable abbrev Zw2:Stmt:=top 26
noncomputable def Bl:List Str:=["_law_script","_law_k","_law_names_here","_law_stack","_law_number","_law_way","_law_line"]
noncomputable def Xw:Ss:=
 (.cons (.ret (.var 6))
 .nil)
noncomputable def Rf:Ss:=
 (.cons (.ite (.call 15 (.cons (.var 6) .nil)) (.cons (.expr (.mt .append (.var 3) (.cons (.tup (.cons (.ix (.var 6) (.int 0)) (.cons (.ix (.lst (.cons (.ix (.var 6) (.int 1)) (.cons (.neg (.int 1)) .nil))) (.bf .int1 (.cons (.cmp .eq (.ix (.var 6) (.int 0)) (.str "if")) .nil))) .nil))) .nil)))
 .nil) .nil)
 Xw)
noncomputable def V7:Ss:=
 (.cons (.ite (.cmp .is (.var 6) .non) (.cons (.set [6] (.call 16 (.cons (.var 0) (.cons (.var 1) (.cons (.var 2) (.cons (.bin .add (.bin .mul (.bin .fdiv (.var 4) (.int 24)) (.int 24)) (.int 18)) .nil))))))
 .nil) .nil)
 Rf)
noncomputable def W0:Ss:=
 (.cons (.ite (.bop true (.cons (.cmp .eq (.var 5) (.int 17)) (.cons (.cmp .ne (.var 3) (.lst .nil)) (.cons (.cmp .isin (.ix (.ix (.var 3) (.neg (.int 1))) (.int 0)) (.lst (.cons (.str "if") (.cons (.str "else") .nil)))) .nil)))) (.cons (.set [6] (.tup (.cons (.str "end") .nil)))
 .nil) .nil)
 V7)
noncomputable def W1:Ss:=
 (.cons (.ite (.bop true (.cons (.cmp .gt (.var 5) (.int 13)) (.cons (.cmp .lt (.var 5) (.int 17)) .nil))) (.cons (.set [6] (.call 17 (.cons (.var 3) (.cons (.var 4) .nil))))
 .nil) .nil)
 W0)
noncomputable def Xr:Ss:=
 (.cons (.ite (.bop true (.cons (.cmp .gt (.var 5) (.int 8)) (.cons (.cmp .lt (.var 5) (.int 14)) (.cons (.cmp .ne (.var 3) (.lst .nil)) .nil)))) (.cons (.ret (.call 19 (.cons (.var 3) (.cons (.var 4) .nil))))
 .nil) .nil)
 W1)
noncomputable def Vb:Ss:=
 (.cons (.ite (.bop true (.cons (.cmp .gt (.var 5) (.int 3)) (.cons (.cmp .lt (.var 5) (.int 9)) (.cons (.cmp .lt (.bf .len (.cons (.var 3) .nil)) (.int 60)) .nil)))) (.cons (.set [6] (.tup (.cons (.ix (.lst (.cons (.str "round") (.cons (.str "part") .nil))) (.bf .int1 (.cons (.cmp .gt (.var 5) (.int 6)) .nil))) (.cons (.bin .mod (.bin .add (.call 18 (.cons (.var 0) .nil)) (.bin .mul (.int 97) (.var 1))) (.int 10000)) .nil))))
 .nil) .nil)
 Xr)
noncomputable def Z16:Ss:=
 (.cons (.set [4] (.call 9 (.cons (.var 0) (.cons (.var 1) .nil))))
 (.cons (.set [5] (.bin .mod (.var 4) (.int 24)))
 (.cons (.set [6] .non)
 (.cons (.ite (.bop true (.cons (.cmp .lt (.var 5) (.int 4)) (.cons (.cmp .lt (.bf .len (.cons (.var 3) .nil)) (.int 60)) .nil))) (.cons (.set [6] (.call 16 (.cons (.var 0) (.cons (.var 1) (.cons (.var 2) (.cons (.var 4) .nil))))))
 .nil) .nil)
 Vb))))
noncomputable abbrev Zf8:Stmt:=top 27
noncomputable def Eu:List Str:=["_law_script","_law_many","_law_names_here","_law_lines_here","_law_stack","_law_k"]
noncomputable def Qr:Ss:=
 (.cons (.ret (.var 3))
 .nil)
noncomputable def Ql:Ss:=
 (.cons (.expr (.mt .pop0 (.var 4) .nil))
 (.cons (.expr (.mt .append (.var 3) (.cons (.tup (.cons (.str "done") .nil)) .nil)))
 .nil))
noncomputable def Qs:Ss:=
 (.cons (.while_ (.cmp .ne (.var 4) (.lst .nil)) Ql)
 Qr)
noncomputable def Ps:Ss:=
 (.cons (.expr (.mt .append (.var 3) (.cons (.call 20 (.cons (.var 0) (.cons (.var 5) (.cons (.var 2) (.cons (.var 4) .nil))))) .nil)))
 .nil)
noncomputable def Ei:Ss:=
 (.cons (.set [2] (.call 13 (.cons (.var 0) .nil)))
 (.cons (.set [3] (.lst .nil))
 (.cons (.set [4] (.lst .nil))
 (.cons (.for_ [5] (.rng1 (.var 1)) Ps)
 Qs))))
noncomputable abbrev Z54:Stmt:=top 28
noncomputable def Nf:List Str:=["_law_lines_here","_law_opened","_law_line","_law_head","_law_yes","_law_now"]
noncomputable def Ru:Ss:=
 (.cons (.ret (.ix (.ix (.var 1) (.int 0)) (.int 2)))
 .nil)
noncomputable def R8:Ss:=
 (.cons (.ite (.call 15 (.cons (.var 2) .nil)) (.cons (.expr (.mt .append (.var 1) (.cons (.lst (.cons (.var 2) (.cons .non (.cons (.lst .nil) .nil)))) .nil)))
 .nil) (.cons (.ite (.cmp .eq (.ix (.var 2) (.int 0)) (.str "else")) (.cons (.put (.ix (.var 1) (.neg (.int 1))) (.int 1) (.ix (.ix (.var 1) (.neg (.int 1))) (.int 2)))
 (.cons (.put (.ix (.var 1) (.neg (.int 1))) (.int 2) (.lst .nil))
 .nil)) (.cons (.ite (.cmp .eq (.ix (.var 2) (.int 0)) (.str "done")) (.cons (.setL [3,4,5] (.mt .pop0 (.var 1) .nil))
 (.cons (.ite (.cmp .ne (.ix (.var 3) (.int 0)) (.str "if")) (.cons (.expr (.mt .append (.ix (.ix (.var 1) (.neg (.int 1))) (.int 2)) (.cons (.bin .add (.var 3) (.tup (.cons (.var 5) .nil))) .nil)))
 .nil) (.cons (.ite (.cmp .is (.var 4) .non) (.cons (.expr (.mt .append (.ix (.ix (.var 1) (.neg (.int 1))) (.int 2)) (.cons (.bin .add (.bin .add (.tup (.cons (.str "choice") .nil)) (.sl (.var 3) (.yes (.int 1)) .no)) (.tup (.cons (.var 5) (.cons (.lst .nil) .nil)))) .nil)))
 .nil) (.cons (.expr (.mt .append (.ix (.ix (.var 1) (.neg (.int 1))) (.int 2)) (.cons (.bin .add (.bin .add (.tup (.cons (.str "choice") .nil)) (.sl (.var 3) (.yes (.int 1)) .no)) (.tup (.cons (.var 4) (.cons (.var 5) .nil)))) .nil)))
 .nil))
 .nil))
 .nil)) (.cons (.expr (.mt .append (.ix (.ix (.var 1) (.neg (.int 1))) (.int 2)) (.cons (.var 2) .nil)))
 .nil))
 .nil))
 .nil))
 .nil)
noncomputable def Jo:Ss:=
 (.cons (.set [1] (.lst (.cons (.lst (.cons (.tup (.cons (.str "form") .nil)) (.cons .non (.cons (.lst .nil) .nil)))) .nil)))
 (.cons (.for_ [2] (.seq (.var 0)) R8)
 Ru))
noncomputable abbrev Zg2:Stmt:=top 29
noncomputable def F9:List Str:=["_law_lines_here","_law_marks_here","_law_stack","_law_k","_law_line"]
noncomputable def Qt:Ss:=
 (.cons (.ret (.var 1))
 .nil)
noncomputable def We:Ss:=
 (.cons (.ite (.cmp .eq (.ix (.var 4) (.int 0)) (.str "done")) (.cons (.put (.var 1) (.tup (.cons (.str "from") (.cons (.var 3) .nil))) (.ix (.var 2) (.neg (.int 1))))
 (.cons (.put (.var 1) (.tup (.cons (.str "done") (.cons (.mt .pop0 (.var 2) .nil) .nil))) (.var 3))
 .nil)) .nil)
 .nil)
noncomputable def Yz:Ss:=
 (.cons (.ite (.cmp .eq (.ix (.var 4) (.int 0)) (.str "else")) (.cons (.put (.var 1) (.tup (.cons (.str "else") (.cons (.ix (.var 2) (.neg (.int 1))) .nil))) (.var 3))
 (.cons (.put (.var 1) (.tup (.cons (.str "from") (.cons (.var 3) .nil))) (.ix (.var 2) (.neg (.int 1))))
 .nil)) .nil)
 We)
noncomputable def Qm:Ss:=
 (.cons (.set [4] (.ix (.var 0) (.var 3)))
 (.cons (.ite (.call 15 (.cons (.var 4) .nil)) (.cons (.expr (.mt .append (.var 2) (.cons (.var 3) .nil)))
 (.cons (.ite (.cmp .ne (.ix (.var 4) (.int 0)) (.str "if")) (.cons (.put (.var 1) (.tup (.cons (.str "home") (.cons (.ix (.var 4) (.int 1)) .nil))) (.var 3))
 .nil) .nil)
 .nil)) .nil)
 Yz))
noncomputable def Fj:Ss:=
 (.cons (.set [1] .dictT)
 (.cons (.set [2] (.lst .nil))
 (.cons (.for_ [3] (.rng1 (.bf .len (.cons (.var 0) .nil))) Qm)
 Qt)))
noncomputable abbrev Zy4:Stmt:=top 30
noncomputable def Z05:List Str:=["_law_lines_here","_law_marks_here","_law_at","_law_line"]
noncomputable def V4:Ss:=
 (.cons (.ret (.bin .add (.var 2) (.int 1)))
 .nil)
noncomputable def Xs:Ss:=
 (.cons (.ite (.cmp .eq (.ix (.var 3) (.int 0)) (.str "again")) (.cons (.ret (.bin .add (.ix (.var 1) (.tup (.cons (.str "home") (.cons (.ix (.var 3) (.int 1)) .nil)))) (.int 1)))
 .nil) .nil)
 V4)
noncomputable def X0:Ss:=
 (.cons (.ite (.cmp .eq (.ix (.var 3) (.int 0)) (.str "leave")) (.cons (.ret (.bin .add (.ix (.var 1) (.tup (.cons (.str "done") (.cons (.ix (.var 1) (.tup (.cons (.str "home") (.cons (.ix (.var 3) (.int 1)) .nil)))) .nil)))) (.int 1)))
 .nil) .nil)
 Xs)
noncomputable def X3:Ss:=
 (.cons (.ite (.bop true (.cons (.cmp .eq (.ix (.var 3) (.int 0)) (.str "done")) (.cons (.cmp .eq (.ix (.ix (.var 0) (.ix (.var 1) (.tup (.cons (.str "from") (.cons (.var 2) .nil))))) (.int 0)) (.str "round")) .nil))) (.cons (.ret (.bin .add (.ix (.var 1) (.tup (.cons (.str "from") (.cons (.var 2) .nil)))) (.int 1)))
 .nil) .nil)
 X0)
noncomputable def Z22:Ss:=
 (.cons (.set [3] (.ix (.var 0) (.var 2)))
 (.cons (.ite (.cmp .eq (.ix (.var 3) (.int 0)) (.str "else")) (.cons (.ret (.bin .add (.ix (.var 1) (.tup (.cons (.str "done") (.cons (.ix (.var 1) (.tup (.cons (.str "from") (.cons (.var 2) .nil)))) .nil)))) (.int 1)))
 .nil) .nil)
 X3))
noncomputable abbrev Zd1:Stmt:=top 31
noncomputable def E8:List Str:=["_law_lines_here","_law_marks_here","_law_at","_law_turn","_law_least","_law_here"]
noncomputable def Pg:Ss:=
 (.cons (.ret (.bin .sub (.neg (.int 1)) (.var 4)))
 .nil)
noncomputable def Qd:Ss:=
 (.cons (.set [4] (.bf .min2 (.cons (.var 4) (.cons (.var 5) .nil))))
 (.cons (.set [5] (.call 24 (.cons (.var 0) (.cons (.var 1) (.cons (.var 5) .nil)))))
 .nil))
noncomputable def Qf:Ss:=
 (.cons (.set [4] (.var 2))
 (.cons (.set [5] (.call 24 (.cons (.var 0) (.cons (.var 1) (.cons (.var 2) .nil)))))
 (.cons (.while_ (.cmp .ne (.var 5) (.var 2)) Qd)
 Pg)))
noncomputable def Ph:Ss:=
 (.cons (.set [2] (.call 24 (.cons (.var 0) (.cons (.var 1) (.cons (.var 2) .nil)))))
 .nil)
noncomputable def Pe:Ss:=
 (.cons (.ite (.bop false (.cons (.cmp .eq (.var 2) (.bf .len (.cons (.var 0) .nil))) (.cons (.cmp .isin (.ix (.ix (.var 0) (.var 2)) (.int 0)) (.lst (.cons (.str "sum") (.cons (.str "if") (.cons (.str "end") .nil))))) .nil))) (.cons (.ret (.var 2))
 .nil) .nil)
 Ph)
noncomputable def Eh:Ss:=
 (.cons (.for_ [3] (.rng1 (.bin .add (.bf .len (.cons (.var 0) .nil)) (.int 1))) Pe)
 Qf)
noncomputable abbrev Yc6:Stmt:=top 32
noncomputable def Y81:List Str:=["_law_lines_here","_law_marks_here","_law_at"]
noncomputable def Z21:Ss:=
 (.cons (.ret (.bin .add (.ix (.var 1) (.tup (.cons (.str "done") (.cons (.var 2) .nil)))) (.int 1)))
 .nil)
noncomputable def Y38:Ss:=
 (.cons (.ite (.cmp .isin (.tup (.cons (.str "else") (.cons (.var 2) .nil))) (.var 1)) (.cons (.ret (.bin .add (.ix (.var 1) (.tup (.cons (.str "else") (.cons (.var 2) .nil)))) (.int 1)))
 .nil) .nil)
 Z21)
noncomputable abbrev Zh1:Stmt:=top 33
noncomputable def W8:List Str:=["_law_found","_law_due","_law_one","_law_other"]
noncomputable def Qj:Ss:=
 (.cons (.ret (.bl true))
 .nil)
noncomputable def Qu:Ss:=
 (.cons (.ite (.not (.call 27 (.cons (.var 2) (.cons (.var 3) .nil)))) (.cons (.ret (.bl false))
 .nil) .nil)
 .nil)
noncomputable def Qe:Ss:=
 (.cons (.for_ [2,3] (.zip (.cons (.var 0) (.cons (.var 1) .nil))) Qu)
 Qj)
noncomputable def Vs:Ss:=
 (.cons (.ite (.cmp .ne (.bf .len (.cons (.var 0) .nil)) (.bf .len (.cons (.var 1) .nil))) (.cons (.ret (.bl false))
 .nil) .nil)
 Qe)
noncomputable def Vp:Ss:=
 (.cons (.ite (.bop true (.cons (.bf .isinst (.cons (.var 1) (.cons (.ty .tuple) .nil))) (.cons (.not (.bf .isinst (.cons (.var 0) (.cons (.ty .tuple) .nil)))) .nil))) (.cons (.ret (.bl false))
 .nil) .nil)
 Vs)
noncomputable def Tg:Ss:=
 (.cons (.ite (.bop true (.cons (.bf .isinst (.cons (.var 1) (.cons (.ty .list) .nil))) (.cons (.not (.bf .isinst (.cons (.var 0) (.cons (.ty .list) .nil)))) .nil))) (.cons (.ret (.bl false))
 .nil) .nil)
 Vp)
noncomputable def Wa:Ss:=
 (.cons (.ite (.bf .isinst (.cons (.var 1) (.cons (.ty .str) .nil))) (.cons (.ret (.bop true (.cons (.bf .isinst (.cons (.var 0) (.cons (.ty .str) .nil))) (.cons (.cmp .eq (.var 0) (.var 1)) .nil))))
 .nil) .nil)
 Tg)
noncomputable def X1:Ss:=
 (.cons (.ite (.bf .isinst (.cons (.var 1) (.cons (.ty .int) .nil))) (.cons (.ret (.bop true (.cons (.bf .isinst (.cons (.var 0) (.cons (.ty .int) .nil))) (.cons (.not (.bf .isinst (.cons (.var 0) (.cons (.ty .bool) .nil)))) (.cons (.cmp .eq (.var 0) (.var 1)) .nil)))))
 .nil) .nil)
 Wa)
noncomputable def Wd:Ss:=
 (.cons (.ite (.bf .isinst (.cons (.var 1) (.cons (.ty .bool) .nil))) (.cons (.ret (.bop true (.cons (.bf .isinst (.cons (.var 0) (.cons (.ty .bool) .nil))) (.cons (.cmp .eq (.var 0) (.var 1)) .nil))))
 .nil) .nil)
 X1)
noncomputable abbrev Zf4:Stmt:=top 34
noncomputable def Fe:List Str:=["_law_lines_here","_law_now","_law_most","_law_line"]
noncomputable def Pp:Ss:=
 (.cons (.ret (.var 2))
 .nil)
noncomputable def Pl:Ss:=
 (.cons (.set [1] (.bin .sub (.bin .add (.var 1) (.bf .int1 (.cons (.call 15 (.cons (.var 3) .nil)) .nil))) (.bf .int1 (.cons (.cmp .eq (.ix (.var 3) (.int 0)) (.str "done")) .nil))))
 (.cons (.set [2] (.bf .max2 (.cons (.var 2) (.cons (.var 1) .nil))))
 .nil))
noncomputable def F0:Ss:=
 (.cons (.set [1] (.int 1))
 (.cons (.set [2] (.int 1))
 (.cons (.for_ [3] (.seq (.var 0)) Pl)
 Pp)))
noncomputable abbrev Cw:Stmt:=top 35
noncomputable def Pm:List Str:=["_law_lines_here","_law_number","_law_many","_law_used","_law_free","_law_k","_law_word_here","_law_head"]
noncomputable def Tz:Ss:=
 (.cons (.ret (.var 0))
 .nil)
noncomputable def W2:Ss:=
 (.cons (.set [0] (.bin .add (.bin .add (.lst (.cons (.var 7) .nil)) (.var 0)) (.lst (.cons (.tup (.cons (.str "done") .nil)) .nil))))
 .nil)
noncomputable def Tk:Ss:=
 (.cons (.set [6] (.ix (.lst (.cons (.str "part") (.cons (.str "if") (.cons (.str "round") .nil)))) (.bin .mod (.bin .fdiv (.var 1) (.bin .add (.int 1) (.bin .mul (.var 5) (.var 5)))) (.int 3))))
 (.cons (.set [7] (.tup (.cons (.var 6) (.cons (.ix (.var 4) (.var 5)) .nil))))
 (.cons (.ite (.cmp .eq (.var 6) (.str "if")) (.cons (.set [7] (.tup (.cons (.str "if") (.cons (.var 5) (.cons (.str "=") (.cons (.str "x") .nil))))))
 .nil) .nil)
 W2)))
noncomputable def Qk:Ss:=
 (.cons (.set [3] (.comp ["_law_line"] [none] [0] (.seq (.var 0)) (.yes (.bop false (.cons (.cmp .eq (.ix (.var 0) (.int 0)) (.str "round")) (.cons (.cmp .eq (.ix (.var 0) (.int 0)) (.str "part")) .nil)))) (.ix (.var 0) (.int 1))))
 (.cons (.set [4] (.comp ["_law_k","_law_used"] [none,(some 3)] [0] (.rng1 (.bin .add (.bin .add (.int 100) (.var 2)) (.bf .len (.cons (.var 3) .nil)))) (.yes (.cmp .notin (.var 0) (.var 1))) (.var 0)))
 (.cons (.for_ [5] (.rng1 (.var 2)) Tk)
 Tz)))
noncomputable abbrev Gf:Stmt:=top 36
noncomputable def Si:List Str:=["_law_rows","_law_at","_law_turn","_law_least","_law_here"]
noncomputable def Vf:Ss:=
 (.cons (.ret (.bin .sub (.neg (.int 1)) (.var 3)))
 .nil)
noncomputable def V2:Ss:=
 (.cons (.set [3] (.bf .min2 (.cons (.var 3) (.cons (.var 4) .nil))))
 (.cons (.set [4] (.ix (.ix (.var 0) (.var 4)) (.int 2)))
 .nil))
noncomputable def Ve:Ss:=
 (.cons (.set [3] (.var 1))
 (.cons (.set [4] (.ix (.ix (.var 0) (.var 1)) (.int 2)))
 (.cons (.while_ (.cmp .ne (.var 4) (.var 1)) V2)
 Vf)))
noncomputable def V6:Ss:=
 (.cons (.set [1] (.ix (.ix (.var 0) (.var 1)) (.int 2)))
 .nil)
noncomputable def Wu:Ss:=
 (.cons (.ite (.cmp .ne (.ix (.ix (.var 0) (.var 1)) (.int 1)) (.str "jump")) (.cons (.ret (.var 1))
 .nil) .nil)
 V6)
noncomputable def Se:Ss:=
 (.cons (.for_ [2] (.rng1 (.bin .add (.bf .len (.cons (.var 0) .nil)) (.int 1))) Wu)
 Ve)
noncomputable abbrev Zu0:Stmt:=top 37
noncomputable def Z85:List Str:=["_law_found","_law_rows"]
noncomputable def Z92:Ss:=
 (.cons (.ret (.bop true (.cons (.bf .isinst (.cons (.var 0) (.cons (.ty .int) .nil))) (.cons (.not (.bf .isinst (.cons (.var 0) (.cons (.ty .bool) .nil)))) (.cons (.cmp .le (.int 0) (.var 0)) (.cons (.cmp .lt (.var 0) (.bf .len (.cons (.var 1) .nil))) .nil))))))
 .nil)
noncomputable abbrev Y56:Stmt:=top 38
noncomputable def Zn0:List Str:=["_law_row_here","_law_at","_law_rows"]
noncomputable def Gz:Ss:=
 (.cons (.ret (.bop true (.cons (.cmp .eq (.ix (.var 0) (.int 1)) (.str "end")) (.cons (.cmp .eq (.bf .len (.cons (.var 0) .nil)) (.int 2)) .nil))))
 .nil)
noncomputable def Oa:Ss:=
 (.cons (.ite (.cmp .eq (.ix (.var 0) (.int 1)) (.str "jump")) (.cons (.ret (.bop true (.cons (.cmp .eq (.bf .len (.cons (.var 0) .nil)) (.int 3)) (.cons (.call 31 (.cons (.ix (.var 0) (.int 2)) (.cons (.var 2) .nil))) .nil))))
 .nil) .nil)
 Gz)
noncomputable def S7:Ss:=
 (.cons (.ite (.cmp .eq (.ix (.var 0) (.int 1)) (.str "test")) (.cons (.ret (.bop true (.cons (.cmp .eq (.bf .len (.cons (.var 0) .nil)) (.int 6)) (.cons (.call 31 (.cons (.ix (.var 0) (.int 5)) (.cons (.var 2) .nil))) .nil))))
 .nil) .nil)
 Oa)
noncomputable def Vh:Ss:=
 (.cons (.ite (.cmp .eq (.ix (.var 0) (.int 1)) (.str "sum")) (.cons (.ret (.cmp .eq (.bf .len (.cons (.var 0) .nil)) (.int 6)))
 .nil) .nil)
 S7)
noncomputable def Zn2:Ss:=
 (.cons (.ite (.bop false (.cons (.not (.bf .isinst (.cons (.var 0) (.cons (.ty .tuple) .nil)))) (.cons (.cmp .lt (.bf .len (.cons (.var 0) .nil)) (.int 2)) (.cons (.not (.call 27 (.cons (.ix (.var 0) (.int 0)) (.cons (.var 1) .nil)))) (.cons (.not (.bf .isinst (.cons (.ix (.var 0) (.int 1)) (.cons (.ty .str) .nil)))) .nil))))) (.cons (.ret (.bl false))
 .nil) .nil)
 Vh)
noncomputable abbrev Zj4:Stmt:=top 39
noncomputable def Ez:List Str:=["_law_rows","_law_lines_here","_law_at","_law_many","_law_empty"]
noncomputable def Q8:Ss:=
 (.cons (.ret (.bop true (.cons (.cmp .eq (.ix (.ix (.var 0) (.neg (.int 1))) (.int 1)) (.str "end")) (.cons (.cmp .le (.bf .len (.cons (.var 0) .nil)) (.bin .add (.bin .mul (.int 3) (.var 3)) (.int 1))) .nil))))
 .nil)
noncomputable def Pb:Ss:=
 (.cons (.set [3] (.bf .len (.cons (.comp ["_law_line"] [none] [0] (.seq (.var 1)) (.yes (.bop true (.cons (.cmp .ne (.ix (.var 0) (.int 0)) (.str "else")) (.cons (.cmp .ne (.ix (.var 0) (.int 0)) (.str "done")) .nil)))) (.var 0)) .nil)))
 (.cons (.set [4] (.comp ["_law_k","_law_lines_here"] [none,(some 1)] [0] (.rng1 (.bin .sub (.bf .len (.cons (.var 1) .nil)) (.int 1))) (.yes (.bop true (.cons (.cmp .eq (.ix (.ix (.var 1) (.var 0)) (.int 0)) (.str "round")) (.cons (.cmp .eq (.ix (.ix (.var 1) (.bin .add (.var 0) (.int 1))) (.int 0)) (.str "done")) .nil)))) (.var 0)))
 (.cons (.ite (.cmp .lt (.bf .len (.cons (.comp ["_law_row_here"] [none] [0] (.seq (.var 0)) (.yes (.bop true (.cons (.cmp .eq (.ix (.var 0) (.int 1)) (.str "jump")) (.cons (.cmp .eq (.ix (.var 0) (.int 2)) (.ix (.var 0) (.int 0))) .nil)))) (.var 0)) .nil)) (.bf .len (.cons (.var 4) .nil))) (.cons (.ret (.bl false))
 .nil) .nil)
 Q8)))
noncomputable def Qy:Ss:=
 (.cons (.ite (.not (.call 32 (.cons (.ix (.var 0) (.var 2)) (.cons (.var 2) (.cons (.var 0) .nil))))) (.cons (.ret (.bl false))
 .nil) .nil)
 .nil)
noncomputable def Pj:Ss:=
 (.cons (.for_ [2] (.rng1 (.bf .len (.cons (.var 0) .nil))) Qy)
 Pb)
noncomputable def Ff:Ss:=
 (.cons (.ite (.bop false (.cons (.not (.bf .isinst (.cons (.var 0) (.cons (.ty .list) .nil)))) (.cons (.cmp .eq (.var 0) (.lst .nil)) .nil))) (.cons (.ret (.bl false))
 .nil) .nil)
 Pj)
noncomputable abbrev Zc8:Stmt:=top 40
noncomputable def Fv:List Str:=["_law_rows","_law_lines_here","_law_found","_law_row_here"]
noncomputable def Qa:Ss:=
 (.cons (.ret (.call 27 (.cons (.var 2) (.cons (.comp ["_law_line"] [none] [0] (.seq (.var 1)) (.yes (.cmp .isin (.ix (.var 0) (.int 0)) (.lst (.cons (.str "sum") (.cons (.str "if") (.cons (.str "end") .nil)))))) (.var 0)) .nil))))
 .nil)
noncomputable def X5:Ss:=
 (.cons (.ite (.bop false (.cons (.cmp .eq (.ix (.var 3) (.int 1)) (.str "sum")) (.cons (.cmp .eq (.ix (.var 3) (.int 1)) (.str "end")) .nil))) (.cons (.expr (.mt .append (.var 2) (.cons (.sl (.var 3) (.yes (.int 1)) .no) .nil)))
 .nil) .nil)
 .nil)
noncomputable def Qv:Ss:=
 (.cons (.ite (.cmp .eq (.ix (.var 3) (.int 1)) (.str "test")) (.cons (.expr (.mt .append (.var 2) (.cons (.bin .add (.tup (.cons (.str "if") .nil)) (.sl (.var 3) (.yes (.int 2)) (.yes (.int 5)))) .nil)))
 .nil) .nil)
 X5)
noncomputable def E6:Ss:=
 (.cons (.set [2] (.lst .nil))
 (.cons (.for_ [3] (.seq (.sl (.var 0) .no (.yes (.neg (.int 1))))) Qv)
 Qa))
noncomputable abbrev Zh3:Stmt:=top 41
noncomputable def E7:List Str:=["_law_rows","_law_lines_here","_law_marks_here","_law_places","_law_rest","_law_pairs_here","_law_goes_here","_law_place","_law_at","_law_behind"]
noncomputable def Qn:Ss:=
 (.cons (.ret (.lst (.cons (.var 5) (.cons (.var 6) .nil))))
 .nil)
noncomputable def Te:Ss:=
 (.cons (.expr (.mt .append (.var 5) (.cons (.tup (.cons (.call 25 (.cons (.var 1) (.cons (.var 2) (.cons (.bin .add (.var 7) (.int 1)) .nil)))) (.cons (.var 9) .nil))) .nil)))
 .nil)
noncomputable def Pc:Ss:=
 (.cons (.put (.var 6) (.var 7) (.var 8))
 (.cons (.ite (.bop true (.cons (.cmp .lt (.var 7) (.bf .len (.cons (.var 1) .nil))) (.cons (.cmp .ne (.ix (.ix (.var 1) (.var 7)) (.int 0)) (.str "end")) .nil))) (.cons (.set [9] (.call 30 (.cons (.var 0) (.cons (.bin .add (.var 8) (.int 1)) .nil))))
 (.cons (.ite (.cmp .eq (.ix (.ix (.var 1) (.var 7)) (.int 0)) (.str "if")) (.cons (.expr (.mt .append (.var 5) (.cons (.tup (.cons (.call 25 (.cons (.var 1) (.cons (.var 2) (.cons (.call 26 (.cons (.var 1) (.cons (.var 2) (.cons (.var 7) .nil)))) .nil)))) (.cons (.var 9) .nil))) .nil)))
 (.cons (.set [9] (.call 30 (.cons (.var 0) (.cons (.ix (.ix (.var 0) (.var 8)) (.int 5)) .nil))))
 .nil)) .nil)
 Te)) .nil)
 .nil))
noncomputable def Ep:Ss:=
 (.cons (.set [2] (.call 23 (.cons (.var 1) .nil)))
 (.cons (.set [3] (.bin .add (.comp ["_law_k","_law_lines_here"] [none,(some 1)] [0] (.rng1 (.bf .len (.cons (.var 1) .nil))) (.yes (.cmp .isin (.ix (.ix (.var 1) (.var 0)) (.int 0)) (.lst (.cons (.str "sum") (.cons (.str "if") (.cons (.str "end") .nil)))))) (.var 0)) (.lst (.cons (.bf .len (.cons (.var 1) .nil)) .nil))))
 (.cons (.set [4] (.comp ["_law_at","_law_rows"] [none,(some 0)] [0] (.rng1 (.bf .len (.cons (.var 0) .nil))) (.yes (.cmp .ne (.ix (.ix (.var 1) (.var 0)) (.int 1)) (.str "jump"))) (.var 0)))
 (.cons (.set [5] (.lst (.cons (.tup (.cons (.call 25 (.cons (.var 1) (.cons (.var 2) (.cons (.int 0) .nil)))) (.cons (.call 30 (.cons (.var 0) (.cons (.int 0) .nil))) .nil))) .nil)))
 (.cons (.set [6] .dict0)
 (.cons (.for_ [7,8] (.zip (.cons (.var 3) (.cons (.var 4) .nil))) Pc)
 Qn))))))
noncomputable abbrev Zt1:Stmt:=top 42
noncomputable def Z81:List Str:=["_law_rows","_law_lines_here","_law_pairs_here","_law_goes_here","_law_rings","_law_empty","_law_here","_law_there","_law_least"]
noncomputable def N8:Ss:=
 (.cons (.ret (.bl true))
 .nil)
noncomputable def Ry:Ss:=
 (.cons (.put (.var 4) (.var 6) (.var 7))
 .nil)
noncomputable def Nu:Ss:=
 (.cons (.expr (.mt .append (.var 5) (.cons (.var 7) .nil)))
 .nil)
noncomputable def Jm:Ss:=
 (.cons (.set [8] (.bin .sub (.neg (.int 1)) (.var 6)))
 (.cons (.ite (.bop true (.cons (.cmp .notin (.var 6) (.var 4)) (.cons (.cmp .eq (.ix (.ix (.var 1) (.var 8)) (.int 0)) (.str "done")) (.cons (.cmp .eq (.ix (.ix (.var 1) (.bin .sub (.var 8) (.int 1))) (.int 0)) (.str "round")) .nil)))) (.cons (.ite (.bop false (.cons (.cmp .ne (.ix (.ix (.var 0) (.bin .sub (.neg (.int 1)) (.var 7))) (.int 2)) (.bin .sub (.neg (.int 1)) (.var 7))) (.cons (.cmp .isin (.var 7) (.var 5)) .nil))) (.cons (.ret (.bl false))
 .nil) .nil)
 Nu) .nil)
 Ry))
noncomputable def Rj:Ss:=
 (.cons (.ite (.cmp .lt (.var 6) (.int 0)) (.cons (.ite (.bop false (.cons (.cmp .ge (.var 7) (.int 0)) (.cons (.cmp .ne (.mt .get2 (.var 4) (.cons (.var 6) (.cons (.var 7) .nil))) (.var 7)) .nil))) (.cons (.ret (.bl false))
 .nil) .nil)
 Jm) .nil)
 .nil)
noncomputable def Nb:Ss:=
 (.cons (.ite (.bop true (.cons (.cmp .ge (.var 6) (.int 0)) (.cons (.cmp .ne (.ix (.var 3) (.var 6)) (.var 7)) .nil))) (.cons (.ret (.bl false))
 .nil) .nil)
 Rj)
noncomputable def Bo:Ss:=
 (.cons (.setL [2,3] (.call 35 (.cons (.var 0) (.cons (.var 1) .nil))))
 (.cons (.set [4] .dict0)
 (.cons (.set [5] (.lst .nil))
 (.cons (.for_ [6,7] (.seq (.var 2)) Nb)
 N8))))
noncomputable abbrev Gg:Stmt:=top 43
noncomputable def Zg0:List Str:=["_law_script","_law_lines_here","_law_form","_law_rows","_law_kept_here"]
theorem Y64:FnScope Zg0 ["_law_script"] (Zt Gg):=⟨rfl,rfl,rfl,by decide+kernel,rfl,by decide+kernel,by decide+kernel⟩
noncomputable def Z77:Ss:=
 (.cons (.expr (.mt .clear (.var 3) .nil))
 (.cons (.ret (.call 27 (.cons (.call 7 (.cons (.var 2) .nil)) (.cons (.var 4) .nil))))
 .nil))
noncomputable def Bi:Ss:=
 (.cons (.set [4] (.bf .list1 (.cons (.var 3) .nil)))
 (.cons (.ite (.bop false (.cons (.cmp .gt (.bf .len (.cons (.call 7 (.cons (.lst (.cons (.tup (.cons (.str "round") (.cons (.int 7) (.cons (.lst .nil) .nil)))) .nil)) .nil)) .nil)) (.int 4)) (.cons (.not (.call 27 (.cons (.var 3) (.cons (.var 4) .nil)))) .nil))) (.cons (.ret (.bl false))
 .nil) .nil)
 Z77))
noncomputable def Z88:Ss:=
 (.cons (.ite (.not (.call 27 (.cons (.var 2) (.cons (.call 22 (.cons (.var 1) .nil)) .nil)))) (.cons (.ret (.bl false))
 .nil) .nil)
 Bi)
noncomputable def Gj:Ss:=
 (.cons (.set [2] (.call 22 (.cons (.var 1) .nil)))
 (.cons (.set [3] (.call 7 (.cons (.var 2) .nil)))
 (.cons (.ite (.bop false (.cons (.not (.call 33 (.cons (.var 3) (.cons (.var 1) .nil)))) (.cons (.not (.call 34 (.cons (.var 3) (.cons (.var 1) .nil)))) (.cons (.not (.call 36 (.cons (.var 3) (.cons (.var 1) .nil)))) .nil)))) (.cons (.ret (.bl false))
 .nil) .nil)
 Z88)))
noncomputable def Zs3:Ss:=
 (.cons (.set [1] (.call 21 (.cons (.var 0) (.cons (.bf .max2 (.cons (.int 1) (.cons (.bf .min2 (.cons (.bf .len (.cons (.var 0) .nil)) (.cons (.int 60) .nil))) .nil))) .nil))))
 (.cons (.ite (.cmp .eq (.bin .mod (.bin .fdiv (.call 9 (.cons (.var 0) (.cons (.int 951) .nil))) (.int 8)) (.int 8)) (.int 1)) (.cons (.set [1] (.call 29 (.cons (.var 1) (.cons (.call 9 (.cons (.var 0) (.cons (.int 952) .nil))) (.cons (.bin .sub (.int 90) (.call 28 (.cons (.var 1) .nil))) .nil)))))
 .nil) .nil)
 Gj))
theorem Yc2:Ol (ck0 Zg0 Gg FN GN BN) Zs3 (Yp Gg)=true:=by decide+kernel
structure DW(K:Af)(mg:Str→Option Value)(n:Str)(st:Stmt)(ps:List Str) where
 mk::
 a:Addr
 d:FuncData
 F:Fun K n n st a d
 g:mg n=some (.ref a)
 k:Hd K (.ref a)=true
 b:Sh K d ps []
noncomputable def DW.of{K:Af}{h:Heap}{mg:Str→Option Value}{n:Str}{st:Stmt}{ps:List Str}{f:Addr}{oc kV dc pm cd ct:Value}{od an:Option Addr}{sl:Array (Option Value)}(X:K.In h)(G:h.Ns mainGlobals mg)(a:Md K mainGlobals n=some (some (.ref f)))
  (l:K.lookup f=some ⟨oc,od,.func (Km n n (Wj st) (Yp st) (Zt st) .none kV dc pm an cd ct),sl⟩) (c:Mf K cd n=true) (k:Hd K (.ref f)=true) (b:∀kV dc pm an cd ct,Sh K (Km n n (Wj st) (Yp st) (Zt st) .none kV dc pm an cd ct) ps []:=by exact fun _ _ _ _ _ _=> .all (by first | exact U.Zo6 fun _=>rfl | exact U.Zm1 fun _ _=>rfl | exact U.Zo2 fun _ _ _=>rfl | exact U.Y39 fun _ _ _ _=>rfl | exact U.Zn4 rfl)):DW K mg n st ps:=
 ⟨f,_,Y91 (st:=st) l c k,PySem.W.mg_of X G a,k,b _ _ _ _ _ _⟩
set_option hygiene false
local macro_rules | `(tactic| walk_at "ev")=>do
 let ids:=("tss ts evar9 eint9 ebl9 enon9 estr9 ety9 eglb9 ebin9 eneg9 enot9 ecmp9 ebop9 elst9 etup9 edict09 edictT9 eix9 esl9 ecall9 ebf9 eslW9 elrev9 emt9 ecomp9 tes teo tit tcd tbop tt op_add_i op_add_s op_add_t op_add_l op_sub_i op_mul_i op_mul_l op_fdiv_i op_mod_i op_pow_i cm_lt_i cm_le_i cm_gt_i cm_ge_i cm_eq cm_ne cm_in cm_notin cm_is_n cm_is_i cm_is_s cm_is_b cm_is_t cm_is_r eq_i eq_s eq_b eq_nn eq_is eq_si tru_b tru_i tru_n tru_t ix_t ix_g ix_s sl_s sl_t sl_l is_non is_bl is_int is_str is_tup tyNon tyBl tyInt tyStr tyTup tyLst tyDct bf_len_t bf_len_s bf_is bf_min bf_max bf_list bf_int on_ref set_f mt_setd_r mk_setd ati0 ati1 ati2 ati3 ati4 ati5 Option.some.injEq exists_eq_left' ofS_inj String.reduceEq mt_append_r mt_get2_r mt_pop_r mt_clear_r mt_extend_r mk_append mk_pop mk_clear mk_get2 mk_extend tg_one tg_two it_r it_t it_g key_i key_s in_ss start0 List.map_cons List.map_nil List.length_cons List.length_nil List.cons_append List.nil_append List.append_nil List.replicate List.set_cons_zero List.set_cons_succ List.getElem?_cons_zero List.getElem?_cons_succ Nat.reduceAdd Nat.reduceSub Nat.sub_self Nat.zero_add decide_eq_true_eq ne_eq Int.reduceEq not_false_eq_true true_and Bool.not_eq_true' decide_eq_false_iff_not Bool.false_eq_true if_true if_false Bool.not_true Bool.not_false".splitOn " ").toArray.map fun s=>Lean.mkIdent s.toName
 `(tactic| first | (dsimp only[$[$ids:ident],*];try simp only[$[$ids:ident],*]) | simp only[$[$ids:ident],*])
structure Ks(F:Nat→Prop)(M M':Z2):Prop where
 at':∀a,¬F a→a<M.length→M'[a]?=M[a]?
 len:M.length≤M'.length
abbrev Kp:Z2→Z2→Prop:=Ks fun _=>False
theorem Ks.refl{F:Nat→Prop}(M:Z2):Ks F M M:=⟨fun _ _ _=>rfl,Nat.le_refl _⟩
theorem Ks.trans{F:Nat→Prop}{M M' M2:Z2}(h:Ks F M M')(g:Ks F M' M2):Ks F M M2:=⟨fun a n l=>(g.at' a n (Nat.lt_of_lt_of_le l h.len)).trans (h.at' a n l),Nat.le_trans h.len g.len⟩
theorem Ks.mono{F G:Nat→Prop}{M M':Z2}(h:Ks F M M')(k:∀a,a<M.length→F a→G a):Ks G M M':=⟨fun a n l=>h.at' a (fun z=>n (k a l z)) l,h.len⟩
theorem Ks.app{F:Nat→Prop}{M M':Z2}(h:Ks F M M')(N:Z2):Ks F M (M'++N):=⟨fun a n l=>by rw[Dk (Nat.lt_of_lt_of_le l h.len)];exact h.at' a n l,Nat.le_trans h.len (by rw[Ae];omega)⟩
theorem Ks.new{F:Nat→Prop}(M N:Z2):Ks F M (M++N):=(Ks.refl M).app N
theorem Ks.set{F:Nat→Prop}{M M':Z2}(h:Ks F M M'){a:Nat}{c:Cell}(ha:F a∨M.length≤a):Ks F M (M'.set a c):=⟨fun b n l=>by
 have:a≠b:=by
  rintro rfl
  rcases ha with z | z
  ·exact n z
  ·omega
 rw[Ds this];exact h.at' b n l,by rw[Dt];exact h.len⟩
theorem Z6{M:Z2}{n:Nat}{xs:List D}(h:Zc M n=some xs):n<M.length:=by
 unfold Zc at h
 rcases Nat.lt_or_ge n M.length with l | l
 ·exact l
 ·rw[Hn l] at h
  cases h
theorem Ks.L{F:Nat→Prop}{M M':Z2}{a:Nat}{xs:List D}(h:Ks F M M')(n:¬F a)(e:Zc M a=some xs):Zc M' a=some xs:=by
 unfold Zc at e ⊢
 rw[h.at' a n (Z6 (M:=M) (xs:=xs) e)];exact e
theorem Ks.W{F:Nat→Prop}{M M':Z2}{a:Nat}{xs:List D}(h:Ks F M M')(n:¬F a)(e:Z4 M a=some xs):Z4 M' a=some xs:=by
 have l:=Z6 (Z1 e)
 unfold Z4 at e ⊢
 rw[h.at' a n l];exact e
theorem Ks.pL{M M':Z2}{a:Nat}{xs:List D}(h:Kp M M')(e:Zc M a=some xs):Zc M' a=some xs:=h.L (fun z=>z) e
theorem Ks.pW{M M':Z2}{a:Nat}{xs:List D}(h:Kp M M')(e:Z4 M a=some xs):Z4 M' a=some xs:=h.W (fun z=>z) e
theorem Z9{M:Z2}{n:Nat}{xs:List D}(h:n<M.length):Z4 (M.set n (.lst xs)) n=some xs:=by
 unfold Z4
 rw[Dw h]
theorem qm{i j:Int}(h:0<j):qmod i j=i % j:=Zc4 h
theorem qd{i j:Int}(h:0<j):qdiv i j=i / j:=Zg5 h
theorem Y67{xs:List D}{i:Int}{d:D}(h0:0≤i)(h:xs[i.toNat]?=some d):atI xs i=some d:=by
 have:=Xd h
 rwa[Int.toNat_of_nonneg h0] at this
theorem Yc9{xs:List D}{i:Int}(h0:0≤i)(h:i<xs.length):∃d,atI xs i=some d∧d∈xs:=by
 have hl:i.toNat<xs.length:=by omega
 exact⟨xs[i.toNat],Y67 h0 (Ag hl),Ic hl⟩
theorem ix_m{M:Z2}{n:Nat}{xs:List D}{i m:Int}{F:D→Prop}(h:Zc M n=some xs)(hm:m=xs.length)(h0:0<xs.length)(q:∀d,d∈xs→F d):ixD M (.ref n) (.int (qmod i m)) F:=by
 subst hm
 rw[qm (by omega)]
 obtain⟨d,e1,e2⟩:=Yc9 (xs:=xs) (Ip i (b:=(xs.length:Int)) (by omega)) (Kc i (by omega))
 exact Wo h e1 (q d e2)
theorem Ya4{z:Str}{i m:Int}{F:D→Prop}(hm:m=z.length)(h0:0<z.length)(hz:z.length≤1000)(q:∀c∈Tt.L z,F (.str ⟨#[c]⟩)):z.length≤sizeLine∧∃c,atI z.cps.toList (qmod i m)=some c∧F (.str ⟨#[c]⟩):=by
 subst hm
 rw[qm (by omega)]
 have h1:=Ip i (b:=(z.length:Int)) (by omega)
 have h2:=Kc i (b:=(z.length:Int)) (by omega)
 have hl:(i % (z.length:Int)).toNat<z.cps.toList.length:=by rw[Ir];show _<z.length;omega
 refine⟨Z0 (by omega),z.cps.toList[(i % (z.length:Int)).toNat],?_,q _ (Ic hl)⟩
 have:=Xd (Ag hl)
 rwa[Int.toNat_of_nonneg h1] at this
theorem Xb(a b:Str):(a++b).length=a.length+b.length:=by
 show(a.cps++b.cps).size=_
 rw[Array.size_append];rfl
def Scr(M:Z2)(a:Nat):Prop:=∃ns:List Int,Zc M a=some (ns.map .int)∧ns.length≤63
theorem Scr.ks{F:Nat→Prop}{M M':Z2}{a:Nat}(h:Scr M a)(k:Ks F M M')(n:¬F a):Scr M' a:=by obtain⟨ns,e,l⟩:=h;exact⟨ns,k.L n e,l⟩
noncomputable def rawI(ns:List Int)(k:Nat):Int:=if ns.length=0 then k else ns.getD (k % ns.length) 0
noncomputable def mixI(ns:List Int)(k:Nat):Int:=if ns.length=0 then((k:Int) * k+3) * 48271 % 2147483647 else(rawI ns k % 2147483629+2) * (48271+7 * ((k:Int) / (ns.length:Int)) * ((k:Int) / (ns.length:Int))) % 2147483647
def Zj5:DSp:=fun ds M Q _=>∃(a k:Nat),ds=[.ref a,.int k]∧Scr M a∧∀v,(∀ns,Zc M a=some (ns.map .int)→v=rawI ns k)→Q (.int v) M
def C9:DSp:=fun ds M Q _=>∃(a k:Nat),ds=[.ref a,.int k]∧Scr M a∧k≤1000∧∀v:Nat,v<2147483647→(∀ns,Zc M a=some (ns.map .int)→(v:Int)=mixI ns k)→Q (.int v) M
theorem Em{ns ms:List Int}(h:ns.map D.int=ms.map D.int):ns=ms:=by
 have:=congrArg (List.map fun d=>match d with | D.int i=>i | _=>0) h
 rw[List.map_map,List.map_map] at this
 simpa[Function.comp_def] using this
noncomputable def kept:List Str:=["if","jump","end","rest","round","part","leave","again","else","done"]
def Jp:DSp:=fun ds M Q _=>ds=[]∧Q (.ref M.length) (M++[.lst (kept.map D.str)])
def Lc(c:Nat):Prop:=97≤c∧c≤122
def Wc(c:Nat):Prop:=Lc c∨(48≤c∧c≤57)
noncomputable instance(c:Nat):Decidable (Lc c):=inferInstanceAs (Decidable (_∧_))
noncomputable instance(c:Nat):Decidable (Wc c):=inferInstanceAs (Decidable (_∨_))
def Wrd(x:Str):Prop:=(∀c∈Tt.L x,Wc c)∧∀c,(Tt.L x).head?=some c→Lc c
def Nam(x:Str):Prop:=Wrd x∧1≤x.length∧x.length≤8∧x∉kept
theorem L1(c:Nat):Tt.L ⟨#[c]⟩=[c]:=rfl
theorem Wrd.app{x y:Str}(h:Wrd x)(hl:0<x.length)(hy:∀c∈Tt.L y,Wc c):Wrd (x++y):=by
 have e:=Tt.L_app x y
 have hl':=Tt.L_len x
 cases hx:Tt.L x with
 | nil=>rw[hx] at hl';simp at hl';omega
 | cons a r=>
  refine⟨fun c hc=>?_,fun c hc=>?_⟩
  ·rw[e,Az] at hc
   exact hc.elim (h.1 c) (hy c)
  ·rw[e,hx] at hc
   exact h.2 c (by rw[hx];exact hc)
theorem Wrd.one{c:Nat}(h:Lc c):Wrd ⟨#[c]⟩:=⟨fun d hd=>by rw[L1,Am] at hd;rw[hd];exact .inl h,fun d hd=>by rw[L1] at hd;cases hd;exact h⟩
theorem Wrd.nil:Wrd ("":Str):=⟨fun c hc=>by(have e:Tt.L ("":Str)=[]:=rfl);rw[e] at hc;simp at hc,fun c hc=>by(have e:Tt.L ("":Str)=[]:=rfl);rw[e] at hc;simp at hc⟩
def N6:DSp:=fun ds M Q _=>∃(n:Int) (b:Bool),ds=[.int n,.bl b]∧∀c:Nat,Wc c→(b=true→Lc c)→Q (.str ⟨#[c]⟩) M
def Z48:DSp:=fun ds M Q _=>∃(n:Int) (s:Nat),ds=[.int n,.int s]∧s≤8∧∀x:Str,x.length=s→Wrd x→Q (.str x) M
def Gq:DSp:=fun ds M Q _=>∃a:Nat,ds=[.ref a]∧Scr M a∧∀(l:List Str) M' r,l.length=5→(∀x∈l,Nam x)→Kp M M'→Zc M' r=some (l.map D.str)→Q (.ref r) M'
inductive Opd where
 | nm (x:Str) | no (i:Int)
noncomputable def Opd.d:Opd→D
 | .nm x=> .str x
 | .no i=> .int i
def Opd.ok:Opd→Prop
 | .nm x=>Nam x
 | .no i=> -1000000000000000000<i∧i<1000000000000000000
def Nms(M:Z2)(r:Nat):Prop:=∃l:List Str,l.length=5∧(∀x∈l,Nam x)∧Zc M r=some (l.map D.str)
theorem Nms.ks{F:Nat→Prop}{M M':Z2}{a:Nat}(h:Nms M a)(k:Ks F M M')(n:¬F a):Nms M' a:=by obtain⟨ns,l,o,e⟩:=h;exact⟨ns,l,o,k.L n e⟩
def Rb:DSp:=fun ds M Q _=>∃(a k r n:Nat),ds=[.ref a,.int k,.ref r,.int n]∧Scr M a∧Nms M r∧∀o:Opd,o.ok→Q o.d M
section
variable{K:Af}
theorem Y49{Γ G}:Rd K Γ G Zj5 Zo7 Zm6:=by
 rintro ds M Q Z ⟨a,k,rfl,⟨ns,hm,hl⟩,q⟩
 have q':Q (.int (rawI ns k)) M:=q _ fun ms e=>by rw[hm] at e;rw[Em (Aw e)]
 unfold rawI at q'
 delta Zo7 Zm6
 walk_at "ev"
 refine Zb hm ?_
 walk_at "ev"
 split
 ·rename_i h
  rw[if_pos (by simpa using h)] at q'
  exact q'
 ·rename_i h
  have h0:¬ns.length=0:=by simpa using h
  rw[if_neg h0] at q'
  delta Ek
  walk_at "ev"
  refine Zb hm ⟨by omega,?_⟩
  rw[qm (by omega),Ab,show(k:Int) % (ns.length:Int)=((k % ns.length:Nat):Int) by omega]
  have hk:k % ns.length<ns.length:=Nat.mod_lt _ (by omega)
  refine ix_l hm (by rw[Ai,Ag hk];rfl) ?_
  rw[Dy,Ag hk] at q'
  exact q'
theorem mixR{M:Z2}{Q:DK}{v w:Int}(e:v % 2147483647=w)(q:∀v:Nat,v<2147483647→(v:Int)=w→Q (.int v) M):Q (.int (qmod v 2147483647)) M:=by
 rw[qm (by decide)]
 have h1:=Ip v (show(2147483647:Int)≠0 by decide)
 have h2:=Kc v (show(0:Int)<2147483647 by decide)
 have:=q (v % 2147483647).toNat (by omega) (by omega)
 rwa[Int.toNat_of_nonneg h1] at this
theorem Y98{Γ G}(g:Γ[8]?=some Zj5):Rd K Γ G C9 Zl8 Zn6:=by
 rintro ds M Q Z ⟨a,k,rfl,hs,hk,q⟩
 obtain⟨ns,hm,hl⟩:=id hs
 have q':∀v:Nat,v<2147483647→(v:Int)=mixI ns k→Q (.int v) M:=fun v h1 h2=>q v h1 fun ms e=>by rw[hm] at e;rw[←Em (Aw e)];exact h2
 delta Zl8 Zn6
 walk_at "ev"
 refine Zb hm ?_
 walk_at "ev"
 split
 ·rename_i h
  refine⟨mulR (by omega) (by omega),mulR (by decide) (by decide),mixR ?_ q'⟩
  unfold mixI
  rw[if_pos (by simpa using h)]
 ·rename_i h
  delta E2
  walk_at "ev"
  have hp:(0:Int)< (ns.map D.int).length:=by omega
  refine Zb hm ⟨Zf hp (by rw[Ab];omega),?_⟩
  rw[qd hp]
  have d1:0≤(k:Int) / (ns.map D.int).length:=Int.ediv_nonneg (by omega) (by omega)
  have d2:(k:Int) / (ns.map D.int).length≤k:=Int.ediv_le_self _ (by omega)
  simp only[g]
  refine⟨a,k,rfl,hs,fun v hv=>?_⟩
  walk_at "ev"
  refine⟨mulL (by decide) (by decide),mulR (by omega) (by omega),mulR ?_ ?_,mixR ?_ q'⟩
  ·have:0≤7 * ((k:Int) / (ns.map D.int).length) * ((k:Int) / (ns.map D.int).length):=Int.mul_nonneg (by omega) d1
   omega
  ·have:7 * ((k:Int) / (ns.map D.int).length) * ((k:Int) / (ns.map D.int).length)≤7000 * 1000:=Int.mul_le_mul (by omega) (by omega) d1 (by decide)
   omega
  ·unfold mixI
   rw[if_neg (by simpa using h),hv ns hm,qm (by decide),Ab]
theorem Zu1{Γ G}:Rd K Γ G Jp Z67 Z53:=by
 rintro ds M Q Z ⟨rfl,q⟩
 delta Z67 Z53
 walk_at "ev"
 exact⟨Z0 (by decide),q⟩
theorem Zu2{Γ G}:Rd K Γ G N6 Za0 Z01:=by
 rintro ds M Q Z ⟨n,b,rfl,q⟩
 delta Za0 Z01
 walk_at "ev"
 split
 ·have h:∀c∈Tt.L "abcdefghijklmnopqrstuvwxyz",Lc c:=by decide+kernel
  refine Ya4 (F:=fun d=>Q d M) (z:="abcdefghijklmnopqrstuvwxyz") ?_ ?_ ?_ (fun c hc=>q c (.inl (h c hc)) fun _=>h c hc)<;>decide+kernel
 ·rename_i hb
  delta J6
  walk_at "ev"
  have h:∀c∈Tt.L "abcdefghijklmnopqrstuvwxyz0123456789",Wc c:=by decide+kernel
  refine Ya4 (F:=fun d=>Q d M) (z:="abcdefghijklmnopqrstuvwxyz0123456789") ?_ ?_ ?_ (fun c hc=>q c (h c hc) fun e=>absurd e hb)<;>decide+kernel
theorem Zw7{Γ G}(g:Γ[11]?=some N6):Rd K Γ G Z48 Zb7 Z87:=by
 rintro ds M Q Z ⟨n,s,rfl,hs,q⟩
 delta Zb7 Z87
 walk_at "ev"
 refine⟨by omega,by omega,?_⟩
 rw[Hy]
 refine Yu (fun i σ M'=>∃(n:Int) (x:Str) (d:Option D),σ=[some (.int n),some (.int s),some (.str x),d]∧M'=M∧x.length=i∧Wrd x) ⟨n,_,none,rfl,rfl,rfl,Wrd.nil⟩ ?_ ?_
 ·rintro i σ M' C hi ⟨n,x,d,rfl,rfl,hx,hw⟩ hC
  delta Jq
  walk_at "ev"
  refine⟨mulR (by decide) (by decide),Zf (by decide) (by decide),?_⟩
  simp only[g]
  refine⟨_,_,rfl,fun c hc h0=>?_⟩
  walk_at "ev"
  have l1:(⟨#[c]⟩:Str).length=1:=rfl
  refine⟨Z0 (by omega),hC _ _ ⟨_,_,_,rfl,rfl,by rw[Xb,hx,l1],?_⟩⟩
  rcases Nat.eq_zero_or_pos i with z | z
  ·have e:x++⟨#[c]⟩=(⟨#[c]⟩:Str):=Tt.L_ext (by rw[Tt.L_app,show Tt.L x=[] from List.eq_nil_of_length_eq_zero (by rw[Tt.L_len];omega)];rfl)
   rw[e]
   exact Wrd.one (h0 (by simp;omega))
  ·exact hw.app (by omega) fun d hd=>by rw[L1,Am] at hd;rw[hd];exact hc
 ·rintro σ M' ⟨n,x,d,rfl,rfl,hx,hw⟩
  delta J9
  walk_at "ev"
  exact q x hx hw
end
section
variable{K:Af}
theorem Bb(x:Str){i:Int}(h:0≤i):(Ig x (some i) none).length≤x.length:=by
 rcases Int.lt_or_le i x.length with l | l
 ·have:=(fact_slice_sn x i).1 h (by omega)
  omega
 ·have:=(fact_slice_sn x i).2 l
  omega
theorem Yb9(x:Str){i:Int}(h:0≤i):(Ig x none (some i)).length≤x.length:=by
 rcases Int.lt_or_le i x.length with l | l
 ·have:=(fact_slice_ns x i).1 h (by omega)
  omega
 ·have:=(fact_slice_ns x i).2 l
  omega
theorem Bm(l:List Str):(l.map D.str).all Zu=true:=by
 rw[Hj]
 intro d h
 obtain⟨x,_,rfl⟩:=Hw.mp h
 rfl
theorem Zz4(x:Str)(l:List Str):inD (.str x) (l.map D.str)=true↔x∈l:=by
 unfold inD
 rw[List.any_map,Mb]
 constructor
 ·rintro⟨y,hy,e⟩
  have:y=x:=by simpa[eqF] using e
  rwa[←this]
 ·intro h
  exact⟨x,h,by simp[eqF]⟩
theorem Yc1{x:Str}(h:Wrd x)(h1:1≤x.length)(h8:x.length≤8):Nam (("q":Str)++Ig x (some ((1:Nat):Int)) none):=by
 have e:Tt.L (("q":Str)++Ig x (some ((1:Nat):Int)) none)=113::(Tt.L x).drop 1:=by
  rw[Tt.L_app,Tt.L_from x h1];rfl
 refine⟨⟨fun c hc=>?_,fun c hc=>?_⟩,?_,?_,fun hk=>?_⟩
 ·rw[e,Aq] at hc
  exact hc.elim (fun z=>by rw[z];decide) fun z=>h.1 c (List.mem_of_mem_drop z)
 ·rw[e] at hc;cases hc;decide
 ·rw[←Tt.L_len,e];simp
 ·rw[←Tt.L_len,e,Ar,Lz,Tt.L_len];omega
 ·have:∀y∈kept,(Tt.L y).head?≠some 113:=by decide+kernel
  exact this _ hk (by rw[e];rfl)
theorem Zq3{x:Str}{t c:Nat}(h:Wrd x)(ht:t<x.length)(hc:Wc c)(h0:t=0→Lc c):Wrd (Ig x none (some (t:Int))++⟨#[c]⟩++Ig x (some ((t+1:Nat):Int)) none)∧(Ig x none (some (t:Int))++⟨#[c]⟩++Ig x (some ((t+1:Nat):Int)) none).length=x.length:=by
 have e:Tt.L (Ig x none (some (t:Int))++⟨#[c]⟩++Ig x (some ((t+1:Nat):Int)) none)=(Tt.L x).take t++c::(Tt.L x).drop (t+1):=by
  rw[Tt.L_app,Tt.L_app,Tt.L_to x (by omega),Tt.L_from x (by omega),Bs];rfl
 have hl:=Tt.L_len x
 refine⟨⟨fun d hd=>?_,fun d hd=>?_⟩,?_⟩
 ·rw[e,Az,Aq] at hd
  rcases hd with z | z | z
  ·exact h.1 d (List.mem_of_mem_take z)
  ·rw[z];exact hc
  ·exact h.1 d (List.mem_of_mem_drop z)
 ·rw[e] at hd
  cases t with
  | zero=>cases hd;exact h0 rfl
  | succ t=>
   cases hx:Tt.L x with
   | nil=>rw[hx] at hl;simp at hl;omega
   | cons a r=>rw[hx] at hd;exact h.2 d (by rw[hx];exact hd)
 ·rw[←Tt.L_len,e,Ae,Ar,Hs,Lz,hl];omega
def NmI(a:Nat)(M:Z2)(f:Nat)(stem:Str)(t:Nat)(i:Nat)(w:Option D)(σ:DEnv)(M':Z2):Prop:=∃(l:List Str) (d5 d6:Option D),σ=[some (.ref a),some (.int f),some (.str stem),some (.int t),some (.ref M.length),d5,d6,w]∧Kp M M'∧Z4 M' M.length=some (l.map D.str)∧l.length=i∧∀x∈l,Nam x
theorem nm_2{Γ G}{P:DEnds}{a f t i:Nat}{M M':Z2}{stem x:Str}{l:List Str}{d5 d6:Option D}(hx:Nam x)(k:Kp M M')(e:Z4 M' M.length=some (l.map D.str))(hl:l.length=i)(hn:∀x∈l,Nam x)(hi:i<5)
  (h:∀σ M2,(∃w,NmI a M f stem t (i+1) w σ M2)→P.nx σ M2):tss ⟨K,Γ,G⟩ noX Td P [some (.ref a),some (.int f),some (.str stem),some (.int t),some (.ref M.length),d5,d6,some (.str x)] M':=by
 delta Td
 walk_at "ev"
 refine⟨Z7 (Z1 e),_,e,Z3 (by rw[Ab];omega),h _ _ ⟨_,l++[x],_,_,rfl,k.set (.inr (Nat.le_refl _)),?_,by rw[Ae,hl];rfl,fun y hy=>(Az.mp hy).elim (hn y) fun z=>by rw[Am.mp z];exact hx⟩⟩
 rw[Z9 (Z6 (Z1 e)),Ao]
 rfl
theorem nm_3{Γ G}(g:Γ[10]?=some Jp){P:DEnds}{a f t i:Nat}{M M':Z2}{stem x:Str}{l:List Str}{d5 d6:Option D}(hw:Wrd x)(h1:1≤x.length)(h8:x.length≤8)(k:Kp M M')(e:Z4 M' M.length=some (l.map D.str))(hl:l.length=i)(hn:∀x∈l,Nam x)(hi:i<5)
  (h:∀σ M2,(∃w,NmI a M f stem t (i+1) w σ M2)→P.nx σ M2):tss ⟨K,Γ,G⟩ noX Tb P [some (.ref a),some (.int f),some (.str stem),some (.int t),some (.ref M.length),d5,d6,some (.str x)] M':=by
 delta Tb
 walk_at "ev"
 simp only[g]
 refine⟨rfl,.inl ⟨_,Zd _ _ [],rfl,Bm _,?_⟩⟩
 walk_at "ev"
 have k2:Kp M (M'++[.lst (kept.map D.str)]):=k.app _
 have e2:=Z8 (N:=[.lst (kept.map D.str)]) e
 split
 ·refine⟨Z0 (by omega),?_⟩
  have:=Bb x (show(0:Int)≤1 by decide)
  have l1:("q":Str).length=1:=by decide+kernel
  exact⟨Z0 (by omega),nm_2 (Yc1 hw h1 h8) k2 e2 hl hn hi h⟩
 ·rename_i hk
  exact nm_2 ⟨hw,h1,h8,fun z=>hk ((Zz4 _ _).mpr z)⟩ k2 e2 hl hn hi h
theorem nm_4{Γ G}(g:Γ[10]?=some Jp)(gs:Γ[11]?=some N6){P:DEnds}{a f t i v:Nat}{M M':Z2}{stem x:Str}{l:List Str}(hw:Wrd x)(h1:1≤x.length)(h8:x.length≤8)(k:Kp M M')(e:Z4 M' M.length=some (l.map D.str))(hl:l.length=i)(hn:∀x∈l,Nam x)(hi:i<5)
  (h:∀σ M2,(∃w,NmI a M f stem t (i+1) w σ M2)→P.nx σ M2):tss ⟨K,Γ,G⟩ noX Vx P [some (.ref a),some (.int f),some (.str stem),some (.int t),some (.ref M.length),some (.int i),some (.int v),some (.str x)] M':=by
 delta Vx
 walk_at "ev"
 have fin:=nm_3 (G:=G) (P:=P) (a:=a) (f:=f) (t:=t) (stem:=stem) (d5:=some (.int i)) (d6:=some (.int v)) (K:=K) g (x:=x) hw h1 h8 k e hl hn hi h
 have hy9:∀y∈kept,y.length≤5∧1≤y.length∧(∀c∈Tt.L y,Wc c)∧Lc ((Tt.L y).headD 0):=by decide+kernel
 split
 ·split
  ·simp only[g]
   refine⟨rfl,Zf (by decide) (by decide),ix_m (Zd _ _ []) rfl (by decide) fun d hd=>?_⟩
   obtain⟨y,hy,rfl⟩:=Hw.mp hd
   refine⟨Zf (by decide) (by decide),?_⟩
   simp only[gs]
   refine⟨_,_,rfl,fun z hz _=>?_⟩
   obtain⟨y5,y1,yw,yl⟩:=hy9 y hy
   have l1:(⟨#[z]⟩:Str).length=1:=rfl
   have wy:Wrd y:=⟨yw,fun c hc=>by cases hy:Tt.L y<;>rw[hy] at hc yl<;>cases hc;exact yl⟩
   walk_at "ev"
   exact⟨Z0 (by omega),nm_3 g (wy.app (by omega) fun d hd=>by rw[L1,Am] at hd;rw[hd];exact hz) (by rw[Xb];omega) (by rw[Xb];omega) (k.app _) (Z8 e) hl hn hi h⟩
  ·exact fin
 ·exact fin
theorem Zi1{Γ G}(gm:Γ[9]?=some C9)(gk:Γ[10]?=some Jp)(gs:Γ[11]?=some N6)(gw:Γ[12]?=some Z48):Rd K Γ G Gq Ec Fh:=by
 rintro ds M Q Z ⟨a,rfl,hs,q⟩
 have m8:∀v:Nat,∃s:Nat,s<8∧qmod (qdiv (v:Int) 8) 8=s:=by
  intro v
  rw[qm (by decide),qd (by decide)]
  have h1:=Ip ((v:Int) / 8) (show(8:Int)≠0 by decide)
  have h2:=Kc ((v:Int) / 8) (show(0:Int)<8 by decide)
  exact⟨((v:Int) / 8 % 8).toNat,by omega,by omega⟩
 delta Ec Fh
 walk_at "ev"
 simp only[gm]
 refine⟨a,901,rfl,hs,by decide,fun f hf _=>?_⟩
 walk_at "ev"
 refine⟨Zf (by decide) (by decide),?_⟩
 simp only[gw]
 obtain⟨s8,hs8,e8⟩:=m8 f
 rw[e8]
 refine⟨_,s8+1,by rw[show(1:Int)+s8=((s8+1:Nat):Int) by omega],by omega,fun stem hst hsw=>?_⟩
 walk_at "ev"
 refine⟨Zf (by decide) (by decide),Z0 (by omega),by omega,Z0 (by decide),by decide,by decide,?_⟩
 rw[qm (show(0:Int)<stem.length by omega)]
 have t1:=Ip (qdiv (f:Int) 64) (show(stem.length:Int)≠0 by omega)
 have t2:=Kc (qdiv (f:Int) 64) (show(0:Int)<stem.length by omega)
 obtain⟨t,ht,et⟩:∃t:Nat,t<stem.length∧qdiv (f:Int) 64 % stem.length=t:=⟨(qdiv (f:Int) 64 % stem.length).toNat,by omega,by omega⟩
 rw[et]
 refine Yu (fun i σ M'=>∃w,NmI a M f stem t i w σ M') ⟨none,[],none,none,rfl,Ks.new _ _,Z5 _ _ [],rfl,fun x hx=>by cases hx⟩ ?_ ?_
 ·rintro i σ M' C hi ⟨w,l,d5,d6,rfl,k,e,hl,hn⟩ hC
  have i5:i<5:=hi
  (delta Qo;simp only[Kr])
  walk_at "ev"
  simp only[gm]
  refine⟨a,902+i,by rw[show(902:Int)+i=((902+i:Nat):Int) by omega],hs.ks k (fun z=>z),by omega,fun v hv _=>?_⟩
  walk_at "ev"
  refine⟨Z0 (by omega),Zf (by decide) (by decide),mulL (by decide) (by decide),?_⟩
  simp only[gs]
  refine⟨_,_,rfl,fun z hz hz0=>?_⟩
  walk_at "ev"
  have lz:(⟨#[z]⟩:Str).length=1:=rfl
  have l1:=Yb9 stem (show(0:Int)≤t by omega)
  have l2:=Bb stem (show(0:Int)≤t+1 by omega)
  refine⟨Z0 (by omega),Z0 (by omega),Z0 (by rw[Xb];omega),?_⟩
  split
  ·refine⟨Zf (by decide) (by decide),?_⟩
   simp only[gw]
   obtain⟨v8,hv8,ev8⟩:=m8 v
   rw[ev8]
   exact⟨_,v8+1,by rw[show(1:Int)+v8=((v8+1:Nat):Int) by omega],by omega,fun x hx hw=>nm_4 gk gs hw (by omega) (by omega) k e hl hn i5 hC⟩
  ·obtain⟨w1,w2⟩:=Zq3 hsw ht hz fun z=>hz0 (by simp;omega)
   rw[show((t+1:Nat):Int)=(t:Int)+1 by omega] at w1 w2
   exact nm_4 gk gs w1 (by rw[w2];omega) (by rw[w2];omega) k e hl hn i5 hC
 ·rintro σ M' ⟨w,l,d5,d6,rfl,k,e,hl,hn⟩
  delta Qp
  walk_at "ev"
  exact q l _ _ hl hn k (Z1 e)
theorem Cd{Γ G}(g:Γ[8]?=some Zj5):Rd K Γ G Rb Qi Pt:=by
 rintro ds M Q Z ⟨a,k,r,n,rfl,hs,⟨l,hl,hn,hr⟩,q⟩
 have qi:∀i:Int,-1000000000000000000<i→i<1000000000000000000→Q (.int i) M:=fun i h1 h2=>q (.no i) ⟨h1,h2⟩
 delta Qi Pt
 walk_at "ev"
 split
 ·refine⟨Zf (by decide) (by decide),ix_m hr (by rw[Ab,hl];rfl) (by rw[Ab];omega) fun d hd=>?_⟩
  obtain⟨x,hx,rfl⟩:=Hw.mp hd
  exact q (.nm x) (hn x hx)
 ·delta Tj
  walk_at "ev"
  split
  ·rw[qm (by decide)]
   exact⟨Zf (by decide) (by decide),qi _ (by omega) (by omega)⟩
  ·delta Tv
   walk_at "ev"
   simp only[g]
   have p18:CPow 10 18:=⟨by decide,by decide,by decide⟩
   have e18:(10:Int) ^ (18:Int).toNat=1000000000000000000:=by decide
   have r1:=Ip (qdiv (n:Int) 24) (show(1000:Int)≠0 by decide)
   have r2:=Kc (qdiv (n:Int) 24) (show(0:Int)<1000 by decide)
   refine⟨a,k,rfl,hs,fun v _=>?_⟩
   walk_at "ev"
   refine⟨p18,by decide,Zf (by decide) (by decide),mulR (by rw[qm (by decide)];omega) (by rw[qm (by decide)];omega),p18,by decide,Zf (by decide) (by decide),?_⟩
   have fin:∀b:Int,0≤b→b<1000000000000000000→tss ⟨K,Γ,G⟩ noX W3 {nx:=fun _ M=>Q .non M,rt:=Q} [some (.ref a),some (.int k),some (.ref r),some (.int n),some (.int b)] M:=by
    intro b hb0 hb
    delta W3
    walk_at "ev"
    refine⟨Zf (by decide) (by decide),?_⟩
    split
    ·exact qi _ (by omega) (by omega)
    ·delta S0
     walk_at "ev"
     exact qi _ (by omega) (by omega)
   split
   ·refine⟨p18,Zf (by decide) (by decide),fin _ ?_ ?_⟩<;>(rw[e18,qm (by decide)];omega)
   ·refine fin _ ?_ ?_<;>(rw[e18,qm (by decide)];omega)
end
inductive Ln where
 | cond (a:Opd) (s:Str) (b:Opd) | sum (x:Str) (a:Opd) (s:Str) (b:Opd) | rnd (n:Int) | prt (n:Int) | lve (n:Int) | agn (n:Int) | els | don | fin
noncomputable def Ln.d:Ln→D
 | .cond a s b=> .tup [.str "if",a.d,.str s,b.d]
 | .sum x a s b=> .tup [.str "sum",.str x,a.d,.str s,b.d]
 | .rnd n=> .tup [.str "round",.int n]
 | .prt n=> .tup [.str "part",.int n]
 | .lve n=> .tup [.str "leave",.int n]
 | .agn n=> .tup [.str "again",.int n]
 | .els=> .tup [.str "else"]
 | .don=> .tup [.str "done"]
 | .fin=> .tup [.str "end"]
noncomputable def Ln.beg:Ln→Bool
 | .cond _ _ _ | .rnd _ | .prt _=>true
 | _=>false
noncomputable def Ln.pl:Ln→Bool
 | .els | .don=>false
 | _=>true
inductive Tp where
 | cif | cel | crd | cpt
noncomputable def Tp.s:Tp→Str
 | .cif=>"if" | .cel=>"else" | .crd=>"round" | .cpt=>"part"
noncomputable def seD(x:Tp×Int):D:= .tup [.str x.1.s,.int x.2]
noncomputable def stp:List Tp→Ln→Option (List Tp)
 | st,.cond _ _ _=>some (.cif::st)
 | st,.rnd _=>some (.crd::st)
 | st,.prt _=>some (.cpt::st)
 | .cif::st,.els=>some (.cel::st)
 | _,.els=>none
 | _::st,.don=>some st
 | [],.don=>none
 | st,_=>some st
noncomputable def run:List Tp→List Ln→Option (List Tp)
 | st,[]=>some st
 | st,l::ls=>(stp st l).bind fun t=>run t ls
theorem Z09(ls ms:List Ln)(st:List Tp):run st (ls++ms)=(run st ls).bind fun t=>run t ms:=by
 induction ls generalizing st with
 | nil=>rfl
 | cons l ls ih=>
  show(stp st l).bind _=((stp st l).bind _).bind _
  cases stp st l with
  | none=>rfl
  | some t=>exact ih t
noncomputable def tps(ss:List (Tp×Int)):List Tp:=(ss.map (·.1)).reverse
theorem W4(ss:List (Tp×Int))(x:Tp×Int):tps (ss++[x])=x.1::tps ss:=by unfold tps;simp
noncomputable def six:List Str:=["+","-","/","rest","&","^"]
noncomputable def two:List Str:=["<","="]
noncomputable def hm(f k:Nat):Int:=(((f+97 * k) % 10000:Nat):Int)
def Ln.ok(f k:Nat)(ss:List (Tp×Int)):Ln→Prop
 | .cond a s b=>a.ok∧s∈two∧b.ok
 | .sum x a s b=>Nam x∧a.ok∧s∈six∧b.ok
 | .rnd n=>n=hm f k
 | .prt n=>n=hm f k
 | .lve n=>∃t,(t,n)∈ss∧0≤n
 | .agn n=>(Tp.crd,n)∈ss
 | _=>True
def nxt(ss:List (Tp×Int)):Ln→List (Tp×Int)→Prop
 | .cond _ _ _,ss'=>ss'=ss++[(.cif,-1)]
 | .rnd n,ss'=>ss'=ss++[(.crd,n)]
 | .prt n,ss'=>ss'=ss++[(.cpt,n)]
 | .els,ss'=>∃tl n,ss=tl++[(.cif,n)]∧ss'=tl++[(.cel,-1)]
 | .don,ss'=>∃x,ss=ss'++[x]
 | _,ss'=>ss'=ss
theorem Zr4{ss ss':List (Tp×Int)}{l:Ln}(h:nxt ss l ss'):stp (tps ss) l=some (tps ss'):=by
 cases l with
 | cond a s b=>rw[show ss'=_ from h,W4];rfl
 | rnd n=>rw[show ss'=_ from h,W4];rfl
 | prt n=>rw[show ss'=_ from h,W4];rfl
 | els=>obtain⟨tl,n,rfl,rfl⟩:=h;rw[W4,W4];rfl
 | don=>obtain⟨x,rfl⟩:=h;rw[W4];rfl
 | _=>rw[show ss'=_ from h];rfl
def Dr(f:Nat):Nat→List (Tp×Int)→List Ln→List (Tp×Int)→Prop
 | _,ss,[],ss'=>ss'=ss
 | k,ss,l::ls,ss'=>l.ok f k ss∧∃s1,nxt ss l s1∧s1.length≤60∧Dr f (k+1) s1 ls ss'
theorem Dr.snoc{f:Nat}:∀{ls:List Ln} {k:Nat} {ss s1 s2:List (Tp×Int)} {l:Ln},Dr f k ss ls s1→l.ok f (k+ls.length) s1→nxt s1 l s2→s2.length≤60→Dr f k ss (ls++[l]) s2
 | [],k,ss,s1,s2,l,h,h1,h2,h3=>by cases h;exact⟨h1,s2,h2,h3,rfl⟩
 | m::ls,k,ss,s1,s2,l,⟨a,t,b,b',c⟩,h1,h2,h3=>⟨a,t,b,b',Dr.snoc c (by rw[show k+1+ls.length=k+(m::ls).length by rw[Ar];omega];exact h1) h2 h3⟩
noncomputable def Xj(ns:List Int):Nat:=([mixI ns 911 / 8 % 10000,0,9999].getD (mixI ns 911 % 3).toNat 0).toNat
def Y8:DSp:=fun ds M Q _=>∃l:Ln,ds=[l.d]∧Q (.bl l.beg) M
noncomputable def isDd:Ln→Bool
 | .cond _ _ _ | .sum _ _ _ _=>true
 | _=>false
def Tq:DSp:=fun ds M Q _=>∃(a k r v:Nat),ds=[.ref a,.int k,.ref r,.int v]∧Scr M a∧Nms M r∧∀(l:Ln) M',(∀f k ss,l.ok f k ss)→isDd l=true→(l.beg=true→v % 24<4)→Kp M M'→Q l.d M'
def Sx:DSp:=fun ds M Q _=>∃(r v:Nat) (ss:List (Tp×Int)),ds=[.ref r,.int v]∧Zc M r=some (ss.map seD)∧ss.length≤1000∧∀M',Kp M M'→Q .non M'∧∀l:Ln,(∀f k,l.ok f k ss)→l.pl=true→l.beg=false→Q l.d M'
def Sn:DSp:=fun ds M Q _=>∃(a:Nat) (ns:List Int),ds=[.ref a]∧Zc M a=some (ns.map .int)∧ns.length≤63∧∀M',Kp M M'→Q (.int (Xj ns)) M'
def Vu:DSp:=fun ds M Q _=>∃(r v:Nat) (ss:List (Tp×Int)) (x:Tp×Int),ds=[.ref r,.int v]∧Z4 M r=some ((ss++[x]).map seD)∧ss.length≤1000∧
 ∀(l:Ln) (ss':List (Tp×Int)) M',(∀f k ss,l.ok f k ss)→nxt (ss++[x]) l ss'→ss'.length≤ss.length+1→Ks (·=r) M M'→Z4 M' r=some (ss'.map seD)→Q l.d M'
def Z52:DSp:=fun ds M Q _=>∃(a k nm r:Nat) (ss:List (Tp×Int)) (ns:List Int),ds=[.ref a,.int k,.ref nm,.ref r]∧Zc M a=some (ns.map .int)∧ns.length≤63∧Nms M nm∧a≠r∧nm≠r∧k≤100∧Z4 M r=some (ss.map seD)∧ss.length≤60∧
 ∀(l:Ln) (ss':List (Tp×Int)) M',l.ok (Xj ns) k ss→nxt ss l ss'→ss'.length≤60→Ks (·=r) M M'→Z4 M' r=some (ss'.map seD)→Q l.d M'
theorem Tl{M:Z2}{m n:Nat}{xs:List D}{B:Bool→Prop}(h1:Zc M m=some xs)(h2:Zc M n=some [])(q:B xs.isEmpty):eqD M (.ref m) (.ref n) B:= .inr (.inr (.inl ⟨m,n,xs,rfl,rfl,h1,h2,q⟩))
section
variable{K:Af}
theorem Bj{Γ G}:Rd K Γ G Y8 Na Ja:=by
 rintro ds M Q Z ⟨l,rfl,q⟩
 delta Na Ja
 cases l<;>simp only[Ln.d]<;>walk_at "ev" <;>exact q
theorem Zu4{Γ G}(g:Γ[14]?=some Rb):Rd K Γ G Tq Z30 Z66:=by
 rintro ds M Q Z ⟨a,k,r,v,rfl,hs,hn,q⟩
 obtain⟨nl,hl,hna,hr⟩:=id hn
 delta Z30 Z66
 walk_at "ev"
 have nz:∀c m:Int,0<m→∃n:Nat,qdiv (qmod c m) 8=n:=by
  intro c m hm
  rw[qm hm,qd (by decide)]
  exact⟨(c % m / 8).toNat,by have:=Int.ediv_nonneg (Ip c (show m≠0 by omega)) (show(0:Int)≤8 by decide);omega⟩
 obtain⟨n1,e1⟩:=nz (v * 16807) 2147483563 (by decide)
 obtain⟨n2,e2⟩:=nz (v * 39373) 2147483543 (by decide)
 simp only[g]
 refine⟨mulR (by decide) (by decide),Zf (by decide) (by decide),a,k,r,n1,by rw[e1],hs,hn,fun o1 h1=>?_⟩
 refine⟨mulR (by decide) (by decide),Zf (by decide) (by decide),a,k+1,r,n2,by rw[e2];rfl,hs,hn,fun o2 h2=>?_⟩
 split
 ·rename_i h4
  refine⟨Z0 (by decide),Zf (by decide) (by decide),ix_m (Zd _ _ []) rfl (by decide) fun d hd=>?_⟩
  have:∃s:Str,d= .str s∧s∈two:=by
   simp only[Aq,Db,or_false] at hd
   rcases hd with rfl | rfl<;>exact⟨_,rfl,by decide+kernel⟩
  obtain⟨s,rfl,hs2⟩:=this
  exact⟨Z0 (by decide),q (.cond o1 s o2) _ (fun _ _ _=>⟨h1,hs2,h2⟩) rfl (fun _=>by rw[qm (by decide)] at h4;omega) (Ks.new _ _)⟩
 ·delta Nn
  walk_at "ev"
  refine⟨Z0 (by decide),Zf (by decide) (by decide),ix_m (Zd _ _ []) rfl (by decide) fun d hd=>?_⟩
  have:∃s:Str,d= .str s∧s∈six:=by
   simp only[Aq,Db,or_false] at hd
   rcases hd with rfl | rfl | rfl | rfl | rfl | rfl<;>exact⟨_,rfl,by decide+kernel⟩
  obtain⟨s,rfl,hs6⟩:=this
  refine⟨Zf (by decide) (by decide),ix_m (Zh hr) (by rw[Ab,hl];rfl) (by rw[Ab];omega) fun d hd=>?_⟩
  obtain⟨x,hx,rfl⟩:=Hw.mp hd
  exact⟨Z0 (by decide),q (.sum x o1 s o2) _ (fun _ _ _=>⟨hna x hx,h1,hs6,h2⟩) rfl (fun z=>by cases z) (Ks.new _ _)⟩
end
section
variable{K:Af}
theorem Zd3{Γ G}(g:Γ[9]?=some C9):Rd K Γ G Sn Fx F4:=by
 rintro ds M Q Z ⟨a,ns,rfl,hr,hl,q⟩
 delta Fx F4
 walk_at "ev"
 simp only[g]
 refine⟨a,911,rfl,⟨ns,hr,hl⟩,by decide,fun v hv ev=>?_⟩
 have ev:=ev ns hr
 walk_at "ev"
 rw[qd (by decide),qm (by decide),qm (by decide),ev]
 have q0:=q (M++[.lst [.int (mixI ns 911 / 8 % 10000),.int 0,.int 9999]]) (Ks.new _ _)
 unfold Xj at q0
 have m0:0≤mixI ns 911:=by omega
 have m1:=Ip (mixI ns 911) (show(3:Int)≠0 by decide)
 have m2:=Kc (mixI ns 911) (show(0:Int)<3 by decide)
 have m3:0≤mixI ns 911 / 8 % 10000:=Ip _ (by decide)
 generalize mixI ns 911 / 8 % 10000=x at q0 m3 ⊢
 refine⟨Zf (by decide) (by decide),Z0 (by decide),?_⟩
 generalize mixI ns 911 % 3=y at q0 m1 m2 ⊢
 obtain rfl | rfl | rfl:y=0∨y=1∨y=2:=by omega
 ·refine ix_l (k:=0) (Zd _ _ []) rfl ?_
  have e:((([x,0,9999].getD (0:Int).toNat 0).toNat:Nat):Int)=x:=by show((x.toNat:Nat):Int)=x;omega
  rw[e] at q0
  exact q0
 ·exact ix_l (k:=1) (Zd _ _ []) rfl q0
 ·exact ix_l (k:=2) (Zd _ _ []) rfl q0
theorem Y45{ss:List (Tp×Int)}{i:Nat}{d:D}(h:(ss.map seD)[i]?=some d):∃x:Tp×Int,x∈ss∧d=seD x:=by
 rw[Ai] at h
 cases e:ss[i]? with
 | none=>rw[e] at h;cases h
 | some x=>rw[e] at h;cases h;exact⟨x,Dx e,rfl⟩
theorem Y29{t:Tp}(h:t.s="round"):t= .crd:=by
 cases t with
 | crd=>rfl
 | _=>exact absurd h (by decide+kernel)
theorem Zw3{Γ G}:Rd K Γ G Sx Z65 Za2:=by
 rintro ds M Q Z ⟨r,v,ss,rfl,hr,hl,q⟩
 have comp:∀(M0:Z2) (cd:DT) (p:Tp×Int→Bool) (F:Z2→Prop),Zc M0 r=some (ss.map seD)→(∀M1 (x:Tp×Int) (B:Bool→Z2→Prop),B (p x) M1→cd [some (seD x)] M1 B)→
   (∀(ns:List Int) M',Kp M0 M'→Z4 M' M0.length=some (ns.map .int)→ns.length≤1000→(∀n∈ns,∃x∈ss,p x=true∧x.2=n)→F M')→O0 (.lst r) (ss.map seD) [0] cd (te ⟨K,Γ,G⟩ noX (.ix (.var 0) (.int 1))) M0.length (ss.map seD) [none] (M0++[.lst []]) F:=by
  intro M0 cd p F h0 hcd fin
  refine Yi (fun i σ M'=>∃(d:Option D) (ns:List Int),σ=[d]∧Kp M0 M'∧Z4 M' M0.length=some (ns.map .int)∧ns.length≤i∧∀n∈ns,∃x∈ss,p x=true∧x.2=n) ⟨none,[],rfl,Ks.new _ _,Z5 _ _ [],Nat.le_refl _,fun n hn=>by cases hn⟩ ?_ ?_ ?_
  ·rintro i σ M' _ ⟨d,ns,rfl,k,e,l⟩
   exact k.pL h0
  ·rintro i d σ M' C hd ⟨d0,ns,rfl,k,e,l,lm⟩ hC
   obtain⟨x,hxm,rfl⟩:=Y45 hd
   rw[tg_one]
   refine hcd _ _ _ ?_
   cases hb:p x with
   | false=>exact hC _ _ ⟨_,ns,rfl,k,e,by omega,lm⟩
   | true=>
    have hi:=(Ac.mp hd).1
    rw[Ab] at hi
    rw[if_pos rfl]
    simp only[seD]
    walk_at "ev"
    refine⟨_,e,Z3 (by rw[Ab];omega),hC _ _ ⟨_,ns++[x.2],rfl,k.set (.inr (Nat.le_refl _)),?_,by rw[Ae,Aj];omega,fun n hn=>?_⟩⟩
    ·rw[Z9 (Z6 (Z1 e)),Ao]
     rfl
    ·rcases Az.mp hn with hn | hn
     ·exact lm n hn
     ·rw[Am] at hn
      exact⟨x,hxm,hb,hn.symm⟩
  ·rintro σ M' ⟨d,ns,rfl,k,e,l,lm⟩
   rw[Ab] at l
   exact fin ns M' k e (by omega) lm
 delta Z65 Za2
 walk_at "ev"
 refine⟨_,hr,comp M _ (fun x=>decide (0≤x.2)) _ hr ?_ fun ns M1 k1 e1 l1 m1=>?_⟩
 ·intro M1 x B hB
  simp only[seD]
  walk_at "ev"
  exact hB
 try walk_at "ev"
 have hr1:=k1.pL hr
 refine⟨_,hr1,comp M1 _ (fun x=>decide (x.1.s="round")) _ hr1 ?_ fun ms M2 k2 e2 l2 m2=>?_⟩
 ·intro M1 x B hB
  simp only[seD]
  walk_at "ev"
  exact hB
 have k12:Kp M M2:=k1.trans k2
 have e1':=k2.pW e1
 have fin:∀M3,Kp M M3→Z4 M3 M.length=some (ns.map .int)→tss ⟨K,Γ,G⟩ noX Rq {nx:=fun _ M=>Q .non M,rt:=Q} [some (.ref r),some (.int v),some (.ref M.length),some (.ref M1.length)] M3:=by
  intro M3 k3 e3
  delta Rq
  walk_at "ev"
  refine⟨Z0 (by decide),Tl (Zh (Z1 e3)) (Zd _ _ []) ?_⟩
  try walk_at "ev"
  have k4:Kp M (M3++[.lst []]):=k3.app _
  cases ns with
  | nil=>exact(q _ k4).1
  | cons n ns=>
   simp only[Nv,Dd,List.isEmpty_cons]
   walk_at "ev"
   refine⟨Zf (by decide) (by decide),Zb (Zh (Z1 e3)) ?_⟩
   walk_at "ev"
   refine⟨by simp only[Ab,Ar];omega,ix_m (Zh (Z1 e3)) (by simp) (Nat.succ_pos _) fun d hd=>?_⟩
   obtain⟨i,hi,rfl⟩:=Hw.mp hd
   obtain⟨x,hx1,hx2,hx3⟩:=m1 i hi
   exact⟨Z0 (by decide),(q _ k4).2 (.lve i) (fun _ _=>⟨x.1,by rw[←hx3];exact hx1,by rw[←hx3];exact of_decide_eq_true hx2⟩) rfl rfl⟩
 try walk_at "ev"
 split
 ·refine⟨Z0 (by decide),Tl (Zh (Z1 e2)) (Zd _ _ []) ?_⟩
  have k4:Kp M (M2++[.lst []]):=k12.app _
  cases ms with
  | nil=>exact fin _ k4 (Z8 e1')
  | cons n ms=>
   simp only[Dd,List.isEmpty_cons]
   try walk_at "ev"
   refine⟨Zf (by decide) (by decide),Zb (Zh (Z1 e2)) ?_⟩
   walk_at "ev"
   refine⟨by simp only[Ab,Ar];omega,ix_m (Zh (Z1 e2)) (by simp) (Nat.succ_pos _) fun d hd=>?_⟩
   obtain⟨i,hi,rfl⟩:=Hw.mp hd
   obtain⟨⟨t,x⟩,hx1,hx2,hx3⟩:=m2 i hi
   have ht:t= .crd:=Y29 (of_decide_eq_true hx2)
   subst ht
   exact⟨Z0 (by decide),(q _ k4).2 (.agn i) (fun _ _=>by rw[←hx3];exact hx1) rfl rfl⟩
 ·exact fin _ k12 e1'
theorem Zf1{Γ G}:Rd K Γ G Vu Ey Fb:=by
 rintro ds M Q Z ⟨r,v,ss,x,rfl,hr,hl,q⟩
 have lt:=Z6 (Z1 hr)
 delta Ey Fb
 walk_at "ev"
 have el:((ss++[x]).map seD)[((ss++[x]).map seD).length - 1]?=some (seD x):=by
  rw[Ao,Ae]
  simp
 refine⟨Z7 (Z1 hr),_,_,hr,el,?_⟩
 have dl:((ss++[x]).map seD).dropLast=ss.map seD:=by rw[Ao];simp
 rw[dl]
 have e1:Z4 (M.set r (.lst (ss.map seD))) r=some (ss.map seD):=Z9 lt
 have k1:Ks (·=r) M (M.set r (.lst (ss.map seD))):=(Ks.refl M).set (.inl rfl)
 have don:tss ⟨K,Γ,G⟩ noX Vy {nx:=fun _ M=>Q .non M,rt:=Q} [some (.ref r),some (.int v),some (seD x)] (M.set r (.lst (ss.map seD))):=by
  delta Vy
  walk_at "ev"
  exact⟨Z0 (by decide),q .don ss _ (fun _ _ _=>trivial) ⟨x,rfl⟩ (by omega) k1 e1⟩
 obtain⟨t,n⟩:=x
 cases t with
 | cif=>
  simp only[seD,Tp.s]
  walk_at "ev"
  refine⟨Zf (by decide) (by decide),?_⟩
  split
  ·refine⟨Z7 (Z1 e1),Z0 (by decide),_,e1,Z3 (by rw[Ab];omega),Z0 (by decide),q .els (ss++[(.cel,-1)]) _ (fun _ _ _=>trivial) ⟨ss,n,rfl,rfl⟩ (by simp) (k1.set (.inl rfl)) ?_⟩
   rw[Z9 (Z6 (Z1 e1)),Ao]
   rfl
  ·exact don
 | _=>
  simp only[seD,Tp.s]
  walk_at "ev"
  exact don
end
section
variable{K:Af}{Γ:List DSp}{G:List D}{a k nm r v w:Nat}{ss:List (Tp×Int)}{ns:List Int}{M0:Z2}{Q:DK}
theorem Zt7{α:Type}(xs:List α)(x:α):atI (xs++[x]) (-1)=some x:=by
 unfold atI ixN
 rw[if_neg (by decide),if_pos (by rw[Ae,Aj];omega)]
 show(xs++[x])[_]?=some x
 rw[show(-1+((xs++[x]).length:Int)).toNat=xs.length by rw[Ae,Aj];omega]
 simp
def Sw(ns:List Int)(k r:Nat)(ss:List (Tp×Int))(M0:Z2)(Q:DK):Prop:=∀(l:Ln) (ss':List (Tp×Int)) M',l.ok (Xj ns) k ss→nxt ss l ss'→ss'.length≤60→Ks (·=r) M0 M'→Z4 M' r=some (ss'.map seD)→Q l.d M'
structure Sa(ns:List Int)(a nm r:Nat)(ss:List (Tp×Int))(M0 M:Z2):Prop where
 k:Kp M0 M
 s:Zc M a=some (ns.map .int)
 ln:ns.length≤63
 n:Nms M nm
 e:Z4 M r=some (ss.map seD)
 l:ss.length≤60
theorem Sa.mv{M M':Z2}(h:Sa ns a nm r ss M0 M)(k:Kp M M'):Sa ns a nm r ss M0 M':=⟨h.k.trans k,k.pL h.s,h.ln,h.n.ks k fun z=>z,k.pW h.e,h.l⟩
noncomputable abbrev Se6(a k nm r v w:Nat)(d:D):DEnv:=[some (.ref a),some (.int k),some (.ref nm),some (.ref r),some (.int v),some (.int w),some d]
theorem Bg{l:Ln}(h:isDd l=true):l.pl=true:=by cases l<;>first | rfl | cases h
theorem st_2(g:Γ[15]?=some Y8){l:Ln}{M:Z2}(hl:l.pl=true)(ho:l.ok (Xj ns) k ss)(hb:l.beg=true→ss.length<60)(S:Sa ns a nm r ss M0 M)(q:Sw ns k r ss M0 Q):tss ⟨K,Γ,G⟩ noX Rf {nx:=fun _ M=>Q .non M,rt:=Q} (Se6 a k nm r v w l.d) M:=by
 have kr:Ks (·=r) M0 M:=S.k.mono fun _ _ z=>z.elim
 have put:∀(M1:Z2) (l:Ln) (x:Tp×Int),Kp M M1→l.ok (Xj ns) k ss→ss.length<60→nxt ss l (ss++[x])→tss ⟨K,Γ,G⟩ noX Xw {nx:=fun _ M=>Q .non M,rt:=Q} (Se6 a k nm r v w l.d) (M1.set r (.lst (ss.map seD++[seD x]))):=by
  intro M1 l x k1 e1 e2 e3
  delta Xw
  walk_at "ev"
  refine q l (ss++[x]) _ e1 e3 (by rw[Ae,Aj];omega) ((S.k.trans k1).mono (fun _ _ z=>z.elim) |>.set (.inl rfl)) ?_
  rw[Z9 (Z6 (Z1 (k1.pW S.e))),Ao]
  rfl
 have stay:nxt ss l ss→tss ⟨K,Γ,G⟩ noX Xw {nx:=fun _ M=>Q .non M,rt:=Q} (Se6 a k nm r v w l.d) M:=by
  intro e1
  delta Xw
  walk_at "ev"
  exact q l ss _ ho e1 S.l kr S.e
 delta Rf
 walk_at "ev"
 simp only[g]
 refine⟨l,rfl,?_⟩
 walk_at "ev"
 have hz:=S.l
 cases l with
 | cond x s y=>
  simp only[Ln.beg,Ln.d]
  walk_at "ev"
  refine⟨Z7 (Z1 S.e),Z0 (by decide),?_⟩
  refine ix_l (k:=1) (xs:=[x.d,.int (-1)]) (Zd _ _ []) rfl ⟨Z0 (by decide),_,Z8 S.e,Z3 (by rw[Ab];omega),?_⟩
  exact put (M++[.lst [x.d,.int (-1)]]) (.cond x s y) (.cif,-1) (Ks.new _ _) ho (hb rfl) rfl
 | rnd n=>
  simp only[Ln.beg,Ln.d]
  walk_at "ev"
  refine⟨Z7 (Z1 S.e),Z0 (by decide),?_⟩
  refine ix_l (k:=0) (xs:=[.int n,.int (-1)]) (Zd _ _ []) rfl ⟨Z0 (by decide),_,Z8 S.e,Z3 (by rw[Ab];omega),?_⟩
  exact put (M++[.lst [.int n,.int (-1)]]) (.rnd n) (.crd,n) (Ks.new _ _) ho (hb rfl) rfl
 | prt n=>
  simp only[Ln.beg,Ln.d]
  walk_at "ev"
  refine⟨Z7 (Z1 S.e),Z0 (by decide),?_⟩
  refine ix_l (k:=0) (xs:=[.int n,.int (-1)]) (Zd _ _ []) rfl ⟨Z0 (by decide),_,Z8 S.e,Z3 (by rw[Ab];omega),?_⟩
  exact put (M++[.lst [.int n,.int (-1)]]) (.prt n) (.cpt,n) (Ks.new _ _) ho (hb rfl) rfl
 | els=>cases hl
 | don=>cases hl
 | _=>exact stay rfl
def Lo(ns:List Int)(k:Nat)(ss:List (Tp×Int))(d:D):Prop:=d= .non∨∃l:Ln,l.pl=true∧l.ok (Xj ns) k ss∧(l.beg=true→ss.length<60)∧d=l.d
theorem st_3(g:Γ[15]?=some Y8)(gd:Γ[16]?=some Tq){d:D}{M:Z2}(hd:Lo ns k ss d)(S:Sa ns a nm r ss M0 M)(q:Sw ns k r ss M0 Q):tss ⟨K,Γ,G⟩ noX V7 {nx:=fun _ M=>Q .non M,rt:=Q} (Se6 a k nm r v w d) M:=by
 delta V7
 rcases hd with rfl | ⟨l,hl,ho,hb,rfl⟩
 ·walk_at "ev"
  simp only[gd]
  obtain⟨u,hu,hu2⟩:∃u:Nat,qdiv (v:Int) 24 * 24+18=u∧u % 24=18:=by
   rw[qd (by decide)]
   exact⟨((v:Int) / 24 * 24+18).toNat,by omega,by omega⟩
  refine⟨Zf (by decide) (by decide),mulR (by decide) (by decide),a,k,nm,u,by rw[hu],⟨ns,S.s,S.ln⟩,S.n,fun l M' hl hd hb k'=>?_⟩
  try walk_at "ev"
  exact st_2 g (Bg hd) (hl _ _ _) (fun z=>absurd (hb z) (by omega)) (S.mv k') q
 ·have key:=st_2 (K:=K) (G:=G) (k:=k) (v:=v) (w:=w) g hl ho hb S q
  cases l<;>simp only[Ln.d] at key ⊢ <;>walk_at "ev" <;>exact key
theorem st_4(g:Γ[15]?=some Y8)(gd:Γ[16]?=some Tq){d:D}{M:Z2}(hd:Lo ns k ss d)(S:Sa ns a nm r ss M0 M)(q:Sw ns k r ss M0 Q):tss ⟨K,Γ,G⟩ noX W0 {nx:=fun _ M=>Q .non M,rt:=Q} (Se6 a k nm r v w d) M:=by
 have nx:∀{d:D} {M:Z2},Lo ns k ss d→Sa ns a nm r ss M0 M→tss ⟨K,Γ,G⟩ noX V7 {nx:=fun _ M=>Q .non M,rt:=Q} (Se6 a k nm r v w d) M:=fun hd S=>st_3 g gd hd S q
 delta W0
 walk_at "ev"
 split
 ·refine⟨Z0 (by decide),Tl (Zh (Z1 S.e)) (Zd _ _ []) ?_⟩
  have S1:Sa ns a nm r ss M0 (M++[.lst []]):=S.mv (Ks.new _ _)
  rcases Hz ss with rfl | ⟨tl,x,rfl⟩
  ·exact nx hd S1
  ·have e1:((tl.concat x).map seD).isEmpty=false:=by simp
   rw[e1,if_pos rfl]
   refine Wo (Z1 S1.e) (show atI ((tl.concat x).map seD) (-1)=some (seD x) by rw[Ia,Ao];exact Zt7 _ _) ?_
   simp only[seD]
   walk_at "ev"
   refine⟨Z0 (by decide),.inl ⟨_,Zd _ _ [],rfl,rfl,?_⟩⟩
   have S2:=S1.mv (Ks.new (M++[.lst []]) [.lst [.str "if",.str "else"]])
   dsimp only
   split
   ·exact⟨Z0 (by decide),nx (d:=(Ln.fin).d) (.inr ⟨.fin,rfl,trivial,(fun z=>by cases z),rfl⟩) S2⟩
   ·exact nx hd S2
 ·exact nx hd S
theorem st_5(g:Γ[15]?=some Y8)(gd:Γ[16]?=some Tq)(gg:Γ[17]?=some Sx){d:D}{M:Z2}(hd:Lo ns k ss d)(S:Sa ns a nm r ss M0 M)(q:Sw ns k r ss M0 Q):tss ⟨K,Γ,G⟩ noX W1 {nx:=fun _ M=>Q .non M,rt:=Q} (Se6 a k nm r v w d) M:=by
 have nx:∀{d:D} {M:Z2},Lo ns k ss d→Sa ns a nm r ss M0 M→tss ⟨K,Γ,G⟩ noX W0 {nx:=fun _ M=>Q .non M,rt:=Q} (Se6 a k nm r v w d) M:=fun hd S=>st_4 g gd hd S q
 delta W1
 walk_at "ev"
 simp only[gg]
 have hz:=S.l
 have go:Sx [.ref r,.int v] M (fun d' M'=>tss ⟨K,Γ,G⟩ noX W0 {nx:=fun _ M=>Q .non M,rt:=Q} (Se6 a k nm r v w d') M') noX:=
  ⟨r,v,ss,rfl,Z1 S.e,by omega,fun M' k'=>⟨nx (.inl rfl) (S.mv k'),fun l ho hl hb=>nx (.inr ⟨l,hl,ho _ _,(fun z=>by rw[hb] at z;cases z),rfl⟩) (S.mv k')⟩⟩
 split
 ·split
  ·exact go
  ·exact nx hd S
 ·exact nx hd S
theorem st_6(g:Γ[15]?=some Y8)(gd:Γ[16]?=some Tq)(gg:Γ[17]?=some Sx)(gc:Γ[19]?=some Vu){d:D}{M:Z2}(hd:Lo ns k ss d)(S:Sa ns a nm r ss M0 M)(q:Sw ns k r ss M0 Q):tss ⟨K,Γ,G⟩ noX Xr {nx:=fun _ M=>Q .non M,rt:=Q} (Se6 a k nm r v w d) M:=by
 have nx:∀{d:D} {M:Z2},Lo ns k ss d→Sa ns a nm r ss M0 M→tss ⟨K,Γ,G⟩ noX W1 {nx:=fun _ M=>Q .non M,rt:=Q} (Se6 a k nm r v w d) M:=fun hd S=>st_5 g gd gg hd S q
 delta Xr
 walk_at "ev"
 simp only[gc]
 have hz:=S.l
 have cl:sizeLine ≥ 0∧eqD (M++[.lst []]) (.ref r) (.ref M.length) fun b=>if b=false then Vu [.ref r,.int v] (M++[.lst []]) Q noX else tss ⟨K,Γ,G⟩ noX W1 {nx:=fun _ M=>Q .non M,rt:=Q} (Se6 a k nm r v w d) (M++[.lst []]):=by
  refine⟨Nat.zero_le _,Tl (Zh (Z1 S.e)) (Zd _ _ []) ?_⟩
  have S1:Sa ns a nm r ss M0 (M++[.lst []]):=S.mv (Ks.new _ _)
  rcases Hz ss with rfl | ⟨tl,x,rfl⟩
  ·exact nx hd S1
  ·have e1:((tl.concat x).map seD).isEmpty=false:=by simp
   rw[e1,if_pos rfl]
   rw[Ia] at S1 q hz
   refine⟨r,v,tl,x,rfl,S1.e,by rw[Ae] at hz;omega,fun l ss' M' h0 h1 h2 h3 h4=>q l ss' M' (h0 _ _ _) h1 (by rw[Ae,Aj] at hz;omega) ?_ h4⟩
   exact(S1.k.mono fun _ _ z=>z.elim).trans h3
 split
 ·split
  ·exact cl
  ·exact nx hd S
 ·exact nx hd S
theorem st_7(g:Γ[15]?=some Y8)(gd:Γ[16]?=some Tq)(gg:Γ[17]?=some Sx)(gc:Γ[19]?=some Vu)(gf:Γ[18]?=some Sn){d:D}{M:Z2}(hd:Lo ns k ss d)(S:Sa ns a nm r ss M0 M)(q:Sw ns k r ss M0 Q):tss ⟨K,Γ,G⟩ noX Vb {nx:=fun _ M=>Q .non M,rt:=Q} (Se6 a k nm r v w d) M:=by
 have nx:∀{d:D} {M:Z2},Lo ns k ss d→Sa ns a nm r ss M0 M→tss ⟨K,Γ,G⟩ noX Xr {nx:=fun _ M=>Q .non M,rt:=Q} (Se6 a k nm r v w d) M:=fun hd S=>st_6 g gd gg gc hd S q
 delta Vb
 walk_at "ev"
 simp only[gf]
 split
 ·split
  ·refine Zb (Z1 S.e) ?_
   walk_at "ev"
   split
   ·refine⟨Z0 (by decide),?_⟩
    have hlen:=Ab (as:=ss) seD
    have fin:∀(i:Nat) (c:Int→Ln),(∀n,(c n).pl=true)→(∀n,n=hm (Xj ns) k→(c n).ok (Xj ns) k ss)→(∀n:Int,(c n).d= .tup [[D.str "round",D.str "part"].getD i .non,.int n])→i<2→ixD (M++[.lst [.str "round",.str "part"]]) (.ref M.length) (.int (i:Nat)) fun d=>Sn [.ref a] (M++[.lst [.str "round",.str "part"]]) (fun x M1=>IntMulOk 97 (k:Int)∧opD .add x (.int (97 * (k:Int))) M1 fun x M1=>opD .mod x (.int 10000) M1 fun d1 M1=>2≤sizeLine∧tss ⟨K,Γ,G⟩ noX Xr {nx:=fun _ M=>Q .non M,rt:=Q} [some (.ref a),some (.int k),some (.ref nm),some (.ref r),some (.int v),some (.int w),some (.tup [d,d1])] M1) noX:=by
     intro i c h1 h0 h2 hi
     refine ix_l (k:=i) (d:=[D.str "round",D.str "part"].getD i .non) (Zd _ _ []) ?_ ?_
     ·rw[Dy,Ag (by simpa using hi)]
      rfl
     have S1:Sa ns a nm r ss M0 (M++[.lst [.str "round",.str "part"]]):=S.mv (Ks.new _ _)
     refine⟨a,ns,rfl,S1.s,S1.ln,fun M' k'=>⟨mulL (by decide) (by decide),?_⟩⟩
     walk_at "ev"
     refine⟨Z0 (by decide),?_⟩
     rw[←h2]
     exact nx (.inr ⟨_,h1 _,h0 _ (by unfold hm;rw[qm (by decide)];omega),(fun _=>by omega),rfl⟩) (S1.mv k')
    split
    ·exact fin 1 .prt (fun _=>rfl) (fun _ h=>h) (fun _=>rfl) (by decide)
    ·exact fin 0 .rnd (fun _=>rfl) (fun _ h=>h) (fun _=>rfl) (by decide)
   ·exact nx hd S
  ·exact nx hd S
 ·exact nx hd S
theorem Zw1(gm:Γ[9]?=some C9)(g:Γ[15]?=some Y8)(gd:Γ[16]?=some Tq)(gg:Γ[17]?=some Sx)(gc:Γ[19]?=some Vu)(gf:Γ[18]?=some Sn):Rd K Γ G Z52 Z16 Bl:=by
 rintro ds M Q Z ⟨a,k,nm,r,ss,ns,rfl,hs,hln,hn,_,_,hk,he,hl,q⟩
 have S:Sa ns a nm r ss M M:=⟨Ks.refl M,hs,hln,hn,he,hl⟩
 delta Z16 Bl
 walk_at "ev"
 simp only[gm]
 refine⟨a,k,rfl,⟨ns,hs,hln⟩,by omega,fun v hv _=>?_⟩
 walk_at "ev"
 rw[qm (by decide)]
 obtain⟨w,hw⟩:∃w:Nat,(v:Int) % 24=w:=⟨((v:Int) % 24).toNat,by omega⟩
 rw[hw]
 have nx:∀{d:D} {M':Z2},Lo ns k ss d→Sa ns a nm r ss M M'→tss ⟨K,Γ,G⟩ noX Vb {nx:=fun _ M=>Q .non M,rt:=Q} (Se6 a k nm r v w d) M':=fun hd S=>st_7 g gd gg gc gf hd S q
 split
 ·refine Zb (Z1 S.e) ?_
  walk_at "ev"
  split
  ·simp only[gd]
   have hlen:=Ab (as:=ss) seD
   exact⟨a,k,nm,v,rfl,⟨ns,hs,hln⟩,hn,fun l M' hl hd hb k'=>nx (.inr ⟨l,Bg hd,hl _ _ _,(fun _=>by omega),rfl⟩) (S.mv k')⟩
  ·exact nx (.inl rfl) S
 ·exact nx (.inl rfl) S
end
def Gv:DSp:=fun ds M Q _=>∃(a many:Nat) (ns:List Int),ds=[.ref a,.int many]∧Zc M a=some (ns.map .int)∧ns.length≤63∧many≤60∧∀(ls:List Ln) M' r,Dr (Xj ns) 0 [] ls []→ls.length≤120→many≤ls.length→Kp M M'→Z4 M' r=some (ls.map Ln.d)→M.length≤r→Q (.ref r) M'
section
variable{K:Af}{Γ:List DSp}{G:List D}
theorem Zc6(gn:Γ[13]?=some Gq)(gs:Γ[20]?=some Z52):Rd K Γ G Gv Ei Eu:=by
 rintro ds M Q Z ⟨a,many,ns,rfl,hs,hln,hm,q⟩
 have ha:a<M.length:=Z6 hs
 delta Ei Eu
 walk_at "ev"
 simp only[gn]
 refine⟨a,rfl,⟨ns,hs,hln⟩,fun nl M1 nm hl hnm0 k1 en=>?_⟩
 walk_at "ev"
 refine⟨Z0 (by decide),Z0 (by decide),by omega,by omega,?_⟩
 rw[Hy,Bs]
 have hnm:=Z6 en
 refine Yu (fun i σ M'=>∃(d:Option D) (ls:List Ln) (ss:List (Tp×Int)),σ=[some (.ref a),some (.int many),some (.ref nm),some (.ref M1.length),some (.ref (M1.length+1)),d]∧Kp M1 M'∧Z4 M' M1.length=some (ls.map Ln.d)∧Z4 M' (M1.length+1)=some (ss.map seD)∧Dr (Xj ns) 0 [] ls ss∧ls.length=i∧ss.length≤60)
  ⟨none,[],[],by simp,Ks.new _ _,Z5 _ _ _,X6 _ _ 1,rfl,rfl,Nat.zero_le _⟩ ?_ ?_
 ·rintro i σ M' C hi ⟨d,ls,ss,rfl,k,e1,e2,er,l1,l2⟩ hC
  (delta Ps;simp only[Kr])
  walk_at "ev"
  simp only[gs]
  refine⟨Z7 (Z1 e1),a,i,nm,M1.length+1,ss,ns,rfl,(k1.trans k).pL hs,hln,⟨nl,hl,hnm0,k.pL en⟩,by have:=k1.len;omega,by omega,by omega,e2,l2,fun l ss' M2 h0 h1 h2 h3 h4=>?_⟩
  have e1':Z4 M2 M1.length=some (ls.map Ln.d):=h3.W (by omega) e1
  walk_at "ev"
  refine⟨_,e1',Z3 (by rw[Ab];omega),hC _ _ ⟨_,ls++[l],ss',rfl,?_,?_,?_,?_,by simp;omega,h2⟩⟩
  ·exact⟨fun b n hb=>by
    rw[Ds (by omega),h3.at' b (by omega) (Nat.lt_of_lt_of_le hb k.len)]
    exact k.at' b n hb,by rw[Dt];exact Nat.le_trans k.len h3.len⟩
  ·rw[Z9 (Z6 (Z1 e1')),Ao]
   rfl
  ·rw[Za (by omega)]
   exact h4
  ·exact er.snoc (by rw[l1,Nat.zero_add];exact h0) h1 h2
 ·rintro σ M' ⟨d,ls,ss,rfl,k,e1,e2,er,l1,l2⟩
  delta Qs
  refine U.O8 (c:=⟨K,Γ,G⟩) (X:=noX) (fun σ M'=>∃(ls:List Ln) (ss:List (Tp×Int)),σ=[some (.ref a),some (.int many),some (.ref nm),some (.ref M1.length),some (.ref (M1.length+1)),d]∧Kp M1 M'∧Z4 M' M1.length=some (ls.map Ln.d)∧Z4 M' (M1.length+1)=some (ss.map seD)∧Dr (Xj ns) 0 [] ls ss∧ls.length+ss.length≤120∧many≤ls.length∧ss.length≤60) (fun σ M'=>((Z4 M' (M1.length+1)).getD []).length) ⟨ls,ss,rfl,k,e1,e2,er,by omega,by omega,l2⟩ ?_
  rintro σ M' ⟨ls,ss,rfl,k,e1,e2,er,l1,l0,l2⟩
  walk_at "ev"
  refine⟨Z0 (by decide),Tl (Zh (Z1 e2)) (Zd _ _ []) ?_⟩
  try walk_at "ev"
  have k':Kp M1 (M'++[.lst []]):=k.app _
  have e1':=Z8 (N:=[.lst []]) e1
  have e2':=Z8 (N:=[.lst []]) e2
  rcases Hz ss with rfl | ⟨tl,x,rfl⟩
  ·simp only[Qr,Le,List.isEmpty_nil]
   walk_at "ev"
   exact q ls _ _ er (by simp at l1;omega) l0 (k1.trans k') e1' k1.len
  ·rw[Ia] at e2' er l1 l2 e2 ⊢
   have en1:((tl++[x]).map seD).isEmpty=false:=by simp
   rw[en1]
   delta Ql
   walk_at "ev"
   have el:((tl++[x]).map seD)[((tl++[x]).map seD).length - 1]?=some (seD x):=by rw[Ao,Ae];simp
   have dl:((tl++[x]).map seD).dropLast=tl.map seD:=by rw[Ao];simp
   have lt2:=Z6 (Z1 e2')
   refine⟨Z7 (Z1 e2'),_,_,e2',el,?_⟩
   rw[dl]
   have e3:Z4 (Ha (M'++[Cell.lst []]) (M1.length+1) (Cell.lst (tl.map seD))) M1.length=some (ls.map Ln.d):=by rw[Za (by omega)];exact e1'
   simp only[Ae,Aj] at l1 l2
   refine⟨Z7 (Z1 e3),Z0 (by decide),_,e3,Z3 (by rw[Ab];omega),⟨ls++[.don],tl,(k'.set (.inr (by omega))).set (.inr (Nat.le_refl _)),?_,?_,?_,by simp;omega,by simp;omega,by omega⟩,?_⟩
   ·rw[Z9 (Z6 (Z1 e3)),Ao]
    rfl
   ·rw[Za (by omega)]
    exact Z9 lt2
   ·exact er.snoc trivial ⟨x,rfl⟩ (by omega)
   ·rw[Za (by omega),Z9 lt2,e2]
    simp
end
inductive T where
 | leaf (l:Ln) | home (r:Bool) (n:Int) (b:List T) | cho (a:Opd) (s:Str) (b:Opd) (y n:List T)
structure Fr where
 h:Option Ln
 y:Option (List T)
 n:List T
noncomputable def Fr.mk'(f:Fr):T:=match f.h with
 | some (.rnd k)=> .home true k f.n
 | some (.prt k)=> .home false k f.n
 | some (.cond a s b)=>match f.y with
  | none=> .cho a s b f.n []
  | some y=> .cho a s b y f.n
 | _=> .leaf .fin
noncomputable def nst(fs:List Fr)(l:Ln):List Fr:=match l with
 | .cond a s b=>⟨some (.cond a s b),none,[]⟩::fs
 | .rnd n=>⟨some (.rnd n),none,[]⟩::fs
 | .prt n=>⟨some (.prt n),none,[]⟩::fs
 | .els=>match fs with
  | f::r=>⟨f.h,some f.n,[]⟩::r
  | []=>[]
 | .don=>match fs with
  | f::g::r=>⟨g.h,g.y,g.n++[f.mk']⟩::r
  | r=>r
 | l=>match fs with
  | f::r=>⟨f.h,f.y,f.n++[.leaf l]⟩::r
  | []=>[]
noncomputable def fr0:Fr:=⟨none,none,[]⟩
noncomputable def nest(ls:List Ln):List T:=match ls.foldl nst [fr0] with
 | [f]=>f.n
 | _=>[]
def Fr.is(f:Fr):Tp→Prop
 | .cif=>f.y=none∧∃a s b,f.h=some (.cond a s b)
 | .cel=>f.y.isSome=true∧∃a s b,f.h=some (.cond a s b)
 | .crd=>f.y=none∧∃n,f.h=some (.rnd n)
 | .cpt=>f.y=none∧∃n,f.h=some (.prt n)
def Fss:List Tp→List Fr→Prop
 | [],fs=>∃n,fs=[⟨none,none,n⟩]
 | t::ts,fs=>∃f r,fs=f::r∧f.is t∧Fss ts r
theorem Fss.top{ts:List Tp}{fs:List Fr}(h:Fss ts fs):∃f r,fs=f::r∧∀n,Fss ts (⟨f.h,f.y,n⟩::r):=by
 cases ts with
 | nil=>obtain⟨n,rfl⟩:=h;exact⟨_,_,rfl,fun n=>⟨n,rfl⟩⟩
 | cons t ts=>obtain⟨f,r,rfl,h1,h2⟩:=h;exact⟨f,r,rfl,fun n=>⟨_,_,rfl,by cases t<;>exact h1,h2⟩⟩
theorem Zc0{ts ts':List Tp}(h:stp ts .els=some ts'):∃r,ts= .cif::r∧ts'= .cel::r:=by
 match ts,h with
 | .cif::ts,h=>cases h;exact⟨ts,rfl,rfl⟩
theorem G5{ts ts':List Tp}(h:stp ts .don=some ts'):∃t,ts=t::ts':=by
 match ts,h with
 | t::ts,h=>cases h;exact⟨t,rfl⟩
theorem Fss.step{fs:List Fr}{ts ts':List Tp}{l:Ln}(h:Fss ts fs)(e:stp ts l=some ts'):Fss ts' (nst fs l):=by
 cases l with
 | cond a s b=>cases e;exact⟨_,_,rfl,⟨rfl,a,s,b,rfl⟩,h⟩
 | rnd n=>cases e;exact⟨_,_,rfl,⟨rfl,n,rfl⟩,h⟩
 | prt n=>cases e;exact⟨_,_,rfl,⟨rfl,n,rfl⟩,h⟩
 | els=>
  obtain⟨r,rfl,rfl⟩:=Zc0 e
  obtain⟨f,fr,rfl,h1,h2⟩:=h
  exact⟨_,_,rfl,⟨rfl,h1.2⟩,h2⟩
 | don=>
  obtain⟨t,rfl⟩:=G5 e
  obtain⟨f,fr,rfl,h1,h2⟩:=h
  obtain⟨g,r,rfl,h3⟩:=h2.top
  exact h3 _
 | _=>
  cases e
  obtain⟨g,r,rfl,h3⟩:=h.top
  exact h3 _
theorem Fss.run{ls:List Ln}:∀{fs:List Fr} {ts ts':List Tp},Fss ts fs→run ts ls=some ts'→Fss ts' (ls.foldl nst fs):=by
 induction ls with
 | nil=>intro fs ts ts' h e;cases e;exact h
 | cons l ls ih=>
  intro fs ts ts' h e
  change (stp ts l).bind _=_ at e
  cases e1:stp ts l with
  | none=>rw[e1] at e;cases e
  | some t=>rw[e1] at e;exact ih (h.step e1) e
theorem Ow{ls:List Ln}(h:run [] ls=some []):ls.foldl nst [fr0]=[⟨none,none,nest ls⟩]:=by
 obtain⟨n,h1⟩:=Fss.run (fs:=[fr0]) (ts:=[]) ⟨[],rfl⟩ h
 unfold nest
 rw[h1]
mutual
noncomputable def fl:T→List Ln
 | .leaf l=>[l]
 | .home r n b=>(if r then .rnd n else .prt n)::(fls b++[.don])
 | .cho a s b y n=> .cond a s b::(fls y++((match n with | []=>[] | t::ts=> .els::(fl t++fls ts))++[.don]))
noncomputable def fls:List T→List Ln
 | []=>[]
 | t::ts=>fl t++fls ts
end
theorem Xp(xs ys:List T):fls (xs++ys)=fls xs++fls ys:=by
 induction xs with
 | nil=>rw[Lq];unfold fls;rfl
 | cons x xs ih=>rw[Ma];show fl x++fls (xs++ys)=(fl x++fls xs)++fls ys;rw[ih,Bs]
theorem Vv:fls []=[]:=rfl
theorem W7(t:T)(ts:List T):fls (t::ts)=fl t++fls ts:=rfl
theorem Zc1(l:Ln):fl (.leaf l)=[l]:=rfl
theorem O2(r:Bool)(n:Int)(b:List T):fl (.home r n b)=(if r then .rnd n else .prt n)::(fls b++[.don]):=rfl
theorem Oq(a:Opd)(s:Str)(b:Opd)(y:List T):fl (.cho a s b y [])= .cond a s b::(fls y++[.don]):=rfl
theorem Ge(a:Opd)(s:Str)(b:Opd)(y:List T)(t:T)(ts:List T):fl (.cho a s b y (t::ts))= .cond a s b::(fls y++(.els::fls (t::ts)++[.don])):=rfl
noncomputable def notE:Ln→Bool
 | .els=>false
 | _=>true
noncomputable def noE(ls:List Ln):List Ln:=ls.filter notE
mutual
def RT(C:Nat→Prop)(M:Z2):T→D→Prop
 | .leaf l,d=>d=l.d∧l.pl=true∧l.beg=false
 | .home r n b,d=>∃c ds,d= .tup [.str (if r then "round" else "part"),.int n,.ref c]∧C c∧Z4 M c=some ds∧RTs C M b ds
 | .cho a s b y n,d=>∃c1 c2 d1 d2,d= .tup [.str "choice",a.d,.str s,b.d,.ref c1,.ref c2]∧C c1∧C c2∧Z4 M c1=some d1∧RTs C M y d1∧Z4 M c2=some d2∧RTs C M n d2
def RTs(C:Nat→Prop)(M:Z2):List T→List D→Prop
 | [],ds=>ds=[]
 | t::ts,ds=>∃d r,ds=d::r∧RT C M t d∧RTs C M ts r
end
theorem Zp{M M':Z2}{a:Nat}(h:M'[a]?=M[a]?):Z4 M' a=Z4 M a:=by unfold Z4;rw[h]
mutual
theorem RT.keep{C C':Nat→Prop}{M M':Z2}(hC:∀c,C c→C' c)(k:∀c,C c→M'[c]?=M[c]?):∀{t:T} {d:D},RT C M t d→RT C' M' t d
 | .leaf l,d,h=>h
 | .home r n b,d,⟨c,ds,e,h1,h2,h3⟩=>⟨c,ds,e,hC c h1,by rw[Zp (k c h1)];exact h2,RTs.keep hC k h3⟩
 | .cho a s b y n,d,⟨c1,c2,d1,d2,e,h1,h2,h3,h4,h5,h6⟩=>⟨c1,c2,d1,d2,e,hC c1 h1,hC c2 h2,by rw[Zp (k c1 h1)];exact h3,RTs.keep hC k h4,by rw[Zp (k c2 h2)];exact h5,RTs.keep hC k h6⟩
theorem RTs.keep{C C':Nat→Prop}{M M':Z2}(hC:∀c,C c→C' c)(k:∀c,C c→M'[c]?=M[c]?):∀{ts:List T} {ds:List D},RTs C M ts ds→RTs C' M' ts ds
 | [],ds,h=>h
 | t::ts,ds,⟨d,r,e,h1,h2⟩=>⟨d,r,e,RT.keep hC k h1,RTs.keep hC k h2⟩
end
theorem RTs.len{C:Nat→Prop}{M:Z2}:∀{ts:List T} {ds:List D},RTs C M ts ds→ds.length=ts.length
 | [],ds,h=>by cases h;rfl
 | t::ts,ds,⟨d,r,e,h1,h2⟩=>by rw[e,Ar,Ar,RTs.len h2]
theorem RTs.app{C:Nat→Prop}{M:Z2}:∀{ts us:List T} {ds es:List D},RTs C M ts ds→RTs C M us es→RTs C M (ts++us) (ds++es)
 | [],us,ds,es,h,g=>by cases h;exact g
 | t::ts,us,ds,es,⟨d,r,e,h1,h2⟩,g=>by rw[e];exact⟨d,r++es,rfl,h1,RTs.app h2 g⟩
theorem RTs.one{C:Nat→Prop}{M:Z2}{t:T}{d:D}(h:RT C M t d):RTs C M [t] [d]:=⟨d,[],rfl,h,rfl⟩
structure CF where
 q:Nat
 n:Nat
 h:Option Ln
 y:Option (Nat×List T)
 t:List T
noncomputable def CF.hd(f:CF):D:=match f.h with
 | none=> .tup [.str "form"]
 | some l=>l.d
noncomputable def CF.yd(f:CF):D:=match f.y with
 | none=> .non
 | some (c,_)=> .ref c
noncomputable def CF.abs(f:CF):Fr:=⟨f.h,f.y.map (·.2),f.t⟩
structure CFok(C:Nat→Prop)(M:Z2)(f:CF):Prop where
 q:Z4 M f.q=some [f.hd,f.yd,.ref f.n]
 n:∃ds,Z4 M f.n=some ds∧RTs C M f.t ds
 y:∀c ts,f.y=some (c,ts)→C c∧∃ds,Z4 M c=some ds∧RTs C M ts ds
theorem CFok.keep{C C':Nat→Prop}{M M':Z2}{f:CF}(h:CFok C M f)(hC:∀c,C c→C' c)(k:∀c,C c→M'[c]?=M[c]?)(kq:M'[f.q]?=M[f.q]?)(kn:M'[f.n]?=M[f.n]?):CFok C' M' f:=by
 obtain⟨h1,⟨ds,h2,h3⟩,h4⟩:=h
 refine⟨by rw[Zp kq];exact h1,⟨ds,by rw[Zp kn];exact h2,h3.keep hC k⟩,fun c ts e=>?_⟩
 obtain⟨g1,ds,g2,g3⟩:=h4 c ts e
 exact⟨hC c g1,ds,by rw[Zp (k c g1)];exact g2,g3.keep hC k⟩
structure NI(M0:Z2)(p:Nat)(cfs:List CF)(C:Nat→Prop)(M:Z2):Prop where
 k:Kp M0 M
 o:Z4 M p=some (cfs.map fun f=> .ref f.q)
 ok:∀f∈cfs,CFok C M f
 d0:¬C p∧M0.length≤p
 d1:∀f∈cfs,f.q≠p∧f.n≠p∧f.q≠f.n∧¬C f.q∧¬C f.n∧M0.length≤f.q∧M0.length≤f.n
 d2:cfs.Pairwise fun f g=>f.q≠g.q∧f.q≠g.n∧f.n≠g.q∧f.n≠g.n
 cl:∀c,C c→M0.length≤c∧c<M.length
theorem CFok.lt{C:Nat→Prop}{M:Z2}{f:CF}(h:CFok C M f):f.q<M.length∧f.n<M.length:=by
 obtain⟨ds,h2,_⟩:=h.n
 exact⟨Z6 (Z1 h.q),Z6 (Z1 h2)⟩
theorem Y4{M:Z2}{a b:Nat}{c:Cell}(h:a≠b):(M.set a c)[b]?=M[b]?:=Ds h
theorem Rn{M N:Z2}{b:Nat}(h:b<M.length):(M++N)[b]?=M[b]?:=Dk h
section
variable{M0 M:Z2}{p:Nat}{cfs init:List CF}{C:Nat→Prop}{f g:CF}
theorem NI.plt(I:NI M0 p cfs C M):p<M.length:=Z6 (Z1 I.o)
theorem NI.push(I:NI M0 p cfs C M)(l:Ln):NI M0 p (cfs++[⟨M.length+1,M.length,some l,none,[]⟩]) C (Ha (M++[Cell.lst []]++[Cell.lst [l.d,.non,.ref M.length]]) p (.lst ((cfs.map fun f=> .ref f.q)++[.ref (M.length+1)]))):=by
 have hp:=I.plt
 have at':∀b,b≠p→b<M.length→(Ha (M++[Cell.lst []]++[Cell.lst [l.d,.non,.ref M.length]]) p (.lst ((cfs.map fun f=> .ref f.q)++[.ref (M.length+1)])))[b]?=M[b]?:=fun b h1 h2=>by
  rw[Y4 (Df h1),Bs,Rn h2]
 have nc:∀c,C c→c≠p:=fun c h z=>I.d0.1 (z ▸ h)
 have lc:∀c,C c→c<M.length:=fun c h=>(I.cl c h).2
 refine⟨((I.k.app _).app _).set (.inr I.d0.2),?_,?_,I.d0,?_,?_,fun c h=>⟨(I.cl c h).1,?_⟩⟩
 ·rw[Z9 (by rw[Ae,Ae];omega),Ao]
  rfl
 ·intro f hf
  rcases Az.mp hf with hf | hf
  ·obtain⟨h1,h2,_⟩:=I.d1 f hf
   have h3:=(I.ok f hf).lt
   exact(I.ok f hf).keep (fun _ h=>h) (fun c h=>at' c (nc c h) (lc c h)) (at' _ h1 h3.1) (at' _ h2 h3.2)
  ·cases Am.mp hf
   refine⟨?_,⟨[],?_,rfl⟩,fun c ts e=>by cases e⟩
   ·show Z4 _ (M.length+1)=some [l.d,.non,.ref M.length]
    rw[Za (by omega),Bs,X6]
    rfl
   ·show Z4 _ M.length=some []
    rw[Za (by omega),Bs]
    exact Z5 _ _ _
 ·intro f hf
  rcases Az.mp hf with hf | hf
  ·exact I.d1 f hf
  ·cases Am.mp hf
   have:=I.k.len
   exact⟨by show M.length+1≠p;omega,by show M.length≠p;omega,by show M.length+1≠M.length;omega,fun h=>by have:=lc _ h;simp only at this;omega,fun h=>by have:=lc _ h;simp only at this;omega,by show _≤M.length+1;omega,this⟩
 ·rw[Kx]
  refine⟨I.d2,Ll _ _,fun f hf g hg=>?_⟩
  cases Am.mp hg
  have h3:=(I.ok f hf).lt
  exact⟨by show f.q≠M.length+1;omega,by show f.q≠M.length;omega,by show f.n≠M.length+1;omega,by show f.n≠M.length;omega⟩
 ·have:=lc c h
  rw[Dt,Ae,Ae]
  omega
theorem NI.last(I:NI M0 p (init++[f]) C M):CFok C M f∧(∀g∈init,CFok C M g∧g.q≠f.q∧g.q≠f.n∧g.n≠f.q∧g.n≠f.n)∧f.q≠p∧f.n≠p∧f.q≠f.n∧¬C f.q∧¬C f.n∧M0.length≤f.q∧M0.length≤f.n:=by
 have h2:=I.d2
 rw[Kx] at h2
 exact⟨I.ok f (by simp),fun g hg=>⟨I.ok g (by simp[hg]),h2.2.2 g hg f (by simp)⟩,I.d1 f (by simp)⟩
theorem NI.grow{C':Nat→Prop}{M':Z2}{ds:List D}{t:T}{d:D}(I:NI M0 p (init++[f]) C M)(e:Z4 M f.n=some ds)(rt:RTs C M f.t ds)(hC:∀c,C c→C' c)
  (hN:∀c,C' c→M0.length≤c∧c<M'.length) (nC:¬C' p∧∀g∈init++[f],¬C' g.q∧¬C' g.n) (k:∀b,b<M.length→M'[b]?=M[b]?) (kl:M.length≤M'.length) (h:RT C' M' t d):NI M0 p (init++[{f with t:=f.t++[t]}]) C' (M'.set f.n (.lst (ds++[d]))):=by
 obtain⟨hf,hi,a1,a2,a3,a4,a5,a6,a7⟩:=I.last
 have lt:=hf.lt
 have hp:=I.plt
 have nf:¬C' f.n:=(nC.2 f (by simp)).2
 have at':∀b,b≠f.n→b<M.length→(M'.set f.n (.lst (ds++[d])))[b]?=M[b]?:=fun b h1 h2=>by rw[Y4 (Df h1),k b h2]
 have atC:∀c,C c→(M'.set f.n (.lst (ds++[d])))[c]?=M[c]?:=fun c h=>at' c (fun z=>nf (z ▸ hC c h)) (I.cl c h).2
 refine⟨⟨fun b n l=>(at' b (by omega) (Nat.lt_of_lt_of_le l I.k.len)).trans (I.k.at' b n l),?_⟩,?_,?_,⟨nC.1,I.d0.2⟩,?_,?_,fun c h=>⟨(hN c h).1,by rw[Dt];exact(hN c h).2⟩⟩
 ·rw[Dt]
  exact Nat.le_trans I.k.len kl
 ·rw[Zp (at' p (Df a2) hp),I.o]
  simp
 ·intro g hg
  rcases Az.mp hg with hg | hg
  ·obtain⟨g1,g2,g3,g4,g5⟩:=hi g hg
   have:=g1.lt
   exact g1.keep hC atC (at' _ g3 this.1) (at' _ g5 this.2)
  ·cases Am.mp hg
   refine⟨?_,⟨ds++[d],Z9 (by omega),?_⟩,fun c ts e=>?_⟩
   ·show Z4 _ f.q=some [f.hd,f.yd,.ref f.n]
    rw[Zp (at' _ a3 lt.1)]
    exact hf.q
   ·exact(rt.keep hC atC).app (.one (h.keep (fun _ h=>h) fun c hc=>Y4 (a:=f.n) fun z=>nf (by rw[z];exact hc)))
   ·obtain⟨g1,es,g2,g3⟩:=hf.y c ts e
    exact⟨hC c g1,es,by rw[Zp (atC c g1)];exact g2,g3.keep hC atC⟩
 ·intro g hg
  rcases Az.mp hg with hg | hg
  ·obtain⟨b1,b2,b3,_,_,b6,b7⟩:=I.d1 g (by simp[hg])
   obtain⟨c1,c2⟩:=nC.2 g (by simp[hg])
   exact⟨b1,b2,b3,c1,c2,b6,b7⟩
  ·cases Am.mp hg
   exact⟨a1,a2,a3,(nC.2 f (by simp)).1,nf,a6,a7⟩
 ·have h2:=I.d2
  rw[Kx] at h2 ⊢
  refine⟨h2.1,Ll _ _,fun g hg g' hg'=>?_⟩
  cases Am.mp hg'
  exact h2.2.2 g hg f (by simp)
theorem NI.els(I:NI M0 p (init++[f]) C M):NI M0 p (init++[⟨f.q,M.length,f.h,some (f.n,f.t),[]⟩]) (fun c=>C c∨c=f.n) (Ha (Ha M f.q (.lst [f.hd,.ref f.n,.ref f.n])++[Cell.lst []]) f.q (.lst [f.hd,.ref f.n,.ref M.length])):=by
 obtain⟨hf,hi,a1,a2,a3,a4,a5,a6,a7⟩:=I.last
 have lt:=hf.lt
 have hp:=I.plt
 have at':∀b,b≠f.q→b<M.length→(Ha (Ha M f.q (.lst [f.hd,.ref f.n,.ref f.n])++[Cell.lst []]) f.q (.lst [f.hd,.ref f.n,.ref M.length]))[b]?=M[b]?:=fun b h1 h2=>by
  rw[Y4 (Df h1),Rn (by rw[Dt];exact h2),Y4 (Df h1)]
 have atC:∀c,C c→(Ha (Ha M f.q (.lst [f.hd,.ref f.n,.ref f.n])++[Cell.lst []]) f.q (.lst [f.hd,.ref f.n,.ref M.length]))[c]?=M[c]?:=fun c h=>at' c (fun z=>a4 (z ▸ h)) (I.cl c h).2
 have hM:(Ha M f.q (.lst [f.hd,.ref f.n,.ref f.n])).length=M.length:=Dt ..
 have lcl:∀c,C c→c<M.length:=fun c h=>(I.cl c h).2
 refine⟨⟨fun b n l=>(at' b (by omega) (Nat.lt_of_lt_of_le l I.k.len)).trans (I.k.at' b n l),?_⟩,?_,?_,⟨fun h=>h.elim I.d0.1 fun z=>a2 z.symm,I.d0.2⟩,?_,?_,fun c h=>?_⟩
 ·rw[Dt,Ae,hM]
  have:=I.k.len
  omega
 ·rw[Zp (at' p (Df a1) hp),I.o]
  simp
 ·intro g hg
  rcases Az.mp hg with hg | hg
  ·obtain⟨g1,g2,g3,g4,g5⟩:=hi g hg
   have:=g1.lt
   exact g1.keep (fun _ h=> .inl h) atC (at' _ g2 this.1) (at' _ g4 this.2)
  ·cases Am.mp hg
   refine⟨Z9 (by rw[Ae,hM];omega),⟨[],?_,rfl⟩,fun c ts e=>?_⟩
   ·show Z4 _ M.length=some []
    rw[Za (by omega),←hM]
    exact Z5 _ _ _
   ·cases e
    obtain⟨ds,h2,h3⟩:=hf.n
    exact⟨.inr rfl,ds,by rw[Zp (at' _ (Df a3) lt.2)];exact h2,h3.keep (fun _ h=> .inl h) atC⟩
 ·intro g hg
  rcases Az.mp hg with hg | hg
  ·obtain⟨b1,b2,b3,b4,b5,b6,b7⟩:=I.d1 g (by simp[hg])
   obtain⟨g1,g2,g3,g4,g5⟩:=hi g hg
   exact⟨b1,b2,b3,fun h=>h.elim b4 g3,fun h=>h.elim b5 g5,b6,b7⟩
  ·cases Am.mp hg
   have:=I.k.len
   exact⟨a1,by show M.length≠p;omega,by show f.q≠M.length;omega,fun h=>h.elim a4 a3,fun h=>h.elim (fun z=>by have:=lcl _ z;simp only at this;omega) (fun z=>by simp only at z;omega),a6,this⟩
 ·have h2:=I.d2
  rw[Kx] at h2 ⊢
  refine⟨h2.1,Ll _ _,fun g hg g' hg'=>?_⟩
  cases Am.mp hg'
  obtain⟨g1,g2,g3,g4,g5⟩:=hi g hg
  have:=g1.lt
  exact⟨g2,by show g.q≠M.length;omega,g4,by show g.n≠M.length;omega⟩
 ·rw[Dt,Ae,hM]
  rcases h with h | h
  ·have:=I.cl c h
   exact⟨this.1,by omega⟩
  ·rw[h]
   exact⟨a7,by omega⟩
theorem NI.pop(I:NI M0 p (init++[f]) C M):NI M0 p init C (M.set p (.lst (init.map fun f=> .ref f.q))):=by
 obtain⟨hf,hi,a1,a2,a3,a4,a5,a6,a7⟩:=I.last
 have hp:=I.plt
 have atC:∀c,C c→(M.set p (.lst (init.map fun f=> .ref f.q)))[c]?=M[c]?:=fun c h=>Y4 fun z=>I.d0.1 (z ▸ h)
 have h2:=I.d2
 rw[Kx] at h2
 refine⟨I.k.set (.inr I.d0.2),Z9 hp,fun g hg=>?_,I.d0,fun g hg=>I.d1 g (by simp[hg]),h2.1,fun c h=>by rw[Dt];exact I.cl c h⟩
 obtain⟨b1,b2,_⟩:=I.d1 g (by simp[hg])
 exact(I.ok g (by simp[hg])).keep (fun _ h=>h) atC (Y4 (Df b1)) (Y4 (Df b2))
def Cn(C:Nat→Prop)(f:CF)(M N:Z2)(c:Nat):Prop:=C c∨c=f.n∨(M.length≤c∧c<M.length+N.length)
theorem NI.done(I:NI M0 p ((init++[g])++[f]) C M){N:Z2}{ds:List D}{t:T}{d:D}(e:Z4 M g.n=some ds)(rt:RTs C M g.t ds)
  (h:RT (Cn C f M N) (M.set p (.lst ((init++[g]).map fun f=> .ref f.q))++N) t d):NI M0 p (init++[{g with t:=g.t++[t]}]) (Cn C f M N) (Ha (M.set p (.lst ((init++[g]).map fun f=> .ref f.q))++N) g.n (.lst (ds++[d]))):=by
 obtain⟨hf,hi,a1,a2,a3,a4,a5,a6,a7⟩:=I.last
 have lt:=hf.lt
 have hp:=I.plt
 have hm:=I.k.len
 have I1:=I.pop
 have hM:(M.set p (.lst ((init++[g]).map fun f=> .ref f.q))).length=M.length:=Dt ..
 obtain⟨b1,b2,_⟩:=I.d1 g (by simp)
 have hg:=(hi g (by simp)).1.lt
 have atC:∀c,C c→(M.set p (.lst ((init++[g]).map fun f=> .ref f.q)))[c]?=M[c]?:=fun c h=>Y4 fun z=>I.d0.1 (z ▸ h)
 refine I1.grow (M':=M.set p (.lst ((init++[g]).map fun f=> .ref f.q))++N) (ds:=ds) (by rw[Za (Df b2)];exact e) (rt.keep (fun _ h=>h) atC) (fun c h=> .inl h) (fun c h=>?_) ⟨fun h=>?_,fun g' hg'=>⟨fun h=>?_,fun h=>?_⟩⟩ (fun b hb=>Rn hb) (by rw[Ae];omega) h
 ·rw[Ae,hM]
  rcases h with h | h | h
  ·have:=I.cl c h
   exact⟨this.1,by omega⟩
  ·rw[h]
   exact⟨a7,by omega⟩
  ·exact⟨by omega,by omega⟩
 ·rcases h with h | h | h
  ·exact I.d0.1 h
  ·exact a2 h.symm
  ·omega
 ·have hx:=hi g' hg'
  obtain⟨_,_,_,c4,c5,_⟩:=I.d1 g' (Kd _ hg')
  have:=hx.1.lt
  rcases h with h | h | h
  ·exact c4 h
  ·exact hx.2.2.1 h
  ·omega
 ·have hx:=hi g' hg'
  obtain⟨_,_,_,c4,c5,_⟩:=I.d1 g' (Kd _ hg')
  have:=hx.1.lt
  rcases h with h | h | h
  ·exact c5 h
  ·exact hx.2.2.2.2 h
  ·omega
theorem NI.doneK(I:NI M0 p (init++[f]) C M){N:Z2}{x:Cell}{ds:List D}{us:List T}(rt:RTs C M us ds):RTs (Cn C f M N) (M.set p x++N) us ds:=
 rt.keep (fun c h=> .inl h) fun c h=>by rw[Rn (by rw[Dt];exact(I.cl c h).2)];exact Y4 (a:=p) fun z=>I.d0.1 (by rw[z];exact h)
end
structure Fm(C:Nat→Prop)(M:Z2)(m:Nat)(ts:List T)(r:Nat):Prop where
 e:∃ds,Z4 M r=some ds∧RTs C M ts ds
 c:∀c,C c→m≤c∧c<M.length
 n:¬C r∧m≤r
def Sb:DSp:=fun ds M Q _=>∃(a:Nat) (ls:List Ln),ds=[.ref a]∧Zc M a=some (ls.map Ln.d)∧ls.length≤400∧run [] ls=some []∧∀C M' r,Kp M M'→Fm C M' M.length (nest ls) r→Q (.ref r) M'
section
variable{K:Af}{Γ:List DSp}{G:List D}
theorem Zb0{ls:List Ln}{st x:List Tp}(h:run st ls=some x)(i:Nat):∃t,run st (ls.take i)=some t:=by
 rw[←List.take_append_drop i ls,Z09] at h
 cases e:run st (ls.take i) with
 | none=>rw[e] at h;cases h
 | some t=>exact⟨t,rfl⟩
theorem Zn{α:Type}{ls:List α}{i:Nat}{l:α}(h:ls[i]?=some l):ls.take (i+1)=ls.take i++[l]:=by
 obtain⟨hi,rfl⟩:=Ac.mp h
 rw[List.take_succ,Ag hi]
 rfl
structure NA(M:Z2)(a:Nat)(ls:List Ln)(i:Nat)(cfs:List CF)(C:Nat→Prop)(M':Z2):Prop where
 I:NI M (M.length+2) cfs C M'
 A:(cfs.map CF.abs).reverse=(ls.take i).foldl nst [fr0]
 t:∀f∈cfs,f.t.length≤i
 l:cfs.length≤i+1
noncomputable abbrev Ne6(a p:Nat)(d2 d3 d4 d5:Option D):DEnv:=[some (.ref a),some (.ref p),d2,d3,d4,d5]
theorem Ln.nst_beg{l:Ln}(h:l.beg=true)(fs:List Fr):nst fs l=⟨some l,none,[]⟩::fs:=by
 cases l<;>first | rfl | cases h
theorem Y0(init:List CF)(f:CF):((init++[f]).map CF.abs).reverse=f.abs::(init.map CF.abs).reverse:=by simp
theorem Z79(g:Γ[15]?=some Y8):Rd K Γ G Sb Jo Nf:=by
 rintro ds M Q Z ⟨a,ls,rfl,hr,hl,hrun,q⟩
 delta Jo Nf
 walk_at "ev"
 simp only[Bs,Ma,Lq,Ae,Ar,List.length_nil]
 refine⟨Z0 (by decide),Z0 (by decide),Z0 (by decide),Z0 (by decide),_,Zh hr,?_⟩
 refine Xy (fun i σ M'=>∃cfs C d2 d3 d4 d5,σ=Ne6 a (M.length+2) d2 d3 d4 d5∧NA M a ls i cfs C M') ⟨[⟨M.length+1,M.length,none,none,[]⟩],fun _=>False,none,none,none,none,rfl,?_⟩ ?_ ?_ ?_
 ·refine⟨⟨Ks.new _ _,?_,?_,⟨fun z=>z,by omega⟩,?_,Ll _ _,fun c h=>h.elim⟩,rfl,?_,Nat.le_refl _⟩
  ·rw[X6]
   rfl
  ·intro f hf
   cases Am.mp hf
   refine⟨?_,⟨[],Z5 _ _ _,rfl⟩,fun c ts e=>by cases e⟩
   show Z4 _ (M.length+1)=_
   rw[X6]
   rfl
  ·intro f hf
   cases Am.mp hf
   exact⟨by show M.length+1≠M.length+2;omega,by show M.length≠M.length+2;omega,by show M.length+1≠M.length;omega,fun z=>z,fun z=>z,by show _≤M.length+1;omega,Nat.le_refl _⟩
  ·intro f hf
   cases Am.mp hf
   exact Nat.le_refl _
 ·rintro i σ M' _ ⟨cfs,C,d2,d3,d4,d5,rfl,N⟩
  exact N.I.k.pL hr
 ·rintro i d σ M' P hd ⟨cfs,C,d2,d3,d4,d5,rfl,N⟩ hP
  obtain⟨l,hl1,rfl⟩:∃l,ls[i]?=some l∧d=l.d:=by
   rw[Ai] at hd
   cases e:ls[i]? with
   | none=>rw[e] at hd;cases hd
   | some l=>rw[e] at hd;cases hd;exact⟨l,rfl,rfl⟩
  have hi:i<400:=by have:=(Ac.mp hl1).1;omega
  obtain⟨us,e1⟩:=Zb0 hrun i
  obtain⟨us',e2⟩:=Zb0 hrun (i+1)
  rw[Zn hl1,Z09,e1] at e2
  replace e2:stp us l=some us':=by
   have:(stp us l).bind (fun t=>run t [])=some us':=e2
   cases h:stp us l with
   | none=>rw[h] at this;cases this
   | some t=>rw[h] at this;exact this
  have F:=Fss.run (fs:=[fr0]) (ts:=[]) ⟨[],rfl⟩ e1
  rw[←N.A] at F
  have A':∀{cfs':List CF},(cfs'.map CF.abs).reverse=nst (cfs.map CF.abs).reverse l→(cfs'.map CF.abs).reverse=(ls.take (i+1)).foldl nst [fr0]:=by
   intro cfs' h
   rw[h,N.A,Zn hl1,List.foldl_append]
   rfl
  rw[tg_one]
  delta R8
  generalize hB:(Ss.cons (S.ite (E.cmp Cm.eq (E.ix (E.var 2) (E.int 0)) (E.str "else")) _ _) Ss.nil)=B
  walk_at "ev"
  simp only[g]
  refine⟨l,rfl,?_⟩
  walk_at "ev"
  have hz:=N.l
  cases hb:l.beg with
  | true=>
   walk_at "ev"
   refine⟨Z7 (Z1 N.I.o),Z0 (by decide),Z0 (by decide),_,Z8 (Z8 N.I.o),Z3 (by rw[Ab];omega),hP _ _ ⟨cfs++[⟨M'.length+1,M'.length,some l,none,[]⟩],C,_,_,_,_,rfl,?_,?_,?_,?_⟩⟩
   ·have:=N.I.push l
    rw[show(M'++[Cell.lst []]).length=M'.length+1 by simp]
    exact this
   ·refine A' ?_
    rw[Y0,Ln.nst_beg hb]
    rfl
   ·intro f hf
    rcases Az.mp hf with hf | hf
    ·have:=N.t f hf
     omega
    ·cases Am.mp hf
     exact Nat.zero_le _
   ·rw[Ae,Aj]
    omega
  | false=>
   obtain⟨f0,fr,eA,_⟩:=F.top
   rcases Hz cfs with rfl | ⟨init,f,rfl⟩
   ·cases eA
   rw[Ia] at N F A' eA hz
   obtain⟨hf,hi',a1,a2,a3,a4,a5,a6,a7⟩:=N.I.last
   obtain⟨ds,hn,rt⟩:=hf.n
   have hz2:init.length≤i:=by rw[Ae,Aj] at hz;omega
   have ft:=N.t f (by simp)
   have dl:=rt.len
   have lst:atI ((init++[f]).map fun f=>D.ref f.q) (-1)=some (.ref f.q):=by rw[Ao];exact Zt7 _ _
   have plain:l.pl=true→l.beg=false→nst (((init++[f]).map CF.abs).reverse) l=⟨f.h,f.y.map (·.2),f.t++[.leaf l]⟩::(init.map CF.abs).reverse→P (Ne6 a (M.length+2) (some l.d) d3 d4 d5) (M'.set f.n (.lst (ds++[l.d]))):=by
    intro h1 h2 h3
    refine hP _ _ ⟨init++[{f with t:=f.t++[.leaf l]}],C,_,_,_,_,rfl,N.I.grow hn rt (fun _ h=>h) N.I.cl ⟨N.I.d0.1,fun g hg=>?_⟩ (fun _ _=>rfl) (Nat.le_refl _) (show RT C M' (.leaf l) l.d from⟨rfl,h1,h2⟩),A' ?_,?_,?_⟩
    ·obtain⟨_,_,_,b4,b5,_⟩:=N.I.d1 g hg
     exact⟨b4,b5⟩
    ·rw[Y0,h3]
     rfl
    ·intro g hg
     rcases Az.mp hg with hg | hg
     ·have:=N.t g (by simp[hg])
      omega
     ·cases Am.mp hg
      show(f.t++[_]).length≤_
      rw[Ae,Aj]
      omega
    ·rw[Ae,Aj]
     omega
   have put:∀P':DK,(∀Y,P' Y (M'.set f.n (.lst (ds++[l.d]))))→ixD M' (.ref (M.length+2)) (.int (-1)) fun d=>ixD M' d (.int 2) fun d'=>mtK .append d' M'∧mtD .append d' [l.d] M' P':=by
    intro P' h
    refine Wo (Z1 N.I.o) lst (ix_l (k:=2) (Z1 hf.q) rfl ⟨Z7 (Z1 hn),?_⟩)
    walk_at "ev"
    exact⟨_,hn,Z3 (by omega),h _⟩
   cases l with
   | cond _ _ _=>cases hb
   | rnd _=>cases hb
   | prt _=>cases hb
   | sum x o1 s o2=>
    simp only[Ln.d] at *
    walk_at "ev"
    subst hB
    generalize hB:(Ss.cons (S.setL [3,4,5] _) _)=B
    walk_at "ev"
    exact put _ fun _=>plain rfl rfl (by rw[Y0];rfl)
   | lve n=>
    simp only[Ln.d] at *
    walk_at "ev"
    subst hB
    generalize hB:(Ss.cons (S.setL [3,4,5] _) _)=B
    walk_at "ev"
    exact put _ fun _=>plain rfl rfl (by rw[Y0];rfl)
   | agn n=>
    simp only[Ln.d] at *
    walk_at "ev"
    subst hB
    generalize hB:(Ss.cons (S.setL [3,4,5] _) _)=B
    walk_at "ev"
    exact put _ fun _=>plain rfl rfl (by rw[Y0];rfl)
   | fin=>
    simp only[Ln.d] at *
    walk_at "ev"
    subst hB
    generalize hB:(Ss.cons (S.setL [3,4,5] _) _)=B
    walk_at "ev"
    exact put _ fun _=>plain rfl rfl (by rw[Y0];rfl)
   | els=>
    clear plain put
    simp only[Ln.d]
    walk_at "ev"
    subst hB
    generalize hB:(Ss.cons (S.setL [3,4,5] _) _)=B
    walk_at "ev"
    refine Wo (Z1 N.I.o) lst (ix_l (k:=2) (Z1 hf.q) rfl (Wo (Z1 N.I.o) lst (.inl ⟨_,1,1,rfl,hf.q,rfl,Z0 (by decide),?_⟩)))
    refine Wo (Zh (by rw[Xv a1];exact Z1 N.I.o)) lst (.inl ⟨_,2,2,rfl,Z8 (Z9 hf.lt.1),rfl,?_⟩)
    rw[Dt]
    refine hP _ _ ⟨init++[⟨f.q,M'.length,f.h,some (f.n,f.t),[]⟩],_,_,_,_,_,rfl,N.I.els,A' (by rw[Y0,Y0];rfl),?_,?_⟩
    ·intro g hg
     rcases Az.mp hg with hg | hg
     ·have:=N.t g (by simp[hg])
      omega
     ·cases Am.mp hg
      exact Nat.zero_le _
    ·rw[Ae,Aj]
     omega
   | don=>
    clear plain put
    obtain⟨t,rfl⟩:=G5 e2
    rw[Y0] at F
    obtain⟨f1,fr1,ef,ht,F2⟩:=F
    cases ef
    obtain⟨g0,gr,eg,_⟩:=F2.top
    rcases Hz init with rfl | ⟨init',gg,rfl⟩
    ·cases eg
    rw[Ia] at *
    have xl:((init'++[gg]++[f]).map fun f=>D.ref f.q)[((init'++[gg]++[f]).map fun f=>D.ref f.q).length - 1]?=some (.ref f.q):=by rw[Ao,Ae];simp
    have xd:((init'++[gg]++[f]).map fun f=>D.ref f.q).dropLast=(init'++[gg]).map fun f=>D.ref f.q:=by rw[Ao];simp
    have hg:=hi' gg (by simp)
    obtain⟨dg,hgn,rg⟩:=hg.1.n
    obtain⟨b1,b2,_⟩:=N.I.d1 gg (by simp)
    have gt:=N.t gg (by simp)
    have gl:=rg.len
    simp only[Ln.d]
    walk_at "ev"
    subst hB
    generalize hB:(Ss.cons (S.ite (E.cmp Cm.ne (E.ix (E.var 3) (E.int 0)) (E.str "if")) _ _) Ss.nil)=B
    walk_at "ev"
    refine⟨Z7 (Z1 N.I.o),_,_,N.I.o,xl,?_⟩
    rw[xd]
    walk_at "ev"
    refine⟨[f.hd,f.yd,.ref f.n],by rw[Xv (Df a1)];exact Z1 hf.q,rfl,?_⟩
    simp only[List.zip_cons_cons,List.zip_nil_right,List.foldl_cons,List.foldl_nil,List.set_cons_succ,List.set_cons_zero]
    try walk_at "ev"
    have glst:atI ((init'++[gg]).map fun f=>D.ref f.q) (-1)=some (.ref gg.q):=by rw[Ao];exact Zt7 _ _
    have hpl:=N.I.plt
    have o1:Zc (M'.set (M.length+2) (.lst ((init'++[gg]).map fun f=> .ref f.q))) (M.length+2)=some ((init'++[gg]).map fun f=> .ref f.q):=Z1 (Z9 hpl)
    have o2:Zc (M'.set (M.length+2) (.lst ((init'++[gg]).map fun f=> .ref f.q))) gg.q=some [gg.hd,gg.yd,.ref gg.n]:=by rw[Xv (Df b1)];exact Z1 hg.1.q
    have o3:Z4 (M'.set (M.length+2) (.lst ((init'++[gg]).map fun f=> .ref f.q))) gg.n=some dg:=by rw[Za (Df b2)];exact hgn
    have hn':∀N':Z2,Z4 (M'.set (M.length+2) (.lst ((init'++[gg]).map fun f=> .ref f.q))++N') f.n=some ds:=fun N'=>Z8 (by rw[Za (Df a2)];exact hn)
    have hM:(M'.set (M.length+2) (.lst ((init'++[gg]).map fun f=> .ref f.q))).length=M'.length:=Dt ..
    have fin:∀(N':Z2) (d:D) (d3 d4 d5:Option D),RT (Cn C f M' N') (M'.set (M.length+2) (.lst ((init'++[gg]).map fun f=> .ref f.q))++N') f.abs.mk' d→P (Ne6 a (M.length+2) (some (Ln.don).d) d3 d4 d5) (Ha (M'.set (M.length+2) (.lst ((init'++[gg]).map fun f=> .ref f.q))++N') gg.n (.lst (dg++[d]))):=by
     intro N' d d3 d4 d5 h
     refine hP _ _ ⟨init'++[{gg with t:=gg.t++[f.abs.mk']}],_,_,_,_,_,rfl,N.I.done hgn rg h,A' (by rw[Y0,Y0,Y0];rfl),?_,?_⟩
     ·intro g hg
      rcases Az.mp hg with hg | hg
      ·have:=N.t g (by simp[hg])
       omega
      ·cases Am.mp hg
       show(gg.t++[_]).length≤_
       rw[Ae,Aj]
       omega
     ·simp only[Ae,Aj] at hz ⊢
      omega
    have put:∀(N':Z2) (d:D) (d3 d4 d5:Option D),RT (Cn C f M' N') (M'.set (M.length+2) (.lst ((init'++[gg]).map fun f=> .ref f.q))++N') f.abs.mk' d→mtD .append (.ref gg.n) [d] (M'.set (M.length+2) (.lst ((init'++[gg]).map fun f=> .ref f.q))++N') fun _ M1=>P (Ne6 a (M.length+2) (some (Ln.don).d) d3 d4 d5) M1:=by
     intro N' d d3 d4 d5 h
     exact⟨_,Z8 o3,Z3 (by omega),fin N' d d3 d4 d5 h⟩
    obtain⟨fq,fn,fh,fy,ft'⟩:=f
    cases t with
    | crd=>
     obtain⟨hy,n,hh⟩:=ht
     cases hh
     simp only[CF.hd,CF.yd,Ln.d]
     subst hB
     generalize hB:(Ss.cons (S.ite (E.cmp Cm.is (E.var 4) E.non) _ _) Ss.nil)=B
     walk_at "ev"
     refine Wo o1 glst (ix_l (k:=2) o2 rfl ⟨Z7 (Z1 o3),Z0 (by decide),by simp,Z0 (by decide),?_⟩)
     have:=put [] (.tup [.str "round",.int n,.ref fn]) (some (.tup [.str "round",.int n])) (some (match fy with | none=> .non | some (c,_)=> .ref c)) (some (.ref fn)) (show RT _ _ (.home true n ft') _ from⟨fn,ds,rfl,.inr (.inl rfl),hn' [],N.I.doneK rt⟩)
     rw[Dg] at this
     exact this
    | cpt=>
     obtain⟨hy,n,hh⟩:=ht
     cases hh
     simp only[CF.hd,CF.yd,Ln.d]
     subst hB
     generalize hB:(Ss.cons (S.ite (E.cmp Cm.is (E.var 4) E.non) _ _) Ss.nil)=B
     walk_at "ev"
     refine Wo o1 glst (ix_l (k:=2) o2 rfl ⟨Z7 (Z1 o3),Z0 (by decide),by simp,Z0 (by decide),?_⟩)
     have:=put [] (.tup [.str "part",.int n,.ref fn]) (some (.tup [.str "part",.int n])) (some (match fy with | none=> .non | some (c,_)=> .ref c)) (some (.ref fn)) (show RT _ _ (.home false n ft') _ from⟨fn,ds,rfl,.inr (.inl rfl),hn' [],N.I.doneK rt⟩)
     rw[Dg] at this
     exact this
    | cif=>
     obtain⟨hy,x,s,y,hh⟩:=ht
     cases hh
     cases fy with
     | some z=>cases hy
     | none=>
      simp only[CF.hd,CF.yd,Ln.d]
      subst hB
      walk_at "ev"
      refine Wo o1 glst (ix_l (k:=2) o2 rfl ⟨Z7 (Z1 o3),?_⟩)
      rw[show cutD [D.str "if",x.d,D.str s,y.d] (some 1) none=[x.d,D.str s,y.d] from rfl]
      refine⟨Z0 (by decide),by decide,by simp,Z0 (Nat.le_of_ble_eq_true rfl),Z0 (by decide),Z0 (by decide),by simp,Z0 (Nat.le_of_ble_eq_true rfl),?_⟩
      exact put [.lst []] (.tup [.str "choice",x.d,.str s,y.d,.ref fn,.ref (M'.set (M.length+2) (.lst ((init'++[gg]).map fun f=> .ref f.q))).length]) _ _ _ (show RT _ _ (.cho x s y ft' []) _ from⟨fn,_,ds,[],rfl,.inr (.inl rfl),.inr (.inr (by rw[hM];exact⟨Nat.le_refl _,Nat.lt_succ_self _⟩)),hn' _,N.I.doneK rt,Z5 _ _ _,rfl⟩)
    | cel=>
     obtain⟨hy,x,s,y,hh⟩:=ht
     cases hh
     cases fy with
     | none=>cases hy
     | some z=>
      obtain⟨c,us⟩:=z
      simp only[CF.hd,CF.yd,Ln.d]
      subst hB
      walk_at "ev"
      refine Wo o1 glst (ix_l (k:=2) o2 rfl ⟨Z7 (Z1 o3),?_⟩)
      rw[show cutD [D.str "if",x.d,D.str s,y.d] (some 1) none=[x.d,D.str s,y.d] from rfl]
      refine⟨Z0 (by decide),by decide,by simp,Z0 (Nat.le_of_ble_eq_true rfl),Z0 (by decide),by simp,Z0 (Nat.le_of_ble_eq_true rfl),?_⟩
      obtain⟨y1,dy,y2,y3⟩:=hf.y c us rfl
      have:=put [] (.tup [.str "choice",x.d,.str s,y.d,.ref c,.ref fn]) (some (.tup [.str "if",x.d,.str s,y.d])) (some (.ref c)) (some (.ref fn)) (show RT _ _ (.cho x s y us ft') _ from⟨c,fn,dy,ds,rfl,.inl y1,.inr (.inl rfl),Z8 (by rw[Za (fun z=>N.I.d0.1 (by rw[z];exact y1))];exact y2),N.I.doneK y3,hn' _,N.I.doneK rt⟩)
      rw[Dg] at this
      exact this
 ·rintro σ M' ⟨cfs,C,d2,d3,d4,d5,rfl,N⟩
  have A:=N.A
  rw[Ab,Ht,Ow hrun] at A
  delta Ru
  walk_at "ev"
  rcases Hz cfs with rfl | ⟨init,f,rfl⟩
  ·cases A
  rw[Ia] at N A
  rw[Y0] at A
  obtain⟨q1,q2⟩:=List.cons.inj A
  have:init=[]:=by cases init<;>simp_all
  subst this
  rw[Lq] at N
  obtain⟨hf,hi',a1,a2,a3,a4,a5,a6,a7⟩:=(show NI M (M.length+2) ([]++[f]) C M' from N.I).last
  refine ix_l (k:=0) (Z1 N.I.o) rfl (ix_l (k:=2) (Z1 hf.q) rfl (q C M' f.n N.I.k ⟨?_,N.I.cl,a5,a7⟩))
  have e:f.t=nest ls:=congrArg Fr.n q1
  rw[←e]
  exact hf.n
end
noncomputable def Ln.g:Ln→D
 | .cond a s b=> .tup [.str "choice",a.d,.str s,b.d]
 | .els=> .gtup [.str "else"]
 | .don=> .gtup [.str "done"]
 | l=>l.d
noncomputable def hdL:T→Ln
 | .leaf l=>l
 | .home r n _=>if r then .rnd n else .prt n
 | .cho a s b _ _=> .cond a s b
noncomputable def sub':T→List T
 | .leaf _=>[]
 | .home _ _ b=>b++[.leaf .don]
 | .cho _ _ _ y []=>y++[.leaf .don]
 | .cho _ _ _ y (t::ts)=>(y++[.leaf .els])++(t::ts)++[.leaf .don]
theorem Ze1(t:T):fl t=hdL t::fls (sub' t):=by
 cases t with
 | leaf l=>rfl
 | home r n b=>rw[O2];show _=_::fls (b++[.leaf .don]);rw[Xp];rfl
 | cho a s b y n=>
  cases n with
  | nil=>rw[Oq];show _=_::fls (y++[.leaf .don]);rw[Xp];rfl
  | cons t ts=>
   rw[Ge]
   show _=_::fls ((y++[.leaf .els])++(t::ts)++[.leaf .don])
   rw[Xp,Xp,Xp]
   simp[W7,Vv,Zc1,hdL]
theorem Ra(ts:List T):ts.length≤(fls ts).length:=by
 induction ts with
 | nil=>exact Nat.zero_le _
 | cons t ts ih=>rw[W7,Ze1,Ae,Ar,Ar];omega
def RG(C:Nat→Prop)(M:Z2)(t:T)(d:D):Prop:=RT C M t d∨(t= .leaf .don∧d= .gtup [.str "done"])∨(t= .leaf .els∧d= .gtup [.str "else"])
def RGs(C:Nat→Prop)(M:Z2):List T→List D→Prop
 | [],ds=>ds=[]
 | t::ts,ds=>∃d r,ds=d::r∧RG C M t d∧RGs C M ts r
theorem RG.keep{C:Nat→Prop}{M M':Z2}(k:∀c,C c→M'[c]?=M[c]?){t:T}{d:D}(h:RG C M t d):RG C M' t d:=h.imp (fun z=>z.keep (fun _ h=>h) k) fun z=>z
theorem RGs.keep{C:Nat→Prop}{M M':Z2}(k:∀c,C c→M'[c]?=M[c]?):∀{ts:List T} {ds:List D},RGs C M ts ds→RGs C M' ts ds
 | [],ds,h=>h
 | t::ts,ds,⟨d,r,e,h1,h2⟩=>⟨d,r,e,h1.keep k,RGs.keep k h2⟩
theorem RTs.rg{C:Nat→Prop}{M:Z2}:∀{ts:List T} {ds:List D},RTs C M ts ds→RGs C M ts ds
 | [],ds,h=>h
 | t::ts,ds,⟨d,r,e,h1,h2⟩=>⟨d,r,e,.inl h1,RTs.rg h2⟩
theorem RGs.len{C:Nat→Prop}{M:Z2}:∀{ts:List T} {ds:List D},RGs C M ts ds→ds.length=ts.length
 | [],ds,h=>by cases h;rfl
 | t::ts,ds,⟨d,r,e,h1,h2⟩=>by rw[e,Ar,Ar,RGs.len h2]
theorem RGs.app{C:Nat→Prop}{M:Z2}:∀{ts us:List T} {ds es:List D},RGs C M ts ds→RGs C M us es→RGs C M (ts++us) (ds++es)
 | [],us,ds,es,h,g=>by cases h;exact g
 | t::ts,us,ds,es,⟨d,r,e,h1,h2⟩,g=>by rw[e];exact⟨d,r++es,rfl,h1,RGs.app h2 g⟩
theorem Gx{C:Nat→Prop}{M:Z2}:RGs C M [.leaf .don] [.gtup [.str "done"]]:=⟨_,_,rfl,.inr (.inl ⟨rfl,rfl⟩),rfl⟩
theorem Zy3{C:Nat→Prop}{M:Z2}:RGs C M [.leaf .els] [.gtup [.str "else"]]:=⟨_,_,rfl,.inr (.inr ⟨rfl,rfl⟩),rfl⟩
def O6:DSp:=fun ds M Q _=>∃C t d,ds=[d]∧RG C M t d∧Q (hdL t).g M
def Z75:DSp:=fun ds M Q _=>∃C t d,ds=[d]∧RG C M t d∧(∀c,C c→c<M.length)∧(fl t).length≤1000∧∀M' r ds',Kp M M'→RGs C M' (sub' t) ds'→Z4 M' r=some ds'→M.length≤r→Q (.ref r) M'
def R0:DSp:=fun ds M Q _=>∃C ts r ds',ds=[.ref r]∧Z4 M r=some ds'∧RTs C M ts ds'∧(∀c,C c→c<M.length)∧(fls ts).length≤1000∧∀M' r',Kp M M'→Z4 M' r'=some ((fls ts).map Ln.g)→M.length≤r'→Q (.ref r') M'
theorem Ks.cl{M M':Z2}{C:Nat→Prop}(k:Kp M M')(h:∀c,C c→c<M.length):∀c,C c→M'[c]?=M[c]?:=fun c hc=>k.at' c (fun z=>z) (h c hc)
section
variable{K:Af}{Γ:List DSp}{G:List D}
noncomputable abbrev rp:List D:=[.str "round",.str "part"]
theorem Zt8{M:Z2}{Q:DK}{h:Str}{d:D}{xs:List D}(hd:d= .tup (.str h::xs)∨d= .gtup (.str h::xs))(hh:inD (.str h) rp=false)(q:Q d M):tss ⟨K,Γ,G⟩ noX Ys {nx:=fun _ M=>Q .non M,rt:=Q} [some d] M:=by
 delta Ys
 rcases hd with rfl | rfl
 ·walk_at "ev"
  refine⟨Z0 (by decide),rfl,rfl,?_⟩
  dsimp only
  rw[hh,if_neg Bf9]
  delta Ws
  walk_at "ev"
  exact q
 ·walk_at "ev"
  refine⟨Z0 (by decide),rfl,rfl,?_⟩
  dsimp only
  rw[hh,if_neg Bf9]
  delta Ws
  walk_at "ev"
  exact q
theorem Zo4{M:Z2}{Q:DK}{h:Str}{n:Int}{c:Nat}(hh:inD (.str h) rp=true)(q:Q (.tup [.str h,.int n]) M):tss ⟨K,Γ,G⟩ noX Ys {nx:=fun _ M=>Q .non M,rt:=Q} [some (.tup [.str h,.int n,.ref c])] M:=by
 delta Ys
 walk_at "ev"
 refine⟨Z0 (by decide),rfl,rfl,?_⟩
 dsimp only
 rw[hh,if_pos rfl]
 exact q
theorem Z97:Rd K Γ G O6 Jc Nq:=by
 rintro ds M Q Z ⟨C,t,d,rfl,h,q⟩
 delta Jc Nq
 rcases h with h | ⟨rfl,rfl⟩ | ⟨rfl,rfl⟩
 ·cases t with
  | leaf l=>
   obtain⟨rfl,h1,h2⟩:=h
   cases l with
   | cond=>cases h2
   | rnd=>cases h2
   | prt=>cases h2
   | els=>cases h1
   | don=>cases h1
   | _=>
    simp only[Ln.d]
    walk_at "ev"
    exact Zt8 (.inl rfl) (by decide+kernel) q
  | home r n b=>
   obtain⟨c,ds,rfl,_⟩:=h
   cases r with
   | true=>
    simp only[if_true]
    walk_at "ev"
    exact Zo4 (by decide+kernel) q
   | false=>
    simp only[Bool.false_eq_true,if_false]
    walk_at "ev"
    exact Zo4 (by decide+kernel) q
  | cho a s b y n=>
   obtain⟨c1,c2,d1,d2,rfl,_⟩:=h
   walk_at "ev"
   exact⟨by decide,q⟩
 ·walk_at "ev"
  exact Zt8 (.inr rfl) (by decide+kernel) q
 ·walk_at "ev"
  exact Zt8 (.inr rfl) (by decide+kernel) q
theorem Zp9{M:Z2}{Q:DK}{h:Str}{d:D}{xs:List D}(hd:d= .tup (.str h::xs)∨d= .gtup (.str h::xs))(hh:inD (.str h) rp=false)(hc:¬h="choice")(q:Q (.ref M.length) (M++[.lst []])):tss ⟨K,Γ,G⟩ noX Y1 {nx:=fun _ M=>Q .non M,rt:=Q} (start0 Y3 [d]) M:=by
 delta Y1 Y3
 rcases hd with rfl | rfl
 ·walk_at "ev"
  refine⟨Z0 (by decide),rfl,rfl,?_⟩
  dsimp only
  rw[hh,if_neg Bf9]
  delta Yh
  walk_at "ev"
  rw[if_pos hc]
  exact⟨Z0 (by decide),q⟩
 ·walk_at "ev"
  refine⟨Z0 (by decide),rfl,rfl,?_⟩
  dsimp only
  rw[hh,if_neg Bf9]
  delta Yh
  walk_at "ev"
  rw[if_pos hc]
  exact⟨Z0 (by decide),q⟩
theorem Z63(e1:G[1]?=some (.gtup [.str "done"])){M:Z2}{Q:DK}{h:Str}{n:Int}{c:Nat}{ds:List D}(hh:inD (.str h) rp=true)(hc:Z4 M c=some ds)(hl:ds.length≤1000)(q:Q (.ref (M++[Cell.lst [D.gtup [.str "done"]]]).length) (M++[Cell.lst [D.gtup [.str "done"]]]++[.lst (ds++[.gtup [.str "done"]])])):tss ⟨K,Γ,G⟩ noX Y1 {nx:=fun _ M=>Q .non M,rt:=Q} (start0 Y3 [.tup [.str h,.int n,.ref c]]) M:=by
 delta Y1 Y3
 walk_at "ev"
 refine⟨Z0 (by decide),rfl,rfl,?_⟩
 dsimp only
 rw[hh,if_pos rfl]
 simp only[e1]
 try walk_at "ev"
 exact⟨Z0 (by decide),_,_,Z8 hc,Z5 _ _ [],Z0 (by rw[Aj];omega),q⟩
theorem Oi(e0:G[0]?=some (.gtup [.str "else"]))(e1:G[1]?=some (.gtup [.str "done"])):Rd K Γ G Z75 Y1 Y3:=by
 rintro ds M Q Z ⟨C,t,d,rfl,h,hC,hz,q⟩
 have q0:∀l,sub' (.leaf l)=[]:=fun _=>rfl
 have em:sub' t=[]→Q (.ref M.length) (M++[.lst []]):=fun e=>q _ _ [] (Ks.new _ _) (by rw[e];rfl) (Z5 _ _ _) (Nat.le_refl _)
 rcases h with h | ⟨rfl,rfl⟩ | ⟨rfl,rfl⟩
 ·cases t with
  | leaf l=>
   obtain⟨rfl,h1,h2⟩:=h
   cases l with
   | cond=>cases h2
   | rnd=>cases h2
   | prt=>cases h2
   | els=>cases h1
   | don=>cases h1
   | _=>exact Zp9 (.inl rfl) (by decide+kernel) (by decide+kernel) (em rfl)
  | home r n b=>
   obtain⟨c,ds,rfl,hc,hr,rt⟩:=h
   have hl:ds.length≤1000:=by
    have:=Ra b
    rw[O2,Ar,Ae] at hz
    rw[rt.len]
    omega
   have fin:=q (M++[Cell.lst [D.gtup [.str "done"]]]++[.lst (ds++[.gtup [.str "done"]])]) _ _ ((Ks.new _ _).app _) ((rt.rg.keep (((Ks.new M _).app _).cl hC)).app Gx) (Z5 _ _ _) (by rw[Ae];omega)
   cases r with
   | true=>exact Z63 e1 (by decide+kernel) hr hl fin
   | false=>exact Z63 e1 (by decide+kernel) hr hl fin
  | cho a s b y n=>
   obtain⟨c1,c2,d1,d2,rfl,h1,h2,h3,h4,h5,h6⟩:=h
   delta Y1 Y3
   walk_at "ev"
   refine⟨Z0 (by decide),rfl,rfl,?_⟩
   dsimp only
   rw[show inD (.str "choice") [.str "round",.str "part"]=false by decide+kernel,if_neg Bf9]
   delta Yh
   walk_at "ev"
   delta Xx
   walk_at "ev"
   rw[if_neg (by simp),show cutD [D.str "choice",a.d,D.str s,b.d,D.ref c1,D.ref c2] (some 4) none=[.ref c1,.ref c2] from rfl]
   refine⟨by decide,?_⟩
   walk_at "ev"
   have l1:=h4.len
   have l2:=h6.len
   have f1:=Ra y
   have f2:=Ra n
   have k1:Kp M (M++[.lst []]):=Ks.new _ _
   refine⟨Z0 (by decide),Tl (Zh (Z1 h5)) (Zd _ _ []) ?_⟩
   cases n with
   | nil=>
    cases h6
    simp only[List.isEmpty_nil,e1]
    walk_at "ev"
    rw[Oq,Ar,Ae] at hz
    refine⟨Z0 (by decide),_,_,Z8 (Z8 h3),Z5 _ _ [],Z0 (by rw[Aj];omega),?_⟩
    refine q _ _ _ ((k1.app _).app _) ((h4.rg.keep (((k1.app _).app _).cl hC)).app Gx) (Z5 _ _ _) ?_
    simp only[Ae]
    omega
   | cons t us=>
    rw[Ge] at hz
    simp only[Ar,Ae] at hz l2 f2
    have ne:d2.isEmpty=false:=by cases d2<;>simp_all
    rw[ne,if_neg Bf9]
    delta Xz
    walk_at "ev"
    simp only[e0,e1]
    refine⟨Z0 (by decide),_,_,Z8 (Z8 h3),Z5 _ _ [],Z0 (by rw[Aj];omega),?_⟩
    try walk_at "ev"
    refine⟨_,_,Z5 _ _ [],Z8 (Z8 (Z8 h5)),Z0 (by simp only[Ae,Aj];omega),?_⟩
    refine⟨Z0 (by decide),_,_,Z8 (Z5 _ _ []),Z5 _ _ [],Z0 (by simp only[Ae,Aj];omega),?_⟩
    have kk:=(((((k1.app [Cell.lst [D.gtup [.str "else"]]]).app [Cell.lst (d1++[D.gtup [.str "else"]])]).app [Cell.lst (d1++[D.gtup [.str "else"]]++d2)]).app [Cell.lst [D.gtup [.str "done"]]]).app [Cell.lst (d1++[D.gtup [.str "else"]]++d2++[D.gtup [.str "done"]])])
    refine q _ _ _ kk ((((h4.rg.keep (kk.cl hC)).app Zy3).app (h6.rg.keep (kk.cl hC))).app Gx) (Z5 _ _ _) ?_
    simp only[Ae]
    omega
 ·exact Zp9 (.inr rfl) (by decide+kernel) (by decide+kernel) (em rfl)
 ·exact Zp9 (.inr rfl) (by decide+kernel) (by decide+kernel) (em rfl)
theorem B1(gl:Γ[0]?=some O6)(gt:Γ[1]?=some Z75):Rd K Γ G R0 Qx Qg:=by
 rintro ds M Q Z ⟨C,us,r,ds',rfl,hr,rt,hC,hz,q⟩
 delta Qx Qg
 generalize hw:S.while_ _ _=w
 walk_at "ev"
 refine⟨Z0 (by decide),_,Zh (Z1 hr),?_⟩
 rw[Bs]
 subst hw
 refine U.O8 (c:=⟨K,Γ,G⟩) (X:=noX) (fun σ M'=>∃(d:Option D) (dn:List Ln) (its:List T) (es:List D),σ=[some (.ref r),some (.ref M.length),some (.ref (M.length+1)),d]∧Kp M M'∧Z4 M' M.length=some (dn.map Ln.g)∧Z4 M' (M.length+1)=some es.reverse∧RGs C M' its es∧dn++fls its=fls us) (fun σ M'=>1000 - ((Z4 M' M.length).getD []).length)
  ?_ ?_
 ·exact⟨none,[],us,ds',by simp,Ks.new _ _,Z5 _ _ _,X6 _ _ 1,rt.rg.keep ((Ks.new M _).cl hC),rfl⟩
 rintro σ M' ⟨d,dn,its,es,rfl,k,e1,e2,rg,ef⟩
 walk_at "ev"
 refine⟨Z0 (by decide),Tl (Zh (Z1 e2)) (Zd _ _ []) ?_⟩
 have k1:Kp M (M'++[.lst []]):=k.app _
 have e1':=Z8 (N:=[.lst []]) e1
 have e2':=Z8 (N:=[.lst []]) e2
 have kc:∀c,C c→(M'++[Cell.lst []])[c]?=M'[c]?:=fun c h=>Rn (Nat.lt_of_lt_of_le (hC c h) k.len)
 have rg':=rg.keep kc
 cases its with
 | nil=>
  cases rg
  rw[Vv,Dg] at ef
  subst ef
  simp only[List.reverse_nil,List.isEmpty_nil]
  try walk_at "ev"
  delta Tw
  walk_at "ev"
  exact q _ _ k1 e1' (Nat.le_refl _)
 | cons t its=>
  obtain⟨d,es,rfl,h1,h2⟩:=rg'
  have en:((d::es).reverse).isEmpty=false:=by simp
  rw[en]
  delta Tx
  walk_at "ev"
  have fz:dn.length+((fl t).length+(fls its).length)≤1000:=by
   rw[←Ae,←W7,←Ae,ef]
   exact hz
  have ft:1≤(fl t).length:=by rw[Ze1,Ar];omega
  have hes:es.length≤1000:=by rw[h2.len];have:=Ra its;omega
  refine⟨Z7 (Z1 e2'),_,d,e2',by simp,?_⟩
  rw[show(d::es).reverse.dropLast=es.reverse by simp]
  have lt2:=Z6 (Z1 e2')
  have e3:Z4 (Ha (M'++[Cell.lst []]) (M.length+1) (.lst es.reverse)) M.length=some (dn.map Ln.g):=by rw[Za (by omega)];exact e1'
  have kc2:∀c,C c→(Ha (M'++[Cell.lst []]) (M.length+1) (.lst es.reverse))[c]?=(M'++[Cell.lst []])[c]?:=fun c h=>Y4 (a:=M.length+1) (by have:=hC c h;omega)
  refine⟨Z7 (Z1 e3),?_⟩
  simp only[gl]
  refine⟨C,t,d,rfl,h1.keep kc2,?_⟩
  try walk_at "ev"
  refine⟨_,e3,Z3 (by rw[Ab];omega),?_⟩
  have M4e:∀c,C c→((Ha (M'++[Cell.lst []]) (M.length+1) (.lst es.reverse)).set M.length (.lst (dn.map Ln.g++[(hdL t).g])))[c]?=(M'++[Cell.lst []])[c]?:=fun c h=>by
   rw[Y4 (a:=M.length) (by have:=hC c h;omega)]
   exact kc2 c h
  have k4:Kp M ((Ha (M'++[Cell.lst []]) (M.length+1) (.lst es.reverse)).set M.length (.lst (dn.map Ln.g++[(hdL t).g]))):=(k1.set (.inr (by omega))).set (.inr (Nat.le_refl _))
  have f1:Z4 ((Ha (M'++[Cell.lst []]) (M.length+1) (.lst es.reverse)).set M.length (.lst (dn.map Ln.g++[(hdL t).g]))) M.length=some ((dn++[hdL t]).map Ln.g):=by
   rw[Z9 (Z6 (Z1 e3)),Ao]
   rfl
  have f2:Z4 ((Ha (M'++[Cell.lst []]) (M.length+1) (.lst es.reverse)).set M.length (.lst (dn.map Ln.g++[(hdL t).g]))) (M.length+1)=some es.reverse:=by
   rw[Za (by omega),Z9 lt2]
  generalize (Ha (M'++[Cell.lst []]) (M.length+1) (.lst es.reverse)).set M.length (.lst (dn.map Ln.g++[(hdL t).g]))=M4 at M4e k4 f1 f2 ⊢
  refine⟨Z7 (Z1 f2),?_⟩
  simp only[gt]
  have hC4:∀c,C c→c<M4.length:=fun c h=>Nat.lt_of_lt_of_le (hC c h) k4.len
  refine⟨C,t,d,rfl,h1.keep M4e,hC4,by omega,fun M5 r5 d5 k5 g5 e5 l5=>?_⟩
  have l5':=k4.len
  have f2':=k5.pW f2
  have d5l:d5.length≤1000:=by
   rw[g5.len]
   have:=Ra (sub' t)
   rw[Ze1,Ar] at fz
   omega
  refine⟨_,Z1 e5,_,_,Z8 f2',Z5 _ _ _,Z0 (by rw[Iw,Iw];omega),⟨_,dn++[hdL t],sub' t++its,d5++es,rfl,((k4.trans k5).app _).set (.inr (by omega)),?_,?_,?_,?_⟩,?_⟩
  ·rw[Za (by omega)]
   exact Z8 (k5.pW f1)
  ·rw[Z9 (Z6 (Z1 (Z8 f2'))),De]
  ·have kk:∀c,C c→(Ha (M5++[Cell.lst d5.reverse]) (M.length+1) (.lst (es.reverse++d5.reverse)))[c]?=M5[c]?:=fun c h=>by
    rw[Y4 (a:=M.length+1) (by have:=hC c h;omega)]
    exact Rn (Nat.lt_of_lt_of_le (hC4 c h) k5.len)
   exact(g5.keep kk).app ((h2.keep M4e).keep (fun c h=>(kk c h).trans (k5.cl hC4 c h)))
  ·rw[←ef,W7,Ze1,Xp]
   simp
  ·rw[Za (by omega),Z8 (k5.pW f1),e1]
   simp
   omega
end
section
variable{K:Af}
noncomputable def fN:D→Bool
 | .bl _ | .int _ | .str _=>true
 | _=>false
def AL(M:Z2):Nat→D→D→Prop
 | 0,x,y=>x=y∧fN x=true
 | n+1,x,y=>(x=y∧fN x=true)∨(∃xs ys,x= .tup xs∧y= .tup ys∧xs.length=ys.length∧∀(i:Nat) a b,xs[i]?=some a→ys[i]?=some b→AL M n a b)∨
   ∃m k xs ys,x= .ref m∧y= .ref k∧Z4 M m=some xs∧Z4 M k=some ys∧xs.length=ys.length∧∀(i:Nat) a b,xs[i]?=some a→ys[i]?=some b→AL M n a b
def Xe(n:Nat):DSp:=fun ds M Q _=>∃x y,ds=[x,y]∧AL M n x y∧Q (.bl true) M
theorem AL.flat{M:Z2}{n:Nat}{x:D}(h:fN x=true):AL M n x x:=by
 cases n with
 | zero=>exact⟨rfl,h⟩
 | succ n=>exact .inl ⟨rfl,h⟩
theorem AL.up{M:Z2}:∀{n m:Nat} {x y:D},AL M n x y→n≤m→AL M m x y
 | 0,m,x,y,h,_=>by obtain⟨rfl,h⟩:=h;exact AL.flat h
 | n+1,0,x,y,h,l=>absurd l (Nat.not_succ_le_zero _)
 | n+1,m+1,x,y,h,l=>by
  rcases h with h | ⟨xs,ys,h1,h2,h3,h4⟩ | ⟨a,b,xs,ys,h1,h2,h3,h4,h5,h6⟩
  ·exact .inl h
  ·exact .inr (.inl ⟨xs,ys,h1,h2,h3,fun i x y e1 e2=>(h4 i x y e1 e2).up (Nat.le_of_succ_le_succ l)⟩)
  ·exact .inr (.inr ⟨a,b,xs,ys,h1,h2,h3,h4,h5,fun i x y e1 e2=>(h6 i x y e1 e2).up (Nat.le_of_succ_le_succ l)⟩)
theorem Po{Γ G}{M:Z2}{Q:DK}{x:D}(h:fN x=true)(q:Q (.bl true) M):tss ⟨K,Γ,G⟩ noX Wd {nx:=fun _ M=>Q .non M,rt:=Q} (start0 W8 [x,x]) M:=by
 delta Wd W8
 cases x with
 | bl b=>
  walk_at "ev"
  simpa using q
 | int i=>
  walk_at "ev"
  delta X1
  walk_at "ev"
  simpa using q
 | str z=>
  walk_at "ev"
  delta X1
  walk_at "ev"
  delta Wa
  walk_at "ev"
  simpa using q
 | _=>exact absurd h Bf9
theorem Zn3{xs ys:List D}{i:Nat}{d:D}(h:(zipT xs ys)[i]?=some d):∃a b,xs[i]?=some a∧ys[i]?=some b∧d= .tup [a,b]:=by
 unfold zipT at h
 rw[Ai,Ch] at h
 obtain⟨p,e,rfl⟩:=h
 rw[List.getElem?_zip_eq_some] at e
 exact⟨_,_,e.1,e.2,rfl⟩
theorem Nl{Γ G}{n:Nat}(g:Γ[27]?=some (Xe n)){M:Z2}{Q:DK}{x y:D}{xs ys:List D}{own:Own}(hl:xs.length=ys.length)(h:∀(i:Nat) a b,xs[i]?=some a→ys[i]?=some b→AL M n a b)
  (lx:∀F:DK,F (.int xs.length) M→bfD K .len [x] M F) (ly:∀F:DK,F (.int ys.length) M→bfD K .len [y] M F) (hz:∀F:Own→List D→Prop,F own (zipT xs ys)→zip2 M x y F) (st:Q5 own (zipT xs ys) M) (q:Q (.bl true) M):
  tss ⟨K,Γ,G⟩ noX Vs {nx:=fun _ M=>Q .non M,rt:=Q} [some x,some y,none,none] M:=by
 delta Vs
 walk_at "ev"
 refine lx _ (ly _ ?_)
 walk_at "ev"
 rw[if_neg (by rw[hl];simp)]
 delta Qe
 walk_at "ev"
 rw[at2_xy]
 refine hz _ ?_
 refine Xy (fun i σ M'=>∃d2 d3,σ=[some x,some y,d2,d3]∧M'=M) ⟨none,none,rfl,rfl⟩ ?_ ?_ ?_
 ·rintro i σ M' _ ⟨d2,d3,rfl,rfl⟩
  exact st
 ·rintro i d σ M' C hd ⟨d2,d3,rfl,rfl⟩ hC
  obtain⟨a,b,ea,eb,rfl⟩:=Zn3 hd
  rw[tg_two]
  delta Qu
  walk_at "ev"
  simp only[g]
  refine⟨_,_,rfl,h i a b ea eb,?_⟩
  try walk_at "ev"
  exact hC _ _ ⟨_,_,rfl,rfl⟩
 ·rintro σ M' ⟨d2,d3,rfl,rfl⟩
  delta Qj
  walk_at "ev"
  exact q
theorem Z50{Γ G}:Rd K Γ G (Xe 0) Wd W8:=by
 rintro ds M Q Z ⟨x,y,rfl,⟨rfl,h⟩,q⟩
 exact Po h q
theorem Za8{Γ G}{n:Nat}(g:Γ[27]?=some (Xe n)):Rd K Γ G (Xe (n+1)) Wd W8:=by
 rintro ds M Q Z ⟨x,y,rfl,h | ⟨xs,ys,rfl,rfl,hl,h⟩ | ⟨m,k,xs,ys,rfl,rfl,h1,h2,hl,h⟩,q⟩
 ·obtain⟨rfl,h⟩:=h
  exact Po h q
 ·delta Wd W8
  walk_at "ev"
  delta X1
  walk_at "ev"
  delta Wa
  walk_at "ev"
  delta Tg
  walk_at "ev"
  delta Vp
  walk_at "ev"
  exact Nl (own:= .no) g hl h (fun F f=>f) (fun F f=>f) (fun F f=>f) trivial q
 ·have i1:∀{t:Ty} {B:Bool→Prop},isD K M (.ref m) (.ty (Yj t)) B=B (tyLst t):=fun{t B}=>Bx h1
  have i2:∀{t:Ty} {B:Bool→Prop},isD K M (.ref k) (.ty (Yj t)) B=B (tyLst t):=fun{t B}=>Bx h2
  delta Wd W8
  walk_at "ev"
  simp only[i2]
  walk_at "ev"
  delta X1
  walk_at "ev"
  simp only[i2]
  walk_at "ev"
  delta Wa
  walk_at "ev"
  simp only[i2]
  walk_at "ev"
  delta Tg
  walk_at "ev"
  simp only[i1,i2]
  walk_at "ev"
  delta Vp
  walk_at "ev"
  simp only[i1,i2]
  walk_at "ev"
  exact Nl (own:= .two m k) g hl h (fun F f=>Zb (Z1 h1) f) (fun F f=>Zb (Z1 h2) f) (fun F f=>⟨xs,ys,Z1 h1,Z1 h2,f⟩) ⟨xs,ys,Z1 h1,Z1 h2,rfl⟩ q
end
mutual
noncomputable def dT:T→Nat
 | .leaf _=>1
 | .home _ _ b=>dTs b+2
 | .cho _ _ _ y n=>max (dTs y) (dTs n)+2
noncomputable def dTs:List T→Nat
 | []=>0
 | t::us=>max (dT t) (dTs us)
end
theorem Opd.fN(o:Opd):fN o.d=true:=by cases o<;>rfl
theorem Z25{M:Z2}(l:Ln):AL M 1 l.d l.d:=by
 have key:∀xs:List D,(∀x∈xs,fN x=true)→AL M 1 (.tup xs) (.tup xs):=fun xs h=> .inr (.inl ⟨xs,xs,rfl,rfl,rfl,fun i a b e1 e2=>by
  rw[e1] at e2
  cases e2
  exact⟨rfl,h a (Dx e1)⟩⟩)
 cases l with
 | cond a s b=>exact key _ (by intro x hx;simp only[Aq,Db,or_false] at hx;rcases hx with rfl | rfl | rfl | rfl<;>first | rfl | exact Opd.fN _)
 | sum x a s b=>exact key _ (by intro x hx;simp only[Aq,Db,or_false] at hx;rcases hx with rfl | rfl | rfl | rfl | rfl<;>first | rfl | exact Opd.fN _)
 | _=>exact key _ (by intro x hx;simp only[Aq,Db,or_false] at hx;rcases hx with rfl | rfl<;>rfl)
mutual
theorem al_T{C C':Nat→Prop}{M:Z2}:∀{t:T} {d e:D},RT C M t d→RT C' M t e→AL M (dT t) d e
 | .leaf l,d,e,h,g=>by
  obtain⟨rfl,_⟩:=h
  obtain⟨rfl,_⟩:=g
  exact Z25 l
 | .home r n b,d,e,h,g=>by
  obtain⟨c,ds,rfl,_,h1,h2⟩:=h
  obtain⟨c',es,rfl,_,g1,g2⟩:=g
  have hb:AL M (dTs b+1) (.ref c) (.ref c'):= .inr (.inr ⟨c,c',ds,es,rfl,rfl,h1,g1,h2.len.trans g2.len.symm,Z33 h2 g2⟩)
  refine .inr (.inl ⟨_,_,rfl,rfl,rfl,fun i a b e1 e2=>?_⟩)
  match i,e1,e2 with
  | 0,e1,e2=>cases e1;cases e2;exact AL.flat rfl
  | 1,e1,e2=>cases e1;cases e2;exact AL.flat rfl
  | 2,e1,e2=>cases e1;cases e2;exact hb
  | n+3,e1,_=>cases e1
 | .cho x s z y n,d,e,h,g=>by
  obtain⟨c1,c2,d1,d2,rfl,_,_,h1,h2,h3,h4⟩:=h
  obtain⟨c1',c2',d1',d2',rfl,_,_,g1,g2,g3,g4⟩:=g
  have hy:AL M (max (dTs y) (dTs n)+1) (.ref c1) (.ref c1'):= .inr (.inr ⟨c1,c1',d1,d1',rfl,rfl,h1,g1,h2.len.trans g2.len.symm,fun i a b e1 e2=>(Z33 h2 g2 i a b e1 e2).up (Nat.le_max_left _ _)⟩)
  have hn:AL M (max (dTs y) (dTs n)+1) (.ref c2) (.ref c2'):= .inr (.inr ⟨c2,c2',d2,d2',rfl,rfl,h3,g3,h4.len.trans g4.len.symm,fun i a b e1 e2=>(Z33 h4 g4 i a b e1 e2).up (Nat.le_max_right _ _)⟩)
  refine .inr (.inl ⟨_,_,rfl,rfl,rfl,fun i a b e1 e2=>?_⟩)
  match i,e1,e2 with
  | 0,e1,e2=>cases e1;cases e2;exact AL.flat rfl
  | 1,e1,e2=>cases e1;cases e2;exact AL.flat (Opd.fN _)
  | 2,e1,e2=>cases e1;cases e2;exact AL.flat rfl
  | 3,e1,e2=>cases e1;cases e2;exact AL.flat (Opd.fN _)
  | 4,e1,e2=>cases e1;cases e2;exact hy
  | 5,e1,e2=>cases e1;cases e2;exact hn
  | n+6,e1,_=>cases e1
theorem Z33{C C':Nat→Prop}{M:Z2}:∀{us:List T} {ds es:List D},RTs C M us ds→RTs C' M us es→∀(i:Nat) a b,ds[i]?=some a→es[i]?=some b→AL M (dTs us) a b
 | [],ds,es,h,g,i,a,b,e1,e2=>by cases h;cases e1
 | t::us,ds,es,h,g,i,a,b,e1,e2=>by
  obtain⟨d,r,rfl,h1,h2⟩:=h
  obtain⟨e,r',rfl,g1,g2⟩:=g
  match i,e1,e2 with
  | 0,e1,e2=>cases e1;cases e2;exact(al_T h1 g1).up (Nat.le_max_left _ _)
  | i+1,e1,e2=>exact(Z33 h2 g2 i a b (by simpa using e1) (by simpa using e2)).up (Nat.le_max_right _ _)
end
theorem Sj{α:Type}[DecidableEq α]:∀{a b:List α},a.Nodup→(∀x∈a,x∈b)→a.length≤b.length
 | [],_,_,_=>Nat.zero_le _
 | x::r,b,nd,h=>by
  have nd:=Io.mp nd
  have hx:=h x Dm
  have ih:=Sj (b:=b.erase x) nd.2 fun y hy=>by
   have:y≠x:=fun z=>nd.1 (z ▸ hy)
   exact(List.mem_erase_of_ne this).mpr (h y (Bk _ hy))
  rw[List.length_erase_of_mem hx] at ih
  have:0<b.length:=List.length_pos_of_mem hx
  rw[Ar]
  omega
theorem Fm.keep{C:Nat→Prop}{M M':Z2}{m r:Nat}{us:List T}(F:Fm C M m us r)(k:Kp M M'):Fm C M' m us r:=by
 obtain⟨ds,h1,h2⟩:=F.e
 exact⟨⟨ds,k.pW h1,h2.keep (fun _ h=>h) (k.cl fun c hc=>(F.c c hc).2)⟩,fun c hc=>⟨(F.c c hc).1,Nat.lt_of_lt_of_le (F.c c hc).2 k.len⟩,F.n⟩
noncomputable def nums:List Ln→List Int
 | []=>[]
 | .rnd n::ls=>n::nums ls
 | .prt n::ls=>n::nums ls
 | _::ls=>nums ls
theorem Fo(ls:List Ln):(nums ls).length≤ls.length:=by
 induction ls with
 | nil=>exact Nat.le_refl _
 | cons l ls ih=>cases l<;>simp only[nums,Ar]<;>omega
theorem Wx(a b:List Ln):nums (a++b)=nums a++nums b:=by
 induction a with
 | nil=>rfl
 | cons l a ih=>cases l<;>simp only[nums,Ma,ih]
def Ln.wf:Ln→Prop
 | .cond a s b=>a.ok∧s∈two∧b.ok
 | .sum x a s b=>Nam x∧a.ok∧s∈six∧b.ok
 | .rnd n=>0≤n∧n≤9999
 | .prt n=>0≤n∧n≤9999
 | .lve n=>0≤n∧n≤9999
 | .agn n=>0≤n∧n≤9999
 | _=>True
def Ln.inn(ss:List (Tp×Int)):Ln→Prop
 | .lve n=>(Tp.crd,n)∈ss∨(Tp.cpt,n)∈ss
 | .agn n=>(Tp.crd,n)∈ss
 | _=>True
def Wk(m:Nat):List (Tp×Int)→List Ln→List (Tp×Int)→Prop
 | ss,[],ss'=>ss'=ss
 | ss,l::ls,ss'=>l.wf∧l.inn ss∧∃s1,nxt ss l s1∧s1.length≤m∧Wk m s1 ls ss'
theorem Wk.app{m:Nat}:∀{ls ms:List Ln} {ss s1 s2:List (Tp×Int)},Wk m ss ls s1→Wk m s1 ms s2→Wk m ss (ls++ms) s2
 | [],ms,ss,s1,s2,h,g=>by cases h;exact g
 | l::ls,ms,ss,s1,s2,⟨a,b,t,c,d,e⟩,g=>⟨a,b,t,c,d,e.app g⟩
theorem Wk.mono{m m':Nat}(hm:m≤m'):∀{ls:List Ln} {ss s1:List (Tp×Int)},Wk m ss ls s1→Wk m' ss ls s1
 | [],ss,s1,h=>h
 | l::ls,ss,s1,⟨a,b,t,c,d,e⟩=>⟨a,b,t,c,Nat.le_trans d hm,e.mono hm⟩
theorem Wk.run{m:Nat}:∀{ls:List Ln} {ss s1:List (Tp×Int)},Wk m ss ls s1→K57.run (tps ss) ls=some (tps s1)
 | [],ss,s1,h=>by cases h;rfl
 | l::ls,ss,s1,⟨a,b,t,c,d,e⟩=>by
  show(stp (tps ss) l).bind _=_
  rw[Zr4 c]
  exact e.run
theorem Zt4{x:Tp×Int}{ss s1:List (Tp×Int)}{l:Ln}(h:nxt ss l s1):nxt (x::ss) l (x::s1):=by
 cases l with
 | els=>obtain⟨tl,n,rfl,rfl⟩:=h;exact⟨x::tl,n,rfl,rfl⟩
 | don=>obtain⟨y,rfl⟩:=h;exact⟨y,rfl⟩
 | _=>rw[show s1=_ from h];rfl
theorem Zr2{x:Tp×Int}{ss:List (Tp×Int)}{l:Ln}(h:l.inn ss):l.inn (x::ss):=by
 cases l with
 | lve n=>exact h.imp (Bk _) (Bk _)
 | agn n=>exact Bk _ h
 | _=>trivial
theorem Wk.pre{m:Nat}{x:Tp×Int}:∀{ls:List Ln} {ss s1:List (Tp×Int)},Wk m ss ls s1→Wk (m+1) (x::ss) ls (x::s1)
 | [],ss,s1,h=>by cases h;rfl
 | l::ls,ss,s1,⟨a,b,t,c,d,e⟩=>⟨a,Zr2 b,x::t,Zt4 c,by rw[Ar];omega,e.pre⟩
theorem Wk.wrap{m:Nat}{x:Tp×Int}{l:Ln}{ls:List Ln}(h:Wk m [] ls [])(hl:l.wf)(hi:l.inn [])(hn:nxt [] l [x]):Wk (m+1) [] (l::(ls++[.don])) []:=
 ⟨hl,hi,[x],hn,by rw[Aj];omega,(h.pre (x:=x)).app ⟨trivial,trivial,[],⟨x,rfl⟩,Nat.zero_le _,rfl⟩⟩
structure Gd(m:Nat)(ls:List Ln):Prop where
 w:Wk m [] ls []
 n:(nums ls).Nodup
def Iv(ss:List (Tp×Int)):Prop:=∀x∈ss,(x.1= .crd∨x.1= .cpt)∧0≤x.2∧x.2≤9999∨x.2= -1∧¬x.1= .crd
theorem Zg8(f k:Nat):0≤hm f k∧hm f k≤9999:=by unfold hm;omega
theorem Iv.snoc{ss:List (Tp×Int)}{x:Tp×Int}(h:Iv ss)(hx:(x.1= .crd∨x.1= .cpt)∧0≤x.2∧x.2≤9999∨x.2= -1∧¬x.1= .crd):Iv (ss++[x]):=by
 intro y hy
 rcases Az.mp hy with hy | hy
 ·exact h y hy
 ·rw[Am] at hy;rw[hy];exact hx
theorem Iv.init{ss:List (Tp×Int)}{x:Tp×Int}(h:Iv (ss++[x])):Iv ss:=fun y hy=>h y (Kd _ hy)
theorem Dr.wk{f:Nat}:∀{ls:List Ln} {k:Nat} {ss s1:List (Tp×Int)},Iv ss→Dr f k ss ls s1→Wk 60 ss ls s1
 | [],k,ss,s1,i,h=>h
 | l::ls,k,ss,s1,i,⟨a,t,c,d,w⟩=>by
  cases l with
  | cond x s y=>cases (show t=_ from c);exact⟨a,trivial,_,rfl,d,w.wk (i.snoc (.inr ⟨rfl,by simp⟩))⟩
  | rnd n=>cases (show t=_ from c);cases (show n=_ from a);exact⟨Zg8 f k,trivial,_,rfl,d,w.wk (i.snoc (.inl ⟨.inl rfl,Zg8 f k⟩))⟩
  | prt n=>cases (show t=_ from c);cases (show n=_ from a);exact⟨Zg8 f k,trivial,_,rfl,d,w.wk (i.snoc (.inl ⟨.inr rfl,Zg8 f k⟩))⟩
  | don=>obtain⟨x,rfl⟩:=c;exact⟨trivial,trivial,t,⟨x,rfl⟩,d,w.wk i.init⟩
  | els=>obtain⟨tl,n,rfl,rfl⟩:=c;exact⟨trivial,trivial,_,⟨tl,n,rfl,rfl⟩,d,w.wk (i.init.snoc (.inr ⟨rfl,by simp⟩))⟩
  | lve n=>
   cases (show t=_ from c)
   obtain⟨tp,h1,h2⟩:=a
   rcases i _ h1 with⟨h3,h4⟩ | ⟨h3,_⟩
   ·refine⟨h4,?_,_,rfl,d,w.wk i⟩
    rcases h3 with rfl | rfl
    ·exact .inl h1
    ·exact .inr h1
   ·exact absurd h2 (by rw[show n= -1 from h3];decide)
  | agn n=>
   cases (show t=_ from c)
   rcases i _ a with⟨_,h4⟩ | ⟨_,h4⟩
   ·exact⟨h4,a,_,rfl,d,w.wk i⟩
   ·exact absurd rfl h4
  | sum x y s z=>cases (show t=_ from c);exact⟨a,trivial,_,rfl,d,w.wk i⟩
  | fin=>cases (show t=_ from c);exact⟨trivial,trivial,_,rfl,d,w.wk i⟩
theorem Y60{f i j:Nat}(hi:i<200)(hj:j<200)(h:hm f i=hm f j):i=j:=by unfold hm at h;omega
theorem Dr.nd{f:Nat}:∀{ls:List Ln} {k:Nat} {ss s1:List (Tp×Int)},Dr f k ss ls s1→k+ls.length≤200→(nums ls).Nodup∧∀n∈nums ls,∃j,k≤j∧j<200∧n=hm f j
 | [],k,ss,s1,h,hk=>⟨List.nodup_nil,fun n hn=>by cases hn⟩
 | l::ls,k,ss,s1,⟨a,t,c,d,w⟩,hk=>by
  rw[Ar] at hk
  obtain⟨h1,h2⟩:=w.nd (by omega)
  have pas:(nums ls).Nodup∧∀n∈nums ls,∃j,k≤j∧j<200∧n=hm f j:=⟨h1,fun n hn=>by obtain⟨j,g1,g2,g3⟩:=h2 n hn;exact⟨j,by omega,g2,g3⟩⟩
  have new:(hm f k::nums ls).Nodup∧∀n∈hm f k::nums ls,∃j,k≤j∧j<200∧n=hm f j:=by
   refine⟨Io.mpr ⟨fun hn=>?_,h1⟩,fun n hn=>?_⟩
   ·obtain⟨j,g1,g2,g3⟩:=h2 _ hn
    have:=Y60 (by omega) g2 g3
    omega
   ·rcases Aq.mp hn with rfl | hn
    ·exact⟨k,Nat.le_refl _,by omega,rfl⟩
    ·exact pas.2 n hn
  cases l with
  | rnd n=>cases (show n=_ from a);exact new
  | prt n=>cases (show n=_ from a);exact new
  | _=>exact pas
theorem Dr.gd{f:Nat}{ls:List Ln}(h:Dr f 0 [] ls [])(hl:ls.length≤120):Gd 60 ls:=⟨h.wk (fun x hx=>by cases hx),(h.nd (by omega)).1⟩
def Z51:DSp:=fun ds M Q _=>∃(r:Nat) (ls:List Ln),ds=[.ref r]∧Zc M r=some (ls.map Ln.d)∧Wk 60 [] ls []∧∀d:Nat,1≤d→d≤61→Wk (d - 1) [] ls []→Q (.int (d:Nat)) M
noncomputable def Ln.clo:Ln→Int
 | .don=>1
 | _=>0
theorem Zs6{ss s1:List (Tp×Int)}{l:Ln}(h:nxt ss l s1):(s1.length:Int)=ss.length+(if l.beg then 1 else 0) - l.clo:=by
 cases l with
 | els=>obtain⟨tl,n,rfl,rfl⟩:=h;simp[Ln.beg,Ln.clo]
 | don=>obtain⟨y,rfl⟩:=h;simp[Ln.beg,Ln.clo]
 | _=>rw[show s1=_ from h];simp[Ln.beg,Ln.clo]
section
variable{K:Af}{Γ:List DSp}{G:List D}
theorem Fl{ls:List Ln}{i:Nat}{d:D}(hd:(ls.map Ln.d)[i]?=some d):∃l,ls[i]?=some l∧d=l.d:=by
 rw[Ai] at hd
 cases e:ls[i]? with
 | none=>rw[e] at hd;cases hd
 | some l=>rw[e] at hd;cases hd;exact⟨l,rfl,rfl⟩
theorem Zd5(g:Γ[15]?=some Y8):Rd K Γ G Z51 F0 Fe:=by
 rintro ds M Q Z ⟨r,ls,rfl,hr,hw,q⟩
 delta F0 Fe
 walk_at "ev"
 refine⟨_,hr,?_⟩
 refine Xy (fun i σ M'=>∃(now most:Nat) (d:Option D) (ss:List (Tp×Int)),σ=[some (.ref r),some (.int (now:Nat)),some (.int (most:Nat)),d]∧M'=M∧now=1+ss.length∧now≤most∧most≤61∧Wk (most - 1) [] (ls.take i) ss∧Wk 60 ss (ls.drop i) []) ⟨1,1,none,[],rfl,rfl,rfl,Nat.le_refl _,by decide,rfl,hw⟩ ?_ ?_ ?_
 ·rintro i σ M' _ ⟨now,most,d,ss,rfl,rfl,_⟩
  exact hr
 ·rintro i d σ M' C hd ⟨now,most,d0,ss,rfl,rfl,hn,h1,h2,w1,w2⟩ hC
  obtain⟨l,hl,rfl⟩:=Fl hd
  rw[tg_one]
  delta Pl
  walk_at "ev"
  simp only[g]
  refine⟨l,rfl,?_⟩
  have hi:=(Ac.mp hl).1
  have e0:ls.drop i=l::ls.drop (i+1):=by rw[Dv hi];congr 1;rw[Ag hi] at hl;exact Aw hl
  rw[e0] at w2
  obtain⟨wf,inn,s1,nx,hs1,w3⟩:=w2
  have nl:=Zs6 nx
  have go:∀now':Nat,now'=1+s1.length→∃(now most':Nat) (d:Option D) (ss:List (Tp×Int)),[some (D.ref r),some (D.int (now':Nat)),some (D.int (max (most:Nat) now':Nat)),some l.d]=[some (.ref r),some (.int (now:Nat)),some (.int (most':Nat)),d]∧M'=M'∧now=1+ss.length∧now≤most'∧most'≤61∧Wk (most' - 1) [] (ls.take (i+1)) ss∧Wk 60 ss (ls.drop (i+1)) []:=by
   intro now' hn'
   refine⟨now',max most now',_,s1,rfl,rfl,hn',by omega,by omega,?_,w3⟩
   rw[Zn hl]
   exact(w1.mono (by omega)).app ⟨wf,inn,s1,nx,by omega,rfl⟩
  have hh:∃w xs,l.d= .tup (.str w::xs)∧(if w="done" then(1:Int) else 0)=l.clo:=by cases l<;>exact⟨_,_,rfl,by first | rfl | exact if_neg (by decide+kernel)⟩
  obtain⟨w,xs,ed,ec⟩:=hh
  rw[ed] at go ⊢
  walk_at "ev"
  have e1:(((now:Int)+if l.beg=true then 1 else 0) - if w="done" then 1 else 0)=((1+s1.length:Nat):Int):=by rw[ec];omega
  rw[e1]
  refine hC _ _ ?_
  have e2:(if ((1+s1.length:Nat):Int) >most then((1+s1.length:Nat):Int) else(most:Int))=((max most (1+s1.length):Nat):Int):=by split<;>omega
  rw[e2]
  exact go _ rfl
 ·rintro σ M' ⟨now,most,d,ss,rfl,rfl,hn,h1,h2,w1,w2⟩
  rw[Ab,Kk (Nat.le_refl _)] at w2
  rw[Ab,Lv (Nat.le_refl _)] at w1
  cases (show []=ss from w2)
  delta Pp
  walk_at "ev"
  exact q most (by omega) h2 w1
end
noncomputable def frs(ns:List Int)(N:Nat):List Nat:=(Ay N).filter fun k:Nat=>decide (¬(k:Int)∈ns)
theorem Zq6(ns:List Int)(N:Nat):N≤(frs ns N).length+ns.length:=by
 have h:((Ay N).filter fun k:Nat=>decide ((k:Int)∈ns)).length≤ns.length:=by
  have:=Sj (a:=((Ay N).filter fun k:Nat=>decide ((k:Int)∈ns)).map (fun k:Nat=>(k:Int))) (b:=ns) ?_ ?_
  ·rw[Ab] at this;exact this
  ·rw[List.Nodup,List.pairwise_map]
   exact(List.nodup_range.filter _).imp fun h z=>h (Int.ofNat.inj z)
  ·intro x hx
   obtain⟨k,hk,rfl⟩:=Hw.mp hx
   exact of_decide_eq_true (Ho.mp hk).2
 have e:∀l:List Nat,(l.filter fun k:Nat=>decide ((k:Int)∈ns)).length+(l.filter fun k:Nat=>decide (¬(k:Int)∈ns)).length=l.length:=by
  intro l
  induction l with
  | nil=>rfl
  | cons a l ih=>rw[List.filter_cons,List.filter_cons];by_cases ha:(a:Int)∈ns<;>simp[ha] at ih ⊢ <;>omega
 have:=e (Ay N)
 rw[Im] at this
 unfold frs
 omega
theorem Y27(ns:List Int)(N:Nat):(frs ns N).Nodup:=List.nodup_range.filter _
theorem Zp1{ns:List Int}{N i n:Nat}(h:(frs ns N)[i]?=some n):n<N∧¬(n:Int)∈ns:=by
 have:=Ho.mp (Dx h)
 exact⟨Hx.mp this.1,of_decide_eq_true this.2⟩
structure Wp(ls:List Ln)(d N i:Nat)(ms:List Ln):Prop where
 w:Wk (d+i) [] ms []
 n:(nums ms).Nodup
 m:∀x∈nums ms,x∈nums ls∨∃j,j<i∧∃k,(frs (nums ls) N)[j]?=some k∧x=(k:Int)
 l:ms.length=ls.length+2 * i
theorem Wp.add{ls ms:List Ln}{d N i k:Nat}(h:Wp ls d N i ms)(hN:N≤9999)(e:(frs (nums ls) N)[i]?=some k){l:Ln}{x:Tp×Int}(hl:l.wf)(hi:l.inn [])(hn:nxt [] l [x])(hh:nums [l]=[]∨nums [l]=[(k:Int)]):Wp ls d N (i+1) (l::(ms++[.don])):=by
 have en:nums (l::(ms++[.don]))=nums [l]++nums ms:=by
  rw[show l::(ms++[.don])=[l]++(ms++[.don]) from rfl,Wx,Wx]
  show _++(_++[])=_
  rw[Dg]
 have fr:¬(k:Int)∈nums ms:=by
  intro z
  rcases h.m _ z with z | ⟨j,hj,k',ek,z⟩
  ·exact(Zp1 e).2 z
  ·cases (Int.ofNat.inj z:k=k')
   have:=(List.getElem?_inj (Ac.mp ek).1 (Y27 _ _)).mp (ek.trans e.symm)
   omega
 refine⟨h.w.wrap hl hi hn,?_,?_,?_⟩
 ·rw[en]
  rcases hh with hh | hh<;>rw[hh]
  ·exact h.n
  ·exact Io.mpr ⟨fr,h.n⟩
 ·intro y hy
  rw[en] at hy
  rcases Az.mp hy with hy | hy
  ·rcases hh with hh | hh<;>rw[hh] at hy
   ·cases hy
   ·exact .inr ⟨i,Nat.lt_succ_self _,k,e,Am.mp hy⟩
  ·rcases h.m y hy with z | ⟨j,hj,z⟩
   ·exact .inl z
   ·exact .inr ⟨j,by omega,z⟩
 ·rw[Ar,Ae,Aj,h.l]
  omega
theorem Et(n:Int)(ns:List Int):inD (.int n) (ns.map .int)=decide (n∈ns):=by
 unfold inD
 rw[List.any_map]
 induction ns with
 | nil=>rfl
 | cons m ns ih=>
  rw[Ix,ih]
  show((m==n) || decide (n∈ns))=_
  by_cases h:m=n
  ·subst h;simp
  ·have h2:¬n=m:=fun z=>h z.symm
   simp[h,h2]
theorem Js(ns:List Int):(ns.map D.int).all Zu=true:=by
 rw[Hj]
 intro d h
 obtain⟨x,_,rfl⟩:=Hw.mp h
 rfl
theorem Yd4:Nam "x":=⟨Wrd.one (c:=120) ⟨by decide,by decide⟩,by decide,by decide,by decide+kernel⟩
def Nh:DSp:=fun ds M Q _=>∃(r v m d:Nat) (ls:List Ln),ds=[.ref r,.int (v:Nat),.int (m:Nat)]∧Z4 M r=some (ls.map Ln.d)∧Gd d ls∧ls.length≤120∧d+m=89∧
 ∀(ms:List Ln) M' r',Gd 89 ms→ms.length≤300→ls.length≤ms.length→Kp M M'→Z4 M' r'=some (ms.map Ln.d)→Q (.ref r') M'
section
variable{K:Af}{Γ:List DSp}{G:List D}
theorem Cy:Rd K Γ G Nh Qk Pm:=by
 rintro ds M Q Z ⟨r,v,m,d,ls,rfl,hr,hg,hl,hd,q⟩
 delta Qk Pm
 walk_at "ev"
 refine⟨_,Z1 hr,?_⟩
 refine Yi (fun i σ M'=>∃(d0:Option D),σ=[d0]∧Kp M M'∧Z4 M' M.length=some ((nums (ls.take i)).map .int)) ⟨none,rfl,Ks.new _ _,Z5 _ _ []⟩ ?_ ?_ ?_
 ·rintro i σ M' _ ⟨d0,rfl,k,e⟩
  exact k.pL (Z1 hr)
 ·rintro i d' σ M' C hd' ⟨d0,rfl,k,e⟩ hC
  obtain⟨l,hl',rfl⟩:=Fl hd'
  have hi:=(Ac.mp hl').1
  have hnl:(nums (ls.take i)).length≤120:=by have:=Fo (ls.take i);rw[Hs] at this;omega
  rw[tg_one]
  have go:∀b:Bool,nums [l]=[]→C [some l.d] M':=fun b hn=>hC _ _ ⟨_,rfl,k,by rw[Zn hl',Wx,hn,Dg];exact e⟩
  have go2:∀n:Int,nums [l]=[n]→C [some l.d] (M'.set M.length (.lst ((nums (ls.take i)).map .int++[.int n]))):=fun n hn=>hC _ _ ⟨_,rfl,k.set (.inr (Nat.le_refl _)),by rw[Zn hl',Wx,hn,Ao];exact Z9 (Z6 (Z1 e))⟩
  cases l<;>simp only[Ln.d] at go go2 ⊢ <;>walk_at "ev"
  case rnd n=>exact⟨_,e,Z3 (by rw[Ab];omega),go2 n rfl⟩
  case prt n=>exact⟨_,e,Z3 (by rw[Ab];omega),go2 n rfl⟩
  all_goals exact go true rfl
 rintro σ M1 ⟨d0,rfl,k1,e1⟩
 rw[Ab,Lv (Nat.le_refl _)] at e1
 refine Zb (Z1 e1) ?_
 walk_at "ev"
 have hnl:=Fo ls
 have hd9:m≤89:=by omega
 have eN:(100+(m:Int)+((nums ls).map D.int).length).toNat=100+m+(nums ls).length:=by rw[Ab];omega
 refine⟨by rw[Ab];omega,by rw[Ab];omega,?_⟩
 rw[eN]
 generalize hN:100+m+(nums ls).length=N
 have hN9:N≤400:=by omega
 refine Yi (fun i σ M'=>∃(d0:Option D),σ=[d0,some (.ref M.length)]∧Kp M1 M'∧Z4 M' M1.length=some ((frs (nums ls) i).map fun k:Nat=>D.int k)) ⟨none,rfl,Ks.new _ _,Z5 _ _ []⟩ (fun _ _ _ _ _=>trivial) ?_ ?_
 ·rintro i d' σ M' C hd' ⟨d0,rfl,k,e⟩ hC
  have hi:i<N:=by have:=(Ac.mp hd').1;rw[Zk] at this;exact this
  rw[Xn hi] at hd'
  cases hd'
  have e2:=k.pW e1
  have hfl:(frs (nums ls) i).length≤400:=by
   have:=Du (fun k:Nat=>decide (¬(k:Int)∈nums ls)) (Ay i)
   rw[Im] at this
   unfold frs
   omega
  have fs:frs (nums ls) (i+1)=frs (nums ls) i++(if ¬(i:Int)∈nums ls then [i] else []):=by
   unfold frs
   rw[Iq,Dh]
   congr 1
   by_cases hm:(i:Int)∈nums ls<;>simp[List.filter_cons,hm]
  rw[tg_one]
  walk_at "ev"
  refine .inl ⟨_,Z1 e2,rfl,Js _,?_⟩
  rw[Kr,Et]
  by_cases hm:(i:Int)∈nums ls
  ·rw[decide_eq_true hm]
   refine hC _ _ ⟨_,rfl,k,?_⟩
   rw[fs,if_neg (fun z=>z hm),Dg]
   exact e
  ·rw[decide_eq_false hm]
   refine⟨_,e,Z3 (by rw[Ab];omega),hC _ _ ⟨_,rfl,k.set (.inr (Nat.le_refl _)),?_⟩⟩
   rw[Z9 (Z6 (Z1 e)),fs,if_pos hm,Ao]
   rfl
 rintro σ M2 ⟨d1,rfl,k2,e2⟩
 rw[Zk] at e2
 try walk_at "ev"
 have k12:Kp M M2:=k1.trans k2
 refine⟨by omega,by omega,?_⟩
 rw[Hy]
 refine Yu (fun i σ M'=>∃(c:Nat) (ms:List Ln) (d5 d6 d7:Option D),σ=[some (.ref c),some (.int v),some (.int m),some (.ref M.length),some (.ref M1.length),d5,d6,d7]∧Kp M2 M'∧Z4 M' c=some (ms.map Ln.d)∧Wp ls d N i ms) ⟨r,ls,none,none,none,rfl,Ks.refl _,k12.pW hr,hg.w,hg.n,fun x hx=> .inl hx,rfl⟩ ?_ ?_
 ·rintro i σ M' C hi ⟨c,ms,d5,d6,d7,rfl,k,e,W⟩ hC
  obtain⟨k0,ek⟩:∃k0,(frs (nums ls) N)[i]?=some k0:=⟨_,Ag (by have:=Zq6 (nums ls) N;omega)⟩
  have hk0:=(Zp1 ek).1
  have hml:=W.l
  rw[tg_one,Kr]
  delta Tk
  walk_at "ev"
  have sq:i * i≤89 * 89:=Nat.mul_le_mul (by omega) (by omega)
  have sq':(i:Int) * (i:Int)=((i * i:Nat):Int):=(Int.natCast_mul i i).symm
  obtain⟨S,hS⟩:∃S:Z2,S=M'++[Cell.lst [D.str "part",D.str "if",D.str "round"]]:=⟨_,rfl⟩
  have kS:Kp M' S:=by rw[hS];exact Ks.new _ _
  have put:∀(l:Ln) (x:Tp×Int) (d6:Option D) (B:DEnv→Z2→Prop),l.wf→l.inn []→nxt [] l [x]→(nums [l]=[]∨nums [l]=[(k0:Int)])→tss ⟨K,Γ,G⟩ noX W2 {nx:=C,rt:=Q,bk:=B,ct:=C} [some (.ref c),some (.int v),some (.int m),some (.ref M.length),some (.ref M1.length),some (.int i),d6,some l.d] S:=by
   intro l x d6 B h1 h2 h3 h4
   delta W2
   walk_at "ev"
   refine⟨Z0 (by decide),_,_,Z5 _ _ [],Z8 (kS.pW e),Z0 (by rw[Aj,Ab];omega),Z0 (by decide),Z0 (by decide),_,_,Z8 (Z5 _ _ []),Z5 _ _ [],Z0 (by simp;omega),hC _ _ ⟨_,l::(ms++[.don]),_,_,_,rfl,?_,?_,W.add (by omega) ek h1 h2 h3 h4⟩⟩
   ·exact((((k.trans kS).app _).app _).app _).app _
   ·rw[Z5]
    simp[Ln.d]
  rw[←hS]
  refine⟨Z0 (by decide),mulL (by omega) (by omega),Zf (by omega) (by omega),?_⟩
  have hSr:Zc S M'.length=some [D.str "part",D.str "if",D.str "round"]:=by rw[hS];exact Zd _ _ []
  have hF:Zc S M1.length=some ((frs (nums ls) N).map fun k:Nat=>D.int k):=Z1 ((k.trans kS).pW e2)
  refine ix_m hSr rfl (by decide) fun d' hd'=>?_
  refine ix_l (k:=i) (d:= .int (k0:Nat)) hF (by rw[Ai,ek];rfl) ?_
  refine⟨Z0 (by decide),?_⟩
  simp only[Aq,Db,or_false] at hd'
  rcases hd' with rfl | rfl | rfl
  ·walk_at "ev"
   exact put (.prt (k0:Nat)) (.cpt,k0) _ _ (show 0≤_∧_ from by omega) trivial rfl (.inr rfl)
  ·walk_at "ev"
   exact⟨Z0 (by decide),put (.cond (.no i) "=" (.nm "x")) (.cif,-1) _ _ ⟨show _<_∧_<_ from by omega,by decide+kernel,Yd4⟩ trivial rfl (.inl rfl)⟩
  ·walk_at "ev"
   exact put (.rnd (k0:Nat)) (.crd,k0) _ _ (show 0≤_∧_ from by omega) trivial rfl (.inr rfl)
 ·rintro σ M' ⟨c,ms,d5,d6,d7,rfl,k,e,W⟩
  delta Tz
  walk_at "ev"
  have:=W.l
  exact q ms _ _ ⟨by have:=W.w;rw[hd] at this;exact this,W.n⟩ (by omega) (by omega) (k12.trans k) e
end
theorem Z07(xs ys:List T):dTs (xs++ys)=max (dTs xs) (dTs ys):=by
 induction xs with
 | nil=>rw[Lq];show _=max 0 _;omega
 | cons x xs ih=>rw[Ma];show max (dT x) (dTs (xs++ys))=max (max (dT x) (dTs xs)) _;rw[ih];omega
noncomputable def yD(f:Fr):Nat:=match f.y with
 | some y=>dTs y
 | none=>0
def FB(m:Nat):List Fr→Prop
 | []=>True
 | f::r=>dTs f.n≤2 * (m - r.length)+1∧yD f≤2 * (m - r.length)+1∧FB m r
theorem mk_d(f:Fr):dT f.mk'≤max (dTs f.n) (yD f)+2:=by
 obtain⟨h,y,n⟩:=f
 have hc:∀a s b,dT (Fr.mk (some (.cond a s b)) y n).mk'≤max (dTs n) (yD (Fr.mk h y n))+2:=by
  intro a s b
  cases y with
  | none=>show max (dTs n) (dTs [])+2≤_;show max (dTs n) 0+2≤_;omega
  | some y=>show max (dTs y) (dTs n)+2≤max (dTs n) (dTs y)+2;omega
 cases h with
 | none=>show 1≤_;omega
 | some l=>
  cases l with
  | cond a s b=>exact hc a s b
  | rnd k=>show dTs n+2≤max (dTs n) _+2;omega
  | prt k=>show dTs n+2≤max (dTs n) _+2;omega
  | _=>show 1≤_;omega
theorem Y65{m:Nat}{ss s1:List (Tp×Int)}{fs:List Fr}{l:Ln}(hn:nxt ss l s1)(hl:fs.length=ss.length+1)(hs:ss.length≤m)(h:FB m fs):FB m (nst fs l)∧(nst fs l).length=s1.length+1:=by
 match fs,hl,h with
 | f::r,hl,⟨h1,h2,h3⟩=>
  rw[Ar] at hl
  have leaf:∀l:Ln,FB m (⟨f.h,f.y,f.n++[.leaf l]⟩::r):=fun l=>⟨by rw[Z07];show max _ (max 1 0)≤_;omega,h2,h3⟩
  have opn:∀l:Ln,FB m (⟨some l,none,[]⟩::f::r):=fun l=>⟨Nat.zero_le _,Nat.zero_le _,h1,h2,h3⟩
  cases l with
  | cond a s b=>exact⟨opn _,by cases (show s1=_ from hn);simp[nst];omega⟩
  | rnd n=>exact⟨opn _,by cases (show s1=_ from hn);simp[nst];omega⟩
  | prt n=>exact⟨opn _,by cases (show s1=_ from hn);simp[nst];omega⟩
  | els=>
   obtain⟨tl,n,rfl,rfl⟩:=hn
   exact⟨⟨Nat.zero_le _,h1,h3⟩,by simp[nst] at hl ⊢;omega⟩
  | don=>
   obtain⟨x,rfl⟩:=hn
   rw[Ae,Aj] at hl hs
   match r,hl,h3,h1,h2 with
   | g::r,hl,⟨g1,g2,g3⟩,h1,h2=>
    rw[Ar] at hl h1 h2
    refine⟨⟨?_,g2,g3⟩,by show r.length+1=_;omega⟩
    show dTs (g.n++[f.mk'])≤_
    rw[Z07]
    have:=mk_d f
    show max _ (max (dT f.mk') 0)≤_
    omega
  | sum x a s b=>cases (show s1=_ from hn);exact⟨leaf _,hl⟩
  | lve n=>cases (show s1=_ from hn);exact⟨leaf _,hl⟩
  | agn n=>cases (show s1=_ from hn);exact⟨leaf _,hl⟩
  | fin=>cases (show s1=_ from hn);exact⟨leaf _,hl⟩
theorem Wk.FB{m:Nat}:∀{ls:List Ln} {ss s1:List (Tp×Int)} {fs:List Fr},Wk m ss ls s1→fs.length=ss.length+1→ss.length≤m→K57.FB m fs→K57.FB m (ls.foldl nst fs)
 | [],ss,s1,fs,h,hl,hs,hf=>hf
 | l::ls,ss,s1,fs,⟨a,b,t,c,d,e⟩,hl,hs,hf=>by
  obtain⟨q1,q2⟩:=Y65 c hl hs hf
  exact e.FB q2 d q1
theorem Y25{m:Nat}{ls:List Ln}(h:Wk m [] ls []):dTs (nest ls)≤2 * m+1:=by
 have:=h.FB (fs:=[fr0]) rfl (Nat.zero_le _) ⟨Nat.zero_le _,Nat.zero_le _,trivial⟩
 rw[Ow h.run] at this
 exact this.1
theorem Y00{C C':Nat→Prop}{M:Z2}{m m' r r':Nat}{ls:List Ln}(hw:Wk 89 [] ls [])(F:Fm C M m (nest ls) r)(F':Fm C' M m' (nest ls) r'):AL M 180 (.ref r) (.ref r'):=by
 obtain⟨ds,e1,rt1⟩:=F.e
 obtain⟨es,e2,rt2⟩:=F'.e
 exact AL.up (n:=dTs (nest ls)+1) (.inr (.inr ⟨r,r',ds,es,rfl,rfl,e1,e2,rt1.len.trans rt2.len.symm,Z33 rt1 rt2⟩)) (by have:=Y25 hw;omega)
set_option hygiene false
local macro_rules | `(tactic| walk_at "gp")=>do
 let ids:=("tss_nil tss_cons ts te tes teo tit tcd tbop tt op_add_i op_add_s op_add_t op_add_l op_sub_i op_mul_i op_mul_l op_fdiv_i op_mod_i op_pow_i cm_lt_i cm_le_i cm_gt_i cm_ge_i cm_eq cm_ne cm_in cm_notin cm_is_n cm_is_i cm_is_s cm_is_b cm_is_t cm_is_r eq_i eq_s eq_b eq_nn eq_is eq_si tru_b tru_i tru_n tru_t ix_t ix_g ix_s sl_s sl_t sl_l is_non is_bl is_int is_str is_tup tyNon tyBl tyInt tyStr tyTup tyLst tyDct bf_len_t bf_len_s bf_is bf_min bf_max bf_list mt_setd_r mk_setd ati0 ati1 ati2 ati3 ati4 ati5 Option.some.injEq exists_eq_left' ofS_inj String.reduceEq not_true_eq_false bf_int at2_xy onRef_r mt_append_r mt_get2_r mt_pop_r mt_clear_r mt_extend_r mk_append mk_pop mk_clear mk_get2 mk_extend tg_one tg_two it_r it_t it_g key_i key_s in_ss start0 List.map_cons List.map_nil List.length_cons List.length_nil List.cons_append List.nil_append List.append_nil List.replicate List.set_cons_zero List.set_cons_succ List.getElem?_cons_zero List.getElem?_cons_succ Nat.reduceAdd Nat.reduceSub Nat.sub_self Nat.zero_add decide_eq_true_eq ne_eq Int.reduceEq not_false_eq_true true_and Bool.not_eq_true' decide_eq_false_iff_not Bool.false_eq_true Bool.true_eq_false if_true if_false Bool.not_true Bool.not_false".splitOn " ").toArray.map fun s=>Lean.mkIdent s.toName
 let gs ←(Array.range 28).mapM fun i=>`(tactic| try simp only[$(Lean.mkIdent (Lean.Name.mkSimple s!"g{i}")):ident])
 `(tactic| ((try dsimp only[$[$ids:ident],*]);(try simp only[$[$ids:ident],*]);$[$gs:tactic];*))
local macro_rules | `(tactic| walk_at "ew")=>`(tactic| (walk_at "gp";repeat (with_reducible refine Su ?_;walk_at "gp")))
inductive Lk where
 | yes | no | beh | agn | lve | hom | els | frm | don
 deriving DecidableEq
noncomputable def Lk.s:Lk→Str
 | .yes=>"yes" | .no=>"no" | .beh=>"behind" | .agn=>"again" | .lve=>"leave" | .hom=>"home" | .els=>"else" | .frm=>"from" | .don=>"done"
theorem Lk.inj{a b:Lk}(h:a.s=b.s):a=b:=by
 revert h
 cases a<;>cases b<;>first | (intro _;rfl) | (intro h;exact absurd h (by decide+kernel))
noncomputable abbrev Lb:=Lk×Int
noncomputable def lbk(l:Lb):List Key:=[Me l.1.s,Hb l.2]
noncomputable def lbd(l:Lb):D:= .tup [.str l.1.s,.int l.2]
theorem Zp6{a b:Lb}(h:lbk a=lbk b):a=b:=by
 unfold lbk at h
 rw[List.cons.injEq,List.cons.injEq] at h
 exact Prod.ext (Lk.inj (Me.inj h.1)) (Hb.inj h.2.1)
inductive Pr where
 | sum (x:Str) (a:Opd) (s:Str) (b:Opd) | test (a:Opd) (s:Str) (b:Opd) (l:Lb) | jump (l:Lb) | fin
noncomputable def Pr.d:Pr→D
 | .sum x a s b=> .tup [.str "sum",.str x,a.d,.str s,b.d]
 | .test a s b l=> .tup [.str "test",a.d,.str s,b.d,lbd l]
 | .jump l=> .tup [.str "jump",lbd l]
 | .fin=> .tup [.str "end"]
inductive Oe where
 | cho (n:Nat) | home (r:Bool) (n:Int)
noncomputable def Oe.d:Oe→D
 | .cho n=> .tup [.str "choice",.int n]
 | .home r n=> .tup [.str (if r then "round" else "part"),.int n]
structure CS where
 t:List Pr
 f:Lb→Option Nat
 o:List Oe
noncomputable def up(f:Lb→Option Nat)(l:Lb)(v:Nat):Lb→Option Nat:=fun m=>if m=l then some v else f m
noncomputable def up0(f:Lb→Option Nat)(l:Lb)(v:Nat):Lb→Option Nat:=if (f l).isSome=true then f else up f l v
noncomputable def cst(c:CS):Ln→Option CS
 | .cond a s b=>some ⟨c.t++[.test a s b (.yes,c.t.length)]++[.jump (.no,c.t.length)],up c.f (.yes,c.t.length) (c.t.length+2),.cho c.t.length::c.o⟩
 | .rnd n=>some ⟨c.t,up c.f (.agn,n) c.t.length,.home true n::c.o⟩
 | .prt n=>some ⟨c.t,up c.f (.agn,n) c.t.length,.home false n::c.o⟩
 | .els=>match c.o with
  | .cho n::r=>some ⟨c.t++[.jump (.beh,n)],up c.f (.no,n) (c.t.length+1),.cho n::r⟩
  | _=>none
 | .don=>match c.o with
  | .cho n::r=>some ⟨c.t,up (up0 c.f (.no,n) c.t.length) (.beh,n) c.t.length,r⟩
  | .home true n::r=>some ⟨c.t++[.jump (.agn,n)],up c.f (.lve,n) (c.t.length+1),r⟩
  | .home false n::r=>some ⟨c.t,up c.f (.lve,n) c.t.length,r⟩
  | []=>none
 | .lve n=>some ⟨c.t++[.jump (.lve,n)],c.f,c.o⟩
 | .agn n=>some ⟨c.t++[.jump (.agn,n)],c.f,c.o⟩
 | .sum x a s b=>some ⟨c.t++[.sum x a s b],c.f,c.o⟩
 | .fin=>some ⟨c.t++[.fin],c.f,c.o⟩
noncomputable def crun:CS→List Ln→Option CS
 | c,[]=>some c
 | c,l::ls=>(cst c l).bind fun c'=>crun c' ls
theorem S5{κ:Type}[DecidableEq κ](m:List (κ×D))(k j:κ)(v:D):valD (putD m k v) j=if k=j then some v else valD m j:=by
 unfold putD
 split
 ·rename_i h
  unfold valD
  induction m with
  | nil=>simp at h
  | cons p r ih=>
   rw[Dd,Hr,Hr]
   by_cases hp:p.1=k
   ·rw[if_pos hp]
    try walk_at "ew"
    by_cases hj:k=j
    ·subst hj;simp[hp]
    ·have:decide (p.1=j)=false:=by rw[decide_eq_false_iff_not,hp];exact hj
     simp only[this]
     rw[if_neg hj]
     try walk_at "ew"
     by_cases hr:(r.any fun kv=>decide (kv.1=k))=true
     ·have:=ih hr;rw[if_neg hj] at this;exact this
     ·have hn:r.map (fun kv=>if kv.1=k then(kv.1,v) else kv)=r:=by
       rw[List.map_congr_left (g:=id)]
       ·simp
       ·intro kv hkv
        rw[if_neg]
        try walk_at "ew"
        ·rfl
        ·intro z;exact hr (Mb.mpr ⟨kv,hkv,by simpa using z⟩)
      rw[hn]
   ·rw[if_neg hp]
    try walk_at "ew"
    have hr:(r.any fun kv=>decide (kv.1=k))=true:=by simpa[hp] using h
    by_cases hj:p.1=j
    ·have:¬k=j:=fun z=>hp (hj.trans z.symm)
     simp[hj,this]
    ·simp only[hj,decide_false]
     exact ih hr
 ·rename_i h
  unfold valD
  rw[List.find?_append]
  by_cases hj:k=j
  ·subst hj
   have:m.find? (fun kv=>decide (kv.1=k))=none:=by
    rw[List.find?_eq_none]
    intro kv hkv z
    exact h (Mb.mpr ⟨kv,hkv,z⟩)
   rw[this]
   simp
  ·rw[if_neg hj]
   try walk_at "ew"
   simp[hj]
def PM(kvs:List (List Key×D))(f:Lb→Option Nat):Prop:=∀l:Lb,valD kvs (lbk l)=(f l).map fun(n:Nat)=>D.int (n:Int)
theorem PM.put{kvs:List (List Key×D)}{f:Lb→Option Nat}(h:PM kvs f)(l:Lb)(v:Nat):PM (putD kvs (lbk l) (.int (v:Nat))) (up f l v):=by
 intro m
 rw[S5]
 unfold up
 by_cases e:m=l
 ·subst e;rw[if_pos rfl,if_pos rfl];rfl
 ·rw[if_neg (fun z=>e (Zp6 z).symm),if_neg e];exact h m
theorem Ea(m:List (List Key×D))(k:List Key)(v:D):(putD m k v).length≤m.length+1:=by
 unfold putD
 split
 ·rw[Ab];omega
 ·rw[Ae,Aj];exact Nat.le_refl _
structure St(tl pl:Nat)(t:List Pr)(f:Lb→Option Nat)(n:Nat)(M:Z2):Prop where
 w:Z4 M tl=some (t.map Pr.d)
 p:∃kvs,Zq M pl=some kvs∧PM kvs f∧kvs.length≤n
 l:t.length≤n
 b:n≤5000
abbrev F2(tl pl:Nat):Nat→Prop:=fun a=>a=tl∨a=pl
theorem V9{M:Z2}{n:Nat}{xs:List (List Key×D)}(h:Zq M n=some xs):n<M.length:=by
 unfold Zq at h
 rcases Nat.lt_or_ge n M.length with l | l
 ·exact l
 ·rw[Hn l] at h
  cases h
theorem Vi{M M':Z2}{a:Nat}(h:M'[a]?=M[a]?):Zq M' a=Zq M a:=by unfold Zq;rw[h]
section
variable{tl pl n:Nat}{t:List Pr}{f:Lb→Option Nat}{M:Z2}
theorem St.ne(h:St tl pl t f n M):tl≠pl:=by
 rintro rfl
 obtain⟨kvs,h1,_⟩:=h.p
 have h2:=h.w
 unfold Zq at h1
 unfold Z4 at h2
 cases e:M[tl]? with
 | none=>rw[e] at h1;cases h1
 | some c=>
  rw[e] at h1 h2
  cases c with
  | lst _=>cases h1
  | _=>cases h2
theorem St.add(h:St tl pl t f n M)(p:Pr)(hb:n+1≤5000):St tl pl (t++[p]) f (n+1) (M.set tl (.lst (t.map Pr.d++[p.d])))∧Ks (F2 tl pl) M (M.set tl (.lst (t.map Pr.d++[p.d]))):=by
 obtain⟨kvs,h1,h2,h3⟩:=h.p
 refine⟨⟨?_,⟨kvs,?_,h2,by omega⟩,by rw[Ae,Aj];have:=h.l;omega,hb⟩,(Ks.refl M).set (.inl (.inl rfl))⟩
 ·rw[Z9 (Z6 (Z1 h.w)),Ao];rfl
 ·rw[Vi (Y4 h.ne)];exact h1
theorem St.put(h:St tl pl t f n M){kvs:List (List Key×D)}(h1:Zq M pl=some kvs)(h2:PM kvs f)(h3:kvs.length≤n)(l:Lb)(v:Nat)(hb:n+1≤5000):St tl pl t (up f l v) (n+1) (M.set pl (.dcp (putD kvs (lbk l) (.int (v:Nat)))))∧Ks (F2 tl pl) M (M.set pl (.dcp (putD kvs (lbk l) (.int (v:Nat))))):=by
 refine⟨⟨?_,⟨_,?_,h2.put l v,by have:=Ea kvs (lbk l) (.int (v:Nat));omega⟩,by have:=h.l;omega,hb⟩,(Ks.refl M).set (.inl (.inr rfl))⟩
 ·rw[Zp (Y4 (Df h.ne))];exact h.w
 ·unfold Zq;rw[Dw (V9 h1)]
theorem St.up(h:St tl pl t f n M){m:Nat}(hm:n≤m)(hb:m≤5000):St tl pl t f m M:=by
 obtain⟨kvs,h1,h2,h3⟩:=h.p
 exact⟨h.w,⟨kvs,h1,h2,by omega⟩,by have:=h.l;omega,hb⟩
end
def Re:DSp:=fun ds M Q _=>∃(l:Ln) (tl pl n:Nat) (c c':CS) (e:Oe),ds=[l.g,.ref tl,.ref pl]∧l.beg=true∧St tl pl c.t c.f n M∧n+4≤5000∧cst c l=some c'∧c'.o=e::c.o∧∀M',Ks (F2 tl pl) M M'→St tl pl c'.t c'.f (n+4) M'→Q e.d M'
def V0:DSp:=fun ds M Q _=>∃(tl pl n:Nat) (c c':CS) (e:Oe) (r:List Oe),ds=[e.d,.ref tl,.ref pl]∧c.o=e::r∧St tl pl c.t c.f n M∧n+4≤5000∧cst c .els=some c'∧∀M',Ks (F2 tl pl) M M'→St tl pl c'.t c'.f (n+4) M'→Q .non M'
def S8:DSp:=fun ds M Q _=>∃(tl pl n:Nat) (c c':CS) (e:Oe) (r:List Oe),ds=[e.d,.ref tl,.ref pl]∧c.o=e::r∧St tl pl c.t c.f n M∧n+4≤5000∧cst c .don=some c'∧∀M',Ks (F2 tl pl) M M'→St tl pl c'.t c'.f (n+4) M'→Q .non M'
section
variable{K:Af}{Γ:List DSp}{G:List D}
theorem Jj:Rd K Γ G Re Tm Tn:=by
 rintro ds M Q Z ⟨l,tl,pl,n,c,c',e,rfl,hl,h,hn,hc,ho,q⟩
 delta Tm Tn
 have home:∀(b:Bool) (k:Int),c'.t=c.t→c'.f=up c.f (.agn,k) c.t.length→e= .home b k→∃kvs ks,Zq M pl=some kvs∧D.tup [.str "again",.int k]= .tup (List.map kD ks)∧kvs.length<sizeLine∧Q e.d (M.set pl (.dcp (putD kvs ks (.int (c.t.map Pr.d).length)))):=by
  intro b k e1 e2 _
  obtain⟨kvs,h1,h2,h3⟩:=h.p
  refine⟨kvs,lbk (.agn,k),h1,rfl,Z3 (by omega),?_⟩
  obtain⟨s1,s2⟩:=h.put h1 h2 h3 (.agn,k) c.t.length (by omega)
  rw[Ab]
  refine q _ s2 ?_
  rw[e1,e2]
  exact s1.up (by omega) (by omega)
 cases l with
 | rnd k=>
  cases hc
  cases ho
  simp only[Ln.g,Ln.d]
  walk_at "ew"
  refine Zb (Z1 h.w) ⟨Z0 (by decide),.inr (.inr ?_)⟩
  exact home true k rfl rfl rfl
 | prt k=>
  cases hc
  cases ho
  simp only[Ln.g,Ln.d]
  walk_at "ew"
  refine Zb (Z1 h.w) ⟨Z0 (by decide),.inr (.inr ?_)⟩
  exact home false k rfl rfl rfl
 | cond a s b=>
  cases hc
  cases ho
  simp only[Ln.g]
  walk_at "ew"
  try delta Wh
  try walk_at "ew"
  refine Zb (Z1 h.w) ?_
  rw[Ab]
  walk_at "ew"
  rw[show U.cutD [D.str "choice",a.d,D.str s,b.d] (some 1) none=[a.d,.str s,b.d] from rfl]
  obtain⟨s1,k1⟩:=h.add (.test a s b (.yes,c.t.length)) (by omega)
  refine⟨Z7 (Z1 h.w),Z0 (by decide),by decide,by simp,Z0 (by simp),Z0 (by decide),Z0 (by decide),by simp,Z0 (by simp),_,h.w,Z3 (by rw[Ab];have:=h.l;omega),?_⟩
  rw[show(Ha M tl (Cell.lst (c.t.map Pr.d++[D.tup (D.str "test"::([a.d,.str s,b.d]++[D.tup [D.str "yes",D.int c.t.length]]))])):Z2)=M.set tl (.lst (c.t.map Pr.d++[(Pr.test a s b (.yes,c.t.length)).d])) from rfl]
  generalize M.set tl (.lst (c.t.map Pr.d++[(Pr.test a s b (.yes,c.t.length)).d]))=M1 at s1 k1
  walk_at "ew"
  obtain⟨s2,k2⟩:=s1.add (.jump (.no,c.t.length)) (by omega)
  refine⟨Z7 (Z1 s1.w),Z0 (by decide),Z0 (by decide),_,s1.w,Z3 (by rw[Ab];have:=s1.l;omega),?_⟩
  rw[show(Ha M1 tl (Cell.lst ((c.t++[Pr.test a s b (.yes,c.t.length)]).map Pr.d++[D.tup [D.str "jump",D.tup [D.str "no",D.int c.t.length]]])):Z2)=M1.set tl (.lst ((c.t++[Pr.test a s b (.yes,c.t.length)]).map Pr.d++[(Pr.jump (.no,c.t.length)).d])) from rfl]
  generalize M1.set tl (.lst ((c.t++[Pr.test a s b (.yes,c.t.length)]).map Pr.d++[(Pr.jump (.no,c.t.length)).d]))=M2 at s2 k2
  walk_at "ew"
  obtain⟨kvs,h1,h2,h3⟩:=s2.p
  obtain⟨s3,k3⟩:=s2.put h1 h2 h3 (.yes,c.t.length) (c.t.length+2) (by omega)
  refine Zb (Z1 s2.w) ⟨Z0 (by decide),.inr (.inr ⟨kvs,lbk (.yes,c.t.length),h1,rfl,Z3 (by omega),?_⟩)⟩
  rw[Ab,show(c.t++[Pr.test a s b (.yes,c.t.length)]++[Pr.jump (.no,c.t.length)]).length=c.t.length+2 by simp]
  walk_at "ew"
  exact⟨Z0 (by decide),q _ ((k1.trans k2).trans k3) (s3.up (by omega) (by omega))⟩
 | _=>cases hl
theorem B5:Rd K Γ G V0 Pf Qw:=by
 rintro ds M Q Z ⟨tl,pl,n,⟨t,f,o⟩,c',e,r,rfl,ho,h,hn,hc,q⟩
 cases ho
 delta Pf Qw
 cases e with
 | home b k=>cases hc
 | cho k=>
  cases hc
  simp only[Oe.d]
  walk_at "ew"
  obtain⟨s1,k1⟩:=h.add (.jump (.beh,k)) (by omega)
  refine⟨Z7 (Z1 h.w),Z0 (by decide),Z0 (by decide),_,h.w,Z3 (by rw[Ab];have:=h.l;omega),?_⟩
  rw[show(Ha M tl (Cell.lst (t.map Pr.d++[D.tup [D.str "jump",D.tup [D.str "behind",D.int k]]])):Z2)=M.set tl (.lst (t.map Pr.d++[(Pr.jump (.beh,(k:Int))).d])) from rfl]
  generalize M.set tl (.lst (t.map Pr.d++[(Pr.jump (.beh,(k:Int))).d]))=M1 at s1 k1
  walk_at "ew"
  obtain⟨kvs,h1,h2,h3⟩:=s1.p
  obtain⟨s3,k3⟩:=s1.put h1 h2 h3 (.no,(k:Int)) (t.length+1) (by omega)
  refine Zb (Z1 s1.w) ⟨Z0 (by decide),.inr (.inr ⟨kvs,lbk (.no,(k:Int)),h1,rfl,Z3 (by omega),?_⟩)⟩
  rw[Ab,Ae,Aj]
  try walk_at "ew"
  exact q _ (k1.trans k3) (s3.up (by omega) (by omega))
theorem Eb{M:Z2}{Q:DK}{tl pl n:Nat}{t:List Pr}{f:Lb→Option Nat}{b:Bool}{k:Int}{d0:Option D}(h:St tl pl t f n M)(hn:n+1≤5000)(q:∀M',Ks (F2 tl pl) M M'→St tl pl t (up f (.lve,k) t.length) (n+1) M'→Q .non M'):
  tss ⟨K,Γ,G⟩ noX Yg {nx:=fun _ M=>Q .non M,rt:=Q} [d0,some (.ref tl),some (.ref pl),some (.str (if b then "round" else "part")),some (.int k)] M:=by
 delta Yg
 walk_at "ew"
 refine⟨Z0 (by decide),rfl,rfl,?_⟩
 dsimp only
 rw[show inD (.str (if b then "round" else "part")) [.str "round",.str "part"]=true by cases b<;>decide+kernel,if_pos rfl]
 obtain⟨kvs,h1,h2,h3⟩:=h.p
 obtain⟨s3,k3⟩:=h.put h1 h2 h3 (.lve,k) t.length (by omega)
 refine Zb (Z1 h.w) ⟨Z0 (by decide),.inr (.inr ⟨kvs,lbk (.lve,k),h1,rfl,Z3 (by omega),?_⟩)⟩
 rw[Ab]
 try walk_at "ew"
 exact q _ k3 s3
theorem Oz:Rd K Γ G S8 Wv V3:=by
 rintro ds M Q Z ⟨tl,pl,n,⟨t,f,o⟩,c',e,r,rfl,ho,h,hn,hc,q⟩
 cases ho
 delta Wv V3
 cases e with
 | home b k=>
  cases b with
  | true=>
   cases hc
   simp only[Oe.d,if_true]
   walk_at "ew"
   try delta Zy
   try walk_at "ew"
   obtain⟨s1,k1⟩:=h.add (.jump (.agn,k)) (by omega)
   refine⟨Z7 (Z1 h.w),Z0 (by decide),Z0 (by decide),_,h.w,Z3 (by rw[Ab];have:=h.l;omega),?_⟩
   rw[show(Ha M tl (Cell.lst (t.map Pr.d++[D.tup [D.str "jump",D.tup [D.str "again",D.int k]]])):Z2)=M.set tl (.lst (t.map Pr.d++[(Pr.jump (.agn,k)).d])) from rfl]
   generalize M.set tl (.lst (t.map Pr.d++[(Pr.jump (.agn,k)).d]))=M1 at s1 k1
   refine Su ?_
   refine Su ?_
   refine Eb (b:=true) s1 (by omega) fun M2 k2 s2=>q _ (k1.trans k2) ?_
   rw[Ae,Aj] at s2
   exact s2.up (by omega) (by omega)
  | false=>
   cases hc
   simp only[Oe.d,Bool.false_eq_true,if_false]
   walk_at "ew"
   try delta Zy
   try walk_at "ew"
   refine Eb (b:=false) h (by omega) fun M2 k2 s2=>q _ k2 ?_
   exact s2.up (by omega) (by omega)
 | cho k=>
  cases hc
  simp only[Oe.d]
  walk_at "ew"
  obtain⟨kvs,h1,h2,h3⟩:=h.p
  have go:∀(M1:Z2) (f1:Lb→Option Nat),Ks (F2 tl pl) M M1→St tl pl t f1 (n+1) M1→f1=up0 f (.no,(k:Int)) t.length→tss ⟨K,Γ,G⟩ noX (.cons (.put (.var 2) (.tup (.cons (.str "behind") (.cons (.var 4) .nil))) (.bf .len (.cons (.var 1) .nil))) .nil) {nx:=fun σ' M'=>Rest ⟨K,Γ,G⟩ noX Zy {nx:=fun _ M=>Q .non M,rt:=Q} σ' M',rt:=Q} [some (.tup [.str "choice",.int k]),some (.ref tl),some (.ref pl),some (.str "choice"),some (.int k)] M1:=by
   rintro M1 f1 k1 s1 rfl
   walk_at "ew"
   obtain⟨kvs,h1,h2,h3⟩:=s1.p
   obtain⟨s3,k3⟩:=s1.put h1 h2 h3 (.beh,(k:Int)) t.length (by omega)
   refine Zb (Z1 s1.w) ⟨Z0 (by decide),.inr (.inr ⟨kvs,lbk (.beh,(k:Int)),h1,rfl,Z3 (by omega),?_⟩)⟩
   rw[Ab]
   generalize M1.set pl (.dcp (putD kvs (lbk (.beh,(k:Int))) (.int t.length)))=M2 at s3 k3
   walk_at "ew"
   try delta Zy
   try walk_at "ew"
   try delta Yg
   try walk_at "ew"
   refine⟨Z0 (by decide),rfl,rfl,?_⟩
   dsimp only
   rw[show inD (.str "choice") [.str "round",.str "part"]=false by decide+kernel,if_neg Bf9]
   try walk_at "ew"
   exact q _ (k1.trans k3) (s3.up (by omega) (by omega))
  refine⟨by rw[h1];rfl,Z0 (by decide),Zb (Z1 h.w) ⟨kvs,lbk (.no,(k:Int)),h1,rfl,Z3 (by omega),fun d hd=>?_,fun hd=>?_⟩⟩
  ·refine Su (go M _ (Ks.refl M) (h.up (by omega) (by omega)) ?_)
   unfold up0
   rw[if_pos]
   rw[h2] at hd
   dsimp only at hd
   cases e:f (.no,(k:Int)) with
   | none=>rw[e] at hd;cases hd
   | some v=>rfl
  ·obtain⟨s1,k1⟩:=h.put h1 h2 h3 (.no,(k:Int)) t.length (by omega)
   rw[Ab]
   refine Su (go _ _ k1 s1 ?_)
   unfold up0
   rw[if_neg]
   rw[h2] at hd
   dsimp only at hd
   cases e:f (.no,(k:Int)) with
   | none=>exact Bf9
   | some v=>rw[e] at hd;cases hd
end
inductive Rw where
 | sum (k:Nat) (x:Str) (a:Opd) (sg:Str) (b:Opd) | test (k:Nat) (a:Opd) (sg:Str) (b:Opd) (g:Nat) | jump (k g:Nat) | fin (k:Nat)
noncomputable def Rw.d:Rw→D
 | .sum k x a sg b=> .tup [.int k,.str "sum",.str x,a.d,.str sg,b.d]
 | .test k a sg b g=> .tup [.int k,.str "test",a.d,.str sg,b.d,.int g]
 | .jump k g=> .tup [.int k,.str "jump",.int g]
 | .fin k=> .tup [.int k,.str "end"]
inductive Raw where
 | sum (x:Str) (a:Opd) (sg:Str) (b:Opd) | test (a:Opd) (sg:Str) (b:Opd) (t:Nat) | jump (t:Nat) | fin
noncomputable def Raw.l:Raw→List D
 | .sum x a sg b=>[.str "sum",.str x,a.d,.str sg,b.d]
 | .test a sg b t=>[.str "test",a.d,.str sg,b.d,.int (t:Nat)]
 | .jump t=>[.str "jump",.int (t:Nat)]
 | .fin=>[.str "end"]
noncomputable def res(f:Lb→Option Nat):Pr→Option Raw
 | .sum x a s b=>some (.sum x a s b)
 | .test a s b l=>(f l).map (Raw.test a s b)
 | .jump l=>(f l).map Raw.jump
 | .fin=>some .fin
noncomputable def Raw.rw(k:Nat):Raw→Rw
 | .sum x a sg b=> .sum k x a sg b
 | .test a sg b t=> .test k a sg b t
 | .jump t=> .jump k t
 | .fin=> .fin k
theorem Raw.rw_d(k:Nat)(r:Raw):(r.rw k).d= .tup (.int (k:Nat)::r.l):=by cases r<;>rfl
noncomputable def Yd(raws:List Raw):List Rw:=raws.mapIdx fun k r=>r.rw k
theorem Y7(raws:List Raw):(Yd raws).length=raws.length:=by unfold Yd;simp
theorem Xm{k:Nat}{raws:List Raw}{r:Raw}(h:raws[k]?=some r):(Yd raws)[k]?=some (r.rw k):=by unfold Yd;rw[Ke,h];rfl
def Za7:DSp:=fun ds M Q _=>∃(p:Pr) (pl:Nat) (kvs:List (List Key×D)) (f:Lb→Option Nat) (r:Raw),ds=[p.d,.ref pl]∧Zq M pl=some kvs∧PM kvs f∧res f p=some r∧Q (.tup r.l) M
section
variable{K:Af}{Γ:List DSp}{G:List D}
theorem G9:Rd K Γ G Za7 Rm Sm:=by
 rintro ds M Q Z ⟨p,pl,kvs,f,r,rfl,hp,pm,hr,q⟩
 delta Rm Sm
 cases p with
 | sum x a s b=>
  cases hr
  simp only[Pr.d]
  walk_at "ew"
  refine⟨Z0 (by decide),rfl,rfl,?_⟩
  dsimp only
  rw[show inD (.str "sum") [.str "test",.str "jump"]=false by decide+kernel,if_neg Bf9]
  try delta Xg
  try walk_at "ew"
  exact q
 | fin=>
  cases hr
  simp only[Pr.d]
  walk_at "ew"
  refine⟨Z0 (by decide),rfl,rfl,?_⟩
  dsimp only
  rw[show inD (.str "end") [.str "test",.str "jump"]=false by decide+kernel,if_neg Bf9]
  try delta Xg
  try walk_at "ew"
  exact q
 | test a s b l=>
  obtain⟨g,hg,rfl⟩:=Ch.mp (show(f l).map (Raw.test a s b)=some r from hr)
  simp only[Pr.d]
  walk_at "ew"
  refine⟨Z0 (by decide),rfl,rfl,?_⟩
  dsimp only
  rw[show inD (.str "test") [.str "test",.str "jump"]=true by decide+kernel,if_pos rfl,show U.cutD [D.str "test",a.d,D.str s,b.d,lbd l] none (some (-1))=[.str "test",a.d,.str s,b.d] from rfl]
  refine⟨by decide,_,rfl,ix_p (ks:=lbk l) hp (by rw[pm,hg];rfl) ⟨Z0 (by decide),by simp,Z0 (by simp),q⟩⟩
 | jump l=>
  obtain⟨g,hg,rfl⟩:=Ch.mp (show(f l).map Raw.jump=some r from hr)
  simp only[Pr.d]
  walk_at "ew"
  refine⟨Z0 (by decide),rfl,rfl,?_⟩
  dsimp only
  rw[show inD (.str "jump") [.str "test",.str "jump"]=true by decide+kernel,if_pos rfl,show U.cutD [D.str "jump",lbd l] none (some (-1))=[.str "jump"] from rfl]
  refine⟨by decide,_,rfl,ix_p (ks:=lbk l) hp (by rw[pm,hg];rfl) ⟨Z0 (by decide),by simp,Z0 (by simp),q⟩⟩
end
theorem Opd.flat(o:Opd):Zu o.d=true:=by cases o<;>rfl
theorem Yl(h k:Str)(xs:List D)(hk:¬h=k):eqFs (.str h::xs) [.str k]=false:=by
 unfold eqFs
 rw[show min (D.str h::xs).length [D.str k].length=1 by simp]
 show((eqF (.str h) (.str k)&&true)&&_)=false
 have:eqF (.str h) (.str k)=false:=by show(h==k)=false;simpa using hk
 rw[this]
 rfl
theorem Rp{M:Z2}{x:D}{xs ys:List D}{B:Bool→Prop}(hx:x= .tup xs∨x= .gtup xs)(f1:xs.all Zu=true)(f2:ys.all Zu=true)(q:B (eqFs xs ys)):eqD M x (.gtup ys) B:=by
 rcases hx with rfl | rfl
 ·exact .inr (.inr (.inr ⟨xs,ys,.inl rfl,.inr rfl,f1,f2,q⟩))
 ·exact .inr (.inr (.inr ⟨xs,ys,.inr rfl,.inr rfl,f1,f2,q⟩))
theorem Zi2{xs:List D}{i:Nat}{d:D}(h:(Jt xs)[i]?=some d):∃x,xs[i]?=some x∧d= .tup [.int (i:Nat),x]:=by
 unfold Jt at h
 rw[Ke,Ch] at h
 obtain⟨x,h1,rfl⟩:=h
 exact⟨x,h1,rfl⟩
theorem Zf5(xs:List D):(Jt xs).length=xs.length:=by unfold Jt;simp
noncomputable def c0:CS:=⟨[],fun _=>none,[]⟩
def Vj:DSp:=fun ds M Q _=>∃(C:Nat→Prop) (us:List T) (r:Nat) (ds':List D) (c:CS) (raws:List Raw),ds=[.ref r]∧Z4 M r=some ds'∧RTs C M us ds'∧(∀c,C c→c<M.length)∧(fls us).length≤1000∧crun c0 (fls us)=some c∧(c.t++[Pr.fin]).map (res c.f)=raws.map some∧
 ∀M' r',Kp M M'→Z4 M' r'=some ((Yd raws).map Rw.d)→M.length≤r'→Q (.ref r') M'
structure Ro(M:Z2)(q:Nat)(ls:List Ln)(c:CS)(n:Nat)(M':Z2):Prop where
 k:Kp M M'
 s:St M.length (M.length+1) c.t c.f n M'
 o:Z4 M' (M.length+2)=some (c.o.reverse.map Oe.d)
 ol:c.o.length≤n
 q0:M.length+3≤q
 q:Z4 M' q=some (ls.map Ln.g)
section
variable{M M' M2:Z2}{q n m:Nat}{ls:List Ln}{c c':CS}
theorem Ro.ks(h:Ro M q ls c n M')(k:Ks (F2 M.length (M.length+1)) M' M2)(s:St M.length (M.length+1) c'.t c'.f m M2)(e:c'.o=c.o)(hm:n≤m):Ro M q ls c' m M2:=by
 have h0:=h.q0
 refine⟨⟨fun a _ l=>?_,Nat.le_trans h.k.len k.len⟩,s,?_,by rw[e];have:=h.ol;omega,h0,?_⟩
 ·have:=h.k.len
  rw[k.at' a (by rintro(z | z)<;>omega) (by omega)]
  exact h.k.at' a (fun z=>z) l
 ·rw[e,Zp (k.at' (M.length+2) (by rintro(z | z)<;>omega) (Z6 (Z1 h.o)))]
  exact h.o
 ·rw[Zp (k.at' q (by rintro(z | z)<;>omega) (Z6 (Z1 h.q)))]
  exact h.q
theorem Ro.op(h:Ro M q ls c n M')(o:List Oe)(ho:o.length≤n):Ro M q ls ⟨c.t,c.f,o⟩ n (M'.set (M.length+2) (.lst (o.reverse.map Oe.d))):=by
 have h0:=h.q0
 obtain⟨kvs,h1,h2,h3⟩:=h.s.p
 refine⟨h.k.set (.inr (by omega)),⟨?_,⟨kvs,?_,h2,h3⟩,h.s.l,h.s.b⟩,Z9 (Z6 (Z1 h.o)),ho,h0,?_⟩
 ·rw[Za (by omega)];exact h.s.w
 ·rw[Vi (Y4 (by omega))];exact h1
 ·rw[Za (by omega)];exact h.q
end
noncomputable abbrev opn:List D:=[.str "choice",.str "round",.str "part"]
section
variable{K:Af}{Γ:List DSp}{G:List D}
theorem Zy2(e2:G[0]?=some (.gtup [.str "else"]))(e3:G[1]?=some (.gtup [.str "done"]))(e4:G[2]?=some (.gtup opn))(g4:Γ[4]?=some Re)(g5:Γ[5]?=some V0)(g6:Γ[6]?=some S8)
  {M M':Z2} {qq n r:Nat} {ls:List Ln} {c c':CS} {l:Ln} {Q:DK} {P B:DEnv→Z2→Prop} (h:Ro M qq ls c n M') (hn:n+4≤5000) (hc:cst c l=some c') (q:∀M2,Ro M qq ls c' (n+4) M2→P [some (.ref r),some (.ref M.length),some (.ref (M.length+1)),some (.ref (M.length+2)),some l.g] M2):
  tss ⟨K,Γ,G⟩ noX Wt {nx:=P,rt:=Q,bk:=B,ct:=P} [some (.ref r),some (.ref M.length),some (.ref (M.length+1)),some (.ref (M.length+2)),some l.g] M':=by
 have opens:∀e,l.beg=true→c'.o=e::c.o→Re [l.g,.ref M.length,.ref (M.length+1)] M' (fun d M1=>∃xs,Z4 M1 (M.length+2)=some xs∧xs.length<sizeLine∧P [some (.ref r),some (.ref M.length),some (.ref (M.length+1)),some (.ref (M.length+2)),some l.g] (M1.set (M.length+2) (.lst (xs++[d])))) noX:=by
  intro e hb ho
  refine⟨l,_,_,n,c,c',e,rfl,hb,h.s,hn,hc,ho,fun M1 k1 s1=>?_⟩
  have h1:Ro M qq ls ⟨c'.t,c'.f,c.o⟩ (n+4) M1:=h.ks k1 s1 rfl (by omega)
  refine⟨_,h1.o,Z3 (by rw[Ab,Iw];have:c.o.length≤n+4:=h1.ol;show c.o.length≤_;omega),?_⟩
  have h2:=h1.op (e::c.o) (by have:=h.ol;rw[Ar];omega)
  have h3:Ro M qq ls c' (n+4) (M1.set (M.length+2) (.lst ((e::c.o).reverse.map Oe.d))):=by
   rw[←ho] at h2 ⊢
   exact h2
  rw[show(c.o.reverse.map Oe.d++[e.d]:List D)=(e::c.o).reverse.map Oe.d by simp]
  exact q _ h3
 have adds:∀p:Pr,c'=⟨c.t++[p],c.f,c.o⟩→(Zc M' M.length).isSome=true∧∃xs,Z4 M' M.length=some xs∧xs.length<sizeLine∧P [some (.ref r),some (.ref M.length),some (.ref (M.length+1)),some (.ref (M.length+2)),some l.g] (M'.set M.length (.lst (xs++[p.d]))):=by
  rintro p rfl
  obtain⟨s1,k1⟩:=h.s.add p (by omega)
  refine⟨Z7 (Z1 h.s.w),_,h.s.w,Z3 (by rw[Ab];have:=h.s.l;omega),q _ (h.ks k1 (s1.up (by omega) (by omega)) rfl (by omega))⟩
 delta Wt
 cases l with
 | cond a s b=>
  simp only[Ln.g]
  walk_at "ew"
  simp only[e4]
  refine⟨rfl,rfl,?_⟩
  dsimp only
  rw[show inD (.str "choice") opn=true by decide+kernel,if_pos rfl]
  cases hc
  exact⟨Z7 (Z1 h.o),opens _ rfl rfl⟩
 | rnd k=>
  simp only[Ln.g,Ln.d]
  walk_at "ew"
  simp only[e4]
  refine⟨rfl,rfl,?_⟩
  dsimp only
  rw[show inD (.str "round") opn=true by decide+kernel,if_pos rfl]
  cases hc
  exact⟨Z7 (Z1 h.o),opens _ rfl rfl⟩
 | prt k=>
  simp only[Ln.g,Ln.d]
  walk_at "ew"
  simp only[e4]
  refine⟨rfl,rfl,?_⟩
  dsimp only
  rw[show inD (.str "part") opn=true by decide+kernel,if_pos rfl]
  cases hc
  exact⟨Z7 (Z1 h.o),opens _ rfl rfl⟩
 | els=>
  simp only[Ln.g]
  walk_at "ew"
  simp only[e2,e4]
  refine⟨rfl,rfl,?_⟩
  dsimp only
  rw[show inD (.str "else") opn=false by decide+kernel,if_neg Bf9]
  try walk_at "ew"
  refine Rp (.inr rfl) rfl rfl ?_
  rw[show eqFs [.str "else"] [.str "else"]=true by decide+kernel,if_pos rfl]
  try walk_at "ew"
  cases ho:c.o with
  | nil=>unfold cst at hc;rw[ho] at hc;cases hc
  | cons e rr=>
   have hlast:atI (c.o.reverse.map Oe.d) (-1)=some e.d:=by rw[ho];simp only[Kg,Ao,Dd,Le];exact S9 _ _
   refine Wo (Z1 h.o) hlast ⟨_,_,n,c,c',e,rr,rfl,ho,h.s,hn,hc,fun M1 k1 s1=>q _ (h.ks k1 s1 ?_ (by omega))⟩
   unfold cst at hc
   rw[ho] at hc ⊢
   cases e with
   | cho k=>cases hc;rfl
   | home b k=>cases hc
 | don=>
  simp only[Ln.g]
  walk_at "ew"
  simp only[e2,e3,e4]
  refine⟨rfl,rfl,?_⟩
  dsimp only
  rw[show inD (.str "done") opn=false by decide+kernel,if_neg Bf9]
  try walk_at "ew"
  try simp only[e2,e3]
  refine Rp (.inr rfl) rfl rfl ?_
  rw[Yl _ _ _ (by decide+kernel),if_neg Bf9]
  try walk_at "ew"
  try simp only[e2,e3]
  refine Rp (.inr rfl) rfl rfl ?_
  rw[show eqFs [.str "done"] [.str "done"]=true by decide+kernel,if_pos rfl]
  try walk_at "ew"
  cases ho:c.o with
  | nil=>unfold cst at hc;rw[ho] at hc;cases hc
  | cons e rr=>
   have hx:c.o.reverse.map Oe.d=rr.reverse.map Oe.d++[e.d]:=by rw[ho];simp
   refine⟨Z7 (Z1 h.o),_,e.d,h.o,by rw[hx];simp,?_⟩
   rw[hx,Mc]
   have h1:=h.op rr (by have:=h.ol;rw[ho,Ar] at this;omega)
   generalize M'.set (M.length+2) (.lst (rr.reverse.map Oe.d))=M1 at h1
   refine⟨_,_,n,c,c',e,rr,rfl,ho,h1.s,hn,hc,fun M2 k2 s2=>q _ (h1.ks k2 s2 ?_ (by omega))⟩
   unfold cst at hc
   rw[ho] at hc
   cases e with
   | cho k=>cases hc;rfl
   | home b k=>cases b<;>(cases hc;rfl)
 | lve k=>
  simp only[Ln.g,Ln.d]
  walk_at "ew"
  simp only[e2,e3,e4]
  refine⟨rfl,rfl,?_⟩
  dsimp only
  rw[show inD (.str "leave") opn=false by decide+kernel,if_neg Bf9]
  try walk_at "ew"
  try simp only[e2,e3]
  refine Rp (.inl rfl) rfl rfl ?_
  rw[Yl _ _ _ (by decide+kernel),if_neg Bf9]
  try walk_at "ew"
  try simp only[e2,e3]
  refine Rp (.inl rfl) rfl rfl ?_
  rw[Yl _ _ _ (by decide+kernel),if_neg Bf9]
  try walk_at "ew"
  refine⟨Z0 (by decide),rfl,rfl,?_⟩
  dsimp only
  rw[show inD (.str "leave") [.str "leave",.str "again"]=true by decide+kernel,if_pos rfl]
  cases hc
  obtain⟨a1,a2⟩:=adds (.jump (.lve,k)) rfl
  exact⟨a1,Z0 (by decide),a2⟩
 | agn k=>
  simp only[Ln.g,Ln.d]
  walk_at "ew"
  simp only[e2,e3,e4]
  refine⟨rfl,rfl,?_⟩
  dsimp only
  rw[show inD (.str "again") opn=false by decide+kernel,if_neg Bf9]
  try walk_at "ew"
  try simp only[e2,e3]
  refine Rp (.inl rfl) rfl rfl ?_
  rw[Yl _ _ _ (by decide+kernel),if_neg Bf9]
  try walk_at "ew"
  try simp only[e2,e3]
  refine Rp (.inl rfl) rfl rfl ?_
  rw[Yl _ _ _ (by decide+kernel),if_neg Bf9]
  try walk_at "ew"
  refine⟨Z0 (by decide),rfl,rfl,?_⟩
  dsimp only
  rw[show inD (.str "again") [.str "leave",.str "again"]=true by decide+kernel,if_pos rfl]
  cases hc
  obtain⟨a1,a2⟩:=adds (.jump (.agn,k)) rfl
  exact⟨a1,Z0 (by decide),a2⟩
 | sum x a s b=>
  simp only[Ln.g,Ln.d]
  walk_at "ew"
  simp only[e2,e3,e4]
  refine⟨rfl,rfl,?_⟩
  dsimp only
  rw[show inD (.str "sum") opn=false by decide+kernel,if_neg Bf9]
  try walk_at "ew"
  try simp only[e2,e3]
  refine Rp (.inl rfl) (by show(true&&(true&&(Zu a.d&&(true&&(Zu b.d&&true)))))=true;rw[a.flat,b.flat];rfl) rfl ?_
  rw[Yl _ _ _ (by decide+kernel),if_neg Bf9]
  try walk_at "ew"
  try simp only[e2,e3]
  refine Rp (.inl rfl) (by show(true&&(true&&(Zu a.d&&(true&&(Zu b.d&&true)))))=true;rw[a.flat,b.flat];rfl) rfl ?_
  rw[Yl _ _ _ (by decide+kernel),if_neg Bf9]
  try walk_at "ew"
  refine⟨Z0 (by decide),rfl,rfl,?_⟩
  dsimp only
  rw[show inD (.str "sum") [.str "leave",.str "again"]=false by decide+kernel,if_neg Bf9]
  cases hc
  exact adds (.sum x a s b) rfl
 | fin=>
  simp only[Ln.g,Ln.d]
  walk_at "ew"
  simp only[e2,e3,e4]
  refine⟨rfl,rfl,?_⟩
  dsimp only
  rw[show inD (.str "end") opn=false by decide+kernel,if_neg Bf9]
  try walk_at "ew"
  try simp only[e2,e3]
  refine Rp (.inl rfl) rfl rfl ?_
  rw[Yl _ _ _ (by decide+kernel),if_neg Bf9]
  try walk_at "ew"
  try simp only[e2,e3]
  refine Rp (.inl rfl) rfl rfl ?_
  rw[Yl _ _ _ (by decide+kernel),if_neg Bf9]
  try walk_at "ew"
  refine⟨Z0 (by decide),rfl,rfl,?_⟩
  dsimp only
  rw[show inD (.str "end") [.str "leave",.str "again"]=false by decide+kernel,if_neg Bf9]
  cases hc
  exact adds .fin rfl
theorem Bv(e2:G[0]?=some (.gtup [.str "else"]))(e3:G[1]?=some (.gtup [.str "done"]))(e4:G[2]?=some (.gtup opn))(g2:Γ[2]?=some R0)(g3:Γ[3]?=some Za7)(g4:Γ[4]?=some Re)(g5:Γ[5]?=some V0)(g6:Γ[6]?=some S8):Rd K Γ G Vj Nk Ni:=by
 rintro ds M Q Z ⟨C,us,r,ds',cF,raws,rfl,hr,rt,hC,hz,hcr,hres,q⟩
 delta Nk Ni
 walk_at "ew"
 refine⟨Z0 (by decide),?_⟩
 walk_at "ew"
 refine⟨Z0 (by decide),?_⟩
 walk_at "ew"
 have k1:Kp M (M++[Cell.lst []]++[Cell.dcp []]++[Cell.lst []]):=((Ks.new M _).app _).app _
 refine⟨C,us,r,ds',rfl,k1.pW hr,rt.keep (fun _ z=>z) (k1.cl hC),fun c hc=>Nat.lt_of_lt_of_le (hC c hc) k1.len,hz,fun M2 r2 k2 hr2 hl2=>?_⟩
 walk_at "ew"
 have l1:(M++[Cell.lst []]:Z2).length=M.length+1:=by simp
 have l2:(M++[Cell.lst []]++[Cell.dcp []]:Z2).length=M.length+2:=by simp
 have l3:(M++[Cell.lst []]++[Cell.dcp []]++[Cell.lst []]:Z2).length=M.length+3:=by simp
 rw[l1,l2]
 rw[l3] at hl2
 have rp0:Zq (M++[Cell.lst []]++[Cell.dcp []]++[Cell.lst []]) (M.length+1)=some []:=by
  unfold Zq
  rw[Bs,Bs,Dc (by omega),Nat.add_sub_cancel_left]
  rfl
 have ro0:Ro M r2 (fls us) c0 0 M2:=by
  refine⟨(k1.trans k2),⟨k2.pW ?_,⟨[],?_,fun l=>rfl,Nat.le_refl _⟩,Nat.le_refl _,by decide⟩,k2.pW ?_,Nat.le_refl _,hl2,hr2⟩
  ·rw[Bs,Bs];exact Z5 _ _ _
  ·rw[Vi (k2.at' _ (fun z=>z) (V9 rp0))];exact rp0
  ·rw[←l2];exact Z5 _ _ []
 refine⟨_,Z1 hr2,?_⟩
 refine Xy (fun i σ M'=>∃(d:Option D) (c:CS),σ=[some (.ref r),some (.ref M.length),some (.ref (M.length+1)),some (.ref (M.length+2)),d]∧Ro M r2 (fls us) c (4 * i) M'∧crun c ((fls us).drop i)=some cF) ⟨none,c0,rfl,ro0,hcr⟩ ?_ ?_ ?_
 ·rintro i σ M' _ ⟨d,c,rfl,ro,_⟩
  exact Z1 ro.q
 ·rintro i d σ M' P hd ⟨d0,c,rfl,ro,hcc⟩ hP
  obtain⟨l,hl1,rfl⟩:∃l,(fls us)[i]?=some l∧d=l.g:=by
   rw[Ai] at hd
   cases e:(fls us)[i]? with
   | none=>rw[e] at hd;cases hd
   | some l=>rw[e] at hd;cases hd;exact⟨l,rfl,rfl⟩
  obtain⟨hi,hli⟩:=Ac.mp hl1
  rw[Dv hi,hli] at hcc
  rw[tg_one]
  obtain⟨c',hc1,hc2⟩:=Ik.mp (show(cst c l).bind _=some cF from hcc)
  refine Zy2 e2 e3 e4 g4 g5 g6 ro (by omega) hc1 fun M3 ro3=>hP _ _ ⟨_,c',rfl,?_,hc2⟩
  exact ro3
 ·rintro σ M' ⟨d,c,rfl,ro,hcc⟩
  rw[Ab,List.drop_length] at hcc
  cases hcc
  rw[Ab] at ro
  delta Sd
  walk_at "ew"
  obtain⟨s1,k5⟩:=ro.s.add .fin (by omega)
  refine⟨Z7 (Z1 ro.s.w),Z0 (by decide),_,ro.s.w,Z3 (by rw[Ab];have:=ro.s.l;omega),?_⟩
  have k6:Kp M (M'.set M.length (.lst (cF.t.map Pr.d++[Pr.fin.d]))):=ro.k.set (.inr (Nat.le_refl _))
  rw[show(Ha M' M.length (Cell.lst (cF.t.map Pr.d++[D.tup [D.str "end"]])):Z2)=M'.set M.length (.lst (cF.t.map Pr.d++[Pr.fin.d])) from rfl]
  generalize M'.set M.length (.lst (cF.t.map Pr.d++[Pr.fin.d]))=M5 at s1 k6
  clear k5
  walk_at "ew"
  refine⟨_,Z1 s1.w,?_⟩
  simp only[capD,Dd,Le,Option.bind_none,Option.bind_some,List.getElem?_cons_zero,List.getElem?_cons_succ,Option.join_some]
  have hlen:(cF.t++[Pr.fin]).length=raws.length:=by have:=congrArg Mi hres;rwa[Ab,Ab] at this
  have hsl:=s1.l
  obtain⟨kvs,h1,h2,h3⟩:=s1.p
  have rP:∀N,Zq (M5++N) (M.length+1)=some kvs:=fun N=>Z56 h1
  have rT:∀N,Zc (M5++N) M.length=some ((cF.t++[Pr.fin]).map Pr.d):=fun N=>Zh (Z1 s1.w)
  refine Yi (fun i σ M'=>∃d1 d2,σ=[d1,d2,some (.ref (M.length+1))]∧M'=M5++[.lst (((Yd raws).take i).map Rw.d)]) ⟨none,none,rfl,rfl⟩ ?_ ?_ ?_
  ·rintro i σ M' _ ⟨d1,d2,rfl,rfl⟩
   exact⟨_,rT _,rfl⟩
  ·rintro i dx σ M' C hx ⟨d1,d2,rfl,rfl⟩ hC
   obtain⟨y,hy,rfl⟩:=Zi2 hx
   have hi:i< (cF.t++[Pr.fin]).length:=by have:=(Ac.mp hy).1;rwa[Ab] at this
   obtain⟨p,hp⟩:∃p,(cF.t++[Pr.fin])[i]?=some p:=⟨_,Ag hi⟩
   rw[Ai,hp] at hy
   cases hy
   obtain⟨rw_,hrw⟩:∃r,raws[i]?=some r:=⟨_,Ag (by omega)⟩
   have hrs:res cF.f p=some rw_:=by
    have:=congrArg (fun l=>l[i]?) hres
    simp only[Ai,hp,hrw,Option.map_some] at this
    exact Aw this
   walk_at "ew"
   refine⟨Z0 (by decide),p,_,kvs,cF.f,rw_,rfl,rP _,h2,hrs,?_⟩
   try walk_at "ew"
   refine⟨by simp,Z0 (by cases rw_<;>simp[Raw.l]),_,Z5 _ _ [],Z3 (by rw[Ab,Hs,Y7];omega),?_⟩
   rw[Zq7]
   refine hC _ _ ⟨_,_,rfl,?_⟩
   rw[Zn (Xm hrw),Ao,Dd,Le,Raw.rw_d]
  ·rintro σ M' ⟨d1,d2,rfl,rfl⟩
   rw[Zf5,Ab,hlen,←Y7 raws,Ht]
   try walk_at "ew"
   exact q _ _ (k6.app _) (Z5 _ _ []) k6.len
end
set_option hygiene false
local macro_rules | `(tactic| walk_at "ev")=>do
 let ids:=("tss ts te tes teo tit tcd tbop tt op_add_i op_add_s op_add_t op_add_l op_sub_i op_mul_i op_mul_l op_fdiv_i op_mod_i op_pow_i cm_lt_i cm_le_i cm_gt_i cm_ge_i cm_eq cm_ne cm_in cm_notin cm_is_n cm_is_i cm_is_s cm_is_b cm_is_t cm_is_r eq_i eq_s eq_b eq_nn eq_is eq_si tru_b tru_i tru_n tru_t ix_t ix_g ix_s sl_s sl_t sl_l is_non is_bl is_int is_str is_tup tyNon tyBl tyInt tyStr tyTup tyLst tyDct bf_len_t bf_len_s bf_is bf_min bf_max bf_list bf_int on_ref set_f mt_setd_r mk_setd ati0 ati1 ati2 ati3 ati4 ati5 Option.some.injEq exists_eq_left' ofS_inj String.reduceEq mt_append_r mt_get2_r mt_pop_r mt_clear_r mt_extend_r mk_append mk_pop mk_clear mk_get2 mk_extend tg_one tg_two it_r it_t it_g key_i key_s in_ss start0 List.map_cons List.map_nil List.length_cons List.length_nil List.cons_append List.nil_append List.append_nil List.replicate List.set_cons_zero List.set_cons_succ List.getElem?_cons_zero List.getElem?_cons_succ Nat.reduceAdd Nat.reduceSub Nat.sub_self Nat.zero_add decide_eq_true_eq ne_eq Int.reduceEq not_false_eq_true true_and Bool.not_eq_true' decide_eq_false_iff_not Bool.false_eq_true if_true if_false Bool.not_true Bool.not_false".splitOn " ").toArray.map fun s=>Lean.mkIdent s.toName
 `(tactic| first | (dsimp only[$[$ids:ident],*];try simp only[$[$ids:ident],*]) | simp only[$[$ids:ident],*])
noncomputable def skp:Ln→List Ln→Bool
 | .els,.don::_=>true
 | _,_=>false
noncomputable def cl:List Ln→List Ln
 | []=>[]
 | l::ls=>if skp l ls then cl ls else l::cl ls
noncomputable def stc(x:List Ln×Bool)(l:Ln):List Ln×Bool:=
 match l with
 | .els=>(if x.2 then x.1++[.els] else x.1,true)
 | .don=>(x.1++[.don],false)
 | l=>((if x.2 then x.1++[.els] else x.1)++[l],false)
theorem Zo3:∀(ls:List Ln) (o:List Ln) (p:Bool),(ls.foldl stc (o,p)).2=false→(ls.foldl stc (o,p)).1=o++cl (if p then .els::ls else ls)
 | [],o,p,h=>by
  cases (show p=false from h)
  show o=o++[]
  rw[Dg]
 | l::ls,o,p,h=>by
  have ih:=Zo3 ls (stc (o,p) l).1 (stc (o,p) l).2 h
  show(ls.foldl stc (stc (o,p) l)).1=_
  rw[show stc (o,p) l=((stc (o,p) l).1,(stc (o,p) l).2) from rfl,ih]
  cases p<;>cases l<;>simp[stc,cl,skp]
theorem Zk0{l:Ln}(h:l.pl=true)(hb:l.beg=false)(x:List Ln×Bool):stc x l=((if x.2 then x.1++[.els] else x.1)++[l],false):=by cases l<;>first | rfl | (cases h;done) | (cases hb;done)
noncomputable def hdF(f:Fr):List Ln:=match f.h with
 | some l=>[l]
 | none=>[]
noncomputable def f0(f:Fr):List Ln:=hdF f++match f.y,f.n with
 | none,n=>fls n
 | some y,[]=>fls y
 | some y,t::ts=>fls y++ .els::fls (t::ts)
noncomputable def f1(f:Fr):List Ln:=hdF f++match f.y with
 | none=>fls f.n
 | some y=>fls y++ .els::fls f.n
noncomputable def fb:List Fr→List Ln
 | []=>[]
 | f::r=>fb r++f1 f
noncomputable def fa:List Fr→List Ln
 | []=>[]
 | f::r=>fb r++f0 f
noncomputable def pnd:List Fr→Bool
 | []=>false
 | f::_=>f.y.isSome&&f.n.isEmpty
theorem Yd3(f:Fr):f1 f=if (f.y.isSome&&f.n.isEmpty)=true then f0 f++[.els] else f0 f:=by
 obtain⟨h,y,n⟩:=f
 cases y with
 | none=>rfl
 | some y=>
  cases n with
  | nil=>show hdF _++(fls y++ .els::fls [])=(hdF _++fls y)++[.els];rw[Vv,Bs]
  | cons t ts=>rfl
theorem Bu(h:Option Ln)(y:Option (List T))(n:List T)(t:T):f0 ⟨h,y,n++[t]⟩=f1 ⟨h,y,n⟩++fl t:=by
 cases y with
 | none=>
  show hdF _++fls (n++[t])=(hdF _++fls n)++fl t
  rw[Xp,W7,Vv,Dg,Bs]
  rfl
 | some y=>
  have e:f0 ⟨h,some y,n++[t]⟩=hdF ⟨h,some y,n⟩++(fls y++ .els::fls (n++[t])):=by cases n<;>rfl
  rw[e]
  show _=(hdF _++(fls y++ .els::fls n))++fl t
  rw[Xp,W7,Vv,Dg]
  simp
theorem Ye3{f:Fr}{t:Tp}(h:f.is t):fl f.mk'=f0 f++[.don]:=by
 obtain⟨h',y,n⟩:=f
 cases t with
 | cif=>
  obtain⟨rfl,a,s,b,rfl⟩:=h
  show fl (.cho a s b n [])=_
  rw[Oq]
  rfl
 | cel=>
  obtain⟨hy,a,s,b,rfl⟩:=h
  cases y with
  | none=>cases hy
  | some y=>
   show fl (.cho a s b y n)=_
   cases n with
   | nil=>rw[Oq];rfl
   | cons t ts=>
    rw[Ge]
    show _=(.cond a s b::(fls y++ .els::fls (t::ts)))++[.don]
    simp
 | crd=>
  obtain⟨rfl,k,rfl⟩:=h
  show fl (.home true k n)=_
  rw[O2]
  rfl
 | cpt=>
  obtain⟨rfl,k,rfl⟩:=h
  show fl (.home false k n)=_
  rw[O2]
  rfl
theorem Zk5{fs:List Fr}{ts ts':List Tp}{l:Ln}(h:Fss ts fs)(e:stp ts l=some ts'):stc (fa fs,pnd fs) l=(fa (nst fs l),pnd (nst fs l)):=by
 have out:∀f r,fs=f::r→(if pnd fs then fa fs++[.els] else fa fs)=fb r++f1 f:=by
  intro f r e
  rw[e,Yd3]
  show(if (f.y.isSome&&f.n.isEmpty)=true then(fb r++f0 f)++[.els] else fb r++f0 f)=_
  split<;>simp
 obtain⟨f,r,ef,_⟩:=h.top
 have opn:∀l:Ln,l.beg=true→stc (fa fs,pnd fs) l=(fa (nst fs l),pnd (nst fs l)):=by
  intro l hb
  have e1:stc (fa fs,pnd fs) l=((if pnd fs then fa fs++[.els] else fa fs)++[l],false):=by cases l<;>first | rfl | cases hb
  rw[e1,out f r ef,Ln.nst_beg hb,ef]
  show _=((fb r++f1 f)++([l]++fls []),false)
  rw[Vv]
  simp
 have leaf:l.pl=true→l.beg=false→stc (fa fs,pnd fs) l=(fa (nst fs l),pnd (nst fs l)):=by
  intro h1 h2
  have e2:nst fs l=⟨f.h,f.y,f.n++[.leaf l]⟩::r:=by rw[ef];cases l<;>first | rfl | (cases h1;done) | (cases h2;done)
  rw[Zk0 h1 h2,e2]
  show((if pnd fs then fa fs++[.els] else fa fs)++[l],false)=(fb r++f0 ⟨f.h,f.y,f.n++[.leaf l]⟩,f.y.isSome&&(f.n++[T.leaf l]).isEmpty)
  rw[out f r ef,Bu,Zc1]
  simp
 cases l with
 | cond a s b=>exact opn _ rfl
 | rnd n=>exact opn _ rfl
 | prt n=>exact opn _ rfl
 | els=>
  obtain⟨rr,rfl,rfl⟩:=Zc0 e
  obtain⟨f',r',rfl,⟨hy,_⟩,_⟩:=h
  obtain⟨h',y,n⟩:=f'
  cases (show y=none from hy)
  rfl
 | don=>
  obtain⟨t,rfl⟩:=G5 e
  obtain⟨f',r',rfl,his,hF⟩:=h
  obtain⟨g,r2,rfl,_⟩:=hF.top
  show((fb r2++f1 g)++f0 f'++[.don],false)=(fb r2++f0 ⟨g.h,g.y,g.n++[f'.mk']⟩,g.y.isSome&&(g.n++[f'.mk']).isEmpty)
  rw[Bu,Ye3 his]
  simp
 | _=>exact leaf rfl rfl
theorem Zz6{ls:List Ln}:∀{fs:List Fr} {ts ts':List Tp},Fss ts fs→run ts ls=some ts'→ls.foldl stc (fa fs,pnd fs)=(fa (ls.foldl nst fs),pnd (ls.foldl nst fs)):=by
 induction ls with
 | nil=>intro fs ts ts' h e;rfl
 | cons l ls ih=>
  intro fs ts ts' h e
  change (stp ts l).bind _=_ at e
  cases e1:stp ts l with
  | none=>rw[e1] at e;cases e
  | some t=>
   rw[e1] at e
   show ls.foldl stc (stc (fa fs,pnd fs) l)=_
   rw[Zk5 h e1]
   exact ih (h.step e1) e
theorem Zu7{ls:List Ln}(h:run [] ls=some []):fls (nest ls)=cl ls:=by
 have h1:=Zz6 (fs:=[fr0]) (ts:=[]) ⟨[],rfl⟩ h
 rw[Ow h] at h1
 have h2:=Zo3 ls [] false (by rw[show(([]:List Ln),false)=(fa [fr0],pnd [fr0]) from rfl,h1];rfl)
 rw[show(([]:List Ln),false)=(fa [fr0],pnd [fr0]) from rfl,h1] at h2
 exact h2
noncomputable def mst(f:Lb→Option Nat)(s:List Nat)(k:Nat):Ln→(Lb→Option Nat)×List Nat
 | .cond _ _ _=>(f,k::s)
 | .rnd n=>(up f (.hom,n) k,k::s)
 | .prt n=>(up f (.hom,n) k,k::s)
 | .els=>(up (up f (.els,(s.headD 0:Nat)) k) (.frm,k) (s.headD 0),s)
 | .don=>(up (up f (.frm,k) (s.headD 0)) (.don,(s.headD 0:Nat)) k,s.tail)
 | _=>(f,s)
structure Q2 where
 f:Lb→Option Nat
 s:List Nat
 c:CS
noncomputable def q2s(q:Q2)(k:Nat)(l:Ln)(r:List Ln):Q2:=⟨(mst q.f q.s k l).1,(mst q.f q.s k l).2,if skp l r then q.c else(cst q.c l).getD q.c⟩
noncomputable def q2(ls:List Ln):Nat→Q2
 | 0=>⟨fun _=>none,[],c0⟩
 | k+1=>match ls.drop k with
  | []=>q2 ls k
  | l::r=>q2s (q2 ls k) k l r
noncomputable def ph(ls:List Ln)(k:Nat):Nat:=(q2 ls k).c.t.length
theorem Zo{ls:List Ln}{k:Nat}{l:Ln}(h:ls[k]?=some l):q2 ls (k+1)=q2s (q2 ls k) k l (ls.drop (k+1)):=by
 obtain⟨hk,e⟩:=Ac.mp h
 show(match ls.drop k with | []=>q2 ls k | l::r=>q2s (q2 ls k) k l r)=_
 rw[Dv hk,e]
theorem J2{ls:List Ln}{k:Nat}(h:ls.length≤k):q2 ls (k+1)=q2 ls k:=by
 show(match ls.drop k with | []=>q2 ls k | l::r=>q2s (q2 ls k) k l r)=_
 rw[Kk h]
def Ex(f g:Lb→Option Nat):Prop:=∀k v,f k=some v→g k=some v
theorem Ex.up{f:Lb→Option Nat}{a:Lb}{v:Nat}(h:f a=none):Ex f (up f a v):=by
 intro k w e
 show(if k=a then some v else f k)=some w
 rw[if_neg (fun z=>by rw[z,h] at e;cases e)]
 exact e
theorem Ex.up0{f:Lb→Option Nat}{a:Lb}{v:Nat}:Ex f (up0 f a v):=by
 unfold K57.up0
 split
 ·exact fun k v e=>e
 ·rename_i h
  refine Ex.up ?_
  cases e:f a with
  | none=>rfl
  | some v=>rw[e] at h;exact absurd rfl h
theorem Ex.trans{f g h:Lb→Option Nat}(a:Ex f g)(b:Ex g h):Ex f h:=fun k v e=>b k v (a k v e)
theorem Yv(f:Lb→Option Nat)(a:Lb)(v:Nat):up f a v a=some v:=if_pos rfl
theorem Xl{f:Lb→Option Nat}{a b:Lb}{v:Nat}(h:b≠a):up f a v b=f b:=if_neg h
theorem N3{f:Lb→Option Nat}{a b:Lb}{v:Nat}(h:b≠a):up0 f a v b=f b:=by
 unfold up0
 split
 ·rfl
 ·exact Xl h
theorem V1{a b:Lk}{i j:Int}(h:a≠b):((a,i):Lb)≠(b,j):=fun z=>h (Prod.mk.inj z).1
theorem Jl{a:Lk}{i j:Int}(h:i≠j):((a,i):Lb)≠(a,j):=fun z=>h (Prod.mk.inj z).2
def isC(ls:List Ln)(s:Nat):Prop:=∃a g b,ls[s]?=some (.cond a g b)
def Fk(ls:List Ln)(f cf:Lb→Option Nat)(k:Nat)(x:Tp×Int)(s:Nat)(e:Oe):Prop:=
 s<k∧f (.don,(s:Nat))=none∧(
  (∃b,e= .home b x.2∧ls[s]?=some (if b then .rnd x.2 else .prt x.2)∧f (.hom,x.2)=some s∧cf (.lve,x.2)=none∧x.1=if b then .crd else .cpt)∨
  (e= .cho (ph ls s)∧isC ls s∧cf (.beh,(ph ls s:Nat))=none∧
   ((x.1= .cif∧f (.els,(s:Nat))=none∧cf (.no,(ph ls s:Nat))=none)∨
    (x.1= .cel∧∃e',f (.els,(s:Nat))=some e'∧(cf (.no,(ph ls s:Nat))=some (ph ls (e'+1))∨(cf (.no,(ph ls s:Nat))=none∧ls[k]?=some .don∧k=e'+1))))))
def Als(P:Tp×Int→Nat→Oe→Prop):List (Tp×Int)→List Nat→List Oe→Prop
 | [],[],[]=>True
 | x::xs,s::ss,e::es=>P x s e∧Als P xs ss es
 | _,_,_=>False
theorem Als.imp{P R:Tp×Int→Nat→Oe→Prop}:∀{xs:List (Tp×Int)} {ss:List Nat} {es:List Oe},Als P xs ss es→(∀x s e,s∈ss→P x s e→R x s e)→Als R xs ss es
 | [],[],[],_,_=>trivial
 | x::xs,s::ss,e::es,⟨a,b⟩,h=>⟨h x s e Dm a,b.imp fun x s e m=>h x s e (Bk _ m)⟩
theorem Als.top{P:Tp×Int→Nat→Oe→Prop}{x:Tp×Int}{xs:List (Tp×Int)}{ss:List Nat}{es:List Oe}(h:Als P (x::xs) ss es):∃s ss' e es',ss=s::ss'∧es=e::es'∧P x s e∧Als P xs ss' es':=by
 match ss,es,h with
 | s::ss,e::es,h=>exact⟨s,ss,e,es,rfl,rfl,h.1,h.2⟩
theorem Als.mem{P:Tp×Int→Nat→Oe→Prop}:∀{xs:List (Tp×Int)} {ss:List Nat} {es:List Oe},Als P xs ss es→∀x∈xs,∃s e,s∈ss∧P x s e
 | [],_,_,_,y,hy=>by cases hy
 | x::xs,s::ss,e::es,⟨a,b⟩,y,hy=>by
  rcases Aq.mp hy with rfl | hy
  ·exact⟨s,e,Dm,a⟩
  ·obtain⟨s',e',h1,h2⟩:=b.mem y hy
   exact⟨s',e',Bk _ h1,h2⟩
theorem Als.at{P:Tp×Int→Nat→Oe→Prop}:∀{xs:List (Tp×Int)} {ss:List Nat} {es:List Oe},Als P xs ss es→∀s∈ss,∃x e,P x s e
 | _,[],_,_,t,ht=>by cases ht
 | x::xs,s::ss,e::es,⟨a,b⟩,t,ht=>by
  rcases Aq.mp ht with rfl | ht
  ·exact⟨x,e,a⟩
  ·exact b.at t ht
structure I2(ls:List Ln)(k:Nat)(xs:List (Tp×Int)):Prop where
 al:Als (Fk ls (q2 ls k).f (q2 ls k).c.f k) xs (q2 ls k).s (q2 ls k).c.o
 gt:(q2 ls k).s.Pairwise (· >·)
 op:∀(s:Nat) l,s<k→ls[s]?=some l→l.beg=true→s∈(q2 ls k).s∨∃j,(q2 ls k).f (.don,(s:Nat))=some j
 dn:∀(s:Nat) j,(q2 ls k).f (.don,(s:Nat))=some j→j<k∧ls[j]?=some .don∧(q2 ls j).s.head?=some s
 el:∀(s:Nat) e,(q2 ls k).f (.els,(s:Nat))=some e→e<k∧ls[e]?=some .els∧(q2 ls e).s.head?=some s
 fh:∀n∈nums (ls.drop k),(q2 ls k).f (.hom,n)=none∧(q2 ls k).c.f (.agn,n)=none∧(q2 ls k).c.f (.lve,n)=none
 ff:∀i:Nat,k≤i→(q2 ls k).f (.frm,i)=none∧(q2 ls k).f (.don,i)=none∧(q2 ls k).f (.els,i)=none
 fr:∀i:Nat,ph ls k≤i→(q2 ls k).c.f (.yes,i)=none∧(q2 ls k).c.f (.no,i)=none∧(q2 ls k).c.f (.beh,i)=none
theorem I2.zero(ls:List Ln):I2 ls 0 []:=⟨trivial,.nil,fun s l h=>absurd h (Nat.not_lt_zero _),fun _ _ h=>(by cases h),fun _ _ h=>(by cases h),fun _ _=>⟨rfl,rfl,rfl⟩,fun _ _=>⟨rfl,rfl,rfl⟩,fun _ _=>⟨rfl,rfl,rfl⟩⟩
theorem Zs8{c c':CS}{l:Ln}(h:cst c l=some c'):c.t<+:c'.t:=by
 cases l with
 | cond a s b=>cases h;exact⟨[_,_],by rw[Bs];rfl⟩
 | rnd n=>cases h;exact Kf
 | prt n=>cases h;exact Kf
 | els=>
  obtain⟨t,f,o⟩:=c
  cases o with
  | nil=>cases h
  | cons e r=>
   cases e with
   | cho n=>cases h;exact List.prefix_append _ _
   | home b n=>cases h
 | don=>
  obtain⟨t,f,o⟩:=c
  cases o with
  | nil=>cases h
  | cons e r=>
   cases e with
   | cho n=>cases h;exact Kf
   | home b n=>
    cases b with
    | true=>cases h;exact List.prefix_append _ _
    | false=>cases h;exact Kf
 | _=>cases h;exact List.prefix_append _ _
theorem Gu(ls:List Ln)(k:Nat):(q2 ls k).c.t<+:(q2 ls (k+1)).c.t:=by
 cases e:ls[k]? with
 | none=>rw[J2 (Hk.mp e)];exact Kf
 | some l=>
  rw[Zo e]
  show _<+:(if skp l _ then(q2 ls k).c else(cst (q2 ls k).c l).getD (q2 ls k).c).t
  split
  ·exact Kf
  ·cases h:cst (q2 ls k).c l with
   | none=>exact Kf
   | some c'=>exact Zs8 h
theorem Z31(ls:List Ln){k m:Nat}(h:k≤m):(q2 ls k).c.t<+:(q2 ls m).c.t:=by
 induction h with
 | refl=>exact Kf
 | step _ ih=>exact ih.trans (Gu ls _)
theorem Vt(ls:List Ln){k m:Nat}(h:k≤m):ph ls k≤ph ls m:=(Z31 ls h).length_le
theorem ph_C{ls:List Ln}{s:Nat}(h:isC ls s):ph ls (s+1)=ph ls s+2:=by
 obtain⟨a,g,b,h⟩:=h
 unfold ph
 rw[Zo h]
 show(((q2 ls s).c.t++[_]++[_]:List Pr)).length=_
 simp
theorem Cj{ls:List Ln}{s t:Nat}(h:isC ls s)(hst:s<t):ph ls s<ph ls t:=by
 have h1:=ph_C h
 have h2:=Vt ls (show s+1≤t from hst)
 omega
theorem Fk.keep{ls:List Ln}{f cf f' cf':Lb→Option Nat}{k:Nat}{x:Tp×Int}{s:Nat}{e:Oe}(h:Fk ls f cf k x s e)(h1:f' (.don,(s:Nat))=f (.don,(s:Nat)))(h2:f' (.els,(s:Nat))=f (.els,(s:Nat)))(h3:f (.hom,x.2)=some s→f' (.hom,x.2)=some s)(h4:f (.hom,x.2)=some s→cf (.lve,x.2)=none→cf' (.lve,x.2)=none)
  (h5:isC ls s→cf' (.no,(ph ls s:Nat))=cf (.no,(ph ls s:Nat))∧cf' (.beh,(ph ls s:Nat))=cf (.beh,(ph ls s:Nat))) (h6:∀e',f (.els,(s:Nat))=some e'→ls[k]?=some .don→k=e'+1→False):Fk ls f' cf' (k+1) x s e:=by
 obtain⟨a1,a2,a3⟩:=h
 refine⟨by omega,by rw[h1];exact a2,?_⟩
 rcases a3 with⟨b,b1,b2,b3,b4,b5⟩ | ⟨c1,c2,c3,c4⟩
 ·exact .inl ⟨b,b1,b2,h3 b3,h4 b3 b4,b5⟩
 ·obtain⟨g1,g2⟩:=h5 c2
  refine .inr ⟨c1,c2,by rw[g2];exact c3,?_⟩
  rw[g1,h2]
  rcases c4 with c4 | ⟨d1,e',d2,d3⟩
  ·exact .inl c4
  ·refine .inr ⟨d1,e',d2,?_⟩
   rcases d3 with d3 | ⟨d3,d4,d5⟩
   ·exact .inl d3
   ·exact(h6 e' d2 d4 d5).elim
theorem upn{f:Lb→Option Nat}{a b:Lk}{i j:Int}{v:Nat}{w:Option Nat}(z:f (b,j)=w)(h:b≠a:=by decide):up f (a,i) v (b,j)=w:=(Xl (V1 h)).trans z
theorem undn{f:Lb→Option Nat}{a b:Lk}{i j:Int}{v:Nat}{w:Option Nat}(z:up f (a,i) v (b,j)=w)(h:b≠a:=by decide):f (b,j)=w:=(Xl (V1 h)).symm.trans z
theorem upi{f:Lb→Option Nat}{a:Lk}{i j:Int}{v:Nat}{w:Option Nat}(z:f (a,j)=w)(h:j≠i):up f (a,i) v (a,j)=w:=(Xl (Jl h)).trans z
structure Go(ls:List Ln)(k:Nat)(xs:List (Tp×Int)):Prop where
 i:I2 ls (k+1) xs
 f:Ex (q2 ls k).f (q2 ls (k+1)).f
 c:Ex (q2 ls k).c.f (q2 ls (k+1)).c.f
section
variable{ls:List Ln}{k:Nat}{xs:List (Tp×Int)}
theorem Xh{l:Ln}(h:ls[k]?=some l):ls.drop k=l::ls.drop (k+1):=by
 obtain⟨hk,e⟩:=Ac.mp h
 rw[Dv hk,e]
theorem I2.leaf(I:I2 ls k xs){l:Ln}{p:Pr}(h:ls[k]?=some l)(hb:l.beg=false)(hd:l≠ .don)(e1:q2 ls (k+1)=⟨(q2 ls k).f,(q2 ls k).s,⟨(q2 ls k).c.t++[p],(q2 ls k).c.f,(q2 ls k).c.o⟩⟩)(e2:nums (ls.drop k)=nums (ls.drop (k+1))):Go ls k xs:=by
 have hp:ph ls (k+1)=ph ls k+1:=by unfold ph;rw[e1];simp
 refine⟨⟨?_,?_,?_,?_,?_,?_,?_,?_⟩,?_,?_⟩<;>(rw[e1];try dsimp only)
 ·exact I.al.imp fun x s e _ hF=>hF.keep rfl rfl id (fun _ z=>z) (fun _=>⟨rfl,rfl⟩) fun _ _ z _=>by rw[h] at z;cases z;exact hd rfl
 ·exact I.gt
 ·intro s l' hs hl hbg
  rcases Nat.lt_succ_iff_lt_or_eq.mp hs with z | rfl
  ·exact I.op s l' z hl hbg
  ·rw[h] at hl;cases hl;rw[hb] at hbg;cases hbg
 ·intro s j z;obtain⟨a,b⟩:=I.dn s j z;exact⟨by omega,b⟩
 ·intro s j z;obtain⟨a,b⟩:=I.el s j z;exact⟨by omega,b⟩
 ·rw[←e2];exact I.fh
 ·intro i hi;exact I.ff i (by omega)
 ·intro i hi;exact I.fr i (by omega)
 ·exact fun _ _ z=>z
 ·exact fun _ _ z=>z
theorem I2.cond(I:I2 ls k xs){a:Opd}{g:Str}{b:Opd}(h:ls[k]?=some (.cond a g b)):Go ls k ((.cif,-1)::xs):=by
 have e1:q2 ls (k+1)=⟨(q2 ls k).f,k::(q2 ls k).s,⟨(q2 ls k).c.t++[.test a g b (.yes,(ph ls k:Nat))]++[.jump (.no,(ph ls k:Nat))],up (q2 ls k).c.f (.yes,(ph ls k:Nat)) (ph ls k+2),.cho (ph ls k)::(q2 ls k).c.o⟩⟩:=by rw[Zo h];rfl
 have hp:ph ls (k+1)=ph ls k+2:=ph_C ⟨a,g,b,h⟩
 have hr:=I.fr (ph ls k) (Nat.le_refl _)
 have hf:=I.ff k (Nat.le_refl _)
 refine⟨⟨?_,?_,?_,?_,?_,?_,?_,?_⟩,?_,?_⟩<;>(rw[e1];try dsimp only)
 ·refine⟨⟨by omega,hf.2.1,.inr ⟨rfl,⟨a,g,b,h⟩,?_,.inl ⟨rfl,hf.2.2,?_⟩⟩⟩,I.al.imp fun x s e _ hF=>hF.keep rfl rfl id (fun _ z=>?_) (fun _=>⟨?_,?_⟩) fun _ _ z _=>by rw[h] at z;cases z⟩
  ·exact upn hr.2.2
  ·exact upn hr.2.1
  ·exact upn z
  ·exact upn rfl
  ·exact upn rfl
 ·exact List.pairwise_cons.mpr ⟨fun s hs=>by obtain⟨x,e,hF⟩:=I.al.at s hs;exact hF.1,I.gt⟩
 ·intro s l' hs hl hbg
  rcases Nat.lt_succ_iff_lt_or_eq.mp hs with z | rfl
  ·exact(I.op s l' z hl hbg).imp (Bk _) id
  ·exact .inl Dm
 ·intro s j z;obtain⟨a,b⟩:=I.dn s j z;exact⟨by omega,b⟩
 ·intro s j z;obtain⟨a,b⟩:=I.el s j z;exact⟨by omega,b⟩
 ·intro n hn
  have:=I.fh n (by rw[Xh h];exact hn)
  exact⟨this.1,upn this.2.1,upn this.2.2⟩
 ·intro i hi;exact I.ff i (by omega)
 ·intro i hi
  have:=I.fr i (by omega)
  exact⟨upi this.1 (by omega),upn this.2.1,upn this.2.2⟩
 ·exact fun _ _ z=>z
 ·exact Ex.up hr.1
theorem I2.home(I:I2 ls k xs)(b:Bool){n:Int}(h:ls[k]?=some (if b then .rnd n else .prt n))(nd:(nums (ls.drop k)).Nodup):Go ls k (((if b then .crd else .cpt),n)::xs):=by
 have e1:q2 ls (k+1)=⟨up (q2 ls k).f (.hom,n) k,k::(q2 ls k).s,⟨(q2 ls k).c.t,up (q2 ls k).c.f (.agn,n) (ph ls k),.home b n::(q2 ls k).c.o⟩⟩:=by rw[Zo h];cases b<;>rfl
 have e2:nums (ls.drop k)=n::nums (ls.drop (k+1)):=by rw[Xh h];cases b<;>rfl
 have hp:ph ls (k+1)=ph ls k:=by unfold ph;rw[e1]
 have hh:=I.fh n (by rw[e2];exact Dm)
 have hf:=I.ff k (Nat.le_refl _)
 have nm:¬n∈nums (ls.drop (k+1)):=by rw[e2] at nd;exact(Io.mp nd).1
 refine⟨⟨?_,?_,?_,?_,?_,?_,?_,?_⟩,?_,?_⟩<;>(rw[e1];try dsimp only)
 ·refine⟨⟨by omega,upn hf.2.1,.inl ⟨b,rfl,h,Yv _ _ _,upn hh.2.2,rfl⟩⟩,I.al.imp fun x s e _ hF=>hF.keep (upn rfl) (upn rfl) (fun z=>Ex.up hh.1 _ _ z) (fun _ z=>upn z) (fun _=>⟨upn rfl,upn rfl⟩) fun _ _ z _=>by rw[h] at z;cases b<;>cases z⟩
 ·exact List.pairwise_cons.mpr ⟨fun s hs=>by obtain⟨x,e,hF⟩:=I.al.at s hs;exact hF.1,I.gt⟩
 ·intro s l' hs hl hbg
  rcases Nat.lt_succ_iff_lt_or_eq.mp hs with z | rfl
  ·exact(I.op s l' z hl hbg).imp (Bk _) fun zz125=>by obtain⟨j,e⟩:=zz125;exact⟨j,upn e⟩
  ·exact .inl Dm
 ·intro s j z;obtain⟨a,b⟩:=I.dn s j (undn z);exact⟨by omega,b⟩
 ·intro s j z;obtain⟨a,b⟩:=I.el s j (undn z);exact⟨by omega,b⟩
 ·intro m hm
  have:=I.fh m (by rw[e2];exact Bk _ hm)
  have mn:m≠n:=fun z=>nm (z ▸ hm)
  exact⟨upi this.1 mn,upi this.2.1 mn,upn this.2.2⟩
 ·intro i hi
  have:=I.ff i (by omega)
  exact⟨upn this.1,upn this.2.1,upn this.2.2⟩
 ·intro i hi
  have:=I.fr i (by omega)
  exact⟨upn this.1,upn this.2.1,upn this.2.2⟩
 ·exact Ex.up hh.1
 ·exact Ex.up hh.2.1
end
section
variable{ls:List Ln}{k:Nat}{xs:List (Tp×Int)}
theorem Y87{r:List Ln}(h:skp .els r=true):r[0]?=some .don:=by
 match r,h with
 | .don::r,_=>rfl
theorem I2.els{m:Int}(I:I2 ls k ((.cif,m)::xs))(h:ls[k]?=some .els):Go ls k ((.cel,-1)::xs)∧(skp .els (ls.drop (k+1))=false→cst (q2 ls k).c .els=some (q2 ls (k+1)).c)∧
  ∃s,(q2 ls k).s.head?=some s∧isC ls s∧(q2 ls (k+1)).f (.els,(s:Nat))=some k∧(q2 ls (k+1)).f (.frm,(k:Nat))=some s∧((ls[k+1]?=some .don∧ph ls (k+1)=ph ls k)∨((q2 ls (k+1)).c.t=(q2 ls k).c.t++[.jump (.beh,(ph ls s:Nat))])):=by
 obtain⟨s,ss,e,es,q1,q3,F,al⟩:=I.al.top
 have gt:=I.gt
 rw[q1] at gt
 obtain⟨gt1,gt2⟩:=List.pairwise_cons.mp gt
 obtain⟨F1,F2,F3⟩:=F
 obtain⟨rfl,hC,F5,F6,F7⟩:e= .cho (ph ls s)∧isC ls s∧(q2 ls k).c.f (.beh,(ph ls s:Nat))=none∧(q2 ls k).f (.els,(s:Nat))=none∧(q2 ls k).c.f (.no,(ph ls s:Nat))=none:=by
  rcases F3 with⟨b,_,_,_,_,z⟩ | ⟨a,b,c,d⟩
  ·cases b<;>cases z
  ·rcases d with⟨_,d⟩ | ⟨z,_⟩
   ·exact⟨a,b,c,d⟩
   ·cases z
 have hf:=I.ff k (Nat.le_refl _)
 have e0:(mst (q2 ls k).f (q2 ls k).s k .els)=(up (up (q2 ls k).f (.els,(s:Nat)) k) (.frm,(k:Nat)) s,s::ss):=by rw[q1];rfl
 have fe:Ex (q2 ls k).f (up (up (q2 ls k).f (.els,(s:Nat)) k) (.frm,(k:Nat)) s):=(Ex.up F6).trans (Ex.up (upn hf.1))
 obtain⟨c',e1,co,cn,ci,cx,ct,cs,cj⟩:∃c':CS,q2 ls (k+1)=⟨up (up (q2 ls k).f (.els,(s:Nat)) k) (.frm,(k:Nat)) s,s::ss,c'⟩∧c'.o= .cho (ph ls s)::es∧(∀a i,a≠Lk.no→c'.f (a,i)=(q2 ls k).c.f (a,i))∧(∀i:Int,i≠(ph ls s:Nat)→c'.f (.no,i)=(q2 ls k).c.f (.no,i))∧Ex (q2 ls k).c.f c'.f∧(c'.f (.no,(ph ls s:Nat))=some c'.t.length∨(c'.f (.no,(ph ls s:Nat))=none∧ls[k+1]?=some .don∧k+1=k+1))∧(skp .els (ls.drop (k+1))=false→cst (q2 ls k).c .els=some c')∧((ls[k+1]?=some .don∧c'.t=(q2 ls k).c.t)∨c'.t=(q2 ls k).c.t++[.jump (.beh,(ph ls s:Nat))]):=by
  cases hk:skp .els (ls.drop (k+1)) with
  | true=>
   have hd:ls[k+1]?=some .don:=by have:=Y87 hk;rwa[List.getElem?_drop] at this
   exact⟨(q2 ls k).c,by rw[Zo h];unfold q2s;rw[e0,hk];rfl,q3,fun _ _ _=>rfl,fun _ _=>rfl,fun _ _ z=>z,.inr ⟨F7,hd,rfl⟩,fun z=>(by cases z),.inl ⟨hd,rfl⟩⟩
  | false=>
   have ec:cst (q2 ls k).c .els=some ⟨(q2 ls k).c.t++[.jump (.beh,(ph ls s:Nat))],up (q2 ls k).c.f (.no,(ph ls s:Nat)) ((q2 ls k).c.t.length+1),.cho (ph ls s)::es⟩:=by
    unfold cst
    rw[q3]
   refine⟨_,by rw[Zo h];unfold q2s;rw[e0,hk,ec];rfl,rfl,fun a i z=>Xl (V1 z),fun i z=>Xl (Jl z),Ex.up F7,.inl ?_,fun _=>ec,.inr rfl⟩
   rw[Ae]
   exact Yv _ _ _
 have hp:ph ls (k+1)=c'.t.length:=by unfold ph;rw[e1]
 have hm:=Vt ls (show k≤k+1 from Nat.le_succ k)
 refine⟨⟨⟨?_,?_,?_,?_,?_,?_,?_,?_⟩,?_,?_⟩,?_,s,by rw[q1];rfl,hC,?_,?_,?_⟩<;>(rw[e1];try dsimp only)
 ·rw[co]
  refine⟨⟨by omega,upn (upn F2),.inr ⟨rfl,hC,(cn _ _ (by decide)).trans F5,.inr ⟨rfl,k,upn (Yv _ _ _),?_⟩⟩⟩,al.imp fun x t e ht hF=>hF.keep (upn (upn rfl)) (upn (upi rfl (by have:=gt1 t ht;omega))) (fun z=>fe _ _ z) (fun _ z=>(cn _ _ (by decide)).trans z) (fun hc=>⟨ci _ (by have:=Cj hc (gt1 t ht);omega),cn _ _ (by decide)⟩) fun _ _ z _=>by rw[h] at z;cases z⟩
  rw[hp]
  exact ct
 ·exact gt
 ·intro t l' ht hl hbg
  rcases Nat.lt_succ_iff_lt_or_eq.mp ht with z | rfl
  ·rw[←q1];exact(I.op t l' z hl hbg).imp id fun zz126=>by obtain⟨j,e⟩:=zz126;exact⟨j,fe _ _ e⟩
  ·rw[h] at hl;cases hl;cases hbg
 ·intro t j z;obtain⟨a,b⟩:=I.dn t j (undn (undn z));exact⟨by omega,b⟩
 ·intro t j z
  have z1:=undn z
  by_cases hts:t=s
  ·subst hts
   rw[Yv] at z1
   cases z1
   exact⟨by omega,h,by rw[q1];rfl⟩
  ·obtain⟨a,b⟩:=I.el t j ((Xl (Jl (by omega))).symm.trans z1)
   exact⟨by omega,b⟩
 ·intro n hn
  have:=I.fh n (by rw[Xh h];exact hn)
  exact⟨upn (upn this.1),(cn _ _ (by decide)).trans this.2.1,(cn _ _ (by decide)).trans this.2.2⟩
 ·intro i hi
  have:=I.ff i (by omega)
  exact⟨upi (upn this.1) (by omega),upn (upn this.2.1),upn (upi this.2.2 (by omega))⟩
 ·intro i hi
  have:=I.fr i (by omega)
  have h2:=Cj hC F1
  exact⟨(cn _ _ (by decide)).trans this.1,(ci _ (by omega)).trans this.2.1,(cn _ _ (by decide)).trans this.2.2⟩
 ·exact fe
 ·exact cx
 ·exact cs
 ·exact upn (Yv _ _ _)
 ·exact Yv _ _ _
 ·rw[hp]
  rcases cj with⟨a,b⟩ | a
  ·exact .inl ⟨a,by rw[b];rfl⟩
  ·exact .inr a
def Cl(ls:List Ln)(s j:Nat)(f cf:Lb→Option Nat):Prop:=
 s<j∧f (.don,(s:Nat))=some j∧f (.frm,(j:Nat))=some s∧(
  (∃(b:Bool) (n:Int),ls[s]?=some (if b then .rnd n else .prt n)∧f (.hom,n)=some s∧cf (.lve,n)=some (ph ls (j+1))∧(if b then(q2 ls (j+1)).c.t=(q2 ls j).c.t++[.jump (.agn,n)] else ph ls (j+1)=ph ls j))∨
  (isC ls s∧ph ls (j+1)=ph ls j∧cf (.beh,(ph ls s:Nat))=some (ph ls j)∧((f (.els,(s:Nat))=none∧cf (.no,(ph ls s:Nat))=some (ph ls j))∨∃e,f (.els,(s:Nat))=some e∧cf (.no,(ph ls s:Nat))=some (ph ls (e+1)))))
theorem I2.don{x:Tp×Int}(I:I2 ls k (x::xs))(h:ls[k]?=some .don):Go ls k xs∧cst (q2 ls k).c .don=some (q2 ls (k+1)).c∧∃s,(q2 ls k).s.head?=some s∧Cl ls s k (q2 ls (k+1)).f (q2 ls (k+1)).c.f:=by
 obtain⟨s,ss,e,es,q1,q3,F,al⟩:=I.al.top
 have gt:=I.gt
 rw[q1] at gt
 obtain⟨gt1,gt2⟩:=List.pairwise_cons.mp gt
 obtain⟨F1,F2,F3⟩:=F
 have hf:=I.ff k (Nat.le_refl _)
 have e0:(mst (q2 ls k).f (q2 ls k).s k .don)=(up (up (q2 ls k).f (.frm,(k:Nat)) s) (.don,(s:Nat)) k,ss):=by rw[q1];rfl
 have fe:Ex (q2 ls k).f (up (up (q2 ls k).f (.frm,(k:Nat)) s) (.don,(s:Nat)) k):=(Ex.up hf.1).trans (Ex.up (upn F2))
 obtain⟨t',f',ec,ca,cl,cn,cb,cx,cc⟩:∃(t':List Pr) (f':Lb→Option Nat),cst (q2 ls k).c .don=some ⟨t',f',es⟩∧(∀a i,a≠Lk.lve→a≠ .no→a≠ .beh→f' (a,i)=(q2 ls k).c.f (a,i))∧(∀n,(q2 ls k).f (.hom,n)≠some s→f' (.lve,n)=(q2 ls k).c.f (.lve,n))∧(∀i:Int,(isC ls s→i≠(ph ls s:Nat))→f' (.no,i)=(q2 ls k).c.f (.no,i))∧(∀i:Int,(isC ls s→i≠(ph ls s:Nat))→f' (.beh,i)=(q2 ls k).c.f (.beh,i))∧Ex (q2 ls k).c.f f'∧
   (q2 ls (k+1)=⟨up (up (q2 ls k).f (.frm,(k:Nat)) s) (.don,(s:Nat)) k,ss,⟨t',f',es⟩⟩→Cl ls s k (q2 ls (k+1)).f (q2 ls (k+1)).c.f):=by
  rcases F3 with⟨b,rfl,b2,b3,b4,b5⟩ | ⟨rfl,hC,d3,d4⟩
  ·have nC:¬isC ls s:=by rintro⟨_,_,_,z⟩;rw[b2] at z;cases b<;>cases z
   cases b with
   | true=>
    refine⟨(q2 ls k).c.t++[.jump (.agn,x.2)],up (q2 ls k).c.f (.lve,x.2) ((q2 ls k).c.t.length+1),by unfold cst;rw[q3],fun a i z _ _=>Xl (V1 z),fun n z=>Xl (Jl fun z'=>z (z' ▸ b3)),fun i _=>upn rfl,fun i _=>upn rfl,Ex.up b4,fun e1=>?_⟩
    unfold Cl ph
    rw[e1]
    dsimp only
    exact⟨F1,Yv _ _ _,upn (Yv _ _ _),.inl ⟨true,x.2,b2,upn (upn b3),by rw[Yv];simp,rfl⟩⟩
   | false=>
    refine⟨(q2 ls k).c.t,up (q2 ls k).c.f (.lve,x.2) (q2 ls k).c.t.length,by unfold cst;rw[q3],fun a i z _ _=>Xl (V1 z),fun n z=>Xl (Jl fun z'=>z (z' ▸ b3)),fun i _=>upn rfl,fun i _=>upn rfl,Ex.up b4,fun e1=>?_⟩
    unfold Cl ph
    rw[e1]
    dsimp only
    exact⟨F1,Yv _ _ _,upn (Yv _ _ _),.inl ⟨false,x.2,b2,upn (upn b3),Yv _ _ _,rfl⟩⟩
  ·refine⟨(q2 ls k).c.t,up (up0 (q2 ls k).c.f (.no,(ph ls s:Nat)) (q2 ls k).c.t.length) (.beh,(ph ls s:Nat)) (q2 ls k).c.t.length,by unfold cst;rw[q3],fun a i _ z1 z2=>(Xl (V1 z2)).trans (N3 (V1 z1)),fun n _=>(Xl (V1 (by decide))).trans (N3 (V1 (by decide))),fun i z=>(Xl (V1 (by decide))).trans (N3 (Jl (z hC))),fun i z=>(Xl (Jl (z hC))).trans (N3 (V1 (by decide))),Ex.up0.trans (Ex.up ((N3 (V1 (by decide))).trans d3)),fun e1=>?_⟩
   have hp:ph ls (k+1)=ph ls k:=by unfold ph;rw[e1]
   refine⟨F1,by rw[e1];dsimp only;exact Yv _ _ _,by rw[e1];dsimp only;exact upn (Yv _ _ _),.inr ⟨hC,hp,by rw[e1];dsimp only;exact Yv _ _ _,?_⟩⟩
   have no0:(q2 ls k).c.f (.no,(ph ls s:Nat))=none→(q2 ls (k+1)).c.f (.no,(ph ls s:Nat))=some (ph ls k):=fun z=>by
    rw[e1]
    dsimp only
    rw[Xl (V1 (by decide))]
    unfold up0
    rw[z]
    exact Yv _ _ _
   have els:(q2 ls (k+1)).f (.els,(s:Nat))=(q2 ls k).f (.els,(s:Nat)):=by rw[e1];dsimp only;exact upn (upn rfl)
   rw[els]
   rcases d4 with⟨_,g1,g2⟩ | ⟨_,e',g1,g2⟩
   ·exact .inl ⟨g1,no0 g2⟩
   ·refine .inr ⟨e',g1,?_⟩
    rcases g2 with g2 | ⟨g2,_,g3⟩
    ·rw[e1]
     dsimp only
     rw[Xl (V1 (by decide))]
     unfold up0
     rw[g2]
     exact g2
    ·rw[no0 g2,g3]
 have e1:q2 ls (k+1)=⟨up (up (q2 ls k).f (.frm,(k:Nat)) s) (.don,(s:Nat)) k,ss,⟨t',f',es⟩⟩:=by rw[Zo h];unfold q2s;rw[e0,ec];rfl
 have hp:ph ls (k+1)=t'.length:=by unfold ph;rw[e1]
 have hm:=Vt ls (show k≤k+1 from Nat.le_succ k)
 refine⟨⟨⟨?_,?_,?_,?_,?_,?_,?_,?_⟩,?_,?_⟩,by rw[e1];exact ec,s,by rw[q1];rfl,cc e1⟩<;>(rw[e1];try dsimp only)
 ·refine al.imp fun x t e ht hF=>hF.keep (upi (upn rfl) (by have:=gt1 t ht;omega)) (upn (upn rfl)) (fun z=>fe _ _ z) (fun z1 z2=>(cl _ (fun z=>?_)).trans z2) (fun hc=>⟨cn _ fun _=>?_,cb _ fun _=>?_⟩) fun e' z1 _ z3=>?_
  ·rw[z1] at z;have:=gt1 t ht;have:=Aw z;omega
  ·have:=Cj hc (gt1 t ht);omega
  ·have:=Cj hc (gt1 t ht);omega
  ·obtain⟨_,y1,y2⟩:=I.el t e' z1
   have:(q2 ls (e'+1)).s=(q2 ls e').s:=by rw[Zo y1];rfl
   rw[←this,←z3,q1] at y2
   have:=gt1 t ht
   have:=Aw y2
   omega
 ·exact gt2
 ·intro t l' ht hl hbg
  rcases Nat.lt_succ_iff_lt_or_eq.mp ht with z | rfl
  ·rcases I.op t l' z hl hbg with y | ⟨j,y⟩
   ·rw[q1] at y
    rcases Aq.mp y with rfl | y
    ·exact .inr ⟨k,Yv _ _ _⟩
    ·exact .inl y
   ·exact .inr ⟨j,fe _ _ y⟩
  ·rw[h] at hl;cases hl;cases hbg
 ·intro t j z
  by_cases hts:t=s
  ·subst hts
   rw[Yv] at z
   cases z
   exact⟨by omega,h,by rw[q1];rfl⟩
  ·obtain⟨a,b⟩:=I.dn t j (undn ((Xl (Jl (by omega))).symm.trans z))
   exact⟨by omega,b⟩
 ·intro t j z;obtain⟨a,b⟩:=I.el t j (undn (undn z));exact⟨by omega,b⟩
 ·intro n hn
  have:=I.fh n (by rw[Xh h];exact hn)
  exact⟨upn (upn this.1),(ca _ _ (by decide) (by decide) (by decide)).trans this.2.1,(cl n (by rw[this.1];exact fun z=>by cases z)).trans this.2.2⟩
 ·intro i hi
  have:=I.ff i (by omega)
  exact⟨upn (upi this.1 (by omega)),upi (upn this.2.1) (by omega),upn (upn this.2.2)⟩
 ·intro i hi
  have:=I.fr i (by omega)
  exact⟨(ca _ _ (by decide) (by decide) (by decide)).trans this.1,(cn _ fun hc=>by have:=Cj hc F1;omega).trans this.2.1,(cb _ fun hc=>by have:=Cj hc F1;omega).trans this.2.2⟩
 ·exact fe
 ·exact cx
end
section
variable{ls:List Ln}{m:Nat}
theorem Z41(h:(nums ls).Nodup)(k:Nat):(nums (ls.drop k)).Nodup:=by
 rw[←List.take_append_drop k ls,Wx] at h
 exact(List.nodup_append.mp h).2.1
theorem I2.go{k:Nat}{ss s1:List (Tp×Int)}{l:Ln}(nd:(nums ls).Nodup)(I:I2 ls k ss.reverse)(h:ls[k]?=some l)(nx:nxt ss l s1):Go ls k s1.reverse∧(skp l (ls.drop (k+1))=false→cst (q2 ls k).c l=some (q2 ls (k+1)).c):=by
 have nd':=Z41 nd k
 have lf:∀{p:Pr},l.beg=false→l≠ .don→s1=ss→q2 ls (k+1)=⟨(q2 ls k).f,(q2 ls k).s,⟨(q2 ls k).c.t++[p],(q2 ls k).c.f,(q2 ls k).c.o⟩⟩→nums (ls.drop k)=nums (ls.drop (k+1))→cst (q2 ls k).c l=some ⟨(q2 ls k).c.t++[p],(q2 ls k).c.f,(q2 ls k).c.o⟩→Go ls k s1.reverse∧(skp l (ls.drop (k+1))=false→cst (q2 ls k).c l=some (q2 ls (k+1)).c):=by
  intro p b d e1 e2 e3 e4
  exact⟨by rw[e1];exact I.leaf h b d e2 e3,fun _=>by rw[e2];exact e4⟩
 have e3:∀{l'},l=l'→nums (ls.drop k)=nums (l'::ls.drop (k+1)):=fun e=>by rw[Xh h,e]
 cases l with
 | cond a g b=>cases (show s1=_ from nx);exact⟨by rw[De];exact I.cond h,fun _=>by rw[Zo h];rfl⟩
 | rnd n=>cases (show s1=_ from nx);exact⟨by rw[De];exact I.home true h nd',fun _=>by rw[Zo h];rfl⟩
 | prt n=>cases (show s1=_ from nx);exact⟨by rw[De];exact I.home false h nd',fun _=>by rw[Zo h];rfl⟩
 | els=>
  obtain⟨tl,n,rfl,rfl⟩:=nx
  rw[De] at I ⊢
  obtain⟨a,b,_⟩:=I.els h
  exact⟨a,b⟩
 | don=>
  obtain⟨x,rfl⟩:=nx
  rw[De] at I
  obtain⟨a,b,_⟩:=I.don h
  exact⟨a,fun _=>b⟩
 | sum x a s b=>exact lf rfl (by simp) nx (by rw[Zo h];rfl) (e3 rfl) rfl
 | lve n=>exact lf rfl (by simp) nx (by rw[Zo h];rfl) (e3 rfl) rfl
 | agn n=>exact lf rfl (by simp) nx (by rw[Zo h];rfl) (e3 rfl) rfl
 | fin=>exact lf rfl (by simp) nx (by rw[Zo h];rfl) (e3 rfl) rfl
theorem I2.all(g:Gd m ls):∀k,k≤ls.length→∃ss,Wk m ss (ls.drop k) []∧I2 ls k ss.reverse
 | 0,_=>⟨[],g.w,I2.zero ls⟩
 | k+1,hk=>by
  obtain⟨ss,w,I⟩:=I2.all g k (by omega)
  obtain⟨l,h⟩:∃l,ls[k]?=some l:=⟨_,Ag (by omega)⟩
  rw[Xh h] at w
  obtain⟨_,_,s1,nx,_,w'⟩:=w
  exact⟨s1,w',(I.go g.n h nx).1.i⟩
theorem goL(g:Gd m ls){k:Nat}{l:Ln}(h:ls[k]?=some l):∃ss s1,I2 ls k ss.reverse∧nxt ss l s1∧l.inn ss∧Go ls k s1.reverse∧(skp l (ls.drop (k+1))=false→cst (q2 ls k).c l=some (q2 ls (k+1)).c):=by
 obtain⟨hk,_⟩:=Ac.mp h
 obtain⟨ss,w,I⟩:=I2.all g k (by omega)
 rw[Xh h] at w
 obtain⟨_,inn,s1,nx,_,w'⟩:=w
 obtain⟨a,b⟩:=I.go g.n h nx
 exact⟨ss,s1,I,nx,inn,a,b⟩
theorem Q4(g:Gd m ls){k n:Nat}(h:k≤n)(hn:n≤ls.length):Ex (q2 ls k).f (q2 ls n).f∧Ex (q2 ls k).c.f (q2 ls n).c.f:=by
 induction h with
 | refl=>exact⟨fun _ _ z=>z,fun _ _ z=>z⟩
 | @step i _ ih=>
  obtain⟨a,b⟩:=ih (Nat.le_of_succ_le hn)
  obtain⟨_,_,_,_,_,G,_⟩:=goL g (Ag (show i<ls.length from hn))
  exact⟨a.trans G.f,b.trans G.c⟩
theorem Z29(g:Gd m ls):∀d k,k+d=ls.length→crun (q2 ls k).c (cl (ls.drop k))=some (q2 ls ls.length).c
 | 0,k,h=>by rw[Kk (by omega)];rw[show k=ls.length by omega];rfl
 | d+1,k,h=>by
  have hk:k<ls.length:=by omega
  have hl:ls[k]?=some ls[k]:=Ag hk
  have ih:=Z29 g d (k+1) (by omega)
  rw[Xh hl]
  unfold cl
  obtain⟨_,_,_,_,_,_,c⟩:=goL g hl
  cases hs:skp ls[k] (ls.drop (k+1)) with
  | true=>
   rw[if_pos rfl,←ih]
   congr 1
   rw[Zo hl]
   unfold q2s
   rw[hs]
   rfl
  | false=>
   rw[if_neg Bf9]
   show(cst (q2 ls k).c _).bind _=_
   rw[c hs]
   exact ih
noncomputable abbrev FF(ls:List Ln):Lb→Option Nat:=(q2 ls ls.length).f
noncomputable abbrev GF(ls:List Ln):Lb→Option Nat:=(q2 ls ls.length).c.f
noncomputable abbrev TT(ls:List Ln):List Pr:=(q2 ls ls.length).c.t
theorem Zg3{i:Nat}{p:Pr}{r:List Pr}(hi:i<ls.length)(h:(q2 ls (i+1)).c.t=(q2 ls i).c.t++p::r):(TT ls)[ph ls i]?=some p:=by
 obtain⟨y,hy⟩:=Z31 ls (show i+1≤ls.length from hi)
 rw[h] at hy
 unfold TT
 unfold ph
 rw[←hy,Bs,Dc (Nat.le_refl _)]
 rw[Nat.sub_self]
 rfl
theorem Bh{i:Nat}{p:Pr}(h:(q2 ls (i+1)).c.t=(q2 ls i).c.t++[p]):ph ls (i+1)=ph ls i+1:=by unfold ph;rw[h];simp
theorem Zz0(g:Gd m ls):(q2 ls ls.length).s=[]:=by
 obtain⟨ss,w,I⟩:=I2.all g ls.length (Nat.le_refl _)
 rw[List.drop_length] at w
 cases (show []=ss from w)
 have:=I.al
 match h:(q2 ls ls.length).s,h2:(q2 ls ls.length).c.o,this with
 | [],[],_=>rfl
theorem I2.of(g:Gd m ls){k:Nat}(h:k≤ls.length):∃xs,I2 ls k xs:=by obtain⟨ss,_,I⟩:=I2.all g k h;exact⟨_,I⟩
theorem Wq(g:Gd m ls){s:Nat}{l:Ln}(h:ls[s]?=some l)(hb:l.beg=true):∃j,j<ls.length∧ls[j]?=some .don∧Cl ls s j (FF ls) (GF ls):=by
 obtain⟨hs,_⟩:=Ac.mp h
 obtain⟨xs,I⟩:=I2.of g (Nat.le_refl ls.length)
 rcases I.op s l hs h hb with z | ⟨j,hj⟩
 ·rw[Zz0 g] at z;cases z
 obtain⟨j1,j2,j3⟩:=I.dn s j hj
 refine⟨j,j1,j2,?_⟩
 obtain⟨ss,s1,Ij,nx,_,_,_⟩:=goL g j2
 obtain⟨x,rfl⟩:=nx
 rw[De] at Ij
 obtain⟨_,_,s',e1,c1,c2,c3,c4⟩:=Ij.don j2
 rw[j3] at e1
 cases e1
 obtain⟨x1,x2⟩:=Q4 g (show j+1≤ls.length from j1) (Nat.le_refl _)
 refine⟨c1,x1 _ _ c2,x1 _ _ c3,?_⟩
 rcases c4 with⟨b,n,d1,d2,d3,d4⟩ | ⟨d1,d2,d3,d4⟩
 ·exact .inl ⟨b,n,d1,x1 _ _ d2,x2 _ _ d3,d4⟩
 ·refine .inr ⟨d1,d2,x2 _ _ d3,?_⟩
  rcases d4 with⟨d4,d5⟩ | ⟨e,d4,d5⟩
  ·refine .inl ⟨?_,x2 _ _ d5⟩
   cases he:FF ls (.els,(s:Nat)) with
   | none=>rfl
   | some e=>
    obtain⟨e1,e2,e3⟩:=I.el s e he
    obtain⟨ss2,s2,Ie,nx2,_,_,_⟩:=goL g e2
    obtain⟨tl,n,rfl,rfl⟩:=nx2
    rw[De] at Ie
    obtain⟨_,_,s3,f1,_,f2,_⟩:=Ie.els e2
    rw[e3] at f1
    cases f1
    rcases Nat.lt_trichotomy e j with z | z | z
    ·have:=(Q4 g (show e+1≤j+1 by omega) j1).1 _ _ f2
     rw[d4] at this
     cases this
    ·rw[z,j2] at e2;cases e2
    ·have:=(Q4 g (show j+1≤e from z) (by omega)).1 _ _ c2
     obtain⟨s4,_,_,_,q4,_,F,_⟩:=Ie.al.top
     rw[q4] at e3
     cases e3
     rw[F.2.1] at this
     cases this
  ·exact .inr ⟨e,x1 _ _ d4,x2 _ _ d5⟩
theorem So(g:Gd m ls){j:Nat}(h:ls[j]?=some .don):∃s l,ls[s]?=some l∧l.beg=true∧Cl ls s j (FF ls) (GF ls):=by
 obtain⟨hj,_⟩:=Ac.mp h
 obtain⟨ss,s1,Ij,nx,_,_,_⟩:=goL g h
 obtain⟨x,rfl⟩:=nx
 rw[De] at Ij
 obtain⟨_,_,s,e1,C⟩:=Ij.don h
 obtain⟨l,hl,hb⟩:∃l,ls[s]?=some l∧l.beg=true:=by
  rcases C.2.2.2 with⟨b,n,d,_⟩ | ⟨⟨a,g,b,d⟩,_⟩
  ·exact⟨_,d,by cases b<;>rfl⟩
  ·exact⟨_,d,rfl⟩
 refine⟨s,l,hl,hb,?_⟩
 obtain⟨j',_,_,C'⟩:=Wq g hl hb
 have:=(Q4 g (show j+1≤ls.length from hj) (Nat.le_refl _)).1 _ _ C.2.1
 have e:=C'.2.1
 rw[show FF ls (.don,(s:Nat))=some j from this] at e
 cases e
 exact C'
theorem El(g:Gd m ls){e:Nat}(h:ls[e]?=some .els):∃s,isC ls s∧s<e∧FF ls (.frm,(e:Nat))=some s∧FF ls (.els,(s:Nat))=some e∧((ls[e+1]?=some .don∧ph ls (e+1)=ph ls e)∨((TT ls)[ph ls e]?=some (.jump (.beh,(ph ls s:Nat)))∧ph ls (e+1)=ph ls e+1)):=by
 obtain⟨he,_⟩:=Ac.mp h
 obtain⟨ss,s1,I,nx,_,_,_⟩:=goL g h
 obtain⟨tl,n,rfl,rfl⟩:=nx
 rw[De] at I
 obtain⟨_,_,s,e1,e2,e3,e4,e5⟩:=I.els h
 obtain⟨x1,x2⟩:=Q4 g (show e+1≤ls.length from he) (Nat.le_refl _)
 have hs:s<e:=by
  obtain⟨s4,_,_,_,q4,_,F,_⟩:=I.al.top
  rw[q4] at e1
  cases e1
  exact F.1
 exact⟨s,e2,hs,x1 _ _ e4,x1 _ _ e3,e5.imp id fun z=>⟨Zg3 he z,Bh z⟩⟩
theorem Yo(g:Gd m ls){s:Nat}(b:Bool){n:Int}(h:ls[s]?=some (if b then .rnd n else .prt n)):FF ls (.hom,n)=some s∧GF ls (.agn,n)=some (ph ls s)∧ph ls (s+1)=ph ls s:=by
 obtain⟨hs,_⟩:=Ac.mp h
 obtain⟨x1,x2⟩:=Q4 g (show s+1≤ls.length from hs) (Nat.le_refl _)
 have e:q2 ls (s+1)=⟨up (q2 ls s).f (.hom,n) s,s::(q2 ls s).s,⟨(q2 ls s).c.t,up (q2 ls s).c.f (.agn,n) (ph ls s),.home b n::(q2 ls s).c.o⟩⟩:=by rw[Zo h];cases b<;>rfl
 rw[e] at x1 x2
 exact⟨x1 _ _ (Yv _ _ _),x2 _ _ (Yv _ _ _),by unfold ph;rw[e]⟩
theorem Wg(g:Gd m ls){i:Nat}{l:Ln}{b:Bool}{n:Int}(h:ls[i]?=some l)(hi:∀ss,l.inn ss→(Tp.crd,n)∈ss∨(b=false∧(Tp.cpt,n)∈ss)):∃(s:Nat) (c:Bool),ls[s]?=some (if c then .rnd n else .prt n)∧(b=true→c=true):=by
 obtain⟨ss,s1,I,_,inn,_,_⟩:=goL g h
 have key:∀t,(t,n)∈ss→(t= .crd∨t= .cpt)→∃(s:Nat) (c:Bool),ls[s]?=some (if c then .rnd n else .prt n)∧t=if c then .crd else .cpt:=by
  intro t ht hc
  obtain⟨s,e,_,F⟩:=I.al.mem _ (List.mem_reverse.mpr ht)
  rcases F.2.2 with⟨c,_,f1,_,_,f2⟩ | ⟨_,_,_,f | f⟩
  ·exact⟨s,c,f1,f2⟩
  ·rcases hc with rfl | rfl<;>cases f.1
  ·rcases hc with rfl | rfl<;>cases f.1
 rcases hi ss inn with z | ⟨zb,z⟩
 ·obtain⟨s,c,h1,h2⟩:=key _ z (.inl rfl)
  exact⟨s,c,h1,fun _=>by cases c;cases h2;rfl⟩
 ·obtain⟨s,c,h1,h2⟩:=key _ z (.inr rfl)
  exact⟨s,c,h1,fun hb=>by rw[zb] at hb;cases hb⟩
end
open LN CY
noncomputable def stop:Ln→Bool
 | .sum _ _ _ _ | .cond _ _ _ | .fin=>true
 | _=>false
noncomputable def isR:Option Ln→Bool
 | some (.rnd _)=>true
 | _=>false
noncomputable def nx1(ls:List Ln)(F:Lb→Option Nat)(p:Nat):Ln→Option Nat
 | .els=>(F (.frm,(p:Nat))).bind fun s=>(F (.don,(s:Nat))).map (·+1)
 | .don=>(F (.frm,(p:Nat))).map fun s=>if isR ls[s]? then s+1 else p+1
 | .lve n=>(F (.hom,n)).bind fun s=>(F (.don,(s:Nat))).map (·+1)
 | .agn n=>(F (.hom,n)).map (·+1)
 | _=>some (p+1)
noncomputable def NX(ls:List Ln)(p:Nat):Option Nat:=match ls[p]? with
 | none=>none
 | some l=>if stop l then none else nx1 ls (FF ls) p l
noncomputable def JR(raws:List Raw)(p:Nat):Option Nat:=match raws[p]? with
 | some (.jump t)=>some t
 | _=>none
def Rws(ls:List Ln)(raws:List Raw):Prop:=(TT ls++[Pr.fin]).map (res (GF ls))=raws.map some
section
variable{ls:List Ln}{m:Nat}{raws:List Raw}
theorem Rws.at(h:Rws ls raws){i:Nat}{p:Pr}(hp:(TT ls)[i]?=some p):∃r,raws[i]?=some r∧res (GF ls) p=some r:=by
 have:=congrArg (fun l=>l[i]?) h
 try dsimp only at this
 rw[Ai,Ai,Dk (Ac.mp hp).1,hp] at this
 cases e:raws[i]? with
 | none=>rw[e] at this;cases this
 | some r=>rw[e] at this;exact⟨r,rfl,Aw this⟩
theorem Rws.len(h:Rws ls raws):raws.length=(TT ls).length+1:=by
 have:=congrArg Mi h
 rw[Ab,Ab,Ae] at this
 exact this.symm
theorem Rws.end(h:Rws ls raws):raws[ph ls ls.length]?=some .fin:=by
 have:=congrArg (fun l=>l[(TT ls).length]?) h
 try dsimp only at this
 rw[Ai,Ai,Dc (Nat.le_refl _),Nat.sub_self] at this
 show raws[(TT ls).length]?=_
 cases e:raws[(TT ls).length]? with
 | none=>rw[e] at this;cases this
 | some r=>rw[e] at this;cases this;rfl
theorem Rws.jump(h:Rws ls raws){i:Nat}{a:Lb}{t:Nat}(hp:(TT ls)[i]?=some (.jump a))(e:GF ls a=some t):raws[i]?=some (.jump t):=by
 obtain⟨r,h1,h2⟩:=h.at hp
 change (GF ls a).map Raw.jump=some r at h2
 rw[e] at h2
 cases h2
 exact h1
theorem JR_j{i t:Nat}(h:raws[i]?=some (.jump t)):JR raws i=some t:=by unfold JR;rw[h]
def SR(l:Ln)(r:Raw):Prop:=match l,r with
 | .sum x a s b,.sum x' a' s' b'=>x=x'∧a=a'∧s=s'∧b=b'
 | .cond a s b,.test a' s' b' _=>a=a'∧s=s'∧b=b'
 | .fin,.fin=>True
 | _,_=>False
theorem N4{i:Nat}{p:Pr}(h:(q2 ls (i+1)).c.t=(q2 ls i).c.t++[p])(hi:i<ls.length):(TT ls)[ph ls i]?=some p∧ph ls (i+1)=ph ls i+1:=⟨Zg3 hi h,Bh h⟩
theorem Ft{i:Nat}{a:Opd}{s:Str}{b:Opd}(g:Gd m ls)(h:ls[i]?=some (.cond a s b)):(TT ls)[ph ls i]?=some (.test a s b (.yes,(ph ls i:Nat)))∧(TT ls)[ph ls i+1]?=some (.jump (.no,(ph ls i:Nat)))∧ph ls (i+1)=ph ls i+2∧GF ls (.yes,(ph ls i:Nat))=some (ph ls (i+1)):=by
 obtain⟨hi,_⟩:=Ac.mp h
 have e1:q2 ls (i+1)=⟨(q2 ls i).f,i::(q2 ls i).s,⟨(q2 ls i).c.t++[.test a s b (.yes,(ph ls i:Nat))]++[.jump (.no,(ph ls i:Nat))],up (q2 ls i).c.f (.yes,(ph ls i:Nat)) (ph ls i+2),.cho (ph ls i)::(q2 ls i).c.o⟩⟩:=by rw[Zo h];rfl
 have hp:=ph_C ⟨a,s,b,h⟩
 refine⟨Zg3 (r:=[.jump (.no,(ph ls i:Nat))]) hi (by rw[e1];simp),?_,hp,?_⟩
 ·obtain⟨y,hy⟩:=Z31 ls (show i+1≤ls.length from hi)
  unfold TT ph
  rw[←hy,e1]
  dsimp only
  rw[Bs,Bs,Dc (by omega),Nat.add_sub_cancel_left]
  rfl
 ·have:=(Q4 g (show i+1≤ls.length from hi) (Nat.le_refl _)).2
  rw[e1] at this
  rw[hp]
  exact this _ _ (Yv _ _ _)
theorem Zk4(g:Gd m ls)(hr:Rws ls raws){i:Nat}{l:Ln}(h:ls[i]?=some l)(hs:stop l=true):∃r,raws[ph ls i]?=some r∧SR l r:=by
 obtain⟨hi,_⟩:=Ac.mp h
 cases l with
 | sum x a s b=>
  obtain⟨h1,h2⟩:=N4 (p:= .sum x a s b) (by rw[Zo h];rfl) hi
  obtain⟨r,h3,h4⟩:=hr.at h1
  cases h4
  exact⟨_,h3,rfl,rfl,rfl,rfl⟩
 | fin=>
  obtain⟨h1,h2⟩:=N4 (p:= .fin) (by rw[Zo h];rfl) hi
  obtain⟨r,h3,h4⟩:=hr.at h1
  cases h4
  exact⟨_,h3,trivial⟩
 | cond a s b=>
  obtain⟨h1,h2,h3,h4⟩:=Ft g h
  obtain⟨r,h5,h6⟩:=hr.at h1
  change (GF ls _).map (Raw.test a s b)=some r at h6
  rw[h4] at h6
  cases h6
  exact⟨_,h5,rfl,rfl,rfl⟩
 | _=>cases hs
theorem Y79(h:ls.length≤k):ph ls k=ph ls ls.length:=by
 induction h with
 | refl=>rfl
 | step h ih=>rw[←ih];unfold ph;rw[J2 h]
theorem Ya9(g:Gd m ls)(hr:Rws ls raws)(p:Nat)(h:NX ls p=none):JR raws (ph ls p)=none:=by
 unfold NX at h
 cases e:ls[p]? with
 | none=>
  rw[Y79 (Hk.mp e)]
  unfold JR
  rw[hr.end]
 | some l=>
  rw[e] at h
  dsimp only at h
  cases hs:stop l with
  | true=>
   obtain⟨r,h1,h2⟩:=Zk4 g hr e hs
   unfold JR
   rw[h1]
   cases r with
   | jump t=>cases l<;>cases h2
   | _=>rfl
  | false=>
   rw[hs,if_neg Bf9] at h
   cases l with
   | els=>
    obtain⟨s,⟨a,q,b,hc⟩,_,f1,_⟩:=El g e
    obtain⟨j,_,_,C⟩:=Wq g hc rfl
    change (FF ls (.frm,(p:Nat))).bind _=_ at h
    rw[f1] at h
    change (FF ls (.don,(s:Nat))).map _=none at h
    rw[C.2.1] at h
    cases h
   | don=>
    obtain⟨s,_,_,_,C⟩:=So g e
    change (FF ls (.frm,(p:Nat))).map _=_ at h
    rw[C.2.2.1] at h
    cases h
   | lve n=>
    obtain⟨s,c,hc,_⟩:=Wg (b:=false) (n:=n) g e fun ss z=>z.imp id fun z=>⟨rfl,z⟩
    obtain⟨j,_,_,C⟩:=Wq g hc (by cases c<;>rfl)
    change (FF ls (.hom,n)).bind _=_ at h
    rw[(Yo g c hc).1] at h
    change (FF ls (.don,(s:Nat))).map _=none at h
    rw[C.2.1] at h
    cases h
   | agn n=>
    obtain⟨s,c,hc,_⟩:=Wg (b:=true) (n:=n) g e fun ss z=> .inl z
    change (FF ls (.hom,n)).map _=_ at h
    rw[(Yo g c hc).1] at h
    cases h
   | rnd n=>cases h
   | prt n=>cases h
   | _=>cases hs
theorem Ya3(g:Gd m ls)(hr:Rws ls raws)(p q:Nat)(h:NX ls p=some q):(ph ls q=ph ls p∧p<q)∨JR raws (ph ls p)=some (ph ls q):=by
 unfold NX at h
 cases e:ls[p]? with
 | none=>rw[e] at h;cases h
 | some l=>
  obtain⟨hp,_⟩:=Ac.mp e
  rw[e] at h
  dsimp only at h
  cases hs:stop l with
  | true=>rw[hs,if_pos rfl] at h;cases h
  | false=>
   rw[hs,if_neg Bf9] at h
   cases l with
   | els=>
    obtain⟨s,⟨a,x,b,hc⟩,_,f1,f2,f3⟩:=El g e
    obtain⟨j,j1,j2,C⟩:=Wq g hc rfl
    change (FF ls (.frm,(p:Nat))).bind _=_ at h
    rw[f1] at h
    change (FF ls (.don,(s:Nat))).map _=some q at h
    rw[C.2.1] at h
    cases h
    have hC:ph ls (j+1)=ph ls j∧GF ls (.beh,(ph ls s:Nat))=some (ph ls j):=by
     rcases C.2.2.2 with⟨c,n,d,_⟩ | ⟨_,d1,d2,_⟩
     ·rw[hc] at d;cases c<;>cases d
     ·exact⟨d1,d2⟩
    rcases f3 with⟨f3,f4⟩ | ⟨f3,f4⟩
    ·obtain⟨s',l',hl',hb',C'⟩:=So g f3
     refine .inl ?_
     have ej:j=p+1:=by
      obtain⟨ss,s1,I,nx,_,_,_⟩:=goL g e
      obtain⟨tl,n,rfl,rfl⟩:=nx
      rw[De] at I
      obtain⟨G,_,s2,y1,_,y2,y3,_⟩:=I.els e
      obtain⟨x1,_⟩:=Q4 g (show p+1≤ls.length from hp) (Nat.le_refl _)
      have y4:=x1 _ _ y3
      rw[show(q2 ls ls.length).f (.frm,(p:Nat))=some s from f1] at y4
      cases y4
      obtain⟨ss2,s3,I2',nx2,_,_,_⟩:=goL g f3
      obtain⟨x',rfl⟩:=nx2
      rw[De] at I2'
      obtain⟨_,_,s4,z1,z2,z3,_⟩:=I2'.don f3
      have:(q2 ls (p+1)).s=(q2 ls p).s:=by rw[Zo e];rfl
      rw[this,y1] at z1
      cases z1
      have z4:=(Q4 g (show p+1+1≤ls.length from(Ac.mp f3).1) (Nat.le_refl _)).1 _ _ z3
      rw[show(q2 ls ls.length).f (.don,(s:Nat))=some j from C.2.1] at z4
      exact Aw z4
     exact⟨by show ph ls (j+1)=_;rw[hC.1,ej];exact f4,by show p<j+1;omega⟩
    ·exact .inr (by rw[JR_j (hr.jump f3 hC.2),hC.1])
   | don=>
    obtain⟨s,l',hl',hb',C⟩:=So g e
    change (FF ls (.frm,(p:Nat))).map _=_ at h
    rw[C.2.2.1] at h
    change some (if isR ls[s]? then s+1 else p+1)=some q at h
    rcases C.2.2.2 with⟨c,n,d1,d2,d3,d4⟩ | ⟨⟨a,x,b,d1⟩,d2,_⟩
    ·rw[d1] at h
     cases c with
     | true=>
      cases h
      obtain⟨_,k2,k3⟩:=Yo g true d1
      exact .inr (by rw[JR_j (hr.jump (Zg3 hp d4) k2)];exact congrArg some k3.symm)
     | false=>
      cases h
      exact .inl ⟨d4,Nat.lt_succ_self _⟩
    ·rw[d1] at h
     cases h
     exact .inl ⟨d2,Nat.lt_succ_self _⟩
   | lve n=>
    obtain⟨s,c,hc,_⟩:=Wg (b:=false) (n:=n) g e fun ss z=>z.imp id fun z=>⟨rfl,z⟩
    obtain⟨j,_,_,C⟩:=Wq g hc (by cases c<;>rfl)
    change (FF ls (.hom,n)).bind _=_ at h
    rw[(Yo g c hc).1] at h
    change (FF ls (.don,(s:Nat))).map _=some q at h
    rw[C.2.1] at h
    cases h
    obtain⟨h1,_⟩:=N4 (p:= .jump (.lve,n)) (by rw[Zo e];rfl) hp
    refine .inr (JR_j (hr.jump h1 ?_))
    rcases C.2.2.2 with⟨c',n',d1,_,d3,_⟩ | ⟨⟨a,x,b,d1⟩,_⟩
    ·rw[hc] at d1
     cases c<;>cases c'<;>cases d1<;>exact d3
    ·rw[hc] at d1;cases c<;>cases d1
   | agn n=>
    obtain⟨s,c,hc,_⟩:=Wg (b:=true) (n:=n) g e fun ss z=> .inl z
    obtain⟨k1,k2,k3⟩:=Yo g c hc
    change (FF ls (.hom,n)).map _=_ at h
    rw[k1] at h
    cases h
    obtain⟨h1,_⟩:=N4 (p:= .jump (.agn,n)) (by rw[Zo e];rfl) hp
    exact .inr (by rw[JR_j (hr.jump h1 k2),k3])
   | rnd n=>cases h;exact .inl ⟨(Yo g true e).2.2,Nat.lt_succ_self _⟩
   | prt n=>cases h;exact .inl ⟨(Yo g false e).2.2,Nat.lt_succ_self _⟩
   | _=>cases hs
end
noncomputable def intD(ns:List Nat):List D:=ns.map fun n=>D.int (n:Nat)
theorem Bz(M:Z2)(xs:List (List Key×D))(N:Z2):Zq (M++ .dcp xs::N) M.length=some xs:=by
 unfold Zq
 rw[Dc (Nat.le_refl _),Nat.sub_self]
 rfl
theorem Ks.P{F:Nat→Prop}{M M':Z2}{a:Nat}{xs:List (List Key×D)}(h:Ks F M M')(n:¬F a)(e:Zq M a=some xs):Zq M' a=some xs:=by
 rw[Vi (h.at' a n (V9 e))];exact e
def Ga:DSp:=fun ds M Q _=>∃(r m:Nat) (ls:List Ln),ds=[.ref r]∧Zc M r=some (ls.map Ln.d)∧Gd m ls∧ls.length≤400∧∀kvs M' r',Kp M M'→Zq M' r'=some kvs→PM kvs (FF ls)→Q (.ref r') M'
structure Mk2(ls:List Ln)(f:Lb→Option Nat)(s:List Nat)(n a b:Nat)(M:Z2):Prop where
 p:∃kvs,Zq M a=some kvs∧PM kvs f∧kvs.length≤n
 w:Z4 M b=some (intD s.reverse)
 l:s.length≤500
 b':n≤5000
section
variable{ls:List Ln}{f:Lb→Option Nat}{s:List Nat}{n a b:Nat}{M:Z2}
theorem Mk2.ne(h:Mk2 ls f s n a b M):a≠b:=by
 rintro rfl
 obtain⟨kvs,h1,_⟩:=h.p
 have h2:=h.w
 unfold Zq at h1
 unfold Z4 at h2
 cases e:M[a]? with
 | none=>rw[e] at h1;cases h1
 | some c=>
  rw[e] at h1 h2
  cases c with
  | lst _=>cases h1
  | _=>cases h2
theorem Mk2.put(h:Mk2 ls f s n a b M)(l:Lb)(v:Nat)(hb:n+1≤5000):∃kvs,Zq M a=some kvs∧kvs.length<sizeLine∧Mk2 ls (up f l v) s (n+1) a b (M.set a (.dcp (putD kvs (lbk l) (.int (v:Nat))))):=by
 obtain⟨kvs,h1,h2,h3⟩:=h.p
 refine⟨kvs,h1,Z3 (by omega),⟨_,?_,h2.put l v,by have:=Ea kvs (lbk l) (.int (v:Nat));omega⟩,?_,h.l,hb⟩
 ·unfold Zq;rw[Dw (V9 h1)]
 ·rw[Za h.ne];exact h.w
theorem Mk2.stk(h:Mk2 ls f s n a b M)(t:List Nat)(ht:t.length≤500):Mk2 ls f t n a b (M.set b (.lst (intD t.reverse))):=by
 obtain⟨kvs,h1,h2,h3⟩:=h.p
 refine⟨⟨kvs,?_,h2,h3⟩,Z9 (Z6 (Z1 h.w)),ht,h.b'⟩
 rw[Vi (Y4 (Df h.ne))];exact h1
theorem Mk2.up(h:Mk2 ls f s n a b M){k:Nat}(hk:n≤k)(hb:k≤5000):Mk2 ls f s k a b M:=by
 obtain⟨kvs,h1,h2,h3⟩:=h.p
 exact⟨⟨kvs,h1,h2,by omega⟩,h.w,h.l,hb⟩
end
theorem Z08(ls:List Ln):∀k,(q2 ls k).s.length≤k
 | 0=>Nat.le_refl _
 | k+1=>by
  have ih:=Z08 ls k
  cases e:ls[k]? with
  | none=>rw[J2 (Hk.mp e)];omega
  | some l=>
   rw[Zo e]
   show(mst _ _ _ l).2.length≤_
   cases l<;>simp[mst]<;>omega
section
variable{K:Af}{Γ:List DSp}{G:List D}
theorem Zi5(gb:Γ[15]?=some Y8):Rd K Γ G Ga Fj F9:=by
 rintro ds M Q Z ⟨r,m,ls,rfl,hr,g,hl,q⟩
 delta Fj F9
 walk_at "ev"
 have k0:Kp M (M++[.dcp []]++[.lst []]):=(Ks.new M _).app _
 have l1:(M++[Cell.dcp []]:Z2).length=M.length+1:=by simp
 rw[l1]
 refine⟨Z0 (by decide),Zb (k0.pL hr) ⟨by omega,by rw[Ab];omega,?_⟩⟩
 rw[Hy,Ab]
 refine Yu (fun i σ M'=>∃(d3 d4:Option D),σ=[some (.ref r),some (.ref M.length),some (.ref (M.length+1)),d3,d4]∧Kp M M'∧Mk2 ls (q2 ls i).f (q2 ls i).s (3 * i) M.length (M.length+1) M') ⟨none,none,rfl,k0,⟨[],?_,fun _=>rfl,Nat.le_refl _⟩,?_,Nat.zero_le _,by omega⟩ ?_ ?_
 ·rw[Bs];exact Bz _ _ _
 ·rw[←l1];exact Z5 _ _ []
 ·rintro i σ M' P hi ⟨d3,d4,rfl,k,h⟩ hP
  obtain⟨l,hl1⟩:∃l,ls[i]?=some l:=⟨_,Ag hi⟩
  have at':(ls.map Ln.d)[i]?=some l.d:=by rw[Ai,hl1];rfl
  obtain⟨ss,s1,I,nx,_,_,_⟩:=goL g hl1
  have sl:=Z08 ls i
  rw[tg_one,Kr]
  delta Qm
  walk_at "ev"
  refine ix_l (k:=i) (k.pL hr) at' ?_
  try walk_at "ev"
  simp only[gb]
  refine⟨l,rfl,?_⟩
  have fin:∀(B:DEnv→Z2→Prop) (M2:Z2),l≠ .els→l≠ .don→Kp M M2→Mk2 ls (q2 ls (i+1)).f (q2 ls (i+1)).s (3 * (i+1)) M.length (M.length+1) M2→tss ⟨K,Γ,G⟩ noX Yz {nx:=P,rt:=Q,bk:=B,ct:=P} [some (.ref r),some (.ref M.length),some (.ref (M.length+1)),some (.int (i:Nat)),some l.d] M2:=by
   intro B M2 n1 n2 k2 h2
   have e:=hP _ _ ⟨some (.int (i:Nat)),some l.d,rfl,k2,h2⟩
   delta Yz
   cases l with
   | els=>exact absurd rfl n1
   | don=>exact absurd rfl n2
   | _=>simp only[Ln.d] at e ⊢;walk_at "ev";delta We;walk_at "ev";exact e
  have psh:∀f',f'=(q2 ls i).f→Mk2 ls f' (i::(q2 ls i).s) (3 * i) M.length (M.length+1) (M'.set (M.length+1) (.lst (intD (q2 ls i).s.reverse++[.int (i:Nat)]))):=by
   rintro f' rfl
   have:=h.stk (i::(q2 ls i).s) (by rw[Ar];omega)
   rw[Kg] at this
   unfold intD at this ⊢
   rw[Ao] at this
   exact this
  have ksb:∀c,Kp M (M'.set (M.length+1) c):=fun c=>k.set (.inr (by omega))
  have hom:∀n:Int,(q2 ls (i+1)).f=up (q2 ls i).f (.hom,n) i→(q2 ls (i+1)).s=i::(q2 ls i).s→∃kvs,Zq (M'.set (M.length+1) (.lst (intD (q2 ls i).s.reverse++[.int (i:Nat)]))) M.length=some kvs∧kvs.length<sizeLine∧Mk2 ls (q2 ls (i+1)).f (q2 ls (i+1)).s (3 * (i+1)) M.length (M.length+1) ((M'.set (M.length+1) (.lst (intD (q2 ls i).s.reverse++[.int (i:Nat)]))).set M.length (.dcp (putD kvs (lbk (.hom,n)) (.int (i:Nat))))):=by
   intro n e1 e2
   obtain⟨kvs,p1,p2,p3⟩:=(psh _ rfl).put (.hom,n) i (by omega)
   exact⟨kvs,p1,p2,by rw[e1,e2];exact p3.up (by omega) (by omega)⟩
  cases l with
  | cond a s b=>
   simp only[Ln.beg,Ln.d]
   walk_at "ev"
   refine⟨Z7 (Z1 h.w),_,h.w,Z3 (by unfold intD;rw[Ab,Iw];omega),?_⟩
   rw[if_neg (fun z=>z trivial)]
   refine fin _ _ (by simp) (by simp) (ksb _) ?_
   rw[Zo hl1]
   exact(psh _ rfl).up (by omega) (by omega)
  | rnd n=>
   simp only[Ln.beg,Ln.d]
   walk_at "ev"
   refine⟨Z7 (Z1 h.w),_,h.w,Z3 (by unfold intD;rw[Ab,Iw];omega),?_⟩
   obtain⟨kvs,p1,p2,p3⟩:=hom n (by rw[Zo hl1];rfl) (by rw[Zo hl1];rfl)
   exact⟨Z0 (by decide),.inr (.inr ⟨kvs,lbk (.hom,n),p1,rfl,p2,fin _ _ (by simp) (by simp) ((ksb _).set (.inr (Nat.le_refl _))) p3⟩)⟩
  | prt n=>
   simp only[Ln.beg,Ln.d]
   walk_at "ev"
   refine⟨Z7 (Z1 h.w),_,h.w,Z3 (by unfold intD;rw[Ab,Iw];omega),?_⟩
   obtain⟨kvs,p1,p2,p3⟩:=hom n (by rw[Zo hl1];rfl) (by rw[Zo hl1];rfl)
   exact⟨Z0 (by decide),.inr (.inr ⟨kvs,lbk (.hom,n),p1,rfl,p2,fin _ _ (by simp) (by simp) ((ksb _).set (.inr (Nat.le_refl _))) p3⟩)⟩
  | els=>
   obtain⟨tl,n,rfl,rfl⟩:=nx
   rw[De] at I
   obtain⟨s,ss,e,es,q1,_,_,_⟩:=I.al.top
   have e1:(q2 ls (i+1)).f=up (up (q2 ls i).f (.els,(s:Nat)) i) (.frm,(i:Nat)) s∧(q2 ls (i+1)).s=(q2 ls i).s:=by rw[Zo hl1];unfold q2s;dsimp only;rw[q1];exact⟨rfl,rfl⟩
   have hla:atI (intD (q2 ls i).s.reverse) (-1)=some (.int (s:Nat)):=by rw[q1,Kg];unfold intD;rw[Ao];exact S9 _ _
   obtain⟨kvs,p1,p2,h1⟩:=h.put (.els,(s:Nat)) i (by omega)
   obtain⟨kvs',p1',p2',h2⟩:=h1.put (.frm,(i:Nat)) s (by omega)
   simp only[Ln.beg,Ln.d]
   walk_at "ev"
   delta Yz
   walk_at "ev"
   refine Wo (Z1 h.w) hla ⟨Z0 (by decide),.inr (.inr ⟨kvs,lbk (.els,(s:Nat)),p1,rfl,p2,Wo (Z1 h1.w) hla ⟨Z0 (by decide),.inr (.inr ⟨kvs',lbk (.frm,(i:Nat)),p1',rfl,p2',?_⟩)⟩⟩)⟩
   delta We
   walk_at "ev"
   exact hP _ _ ⟨_,_,rfl,(k.set (.inr (Nat.le_refl _))).set (.inr (Nat.le_refl _)),by rw[e1.1,e1.2];exact h2.up (by omega) (by omega)⟩
  | don=>
   obtain⟨x,rfl⟩:=nx
   rw[De] at I
   obtain⟨s,ss,e,es,q1,_,_,_⟩:=I.al.top
   have e1:(q2 ls (i+1)).f=up (up (q2 ls i).f (.frm,(i:Nat)) s) (.don,(s:Nat)) i∧(q2 ls (i+1)).s=ss:=by rw[Zo hl1];unfold q2s;dsimp only;rw[q1];exact⟨rfl,rfl⟩
   have hrv:intD (q2 ls i).s.reverse=intD ss.reverse++[.int (s:Nat)]:=by rw[q1,Kg];unfold intD;rw[Ao];rfl
   have hla:atI (intD (q2 ls i).s.reverse) (-1)=some (.int (s:Nat)):=by rw[hrv];exact S9 _ _
   have sl2:ss.length≤500:=by have:=h.l;rw[q1,Ar] at this;omega
   obtain⟨kvs,p1,p2,h1⟩:=h.put (.frm,(i:Nat)) s (by omega)
   have h2:=h1.stk ss sl2
   obtain⟨kvs',p1',p2',h3⟩:=h2.put (.don,(s:Nat)) i (by omega)
   simp only[Ln.beg,Ln.d]
   walk_at "ev"
   delta Yz
   walk_at "ev"
   delta We
   walk_at "ev"
   refine Wo (Z1 h.w) hla ⟨Z0 (by decide),.inr (.inr ⟨kvs,lbk (.frm,(i:Nat)),p1,rfl,p2,Z7 (Z1 h1.w),_,.int (s:Nat),h1.w,by rw[hrv];simp,Z0 (by decide),.inr (.inr ⟨kvs',lbk (.don,(s:Nat)),?_,rfl,p2',?_⟩)⟩)⟩
   ·rw[hrv,Mc];exact p1'
   ·rw[hrv,Mc]
    exact hP _ _ ⟨_,_,rfl,((k.set (.inr (Nat.le_refl _))).set (.inr (by omega))).set (.inr (Nat.le_refl _)),by rw[e1.1,e1.2];exact h3.up (by omega) (by omega)⟩
  | sum x a s b=>
   simp only[Ln.beg]
   walk_at "ev"
   exact fin _ _ (by simp) (by simp) k (by rw[Zo hl1];exact h.up (by omega) (by omega))
  | _=>
   simp only[Ln.beg]
   walk_at "ev"
   exact fin _ _ (by simp) (by simp) k (by rw[Zo hl1];exact h.up (by omega) (by omega))
 ·rintro σ M' ⟨d3,d4,rfl,k,h⟩
  delta Qt
  walk_at "ev"
  obtain⟨kvs,h1,h2,_⟩:=h.p
  exact q kvs _ _ k h1 h2
end
open LN CY
theorem Zq2{m:Nat}{ls:List Ln}(g:Gd m ls){p:Nat}{l:Ln}(e:ls[p]?=some l)(hs:stop l=false):∃q,NX ls p=some q∧q≤ls.length:=by
 have hp:=(Ac.mp e).1
 have key:∀q,nx1 ls (FF ls) p l=some q→q≤ls.length→∃q,NX ls p=some q∧q≤ls.length:=fun q h1 h2=>⟨q,by unfold NX;rw[e];dsimp only;rw[hs];exact h1,h2⟩
 cases l with
 | els=>
  obtain⟨s,⟨a,x,b,hc⟩,_,f1,_⟩:=El g e
  obtain⟨j,j1,_,C⟩:=Wq g hc rfl
  exact key (j+1) (by show(FF ls _).bind _=_;rw[f1];show(FF ls _).map _=_;rw[C.2.1];rfl) (by omega)
 | don=>
  obtain⟨s,_,_,_,C⟩:=So g e
  have:=C.1
  refine key _ (show(FF ls _).map _=_ by rw[C.2.2.1];rfl) ?_
  dsimp only
  split<;>omega
 | lve n=>
  obtain⟨s,c,hc,_⟩:=Wg (b:=false) (n:=n) g e fun ss z=>z.imp id fun z=>⟨rfl,z⟩
  obtain⟨j,j1,_,C⟩:=Wq g hc (by cases c<;>rfl)
  exact key (j+1) (by show(FF ls _).bind _=_;rw[(Yo g c hc).1];show(FF ls _).map _=_;rw[C.2.1];rfl) (by omega)
 | agn n=>
  obtain⟨s,c,hc,_⟩:=Wg (b:=true) (n:=n) g e fun ss z=> .inl z
  have:=(Ac.mp hc).1
  exact key (s+1) (by show(FF ls _).map _=_;rw[(Yo g c hc).1];rfl) (by omega)
 | rnd n=>exact key (p+1) rfl (by omega)
 | prt n=>exact key (p+1) rfl (by omega)
 | _=>cases hs
theorem Zk2{ls:List Ln}{p q:Nat}(h:NX ls p=some q):∃l,ls[p]?=some l∧stop l=false∧nx1 ls (FF ls) p l=some q:=by
 unfold NX at h
 cases e:ls[p]? with
 | none=>rw[e] at h;cases h
 | some l=>
  rw[e] at h
  dsimp only at h
  cases hs:stop l with
  | true=>rw[hs,if_pos rfl] at h;cases h
  | false=>rw[hs,if_neg Bf9] at h;exact⟨l,rfl,hs,h⟩
structure Mks(ls:List Ln)(r mr:Nat)(M:Z2):Prop where
 g:Gd 89 ls
 l:ls.length≤400
 r:Zc M r=some (ls.map Ln.d)
 p:∃kvs,Zq M mr=some kvs∧PM kvs (FF ls)
theorem Mks.ks{ls:List Ln}{r mr:Nat}{M M':Z2}(h:Mks ls r mr M)(k:Kp M M'):Mks ls r mr M':=by
 obtain⟨kvs,h1,h2⟩:=h.p
 exact⟨h.g,h.l,k.pL h.r,kvs,k.P (fun z=>z) h1,h2⟩
theorem Mks.ix{ls:List Ln}{r mr:Nat}{M:Z2}(h:Mks ls r mr M){a:Lb}{v:Nat}(e:FF ls a=some v){F:D→Prop}(q:F (.int (v:Nat))):ixD M (.ref mr) (lbd a) F:=by
 obtain⟨kvs,h1,h2⟩:=h.p
 exact ix_p (ks:=lbk a) h1 (by rw[h2 a,e];rfl) q
theorem Mks.at{ls:List Ln}{r mr:Nat}{M:Z2}(h:Mks ls r mr M){p:Nat}{l:Ln}(e:ls[p]?=some l){F:D→Prop}(q:F l.d):ixD M (.ref r) (.int (p:Nat)) F:=ix_l (k:=p) h.r (by rw[Ai,e];rfl) q
noncomputable def wd:Ln→Str
 | .cond _ _ _=>"if" | .sum _ _ _ _=>"sum" | .rnd _=>"round" | .prt _=>"part" | .lve _=>"leave" | .agn _=>"again" | .els=>"else" | .don=>"done" | .fin=>"end"
theorem Vz{l:Ln}{M:Z2}{F:D→Prop}(q:F (.str (wd l))):ixD M l.d (.int 0) F:=by cases l<;>exact⟨_,ati0,q⟩
theorem Za9(l:Ln):decide (wd l="round")=isR (some l):=by cases l<;>first | exact decide_eq_true rfl | exact decide_eq_false (by simp only[wd];decide+kernel)
def Za3:DSp:=fun ds M Q _=>∃(ls:List Ln) (r mr p q:Nat),ds=[.ref r,.ref mr,.int (p:Nat)]∧Mks ls r mr M∧NX ls p=some q∧Q (.int (q:Nat)) M
noncomputable def noP(ls:List Ln)(p:Nat):Nat:=match FF ls (.els,(p:Nat)) with
 | some e=>e+1
 | none=>(FF ls (.don,(p:Nat))).getD 0+1
def spNo:DSp:=fun ds M Q _=>∃(ls:List Ln) (r mr p:Nat),ds=[.ref r,.ref mr,.int (p:Nat)]∧Mks ls r mr M∧isC ls p∧Q (.int (noP ls p:Nat)) M
section
variable{K:Af}{Γ:List DSp}{G:List D}
theorem Zv5:Rd K Γ G Za3 Z22 Z05:=by
 rintro ds M Q Z ⟨ls,r,mr,p,q,rfl,h,hq,qq⟩
 obtain⟨l,e,hs,hn⟩:=Zk2 hq
 have sum1:∀s:Nat,((s:Nat):Int)+1=((s+1:Nat):Int):=fun s=>by omega
 delta Z22 Z05
 walk_at "ev"
 refine h.at e ?_
 cases l with
 | els=>
  obtain⟨s,⟨a,x,b,hc⟩,_,f1,_⟩:=El h.g e
  obtain⟨j,j1,_,C⟩:=Wq h.g hc rfl
  change (FF ls _).bind _=_ at hn
  rw[f1] at hn
  change (FF ls (.don,(s:Nat))).map _=_ at hn
  rw[C.2.1] at hn
  cases hn
  simp only[Ln.d]
  walk_at "ev"
  refine⟨Z0 (by decide),h.ix (a:=(.frm,(p:Nat))) f1 ⟨Z0 (by decide),h.ix (a:=(.don,(s:Nat))) C.2.1 ?_⟩⟩
  try walk_at "ev"
  rw[sum1]
  exact qq
 | don=>
  obtain⟨s,l',hl',_,C⟩:=So h.g e
  change (FF ls _).map _=_ at hn
  rw[C.2.2.1] at hn
  change some (if isR ls[s]? then s+1 else p+1)=some q at hn
  rw[hl',←Za9] at hn
  simp only[Ln.d]
  walk_at "ev"
  delta X3
  walk_at "ev"
  refine⟨Z0 (by decide),h.ix (a:=(.frm,(p:Nat))) C.2.2.1 (h.at hl' (Vz ?_))⟩
  try walk_at "ev"
  by_cases hw:wd l'="round"
  ·rw[decide_eq_true hw] at hn
   cases hn
   rw[if_pos hw]
   refine⟨Z0 (by decide),h.ix (a:=(.frm,(p:Nat))) C.2.2.1 ?_⟩
   try walk_at "ev"
   rw[sum1]
   exact qq
  ·rw[decide_eq_false hw] at hn
   cases hn
   rw[if_neg hw]
   delta X0
   walk_at "ev"
   delta Xs
   walk_at "ev"
   delta V4
   walk_at "ev"
   rw[sum1]
   exact qq
 | lve n=>
  obtain⟨s,c,hc,_⟩:=Wg (b:=false) (n:=n) h.g e fun ss z=>z.imp id fun z=>⟨rfl,z⟩
  obtain⟨j,j1,_,C⟩:=Wq h.g hc (by cases c<;>rfl)
  change (FF ls (.hom,n)).bind _=_ at hn
  rw[(Yo h.g c hc).1] at hn
  change (FF ls (.don,(s:Nat))).map _=_ at hn
  rw[C.2.1] at hn
  cases hn
  simp only[Ln.d]
  walk_at "ev"
  delta X3
  walk_at "ev"
  delta X0
  walk_at "ev"
  refine⟨Z0 (by decide),h.ix (a:=(.hom,n)) (Yo h.g c hc).1 ⟨Z0 (by decide),h.ix (a:=(.don,(s:Nat))) C.2.1 ?_⟩⟩
  try walk_at "ev"
  rw[sum1]
  exact qq
 | agn n=>
  obtain⟨s,c,hc,_⟩:=Wg (b:=true) (n:=n) h.g e fun ss z=> .inl z
  change (FF ls (.hom,n)).map _=_ at hn
  rw[(Yo h.g c hc).1] at hn
  cases hn
  simp only[Ln.d]
  walk_at "ev"
  delta X3
  walk_at "ev"
  delta X0
  walk_at "ev"
  delta Xs
  walk_at "ev"
  refine⟨Z0 (by decide),h.ix (a:=(.hom,n)) (Yo h.g c hc).1 ?_⟩
  try walk_at "ev"
  rw[sum1]
  exact qq
 | rnd n=>
  cases hn
  simp only[Ln.d]
  walk_at "ev"
  delta X3
  walk_at "ev"
  delta X0
  walk_at "ev"
  delta Xs
  walk_at "ev"
  delta V4
  walk_at "ev"
  rw[sum1]
  exact qq
 | prt n=>
  cases hn
  simp only[Ln.d]
  walk_at "ev"
  delta X3
  walk_at "ev"
  delta X0
  walk_at "ev"
  delta Xs
  walk_at "ev"
  delta V4
  walk_at "ev"
  rw[sum1]
  exact qq
 | _=>cases hs
theorem Ya8:Rd K Γ G spNo Y38 Y81:=by
 rintro ds M Q Z ⟨ls,r,mr,p,rfl,h,⟨a,x,b,hc⟩,q⟩
 obtain⟨j,j1,_,C⟩:=Wq h.g hc rfl
 obtain⟨kvs,h1,h2⟩:=h.p
 have sum1:∀s:Nat,((s:Nat):Int)+1=((s+1:Nat):Int):=fun s=>by omega
 delta Y38 Y81
 walk_at "ev"
 refine⟨Z0 (by decide),.inr (.inr (.inr ⟨kvs,lbk (.els,(p:Nat)),rfl,h1,?_⟩))⟩
 rw[h2 (.els,(p:Nat))]
 unfold noP at q
 cases he:FF ls (.els,(p:Nat)) with
 | some e=>
  rw[he] at q
  rw[if_pos (show(Option.map _ (some e)).isSome=true from rfl)]
  refine⟨Z0 (by decide),h.ix (a:=(.els,(p:Nat))) he ?_⟩
  try walk_at "ev"
  rw[sum1]
  exact q
 | none=>
  rw[he,C.2.1] at q
  rw[if_neg (by simp)]
  delta Z21
  walk_at "ev"
  refine⟨Z0 (by decide),h.ix (a:=(.don,(p:Nat))) C.2.1 ?_⟩
  try walk_at "ev"
  rw[sum1]
  exact q
end
open LN CY
def Gp:DSp:=fun ds M Q _=>∃(ls:List Ln) (r mr p:Nat),ds=[.ref r,.ref mr,.int (p:Nat)]∧Mks ls r mr M∧p≤ls.length∧∀v M',RC (NX ls) p v→Kp M M'→Q (.int v) M'
noncomputable abbrev s3:List D:=[.str "sum",.str "if",.str "end"]
theorem Gc(l:Ln):inD (.str (wd l)) s3=stop l:=by cases l<;>simp only[wd,stop]<;>decide+kernel
theorem Z40(a b:Nat):(if ((b:Nat):Int)< ((a:Nat):Int) then((b:Nat):Int) else((a:Nat):Int))=((min a b:Nat):Int):=by
 split<;>omega
section
variable{K:Af}{Γ:List DSp}{G:List D}
theorem Zf3(gn:Γ[24]?=some Za3):Rd K Γ G Gp Eh E8:=by
 rintro ds M Q Z ⟨ls,r,mr,p,rfl,h,hp,q⟩
 delta Eh E8
 walk_at "ev"
 refine Zb h.r ?_
 walk_at "ev"
 have hl:=h.l
 refine⟨by rw[Ab];omega,by rw[Ab];omega,?_⟩
 have e1:(((ls.map Ln.d).length:Int)+1).toNat=ls.length+1:=by rw[Ab];omega
 rw[e1]
 refine Yu (fun i σ M'=>∃(d3:Option D) (x:Nat),σ=[some (.ref r),some (.ref mr),some (.int (x:Nat)),d3,none,none]∧Kp M M'∧it (NX ls) i p=some x∧x≤ls.length) ⟨none,p,rfl,Ks.refl _,rfl,hp⟩ ?_ ?_
 ·rintro i σ M' P hi ⟨d3,x,rfl,k,hit,hx⟩ hP
  rw[tg_one]
  delta Pe
  walk_at "ev"
  refine Zb (k.pL h.r) ?_
  walk_at "ev"
  have h':=h.ks k
  rw[Ab]
  by_cases hxn:x=ls.length
  ·rw[if_neg (fun z=>z (by omega)),if_pos (by omega)]
   refine q x _ (.inl ⟨x,rfl,Wy hit,?_⟩) k
   unfold NX
   rw[Hn (by omega)]
  ·rw[if_pos (fun z=>hxn (by omega))]
   have hlt:x<ls.length:=by omega
   have he:ls[x]?=some ls[x]:=Ag hlt
   refine h'.at he (Vz ⟨Z0 (by decide),.inl ⟨s3,Zd _ _ [],rfl,rfl,?_⟩⟩)
   rw[Gc]
   dsimp only
   have kl:Kp M' (M'++[.lst s3]):=Ks.new _ _
   cases hs:stop ls[x] with
   | true=>
    rw[if_pos rfl]
    refine q x _ (.inl ⟨x,rfl,Wy hit,?_⟩) (k.trans kl)
    unfold NX
    rw[he]
    dsimp only
    rw[hs]
    rfl
   | false=>
    rw[if_neg Bf9]
    obtain⟨y,hy,hyl⟩:=Zq2 h.g he hs
    delta Ph
    walk_at "ev"
    simp only[gn]
    refine⟨ls,r,mr,x,y,rfl,h'.ks kl,hy,?_⟩
    try walk_at "ev"
    refine hP _ _ ⟨_,y,rfl,k.trans kl,?_,hyl⟩
    rw[Yk,hit]
    show(NX ls x).bind _=_
    rw[hy]
    rfl
 ·rintro σ M' ⟨d3,x,rfl,k,hit,hx⟩
  obtain⟨d,hd,hc⟩:=Zm7 (fun p q z=>by obtain⟨l,e,_⟩:=Zk2 z;exact(Ac.mp e).1) hit
  have h':=h.ks k
  obtain⟨y,hy⟩:∃y,NX ls x=some y:=by
   cases e:NX ls x with
   | none=>exact absurd e (Cyc.goes ⟨d,hd,hc⟩)
   | some y=>exact⟨y,rfl⟩
  delta Qf
  generalize hw:S.while_ _ _=w
  walk_at "ev"
  simp only[gn]
  refine⟨ls,r,mr,x,y,rfl,h',hy,?_⟩
  try walk_at "ev"
  subst hw
  refine⟨fun m σ M2=>∃(k2 l hh:Nat),σ=[some (.ref r),some (.ref mr),some (.int (x:Nat)),d3,some (.int (l:Nat)),some (.int (hh:Nat))]∧M2=M'∧Lw (NX ls) x k2 l hh∧k2+m=d,⟨d - 1,1,x,y,rfl,rfl,Lw.zero hy,by omega⟩,?_⟩
  rintro m σ M2 ⟨k2,l,hh,rfl,rfl,lw,hm⟩
  try walk_at "ev"
  by_cases hx2:hh=x
  ·subst hx2
   rw[if_neg (fun z=>z rfl)]
   delta Pg
   walk_at "ev"
   exact q _ _ (RC.of_lw (Wy hit) lw) k
  ·rw[if_pos (fun z=>hx2 (by omega))]
   obtain⟨h2,e2⟩:=Cyc.next hc hd lw
   delta Qd
   walk_at "ev"
   simp only[gn]
   refine⟨ls,r,mr,hh,h2,rfl,h',e2,?_⟩
   try walk_at "ev"
   have hm0:0<m:=by
    rcases Nat.eq_zero_or_pos m with rfl | z
    ·have e3:=lw.2.1
     rw[Nat.add_zero] at hm
     rw[hm,hc] at e3
     exact absurd (Aw e3).symm hx2
    ·exact z
   exact⟨m - 1,by omega,k2+1,min l hh,h2,by rw[Z40],lw.step e2,by omega⟩
end
noncomputable def Raw.wd:Raw→Str
 | .sum _ _ _ _=>"sum" | .test _ _ _ _=>"test" | .jump _=>"jump" | .fin=>"end"
noncomputable def Raw.isJ:Raw→Bool
 | .jump _=>true
 | _=>false
theorem Raw.wd_j(r:Raw):r.wd="jump"↔r.isJ=true:=by cases r<;>simp only[Raw.wd,Raw.isJ]<;>decide+kernel
structure Rs(raws:List Raw)(r:Nat)(M:Z2):Prop where
 r:Z4 M r=some ((Yd raws).map Rw.d)
 l:raws.length≤2000
 j:∀(p t:Nat),raws[p]?=some (Raw.jump t)→t<raws.length
 t:∀(p:Nat) a s b (t:Nat),raws[p]?=some (Raw.test a s b t)→t<raws.length
theorem Rs.ks{raws:List Raw}{r:Nat}{M M':Z2}(h:Rs raws r M)(k:Kp M M'):Rs raws r M':=⟨k.pW h.r,h.l,h.j,h.t⟩
theorem Rs.at{raws:List Raw}{r:Nat}{M:Z2}(h:Rs raws r M){p:Nat}{x:Raw}(e:raws[p]?=some x){F:D→Prop}(q:F (.tup (.int (p:Nat)::x.l))):ixD M (.ref r) (.int (p:Nat)) F:=ix_l (k:=p) (Z1 h.r) (by rw[Ai,Xm e];exact congrArg some (Raw.rw_d p x)) q
theorem Raw.at1{x:Raw}{i:D}{M:Z2}{F:D→Prop}(q:F (.str x.wd)):ixD M (.tup (i::x.l)) (.int 1) F:=by cases x<;>exact⟨_,ati1,q⟩
def Nm:DSp:=fun ds M Q _=>∃(raws:List Raw) (r p:Nat),ds=[.ref r,.int (p:Nat)]∧Rs raws r M∧p<raws.length∧∀v,RC (JR raws) p v→Q (.int v) M
theorem Zt9{raws:List Raw}{p q:Nat}(h:JR raws p=some q):raws[p]?=some (.jump q):=by
 unfold JR at h
 split at h
 ·cases h;assumption
 ·cases h
section
variable{K:Af}{Γ:List DSp}{G:List D}
theorem G2:Rd K Γ G Nm Se Si:=by
 rintro ds M Q Z ⟨raws,r,p,rfl,h,hp,q⟩
 have hl:=h.l
 have rl:((Yd raws).map Rw.d).length=raws.length:=by rw[Ab,Y7]
 have nxt:∀{x t:Nat} {F:D→Prop},JR raws x=some t→F (.int (t:Nat))→ixD M (.ref r) (.int (x:Nat)) fun d=>ixD M d (.int 2) F:=fun e f=>h.at (Zt9 e) ⟨_,ati2,f⟩
 delta Se Si
 walk_at "ev"
 refine Zb (Z1 h.r) ?_
 walk_at "ev"
 refine⟨by rw[rl];omega,by rw[rl];omega,?_⟩
 have e1:((((Yd raws).map Rw.d).length:Int)+1).toNat=raws.length+1:=by rw[rl];omega
 rw[e1]
 refine Yu (fun i σ M'=>∃(d3:Option D) (x:Nat),σ=[some (.ref r),some (.int (x:Nat)),d3,none,none]∧M'=M∧it (JR raws) i p=some x∧x<raws.length) ⟨none,p,rfl,rfl,rfl,hp⟩ ?_ ?_
 ·rintro i σ M' P hi ⟨d3,x,rfl,rfl,hit,hx⟩ hP
  rw[tg_one]
  have he:raws[x]?=some raws[x]:=Ag hx
  delta Wu
  walk_at "ev"
  refine h.at he (Raw.at1 ?_)
  try walk_at "ev"
  by_cases hj:raws[x].wd="jump"
  ·rw[if_neg (fun z=>z hj)]
   have hj2:=(Raw.wd_j _).mp hj
   obtain⟨t,ht⟩:∃t,raws[x]= .jump t:=by cases e:raws[x]<;>rw[e] at hj2<;>first | exact⟨_,rfl⟩ | cases hj2
   rw[ht] at he
   have hy:=JR_j he
   delta V6
   walk_at "ev"
   refine nxt hy ?_
   try walk_at "ev"
   refine hP _ _ ⟨_,t,rfl,rfl,?_,h.j x t he⟩
   rw[Yk,hit]
   show(JR raws x).bind _=_
   rw[hy]
   rfl
  ·rw[if_pos hj]
   refine q x (.inl ⟨x,rfl,Wy hit,?_⟩)
   unfold JR
   rw[he]
   cases e:raws[x] with
   | jump t=>rw[e] at hj;exact absurd rfl hj
   | _=>rfl
 ·rintro σ M' ⟨d3,x,rfl,rfl,hit,hx⟩
  obtain⟨d,hd,hc⟩:=Zm7 (fun p q z=>(Ac.mp (Zt9 z)).1) hit
  obtain⟨y,hy⟩:∃y,JR raws x=some y:=by
   cases e:JR raws x with
   | none=>exact absurd e (Cyc.goes ⟨d,hd,hc⟩)
   | some y=>exact⟨y,rfl⟩
  delta Ve
  generalize hw:S.while_ _ _=w
  walk_at "ev"
  refine nxt hy ?_
  try walk_at "ev"
  subst hw
  refine⟨fun m σ M2=>∃(k2 l hh:Nat),σ=[some (.ref r),some (.int (x:Nat)),d3,some (.int (l:Nat)),some (.int (hh:Nat))]∧M2=M'∧Lw (JR raws) x k2 l hh∧k2+m=d,⟨d - 1,1,x,y,rfl,rfl,Lw.zero hy,by omega⟩,?_⟩
  rintro m σ M2 ⟨k2,l,hh,rfl,rfl,lw,hm⟩
  try walk_at "ev"
  by_cases hx2:hh=x
  ·subst hx2
   rw[if_neg (fun z=>z rfl)]
   delta Vf
   walk_at "ev"
   exact q _ (RC.of_lw (Wy hit) lw)
  ·rw[if_pos (fun z=>hx2 (by omega))]
   obtain⟨h2,e2⟩:=Cyc.next hc hd lw
   delta V2
   walk_at "ev"
   refine nxt e2 ?_
   try walk_at "ev"
   have hm0:0<m:=by
    rcases Nat.eq_zero_or_pos m with rfl | z
    ·have e3:=lw.2.1
     rw[Nat.add_zero] at hm
     rw[hm,hc] at e3
     exact absurd (Aw e3).symm hx2
    ·exact z
   exact⟨m - 1,by omega,k2+1,min l hh,h2,by rw[Z40],lw.step e2,by omega⟩
end
open LN CY
theorem To{f:Lb→Option Nat}{a:Lb}{v n:Nat}(h:∀b w,f b=some w→w≤n)(hv:v≤n):∀b w,up f a v b=some w→w≤n:=by
 intro b w e
 unfold up at e
 split at e
 ·cases e;exact hv
 ·exact h b w e
theorem Zw4{f:Lb→Option Nat}{a:Lb}{v n:Nat}(h:∀b w,f b=some w→w≤n)(hv:v≤n):∀b w,up0 f a v b=some w→w≤n:=by
 unfold up0
 split
 ·exact h
 ·exact To h hv
theorem Zu9{c c':CS}{l:Ln}(h:cst c l=some c')(hv:∀b w,c.f b=some w→w≤c.t.length):∀b w,c'.f b=some w→w≤c'.t.length:=by
 have mo:∀{m},c.t.length≤m→∀b w,c.f b=some w→w≤m:=fun hm b w e=>Nat.le_trans (hv b w e) hm
 cases l with
 | cond a s b=>cases h;dsimp only;rw[Ae,Ae];exact To (mo (by simp only[Aj];omega)) (by simp)
 | rnd n=>cases h;exact To hv (Nat.le_refl _)
 | prt n=>cases h;exact To hv (Nat.le_refl _)
 | els=>
  obtain⟨t,f,o⟩:=c
  cases o with
  | nil=>cases h
  | cons e r=>
   cases e with
   | cho n=>cases h;dsimp only;rw[Ae];exact To (mo (by simp)) (by simp)
   | home b n=>cases h
 | don=>
  obtain⟨t,f,o⟩:=c
  cases o with
  | nil=>cases h
  | cons e r=>
   cases e with
   | cho n=>cases h;exact To (Zw4 hv (Nat.le_refl _)) (Nat.le_refl _)
   | home b n=>
    cases b with
    | true=>cases h;dsimp only;rw[Ae];exact To (mo (by simp)) (by simp)
    | false=>cases h;exact To hv (Nat.le_refl _)
 | _=>cases h;dsimp only;rw[Ae];exact mo (by simp)
theorem Zm5(ls:List Ln):∀k,∀b w,(q2 ls k).c.f b=some w→w≤ph ls k
 | 0,b,w,h=>by cases h
 | k+1,b,w,h=>by
  have ih:=Zm5 ls k
  cases e:ls[k]? with
  | none=>rw[J2 (Hk.mp e)] at h;unfold ph;rw[J2 (Hk.mp e)];exact ih b w h
  | some l=>
   unfold ph
   rw[Zo e] at h ⊢
   unfold q2s at h ⊢
   dsimp only at h ⊢
   split at h
   ·rw[if_pos (by assumption)];exact ih b w h
   ·rw[if_neg (by assumption)]
    cases hc:cst (q2 ls k).c l with
    | none=>rw[hc] at h;exact ih b w h
    | some c'=>rw[hc] at h;exact Zu9 hc ih b w h
structure Ad(ls:List Ln)(k:Nat)(l:Ln)(ps:List Pr):Prop where
 e:(q2 ls (k+1)).c.t=(q2 ls k).c.t++ps
 r:∀p∈ps,(res (GF ls) p).isSome=true
 s:(stop l=false∧(ps=[]∨∃a,ps=[.jump a]))∨(∃x a s b,l= .sum x a s b∧ps=[.sum x a s b])∨(l= .fin∧ps=[.fin])∨∃a s b,l= .cond a s b∧ps=[.test a s b (.yes,(ph ls k:Nat)),.jump (.no,(ph ls k:Nat))]
theorem Zz5{m:Nat}{ls:List Ln}(g:Gd m ls){k:Nat}{l:Ln}(h:ls[k]?=some l):∃ps,Ad ls k l ps:=by
 have hk:=(Ac.mp h).1
 have js:∀{a v},GF ls a=some v→∀p∈[Pr.jump a],(res (GF ls) p).isSome=true:=fun e p hp=>by rw[Am.mp hp];show((GF ls _).map _).isSome=true;rw[e];rfl
 have no:∀p∈([]:List Pr),(res (GF ls) p).isSome=true:=fun p hp=>by cases hp
 cases l with
 | sum x a s b=>exact⟨[.sum x a s b],by rw[Zo h];rfl,fun p hp=>by rw[Am.mp hp];rfl,.inr (.inl ⟨_,_,_,_,rfl,rfl⟩)⟩
 | fin=>exact⟨[.fin],by rw[Zo h];rfl,fun p hp=>by rw[Am.mp hp];rfl,.inr (.inr (.inl ⟨rfl,rfl⟩))⟩
 | rnd n=>exact⟨[],by rw[Zo h,Dg];rfl,no,.inl ⟨rfl,.inl rfl⟩⟩
 | prt n=>exact⟨[],by rw[Zo h,Dg];rfl,no,.inl ⟨rfl,.inl rfl⟩⟩
 | cond a s b=>
  obtain⟨j,_,_,C⟩:=Wq g h rfl
  obtain⟨_,_,_,hy⟩:=Ft g h
  have hn:∃v,GF ls (.no,(ph ls k:Nat))=some v:=by
   rcases C.2.2.2 with⟨c,n,d,_⟩ | ⟨_,_,_,⟨_,d⟩ | ⟨e,_,d⟩⟩
   ·rw[h] at d;cases c<;>cases d
   ·exact⟨_,d⟩
   ·exact⟨_,d⟩
  obtain⟨v,hn⟩:=hn
  refine⟨[.test a s b (.yes,(ph ls k:Nat)),.jump (.no,(ph ls k:Nat))],?_,fun p hp=>?_,.inr (.inr (.inr ⟨_,_,_,rfl,rfl⟩))⟩
  ·rw[Zo h]
   show(q2 ls k).c.t++[_]++[_]=_
   rw[Bs]
   rfl
  ·rcases Aq.mp hp with rfl | hp
   ·show((GF ls _).map _).isSome=true;rw[hy];rfl
   ·exact js hn p hp
 | els=>
  obtain⟨ss,s1,I,nx,_,_,_⟩:=goL g h
  obtain⟨tl,n,rfl,rfl⟩:=nx
  rw[De] at I
  obtain⟨_,_,s,e1,⟨a,x,b,hc⟩,e3,e4,e5⟩:=I.els h
  obtain⟨j,_,_,C⟩:=Wq g hc rfl
  rcases e5 with⟨_,e5⟩ | e5
  ·obtain⟨y,hy⟩:=Gu ls k
   have hy0:y=[]:=by
    have:=congrArg Mi hy
    rw[Ae] at this
    unfold ph at e5
    exact List.eq_nil_of_length_eq_zero (by omega)
   exact⟨[],by rw[←hy,hy0],no,.inl ⟨rfl,.inl rfl⟩⟩
  ·have hb:∃v,GF ls (.beh,(ph ls s:Nat))=some v:=by
    rcases C.2.2.2 with⟨c,n,d,_⟩ | ⟨_,_,d,_⟩
    ·rw[hc] at d;cases c<;>cases d
    ·exact⟨_,d⟩
   obtain⟨v,hb⟩:=hb
   exact⟨_,e5,js hb,.inl ⟨rfl,.inr ⟨_,rfl⟩⟩⟩
 | don=>
  obtain⟨s,l',hl',_,C⟩:=So g h
  have nil:ph ls (k+1)=ph ls k→∃ps,Ad ls k .don ps:=by
   intro e5
   obtain⟨y,hy⟩:=Gu ls k
   have hy0:y=[]:=by
    have:=congrArg Mi hy
    rw[Ae] at this
    unfold ph at e5
    exact List.eq_nil_of_length_eq_zero (by omega)
   exact⟨[],by rw[←hy,hy0],no,.inl ⟨rfl,.inl rfl⟩⟩
  rcases C.2.2.2 with⟨c,n,d1,d2,d3,d4⟩ | ⟨_,d2,_⟩
  ·cases c with
   | true=>exact⟨_,d4,js (Yo g true d1).2.1,.inl ⟨rfl,.inr ⟨_,rfl⟩⟩⟩
   | false=>exact nil d4
  ·exact nil d2
 | lve n=>
  obtain⟨s,c,hc,_⟩:=Wg (b:=false) (n:=n) g h fun ss z=>z.imp id fun z=>⟨rfl,z⟩
  obtain⟨j,_,_,C⟩:=Wq g hc (by cases c<;>rfl)
  have hb:∃v,GF ls (.lve,n)=some v:=by
   rcases C.2.2.2 with⟨c',n',d1,_,d3,_⟩ | ⟨⟨a,x,b,d1⟩,_⟩
   ·rw[hc] at d1;cases c<;>cases c'<;>cases d1<;>exact⟨_,d3⟩
   ·rw[hc] at d1;cases c<;>cases d1
  obtain⟨v,hb⟩:=hb
  exact⟨[.jump (.lve,n)],by rw[Zo h];rfl,js hb,.inl ⟨rfl,.inr ⟨_,rfl⟩⟩⟩
 | agn n=>
  obtain⟨s,c,hc,_⟩:=Wg (b:=true) (n:=n) g h fun ss z=> .inl z
  exact⟨[.jump (.agn,n)],by rw[Zo h];rfl,js (Yo g c hc).2.1,.inl ⟨rfl,.inr ⟨_,rfl⟩⟩⟩
theorem Z38{ls:List Ln}{k:Nat}{l:Ln}(h:ls[k]?=some l):ls.take (k+1)=ls.take k++[l]:=Zn h
noncomputable def dD:Pr→Option D
 | .sum x a s b=>some (Ln.sum x a s b).d
 | .test a s b _=>some (Ln.cond a s b).d
 | .fin=>some Ln.fin.d
 | .jump _=>none
noncomputable def pJ:Pr→Bool
 | .jump _=>true
 | _=>false
section
variable{ls:List Ln}{m:Nat}
theorem Z15(g:Gd m ls):∀k,k≤ls.length→(∀p∈(q2 ls k).c.t,(res (GF ls) p).isSome=true)∧(q2 ls k).c.t.filterMap dD=((ls.take k).filter stop).map Ln.d
 | 0,_=>⟨fun p hp=>(by cases hp),rfl⟩
 | k+1,hk=>by
  obtain⟨h1,h2⟩:=Z15 g k (by omega)
  have h:ls[k]?=some ls[k]:=Ag (by omega)
  obtain⟨ps,A⟩:=Zz5 g h
  rw[A.e,Z38 h,List.filterMap_append,Dh,Ao,h2]
  refine⟨fun p hp=>(Az.mp hp).elim (h1 p) (A.r p),?_⟩
  congr 1
  rcases A.s with⟨s1,rfl | ⟨a,rfl⟩⟩ | ⟨x,a,s,b,e,rfl⟩ | ⟨e,rfl⟩ | ⟨a,s,b,e,rfl⟩
  ·rw[Dl (by rw[s1];exact Bf9)];rfl
  ·rw[Dl (by rw[s1];exact Bf9)];rfl
  ·rw[e];rfl
  ·rw[e];rfl
  ·rw[e];rfl
theorem En{α β:Type}{f:α→Option β}:∀{l:List α},(∀p∈l,(f p).isSome=true)→∃rs:List β,l.map f=rs.map some
 | [],_=>⟨[],rfl⟩
 | a::l,h=>by
  obtain⟨rs,e⟩:=En fun p hp=>h p (Bk _ hp)
  have:=h a Dm
  cases e2:f a with
  | none=>rw[e2] at this;cases this
  | some b=>exact⟨b::rs,by rw[Dd,e2,e];rfl⟩
theorem Y10(g:Gd m ls):∃raws,Rws ls raws:=by
 obtain⟨h,_⟩:=Z15 g ls.length (Nat.le_refl _)
 refine En fun p hp=>?_
 rcases Az.mp hp with hp | hp
 ·exact h p hp
 ·rw[Am.mp hp];rfl
theorem Z62{f:Lb→Option Nat}{p:Pr}{r:Raw}(h:res f p=some r):r.isJ=pJ p∧(∀t,r= .jump t→∃a,f a=some t)∧∀a s b t,r= .test a s b t→∃a,f a=some t:=by
 cases p with
 | sum x a s b=>cases h;exact⟨rfl,fun t z=>(by cases z),fun _ _ _ _ z=>(by cases z)⟩
 | fin=>cases h;exact⟨rfl,fun t z=>(by cases z),fun _ _ _ _ z=>(by cases z)⟩
 | test a s b l=>
  obtain⟨v,h1,rfl⟩:=Ch.mp (show(f l).map _=some r from h)
  exact⟨rfl,fun t z=>(by cases z),fun _ _ _ _ z=>by cases z;exact⟨l,h1⟩⟩
 | jump l=>
  obtain⟨v,h1,rfl⟩:=Ch.mp (show(f l).map _=some r from h)
  exact⟨rfl,fun t z=>(by cases z;exact⟨l,h1⟩),fun _ _ _ _ z=>by cases z⟩
variable{raws:List Raw}
theorem Rws.get(h:Rws ls raws){i:Nat}{r:Raw}(e:raws[i]?=some r):∃p,(TT ls++[Pr.fin])[i]?=some p∧res (GF ls) p=some r:=by
 have:=congrArg (fun l=>l[i]?) h
 try dsimp only at this
 rw[Ai,Ai,e] at this
 cases e2:(TT ls++[Pr.fin])[i]? with
 | none=>rw[e2] at this;cases this
 | some p=>rw[e2] at this;exact⟨p,rfl,Aw this⟩
theorem Rws.lt(h:Rws ls raws){a:Lb}{t:Nat}(e:GF ls a=some t):t<raws.length:=by
 have:=Zm5 ls ls.length a t e
 rw[h.len]
 exact Nat.lt_succ_of_le this
theorem Rws.rs(h:Rws ls raws){r:Nat}{M:Z2}(hr:Z4 M r=some ((Yd raws).map Rw.d))(hl:raws.length≤2000):Rs raws r M:=
 ⟨hr,hl,fun p t e=>(by obtain⟨q,_,h2⟩:=h.get e;obtain⟨a,ha⟩:=(Z62 h2).2.1 t rfl;exact h.lt ha),fun p a s b t e=>by obtain⟨q,_,h2⟩:=h.get e;obtain⟨a,ha⟩:=(Z62 h2).2.2 _ _ _ _ rfl;exact h.lt ha⟩
end
open LN CY
noncomputable def stAt(ls:List Ln)(k:Nat):Bool:=match ls[k]? with
 | some l=>stop l
 | none=>true
noncomputable def njT(ts:List Pr)(p:Nat):Bool:=match ts[p]? with
 | some x=> !pJ x
 | none=>false
theorem Z71(n k:Nat):Ay (n+k)=Ay n++(Ay k).map (n+·):=List.range_add ..
section
variable{ls:List Ln}{m:Nat}
theorem Y74{ts ps:List Pr}{p:Nat}(h:p<ts.length):njT (ts++ps) p=njT ts p:=by unfold njT;rw[Dk h]
theorem Zp0(g:Gd m ls):∀k,k≤ls.length→(Ay (ph ls k)).filter (njT (q2 ls k).c.t)=((Ay k).filter (stAt ls)).map (ph ls)
 | 0,_=>rfl
 | k+1,hk=>by
  have ih:=Zp0 g k (by omega)
  have h:ls[k]?=some ls[k]:=Ag (by omega)
  obtain⟨ps,A⟩:=Zz5 g h
  have hph:ph ls (k+1)=ph ls k+ps.length:=by unfold ph;rw[A.e,Ae]
  have old:(Ay (ph ls k)).filter (njT (q2 ls (k+1)).c.t)=(Ay (ph ls k)).filter (njT (q2 ls k).c.t):=by
   refine List.filter_congr fun p hp=>?_
   rw[A.e,Y74 (Hx.mp hp)]
  have new:∀j,njT (q2 ls (k+1)).c.t (ph ls k+j)=match ps[j]? with | some x=> !pJ x | none=>false:=by
   intro j
   unfold njT ph
   rw[A.e,Dc (by omega),Nat.add_sub_cancel_left]
  have sk:stAt ls k=stop ls[k]:=by unfold stAt;rw[h]
  rw[hph,Z71,Dh,old,ih,Iq,Dh,Ao]
  congr 1
  have n0:=new 0
  rw[Nat.add_zero] at n0
  rcases A.s with⟨s1,rfl | ⟨a,rfl⟩⟩ | ⟨x,a,s,b,e,rfl⟩ | ⟨e,rfl⟩ | ⟨a,s,b,e,rfl⟩
  ·rw[Dl (by rw[sk,s1];exact Bf9)];rfl
  ·rw[Dl (by rw[sk,s1];exact Bf9)]
   show List.filter _ [ph ls k+0]=_
   rw[Nat.add_zero,Dl (by rw[n0];exact Bf9)]
   rfl
  ·rw[Dj (by rw[sk,e];rfl)]
   show List.filter _ [ph ls k+0]=_
   rw[Nat.add_zero,Dj (by rw[n0];rfl)]
   rfl
  ·rw[Dj (by rw[sk,e];rfl)]
   show List.filter _ [ph ls k+0]=_
   rw[Nat.add_zero,Dj (by rw[n0];rfl)]
   rfl
  ·rw[Dj (by rw[sk,e];rfl)]
   show List.filter _ [ph ls k+0,ph ls k+1]=_
   rw[Nat.add_zero,Dj (by rw[n0];rfl),Dl (by rw[new 1];exact Bf9)]
   rfl
noncomputable def njR(raws:List Raw)(p:Nat):Bool:=match raws[p]? with
 | some x=> !x.isJ
 | none=>false
noncomputable def Yx(ls:List Ln):List Nat:=(Ay ls.length).filter (stAt ls)++[ls.length]
theorem Zl5(g:Gd m ls){raws:List Raw}(hr:Rws ls raws):(Ay raws.length).filter (njR raws)=(Yx ls).map (ph ls):=by
 have h1:=Zp0 g ls.length (Nat.le_refl _)
 have hl:raws.length=ph ls ls.length+1:=hr.len
 rw[hl,Iq,Dh]
 unfold Yx
 rw[Ao,←h1]
 congr 1
 ·refine List.filter_congr fun p hp=>?_
  have hp':=Hx.mp hp
  have e:(TT ls)[p]?=some (TT ls)[p]:=Ag hp'
  obtain⟨r,h2,h3⟩:=hr.at e
  show njR raws p=njT (TT ls) p
  unfold njR njT
  rw[h2,e]
  dsimp only
  rw[(Z62 h3).1]
 ·rw[Dj (by unfold njR;rw[hr.end];rfl)]
  rfl
noncomputable def cnt:Ln→Bool
 | .els | .don=>false
 | _=>true
noncomputable def pot1(x:Tp×Int):Nat:=match x.1 with
 | .cif | .crd=>1
 | _=>0
noncomputable def pot:List (Tp×Int)→Nat
 | []=>0
 | x::xs=>pot1 x+pot xs
theorem Sf(a b:List (Tp×Int)):pot (a++b)=pot a+pot b:=by
 induction a with
 | nil=>show _=0+_;rw[Nat.zero_add];rfl
 | cons x a ih=>show pot1 x+pot (a++b)=pot1 x+pot a+_;rw[ih];omega
theorem Ya5{k:Nat}{x:Tp×Int}{xs:List (Tp×Int)}(I:I2 ls k (x::xs))(h:ls[k]?=some .don):ph ls (k+1)≤ph ls k+pot1 x:=by
 obtain⟨s,ss,e,es,q1,q3,F,al⟩:=I.al.top
 have ec:=(I.don h).2.1
 have hp:ph ls (k+1)=(q2 ls (k+1)).c.t.length:=rfl
 rcases F.2.2 with⟨b,rfl,b2,b3,b4,b5⟩ | ⟨rfl,hC,d3,d4⟩
 ·cases b with
  | true=>
   have:some (⟨(q2 ls k).c.t++[.jump (.agn,x.2)],up (q2 ls k).c.f (.lve,x.2) ((q2 ls k).c.t.length+1),es⟩:CS)=some (q2 ls (k+1)).c:=by rw[←ec];unfold cst;rw[q3]
   rw[hp,←Aw this]
   show((q2 ls k).c.t++[_]).length≤_
   rw[Ae]
   unfold pot1
   rw[b5]
   exact Nat.le_refl _
  | false=>
   have:some (⟨(q2 ls k).c.t,up (q2 ls k).c.f (.lve,x.2) (q2 ls k).c.t.length,es⟩:CS)=some (q2 ls (k+1)).c:=by rw[←ec];unfold cst;rw[q3]
   rw[hp,←Aw this]
   exact Nat.le_add_right _ _
 ·have:some (⟨(q2 ls k).c.t,up (up0 (q2 ls k).c.f (.no,(ph ls s:Nat)) (q2 ls k).c.t.length) (.beh,(ph ls s:Nat)) (q2 ls k).c.t.length,es⟩:CS)=some (q2 ls (k+1)).c:=by rw[←ec];unfold cst;rw[q3]
  rw[hp,←Aw this]
  exact Nat.le_add_right _ _
theorem Y24(g:Gd m ls):∀k,k≤ls.length→∃ss,Wk m ss (ls.drop k) []∧I2 ls k ss.reverse∧ph ls k+pot ss≤3 * ((ls.take k).filter cnt).length
 | 0,_=>⟨[],g.w,I2.zero ls,Nat.le_refl _⟩
 | k+1,hk=>by
  obtain⟨ss,w,I,ih⟩:=Y24 g k (by omega)
  have h:ls[k]?=some ls[k]:=Ag (by omega)
  rw[Xh h] at w
  obtain⟨_,_,s1,nx,_,w'⟩:=w
  refine⟨s1,w',(I.go g.n h nx).1.i,?_⟩
  obtain⟨ps,A⟩:=Zz5 g h
  have hph:ph ls (k+1)=ph ls k+ps.length:=by unfold ph;rw[A.e,Ae]
  rw[Z38 h,Dh,Ae]
  generalize hl:ls[k]=l at h nx A
  have pl:l≠ .don→l≠ .els→cnt l=true:=fun a b=>by cases l<;>first | rfl | exact absurd rfl a | exact absurd rfl b
  have one:cnt l=true→(List.filter cnt [l]).length=1:=fun c=>by rw[Dj c];rfl
  have psl:ps.length≤2∧(stop l=false→ps.length≤1)∧(isR (some l)=true→True):=by
   rcases A.s with⟨s1,rfl | ⟨a,rfl⟩⟩ | ⟨x,a,s,b,e,rfl⟩ | ⟨e,rfl⟩ | ⟨a,s,b,e,rfl⟩
   ·exact⟨Nat.zero_le _,fun _=>Nat.zero_le _,fun _=>trivial⟩
   ·exact⟨(show 1≤2 by decide),fun _=>Nat.le_refl _,fun _=>trivial⟩
   ·exact⟨(show 1≤2 by decide),fun _=>Nat.le_refl _,fun _=>trivial⟩
   ·exact⟨(show 1≤2 by decide),fun _=>Nat.le_refl _,fun _=>trivial⟩
   ·exact⟨Nat.le_refl _,fun z=>(by rw[e] at z;cases z),fun _=>trivial⟩
  cases l with
  | cond a s b=>cases (show s1=_ from nx);rw[Sf,one rfl];have:pot [(Tp.cif,(-1:Int))]=1:=rfl;omega
  | rnd n=>cases (show s1=_ from nx);rw[Sf,one rfl];have:pot [(Tp.crd,n)]=1:=rfl;have:=psl.2.1 rfl;omega
  | prt n=>cases (show s1=_ from nx);rw[Sf,one rfl];have:pot [(Tp.cpt,n)]=0:=rfl;have:=psl.2.1 rfl;omega
  | els=>
   obtain⟨tl,n,rfl,rfl⟩:=nx
   rw[Sf] at ih ⊢
   have:pot [(Tp.cif,n)]=1:=rfl
   have:pot [(Tp.cel,(-1:Int))]=0:=rfl
   have:=psl.2.1 rfl
   omega
  | don=>
   obtain⟨x,rfl⟩:=nx
   rw[De] at I
   have:=Ya5 I h
   rw[Sf] at ih
   have:pot [x]=pot1 x:=rfl
   omega
  | sum x a s b=>cases (show s1=_ from nx);rw[one rfl];omega
  | lve n=>cases (show s1=_ from nx);rw[one rfl];omega
  | agn n=>cases (show s1=_ from nx);rw[one rfl];omega
  | fin=>cases (show s1=_ from nx);rw[one rfl];omega
theorem Z58(g:Gd m ls){raws:List Raw}(hr:Rws ls raws):raws.length≤3 * (ls.filter cnt).length+1:=by
 obtain⟨ss,_,_,h⟩:=Y24 g ls.length (Nat.le_refl _)
 rw[Ht] at h
 have:raws.length=ph ls ls.length+1:=hr.len
 omega
noncomputable def empt(ls:List Ln)(k:Nat):Bool:=isR ls[k]?&&(match ls[k+1]? with | some .don=>true | _=>false)
theorem E1(g:Gd m ls){raws:List Raw}(hr:Rws ls raws){k:Nat}(h:empt ls k=true):ls[k+1]?=some .don∧NX ls (k+1)=some (k+1)∧raws[ph ls (k+1)]?=some (.jump (ph ls (k+1)))∧ph ls (k+2)=ph ls (k+1)+1:=by
 unfold empt at h
 rw[Bz9] at h
 obtain⟨n,h1⟩:∃n,ls[k]?=some (.rnd n):=by
  have:=h.1
  cases e:ls[k]? with
  | none=>rw[e] at this;cases this
  | some l=>cases l<;>first | exact⟨_,rfl⟩ | (rw[e] at this;cases this)
 have h2:ls[k+1]?=some .don:=by
  have:=h.2
  cases e:ls[k+1]? with
  | none=>rw[e] at this;cases this
  | some l=>cases l<;>first | rfl | (rw[e] at this;cases this)
 obtain⟨ss,s1,I,nx,_,_,_⟩:=goL g h2
 obtain⟨x,rfl⟩:=nx
 rw[De] at I
 obtain⟨_,_,s,e1,C⟩:=I.don h2
 have es:(q2 ls (k+1)).s.head?=some k:=by rw[Zo h1];rfl
 rw[es] at e1
 cases e1
 have hk2:=(Ac.mp h2).1
 have fr:=(Q4 g (show k+1+1≤ls.length from hk2) (Nat.le_refl _)).1 _ _ C.2.2.1
 have hnx:NX ls (k+1)=some (k+1):=by
  unfold NX
  rw[h2]
  show(FF ls _).map _=_
  rw[show FF ls (.frm,((k+1:Nat):Int))=some k from fr]
  show some (if isR ls[k]? then k+1 else k+1+1)=_
  rw[h1]
  rfl
 refine⟨h2,hnx,?_,?_⟩
 ·rcases Ya3 g hr _ _ hnx with⟨_,z⟩ | z
  ·exact absurd z (Nat.lt_irrefl _)
  ·exact Zt9 z
 ·rcases C.2.2.2 with⟨c,n',d1,_,_,d4⟩ | ⟨⟨a,x,b,d1⟩,_⟩
  ·rw[h1] at d1
   cases c with
   | true=>exact Bh d4
   | false=>cases d1
  ·rw[h1] at d1;cases d1
theorem Zc2(g:Gd m ls){raws:List Raw}(hr:Rws ls raws){i j:Nat}(hi:empt ls i=true)(hj:empt ls j=true)(h:ph ls (i+1)=ph ls (j+1)):i=j:=by
 have a:=(E1 g hr hi).2.2.2
 have b:=(E1 g hr hj).2.2.2
 rcases Nat.lt_trichotomy i j with z | z | z
 ·have:=Vt ls (show i+2≤j+1 by omega);omega
 ·exact z
 ·have:=Vt ls (show j+2≤i+1 by omega);omega
end
open LN CY
def Zb8:DSp:=fun ds M Q _=>∃(t r:Nat) (xs:List D),ds=[.int (t:Nat),.ref r]∧Zc M r=some xs∧t<xs.length∧Q (.bl true) M
def Y71:DSp:=fun ds M Q _=>∃(raws:List Raw) (p r:Nat) (x:Raw),ds=[.tup (.int (p:Nat)::x.l),.int (p:Nat),.ref r]∧Rs raws r M∧raws[p]?=some x∧Q (.bl true) M
structure Both(ls:List Ln)(raws:List Raw)(r lr:Nat)(M:Z2):Prop where
 rs:Rs raws r M
 rw:Rws ls raws
 g:Gd 89 ls
 l:ls.length≤400
 z:0<ls.length
 lr:Zc M lr=some (ls.map Ln.d)
theorem Both.ks{ls:List Ln}{raws:List Raw}{r lr:Nat}{M M':Z2}(h:Both ls raws r lr M)(k:Kp M M'):Both ls raws r lr M':=⟨h.rs.ks k,h.rw,h.g,h.l,h.z,k.pL h.lr⟩
def Gk:DSp:=fun ds M Q _=>∃(ls:List Ln) (raws:List Raw) (r lr:Nat),ds=[.ref r,.ref lr]∧Both ls raws r lr M∧∀M',Kp M M'→Q (.bl true) M'
def Gn:DSp:=fun ds M Q _=>∃(ls:List Ln) (raws:List Raw) (r lr:Nat),ds=[.ref r,.ref lr]∧Both ls raws r lr M∧∀M',Kp M M'→Q (.bl true) M'
section
variable{K:Af}{Γ:List DSp}{G:List D}
theorem Zv7:Rd K Γ G Zb8 Z92 Z85:=by
 rintro ds M Q Z ⟨t,r,xs,rfl,hr,ht,q⟩
 delta Z92 Z85
 walk_at "ev"
 rw[if_pos (by omega)]
 refine Zb hr ?_
 walk_at "ev"
 rw[decide_eq_true (by omega)]
 exact q
theorem Y21(ga:Γ[27]?=some (Xe 180))(gg:Γ[31]?=some Zb8):Rd K Γ G Y71 Zn2 Zn0:=by
 rintro ds M Q Z ⟨raws,p,r,x,rfl,h,hx,q⟩
 have rl:((Yd raws).map Rw.d).length=raws.length:=by rw[Ab,Y7]
 have al:AL M 180 (.int (p:Nat)) (.int (p:Nat)):=AL.flat rfl
 delta Zn2 Zn0
 cases x with
 | sum y a s b=>
  simp only[Raw.l]
  walk_at "ev"
  simp only[ga]
  refine⟨_,_,rfl,al,?_⟩
  try walk_at "ev"
  delta Vh
  walk_at "ev"
  exact q
 | test a s b t=>
  simp only[Raw.l]
  walk_at "ev"
  simp only[ga]
  refine⟨_,_,rfl,al,?_⟩
  try walk_at "ev"
  delta Vh
  walk_at "ev"
  delta S7
  walk_at "ev"
  simp only[gg]
  exact⟨t,r,_,rfl,Z1 h.r,by rw[rl];exact h.t p _ _ _ _ hx,q⟩
 | jump t=>
  simp only[Raw.l]
  walk_at "ev"
  simp only[ga]
  refine⟨_,_,rfl,al,?_⟩
  try walk_at "ev"
  delta Vh
  walk_at "ev"
  delta S7
  walk_at "ev"
  delta Oa
  walk_at "ev"
  simp only[gg]
  exact⟨t,r,_,rfl,Z1 h.r,by rw[rl];exact h.j p _ hx,q⟩
 | fin=>
  simp only[Raw.l]
  walk_at "ev"
  simp only[ga]
  refine⟨_,_,rfl,al,?_⟩
  try walk_at "ev"
  delta Vh
  walk_at "ev"
  delta S7
  walk_at "ev"
  delta Oa
  walk_at "ev"
  delta Gz
  walk_at "ev"
  exact q
end
open LN CY
noncomputable def rD:Raw→Option D
 | .sum x a s b=>some (Ln.sum x a s b).d
 | .test a s b _=>some (Ln.cond a s b).d
 | .fin=>some Ln.fin.d
 | .jump _=>none
theorem Y93{f:Lb→Option Nat}{p:Pr}{r:Raw}(h:res f p=some r):rD r=dD p:=by
 cases p with
 | sum x a s b=>cases h;rfl
 | fin=>cases h;rfl
 | test a s b l=>obtain⟨v,_,rfl⟩:=Ch.mp (show(f l).map _=some r from h);rfl
 | jump l=>obtain⟨v,_,rfl⟩:=Ch.mp (show(f l).map _=some r from h);rfl
theorem Zm4{f:Lb→Option Nat}:∀{ps:List Pr} {rs:List Raw},ps.map (res f)=rs.map some→rs.filterMap rD=ps.filterMap dD
 | [],[],_=>rfl
 | [],r::rs,h=>by cases h
 | p::ps,[],h=>by cases h
 | p::ps,r::rs,h=>by
  rw[Dd,Dd,List.cons.injEq] at h
  rw[Lg,Lg,Y93 h.1,Zm4 h.2]
theorem Rws.deeds{m:Nat}{ls:List Ln}(g:Gd m ls){raws:List Raw}(h:Rws ls raws):raws.dropLast.filterMap rD=(ls.filter stop).map Ln.d:=by
 have h1:=(Z15 g ls.length (Nat.le_refl _)).2
 rw[Ht] at h1
 rw[←h1]
 refine Zm4 (f:=GF ls) ?_
 have:(TT ls++[Pr.fin]).map (res (GF ls))=raws.map some:=h
 have e:=congrArg List.dropLast this
 rw[Ao,List.map_singleton,Mc,←List.map_dropLast] at e
 exact e
theorem Z45{α β:Type}{f:α→Option β}{l:List α}{i:Nat}{x:α}(h:l[i]?=some x):(l.take (i+1)).filterMap f=(l.take i).filterMap f++(f x).toList:=by
 rw[Zn h,List.filterMap_append]
 cases e:f x<;>simp[e]
section
variable{K:Af}{Γ:List DSp}{G:List D}
theorem Zg7(xs:List D)(h:xs≠[]):U.cutD xs none (some (-1))=xs.dropLast:=by
 have:0<xs.length:=List.length_pos_iff.mpr h
 unfold U.cutD
 rw[show HT.sIx xs.length 0 none=0 from rfl,show HT.sIx xs.length xs.length (some (-1))=xs.length - 1 by unfold HT.sIx;simp;omega,List.drop_zero,Nat.sub_zero,List.dropLast_eq_take]
theorem Z94(raws:List Raw):((Yd raws).map Rw.d).dropLast=(raws.dropLast.mapIdx fun k r=>D.tup (.int (k:Nat)::r.l)):=by
 rw[←List.map_dropLast]
 unfold Yd
 refine List.ext_getElem? fun i=>?_
 rw[Ai,Ke,List.getElem?_dropLast,List.getElem?_dropLast,List.length_mapIdx,Ke]
 split
 ·cases raws[i]? with
  | none=>rfl
  | some x=>exact congrArg some (Raw.rw_d i x)
 ·rfl
theorem Zi3(ga:Γ[27]?=some (Xe 180)):Rd K Γ G Gn E6 Fv:=by
 rintro ds M Q Z ⟨ls,raws,r,lr,rfl,h,q⟩
 have hl:=h.rs.l
 delta E6 Fv
 walk_at "ev"
 have k0:Kp M (M++[.lst []]):=Ks.new _ _
 refine⟨Z0 (by decide),_,Z1 (k0.pW h.rs.r),?_⟩
 rw[Zg7 _ (by intro z;have:=congrArg Mi z;rw[Ab,Y7,h.rw.len] at this;cases this)]
 try walk_at "ev"
 rw[Z94]
 have dl:raws.dropLast.length≤2000:=by rw[List.length_dropLast];omega
 obtain⟨S,hS⟩:∃S:Z2,S=M++[Cell.lst []]++[Cell.lst (raws.dropLast.mapIdx fun k r=>D.tup (.int (k:Nat)::r.l))]:=⟨_,rfl⟩
 have l1:(M++[Cell.lst []]:Z2).length=M.length+1:=by simp
 have rS:Zc S (M.length+1)=some (raws.dropLast.mapIdx fun k r=>D.tup (.int (k:Nat)::r.l)):=by rw[hS,←l1];exact Zd _ _ []
 have fS:Z4 S M.length=some []:=by rw[hS];exact Z8 (Z5 _ _ [])
 have kS:Kp M S:=by rw[hS];exact k0.app _
 rw[l1,←hS]
 refine⟨_,rS,?_⟩
 generalize hds:raws.dropLast=rs at *
 refine Xy (fun i σ M'=>∃d3:Option D,σ=[some (.ref r),some (.ref lr),some (.ref M.length),d3]∧Ks (·=M.length) S M'∧Z4 M' M.length=some ((rs.take i).filterMap rD)) ⟨none,rfl,Ks.refl _,fS⟩ ?_ ?_ ?_
 ·rintro i σ M' _ ⟨d3,rfl,k,e⟩
  exact k.L (by omega) rS
 ·rintro i d σ M' P hd ⟨d3,rfl,k,e⟩ hP
  obtain⟨x,hx,rfl⟩:∃x,rs[i]?=some x∧d= .tup (.int (i:Nat)::x.l):=by
   rw[Ke] at hd
   cases e:rs[i]? with
   | none=>rw[e] at hd;cases hd
   | some x=>rw[e] at hd;cases hd;exact⟨x,rfl,rfl⟩
  have ltM:=Z6 (Z1 e)
  have fl:((rs.take i).filterMap rD).length≤2000:=Nat.le_trans (List.length_filterMap_le _ _) (by rw[Hs];omega)
  have add:∀y σ',rD x=some y→σ'=[some (.ref r),some (.ref lr),some (.ref M.length),some (.tup (.int (i:Nat)::x.l))]→P σ' (M'.set M.length (.lst ((rs.take i).filterMap rD++[y]))):=by
   rintro y σ' hy rfl
   refine hP _ _ ⟨_,rfl,k.set (.inl rfl),?_⟩
   rw[Z9 ltM,Z45 hx,hy]
   rfl
  rw[tg_one]
  delta Qv
  cases x with
  | sum y a s b=>
   simp only[Raw.l] at add ⊢
   walk_at "ev"
   delta X5
   walk_at "ev"
   rw[if_neg (fun z=>z trivial)]
   exact⟨Z7 (Z1 e),by decide,_,e,Z3 (by omega),add _ _ rfl rfl⟩
  | test a s b t=>
   simp only[Raw.l] at add ⊢
   walk_at "ev"
   refine⟨Z7 (Z1 e),Z0 (by decide),by decide,by simp,Z0 (by show 1+3≤_;decide),_,e,Z3 (by omega),?_⟩
   delta X5
   walk_at "ev"
   exact add _ _ rfl rfl
  | jump t=>
   simp only[Raw.l] at add ⊢
   walk_at "ev"
   delta X5
   walk_at "ev"
   refine hP _ _ ⟨_,rfl,k,?_⟩
   rw[Z45 hx]
   exact e.trans (by rw[show rD (Raw.jump t)=none from rfl];simp)
  | fin=>
   simp only[Raw.l] at add ⊢
   walk_at "ev"
   delta X5
   walk_at "ev"
   exact⟨Z7 (Z1 e),by decide,_,e,Z3 (by omega),add _ _ rfl rfl⟩
 ·rintro σ M' ⟨d3,rfl,k,e⟩
  rw[List.length_mapIdx,Ht,←hds,h.rw.deeds h.g] at e
  have kM:Kp M M':=(kS.mono fun _ _ z=>z.elim).trans k |>.mono fun a hlt hh=>by omega
  delta Qa
  walk_at "ev"
  have hlr:=kM.pL h.lr
  refine⟨_,hlr,?_⟩
  refine Yi (fun i σ M2=>∃d0:Option D,σ=[d0]∧Kp M' M2∧Z4 M2 M'.length=some (((ls.take i).filter stop).map Ln.d)) ⟨none,rfl,Ks.new _ _,Z5 _ _ []⟩ ?_ ?_ ?_
  ·rintro i σ M2 _ ⟨d0,rfl,k2,e2⟩
   exact k2.pL hlr
  ·rintro i d σ M2 C hd ⟨d0,rfl,k2,e2⟩ hC
   obtain⟨l,hl1,rfl⟩:=Fl hd
   have fl:(((ls.take i).filter stop).map Ln.d).length≤400:=by
    rw[Ab]
    have:=Du stop (ls.take i)
    rw[Hs] at this
    have:=h.l
    omega
   rw[tg_one]
   try walk_at "ev"
   refine Vz ⟨Z0 (by decide),.inl ⟨s3,Zd _ _ [],rfl,rfl,?_⟩⟩
   rw[Gc]
   try dsimp only
   have e3:=Z8 (N:=[.lst s3]) e2
   cases hs:stop l with
   | true=>
    rw[if_pos rfl]
    refine⟨_,e3,Z3 (by omega),hC _ _ ⟨_,rfl,(k2.app _).set (.inr (Nat.le_refl _)),?_⟩⟩
    rw[Z9 (Z6 (Z1 e3)),Zn hl1,Dh,Dj hs,Ao]
    rfl
   | false=>
    rw[if_neg Bf9]
    refine hC _ _ ⟨_,rfl,k2.app _,?_⟩
    rw[Zn hl1,Dh,Dl (by rw[hs];exact Bf9),Ls,Dg]
    exact e3
  ·rintro σ M2 ⟨d0,rfl,k2,e2⟩
   rw[Ab,Ht] at e2
   simp only[ga]
   refine⟨_,_,rfl,AL.up (n:=2) (.inr (.inr ⟨_,_,_,_,rfl,rfl,k2.pW e,e2,rfl,fun i a b e3 e4=>?_⟩)) (by decide),q _ (kM.trans k2)⟩
   rw[e3] at e4
   cases e4
   rw[Ai] at e3
   obtain⟨l,_,rfl⟩:=Ch.mp e3
   exact Z25 l
end
open LN CY
noncomputable def slf(p:Nat):Raw→Bool
 | .jump t=>decide (t=p)
 | _=>false
theorem Y94(l:Ln):decide (wd l="else")=(match l with | .els=>true | _=>false):=by cases l<;>first | exact decide_eq_true rfl | exact decide_eq_false (by simp only[wd];decide+kernel)
theorem Z13(l:Ln):decide (wd l="done")=(match l with | .don=>true | _=>false):=by cases l<;>first | exact decide_eq_true rfl | exact decide_eq_false (by simp only[wd];decide+kernel)
theorem Ya1(l:Ln):cnt l=(!decide (wd l="else")&&!decide (wd l="done")):=by rw[Y94,Z13];cases l<;>rfl
noncomputable def slfs(raws:List Raw)(i:Nat):List Rw:=((Yd raws).take i).filter fun r=>match r with
 | .jump k g=>decide (g=k)
 | _=>false
theorem Y36{m:Nat}{ls:List Ln}(g:Gd m ls){raws:List Raw}(hr:Rws ls raws)(N:Nat):((Ay N).filter (empt ls)).length≤(slfs raws (Yd raws).length).length:=by
 haveI:DecidableEq Rw:=fun a b=>Classical.propDecidable (a=b)
 have:=Sj (a:=((Ay N).filter (empt ls)).map fun k=>Rw.jump (ph ls (k+1)) (ph ls (k+1))) (b:=slfs raws (Yd raws).length) ?_ ?_
 ·rwa[Ab] at this
 ·refine List.pairwise_map.mpr (List.Pairwise.imp_of_mem ?_ (List.Pairwise.filter _ List.pairwise_lt_range))
  intro a b ha hb hab e
  have:=Zc2 g hr (Ho.mp ha).2 (Ho.mp hb).2 (Rw.jump.inj e).1
  omega
 ·intro x hx
  obtain⟨k,hk,rfl⟩:=Hw.mp hx
  have h:=(E1 g hr (Ho.mp hk).2).2.2.1
  unfold slfs
  rw[Ht]
  exact Ho.mpr ⟨Dx (Xm h),decide_eq_true rfl⟩
theorem Y58{α:Type}{xs:List α}{v:α}(h:xs[xs.length - 1]?=some v):atI xs (-1)=some v:=by
 rcases Hz xs with rfl | ⟨l,b,rfl⟩
 ·cases h
 ·rw[Ia] at h ⊢
  rw[Ae,Aj,Nat.add_sub_cancel,Dc (Nat.le_refl _),Nat.sub_self] at h
  cases h
  exact S9 _ _
section
variable{K:Af}{Γ:List DSp}{G:List D}
theorem Zh9(gr:Γ[32]?=some Y71):Rd K Γ G Gk Ff Ez:=by
 rintro ds M Q Z ⟨ls,raws,r,lr,rfl,h,q⟩
 have hl:=h.rs.l
 have rl:((Yd raws).map Rw.d).length=raws.length:=by rw[Ab,Y7]
 have ne:((Yd raws).map Rw.d).isEmpty=false:=by
  have:=h.rw.len
  cases e:(Yd raws).map Rw.d with
  | nil=>rw[e] at rl;rw[←rl] at this;cases this
  | cons a b=>rfl
 delta Ff Ez
 walk_at "ev"
 rw[Bx (t:= .list) h.rs.r]
 rw[show tyLst .list=true from rfl]
 try walk_at "ev"
 refine⟨Z0 (by decide),Tl (Zh (Z1 h.rs.r)) (Zd _ _ []) ?_⟩
 rw[ne,if_neg Bf9]
 have k0:Kp M (M++[.lst []]):=Ks.new _ _
 have h0:=h.ks k0
 generalize (M++[.lst []]:Z2)=M0 at k0 h0
 delta Pj
 walk_at "ev"
 refine Zb (Z1 h0.rs.r) ?_
 walk_at "ev"
 refine⟨by omega,by rw[rl];omega,?_⟩
 rw[Hy,rl]
 refine Yu (fun i σ M'=>∃(d2:Option D),σ=[some (.ref r),some (.ref lr),d2,none,none]∧M'=M0) ⟨none,rfl,rfl⟩ ?_ ?_
 ·rintro i σ M' P hi ⟨d2,rfl,rfl⟩ hP
  have he:raws[i]?=some raws[i]:=Ag hi
  rw[tg_one,Kr]
  delta Qy
  walk_at "ev"
  refine h0.rs.at he ?_
  try walk_at "ev"
  simp only[gr]
  refine⟨raws,i,r,_,rfl,h0.rs,he,?_⟩
  try walk_at "ev"
  exact hP _ _ ⟨_,rfl,rfl⟩
 ·rintro σ M' ⟨d2,rfl,rfl⟩
  delta Pb
  walk_at "ev"
  have hlr:=h0.lr
  have hll:=h.l
  refine⟨_,hlr,?_⟩
  refine Yi (fun i σ M2=>∃d0:Option D,σ=[d0]∧Kp M' M2∧Z4 M2 M'.length=some (((ls.take i).filter cnt).map Ln.d)) ⟨none,rfl,Ks.new _ _,Z5 _ _ []⟩ ?_ ?_ ?_
  ·rintro i σ M2 _ ⟨d0,rfl,k2,e2⟩
   exact k2.pL hlr
  ·rintro i d σ M2 C hd ⟨d0,rfl,k2,e2⟩ hC
   obtain⟨l,hl1,rfl⟩:=Fl hd
   have fl:(((ls.take i).filter cnt).map Ln.d).length≤400:=by
    rw[Ab]
    have:=Du cnt (ls.take i)
    rw[Hs] at this
    omega
   have go:∀b:Bool,b=cnt l→(if b=true then ∃xs,Z4 M2 M'.length=some xs∧xs.length<sizeLine∧C [some l.d] (M2.set M'.length (.lst (xs++[l.d]))) else C [some l.d] M2):=by
    rintro b rfl
    cases hc:cnt l with
    | true=>
     rw[if_pos rfl]
     refine⟨_,e2,Z3 (by omega),hC _ _ ⟨_,rfl,k2.set (.inr (Nat.le_refl _)),?_⟩⟩
     rw[Z9 (Z6 (Z1 e2)),Zn hl1,Dh,Dj hc,Ao]
     rfl
    | false=>
     rw[if_neg Bf9]
     refine hC _ _ ⟨_,rfl,k2,?_⟩
     rw[Zn hl1,Dh,Dl (by rw[hc];exact Bf9),Ls,Dg]
     exact e2
   rw[tg_one]
   try walk_at "ev"
   refine Vz ?_
   try walk_at "ev"
   have cw:=Ya1 l
   by_cases w1:wd l="else"
   ·rw[decide_eq_true w1] at cw
    rw[if_neg (fun z=>z w1),if_neg (fun z=>z w1)]
    have:=go false cw.symm
    rwa[if_neg Bf9] at this
   ·rw[if_pos w1]
    rw[decide_eq_false w1] at cw
    refine Vz ?_
    try walk_at "ev"
    by_cases w2:wd l="done"
    ·rw[decide_eq_true w2] at cw
     rw[if_neg (fun z=>z w2)]
     have:=go false cw.symm
     rwa[if_neg Bf9] at this
    ·rw[decide_eq_false w2] at cw
     rw[if_pos w2]
     have:=go true cw.symm
     rwa[if_pos rfl] at this
  rintro σ M1 ⟨d0,rfl,k1,e1⟩
  rw[Ab,Ht] at e1
  refine Zb (Z1 e1) ?_
  try walk_at "ev"
  refine Zb (k1.pL hlr) ?_
  try walk_at "ev"
  rw[Ab,Ab]
  have eN:((ls.length:Int) - 1).toNat=ls.length - 1:=by omega
  refine⟨by omega,by omega,?_⟩
  rw[eN]
  refine Yi (fun i σ M2=>∃d0:Option D,σ=[d0,some (.ref lr)]∧Kp M1 M2∧Z4 M2 M1.length=some (((Ay i).filter (empt ls)).map fun k:Nat=>D.int k)) ⟨none,rfl,Ks.new _ _,Z5 _ _ []⟩ (fun _ _ _ _ _=>trivial) ?_ ?_
  ·rintro i d σ M2 C hd ⟨d0,rfl,k2,e2⟩ hC
   have hi:i<ls.length - 1:=by have:=(Ac.mp hd).1;rw[Zk] at this;exact this
   rw[Xn hi] at hd
   cases hd
   have hz:=h.z
   have g1:ls[i]?=some ls[i]:=Ag (by omega)
   have g2:ls[i+1]?=some ls[i+1]:=Ag (by omega)
   have em:empt ls i=(decide (wd ls[i]="round")&&decide (wd ls[i+1]="done")):=by
    unfold empt
    rw[g1,g2,Za9,Z13]
    congr 1
    cases ls[i+1]<;>rfl
   have fl:(((Ay i).filter (empt ls)).map fun k:Nat=>D.int k).length≤400:=by
    rw[Ab]
    have:=Du (empt ls) (Ay i)
    rw[Im] at this
    omega
   have hlr2:=(k1.trans k2).pL hlr
   have go:∀b:Bool,b=empt ls i→(if b=true then ∃xs,Z4 M2 M1.length=some xs∧xs.length<sizeLine∧C [some (.int (i:Nat)),some (.ref lr)] (M2.set M1.length (.lst (xs++[.int (i:Nat)]))) else C [some (.int (i:Nat)),some (.ref lr)] M2):=by
    rintro b rfl
    cases hc:empt ls i with
    | true=>
     rw[if_pos rfl]
     refine⟨_,e2,Z3 (by omega),hC _ _ ⟨_,rfl,k2.set (.inr (Nat.le_refl _)),?_⟩⟩
     rw[Z9 (Z6 (Z1 e2)),Iq,Dh,Dj hc,Ao]
     rfl
    | false=>
     rw[if_neg Bf9]
     refine hC _ _ ⟨_,rfl,k2,?_⟩
     rw[Iq,Dh,Dl (by rw[hc];exact Bf9),Ls,Dg]
     exact e2
   rw[tg_one,Kr]
   try walk_at "ev"
   refine ix_l (k:=i) hlr2 (by rw[Ai,g1];rfl) (Vz ?_)
   try walk_at "ev"
   by_cases w1:wd ls[i]="round"
   ·rw[decide_eq_true w1,Bool.true_and] at em
    rw[if_pos w1]
    refine ix_l (k:=i+1) hlr2 (by rw[Ai,g2];rfl) (Vz ?_)
    try walk_at "ev"
    by_cases w2:wd ls[i+1]="done"
    ·rw[decide_eq_true w2] at em
     have:=go true em.symm
     rw[if_pos rfl] at this
     rw[if_pos w2]
     exact this
    ·rw[decide_eq_false w2] at em
     have:=go false em.symm
     rw[if_neg Bf9] at this
     rw[if_neg w2]
     exact this
   ·rw[decide_eq_false w1,Bool.false_and] at em
    have:=go false em.symm
    rw[if_neg Bf9] at this
    rw[if_neg w1,if_neg w1]
    exact this
  rintro σ M2 ⟨d1,rfl,k2,e2⟩
  rw[Zk] at e2
  have h2:=h0.ks (k1.trans k2)
  have sl:∀i,((slfs raws i).map Rw.d).length≤2000:=fun i=>by
   rw[Ab]
   unfold slfs
   refine Nat.le_trans (Du _ _) ?_
   rw[Hs,Y7]
   omega
  refine⟨_,Z1 h2.rs.r,?_⟩
  refine Yi (fun i σ M3=>∃d0:Option D,σ=[d0]∧Kp M2 M3∧Z4 M3 M2.length=some ((slfs raws i).map Rw.d)) ⟨none,rfl,Ks.new _ _,Z5 _ _ []⟩ ?_ ?_ ?_
  ·rintro i σ M3 _ ⟨d0,rfl,k3,e3⟩
   exact k3.pL (Z1 h2.rs.r)
  ·rintro i d σ M3 C hd ⟨d0,rfl,k3,e3⟩ hC
   obtain⟨x,hx⟩:∃x,raws[i]?=some x:=⟨_,Ag (by have:=(Ac.mp hd).1;rwa[rl] at this)⟩
   have hx':=Xm hx
   rw[Ai,hx'] at hd
   cases hd
   have sn:slfs raws (i+1)=slfs raws i++(if slf i x=true then [x.rw i] else []):=by
    unfold slfs
    rw[Zn hx',Dh]
    congr 1
    cases x<;>first | rfl | (simp only[Raw.rw,slf,List.filter_cons,Ls];rfl)
   have go:∀b:Bool,b=slf i x→(if b=true then ∃xs,Z4 M3 M2.length=some xs∧xs.length<sizeLine∧C [some (x.rw i).d] (M3.set M2.length (.lst (xs++[(x.rw i).d]))) else C [some (x.rw i).d] M3):=by
    rintro b rfl
    cases hc:slf i x with
    | true=>
     rw[if_pos rfl]
     refine⟨_,e3,Z3 (by have:=sl i;omega),hC _ _ ⟨_,rfl,k3.set (.inr (Nat.le_refl _)),?_⟩⟩
     rw[Z9 (Z6 (Z1 e3)),sn,hc,if_pos rfl,Ao]
     rfl
    | false=>
     rw[if_neg Bf9]
     refine hC _ _ ⟨_,rfl,k3,?_⟩
     rw[sn,hc,if_neg Bf9,Dg]
     exact e3
   rw[tg_one]
   rw[Raw.rw_d] at go ⊢
   cases x with
   | jump t=>
    simp only[Raw.l] at go ⊢
    try walk_at "ev"
    by_cases ht:t=i
    ·have:=go true (by show true=decide _;rw[decide_eq_true ht])
     rw[if_pos rfl] at this
     rw[if_pos (by rw[ht])]
     exact this
    ·have:=go false (by show false=decide _;rw[decide_eq_false ht])
     rw[if_neg Bf9] at this
     rw[if_neg (fun z=>ht (by omega))]
     exact this
   | _=>
    have:=go false rfl
    rw[if_neg Bf9] at this
    simp only[Raw.l] at this ⊢
    try walk_at "ev"
    exact this
  rintro σ M3 ⟨d3,rfl,k3,e3⟩
  rw[Ab] at e3
  refine Zb (Z1 e3) ?_
  try walk_at "ev"
  refine Zb (k3.pL (Z1 e2)) ?_
  try walk_at "ev"
  have el:=Y36 h.g h.rw (ls.length - 1)
  rw[Ab,Ab,if_neg (by omega)]
  have h3:=h2.ks k3
  have hlen:=h.rw.len
  have hend:=h.rw.end
  have hpe:ph ls ls.length=raws.length - 1:=by rw[hlen];rfl
  rw[hpe] at hend
  delta Q8
  walk_at "ev"
  have la:atI ((Yd raws).map Rw.d) (-1)=some (.tup [.int ((raws.length - 1:Nat):Int),.str "end"]):=by
   refine Y58 ?_
   rw[rl,Ai,Xm hend]
   rfl
  refine Wo (Z1 h3.rs.r) la ?_
  try walk_at "ev"
  refine Zb (Z1 h3.rs.r) ?_
  walk_at "ev"
  have cl:(ls.filter cnt).length≤400:=Nat.le_trans (Du _ _) hll
  have rle:=Z58 h.g h.rw
  refine⟨mulL (by decide) (by decide),?_⟩
  rw[rl,decide_eq_true (by omega)]
  exact q _ (((k0.trans k1).trans k2).trans k3)
end
open LN CY
theorem RC.post{J:Nat→Option Nat}{p q:Nat}{v:Int}(o:Orb J p q)(h:RC J p v):RC J q v:=by
 rcases h with⟨r,a,b,c⟩ | ⟨l,a,b,c,d⟩
 ·refine .inl ⟨r,a,?_,c⟩
  rcases fork o b with z | z
  ·exact z
  ·rw[V8 c z];exact .refl _
 ·refine .inr ⟨l,a,?_,c,d⟩
  rcases fork o b with z | z
  ·exact z
  ·exact c.back z
def Pk(ls:List Ln)(raws:List Raw)(x:Int×Int):Prop:=∃p,p≤ls.length∧RC (NX ls) p x.1∧RC (JR raws) (ph ls p) x.2
noncomputable def prD(x:Int×Int):D:= .tup [.int x.1,.int x.2]
def Za5:DSp:=fun ds M Q _=>∃(ls:List Ln) (raws:List Raw) (r lr:Nat),ds=[.ref r,.ref lr]∧Both ls raws r lr M∧∀(ps:List (Int×Int)) (kvs:List (Key×D)) M' a b c,Kp M M'→M.length≤a→M.length≤b→Z4 M' a=some (ps.map prD)→Zs M' b=some kvs→Z4 M' c=some [.ref a,.ref b]→(∀x∈ps,Pk ls raws x)→(∀q∈Yx ls,valD kvs (Hb (q:Int))=some (.int (ph ls q:Nat)))→ps.length≤1000→Q (.ref c) M'
section
variable{ls:List Ln}{m:Nat}{raws:List Raw}
theorem Yb6(g:Gd m ls){k:Nat}(h:isC ls k):noP ls k≤ls.length:=by
 obtain⟨a,s,b,h⟩:=h
 obtain⟨j,j1,_,C⟩:=Wq g h rfl
 unfold noP
 cases e:FF ls (.els,(k:Nat)) with
 | none=>dsimp only;rw[C.2.1];show j+1≤_;omega
 | some e'=>
  obtain⟨xs,I⟩:=I2.of g (Nat.le_refl ls.length)
  have:=(I.el k e' e).1
  dsimp only
  omega
theorem Y73(g:Gd m ls)(hr:Rws ls raws){k:Nat}(h:isC ls k):JR raws (ph ls k+1)=some (ph ls (noP ls k)):=by
 obtain⟨a,s,b,h⟩:=h
 obtain⟨j,j1,_,C⟩:=Wq g h rfl
 obtain⟨_,h2,_,_⟩:=Ft g h
 have:GF ls (.no,(ph ls k:Nat))=some (ph ls (noP ls k)):=by
  unfold noP
  rcases C.2.2.2 with⟨c,n,d,_⟩ | ⟨_,d1,_,⟨d2,d3⟩ | ⟨e,d2,d3⟩⟩
  ·rw[h] at d;cases c<;>cases d
  ·rw[d2];dsimp only;rw[C.2.1];show _=some (ph ls (j+1));rw[d1];exact d3
  ·rw[d2];exact d3
 exact JR_j (hr.jump h2 this)
theorem Zr0(g:Gd m ls)(hr:Rws ls raws){k:Nat}{a:Opd}{s:Str}{b:Opd}(h:ls[k]?=some (.cond a s b)):raws[ph ls k]?=some (.test a s b (ph ls (k+1))):=by
 obtain⟨h1,_,_,h4⟩:=Ft g h
 obtain⟨r,h5,h6⟩:=hr.at h1
 change (GF ls _).map (Raw.test a s b)=some r at h6
 rw[h4] at h6
 cases h6
 exact h5
theorem Zz1(hr:Rws ls raws){k:Nat}(h:k≤ls.length):ph ls k<raws.length:=by
 have:=Vt ls h
 have:raws.length=ph ls ls.length+1:=hr.len
 omega
theorem Z32{q:Nat}(h:q∈Yx ls):q=ls.length∨∃l,ls[q]?=some l∧stop l=true:=by
 unfold Yx at h
 rcases Az.mp h with h | h
 ·obtain⟨h1,h2⟩:=Ho.mp h
  have h1:=Hx.mp h1
  refine .inr ⟨ls[q],Ag h1,?_⟩
  unfold stAt at h2
  rw[Ag h1] at h2
  exact h2
 ·exact .inl (Am.mp h)
theorem Zj3{q:Nat}(h:q≤ls.length)(hn:NX ls q=none)(g:Gd m ls):q∈Yx ls:=by
 unfold Yx
 by_cases e:q=ls.length
 ·exact Ax _ (Am.mpr e)
 ·have hl:q<ls.length:=by omega
  refine Kd _ (Ho.mpr ⟨Hx.mpr hl,?_⟩)
  unfold stAt
  rw[Ag hl]
  dsimp only
  cases hs:stop ls[q] with
  | true=>rfl
  | false=>
   obtain⟨q',h1,_⟩:=Zq2 g (Ag hl) hs
   rw[hn] at h1;cases h1
theorem Z70:(Yx ls).length≤ls.length+1:=by
 unfold Yx
 rw[Ae,Aj]
 have:=Du (stAt ls) (Ay ls.length)
 rw[Im] at this
 omega
end
theorem J8{M:Z2}{n:Nat}{xs:List (Key×D)}(h:n<M.length):Zs (M.set n (.dct xs)) n=some xs:=by
 unfold Zs
 rw[Dw h]
theorem W5{M M':Z2}{a:Nat}(h:M'[a]?=M[a]?):Zs M' a=Zs M a:=by unfold Zs;rw[h]
theorem Yt{M:Z2}{n:Nat}{xs:List (Key×D)}(h:Zs M n=some xs):n<M.length:=by
 unfold Zs at h
 rcases Nat.lt_or_ge n M.length with l | l
 ·exact l
 ·rw[Hn l] at h
  cases h
theorem Ee(m:List (Key×D))(k:Key)(v:D):(putD m k v).length≤m.length+1:=by
 unfold putD
 split
 ·rw[Ab];omega
 ·rw[Ae,Aj];exact Nat.le_refl _
structure Pz(ls:List Ln)(raws:List Raw)(A B i n:Nat)(M:Z2):Prop where
 p:∃ps:List (Int×Int),Z4 M A=some (ps.map prD)∧(∀x∈ps,Pk ls raws x)∧ps.length≤n
 d:∃kvs:List (Key×D),Zs M B=some kvs∧kvs.length≤i∧∀q∈(Yx ls).take i,valD kvs (Hb (q:Int))=some (.int (ph ls q:Nat))
section
variable{ls:List Ln}{raws:List Raw}{A B i n:Nat}{M M':Z2}
theorem Pz.ks(h:Pz ls raws A B i n M)(k:Kp M M'):Pz ls raws A B i n M':=by
 obtain⟨ps,a,b⟩:=h.p
 obtain⟨kvs,c,d⟩:=h.d
 exact⟨⟨ps,k.pW a,b⟩,kvs,by rw[W5 (k.at' B (fun z=>z) (Yt c))];exact c,d⟩
theorem Pz.add(h:Pz ls raws A B i n M){x:Int×Int}(hx:Pk ls raws x):∃xs,Z4 M A=some xs∧xs.length≤n∧Pz ls raws A B i (n+1) (M.set A (.lst (xs++[prD x]))):=by
 obtain⟨ps,a,b,l⟩:=h.p
 obtain⟨kvs,c,d⟩:=h.d
 have ne:A≠B:=by
  rintro rfl
  unfold Z4 at a
  unfold Zs at c
  cases e:M[A]? with
  | none=>rw[e] at a;cases a
  | some y=>rw[e] at a c;cases y<;>first | (cases a;done) | (cases c;done)
 refine⟨_,a,by rw[Ab];exact l,⟨ps++[x],?_,fun y hy=>?_,by rw[Ae,Aj];omega⟩,kvs,?_,d⟩
 ·rw[Z9 (Z6 (Z1 a)),Ao];rfl
 ·rcases Az.mp hy with hy | hy
  ·exact b y hy
  ·rw[Am.mp hy];exact hx
 ·rw[W5 (Y4 ne)];exact c
theorem Pz.put(h:Pz ls raws A B i n M){q:Nat}(hq:(Yx ls)[i]?=some q):∃kvs,Zs M B=some kvs∧kvs.length≤i∧Pz ls raws A B (i+1) n (M.set B (.dct (putD kvs (Hb (q:Int)) (.int (ph ls q:Nat))))):=by
 obtain⟨ps,a,b⟩:=h.p
 obtain⟨kvs,c,d,e⟩:=h.d
 have ne:B≠A:=by
  rintro rfl
  unfold Z4 at a
  unfold Zs at c
  cases e:M[B]? with
  | none=>rw[e] at a;cases a
  | some y=>rw[e] at a c;cases y<;>first | (cases a;done) | (cases c;done)
 refine⟨kvs,c,d,⟨ps,by rw[Zp (Y4 ne)];exact a,b⟩,_,J8 (Yt c),by have:=Ee kvs (Hb (q:Int)) (.int (ph ls q:Nat));omega,fun q' hq'=>?_⟩
 rw[S5]
 by_cases z:q=q'
 ·rw[if_pos (by rw[z]),z]
 ·rw[if_neg (fun y=>z (by have:=Hb.inj y;omega))]
  rw[Zn hq] at hq'
  rcases Az.mp hq' with hq' | hq'
  ·exact e q' hq'
  ·exact absurd (Am.mp hq').symm z
end
section
variable{K:Af}{Γ:List DSp}{G:List D}
theorem Zg4(gm:Γ[23]?=some Ga)(gc:Γ[25]?=some Gp)(gn:Γ[26]?=some spNo)(gr:Γ[30]?=some Nm):Rd K Γ G Za5 Ep E7:=by
 rintro ds M Q Z ⟨ls,raws,r,lr,rfl,h,q⟩
 have hl:=h.rs.l
 have hll:=h.l
 have rl:((Yd raws).map Rw.d).length=raws.length:=by rw[Ab,Y7]
 delta Ep E7
 walk_at "ev"
 simp only[gm]
 refine⟨lr,89,ls,rfl,h.lr,h.g,hll,fun kvm M1 mr k1 em1 em2=>?_⟩
 try walk_at "ev"
 have h1:=h.ks k1
 have mk1:Mks ls lr mr M1:=⟨h.g,hll,h1.lr,kvm,em1,em2⟩
 refine Zb h1.lr ?_
 try walk_at "ev"
 refine⟨by omega,by rw[Ab];omega,?_⟩
 rw[Hy,Ab]
 refine Yi (fun i σ M2=>∃d0:Option D,σ=[d0,some (.ref lr)]∧Kp M1 M2∧Z4 M2 M1.length=some (intD ((Ay i).filter (stAt ls)))) ⟨none,rfl,Ks.new _ _,Z5 _ _ []⟩ (fun _ _ _ _ _=>trivial) ?_ ?_
 ·rintro i d σ M2 C hd ⟨d0,rfl,k2,e2⟩ hC
  have hi:i<ls.length:=by have:=(Ac.mp hd).1;rw[Zk] at this;exact this
  rw[Xn hi] at hd
  cases hd
  have g1:ls[i]?=some ls[i]:=Ag hi
  have fl:(intD ((Ay i).filter (stAt ls))).length≤400:=by
   unfold intD
   rw[Ab]
   have:=Du (stAt ls) (Ay i)
   rw[Im] at this
   omega
  have sk:stAt ls i=stop ls[i]:=by unfold stAt;rw[g1]
  rw[tg_one,Kr]
  try walk_at "ev"
  refine ix_l (k:=i) ((k1.trans k2).pL h.lr) (by rw[Ai,g1];rfl) (Vz ⟨Z0 (by decide),.inl ⟨s3,Zd _ _ [],rfl,rfl,?_⟩⟩)
  rw[Gc]
  try dsimp only
  have e3:=Z8 (N:=[.lst s3]) e2
  cases hs:stop ls[i] with
  | true=>
   rw[if_pos rfl]
   refine⟨_,e3,Z3 (by omega),hC _ _ ⟨_,rfl,(k2.app _).set (.inr (Nat.le_refl _)),?_⟩⟩
   rw[Z9 (Z6 (Z1 e3)),Iq,Dh,Dj (by rw[sk];exact hs)]
   unfold intD
   rw[Ao]
   rfl
  | false=>
   rw[if_neg Bf9]
   refine hC _ _ ⟨_,rfl,k2.app _,?_⟩
   rw[Iq,Dh,Dl (by rw[sk,hs];exact Bf9),Ls,Dg]
   exact e3
 rintro σ M2 ⟨d1,rfl,k2,e2⟩
 rw[Zk] at e2
 try walk_at "ev"
 have k12:=k1.trans k2
 refine Zb (k12.pL h.lr) ?_
 try walk_at "ev"
 have pl0:Z4 (M2++[Cell.lst [D.int ((ls.map Ln.d).length:Int)]]) M2.length=some [.int (ls.length:Nat)]:=by rw[Ab];exact Z5 _ _ []
 refine⟨Z0 (by decide),_,_,Z8 e2,pl0,Z0 ?_,?_⟩
 ·unfold intD
  rw[Ab,Aj]
  have:=Du (stAt ls) (Ay ls.length)
  rw[Im] at this
  omega
 have ep:intD ((Ay ls.length).filter (stAt ls))++[.int (ls.length:Nat)]=intD (Yx ls):=by unfold Yx intD;rw[Ao];rfl
 rw[ep]
 obtain⟨P0,hP0⟩:∃P0:Nat,P0=(M2++[Cell.lst [D.int ((ls.map Ln.d).length:Int)]]:Z2).length:=⟨_,rfl⟩
 obtain⟨S,hS⟩:∃S:Z2,S=M2++[Cell.lst [D.int ((ls.map Ln.d).length:Int)]]++[.lst (intD (Yx ls))]:=⟨_,rfl⟩
 have kS:Kp M2 S:=by rw[hS];exact(Ks.new _ _).app _
 have rP:Z4 S P0=some (intD (Yx ls)):=by rw[hS,hP0];exact Z5 _ _ []
 rw[←hP0,←hS]
 have kMS:Kp M S:=k12.trans kS
 have hS1:=h.ks kMS
 have lenP:M.length≤P0:=by rw[hP0,Ae];have:=k12.len;omega
 refine Zb (Z1 hS1.rs.r) ?_
 try walk_at "ev"
 refine⟨by omega,by rw[rl];omega,?_⟩
 rw[Hy,rl]
 refine Yi (fun i σ M3=>∃d0:Option D,σ=[d0,some (.ref r)]∧Kp S M3∧Z4 M3 S.length=some (intD ((Ay i).filter (njR raws)))) ⟨none,rfl,Ks.new _ _,Z5 _ _ []⟩ (fun _ _ _ _ _=>trivial) ?_ ?_
 ·rintro i d σ M3 C hd ⟨d0,rfl,k3,e3⟩ hC
  have hi:i<raws.length:=by have:=(Ac.mp hd).1;rw[Zk] at this;exact this
  rw[Xn hi] at hd
  cases hd
  have g1:raws[i]?=some raws[i]:=Ag hi
  have fl:(intD ((Ay i).filter (njR raws))).length≤2000:=by
   unfold intD
   rw[Ab]
   have:=Du (njR raws) (Ay i)
   rw[Im] at this
   omega
  have sk:njR raws i= !raws[i].isJ:=by unfold njR;rw[g1]
  have wj:=Raw.wd_j raws[i]
  rw[tg_one,Kr]
  try walk_at "ev"
  refine(hS1.ks k3).rs.at g1 (Raw.at1 ?_)
  try walk_at "ev"
  by_cases hj:raws[i].wd="jump"
  ·rw[wj.mp hj] at sk
   rw[if_neg (fun z=>z hj)]
   refine hC _ _ ⟨_,rfl,k3,?_⟩
   rw[Iq,Dh,Dl (by rw[sk];exact Bf9),Ls,Dg]
   exact e3
  ·have:raws[i].isJ=false:=by
    cases e:raws[i].isJ with
    | false=>rfl
    | true=>exact absurd (wj.mpr e) hj
   rw[this] at sk
   rw[if_pos hj]
   refine⟨_,e3,Z3 (by omega),hC _ _ ⟨_,rfl,k3.set (.inr (Nat.le_refl _)),?_⟩⟩
   rw[Z9 (Z6 (Z1 e3)),Iq,Dh,Dj (by rw[sk];rfl)]
   unfold intD
   rw[Ao]
   rfl
 rintro σ M3 ⟨d3,rfl,k3,e3⟩
 rw[Zk,Zl5 h.g h.rw] at e3
 have kM3:Kp M M3:=kMS.trans k3
 have mk3:Mks ls lr mr M3:=mk1.ks ((k2.trans kS).trans k3)
 simp only[gc,gr]
 refine⟨ls,lr,mr,0,rfl,mk3,Nat.zero_le _,fun v0 M4 rc0 k4=>?_⟩
 try walk_at "ev"
 have h4:=(h.ks kM3).ks k4
 refine⟨raws,r,0,rfl,h4.rs,by rw[h.rw.len];omega,fun w0 rw0=>?_⟩
 try walk_at "ev"
 refine⟨Z0 (by decide),Z0 (by decide),?_⟩
 have rest4:Zc M4 S.length=some (intD ((Yx ls).map (ph ls))):=Z1 (k4.pW e3)
 have plc4:Zc M4 P0=some (intD (Yx ls)):=Z1 ((k3.trans k4).pW rP)
 have lA:(M4++[Cell.lst [D.tup [D.int v0,D.int w0]]]:Z2).length=M4.length+1:=by simp
 rw[lA]
 obtain⟨S4,hS4⟩:∃S4:Z2,S4=M4++[Cell.lst [D.tup [D.int v0,D.int w0]]]++[Cell.dct []]:=⟨_,rfl⟩
 have kS4:Kp M4 S4:=by rw[hS4];exact(Ks.new _ _).app _
 have pz0:Pz ls raws M4.length (M4.length+1) 0 1 S4:=by
  refine⟨⟨[(v0,w0)],by rw[hS4];exact Z8 (Z5 _ _ []),fun x hx=>?_,Nat.le_refl _⟩,[],?_,Nat.le_refl _,fun q hq=>by simp at hq⟩
  ·rw[Am.mp hx];exact⟨0,Nat.zero_le _,rc0,rw0⟩
  ·rw[hS4,←lA];unfold Zs;rw[Dc (Nat.le_refl _),Nat.sub_self];rfl
 have kAll:Kp M S4:=(kM3.trans k4).trans kS4
 have lM4:M.length≤M4.length:=(kM3.trans k4).len
 have bS4:=h.ks kAll
 have mS4:=mk3.ks (k4.trans kS4)
 have lS:P0<M4.length∧S.length<M4.length∧lr<M4.length∧r<M4.length∧mr<M4.length:=by
  obtain⟨kk,mm,_⟩:=(mk3.ks k4).p
  exact⟨Z6 plc4,Z6 rest4,Z6 h4.lr,Z6 (Z1 h4.rs.r),V9 mm⟩
 have plc5:=kS4.pL plc4
 have rest5:=kS4.pL rest4
 rw[←hS4]
 refine⟨_,_,plc5,rest5,?_⟩
 have sll:=Z70 (ls:=ls)
 refine Xy (fun i σ M'=>∃(d7 d8 d9:Option D),σ=[some (.ref r),some (.ref lr),some (.ref mr),some (.ref P0),some (.ref S.length),some (.ref M4.length),some (.ref (M4.length+1)),d7,d8,d9]∧Ks (fun a=>a=M4.length∨a=M4.length+1) S4 M'∧Pz ls raws M4.length (M4.length+1) i (2 * i+1) M') ⟨none,none,none,rfl,Ks.refl _,pz0⟩ ?_ ?_ ?_
 ·rintro i σ M' _ ⟨d7,d8,d9,rfl,k,pz⟩
  exact⟨_,_,k.L (by omega) plc5,k.L (by omega) rest5,rfl⟩
 ·rintro i d σ M' P hd ⟨d7,d8,d9,rfl,k,pz⟩ hP
  obtain⟨a,b,ha,hb,rfl⟩:=Zn3 hd
  obtain⟨p,hp,rfl⟩:∃p,(Yx ls)[i]?=some p∧a= .int (p:Nat):=by
   unfold intD at ha
   rw[Ai] at ha
   obtain⟨p,h1,h2⟩:=Ch.mp ha
   exact⟨p,h1,h2.symm⟩
  have hbb:b= .int (ph ls p:Nat):=by
   unfold intD at hb
   rw[Ai,Ai,hp] at hb
   cases hb;rfl
  subst hbb
  have hi:i<ls.length+1:=by have:=(Ac.mp hp).1;omega
  have hmem:=Dx hp
  have kk:∀{M'},Ks (fun a=>a=M4.length∨a=M4.length+1) S4 M'→Both ls raws r lr M'∧Mks ls lr mr M':=by
   intro M' k
   obtain⟨kvs,m1,m2⟩:=mS4.p
   exact⟨⟨⟨k.W (by omega) bS4.rs.r,hl,bS4.rs.j,bS4.rs.t⟩,h.rw,h.g,hll,h.z,k.L (by omega) bS4.lr⟩,⟨h.g,hll,k.L (by omega) bS4.lr,kvs,k.P (by omega) m1,m2⟩⟩
  obtain⟨kvs,c1,c2,pz1⟩:=pz.put hp
  have k1':Ks (fun a=>a=M4.length∨a=M4.length+1) S4 (M'.set (M4.length+1) (.dct (putD kvs (Hb (p:Int)) (.int (ph ls p:Nat))))):=k.set (.inl (.inr rfl))
  generalize hM1:(M'.set (M4.length+1) (.dct (putD kvs (Hb (p:Int)) (.int (ph ls p:Nat)))))=N1 at pz1 k1'
  obtain⟨b1,m1⟩:=kk k1'
  have fin2:∀(B:DEnv→Z2→Prop) (N:Z2) (v:Int),Ks (fun a=>a=M4.length∨a=M4.length+1) S4 N→Pz ls raws M4.length (M4.length+1) (i+1) (2 * i+2) N→p<ls.length→RC (JR raws) (ph ls (p+1)) v→tss ⟨K,Γ,G⟩ noX Te {nx:=fun σ' M'=>P σ' M',rt:=Q,bk:=B,ct:=P} [some (.ref r),some (.ref lr),some (.ref mr),some (.ref P0),some (.ref S.length),some (.ref M4.length),some (.ref (M4.length+1)),some (.int (p:Nat)),some (.int (ph ls p:Nat)),some (.int v)] N:=by
   intro B N v kN pN hpl rv
   obtain⟨_,mN⟩:=kk kN
   obtain⟨ps,y1,_⟩:=pN.p
   delta Te
   walk_at "ev"
   simp only[gc]
   refine⟨Z7 (Z1 y1),ls,lr,mr,p+1,rfl,mN,hpl,fun u N2 ru kN2=>?_⟩
   try walk_at "ev"
   obtain⟨xs,x1,x2,x3⟩:=(pN.ks kN2).add (x:=(u,v)) ⟨p+1,hpl,ru,rv⟩
   exact⟨Z0 (by decide),xs,x1,Z3 (by omega),hP _ _ ⟨_,_,_,rfl,(kN.trans (kN2.mono fun _ _ z=>z.elim)).set (.inl (.inl rfl)),x3⟩⟩
  have out:P [some (.ref r),some (.ref lr),some (.ref mr),some (.ref P0),some (.ref S.length),some (.ref M4.length),some (.ref (M4.length+1)),some (.int (p:Nat)),some (.int (ph ls p:Nat)),d9] N1:=hP _ _ ⟨_,_,_,rfl,k1',by obtain⟨⟨ps,y1,y2,y3⟩,y4⟩:=pz1;exact⟨⟨ps,y1,y2,by omega⟩,y4⟩⟩
  have pz2:Pz ls raws M4.length (M4.length+1) (i+1) (2 * i+2) N1:=by obtain⟨⟨ps,y1,y2,y3⟩,y4⟩:=pz1;exact⟨⟨ps,y1,y2,by omega⟩,y4⟩
  delta Pc
  walk_at "ev"
  refine .inr (.inl ⟨kvs,Hb (p:Int),c1,rfl,Z3 (by omega),?_⟩)
  rw[hM1]
  refine Zb b1.lr ?_
  try walk_at "ev"
  rw[Ab]
  rcases Z32 hmem with rfl | ⟨l,hl1,hst⟩
  ·rw[if_neg (by omega),if_neg (by omega)]
   exact out
  ·have hpl:=(Ac.mp hl1).1
   rw[if_pos (by omega)]
   refine m1.at hl1 (Vz ?_)
   try walk_at "ev"
   cases l with
   | fin=>
    rw[if_neg (fun z=>z rfl)]
    exact out
   | sum x a s b=>
    have e1:ph ls (p+1)=ph ls p+1:=(N4 (p:= .sum x a s b) (by rw[Zo hl1];rfl) hpl).2
    rw[if_pos (by simp only[wd];decide+kernel)]
    simp only[gr]
    refine⟨raws,r,ph ls (p+1),by rw[e1];rfl,b1.rs,Zz1 h.rw hpl,fun v rv=>?_⟩
    try walk_at "ev"
    refine m1.at hl1 (Vz ?_)
    try walk_at "ev"
    rw[if_neg (by simp only[wd];decide+kernel)]
    exact fin2 _ _ _ k1' pz2 hpl rv
   | cond a s b=>
    have hc:isC ls p:=⟨a,s,b,hl1⟩
    have e1:=ph_C hc
    rw[if_pos (by simp only[wd];decide+kernel)]
    simp only[gr,gn,gc]
    refine⟨raws,r,ph ls p+1,rfl,b1.rs,by have:=Zz1 h.rw (show p+1≤ls.length from hpl);omega,fun v rv=>?_⟩
    try walk_at "ev"
    refine m1.at hl1 (Vz ?_)
    try walk_at "ev"
    rw[if_pos (by simp only[wd])]
    obtain⟨ps,y1,_⟩:=pz1.p
    refine⟨Z7 (Z1 y1),ls,lr,mr,p,rfl,m1,hc,?_⟩
    try walk_at "ev"
    have hnl:=Yb6 h.g hc
    refine⟨ls,lr,mr,noP ls p,rfl,m1,hnl,fun u N2 ru kN2=>?_⟩
    try walk_at "ev"
    have rv2:RC (JR raws) (ph ls (noP ls p)) v:=RC.post (.step (Y73 h.g h.rw hc) (.refl _)) rv
    obtain⟨xs,x1,x2,x3⟩:=(pz1.ks kN2).add (x:=(u,v)) ⟨_,hnl,ru,rv2⟩
    have kN3:Ks (fun a=>a=M4.length∨a=M4.length+1) S4 (N2.set M4.length (.lst (xs++[prD (u,v)]))):=(k1'.trans (kN2.mono fun _ _ z=>z.elim)).set (.inl (.inl rfl))
    obtain⟨b3,m3⟩:=kk kN3
    refine⟨Z0 (by decide),xs,x1,Z3 (by omega),b3.rs.at (Zr0 h.g h.rw hl1) ⟨_,ati5,?_⟩⟩
    try walk_at "ev"
    refine⟨raws,r,ph ls (p+1),rfl,b3.rs,Zz1 h.rw hpl,fun v2 rv3=>?_⟩
    try walk_at "ev"
    exact fin2 _ _ _ kN3 x3 hpl rv3
   | _=>cases hst
 ·rintro σ M' ⟨d7,d8,d9,rfl,k,pz⟩
  obtain⟨ps,p1,p2,p3⟩:=pz.p
  obtain⟨kvs,c1,c2,c3⟩:=pz.d
  delta Qn
  walk_at "ev"
  refine⟨Z0 (by decide),?_⟩
  have zl:(zipT (intD (Yx ls)) (intD ((Yx ls).map (ph ls)))).length=(Yx ls).length:=by unfold zipT intD;simp
  rw[zl,Ht] at c3
  have kM':Kp M M':=(kAll.mono fun _ _ z=>z.elim).trans k |>.mono fun a hlt hh=>by omega
  exact q ps kvs _ _ _ _ (kM'.app _) lM4 (by omega) (Z8 p1) (by rw[W5 (Rn (Yt c1))];exact c1) (Z5 _ _ []) p2 c3 (by rw[zl] at p3;omega)
end
open LN CY
def Z19:DSp:=fun ds M Q _=>∃(ls:List Ln) (raws:List Raw) (r lr:Nat),ds=[.ref r,.ref lr]∧Both ls raws r lr M∧∀M',Kp M M'→Q (.bl true) M'
structure Sz(ls:List Ln)(raws:List Raw)(A E i:Nat)(M:Z2):Prop where
 d:∃kvs:List (Key×D),Zs M A=some kvs∧kvs.length≤i∧(∀(h:Int) v,valD kvs (Hb h)=some v→∃(l:Nat) (w:Int),h= -1 - l∧v= .int w∧RC (JR raws) (ph ls l) w)∧
  ∃ws:List Int,Z4 M E=some (ws.map D.int)∧ws.length≤i∧∀w∈ws,∃l:Nat,w= -1 - (ph ls (l+1):Int)∧empt ls l=true∧(valD kvs (Hb (-1 - ((l+1:Nat):Int)))).isSome=true
theorem Zq8{raws:List Raw}{p:Nat}{w:Int}(h:raws[p]?=some (.jump p))(rc:RC (JR raws) p w):w= -1 - p:=by
 have hj:=JR_j h
 have all:∀x,Orb (JR raws) p x→x=p:=by
  intro x o
  generalize hq:p=q at o
  have:∀{q x},Orb (JR raws) q x→q=p→x=p:=by
   intro q x o
   induction o with
   | refl _=>exact id
   | step e _ ih=>intro eq;subst eq;rw[hj] at e;cases e;exact ih rfl
  rw[←hq]
  exact this o hq.symm
 exact rc.uniq (.inr ⟨p,rfl,.refl _,⟨1,Nat.one_pos,by show(JR raws p).bind _=_;rw[hj];rfl⟩,fun x o=>by rw[all x o];exact Nat.le_refl _⟩)
theorem Ot{M:Z2}{n a:Nat}{c:Cell}(h:a≠n):Z4 (M.set a c) n=Z4 M n:=Zp (Y4 h)
theorem Sz.up{ls:List Ln}{raws:List Raw}{A E i:Nat}{M:Z2}(h:Sz ls raws A E i M):Sz ls raws A E (i+1) M:=by
 obtain⟨kvs,a,b,c,ws,d,e,f⟩:=h.d
 exact⟨kvs,a,by omega,c,ws,d,by omega,f⟩
theorem Y53{m:Nat}{ls:List Ln}(g:Gd m ls){p q:Nat}(o:Orb (NX ls) p q):p≤ls.length→q≤ls.length:=by
 induction o with
 | refl _=>exact id
 | step e _ ih=>
  intro _
  obtain⟨l,h1,h2,_⟩:=Zk2 e
  obtain⟨y,h3,h4⟩:=Zq2 g h1 h2
  rw[e] at h3
  cases h3
  exact ih h4
section
variable{K:Af}{Γ:List DSp}{G:List D}
theorem Zs4(gp:Γ[35]?=some Za5):Rd K Γ G Z19 Bo Z81:=by
 rintro ds M Q Z ⟨ls,raws,r,lr,rfl,h,q⟩
 have hl:=h.rs.l
 have hll:=h.l
 have rl:((Yd raws).map Rw.d).length=raws.length:=by rw[Ab,Y7]
 delta Bo Z81
 walk_at "ev"
 simp only[gp]
 refine⟨ls,raws,r,lr,rfl,h,fun ps kvg M1 a b c k1 la lb ra rb rc hps hgo psl=>?_⟩
 try walk_at "ev"
 refine⟨_,Z1 rc,rfl,?_⟩
 try walk_at "ev"
 refine⟨Z0 (by decide),?_⟩
 try walk_at "ev"
 have lA:(M1++[Cell.dct []]:Z2).length=M1.length+1:=by simp
 rw[lA]
 obtain⟨S,hS⟩:∃S:Z2,S=M1++[Cell.dct []]++[Cell.lst []]:=⟨_,rfl⟩
 have kS:Kp M1 S:=by rw[hS];exact(Ks.new _ _).app _
 have sz0:Sz ls raws M1.length (M1.length+1) 0 S:=by
  refine⟨[],?_,Nat.le_refl _,fun h v z=>(by cases z),[],?_,Nat.le_refl _,fun w hw=>by cases hw⟩
  ·rw[hS,Bs];unfold Zs;rw[Dc (Nat.le_refl _),Nat.sub_self];rfl
  ·rw[hS,←lA];exact Z5 _ _ []
 rw[←hS]
 have kMS:=k1.trans kS
 have raS:=kS.pW ra
 have rbS:Zs S b=some kvg:=by rw[W5 (kS.at' b (fun z=>z) (Yt rb))];exact rb
 have lts:a<M1.length∧b<M1.length:=⟨Z6 (Z1 ra),Yt rb⟩
 have hS1:=h.ks kMS
 have ltr:r<M1.length∧lr<M1.length:=by have:=h.ks k1;exact⟨Z6 (Z1 this.rs.r),Z6 this.lr⟩
 refine⟨_,Z1 raS,?_⟩
 refine Xy (fun i σ M'=>∃(d6 d7 d8:Option D),σ=[some (.ref r),some (.ref lr),some (.ref a),some (.ref b),some (.ref M1.length),some (.ref (M1.length+1)),d6,d7,d8]∧Ks (fun x=>x=M1.length∨x=M1.length+1) S M'∧Sz ls raws M1.length (M1.length+1) i M') ⟨none,none,none,rfl,Ks.refl _,sz0⟩ ?_ ?_ ?_
 ·rintro i σ M' _ ⟨d6,d7,d8,rfl,k,sz⟩
  exact k.L (by omega) (Z1 raS)
 ·rintro i d σ M' P hd ⟨d6,d7,d8,rfl,k,sz⟩ hP
  obtain⟨x,hx,rfl⟩:∃x,ps[i]?=some x∧d=prD x:=by
   rw[Ai] at hd
   obtain⟨x,h1,h2⟩:=Ch.mp hd
   exact⟨x,h1,h2.symm⟩
  obtain⟨u,v⟩:=x
  obtain⟨p,hp,ru,rv⟩:=hps _ (Dx hx)
  simp only at ru rv
  have hbM:Both ls raws r lr M':=⟨⟨k.W (by omega) hS1.rs.r,hl,hS1.rs.j,hS1.rs.t⟩,h.rw,h.g,hll,h.z,k.L (by omega) hS1.lr⟩
  have rbM:Zs M' b=some kvg:=by rw[W5 (k.at' b (by omega) (Yt rbS))];exact rbS
  have nl:i<ps.length:=(Ac.mp hx).1
  simp only[Nb,prD]
  walk_at "ev"
  rcases Ya0 (Ya3 h.g h.rw) (Ya9 h.g h.rw) ru rv with⟨q',rfl,hq1,hq2,rfl⟩ | ⟨l,rfl,cy,ol,hv,rcl⟩
  ·rw[if_pos (by omega)]
   refine ix_d rbM (k:= .int (q':Int)) rfl (hgo q' (Zj3 (Y53 h.g hq2 hp) hq1 h.g)) ?_
   try walk_at "ev"
   rw[if_neg (fun z=>z trivial)]
   delta Rj
   walk_at "ev"
   rw[if_neg (by omega)]
   exact hP _ _ ⟨_,_,_,rfl,k,sz.up⟩
  ·rw[if_neg (by omega),if_neg (by omega)]
   delta Rj
   walk_at "ev"
   rw[if_pos (by omega),if_pos (by omega)]
   obtain⟨kvs,z1,z2,z3,ws,z4,z5,z6⟩:=id sz.d
   have gv:(valD kvs (Hb (-1 - (l:Int)))).getD (.int v)= .int v:=by
    cases e:valD kvs (Hb (-1 - (l:Int))) with
    | none=>rfl
    | some d=>
     obtain⟨l',w,e1,rfl,e2⟩:=z3 _ _ e
     have:l=l':=by omega
     subst this
     rw[rcl.uniq e2]
     rfl
   refine⟨by rw[z1];rfl,kvs,_,z1,rfl,?_⟩
   rw[gv]
   try walk_at "ev"
   rw[if_neg (fun z=>z trivial)]
   obtain⟨yl,hyl⟩:∃y,NX ls l=some y:=by
    cases e:NX ls l with
    | none=>exact absurd e cy.goes
    | some y=>exact⟨y,rfl⟩
   obtain⟨ll,hll1,_,_⟩:=Zk2 hyl
   have fin:∀(B:DEnv→Z2→Prop) (N:Z2) (ws':List Int),Ks (fun x=>x=M1.length∨x=M1.length+1) S N→Zs N M1.length=some kvs→Z4 N (M1.length+1)=some (ws'.map D.int)→ws'.length≤i+1→(∀w∈ws',∃l0:Nat,w= -1 - (ph ls (l0+1):Int)∧empt ls l0=true∧((valD kvs (Hb (-1 - ((l0+1:Nat):Int)))).isSome=true∨l0+1=l))→tss ⟨K,Γ,G⟩ noX Ry {nx:=fun σ' M'=>P σ' M',rt:=Q,bk:=B,ct:=P} [some (.ref r),some (.ref lr),some (.ref a),some (.ref b),some (.ref M1.length),some (.ref (M1.length+1)),some (.int (-1 - (l:Int))),some (.int v),some (.int (-1 - (-1 - (l:Int))))] N:=by
    intro B N ws' kN y1 y2 y3 y4
    delta Ry
    walk_at "ev"
    refine .inr (.inl ⟨kvs,Hb (-1 - (l:Int)),y1,rfl,Z3 (by omega),hP _ _ ⟨_,_,_,rfl,kN.set (.inl (.inl rfl)),_,J8 (Yt y1),by have:=Ee kvs (Hb (-1 - (l:Int))) (.int v);omega,fun h' v' e=>?_,ws',by rw[Ot (by omega)];exact y2,y3,fun w hw=>?_⟩⟩)
    ·rw[S5] at e
     split at e
     ·rename_i hh
      cases e
      exact⟨l,v,(Hb.inj hh).symm,rfl,rcl⟩
     ·exact z3 h' v' e
    ·obtain⟨l0,w1,w2,w3⟩:=y4 w hw
     refine⟨l0,w1,w2,?_⟩
     rw[S5]
     split
     ·rfl
     ·rename_i hne
      rcases w3 with w3 | w3
      ·exact w3
      ·exact absurd (by rw[w3]) hne
   have old:∀w∈ws,∃l0:Nat,w= -1 - (ph ls (l0+1):Int)∧empt ls l0=true∧((valD kvs (Hb (-1 - ((l0+1:Nat):Int)))).isSome=true∨l0+1=l):=fun w hw=>by obtain⟨l0,w1,w2,w3⟩:=z6 w hw;exact⟨l0,w1,w2,.inl w3⟩
   have nl2:i<5000:=by omega
   delta Jm
   walk_at "ev"
   refine .inr (.inl ⟨kvs,_,z1,rfl,?_⟩)
   cases e:valD kvs (Hb (-1 - (l:Int))) with
   | some d=>
    try walk_at "ev"
    simp only[Option.isSome_some]
    try walk_at "ev"
    exact fin _ _ ws k z1 z4 (by omega) old
   | none=>
    simp only[Option.isSome_none]
    try walk_at "ev"
    have el:(-1 - (-1 - (l:Int)))=((l:Nat):Int):=by omega
    rw[el] at fin ⊢
    have atl:(ls.map Ln.d)[l]?=some ll.d:=by rw[Ai,hll1];rfl
    refine ix_l (k:=l) hbM.lr atl (Vz ?_)
    try walk_at "ev"
    by_cases w1:wd ll="done"
    ·rw[if_pos w1]
     have hd:ll= .don:=by
      have:=Z13 ll
      rw[decide_eq_true w1] at this
      cases ll<;>first | rfl | (cases this;done)
     subst hd
     obtain⟨s0,_,_,_,C⟩:=So h.g hll1
     obtain⟨l1,rfl⟩:∃l1,l=l1+1:=⟨l - 1,by have:=C.1;omega⟩
     obtain⟨lm,hlm⟩:∃x,ls[l1]?=some x:=⟨_,Ag (by have:=(Ac.mp hll1).1;omega)⟩
     rw[show(((l1+1:Nat):Int) - 1)=((l1:Nat):Int) by omega]
     refine ix_l (k:=l1) hbM.lr (by rw[Ai,hlm];rfl) (Vz ?_)
     try walk_at "ev"
     by_cases w2:wd lm="round"
     ·rw[if_pos w2]
      have hem:empt ls l1=true:=by
       unfold empt
       rw[hlm,hll1,←Za9,decide_eq_true w2]
       rfl
      obtain⟨_,_,hrow,_⟩:=E1 h.g h.rw hem
      have hv2:=Zq8 hrow rcl
      have ev:-1 - v=((ph ls (l1+1):Nat):Int):=by omega
      rw[ev]
      refine hbM.rs.at hrow ⟨_,ati2,?_⟩
      try walk_at "ev"
      rw[if_pos (show(!decide True)=false by decide)]
      have nin:¬v∈ws:=fun hw=>by
       obtain⟨l0,y1,y2,y3⟩:=z6 v hw
       have:=Zc2 h.g h.rw y2 hem (by omega)
       subst this
       rw[e] at y3
       cases y3
      refine .inl ⟨_,Z1 z4,rfl,Js ws,?_⟩
      rw[Et,decide_eq_false nin]
      dsimp only
      rw[if_neg Bf9]
      delta Nu
      walk_at "ev"
      have ltE:=Z6 (Z1 z4)
      refine⟨Z7 (Z1 z4),_,z4,Z3 (by rw[Ab];omega),fin _ _ (ws++[v]) (k.set (.inl (.inr rfl))) (by rw[W5 (Y4 (by omega))];exact z1) (by rw[Z9 ltE,Ao];rfl) (by rw[Ae,Aj];omega) fun w hw=>?_⟩
      rcases Az.mp hw with hw | hw
      ·exact old w hw
      ·rw[Am.mp hw];exact⟨l1,by omega,hem,.inr rfl⟩
     ·rw[if_neg w2]
      try rw[if_neg w2]
      exact fin _ _ ws k z1 z4 (by omega) old
    ·rw[if_neg w1]
     try rw[if_neg w1]
     exact fin _ _ ws k z1 z4 (by omega) old
 ·rintro σ M' ⟨d6,d7,d8,rfl,k,sz⟩
  delta N8
  walk_at "ev"
  exact q _ ((kMS.mono fun _ _ z=>z.elim).trans k |>.mono fun a hlt hh=>by have:=k1.len;omega)
end
open LN CY
theorem Y14{M:Z2}(r:Rw):AL M 1 r.d r.d:=by
 have key:∀xs:List D,(∀x∈xs,fN x=true)→AL M 1 (.tup xs) (.tup xs):=fun xs h=> .inr (.inl ⟨xs,xs,rfl,rfl,rfl,fun i a b e1 e2=>by
  rw[e1] at e2
  cases e2
  exact⟨rfl,h a (Dx e1)⟩⟩)
 cases r with
 | sum k x a s b=>exact key _ (by intro x hx;simp only[Aq,Db,or_false] at hx;rcases hx with rfl | rfl | rfl | rfl | rfl | rfl<;>first | rfl | exact Opd.fN _)
 | test k a s b t=>exact key _ (by intro x hx;simp only[Aq,Db,or_false] at hx;rcases hx with rfl | rfl | rfl | rfl | rfl | rfl<;>first | rfl | exact Opd.fN _)
 | jump k t=>exact key _ (by intro x hx;simp only[Aq,Db,or_false] at hx;rcases hx with rfl | rfl | rfl<;>rfl)
 | fin k=>exact key _ (by intro x hx;simp only[Aq,Db,or_false] at hx;rcases hx with rfl | rfl<;>rfl)
theorem Z57{M:Z2}{a b:Nat}{rs:List Rw}(h1:Z4 M a=some (rs.map Rw.d))(h2:Z4 M b=some (rs.map Rw.d)):AL M 180 (.ref a) (.ref b):=
 AL.up (n:=2) (.inr (.inr ⟨a,b,_,_,rfl,rfl,h1,h2,rfl,fun i x y e1 e2=>by
  rw[e1] at e2
  cases e2
  rw[Ai] at e1
  obtain⟨r,_,rfl⟩:=Ch.mp e1
  exact Y14 r⟩)) (by decide)
theorem Nr{C:Nat→Prop}{M:Z2}{m r:Nat}{ls:List Ln}{raws:List Raw}{Q:DK}{Z:DX}(F:Fm C M m (nest ls) r)(g:Gd 89 ls)(hl:ls.length≤400)(hr:Rws ls raws)(q:∀M' r',Kp M M'→Z4 M' r'=some ((Yd raws).map Rw.d)→M.length≤r'→Q (.ref r') M'):Vj [.ref r] M Q Z:=by
 obtain⟨ds,e,rt⟩:=F.e
 have ec:=Zu7 g.w.run
 have cl400:(cl ls).length≤1000:=Nat.le_trans (by
  have:∀ls:List Ln,(cl ls).length≤ls.length:=by
   intro ls
   induction ls with
   | nil=>exact Nat.le_refl _
   | cons l ls ih=>unfold cl;split<;>simp only[Ar]<;>omega
  exact this ls) (Nat.le_trans hl (by decide))
 have cr:=Z29 g ls.length 0 (by omega)
 exact⟨C,nest ls,r,ds,(q2 ls ls.length).c,raws,rfl,e,rt,fun c hc=>(F.c c hc).2,by rw[ec];exact cl400,by rw[ec];exact cr,hr,q⟩
section
variable{K:Af}{Γ:List DSp}{G:List D}
theorem Y40(gw:Γ[7]?=some Vj)(gs:Γ[33]?=some Gk)(gd:Γ[34]?=some Gn)(ge:Γ[36]?=some Z19)(gn:Γ[22]?=some Sb)(ga:Γ[27]?=some (Xe 180)){ls:List Ln}{M:Z2}{v0:Option D}{lr:Nat}{Q:DK}(hr:Z4 M lr=some (ls.map Ln.d))(h0:0<ls.length)(hl:ls.length≤400)(hg:Gd 89 ls)(q:∀M',Q (.bl true) M'):
  tss ⟨K,Γ,G⟩ noX Gj {nx:=fun _ M=>Q .non M,rt:=Q} [v0,some (.ref lr),none,none,none] M:=by
 obtain⟨raws,hR⟩:=Y10 hg
 have rle:=Z58 hg hR
 have cle:(ls.filter cnt).length≤400:=Nat.le_trans (Du _ _) hl
 have rl:((Yd raws).map Rw.d).length=raws.length:=by rw[Ab,Y7]
 delta Gj
 walk_at "ev"
 simp only[gn,gw,gs,gd,ge]
 refine⟨lr,ls,rfl,Z1 hr,hl,hg.w.run,fun C M1 fr k1 F1=>?_⟩
 try walk_at "ev"
 refine Nr F1 hg hl hR fun M2 rr k2 e2 l2=>?_
 try walk_at "ev"
 have k12:=k1.trans k2
 have b2:Both ls raws rr lr M2:=⟨hR.rs e2 (by omega),hR,hg,hl,h0,Z1 (k12.pW hr)⟩
 refine⟨ls,raws,rr,lr,rfl,b2,fun M3 k3=>?_⟩
 try walk_at "ev"
 refine⟨ls,raws,rr,lr,rfl,b2.ks k3,fun M4 k4=>?_⟩
 try walk_at "ev"
 refine⟨ls,raws,rr,lr,rfl,(b2.ks k3).ks k4,fun M5 k5=>?_⟩
 try walk_at "ev"
 have k25:=(k3.trans k4).trans k5
 have k15:=k12.trans k25
 have F5:=(F1.keep k2).keep k25
 have b5:=b2.ks k25
 rw[if_neg (by decide)]
 delta Z88
 walk_at "ev"
 simp only[gn,ga]
 refine⟨lr,ls,rfl,b5.lr,hl,hg.w.run,fun C6 M6 r6 k6 F6=>?_⟩
 try walk_at "ev"
 have F5':=F5.keep k6
 refine⟨_,_,rfl,Y00 hg.w F5' F6,?_⟩
 try walk_at "ev"
 have b6:=b5.ks k6
 delta Bi
 walk_at "ev"
 simp only[gw,ga]
 rw[if_neg (by decide)]
 have itm:N9 M6 (.ref rr)=some ((Yd raws).map Rw.d):=by unfold N9;first | exact Z1 b6.rs.r | (rw[Z1 b6.rs.r])
 refine⟨_,itm,Z0 (by decide),Z0 (by decide),Z0 (by decide),?_⟩
 have l1:(M6++[Cell.lst ((Yd raws).map Rw.d)]:Z2).length=M6.length+1:=by simp
 have l2':(M6++[Cell.lst ((Yd raws).map Rw.d)]++[Cell.lst []]:Z2).length=M6.length+2:=by simp
 rw[l1,l2']
 obtain⟨S,hS⟩:∃S:Z2,S=M6++[Cell.lst ((Yd raws).map Rw.d)]++[Cell.lst []]++[Cell.lst [D.tup [.str "round",.int 7,.ref (M6.length+1)]]]:=⟨_,rfl⟩
 have kS:Kp M6 S:=by rw[hS];exact((Ks.new _ _).app _).app _
 have s0:Z4 S M6.length=some ((Yd raws).map Rw.d):=by rw[hS];exact Z8 (Z8 (Z5 _ _ []))
 have s1:Z4 S (M6.length+1)=some []:=by rw[hS,←l1];exact Z8 (Z5 _ _ [])
 have s2:Z4 S (M6.length+2)=some [.tup [.str "round",.int 7,.ref (M6.length+1)]]:=by rw[hS,←l2'];exact Z5 _ _ []
 rw[←hS]
 refine⟨(·=M6.length+1),[.home true 7 []],M6.length+2,_,⟨[.jump (.agn,7)],up (up c0.f (.agn,7) 0) (.lve,7) 1,[]⟩,[.jump 0,.fin],rfl,s2,⟨_,[],rfl,⟨M6.length+1,[],rfl,rfl,s1,rfl⟩,rfl⟩,fun c hc=>by rw[show c=_ from hc];exact Z6 (Z1 s1),by show 2≤1000;decide,rfl,rfl,fun M7 r7 k7 e7 _=>?_⟩
 refine Zb (Z1 e7) ?_
 try walk_at "ev"
 rw[if_pos (by decide)]
 have b7:=(b6.ks kS).ks k7
 have s7:=k7.pW s0
 refine⟨_,_,rfl,Z57 b7.rs.r s7,?_⟩
 try walk_at "ev"
 have F7:=((F5.keep k6).keep kS).keep k7
 have frl:fr<M1.length:=by obtain⟨_,z,_⟩:=F1.e;exact Z6 (Z1 z)
 have lk:M1.length≤M6.length:=Nat.le_trans (k2.trans k25).len k6.len
 delta Z77
 walk_at "ev"
 simp only[gw,ga]
 obtain⟨ds7,f1,f2⟩:=F7.e
 have FS:Fm C (M7.set rr (.lst [])) M.length (nest ls) fr:=by
  refine⟨⟨ds7,?_,f2.keep (fun _ h=>h) fun c hc=>Y4 ?_⟩,fun c hc=>?_,F7.n⟩
  ·rw[Za (by omega)];exact f1
  ·have:=(F1.c c hc).2;omega
  ·rw[Dt];exact F7.c c hc
 have ne:rr<M6.length:=Z6 (Z1 b6.rs.r)
 have s8:Z4 (M7.set rr (.lst [])) M6.length=some ((Yd raws).map Rw.d):=by rw[Za (by omega)];exact s7
 refine⟨Z7 (Z1 b7.rs.r),_,b7.rs.r,?_⟩
 refine Nr FS hg hl hR fun M8 r8 k8 e8 _=>?_
 try walk_at "ev"
 exact⟨_,_,rfl,Z57 e8 (k8.pW s8),q _⟩
theorem Yd8(gm:Γ[9]?=some C9)(gl:Γ[21]?=some Gv)(gp:Γ[28]?=some Z51)(gv:Γ[29]?=some Nh)(gw:Γ[7]?=some Vj)(gs:Γ[33]?=some Gk)(gd:Γ[34]?=some Gn)(ge:Γ[36]?=some Z19)(gn:Γ[22]?=some Sb)(ga:Γ[27]?=some (Xe 180)):Rd K Γ G B8 Zs3 Zg0:=by
 rintro ds M Q Z ⟨ns,rfl,rfl,hn,_,q⟩
 have hm:Zc [.frz (ns.map .int)] 0=some (ns.map .int):=rfl
 generalize [Cell.frz (ns.map .int)]=M at hm ⊢
 have hs:Scr M 0:=⟨ns,hm,hn⟩
 delta Zs3 Zg0
 walk_at "ev"
 refine Zb hm ?_
 walk_at "ev"
 simp only[gl]
 rw[Ab]
 obtain⟨many,h1,h60,em⟩:∃many:Nat,1≤many∧many≤60∧(if (if (60:Int)< (ns.length:Int) then(60:Int) else(ns.length:Int)) >1 then(if (60:Int)< (ns.length:Int) then(60:Int) else(ns.length:Int)) else 1)=many:=by
  refine⟨(if (if (60:Int)< (ns.length:Int) then(60:Int) else(ns.length:Int)) >1 then(if (60:Int)< (ns.length:Int) then(60:Int) else(ns.length:Int)) else 1).toNat,?_,?_,?_⟩
  ·split<;>split at * <;>omega
  ·split<;>split at * <;>omega
  ·rw[Int.toNat_of_nonneg]
   split<;>split at * <;>omega
 rw[em]
 refine⟨0,many,ns,rfl,hm,hn,h60,fun ls M1 r1 dr hl hml k1 e1 m1=>?_⟩
 have G0:=dr.gd hl
 try walk_at "ev"
 simp only[gm,gv,gp]
 have hs1:Scr M1 0:=hs.ks k1 fun z=>z
 refine⟨0,951,rfl,hs1,by decide,fun v hv _=>?_⟩
 walk_at "ev"
 refine⟨Zf (by decide) (by decide),?_⟩
 have G1:Gd 89 ls:=⟨G0.w.mono (by decide),G0.n⟩
 split
 ·refine⟨0,952,rfl,hs1,by decide,fun u hu _=>?_⟩
  try walk_at "ev"
  refine⟨r1,ls,rfl,Z1 e1,G0.w,fun d d1 d61 wd=>?_⟩
  try walk_at "ev"
  refine⟨r1,u,90 - d,d - 1,ls,by rw[show(90:Int) - d=((90 - d:Nat):Int) by omega],e1,⟨wd,G0.n⟩,hl,by omega,fun ms M2 r2 g2 l2 l2' k2 e2=>?_⟩
  exact Y40 gw gs gd ge gn ga e2 (by omega) (by omega) g2 q
 ·exact Y40 gw gs gd ge gn ga e1 (by omega) (by omega) G1 q
end
theorem ad{P:Program}{w:World}{K:Af}{mg:Str→Option Value}{base:Heap}{Γ:List DSp}{G:List D}{FN GN BN:List Str}{lv:Nat}{x:Str}{st:Stmt}{ps N:List Str}{b:Ss}{sp:DSp}(Pr:Prg P w K mg base ⟨K,Γ,G⟩ FN GN BN lv)(n:Nat)(T:DW K mg x st ps)(r:Rd K Γ G sp b N)(S:FnScope N ps (Zt st):=by exact⟨rfl,rfl,rfl,by decide+kernel,rfl,by decide+kernel,by decide+kernel⟩)(hc:Ol (ck0 N st FN GN BN) b (Yp st)=true:=by decide+kernel)
  (hl:∀ds M Q Z,sp ds M Q Z→ds.length=ps.length:=by(rintro _ _ _ _ h;first | (obtain⟨_,rfl,_⟩:=h;rfl) | (obtain⟨_,_,rfl,_⟩:=h;rfl) | (obtain⟨_,_,_,rfl,_⟩:=h;rfl) | (obtain⟨_,_,_,_,rfl,_⟩:=h;rfl) | (obtain⟨_,_,_,_,_,rfl,_⟩:=h;rfl) | (obtain⟨_,_,_,_,_,_,rfl,_⟩:=h;rfl) | (obtain⟨rfl,_⟩:=h;rfl) | (obtain⟨_,_,_,_,_,_,_,rfl,_⟩:=h;rfl) | (obtain⟨_,_,_,_,_,_,_,_,rfl,_⟩:=h;rfl))) (hx:FN[n]?=some x:=by rfl):Prg P w K mg base ⟨K,Γ.set n sp,G⟩ FN GN BN (lv+1):=Pr.add n hx (fn0 Pr T.F S hc hl r) (Nat.le_refl _) (Nat.le_succ _) T.g T.k T.b
section
variable{K:Af}{mg:Str→Option Value}(T0:DW K mg "line_of" Z93 ["statement"])(T1:DW K mg "told_within" O1 ["statement"])(T2:DW K mg "lines_of" B2 ["form"])(T3:DW K mg "with_goal" Jx ["row","places"])(T4:DW K mg "begin_rows" N5 ["line","told","places"])(T5:DW K mg "begin_no" C4 ["choice","told","places"])(T6:DW K mg "finish_rows" Os ["done","told","places"])(T7:DW K mg "rows_of" Z99 ["form"])(T8:DW K mg "_law_raw" Y44 ["_law_script","_law_k"])(T9:DW K mg "_law_mix" Y04 ["_law_script","_law_k"])(T10:DW K mg "_law_kept" Zy9 [])(T11:DW K mg "_law_sign" Zv2 ["_law_number","_law_first_here"])(T12:DW K mg "_law_word" Zs5 ["_law_number","_law_size"])(T13:DW K mg "_law_names" Zh5 ["_law_script"])(T14:DW K mg "_law_operand" Ct ["_law_script","_law_k","_law_names_here","_law_number"])(T15:DW K mg "_law_begins" Zb5 ["_law_line"])(T16:DW K mg "_law_deed" Zr8 ["_law_script","_law_k","_law_names_here","_law_number"])(T17:DW K mg "_law_goes" Zz3 ["_law_stack","_law_number"])(T18:DW K mg "_law_first" Zj7 ["_law_script"])(T19:DW K mg "_law_close" Ze6 ["_law_stack","_law_number"])(T20:DW K mg "_law_step" Zw2 ["_law_script","_law_k","_law_names_here","_law_stack"])(T21:DW K mg "_law_lines" Zf8 ["_law_script","_law_many"])(T22:DW K mg "_law_nested" Z54 ["_law_lines_here"])(T23:DW K mg "_law_marks" Zg2 ["_law_lines_here"])(T24:DW K mg "_law_next" Zy4 ["_law_lines_here","_law_marks_here","_law_at"])(T25:DW K mg "_law_comes" Zd1 ["_law_lines_here","_law_marks_here","_law_at"])(T26:DW K mg "_law_no" Yc6 ["_law_lines_here","_law_marks_here","_law_at"])(T27:DW K mg "_law_alike" Zh1 ["_law_found","_law_due"])(T28:DW K mg "_law_depth" Zf4 ["_law_lines_here"])(T29:DW K mg "_law_wrapped" Cw ["_law_lines_here","_law_number","_law_many"])(T30:DW K mg "_law_row_come" Gf ["_law_rows","_law_at"])(T31:DW K mg "_law_goal" Zu0 ["_law_found","_law_rows"])(T32:DW K mg "_law_row" Y56 ["_law_row_here","_law_at","_law_rows"])(T33:DW K mg "_law_shape" Zj4 ["_law_rows","_law_lines_here"])(T34:DW K mg "_law_deeds" Zc8 ["_law_rows","_law_lines_here"])(T35:DW K mg "_law_pairs" Zh3 ["_law_rows","_law_lines_here"])(T36:DW K mg "_law_same" Zt1 ["_law_rows","_law_lines_here"])
include T0 T1 T2 T3 T4 T5 T6 T7 T8 T9 T10 T11 T12 T13 T14 T15 T16 T17 T18 T19 T20 T21 T22 T23 T24 T25 T26 T27 T28 T29 T30 T31 T32 T33 T34 T35 T36
set_option maxHeartbeats 0 in
theorem Y06{P:Program}{w:World}{base:Heap}(T37:DW K mg "law" Gg ["_law_script"])(Q_ELSE:∃a,mg "ELSE"=some (.ref a)∧∃(o:Obj) (its:Array Value) (n:Nat),K.lookup a=some o∧o.cls= .type "tuple"∧o.data= .seq its n∧its.size≤sizeLine∧Vals [.str "else"] its.toList)(Q_DONE:∃a,mg "DONE"=some (.ref a)∧∃(o:Obj) (its:Array Value) (n:Nat),K.lookup a=some o∧o.cls= .type "tuple"∧o.data= .seq its n∧its.size≤sizeLine∧Vals [.str "done"] its.toList)(Q_OPENERS:∃a,mg "OPENERS"=some (.ref a)∧∃(o:Obj) (its:Array Value) (n:Nat),K.lookup a=some o∧o.cls= .type "tuple"∧o.data= .seq its n∧its.size≤sizeLine∧Vals [.str "choice",.str "round",.str "part"] its.toList)(hz:∀x∈BN,mg x=none):FnOk P w K mg base (CX1 P w) 218 T37.a T37.d ["_law_script"] (spF K B8):=by
 have PZ:Prg P w K mg base ⟨K,[bot,bot,bot,bot,bot,bot,bot,bot,bot,bot,bot,bot,bot,bot,bot,bot,bot,bot,bot,bot,bot,bot,bot,bot,bot,bot,bot,bot,bot,bot,bot,bot,bot,bot,bot,bot,bot,bot],[.gtup [.str "else"],.gtup [.str "done"],.gtup [.str "choice",.str "round",.str "part"]]⟩ FN GN BN 0:=Prg.zero (all_cons ⟨_,_,_,T0.g,T0.k,T0.b⟩ (all_cons ⟨_,_,_,T1.g,T1.k,T1.b⟩ (all_cons ⟨_,_,_,T2.g,T2.k,T2.b⟩ (all_cons ⟨_,_,_,T3.g,T3.k,T3.b⟩ (all_cons ⟨_,_,_,T4.g,T4.k,T4.b⟩ (all_cons ⟨_,_,_,T5.g,T5.k,T5.b⟩ (all_cons ⟨_,_,_,T6.g,T6.k,T6.b⟩ (all_cons ⟨_,_,_,T7.g,T7.k,T7.b⟩ (all_cons ⟨_,_,_,T8.g,T8.k,T8.b⟩ (all_cons ⟨_,_,_,T9.g,T9.k,T9.b⟩ (all_cons ⟨_,_,_,T10.g,T10.k,T10.b⟩ (all_cons ⟨_,_,_,T11.g,T11.k,T11.b⟩ (all_cons ⟨_,_,_,T12.g,T12.k,T12.b⟩ (all_cons ⟨_,_,_,T13.g,T13.k,T13.b⟩ (all_cons ⟨_,_,_,T14.g,T14.k,T14.b⟩ (all_cons ⟨_,_,_,T15.g,T15.k,T15.b⟩ (all_cons ⟨_,_,_,T16.g,T16.k,T16.b⟩ (all_cons ⟨_,_,_,T17.g,T17.k,T17.b⟩ (all_cons ⟨_,_,_,T18.g,T18.k,T18.b⟩ (all_cons ⟨_,_,_,T19.g,T19.k,T19.b⟩ (all_cons ⟨_,_,_,T20.g,T20.k,T20.b⟩ (all_cons ⟨_,_,_,T21.g,T21.k,T21.b⟩ (all_cons ⟨_,_,_,T22.g,T22.k,T22.b⟩ (all_cons ⟨_,_,_,T23.g,T23.k,T23.b⟩ (all_cons ⟨_,_,_,T24.g,T24.k,T24.b⟩ (all_cons ⟨_,_,_,T25.g,T25.k,T25.b⟩ (all_cons ⟨_,_,_,T26.g,T26.k,T26.b⟩ (all_cons ⟨_,_,_,T27.g,T27.k,T27.b⟩ (all_cons ⟨_,_,_,T28.g,T28.k,T28.b⟩ (all_cons ⟨_,_,_,T29.g,T29.k,T29.b⟩ (all_cons ⟨_,_,_,T30.g,T30.k,T30.b⟩ (all_cons ⟨_,_,_,T31.g,T31.k,T31.b⟩ (all_cons ⟨_,_,_,T32.g,T32.k,T32.b⟩ (all_cons ⟨_,_,_,T33.g,T33.k,T33.b⟩ (all_cons ⟨_,_,_,T34.g,T34.k,T34.b⟩ (all_cons ⟨_,_,_,T35.g,T35.k,T35.b⟩ (all_cons ⟨_,_,_,T36.g,T36.k,T36.b⟩ (all_cons ⟨_,_,_,T37.g,T37.k,T37.b⟩ (Z26))))))))))))))))))))))))))))))))))))))) rfl (by intro sp h;simp only[Aq,Db,or_false,or_self] at h;exact h) (fun g x d h1 h2=>match g,h1,h2 with | 0,h1,h2=>by cases h1;cases h2;obtain⟨a,e,r⟩:=Q_ELSE;exact⟨.ref a,_,e,rfl,fun w hw=>Xo.mpr ⟨a,_,rfl,.inr (by rw[hw];exact r),(RDs.cons (Zm.mpr rfl) (RDs.nil w))⟩⟩ | 1,h1,h2=>by cases h1;cases h2;obtain⟨a,e,r⟩:=Q_DONE;exact⟨.ref a,_,e,rfl,fun w hw=>Xo.mpr ⟨a,_,rfl,.inr (by rw[hw];exact r),(RDs.cons (Zm.mpr rfl) (RDs.nil w))⟩⟩ | 2,h1,h2=>by cases h1;cases h2;obtain⟨a,e,r⟩:=Q_OPENERS;exact⟨.ref a,_,e,rfl,fun w hw=>Xo.mpr ⟨a,_,rfl,.inr (by rw[hw];exact r),(RDs.cons (Zm.mpr rfl) (RDs.cons (Zm.mpr rfl) (RDs.cons (Zm.mpr rfl) (RDs.nil w))))⟩⟩ | n+3,h1,h2=>by cases h2) hz
 have P0:=PZ.up (show 0≤0 by decide)
 have P1:=ad P0 0 T0 Z97
 have P2:=ad P1 1 T1 (Oi rfl rfl)
 have P3:=ad P2 2 T2 (B1 rfl rfl)
 have P4:=ad P3 3 T3 G9
 have P5:=ad P4 4 T4 Jj
 have P6:=ad P5 5 T5 B5
 have P7:=ad P6 6 T6 Oz
 have P8:=ad P7 7 T7 (Bv rfl rfl rfl rfl rfl rfl rfl rfl)
 have P9:=ad P8 8 T8 Y49
 have P10:=ad P9 9 T9 (Y98 rfl)
 have P11:=ad P10 10 T10 Zu1
 have P12:=ad P11 11 T11 Zu2
 have P13:=ad P12 12 T12 (Zw7 rfl)
 have P14:=ad P13 13 T13 (Zi1 rfl rfl rfl rfl)
 have P15:=ad P14 14 T14 (Cd rfl)
 have P16:=ad P15 15 T15 Bj
 have P17:=ad P16 16 T16 (Zu4 rfl)
 have P18:=ad P17 17 T17 Zw3
 have P19:=ad P18 18 T18 (Zd3 rfl)
 have P20:=ad P19 19 T19 Zf1
 have P21:=ad P20 20 T20 (Zw1 rfl rfl rfl rfl rfl rfl)
 have P22:=ad P21 21 T21 (Zc6 rfl rfl)
 have P23:=ad P22 22 T22 (Z79 rfl)
 have P24:=ad P23 23 T23 (Zi5 rfl)
 have P25:=ad P24 24 T24 Zv5
 have P26:=ad P25 25 T25 (Zf3 rfl)
 have P27:=ad P26 26 T26 Ya8
 have A27:∀n:Nat,Prg P w K mg base ⟨K,[O6,Z75,R0,Za7,Re,V0,S8,Vj,Zj5,C9,Jp,N6,Z48,Gq,Rb,Y8,Tq,Sx,Sn,Vu,Z52,Gv,Sb,Ga,Za3,Gp,spNo,(Xe n),bot,bot,bot,bot,bot,bot,bot,bot,bot,bot],[.gtup [.str "else"],.gtup [.str "done"],.gtup [.str "choice",.str "round",.str "part"]]⟩ FN GN BN (27+n+1):=by
  intro n
  induction n with
  | zero=>exact ad P27 27 T27 Z50
  | succ n ih=>exact ad ih 27 T27 (Za8 rfl)
 have P28:=A27 180
 have P29:=ad P28 28 T28 (Zd5 rfl)
 have P30:=ad P29 29 T29 Cy
 have P31:=ad P30 30 T30 G2
 have P32:=ad P31 31 T31 Zv7
 have P33:=ad P32 32 T32 (Y21 rfl rfl)
 have P34:=ad P33 33 T33 (Zh9 rfl)
 have P35:=ad P34 34 T34 (Zi3 rfl)
 have P36:=ad P35 35 T35 (Zg4 rfl rfl rfl rfl)
 have P37:=ad P36 36 T36 (Zs4 rfl)
 have F37:=fn0 P37 T37.F Y64 Yc2 (sp:=B8) (by rintro _ _ _ _ ⟨_,rfl,_⟩;rfl) (Yd8 rfl rfl rfl rfl rfl rfl rfl rfl rfl rfl)
 exact F37
theorem Zx9{l:PySem.W.OpenLaw}{w:World}{fa f:Addr}{h:Heap}{oc kV dc pm cd ct:Value}{od an:Option Addr}{sl:Array (Option Value)}(hfa:mg "law"=some (.ref fa))(X:K.In h)(G:h.Ns mainGlobals mg) 
  (a:Md K mainGlobals "law"=some (some (.ref f))) (l0:K.lookup f=some ⟨oc,od,.func (Km "law" "law" (Wj Gg) (Yp Gg) (Zt Gg) .none kV dc pm an cd ct),sl⟩) (c:Mf K cd "law"=true) (k:Hd K (.ref f)=true) {ta0:Addr} {tn0:Nat} {tt0_0:Tok} {to0:Option Addr} {tl0:Array (Option Value)} (u0:Md K mainGlobals "ELSE"=some (some (.ref ta0))) (v0:K.lookup ta0=some ⟨.type "tuple",to0,.seq #[.str "else" tt0_0] tn0,tl0⟩) {ta1:Addr} {tn1:Nat} {tt1_0:Tok} {to1:Option Addr} {tl1:Array (Option Value)} (u1:Md K mainGlobals "DONE"=some (some (.ref ta1))) (v1:K.lookup ta1=some ⟨.type "tuple",to1,.seq #[.str "done" tt1_0] tn1,tl1⟩) {ta2:Addr} {tn2:Nat} {tt2_0 tt2_1 tt2_2:Tok} {to2:Option Addr} {tl2:Array (Option Value)} (u2:Md K mainGlobals "OPENERS"=some (some (.ref ta2))) (v2:K.lookup ta2=some ⟨.type "tuple",to2,.seq #[.str "choice" tt2_0,.str "round" tt2_1,.str "part" tt2_2] tn2,tl2⟩) (hz:∀x∈BN,Md K mainGlobals x=some none)
  :∃fd:FuncData,(∀(s:Shared) (v:Value),BindsTo s fd ⟨[v],[]⟩ [("_law_script",v)])∧∀base:Heap,K.In base→base.Ns mainGlobals mg→FnOk l.prog w K mg base (CX1 l.prog w) 218 fa fd ["_law_script"] (spF K B8):=by
 have e2:=hfa.symm.trans (PySem.W.mg_of X G a)
 cases e2
 exact⟨_,fun s v=> .of_eq rfl,fun base _ _=>Y06 T0 T1 T2 T3 T4 T5 T6 T7 T8 T9 T10 T11 T12 T13 T14 T15 T16 T17 T18 T19 T20 T21 T22 T23 T24 T25 T26 T27 T28 T29 T30 T31 T32 T33 T34 T35 T36 (DW.of X G a l0 c k) ⟨_,PySem.W.mg_of X G u0,_,_,_,v0,rfl,rfl,show 1≤sizeLine by decide,.cons ⟨_,rfl⟩ (.nil)⟩ ⟨_,PySem.W.mg_of X G u1,_,_,_,v1,rfl,rfl,show 1≤sizeLine by decide,.cons ⟨_,rfl⟩ (.nil)⟩ ⟨_,PySem.W.mg_of X G u2,_,_,_,v2,rfl,rfl,show 3≤sizeLine by decide,.cons ⟨_,rfl⟩ (.cons ⟨_,rfl⟩ (.cons ⟨_,rfl⟩ (.nil)))⟩ fun x hx=>PySem.W.mg_none_of X G (hz x hx)⟩
end
end K57
namespace Hand
open PySem PySem.Spec PyProof.Rows L2 L3 U K57
noncomputable def kf(n:Str)(i:Nat)(dV kV dc pm:Value)(an:Option Addr)(cd ct:Value):Obj:=⟨.type "function",none,.func (Km n n (Wj (top i)) (Yp (top i)) (Zt (top i)) dV kV dc pm an cd ct),#[]⟩
noncomputable def kg(n:Str)(i:Nat)(m:Str)(t c:Nat):Obj:=kf n i .none .none .none (.str m t) none (.ref c) .none
noncomputable def kc(n:Str)(t:Nat)(l a:Int)(r:Nat)(x y:Int)(z:Nat):Obj:=⟨.type "code",none,.fields #[.str n t,.str n (t+1),.str "/claim/cut.py" (t+2),.int l 0,.int a 0,.int 0 0,.int 0 0,.int 3 0,.ref r,.bool true,.int x 0,.ref (r+1),.none,.ref (r+2),.ref (r+3),.ref (r+4),.int y 0,.int l 0,.str "/claim/cut.py" z],#[]⟩
noncomputable def ke(P:Params)(x:Str)(t:Nat)(v:Value):DictEntry:=⟨PyData.keyHash P x,.str x t,v⟩
noncomputable abbrev kd:Value:= .type "dict"
noncomputable abbrev kR(a:Nat):Value:= .ref a
noncomputable abbrev kS(x:Str)(t:Nat):Value:= .str x t
noncomputable def KH(P:Params):Af:=(nat_lit 2,⟨.none,none,.dict #[] 0,#[]⟩)::(nat_lit 3,⟨kd,none,.dict #[ke P "__name__" 165 (kS "law_unjump_k57_rows_of_forms" 269),ke P "__doc__" 166 .none,ke P "__package__" 167 .none,ke P "__loader__" 168 (.builtin "__main__.__loader__#opaque"),ke P "__spec__" 169 .none,ke P "__annotations__" 170 (kR 6),ke P "__builtins__" 171 (kR 4),ke P "__file__" 173 (kS "/claim/cut.py" 172),ke P "__cached__" 174 .none,ke P "ELSE" 190 (kR 15),ke P "DONE" 192 (kR 16),ke P "OPENERS" 196 (kR 17),ke P "lines_of" 206 (kR 24),ke P "line_of" 213 (kR 31),ke P "told_within" 222 (kR 38),ke P "rows_of" 230 (kR 43),ke P "begin_rows" 240 (kR 50),ke P "begin_no" 249 (kR 57),ke P "finish_rows" 260 (kR 64),ke P "with_goal" 268 (kR 71),ke P "_law_raw" 278 (kR 78),ke P "_law_mix" 287 (kR 85),ke P "_law_kept" 293 (kR 92),ke P "_law_sign" 301 (kR 99),ke P "_law_word" 311 (kR 106),ke P "_law_names" 325 (kR 113),ke P "_law_operand" 336 (kR 120),ke P "_law_begins" 343 (kR 127),ke P "_law_deed" 357 (kR 134),ke P "_law_goes" 363 (kR 139),ke P "_law_first" 371 (kR 146),ke P "_law_close" 380 (kR 153),ke P "_law_step" 393 (kR 160),ke P "_law_lines" 405 (kR 167),ke P "_law_nested" 417 (kR 174),ke P "_law_marks" 428 (kR 181),ke P "_law_next" 438 (kR 188),ke P "_law_comes" 450 (kR 195),ke P "_law_no" 459 (kR 202),ke P "_law_alike" 469 (kR 209),ke P "_law_depth" 479 (kR 216),ke P "_law_wrapped" 485 (kR 221),ke P "_law_row_come" 496 (kR 228),ke P "_law_goal" 504 (kR 235),ke P "_law_row" 513 (kR 242),ke P "_law_shape" 519 (kR 247),ke P "_law_deeds" 525 (kR 252),ke P "_law_pairs" 531 (kR 257),ke P "_law_same" 546 (kR 264),ke P "law" 557 (kR 271)] 50,#[]⟩)::(nat_lit 15,⟨(.type "tuple"),none,.seq #[(.str "else" 189)] 0,#[]⟩)::(nat_lit 16,⟨(.type "tuple"),none,.seq #[(.str "done" 191)] 0,#[]⟩)::(nat_lit 17,⟨(.type "tuple"),none,.seq #[(.str "choice" 193),(.str "round" 194),(.str "part" 195)] 0,#[]⟩)::(nat_lit 23,kc "lines_of" 197 5 1 18 181 204 205)::(nat_lit 24,kg "lines_of" 4 "unjump.forms" 187 23)::(nat_lit 30,kc "line_of" 207 13 1 25 181 211 212)::(nat_lit 31,kg "line_of" 5 "unjump.forms" 187 30)::(nat_lit 37,kc "told_within" 214 19 1 32 181 220 221)::(nat_lit 38,kg "told_within" 6 "unjump.forms" 187 37)::(nat_lit 42,⟨(.type "code"),none,.fields #[(.str "rows_of" 225),(.str "rows_of" 226),(.str "/claim/cut.py" 227),(.int 29 0),(.int 1 0),(.int 0 0),(.int 0 0),(.int 3 0),(.ref 39),(.bool true),(.int 181 0),(.ref 40),.none,.none,.none,(.ref 41),(.int 228 0),(.int 29 0),(.str "/claim/cut.py" 229)],#[]⟩)::(nat_lit 43,kg "rows_of" 8 "unjump.flat" 223 42)::(nat_lit 49,kc "begin_rows" 231 46 3 44 181 238 239)::(nat_lit 50,kg "begin_rows" 9 "unjump.flat" 223 49)::(nat_lit 56,kc "begin_no" 241 55 3 51 181 247 248)::(nat_lit 57,kg "begin_no" 10 "unjump.flat" 223 56)::(nat_lit 63,kc "finish_rows" 250 58 3 58 181 258 259)::(nat_lit 64,kg "finish_rows" 11 "unjump.flat" 223 63)::(nat_lit 70,kc "with_goal" 261 67 2 65 181 266 267)::(nat_lit 71,kg "with_goal" 12 "unjump.flat" 223 70)::(nat_lit 77,kc "_law_raw" 271 72 2 72 181 276 277)::(nat_lit 78,kg "_law_raw" 14 "law_unjump_k57_rows_of_forms" 269 77)::(nat_lit 84,kc "_law_mix" 279 76 2 79 181 285 286)::(nat_lit 85,kg "_law_mix" 15 "law_unjump_k57_rows_of_forms" 269 84)::(nat_lit 91,kc "_law_kept" 288 81 0 86 181 291 292)::(nat_lit 92,kg "_law_kept" 16 "law_unjump_k57_rows_of_forms" 269 91)::(nat_lit 98,kc "_law_sign" 294 83 2 93 181 299 300)::(nat_lit 99,kg "_law_sign" 17 "law_unjump_k57_rows_of_forms" 269 98)::(nat_lit 105,kc "_law_word" 302 87 2 100 181 309 310)::(nat_lit 106,kg "_law_word" 18 "law_unjump_k57_rows_of_forms" 269 105)::(nat_lit 112,kc "_law_names" 312 93 1 107 181 323 324)::(nat_lit 113,kg "_law_names" 19 "law_unjump_k57_rows_of_forms" 269 112)::(nat_lit 119,kc "_law_operand" 326 109 4 114 181 334 335)::(nat_lit 120,kg "_law_operand" 20 "law_unjump_k57_rows_of_forms" 269 119)::(nat_lit 126,kc "_law_begins" 337 120 1 121 181 341 342)::(nat_lit 127,kg "_law_begins" 21 "law_unjump_k57_rows_of_forms" 269 126)::(nat_lit 133,kc "_law_deed" 344 122 4 128 181 355 356)::(nat_lit 134,kg "_law_deed" 22 "law_unjump_k57_rows_of_forms" 269 133)::(nat_lit 138,⟨(.type "code"),none,.fields #[(.str "_law_goes" 358),(.str "_law_goes" 359),(.str "/claim/cut.py" 360),(.int 131 0),(.int 2 0),(.int 0 0),(.int 0 0),(.int 3 0),(.ref 135),(.bool true),(.int 181 0),(.ref 136),.none,.none,.none,(.ref 137),(.int 361 0),(.int 131 0),(.str "/claim/cut.py" 362)],#[]⟩)::(nat_lit 139,kg "_law_goes" 23 "law_unjump_k57_rows_of_forms" 269 138)::(nat_lit 145,kc "_law_first" 364 139 1 140 181 369 370)::(nat_lit 146,kg "_law_first" 24 "law_unjump_k57_rows_of_forms" 269 145)::(nat_lit 152,kc "_law_close" 372 142 2 147 181 378 379)::(nat_lit 153,kg "_law_close" 25 "law_unjump_k57_rows_of_forms" 269 152)::(nat_lit 159,kc "_law_step" 381 148 4 154 181 391 392)::(nat_lit 160,kg "_law_step" 26 "law_unjump_k57_rows_of_forms" 269 159)::(nat_lit 166,kc "_law_lines" 394 167 2 161 181 403 404)::(nat_lit 167,kg "_law_lines" 27 "law_unjump_k57_rows_of_forms" 269 166)::(nat_lit 173,kc "_law_nested" 406 177 1 168 181 415 416)::(nat_lit 174,kg "_law_nested" 28 "law_unjump_k57_rows_of_forms" 269 173)::(nat_lit 180,kc "_law_marks" 418 196 1 175 181 426 427)::(nat_lit 181,kg "_law_marks" 29 "law_unjump_k57_rows_of_forms" 269 180)::(nat_lit 187,kc "_law_next" 429 212 3 182 181 436 437)::(nat_lit 188,kg "_law_next" 30 "law_unjump_k57_rows_of_forms" 269 187)::(nat_lit 194,kc "_law_comes" 439 223 3 189 181 448 449)::(nat_lit 195,kg "_law_comes" 31 "law_unjump_k57_rows_of_forms" 269 194)::(nat_lit 201,kc "_law_no" 451 234 3 196 181 457 458)::(nat_lit 202,kg "_law_no" 32 "law_unjump_k57_rows_of_forms" 269 201)::(nat_lit 208,kc "_law_alike" 460 238 2 203 181 467 468)::(nat_lit 209,kg "_law_alike" 33 "law_unjump_k57_rows_of_forms" 269 208)::(nat_lit 215,kc "_law_depth" 470 255 1 210 181 477 478)::(nat_lit 216,kg "_law_depth" 34 "law_unjump_k57_rows_of_forms" 269 215)::(nat_lit 220,⟨(.type "code"),none,.fields #[(.str "_law_wrapped" 480),(.str "_law_wrapped" 481),(.str "/claim/cut.py" 482),(.int 262 0),(.int 3 0),(.int 0 0),(.int 0 0),(.int 3 0),(.ref 217),(.bool true),(.int 181 0),(.ref 218),.none,.none,.none,(.ref 219),(.int 483 0),(.int 262 0),(.str "/claim/cut.py" 484)],#[]⟩)::(nat_lit 221,kg "_law_wrapped" 35 "law_unjump_k57_rows_of_forms" 269 220)::(nat_lit 227,kc "_law_row_come" 486 272 2 222 181 494 495)::(nat_lit 228,kg "_law_row_come" 36 "law_unjump_k57_rows_of_forms" 269 227)::(nat_lit 234,kc "_law_goal" 497 283 2 229 181 502 503)::(nat_lit 235,kg "_law_goal" 37 "law_unjump_k57_rows_of_forms" 269 234)::(nat_lit 241,kc "_law_row" 505 285 3 236 181 511 512)::(nat_lit 242,kg "_law_row" 38 "law_unjump_k57_rows_of_forms" 269 241)::(nat_lit 246,⟨(.type "code"),none,.fields #[(.str "_law_shape" 514),(.str "_law_shape" 515),(.str "/claim/cut.py" 516),(.int 295 0),(.int 2 0),(.int 0 0),(.int 0 0),(.int 3 0),(.ref 243),(.bool true),(.int 181 0),(.ref 244),.none,.none,.none,(.ref 245),(.int 517 0),(.int 295 0),(.str "/claim/cut.py" 518)],#[]⟩)::(nat_lit 247,kg "_law_shape" 39 "law_unjump_k57_rows_of_forms" 269 246)::(nat_lit 251,⟨(.type "code"),none,.fields #[(.str "_law_deeds" 520),(.str "_law_deeds" 521),(.str "/claim/cut.py" 522),(.int 306 0),(.int 2 0),(.int 0 0),(.int 0 0),(.int 3 0),(.ref 248),(.bool true),(.int 181 0),(.ref 249),.none,.none,.none,(.ref 250),(.int 523 0),(.int 306 0),(.str "/claim/cut.py" 524)],#[]⟩)::(nat_lit 252,kg "_law_deeds" 40 "law_unjump_k57_rows_of_forms" 269 251)::(nat_lit 256,⟨(.type "code"),none,.fields #[(.str "_law_pairs" 526),(.str "_law_pairs" 527),(.str "/claim/cut.py" 528),(.int 314 0),(.int 2 0),(.int 0 0),(.int 0 0),(.int 3 0),(.ref 253),(.bool true),(.int 181 0),(.ref 254),.none,.none,.none,(.ref 255),(.int 529 0),(.int 314 0),(.str "/claim/cut.py" 530)],#[]⟩)::(nat_lit 257,kg "_law_pairs" 41 "law_unjump_k57_rows_of_forms" 269 256)::(nat_lit 263,kc "_law_same" 532 329 2 258 181 544 545)::(nat_lit 264,kg "_law_same" 42 "law_unjump_k57_rows_of_forms" 269 263)::(nat_lit 270,kc "law" 547 346 1 265 181 555 556)::(nat_lit 271,kg "law" 43 "law_unjump_k57_rows_of_forms" 269 270)::[]
noncomputable def qH:Program:={PySem.Challenge.pw_unjump_k57_rows_of_forms with main:={PySem.Challenge.pw_unjump_k57_rows_of_forms.main with body:=[top 43]}}
noncomputable def lH:List Str:="ELSE"::"DONE"::"OPENERS"::"lines_of"::"line_of"::"told_within"::"rows_of"::"begin_rows"::"begin_no"::"finish_rows"::"with_goal"::"_law_raw"::"_law_mix"::"_law_kept"::"_law_sign"::"_law_word"::"_law_names"::"_law_operand"::"_law_begins"::"_law_deed"::"_law_goes"::"_law_first"::"_law_close"::"_law_step"::"_law_lines"::"_law_nested"::"_law_marks"::"_law_next"::"_law_comes"::"_law_no"::"_law_alike"::"_law_depth"::"_law_wrapped"::"_law_row_come"::"_law_goal"::"_law_row"::"_law_shape"::"_law_deeds"::"_law_pairs"::"_law_same"::[]
noncomputable def aH:List Addr:=2::3::15::16::17::23::24::30::31::37::38::42::43::49::50::56::57::63::64::70::71::77::78::84::85::91::92::98::99::105::106::112::113::119::120::126::127::133::134::138::139::145::146::152::153::159::160::166::167::173::174::180::181::187::188::194::195::201::202::208::209::215::216::220::221::227::228::234::235::241::242::246::247::251::252::256::257::263::264::270::271::[]
theorem eH(P:Params):aH=(KH P).map (·.1):=by kernel_rfl
set_option maxHeartbeats 0 in
theorem wS:PySem.Challenge.rw_unjump_k57_rows_of_forms.wellSaid=true:=by kernel_rfl
set_option maxHeartbeats 0 in
theorem hlH:PySem.W.LeftO PySem.Challenge.pw_unjump_k57_rows_of_forms qH lH (fun s=>PySem.W.xlAt qH [] s&&PySem.W.recOk [] s) (PySem.W.Hook.obs (PySem.W.kHook KH aH eH)) (PySem.W.Hook.val (PySem.W.kHook KH aH eH)) 2612:=by intro w;kernel_rfl
end Hand
open PySem PySem.W PyProof.Rows
set_option maxRecDepth 100000 in
set_option maxHeartbeats 0 in
theorem PySem.Challenge.cw_unjump_k57_rows_of_forms_holds : PySem.Challenge.rw_unjump_k57_rows_of_forms.Holds := by
 w_on;refine holds_law Hand.wS fun said=>?_;refine holds_open (q:=Hand.qH) (loose:=Hand.lH) (Xt:=fun s=>xlAt Hand.qH [] s&&recOk [] s) (XP:=XL Hand.qH []) (Yf:=Hook.obs (kHook Hand.KH Hand.aH Hand.eH)) (Ya:=Hook.val (kHook Hand.KH Hand.aH Hand.eH)) (YP:=Hook.says (kHook Hand.KH Hand.aH Hand.eH)) (N:=2612) Hand.hlH (Hook.of _) (Hook.keeps _) (fun s e=>xl_of s (Bool.and_eq_true_iff.mp e).1) XL.keeps (by rfl) (by rfl) (by rfl) (fun s e=>recFacts_of (Bool.and_eq_true_iff.mp e).2) (by rfl) (by first | assumption | decide+kernel) (by decide+kernel) ⟨rfl,rfl,rfl,rfl,rfl,by decide+kernel⟩ ?hw ?hc;(case hw=>w_witness2)
 k_fill
 refine U.Zh0 (l:=PySem.Challenge.rw_unjump_k57_rows_of_forms) (k:=218) (x:="_law_script") rfl rfl ⟨rfl,by decide,by decide⟩ (fun w h Y=>PySem.W.kIn_of Y) ?F
 case F=>
  intro w mg fa h KX G hmg
  refine' K57.Zx9 (.of KX G ?a0 ?l0 ?c0 ?k0) (.of KX G ?a1 ?l1 ?c1 ?k1) (.of KX G ?a2 ?l2 ?c2 ?k2) (.of KX G ?a3 ?l3 ?c3 ?k3) (.of KX G ?a4 ?l4 ?c4 ?k4) (.of KX G ?a5 ?l5 ?c5 ?k5) (.of KX G ?a6 ?l6 ?c6 ?k6) (.of KX G ?a7 ?l7 ?c7 ?k7) (.of KX G ?a8 ?l8 ?c8 ?k8) (.of KX G ?a9 ?l9 ?c9 ?k9) (.of KX G ?a10 ?l10 ?c10 ?k10) (.of KX G ?a11 ?l11 ?c11 ?k11) (.of KX G ?a12 ?l12 ?c12 ?k12) (.of KX G ?a13 ?l13 ?c13 ?k13) (.of KX G ?a14 ?l14 ?c14 ?k14) (.of KX G ?a15 ?l15 ?c15 ?k15) (.of KX G ?a16 ?l16 ?c16 ?k16) (.of KX G ?a17 ?l17 ?c17 ?k17) (.of KX G ?a18 ?l18 ?c18 ?k18) (.of KX G ?a19 ?l19 ?c19 ?k19) (.of KX G ?a20 ?l20 ?c20 ?k20) (.of KX G ?a21 ?l21 ?c21 ?k21) (.of KX G ?a22 ?l22 ?c22 ?k22) (.of KX G ?a23 ?l23 ?c23 ?k23) (.of KX G ?a24 ?l24 ?c24 ?k24) (.of KX G ?a25 ?l25 ?c25 ?k25) (.of KX G ?a26 ?l26 ?c26 ?k26) (.of KX G ?a27 ?l27 ?c27 ?k27) (.of KX G ?a28 ?l28 ?c28 ?k28) (.of KX G ?a29 ?l29 ?c29 ?k29) (.of KX G ?a30 ?l30 ?c30 ?k30) (.of KX G ?a31 ?l31 ?c31 ?k31) (.of KX G ?a32 ?l32 ?c32 ?k32) (.of KX G ?a33 ?l33 ?c33 ?k33) (.of KX G ?a34 ?l34 ?c34 ?k34) (.of KX G ?a35 ?l35 ?c35 ?k35) (.of KX G ?a36 ?l36 ?c36 ?k36) hmg KX G ?a37 ?l37 ?c37 ?k37 ?u0 ?v0 ?u1 ?v1 ?u2 ?v2 (U.all_cons ?z0 (U.all_cons ?z1 (U.all_cons ?z2 (U.all_cons ?z3 (U.all_cons ?z4 (U.all_cons ?z5 (U.all_cons ?z6 (U.all_cons ?z7 (U.all_cons ?z8 (U.all_cons ?z9 (U.all_cons ?z10 (U.all_cons ?z11 (U.all_cons ?z12 (U.Z26))))))))))))))
  all_goals (try k_is)
