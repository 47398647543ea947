import PyProof.Rows.All
import Wide.All
import OpenK.AllK
import Wide.FinOn
import Lean
import PyProof.EqAt
import PyProof.EqKinds
import PyProof.TupleCall
import PyProof.CompFree
import PyProof.StationsW
import PyProof.ExcClass3
import PyProof.Commute
import OpenK.KGet
import OpenK.KMeth
import PyProof.ExcArgs
import PyProof.ZipIter
import PyProof.ListNew
import PyProof.EnumMake
import PyProof.EnumStmt
import KE.KRevSl
import PyProof.WalkInts
import PyProof.Rows.MinMaxN
import PyProof.AttrMissHeap
import PyProof.DictList
import PyProof.DictUpdate
import KE.KDictOf
import PyProof.DictWalks
import PyProof.Conv_int_bool
import PyProof.Rows.SetFrom
import PyProof.SetRoads
import PyProof.ForAny
import KE.KDictSum
import PyProof.AutoListH
import KE.KRevIter
import KE.KDictList
import PyProof.ConsumeWalk
import PyProof.TupleIter
import PyProof.EnumIter
import PyProof.ZipIter
import PyProof.StrCalls2
import PyProof.StrWalks
import PyProof.StrLawsChain
import PyProof.CallStr
import KE.KIntText
import PyProof.StrLawsTight
import PyProof.StrLawsIn
import PyProof.Rows.CatFin
import PyProof.Rows.StrClose3
import KE.KxText
import PyProof.Rows.FStr
import PySem.Challenge.RW_unjump_k05_rows_written
open PySem renaming wpAny_bind→Aa, wpAny_pure→Ab, wpAny_holding→Dy, wpAny_callSpecial?_slot→Ex, wpAny_call_entry→Hb, Spec→He, wpAny_setField_rec→Hi, wpAny_mono→Hl, wpAny_newObj_type→Ho, sizeLine_eq→Hv, wpAny_field→Ib, wpAny_seqItems→Ip, codeAny_builtin→Kc, plainId_quiet→Kf, wpAny_passesOwn→Kq, builtinLookup_eq_fast→Ku, wpAny_ite_split→Kv, wpAny_attempt→Kw, wpAny_pyIter_list→Ky, wpAny_setState_of→Kz, call_meets→Lb, codeAny_mono→Lf, wpAny_typeOf→Lh, wpAny_comprehension_free→Lj, wpAny_isInstance→Lk, wpAny_askSetting→Ll, mem_of_lookup→Ln, wpAny_setEntries_of→Lo, wpAny_Call_Name_kw→Lr, wpAny_rule→Lu, typeLookup_type→Mc, wpAny_specialOf→Md, wpAny_updateSeq→Me
open PySem.W renaming keepIn→Ac, Frag→Ae, nsIn→Ak, mg_of→Ao, codeIn→Ar, fnOf→As, mg_none_of→Ds, kia_one→Hu, kitOne→Kh, findIn→Lx
open PySem.Heap renaming get?_push_of_some→Ad, lt_size→Ai, get?_push_size→Al, SameBut→Dn, get?_update_other→Hh, get?_update_self→Hm, size_push→Hr
open List renaming getElem?_eq_some_iff→Af, getElem?_eq_getElem→Ag, length_map→Ah, size_toArray→Aj, mem_cons→Am, getElem?_map→Aq, not_mem_nil→Aw, mem_append_right→Ax, length_append→Ay, mem_cons_of_mem→Az, mem_singleton→Bk, mem_cons_self→Bs, map_cons→Ch, length_cons→Dc, mem_append→Dd, mem_map→Dg, map_append→Dh, getElem?_append_left→Dj, all_eq_true→Dk, replicate→Dp, contains_iff_mem→Dq, getElem?_eq_none→Dr, take_of_length_le→Dx, getD_eq_getElem?_getD→Dz, getElem_mem→Go, mem_of_getElem?→Ha, append_assoc→Hd, mem_append_left→Hf, getElem?_set_ne→Ht, lookup_cons→Hx, all_cons→Hz, mem_range→Ia, find?_cons→Ic, length_take→Ie, getElem?_append_right→Ih, getElem?_set_self→Ii, range→Ij, drop_eq_getElem_cons→Ik, length_eq_zero_iff→Iu, length_set→Iw, replicate_succ→Ix, any_cons→Ke, cons_append→Ki, any_eq_true→Kj, nodup_cons→Kr, foldl_cons→Kt, flatten_cons→Kx, take_succ→Le, length_drop→Lg, nil_append→Ls, ext_getElem?→Lw, length_singleton→Ly, getElem?_toArray→Lz, append_nil→Mb, map_map→Mg, Perm→Ml
open PySem.Value renaming ref→An, type→Au, str→Il, none→Kb, bool→Lq, builtin→Ma
open Array renaming length_toList→Db, getElem?_eq_getElem→De, getD_eq_getD_getElem?→Dv, getElem?_toList→Hn
open PySem.NameKind renaming free→Df, cell→Hk
open False renaming elim→Di
open Int renaming toNat_natCast→Dl, emod_lt_of_pos→Ka, emod_nonneg→Kd, toNat_of_nonneg→Kg, toNat→Km
open Ne renaming symm→Dm
open PySem.SeqAt renaming EqAt→Dt
open PySem.Txt renaming join→Du, slice→Hy, split→Ko
open PySem.Builtin.List renaming listExtendWith→Dw, listLengthHint→Kn, listSameRef→Lm
open PySem.Builtin.SmallTypes renaming nextOf→Hg, ownedTupleIsFree→Ir
open Option.some renaming inj→Hj
open PyProof.Rows renaming slot_tuple_getitem→Hq, callWith_type1→Iv
open PySem.SetTable renaming below→Hs, grown→Iq, insertAt→Lv
open Option renaming map_eq_some_iff→Hw, some→Mj
open PySem.Obj renaming mapSeq→Ig
open Sum renaming inl→Im
open PySem.Around renaming under_plainId→Io
open LawfulBEq renaming eq_of_beq→Iy
open True renaming intro→Kk
open PySem.PyData renaming str→Kl
open PySem.Builtin.Slice renaming slicePlaces→La
open PySem.F renaming plain_extend_loop→Ld
open PySem.Builtin.Tuple renaming tupleExact→Li
open PySem.Builtin.Str renaming occurrences→Lp
open List.cons renaming injEq→Mf
open List.Perm renaming refl→Mh
open Iff renaming rfl→Mi
set_option bootstrap.genMatcherCode false
set_option Elab.async false
set_option linter.all false
set_option maxRecDepth 100000
set_option genSizeOf false
set_option compiler.extract_closed false
namespace L2
open PySem PySem.Spec PyProof.Rows
noncomputable abbrev Key:=Sum Int Str
noncomputable def Gm:Key→Value→Bool
 | .inl k,v=>Value.isInt k v
 | .inr x,v=>Value.isStrOf x v
noncomputable def keyH(w:World):Key→Int
 | .inl k=>hashInt k
 | .inr x=>hashStr w x
theorem Y9:∀{k:Key} {v:Value},Gm k v=true→(∃i t,k=Im i∧v=Value.int i t)∨(∃x t,k=Sum.inr x∧v=Il x t)
 | .inl i,v,h=>by
  obtain⟨t,e⟩:=Value.isInt_shape (k:=i) (v:=v) h
  exact .inl ⟨i,t,rfl,e⟩
 | .inr x,v,h=>by
  obtain⟨t,e⟩:=Value.isStrOf_shape (x:=x) (v:=v) h
  exact .inr ⟨x,t,rfl,e⟩
theorem Z48(i:Int)(t:Tok):Gm (.inl i) (.int i t)=true:=by simp[Gm,Value.isInt]
theorem Zc5(x:Str)(t:Tok):Gm (.inr x) (.str x t)=true:=by simp[Gm,Value.isStrOf]
theorem Y14(a b:Int):decide ((Im a:Key)=Im b)=(a==b):=by
 by_cases e:a=b
 ·subst e;simp
 ·have h:¬(Im a:Key)=Im b:=fun q=>e (Im.inj q)
  rw[decide_eq_false h]
  exact(beq_eq_false_iff_ne.mpr e).symm
theorem Y81(a b:Str):decide ((Sum.inr a:Key)=Sum.inr b)=decide (a=b):=by
 by_cases e:a=b
 ·subst e;simp
 ·have h:¬(Sum.inr a:Key)=Sum.inr b:=fun q=>e (Sum.inr.inj q)
  rw[decide_eq_false h,decide_eq_false e]
theorem Y33(a:Int)(b:Str):decide ((Im a:Key)=Sum.inr b)=false:=decide_eq_false (fun q=>nomatch q)
theorem Y79(a:Str)(b:Int):decide ((Sum.inr a:Key)=Im b)=false:=decide_eq_false (fun q=>nomatch q)
noncomputable def Yk(prog:Program)(w:World):PySem.KeyKind prog w Key where
 is:=Gm
 hash:=keyH w
 inj:=fun v a b ha hb=>by
  rcases Y9 ha with⟨i,t,rfl,rfl⟩ | ⟨x,t,rfl,rfl⟩
  ·rcases Y9 hb with⟨j,u,rfl,e⟩ | ⟨y,u,rfl,e⟩
   ·injection e with e1 _;rw[e1]
   ·exact nomatch e
  ·rcases Y9 hb with⟨j,u,rfl,e⟩ | ⟨y,u,rfl,e⟩
   ·exact nomatch e
   ·injection e with e1 _;rw[e1]
 byValue:=fun k v h=>by
  rcases Y9 h with⟨i,t,rfl,rfl⟩ | ⟨x,t,rfl,rfl⟩<;>rfl
 pyHash:=fun hv h=>by
  rcases Y9 hv with⟨i,t,rfl,rfl⟩ | ⟨x,t,rfl,rfl⟩
  ·exact wpAny_pyHash_int h
  ·exact wpAny_pyHash_str h
 eqBool:=fun hu hv h=>by
  rcases Y9 hu with⟨i,t,rfl,rfl⟩ | ⟨x,t,rfl,rfl⟩
  ·rcases Y9 hv with⟨j,u,rfl,rfl⟩ | ⟨y,u,rfl,rfl⟩
   ·rw[Y14] at h;exact wpAny_eqBool_int h
   ·rw[Y33] at h;exact Dt.int_str i t y u _ _ _ _ h
  ·rcases Y9 hv with⟨j,u,rfl,rfl⟩ | ⟨y,u,rfl,rfl⟩
   ·rw[Y79] at h;exact Dt.str_int x t j u _ _ _ _ h
   ·rw[Y81] at h;exact wpAny_eqBool_str h
 «strs»:=fun k x t v h=>by
  rcases Y9 h with⟨i,u,rfl,e⟩ | ⟨y,u,rfl,e⟩
  ·exact nomatch e
  ·injection e with e1 _
   subst e1
   cases v<;>rfl
theorem Fk(prog:Program)(w:World)(i:Int)(t:Tok):(Yk prog w).is (.inl i) (.int i t)=true:=Z48 i t
theorem Fj(prog:Program)(w:World)(x:Str)(t:Tok):(Yk prog w).is (.inr x) (.str x t)=true:=Zc5 x t
inductive V where
 | non | bl (b:Bool) | int (i:Int) | str (x:Str) | byt (b:Array UInt8) | flt (b:UInt64) | ref (a:Addr) | ty (n:String)
 deriving DecidableEq
def RelV:V→Value→Prop
 | .non,u=>u=Kb
 | .bl b,u=>u=Lq b
 | .int i,u=>∃t,u=Value.int i t
 | .str x,u=>∃t,u=Il x t
 | .byt b,u=>∃t,u=Value.bytes b t
 | .flt b,u=>∃t,u=Value.float b t
 | .ref a,u=>u=An a
 | .ty n,u=>u=Au n
abbrev Vals:List V→List Value→Prop:=Paired RelV
theorem Vals.length{xs:List V}{us:List Value}(r:Vals xs us):xs.length=us.length:=Paired.length r
theorem Vals.get:∀{xs:List V} {us:List Value} {i:Nat} {x:V},Vals xs us→xs[i]?=some x→∃u,us[i]?=some u∧RelV x u
 | _,_,_,_,.nil,e=>by simp at e
 | _,_,0,_,.cons r _,e=>by simp at e;subst e;exact⟨_,rfl,r⟩
 | _,_,i+1,x,.cons _ t,e=>by
  obtain⟨u,h1,h2⟩:=Vals.get (i:=i) (x:=x) t (by simpa using e)
  exact⟨u,by simpa using h1,h2⟩
theorem Vals.set{x:V}{u:Value}(r:RelV x u):∀{xs:List V} {us:List Value} (i:Nat),Vals xs us→Vals (xs.set i x) (us.set i u)
 | _,_,_,.nil=> .nil
 | _,_,0,.cons _ t=> .cons r t
 | _,_,i+1,.cons q t=> .cons q (Vals.set r i t)
theorem Vals.append:∀{xs ys:List V} {us ws:List Value},Vals xs us→Vals ys ws→Vals (xs++ys) (us++ws)
 | _,_,_,_,.nil,s=>s
 | _,_,_,_,.cons r t,s=> .cons r (Vals.append t s)
theorem Vals.take:∀{xs:List V} {us:List Value} (n:Nat),Vals xs us→Vals (xs.take n) (us.take n)
 | _,_,0,_=> .nil
 | _,_,_+1,.nil=> .nil
 | _,_,n+1,.cons r t=> .cons r (Vals.take n t)
theorem Vals.drop:∀{xs:List V} {us:List Value} (n:Nat),Vals xs us→Vals (xs.drop n) (us.drop n)
 | _,_,0,r=>r
 | _,_,_+1,.nil=> .nil
 | _,_,n+1,.cons _ t=>Vals.drop n t
def RelO:Option V→Option Value→Prop
 | some v,some u=>RelV v u
 | none,none=>True
 | _,_=>False
def KV{κ:Type}:List (κ×V)→List (κ×Value)→Prop:=Paired fun(p:κ×V) (q:κ×Value)=>p.1=q.1∧RelV p.2 q.2
noncomputable def kV:Key→V
 | .inl i=> .int i
 | .inr x=> .str x
inductive HO where
 | lst (xs:List V)
 | tup (xs:List V)
 | dK (kvs:List (Key×V)) | dT (kvs:List (List Key×V))
 | set (S:Int→Bool) (n:Nat)
 | ins (C dx:Addr) (fs:List (Str×V))
 | own (x:Addr)
 | xd (fs:List (Str×V))
 | met (f x:Addr)
 | rng (lo hi:Int)
 | frz (o:Obj) (u:HO)
 | tbl (ps:Array Value)
 | ext (φ:Heap→Prop)
noncomputable abbrev Hp:=Addr→Option HO
noncomputable def upd(H:Hp)(a:Addr)(o:HO):Hp:=fun b=>if b=a then some o else H b
theorem Yy{H:Hp}{a:Addr}{o:HO}:upd H a o a=some o:=by unfold upd;rw[if_pos rfl]
theorem Zw{H:Hp}{a b:Addr}{o:HO}(h:b≠a):upd H a o b=H b:=by unfold upd;rw[if_neg h]
theorem Y94{H:Hp}{a b:Addr}{o u:HO}(h:H a=some o)(h':H b=some u)(d:o≠u):a≠b:=by
 intro e;subst e;rw[h] at h';exact d (Hj h')
theorem V1{H:Hp}{a b:Addr}{o:HO}(h:H a=some o)(h':H b=none):a≠b:=by
 intro e;subst e;rw[h] at h';cases h'
section
variable(P:Program)(w:World)
def Xl(H:Hp)(h:Heap)(a:Addr):HO→Prop
 | .lst xs=>xs.length≤sizeLine∧∃(its:List Value) (n:Nat),Vals xs its∧h.get? a=some {cls:= .type "list",data:= .seq its.toArray n}
 | .tup xs=>xs.length≤sizeLine∧∃its:List Value,Vals xs its∧IsTup h a its.toArray
 | .dK kvs=>kvs.length≤sizeLine∧(a==sysModules)=false∧∃vs,KV kvs vs∧h.DictOf (Yk P w) a vs
 | .dT kvs=>kvs.length≤sizeLine∧(a==sysModules)=false∧∃xs:List (List Key×Addr×Value),
   Paired (fun(p:List Key×V) (q:List Key×Addr×Value)=>p.1=q.1∧H q.2.1=some (.tup (p.1.map kV))∧RelV p.2 q.2.2) kvs xs∧
   ∃o es ep,h.get? a=some o∧o.ExactDict∧o.data= .dict es ep∧es.toList=xs.map (entryOfKey (tupleKind (Yk P w)))∧(xs.map (·.1)).Nodup
 | .set S n=>h.SetOf (intKind P w) a S n
 | .ins C dx fs=>H dx=some (.own a)∧fs.length≤1000∧dx≠a∧h.get? a=some (PySem.W.instObj C dx)∧
   ∃mA,h.Ns1 dx mA∧(∀f,RelO (fs.lookup f) (mA f))∧PySem.Within mA (fs.map (·.1))
 | .own _=>∃o,h.get? a=some o
 | .xd fs=>∃mA,h.Ns1 a mA∧∀f,RelO (fs.lookup f) (mA f)
 | .rng lo hi=>∃t u v,h.get? a=some {cls:= .type "range",data:= .fields #[.int lo t,.int hi u,.int 1 v]}
 | .frz o u=>h.get? a=some o∧Xl H h a u
 | .tbl ps=>h.get? a=some {cls:= .none,data:= .fields ps}
 | .met f x=>h.get? a=some (PySem.W.methodObj (.ref f) (.ref x))
 | .ext φ=>φ h∧(∃o,h.get? a=some o)∧∀h1 h2:Heap,φ h1→(∀o,h1.get? a=some o→h2.get? a=some o)→φ h2
def HOk(H:Hp)(h:Heap):Prop:=∀a o,H a=some o→Xl P w H h a o
end
section
variable{P:Program}{w:World}{H H':Hp}{h h':Heap}{a:Addr}{o:HO}
theorem Xl.lt(x:Xl P w H h a o):a<h.objs.size:=by
 cases o with
 | lst xs=>obtain⟨_,_,_,_,e⟩:=x;exact Ai e
 | tup xs=>obtain⟨_,_,_,p⟩:=x;exact p.lt
 | dK kvs=>obtain⟨_,_,_,_,o,_,_,e,_⟩:=x;exact Ai e
 | dT kvs=>obtain⟨_,_,_,_,o,_,_,e,_⟩:=x;exact Ai e
 | set S n=>obtain⟨o,_,_,_,e,_⟩:=x;exact Ai e
 | ins C dx fs=>obtain⟨_,_,_,e,_⟩:=x;exact Ai e
 | own y=>obtain⟨_,e⟩:=x;exact Ai e
 | xd fs=>obtain⟨_,⟨_,_,_,e,_⟩,_⟩:=x;exact Ai e
 | rng lo hi=>obtain⟨_,_,_,e⟩:=x;exact Ai e
 | frz ob u=>obtain⟨e,_⟩:=x;exact Ai e
 | tbl ps=>exact Ai (show h.get? a=some _ from x)
 | met f y=>exact Ai (show h.get? a=some _ from x)
 | ext φ=>obtain⟨_,⟨_,e⟩,_⟩:=x;exact Ai e
theorem Paired.mapP{α β:Type}{F G:α→β→Prop}:∀{l₁:List α} {l₂:List β},Paired F l₁ l₂→(∀a b,F a b→G a b)→Paired G l₁ l₂
 | _,_,.nil,_=> .nil
 | _,_,.cons r t,f=> .cons (f _ _ r) (Paired.mapP t f)
theorem Xl.stay(x:Xl P w H h a o)(k:∀b u,(b=a∨H b=some (.own a))→h.get? b=some u→h'.get? b=some u)
  (ho:∀b,H b=some (.own a)→H' b=some (.own a)) (ht:∀b xs,H b=some (.tup xs)→H' b=some (.tup xs)):Xl P w H' h' a o:=by
 induction o with
 | lst xs=>obtain⟨z,its,n,r,e⟩:=x;exact⟨z,its,n,r,k _ _ (.inl rfl) e⟩
 | tup xs=>obtain⟨z,its,r,ob,e,c⟩:=x;exact⟨z,its,r,ob,k _ _ (.inl rfl) e,c⟩
 | dK kvs=>obtain⟨z,y,vs,r,ob,es,ep,e,c⟩:=x;exact⟨z,y,vs,r,ob,es,ep,k _ _ (.inl rfl) e,c⟩
 | dT kvs=>
  obtain⟨z,y,xs,r,ob,es,ep,e,c⟩:=x
  exact⟨z,y,xs,Paired.mapP r fun p q z=>⟨z.1,ht _ _ z.2.1,z.2.2⟩,ob,es,ep,k _ _ (.inl rfl) e,c⟩
 | set S n=>obtain⟨ob,es,ep,t,e,c⟩:=x;exact⟨ob,es,ep,t,k _ _ (.inl rfl) e,c⟩
 | ins C dx fs=>
  obtain⟨d,z,ne,e,mA,⟨od,es,ep,e2,c⟩,r⟩:=x
  exact⟨ho _ d,z,ne,k _ _ (.inl rfl) e,mA,⟨od,es,ep,k _ _ (.inr d) e2,c⟩,r⟩
 | own y=>obtain⟨ob,e⟩:=x;exact⟨ob,k _ _ (.inl rfl) e⟩
 | xd fs=>obtain⟨mA,⟨od,es,ep,e,c⟩,r⟩:=x;exact⟨mA,⟨od,es,ep,k _ _ (.inl rfl) e,c⟩,r⟩
 | rng lo hi=>obtain⟨t,u,v,e⟩:=x;exact⟨t,u,v,k _ _ (.inl rfl) e⟩
 | frz ob u ih=>obtain⟨e,q⟩:=x;exact⟨k _ _ (.inl rfl) e,ih q⟩
 | tbl ps=>
  have e:h.get? a=some {cls:= .none,data:= .fields ps}:=x
  show h'.get? a=some {cls:= .none,data:= .fields ps}
  exact k a _ (.inl rfl) e
 | met f y=>
  have e:h.get? a=some (PySem.W.methodObj (.ref f) (.ref y)):=x
  show h'.get? a=some (PySem.W.methodObj (.ref f) (.ref y))
  exact k a _ (.inl rfl) e
 | ext φ=>obtain⟨p,⟨o,e⟩,st⟩:=x;exact⟨st _ _ p fun o q=>k _ _ (.inl rfl) q,⟨o,k _ _ (.inl rfl) e⟩,st⟩
theorem HOk.lt(x:HOk P w H h)(e:H a=some o):a<h.objs.size:=(x a o e).lt
theorem HOk.fresh(x:HOk P w H h)(e:h.objs.size≤a):H a=none:=by
 cases q:H a with
 | none=>rfl
 | some u=>exact absurd (Nat.lt_of_lt_of_le (x.lt q) e) (Nat.lt_irrefl _)
theorem HOk.kept(x:HOk P w H h)(k:∀b u,h.get? b=some u→h'.get? b=some u):HOk P w H h':=fun a o e=>
 (x a o e).stay (fun b u _ q=>k b u q) (fun _ q=>q) fun _ _ q=>q
theorem HOk.laid(x:HOk P w H h)(k:∀b u,h.get? b=some u→h'.get? b=some u)(hp:h.objs.size≤a)(new:Xl P w (upd H a o) h' a o):HOk P w (upd H a o) h':=fun b u e=>by
 have hn:=x.fresh hp
 by_cases hb:b=a
 ·subst hb;rw[Yy] at e;cases e;exact new
 ·rw[Zw hb] at e
  exact(x b u e).stay (fun c v _ q=>k c v q) (fun c q=>by rw[Zw (V1 q hn)];exact q) fun c xs q=>by rw[Zw (V1 q hn)];exact q
end
def Rd(H:Hp)(a:Addr)(u:HO):Prop:=H a=some u∨∃o,H a=some (.frz o u)
theorem Rd.ok{P:Program}{w:World}{H:Hp}{h:Heap}{a:Addr}{u:HO}(r:Rd H a u)(x:HOk P w H h):Xl P w H h a u:=by
 rcases r with r | ⟨o,r⟩
 ·exact x a u r
 ·obtain⟨_,q⟩:=x a _ r
  exact q
def Mut:Option HO→Prop
 | some (.lst _)=>True
 | some (.dK _)=>True
 | some (.dT _)=>True
 | some (.set _ _)=>True
 | some (.ins _ _ _)=>True
 | some (.ext _)=>True
 | _=>False
section
variable{P:Program}{w:World}{H:Hp}{h h':Heap}{x e:Addr}{o':HO}
theorem HOk.write(ok:HOk P w H h)(mu:Mut (H x))(he:e=x∨H e=some (.own x))(k:∀b u,b≠e→h.get? b=some u→h'.get? b=some u)(heo:∃u,h'.get? e=some u)
  (new:Xl P w (upd H x o') h' x o'):HOk P w (upd H x o') h':=fun b u q=>by
 have nown:∀c y,H c=some (.own y)→c≠x:=fun c y r z=>by subst z;rw[r] at mu;exact mu
 have ntup:∀c xs,H c=some (.tup xs)→c≠x:=fun c xs r z=>by subst z;rw[r] at mu;exact mu
 by_cases hb:b=x
 ·subst hb;rw[Yy] at q;cases q;exact new
 ·rw[Zw hb] at q
  by_cases hbe:b=e
  ·have q':H b=some (.own x):=by
    rcases he with z | z
    ·exact absurd (hbe.trans z) hb
    ·rw[hbe];exact z
   rw[q] at q';cases q'
   obtain⟨v,hv⟩:=heo
   exact⟨v,by rw[hbe];exact hv⟩
  ·refine(ok b u q).stay (fun c v hc r=>k c v ?_ r) (fun c r=>by rw[Zw (nown c b r)];exact r) fun c xs r=>by rw[Zw (ntup c xs r)];exact r
   rcases hc with rfl | hc
   ·exact hbe
   ·rintro rfl
    rcases he with z | z
    ·exact nown c b hc z
    ·rw[hc] at z;cases z;exact hb rfl
end
structure Un(fs ex:List Addr)(H H':Hp)(h h':Heap):Prop where
 keep:∀b o,h.get? b=some o→H b=none→b∉fs→b∉ex→h'.get? b=some o
 slot:∀b o,h.get? b=some o→H b=none→b∈fs→b∉ex→∃sl,h'.get? b=some {o with slots:=sl}
 free:∀b o,h.get? b=some o→H b=none→b∉ex→H' b=none
 there:∀b o,h.get? b=some o→b∉ex→∃o',h'.get? b=some o'
 tups:∀b xs,H b=some (.tup xs)→H' b=some (.tup xs)
 frzs:∀b o u,H b=some (.frz o u)→H' b=some (.frz o u)
 tbls:∀b ps,H b=some (.tbl ps)→∃more,H' b=some (.tbl (ps++more))
section
variable{fs fs' ex ex':List Addr}{H H1 H2:Hp}{h h1 h2 h':Heap}{a x e:Addr}{o:HO}
theorem Un.any(u:Un fs ex H H1 h h1){b:Addr}{ob:Obj}(q:h.get? b=some ob)(n:H b=none)(hx:b∉ex):∃sl,h1.get? b=some {ob with slots:=sl}:=by
 by_cases hb:b∈fs
 ·exact u.slot b ob q n hb hx
 ·exact⟨ob.slots,u.keep b ob q n hb hx⟩
theorem Un.trans(a:Un fs ex H H1 h h1)(b:Un fs ex H1 H2 h1 h2):Un fs ex H H2 h h2 where
 keep:=fun c ob q n hc hx=>b.keep c ob (a.keep c ob q n hc hx) (a.free c ob q n hx) hc hx
 slot:=fun c ob q n hc hx=>by
  obtain⟨sl,e1⟩:=a.slot c ob q n hc hx
  obtain⟨sl',e2⟩:=b.slot c _ e1 (a.free c ob q n hx) hc hx
  exact⟨sl',e2⟩
 free:=fun c ob q n hx=>by
  obtain⟨o',e1⟩:=a.there c ob q hx
  exact b.free c o' e1 (a.free c ob q n hx) hx
 there:=fun c ob q hx=>by
  obtain⟨o',e1⟩:=a.there c ob q hx
  exact b.there c o' e1 hx
 tups:=fun c xs q=>b.tups c xs (a.tups c xs q)
 frzs:=fun c ob xs q=>b.frzs c ob xs (a.frzs c ob xs q)
 tbls:=fun c ps q=>by
  obtain⟨m1,e1⟩:=a.tbls c ps q
  obtain⟨m2,e2⟩:=b.tbls c _ e1
  exact⟨m1++m2,by rw[e2,Array.append_assoc]⟩
theorem Un.kept(k:∀b u,h.get? b=some u→h'.get? b=some u):Un fs ex H H h h':=
 ⟨fun b ob q _ _ _=>k b ob q,fun b ob q _ _ _=>⟨ob.slots,k b ob q⟩,fun _ _ _ n _=>n,fun b ob q _=>⟨ob,k b ob q⟩,fun _ _ q=>q,fun _ _ _ q=>q,fun _ ps q=>⟨#[],by rw[q];simp⟩⟩
theorem Un.refl:Un fs ex H H h h:=Un.kept fun _ _ q=>q
theorem Un.laid(k:∀b u,h.get? b=some u→h'.get? b=some u)(hp:h.objs.size≤a)(hn:H a=none):Un fs ex H (upd H a o) h h' where
 keep:=fun b u q _ _ _=>k b u q
 slot:=fun b u q _ _ _=>⟨u.slots,k b u q⟩
 free:=fun b u q n _=>by rw[Zw (Nat.ne_of_lt (Nat.lt_of_lt_of_le (Ai q) hp))];exact n
 there:=fun b u q _=>⟨u,k b u q⟩
 tups:=fun b xs q=>by rw[Zw (V1 q hn)];exact q
 frzs:=fun b u xs q=>by rw[Zw (V1 q hn)];exact q
 tbls:=fun b ps q=>⟨#[],by rw[Zw (V1 q hn),q];simp⟩
theorem Un.write(mu:Mut (H x))(he:e=x∨H e=some (.own x))(k:∀b u,b≠e→h.get? b=some u→h'.get? b=some u)(heo:∃u,h'.get? e=some u):Un fs ex H (upd H x o) h h':=by
 have hx:∀b,H b=none→b≠x:=fun b n z=>by subst z;rw[n] at mu;exact mu
 have hb:∀b,H b=none→b≠e:=fun b n z=>by
  subst z
  rcases he with r | r
  ·exact hx b n r
  ·rw[n] at r;cases r
 have hm:∀b u,H b=some u→¬Mut (some u)→b≠x:=fun b u q nm z=>by subst z;rw[q] at mu;exact nm mu
 refine⟨fun b u q n _ _=>k b u (hb b n) q,fun b u q n _ _=>⟨u.slots,k b u (hb b n) q⟩,fun b u q n _=>by rw[Zw (hx b n)];exact n,fun b u q _=>?_,
  fun b xs q=>by rw[Zw (hm b _ q fun z=>z)];exact q,fun b u xs q=>by rw[Zw (hm b _ q fun z=>z)];exact q,fun b ps q=>⟨#[],by rw[Zw (hm b _ q fun z=>z),q];simp⟩⟩
 by_cases hbe:b=e
 ·subst hbe;exact heo
 ·exact⟨u,k b u hbe q⟩
end
noncomputable def trk(h:Heap)(H:Hp):List Addr:=(Ij h.objs.size).filter fun a=>(H a).isSome
noncomputable def hidT(h:Heap)(H:Hp):Heap:=PySem.W.hideAll h (trk h H)
theorem Ze6(h:Heap)(H:Hp):(hidT h H).objs.size=h.objs.size:=PySem.W.hideAll_size _ _
theorem Zm9{h:Heap}{H:Hp}{b:Addr}{o:Obj}(e:h.get? b=some o)(n:H b=none):(hidT h H).get? b=some o:=
 PySem.W.hideAll_get _ e fun hm=>by
  have q:(H b).isSome=true:=(List.mem_filter.mp hm).2
  rw[n] at q;simp at q
theorem Zt8{h:Heap}{H:Hp}{b:Addr}{o:Obj}(e:(hidT h H).get? b=some o):h.get? b=some o∧H b=none:=by
 have e':h.get? b=some o:=PySem.W.of_hideAll (trk h H) e
 refine⟨e',?_⟩
 cases q:H b with
 | none=>rfl
 | some x=>
  have hm:b∈trk h H:=List.mem_filter.mpr ⟨Ia.mpr (Ai e'),by simp[q]⟩
  have z:(hidT h H).get? b=none:=PySem.W.hideAll_none (trk h H) hm
  rw[z] at e;cases e
noncomputable def Zv8(g h:Heap)(L:Addr):List (Addr×Obj):=(Ij h.objs.size).filterMap fun a=>if a=L∨(g.get? a).isSome=true then none else(h.get? a).map fun o=>(a,o)
noncomputable def rest(g h:Heap)(L d:Addr):List (Addr×Obj):=(Zv8 g h L).filter fun p=>decide (p.1≠d)
structure Mod(K:Ae)(mg:Str→Option Value)(base:Heap):Prop where
 kin:K.In base
 glob:base.Ns mainGlobals mg
 blt:∃mb,base.Ns builtinsNs mb∧∀x:Str,x≠"__name__"→mb x=bootBuiltins x
 nolimit:base.NoLimit
structure Cx where
 prog:Program
 w:World
 K:Ae
 mg:Str→Option Value
 base:Heap
 A:Around
 N:List Str
 s₀:Shared
 H₀:Hp
 env:Env
 outer:List Env
 stack:List Env
 ex:List Addr
 fn:Str→Bool
 calm:Bool
 pn:List (Addr×Obj)
 xe:Value→Shared→Prop
noncomputable def frs(l:List Env):List Addr:=l.filterMap (·.frame)
noncomputable abbrev Cx.fs(X:Cx):List Addr:=frs X.outer
def Vis(sc:Scope)(x:Str):Prop:=sc.names.lookup x=some .local∨sc.names.lookup x=some .cell∨sc.names.lookup x=some .free
def Loc(sc:Scope)(x:Str):Prop:=sc.names.lookup x=some .local∨sc.names.lookup x=some .cell
def Look(env:Env)(h:Heap)(m:Str→Option Value)(x:Str)(u:Value):Prop:=
 (env.kindOf x=some .local∧m x=some u)∨((env.kindOf x=some .cell∨env.kindOf x=some .free)∧∃c,env.cells.lookup x=some c∧h.IsCell c (some u))
structure Cx.Ok(X:Cx):Prop where
 mod:Mod X.K X.mg X.base
 kind:X.env.scope.kind= .function
 glob:X.env.globals=mainGlobals
 blt:X.env.builtins=builtinsNs
 above:X.s₀.heap.objs.size≤X.env.locals
 inj:∀x y c,X.env.cells.lookup x=some c→X.env.cells.lookup y=some c→x=y
 has:∀x,(X.env.kindOf x=some .cell∨X.env.kindOf x=some .free)→∃c,X.env.cells.lookup x=some c
 cab:∀x c,X.fn x=true→X.env.cells.lookup x=some c→X.s₀.heap.objs.size≤c
 hd:X.calm=true→X.A.handled=none
 frames:X.A.frames=some X.stack
 stk:X.stack=X.outer∨(X.stack=X.env::X.outer∧X.env.frame=some X.env.locals)
 exf:∀b∈X.ex,b≠X.env.locals∧∀x c,X.env.cells.lookup x=some c→c≠b
 bs:∀b o,X.base.get? b=some o→X.s₀.heap.get? b=some o∧X.H₀ b=none
 bsz:X.base.objs.size≤X.s₀.heap.objs.size
 noex:∀b o,X.base.get? b=some o→b∉X.ex
 exfs:∀b∈X.ex,b∉X.fs
 funs:X.s₀.heap.FunFrames X.base X.outer
 frf:∀b∈X.fs,X.H₀ b=none
structure Inv(X:Cx)(pins:List (Addr×Obj))(σ:List (Option V))(H:Hp)(s:Shared):Prop where
 ok:X.Ok
 os:s.os=X.s₀.os
 bare:AllBare s.gens
 base:Un X.fs X.ex X.H₀ H X.s₀.heap s.heap
 loc:∃m,s.heap.Ns X.env.locals m∧∀(i:Nat) (x:Str) (v:V),X.N[i]?=some x→σ[i]?=some (some v)→Vis X.env.scope x→∃u,RelV v u∧Look X.env s.heap m x u
 cell:∀x c,X.env.cells.lookup x=some c→∃v,s.heap.IsCell c v
 free:H X.env.locals=none
 freeC:∀x c,X.env.cells.lookup x=some c→H c=none
 pin:∀p∈X.pn++pins,s.heap.get? p.1=some p.2∧H p.1=none∧p.1≠X.env.locals∧p.1∉X.fs∧∀v,p.2.data≠ .cell v
 hok:HOk X.prog X.w H s.heap
 len:σ.length=X.N.length
section
variable{X:Cx}{pins:List (Addr×Obj)}{σ:List (Option V)}{H H':Hp}{s:Shared}{h':Heap}
theorem Cx.Ok.nofr(ok:X.Ok){b:Addr}{o:Obj}(e:X.base.get? b=some o):b∉X.fs:=fun hb=>by
 have:=(ok.funs.mem hb).1
 rw[e] at this;cases this
theorem Inv.bs(I:Inv X pins σ H s):∀b o,X.base.get? b=some o→s.heap.get? b=some o∧H b=none:=fun b o e=>
 ⟨I.base.keep b o (I.ok.bs b o e).1 (I.ok.bs b o e).2 (I.ok.nofr e) (I.ok.noex b o e),I.base.free b o (I.ok.bs b o e).1 (I.ok.bs b o e).2 (I.ok.noex b o e)⟩
theorem Inv.bk(I:Inv X pins σ H s):∀b o,X.base.get? b=some o→s.heap.get? b=some o:=fun b o e=>(I.bs b o e).1
theorem Inv.mod(I:Inv X pins σ H s):Mod X.K X.mg X.base:=I.ok.mod
theorem Inv.kIn(I:Inv X pins σ H s):X.K.In s.heap:=I.ok.mod.kin.keeps I.bk
theorem Inv.lt(I:Inv X pins σ H s):X.env.locals<s.heap.objs.size:=by obtain⟨_,hn,_⟩:=I.loc;exact hn.lt
theorem Inv.sz(I:Inv X pins σ H s):X.s₀.heap.objs.size≤s.heap.objs.size:=Nat.le_trans I.ok.above (Nat.le_of_lt I.lt)
theorem Inv.nofs(I:Inv X pins σ H s){a:Addr}(h:s.heap.objs.size≤a):a∉X.fs:=fun hb=>by
 obtain⟨_,o,ho,_⟩:=I.ok.funs.mem hb
 exact absurd (Nat.lt_of_lt_of_le (Ai ho) (Nat.le_trans I.sz h)) (Nat.lt_irrefl _)
theorem Inv.cne(I:Inv X pins σ H s):∀x c,X.env.cells.lookup x=some c→c≠X.env.locals:=fun x c e z=>by
 obtain⟨v,o,ho,hd⟩:=I.cell x c e
 obtain⟨m,⟨o',es,ep,ho',hd',_⟩,_⟩:=I.loc
 rw[z,ho'] at ho;cases ho;rw[hd'] at hd;cases hd
theorem Inv.funs(I:Inv X pins σ H s):s.heap.FunFrames X.base X.outer:=by
 have all:∀(l:List Env),(∀b∈frs l,b∈X.fs)→X.s₀.heap.FunFrames X.base l→s.heap.FunFrames X.base l:=by
  intro l
  induction l with
  | nil=>intro _ _;trivial
  | cons env r ih=>
   intro hs hl
   obtain⟨hk,⟨L,o,hf,hn,ho,hd⟩,hr⟩:=hl
   have hL:L∈X.fs:=hs L (by unfold frs;rw[List.filterMap_cons,hf];exact Bs)
   obtain⟨sl,e⟩:=I.base.slot L o ho (I.ok.frf L hL) hL fun z=>I.ok.exfs L z hL
   exact⟨hk,⟨L,_,hf,hn,e,hd⟩,ih (fun b hb=>hs b (by unfold frs;rw[List.filterMap_cons,hf];exact Az _ hb)) hr⟩
 exact all X.outer (fun _ hb=>hb) I.ok.funs
theorem Inv.stack(I:Inv X pins σ H s):s.heap.FunFrames X.base X.stack:=by
 rcases I.ok.stk with e | ⟨e,hf⟩
 ·rw[e];exact I.funs
 ·rw[e]
  obtain⟨m,hn,_⟩:=I.loc
  refine .cons (by rw[I.ok.kind];decide) hf hn ?_ I.funs
  exact Heap.get?_none_of_le (Nat.le_trans I.ok.bsz I.ok.above)
theorem Inv.stkSub(I:Inv X pins σ H s):∀b∈frs X.stack,b∈X.env.locals::X.fs:=fun b hb=>by
 rcases I.ok.stk with e | ⟨e,hf⟩
 ·rw[e] at hb;exact Az _ hb
 ·rw[e] at hb
  unfold frs at hb
  rw[List.filterMap_cons,hf] at hb
  exact hb
theorem Inv.stkFree(I:Inv X pins σ H s):∀b∈frs X.stack,H b=none:=fun b hb=>by
 rcases Am.mp (I.stkSub b hb) with e | hb
 ·rw[e];exact I.free
 ·obtain⟨_,o,ho,_⟩:=I.ok.funs.mem hb
  exact I.base.free b o ho (I.ok.frf b hb) fun z=>I.ok.exfs b z hb
theorem Inv.step{g':Array GenState}{t':Nat}{d':Drawn}{ch:List Addr}(I:Inv X pins σ H s)
  (hch:∀b∈ch,(b∈X.ex∨X.s₀.heap.objs.size≤b)∧b≠X.env.locals∧(∀x c,X.env.cells.lookup x=some c→c≠b)∧∀p∈X.pn++pins,p.1≠b)
  (keep:∀b o,b≠X.env.locals→b∉X.fs→b∉ch→s.heap.get? b=some o→H b=none→h'.get? b=some o)
  (slot:∀b o,b≠X.env.locals→b∈X.fs→b∉ch→s.heap.get? b=some o→H b=none→∃sl,h'.get? b=some {o with slots:=sl}) (free:∀b o,b∉ch→s.heap.get? b=some o→H b=none→H' b=none)
  (there:∀b o,b∉ch→s.heap.get? b=some o→∃o',h'.get? b=some o')
  (tups:∀b xs,H b=some (.tup xs)→H' b=some (.tup xs)) (frzs:∀b o u,H b=some (.frz o u)→H' b=some (.frz o u)) (tbls:∀b ps,H b=some (.tbl ps)→∃more,H' b=some (.tbl (ps++more)))
  (ns:∀m,s.heap.Ns X.env.locals m→h'.Ns X.env.locals m) (hok:HOk X.prog X.w H' h') (hg:AllBare g'):
  Inv X pins σ H' {s with heap:=h',gens:=g',drawn:=d',toks:=t'}:=by
 have neL:∀b o,X.s₀.heap.get? b=some o→b≠X.env.locals:=fun b o e=>Nat.ne_of_lt (Nat.lt_of_lt_of_le (Ai e) I.ok.above)
 have neC:∀b o,X.s₀.heap.get? b=some o→b∉X.ex→b∉ch:=fun b o e hx hb=>by
  rcases(hch b hb).1 with z | z
  ·exact hx z
  ·exact absurd (Nat.lt_of_lt_of_le (Ai e) z) (Nat.lt_irrefl _)
 have cellK:∀x c,X.env.cells.lookup x=some c→∀v,s.heap.IsCell c v→h'.IsCell c v:=fun x c e v ⟨o,ho,hd⟩=>by
  have nch:c∉ch:=fun z=>(hch c z).2.2.1 x c e rfl
  by_cases hc:c∈X.fs
  ·obtain⟨sl,q⟩:=slot c o (I.cne x c e) hc nch ho (I.freeC x c e)
   exact⟨_,q,hd⟩
  ·exact⟨o,keep c o (I.cne x c e) hc nch ho (I.freeC x c e),hd⟩
 refine⟨I.ok,I.os,hg,⟨fun b o e n hb hx=>?_,fun b o e n hb hx=>?_,fun b o e n hx=>?_,fun b o e hx=>?_,fun b xs e=>tups b xs (I.base.tups b xs e),fun b o xs e=>frzs b o xs (I.base.frzs b o xs e),fun b ps e=>?_⟩,?_,fun x c e=>?_,?_,fun x c e=>?_,fun p hp=>?_,hok,I.len⟩
 ·exact keep b o (neL b o e) hb (neC b o e hx) (I.base.keep b o e n hb hx) (I.base.free b o e n hx)
 ·obtain⟨sl,e1⟩:=I.base.slot b o e n hb hx
  obtain⟨sl',e2⟩:=slot b _ (neL b o e) hb (neC b o e hx) e1 (I.base.free b o e n hx)
  exact⟨sl',e2⟩
 ·obtain⟨o',e1⟩:=I.base.there b o e hx
  exact free b o' (neC b o e hx) e1 (I.base.free b o e n hx)
 ·obtain⟨o',e1⟩:=I.base.there b o e hx
  exact there b o' (neC b o e hx) e1
 ·obtain⟨m1,e1⟩:=I.base.tbls b ps e
  obtain⟨m2,e2⟩:=tbls b _ e1
  exact⟨m1++m2,by rw[e2,Array.append_assoc]⟩
 ·obtain⟨m,hn,hl⟩:=I.loc
  refine⟨m,ns m hn,fun i x v e1 e2 e3=>?_⟩
  obtain⟨u,r,l⟩:=hl i x v e1 e2 e3
  refine⟨u,r,?_⟩
  rcases l with l | ⟨k,c,e,z⟩
  ·exact .inl l
  ·exact .inr ⟨k,c,e,cellK x c e _ z⟩
 ·obtain⟨v,z⟩:=I.cell x c e
  exact⟨v,cellK x c e v z⟩
 ·obtain⟨m,⟨o,_,_,ho,_⟩,_⟩:=I.loc
  exact free _ o (fun z=>(hch _ z).2.1 rfl) ho I.free
 ·obtain⟨v,o,ho,hd⟩:=I.cell x c e
  exact free c o (fun z=>(hch c z).2.2.1 x c e rfl) ho (I.freeC x c e)
 ·obtain⟨e,n,ne,nf,d⟩:=I.pin p hp
  have nch:p.1∉ch:=fun z=>(hch p.1 z).2.2.2 p hp rfl
  exact⟨keep p.1 p.2 ne nf nch e n,free p.1 p.2 nch e n,ne,nf,d⟩
theorem Inv.un{t':Nat}(I:Inv X pins σ H s)(u:Un X.fs [] H H' s.heap h')(hok:HOk X.prog X.w H' h'):Inv X pins σ H' {s with heap:=h',toks:=t'}:=by
 obtain⟨m,⟨o,es,ep,ho,r⟩,_⟩:=id I.loc
 obtain⟨sl,hL⟩:=u.any ho I.free (by simp)
 exact I.step (g':=s.gens) (d':=s.drawn) (ch:=[]) (fun _ z=>nomatch z) (fun b o _ hb _ e n=>u.keep b o e n hb (by simp)) (fun b o _ hb _ e n=>u.slot b o e n hb (by simp)) (fun b o _ e n=>u.free b o e n (by simp)) (fun b o _ e=>u.there b o e (by simp)) u.tups u.frzs u.tbls (fun m' hm=>by
  obtain⟨o',es',ep',ho',r'⟩:=hm
  rw[ho] at ho';cases ho'
  exact⟨_,es',ep',hL,r'⟩) hok I.bare
theorem Inv.call{g':Array GenState}{t':Nat}{d':Drawn}{ch:List Addr}(I:Inv X pins σ H s)(u:Un (frs X.stack) ch H H' s.heap h')(hok:HOk X.prog X.w H' h')(hg:AllBare g')
  (hch:∀b∈ch,(b∈X.ex∨X.s₀.heap.objs.size≤b)∧b≠X.env.locals∧(∀x c,X.env.cells.lookup x=some c→c≠b)∧∀p∈X.pn++pins,p.1≠b):
  Inv X pins σ H' {s with heap:=h',gens:=g',drawn:=d',toks:=t'}:=by
 obtain⟨m,⟨o,es,ep,ho,r⟩,_⟩:=id I.loc
 obtain⟨sl,hL⟩:=u.any ho I.free fun z=>(hch _ z).2.1 rfl
 exact I.step (ch:=ch) hch (fun b o hL hb hc e n=>u.keep b o e n (fun z=>(Am.mp (I.stkSub b z)).elim hL hb) hc) (fun b o _ _ hc e n=>u.any e n hc) (fun b o hc e n=>u.free b o e n hc) (fun b o hc e=>u.there b o e hc) u.tups u.frzs u.tbls (fun m' hm=>by
  obtain⟨o',es',ep',ho',r'⟩:=hm
  rw[ho] at ho';cases ho'
  exact⟨_,es',ep',hL,r'⟩) hok hg
theorem Inv.turned{t':Nat}{it:Addr}(I:Inv X pins σ H s)(k:∀b o,b≠it→s.heap.get? b=some o→h'.get? b=some o)(hn:H it=none)(hL:it≠X.env.locals)
  (h1:it∈X.ex∨X.s₀.heap.objs.size≤it) (h2:∀x c,X.env.cells.lookup x=some c→c≠it) (h3:∀p∈X.pn++pins,p.1≠it):Inv X pins σ H {s with heap:=h',toks:=t'}:=by
 have nit:∀b u,H b=some u→b≠it:=fun b u e z=>by rw[z,hn] at e;cases e
 refine I.step (g':=s.gens) (d':=s.drawn) (ch:=[it]) (fun b hb=>?_) (fun b o _ _ hc e _=>k b o (fun z=>hc (by simp[z])) e) (fun b o _ _ hc e _=>⟨o.slots,k b o (fun z=>hc (by simp[z])) e⟩) (fun _ _ _ _ n=>n)
  (fun b o hc e=>⟨o,k b o (fun z=>hc (by simp[z])) e⟩) (fun _ _ e=>e) (fun _ _ _ e=>e) (fun b ps e=>⟨#[],by rw[e];simp⟩) (fun m hm=>?_) (fun b u e=>?_) I.bare
 ·have e:b=it:=by simpa using hb
  subst e
  exact⟨h1,hL,h2,h3⟩
 ·obtain⟨o,es,ep,ho,r⟩:=hm
  exact⟨o,es,ep,k _ o (Dm hL) ho,r⟩
 ·refine(I.hok b u e).stay (fun c v hc q=>k c v ?_ q) (fun _ q=>q) fun _ _ q=>q
  rcases hc with z | z
  ·rw[z];exact nit b u e
  ·exact nit c _ z
theorem Inv.tok(I:Inv X pins σ H s)(t:Nat):Inv X pins σ H {s with toks:=t}:=I.un (h':=s.heap) (t':=t) Un.refl I.hok
theorem Inv.kept{t':Nat}(I:Inv X pins σ H s)(k:∀b u,s.heap.get? b=some u→h'.get? b=some u):Inv X pins σ H {s with heap:=h',toks:=t'}:=I.un (Un.kept k) (I.hok.kept k)
theorem Inv.laid{a:Addr}{o:HO}{t':Nat}(I:Inv X pins σ H s)(k:∀b u,s.heap.get? b=some u→h'.get? b=some u)(hp:s.heap.objs.size≤a)(new:Xl X.prog X.w (upd H a o) h' a o):
  Inv X pins σ (upd H a o) {s with heap:=h',toks:=t'}:=I.un (Un.laid k hp (I.hok.fresh hp)) (I.hok.laid k hp new)
theorem Inv.write{x e:Addr}{o:HO}{t':Nat}(I:Inv X pins σ H s)(mu:Mut (H x))(he:e=x∨H e=some (.own x))(k:∀b u,b≠e→s.heap.get? b=some u→h'.get? b=some u)(heo:∃u,h'.get? e=some u)
  (new:Xl X.prog X.w (upd H x o) h' x o):Inv X pins σ (upd H x o) {s with heap:=h',toks:=t'}:=I.un (Un.write mu he k heo) (I.hok.write mu he k heo new)
theorem Inv.pins_of{pins':List (Addr×Obj)}(I:Inv X pins σ H s)(h:∀p∈pins',s.heap.get? p.1=some p.2∧H p.1=none∧p.1≠X.env.locals∧p.1∉X.fs∧∀v,p.2.data≠ .cell v):Inv X pins' σ H s:=
 ⟨I.ok,I.os,I.bare,I.base,I.loc,I.cell,I.free,I.freeC,fun p hp=>(Dd.mp hp).elim (fun z=>I.pin p (Hf _ z)) (h p),I.hok,I.len⟩
theorem Cz{N:List Str}(hN:N.Nodup){i j:Nat}{x:Str}(a:N[i]?=some x)(b:N[j]?=some x):i=j:=by
 obtain⟨h1,e1⟩:=Af.mp a
 obtain⟨h2,e2⟩:=Af.mp b
 exact(List.getElem_inj hN).mp (e1.trans e2.symm)
theorem Qu{M:Model}{A:Around}{E:Value→Shared→Prop}{i:Nat}{x:Str}{v:V}{u:Value}{Q:Unit→Shared→Prop}(I:Inv X pins σ H s)(hN:X.N.Nodup)(hi:X.N[i]?=some x)(hx:Loc X.env.scope x)(r:RelV v u)
  (h:∀s',Inv X pins (σ.set i (some v)) H s'→(∃a,Dn a s.heap s'.heap∧(a=X.env.locals∨X.env.cells.lookup x=some a))→Q () s') (hf:X.fn x=true∨X.env.scope.names.lookup x=some .local:=by first | exact .inl rfl | exact .inr rfl | assumption):wpAny M A (storeName X.env x u) Q E s:=by
 obtain⟨m,hn,hl⟩:=id I.loc
 have hcls:(X.env.scope.kind== .class || (X.env.scope.kind== .module&&X.env.locals !=X.env.globals))=false:=by rw[I.ok.kind];rfl
 have hiσ:i<σ.length:=by rw[I.len];exact(Af.mp hi).1
 have cne:=I.cne
 have tracked:∀{a:Addr} {h':Heap},(∃o,s.heap.get? a=some o∧H a=none)→Dn a s.heap h'→HOk X.prog X.w H h':=fun{a h'} ha hs b ob e=>by
  obtain⟨_,_,hfree⟩:=ha
  refine(I.hok b ob e).stay (fun c w' hc q=>(hs.2 c ?_).trans q) (fun _ q=>q) fun _ _ q=>q
  rintro rfl
  rcases hc with rfl | hc
  ·rw[hfree] at e;cases e
  ·rw[hfree] at hc;cases hc
 rcases hx with hk | hk
 ·refine wpAny_storeName_local hk hn (fun h' hn' hs=>?_) hcls
  obtain⟨oL,_,_,hoL,_⟩:=id hn
  refine h _ ⟨I.ok,I.os,I.bare,⟨fun b o e n hb hx=>?_,fun b o e n hb hx=>?_,I.base.free,fun b o e hx=>?_,I.base.tups,I.base.frzs,I.base.tbls⟩,⟨_,hn',fun j y v' e1 e2 e3=>?_⟩,fun y c e=>?_,I.free,I.freeC,fun p hp=>?_,tracked ⟨oL,hoL,I.free⟩ hs,by simpa using I.len⟩ ⟨_,hs,.inl rfl⟩
  ·exact(hs.2 b (Nat.ne_of_lt (Nat.lt_of_lt_of_le (Ai e) I.ok.above))).trans (I.base.keep b o e n hb hx)
  ·obtain⟨sl,e1⟩:=I.base.slot b o e n hb hx
   exact⟨sl,(hs.2 b (Nat.ne_of_lt (Nat.lt_of_lt_of_le (Ai e) I.ok.above))).trans e1⟩
  ·obtain⟨o',e1⟩:=I.base.there b o e hx
   exact⟨o',(hs.2 b (Nat.ne_of_lt (Nat.lt_of_lt_of_le (Ai e) I.ok.above))).trans e1⟩
  ·by_cases hj:j=i
   ·subst hj
    rw[hi] at e1;cases e1
    rw[Ii hiσ] at e2
    cases e2
    exact⟨u,r,.inl ⟨hk,by simp⟩⟩
   ·rw[Ht (Dm hj)] at e2
    obtain⟨u',r',q⟩:=hl j y v' e1 e2 e3
    refine⟨u',r',?_⟩
    rcases q with⟨k,e⟩ | ⟨k,c,e,z⟩
    ·refine .inl ⟨k,?_⟩
     have:y≠x:=fun e=>hj (Cz hN e1 (e ▸ hi))
     simp[this,e]
    ·exact .inr ⟨k,c,e,z.sameBut hs (cne y c e)⟩
  ·obtain⟨w',z⟩:=I.cell y c e
   exact⟨w',z.sameBut hs (cne y c e)⟩
  ·obtain⟨e,n,ne,nf,d⟩:=I.pin p hp
   exact⟨(hs.2 p.1 ne).trans e,n,ne,nf,d⟩
 ·have hfn:X.fn x=true:=by
   rcases hf with z | z
   ·exact z
   ·rw[z] at hk;cases hk
  obtain⟨c,hc⟩:=I.ok.has x (.inl hk)
  obtain⟨w',z⟩:=I.cell x c hc
  refine wpAny_storeName_cell I.ok.kind hk hc z (fun h' hc' hs=>?_)
  obtain⟨oc,hoc,hocd⟩:=id z
  refine h {s with heap:=h'} ⟨I.ok,I.os,I.bare,⟨fun b o e n hb hx=>?_,fun b o e n hb hx=>?_,I.base.free,fun b o e hx=>?_,I.base.tups,I.base.frzs,I.base.tbls⟩,⟨m,hn.sameBut hs (Dm (cne x c hc)),fun j y v' e1 e2 e3=>?_⟩,fun y c' e=>?_,I.free,I.freeC,fun p hp=>?_,tracked ⟨oc,hoc,I.freeC x c hc⟩ hs,by simpa using I.len⟩ ⟨c,hs,.inr hc⟩
  ·exact(hs.2 b (Nat.ne_of_lt (Nat.lt_of_lt_of_le (Ai e) (I.ok.cab x c hfn hc)))).trans (I.base.keep b o e n hb hx)
  ·obtain⟨sl,e1⟩:=I.base.slot b o e n hb hx
   exact⟨sl,(hs.2 b (Nat.ne_of_lt (Nat.lt_of_lt_of_le (Ai e) (I.ok.cab x c hfn hc)))).trans e1⟩
  ·obtain⟨o',e1⟩:=I.base.there b o e hx
   exact⟨o',(hs.2 b (Nat.ne_of_lt (Nat.lt_of_lt_of_le (Ai e) (I.ok.cab x c hfn hc)))).trans e1⟩
  ·by_cases hj:j=i
   ·subst hj
    rw[hi] at e1;cases e1
    rw[Ii hiσ] at e2
    cases e2
    exact⟨u,r,.inr ⟨.inl hk,c,hc,hc'⟩⟩
   ·rw[Ht (Dm hj)] at e2
    obtain⟨u',r',q⟩:=hl j y v' e1 e2 e3
    refine⟨u',r',?_⟩
    rcases q with q | ⟨k,c',e,z'⟩
    ·exact .inl q
    ·refine .inr ⟨k,c',e,z'.sameBut hs ?_⟩
     rintro rfl
     exact hj (Cz hN e1 (I.ok.inj _ _ _ e hc ▸ hi))
  ·by_cases hcc:c'=c
   ·subst hcc;exact⟨_,hc'⟩
   ·obtain⟨w2,z2⟩:=I.cell y c' e
    exact⟨w2,z2.sameBut hs hcc⟩
  ·obtain⟨e,n,ne,nf,d⟩:=I.pin p hp
   refine⟨(hs.2 p.1 ?_).trans e,n,ne,nf,d⟩
   intro q
   rw[q,hoc] at e
   have q':oc=p.2:=Hj e
   exact d w' (by rw[←q'];exact hocd)
theorem Zl3{M:Model}{A:Around}{E:Value→Shared→Prop}{i:Nat}{x:Str}{v:V}{u:Value}{Q:Unit→Shared→Prop}(I:Inv X pins σ H s)(hN:X.N.Nodup)(hi:X.N[i]?=some x)(hx:Loc X.env.scope x)(r:RelV v u)
  (h:∀s',Inv X pins (σ.set i (some v)) H s'→Q () s') (hf:X.fn x=true∨X.env.scope.names.lookup x=some .local:=by first | exact .inl rfl | exact .inr rfl | assumption):wpAny M A (storeName X.env x u) Q E s:=
 Qu I hN hi hx r (fun s' I' _=>h s' I') hf
theorem Inv.call'{s':Shared}{ch:List Addr}(I:Inv X pins σ H s)(ho:s'.os=s.os)(u:Un (frs X.stack) ch H H' s.heap s'.heap)(hok:HOk X.prog X.w H' s'.heap)(hg:AllBare s'.gens)
  (hch:∀b∈ch,(b∈X.ex∨X.s₀.heap.objs.size≤b)∧b≠X.env.locals∧(∀x c,X.env.cells.lookup x=some c→c≠b)∧∀p∈X.pn++pins,p.1≠b):Inv X pins σ H' s':=by
 obtain⟨h',g',d',t',o'⟩:=s'
 have e:o'=s.os:=ho
 subst e
 exact I.call (g':=g') (t':=t') (d':=d') u hok hg hch
end
abbrev XK:=Value→Option Addr→Hp→Prop
noncomputable abbrev St:=List (Option V)
abbrev VK:=V→Hp→Prop
abbrev TE:=St→Hp→VK→Prop
abbrev TT:=St→Hp→(Bool→Hp→Prop)→Prop
abbrev TA:=St→Hp→(List V→Hp→Prop)→Prop
structure Ends where
 nx:St→Hp→Prop
 rt:VK
 bk:St→Hp→Prop:=fun _ _=>False
 ct:St→Hp→Prop:=fun _ _=>False
abbrev TS:=Ends→St→Hp→Prop
def EP(X:Cx)(pins:List (Addr×Obj))(σ:St)(Q:VK)(u:Value)(s':Shared):Prop:=∃v H',Inv X pins σ H' s'∧RelV v u∧Q v H'
def TP(X:Cx)(pins:List (Addr×Obj))(σ:St)(Q:Bool→Hp→Prop)(b:Bool)(s':Shared):Prop:=∃H',Inv X pins σ H' s'∧Q b H'
def AP(X:Cx)(pins:List (Addr×Obj))(σ:St)(Q:List V→Hp→Prop)(us:List Value)(s':Shared):Prop:=∃vs H',Inv X pins σ H' s'∧Vals vs us∧Q vs H'
def SP(X:Cx)(pins:List (Addr×Obj))(D:Ends)(f:Flow)(s':Shared):Prop:=
 match f with
 | .next=>∃σ' H',Inv X pins σ' H' s'∧D.nx σ' H'
 | .brk=>∃σ' H',Inv X pins σ' H' s'∧D.bk σ' H'
 | .cont=>∃σ' H',Inv X pins σ' H' s'∧D.ct σ' H'
 | .ret u=>∃v σ' H',Inv X pins σ' H' s'∧RelV v u∧D.rt v H'
def PE(X:Cx)(e:Expr)(t:TE):Prop:=
 ∀(pins:List (Addr×Obj)) (s:Shared) (σ:St) (H:Hp) (Q:VK),Inv X pins σ H s→t σ H Q→wpAny (model X.prog X.w) X.A (eval e X.env) (EP X pins σ Q) X.xe s
def PT(X:Cx)(e:Expr)(t:TT):Prop:=
 ∀(pins:List (Addr×Obj)) (s:Shared) (σ:St) (H:Hp) (Q:Bool→Hp→Prop),Inv X pins σ H s→t σ H Q→wpAny (model X.prog X.w) X.A (isTrue e X.env (eval e X.env)) (TP X pins σ Q) X.xe s
def PW(X:Cx)(e:Expr)(t:TT):Prop:=
 ∀(whole:Sem Value) (pins:List (Addr×Obj)) (s:Shared) (σ:St) (H:Hp) (Q:Bool→Hp→Prop),Inv X pins σ H s→t σ H Q→wpAny (model X.prog X.w) X.A (isTrue e X.env whole) (TP X pins σ Q) X.xe s
theorem PW.pt{X:Cx}{e:Expr}{t:TT}(h:PW X e t):PT X e t:=h _
def PA(X:Cx)(es:List Expr)(t:TA):Prop:=
 ∀(pos:Pos) (pins:List (Addr×Obj)) (s:Shared) (σ:St) (H:Hp) (Q:List V→Hp→Prop),Inv X pins σ H s→t σ H Q→wpAny (model X.prog X.w) X.A (spliced (backTo pos (starEach es X.env))) (AP X pins σ Q) X.xe s
def PS(X:Cx)(st:Stmt)(t:TS):Prop:=
 ∀(pins:List (Addr×Obj)) (s:Shared) (σ:St) (H:Hp) (D:Ends),Inv X pins σ H s→t D σ H→wpAny (model X.prog X.w) X.A (exec st X.env) (SP X pins D) X.xe s
def PSs(X:Cx)(st:List Stmt)(t:TS):Prop:=
 ∀(pins:List (Addr×Obj)) (s:Shared) (σ:St) (H:Hp) (D:Ends),Inv X pins σ H s→t D σ H→wpAny (model X.prog X.w) X.A (execs st X.env) (SP X pins D) X.xe s
theorem thn{α:Type}{t:Sem α}{Q Q':α→Shared→Prop}{M:Model}{A:Around}{E:Value→Shared→Prop}{s:Shared}(h:wpAny M A t Q E s)(hQ:∀a s,Q a s→Q' a s):wpAny M A t Q' E s:=Hl h hQ fun _ _ x=>x
section
variable{X:Cx}
theorem bin{a b:Expr}{ta tb:TE}(ha:PE X a ta)(hb:PE X b tb){pins:List (Addr×Obj)}{s:Shared}{σ:St}{H:Hp}{R:V→V→Hp→Prop}(I:Inv X pins σ H s)(h:ta σ H fun x H1=>tb σ H1 fun y H2=>R x y H2)
  {α:Type} {Q:α→Shared→Prop} {f:Value→Value→Sem α}
  (hf:∀v u s2 x y H2,Inv X pins σ H2 s2→RelV x v→RelV y u→R x y H2→wpAny (model X.prog X.w) X.A (f v u) Q X.xe s2):
  wpAny (model X.prog X.w) X.A (eval a X.env) (fun v s₁=>wpAny (model X.prog X.w) X.A (eval b X.env) (fun u s₂=>wpAny (model X.prog X.w) X.A (f v u) Q X.xe s₂) X.xe s₁) X.xe s:=by
 refine thn (ha pins s σ H _ I h) fun v s1 zz2=>?_
 obtain⟨x,H1,I1,r1,q1⟩:=zz2
 refine thn (hb pins s1 σ H1 _ I1 q1) fun u s2 zz3=>?_
 obtain⟨y,H2,I2,r2,q2⟩:=zz3
 exact hf v u s2 x y H2 I2 r1 r2 q2
def tVar(i:Nat):TE:=fun σ H Q=>∃v,σ[i]?=some (some v)∧Q v H
def tC(v:V):TE:=fun _ H Q=>Q v H
theorem Y77{i:Nat}{x:Str}{pos:Pos}(hN:X.N[i]?=some x)(hv:Vis X.env.scope x)(hd:(x==("__debug__":Str))=false:=by decide)(hcd:(x==("__classdict__":Str))=false:=by decide):PE X (.Name x pos) (tVar i):=by
 intro pins s σ H Q I h
 obtain⟨v,e,h⟩:=h
 obtain⟨m,hn,hl⟩:=I.loc
 obtain⟨u,r,l⟩:=hl i x v hN e hv
 have fin:EP X pins σ Q u s:=⟨v,H,I,r,h⟩
 rcases l with⟨hk,hm⟩ | ⟨hk,c,hc,hcell⟩
 ·exact wpAny_Name (wpAny_loadName_local I.ok.kind hk hn hm fin) hd
 ·rcases hk with hk | hk
  ·exact wpAny_Name (wpAny_loadName_cell I.ok.kind hk hc hcell fin) hd
  ·exact wpAny_Name (wpAny_loadName_free I.ok.kind hk hc hcell fin hcd) hd
theorem Y22{i j pos}:PE X (.Constant (.int i) j pos) (tC (.int i)):=fun _ _ _ H _ I h=>wpAny_Constant_int ⟨.int i,H,I.tok _,⟨_,rfl⟩,h⟩
theorem Y93{b j pos}:PE X (.Constant (.bool b) j pos) (tC (.bl b)):=fun _ _ _ H _ I h=>Constant_bool ⟨.bl b,H,I,rfl,h⟩
theorem Y24{j pos}:PE X (.Constant .none j pos) (tC .non):=fun _ _ _ H _ I h=>Constant_none ⟨.non,H,I,rfl,h⟩
theorem Ei{x j pos}:PE X (.Constant (.str x) j pos) (tC (.str x)):=fun _ _ _ H _ I h=>Calls.Constant_str ⟨.str x,H,I.tok _,⟨_,rfl⟩,h⟩
def Gl(X:Cx)(x:Str):Prop:=X.env.kindOf x=some .globalImplicit
theorem E5{E:Value→Shared→Prop}{pins:List (Addr×Obj)}{s:Shared}{σ:St}{H:Hp}{x:Str}{u:Value}{pos:Pos}{Q:Value→Shared→Prop}(I:Inv X pins σ H s)(hg:Gl X x)(hm:X.mg x=some u)(h:Q u s)
  (hd:(x==("__debug__":Str))=false:=by decide):wpAny (model X.prog X.w) X.A (eval (.Name x pos) X.env) Q E s:=
 Calls.Name_function_global I.ok.kind hg (Calls.loadGlobal_global (by rw[I.ok.glob];exact I.mod.glob.keeps I.bk) hm h) hd
theorem Qo{E:Value→Shared→Prop}{pins:List (Addr×Obj)}{s:Shared}{σ:St}{H:Hp}{x:Str}{u:Value}{pos:Pos}{Q:Value→Shared→Prop}(I:Inv X pins σ H s)(hg:Gl X x)(hm:X.mg x=none)(hv:bootBuiltins x=some u)(h:Q u s)
  (hn:x≠"__name__":=by decide) (hd:(x==("__debug__":Str))=false:=by decide):wpAny (model X.prog X.w) X.A (eval (.Name x pos) X.env) Q E s:=by
 obtain⟨mb,h1,h2⟩:=I.mod.blt
 exact Calls.Name_function_global I.ok.kind hg (Calls.loadGlobal_builtin (by rw[I.ok.glob];exact I.mod.glob.keeps I.bk) hm (by rw[I.ok.blt];exact h1.keeps I.bk) ((h2 x hn).trans hv) h) hd
theorem Zx8{x:Str}{v:V}{u:Value}{pos:Pos}(hg:Gl X x)(hm:X.mg x=some u)(r:RelV v u)(hd:(x==("__debug__":Str))=false:=by decide):PE X (.Name x pos) (tC v):=
 fun _ _ _ H _ I h=>E5 I hg hm ⟨v,H,I,r,h⟩ hd
theorem Zy9{x:Str}{v:V}{u:Value}{pos:Pos}(hg:Gl X x)(hm:X.mg x=none)(hv:bootBuiltins x=some u)(r:RelV v u)(hn:x≠"__name__":=by decide)(hd:(x==("__debug__":Str))=false:=by decide):PE X (.Name x pos) (tC v):=
 fun _ _ _ H _ I h=>Qo I hg hm hv ⟨v,H,I,r,h⟩ hn hd
variable{a b:Expr}{ta tb:TE}{pos:Pos}
variable{tA tB':TT}{rest:List Expr}
def tAnd(t u:TT):TT:=fun σ H Q=>t σ H fun c H1=>if c=true then u σ H1 Q else Q false H1
def tOr(t u:TT):TT:=fun σ H Q=>t σ H fun c H1=>if c=true then Q true H1 else u σ H1 Q
def tNot(t:TT):TT:=fun σ H Q=>t σ H fun c H1=>Q (!c) H1
theorem Zs4(ha:PT X a tA):PW X (.BoolOp .And [a] pos) tA:=by
 intro wh pins s σ H Q I h
 refine isTrue_and (thn (ha pins s σ H Q I h) fun c s1 e=>?_)
 cases c with
 | true=>exact isTrue_and_nil e
 | false=>exact e
theorem Y21(ha:PT X a tA):PW X (.BoolOp .Or [a] pos) tA:=by
 intro wh pins s σ H Q I h
 refine isTrue_or (thn (ha pins s σ H Q I h) fun c s1 e=>?_)
 cases c with
 | false=>exact isTrue_or_nil e
 | true=>exact e
theorem Y68(ha:PT X a tA)(hb:PW X (.BoolOp .And (b::rest) pos) tB'):PW X (.BoolOp .And (a::b::rest) pos) (tAnd tA tB'):=by
 intro wh pins s σ H Q I h
 refine isTrue_and (thn (ha pins s σ H _ I h) fun c s1 zz4=>?_)
 obtain⟨H1,I1,q1⟩:=zz4
 cases c with
 | true=>exact hb wh pins s1 σ H1 Q I1 q1
 | false=>exact⟨H1,I1,q1⟩
theorem Yc9(ha:PT X a tA)(hb:PW X (.BoolOp .Or (b::rest) pos) tB'):PW X (.BoolOp .Or (a::b::rest) pos) (tOr tA tB'):=by
 intro wh pins s σ H Q I h
 refine isTrue_or (thn (ha pins s σ H _ I h) fun c s1 zz5=>?_)
 obtain⟨H1,I1,q1⟩:=zz5
 cases c with
 | true=>exact⟨H1,I1,q1⟩
 | false=>exact hb wh pins s1 σ H1 Q I1 q1
theorem Y54(ha:PT X a tA):PT X (.UnaryOp .Not a pos) (tNot tA):=by
 intro pins s σ H Q I h
 exact isTrue_not (ha pins s σ H (fun c H1=>Q (!c) H1) I h)
theorem Y35{op}{t:TE}(h:PE X a t):PE X (.BoolOp op [a] pos) t:=fun pins s σ H Q I hw=>BoolOp_one (h pins s σ H Q I hw)
end
def SqL(K:Ae)(H:Hp)(a:Addr)(xs:List V):Prop:=
 Rd H a (.lst xs)∨
  ∃(o:Obj) (its:Array Value) (n:Nat),K.lookup a=some o∧o.cls= .type "list"∧o.dict=none∧o.data= .seq its n∧its.size≤sizeLine∧Vals xs its.toList
def SqT(K:Ae)(H:Hp)(a:Addr)(xs:List V):Prop:=
 Rd H a (.tup xs)∨
  ∃(o:Obj) (its:Array Value) (n:Nat),K.lookup a=some o∧o.cls= .type "tuple"∧o.data= .seq its n∧its.size≤sizeLine∧Vals xs its.toList
noncomputable def absV:Value→Option V
 | .none=>some .non
 | .bool b=>some (.bl b)
 | .int i _=>some (.int i)
 | .str x _=>some (.str x)
 | .bytes b _=>some (.byt b)
 | .float b _=>some (.flt b)
 | .ref a=>some (.ref a)
 | .type n=>some (.ty n)
 | _=>none
theorem RelV.abs{x:V}{u:Value}(r:RelV x u):absV u=some x:=by
 cases x with
 | non=>cases r;rfl
 | bl _=>cases r;rfl
 | int _=>obtain⟨t,rfl⟩:=r;rfl
 | str _=>obtain⟨t,rfl⟩:=r;rfl
 | byt _=>obtain⟨t,rfl⟩:=r;rfl
 | flt _=>obtain⟨t,rfl⟩:=r;rfl
 | ref _=>cases r;rfl
 | ty _=>cases r;rfl
theorem RelV.inj{x y:V}{u:Value}(r:RelV x u)(q:RelV y u):x=y:=Hj (r.abs.symm.trans q.abs)
theorem Vals.inj:∀{xs ys:List V} {us:List Value},Vals xs us→Vals ys us→xs=ys
 | _,_,_,.nil,.nil=>rfl
 | _,_,_,.cons r t,.cons r' t'=>by rw[r.inj r',Vals.inj t t']
section
variable{X:Cx}{pins:List (Addr×Obj)}{σ:St}{H:Hp}{s:Shared}{a:Addr}{xs ys:List V}
theorem SqT.of{K:Ae}(h:H a=some (.tup xs)):SqT K H a xs:= .inl (.inl h)
theorem Inv.list(I:Inv X pins σ H s)(h:SqL X.K H a xs):∃its:List Value,Vals xs its∧PlainL s.heap a its.toArray∧xs.length≤sizeLine:=by
 rcases h with h | ⟨o,its,n,hk,hc,hd,hs,hz,r⟩
 ·obtain⟨z,its,n,r,e⟩:=h.ok I.hok
  exact⟨its,r,⟨_,n,e,rfl,rfl,rfl⟩,z⟩
 ·refine⟨its.toList,r,⟨o,n,I.kIn a o hk,hc,hd,by simpa using hs⟩,?_⟩
  have e:=r.length
  simp only[Db] at e
  omega
theorem Inv.tuple(I:Inv X pins σ H s)(h:SqT X.K H a xs):∃its:List Value,Vals xs its∧IsTup s.heap a its.toArray∧xs.length≤sizeLine:=by
 rcases h with h | ⟨o,its,n,hk,hc,hs,hz,r⟩
 ·obtain⟨z,its,r,p⟩:=h.ok I.hok
  exact⟨its,r,p,z⟩
 ·refine⟨its.toList,r,⟨o,I.kIn a o hk,hc,n,by simpa using hs⟩,?_⟩
  have e:=r.length
  simp only[Db] at e
  omega
theorem Inv.list_inj(I:Inv X pins σ H s)(h:SqL X.K H a xs)(h':SqL X.K H a ys):xs=ys:=by
 obtain⟨its,r,⟨o,n,e,_,_,d⟩,_⟩:=I.list h
 obtain⟨its',r',⟨o',n',e',_,_,d'⟩,_⟩:=I.list h'
 rw[e] at e';cases e'
 rw[d] at d'
 injection d' with d1 _
 have:its=its':=by simpa using congrArg Array.toList d1
 subst this
 exact r.inj r'
theorem Inv.tuple_inj(I:Inv X pins σ H s)(h:SqT X.K H a xs)(h':SqT X.K H a ys):xs=ys:=by
 obtain⟨its,r,⟨o,e,_,n,d⟩,_⟩:=I.tuple h
 obtain⟨its',r',⟨o',e',_,n',d'⟩,_⟩:=I.tuple h'
 rw[e] at e';cases e'
 rw[d] at d'
 injection d' with d1 _
 have:its=its':=by simpa using congrArg Array.toList d1
 subst this
 exact r.inj r'
end
abbrev Cx.wish(X:Cx)(E:Value→Shared→Prop):Cx:={X with xe:=E}
noncomputable abbrev Cx.nox(X:Cx):Cx:=X.wish fun _ _=>False
theorem Cx.Ok.wish{X:Cx}(ok:X.Ok)(E:Value→Shared→Prop):(X.wish E).Ok:=
 ⟨ok.mod,ok.kind,ok.glob,ok.blt,ok.above,ok.inj,ok.has,ok.cab,ok.hd,ok.frames,ok.stk,ok.exf,ok.bs,ok.bsz,ok.noex,ok.exfs,ok.funs,ok.frf⟩
theorem Cx.Ok.unwish{X:Cx}{E:Value→Shared→Prop}(ok:(X.wish E).Ok):X.Ok:=
 ⟨ok.mod,ok.kind,ok.glob,ok.blt,ok.above,ok.inj,ok.has,ok.cab,ok.hd,ok.frames,ok.stk,ok.exf,ok.bs,ok.bsz,ok.noex,ok.exfs,ok.funs,ok.frf⟩
section
variable{X:Cx}{pins:List (Addr×Obj)}{σ:St}{H:Hp}{s:Shared}{E:Value→Shared→Prop}
theorem Inv.wish(I:Inv X pins σ H s)(E:Value→Shared→Prop):Inv (X.wish E) pins σ H s:=⟨I.ok.wish E,I.os,I.bare,I.base,I.loc,I.cell,I.free,I.freeC,I.pin,I.hok,I.len⟩
theorem Inv.unwish(I:Inv (X.wish E) pins σ H s):Inv X pins σ H s:=⟨I.ok.unwish,I.os,I.bare,I.base,I.loc,I.cell,I.free,I.freeC,I.pin,I.hok,I.len⟩
theorem SP.unwish{D:Ends}{f:Flow}{s':Shared}(h:SP (X.wish E) pins D f s'):SP X pins D f s':=by
 cases f with
 | next=>obtain⟨σ',H',I,q⟩:=h;exact⟨σ',H',I.unwish,q⟩
 | brk=>obtain⟨σ',H',I,q⟩:=h;exact⟨σ',H',I.unwish,q⟩
 | cont=>obtain⟨σ',H',I,q⟩:=h;exact⟨σ',H',I.unwish,q⟩
 | ret u=>obtain⟨v,σ',H',I,r,q⟩:=h;exact⟨v,σ',H',I.unwish,r,q⟩
theorem PSs.nox{st:List Stmt}{t:TS}(h:PSs X.nox st t):PSs X st t:=fun pins s σ H D I hw=>
 Hl (h pins s σ H D (I.wish _) hw) (fun _ _ q=>q.unwish) fun _ _ z=>Di z
end
section
variable{X:Cx}{st:Stmt}{rest:List Stmt}{t u:TS}{e:Expr}{te:TE}{pos:Pos}
def Ya1:TS:=fun D σ H=>D.nx σ H
def tSeq(t u:TS):TS:=fun D σ H=>t {D with nx:=u D} σ H
theorem Zr5:PSs X [] Ya1:=fun _ _ σ H _ I h=>wpAny_execs_nil ⟨σ,H,I,h⟩
theorem Zk0(h1:PS X st t)(h2:PSs X rest u):PSs X (st::rest) (tSeq t u):=by
 intro pins s σ H D I h
 refine wpAny_execs_cons (thn (h1 pins s σ H {D with nx:=u D} I h) fun f s1 q=>?_)
 cases f with
 | next=>
  obtain⟨σ',H',I',q⟩:=q
  exact h2 pins s1 σ' H' D I' q
 | ret v=>exact q
 | brk=>exact q
 | cont=>exact q
theorem Inv.quiet{pins:List (Addr×Obj)}{σ:St}{H:Hp}{s:Shared}(I:Inv X pins σ H s):interactive X.env=false:=by simp[interactive,I.ok.kind]
def Yb8(te:TE):TS:=fun D σ H=>te σ H fun _ H1=>D.nx σ H1
theorem Zu0(he:PE X e te)(hs:swapsWith e none pos.line X.env=pure false:=by rfl):PS X (.Expr e pos) (Yb8 te):=by
 intro pins s σ H D I h
 exact wpAny_Expr_any (thn (he pins s σ H _ I h) fun v s1 zz6=>by obtain⟨x,H1,I1,r1,q1⟩:=zz6;exact⟨σ,H1,I1,q1⟩) I.quiet hs
def tRet(te:TE):TS:=fun D σ H=>te σ H D.rt
theorem Y51(he:PE X e te):PS X (.Return (some e) pos) (tRet te):=by
 intro pins s σ H D I h
 exact wpAny_Return_some (thn (he pins s σ H _ I h) fun v s1 zz7=>by obtain⟨x,H1,I1,r1,q1⟩:=zz7;exact⟨x,σ,H1,I1,r1,q1⟩)
def tIfS(c:TT)(t u:TS):TS:=fun D σ H=>c σ H fun b H1=>if b=true then t D σ H1 else u D σ H1
theorem Ya6{c:Expr}{a b:List Stmt}{tc:TT}(hc:PT X c tc)(ha:PSs X a t)(hb:PSs X b u):PS X (.If c a b pos) (tIfS tc t u):=by
 intro pins s σ H D I h
 refine wpAny_If (thn (hc pins s σ H _ I h) fun d s1 zz8=>?_)
 obtain⟨H1,I1,q1⟩:=zz8
 cases d with
 | true=>exact ha pins s1 σ H1 D I1 q1
 | false=>exact hb pins s1 σ H1 D I1 q1
def Y49:TS:=fun _ _ _=>False
theorem Zj6:PS X st Y49:=fun _ _ _ _ _ _ h=>h.elim
end
abbrev TG:=V→St→Hp→(St→Hp→Prop)→Prop
abbrev TGs:=List V→St→Hp→(St→Hp→Prop)→Prop
def PG(X:Cx)(target:Expr)(t:TG):Prop:=
 ∀(pins:List (Addr×Obj)) (s:Shared) (σ:St) (H:Hp) (v:V) (u:Value) (Q:St→Hp→Prop),Inv X pins σ H s→RelV v u→t v σ H Q→
  wpAny (model X.prog X.w) X.A (assign target X.env u) (fun _ s'=>∃σ' H',Inv X pins σ' H' s'∧Q σ' H') X.xe s
def PGs(X:Cx)(ts:List Expr)(t:TGs):Prop:=
 ∀(pins:List (Addr×Obj)) (s:Shared) (σ:St) (H:Hp) (vs:List V) (us:List Value) (Q:St→Hp→Prop),Inv X pins σ H s→Vals vs us→t vs σ H Q→
  wpAny (model X.prog X.w) X.A (assignInOrder ((assignEach ts X.env).map (·.2)) us) (fun _ s'=>∃σ' H',Inv X pins σ' H' s'∧Q σ' H') X.xe s
abbrev TSet:=V→V→V→Hp→(Hp→Prop)→Prop
def PSet(X:Cx)(t:TSet):Prop:=
 ∀(pins:List (Addr×Obj)) (s:Shared) (σ:St) (H:Hp) (o i v:V) (ov iv u:Value) (Q:Hp→Prop),Inv X pins σ H s→RelV o ov→RelV i iv→RelV v u→t o i v H Q→
  wpAny (model X.prog X.w) X.A (setItem ov iv u) (fun _ s'=>∃H',Inv X pins σ H' s'∧Q H') X.xe s
section
variable{X:Cx}{pos:Pos}
noncomputable def Ze5(i:Nat):TG:=fun v σ H Q=>Q (σ.set i (some v)) H
theorem Z92{i:Nat}{x:Str}(hN:X.N.Nodup)(hi:X.N[i]?=some x)(hx:Loc X.env.scope x)(hf:X.fn x=true∨X.env.scope.names.lookup x=some .local:=by first | exact .inl rfl | exact .inr rfl | assumption):PG X (.Name x pos) (Ze5 i):=by
 intro pins s σ H v u Q I r h
 exact wpAny_assign_Name (Zl3 I hN hi hx r (fun s' I'=>⟨_,H,I',h⟩) hf)
noncomputable def gNil:TGs:=fun vs σ H Q=>vs=[]∧Q σ H
noncomputable def Y73(t:TG)(u:TGs):TGs:=fun vs σ H Q=>∃v r,vs=v::r∧t v σ H fun σ' H'=>u r σ' H' Q
theorem Zu3:PGs X [] gNil:=by
 intro pins s σ H vs us Q I r h
 obtain⟨e,h⟩:=h
 subst e
 cases r
 exact assignInOrder_nil ⟨σ,H,I,h⟩
theorem Zi1{e:Expr}{es:List Expr}{t:TG}{u:TGs}(h1:PG X e t)(h2:PGs X es u)
  (hs:(assignEach (e::es) X.env).map (·.2)=assign e X.env::(assignEach es X.env).map (·.2):=by rfl):PGs X (e::es) (Y73 t u):=by
 intro pins s σ H vs us Q I r h
 obtain⟨v,vr,e1,h⟩:=h
 subst e1
 cases r with
 | cons r rr=>
  rw[hs]
  refine assignInOrder_cons (thn (h1 pins s σ H _ _ _ I r h) fun _ s1 zz9=>?_)
  obtain⟨σ1,H1,I1,q1⟩:=zz9
  exact h2 pins s1 σ1 H1 _ _ Q I1 rr q1
noncomputable def gTup(K:Ae)(n:Nat)(t:TGs):TG:=fun v σ H Q=>∃a xs,v= .ref a∧SqT K H a xs∧xs.length=n∧t xs σ H Q
theorem Zp9{es:List Expr}{k:Nat}{t:TGs}{n:Nat}(hc:X.calm=true)(h:PGs X es t)
  (hn:(assignEach es X.env).length=n:=by rfl) (hst:(assignEach es X.env).findIdx? (·.1)=none:=by rfl):PG X (.Tuple es k pos) (gTup X.K n t):=by
 intro pins s σ H v u Q I r hw
 obtain⟨a,xs,e1,hq,hl,hw⟩:=hw
 subst e1
 cases r
 obtain⟨its,rv,ht,hz⟩:=I.tuple hq
 refine assign_Tuple_tuple (I.ok.hd hc) ht (by simp[hn,←hl,rv.length]) hst fun h' hx=>?_
 have I1:Inv X pins σ H {s with heap:=h'}:=I.kept (t':=s.toks) fun b o e=>hx b o (Nat.ne_of_lt (Ai e)) e
 exact h pins _ σ H xs _ Q I1 (by simpa using rv) hw
def tAsg(te:TE)(g:TG):TS:=fun D σ H=>te σ H fun x H1=>g x σ H1 D.nx
theorem Zb1{tg e:Expr}{te:TE}{g:TG}(he:PE X e te)(hg:PG X tg g)(hs:swapsWithSole [tg] e pos.line X.env=pure false:=by rfl)(hw:swappedStores [tg] e X.env=pure none:=by rfl)
  (h1:(assignEach [tg] X.env).map (·.2)=[assign tg X.env]:=by rfl):PS X (.Assign [tg] e pos) (tAsg te g):=by
 intro pins s σ H D I h
 refine wpAny_Assign_stores (thn (he pins s σ H _ I h) fun v s1 zz10=>?_) hs hw
 obtain⟨x,H1,I1,r1,q1⟩:=zz10
 rw[h1]
 exact thn (hg pins s1 σ H1 x v _ I1 r1 q1) fun _ s2 q=>q
end
section
variable{X:Cx}{pos:Pos}
def Y04(c:TT)(tb:TS):TS:=fun D σ H=>∃W:Nat→St→Hp→Prop,(∃m,W m σ H)∧∀m σ H,W m σ H→
 c σ H fun b H1=>if b=true then ∃N:St→Hp→Prop,(∀σ' H',N σ' H'→∃m',m'<m∧W m' σ' H')∧tb {D with nx:=N,ct:=N,bk:=D.nx} σ H1 else D.nx σ H1
theorem Zj4{c:Expr}{body:List Stmt}{tc:TT}{tb:TS}(hp:PassesOwn (model X.prog X.w) X.A X.env X.xe)(hc:PT X c tc)(hb:PSs X body tb):PS X (.While c body [] pos) (Y04 tc tb):=by
 intro pins s σ H D I h
 obtain⟨W,⟨m0,w0⟩,turn⟩:=h
 refine wpAny_While (codeAny_whileLoop (fun n s'=>∃σ' H',Inv X pins σ' H' s'∧W n σ' H') ?_ m0 ⟨σ,H,I,w0⟩)
 rintro n s1 ⟨σ1,H1,I1,w1⟩
 refine Kq hp (thn (hc pins s1 σ1 H1 _ I1 (turn n σ1 H1 w1)) fun b s2 zz11=>?_)
 obtain⟨H2,I2,q2⟩:=zz11
 cases b with
 | true=>
  obtain⟨N,hN,q2⟩:=q2
  rw[if_pos rfl]
  refine Kq hp (thn (hb pins s2 σ1 H2 _ I2 q2) fun f s3 q3=>?_)
  cases f with
  | next=>
   obtain⟨σ3,H3,I3,n3⟩:=q3
   obtain⟨m',hm,w3⟩:=hN σ3 H3 n3
   exact⟨m',hm,σ3,H3,I3,w3⟩
  | cont=>
   obtain⟨σ3,H3,I3,n3⟩:=q3
   obtain⟨m',hm,w3⟩:=hN σ3 H3 n3
   exact⟨m',hm,σ3,H3,I3,w3⟩
  | brk=>exact q3
  | ret v=>exact q3
 | false=>
  rw[if_neg Bool.false_ne_true]
  exact wpAny_execs_nil ⟨σ1,H2,I2,q2⟩
end
structure It where
 go:Nat→Hp→Prop
 yld:Nat→Hp→V→Hp→Prop
 stop:Nat→Hp→Prop
def FpOk(X:Cx)(pins:List (Addr×Obj))(H:Hp)(b:Addr):Prop:=
 H b=none∧b≠X.env.locals∧b∉X.fs∧(b∈X.ex∨X.s₀.heap.objs.size≤b)∧(∀x c,X.env.cells.lookup x=some c→c≠b)∧∀p∈X.pn++pins,p.1≠b
theorem Inv.fpOk{X:Cx}{pins:List (Addr×Obj)}{σ:St}{H H':Hp}{s:Shared}{b:Addr}(I:Inv X pins σ H s)(hb:s.heap.objs.size≤b)(hn:H' b=none):FpOk X pins H' b:=by
 refine⟨hn,Nat.ne_of_gt (Nat.lt_of_lt_of_le I.lt hb),I.nofs hb,.inr (Nat.le_trans I.sz hb),fun x c e z=>?_,fun p hp z=>?_⟩
 ·obtain⟨v,q⟩:=I.cell x c e
  exact absurd (Nat.lt_of_lt_of_le q.lt (by rw[z];exact hb)) (Nat.lt_irrefl _)
 ·exact absurd (Nat.lt_of_lt_of_le (Ai (I.pin p hp).1) (by rw[z];exact hb)) (Nat.lt_irrefl _)
structure Turn(P:Program)(w:World)(K:Ae)(tg:Expr)(J:It)(fp:List Addr)(it:Addr)(tn:Nat→Heap→Prop):Prop where
 mem:it∈fp
 obj:∀i h,tn i h→∀b∈fp,∃o,h.get? b=some o∧∀v,o.data≠ .cell v
 keep:∀i h h',tn i h→(∀b∈fp,∀o,h.get? b=some o→h'.get? b=some o)→tn i h'
 item:∀(X:Cx),X.prog=P→X.w=w→X.K=K→X.calm=true→∀(i:Nat) (pins:List (Addr×Obj)) (s:Shared) (σ:St) (H:Hp) (E:Value→Shared→Prop),Inv X pins σ H s→(∀b∈fp,FpOk X pins H b)→tn i s.heap→J.go i H→
  wpAny (model P w) X.A (pyNext (.ref it)) (fun r s1=>∃u,r=some u∧
   wpAny (model P w) X.A (letOwnedTupleGo tg (.ref it) u) (fun _ s2=>∃x H',Inv X pins σ H' s2∧RelV x u∧J.yld i H x H'∧tn (i+1) s2.heap∧∀b∈fp,H' b=none) E s1) E s
 done:∀(X:Cx),X.prog=P→X.w=w→X.K=K→X.calm=true→∀(i:Nat) (pins:List (Addr×Obj)) (s:Shared) (σ:St) (H:Hp) (E:Value→Shared→Prop),Inv X pins σ H s→(∀b∈fp,FpOk X pins H b)→tn i s.heap→J.stop i H→
  wpAny (model P w) X.A (pyNext (.ref it)) (fun r s1=>r=none∧Inv X pins σ H s1) E s
 self:∀(A:Around) (i:Nat) (s:Shared) (Q:Value→Shared→Prop) (E:Value→Shared→Prop),tn i s.heap→Q (.ref it) s→wpAny (model P w) A (pyIter (.ref it)) Q E s
abbrev TI:=St→Hp→(It→Hp→Prop)→Prop
def PIE(X:Cx)(pins:List (Addr×Obj))(σ:St)(tg:Expr)(R:It→Hp→Prop)(itv:Value)(s2:Shared):Prop:=
 ∃(it:Addr) (fp:List Addr) (tn:Nat→Heap→Prop) (J:It) (H':Hp),itv= .ref it∧Inv X pins σ H' s2∧Turn X.prog X.w X.K tg J fp it tn∧tn 0 s2.heap∧(∀b∈fp,FpOk X pins H' b)∧R J H'
def PI(X:Cx)(tg iter:Expr)(wi:TI):Prop:=
 ∀(pins:List (Addr×Obj)) (s:Shared) (σ:St) (H:Hp) (R:It→Hp→Prop),Inv X pins σ H s→wi σ H R→
  wpAny (model X.prog X.w) X.A (eval iter X.env) (fun v s1=>wpAny (model X.prog X.w) X.A (pyIter v) (PIE X pins σ tg R) X.xe s1) X.xe s
theorem Zj5{M:Model}{A:Around}{E:Value→Shared→Prop}{s:Shared}{tg:Expr}{it:Addr}{u:Value}{o:Obj}{n:String}{vs:Array Value}{Q:Unit→Shared→Prop}(ho:s.heap.get? it=some o)(hc:o.cls= .type n)(hd:o.data= .fields vs)
  (hn:["enumerate","zip","dict_itemiterator","dict_reverseitemiterator","odict_iterator","itertools.zip_longest","itertools.pairwise"].contains n=false) (hQ:Q () s):wpAny M A (letOwnedTupleGo tg (.ref it) u) Q E s:=by
 unfold letOwnedTupleGo
 cases tg<;>first
  | exact Ab hQ
  |(cases u<;>first
    | exact Ab hQ
    |(refine Aa (wpAny_load ho ?_)
      rw[hc,hd]
      show wpAny M A (if (["enumerate","zip","dict_itemiterator","dict_reverseitemiterator","odict_iterator","itertools.zip_longest","itertools.pairwise"].contains n&&vs[0]?==some (rawInt _))=true then _ else _) Q E s
      rw[if_neg (by intro h;rw[hn,Bool.false_and] at h;cases h)]
      exact Ab hQ))
noncomputable def Itl(K:Ae)(a:Addr):It:=
 ⟨fun i H=>∃xs x,SqL K H a xs∧xs[i]?=some x,fun i H x H'=>H'=H∧∀xs,SqL K H a xs→xs[i]?=some x,fun i H=>∃xs,SqL K H a xs∧xs.length≤i⟩
noncomputable def Itt(K:Ae)(a:Addr):It:=
 ⟨fun i H=>∃xs x,SqT K H a xs∧xs[i]?=some x,fun i H x H'=>H'=H∧∀xs,SqT K H a xs→xs[i]?=some x,fun i H=>∃xs,SqT K H a xs∧xs.length≤i⟩
noncomputable def Itr(lo:Int)(n:Nat):It:=⟨fun i _=>i<n,fun i H x H'=>H'=H∧x= .int (lo+i),fun i _=>n≤i⟩
theorem Za9{P:Program}{w:World}{K:Ae}{tg:Expr}(a it:Addr):Turn P w K tg (Itl K a) [it] it (fun i h=>h.IsListIter it a i) where
 mem:=by simp
 obj:=fun i h st b hb=>by
  have e:b=it:=by simpa using hb
  subst e
  obtain⟨o,e,c,d⟩:=st
  exact⟨o,e,fun v z=>by rw[d] at z;cases z⟩
 keep:=fun i h h' st k=>st.at fun o e=>k it (by simp) o e
 item:=by
  intro X hP hw hK hc i pins s σ H E I hf st hg
  subst hP hw hK
  obtain⟨xs,x,hq,hx⟩:=hg
  obtain⟨its,rv,p,hz⟩:=I.list hq
  obtain⟨u,hu,ru⟩:=rv.get hx
  obtain⟨f0,f1,f2,f3,f4,f5⟩:=hf it (by simp)
  refine wpAny_pyNext_list_item st p.isList (x:=u) (by simpa using hu) fun h' st' sb=>?_
  have I1:Inv X pins σ H {s with heap:=h'}:=I.turned (t':=s.toks) (fun b o hb e=>(sb.2 b hb).trans e) f0 f1 f3 f4 f5
  obtain⟨o,e,c,d⟩:=id st'
  exact⟨u,rfl,Zj5 (s:={s with heap:=h'}) e c d (by decide) ⟨x,H,I1,ru,⟨rfl,fun ys hy=>by rw[I.list_inj hy hq];exact hx⟩,st',fun b hb=>(hf b hb).1⟩⟩
 done:=by
  intro X hP hw hK hc i pins s σ H E I hf st hg
  subst hP hw hK
  obtain⟨xs,hq,hx⟩:=hg
  obtain⟨its,rv,p,hz⟩:=I.list hq
  obtain⟨f0,f1,f2,f3,f4,f5⟩:=hf it (by simp)
  have hl:=rv.length
  exact wpAny_pyNext_list_end (I.ok.hd hc) st p.isList (by simp;omega) fun h' eb=>⟨rfl,I.turned (t':=s.toks) (fun b o hb e=>eb b o hb e) f0 f1 f3 f4 f5⟩
 self:=fun _ _ _ _ _ st h=>wpAny_pyIter_listiter st h
theorem Z39{P:Program}{w:World}{K:Ae}{tg:Expr}(a it:Addr):Turn P w K tg (Itt K a) [it] it (fun i h=>h.IsTupleIter it a i) where
 mem:=by simp
 obj:=fun i h st b hb=>by
  have e:b=it:=by simpa using hb
  subst e
  obtain⟨o,e,c,d⟩:=st
  exact⟨o,e,fun v z=>by rw[d] at z;cases z⟩
 keep:=fun i h h' st k=>st.at fun o e=>k it (by simp) o e
 item:=by
  intro X hP hw hK hc i pins s σ H E I hf st hg
  subst hP hw hK
  obtain⟨xs,x,hq,hx⟩:=hg
  obtain⟨its,rv,p,hz⟩:=I.tuple hq
  obtain⟨u,hu,ru⟩:=rv.get hx
  obtain⟨f0,f1,f2,f3,f4,f5⟩:=hf it (by simp)
  refine wpAny_pyNext_tuple_item st (show s.heap.IsTuple a its.toArray from p) (x:=u) (by simpa using hu) fun h' st' sb=>?_
  have I1:Inv X pins σ H {s with heap:=h'}:=I.turned (t':=s.toks) (fun b o hb e=>(sb.2 b hb).trans e) f0 f1 f3 f4 f5
  obtain⟨o,e,c,d⟩:=id st'
  exact⟨u,rfl,Zj5 (s:={s with heap:=h'}) e c d (by decide) ⟨x,H,I1,ru,⟨rfl,fun ys hy=>by rw[I.tuple_inj hy hq];exact hx⟩,st',fun b hb=>(hf b hb).1⟩⟩
 done:=by
  intro X hP hw hK hc i pins s σ H E I hf st hg
  subst hP hw hK
  obtain⟨xs,hq,hx⟩:=hg
  obtain⟨its,rv,p,hz⟩:=I.tuple hq
  obtain⟨f0,f1,f2,f3,f4,f5⟩:=hf it (by simp)
  have hl:=rv.length
  exact wpAny_pyNext_tuple_end (I.ok.hd hc) st (show s.heap.IsTuple a its.toArray from p) (by simp;omega) fun h' eb=>⟨rfl,I.turned (t':=s.toks) (fun b o hb e=>eb b o hb e) f0 f1 f3 f4 f5⟩
 self:=fun _ _ _ _ _ st h=>wpAny_pyIter_tupleiter st h
theorem Z17{P:Program}{w:World}{K:Ae}{tg:Expr}(it:Addr)(lo:Int)(n:Nat):Turn P w K tg (Itr lo n) [it] it (fun i h=>IsRangeIter h it (lo+(i:Nat) * 1) ((n:Int) - (i:Nat)) 1) where
 mem:=by simp
 obj:=fun i h st b hb=>by
  have e:b=it:=by simpa using hb
  subst e
  exact⟨_,st,fun v z=>by
   have z':Data.fields _=Data.cell v:=z
   cases z'⟩
 keep:=fun i h h' st k=>k it (by simp) _ st
 item:=by
  intro X hP hw hK hc i pins s σ H E I hf st hg
  subst hP hw hK
  obtain⟨f0,f1,f2,f3,f4,f5⟩:=hf it (by simp)
  have W:=Walks.range (prog:=X.prog) (w:=X.w) (I.ok.hd hc) it lo 1 n
  refine W.item i s _ _ hg st fun v h' tk hv st' kk=>?_
  obtain⟨t,rfl⟩:=hv
  have I1:Inv X pins σ H {s with heap:=h',toks:=tk}:=I.turned (fun b o hb e=>kk b o (by simpa using hb) e) f0 f1 f3 f4 f5
  refine⟨_,rfl,Zj5 (s:={s with heap:=h',toks:=tk}) (n:="range_iterator") st' rfl rfl (by decide) ⟨.int (lo+i),H,I1,⟨t,?_⟩,⟨rfl,rfl⟩,st',fun b hb=>(hf b hb).1⟩⟩
  rw[Int.mul_one]
 done:=by
  intro X hP hw hK hc i pins s σ H E I hf st hg
  subst hP hw hK
  obtain⟨f0,f1,f2,f3,f4,f5⟩:=hf it (by simp)
  exact wpAny_pyNext_range_end (I.ok.hd hc) st (by have:n≤i:=hg;omega) fun h' eb=>⟨rfl,I.turned (t':=s.toks) (fun b o hb e=>eb b o hb e) f0 f1 f3 f4 f5⟩
 self:=fun _ _ _ _ _ st h=>wpAny_pyIter_rangeiter st h
section
variable{X:Cx}{tg:Expr}
theorem Ee{pins:List (Addr×Obj)}{σ:St}{H:Hp}{s:Shared}{R:It→Hp→Prop}{E:Value→Shared→Prop}{lo hi:Int}{t u v:Tok}{tk:Nat}(I:Inv X pins σ H s)(h1:-(2 ^ 62)≤lo)(h2:lo<2 ^ 62)(h3:-(2 ^ 62)≤hi)(h4:hi<2 ^ 62)
  (q:R (Itr lo (hi - lo).toNat) H):wpAny (model X.prog X.w) X.A (pyIter (.ref s.heap.objs.size)) (PIE X pins σ tg R) E {s with heap:=s.heap.push {cls:= .type "range",data:= .fields #[.int lo t,.int hi u,.int 1 v]},toks:=tk}:=by
 refine wpAny_pyIter_range (IsRange.new ..) (small_one h1 h2 h3 h4) ?_
 have I1:Inv X pins σ H {s with heap:=s.heap.push {cls:= .type "range",data:= .fields #[.int lo t,.int hi u,.int 1 v]},toks:=tk}:=I.kept fun b o e=>Ad _ e
 refine⟨(s.heap.push {cls:= .type "range",data:= .fields #[.int lo t,.int hi u,.int 1 v]}).objs.size,[(s.heap.push {cls:= .type "range",data:= .fields #[.int lo t,.int hi u,.int 1 v]}).objs.size],_,_,H,rfl,
  I1.kept (t':=tk) fun b o e=>Ad _ e,Z17 _ lo (hi - lo).toNat,?_,fun b hb=>?_,q⟩
 ·have e1:lo+((0:Nat):Int) * 1=lo:=by simp
  have e2:(((hi - lo).toNat:Nat):Int) - ((0:Nat):Int)=Builtin.Range.rangeSize lo hi 1:=by rw[rangeSize_one];split<;>omega
  show IsRangeIter _ _ (lo+((0:Nat):Int) * 1) ((((hi - lo).toNat:Nat):Int) - ((0:Nat):Int)) 1
  rw[e1,e2]
  exact Al _ rfl
 ·have e:b=(s.heap.push {cls:= .type "range",data:= .fields #[.int lo t,.int hi u,.int 1 v]}).objs.size:=by simpa using hb
  subst e
  exact I1.fpOk (Nat.le_refl _) (I1.hok.fresh (Nat.le_refl _))
def Y91(ta:TA):TI:=fun σ H R=>ta σ H fun vs H1=>∃j:Int,vs=[.int j]∧ -(2 ^ 62)≤j∧j<2 ^ 62∧R (Itr 0 j.toNat) H1
def Ya3(ta:TA):TI:=fun σ H R=>ta σ H fun vs H1=>∃i j:Int,vs=[.int i,.int j]∧(-(2 ^ 62)≤i∧i<2 ^ 62∧ -(2 ^ 62)≤j∧j<2 ^ 62)∧R (Itr i (j - i).toNat) H1
theorem Z74{a:Expr}{ta:TA}{p pos:Pos}(hg:Gl X "range")(hm:X.mg "range"=none)(ha:PA X [a] ta)(hs:starEach [a] X.env=[(false,eval a X.env)]:=by rfl):PI X tg (.Call (.Name "range" p) [a] [] pos) (Y91 ta):=by
 intro pins s σ H R I h
 refine Call_ (Qo I hg hm boot_range (Iv (thn (ha pos pins s σ H _ I h) fun us s1 zz12=>?_) hs rfl))
 obtain⟨vs,H1,I1,r1,q1⟩:=zz12
 obtain⟨j,e,q1,q2,q⟩:=q1
 subst e
 cases r1 with
 | cons r rr=>
  cases rr
  obtain⟨t,rfl⟩:=r
  exact call_range_1 (Ee I1 (by omega) (by omega) q1 q2 (by simpa using q))
theorem Z76{a b:Expr}{ta:TA}{p pos:Pos}(hg:Gl X "range")(hm:X.mg "range"=none)(ha:PA X [a,b] ta)(hs:starEach [a,b] X.env=[(false,eval a X.env),(false,eval b X.env)]:=by rfl)(hs2:starEach [b] X.env=[(false,eval b X.env)]:=by rfl):
  PI X tg (.Call (.Name "range" p) [a,b] [] pos) (Ya3 ta):=by
 intro pins s σ H R I h
 refine Call_ (Qo I hg hm boot_range (Iv (thn (ha pos pins s σ H _ I h) fun us s1 zz13=>?_) (by rw[hs,hs2]) (by rw[hs2];rfl)))
 obtain⟨vs,H1,I1,r1,q1⟩:=zz13
 obtain⟨i,j,e,⟨q1,q2,q3,q4⟩,q⟩:=q1
 subst e
 cases r1 with
 | cons r rr=>
  cases rr with
  | cons r' rr=>
   cases rr
   obtain⟨t,rfl⟩:=r
   obtain⟨t',rfl⟩:=r'
   exact call_range_2 (Ee I1 q1 q2 q3 q4 q)
def tFor(wi:TI)(g:TG)(tb:TS):TS:=fun D σ H=>wi σ H fun J H1=>∃W:Nat→Nat→St→Hp→Prop,(∃m,W 0 m σ H1)∧∀i m σ H,W i m σ H→
 (J.stop i H∧D.nx σ H)∨(J.go i H∧∃N:St→Hp→Prop,(∀σ' H',N σ' H'→∃m',m'<m∧W (i+1) m' σ' H')∧∀x H',J.yld i H x H'→g x σ H' fun σ2 H2=>tb {D with nx:=N,ct:=N,bk:=D.nx} σ2 H2)
noncomputable def En(fp:List Addr)(h:Heap):List (Addr×Obj):=fp.filterMap fun b=>(h.get? b).map fun o=>(b,o)
theorem Xi{fp:List Addr}{h:Heap}{b:Addr}{o:Obj}(hb:b∈fp)(e:h.get? b=some o):(b,o)∈En fp h:=List.mem_filterMap.mpr ⟨b,hb,by rw[e];rfl⟩
theorem Ze0{fp:List Addr}{h:Heap}{p:Addr×Obj}(hp:p∈En fp h):p.1∈fp∧h.get? p.1=some p.2:=by
 obtain⟨b,hb,e⟩:=List.mem_filterMap.mp hp
 cases q:h.get? b with
 | none=>rw[q] at e;cases e
 | some o=>
  rw[q] at e
  have e':(b,o)=p:=Hj e
  subst e'
  exact⟨hb,q⟩
theorem Inv.pinned{pins:List (Addr×Obj)}{σ:St}{H:Hp}{s:Shared}{fp:List Addr}(I:Inv X pins σ H s)(hf:∀b∈fp,FpOk X pins H b)(ho:∀b∈fp,∃o,s.heap.get? b=some o∧∀v,o.data≠ .cell v):Inv X (pins++En fp s.heap) σ H s:=
 I.pins_of fun p hp=>(Dd.mp hp).elim (fun z=>I.pin p (Ax _ z)) fun z=>by
  obtain⟨hb,e⟩:=Ze0 z
  obtain⟨f0,f1,f2,_⟩:=hf p.1 hb
  obtain⟨o,e',d⟩:=ho p.1 hb
  rw[e] at e';cases e'
  exact⟨e,f0,f1,f2,d⟩
theorem Inv.unpinned{pins pl:List (Addr×Obj)}{σ:St}{H:Hp}{s:Shared}(I:Inv X (pins++pl) σ H s):Inv X pins σ H s:=I.pins_of fun p hp=>I.pin p (Ax _ (Hf _ hp))
theorem Y30{iter:Expr}{body:List Stmt}{wi:TI}{g:TG}{tb:TS}{pos:Pos}(hp:PassesOwn (model X.prog X.w) X.A X.env X.xe)(hc:X.calm=true)(hi:PI X tg iter wi)(hg:PG X tg g)(hb:PSs X body tb)
  (hs:∀x,foldedSetIterable iter X.env x=pure x:=by intro _;rfl):PS X (.For tg iter body [] pos) (tFor wi g tb):=by
 intro pins s σ H D I h
 refine wpAny_For (thn (hi pins s σ H _ I h) fun v s1 h1=>thn h1 fun itv s2 h2=>?_) hs
 obtain⟨it,fp,tn,J,H2,e,I2,T,st2,f2,W,⟨m0,w0⟩,turn⟩:=h2
 subst e
 have stat:∀{H':Hp},(∀b∈fp,H' b=none)→∀b∈fp,FpOk X pins H' b:=fun hn b hb=>⟨hn b hb,(f2 b hb).2⟩
 refine codeAny_forLoop_any (fun n s'=>∃i σ' H',Inv X pins σ' H' s'∧tn i s'.heap∧(∀b∈fp,H' b=none)∧W i n σ' H') ?_ m0 ⟨0,σ,H2,I2,st2,fun b hb=>(f2 b hb).1,w0⟩
 rintro n s3 ⟨i,σ3,H3,I3,st3,fr3,w3⟩
 rcases turn i n σ3 H3 w3 with⟨stop,qn⟩ | ⟨go,N,hN,step⟩
 ·refine Kq hp (thn (T.done X rfl rfl rfl hc i pins s3 σ3 H3 X.xe I3 (stat fr3) st3 stop) fun r s4 zz14=>?_)
  obtain⟨hr,I4⟩:=zz14
  subst hr
  exact wpAny_execs_nil ⟨σ3,H3,I4,qn⟩
 ·refine Kq hp (thn (T.item X rfl rfl rfl hc i pins s3 σ3 H3 X.xe I3 (stat fr3) st3 go) fun r s4 zz15=>?_)
  obtain⟨u,hr,h4⟩:=zz15
  subst hr
  refine Kq hp (thn h4 fun _ s5 zz16=>?_)
  obtain⟨x,H5,I5,r5,y5,st5,fr5⟩:=zz16
  have I5':=I5.pinned (stat fr5) (T.obj _ _ st5)
  refine Kq hp (thn (hg _ s5 σ3 H5 x u _ I5' r5 (step x H5 y5)) fun _ s6 zz17=>?_)
  obtain⟨σ6,H6,I6,q6⟩:=zz17
  refine Kq hp (thn (hb _ s6 σ6 H6 _ I6 q6) fun f s7 q7=>?_)
  have again:∀{σ7:St} {H7:Hp},Inv X (pins++En fp s5.heap) σ7 H7 s7→N σ7 H7→∃m,m<n∧∃i σ' H',Inv X pins σ' H' s7∧tn i s7.heap∧(∀b∈fp,H' b=none)∧W i m σ' H':=fun{σ7 H7} I7 n7=>by
   obtain⟨m',hm,w7⟩:=hN σ7 H7 n7
   refine⟨m',hm,i+1,σ7,H7,I7.unpinned,T.keep _ _ _ st5 fun b hb o e=>(I7.pin (b,o) (Ax _ (Ax _ (Xi hb e)))).1,fun b hb=>?_,w7⟩
   obtain⟨o,e,d⟩:=T.obj _ _ st5 b hb
   exact(I7.pin (b,o) (Ax _ (Ax _ (Xi hb e)))).2.1
  cases f with
  | next=>obtain⟨σ7,H7,I7,n7⟩:=q7;exact again I7 n7
  | cont=>obtain⟨σ7,H7,I7,n7⟩:=q7;exact again I7 n7
  | brk=>obtain⟨σ7,H7,I7,q7⟩:=q7;exact⟨σ7,H7,I7.unpinned,q7⟩
  | ret v=>obtain⟨x7,σ7,H7,I7,r7,q7⟩:=q7;exact⟨x7,σ7,H7,I7.unpinned,r7,q7⟩
end
abbrev R2:=V→V→Hp→VK→Prop
def OpR(X:Cx)(f:Value→Value→Sem Value)(r:R2):Prop:=
 ∀(pins:List (Addr×Obj)) (s:Shared) (σ:St) (H:Hp) (x y:V) (v u:Value) (Q:VK),Inv X pins σ H s→RelV x v→RelV y u→r x y H Q→
  wpAny (model X.prog X.w) X.A (f v u) (EP X pins σ Q) X.xe s
def UnR(X:Cx)(f:Value→Sem Value)(r:V→Hp→VK→Prop):Prop:=
 ∀(pins:List (Addr×Obj)) (s:Shared) (σ:St) (H:Hp) (x:V) (v:Value) (Q:VK),Inv X pins σ H s→RelV x v→r x H Q→
  wpAny (model X.prog X.w) X.A (f v) (EP X pins σ Q) X.xe s
def W0(X:Cx)(f:Value)(r:List V→Hp→VK→Prop):Prop:=
 ∀(pins:List (Addr×Obj)) (s:Shared) (σ:St) (H:Hp) (xs:List V) (us:List Value) (Q:VK),Inv X pins σ H s→Vals xs us→r xs H Q→
  wpAny (model X.prog X.w) X.A (call f us) (EP X pins σ Q) X.xe s
def TruR(X:Cx)(r:V→Hp→(Bool→Hp→Prop)→Prop):Prop:=
 ∀(pins:List (Addr×Obj)) (s:Shared) (σ:St) (H:Hp) (x:V) (v:Value) (Q:Bool→Hp→Prop),Inv X pins σ H s→RelV x v→r x H Q→
  wpAny (model X.prog X.w) X.A (truthy v) (TP X pins σ Q) X.xe s
def tOp(r:R2)(ta tb:TE):TE:=fun σ H Q=>ta σ H fun x H1=>tb σ H1 fun y H2=>r x y H2 Q
def tUn(r:V→Hp→VK→Prop)(ta:TE):TE:=fun σ H Q=>ta σ H fun x H1=>r x H1 Q
def rI(C:Int→Int→Prop)(g:Int→Int→V):R2:=fun x y H Q=>∃i j,x= .int i∧y= .int j∧C i j∧Q (g i j) H
def rI0(g:Int→Int→V):R2:=fun x y H Q=>∃i j,x= .int i∧y= .int j∧Q (g i j) H
def rU(g:Int→V):V→Hp→VK→Prop:=fun x H Q=>∃i,x= .int i∧Q (g i) H
section
variable{X:Cx}{a b c:Expr}{ta tb tc:TE}{pos:Pos}
theorem binT(ha:PE X a ta)(hb:PE X b tb){pins:List (Addr×Obj)}{s:Shared}{σ:St}{H:Hp}{R:V→V→Hp→Prop}(I:Inv X pins σ H s)
  (h:ta σ H fun x H1=>tb σ H1 fun y H2=>R x y H2) {Q:Value→Shared→Prop} {f:Value→Value→Sem Value}
  (hf:∀v u s2 x y H2,Inv X pins σ H2 s2→RelV x v→RelV y u→R x y H2→wpAny (model X.prog X.w) X.A (f v u) Q X.xe s2):
  wpAny (model X.prog X.w) X.A (eval a X.env) (fun v s₁=>wpAny (model X.prog X.w) X.A (eval b X.env) (fun u s₂=>wpAny (model X.prog X.w) X.A (f v u) Q X.xe s₂) X.xe s₁) X.xe s:=by
 refine thn (ha pins s σ H _ I h) fun v s1 zz18=>?_
 obtain⟨x,H1,I1,r1,q1⟩:=zz18
 refine thn (hb pins s1 σ H1 _ I1 q1) fun u s2 zz19=>?_
 obtain⟨y,H2,I2,r2,q2⟩:=zz19
 exact hf v u s2 x y H2 I2 r1 r2 q2
theorem Ya4{op:Operator}{r:R2}(ho:OpR X (binaryOp op) r)(ha:PE X a ta)(hb:PE X b tb):PE X (.BinOp a op b pos) (tOp r ta tb):=by
 intro pins s σ H Q I h
 exact wpAny_BinOp (binT ha hb I h fun v u s2 x y H2 I2 rx ry q=>ho pins s2 σ H2 x y v u Q I2 rx ry q)
theorem Yb0{op:UnaryOp}{r:V→Hp→VK→Prop}(ho:UnR X (unaryOp op) r)(ha:PE X a ta):PE X (.UnaryOp op a pos) (tUn r ta):=by
 intro pins s σ H Q I h
 exact UnaryOp_ (thn (ha pins s σ H _ I h) fun v s1 zz20=>by obtain⟨x,H1,I1,r1,q1⟩:=zz20;exact ho pins s1 σ H1 x v Q I1 r1 q1)
theorem opI{f:Value→Value→Sem Value}{C:Int→Int→Prop}{g:Int→Int→Int}
  (rule:∀(i j:Int) (t u:Tok) (s:Shared) (Q:Value→Shared→Prop) (E:Value→Shared→Prop),C i j→Q (.int (g i j) s.toks) {s with toks:=s.toks+1}→wpAny (model X.prog X.w) X.A (f (.int i t) (.int j u)) Q E s):
  OpR X f (rI C fun i j=> .int (g i j)):=by
 intro pins s σ H x y v u Q I rx ry h
 obtain⟨i,j,rfl,rfl,hc,q⟩:=h
 obtain⟨t,rfl⟩:=rx
 obtain⟨t',rfl⟩:=ry
 exact rule i j t t' s _ _ hc ⟨.int (g i j),H,I.tok _,⟨_,rfl⟩,q⟩
theorem opI0{f:Value→Value→Sem Value}{g:Int→Int→Int}
  (rule:∀(i j:Int) (t u:Tok) (s:Shared) (Q:Value→Shared→Prop) (E:Value→Shared→Prop),Q (.int (g i j) s.toks) {s with toks:=s.toks+1}→wpAny (model X.prog X.w) X.A (f (.int i t) (.int j u)) Q E s):
  OpR X f (rI0 fun i j=> .int (g i j)):=by
 intro pins s σ H x y v u Q I rx ry h
 obtain⟨i,j,rfl,rfl,q⟩:=h
 obtain⟨t,rfl⟩:=rx
 obtain⟨t',rfl⟩:=ry
 exact rule i j t t' s _ _ ⟨.int (g i j),H,I.tok _,⟨_,rfl⟩,q⟩
theorem opB0{f:Value→Value→Sem Value}{g:Int→Int→Bool}
  (rule:∀(i j:Int) (t u:Tok) (s:Shared) (Q:Value→Shared→Prop) (E:Value→Shared→Prop),Q (.bool (g i j)) s→wpAny (model X.prog X.w) X.A (f (.int i t) (.int j u)) Q E s):
  OpR X f (rI0 fun i j=> .bl (g i j)):=by
 intro pins s σ H x y v u Q I rx ry h
 obtain⟨i,j,rfl,rfl,q⟩:=h
 obtain⟨t,rfl⟩:=rx
 obtain⟨t',rfl⟩:=ry
 exact rule i j t t' s _ _ ⟨.bl (g i j),H,I,rfl,q⟩
def CPow(i j:Int):Prop:=0≤j∧j≤1000000∧i.natAbs<2 ^ 64
def CMul(i j:Int):Prop:=(-(2 ^ 64)<i∧i<2 ^ 64)∨(-(2 ^ 64)<j∧j<2 ^ 64)
theorem CMul.ok{i j:Int}(h:CMul i j):IntMulOk i j:=by
 rcases h with⟨h1,h2⟩ | ⟨h1,h2⟩
 ·exact .of_left (intBits_le_64 h1 h2)
 ·exact .of_right (intBits_le_64 h1 h2)
theorem Y70:OpR X (binaryOp .Add) (rI0 fun i j=> .int (i+j)):=opI0 fun _ _ _ _ _ _ _ q=>add_int q
theorem Y00:OpR X (binaryOp .Sub) (rI0 fun i j=> .int (i - j)):=opI0 fun _ _ _ _ _ _ _ q=>sub_int q
theorem Zs8:OpR X (binaryOp .Mod) (rI (fun _ j=>j≠0) fun i j=> .int (i.fmod j)):=opI fun _ _ _ _ _ _ _ hc q=>mod_int' hc q
theorem Y03:OpR X (binaryOp .Pow) (rI CPow fun i j=> .int (i ^ j.toNat)):=opI fun _ _ _ _ _ _ _ hc q=>pow_int_small hc.1 hc.2.1 hc.2.2 q
theorem unI{f:Value→Sem Value}{g:Int→Int}
  (rule:∀(i:Int) (t:Tok) (s:Shared) (Q:Value→Shared→Prop) (E:Value→Shared→Prop),Q (.int (g i) s.toks) {s with toks:=s.toks+1}→wpAny (model X.prog X.w) X.A (f (.int i t)) Q E s):
  UnR X f (rU fun i=> .int (g i)):=by
 intro pins s σ H x v Q I rx h
 obtain⟨i,rfl,q⟩:=h
 obtain⟨t,rfl⟩:=rx
 exact rule i t s _ _ ⟨.int (g i),H,I.tok _,⟨_,rfl⟩,q⟩
theorem Y88:UnR X (unaryOp .USub) (rU fun i=> .int (-i)):=unI fun _ _ _ _ _ q=>neg_int q
end
noncomputable def scal:V→V→Bool
 | .non,.non=>true | .non,.int _=>true | .int _,.non=>true | .non,.bl _=>true | .bl _,.non=>true | .non,.str _=>true | .str _,.non=>true
 | .int _,.int _=>true | .bl _,.bl _=>true | .str _,.str _=>true | .byt _,.byt _=>true
 | .int _,.str _=>true | .str _,.int _=>true | .bl _,.str _=>true | .str _,.bl _=>true
 | _,_=>false
def rEq:R2:=fun x y H Q=>scal x y=true∧Q (.bl (decide (x=y))) H
def rNe:R2:=fun x y H Q=>scal x y=true∧Q (.bl (!decide (x=y))) H
theorem Z83{i j:Int}:decide (V.int i=V.int j)=(i==j):=by
 rw[Bool.eq_iff_iff]
 simp
theorem Zp3{i j:Bool}:decide (V.bl i=V.bl j)=(i==j):=by
 rw[Bool.eq_iff_iff]
 simp
theorem Zd3{i j:Str}:decide (V.str i=V.str j)=(i==j):=by
 rw[Bool.eq_iff_iff]
 simp
theorem Zc3{i j:Array UInt8}:decide (V.byt i=V.byt j)=(i.toList==j.toList):=by
 rw[Bool.eq_iff_iff]
 cases i
 cases j
 simp
section
variable{X:Cx}{a b c:Expr}{ta tb tc:TE}{pos:Pos}
theorem Y0{pins:List (Addr×Obj)}{σ:St}{H:Hp}{s:Shared}{Q:VK}{k k':Bool}(I:Inv X pins σ H s)(q:Q (.bl k) H)(e:k=k'):EP X pins σ Q (.bool k') s:=by
 subst e
 exact⟨.bl k,H,I,rfl,q⟩
theorem Y97:OpR X (compareOp .Eq) rEq:=by
 intro pins s σ H x y v u Q I rx ry h
 obtain⟨hs,q⟩:=h
 cases x with
 | non=>
  cases rx
  cases y with
  | non=>cases ry;exact PySem.EqNone.eq_none_none (Y0 I q (by simp))
  | bl j=>cases ry;exact PySem.EqNone.eq_none_bool (Y0 I q (by simp))
  | int j=>obtain⟨t',rfl⟩:=ry;exact PySem.EqNone.eq_none_int (Y0 I q (by simp))
  | str j=>obtain⟨t',rfl⟩:=ry;exact PySem.EqNone.eq_none_str (Y0 I q (by simp))
  | _=>exact absurd (show false=true from hs) Bool.false_ne_true
 | bl i=>
  cases rx
  cases y with
  | non=>cases ry;exact PySem.EqNone.eq_bool_none (Y0 I q (by simp))
  | bl j=>cases ry;exact eq_bool (Y0 I q Zp3)
  | str j=>obtain⟨t',rfl⟩:=ry;exact PySem.EqMixed.eq_bool_str (Y0 I q (by simp))
  | _=>exact absurd (show false=true from hs) Bool.false_ne_true
 | int i=>
  obtain⟨t,rfl⟩:=rx
  cases y with
  | non=>cases ry;exact PySem.EqNone.eq_int_none (Y0 I q (by simp))
  | int j=>obtain⟨t',rfl⟩:=ry;exact eq_int (Y0 I q Z83)
  | str j=>obtain⟨t',rfl⟩:=ry;exact PySem.EqMixed.eq_int_str (Y0 I q (by simp))
  | _=>exact absurd (show false=true from hs) Bool.false_ne_true
 | str i=>
  obtain⟨t,rfl⟩:=rx
  cases y with
  | non=>cases ry;exact PySem.EqNone.eq_str_none (Y0 I q (by simp))
  | bl j=>cases ry;exact PySem.EqMixed.eq_str_bool (Y0 I q (by simp))
  | int j=>obtain⟨t',rfl⟩:=ry;exact PySem.EqMixed.eq_str_int (Y0 I q (by simp))
  | str j=>obtain⟨t',rfl⟩:=ry;exact eq_str (Y0 I q Zd3)
  | _=>exact absurd (show false=true from hs) Bool.false_ne_true
 | byt i=>
  obtain⟨t,rfl⟩:=rx
  cases y with
  | byt j=>obtain⟨t',rfl⟩:=ry;exact PySem.W.eq_bytes (Y0 I q Zc3)
  | _=>exact absurd (show false=true from hs) Bool.false_ne_true
 | _=>cases y<;>exact absurd (show false=true from hs) Bool.false_ne_true
theorem Yb9:OpR X (compareOp .NotEq) rNe:=by
 intro pins s σ H x y v u Q I rx ry h
 obtain⟨hs,q⟩:=h
 cases x with
 | non=>
  cases rx
  cases y with
  | non=>cases ry;exact PySem.EqNone.ne_none_none (Y0 I q (by simp))
  | bl j=>cases ry;exact PySem.EqNone.ne_none_bool (Y0 I q (by simp))
  | int j=>obtain⟨t',rfl⟩:=ry;exact PySem.EqNone.ne_none_int (Y0 I q (by simp))
  | str j=>obtain⟨t',rfl⟩:=ry;exact PySem.EqNone.ne_none_str (Y0 I q (by simp))
  | _=>exact absurd (show false=true from hs) Bool.false_ne_true
 | bl i=>
  cases rx
  cases y with
  | non=>cases ry;exact PySem.EqNone.ne_bool_none (Y0 I q (by simp))
  | bl j=>cases ry;exact ne_bool (Y0 I q (congrArg not Zp3))
  | str j=>obtain⟨t',rfl⟩:=ry;exact PySem.EqMixed.ne_bool_str (Y0 I q (by simp))
  | _=>exact absurd (show false=true from hs) Bool.false_ne_true
 | int i=>
  obtain⟨t,rfl⟩:=rx
  cases y with
  | non=>cases ry;exact PySem.EqNone.ne_int_none (Y0 I q (by simp))
  | int j=>obtain⟨t',rfl⟩:=ry;exact ne_int (Y0 I q (congrArg not Z83))
  | str j=>obtain⟨t',rfl⟩:=ry;exact PySem.EqMixed.ne_int_str (Y0 I q (by simp))
  | _=>exact absurd (show false=true from hs) Bool.false_ne_true
 | str i=>
  obtain⟨t,rfl⟩:=rx
  cases y with
  | non=>cases ry;exact PySem.EqNone.ne_str_none (Y0 I q (by simp))
  | bl j=>cases ry;exact PySem.EqMixed.ne_str_bool (Y0 I q (by simp))
  | int j=>obtain⟨t',rfl⟩:=ry;exact PySem.EqMixed.ne_str_int (Y0 I q (by simp))
  | str j=>obtain⟨t',rfl⟩:=ry;exact ne_str (Y0 I q (congrArg not Zd3))
  | _=>exact absurd (show false=true from hs) Bool.false_ne_true
 | byt i=>
  obtain⟨t,rfl⟩:=rx
  cases y with
  | byt j=>obtain⟨t',rfl⟩:=ry;exact PySem.W.ne_bytes (Y0 I q (congrArg not Zc3))
  | _=>exact absurd (show false=true from hs) Bool.false_ne_true
 | _=>cases y<;>exact absurd (show false=true from hs) Bool.false_ne_true
theorem Yb1:OpR X (compareOp .Lt) (rI0 fun i j=> .bl (decide (i<j))):=opB0 fun _ _ _ _ _ _ _ q=>lt_int q
theorem Ya7:OpR X (compareOp .LtE) (rI0 fun i j=> .bl (decide (i≤j))):=opB0 fun _ _ _ _ _ _ _ q=>le_int q
theorem Ya0:OpR X (compareOp .Gt) (rI0 fun i j=> .bl (decide (j<i))):=opB0 fun _ _ _ _ _ _ _ q=>gt_int q
theorem Zc0:OpR X (compareOp .In) (fun x y H Q=>∃i j,x= .str i∧y= .str j∧Q (.bl (!(Lp j i 0 j.length 1).isEmpty)) H):=by
 intro pins s σ H x y v u Q I rx ry h
 obtain⟨i,j,rfl,rfl,q⟩:=h
 obtain⟨t,rfl⟩:=rx
 obtain⟨t',rfl⟩:=ry
 exact in_str (Y0 I q rfl)
theorem Qi:OpR X (compareOp .Is) (fun x y H Q=>y= .non∧Q (.bl (decide (x= .non))) H):=by
 intro pins s σ H x y v u Q I rx ry h
 obtain⟨rfl,q⟩:=h
 cases ry
 refine is_none_gen (Y0 I q ?_)
 cases x<;>first
  |(cases rx;rfl)
  |(obtain⟨t,rfl⟩:=rx;rfl)
theorem Gs:OpR X (compareOp .NotIn) (fun x y H Q=>∃i j,x= .str i∧y= .str j∧Q (.bl (!(!(Lp j i 0 j.length 1).isEmpty))) H):=by
 intro pins s σ H x y v u Q I rx ry h
 obtain⟨i,j,rfl,rfl,q⟩:=h
 obtain⟨t,rfl⟩:=rx
 obtain⟨t',rfl⟩:=ry
 exact notIn_str (Y0 I q rfl)
theorem Zw8{op:CmpOp}{r:R2}(ho:OpR X (compareOp op) r)(ha:PE X a ta)(hb:PE X b tb)(hm:behindInMarks op b=false):PE X (.Compare a [op] [b] pos) (tOp r ta tb):=by
 intro pins s σ H Q I h
 exact wpAny_Compare1 (binT ha hb I h fun v u s2 x y H2 I2 rx ry q=>ho pins s2 σ H2 x y v u Q I2 rx ry q) hm
def Y61(t:TE):TT:=fun σ H Q=>t σ H fun x H'=>∃k,x= .bl k∧Q k H'
theorem Zv7{op:CmpOp}{r:R2}(ho:OpR X (compareOp op) r)(ha:PE X a ta)(hb:PE X b tb)(hm:behindInMarks op b=false):PT X (.Compare a [op] [b] pos) (Y61 (tOp r ta tb)):=by
 intro pins s σ H Q I h
 refine wpAny_isTrue_Compare1 (thn (ha pins s σ H _ I h) fun v s1 ⟨x,H1,I1,r1,q1⟩=>thn (hb pins s1 σ H1 _ I1 q1) fun u s2 ⟨y,H2,I2,r2,q2⟩=>
  thn (ho pins s2 σ H2 x y v u _ I2 r1 r2 q2) fun c s3 ⟨z,H3,I3,r3,k,e,q3⟩=>?_) hm
 subst e
 cases r3
 exact wpAny_truthy_bool ⟨H3,I3,q3⟩
def TruV(K:Ae)(x:V)(H:Hp)(k:Bool):Prop:=
 match x with
 | .non=>k=false
 | .bl b=>k=b
 | .int i=>k=(i !=0)
 | .str y=>y.length≤sizeLine∧k=((y.length:Int) !=0)
 | .byt y=>y.size≤sizeLine∧k=((y.size:Int) !=0)
 | .ref p=>(∃xs,SqL K H p xs∧k= !xs.isEmpty)∨(∃xs,SqT K H p xs∧k= !xs.isEmpty)∨∃kvs,H p=some (.dK kvs)∧k= !kvs.isEmpty
 | _=>False
theorem Z35{κ:Type}{kvs:List (κ×V)}{vs:List (κ×Value)}(r:KV kvs vs):(!vs.isEmpty)= !kvs.isEmpty:=by
 cases r<;>rfl
theorem Pw{xs:List V}{its:List Value}(r:Vals xs its):(!its.toArray.isEmpty)= !xs.isEmpty:=by
 cases r<;>simp
theorem Pb:(sizeLine:Nat)<2 ^ 63:=by rw[Hv];decide
theorem Bd:TruR X (fun x H Q=>∃k,TruV X.K x H k∧Q k H):=by
 intro pins s σ H x v Q I rx h
 obtain⟨k,e,q⟩:=h
 have hl:=Pb
 have hs:sizeLine=16777216:=Hv
 cases x with
 | non=>
  cases rx
  have e':k=false:=e
  subst e'
  exact truthy_none ⟨H,I,q⟩
 | bl b=>
  cases rx
  have e':k=b:=e
  subst e'
  exact wpAny_truthy_bool ⟨H,I,q⟩
 | int i=>
  obtain⟨t,rfl⟩:=rx
  have e':k=(i !=0):=e
  subst e'
  exact PySem.P.truthy_int ⟨H,I,q⟩
 | str y=>
  obtain⟨t,rfl⟩:=rx
  obtain⟨hy,e'⟩:y.length≤sizeLine∧k=((y.length:Int) !=0):=e
  subst e'
  exact PySem.P.truthy_str (by omega) ⟨H,I.tok _,q⟩
 | byt y=>
  obtain⟨t,rfl⟩:=rx
  obtain⟨hy,e'⟩:y.size≤sizeLine∧k=((y.size:Int) !=0):=e
  subst e'
  exact PySem.W.truthy_bytes (by omega) ⟨H,I.tok _,q⟩
 | ref p=>
  cases rx
  have e':(∃xs,SqL X.K H p xs∧k= !xs.isEmpty)∨(∃xs,SqT X.K H p xs∧k= !xs.isEmpty)∨∃kvs,H p=some (.dK kvs)∧k= !kvs.isEmpty:=e
  rcases e' with⟨xs,hx,e'⟩ | ⟨xs,hx,e'⟩ | ⟨kvs,hx,e'⟩
  ·subst e'
   obtain⟨its,r,pl,hz⟩:=I.list hx
   have hlen:=r.length
   exact wpAny_truthy_list pl.isList (by simp only[Aj];omega) ⟨H,I.tok _,by rw[Pw r];exact q⟩
  ·subst e'
   obtain⟨its,r,pl,hz⟩:=I.tuple hx
   have hlen:=r.length
   exact truthy_tuple pl (by simp only[Aj];omega) ⟨H,I.tok _,by rw[Pw r];exact q⟩
  ·subst e'
   obtain⟨hz,hS,vs,r,m⟩:kvs.length≤sizeLine∧(p==sysModules)=false∧∃vs,KV kvs vs∧s.heap.DictOf (Yk X.prog X.w) p vs:=I.hok p _ hx
   have hlen:kvs.length=vs.length:=Paired.length r
   exact wpAny_truthy_dict hS m (by omega) ⟨H,I.tok _,by rw[Z35 r];exact q⟩
 | _=>exact(show False from e).elim
theorem Zi9(ha:PE X a ta)(he:∀whole,isTrue a X.env whole=(do let v ←whole;standAt a.pos;holding [v] (truthy v))):
  PT X a (fun σ H Q=>ta σ H fun x H'=>∃k,TruV X.K x H' k∧Q k H'):=by
 intro pins s σ H Q I h
 exact isTrue_plain (thn (ha pins s σ H _ I h) fun v s1 zz22=>by obtain⟨x,H1,I1,r1,q1⟩:=zz22;exact Bd pins s1 σ H1 x v Q I1 r1 q1) (he _)
theorem Z33:OpR X (binaryOp .Add) (fun x y H Q=>∃i j,x= .str i∧y= .str j∧i.length+j.length≤sizeLine∧Q (.str (i++j)) H):=by
 intro pins s σ H x y v u Q I rx ry h
 obtain⟨i,j,rfl,rfl,hz,q⟩:=h
 obtain⟨t,rfl⟩:=rx
 obtain⟨t',rfl⟩:=ry
 exact add_str (fun t' tk=>⟨.str (i++j),H,I.tok _,⟨_,rfl⟩,q⟩) hz
theorem Vl{x:V}{us:List Value}(r:Vals [x] us):∃u,us=[u]∧RelV x u:=by
 cases r with
 | cons r1 r2=>cases r2;exact⟨_,rfl,r1⟩
theorem Gr{x y:V}{us:List Value}(r:Vals [x,y] us):∃u w',us=[u,w']∧RelV x u∧RelV y w':=by
 cases r with
 | cons r1 r2=>
  cases r2 with
  | cons r3 r4=>cases r4;exact⟨_,_,rfl,r1,r3⟩
theorem Za5(hc:X.calm=true):W0 X (.builtin "max") (fun xs H Q=>∃i j,xs=[.int i,.int j]∧Q (.int (if j >i then j else i)) H):=by
 intro pins s σ H xs us Q I r h
 obtain⟨i,j,rfl,q⟩:=h
 obtain⟨u,w',rfl,⟨t,rfl⟩,⟨t',rfl⟩⟩:=Gr r
 refine max_two_ints (I.ok.hd hc) fun h' tk k=>⟨_,H,I.kept k,?_,q⟩
 by_cases hj:j >i
 ·rw[if_pos hj,if_pos hj];exact⟨_,rfl⟩
 ·rw[if_neg hj,if_neg hj];exact⟨_,rfl⟩
theorem Zd8(hc:X.calm=true):W0 X (.builtin "min") (fun xs H Q=>∃i j,xs=[.int i,.int j]∧Q (.int (if j<i then j else i)) H):=by
 intro pins s σ H xs us Q I r h
 obtain⟨i,j,rfl,q⟩:=h
 obtain⟨u,w',rfl,⟨t,rfl⟩,⟨t',rfl⟩⟩:=Gr r
 refine min_two_ints (I.ok.hd hc) fun h' tk k=>⟨_,H,I.kept k,?_,q⟩
 by_cases hj:j<i
 ·rw[if_pos hj,if_pos hj];exact⟨_,rfl⟩
 ·rw[if_neg hj,if_neg hj];exact⟨_,rfl⟩
theorem Gz:W0 X (.type "str") (fun xs H Q=>∃i,xs=[.int i]∧i.natAbs.log2<1920∧Q (.str (toString i)) H):=by
 intro pins s σ H xs us Q I r h
 obtain⟨i,rfl,hz,q⟩:=h
 obtain⟨u,rfl,t,rfl⟩:=Vl r
 exact PySem.P.str_of_int hz ⟨.str _,H,I.tok _,⟨_,rfl⟩,q⟩
end
structure ObjM(h:Heap)(x dx C:Addr)(mA:Str→Option Value):Prop where
 obj:h.get? x=some (PySem.W.instObj C dx)
 ns:h.Ns1 dx mA
 ne:dx≠x
theorem Jd{h:Heap}{dx:Addr}{mA:Str→Option Value}(n:h.Ns1 dx mA):∃od,h.get? dx=some od∧∀name,PySem.W.lookIn name od=some (mA name):=by
 obtain⟨o,es,ep,ho,hd,hk,_,hm⟩:=n
 refine⟨o,ho,fun name=>?_⟩
 have e:=hm name
 unfold nsFind findBy at e
 rw[←Array.find?_toList] at e
 unfold PySem.W.lookIn
 rw[hd]
 dsimp only
 split
 ·rename_i y q
  rw[q] at e
  exact congrArg some e
 ·rename_i q
  rw[q] at e
  have a:es.toList.any (·.refKey)=false:=by
   rw[List.any_eq_false]
   intro y hy
   obtain⟨z,t,hkey⟩:=hk y (Array.mem_toList_iff.mp hy)
   simp[DictEntry.refKey,hkey]
  have a':¬es.toList.any (·.refKey)=true:=by rw[a];exact Bool.false_ne_true
  rw[if_neg a']
  exact congrArg some e
theorem ObjM.look{h:Heap}{x dx C:Addr}{mA:Str→Option Value}(I:ObjM h x dx C mA):∃od,PySem.W.InstAt h x (PySem.W.instObj C dx) C (some od)∧∀name,PySem.W.lookIn name od=some (mA name):=
 let ⟨od,ho,hl⟩:=Jd I.ns
 ⟨od,⟨I.obj,rfl,rfl,ho⟩,hl⟩
theorem RelO.some_of{v:V}{o:Option Value}(r:RelO (some v) o):∃u,o=some u∧RelV v u:=by
 cases o with
 | none=>exact(show False from r).elim
 | some u=>exact⟨u,rfl,r⟩
theorem RelO.none_of{o:Option Value}(r:RelO none o):o=none:=by
 cases o with
 | none=>rfl
 | some u=>exact(show False from r).elim
section
variable{P:Program}{w:World}{H H':Hp}{h h':Heap}{a C dx:Addr}{fs fs':List (Str×V)}
theorem Zs3(hok:HOk P w H h)(e:H a=some (.ins C dx fs)):∃mA,ObjM h a dx C mA∧(∀f,RelO (fs.lookup f) (mA f))∧PySem.Within mA (fs.map (·.1))∧fs.length≤1000∧H dx=some (.own a):=by
 obtain⟨d,z,ne,ob,mA,n,r,q⟩:=(show Xl P w H h a (.ins C dx fs) from hok a _ e)
 exact⟨mA,⟨ob,n,ne⟩,r,q,z,d⟩
end
structure Cls(K:Ae)(C:Addr):Prop where
 pg:PySem.W.plainGet K C Str.empty=true
 hd:PySem.W.hasDictIn K C=true
 po:PySem.W.plainOver K C=true
 sa:Lx K (.ref C) "__setattr__"=some (some (.builtin "object.__setattr__"))
theorem Cls.get{K:Ae}{C:Addr}(c:Cls K C)(f:Str):PySem.W.plainGet K C f=true:=c.pg
structure Con(K:Ae)(C:Addr)(f:Str)(v:V)(u:Value):Prop where
 at_:Lx K (.ref C) f=some (some u)
 rel:RelV v u
 get:PySem.W.specialIn K u "__get__"=some none
 cp:PySem.W.copiedNames.contains f=false
structure Meth(K:Ae)(C:Addr)(m:Str)(f:Addr):Prop where
 at_:Lx K (.ref C) m=some (some (.ref f))
 fn:PySem.W.isFn K (.ref f)=true
 kp:Ac K (.ref f)=true
section
variable{X:Cx}{pins:List (Addr×Obj)}{σ:St}{H:Hp}{s:Shared}{A:Around}{E:Value→Shared→Prop}{Q:Value→Shared→Prop}{c:Value}{b:Bool}
inductive TyOf (K:Ae) (H:Hp):V→Value→Prop where
 | non:TyOf K H .non (.type "NoneType")
 | bl (x:Bool):TyOf K H (.bl x) (.type "bool")
 | int (i:Int):TyOf K H (.int i) (.type "int")
 | str (x:Str):TyOf K H (.str x) (.type "str")
 | flt (x:UInt64):TyOf K H (.flt x) (.type "float")
 | lst {a:Addr} {xs:List V} (e:H a=some (.lst xs)):TyOf K H (.ref a) (.type "list")
 | frz {a:Addr} {o:Obj} {xs:List V} (e:H a=some (.frz o (.lst xs))):TyOf K H (.ref a) (.type "list")
 | tup {a:Addr} {xs:List V} (e:H a=some (.tup xs)):TyOf K H (.ref a) (.type "tuple")
 | dK {a:Addr} {kvs:List (Key×V)} (e:H a=some (.dK kvs)):TyOf K H (.ref a) (.type "dict")
 | dT {a:Addr} {kvs:List (List Key×V)} (e:H a=some (.dT kvs)):TyOf K H (.ref a) (.type "dict")
 | ins {a C dx:Addr} {fs:List (Str×V)} (e:H a=some (.ins C dx fs)) (cl:Cls K C) (ha:Lx K (.ref C) "__class__"=some (some (.builtin "object.__class__")))
   (hn:PySem.W.specialIn K (.builtin "object.__class__") "__get__"=some (some (.builtin "getset_descriptor.__get__"))) (htk:PySem.W.takesIn K (.builtin "object.__class__")=some true)
   (hm:PySem.W.mroIn K C (.type "object")=some true):TyOf K H (.ref a) (.ref C)
theorem Zc6{x:V}{u t:Value}(I:Inv X pins σ H s)(rx:RelV x u)(ty:TyOf X.K H x t)(e:Kh X.K t c=some b)(h:∀tk,Q (.bool b) {s with toks:=tk}):
  wpAny (model X.prog X.w) A (call (.builtin "isinstance") [u,c]) Q E s:=by
 cases ty with
 | non=>cases (show u=Kb from rx);exact Hu PySem.W.kitx_none I.kIn Kk e (fun z=>nomatch z) h
 | bl y=>cases (show u=Lq y from rx);exact Hu PySem.W.kitx_bool I.kIn Kk e (fun z=>nomatch z) h
 | int i=>obtain⟨t,q⟩:=(show ∃t,u=Value.int i t from rx);cases q;exact Hu PySem.W.kitx_int I.kIn Kk e (fun z=>nomatch z) h
 | str y=>obtain⟨t,q⟩:=(show ∃t,u=Il y t from rx);cases q;exact Hu PySem.W.kitx_str I.kIn Kk e (fun z=>nomatch z) h
 | flt y=>obtain⟨t,q⟩:=(show ∃t,u=Value.float y t from rx);cases q;exact Hu PySem.W.kitx_float I.kIn Kk e (fun z=>nomatch z) h
 | @lst a xs ea=>
  cases (show u=An a from rx)
  obtain⟨_,_,n,_,h1⟩:=(show Xl X.prog X.w H s.heap a (.lst xs) from I.hok a _ ea)
  exact Hu PySem.W.kitx_list I.kIn ⟨_,h1,rfl⟩ e (fun z=>nomatch z) h
 | @frz a ob xs ea=>
  cases (show u=An a from rx)
  obtain⟨_,_,_,n,_,h1⟩:=(show Xl X.prog X.w H s.heap a (.frz ob (.lst xs)) from I.hok a _ ea)
  exact Hu PySem.W.kitx_list I.kIn ⟨_,h1,rfl⟩ e (fun z=>nomatch z) h
 | @tup a xs ea=>
  cases (show u=An a from rx)
  obtain⟨_,_,_,p⟩:=(show Xl X.prog X.w H s.heap a (.tup xs) from I.hok a _ ea)
  obtain⟨o,h1,h2,_⟩:=p
  exact Hu PySem.W.kitx_tuple I.kIn ⟨o,h1,h2⟩ e (fun z=>nomatch z) h
 | @dK a kvs ea=>
  cases (show u=An a from rx)
  obtain⟨_,_,vs,_,p⟩:=(show Xl X.prog X.w H s.heap a (.dK kvs) from I.hok a _ ea)
  obtain⟨o,es,ep,h1,h2,_⟩:=p
  exact Hu PySem.W.kitx_dict I.kIn ⟨o,h1,h2.1⟩ e (fun z=>nomatch z) h
 | @dT a kvs ea=>
  cases (show u=An a from rx)
  obtain⟨_,_,xs,_,o,es,ep,h1,h2,_⟩:=(show Xl X.prog X.w H s.heap a (.dT kvs) from I.hok a _ ea)
  exact Hu PySem.W.kitx_dict I.kIn ⟨o,h1,h2.1⟩ e (fun z=>nomatch z) h
 | @ins a C dx fs ea cl ha hn htk hm=>
  cases (show u=An a from rx)
  obtain⟨mA,O,_⟩:=Zs3 I.hok ea
  obtain⟨od,J,_⟩:=O.look
  exact Hu (PySem.W.kitx_own (cl.get _) cl.hd ha hn htk hm) I.kIn J e (fun z=>nomatch z) h
end
structure Room(k:Nat)(A:Around):Prop where
 hd:A.handled=none
 dp:A.depth+3 * k+5<recursionLimit
 un:A.units+16 * k+200<cLine
theorem Room.mono{j k:Nat}{A:Around}(r:Room k A)(h:j≤k):Room j A:=⟨r.hd,by have:=r.dp;omega,by have:=r.un;omega⟩
theorem Room.deeper{k:Nat}{A:Around}(r:Room (k+1) A)(env:Env):Room k (A.deeper env):=
 ⟨r.hd,by have:=r.dp;show A.depth+1+3 * k+5<_;omega,by have:=r.un;show A.units+3+16 * k+200<_;omega⟩
theorem Room.depth{k:Nat}{A:Around}(r:Room k A):A.depth<recursionLimit:=by have:=r.dp;omega
theorem Room.units{k:Nat}{A:Around}(r:Room k A):A.units+64<cLine:=by have:=r.un;omega
def tNil:TA:=fun _ H Q=>Q [] H
def Yc7(ta:TE)(tr:TA):TA:=fun σ H Q=>ta σ H fun x H1=>tr σ H1 fun xs H2=>Q (x::xs) H2
section
variable{X:Cx}{e:Expr}{es:List Expr}{te:TE}{t:TA}{pos:Pos}
theorem Vx:PA X [] tNil:=fun _ _ _ _ H Q I h=>Calls.spliced_nil ⟨[],H,I,.nil,h⟩
theorem W2(ha:PE X e te)(hr:PA X es t)(hs:starEach (e::es) X.env=(false,eval e X.env)::starEach es X.env:=by rfl):PA X (e::es) (Yc7 te t):=by
 intro pos pins s σ H Q I h
 rw[hs]
 show wpAny _ _ (spliced ((false,eval e X.env)::backTo pos (starEach es X.env))) _ _ s
 refine Calls.spliced_cons (thn (ha pins s σ H _ I h) fun u s1 zz23=>?_)
 obtain⟨x,H1,I1,r1,q1⟩:=zz23
 exact thn (hr pos pins s1 σ H1 _ I1 q1) fun us s2 zz24=>by obtain⟨xs,H2,I2,r2,q2⟩:=zz24;exact⟨x::xs,H2,I2,.cons r1 r2,q2⟩
def tTup(t:TA):TE:=fun σ H Q=>t σ H fun xs H1=>xs.length≤sizeLine∧∀p,H1 p=none→Q (.ref p) (upd H1 p (.tup xs))
def tLst(t:TA):TE:=fun σ H Q=>t σ H fun xs H1=>xs.length≤sizeLine∧∀p,H1 p=none→Q (.ref p) (upd H1 p (.lst xs))
theorem Y13{x1}(h:PA X es t):PE X (.Tuple es x1 pos) (tTup t):=by
 intro pins s σ H Q I hq
 refine wpAny_Tuple_spliced (thn (h pos pins s σ H _ I hq) fun us s1 ⟨xs,H1,I1,r,z,q⟩=>⟨by rw[←r.length];exact z,?_⟩)
 have hf:H1 s1.heap.objs.size=none:=I1.hok.fresh (Nat.le_refl _)
 refine⟨.ref s1.heap.objs.size,upd H1 s1.heap.objs.size (.tup xs),I1.laid (t':=s1.toks) (fun b u e=>Ad _ e) (Nat.le_refl _) ?_,rfl,q _ hf⟩
 exact⟨z,us,r,⟨_,Al _ rfl,rfl,_,rfl⟩⟩
theorem Y50(h:PA X es t):PE X (.List es pos) (tLst t):=by
 intro pins s σ H Q I hq
 refine wpAny_List_spliced (thn (h pos pins s σ H _ I hq) fun us s1 ⟨xs,H1,I1,r,z,q⟩=>⟨by rw[←r.length];exact z,?_⟩)
 have hf:H1 s1.heap.objs.size=none:=I1.hok.fresh (Nat.le_refl _)
 refine⟨.ref s1.heap.objs.size,upd H1 s1.heap.objs.size (.lst xs),I1.laid (t':=s1.toks) (fun b u e=>Ad _ e) (Nat.le_refl _) ?_,rfl,q _ hf⟩
 exact⟨z,us,0,r,Al _ rfl⟩
end
abbrev Sp:=List V→Hp→VK→XK→Prop
abbrev CXT:=List Env→Hp→Shared→XK→Value→Shared→Prop
structure Env0(P:Program)(w:World)(K:Ae)(mg:Str→Option Value)(base:Heap)(A:Around)(outer:List Env)(s:Shared)(H:Hp):Prop where
 frames:A.frames=some outer
 mod:Mod K mg base
 bs:∀b o,base.get? b=some o→s.heap.get? b=some o∧H b=none
 bsz:base.objs.size≤s.heap.objs.size
 funs:s.heap.FunFrames base outer
 frf:∀b∈frs outer,H b=none
 hok:HOk P w H s.heap
 bare:AllBare s.gens
def CE(outer:List Env)(P:Program)(w:World)(H:Hp)(s:Shared)(Q:VK)(u:Value)(s':Shared):Prop:=
 ∃v H',s'.os=s.os∧AllBare s'.gens∧Un (frs outer) [] H H' s.heap s'.heap∧HOk P w H' s'.heap∧RelV v u∧Q v H'
def CR(CX:CXT)(outer:List Env)(P:Program)(w:World)(H:Hp)(s:Shared)(Q:VK)(E:XK)(r:Result)(s':Shared):Prop:=
 match r with
 | .ok (.ret u)=>CE outer P w H s Q u s'
 | .ok _=>False
 | .error e=>CX outer H s E e s'
structure FnOk(P:Program)(w:World)(K:Ae)(mg:Str→Option Value)(base:Heap)(CX:CXT)(k:Nat)(f:Addr)(fd:FuncData)(ps:List Str)(sp:Sp):Prop where
 len:∀vs H Q E,sp vs H Q E→vs.length=ps.length
 run:∀(A:Around) (outer:List Env) (s:Shared) (H:Hp) (args:Args) (us:List Value) (vs:List V) (Q:VK) (E:XK),Room k A→Env0 P w K mg base A outer s H→BindsTo s fd args (ps.zip us)→Vals vs us→sp vs H Q E→
  codeAny (model P w) A (.call (.ref f) args) (CR CX outer P w H s Q E) s
theorem FnOk.imp{P:Program}{w:World}{K:Ae}{mg:Str→Option Value}{base:Heap}{CX:CXT}{k:Nat}{f:Addr}{fd:FuncData}{ps:List Str}{sp sp':Sp}(F:FnOk P w K mg base CX k f fd ps sp)
  (h:∀vs H Q E,sp' vs H Q E→sp vs H Q E):FnOk P w K mg base CX k f fd ps sp':=
 ⟨fun vs H Q E q=>F.len vs H Q E (h _ _ _ _ q),fun A outer s H args us vs Q E hr he hb hv hs=>F.run A outer s H args us vs Q E hr he hb hv (h _ _ _ _ hs)⟩
section
variable{X:Cx}{pins:List (Addr×Obj)}{σ:St}{H:Hp}{s s':Shared}
theorem Inv.env0(I:Inv X pins σ H s):Env0 X.prog X.w X.K X.mg X.base X.A X.stack s H:=
 ⟨I.ok.frames,I.ok.mod,I.bs,Nat.le_trans I.ok.bsz I.sz,I.stack,I.stkFree,I.hok,I.bare⟩
theorem Inv.after{Q:VK}{u:Value}(I:Inv X pins σ H s)(h:CE X.stack X.prog X.w H s Q u s'):EP X pins σ Q u s':=by
 obtain⟨v,H',os,bare,un,hok,r,q⟩:=h
 obtain⟨hh,g,d,t,os'⟩:=s'
 obtain rfl:os'=s.os:=os
 exact⟨v,H',I.call (h':=hh) (g':=g) (d':=d) (t':=t) (ch:=[]) un hok bare (fun b z=>absurd z (by simp)),r,q⟩
end
def Y29(sp:Sp)(dvs:List V)(E:XK)(t:TA):TE:=fun σ H Q=>t σ H fun vs H1=>sp (vs++dvs) H1 Q E
def Y6(K:Ae)(fd:FuncData)(ps:List Str)(ds:List Value):Prop:=
 ∀(s:Shared) (us:List Value),K.In s.heap→(us++ds).length=ps.length→BindsTo s fd ⟨us,[]⟩ (ps.zip (us++ds))
theorem Y6.all{K:Ae}{fd:FuncData}{ps:List Str}(h:∀us:List Value,us.length=ps.length→bindArgs fd ⟨us,[]⟩=pure (ps.zip us)):Y6 K fd ps []:=fun s us _ hl=>by
 rw[Mb] at hl ⊢
 exact .of_eq (h us hl)
def B9(CX:CXT)(X:Cx)(E:XK):Prop:=∀(pins:List (Addr×Obj)) (σ:St) (H:Hp) (s:Shared) (e:Value) (s':Shared),Inv X pins σ H s→CX X.stack H s E e s'→X.xe e s'
section
variable{X:Cx}{CX:CXT}{k:Nat}{f C:Addr}{fd:FuncData}{ps:List Str}{sp:Sp}{dvs:List V}{ds:List Value}{E:XK}{x m:Str}{p pos apos:Pos}{e o:Expr}{es:List Expr}{ta:TE}{t:TA}
theorem Zo6{pins:List (Addr×Obj)}{σ:St}{H:Hp}{s:Shared}{Q:VK}{us:List Value}{vs:List V}(F:FnOk X.prog X.w X.K X.mg X.base CX k f fd ps sp)(hr:Room k X.A)(hb:Y6 X.K fd ps ds)(hd:Vals dvs ds)(hx:B9 CX X E)
  (I:Inv X pins σ H s) (r:Vals vs us) (h:sp (vs++dvs) H Q E):wpAny (model X.prog X.w) X.A (call (.ref f) us) (EP X pins σ Q) X.xe s:=by
 have r2:Vals (vs++dvs) (us++ds):=r.append hd
 have hl:(us++ds).length=ps.length:=by rw[←r2.length];exact F.len _ _ _ _ h
 refine wpAny_call (Lf (F.run X.A X.stack s H ⟨us,[]⟩ (us++ds) (vs++dvs) Q E hr I.env0 (hb s us I.kIn hl) r2 h) fun r s' hq=>?_)
 cases r with
 | error e=>exact hx pins σ H s e s' I hq
 | ok fl=>
  cases fl with
  | ret u=>exact I.after hq
  | next=>exact Di hq
  | brk=>exact Di hq
  | cont=>exact Di hq
theorem Zz7(F:FnOk X.prog X.w X.K X.mg X.base CX k f fd ps sp)(hr:Room k X.A)(hg:Gl X x)(hm:X.mg x=some (.ref f))(hk:Ac X.K (.ref f)=true)(hb:Y6 X.K fd ps ds)(hd:Vals dvs ds)(hx:B9 CX X E)
  (ha:PA X (e::es) t) (hdb:(x==("__debug__":Str))=false:=by decide) (he:starEach (e::es) X.env=(false,eval e X.env)::starEach es X.env:=by rfl) (hpl:(backTo pos (starEach es X.env)).any (·.1)=false:=by rfl):
  PE X (.Call (.Name x p) (e::es) [] pos) (Y29 sp dvs E t):=by
 intro pins s σ H Q I h
 refine Lr (E5 I hg hm ?_ hdb)
 refine PySem.W.callWith_K (h₀:=X.base) I.ok.mod.kin hk (thn (ha pos pins s σ H _ I h) fun us s1 ⟨vs,H1,I1,r,q⟩=>⟨I1.kIn,?_⟩) he hpl
 exact Zo6 F hr hb hd hx I1 r q
theorem Zi2(F:FnOk X.prog X.w X.K X.mg X.base CX k f fd ps sp)(hr:Room k X.A)(hg:Gl X x)(hm:X.mg x=some (.ref f))(hk:Ac X.K (.ref f)=true)(hb:Y6 X.K fd ps ds)(hd:Vals dvs ds)(hx:B9 CX X E)
  (hdb:(x==("__debug__":Str))=false:=by decide):PE X (.Call (.Name x p) [] [] pos) (Y29 sp dvs E tNil):=by
 intro pins s σ H Q I h
 refine Lr (E5 I hg hm ?_ hdb)
 exact PySem.W.callWith_K0 I.kIn hk (Zo6 (us:=[]) F hr hb hd hx I .nil h)
structure Mk(K:Ae)(C f:Addr):Prop where
 makes:PySem.W.makesIn K C=true
 init:Lx K (.ref C) "__init__"=some (some (.ref f))
 fn:PySem.W.isFn K (.ref f)=true
 kp:Ac K (.ref C)=true
end
section
variable{X:Cx}{CX:CXT}{k:Nat}{f C:Addr}{fd:FuncData}{ps ks:List Str}{sp:Sp}{E:XK}{x m:Str}{p pos apos kpos:Pos}{e o:Expr}{es:List Expr}{kws:List Keyword}{te ta:TE}{t tk:TA}{nm:Option Str}
structure KBinds(K:Ae)(fd:FuncData)(ps ks:List Str)(g:List Value→List Value→List Value)(gV:List V→List V→List V):Prop where
 to:∀(s:Shared) (us ws:List Value),K.In s.heap→(g us ws).length=ps.length→BindsTo s fd ⟨us,ks.zip ws⟩ (ps.zip (g us ws))
 rel:∀{vs:List V} {us:List Value} {zs:List V} {ws:List Value},Vals vs us→Vals zs ws→Vals (gV vs zs) (g us ws)
variable{g:List Value→List Value→List Value}{gV:List V→List V→List V}
end
structure FnScope(N P:List Str)(sc:Scope):Prop where
 kind:sc.kind= .function
 co:sc.isCoroutine=false
 gen:sc.isGenerator=false
 nd:N.Nodup
 pre:N.take P.length=P
 par:∀x∈P,sc.names.lookup x=some .local∨sc.names.lookup x=some .cell
 nofree:∀y∈sc.names,y.2≠ .free
theorem Gx{kindOf:Str→Option NameKind}{x:Str}:∀{binds:List (Str×Value)} {m:Str→Option Value},(∀v,(x,v)∉binds)→bindL kindOf binds m x=m x
 | [],_,_=>rfl
 |(n,v)::r,m,h=>by
  unfold bindL
  rw[Gx fun w hw=>h w (Az _ hw)]
  split
  ·have:x≠n:=by rintro rfl;exact h v Bs
   simp[this]
  ·rfl
theorem Jj{kindOf:Str→Option NameKind}{x:Str}:∀{binds:List (Str×Value)} {m:Str→Option Value},(∀v,(x,v)∉binds)→bindC kindOf binds m x=m x
 | [],_,_=>rfl
 |(n,v)::r,m,h=>by
  unfold bindC
  rw[Jj fun w hw=>h w (Az _ hw)]
  split
  ·rfl
  ·have:x≠n:=by rintro rfl;exact h v Bs
   simp[this]
theorem Jv{kindOf:Str→Option NameKind}{x:Str}{v:Value}:∀{P:List Str} {vs:List Value} {i:Nat} {m:Str→Option Value},P.Nodup→P[i]?=some x→vs[i]?=some v→kindOf x=some .local→
  bindL kindOf (P.zip vs) m x=some v
 | [],_,_,_,_,h,_,_=>by simp at h
 | _::_,[],_,_,_,_,h,_=>by simp at h
 | p::P,w::vs,0,m,nd,h1,h2,hk=>by
  simp at h1 h2;subst h1;subst h2
  show bindL kindOf ((p,w)::P.zip vs) m p=_
  unfold bindL
  rw[Gx fun v hv=>(Kr.mp nd).1 (List.of_mem_zip hv).1,if_pos hk]
  simp
 | p::P,w::vs,i+1,m,nd,h1,h2,hk=>by
  show bindL kindOf ((p,w)::P.zip vs) m x=_
  unfold bindL
  exact Jv (i:=i) (Kr.mp nd).2 (by simpa using h1) (by simpa using h2) hk
theorem Jp{kindOf:Str→Option NameKind}{x:Str}{v:Value}:∀{P:List Str} {vs:List Value} {i:Nat} {m:Str→Option Value},P.Nodup→P[i]?=some x→vs[i]?=some v→kindOf x≠some .local→
  bindC kindOf (P.zip vs) m x=some v
 | [],_,_,_,_,h,_,_=>by simp at h
 | _::_,[],_,_,_,_,h,_=>by simp at h
 | p::P,w::vs,0,m,nd,h1,h2,hk=>by
  simp at h1 h2;subst h1;subst h2
  show bindC kindOf ((p,w)::P.zip vs) m p=_
  unfold bindC
  rw[Jj fun v hv=>(Kr.mp nd).1 (List.of_mem_zip hv).1,if_neg hk]
  simp
 | p::P,w::vs,i+1,m,nd,h1,h2,hk=>by
  show bindC kindOf ((p,w)::P.zip vs) m x=_
  unfold bindC
  exact Jp (i:=i) (Kr.mp nd).2 (by simpa using h1) (by simpa using h2) hk
noncomputable def start(N:List Str)(vs:List V):St:=vs.map some++Dp (N.length - vs.length) none
def cxOf(CX:CXT)(P:Program)(w:World)(K:Ae)(mg:Str→Option Value)(base:Heap)(N:List Str)(qual:Str)(scope:Scope)(f:Addr)(cd:Value)(A:Around)(outer:List Env)(s:Shared)(H:Hp)(E:XK):Cx where
 prog:=P
 w:=w
 K:=K
 mg:=mg
 base:=base
 A:=A.deeper (envOfC qual scope s.heap.objs.size f cd)
 N:=N
 s₀:=s
 H₀:=H
 env:=envOfC qual scope s.heap.objs.size f cd
 outer:=outer
 stack:=envOfC qual scope s.heap.objs.size f cd::outer
 ex:=[]
 calm:=true
 fn:=fun _=>true
 pn:=[]
 xe:=fun e s'=>wpAny (model P w) (A.deeper (envOfC qual scope s.heap.objs.size f cd)) (leaving (envOfC qual scope s.heap.objs.size f cd) e) (fun _ s''=>CX outer H s E e s'') (fun e' s''=>CX outer H s E e' s'') s'
theorem Bc{sc:Scope}{n:Nat}{x:Str}(h:sc.names.lookup x=some .cell):∃c,(cellsFrom n sc.names []).lookup x=some c:=by
 have q:=PySem.W.cellsFrom_some sc.names n [] (.inl h)
 exact Option.isSome_iff_exists.mp q
theorem Z93{CX:CXT}{P:Program}{w:World}{K:Ae}{mg:Str→Option Value}{base:Heap}{N ps:List Str}{qual:Str}{scope:Scope}{f:Addr}{cd:Value}{A:Around}{outer:List Env}{s s1:Shared}{H:Hp}{E:XK}{us:List Value}{vs:List V}
  (S:FnScope N ps scope) (hd:A.handled=none) (e0:Env0 P w K mg base A outer s H) (hl:vs.length=ps.length) (r:Vals vs us)
  (x:InCallC s s.heap.objs.size (bindL (envOfC qual scope s.heap.objs.size f cd).kindOf (ps.zip us) fun _=>none) (cellsFrom (s.heap.objs.size+1) scope.names []) (bindC (envOfC qual scope s.heap.objs.size f cd).kindOf (ps.zip us) fun _=>none) s1):
  Inv (cxOf CX P w K mg base N qual scope f cd A outer s H E) [] (start N vs) H s1:=by
 have hpl:ps.length≤N.length:=by have:=congrArg List.length S.pre;rw[Ie] at this;omega
 obtain⟨h1,tk,rfl,hk⟩:=x.done
 have noA:∀b:Addr,b∉(cxOf CX P w K mg base N qual scope f cd A outer s H E).ex:=fun b z=>absurd (show b∈([]:List Addr) from z) (by simp)
 refine⟨⟨e0.mod,S.kind,rfl,rfl,Nat.le_refl _,fun y z c h1 h2=>?_,fun y hy=>?_,fun y c _ h=>?_,fun _=>hd,Around.frames_deeper e0.frames,.inr ⟨rfl,rfl⟩,fun b z=>absurd z (noA b),e0.bs,e0.bsz,fun b _ _=>noA b,fun b z=>absurd z (noA b),e0.funs,e0.frf⟩,
  rfl,e0.bare,Un.kept hk,⟨_,x.toInCall.ns,fun i y v h1 h2 h3=>?_⟩,fun y c h=>⟨_,x.cell y c h⟩,e0.hok.fresh (Nat.le_refl _),fun y c h=>?_,fun p hp=>absurd (show p∈([]:List (Addr×Obj)) from hp) (by simp),e0.hok.kept hk,?_⟩
 ·exact name_of_addr x.apart (Ln h1) (Ln h2)
 ·have hy:scope.names.lookup y=some .cell∨scope.names.lookup y=some .free:=hy
  rcases hy with hy | hy
  ·exact Bc hy
  ·exact absurd rfl (S.nofree _ (Ln hy))
 ·exact Nat.le_of_lt (x.above y c (Ln h))
 ·have hi:i<vs.length:=by
   unfold start at h2
   by_cases hi:i<vs.length
   ·exact hi
   ·rw[Ih (by simpa using hi)] at h2
    rw[List.getElem?_replicate] at h2
    split at h2<;>cases h2
  have ha:vs[i]?=some v:=by
   unfold start at h2
   rw[Dj (by simpa using hi),Aq] at h2
   cases e:vs[i]? with
   | none=>rw[e] at h2;cases h2
   | some a=>rw[e] at h2;cases h2;rfl
  obtain⟨u,hu,rv⟩:=r.get ha
  have hp:ps[i]?=some y:=by
   rw[←S.pre,List.getElem?_take_of_lt (by omega)];exact h1
  have ndP:ps.Nodup:=by rw[←S.pre];exact S.nd.sublist (List.take_sublist _ _)
  refine⟨u,rv,?_⟩
  rcases S.par y (Ha hp) with k | k
  ·exact .inl ⟨k,Jv ndP hp hu k⟩
  ·obtain⟨c,e⟩:=Bc (n:=s.heap.objs.size+1) k
   refine .inr ⟨.inl k,c,e,?_⟩
   have q:=x.cell y c e
   rw[Jp ndP hp hu (by show scope.names.lookup y≠_;rw[k];decide)] at q
   exact q
 ·exact e0.hok.fresh (Nat.le_of_lt (x.above y c (Ln h)))
 ·unfold start
  show _=N.length
  rw[Ay,Ah,List.length_replicate]
  omega
theorem Yb6{CX:CXT}{P:Program}{w:World}{K:Ae}{mg:Str→Option Value}{base:Heap}{k:Nat}{f:Addr}{name qual:Str}{params:Arguments}{body:List Stmt}{scope:Scope}{dV kV doc pm cdv ct oc:Value}{an od:Option Addr}
  {osl:Array (Option Value)} {N ps:List Str} {sp:Sp} (lk:K.lookup f=some ⟨oc,od,.func (As name qual params body scope dV kV doc pm an cdv ct),osl⟩) (hcd:Ar K cdv qual=true) (S:FnScope N ps scope)
  (len:∀vs H Q E,sp vs H Q E→vs.length=ps.length)
  (hbody:∀(A:Around) (outer:List Env) (s:Shared) (H:Hp) (vs:List V) (Q:VK) (E:XK),Room k (A.deeper (envOfC qual scope s.heap.objs.size f cdv))→sp vs H Q E→
   ∃t,PSs (cxOf CX P w K mg base N qual scope f cdv A outer s H E) body t∧t {nx:=fun _ H'=>Q .non H',rt:=Q} (start N vs) H):
  FnOk P w K mg base CX (k+1) f (As name qual params body scope dV kV doc pm an cdv ct) ps sp:=by
 refine⟨len,fun A outer s H args us vs Q E hr e0 hb r hsp=>?_⟩
 have hl:=len _ _ _ _ hsp
 have KX:K.In s.heap:=e0.mod.kin.keeps fun b o e=>(e0.bs b o e).1
 have lim:s.heap.NoLimit:=e0.mod.nolimit.keeps fun b o e=>(e0.bs b o e).1
 have hkind:∀y∈ps.zip us,scope.names.lookup y.1=some .local∨(scope.names.lookup y.1=some .cell∧((cellsFrom (s.heap.objs.size+1) scope.names []).lookup y.1).isSome=true):=fun⟨n,v⟩ hy=>by
  rcases S.par n (List.of_mem_zip hy).1 with q | q
  ·exact .inl q
  ·exact .inr ⟨q,PySem.W.cellsFrom_some _ _ _ (.inl q)⟩
 refine codeAny_call_function hr.depth (KX _ _ lk) rfl S.co S.gen rfl (PySem.W.codeRec_of KX hcd) (hb _ _ _ _ ?_)
 refine wpAny_newFunctionEnv_cells S.kind hkind fun env he s1 x=>?_
 subst he
 refine⟨lim.keeps x.toInCall.keep,codeAny_func ?_⟩
 obtain⟨t,ht,hq⟩:=hbody A outer s H vs Q E (hr.deeper _) hsp
 have I:Inv (cxOf CX P w K mg base N qual scope f cdv A outer s H E) [] (start N vs) H s1:=Z93 S hr.hd e0 hl r x
 refine Hl (ht [] s1 (start N vs) H _ I hq) (fun fl s' hs=>?_) fun e s' hs=>hs
 have fin:∀{σ':St} {H':Hp} {v:V} {u:Value},Inv (cxOf CX P w K mg base N qual scope f cdv A outer s H E) [] σ' H' s'→RelV v u→Q v H'→CE outer P w H s Q u s':=
  fun{σ' H' v u} J rv q=>⟨v,H',J.os,J.bare,J.base,J.hok,rv,q⟩
 cases fl with
 | ret u=>
  obtain⟨v,σ',H',J,rv,q⟩:=hs
  exact fin J rv q
 | next=>
  obtain⟨σ',H',J,q⟩:=hs
  exact fin (v:=V.non) (u:=Kb) J rfl q
 | brk=>
  obtain⟨_,_,_,q⟩:=hs
  exact Di q
 | cont=>
  obtain⟨_,_,_,q⟩:=hs
  exact Di q
section
variable{X:Cx}{x:Str}{p pos:Pos}{e:Expr}{es:List Expr}{t:TA}{id T:String}{r:List V→Hp→VK→Prop}
def tCB(r:List V→Hp→VK→Prop)(t:TA):TE:=fun σ H Q=>t σ H fun vs H1=>r vs H1 Q
theorem S7(hc:W0 X (.builtin id) r)(hg:Gl X x)(hm:X.mg x=none)(hv:bootBuiltins x=some (.builtin id))(ha:PA X (e::es) t)(hn:x≠"__name__":=by decide)(hdb:(x==("__debug__":Str))=false:=by decide)
  (he:starEach (e::es) X.env=(false,eval e X.env)::starEach es X.env:=by rfl) (hpl:(backTo pos (starEach es X.env)).any (·.1)=false:=by rfl):PE X (.Call (.Name x p) (e::es) [] pos) (tCB r t):=by
 intro pins s σ H Q I h
 refine Lr (Qo I hg hm hv ?_ hn hdb)
 exact PyProof.Rows.callWith_builtin1 (thn (ha pos pins s σ H _ I h) fun us s1 zz29=>by obtain⟨vs,H1,I1,r1,q1⟩:=zz29;exact hc pins s1 σ H1 vs us Q I1 r1 q1) he hpl
theorem Sg(hc:W0 X (.type T) r)(hg:Gl X x)(hm:X.mg x=none)(hv:bootBuiltins x=some (.type T))(ha:PA X (e::es) t)(hn:x≠"__name__":=by decide)(hdb:(x==("__debug__":Str))=false:=by decide)
  (he:starEach (e::es) X.env=(false,eval e X.env)::starEach es X.env:=by rfl) (hpl:(backTo pos (starEach es X.env)).any (·.1)=false:=by rfl):PE X (.Call (.Name x p) (e::es) [] pos) (tCB r t):=by
 intro pins s σ H Q I h
 refine Lr (Qo I hg hm hv ?_ hn hdb)
 exact Iv (thn (ha pos pins s σ H _ I h) fun us s1 zz30=>by obtain⟨vs,H1,I1,r1,q1⟩:=zz30;exact hc pins s1 σ H1 vs us Q I1 r1 q1) he hpl
end
end L2
namespace HT
open PySem PyProof.Rows
section
open PySem.SeqAt
open PySem.AutoSeq1 (wpAny_loadPart')
open PySem.MeetsSeq PySem.MeetsSeq2 PySem.MeetsSeq3
end
section
variable{prog:Program}{w:World}{A:Around}{E:Value→Shared→Prop}{s:Shared}
theorem Zy6{t b:Addr}{vs ws:List Value}{Q:Value→Shared→Prop}(ht:IsTup s.heap t vs.toArray)(hb:IsTup s.heap b ws.toArray)(hv:vs≠[])
  (h1:ws=[]→Q (.ref t) s) (h2:ws≠[]→Q (.ref s.heap.objs.size) {s with heap:=s.heap.push {cls:= .type "tuple",data:= .seq (vs++ws).toArray}})
  (hsz:vs.length+ws.length≤sizeLine):wpAny (model prog w) A (binaryOp .Add (.ref t) (.ref b)) Q E s:=by
 obtain⟨⟨cls,dd,data,sl⟩,ho,hc,n,hd⟩:=id ht
 obtain⟨⟨cls2,dd2,data2,sl2⟩,ho2,hc2,n2,hd2⟩:=id hb
 simp only at hc hd hc2 hd2
 subst hc hd hc2 hd2
 have e:vs.toArray++ws.toArray=(vs++ws).toArray:=by simp
 by_cases hw:ws=[]
 ·exact concat_meets ⟨_,ho,rfl⟩ ⟨_,ho2,rfl⟩ noFill_tuple_add seq_tuple_add PySem.F.slot_tuple_add PySem.F.entry_tuple_add (PySem.F.args_tuple_add_2 _ _)
   (tuple_addW1 t b vs.toArray ws.toArray n n2 dd dd2 sl sl2 (by simpa using hv) (by simp[hw])) ⟨ho,ho2,h1 hw⟩
 ·refine concat_meets ⟨_,ho,rfl⟩ ⟨_,ho2,rfl⟩ noFill_tuple_add seq_tuple_add PySem.F.slot_tuple_add PySem.F.entry_tuple_add (PySem.F.args_tuple_add_2 _ _)
   (tuple_addW2 t b vs.toArray ws.toArray n n2 dd dd2 sl sl2 (by simpa using hv) (by simpa using hw) (by rw[Aj,Aj];exact hsz)) ⟨ho,ho2,?_⟩
  rw[e]
  exact h2 hw
noncomputable def sIx(n d:Nat):Option Int→Nat
 | none=>d
 | some v=>if v<0 then(v+(n:Int)).toNat else min v.toNat n
theorem Y11(n d:Nat)(hd:d≤n)(o:Option Int):sIx n d o≤n:=by
 cases o with
 | none=>exact hd
 | some v=>
  show(if v<0 then(v+(n:Int)).toNat else min v.toNat n)≤n
  by_cases hv:v<0
  ·rw[if_pos hv];omega
  ·rw[if_neg hv];exact Nat.min_le_right _ _
theorem Z86(v:Int)(n d:Nat):(if v<0 then max (v+(n:Int)) 0 else min v (n:Int))=((sIx n d (some v):Nat):Int):=by
 show(if v<0 then max (v+(n:Int)) 0 else min v (n:Int))=(((if v<0 then(v+(n:Int)).toNat else min v.toNat n):Nat):Int)
 by_cases hv:v<0
 ·simp only[if_pos hv];omega
 ·simp only[if_neg hv];omega
theorem Z44(lo hi:Option Int)(n:Nat):Builtin.Slice.sliceAdjust lo hi 1 (n:Int)=(((sIx n 0 lo:Nat):Int),((sIx n n hi:Nat):Int)):=by
 have h1:¬((1:Int)<0):=by omega
 unfold Builtin.Slice.sliceAdjust
 simp only[h1,if_false]
 refine Prod.ext ?_ ?_
 ·cases lo with
  | none=>rfl
  | some v=>exact Z86 v n 0
 ·cases hi with
  | none=>rfl
  | some v=>exact Z86 v n n
theorem Bq(i j:Nat):La (i:Int) (j:Int) 1=j - i:=by
 unfold La
 have h1:(1:Int) >0:=by omega
 simp only[h1,if_true,Int.ediv_one]
 split<;>omega
theorem O0{v:Value}{o:Option Int}{Q:Option Int→Shared→Prop}(p:IsPart v o)(h:Q o s):wpAny (model prog w) A (Builtin.Slice.slicePartIndex v) Q E s:=by
 cases p with
 | none=>exact slicePart_none h
 | int i t=>exact slicePart_int h
theorem Vj{sl:Addr}{vl vu:Value}{lo hi:Option Int}{n:Nat}{Q:Int×Int×Nat→Shared→Prop}(hs:s.heap.IsSliceOf sl vl vu .none)(pl:IsPart vl lo)(pu:IsPart vu hi)
  (h:Q (((sIx n 0 lo:Nat):Int),1,sIx n n hi - sIx n 0 lo) s):wpAny (model prog w) A (Builtin.Slice.sliceApplied (.ref sl) (pure (n:Int))) Q E s:=by
 obtain⟨os,hos,hcs,hds⟩:=id hs
 unfold Builtin.Slice.sliceApplied Builtin.Slice.sliceFields
 refine Aa (Aa (Ib hos hds (x:=vl) rfl (Aa (Ib hos hds (x:=vu) rfl (Aa (Ib hos hds (x:= .none) rfl (Ab ?_)))))))
 refine Aa (slicePart_none ?_)
 show wpAny _ _ (if ((1:Int)==0)=true then _ else _) _ _ s
 rw[if_neg (by decide)]
 refine Aa (O0 pl (Aa (O0 pu (Aa (Ab ?_)))))
 show wpAny _ _ (match Builtin.Slice.sliceAdjust lo hi 1 (n:Int) with | (lo,hi)=>pure (lo,(1:Int),La lo hi 1)) _ _ s
 rw[Z44 lo hi n]
 show wpAny _ _ (pure (((sIx n 0 lo:Nat):Int),(1:Int),La ((sIx n 0 lo:Nat):Int) ((sIx n n hi:Nat):Int) 1)) _ _ s
 rw[Bq]
 exact Ab h
theorem Zg9(xs:Array Value)(i k:Nat):((Ij k).filterMap fun(m:Nat)=>xs[((i:Int)+(m:Int) * 1).toNat]?).toArray=((xs.toList.drop i).take k).toArray:=by
 have e:(fun(m:Nat)=>xs[((i:Int)+(m:Int) * 1).toNat]?)=fun m=>xs[i+m]?:=by
  funext m
  have:((i:Int)+(m:Int) * 1).toNat=i+m:=by omega
  rw[this]
 rw[e]
 have:=pick_run xs i k
 rw[List.filterMap_map] at this
 have e2:((fun x=>xs[x]?) ∘ fun x=>i+x)=fun m=>xs[i+m]?:=rfl
 rw[e2] at this
 rw[this]
theorem So{t sl:Addr}{items:Array Value}{vl vu:Value}{lo hi:Option Int}{Q:Value→Shared→Prop}(ht:IsTup s.heap t items)(hs:s.heap.IsSliceOf sl vl vu .none)(pl:IsPart vl lo)(pu:IsPart vu hi)
  (hw:¬(sIx items.size 0 lo=0∧sIx items.size items.size hi=items.size))
  (h:Q (.ref s.heap.objs.size) {s with heap:=s.heap.push {cls:= .type "tuple",data:= .seq ((items.toList.drop (sIx items.size 0 lo)).take (sIx items.size items.size hi - sIx items.size 0 lo)).toArray}})
  (hsz:items.size≤sizeLine):wpAny (model prog w) A (getItem (.ref t) (.ref sl)) Q E s:=by
 have htake:sizeOk (.seq ((items.toList.drop (sIx items.size 0 lo)).take (sIx items.size items.size hi - sIx items.size 0 lo)).toArray):=by
  show((items.toList.drop (sIx items.size 0 lo)).take (sIx items.size items.size hi - sIx items.size 0 lo)).toArray.size≤sizeLine
  rw[Aj,Ie,Lg,Db]
  omega
 have hj:sIx items.size items.size hi≤items.size:=Y11 _ _ (Nat.le_refl _) hi
 obtain⟨os,hos,hcs,hds⟩:=id hs
 have hTs:s.TypeIs (.ref sl) "slice":=⟨os,hos,hcs⟩
 unfold getItem
 try with_reducible refine Dy ?_
 first | refine Aa (Ab ?_) | skip
 refine Aa (wpAny_sequenceKey ht.typeIs (by decide) ?_)
 refine Aa (Ex (name:=Str.ofString "__getitem__") ht.typeIs Hq
  (Hb Hq ht.typeIs entry_tuple_getitem ?_ (args_tuple_getitem _ _)))
 show wpAny _ _ (Builtin.Tuple.tupleItemsOf (.ref t) >>=_) _ _ s
 refine Aa (tupleItemsOf_ ht ?_)
 refine Aa (Lh hTs ?_)
 rw[if_pos (by decide)]
 refine Aa (Vj hs pl pu ?_)
 have hno:¬((((sIx items.size 0 lo:Nat):Int)==0&&(1:Int)==1&&(sIx items.size items.size hi - sIx items.size 0 lo)==items.size)=true):=by
  intro q
  rw[Bool.and_eq_true,Bool.and_eq_true] at q
  have q1:((sIx items.size 0 lo:Nat):Int)=0:=Iy q.1.1
  have q2:sIx items.size items.size hi - sIx items.size 0 lo=items.size:=Iy q.2
  exact hw ⟨by omega,by omega⟩
 show wpAny _ _ (if (((sIx items.size 0 lo:Nat):Int)==0&&(1:Int)==1&&(sIx items.size items.size hi - sIx items.size 0 lo)==items.size)=true then _ else _) _ _ s
 rw[if_neg hno,Zg9]
 first
  | exact Aa (m:=Li _) (Ho (Ab ⟨_,rfl,Ab h⟩) htake)
  | exact Aa (m:=Li _) (Ho (Aa (Ab (Ab ⟨_,rfl,Ab h⟩))) htake)
  | exact Aa (Aa (m:=Li _) (Ho (Ab (Ab ⟨_,rfl,Ab h⟩)) htake))
  | exact Aa (Aa (m:=Li _) (Ho (Ab ⟨_,rfl,Ab h⟩) htake))
end
end HT
namespace L2
open PySem PySem.Spec PyProof.Rows
abbrev TO:=St→Hp→(Option Int→Hp→Prop)→Prop
def PO(X:Cx)(e:Option Expr)(t:TO):Prop:=
 ∀(pins:List (Addr×Obj)) (s:Shared) (σ:St) (H:Hp) (Q:Option Int→Hp→Prop),Inv X pins σ H s→t σ H Q→
  wpAny (model X.prog X.w) X.A (evalPart e X.env) (fun u s'=>∃o H',Inv X pins σ H' s'∧IsPart u o∧Q o H') X.xe s
def Zt7:TO:=fun _ H Q=>Q none H
def Yb5(t:TE):TO:=fun σ H Q=>t σ H fun x H1=>∃i,x= .int i∧Q (some i) H1
section
variable{X:Cx}{e:Expr}{te:TE}{lo hi:Option Expr}{tl th:TO}{pos p2:Pos}
theorem Zs2:PO X none Zt7:=by
 intro pins s σ H Q I h
 rw[evalPart_none]
 exact Ab ⟨none,H,I,.none,h⟩
theorem Zz8(h:PE X e te):PO X (some e) (Yb5 te):=by
 intro pins s σ H Q I hw
 rw[evalPart_some]
 refine thn (h pins s σ H _ I hw) fun u s1 zz31=>?_
 obtain⟨x,H1,I1,r1,q1⟩:=zz31
 obtain⟨i,rfl,q⟩:=q1
 obtain⟨t,rfl⟩:=r1
 exact⟨some i,H1,I1,.int i t,q⟩
def SlR(X:Cx)(r:V→Option Int→Option Int→Hp→VK→Prop):Prop:=
 ∀(pins:List (Addr×Obj)) (s:Shared) (σ:St) (H:Hp) (x:V) (v vl vu:Value) (lo hi:Option Int) (sl:Addr) (Q:VK),Inv X pins σ H s→RelV x v→s.heap.IsSliceOf sl vl vu .none→IsPart vl lo→IsPart vu hi→r x lo hi H Q→
  ∃T id,typeLookup (.type T) "__getitem__"=pure (some (.builtin id))∧s.TypeIs v T∧wpAny (model X.prog X.w) X.A (getItem v (.ref sl)) (EP X pins σ Q) X.xe s
def tSl(r:V→Option Int→Option Int→Hp→VK→Prop)(te:TE)(tl th:TO):TE:=fun σ H Q=>te σ H fun x H1=>tl σ H1 fun l H2=>th σ H2 fun u H3=>r x l u H3 Q
theorem B6{r:V→Option Int→Option Int→Hp→VK→Prop}(hr:SlR X r)(he:PE X e te)(hl:PO X lo tl)(hu:PO X hi th):PE X (.Subscript e (.Slice lo hi none p2) pos) (tSl r te tl th):=by
 intro pins s σ H Q I h
 refine Subscript_ (thn (he pins s σ H _ I h) fun v s1 zz32=>?_)
 obtain⟨x,H1,I1,r1,q1⟩:=zz32
 refine wpAny_Slice (thn (hl pins s1 σ H1 _ I1 q1) fun vl s2 ⟨l,H2,I2,pl,q2⟩=>thn (hu pins s2 σ H2 _ I2 q2) fun vu s3 zz34=>?_)
 obtain⟨u,H3,I3,pu,q3⟩:=zz34
 rw[evalPart_none]
 refine Ab ?_
 have I4:Inv X pins σ H3 {s3 with heap:=s3.heap.push {cls:= .type "slice",data:= .fields #[vl,vu,.none]}}:=I3.kept (t':=s3.toks) fun b ob q=>Ad _ q
 obtain⟨T,id,hT,ht,hg⟩:=hr pins {s3 with heap:=s3.heap.push {cls:= .type "slice",data:= .fields #[vl,vu,.none]}} σ H3 x v vl vu l u s3.heap.objs.size Q I4 r1 (Heap.IsSliceOf.new ..) pl pu q3
 show wpAny (model X.prog X.w) X.A (subscriptTail e (.Slice lo hi none p2) v (.ref s3.heap.objs.size)) (EP X pins σ Q) X.xe {s3 with heap:=s3.heap.push {cls:= .type "slice",data:= .fields #[vl,vu,.none]}}
 exact tail_any (ops:=[.ref s3.heap.objs.size,v]) ht hT hg (by with_unfolding_all rfl)
noncomputable def cutV(xs:List V)(lo hi:Option Int):List V:=(xs.drop (HT.sIx xs.length 0 lo)).take (HT.sIx xs.length xs.length hi - HT.sIx xs.length 0 lo)
theorem Q9(xs:List V)(lo hi:Option Int):(cutV xs lo hi).length≤xs.length:=by
 unfold cutV
 rw[Ie,Lg]
 omega
def rSlT(K:Ae):V→Option Int→Option Int→Hp→VK→Prop:=fun x lo hi H Q=>∃a xs,x= .ref a∧SqT K H a xs∧
 ¬(HT.sIx xs.length 0 lo=0∧HT.sIx xs.length xs.length hi=xs.length)∧∀p,H p=none→Q (.ref p) (upd H p (.tup (cutV xs lo hi)))
theorem Zp0:SlR X (rSlT X.K):=by
 intro pins s σ H x v vl vu lo hi sl Q I rx hs pl pu h
 obtain⟨a,xs,rfl,hx,hw,q⟩:=h
 cases rx
 obtain⟨its,r,ht,hz⟩:=I.tuple hx
 have hlen:its.toArray.size=xs.length:=by rw[Aj];exact r.length.symm
 refine⟨"tuple",_,Hq.lookup,ht.typeIs,?_⟩
 refine HT.So ht hs pl pu (by rw[hlen];exact hw) ?_ (by rw[hlen];exact hz)
 rw[hlen]
 refine⟨.ref s.heap.objs.size,_,I.laid (t':=s.toks) (o:= .tup (cutV xs lo hi)) (fun b ob q=>Ad _ q) (Nat.le_refl _) ?_,rfl,q _ (I.hok.fresh (Nat.le_refl _))⟩
 exact⟨Nat.le_trans (Q9 xs lo hi) hz,_,(r.drop (HT.sIx xs.length 0 lo)).take (HT.sIx xs.length xs.length hi - HT.sIx xs.length 0 lo),IsTup.new _ _⟩
def Yc5(K:Ae):R2:=fun x y H Q=>∃a b xs ys,x= .ref a∧y= .ref b∧SqT K H a xs∧SqT K H b ys∧xs≠[]∧xs.length+ys.length≤sizeLine∧
 (ys=[]→Q (.ref a) H)∧(ys≠[]→∀p,H p=none→Q (.ref p) (upd H p (.tup (xs++ys))))
theorem Vals.nil_iff{xs:List V}{us:List Value}(r:Vals xs us):us=[]↔xs=[]:=by
 cases r with
 | nil=>simp
 | cons _ _=>simp
theorem Zy8:OpR X (binaryOp .Add) (Yc5 X.K):=by
 intro pins s σ H x y v u Q I rx ry h
 obtain⟨a,b,xs,ys,rfl,rfl,ha,hb,hx,hz,q1,q2⟩:=h
 cases rx
 cases ry
 obtain⟨its,r1,p1,_⟩:=I.tuple ha
 obtain⟨its2,r2,p2,_⟩:=I.tuple hb
 refine HT.Zy6 p1 p2 (fun z=>hx (r1.nil_iff.mp z)) (fun z=>⟨.ref a,H,I,rfl,q1 (r2.nil_iff.mp z)⟩) (fun z=>?_) (by rw[←r1.length,←r2.length];exact hz)
 refine⟨.ref s.heap.objs.size,_,I.laid (t':=s.toks) (o:= .tup (xs++ys)) (fun b ob q=>Ad _ q) (Nat.le_refl _) ?_,rfl,q2 (fun w=>z (r2.nil_iff.mpr w)) _ (I.hok.fresh (Nat.le_refl _))⟩
 exact⟨by rw[Ay];exact hz,_,r1.append r2,IsTup.new _ _⟩
end
noncomputable def ixN(n:Nat)(i:Int):Option Nat:=if 0≤i then(if i<n then some i.toNat else none) else if -(n:Int)≤i then some (i+n).toNat else none
noncomputable def atI{α:Type}(xs:List α)(i:Int):Option α:=(ixN xs.length i).bind fun j=>xs[j]?
theorem Z68{n:Nat}{i:Int}{j:Nat}(h:ixN n i=some j):seqIndex? i n=some j∧j<n∧ -(n:Int)≤i∧i<n:=by
 unfold ixN at h
 by_cases h0:0≤i
 ·rw[if_pos h0] at h
  by_cases h1:i<n
  ·rw[if_pos h1] at h
   have e:i.toNat=j:=Hj h
   exact⟨by rw[seqIndex_of h0 h1,e],by omega,by omega,h1⟩
  ·rw[if_neg h1] at h;cases h
 ·rw[if_neg h0] at h
  by_cases h1:-(n:Int)≤i
  ·rw[if_pos h1] at h
   have e:(i+n).toNat=j:=Hj h
   exact⟨by rw[seqIndex_neg (by omega) h1,e],by omega,h1,by omega⟩
  ·rw[if_neg h1] at h;cases h
theorem Fp{α:Type}{xs:List α}{i:Int}{v:α}(h:atI xs i=some v):∃j,seqIndex? i xs.length=some j∧xs[j]?=some v∧j<xs.length∧ -(xs.length:Int)≤i∧i<xs.length:=by
 unfold atI at h
 cases e:ixN xs.length i with
 | none=>rw[e] at h;cases h
 | some j=>
  rw[e] at h
  obtain⟨h1,h2,h3,h4⟩:=Z68 e
  exact⟨j,h1,h,h2,h3,h4⟩
theorem Yv{α:Type}{xs:List α}{j:Nat}{v:α}(h:xs[j]?=some v):atI xs (j:Int)=some v:=by
 have hj:j<xs.length:=(Af.mp h).1
 have e:ixN xs.length (j:Int)=some j:=by
  unfold ixN
  rw[if_pos (by omega),if_pos (by omega)];simp
 unfold atI;rw[e];exact h
def Z64(b:Expr):Prop:=∀o i,subscripted b false o i=operate [o,i] (getItem o i)
def IxR(X:Cx)(r:R2):Prop:=
 ∀(value slice:Expr) (pins:List (Addr×Obj)) (s:Shared) (σ:St) (H:Hp) (x y:V) (v u:Value) (Q:VK),Inv X pins σ H s→RelV x v→RelV y u→r x y H Q→
  subscripted slice false v u=operate [v,u] (getItem v u)→wpAny (model X.prog X.w) X.A (subscriptTail value slice v u) (EP X pins σ Q) X.xe s
def MtR(X:Cx)(id:String)(r:V→List V→Hp→VK→Prop):Prop:=
 ∀(pins:List (Addr×Obj)) (s:Shared) (σ:St) (H:Hp) (x:V) (xs:List V) (v:Value) (us:List Value) (Q:VK),Inv X pins σ H s→RelV x v→Vals xs us→r x xs H Q→
  wpAny (model X.prog X.w) X.A (call (.builtin id) (v::us)) (EP X pins σ Q) X.xe s
section
variable{X:Cx}{a b:Expr}{ta tb:TE}{pos:Pos}
theorem Yb4{r:R2}(hr:IxR X r)(ha:PE X a ta)(hb:PE X b tb)(hs:Z64 b):PE X (.Subscript a b pos) (tOp r ta tb):=by
 intro pins s σ H Q I h
 exact Subscript_ (binT ha hb I h fun v u s2 x y H2 I2 rx ry q=>hr a b pins s2 σ H2 x y v u Q I2 rx ry q (hs _ _))
def rIxL(K:Ae):R2:=fun x y H Q=>∃p xs i v,x= .ref p∧y= .int i∧SqL K H p xs∧atI xs i=some v∧Q v H
def rIxT(K:Ae):R2:=fun x y H Q=>∃p xs i v,x= .ref p∧y= .int i∧SqT K H p xs∧atI xs i=some v∧Q v H
def rIxS:R2:=fun x y H Q=>∃z i c,x= .str z∧y= .int i∧z.length≤sizeLine∧atI z.cps.toList i=some c∧Q (.str ⟨#[c]⟩) H
theorem Zr6:IxR X (rIxL X.K):=by
 intro value slice pins s σ H x y v u Q I rx ry h hs
 obtain⟨p,xs,i,z,rfl,rfl,hq,he,q⟩:=h
 cases rx
 obtain⟨t,rfl⟩:=ry
 obtain⟨its,r,pl,hz⟩:=I.list hq
 obtain⟨j,h1,h2,h3,h4,h5⟩:=Fp he
 obtain⟨w,ew,rw'⟩:=r.get h2
 have hl:=r.length
 have hn:=Pb
 have fin:EP X pins σ Q w s:=⟨z,H,I,rw',q⟩
 by_cases h0:0≤i
 ·have hj:i.toNat=j:=by
   rw[seqIndex_of h0 h5] at h1
   exact Hj h1
  exact item_listR pl.isList h0 (by omega) (by rw[hj];simpa using ew) fin hs
 ·have hj:(i+(its.toArray.size:Int)).toNat=j:=by
   rw[seqIndex_neg (by omega) h4] at h1
   rw[Aj,←hl]
   exact Hj h1
  exact subscriptTail_builtinR (x:=w) pl.isList.typeIs slot_list_getitem.lookup
   (wpAny_getItem_list_neg (Q:=fun r s'=>r=w∧EP X pins σ Q r s') pl.isList (by omega) (by rw[Aj]<;>omega) (by omega) (by rw[hj];simpa using ew) ⟨rfl,fin⟩) hs
theorem Zo8:IxR X (rIxT X.K):=by
 intro value slice pins s σ H x y v u Q I rx ry h hs
 obtain⟨p,xs,i,z,rfl,rfl,hq,he,q⟩:=h
 cases rx
 obtain⟨t,rfl⟩:=ry
 obtain⟨its,r,pl,hz⟩:=I.tuple hq
 obtain⟨j,h1,h2,h3,h4,h5⟩:=Fp he
 obtain⟨w,ew,rw'⟩:=r.get h2
 have hl:=r.length
 have hn:=Pb
 have fin:EP X pins σ Q w s:=⟨z,H,I,rw',q⟩
 exact subscriptTail_builtinR (x:=w) pl.typeIs slot_tuple_getitem.lookup
  (getItem_tuple (j:=j) (Q:=fun r s'=>r=w∧EP X pins σ Q r s') pl (by omega) (by omega) (by rw[Aj,←hl];exact h1) (by simpa using ew) ⟨rfl,fin⟩) hs
theorem Y19:IxR X rIxS:=by
 intro value slice pins s σ H x y v u Q I rx ry h hs
 obtain⟨z,i,c,rfl,rfl,hz,he,q⟩:=h
 obtain⟨t,rfl⟩:=rx
 obtain⟨t',rfl⟩:=ry
 obtain⟨j,h1,h2,h3,h4,h5⟩:=Fp he
 have hl:z.cps.toList.length=z.length:=by simp[Str.length]
 rw[hl] at h1 h4 h5
 have hn:=Pb
 exact tail_any (typeIs_str s z t) slot_str_getitem.lookup (getItem_str (c:=c) (by
  have e1:decide (i< -(2 ^ 63:Int))=false:=decide_eq_false (by omega)
  have e2:decide (i ≥ 2 ^ 63)=false:=decide_eq_false (by omega)
  rw[e1,e2,Bool.or_false]) (by rw[h1];simpa using h2) ⟨.str ⟨#[c]⟩,H,I.tok _,⟨_,rfl⟩,q⟩) hs
theorem Z01(its:List Value)(n j:Nat)(u:Value):Ig (·.setIfInBounds j u) {cls:= .type "list",data:= .seq its.toArray n}={cls:= .type "list",data:= .seq (its.set j u).toArray n}:=by
 simp[Ig]
theorem Inv.lst{pins:List (Addr×Obj)}{σ:St}{H:Hp}{s:Shared}{p:Addr}{xs:List V}(I:Inv X pins σ H s)(h:H p=some (.lst xs)):
  ∃(its:List Value) (n:Nat),Vals xs its∧s.heap.get? p=some {cls:= .type "list",data:= .seq its.toArray n}∧xs.length≤sizeLine:=by
 obtain⟨z,its,n,r,e⟩:=I.hok p _ h
 exact⟨its,n,r,e,z⟩
theorem Inv.lstUpd{pins:List (Addr×Obj)}{σ:St}{H:Hp}{s:Shared}{p:Addr}{xs ys:List V}{its its':List Value}{n n':Nat}{f:Obj→Obj}(I:Inv X pins σ H s)(h:H p=some (.lst xs))
  (ho:s.heap.get? p=some {cls:= .type "list",data:= .seq its.toArray n}) (hf:f {cls:= .type "list",data:= .seq its.toArray n}={cls:= .type "list",data:= .seq its'.toArray n'}) (r:Vals ys its') (hz:ys.length≤sizeLine) (t:Nat):
  Inv X pins σ (upd H p (.lst ys)) {s with heap:=s.heap.update p f,toks:=t}:=by
 have e:(s.heap.update p f).get? p=some {cls:= .type "list",data:= .seq its'.toArray n'}:=by
  rw[Hm f ho (by rw[hf]<;>rfl),hf]
 refine I.write (x:=p) (e:=p) (by rw[h];trivial) (.inl rfl) (fun b u hb q=>(Hh _ _ (Dm hb)).trans q) ⟨_,e⟩ ?_
 exact⟨hz,its',n',r,e⟩
def Y57:V→V→V→Hp→(Hp→Prop)→Prop:=fun o i v H Q=>∃p xs k j,o= .ref p∧i= .int k∧H p=some (.lst xs)∧ixN xs.length k=some j∧Q (upd H p (.lst (xs.set j v)))
theorem Zl8:PSet X Y57:=by
 intro pins s σ H o i v ov iv u Q I ro ri rv h
 obtain⟨p,xs,k,j,rfl,rfl,hp,hj,q⟩:=h
 cases ro
 obtain⟨t,rfl⟩:=ri
 obtain⟨its,n,r,ho,hz⟩:=I.lst hp
 obtain⟨h1,h2,h3,h4⟩:=Z68 hj
 have hl:=r.length
 have hn:=Pb
 have I':Inv X pins σ (upd H p (.lst (xs.set j v))) {s with heap:=s.heap.update p (Ig (·.setIfInBounds j u))}:=
  I.lstUpd hp ho (Z01 its n j u) (r.set rv j) (by rw[Iw];exact hz) s.toks
 by_cases h0:0≤k
 ·have hk:k.toNat=j:=by
   rw[seqIndex_of h0 h4] at h1
   exact Hj h1
  exact PySem.W.ki_setAt ho h0 (by omega) (by rw[Aj,←hl];exact h4) (by rw[hk];exact⟨_,I',q⟩)
 ·have hk:(k+(its.toArray.size:Int)).toNat=j:=by
   rw[seqIndex_neg (by omega) h3] at h1
   rw[Aj,←hl]
   exact Hj h1
  exact PySem.W.ki_setBack ho (by omega) (by rw[Aj,←hl];exact h3) (by omega) (by rw[hk];exact⟨_,I',q⟩)
theorem Je(lo hi:Option Int)(n:Nat):(sliceBounds lo hi none n).1=((HT.sIx n 0 lo:Nat):Int)∧(sliceBounds lo hi none n).2.1=((HT.sIx n n hi:Nat):Int)∧(sliceBounds lo hi none n).2.2=1:=by
 refine⟨?_,?_,rfl⟩
 ·cases lo with
  | none=>simp[sliceBounds,HT.sIx]
  | some i=>
   simp only[sliceBounds,HT.sIx,Option.getD_none,show(1:Int) >0 by decide,if_true]
   by_cases h:i<0
   ·simp only[h,if_true]<;>omega
   ·simp only[h,if_false]<;>omega
 ·cases hi with
  | none=>simp[sliceBounds,HT.sIx]
  | some i=>
   simp only[sliceBounds,HT.sIx,Option.getD_none,show(1:Int) >0 by decide,if_true]
   by_cases h:i<0
   ·simp only[h,if_true]<;>omega
   ·simp only[h,if_false]<;>omega
theorem Nu(its:List Value)(lo hi:Option Int):slicePick its.toArray lo hi none=((its.drop (HT.sIx its.length 0 lo)).take (HT.sIx its.length its.length hi - HT.sIx its.length 0 lo)).toArray:=by
 obtain⟨h1,h2,h3⟩:=Je lo hi its.toArray.size
 unfold slicePick
 rw[h1,h2,h3]
 simp only[sliceRange_one,pick_run,Aj]<;>rfl
def rSlL(K:Ae):V→Option Int→Option Int→Hp→VK→Prop:=fun x lo hi H Q=>∃a xs,x= .ref a∧SqL K H a xs∧∀p,H p=none→Q (.ref p) (upd H p (.lst (cutV xs lo hi)))
theorem Zz5:SlR X (rSlL X.K):=by
 intro pins s σ H x v vl vu lo hi sl Q I rx hs pl pu h
 obtain⟨a,xs,rfl,hx,q⟩:=h
 cases rx
 obtain⟨its,r,ht,hz⟩:=I.list hx
 have hlen:=r.length
 refine⟨"list",_,slot_list_getitem.lookup,ht.isList.typeIs,?_⟩
 refine wpAny_getItem_list_slice ht.isList hs pl pu .none (by simp) ?_ (by rw[Aj]<;>omega)
 rw[Nu,←hlen]
 refine⟨.ref s.heap.objs.size,_,I.laid (t':=s.toks) (o:= .lst (cutV xs lo hi)) (fun b ob q=>Ad _ q) (Nat.le_refl _) ?_,rfl,q _ (I.hok.fresh (Nat.le_refl _))⟩
 exact⟨Nat.le_trans (Q9 xs lo hi) hz,_,0,(r.drop (HT.sIx xs.length 0 lo)).take (HT.sIx xs.length xs.length hi - HT.sIx xs.length 0 lo),Al _ rfl⟩
noncomputable def Wu:V→Bool
 | .non=>true
 | .bl _=>true
 | .int _=>true
 | .str _=>true
 | _=>false
noncomputable def eqV:V→V→Bool
 | .non,.non=>true
 | .bl a,.bl b=>a==b
 | .bl a,.int b=>(if a then 1 else 0)==b
 | .int a,.bl b=>a==(if b then 1 else 0)
 | .int a,.int b=>a==b
 | .str a,.str b=>a==b
 | _,_=>false
theorem Cb{A:Around}{s:Shared}{y x:V}{u v:Value}(ry:RelV y u)(rx:RelV x v)(fy:Wu y=true)(fx:Wu x=true):Dt A s u v (eqV y x):=by
 cases y with
 | non=>
  cases ry
  cases x with
  | non=>cases rx;exact Dt.same _
  | bl b=>cases rx;exact Dt.none_bool b
  | int b=>obtain⟨t,rfl⟩:=rx;exact Dt.none_int b t
  | str b=>obtain⟨t,rfl⟩:=rx;exact Dt.none_str b t
  | _=>exact absurd (show false=true from fx) Bool.false_ne_true
 | bl a=>
  cases ry
  cases x with
  | non=>cases rx;exact Dt.bool_none a
  | bl b=>cases rx;exact Dt.bool_bool a b
  | int b=>obtain⟨t,rfl⟩:=rx;exact Dt.bool_int a b t
  | str b=>obtain⟨t,rfl⟩:=rx;exact Dt.bool_str a b t
  | _=>exact absurd (show false=true from fx) Bool.false_ne_true
 | int a=>
  obtain⟨t',rfl⟩:=ry
  cases x with
  | non=>cases rx;exact Dt.int_none a t'
  | bl b=>cases rx;exact Dt.int_bool a t' b
  | int b=>obtain⟨t,rfl⟩:=rx;exact Dt.int_int a t' b t
  | str b=>obtain⟨t,rfl⟩:=rx;exact Dt.int_str a t' b t
  | _=>exact absurd (show false=true from fx) Bool.false_ne_true
 | str a=>
  obtain⟨t',rfl⟩:=ry
  cases x with
  | non=>cases rx;exact Dt.str_none a t'
  | bl b=>cases rx;exact Dt.str_bool a t' b
  | int b=>obtain⟨t,rfl⟩:=rx;exact Dt.str_int a t' b t
  | str b=>obtain⟨t,rfl⟩:=rx;exact Dt.str_str a t' b t
  | _=>exact absurd (show false=true from fx) Bool.false_ne_true
 | _=>exact absurd (show false=true from fy) Bool.false_ne_true
noncomputable def eqU(x:V)(u:Value):Bool:=match u with
 | .none=>eqV .non x
 | .bool b=>eqV (.bl b) x
 | .int i _=>eqV (.int i) x
 | .str z _=>eqV (.str z) x
 | _=>false
theorem Zo9{x y:V}{u:Value}(r:RelV y u)(f:Wu y=true):eqU x u=eqV y x:=by
 cases y with
 | non=>cases r;rfl
 | bl b=>cases r;rfl
 | int i=>obtain⟨t,rfl⟩:=r;rfl
 | str z=>obtain⟨t,rfl⟩:=r;rfl
 | _=>exact absurd (show false=true from f) Bool.false_ne_true
theorem Pa{x:V}:∀{xs:List V} {us:List Value},Vals xs us→xs.all Wu=true→us.any (eqU x)=xs.any fun y=>eqV y x
 | _,_,.nil,_=>rfl
 | y::xs,u::us,.cons r t,f=>by
  rw[Hz,Bool.and_eq_true] at f
  rw[Ke,Ke,Zo9 r f.1,Pa t f.2]
theorem S9{A:Around}{s:Shared}{x:V}{v:Value}(rx:RelV x v)(fx:Wu x=true):∀{xs:List V} {us:List Value},Vals xs us→xs.all Wu=true→∀u∈us,Dt A s u v (eqU x u)
 | _,_,.nil,_=>fun u hu=>by cases hu
 | y::xs,u::us,.cons r t,f=>fun u' hu=>by
  rw[Hz,Bool.and_eq_true] at f
  rcases Am.mp hu with rfl | hu
  ·rw[Zo9 r f.1];exact Cb r rx f.1 fx
  ·exact S9 rx fx t f.2 u' hu
noncomputable def inV(x:V)(xs:List V):Bool:=xs.any fun y=>eqV y x
def rIn(K:Ae)(neg:Bool):R2:=fun x y H Q=>∃p xs,y= .ref p∧(SqL K H p xs∨SqT K H p xs)∧Wu x=true∧xs.all Wu=true∧Q (.bl (if neg then !inV x xs else inV x xs)) H
theorem Z45:OpR X (compareOp .In) (rIn X.K false):=by
 intro pins s σ H x y v u Q I rx ry h
 obtain⟨p,xs,rfl,hq,fx,fs,q⟩:=h
 cases ry
 rcases hq with hq | hq
 ·obtain⟨its,r,pl,hz⟩:=I.list hq
  refine SeqAt.in_listAt (eqU x) pl.isList (fun w hw=>S9 rx fx r fs w (by simpa using hw)) ⟨.bl _,H,I,rfl,?_⟩
  rw[show its.toArray.any (eqU x)=its.any (eqU x) by simp,Pa r fs]
  exact q
 ·obtain⟨its,r,pl,hz⟩:=I.tuple hq
  refine SeqAt.in_tupleAt (eqU x) pl (fun w hw=>S9 rx fx r fs w (by simpa using hw)) ⟨.bl _,H,I,rfl,?_⟩
  rw[show its.toArray.any (eqU x)=its.any (eqU x) by simp,Pa r fs]
  exact q
theorem Jr:OpR X (compareOp .NotIn) (rIn X.K true):=by
 intro pins s σ H x y v u Q I rx ry h
 obtain⟨p,xs,rfl,hq,fx,fs,q⟩:=h
 cases ry
 rcases hq with hq | hq
 ·obtain⟨its,r,pl,hz⟩:=I.list hq
  refine SeqAt.notIn_listAt (eqU x) pl.isList (fun w hw=>S9 rx fx r fs w (by simpa using hw)) ⟨.bl _,H,I,rfl,?_⟩
  rw[show its.toArray.any (eqU x)=its.any (eqU x) by simp,Pa r fs]
  exact q
 ·obtain⟨its,r,pl,hz⟩:=I.tuple hq
  refine SeqAt.notIn_tupleAt (eqU x) pl (fun w hw=>S9 rx fx r fs w (by simpa using hw)) ⟨.bl _,H,I,rfl,?_⟩
  rw[show its.toArray.any (eqU x)=its.any (eqU x) by simp,Pa r fs]
  exact q
theorem Rm:W0 X (.builtin "len") (fun xs H Q=>∃p ys,xs=[.ref p]∧(SqL X.K H p ys∨SqT X.K H p ys)∧Q (.int ys.length) H):=by
 intro pins s σ H xs us Q I r h
 obtain⟨p,ys,rfl,hq,q⟩:=h
 obtain⟨u,rfl,rx⟩:=Vl r
 cases rx
 have hn:=Pb
 rcases hq with hq | hq
 ·obtain⟨its,r',pl,hz⟩:=I.list hq
  have hlen:=r'.length
  exact Calls.call_len_list pl.isList (by simp only[Aj]<;>omega) ⟨.int ys.length,H,I.tok _,⟨s.toks+1,by rw[Aj,hlen]⟩,q⟩
 ·obtain⟨its,r',pl,hz⟩:=I.tuple hq
  have hlen:=r'.length
  exact len_tuple pl (by simp only[Aj]<;>omega) ⟨.int ys.length,H,I.tok _,⟨s.toks+1,by rw[Aj,hlen]⟩,q⟩
theorem Fa:W0 X (.builtin "len") (fun xs H Q=>∃z,xs=[.str z]∧z.length≤sizeLine∧Q (.int z.length) H):=by
 intro pins s σ H xs us Q I r h
 obtain⟨z,rfl,hz,q⟩:=h
 obtain⟨u,rfl,t,rfl⟩:=Vl r
 have hn:=Pb
 exact len_str (by omega) ⟨.int z.length,H,I.tok _,⟨_,rfl⟩,q⟩
theorem Gv:W0 X (.type "list") (fun xs H Q=>∃p ys,xs=[.ref p]∧(SqL X.K H p ys∨SqT X.K H p ys)∧∀l,H l=none→Q (.ref l) (upd H l (.lst ys))):=by
 intro pins s σ H xs us Q I r h
 obtain⟨p,ys,rfl,hq,q⟩:=h
 obtain⟨u,rfl,rx⟩:=Vl r
 cases rx
 have fin:∀(its:List Value),Vals ys its→ys.length≤sizeLine→∀(h':Heap) (c':Nat),(∀b o',s.heap.get? b=some o'→h'.get? b=some o')→
   h'.get? s.heap.objs.size=some {cls:= .type "list",dict:=none,data:= .seq its.toArray c',slots:=#[]}→EP X pins σ Q (.ref s.heap.objs.size) {s with heap:=h'}:=fun its r' hz h' c' kp e=>
  ⟨.ref s.heap.objs.size,_,I.laid (t':=s.toks) kp (Nat.le_refl _) (show Xl X.prog X.w _ h' _ (.lst ys) from⟨hz,its,c',r',e⟩),rfl,q _ (I.hok.fresh (Nat.le_refl _))⟩
 rcases hq with hq | hq
 ·obtain⟨its,r',pl,hz⟩:=I.list hq
  have hlen:=r'.length
  obtain⟨o,ho,hc,n,hd⟩:=pl.isList
  exact call_list_seq p (.inl rfl) ho hc hd (fun h' c' kp e=>fin its r' hz h' c' kp e) (by simp only[Aj]<;>omega)
 ·obtain⟨its,r',pl,hz⟩:=I.tuple hq
  have hlen:=r'.length
  obtain⟨o,ho,hc,n,hd⟩:=pl
  exact call_list_seq p (.inr rfl) ho hc hd (fun h' c' kp e=>fin its r' hz h' c' kp e) (by simp only[Aj]<;>omega)
def tyV(K:Ae)(T:String)(x:V)(H:Hp):Prop:=match x with
 | .str _=>T="str"
 | .int _=>T="int"
 | .ref p=>(T="list"∧∃xs,SqL K H p xs)∨(T="tuple"∧∃o,K.lookup p=some o∧o.cls= .type "tuple"∧o.dict=none)∨
   (T="dict"∧((∃kvs,H p=some (.dK kvs))∨∃kvs,H p=some (.dT kvs)))∨(T="set"∧∃S n,H p=some (.set S n))
 | _=>False
theorem Zp1{pins:List (Addr×Obj)}{σ:St}{H:Hp}{s:Shared}{T:String}{x:V}{v:Value}(I:Inv X pins σ H s)(r:RelV x v)(ty:tyV X.K T x H):
  s.TypeIs v T∧∀a,v= .ref a→∃ob,s.heap.get? a=some ob∧ob.dict=none:=by
 cases x with
 | str z=>
  obtain⟨t,rfl⟩:=r
  cases (show T="str" from ty)
  exact⟨typeIs_str s z t,fun _ e=>nomatch e⟩
 | int i=>
  obtain⟨t,rfl⟩:=r
  cases (show T="int" from ty)
  exact⟨typeIs_int s i t,fun _ e=>nomatch e⟩
 | ref p=>
  cases r
  rcases ty with⟨rfl,xs,hq⟩ | ⟨rfl,o,hk,hc,hd⟩ | ⟨rfl,hk⟩ | ⟨rfl,S,n,hk⟩
  ·obtain⟨its,_,pl,_⟩:=I.list hq
   refine⟨pl.isList.typeIs,fun a e=>?_⟩
   cases e
   obtain⟨o,n,e,c,hd,_⟩:=pl
   exact⟨o,e,hd⟩
  ·refine⟨⟨o,I.kIn p o hk,hc⟩,fun a e=>?_⟩
   cases e
   exact⟨o,I.kIn _ o hk,hd⟩
  ·have z:∃o,s.heap.get? p=some o∧o.ExactDict:=by
    rcases hk with⟨kvs,hk⟩ | ⟨kvs,hk⟩
    ·obtain⟨_,_,_,_,o,_,_,e,ex,_⟩:=I.hok p _ hk
     exact⟨o,e,ex⟩
    ·obtain⟨_,_,_,_,o,_,_,e,ex,_⟩:=I.hok p _ hk
     exact⟨o,e,ex⟩
   obtain⟨o,e,ex⟩:=z
   refine⟨⟨o,e,ex.1⟩,fun a e2=>?_⟩
   cases e2
   exact⟨o,e,ex.2.1⟩
  ·obtain⟨o,_,_,_,e,ex,_⟩:=I.hok p _ hk
   refine⟨⟨o,e,ex.1⟩,fun a e2=>?_⟩
   cases e2
   exact⟨o,e,ex.2.1⟩
 | _=>exact Di ty
def tBM0(K:Ae)(T:String)(r:V→List V→Hp→VK→Prop)(to:TE):TE:=fun σ H Q=>to σ H fun x H1=>tyV K T x H1∧r x [] H1 Q
def tBM(K:Ae)(T:String)(r:V→List V→Hp→VK→Prop)(to:TE)(t:TA):TE:=fun σ H Q=>to σ H fun x H1=>tyV K T x H1∧t σ H1 fun xs H2=>r x xs H2 Q
variable{o e:Expr}{es:List Expr}{to:TE}{t:TA}{name:Str}{apos cpos:Pos}{T id:String}{r:V→List V→Hp→VK→Prop}
theorem Y48(pa:PlainAttrs T)(slot:Slot T name id)(hty:typeOf (.builtin id)=pure (.type "method_descriptor"))(hm:MtR X id r)(ho:PE X o to)
  (hbase:attributeBase o name X.env (eval o X.env)=eval o X.env:=by rfl) (hline:(apos.endLine==cpos.line)=true:=by rfl):PE X (.Call (.Attribute o name apos) [] [] cpos) (tBM0 X.K T r to):=by
 intro pins s σ H Q I h
 refine wpAny_Call_method0_late hbase hline (thn (ho pins s σ H _ I h) fun v s1 zz35=>?_)
 obtain⟨x,H1,I1,r1,ty,q1⟩:=zz35
 obtain⟨h1,h2⟩:=Zp1 I1 r1 ty
 exact⟨T,id,pa,slot,hty,h1,h2,Calls.callWith_builtin rfl (PySem.evalArgs_none (hm pins s1 σ H1 x [] v [] Q I1 r1 .nil q1))⟩
theorem Yb7(pa:PlainAttrs T)(slot:Slot T name id)(hty:typeOf (.builtin id)=pure (.type "method_descriptor"))(hm:MtR X id r)(ho:PE X o to)(ha:PA X (e::es) t)
  (hbase:attributeBase o name X.env (eval o X.env)=eval o X.env:=by rfl)
  (hfew:((backTo cpos (starEach (e::es) X.env)).all (fun x=> !x.1)&&(backToKw cpos (keywordEach [] X.env)).all (fun x=>x.1.isSome)
   &&decide ((e::es).length+([]:List Keyword).length+(if ([]:List Keyword).isEmpty then 0 else 1)<30))=true:=by rfl)
  (hline:(apos.endLine==cpos.line)=true:=by rfl) (hs:starEach (e::es) X.env=(false,eval e X.env)::starEach es X.env:=by rfl) (hplain:(backTo cpos (starEach es X.env)).any (·.1)=false:=by rfl):
  PE X (.Call (.Attribute o name apos) (e::es) [] cpos) (tBM X.K T r to t):=by
 intro pins s σ H Q I h
 refine wpAny_Call_method_late hbase hfew hline rfl (thn (ho pins s σ H _ I h) fun v s1 zz36=>?_)
 obtain⟨x,H1,I1,r1,ty,q1⟩:=zz36
 obtain⟨h1,h2⟩:=Zp1 I1 r1 ty
 refine⟨T,id,pa,slot,hty,h1,h2,?_⟩
 have hA:=ha cpos pins s1 σ H1 _ I1 q1
 rw[hs] at hA ⊢
 refine Calls.callWith_builtin (by show(false || (backTo cpos (starEach es X.env)).any (·.1))=false;rw[hplain]<;>rfl) (Calls.evalArgs_plain ?_)
 exact thn hA fun us s2 zz37=>by obtain⟨vs,H2,I2,r2,q2⟩:=zz37;exact hm pins s2 σ H2 x vs v us Q I2 r1 r2 q2
end
def MtM(X:Cx)(id:String)(r:V→List V→Hp→VK→Prop):Prop:=
 ∀(pins:List (Addr×Obj)) (s:Shared) (σ:St) (H:Hp) (x:V) (xs:List V) (v:Value) (us:List Value) (Q:VK),Inv X pins σ H s→RelV x v→Vals xs us→r x xs H Q→
  wpAny (model X.prog X.w) X.A (call (.builtin id) (v::us)) (EP X pins σ Q) X.xe s
theorem Vals.one:∀{x:V} {us:List Value},Vals [x] us→∃u,us=[u]∧RelV x u
 | _,_,.cons r .nil=>⟨_,rfl,r⟩
theorem Vals.two:∀{x y:V} {us:List Value},Vals [x,y] us→∃u v,us=[u,v]∧RelV x u∧RelV y v
 | _,_,_,.cons r (.cons q .nil)=>⟨_,_,rfl,r,q⟩
theorem Vals.zero:∀{us:List Value},Vals [] us→us=[]
 | _,.nil=>rfl
theorem Vals.eraseIdx:∀{xs:List V} {us:List Value} (i:Nat),Vals xs us→Vals (xs.eraseIdx i) (us.eraseIdx i)
 | _,_,_,.nil=> .nil
 | _,_,0,.cons _ t=>t
 | _,_,i+1,.cons r t=> .cons r (Vals.eraseIdx i t)
theorem Vals.reverse{xs:List V}{us:List Value}(h:Vals xs us):Vals xs.reverse us.reverse:=by
 induction h with
 | nil=>exact .nil
 | cons r t ih=>rw[List.reverse_cons,List.reverse_cons];exact Vals.append ih (.cons r .nil)
theorem Vals.rep{xs:List V}{us:List Value}(h:Vals xs us):∀k:Nat,Vals (Dp k xs).flatten (Dp k us).flatten
 | 0=> .nil
 | k+1=>by
  rw[Ix,Ix,Kx,Kx]
  exact Vals.append h (Vals.rep h k)
theorem Jo{α:Type}:∀(l:List α) (i:Nat),(l.eraseIdx i).length≤l.length
 | [],_=>Nat.le_refl _
 | _::_,0=>Nat.le_succ _
 | _::r,i+1=>Nat.succ_le_succ (Jo r i)
theorem Jz(its:List Value):∀(k:Nat) (acc:List Value),
  List.foldl (fun x1 x2=>x1++x2) acc.toArray (Dp k its.toArray)=(acc++(Dp k its).flatten).toArray
 | 0,acc=>by simp
 | k+1,acc=>by
  have e:acc.toArray++its.toArray=(acc++its).toArray:=by simp
  have e2:(acc++its)++(Dp k its).flatten=acc++(Dp (k+1) its).flatten:=by
   rw[Ix,Kx,Hd]
  rw[←e2,←Jz its k (acc++its),←e,Ix,Kt]
section
variable{X:Cx}{pins:List (Addr×Obj)}{σ:St}{H:Hp}{s:Shared}{l b:Addr}{xs ys zs:List V}
theorem Inv.lset{its its':List Value}{n:Nat}{f:Array Value→Array Value}{t':Nat}(I:Inv X pins σ H s)(hH:H l=some (.lst xs))
  (e:s.heap.get? l=some {cls:= .type "list",data:= .seq its.toArray n}) (hf:f its.toArray=its'.toArray) (hv:Vals ys its') (hz:ys.length≤sizeLine):
  Inv X pins σ (upd H l (.lst ys)) {s with heap:=s.heap.update l (Ig f),toks:=t'}:=by
 have q:=PySem.IsL.update e f
 rw[hf] at q
 refine I.write (x:=l) (e:=l) (by rw[hH];exact trivial) (.inl rfl) (fun b' u hb hu=>(Hh s.heap (Ig f) (Dm hb)).trans hu) ⟨_,q⟩ ?_
 exact⟨hz,its',_,hv,q⟩
theorem Inv.lnew{its:List Value}{t':Nat}(I:Inv X pins σ H s)(hv:Vals ys its)(hz:ys.length≤sizeLine):
  Inv X pins σ (upd H s.heap.objs.size (.lst ys)) {s with heap:=s.heap.push {cls:= .type "list",data:= .seq its.toArray},toks:=t'}:=
 I.laid (fun _ _ q=>Ad _ q) (Nat.le_refl _) ⟨hz,its,0,hv,Al _ rfl⟩
theorem Inv.fresh(I:Inv X pins σ H s):H s.heap.objs.size=none:=I.hok.fresh (Nat.le_refl _)
theorem Inv.lstM(I:Inv X pins σ H s)(hH:H l=some (.lst xs)):xs.length≤sizeLine∧∃(its:List Value) (n:Nat),Vals xs its∧xs.length=its.length∧s.heap.get? l=some {cls:= .type "list",data:= .seq its.toArray n}:=by
 obtain⟨z,its,n,r,e⟩:=I.hok l _ hH
 exact⟨z,its,n,r,r.length,e⟩
theorem Zl5{n:Nat}(h:n≤sizeLine):Builtin.List.listTooLong n=false:=by
 unfold Builtin.List.listTooLong
 exact decide_eq_false (by omega)
end
section
variable{X:Cx}
def Zs9:V→List V→Hp→VK→Prop:=fun x vs H Q=>∃l xs y,x= .ref l∧vs=[y]∧H l=some (.lst xs)∧xs.length<sizeLine∧Q .non (upd H l (.lst (xs++[y])))
theorem Qd:MtM X "list.append" Zs9:=by
 intro pins s σ H x vs v us Q I rx rv h
 obtain⟨l,xs,y,rfl,rfl,hH,hz,q⟩:=h
 cases rx
 obtain⟨u,rfl,ru⟩:=rv.one
 obtain⟨z,its,n,r,hl,e⟩:=I.lstM hH
 refine Lb F.slot_list_append ⟨_,e,rfl⟩ F.entry_list_append (F.args_list_append_2 _ _) (PySem.list_append l its.toArray n u (by rw[Aj];omega)) ⟨e,?_⟩
 refine⟨.non,_,I.lset (its':=its++[u]) hH e (by simp) (r.append (.cons ru .nil)) ?_,rfl,q⟩
 rw[Ay,Ly]
 omega
def Y28:V→List V→Hp→VK→Prop:=fun x vs H Q=>∃l xs i k y,x= .ref l∧vs=[.int i]∧H l=some (.lst xs)∧ -(2 ^ 63)≤i∧i<2 ^ 63∧seqIndex? i xs.length=some k∧xs[k]?=some y∧Q y (upd H l (.lst (xs.eraseIdx k)))
theorem Zg5:MtM X "list.pop" Y28:=by
 intro pins s σ H x vs v us Q I rx rv h
 obtain⟨l,xs,i,k,y,rfl,rfl,hH,h1,h2,hk,hy,q⟩:=h
 cases rx
 obtain⟨u,rfl,ru⟩:=rv.one
 obtain⟨t,rfl⟩:=ru
 obtain⟨z,its,n,r,hl,e⟩:=I.lstM hH
 obtain⟨w,hw,rw'⟩:=r.get hy
 refine Lb F.slot_list_pop ⟨_,e,rfl⟩ F.entry_list_pop (F.args_list_pop_2 _ _)
  (MeetsSeq.list_pop_at l its.toArray n i t k w (fitsIndex_both h1 h2) (by rw[Aj,←hl];exact hk) (by rw[←Hn];exact hw) (by rw[Aj];omega)) ⟨e,?_⟩
 refine⟨y,_,I.lset (its':=its.eraseIdx k) hH e ?_ (r.eraseIdx k) ?_,rw',q⟩
 ·show its.toArray.eraseIdxIfInBounds k=(its.eraseIdx k).toArray
  rw[List.eraseIdxIfInBounds_toArray]
 ·have:=Jo xs k
  omega
def Y40:V→List V→Hp→VK→Prop:=fun x vs H Q=>∃l xs,x= .ref l∧vs=[]∧H l=some (.lst xs)∧Q .non (upd H l (.lst []))
theorem Y90:MtM X "list.clear" Y40:=by
 intro pins s σ H x vs v us Q I rx rv h
 obtain⟨l,xs,rfl,rfl,hH,q⟩:=h
 cases rx
 have hus:=rv.zero
 subst hus
 obtain⟨z,its,n,r,hl,e⟩:=I.lstM hH
 refine Lb F.slot_list_clear ⟨_,e,rfl⟩ F.entry_list_clear (F.args_list_clear_1 _) (AutoSeq1.list_clear_list_0 l its.toArray n (by rw[Aj];omega)) ⟨e,?_⟩
 exact⟨.non,_,I.lset (its':=[]) (ys:=[]) hH e rfl .nil (Nat.zero_le _),rfl,q⟩
def rCat:R2:=fun x y H Q=>∃l b xs zs,x= .ref l∧y= .ref b∧H l=some (.lst xs)∧H b=some (.lst zs)∧xs.length+zs.length≤sizeLine∧∀p,H p=none→Q (.ref p) (upd H p (.lst (xs++zs)))
theorem Y83:OpR X (binaryOp .Add) rCat:=by
 intro pins s σ H x y v u Q I rx ry h
 obtain⟨l,b,xs,zs,rfl,rfl,hH,hB,hz,q⟩:=h
 cases rx
 cases ry
 obtain⟨z,its,n,r,hl,e⟩:=I.lstM hH
 obtain⟨z2,its2,n2,r2,hl2,e2⟩:=I.lstM hB
 refine PySem.P.add_list e e2 ?_ (by rw[Aj,Aj];omega)
 have ea:its.toArray++its2.toArray=(its++its2).toArray:=by simp
 rw[ea]
 exact⟨.ref _,_,I.lnew (t':=s.toks) (r.append r2) (by rw[Ay];omega),rfl,q _ I.fresh⟩
def rRep:R2:=fun x y H Q=>∃l k xs,x= .ref l∧y= .int k∧H l=some (.lst xs)∧ -(2 ^ 63)≤k∧k<2 ^ 63∧xs.length * k.toNat≤sizeLine∧
 ∀p,H p=none→Q (.ref p) (upd H p (.lst (Dp k.toNat xs).flatten))
theorem Zx0{α:Type}(xs:List α)(k:Nat):(Dp k xs).flatten.length=k * xs.length:=by
 induction k with
 | zero=>simp
 | succ k ih=>rw[Ix,Kx,Ay,ih,Nat.succ_mul,Nat.add_comm]
theorem Y89:OpR X (binaryOp .Mult) rRep:=by
 intro pins s σ H x y v u Q I rx ry h
 obtain⟨l,k,xs,rfl,rfl,hH,h1,h2,hz,q⟩:=h
 cases rx
 obtain⟨t,rfl⟩:=ry
 obtain⟨z,its,n,r,hl,e⟩:=I.lstM hH
 have hlen:its.toArray.size * k.toNat≤sizeLine:=by rw[Aj,←hl];exact hz
 have hcap:¬its.toArray.size * k.toNat >(2 ^ 63 - 1) / 8:=by
  have:(sizeLine:Nat)≤(2 ^ 63 - 1) / 8:=by decide
  omega
 have hfit:¬(!Builtin.List.listFitsIndex k)=true:=by
  rw[fitsIndex_both h1 h2]
  exact Bool.false_ne_true
 have hlong:¬Builtin.List.listTooLong (its.toArray.size * k.toNat)=true:=by
  rw[Zl5 hlen]
  exact Bool.false_ne_true
 have hnew:List.foldl (fun x1 x2=>x1++x2) #[] (Dp (if its.toArray.isEmpty=true then 0 else k.toNat) its.toArray)=(Dp k.toNat its).flatten.toArray:=by
  have f0:∀m:Nat,List.foldl (fun x1 x2=>x1++x2) #[] (Dp m its.toArray)=(Dp m its).flatten.toArray:=fun m=>by
   have:=Jz its m []
   rw[Ls] at this
   exact this
  rw[f0]
  cases its with
  | nil=>simp
  | cons a r'=>rw[if_neg (by simp)]
 refine wpAny_binaryOp_repeat_ref (T:="list") (U:="int") (by decide) ⟨_,e,rfl⟩ (fun s'=>typeIs_int s' k t) noFill_list_mul F.fills_int_mul F.slot_int_rmul repeat_list F.slot_int_index.lookup
  (Lb F.slot_int_rmul (typeIs_int s k t) F.entry_int_rmul (F.args_int_rmul_2 _ _) (int___rmul___int_list k t l its.toArray n)
   ⟨e,rfl,⟨_,e,rfl⟩,Lb F.slot_list_mul ⟨_,e,rfl⟩ F.entry_list_mul (F.args_list_mul_2 _ _) (AutoListH.list___mul___list_int_3 l its.toArray n k t hfit hcap hlong) ⟨e,?_⟩⟩)
 rw[hnew]
 exact⟨.ref _,_,I.lnew (t':=s.toks) (r.rep k.toNat) (by rw[Zx0,Nat.mul_comm];exact hz),rfl,q _ I.fresh⟩
end
section
variable{prog:Program}{w:World}{A:Around}{E:Value→Shared→Prop}{s:Shared}
set_option maxRecDepth 100000 in
end
section
variable{κ:Type}[DecidableEq κ]
noncomputable def valV(kvs:List (κ×V))(k:κ):Option V:=(kvs.find? fun kv=>decide (kv.1=k)).map (·.2)
noncomputable def putK(kvs:List (κ×V))(k:κ)(v:V):List (κ×V):=
 if (kvs.any fun kv=>decide (kv.1=k))=true then kvs.map (fun kv=>if kv.1=k then(kv.1,v) else kv) else kvs++[(k,v)]
theorem Oz{p:κ×V}{r:List (κ×V)}{k:κ}(e:p.1=k):valV (p::r) k=some p.2:=by simp[valV,Ic,e]
theorem J2{p:κ×V}{r:List (κ×V)}{k:κ}(e:¬p.1=k):valV (p::r) k=valV r k:=by simp[valV,Ic,e]
theorem C7(k:κ):∀kvs:List (κ×V),(kvs.any fun kv=>decide (kv.1=k))=(valV kvs k).isSome
 | []=>rfl
 | p::r=>by
  rw[Ke]
  by_cases e:p.1=k
  ·simp only[Oz e,decide_eq_true e,Bool.true_or,Option.isSome_some]
  ·rw[J2 e,decide_eq_false e,Bool.false_or];exact C7 k r
theorem V7(kvs:List (κ×V))(k:κ)(v:V):(putK kvs k v).length≤kvs.length+1:=by
 unfold putK
 split
 ·rw[Ah];omega
 ·rw[Ay,Dc,List.length_nil];omega
theorem RelO.isSome_eq{o:Option V}{u:Option Value}(r:RelO o u):o.isSome=u.isSome:=by
 cases o with
 | none=>cases u with
  | none=>rfl
  | some _=>exact(show False from r).elim
 | some _=>cases u with
  | none=>exact(show False from r).elim
  | some _=>rfl
theorem KV.val{kvs:List (κ×V)}{vs:List (κ×Value)}(r:KV kvs vs)(k:κ):RelO (valV kvs k) (valueAt vs k):=by
 unfold KV at r
 induction r with
 | nil=>exact Kk
 | @cons p q ps qs h t ih=>
  obtain⟨h1,h2⟩:=h
  by_cases e:p.1=k
  ·have e':q.1=k:=h1.symm.trans e
   have b:valueAt (q::qs) k=some q.2:=by simp[valueAt,Ic,e']
   rw[Oz e,b];exact h2
  ·have e':¬q.1=k:=fun z=>e (h1.trans z)
   have b:valueAt (q::qs) k=valueAt qs k:=by simp[valueAt,Ic,e']
   rw[J2 e,b];exact ih
theorem KV.any{kvs:List (κ×V)}{vs:List (κ×Value)}(r:KV kvs vs)(k:κ):(kvs.any fun kv=>decide (kv.1=k))=vs.any fun kv=>decide (kv.1=k):=by
 unfold KV at r
 induction r with
 | nil=>rfl
 | cons h t ih=>rw[Ke,Ke,ih,h.1]
theorem KV.repl{kvs:List (κ×V)}{vs:List (κ×Value)}(r:KV kvs vs)(k:κ){y:V}{u:Value}(ry:RelV y u):
  KV (kvs.map fun kv=>if kv.1=k then(kv.1,y) else kv) (vs.map fun kv=>if kv.1=k then(kv.1,u) else kv):=by
 unfold KV at r ⊢
 induction r with
 | nil=>exact .nil
 | @cons p q ps qs h t ih=>
  rw[Ch,Ch]
  refine .cons ?_ ih
  obtain⟨h1,h2⟩:=h
  by_cases e:p.1=k
  ·rw[if_pos e,if_pos (h1.symm.trans e)];exact⟨h1,ry⟩
  ·rw[if_neg e,if_neg (fun z=>e (h1.trans z))];exact⟨h1,h2⟩
theorem KV.put{kvs:List (κ×V)}{vs:List (κ×Value)}(r:KV kvs vs)(k:κ){y:V}{u:Value}(ry:RelV y u):KV (putK kvs k y) (stored vs k u):=by
 unfold putK stored
 rw[r.any k]
 by_cases e:(vs.any fun kv=>decide (kv.1=k))=true
 ·rw[if_pos e,if_pos e];exact r.repl k ry
 ·rw[if_neg e,if_neg e];exact Paired.snoc r ⟨rfl,ry⟩
theorem KV.length{kvs:List (κ×V)}{vs:List (κ×Value)}(r:KV kvs vs):kvs.length=vs.length:=Paired.length r
end
theorem Jt{P:Program}{w:World}{k:Key}{u:Value}(r:RelV (kV k) u):(Yk P w).is k u=true:=by
 cases k with
 | inl i=>obtain⟨t,e⟩:=(show ∃t,u=Value.int i t from r);subst e;exact Fk P w i t
 | inr x=>obtain⟨t,e⟩:=(show ∃t,u=Il x t from r);subst e;exact Fj P w x t
theorem Ga{P:Program}{w:World}:∀{ks:List Key} {us:List Value},Vals (ks.map kV) us→ItemsAre (Yk P w) ks us
 | [],_,r=>by rw[List.map_nil] at r;cases r;exact .nil
 | k::ks,_,r=>by
  rw[Ch] at r
  cases r with
  | cons h t=>exact .cons (Jt h) (Ga t)
abbrev KT(H:Hp):List (List Key×V)→List (List Key×Addr×Value)→Prop:=Paired fun p q=>p.1=q.1∧H q.2.1=some (.tup (p.1.map kV))∧RelV p.2 q.2.2
theorem KT.val{H:Hp}{kvs:List (List Key×V)}{xs:List (List Key×Addr×Value)}(r:KT H kvs xs)(k:List Key):RelO (valV kvs k) ((atKey xs k).map (·.2)):=by
 induction r with
 | nil=>exact Kk
 | @cons p q ps qs h t ih=>
  obtain⟨h1,_,h2⟩:=h
  by_cases e:p.1=k
  ·have e':q.1=k:=h1.symm.trans e
   have b:atKey (q::qs) k=some q.2:=by simp[atKey,Ic,e']
   rw[Oz e,b];exact h2
  ·have e':¬q.1=k:=fun z=>e (h1.trans z)
   have b:atKey (q::qs) k=atKey qs k:=by simp[atKey,Ic,e']
   rw[J2 e,b];exact ih
theorem KT.repl{H:Hp}{kvs:List (List Key×V)}{xs:List (List Key×Addr×Value)}(r:KT H kvs xs)(k:List Key){y:V}{u:Value}(ry:RelV y u):
  KT H (kvs.map fun kv=>if kv.1=k then(kv.1,y) else kv) (xs.map (putAt k u)):=by
 induction r with
 | nil=>exact .nil
 | @cons p q ps qs h t ih=>
  rw[Ch,Ch]
  refine .cons ?_ ih
  obtain⟨h1,h2,h3⟩:=h
  unfold putAt
  by_cases e:p.1=k
  ·rw[if_pos e,if_pos (h1.symm.trans e)];exact⟨h1,h2,ry⟩
  ·rw[if_neg e,if_neg (fun z=>e (h1.trans z))];exact⟨h1,h2,h3⟩
theorem KT.put{H:Hp}{kvs:List (List Key×V)}{xs:List (List Key×Addr×Value)}(r:KT H kvs xs)(k:List Key){b:Addr}{y:V}{u:Value}(hb:H b=some (.tup (k.map kV)))(ry:RelV y u):
  KT H (putK kvs k y) (storedH xs k b u):=by
 have e:(kvs.any fun kv=>decide (kv.1=k))=(atKey xs k).isSome:=by
  rw[C7,(r.val k).isSome_eq,Option.isSome_map]
 unfold putK storedH
 rw[e]
 by_cases q:(atKey xs k).isSome=true
 ·rw[if_pos q,if_pos q];exact r.repl k ry
 ·rw[if_neg q,if_neg q];exact Paired.snoc r ⟨rfl,hb,ry⟩
theorem KT.keeps{H H':Hp}{kvs:List (List Key×V)}{xs:List (List Key×Addr×Value)}(r:KT H kvs xs)(ht:∀b ys,H b=some (.tup ys)→H' b=some (.tup ys)):KT H' kvs xs:=
 Paired.mapP r fun _ _ z=>⟨z.1,ht _ _ z.2.1,z.2.2⟩
section
variable{P:Program}{w:World}{H:Hp}{h:Heap}{a:Addr}
theorem Y72{u:HO}(ok:HOk P w H h)(e:Rd H a u):Xl P w H h a u:=e.ok ok
theorem E1{kvs:List (Key×V)}(ok:HOk P w H h)(e:Rd H a (.dK kvs)):kvs.length≤sizeLine∧(a==sysModules)=false∧∃vs,KV kvs vs∧h.DictOf (Yk P w) a vs:=
 show Xl P w H h a (.dK kvs) from Y72 ok e
theorem Zg3{kvs:List (Key×V)}(ok:HOk P w H h)(e:H a=some (.dK kvs)):kvs.length≤sizeLine∧(a==sysModules)=false∧∃vs,KV kvs vs∧h.DictOf (Yk P w) a vs:=E1 ok (.inl e)
theorem Gf{ks:List Key}(ok:HOk P w H h)(e:H a=some (.tup (ks.map kV))):(tupleKind (Yk P w)).is h ks a:=by
 obtain⟨_,its,r,o,h1,h2,n,h3⟩:=(show Xl P w H h a (.tup (ks.map kV)) from ok a _ e)
 exact⟨o,its.toArray,n,h1,h2,h3,by simpa using Ga r⟩
theorem Z65{kvs:List (List Key×V)}(ok:HOk P w H h)(e:Rd H a (.dT kvs)):kvs.length≤sizeLine∧(a==sysModules)=false∧
  ∃xs,KT H kvs xs∧h.DictOfH (tupleKind (Yk P w)) a xs:=by
 obtain⟨z,y,xs,r,o,es,ep,h1,h2,h3,h4,h5⟩:=(show Xl P w H h a (.dT kvs) from Y72 ok e)
 refine⟨z,y,xs,r,o,es,ep,h1,h2,h3,h4,fun x hx=>?_,h5⟩
 have all:∀{l:List (List Key×V)} {m:List (List Key×Addr×Value)},KT H l m→∀x∈m,(tupleKind (Yk P w)).is h x.1 x.2.1:=by
  intro l m q
  induction q with
  | nil=>intro x hx;exact nomatch hx
  | @cons p q ps qs hq t ih=>
   intro x hx
   rcases Am.mp hx with e | hx
   ·subst e
    exact Gf ok (by rw[←hq.1];exact hq.2.1)
   ·exact ih x hx
 exact all r x hx
theorem Yc1{kvs:List (List Key×V)}(ok:HOk P w H h)(e:H a=some (.dT kvs)):kvs.length≤sizeLine∧(a==sysModules)=false∧
  ∃xs,KT H kvs xs∧h.DictOfH (tupleKind (Yk P w)) a xs:=Z65 ok (.inl e)
end
def DGet(H:Hp)(a:Addr)(y:V)(r:Option V):Prop:=
 (∃kvs k,Rd H a (.dK kvs)∧y=kV k∧r=valV kvs k)∨∃kvs k b,Rd H a (.dT kvs)∧y= .ref b∧H b=some (.tup (k.map kV))∧r=valV kvs k
def DPut(H:Hp)(a:Addr)(y v:V)(H':Hp):Prop:=
 (∃kvs k,H a=some (.dK kvs)∧y=kV k∧kvs.length<sizeLine∧H'=upd H a (.dK (putK kvs k v)))∨
 ∃kvs k b,H a=some (.dT kvs)∧y= .ref b∧H b=some (.tup (k.map kV))∧kvs.length<sizeLine∧H'=upd H a (.dT (putK kvs k v))
theorem DGet.k{H:Hp}{a:Addr}{kvs:List (Key×V)}{k:Key}(e:H a=some (.dK kvs)):DGet H a (kV k) (valV kvs k):= .inl ⟨kvs,k,.inl e,rfl,rfl⟩
theorem DGet.t{H:Hp}{a b:Addr}{kvs:List (List Key×V)}{k:List Key}(e:H a=some (.dT kvs))(eb:H b=some (.tup (k.map kV))):DGet H a (.ref b) (valV kvs k):= .inr ⟨kvs,k,b,.inl e,rfl,eb,rfl⟩
theorem DPut.k{H:Hp}{a:Addr}{kvs:List (Key×V)}{k:Key}{v:V}(e:H a=some (.dK kvs))(hl:kvs.length<sizeLine):DPut H a (kV k) v (upd H a (.dK (putK kvs k v))):= .inl ⟨kvs,k,e,rfl,hl,rfl⟩
theorem DPut.t{H:Hp}{a b:Addr}{kvs:List (List Key×V)}{k:List Key}{v:V}(e:H a=some (.dT kvs))(eb:H b=some (.tup (k.map kV)))(hl:kvs.length<sizeLine):
  DPut H a (.ref b) v (upd H a (.dT (putK kvs k v))):= .inr ⟨kvs,k,b,e,rfl,eb,hl,rfl⟩
section
variable{X:Cx}{pins:List (Addr×Obj)}{σ:St}{H:Hp}{s:Shared}{a:Addr}{y v:V}{u r:Value}{o:Option V}{A:Around}{E:Value→Shared→Prop}
theorem Inv.big(I:Inv X pins σ H s):sysModules<s.heap.objs.size:=by
 have h:mainGlobals<s.heap.objs.size:=(I.mod.glob.keeps I.bk).lt
 exact Nat.lt_trans (by decide) h
theorem Zb7{Q:Value→Shared→Prop}(hu:A.units+1<cLine)(I:Inv X pins σ H s)(g:DGet H a y (some v))(ry:RelV y u)(h:∀w' s',Inv X pins σ H s'→RelV v w'→Q w' s'):
  wpAny (model X.prog X.w) A (getItem (.ref a) u) Q E s:=by
 rcases g with⟨kvs,k,e,ey,l⟩ | ⟨kvs,k,b,e,ey,eb,l⟩
 ·subst ey
  obtain⟨z,hd,vs,rel,dd⟩:=E1 I.hok e
  obtain⟨w',hw,rw'⟩:=RelO.some_of (v:=v) (o:=valueAt vs k) (by rw[l];exact rel.val k)
  exact wpAny_getItem_of (Jt ry) dd.mapOf hw (h w' _ (I.tok _) rw')
 ·subst ey
  cases (show u=An b from ry)
  obtain⟨z,hd,xs,rel,dd⟩:=Z65 I.hok e
  obtain⟨w',hw,rw'⟩:=RelO.some_of (v:=v) (o:=(atKey xs k).map (·.2)) (by rw[l];exact rel.val k)
  obtain⟨p,hp,hp2⟩:=Hw.mp hw
  refine wpAny_getItem_heap (tupleKind_room_in1 hu) (Gf I.hok eb) dd hp ?_
  rw[hp2]
  exact h w' _ (I.tok _) rw'
theorem d_in{Q:Value→Shared→Prop}(hu:A.units+1<cLine)(I:Inv X pins σ H s)(g:DGet H a y o)(ry:RelV y u)(h:∀s',Inv X pins σ H s'→Q (.bool o.isSome) s'):
  wpAny (model X.prog X.w) A (compareOp .In u (.ref a)) Q E s:=by
 rcases g with⟨kvs,k,e,ey,l⟩ | ⟨kvs,k,b,e,ey,eb,l⟩
 ·subst ey
  obtain⟨z,hd,vs,rel,dd⟩:=E1 I.hok e
  refine wpAny_in_of (Jt ry) hd dd.mapOf ?_
  rw[←(rel.val k).isSome_eq,←l]
  exact h _ (I.tok _)
 ·subst ey
  cases (show u=An b from ry)
  obtain⟨z,hd,xs,rel,dd⟩:=Z65 I.hok e
  refine wpAny_in_heap (tupleKind_room_in1 hu) (Gf I.hok eb) hd dd ?_
  have q:=(rel.val k).isSome_eq
  rw[Option.isSome_map] at q
  rw[←q,←l]
  exact h _ (I.tok _)
theorem Zr7{Q:Value→Shared→Prop}(hu:A.units+1<cLine)(I:Inv X pins σ H s)(g:DGet H a y o)(ry:RelV y u)(h:∀s',Inv X pins σ H s'→Q (.bool (!o.isSome)) s'):
  wpAny (model X.prog X.w) A (compareOp .NotIn u (.ref a)) Q E s:=by
 rcases g with⟨kvs,k,e,ey,l⟩ | ⟨kvs,k,b,e,ey,eb,l⟩
 ·subst ey
  obtain⟨z,hd,vs,rel,dd⟩:=E1 I.hok e
  refine wpAny_notIn_of (Jt ry) hd dd.mapOf ?_
  rw[←(rel.val k).isSome_eq,←l]
  exact h _ (I.tok _)
 ·subst ey
  cases (show u=An b from ry)
  obtain⟨z,hd,xs,rel,dd⟩:=Z65 I.hok e
  refine wpAny_notIn_heap (tupleKind_room_in1 hu) (Gf I.hok eb) hd dd ?_
  have q:=(rel.val k).isSome_eq
  rw[Option.isSome_map] at q
  rw[←q,←l]
  exact h _ (I.tok _)
theorem Ed{h':Heap}{t':Nat}{ob:HO}(I:Inv X pins σ H s)(mu:Mut (H a))(hs:Dn a s.heap h')(he:∃q,h'.get? a=some q)(new:Xl X.prog X.w (upd H a ob) h' a ob):
  Inv X pins σ (upd H a ob) {s with heap:=h',toks:=t'}:=
 I.write (x:=a) (e:=a) mu (.inl rfl) (fun b q hb z=>(hs.2 b hb).trans z) he new
theorem Cv{P:Program}{w:World}{H':Hp}{h':Heap}{kvs:List (Key×V)}{vs:List (Key×Value)}(z:kvs.length≤sizeLine)(hd:(a==sysModules)=false)(rel:KV kvs vs)(dd:h'.DictOf (Yk P w) a vs):
  Xl P w H' h' a (.dK kvs):=⟨z,hd,vs,rel,dd⟩
theorem Z56{H':Hp}{Q:Unit→Shared→Prop}(hu:A.units+1<cLine)(I:Inv X pins σ H s)(g:DPut H a y v H')(ry:RelV y u)(rv:RelV v r)(h:∀s',Inv X pins σ H' s'→Q () s'):
  wpAny (model X.prog X.w) A (setItem (.ref a) u r) Q E s:=by
 rcases g with⟨kvs,k,e,ey,l,eH⟩ | ⟨kvs,k,b,e,ey,eb,l,eH⟩
 ·subst ey eH
  obtain⟨z,hd,vs,rel,dd⟩:=Zg3 I.hok e
  have hz:vs.length≤sizeLine:=by rw[←rel.length];exact z
  have hl:(putK kvs k v).length≤sizeLine:=by have:=V7 kvs k v;omega
  refine wpAny_setItem_pairs (hsz:=hz) (Jt ry) dd fun h' dd' hs=>h _ ?_
  have he:∃q,h'.get? a=some q:=by obtain⟨q,_,_,hq,_⟩:=dd';exact⟨q,hq⟩
  exact Ed I (by rw[e];exact Kk) hs he (Cv hl hd (rel.put k rv) dd')
 ·subst ey eH
  cases (show u=An b from ry)
  obtain⟨z,hd,xs,rel,dd⟩:=Yc1 I.hok e
  have hz:xs.length≤sizeLine:=by rw[←Paired.length rel];exact z
  have hl:(putK kvs k v).length≤sizeLine:=by have:=V7 kvs k v;omega
  refine wpAny_setItem_heap (hsz:=hz) (tupleKind_room_in1 hu) (Gf I.hok eb) dd fun h' dd' hs=>h _ ?_
  obtain⟨q,es,ep,hq,h2,h3,h4,_,h5⟩:=dd'
  refine Ed I (by rw[e];exact Kk) hs ⟨q,hq⟩ ⟨hl,hd,_,(rel.put k eb rv).keeps fun c ys ec=>?_,q,es,ep,hq,h2,h3,h4,h5⟩
  rw[Zw (Y94 ec e (fun z=>nomatch z))]
  exact ec
end
section
variable{X:Cx}{pins:List (Addr×Obj)}{σ:St}{H:Hp}{s:Shared}{a:Addr}{kvs:List (Key×V)}{k:Key}{u:Value}{A:Around}{E:Value→Shared→Prop}
theorem Yc2{Q:Value→Shared→Prop}(I:Inv X pins σ H s)(e:Rd H a (.dK kvs))(h:∀t s',Inv X pins σ H s'→Q (.int kvs.length t) s'):wpAny (model X.prog X.w) A (call (.builtin "len") [.ref a]) Q E s:=by
 obtain⟨z,hd,vs,rel,dd⟩:=E1 I.hok e
 refine call_len_dict hd dd (by rw[←rel.length];rw[Hv] at z;omega) ?_
 rw[←rel.length]
 exact h _ _ (I.tok _)
end
theorem E6{X:Cx}{pins:List (Addr×Obj)}{σ:St}{H:Hp}{s:Shared}{a:Addr}{y:V}{o:Option V}(I:Inv X pins σ H s)(g:DGet H a y o):s.TypeIs (.ref a) "dict":=by
 rcases g with⟨kvs,k,e,_,_⟩ | ⟨kvs,k,b,e,_,_,_⟩
 ·obtain⟨_,_,vs,_,dd⟩:=E1 I.hok e
  exact dd.typeIs
 ·obtain⟨_,_,xs,_,dd⟩:=Z65 I.hok e
  exact dd.typeIs
theorem Zk2{P:Program}{w:World}{H:Hp}(h:Heap)(hb:sysModules<h.objs.size):Xl P w H (h.push {cls:= .type "dict",data:= .dict #[]}) h.objs.size (.dK []):=
 ⟨Nat.zero_le _,beq_eq_false_iff_ne.mpr (Dm (Nat.ne_of_lt hb)),[],.nil,Heap.DictOf.new h⟩
def Ek:List (TE×TE)→St→Hp→(List (V×V)→Hp→Prop)→Prop
 | [],_,H,Q=>Q [] H
 |(tk,tv)::r,σ,H,Q=>tk σ H fun x H1=>tv σ H1 fun y H2=>Ek r σ H2 fun ps H3=>Q ((x,y)::ps) H3
abbrev VV:List (V×V)→List (Value×Value)→Prop:=Paired fun p q=>RelV p.1 q.1∧RelV p.2 q.2
def PPs(X:Cx)(pos:Pos)(keys:List (Option Expr))(values:List Expr)(trs:List (TE×TE)):Prop:=
 ∀(pins:List (Addr×Obj)) (s:Shared) (σ:St) (H:Hp) (Q:List (V×V)→Hp→Prop),Inv X pins σ H s→Ek trs σ H Q→
  wpAny (model X.prog X.w) X.A (evalPairs (pairTrees keys values X.env pos)) (fun vs s'=>∃ps H',Inv X pins σ H' s'∧VV ps vs∧Q ps H') X.xe s
theorem Z73{X:Cx}{pos:Pos}:PPs X pos [] [] []:=fun pins s σ H Q I h=>pairTrees_nil_walk ⟨[],H,I,.nil,h⟩
theorem C5{X:Cx}{pos:Pos}{k v:Expr}{ks:List (Option Expr)}{vs:List Expr}{tk tv:TE}{trs:List (TE×TE)}(hk:PE X k tk)(hv:PE X v tv)(hr:PPs X pos ks vs trs):
  PPs X pos (some k::ks) (v::vs) ((tk,tv)::trs):=fun pins s σ H Q I h=>
 pairTrees_cons_walk (thn (hk pins s σ H _ I h) fun u s1 ⟨x,H1,I1,rx,q1⟩=>thn (hv pins s1 σ H1 _ I1 q1) fun w2 s2 ⟨y,H2,I2,ry,q2⟩=>
  thn (hr pins s2 σ H2 _ I2 q2) fun ws s3 zz38=>by obtain⟨ps,H3,I3,rel,q3⟩:=zz38;exact⟨(x,y)::ps,H3,I3,.cons ⟨rx,ry⟩ rel,q3⟩)
noncomputable def S8(kvs more:List (Key×V)):List (Key×V):=more.foldl (fun acc kv=>putK acc kv.1 kv.2) kvs
theorem KV.merge:∀{more:List (Key×V)} {rs:List (Key×Value)} {kvs:List (Key×V)} {vs:List (Key×Value)},KV more rs→KV kvs vs→KV (S8 kvs more) (merged vs rs):=by
 intro more rs kvs vs r
 unfold KV at r
 induction r generalizing kvs vs with
 | nil=>intro q;exact q
 | @cons p q ps qs h t ih=>
  intro r0
  have e:KV (putK kvs p.1 p.2) (stored vs q.1 q.2):=by
   have:=r0.put p.1 h.2
   rw[←h.1];exact this
  exact ih e
theorem Sb:∀(more kvs:List (Key×V)),(S8 kvs more).length≤kvs.length+more.length
 | [],kvs=>by show kvs.length≤kvs.length+0;omega
 | p::r,kvs=>by
  have h1:=Sb r (putK kvs p.1 p.2)
  have h2:=V7 kvs p.1 p.2
  show(S8 (putK kvs p.1 p.2) r).length≤_
  rw[Dc];omega
theorem O6{P:Program}{w:World}:∀{kvs:List (Key×V)} {ws:List (Value×Value)},VV (kvs.map fun kv=>(kV kv.1,kv.2)) ws→∃rs,Carries (Yk P w) ws rs∧KV kvs rs
 | [],_,r=>by rw[List.map_nil] at r;cases r;exact⟨[],Kk,.nil⟩
 | p::kvs,_,r=>by
  rw[Ch] at r
  cases r with
  | @cons a b as bs h t=>
   obtain⟨rs,c,q⟩:=O6 (P:=P) (w:=w) t
   obtain⟨b1,b2⟩:=b
   exact⟨(p.1,b2)::rs,⟨Jt h.1,rfl,c⟩,.cons ⟨rfl,h.2⟩ q⟩
def Yc6(trs:List (TE×TE)):TE:=fun σ H Q=>∀p,H p=none→Ek trs σ (upd H p (.dK [])) fun ps H2=>H2 p=some (.dK [])∧∃kvs:List (Key×V),ps=kvs.map (fun kv=>(kV kv.1,kv.2))∧kvs.length≤15∧Q (.ref p) (upd H2 p (.dK (S8 [] kvs)))
theorem Z61{X:Cx}{pos:Pos}{keys:List (Option Expr)}{values:List Expr}{trs:List (TE×TE)}(h:PPs X pos keys values trs)(hall:keys.all (·.isSome)=true)(hl:keys.length=values.length)(h0:keys≠[])
  (h15:keys.length≤15):PE X (.Dict keys values pos) (Yc6 trs):=by
 intro pins s σ H Q I q
 have hn:=I.hok.fresh (Nat.le_refl s.heap.objs.size)
 have I1:=I.laid (a:=s.heap.objs.size) (o:= .dK []) (h':=s.heap.push {cls:= .type "dict",data:= .dict #[]}) (t':=s.toks) (fun _ _ q=>Ad _ q) (Nat.le_refl _) (Zk2 s.heap I.big)
 refine wpAny_Dict_walk (knd:=Yk X.prog X.w) hall hl h0 h15 (thn (h pins _ σ _ _ I1 (q _ hn)) fun ws s2 zz39=>?_)
 obtain⟨ps,H2,I2,rel,e,kvs,ep,lk,q2⟩:=zz39
 subst ep
 obtain⟨rs,c,rk⟩:=O6 (P:=X.prog) (w:=X.w) rel
 obtain⟨z,hd,vs0,r0,dd⟩:=Zg3 I2.hok e
 cases r0
 refine⟨rs,c,dd,fun h' dd' hs=>⟨.ref s.heap.objs.size,_,?_,rfl,q2⟩⟩
 have hz:(S8 [] kvs).length≤sizeLine:=by
  have h1:=Sb kvs []
  rw[List.length_nil] at h1
  rw[Hv];omega
 have he:∃q,h'.get? s.heap.objs.size=some q:=by obtain⟨q,_,_,hq,_⟩:=dd';exact⟨q,hq⟩
 exact Ed I2 (by rw[e];exact Kk) hs he (Cv hz hd (rk.merge .nil) dd')
structure M1(X:Cx)(o:Expr)(m:Str)(apos:Pos)(e:Expr)(cpos:Pos):Prop where
 base:attributeBase o m X.env (eval o X.env)=eval o X.env
 few:((backTo cpos (starEach [e] X.env)).all (fun x=> !x.1)&&(backToKw cpos (keywordEach [] X.env)).all (fun x=>x.1.isSome)
  &&decide (([e]:List Expr).length+([]:List Keyword).length+(if ([]:List Keyword).isEmpty then 0 else 1)<30))=true
 line:(apos.endLine==cpos.line)=true
 trees:backTo cpos (starEach [e] X.env)=[(false,eval e X.env)]
structure M2(X:Cx)(o:Expr)(m:Str)(apos:Pos)(e f:Expr)(cpos:Pos):Prop where
 base:attributeBase o m X.env (eval o X.env)=eval o X.env
 few:((backTo cpos (starEach [e,f] X.env)).all (fun x=> !x.1)&&(backToKw cpos (keywordEach [] X.env)).all (fun x=>x.1.isSome)
  &&decide (([e,f]:List Expr).length+([]:List Keyword).length+(if ([]:List Keyword).isEmpty then 0 else 1)<30))=true
 line:(apos.endLine==cpos.line)=true
 trees:backTo cpos (starEach [e,f] X.env)=[(false,eval e X.env),(false,eval f X.env)]
section
variable{X:Cx}{pins:List (Addr×Obj)}{σ:St}{H:Hp}{s:Shared}{a:Addr}{kvs:List (Key×V)}{A:Around}{E:Value→Shared→Prop}
theorem Zj7{Q:Value→Shared→Prop}(I:Inv X pins σ H s)(e:Rd H a (.dK kvs))(h:∀p s',H p=none→Inv X pins σ (upd H p (.dK kvs)) s'→Q (.ref p) s'):wpAny (model X.prog X.w) A (call (.type "dict") [.ref a]) Q E s:=by
 obtain⟨z,hd,vs,rel,dd⟩:=E1 I.hok e
 refine kt_call_dict hd dd (by rw[←rel.length];exact z) fun h' dd' hs=>?_
 refine h _ _ (I.hok.fresh (Nat.le_refl _)) (I.laid (a:=s.heap.objs.size) (o:= .dK kvs) (t':=s.toks) (fun b q hq=>?_) (Nat.le_refl _) (Cv z (beq_eq_false_iff_ne.mpr (Dm (Nat.ne_of_lt I.big))) rel dd'))
 exact(hs.2 b (Nat.ne_of_lt (Ai hq))).trans (Ad _ hq)
end
end L2
namespace Att
open PySem PySem.W PySem.Calls PyProof.Rows
theorem Qe{P:Params}{h:Heap}:∀(ns:List Int) (vs:List Value),WellAll P h vs (ns.map WData.int)→IntsAre vs ns:=by
 intro ns
 induction ns with
 | nil=>
  intro vs w
  rw[List.map_nil] at w
  cases w
  exact .nil
 | cons n ns ih=>
  intro vs w
  rw[Ch] at w
  cases w with
  | cons a b=>
   cases a
   exact .cons _ _ (ih _ b)
theorem script_of{l:OpenLaw}{n:Nat}(hn:l.most=some n){P:Params}{h:Heap}{args:List WData}{vals:List Value}
  (hpre:l.row.toRowW.claim.pre args=true) (hwl:WellAll P h vals args):
  ∃a vs ns,vals=[An a]∧args=[WData.list (ns.map WData.int)]∧h.get? a=some {cls:= .type "list",data:= .seq vs.toArray}∧IntsAre vs ns∧ns.length≤n:=by
 have hsh:WShape.hasAll [] args [.list .int]=true:=(pre_splitW hpre).1
 have hc:l.pre.holds [] {args:=args}=true:=(pre_splitW hpre).2
 obtain⟨d,r,rfl,h1,h2⟩:=hasAllW_cons hsh
 obtain rfl:=hasAllW_nil h2
 obtain⟨xs,rfl,h3⟩:=hasW_list h1
 obtain⟨ns,rfl⟩:=items_int h3
 have hlen:ns.length≤n:=by
  unfold OpenLaw.pre at hc
  have h4:(WTm.not (.lt (.lit (.int (n:Int))) (.len (.arg 0)))).holds [] {args:=[.list (ns.map .int)]}=true:=by
   have h4:=(holds_andW hc).1
   rw[hn] at h4
   exact h4
  have h5:=condW_of h4 (w_not (w_lt w_lit (w_len_list (w_arg rfl))))
  rw[Ah] at h5
  refine Nat.le_of_not_lt fun q=>?_
  have q':(n:Int)< ((ns.length:Nat):Int):=by omega
  first
   |(rw[decide_eq_true q'] at h5;exact absurd h5 (by decide))
   |(simp at h5;omega)
 cases hwl with
 | cons w1 w2=>
  cases w2
  cases w1 with
  | list ho hall=>exact⟨_,_,ns,rfl,rfl,ho,Qe ns _ hall,hlen⟩
theorem post_true(l:OpenLaw)(args:List WData):l.row.toRowW.claim.post args (.bool true) args=true:=
 postW_of (r:=l.row.toRowW) (X:=(true==true))
  (show WShape.has [] (.bool true) .bool=true by first | rfl | decide | simp[WShape.has,WShape.arms,WShape.armsAll])
  (show(WTm.eq .res (.lit (.bool true))).value [] {args:=args,res:=some (.bool true),after:=args}=some (.bool (true==true)) from w_eq_bool (w_res rfl) w_lit) rfl
end Att
namespace L2
open PySem PySem.Spec PyProof.Rows
theorem Vs:∀{vs:List Value} {ns:List Int},IntsAre vs ns→Vals (ns.map V.int) vs
 | _,_,.nil=> .nil
 | _,_,.cons n t h=> .cons ⟨t,rfl⟩ (Vs h)
def Only(H:Hp):Prop:=∀b,H b=none∨∃o xs,H b=some (.frz o (.lst xs))
theorem Zj9{P:Program}{w:World}{K:Ae}{mg mb:Str→Option Value}{CX:CXT}{k:Nat}{fa a:Addr}{fd:FuncData}{x:Str}{sp:Sp}{s₁:Shared}{vs:List Value}{ns:List Int}
  (KX:K.In s₁.heap) (hns:s₁.heap.Ns mainGlobals mg) (hb:s₁.heap.Ns builtinsNs mb) (hbb:∀x:Str,x≠"__name__"→mb x=bootBuiltins x) (hlim:s₁.heap.NoLimit) (hg:s₁.gens=#[])
  (ha:s₁.heap.get? a=some {cls:= .type "list",data:= .seq vs.toArray}) (hi:IntsAre vs ns) (hl:ns.length≤sizeLine) (hr:Room k callerA)
  (F:∀base:Heap,K.In base→base.Ns mainGlobals mg→FnOk P w K mg base CX k fa fd [x] sp) (hbind:∀(s:Shared) (u:Value),BindsTo s fd ⟨[u],[]⟩ [(x,u)])
  (hsp:∀H:Hp,Only H→SqL K H a (ns.map V.int)→sp [.ref a] H (fun v _=>v= .bl true) fun _ _ _=>False)
  (hCX:∀H e s',CX [] H s₁ (fun _ _ _=>False) e s'→False):
  codeAny (model P w) callerA (.call (.ref fa) ⟨[.ref a],[]⟩) (fun r s'=>r= .ok (.ret (.bool true))∧OldK s₁.heap s'.heap∧s'.os=s₁.os∧AllBare s'.gens) s₁:=by
 have rv:=Vs hi
 have lenV:=hi.length
 have core:∀H:Hp,Only H→SqL K H a (ns.map V.int)→HOk P w H s₁.heap→(∀b,H b≠none→b=a)→(H a≠none→K.lookup a=none)→
   codeAny (model P w) callerA (.call (.ref fa) ⟨[.ref a],[]⟩) (fun r s'=>r= .ok (.ret (.bool true))∧OldK s₁.heap s'.heap∧s'.os=s₁.os∧AllBare s'.gens) s₁:=by
  intro H hO hS hok hA hK
  have base_of:∀{b:Addr} {o:Obj},s₁.heap.get? b=some o→H b=none→(hidT s₁.heap H).get? b=some o:=fun e n=>Zm9 e n
  have noA:∀{b:Addr} {o:Obj} {es:Array DictEntry} {ep:Nat},s₁.heap.get? b=some o→o.data= .dict es ep→H b=none:=fun{b o es ep} e d=>by
   cases q:H b with
   | none=>rfl
   | some u=>
    have e':b=a:=hA b (by rw[q];simp)
    subst e'
    rw[ha] at e;cases e
    have d':Data.seq vs.toArray _=Data.dict es ep:=d
    cases d'
  have nsK:∀{b:Addr} {m:Str→Option Value},s₁.heap.Ns b m→(hidT s₁.heap H).Ns b m:=fun{b m} zz40=>by obtain⟨o,es,ep,e,d,r⟩:=zz40;exact⟨o,es,ep,base_of e (noA e d),d,r⟩
  have hKb:K.In (hidT s₁.heap H):=fun b o e=>base_of (KX b o e) (by
   cases q:H b with
   | none=>rfl
   | some u=>
    have e':b=a:=hA b (by rw[q];simp)
    subst e'
    rw[hK (by rw[q];simp)] at e;cases e)
  have hM:Mod K mg (hidT s₁.heap H):=⟨hKb,nsK hns,⟨mb,nsK hb,hbb⟩,let ⟨mc,h1,h2⟩:=hlim;⟨mc,nsK h1,h2⟩⟩
  have e0:Env0 P w K mg (hidT s₁.heap H) callerA [] s₁ H:=⟨rfl,hM,fun b o e=>Zt8 e,Nat.le_of_eq (Ze6 _ _),trivial,fun b hb=>absurd (show b∈([]:List Addr) from hb) (by simp),hok,.of_eq hg⟩
  refine Lf ((F _ hKb (nsK hns)).run callerA [] s₁ H ⟨[.ref a],[]⟩ [.ref a] [.ref a] _ _ hr e0 (hbind s₁ (.ref a)) (.cons rfl .nil) (hsp H hO hS)) fun r s' h=>?_
  cases r with
  | error e=>exact(hCX H e s' h).elim
  | ok fl=>
   cases fl with
   | next=>exact Di h
   | brk=>exact Di h
   | cont=>exact Di h
   | ret u=>
    obtain⟨v,H',os,bare,un,hok',r',q⟩:=h
    have q':v= .bl true:=q
    subst q'
    obtain rfl:u=Lq true:=r'
    refine⟨rfl,OldK.of_keep fun b o e=>?_,os,bare⟩
    cases q:H b with
    | none=>exact un.keep b o e q (by intro z;exact absurd (show b∈([]:List Addr) from z) (by simp)) (by simp)
    | some u=>
     rcases hO b with z | ⟨ob,xs,z⟩
     ·rw[q] at z;cases z
     ·have z2:=un.frzs b ob _ z
      obtain⟨e1,_⟩:=hok b _ z
      obtain⟨e2,_⟩:=hok' b _ z2
      rw[e] at e1;cases e1
      exact e2
 cases hk:K.lookup a with
 | some o=>
  have e:=KX a o hk
  rw[ha] at e
  cases e
  refine core (fun _=>none) (fun _=> .inl rfl) (.inr ⟨_,vs.toArray,_,hk,rfl,rfl,rfl,by rw[Aj,lenV];exact hl,by simpa using rv⟩) (fun b u z=>by have z':(none:Option HO)=some u:=z;cases z') (fun b z=>absurd rfl z) fun z=>absurd rfl z
 | none=>
  refine core (fun b=>if b=a then some (.frz {cls:= .type "list",data:= .seq vs.toArray} (.lst (ns.map V.int))) else none) (fun b=>?_) (.inl (.inr ⟨{cls:= .type "list",data:= .seq vs.toArray},if_pos rfl⟩)) (fun b u z=>?_) (fun b z=>?_) fun _=>hk
  ·by_cases hb:b=a
   ·exact .inr ⟨_,_,if_pos hb⟩
   ·exact .inl (if_neg hb)
  ·by_cases hb:b=a
   ·have z':=(if_pos hb).symm.trans z
    cases z'
    subst hb
    exact⟨ha,by rw[Ah];exact hl,vs,_,rv,ha⟩
   ·have z':=(if_neg hb).symm.trans z
    cases z'
  ·by_cases hb:b=a
   ·exact hb
   ·exact absurd (if_neg hb) z
end L2
/- THE LAST THEOREM (shape;LID,My.* are yours):
  My.Adr:a structure of the addresses that your layer names (classes,functions);My.Txt K t:a structure (Prop) of the equations over K;
  My.txt_mk:{K} {implicit addresses ..} (e1:nsIn K mainGlobals "law"=some (some (.ref f))) (e2:K.lookup f=some ⟨oc,od,.func (fnOf "law" "law" params body scope dV kV doc pm an cdv ct),sl⟩) (e3:codeIn K cdv "law"=true) ..:∃t,My.Txt K t
set_option maxRecDepth 100000 in
set_option maxHeartbeats 0 in
theorem PySem.Challenge.cw_LID_holds : PySem.Challenge.rw_LID.Holds := by
 w_on;o_law;k_head;(case hw=>w_witness2)
 k_fill
 refine L2.walk_of (l:=PySem.Challenge.rw_LID) (n:=63) (k:=40) (x:="script") (CX:=fun w=> ..) (sp:=fun _=>My.sp_law) rfl (by decide) rfl ⟨rfl,by decide,by decide⟩ (fun w h Y=>PySem.W.kIn_of Y) ?F ?S ?C
 case F=>
  intro w mg fa h KX G hmg
  have T:∃t,My.Txt (L2.KOf KX) t:=by
   dsimp only[L2.KOf] -- K must stand as «<heap const>w.params» for k_is
   refine' My.txt_mk ?e1 ?e2 ?e3 ..
   (case e1=>PySem.W.k_is) -- in the order:a name ->its address ->its object ->its parts
   (case e2=>PySem.W.k_is)
   ..
  obtain⟨t,T⟩:=T
  have e0:=hmg.symm.trans (Ao KX G T.law)
  cases e0 -- fa is the law's own address
  exact⟨_,fun s u=> .of_eq rfl,fun base kb nb=>My.law_fn T kb nb⟩ -- if «.of_eq rfl» comes too early:refine' ⟨_,?b,fun base kb nb=>My.law_fn T kb nb⟩;exact fun s u=> .of_eq rfl
 case S=>exact fun w H a ns hl hO hS=> ..
 case C=>exact ..
(the tactic k_is has no namespace:write k_is) -/
namespace L2
open PySem PySem.Spec PyProof.Rows
noncomputable def Zf(s:Stmt):Arguments:=match s with
 | .FunctionDef _ a _ _ _ _ _ _ _ _=>a
 | _=>{posonlyargs:=[],args:=[],vararg:=none,kwonlyargs:=[],kw_defaults:=[],kwarg:=none,defaults:=[]}
noncomputable def Z4(s:Stmt):List Stmt:=match s with
 | .FunctionDef _ _ b _ _ _ _ _ _ _=>b
 | _=>[]
noncomputable def Z1(s:Stmt):Scope:=match s with
 | .FunctionDef _ _ _ _ _ _ sc _ _ _=>sc
 | _=>{kind:= .function,names:=[],isGenerator:=false,isCoroutine:=false}
noncomputable abbrev CX0:CXT:=fun _ _ _ _ _ _=>False
abbrev E0:XK:=fun _ _ _=>False
structure Fun(K:Ae)(x qual:Str)(st:Stmt)(f:Addr)(fd:FuncData):Prop where
 ex:∃(oc:Value) (od:Option Addr) (dV kV doc pm:Value) (an:Option Addr) (cdv ct:Value) (osl:Array (Option Value)),
  fd=As x qual (Zf st) (Z4 st) (Z1 st) dV kV doc pm an cdv ct∧K.lookup f=some ⟨oc,od,.func fd,osl⟩∧Ar K cdv qual=true
 kp:Ac K (.ref f)=true
section
variable{P:Program}{w:World}{K:Ae}{mg:Str→Option Value}{base:Heap}
theorem Fun.ok{x qual:Str}{st:Stmt}{f:Addr}{fd:FuncData}{N ps:List Str}{k:Nat}{sp:Sp}(F:Fun K x qual st f fd)(S:FnScope N ps (Z1 st))(len:∀vs H Q E,sp vs H Q E→vs.length=ps.length)
  (hbody:∀(cdv:Value) (A:Around) (outer:List Env) (s:Shared) (H:Hp) (vs:List V) (Q:VK) (E:XK),Room k (A.deeper (envOfC qual (Z1 st) s.heap.objs.size f cdv))→sp vs H Q E→
   ∃t,PSs (cxOf CX0 P w K mg base N qual (Z1 st) f cdv A outer s H E).nox (Z4 st) t∧t {nx:=fun _ H'=>Q .non H',rt:=Q} (start N vs) H):FnOk P w K mg base CX0 (k+1) f fd ps sp:=by
 obtain⟨oc,od,dV,kV,doc,pm,an,cdv,ct,osl,rfl,lk,hcd⟩:=F.ex
 refine Yb6 lk hcd S len fun A outer s H vs Q E hr hsp=>?_
 obtain⟨t,h,q⟩:=hbody cdv A outer s H vs Q E hr hsp
 exact⟨t,h.nox,q⟩
theorem Zs{x qual:Str}{st:Stmt}{f:Addr}{oc:Value}{od an:Option Addr}{osl:Array (Option Value)}{dV kV doc pm cdv ct:Value}(l:K.lookup f=some ⟨oc,od,.func (As x qual (Zf st) (Z4 st) (Z1 st) dV kV doc pm an cdv ct),osl⟩)
  (c:Ar K cdv qual=true) (k:Ac K (.ref f)=true):Fun K x qual st f (As x qual (Zf st) (Z4 st) (Z1 st) dV kV doc pm an cdv ct):=⟨⟨oc,od,dV,kV,doc,pm,an,cdv,ct,osl,rfl,l,c⟩,k⟩
end
def Same(H H':Hp):Prop:=∀b o,H b=some o→H' b=some o
theorem Same.refl(H:Hp):Same H H:=fun _ _ h=>h
theorem Same.trans{H H1 H2:Hp}(a:Same H H1)(b:Same H1 H2):Same H H2:=fun c o h=>b c o (a c o h)
section
variable{X:Cx}
theorem Zb9:W0 X (.builtin "len") (fun xs H Q=>∃a kvs,xs=[V.ref a]∧H a=some (.dK kvs)∧Q (.int kvs.length) H):=by
 intro pins s σ H xs us Q I r h
 obtain⟨a,kvs,rfl,ha,q⟩:=h
 obtain⟨u,rfl,ru⟩:=Vl r
 cases ru
 exact Yc2 I (.inl ha) fun t s' I'=>⟨.int kvs.length,H,I',⟨t,rfl⟩,q⟩
end
end L2
namespace L3
open PySem PySem.Spec PyProof.Rows L2
def Bits(n:Nat)(x:Int):Prop:=x.natAbs<2 ^ n
theorem V0{m n:Nat}(h:m<2 ^ n)(hn:0<n):m.log2<n:=by
 rcases Nat.eq_zero_or_pos m with h0 | h0
 ·rw[h0];exact hn
 ·exact(Nat.log2_lt (Nat.ne_of_gt h0)).mpr h
section
variable{X:Cx}
def Z72(_ j:Int):Prop:=j≠0∧j.natAbs.log2<9000
theorem Zl1:OpR X (binaryOp .FloorDiv) (rI Z72 fun i j=> .int (i.fdiv j)):=opI fun _ _ _ _ _ _ _ hc q=>floordiv_int hc.1 q (.inl (PyProof.noPylong_of_log2 hc.2))
theorem Zr9:OpR X (binaryOp .Mult) (rI IntMulOk fun i j=> .int (i * j)):=opI fun _ _ _ _ _ _ _ hc q=>mul_int q hc
def rIsB(K:Ae):List V→Hp→VK→Prop:=fun xs H Q=>∃x n t b,xs=[x,.ty n]∧TyOf K H x t∧Kh K t (.type n)=some b∧Q (.bl b) H
theorem Zh4:W0 X (.builtin "isinstance") (rIsB X.K):=by
 intro pins s σ H xs us Q I r h
 obtain⟨x,n,t,b,rfl,ty,e,q⟩:=h
 obtain⟨u,v,rfl,ru,rv⟩:=Gr r
 obtain rfl:v=Au n:=rv
 exact Zc6 I ru ty e fun tk=>⟨.bl b,H,I.tok tk,rfl,q⟩
end
mutual
def Rep(K:Ae)(H:Hp):PyData→V→Prop
 | .none,v=>v= .non
 | .bool b,v=>v= .bl b
 | .int i,v=>v= .int i
 | .str x,v=>v= .str x
 | .list ds,v=>∃a xs,v= .ref a∧SqL K H a xs∧Wz K H ds xs
 | .tuple ds,v=>∃a xs,v= .ref a∧SqT K H a xs∧Wz K H ds xs
 | .dict _,_=>False
def Wz(K:Ae)(H:Hp):List PyData→List V→Prop
 | [],xs=>xs=[]
 | d::ds,xs=>∃v vs,xs=v::vs∧Rep K H d v∧Wz K H ds vs
end
section
variable{X:Cx}{pins:List (Addr×Obj)}{σ:L2.St}{H:Hp}{s:Shared}
mutual
theorem Rep.reads(I:Inv X pins σ H s):∀(d:PyData) (v:V) (u:Value),Rep X.K H d v→RelV v u→∃as,Reads s.heap u d as
 | .none,v,u,h,r=>by
  unfold Rep at h;subst h
  cases (show u=Kb from r)
  exact⟨[],.none⟩
 | .bool b,v,u,h,r=>by
  unfold Rep at h;subst h
  cases (show u=Lq b from r)
  exact⟨[],.bool b⟩
 | .int i,v,u,h,r=>by
  unfold Rep at h;subst h
  obtain⟨t,rfl⟩:=(show ∃t,u=Value.int i t from r)
  exact⟨[],.int i t⟩
 | .str x,v,u,h,r=>by
  unfold Rep at h;subst h
  obtain⟨t,rfl⟩:=(show ∃t,u=Il x t from r)
  exact⟨[],.str x t⟩
 | .list ds,v,u,h,r=>by
  unfold Rep at h
  obtain⟨a,xs,rfl,hq,ha⟩:=h
  cases (show u=An a from r)
  obtain⟨its,rv,⟨o,n,h1,h2,_,h4⟩,_⟩:=I.list hq
  obtain⟨as,hr⟩:=Wz.reads I ds xs its ha rv
  exact⟨_,.list h1 h2 h4 hr⟩
 | .tuple ds,v,u,h,r=>by
  unfold Rep at h
  obtain⟨a,xs,rfl,hq,ha⟩:=h
  cases (show u=An a from r)
  obtain⟨its,rv,⟨o,h1,h2,n,h4⟩,_⟩:=I.tuple hq
  obtain⟨as,hr⟩:=Wz.reads I ds xs its ha rv
  exact⟨_,.tuple h1 h2 h4 hr⟩
 | .dict kvs,v,u,h,r=>by
  unfold Rep at h
  exact h.elim
theorem Wz.reads(I:Inv X pins σ H s):∀(ds:List PyData) (xs:List V) (us:List Value),Wz X.K H ds xs→Vals xs us→∃as,ReadsAll s.heap us ds as
 | [],xs,us,h,r=>by
  unfold Wz at h;subst h
  cases r
  exact⟨[],.nil⟩
 | d::ds,xs,us,h,r=>by
  unfold Wz at h
  obtain⟨v,vs,rfl,h1,h2⟩:=h
  cases r with
  | cons r1 r2=>
   obtain⟨as,q1⟩:=Rep.reads I d v _ h1 r1
   obtain⟨bs,q2⟩:=Wz.reads I ds vs _ h2 r2
   exact⟨_,.cons q1 q2⟩
end
end
section
variable{X:Cx}
def rEqD(K:Ae)(neg:Bool):R2:=fun x y H Q=>∃da db,Rep K H da x∧Rep K H db y∧da.canLay0=true∧db.canLay0=true∧min da.depth db.depth≤60∧Q (.bl (if neg then !PyData.eqv da db else PyData.eqv da db)) H
theorem Y37(hu:X.A.units+64<cLine):OpR X (compareOp .Eq) (rEqD X.K false):=by
 intro pins s σ H x y v u Q I rx ry h
 obtain⟨da,db,h1,h2,h3,h4,h5,q⟩:=h
 obtain⟨as,q1⟩:=Rep.reads I da x v h1 rx
 obtain⟨bs,q2⟩:=Rep.reads I db y u h2 ry
 exact PySem.SeqAt.compareEq_reads q1 q2 h3 h4 (by omega) ⟨.bl _,H,I,rfl,q⟩
end
end L3
namespace L3
open PySem PySem.W PySem.Calls PyProof.Rows L2
noncomputable def bigN:Nat:=1048576
theorem Qp:∀(ns:List Int) (i:Int),i∈ns→WData.weight (.int i)≤WData.weightAll (ns.map WData.int)
 | [],_,h=>nomatch h
 | n::r,i,h=>by
  rw[Ch]
  have e:WData.weightAll (WData.int n::r.map WData.int)=WData.weight (.int n)+1+WData.weightAll (r.map WData.int):=by simp[WData.weightAll]
  rw[e]
  rcases Am.mp h with q | q
  ·subst q;omega
  ·have:=Qp r i q;omega
theorem Pc{ns:List Int}(h:WData.layableAll [WData.list (ns.map WData.int)]=true):∀i∈ns,Bits bigN i:=by
 intro i hi
 have h1:WData.layable (WData.list (ns.map WData.int))=true:=by simpa[WData.layableAll] using h
 unfold WData.layable at h1
 rw[Bool.and_eq_true] at h1
 have h2:WData.weight (WData.list (ns.map WData.int))≤2 ^ 20:=of_decide_eq_true h1.2
 have h3:WData.weight (WData.list (ns.map WData.int))=WData.weightAll (ns.map WData.int):=by simp[WData.weight]
 have h4:=Qp ns i hi
 have h5:WData.weight (.int i)=if i==0 then 0 else i.natAbs.log2+1:=by simp[WData.weight]
 unfold Bits bigN
 by_cases h0:i=0
 ·subst h0;exact Nat.two_pow_pos _
 ·have hb:(i==0)=false:=by simpa using h0
  rw[hb] at h5
  have h6:i.natAbs.log2<1048576:=by
   have:(2:Nat) ^ 20=1048576:=by decide
   simp only[Bool.false_eq_true,if_false] at h5
   omega
  exact(Nat.log2_lt (by omega)).mp h6
theorem G9{l:OpenLaw}{n:Nat}{q:Program}{loose:List Str}{XP:(Str→Option Value)→Heap→Prop}{YP:World→Heap→Prop}{d:DefRec}(hn:l.most=some n)(hdf:d.params.defaults=[])
  (call:∀(w:World) (s₀ s₁:Shared) (mg mb:Str→Option Value) (fa:Addr) (o:Obj) (pm cd doc:Value) (a:Addr) (vs:List Value) (ns:List Int),
   Ground q loose [] XP w s₀ mg mb s₁.heap→YP w s₁.heap→mg d.name=some (.ref fa)→
   s₁.heap.get? a=some {cls:= .type "list",data:= .seq vs.toArray}→IntsAre vs ns→ns.length≤n→(∀i∈ns,Bits bigN i)→s₁.gens=#[]→
   codeAny (model l.prog w) callerA (.call (.ref fa) ⟨[.ref a],[]⟩) (fun r s'=>r= .ok (.ret (.bool true))∧OldK s₁.heap s'.heap∧s'.os=s₁.os∧AllBare s'.gens) s₁):
  WalkO q loose XP YP l.row.toRowW d [] (fun f vs=>PySem.call f vs):=by
 intro w s₀ s₁ mg mb G Y fa o pm cd doc dV kV ho hd hcd hD hmg hg args vals as hpre hlay hrd hwl hlo
 obtain⟨a,vs,ns,rfl,rfl,hobj,hints,hlen⟩:=Att.script_of hn hpre hwl
 refine enter_call (Lf (call w s₀ s₁ mg mb fa o pm cd doc a vs ns G Y hmg hobj hints hlen (Pc hlay) hg) fun r s' hq=>?_)
 obtain⟨rfl,h2,h3,h4⟩:=hq
 exact⟨.inl ⟨.bool true,.bool true,[],rfl,fun _=>rfl,.bool true,Att.post_true l _,fun _=>⟨List.Pairwise.nil,fun _ hm=>(nomatch hm)⟩⟩,h2,h3,h4⟩
theorem Y17{l:PySem.W.OpenLaw}{n k:Nat}{q:Program}{loose:List Str}{XP:(Str→Option Value)→Heap→Prop}{YP:World→Heap→Prop}{d:DefRec}{K:Params→Ae}{CX:World→CXT}{sp:World→Sp}{x:Str}
  (hn:l.most=some n) (hn2:n≤sizeLine) (hdf:d.params.defaults=[]) (hr:Room k callerA) (hY:∀(w:World) (h:Heap),YP w h→(K w.params).In h)
  (F:∀(w:World) (mg:Str→Option Value) (fa:Addr) (h:Heap),(K w.params).In h→h.Ns mainGlobals mg→mg d.name=some (.ref fa)→
   ∃fd:FuncData,(∀(s:Shared) (u:Value),BindsTo s fd ⟨[u],[]⟩ [(x,u)])∧∀base:Heap,(K w.params).In base→base.Ns mainGlobals mg→FnOk l.prog w (K w.params) mg base (CX w) k fa fd [x] (sp w))
  (hsp:∀(w:World) (H:Hp) (a:Addr) (ns:List Int),ns.length≤n→(∀i∈ns,Bits bigN i)→Only H→SqL (K w.params) H a (ns.map V.int)→sp w [.ref a] H (fun v _=>v= .bl true) fun _ _ _=>False)
  (hCX:∀(w:World) (H:Hp) (s:Shared) (e:Value) (s':Shared),CX w [] H s (fun _ _ _=>False) e s'→False):
  PySem.W.WalkO q loose XP YP l.row.toRowW d [] (fun f vs=>PySem.call f vs):=by
 refine G9 hn hdf fun w s₀ s₁ mg mb fa o pm cd doc a vs ns G Y hmg hobj hints hlen hbits hg=>?_
 have KX:=hY w _ Y
 obtain⟨fd,hb,hF⟩:=F w mg fa _ KX G.T.g hmg
 exact Zj9 KX G.T.g G.T.b G.T.builtins G.T.nolimit hg hobj hints (Nat.le_trans hlen hn2) hr hF hb (fun H hO hS=>hsp w H a ns hlen hbits hO hS) fun H e s'=>hCX w H s₁ e s'
end L3
namespace L3
open PySem
section
variable{P:Program}{w:World}{A:Around}{R:Result→Shared→Prop}{s:Shared}{elt tg iter c:Expr}{scope:Scope}{pos:Pos}{it acc:Value}{env:Env}
abbrev noE:Value→Shared→Prop:=fun _ _=>False
theorem Z30(I:Nat→Shared→Prop)
  (turn:∀n s,I n s→wpAny (model P w) A (pyNext it) (fun r s1=>match r with
   | none=>R (.ok .next) s1
   | some v=>wpAny (model P w) A (letOwnedTupleGo tg it v) (fun _ s2=>wpAny (model P w) A (assign tg env v) (fun _ s3=>wpAny (model P w) A (eval elt env) (fun x s4=>
     wpAny (model P w) A (call (.builtin "list.append") [acc,x]) (fun _ s5=>∃m,m<n∧I m s5) noE s4) noE s3) noE s2) noE s1) noE s)
  (n:Nat) (h:I n s):codeAny (model P w) A (.compLoop (.ListComp elt [⟨tg,iter,[],0⟩] scope pos) 0 it acc env) R s:=by
 refine codeAny_loop rfl I (fun m z hI=>?_) n h
 show wpAny _ A ((compTurn (.ListComp elt [⟨tg,iter,[],0⟩] scope pos) 0 it acc env).onRaise fun x=>do noteFrame x env;theTreesLotGoes x) _ _ z
 refine wpAny_noted ?_
 rw[compTurn_list1]
 refine Aa (wpAny_standAt (Aa (Hl (turn m z hI) (fun r s1 h1=>?_) fun _ _ f=>f.elim)))
 cases r with
 | none=>exact Ab h1
 | some v=>
  refine Aa (Hl h1 (fun _ s2 h2=>?_) fun _ _ f=>f.elim)
  refine Aa (Hl h2 (fun _ s3 h3=>?_) fun _ _ f=>f.elim)
  refine Aa (Aa (Hl h3 (fun x s4 h4=>?_) fun _ _ f=>f.elim))
  exact Aa (Hl h4 (fun _ s5 h5=>Ab (Ab ⟨rfl,h5⟩)) fun _ _ f=>f.elim)
theorem Z03(I:Nat→Shared→Prop)
  (turn:∀n s,I n s→wpAny (model P w) A (pyNext it) (fun r s1=>match r with
   | none=>R (.ok .next) s1
   | some v=>wpAny (model P w) A (letOwnedTupleGo tg it v) (fun _ s2=>wpAny (model P w) A (assign tg env v) (fun _ s3=>wpAny (model P w) A (isTrue c env (eval c env)) (fun ok s4=>
     if ok=true then wpAny (model P w) A (eval elt env) (fun x s5=>wpAny (model P w) A (call (.builtin "list.append") [acc,x]) (fun _ s6=>∃m,m<n∧I m s6) noE s5) noE s4
     else ∃m,m<n∧I m s4) noE s3) noE s2) noE s1) noE s)
  (n:Nat) (h:I n s):codeAny (model P w) A (.compLoop (.ListComp elt [⟨tg,iter,[c],0⟩] scope pos) 0 it acc env) R s:=by
 refine codeAny_loop rfl I (fun m z hI=>?_) n h
 show wpAny _ A ((compTurn (.ListComp elt [⟨tg,iter,[c],0⟩] scope pos) 0 it acc env).onRaise fun x=>do noteFrame x env;theTreesLotGoes x) _ _ z
 refine wpAny_noted ?_
 rw[compTurn_list]
 refine Aa (wpAny_standAt (Aa (Hl (turn m z hI) (fun r s1 h1=>?_) fun _ _ f=>f.elim)))
 cases r with
 | none=>exact Ab h1
 | some v=>
  refine Aa (Hl h1 (fun _ s2 h2=>?_) fun _ _ f=>f.elim)
  refine Aa (Hl h2 (fun _ s3 h3=>?_) fun _ _ f=>f.elim)
  refine Aa (wpAny_tests_one (Hl h3 (fun ok s4 h4=>?_) fun _ _ f=>f.elim))
  cases ok with
  | false=>exact Ab ⟨rfl,h4⟩
  | true=>
   refine Aa (Aa (Hl h4 (fun x s5 h5=>?_) fun _ _ f=>f.elim))
   exact Aa (Hl h5 (fun _ s6 h6=>Ab (Ab ⟨rfl,h6⟩)) fun _ _ f=>f.elim)
end
theorem R0{env:Env}:∀(names:List (Str×NameKind)) (acc:List (Str×Addr)),(∀n,(n,Df)∈names→∃c,env.cells.lookup n=some c)→
  (∀x c,acc.lookup x=some c→env.cells.lookup x=some c)→
  ∃cl,(forIn names acc fun(x:Str×NameKind) (cs:List (Str×Addr))=>match x with
   |(name,kind)=>if (kind==Df)=true then do let c ←cellOf env name;pure (ForInStep.yield ((name,c)::cs)) else pure (ForInStep.yield cs):Sem (List (Str×Addr)))=pure cl∧
   (∀x c,cl.lookup x=some c→env.cells.lookup x=some c)∧(∀n,(n,Df)∈names→∃c,cl.lookup n=some c)∧∀x c,acc.lookup x=some c→∃c',cl.lookup x=some c'
 | [],acc,_,ha=>⟨acc,rfl,ha,(fun _ h=>nomatch h),fun x c e=>⟨c,e⟩⟩
 |(n,k)::r,acc,hn,ha=>by
  by_cases hk:k= .free
  ·subst hk
   obtain⟨c,hc⟩:=hn n Bs
   obtain⟨cl,e,h1,h2,h3⟩:=R0 r ((n,c)::acc) (fun m hm=>hn m (Az _ hm)) (fun x d hx=>by
    rw[Hx] at hx
    cases q:x==n with
    | true=>rw[q] at hx;cases hx;rw[Iy q];exact hc
    | false=>rw[q] at hx;exact ha x d hx)
   refine⟨cl,?_,h1,fun m hm=>?_,fun x d hx=>?_⟩
   ·rw[List.forIn_cons]
    show(bind (bind (cellOf env n) _) _:Sem _)=_
    unfold cellOf
    rw[hc]
    exact e
   ·rcases Am.mp hm with q | q
    ·cases q;exact h3 n c (by simp[Hx])
    ·exact h2 m q
   ·cases q:x==n with
    | true=>exact h3 x c (by rw[Hx,q])
    | false=>exact h3 x d (by rw[Hx,q];exact hx)
  ·have hb:(k==Df)=false:=by simpa using hk
   obtain⟨cl,e,h1,h2,h3⟩:=R0 r acc (fun m hm=>hn m (Az _ hm)) ha
   refine⟨cl,?_,h1,fun m hm=>?_,h3⟩
   ·rw[List.forIn_cons]
    show(bind (if (k==Df)=true then _ else _) _:Sem _)=_
    rw[hb]
    exact e
   ·rcases Am.mp hm with q | q
    ·cases q;exact absurd rfl hk
    ·exact h2 m q
theorem Ti{env:Env}{scope:Scope}(hn:∀n,(n,Df)∈scope.names→∃c,env.cells.lookup n=some c):
  ∃cl,closureFor scope env=pure cl∧(∀x c,cl.lookup x=some c→env.cells.lookup x=some c)∧∀n,(n,Df)∈scope.names→∃c,cl.lookup n=some c:=by
 obtain⟨cl,e,h1,h2,_⟩:=R0 scope.names [] hn (fun x c h=>by cases h)
 refine⟨cl,?_,h1,h2⟩
 exact(congrArg (fun t:Sem (List (Str×Addr))=>bind t fun z=>pure z) e).trans rfl
end L3
namespace L3
open PySem PySem.Spec PyProof.Rows L2
noncomputable def cxC(X:Cx)(N':List Str)(scope:Scope)(cl:List (Str×Addr))(C:Addr)(fp:List Addr)(pins:List (Addr×Obj))(s:Shared)(H:Hp):Cx where
 prog:=X.prog
 w:=X.w
 K:=X.K
 mg:=X.mg
 base:=X.base
 A:=X.A
 N:=N'
 s₀:=s
 H₀:=H
 env:=compEnvC scope cl C X.env
 outer:=X.stack
 stack:=X.stack
 ex:=fp
 fn:=fun x=>scope.names.any fun y=>y.1==x&&y.2== .cell
 calm:=X.calm
 pn:=X.pn++pins
 xe:=noE
noncomputable def Vg(scope dsc:Scope):Scope:=
 {scope with names:=scope.names.map fun(n,k)=>if (k== .free&&dsc.kind== .function&&dsc.names.lookup n==some .cell) then(n,.cell) else(n,k)}
noncomputable def Sn(js:List (Option Nat))(σ:L2.St):L2.St:=js.map fun o=>o.bind fun j=>(σ[j]?).join
structure CompScope(dsc:Scope)(dN N':List Str)(js:List (Option Nat))(scope:Scope):Prop where
 kind:scope.kind= .function
 nd:(scope.names.map (·.1)).Nodup
 loc:∀y∈scope.names,y.2= .local→scope.names.lookup y.1=some .local
 len:js.length=N'.length
 cap:∀(i:Nat) (x:Str) (j:Nat),N'[i]?=some x→js[i]?=some (some j)→dN[j]?=some x∧(x,Df)∈scope.names
 free:∀n,(n,Df)∈scope.names→dsc.names.lookup n=some .cell∨dsc.names.lookup n=some .free
 seen:∀n,(n,Df)∈scope.names→(Vg scope dsc).names.lookup n=some .cell∨(Vg scope dsc).names.lookup n=some .free
noncomputable def Se(dsc:Scope)(dN N':List Str)(js:List (Option Nat))(scope:Scope):Bool:=
 scope.kind== .function&&decide ((scope.names.map (·.1)).Nodup)&&scope.names.all (fun y=>y.2 != .local || scope.names.lookup y.1==some .local)&&js.length==N'.length&&
 (N'.zip js).all (fun p=>match p.2 with | some j=>dN[j]?==some p.1&&scope.names.contains (p.1,Df) | none=>true)&&
 scope.names.all (fun y=>y.2 != .free || ((dsc.names.lookup y.1==some .cell || dsc.names.lookup y.1==some .free)&&((Vg scope dsc).names.lookup y.1==some .cell || (Vg scope dsc).names.lookup y.1==some .free)))
theorem CompScope.of{dsc:Scope}{dN N':List Str}{js:List (Option Nat)}{scope:Scope}(h:Se dsc dN N' js scope=true):CompScope dsc dN N' js scope:=by
 unfold Se at h
 simp only[Bool.and_eq_true,Dk,beq_iff_eq,bne_iff_ne,Bool.or_eq_true,decide_eq_true_eq] at h
 obtain⟨⟨⟨⟨⟨h1,h2⟩,h3⟩,h4⟩,h5⟩,h6⟩:=h
 refine⟨h1,h2,fun y hy hl=>(h3 y hy).resolve_left fun z=>z hl,h4,fun i x j e1 e2=>?_,fun n hn=>?_,fun n hn=>?_⟩
 ·have hm:(x,some j)∈N'.zip js:=Ha (i:=i) (by rw[List.getElem?_zip_eq_some];exact⟨e1,e2⟩)
  have q:=h5 _ hm
  simp only[Bool.and_eq_true,beq_iff_eq,Dq] at q
  exact q
 ·exact((h6 _ hn).resolve_left fun z=>z rfl).1
 ·exact((h6 _ hn).resolve_left fun z=>z rfl).2
theorem S4{env:Env}{x:Str}{k:NameKind}:∀{names:List (Str×NameKind)},
  (names.map fun(n,k)=>if (k==Df&&env.scope.kind== .function&&env.kindOf n==some .cell) then(n,Hk) else(n,k)).lookup x=some k→(k= .cell∨k= .free)→(x,Df)∈names∨(x,Hk)∈names
 | [],h,_=>by simp at h
 |(n,q)::r,h,hk=>by
  rw[Ch] at h
  by_cases hx:x=n
  ·subst hx
   have hq:q= .free∨q= .cell:=by
    by_cases c:(q==Df&&env.scope.kind== .function&&env.kindOf x==some .cell)=true
    ·rw[Bool.and_eq_true,Bool.and_eq_true] at c
     exact .inl (Iy c.1.1)
    ·simp only[if_neg c] at h
     rw[Hx,beq_self_eq_true] at h
     have e:q=k:=Hj h
     rcases hk with z | z
     ·exact .inr (e.trans z)
     ·exact .inl (e.trans z)
   rcases hq with rfl | rfl
   ·exact .inl Bs
   ·exact .inr Bs
  ·have hb:(x==n)=false:=by simpa using hx
   have rest:(r.map fun(n,k)=>if (k==Df&&env.scope.kind== .function&&env.kindOf n==some .cell) then(n,Hk) else(n,k)).lookup x=some k:=by
    by_cases c:(q==Df&&env.scope.kind== .function&&env.kindOf n==some .cell)=true
    ·simp only[if_pos c] at h
     rw[Hx,hb] at h
     exact h
    ·simp only[if_neg c] at h
     rw[Hx,hb] at h
     exact h
   exact(S4 (env:=env) rest hk).imp (Az _) (Az _)
structure BlockCells(X:Cx)(scope:Scope)(cl:List (Str×Addr))(sz:Nat)(h1:Heap):Prop where
 each:∀x c,cl.lookup x=some c→X.env.cells.lookup x=some c∨(sz<c∧h1.IsCell c none)
 free:∀n,(n,Df)∈scope.names→∃c,cl.lookup n=some c∧X.env.cells.lookup n=some c
 own:∀n,(n,Hk)∈scope.names→∃c,cl.lookup n=some c∧sz<c
 inj:∀x y c,cl.lookup x=some c→cl.lookup y=some c→sz<c→x=y
theorem Sm{x:Str}:∀(names:List (Str×NameKind)) (n:Nat) (acc:List (Str×Addr)),(x,Hk)∉names→(cellsFrom n names acc).lookup x=acc.lookup x
 | [],_,_,_=>rfl
 |(y,k)::r,n,acc,h=>by
  have hr:(x,Hk)∉r:=fun z=>h (Az _ z)
  unfold cellsFrom
  split
  ·rename_i hk
   have hxy:(x==y)=false:=by
    rw[beq_eq_false_iff_ne]
    intro e
    apply h
    rw[e,←Iy hk]
    exact Bs
   rw[Sm r _ _ hr,Hx,hxy]
  ·exact Sm r n acc hr
theorem Qr{x:Str}:∀(names:List (Str×NameKind)) (n:Nat) (acc:List (Str×Addr)),(x,Hk)∈names→∃c,(cellsFrom n names acc).lookup x=some c∧n≤c
 | [],_,_,h=>by cases h
 |(y,k)::r,n,acc,h=>by
  unfold cellsFrom
  by_cases hr:(x,Hk)∈r
  ·split
   ·obtain⟨c,e,l⟩:=Qr r (n+1) ((y,n)::acc) hr
    exact⟨c,e,by omega⟩
   ·exact Qr r n acc hr
  ·rcases Am.mp h with e | e
   ·cases e
    rw[if_pos (by rfl),Sm r _ _ hr,Hx,beq_self_eq_true]
    exact⟨n,rfl,Nat.le_refl _⟩
   ·exact absurd e hr
theorem S5:∀(names:List (Str×NameKind)) (n:Nat) (acc cl:List (Str×Addr)),∃own,cellsFrom n names (acc++cl)=own++cl∧cellsFrom n names acc=own
 | [],n,acc,cl=>⟨acc,rfl,rfl⟩
 |(y,k)::r,n,acc,cl=>by
  unfold cellsFrom
  split
  ·exact S5 r (n+1) ((y,n)::acc) cl
  ·exact S5 r n acc cl
theorem Tb{x:Str}{c:Addr}:∀{a b:List (Str×Addr)},(a++b).lookup x=some c→a.lookup x=some c∨b.lookup x=some c
 | [],b,h=> .inr h
 |(y,d)::a,b,h=>by
  rw[Ki,Hx] at h
  rw[Hx]
  cases e:x==y with
  | true=>rw[e] at h;exact .inl h
  | false=>rw[e] at h;exact Tb h
theorem Py{X:Cx}{pins:List (Addr×Obj)}{σ:L2.St}{H:Hp}{s:Shared}{scope:Scope}{cl:List (Str×Addr)}(nd:(scope.names.map (·.1)).Nodup)(I:Inv X pins σ H s)(o:Obj)
  (c1:∀x c,cl.lookup x=some c→X.env.cells.lookup x=some c) (c2:∀n,(n,Df)∈scope.names→∃c,cl.lookup n=some c):
  BlockCells X scope (cellsFrom (s.heap.objs.size+1) scope.names cl) s.heap.objs.size (pushCells (s.heap.push o) scope.names):=by
 obtain⟨own,e1,e2⟩:=S5 scope.names (s.heap.objs.size+1) [] cl
 rw[Ls] at e1
 have ok:=cellsFrom_ok scope.names (s.heap.push o) (s.heap.objs.size+1) [] ⟨fun _ _ hm=>(nomatch hm),List.Pairwise.nil⟩ (by rw[Hr];exact Nat.le_refl _)
 rw[Hr,e2] at ok
 have old:∀x c,cl.lookup x=some c→c<s.heap.objs.size:=by
  intro x c e
  obtain⟨v,q⟩:=I.cell x c (c1 x c e)
  exact q.lt
 have one:∀{n:Str},(n,Df)∈scope.names→(n,Hk)∉scope.names:=by
  intro n h1 h2
  have key:∀(l:List (Str×NameKind)),(l.map (·.1)).Nodup→(n,Df)∈l→(n,Hk)∈l→False:=by
   intro l
   induction l with
   | nil=>intro _ h;cases h
   | cons y r ih=>
    intro hn a b
    rw[Ch,Kr] at hn
    rcases Am.mp a with e1 | a2
    ·rcases Am.mp b with e2 | b2
     ·rw[←e1] at e2;cases e2
     ·exact hn.1 (Dg.mpr ⟨_,b2,by rw[←e1]⟩)
    ·rcases Am.mp b with e2 | b2
     ·exact hn.1 (Dg.mpr ⟨_,a2,by rw[←e2]⟩)
     ·exact ih hn.2 a2 b2
  exact key _ nd h1 h2
 refine⟨fun x c e=>?_,fun n hn=>?_,fun n hn=>?_,fun x y c hx hy hc=>?_⟩
 ·rw[e1] at e
  rcases Tb e with z | z
  ·obtain⟨a,b⟩:=ok.empty x c (mem_of_lookup z)
   exact .inr ⟨b,a⟩
  ·exact .inl (c1 x c z)
 ·obtain⟨c,hc⟩:=c2 n hn
  refine⟨c,?_,c1 n c hc⟩
  rw[Sm _ _ _ (one hn)]
  exact hc
 ·obtain⟨c,a,b⟩:=Qr scope.names (s.heap.objs.size+1) cl hn
  exact⟨c,a,b⟩
 ·rw[e1] at hx hy
  rcases Tb hx with z | z
  ·rcases Tb hy with z2 | z2
   ·exact name_of_addr ok.apart (mem_of_lookup z) (mem_of_lookup z2)
   ·exact absurd (old y c z2) (Nat.lt_asymm hc)
  ·exact absurd (old x c z) (Nat.lt_asymm hc)
theorem Oa{M:Model}{A:Around}{E:Value→Shared→Prop}{s:Shared}{scope:Scope}{globals:Addr}{cl:List (Str×Addr)}{qual:Str}{o:Env}{Q:Env→Shared→Prop}
  (hQ:Q {scope:=scope,locals:=s.heap.objs.size,globals:=globals,cells:=cellsFrom (s.heap.objs.size+1) scope.names cl,qual:=qual,func:=none,code:=o.code,frame:=o.frame,builtins:=o.builtins} {s with heap:=pushCells (s.heap.push {cls:= .type "dict",data:= .dict #[]}) scope.names}):
  wpAny M A (newFunctionEnv scope globals cl [] qual none .none (some o)) Q E s:=by
 simp only[newFunctionEnv,Option.isSome_some,if_true]
 refine Aa (wpAny_alloc ?_)
 refine Aa (wpAny_layCells _ (fun name kind cells=>by cases hkc:kind==Hk<;>simp[hkc]) _ _ _ _ ?_)
 rw[show({s with heap:=s.heap.push {cls:= .type "dict",data:= .dict #[]}}:Shared).heap.objs.size=s.heap.objs.size+1 from Hr ..]
 rw[List.forIn_nil]
 exact Aa (Ab (Ab hQ))
section
variable{X:Cx}{elt tg iter c:Expr}{scope:Scope}{pos:Pos}{N':List Str}{js:List (Option Nat)}{wi:TI}{g:TG}{te:TE}{tc:TT}
theorem O1{N':List Str}{js:List (Option Nat)}{pins:List (Addr×Obj)}{σ:L2.St}{H:Hp}{s:Shared}{cl:List (Str×Addr)}{fp:List Addr}{h1:Heap}{tk:Nat}(S:CompScope X.env.scope X.N N' js scope)(I:Inv X pins σ H s)
  (bc:BlockCells X scope cl s.heap.objs.size h1) (hf:∀b∈fp,FpOk X pins H b) (hlt:∀b∈fp,b<s.heap.objs.size)
  {m:Str→Option Value} (hn:h1.Ns s.heap.objs.size m) (hk:∀b o,s.heap.get? b=some o→h1.get? b=some o):
  Inv (cxC X N' scope cl s.heap.objs.size fp pins s H) [] (Sn js σ) H {s with heap:=h1,toks:=tk}:=by
 have ok:(cxC X N' scope cl s.heap.objs.size fp pins s H).Ok:=by
  refine⟨I.ok.mod,S.kind,I.ok.glob,I.ok.blt,Nat.le_refl _,fun x y c h1 h2=>?_,fun x hx=>?_,fun x c hx e=>?_,I.ok.hd,I.ok.frames,.inl rfl,fun b hb=>⟨Nat.ne_of_lt (hlt b hb),fun x c e=>?_⟩,
   I.bs,Nat.le_trans I.ok.bsz I.sz,fun b o e hb=>?_,fun b hb hx=>?_,I.stack,I.stkFree⟩
  ·rcases bc.each x c h1 with z | z
   ·rcases bc.each y c h2 with z2 | z2
    ·exact I.ok.inj x y c z z2
    ·exact bc.inj x y c h1 h2 z2.1
   ·exact bc.inj x y c h1 h2 z.1
  ·have hx':(relabel scope X.env).names.lookup x=some .cell∨(relabel scope X.env).names.lookup x=some .free:=hx
   have hm:(x,Df)∈scope.names∨(x,Hk)∈scope.names:=by
    rcases hx' with z | z
    ·exact S4 z (.inl rfl)
    ·exact S4 z (.inr rfl)
   rcases hm with z | z
   ·obtain⟨c,e,_⟩:=bc.free x z;exact⟨c,e⟩
   ·obtain⟨c,e,_⟩:=bc.own x z;exact⟨c,e⟩
  ·have hx':(scope.names.any fun y=>y.1==x&&y.2==Hk)=true:=hx
   rw[Kj] at hx'
   obtain⟨⟨y,k⟩,hm,hy⟩:=hx'
   rw[Bool.and_eq_true] at hy
   have e1:y=x:=Iy hy.1
   have e2:k= .cell:=Iy hy.2
   subst e1 e2
   obtain⟨c',e',l⟩:=bc.own _ hm
   have:c'=c:=Hj (e'.symm.trans e)
   subst this
   exact Nat.le_of_lt l
  ·rcases bc.each x c e with z | z
   ·exact(hf b hb).2.2.2.2.1 x c z
   ·exact fun q=>absurd z.1 (Nat.lt_asymm (by rw[q];exact hlt b hb))
  ·obtain⟨_,_,_,f3,_⟩:=hf b hb
   rcases f3 with z | z
   ·exact I.ok.noex b o e z
   ·exact absurd (Nat.lt_of_lt_of_le (Ai e) (Nat.le_trans I.ok.bsz z)) (Nat.lt_irrefl _)
  ·obtain⟨_,f1,f2,_⟩:=hf b hb
   rcases Am.mp (I.stkSub b hx) with z | z
   ·exact f1 z
   ·exact f2 z
 refine⟨ok,rfl,I.bare,Un.kept hk,⟨m,hn,fun i x v e1 e2 e3=>?_⟩,fun x c e=>?_,I.hok.fresh (Nat.le_refl _),fun x c e=>(bc.each x c e).elim (fun z=>I.freeC x c z) (fun z=>I.hok.fresh (Nat.le_of_lt z.1)),fun p hp=>?_,I.hok.kept hk,?_⟩
 ·have e2':(Sn js σ)[i]?=some (some v):=e2
  unfold Sn at e2'
  rw[Aq] at e2'
  cases q:js[i]? with
  | none=>rw[q] at e2';cases e2'
  | some o=>
   rw[q] at e2'
   cases o with
   | none=>cases e2'
   | some j=>
    have e4:(σ[j]?).join=some v:=Hj e2'
    obtain⟨hN,hm⟩:=S.cap i x j e1 q
    have hσ:σ[j]?=some (some v):=by
     cases z:σ[j]? with
     | none=>rw[z] at e4;cases e4
     | some o=>rw[z] at e4;exact congrArg some e4
    obtain⟨m0,hn0,hl⟩:=I.loc
    obtain⟨c,hc,hc0⟩:=bc.free x hm
    have hv:Vis X.env.scope x:=(S.free x hm).elim (fun z=> .inr (.inl z)) fun z=> .inr (.inr z)
    obtain⟨u,r,l⟩:=hl j x v hN hσ hv
    refine⟨u,r,.inr ⟨?_,c,hc,?_⟩⟩
    ·exact S.seen x hm
    ·rcases l with⟨kl,_⟩ | ⟨_,c',hc',cell⟩
     ·rcases S.free x hm with y | y<;>(have z:=y.symm.trans (show X.env.scope.names.lookup x=some .local from kl);cases z)
     ·rw[hc0] at hc'
      cases hc'
      obtain⟨o,ho,hd⟩:=cell
      exact⟨o,hk _ _ ho,hd⟩
 ·rcases bc.each x c e with z | z
  ·obtain⟨v,o,ho,hd⟩:=I.cell x c z
   exact⟨v,o,hk _ _ ho,hd⟩
  ·exact⟨none,z.2⟩
 ·have hp':p∈X.pn++pins:=(Dd.mp hp).elim (fun z=>z) fun z=>absurd z (by simp)
  obtain⟨e,n,ne,nf,d⟩:=I.pin p hp'
  refine⟨hk _ _ e,n,Nat.ne_of_lt (Ai e),fun z=>?_,d⟩
  rcases Am.mp (I.stkSub p.1 z) with y | y
  ·exact ne y
  ·exact nf y
 ·show(Sn js σ).length=N'.length
  unfold Sn
  rw[Ah];exact S.len
end
section
variable{X:Cx}{elt tg iter c:Expr}{scope:Scope}{pos:Pos}{N':List Str}{js:List (Option Nat)}{wi:TI}{g:TG}{te:TE}{tc:TT}
def Z96(js:List (Option Nat))(wi:TI)(g:TG)(te:TE):TE:=fun σ H Q=>wi σ H fun J H1=>∀D,H1 D=none→∃W:Nat→Nat→L2.St→Hp→Prop,(∃m,W 0 m (Sn js σ) (upd H1 D (.lst [])))∧
 ∀i m σc Hc,W i m σc Hc→(J.stop i Hc∧Q (.ref D) Hc)∨(J.go i Hc∧∀x H',J.yld i Hc x H'→g x σc H' fun σ2 H2=>te σ2 H2 fun y H4=>∃acc,H4 D=some (.lst acc)∧acc.length<sizeLine∧
  ∃m',m'<m∧W (i+1) m' σ2 (upd H4 D (.lst (acc++[y]))))
def Zn4(js:List (Option Nat))(wi:TI)(g:TG)(tc:TT)(te:TE):TE:=fun σ H Q=>wi σ H fun J H1=>∀D,H1 D=none→∃W:Nat→Nat→L2.St→Hp→Prop,(∃m,W 0 m (Sn js σ) (upd H1 D (.lst [])))∧
 ∀i m σc Hc,W i m σc Hc→(J.stop i Hc∧Q (.ref D) Hc)∨(J.go i Hc∧∀x H',J.yld i Hc x H'→g x σc H' fun σ2 H2=>tc σ2 H2 fun b H3=>if b=true then te σ2 H3 fun y H4=>∃acc,H4 D=some (.lst acc)∧acc.length<sizeLine∧
  ∃m',m'<m∧W (i+1) m' σ2 (upd H4 D (.lst (acc++[y]))) else ∃m',m'<m∧W (i+1) m' σ2 H3)
theorem Q7{pins:List (Addr×Obj)}{σ:L2.St}{H2:Hp}{s2:Shared}{cl:List (Str×Addr)}{it:Addr}{fp:List Addr}{tn:Nat→Heap→Prop}{J:It}{QD:Addr→Hp→Prop}{R:Value→Addr→Result→Shared→Prop}{E:Value→Shared→Prop}
  (hc:X.calm=true) (S:CompScope X.env.scope X.N N' js scope) (c1:∀x c,cl.lookup x=some c→X.env.cells.lookup x=some c) (c2:∀n,(n,Df)∈scope.names→∃c,cl.lookup n=some c)
  (hg:∀cl C fp pins s H,PG (cxC X N' scope cl C fp pins s H) tg g) (he:∀cl C fp pins s H,PE (cxC X N' scope cl C fp pins s H) elt te)
  (I2:Inv X pins σ H2 s2) (T:Turn X.prog X.w X.K tg J fp it tn) (st2:tn 0 s2.heap) (f2:∀b∈fp,FpOk X pins H2 b)
  (q:∀D,H2 D=none→∃W:Nat→Nat→L2.St→Hp→Prop,(∃m,W 0 m (Sn js σ) (upd H2 D (.lst [])))∧
   ∀i m σc Hc,W i m σc Hc→(J.stop i Hc∧QD D Hc)∨(J.go i Hc∧∀x H',J.yld i Hc x H'→g x σc H' fun σ2 H2=>te σ2 H2 fun y H4=>∃acc,H4 D=some (.lst acc)∧acc.length<sizeLine∧
    ∃m',m'<m∧W (i+1) m' σ2 (upd H4 D (.lst (acc++[y])))))
  (back:∀(D C:Addr) (Hc:Hp) (s4:Shared),(∃m,s4.heap.Ns C m)→Inv X pins σ Hc s4→Hc C=none→C≠X.env.locals→X.s₀.heap.objs.size≤C→(∀x c,X.env.cells.lookup x=some c→c≠C)→(∀p∈X.pn++pins,p.1≠C)→QD D Hc→R (.ref D) C (.ok .next) s4):
  wpAny (model X.prog X.w) X.A (newList []) (fun acc s3=>wpAny (model X.prog X.w) X.A (newFunctionEnv scope X.env.globals cl [] X.env.qual none .none (some X.env)) (fun cenv s4=>
   codeAny (model X.prog X.w) X.A (.compStart (.ListComp elt [⟨tg,iter,[],0⟩] scope pos) 0 (.ref it) acc {cenv with scope:=relabel scope X.env}) (R acc cenv.locals) s4) E s3) E s2:=by
 refine Ho (Oa ?_)
 dsimp only
 have I3:Inv X pins σ (upd H2 s2.heap.objs.size (.lst [])) {s2 with heap:=s2.heap.push {cls:= .type "list",data:= .seq ([]:List Value).toArray}}:=I2.lnew (its:=[]) (t':=s2.toks) .nil (Nat.zero_le _)
 obtain⟨W,⟨m0,w0⟩,turn⟩:=q s2.heap.objs.size I2.fresh
 have hob:=T.obj 0 _ st2
 have f3:∀b∈fp,FpOk X pins (upd H2 s2.heap.objs.size (.lst [])) b:=fun b hb=>by
  obtain⟨o,e,_⟩:=hob b hb
  exact⟨by rw[Zw (Nat.ne_of_lt (Ai e))];exact(f2 b hb).1,(f2 b hb).2⟩
 generalize hS3:(s2.heap.push {cls:= .type "list",data:= .seq ([]:List Value).toArray}:Heap)=h3 at *
 have k23:∀b o,s2.heap.get? b=some o→h3.get? b=some o:=fun b o e=>by rw[←hS3];exact Ad _ e
 have hlt:∀b∈fp,b<h3.objs.size:=fun b hb=>by
  obtain⟨o,e,_⟩:=hob b hb
  exact Ai (k23 b o e)
 have bc:=Py S.nd I3 {cls:= .type "dict",data:= .dict #[]} c1 c2
 have hns:(pushCells (h3.push {cls:= .type "dict",data:= .dict #[]}) scope.names).Ns h3.objs.size (fun _=>none):=(Heap.Ns.new h3 (.type "dict")).keeps (pushCells_keeps _ _)
 have k31:∀b o,h3.get? b=some o→(pushCells (h3.push {cls:= .type "dict",data:= .dict #[]}) scope.names).get? b=some o:=fun b o e=>pushCells_keeps _ _ b o (Ad _ e)
 dsimp only at bc
 generalize cellsFrom (h3.objs.size+1) scope.names cl=cl' at bc ⊢
 generalize pushCells (h3.push {cls:= .type "dict",data:= .dict #[]}) scope.names=h1 at bc hns k31 ⊢
 have I4:=O1 (tk:=s2.toks) S I3 bc f3 hlt hns k31
 have st4:tn 0 h1:=T.keep 0 _ h1 st2 fun b hb o e=>k31 b o (k23 b o e)
 have nofs:∀b∈fp,b∉(cxC X N' scope cl' h3.objs.size fp pins {s2 with heap:=h3} (upd H2 s2.heap.objs.size (.lst []))).fs:=I4.ok.exfs
 have stat:∀{H':Hp},(∀b∈fp,H' b=none)→∀b∈fp,FpOk (cxC X N' scope cl' h3.objs.size fp pins {s2 with heap:=h3} (upd H2 s2.heap.objs.size (.lst []))) [] H' b:=fun{H'} hn b hb=>
  ⟨hn b hb,Nat.ne_of_lt (hlt b hb),nofs b hb,.inl hb,fun x c e=>(bc.each x c e).elim (fun z=>(f3 b hb).2.2.2.2.1 x c z) (fun z q=>absurd z.1 (Nat.lt_asymm (by rw[q];exact hlt b hb))),fun p hp=>(f3 b hb).2.2.2.2.2 p (by simpa[cxC] using hp)⟩
 have loop:codeAny (model X.prog X.w) X.A (.compLoop (.ListComp elt [⟨tg,iter,[],0⟩] scope pos) 0 (.ref it) (.ref s2.heap.objs.size) (compEnvC scope cl' h3.objs.size X.env))
   (R (.ref s2.heap.objs.size) h3.objs.size) {s2 with heap:=h1,toks:=s2.toks}:=by
  refine Z30 (fun n s'=>∃i σc Hc,Inv (cxC X N' scope cl' h3.objs.size fp pins {s2 with heap:=h3} (upd H2 s2.heap.objs.size (.lst []))) [] σc Hc s'∧tn i s'.heap∧(∀b∈fp,Hc b=none)∧W i n σc Hc) ?_ m0
   ⟨0,_,_,I4,st4,fun b hb=>(f3 b hb).1,w0⟩
  rintro n z ⟨i,σc,Hc,Iz,stz,frz,wz⟩
  rcases turn i n σc Hc wz with⟨stop,qd⟩ | ⟨go,step⟩
  ·refine thn (T.done (cxC X N' scope cl' h3.objs.size fp pins {s2 with heap:=h3} (upd H2 s2.heap.objs.size (.lst []))) rfl rfl rfl hc i [] z σc Hc noE Iz (stat frz) stz stop) fun r s4 zz41=>?_
   obtain⟨hr,I5⟩:=zz41
   subst hr
   have J5:Inv X pins σ Hc s4:=I3.call' (s':=s4) I5.os I5.base I5.hok I5.bare fun b hb=>⟨(f3 b hb).2.2.2.1,(f3 b hb).2.1,(f3 b hb).2.2.2.2.1,(f3 b hb).2.2.2.2.2⟩
   obtain⟨m,hm,_⟩:=I5.loc
   refine back _ _ Hc s4 ⟨m,hm⟩ J5 I5.free (Nat.ne_of_gt I3.lt) (Nat.le_trans I3.ok.above (Nat.le_of_lt I3.lt)) (fun x c e z=>?_) (fun p hp z=>?_) qd
   ·obtain⟨v,q⟩:=I3.cell x c e
    exact absurd q.lt (by rw[z];exact Nat.lt_irrefl _)
   ·exact absurd (Ai (I3.pin p hp).1) (by rw[z];exact Nat.lt_irrefl _)
  ·refine thn (T.item (cxC X N' scope cl' h3.objs.size fp pins {s2 with heap:=h3} (upd H2 s2.heap.objs.size (.lst []))) rfl rfl rfl hc i [] z σc Hc noE Iz (stat frz) stz go) fun r s4 zz42=>?_
   obtain⟨u,hr,h4⟩:=zz42
   subst hr
   refine thn h4 fun _ s5 zz43=>?_
   obtain⟨x,H5,I5,r5,y5,st5,fr5⟩:=zz43
   have I5':=I5.pinned (stat fr5) (T.obj _ _ st5)
   refine thn (hg _ _ _ _ _ _ _ s5 σc H5 x u _ I5' r5 (step x H5 y5)) fun _ s6 zz44=>?_
   obtain⟨σ6,H6,I6,q6⟩:=zz44
   refine thn (he _ _ _ _ _ _ _ s6 σ6 H6 _ I6 q6) fun v s7 zz45=>?_
   obtain⟨y,H7,I7,r7,acc,hD,hlen,m',hm,w7⟩:=zz45
   refine thn (Qd _ s7 σ6 H7 (.ref s2.heap.objs.size) [y] (.ref s2.heap.objs.size) [v] (fun _ H8=>H8=upd H7 s2.heap.objs.size (.lst (acc++[y]))) I7 rfl (.cons r7 .nil) ⟨_,acc,y,rfl,rfl,hD,hlen,rfl⟩) fun _ s8 zz46=>?_
   obtain⟨_,H8,I8,_,e8⟩:=zz46
   subst e8
   refine⟨m',hm,i+1,σ6,_,I8.unpinned,T.keep _ _ _ st5 fun b hb o e=>(I8.pin (b,o) (Ax _ (Ax _ (Xi hb e)))).1,fun b hb=>?_,w7⟩
   obtain⟨o,e,d⟩:=T.obj _ _ st5 b hb
   exact(I8.pin (b,o) (Ax _ (Ax _ (Xi hb e)))).2.1
 exact codeAny_compStart_list loop (T.self _ 0 _ _ _ st4 loop)
theorem Zk1(hc:X.calm=true)(ho:Se X.env.scope X.N N' js scope=true)(hi:PI X tg iter wi)(hg:∀cl C fp pins s H,PG (cxC X N' scope cl C fp pins s H) tg g)(he:∀cl C fp pins s H,PE (cxC X N' scope cl C fp pins s H) elt te)
  (hs:∀x,foldedSetIterable iter X.env x=pure x:=by intro _;rfl):PE X (.ListComp elt [⟨tg,iter,[],0⟩] scope pos) (Z96 js wi g te):=by
 intro pins s σ H Q I h
 have S:=CompScope.of ho
 obtain⟨cl,hcl,c1,c2⟩:=Ti (scope:=scope) (env:=X.env) fun n hn=>I.ok.has n (S.free n hn)
 rw[eval_ListComp]
 refine Lj (use:=none) rfl hs hcl S.kind S.loc (thn (hi pins s σ H _ I h) fun v s1 h1=>thn h1 fun itv s2 h2=>?_)
 obtain⟨it,fp,tn,J,H2,e,I2,T,st2,f2,q2⟩:=h2
 subst e
 refine Q7 (QD:=fun D Hc=>Q (.ref D) Hc) (R:=fun acc C=>compPost (model X.prog X.w) X.A X.xe none (EP X pins σ Q) acc C) hc S c1 c2 hg he I2 T st2 f2 q2 ?_
 rintro D C Hc s4 ⟨m,hm⟩ J4 fC nL sC cC pC qd
 refine⟨m,hm,fun h' hs'=>⟨.ref D,Hc,?_,rfl,qd⟩⟩
 exact J4.turned (t':=s4.toks) (fun b o hb e=>(hs'.2 b hb).trans e) fC nL (.inr sC) cC pC
def Y76(i:Nat)(js:List (Option Nat))(wi:TI)(g:TG)(te:TE):TS:=fun D σ H=>Z96 js wi g te σ H fun v H1=>D.nx (σ.set i (some v)) H1
theorem Zm5{i:Nat}{x:Str}{px spos:Pos}(hc:X.calm=true)(ho:Se X.env.scope X.N N' js scope=true)(hN:X.N.Nodup)(hx:X.N[i]?=some x)(hl:X.env.scope.names.lookup x=some .local)(hi:PI X tg iter wi)
  (hg:∀cl C fp pins s H,PG (cxC X N' scope cl C fp pins s H) tg g) (he:∀cl C fp pins s H,PE (cxC X N' scope cl C fp pins s H) elt te)
  (hsw:swapsWith (.ListComp elt [⟨tg,iter,[],0⟩] scope pos) (some (.Name x px)) spos.line X.env=pure true)
  (hs:∀x,foldedSetIterable iter X.env x=pure x:=by intro _;rfl):PS X (.Assign [.Name x px] (.ListComp elt [⟨tg,iter,[],0⟩] scope pos) spos) (Y76 i js wi g te):=by
 intro pins s σ H D I h
 have S:=CompScope.of ho
 obtain⟨cl,hcl,c1,c2⟩:=Ti (scope:=scope) (env:=X.env) fun n hn=>I.ok.has n (S.free n hn)
 rw[exec_Assign_Name_used _ _ _ _ hsw]
 refine Aa (wpAny_standAt (Aa ?_))
 show wpAny _ _ (do let _ ←comprehension (.ListComp elt [⟨tg,iter,[],0⟩] scope pos) scope X.env _ (newList []) false (eval iter X.env) (some (assign (.Name x px) X.env))) _ _ s
 refine Aa (Hl (Lj (use:=some (assign (.Name x px) X.env)) (Q:=fun _ s'=>SP X pins D .next s') rfl hs hcl S.kind S.loc (thn (hi pins s σ H _ I h) fun v s1 h1=>thn h1 fun itv s2 h2=>?_)) (fun _ s' hq=>Ab (Ab hq)) fun _ _ e=>e)
 obtain⟨it,fp,tn,J,H2,e,I2,T,st2,f2,q2⟩:=h2
 subst e
 refine Q7 (QD:=fun E' Hc=>D.nx (σ.set i (some (.ref E'))) Hc) (R:=fun acc C=>compPost (model X.prog X.w) X.A X.xe (some (assign (.Name x px) X.env)) (fun _ s'=>SP X pins D .next s') acc C) hc S c1 c2 hg he I2 T st2 f2 q2 ?_
 rintro E' C Hc s4 ⟨m,hm⟩ J4 fC nL sC cC pC qd
 show wpAny _ _ (assign (.Name x px) X.env (.ref E')) _ _ s4
 refine wpAny_assign_Name (Qu J4 hN hx (.inl hl) (v:= .ref E') rfl (fun s5 J5 zz47=>?_) (.inr hl))
 obtain⟨a,sb,ha⟩:=zz47
 have hCa:C≠a:=by
  rcases ha with z | z
  ·rw[z];exact nL
  ·exact(cC x a z).symm
 refine⟨m,hm.sameBut sb hCa,fun h' hs'=>⟨σ.set i (some (.ref E')),Hc,?_,qd⟩⟩
 exact J5.turned (t':=s5.toks) (fun b o hb e=>(hs'.2 b hb).trans e) fC nL (.inr sC) cC pC
theorem Qz{pins:List (Addr×Obj)}{σ:L2.St}{H2:Hp}{s2:Shared}{cl:List (Str×Addr)}{it:Addr}{fp:List Addr}{tn:Nat→Heap→Prop}{J:It}{QD:Addr→Hp→Prop}{R:Value→Addr→Result→Shared→Prop}{E:Value→Shared→Prop}
  (hc:X.calm=true) (S:CompScope X.env.scope X.N N' js scope) (c1:∀x c,cl.lookup x=some c→X.env.cells.lookup x=some c) (c2:∀n,(n,Df)∈scope.names→∃c,cl.lookup n=some c)
  (hg:∀cl C fp pins s H,PG (cxC X N' scope cl C fp pins s H) tg g) (hq:∀cl C fp pins s H,PT (cxC X N' scope cl C fp pins s H) c tc) (he:∀cl C fp pins s H,PE (cxC X N' scope cl C fp pins s H) elt te)
  (I2:Inv X pins σ H2 s2) (T:Turn X.prog X.w X.K tg J fp it tn) (st2:tn 0 s2.heap) (f2:∀b∈fp,FpOk X pins H2 b)
  (q:∀D,H2 D=none→∃W:Nat→Nat→L2.St→Hp→Prop,(∃m,W 0 m (Sn js σ) (upd H2 D (.lst [])))∧
   ∀i m σc Hc,W i m σc Hc→(J.stop i Hc∧QD D Hc)∨(J.go i Hc∧∀x H',J.yld i Hc x H'→g x σc H' fun σ2 H2=>tc σ2 H2 fun b H3=>if b=true then te σ2 H3 fun y H4=>∃acc,H4 D=some (.lst acc)∧acc.length<sizeLine∧
    ∃m',m'<m∧W (i+1) m' σ2 (upd H4 D (.lst (acc++[y]))) else ∃m',m'<m∧W (i+1) m' σ2 H3))
  (back:∀(D C:Addr) (Hc:Hp) (s4:Shared),(∃m,s4.heap.Ns C m)→Inv X pins σ Hc s4→Hc C=none→C≠X.env.locals→X.s₀.heap.objs.size≤C→(∀x c,X.env.cells.lookup x=some c→c≠C)→(∀p∈X.pn++pins,p.1≠C)→QD D Hc→R (.ref D) C (.ok .next) s4):
  wpAny (model X.prog X.w) X.A (newList []) (fun acc s3=>wpAny (model X.prog X.w) X.A (newFunctionEnv scope X.env.globals cl [] X.env.qual none .none (some X.env)) (fun cenv s4=>
   codeAny (model X.prog X.w) X.A (.compStart (.ListComp elt [⟨tg,iter,[c],0⟩] scope pos) 0 (.ref it) acc {cenv with scope:=relabel scope X.env}) (R acc cenv.locals) s4) E s3) E s2:=by
 refine Ho (Oa ?_)
 dsimp only
 have I3:Inv X pins σ (upd H2 s2.heap.objs.size (.lst [])) {s2 with heap:=s2.heap.push {cls:= .type "list",data:= .seq ([]:List Value).toArray}}:=I2.lnew (its:=[]) (t':=s2.toks) .nil (Nat.zero_le _)
 obtain⟨W,⟨m0,w0⟩,turn⟩:=q s2.heap.objs.size I2.fresh
 have hob:=T.obj 0 _ st2
 have f3:∀b∈fp,FpOk X pins (upd H2 s2.heap.objs.size (.lst [])) b:=fun b hb=>by
  obtain⟨o,e,_⟩:=hob b hb
  exact⟨by rw[Zw (Nat.ne_of_lt (Ai e))];exact(f2 b hb).1,(f2 b hb).2⟩
 generalize hS3:(s2.heap.push {cls:= .type "list",data:= .seq ([]:List Value).toArray}:Heap)=h3 at *
 have k23:∀b o,s2.heap.get? b=some o→h3.get? b=some o:=fun b o e=>by rw[←hS3];exact Ad _ e
 have hlt:∀b∈fp,b<h3.objs.size:=fun b hb=>by
  obtain⟨o,e,_⟩:=hob b hb
  exact Ai (k23 b o e)
 have bc:=Py S.nd I3 {cls:= .type "dict",data:= .dict #[]} c1 c2
 have hns:(pushCells (h3.push {cls:= .type "dict",data:= .dict #[]}) scope.names).Ns h3.objs.size (fun _=>none):=(Heap.Ns.new h3 (.type "dict")).keeps (pushCells_keeps _ _)
 have k31:∀b o,h3.get? b=some o→(pushCells (h3.push {cls:= .type "dict",data:= .dict #[]}) scope.names).get? b=some o:=fun b o e=>pushCells_keeps _ _ b o (Ad _ e)
 dsimp only at bc
 generalize cellsFrom (h3.objs.size+1) scope.names cl=cl' at bc ⊢
 generalize pushCells (h3.push {cls:= .type "dict",data:= .dict #[]}) scope.names=h1 at bc hns k31 ⊢
 have I4:=O1 (tk:=s2.toks) S I3 bc f3 hlt hns k31
 have st4:tn 0 h1:=T.keep 0 _ h1 st2 fun b hb o e=>k31 b o (k23 b o e)
 have nofs:∀b∈fp,b∉(cxC X N' scope cl' h3.objs.size fp pins {s2 with heap:=h3} (upd H2 s2.heap.objs.size (.lst []))).fs:=I4.ok.exfs
 have stat:∀{H':Hp},(∀b∈fp,H' b=none)→∀b∈fp,FpOk (cxC X N' scope cl' h3.objs.size fp pins {s2 with heap:=h3} (upd H2 s2.heap.objs.size (.lst []))) [] H' b:=fun{H'} hn b hb=>
  ⟨hn b hb,Nat.ne_of_lt (hlt b hb),nofs b hb,.inl hb,fun x c e=>(bc.each x c e).elim (fun z=>(f3 b hb).2.2.2.2.1 x c z) (fun z q=>absurd z.1 (Nat.lt_asymm (by rw[q];exact hlt b hb))),fun p hp=>(f3 b hb).2.2.2.2.2 p (by simpa[cxC] using hp)⟩
 have loop:codeAny (model X.prog X.w) X.A (.compLoop (.ListComp elt [⟨tg,iter,[c],0⟩] scope pos) 0 (.ref it) (.ref s2.heap.objs.size) (compEnvC scope cl' h3.objs.size X.env))
   (R (.ref s2.heap.objs.size) h3.objs.size) {s2 with heap:=h1,toks:=s2.toks}:=by
  refine Z03 (fun n s'=>∃i σc Hc,Inv (cxC X N' scope cl' h3.objs.size fp pins {s2 with heap:=h3} (upd H2 s2.heap.objs.size (.lst []))) [] σc Hc s'∧tn i s'.heap∧(∀b∈fp,Hc b=none)∧W i n σc Hc) ?_ m0
   ⟨0,_,_,I4,st4,fun b hb=>(f3 b hb).1,w0⟩
  rintro n z ⟨i,σc,Hc,Iz,stz,frz,wz⟩
  rcases turn i n σc Hc wz with⟨stop,qd⟩ | ⟨go,step⟩
  ·refine thn (T.done (cxC X N' scope cl' h3.objs.size fp pins {s2 with heap:=h3} (upd H2 s2.heap.objs.size (.lst []))) rfl rfl rfl hc i [] z σc Hc noE Iz (stat frz) stz stop) fun r s4 zz48=>?_
   obtain⟨hr,I5⟩:=zz48
   subst hr
   have J5:Inv X pins σ Hc s4:=I3.call' (s':=s4) I5.os I5.base I5.hok I5.bare fun b hb=>⟨(f3 b hb).2.2.2.1,(f3 b hb).2.1,(f3 b hb).2.2.2.2.1,(f3 b hb).2.2.2.2.2⟩
   obtain⟨m,hm,_⟩:=I5.loc
   refine back _ _ Hc s4 ⟨m,hm⟩ J5 I5.free (Nat.ne_of_gt I3.lt) (Nat.le_trans I3.ok.above (Nat.le_of_lt I3.lt)) (fun x c e z=>?_) (fun p hp z=>?_) qd
   ·obtain⟨v,q⟩:=I3.cell x c e
    exact absurd q.lt (by rw[z];exact Nat.lt_irrefl _)
   ·exact absurd (Ai (I3.pin p hp).1) (by rw[z];exact Nat.lt_irrefl _)
  ·refine thn (T.item (cxC X N' scope cl' h3.objs.size fp pins {s2 with heap:=h3} (upd H2 s2.heap.objs.size (.lst []))) rfl rfl rfl hc i [] z σc Hc noE Iz (stat frz) stz go) fun r s4 zz49=>?_
   obtain⟨u,hr,h4⟩:=zz49
   subst hr
   refine thn h4 fun _ s5 zz50=>?_
   obtain⟨x,H5,I5,r5,y5,st5,fr5⟩:=zz50
   have I5':=I5.pinned (stat fr5) (T.obj _ _ st5)
   refine thn (hg _ _ _ _ _ _ _ s5 σc H5 x u _ I5' r5 (step x H5 y5)) fun _ s6 zz51=>?_
   obtain⟨σ6,H6,I6,q6⟩:=zz51
   refine thn (hq _ _ _ _ _ _ _ s6 σ6 H6 _ I6 q6) fun ok s6' zz52=>?_
   obtain⟨H6',I6',q6'⟩:=zz52
   cases ok with
   | false=>
    rw[if_neg Bool.false_ne_true] at q6' ⊢
    obtain⟨m',hm,w7⟩:=q6'
    refine⟨m',hm,i+1,σ6,_,I6'.unpinned,T.keep _ _ _ st5 fun b hb o e=>(I6'.pin (b,o) (Ax _ (Ax _ (Xi hb e)))).1,fun b hb=>?_,w7⟩
    obtain⟨o,e,d⟩:=T.obj _ _ st5 b hb
    exact(I6'.pin (b,o) (Ax _ (Ax _ (Xi hb e)))).2.1
   | true=>
   rw[if_pos rfl] at q6' ⊢
   refine thn (he _ _ _ _ _ _ _ s6' σ6 H6' _ I6' q6') fun v s7 zz53=>?_
   obtain⟨y,H7,I7,r7,acc,hD,hlen,m',hm,w7⟩:=zz53
   refine thn (Qd _ s7 σ6 H7 (.ref s2.heap.objs.size) [y] (.ref s2.heap.objs.size) [v] (fun _ H8=>H8=upd H7 s2.heap.objs.size (.lst (acc++[y]))) I7 rfl (.cons r7 .nil) ⟨_,acc,y,rfl,rfl,hD,hlen,rfl⟩) fun _ s8 zz54=>?_
   obtain⟨_,H8,I8,_,e8⟩:=zz54
   subst e8
   refine⟨m',hm,i+1,σ6,_,I8.unpinned,T.keep _ _ _ st5 fun b hb o e=>(I8.pin (b,o) (Ax _ (Ax _ (Xi hb e)))).1,fun b hb=>?_,w7⟩
   obtain⟨o,e,d⟩:=T.obj _ _ st5 b hb
   exact(I8.pin (b,o) (Ax _ (Ax _ (Xi hb e)))).2.1
 exact codeAny_compStart_list loop (T.self _ 0 _ _ _ st4 loop)
theorem Zm0(hc:X.calm=true)(ho:Se X.env.scope X.N N' js scope=true)(hi:PI X tg iter wi)(hg:∀cl C fp pins s H,PG (cxC X N' scope cl C fp pins s H) tg g)(hq:∀cl C fp pins s H,PT (cxC X N' scope cl C fp pins s H) c tc)(he:∀cl C fp pins s H,PE (cxC X N' scope cl C fp pins s H) elt te)
  (hs:∀x,foldedSetIterable iter X.env x=pure x:=by intro _;rfl):PE X (.ListComp elt [⟨tg,iter,[c],0⟩] scope pos) (Zn4 js wi g tc te):=by
 intro pins s σ H Q I h
 have S:=CompScope.of ho
 obtain⟨cl,hcl,c1,c2⟩:=Ti (scope:=scope) (env:=X.env) fun n hn=>I.ok.has n (S.free n hn)
 rw[eval_ListComp]
 refine Lj (use:=none) rfl hs hcl S.kind S.loc (thn (hi pins s σ H _ I h) fun v s1 h1=>thn h1 fun itv s2 h2=>?_)
 obtain⟨it,fp,tn,J,H2,e,I2,T,st2,f2,q2⟩:=h2
 subst e
 refine Qz (QD:=fun D Hc=>Q (.ref D) Hc) (R:=fun acc C=>compPost (model X.prog X.w) X.A X.xe none (EP X pins σ Q) acc C) hc S c1 c2 hg hq he I2 T st2 f2 q2 ?_
 rintro D C Hc s4 ⟨m,hm⟩ J4 fC nL sC cC pC qd
 refine⟨m,hm,fun h' hs'=>⟨.ref D,Hc,?_,rfl,qd⟩⟩
 exact J4.turned (t':=s4.toks) (fun b o hb e=>(hs'.2 b hb).trans e) fC nL (.inr sC) cC pC
def Y09(i:Nat)(js:List (Option Nat))(wi:TI)(g:TG)(tc:TT)(te:TE):TS:=fun D σ H=>Zn4 js wi g tc te σ H fun v H1=>D.nx (σ.set i (some v)) H1
theorem Zk8{i:Nat}{x:Str}{px spos:Pos}(hc:X.calm=true)(ho:Se X.env.scope X.N N' js scope=true)(hN:X.N.Nodup)(hx:X.N[i]?=some x)(hl:X.env.scope.names.lookup x=some .local)(hi:PI X tg iter wi)
  (hg:∀cl C fp pins s H,PG (cxC X N' scope cl C fp pins s H) tg g) (hq:∀cl C fp pins s H,PT (cxC X N' scope cl C fp pins s H) c tc) (he:∀cl C fp pins s H,PE (cxC X N' scope cl C fp pins s H) elt te)
  (hsw:swapsWith (.ListComp elt [⟨tg,iter,[c],0⟩] scope pos) (some (.Name x px)) spos.line X.env=pure true)
  (hs:∀x,foldedSetIterable iter X.env x=pure x:=by intro _;rfl):PS X (.Assign [.Name x px] (.ListComp elt [⟨tg,iter,[c],0⟩] scope pos) spos) (Y09 i js wi g tc te):=by
 intro pins s σ H D I h
 have S:=CompScope.of ho
 obtain⟨cl,hcl,c1,c2⟩:=Ti (scope:=scope) (env:=X.env) fun n hn=>I.ok.has n (S.free n hn)
 rw[exec_Assign_Name_used _ _ _ _ hsw]
 refine Aa (wpAny_standAt (Aa ?_))
 show wpAny _ _ (do let _ ←comprehension (.ListComp elt [⟨tg,iter,[c],0⟩] scope pos) scope X.env _ (newList []) false (eval iter X.env) (some (assign (.Name x px) X.env))) _ _ s
 refine Aa (Hl (Lj (use:=some (assign (.Name x px) X.env)) (Q:=fun _ s'=>SP X pins D .next s') rfl hs hcl S.kind S.loc (thn (hi pins s σ H _ I h) fun v s1 h1=>thn h1 fun itv s2 h2=>?_)) (fun _ s' hq=>Ab (Ab hq)) fun _ _ e=>e)
 obtain⟨it,fp,tn,J,H2,e,I2,T,st2,f2,q2⟩:=h2
 subst e
 refine Qz (QD:=fun E' Hc=>D.nx (σ.set i (some (.ref E'))) Hc) (R:=fun acc C=>compPost (model X.prog X.w) X.A X.xe (some (assign (.Name x px) X.env)) (fun _ s'=>SP X pins D .next s') acc C) hc S c1 c2 hg hq he I2 T st2 f2 q2 ?_
 rintro E' C Hc s4 ⟨m,hm⟩ J4 fC nL sC cC pC qd
 show wpAny _ _ (assign (.Name x px) X.env (.ref E')) _ _ s4
 refine wpAny_assign_Name (Qu J4 hN hx (.inl hl) (v:= .ref E') rfl (fun s5 J5 zz55=>?_) (.inr hl))
 obtain⟨a,sb,ha⟩:=zz55
 have hCa:C≠a:=by
  rcases ha with z | z
  ·rw[z];exact nL
  ·exact(cC x a z).symm
 refine⟨m,hm.sameBut sb hCa,fun h' hs'=>⟨σ.set i (some (.ref E')),Hc,?_,qd⟩⟩
 exact J5.turned (t':=s5.toks) (fun b o hb e=>(hs'.2 b hb).trans e) fC nL (.inr sC) cC pC
end
end L3
namespace L3
open PySem
def ExAt(h:Heap)(e:Addr)(cls:Value)(dd:Option Addr)(tb:Value):Prop:=∃oe vs,h.get? e=some oe∧(oe.cls=cls∧oe.dict=dd)∧oe.data= .fields vs∧vs[1]?=some tb
def TbAt(h:Heap)(T:Addr)(fl:Value):Prop:=∃oT ts,h.get? T=some oT∧oT.data= .fields ts∧ts[3]?=some fl
theorem ExAt.at{h h':Heap}{e:Addr}{cls:Value}{dd:Option Addr}{tb:Value}(x:ExAt h e cls dd tb)(k:∀o,h.get? e=some o→h'.get? e=some o):ExAt h' e cls dd tb:=
 let ⟨oe,vs,he,r⟩:=x;⟨oe,vs,k _ he,r⟩
theorem TbAt.at{h h':Heap}{T:Addr}{fl:Value}(x:TbAt h T fl)(k:∀o,h.get? T=some o→h'.get? T=some o):TbAt h' T fl:=
 let ⟨o,ts,he,r⟩:=x;⟨o,ts,k _ he,r⟩
structure Flown(fs xs:List Addr)(h h':Heap):Prop where
 keep:∀b o,h.get? b=some o→b∉fs→b∉xs→h'.get? b=some o
 slot:∀b o,h.get? b=some o→b∈fs→b∉xs→∃sl,h'.get? b=some {o with slots:=sl}
 there:∀b o,h.get? b=some o→∃o',h'.get? b=some o'
theorem Flown.refl(fs xs:List Addr)(h:Heap):Flown fs xs h h:=⟨fun _ _ e _ _=>e,fun _ o e _ _=>⟨o.slots,e⟩,fun _ o e=>⟨o,e⟩⟩
theorem Flown.trans{fs xs ys:List Addr}{h h1 h2:Heap}(a:Flown fs xs h h1)(b:Flown fs ys h1 h2)(hy:∀z∈ys,z∈xs∨h.get? z=none):Flown fs xs h h2 where
 keep:=fun c o e hf hx=>b.keep c o (a.keep c o e hf hx) hf fun z=>(hy c z).elim hx fun q=>by rw[q] at e;cases e
 slot:=fun c o e hf hx=>by
  obtain⟨sl,e1⟩:=a.slot c o e hf hx
  obtain⟨sl',e2⟩:=b.slot c _ e1 hf fun z=>(hy c z).elim hx fun q=>by rw[q] at e;cases e
  exact⟨sl',e2⟩
 there:=fun c o e=>by obtain⟨o1,e1⟩:=a.there c o e;exact b.there c o1 e1
end L3
namespace L3
open PySem PySem.W
section
variable{prog:Program}{w:World}{A:Around}{h:Heap}{g:Array GenState}{d:Drawn}{t:Nat}{os:OsState}
variable{nm q:Str}{C N f:Addr}{bs bm:List Value}{hdct:Bool}{sn:List Str}{sub:List Value}{ab:Bool}{col:Option Bool}{dd:Option Addr}{k0 k1 k2 k3 k5:Option Value}{Bn newId inN:String}{bmN:List Value}
structure ExcCls(h:Heap)(C:Addr)(nm q:Str)(N:Addr)(bs bm:List Value)(hdct:Bool)(sn:List Str)(sub:List Value)(ab:Bool)(col:Option Bool)(dd:Option Addr)(k0 k1 k2 k3 k5:Option Value)(Bn newId:String):Prop where
 obj:h.get? C=some (excClassObj nm q C N bs bm hdct sn sub ab col dd k0 k1 k2 k3 k5 newId)
 hB:(An C::bm).contains (.type Bn)=true
 hA:(An C::bm).contains (.type "AttributeError")=false
 hN:(An C::bm).contains (.type "NameError")=false
 hE:(An C::bm).contains (.type "BaseException")=true
end
end L3
namespace L3
open PySem PySem.W PySem.Calls PyProof.Rows Builtin Builtin.ObjectAttr
structure ExcSet(K:Frag)(C:Addr)(name:Str):Prop where
 cls:∃cd own,clsIn K C=some cd∧cd.hasDict=true∧cd.mro=own++[.type "ValueError",.type "Exception",.type "BaseException",.type "object"]∧∀v∈own,∃a,v=An a
 no:findIn K (.ref C) name=some none
 set:findIn K (.ref C) "__setattr__"=some (some (.builtin "object.__setattr__"))
section
variable{prog:Program}{w:World}{A:Around}{K:Frag}{C e:Addr}{s:Shared}{name:Str}{R:Result→Shared→Prop}
structure ExcGet(K:Frag)(C:Addr)(name:Str):Prop where
 cls:∃cd,clsIn K C=some cd∧cd.hasDict=true
 no:findIn K (.ref C) name=some none
 ga:findIn K (.ref C) "__getattribute__"=some (some (.builtin "BaseException.__getattribute__"))
 gh:findIn K (.ref C) "__getattr__"=some none
 base:mroIn K C (.type "BaseException")=some true
theorem Zw5(self:Value):bindSpecial (.builtin "BaseException.__getattribute__") self=pure (.builtin "BaseException.__getattribute__",[self]):=by kernel_rfl
theorem Zr2:builtinKind "BaseException.__getattribute__"=some .slot:=by decide+kernel
theorem Zn2:splitId "BaseException.__getattribute__"=some ("BaseException","__getattribute__"):=by decide+kernel
theorem Zm7:plainId "BaseException.__getattribute__"=true:=by decide+kernel
theorem Zr4(a b:Value):argsOk "BaseException.__getattribute__" ⟨[a,b],[]⟩:=by unfold argsOk;kernel_rfl
end
end L3
namespace L3
open PySem PySem.Spec PyProof.Rows L2
noncomputable def XO(e:Addr)(cls:Value)(dd:Option Addr):HO:= .ext fun h=>∃oe vs tb,h.get? e=some oe∧(oe.cls=cls∧oe.dict=dd)∧oe.data= .fields vs∧vs[1]?=some tb
theorem XO.at{P:Program}{w:World}{H:Hp}{h:Heap}{e:Addr}{cls:Value}{dd:Option Addr}(x:Xl P w H h e (XO e cls dd)):∃tb,ExAt h e cls dd tb:=by
 obtain⟨⟨oe,vs,tb,q1,q2,q3,q4⟩,_⟩:=x
 exact⟨tb,oe,vs,q1,q2,q3,q4⟩
noncomputable def CX1(P:Program)(w:World):CXT:=fun outer H s E e s'=>∃(ea T:Addr) (cls:Value) (dd:Option Addr) (H':Hp),e= .ref ea∧s'.os=s.os∧AllBare s'.gens∧Un (frs outer) [] H H' s.heap s'.heap∧HOk P w H' s'.heap∧
 (s.heap.objs.size≤ea∧s.heap.objs.size≤T)∧H' ea=some (XO ea cls dd)∧(H' T=none∧T≠ea)∧ExAt s'.heap ea cls dd (.ref T)∧TbAt s'.heap T .none∧E cls dd H'
structure Leaves(X:Cx)(E:XK):Prop where
 stk:X.stack=X.env::X.outer
 fr:X.env.frame=some X.env.locals
 ex:X.ex=[]
 xe:∀e s',wpAny (model X.prog X.w) X.A (leaving X.env e) (fun _ s''=>CX1 X.prog X.w X.outer X.H₀ X.s₀ E e s'') (fun e' s''=>CX1 X.prog X.w X.outer X.H₀ X.s₀ E e' s'') s'→X.xe e s'
structure ExcMk(K:Ae)(C f:Addr):Prop where
 cls:∃nm q N bs bm hdct sn sub ab col dd k0 k1 k2 k3 k5,K.lookup C=some (excClassObj nm q C N bs bm hdct sn sub ab col dd k0 k1 k2 k3 k5 "ValueError.__new__")∧(An C::bm).contains (.type "ValueError")=true∧
  (An C::bm).contains (.type "AttributeError")=false∧(An C::bm).contains (.type "NameError")=false∧(An C::bm).contains (.type "BaseException")=true
 init:Lx K (.ref C) "__init__"=some (some (.ref f))
 fn:PySem.W.isFn K (.ref f)=true
 kp:Ac K (.ref C)=true
theorem ExcMk.at{K:Ae}{C f:Addr}(M:ExcMk K C f){h:Heap}(k:K.In h):∃nm q N bs bm hdct sn sub ab col dd k0 k1 k2 k3 k5,ExcCls h C nm q N bs bm hdct sn sub ab col dd k0 k1 k2 k3 k5 "ValueError" "ValueError.__new__":=by
 obtain⟨nm,q,N,bs,bm,hdct,sn,sub,ab,col,dd,k0,k1,k2,k3,k5,h1,h2,h3,h4,h5⟩:=M.cls
 exact⟨nm,q,N,bs,bm,hdct,sn,sub,ab,col,dd,k0,k1,k2,k3,k5,k _ _ h1,h2,h3,h4,h5⟩
end L3
namespace L3
open PySem PySem.W PySem.Calls PyProof.Rows Builtin Builtin.ObjectAttr
section
variable{prog:Program}{w:World}{A:Around}{E:Value→Shared→Prop}{K:Frag}{C D e:Addr}{s:Shared}
structure ExcIs(K:Frag)(C:Addr):Prop where
 cls:∃cd,clsIn K C=some cd∧cd.hasDict=true
 ga:findIn K (.ref C) "__getattribute__"=some (some (.builtin "BaseException.__getattribute__"))
 gh:findIn K (.ref C) "__getattr__"=some none
 base:mroIn K C (.type "BaseException")=some true
 own:findIn K (.ref C) "__class__"=some (some (.builtin "object.__class__"))
 ds:specialIn K (.builtin "object.__class__") "__get__"=some (some (.builtin "getset_descriptor.__get__"))
 tk:takesIn K (.builtin "object.__class__")=some true
 obj:mroIn K C (.type "object")=some true
theorem Z51{oe:Obj}{od:Obj}{Q:Option Value→Shared→Prop}(X:K.In s.heap)(S:ExcIs K C)(J:InstAt s.heap e oe C (some od))(h:Q (some (.ref C)) {s with toks:=s.toks+1}):
  wpAny (model prog w) A (getAttr? (.ref e) "__class__") Q E s:=by
 obtain⟨⟨cd,hcd,hdict⟩,hga,hgh,hbase,hown,hds,htk,hobj⟩:=S
 obtain⟨hp,g,d,t,os⟩:=s
 have hf:findObj K C (some od) "__class__"=some (.bind (.builtin "getset_descriptor.__get__") (.builtin "object.__class__")):=findObj_data (by rw[hcd];rfl) hown hds htk
 have L0:=J.type (M:=model prog w)
 have L1:=looks_findIn (M:=model prog w) X hga
 have L2:=looks_findIn (M:=model prog w) X hgh
 have L3':=looks_find (M:=model prog w) X J hf
 have sub:Looks (model prog w) hp (isInstance (.ref e) (.type "BaseException")) true:=L0.andThen (looks_mroIn X hbase)
 unfold getAttr? getAttrBy? getAttrBy
 refine Aa (wpAny_mkText (Aa (Kw (Dy (Aa (L0.at (Aa (L1.at ?_))))))))
 show wpAny _ _ (getAttrByItsOwn _ _ _ _ _ _) _ _ _
 unfold getAttrByItsOwn
 refine Aa (L2.at (Aa (Kw (Dy ?_))))
 unfold callGetattribute
 rw[if_neg (by decide)]
 unfold boundAndCalled
 rw[Zw5]
 refine Aa (Ab (wpAny_call ?_))
 refine codeAny_call_builtin Zm7 F.entry_bexc_ga (@check_slot (model prog w) _ _ _ "BaseException.__getattribute__" "BaseException" "__getattribute__" (.ref e) [.str "__class__" t] [] _ Zr2 Zn2 sub (Zr4 (.ref e) (.str "__class__" t)) ?_)
 show wpAny _ _ (typeOf (.ref e) >>=fun tp=>find (.ref e) tp "__class__" >>=_) _ _ _
 refine Aa (L0.at (Aa (L3'.at ?_)))
 have hcall:=class_get (prog:=prog) (w:=w) (A:=A.in1) (s:=⟨hp,g,d,t+1,os⟩) (tp:= .ref C) (R:=fun r s'=>r= .ok (.ret (.ref C))∧s'=⟨hp,g,d,t+1,os⟩) X J hobj ⟨rfl,rfl⟩
 unfold bindTo
 refine Aa (Dy (wpAny_call (Lf hcall fun r s' z=>?_)))
 obtain⟨rfl,rfl⟩:=z
 refine Ab ?_
 show wpAny _ _ (handedOut (.ref C)) _ _ _
 exact handed_on rfl (Ab h)
end
end L3
namespace L3
open PySem PySem.Spec PyProof.Rows L2
section
variable{K:Ae}{C e:Addr}
theorem Cr{oe od:Obj}(S:ExcIs K C):PySem.W.KitX K (.ref e) (.ref C) (fun h=>PySem.W.InstAt h e oe C (some od)) where
 ty:=fun _ _ _ I=>I.type
 it:=fun _ _ X _=>by
  obtain⟨cd,hcd,_⟩:=S.cls
  unfold PySem.W.clsIn at hcd
  split at hcd
  ·rename_i ho
   intro A' Q' E' s' k q
   unfold isType loadHead
   exact Aa (wpAny_loadPart (k _ _ (X _ _ ho)) (Ab q))
  ·cases hcd
 ne:=fun h tp dd its n sl X htp=>by
  obtain⟨cd,hcd,_⟩:=S.cls
  refine Bool.eq_false_iff.mpr fun q=>?_
  have z:C=tp:=An.inj (beq_iff_eq.mp q)
  subst z
  unfold PySem.W.clsIn at hcd
  split at hcd
  ·rename_i ho
   have y:=(X _ _ ho).symm.trans htp
   cases y
  ·cases hcd
 ca:=fun X I k=>Z51 X S I k
variable{X:Cx}{pins:List (Addr×Obj)}{σ:L2.St}{H:Hp}{s:Shared}{dx:Addr}{fs:List (Str×V)}
theorem B8(I:Inv X pins σ H s)(he:H e=some (XO e (.ref C) (some dx)))(hd:H dx=some (.xd fs)):∃(oe od:Obj) (mA:Str→Option Value),PySem.W.InstAt s.heap e oe C (some od)∧(∀name,PySem.W.lookIn name od=some (mA name))∧∀f,RelO (fs.lookup f) (mA f):=by
 obtain⟨tb,oe,vs,h1,⟨h2,h3⟩,h4,_⟩:=XO.at (I.hok e _ he)
 obtain⟨mA,hn,hr⟩:=(show Xl X.prog X.w H s.heap dx (.xd fs) from I.hok dx _ hd)
 obtain⟨od,q1,q2⟩:=Jd hn
 refine⟨oe,od,mA,⟨h1,h2,by unfold PySem.W.notCls;rw[h4],by rw[h3];exact q1⟩,q2,hr⟩
def rIsX(K:Ae):List V→Hp→VK→Prop:=fun xs H Q=>∃e C dx fs c cv b,xs=[.ref e,c]∧H e=some (XO e (.ref C) (some dx))∧H dx=some (.xd fs)∧ExcIs K C∧(∀u,RelV c u→u=cv)∧Kh K (.ref C) cv=some b∧Q (.bl b) H
theorem Ba:W0 X (.builtin "isinstance") (rIsX X.K):=by
 intro pins s σ H xs us Q I r h
 obtain⟨e,C,dx,fs,c,cv,b,rfl,he,hd,S,hc,k,q⟩:=h
 obtain⟨u,v,rfl,ru,rv⟩:=Gr r
 obtain rfl:u=An e:=ru
 cases hc v rv
 obtain⟨oe,od,mA,J,_⟩:=B8 I he hd
 exact Hu (Cr S) I.kIn J k (fun z=>nomatch z) fun tk=>⟨.bl b,H,I.tok tk,rfl,q⟩
end
def XP(X:Cx)(pins:List (Addr×Obj))(σ:L2.St)(E:XK)(x:Value)(s':Shared):Prop:=∃(e T:Addr) (cls:Value) (dd:Option Addr) (H':Hp),x= .ref e∧Inv X pins σ H' s'∧FpOk X pins H' T∧T≠e∧H' e=some (XO e cls dd)∧
 ExAt s'.heap e cls dd (.ref T)∧TbAt s'.heap T .none∧E cls dd H'
structure Catch(K:Ae)(C D:Addr)(b:Bool):Prop where
 ty:PySem.W.typeIn K (.ref D)=some (.type "type")
 cls:(PySem.W.clsIn K D).isSome=true
 exc:PySem.W.mroIn K D (.type "BaseException")=some true
 sub:PySem.W.mroIn K C (.ref D)=some b
section
open PySem.W
end
end L3
namespace L3
open PySem PyProof.Rows
section
variable{prog:Program}{w:World}{A:Around}{E:Value→Shared→Prop}{s:Shared}
abbrev Zn7(h:Heap)(z TI TO:Addr)(f0:Value)(b:Bool):Prop:=
 h.get? z=some {cls:= .type "zip",dict:=none,data:= .fields #[f0,.bool b,.bool false,.ref TI,.ref TO],slots:=#[]}
end
section
variable{prog:Program}{w:World}{A:Around}{E:Value→Shared→Prop}{s:Shared}
structure ZS(h0 h:Heap)(S z TI TO i1 i2 l1 l2:Addr)(xs ys:Array Value)(Ts:List Addr):Prop where
 kept:∀b o,h0.get? b=some o→h.get? b=some o
 zp:(Ts=[]∧Zn7 h z TI TO .none false∧∃a b,IsPair h TO a b)∨∃(T:Addr) (b:Bool) (oT:Obj),Zn7 h z TI TO (rawInt T) b∧h.get? T=some oT
 ti:IsPair h TI (.ref i1) (.ref i2)
 to:∃o,h.get? TO=some o
 t1:h.IsListIter i1 l1 Ts.length
 t2:h.IsListIter i2 l2 Ts.length
 nd:Ts.Nodup
 tp:∀(j:Nat) T,Ts[j]?=some T→∃x y,xs[j]?=some x∧ys[j]?=some y∧IsPair h T x y
 tb:∀T∈Ts,h0.objs.size≤T∧T≠z∧T≠TO∧T≠i1∧T≠i2∧T≠S
structure ZF(h0:Heap)(S z TI TO i1 i2 l1 l2:Addr)(xs ys:Array Value):Prop where
 D:ZipApart z TI TO i1 i2 l1 l2
 l1:h0.IsList l1 xs
 l2:h0.IsList l2 ys
 nz:h0.objs.size≤z
 nTO:h0.objs.size≤TO
 n1:h0.objs.size≤i1
 n2:h0.objs.size≤i2
 nS:h0.objs.size≤S
 sz:S≠z
 sTI:S≠TI
 sTO:S≠TO
 s1:S≠i1
 s2:S≠i2
end
structure ZEnd(h0 h:Heap)(S:Addr)(xs ys:Array Value)(Ts:List Addr):Prop where
 kept:∀b o,h0.get? b=some o→h.get? b=some o
 len:Ts.length=min xs.size ys.size
 nd:Ts.Nodup
 tp:∀(j:Nat) T,Ts[j]?=some T→∃x y,xs[j]?=some x∧ys[j]?=some y∧IsPair h T x y
 tb:∀T∈Ts,h0.objs.size≤T∧T≠S
 so:∃c,h.get? S=some {cls:= .type "list",dict:=none,data:= .seq (Ts.map An).toArray c,slots:=#[]}
end L3
namespace L3
open PySem PySem.Spec PyProof.Rows L2
section
variable{X:Cx}
noncomputable def eqVs(vs ys:List V):Bool:=(Ij (min vs.length ys.length)).all (fun j=>eqV (vs.getD j .non) (ys.getD j .non))&&vs.length==ys.length
noncomputable def eqUT(H:Hp)(ys:List V):Value→Bool
 | .ref a=>match H a with
  | some (.tup vs)=>eqVs vs ys
  | _=>false
 | _=>false
theorem Zf0{x:V}(h:Wu x=true):eqV x x=true:=by
 cases x<;>first | rfl | (simp[eqV];done) | exact absurd (show false=true from h) Bool.false_ne_true
theorem Zc4{xs:List V}(h:xs.all Wu=true):eqVs xs xs=true:=by
 unfold eqVs
 rw[Bool.and_eq_true,Dk]
 refine⟨fun j hj=>?_,by simp⟩
 rw[Ia] at hj
 have hl:j<xs.length:=by omega
 rw[Dk] at h
 rw[Dz,Ag hl]
 exact Zf0 (h _ (Go hl))
theorem Y86{A:Around}{pins:List (Addr×Obj)}{σ:L2.St}{H:Hp}{s:Shared}(I:Inv X pins σ H s)(hu:A.units+2<cLine){a b:Addr}{vs ys:List V}(ha:H a=some (.tup vs))(hb:H b=some (.tup ys))(fa:vs.all Wu=true)(fb:ys.all Wu=true):Dt A s (.ref a) (.ref b) (eqVs vs ys):=by
 by_cases e:a=b
 ·subst e
  rw[ha] at hb
  cases hb
  rw[Zc4 fa]
  exact Dt.same _
 ·obtain⟨us,ru,ta,_⟩:=I.tuple (.of ha)
  obtain⟨ws,rw',tb,_⟩:=I.tuple (.of hb)
  have l1:=ru.length
  have l2:=rw'.length
  have key:=SeqAt.RcAt.tuples (A:=A) (e:=fun j=>eqV (vs.getD j .non) (ys.getD j .non)) ta tb (by omega) (fun j h1 h2=>by
   have j1:j<vs.length:=by rw[Aj] at h1;omega
   have j2:j<ys.length:=by rw[Aj] at h2;omega
   obtain⟨u,e1,r1⟩:=ru.get (Ag j1)
   obtain⟨w,e2,r2⟩:=rw'.get (Ag j2)
   have x1:us.toArray[j]=u:=by have:=(Af.mp e1).2;simpa using this
   have x2:ws.toArray[j]=w:=by have:=(Af.mp e2).2;simpa using this
   rw[x1,x2,Dz,Dz,Ag j1,Ag j2]
   rw[Dk] at fa fb
   exact Cb r1 r2 (fa _ (Go j1)) (fb _ (Go j2)))
  have hs:((Ij (min us.toArray.size ws.toArray.size)).all (fun j=>eqV (vs.getD j .non) (ys.getD j .non))&&us.toArray.size==ws.toArray.size)=eqVs vs ys:=by
   unfold eqVs
   rw[Aj,Aj,l1,l2]
  rw[hs] at key
  exact Dt.of_refs e key
theorem Zw9{pins:List (Addr×Obj)}{σ:L2.St}{H:Hp}{s:Shared}{h':Heap}{t':Nat}{a b:Addr}(I:Inv X pins σ H s)(k:∀c o,c≠a→c≠b→s.heap.get? c=some o→h'.get? c=some o)(fa:FpOk X pins H a)(fb:FpOk X pins H b):Inv X pins σ H {s with heap:=h',toks:=t'}:=by
 have na:∀c u,H c=some u→c≠a:=by
  intro c u e z
  rw[z,fa.1] at e
  cases e
 have nb:∀c u,H c=some u→c≠b:=by
  intro c u e z
  rw[z,fb.1] at e
  cases e
 have kk:∀c o,c∉[a,b]→s.heap.get? c=some o→h'.get? c=some o:=by
  intro c o hc e
  refine k c o ?_ ?_ e
  ·intro z;apply hc;rw[z];simp
  ·intro z;apply hc;rw[z];simp
 refine I.step (ch:=[a,b]) (g':=s.gens) (d':=s.drawn) ?_ ?_ ?_ ?_ ?_ ?_ ?_ ?_ ?_ ?_ I.bare
 ·intro c hc
  have:c=a∨c=b:=by simpa using hc
  rcases this with rfl | rfl
  ·exact⟨fa.2.2.2.1,fa.2.1,fa.2.2.2.2.1,fa.2.2.2.2.2⟩
  ·exact⟨fb.2.2.2.1,fb.2.1,fb.2.2.2.2.1,fb.2.2.2.2.2⟩
 ·intro c o _ _ hc e _;exact kk c o hc e
 ·intro c o _ _ hc e _;exact⟨o.slots,kk c o hc e⟩
 ·intro _ _ _ _ n;exact n
 ·intro c o hc e;exact⟨o,kk c o hc e⟩
 ·intro _ _ e;exact e
 ·intro _ _ _ e;exact e
 ·intro c ps e;exact⟨#[],by rw[e];simp⟩
 ·rintro m ⟨o,es,ep,ho,r⟩
  exact⟨o,es,ep,k _ o (Dm fa.2.1) (Dm fb.2.1) ho,r⟩
 ·intro c u e
  refine(I.hok c u e).stay ?_ (fun _ q=>q) fun _ _ q=>q
  intro d v hd q
  rcases hd with z | z
  ·subst z;exact k d v (na d u e) (nb d u e) q
  ·exact k d v (na d _ z) (nb d _ z) q
noncomputable def Ite(K:Ae)(a:Addr):It:=
 ⟨fun i H=>∃xs x,SqL K H a xs∧xs[i]?=some x,fun i H x H'=>∃p y,H p=none∧H'=upd H p (.tup [.int i,y])∧x= .ref p∧∀xs,SqL K H a xs→xs[i]?=some y,fun i H=>∃xs,SqL K H a xs∧xs.length≤i⟩
theorem Sx{h:Heap}{o u:Obj}{b:Addr}(e:(h.push o).get? b=some u):h.get? b=some u∨b=h.objs.size:=by
 by_cases hb:b=h.objs.size
 ·exact .inr hb
 ·refine .inl ?_
  have hl:=Ai e
  rw[Hr] at hl
  obtain⟨e1,e2⟩:=Heap.get?_some_iff.mp e
  refine Heap.get?_some_iff.mpr ⟨?_,e2⟩
  cases h
  simpa[Heap.push,Array.getElem?_push,hb] using e1
theorem Zd0{P:Program}{w:World}{K:Ae}{elts:List Expr}{x1:Nat}{tp:Pos}(a e it:Addr)(hne:e≠it):
  Turn P w K (.Tuple elts x1 tp) (Ite K a) [e,it] e (fun i h=>(∃old,IsEnum h e it i old)∧h.IsListIter it a i) where
 mem:=by simp
 obj:=by
  rintro i h ⟨⟨old,he⟩,hit⟩ b hb
  have:b=e∨b=it:=by simpa using hb
  rcases this with rfl | rfl
  ·exact⟨_,he,fun v z=>by cases z⟩
  ·obtain⟨o,e,c,d⟩:=hit
   exact⟨o,e,fun v z=>by rw[d] at z;cases z⟩
 keep:=by
  rintro i h h' ⟨⟨old,he⟩,hit⟩ k
  exact⟨⟨old,k e (by simp) _ he⟩,hit.at fun o z=>k it (by simp) o z⟩
 item:=by
  rintro X rfl rfl rfl hc i pins s σ H E I hf ⟨⟨old,he⟩,hit⟩ ⟨xs,x,hq,hx⟩
  obtain⟨its,rv,p,hz⟩:=I.list hq
  obtain⟨u,hu,ru⟩:=rv.get hx
  have fe:=hf e (by simp)
  have fi:=hf it (by simp)
  have le:e<s.heap.objs.size:=Ai he
  have li:it<s.heap.objs.size:=by obtain⟨o,z,_⟩:=hit;exact Ai z
  refine wpAny_pyNext_enum_item he hit p.isList (x:=u) (by simpa using hu) hne fun h1 ho hit1 hT hsz hk=>?_
  refine⟨_,rfl,wpAny_letOwnedTupleGo_enum ho fun h2 he2 hs2=>?_⟩
  replace hs2:Dn e h1 h2:=hs2
  have hT2:h2.get? s.heap.objs.size=some {cls:= .type "tuple",data:= .seq #[.int i s.toks,u]}:=(hs2.2 _ (Nat.ne_of_gt le)).trans hT
  have hn:H s.heap.objs.size=none:=I.hok.fresh (Nat.le_refl _)
  have I1:Inv X pins σ (upd H s.heap.objs.size (.tup [.int i,x])) {s with heap:=s.heap.push {cls:= .type "tuple",data:= .seq #[.int i s.toks,u]},toks:=s.toks+1}:=by
   refine I.laid (fun b ob q=>Ad _ q) (Nat.le_refl _) ⟨show 2≤sizeLine by rw[Hv];omega,[.int i s.toks,u],.cons ⟨_,rfl⟩ (.cons ru .nil),⟨_,Al _ rfl,rfl,_,rfl⟩⟩
  have up:∀b,b<s.heap.objs.size→FpOk X pins H b→FpOk X pins (upd H s.heap.objs.size (.tup [.int i,x])) b:=by
   rintro b lb ⟨f0,f⟩
   refine⟨?_,f⟩
   rw[Zw (Nat.ne_of_lt lb)]
   exact f0
  have I2:=Zw9 (h':=h2) (t':=s.toks+1) I1 (fun c o ha hb e'=>by
   rcases Sx e' with z | z
   ·exact(hs2.2 c ha).trans (hk c o ha hb z)
   ·subst z
    have z2:(s.heap.push {cls:= .type "tuple",data:= .seq #[.int i s.toks,u]}).get? s.heap.objs.size=some o:=e'
    rw[Al _ rfl] at z2
    cases z2
    exact hT2) (up e le fe) (up it li fi)
  refine⟨.ref s.heap.objs.size,_,I2,rfl,⟨_,x,hn,rfl,rfl,fun ys hy=>by rw[I.list_inj hy hq];exact hx⟩,⟨⟨_,by simpa using he2⟩,hit1.at fun o z=>(hs2.2 it (Dm hne)).trans z⟩,fun b hb=>?_⟩
  have:b=e∨b=it:=by simpa using hb
  rcases this with rfl | rfl
  ·exact(up _ le fe).1
  ·exact(up _ li fi).1
 done:=by
  rintro X rfl rfl rfl hc i pins s σ H E I hf ⟨⟨old,he⟩,hit⟩ ⟨xs,hq,hx⟩
  obtain⟨its,rv,p,hz⟩:=I.list hq
  obtain⟨f0,f1,f2,f3,f4,f5⟩:=hf it (by simp)
  have hl:=rv.length
  exact wpAny_pyNext_enum_end (I.ok.hd hc) he hit p.isList (by simp;omega) fun h' eb=>⟨rfl,I.turned (t':=s.toks) (fun b o hb e=>eb b o hb e) f0 f1 f3 f4 f5⟩
 self:=by
  rintro A i s Q E ⟨⟨old,he⟩,hit⟩ h
  exact wpAny_pyIter_enum he h
def Y98(K:Ae)(ta:TA):TI:=fun σ H R=>ta σ H fun vs H1=>∃a,vs=[V.ref a]∧(∃xs,SqL K H1 a xs)∧R (Ite K a) H1
theorem Zy2{elts:List Expr}{x1:Nat}{tp:Pos}{l:Expr}{ta:TA}{p pos:Pos}(hg:Gl X "enumerate")(hm:X.mg "enumerate"=none)(ha:PA X [l] ta)(hs:starEach [l] X.env=[(false,eval l X.env)]):
  PI X (.Tuple elts x1 tp) (.Call (.Name "enumerate" p) [l] [] pos) (Y98 X.K ta):=by
 intro pins s σ H R I h
 refine Call_ (Qo I hg hm (u:= .type "enumerate") (by kernel_rfl) (Iv (thn (ha pos pins s σ H _ I h) fun us s1 zz56=>?_) hs rfl))
 obtain⟨vs,H1,I1,r1,q1⟩:=zz56
 obtain⟨a,rfl,⟨xs,hq⟩,q⟩:=q1
 obtain⟨u,rfl,ru⟩:=Vl r1
 cases ru
 obtain⟨its,rv,pl,hz⟩:=I1.list hq
 refine call_enumerate_list pl.isList fun h' he hit hsz hk=>?_
 refine wpAny_pyIter_enum he ?_
 have hne:s1.heap.objs.size+1≠s1.heap.objs.size:=by omega
 refine⟨s1.heap.objs.size+1,[s1.heap.objs.size+1,s1.heap.objs.size],_,_,H1,rfl,I1.kept (t':=s1.toks) hk,Zd0 a _ _ hne,⟨⟨_,he⟩,hit⟩,fun b hb=>?_,q⟩
 have hb':s1.heap.objs.size≤b:=by
  have:b=s1.heap.objs.size+1∨b=s1.heap.objs.size:=by simpa using hb
  rcases this with rfl | rfl
  ·exact Nat.le_succ _
  ·exact Nat.le_refl _
 exact I1.fpOk hb' (I1.hok.fresh hb')
end
end L3
namespace PySem
theorem Gq:typeLookup (.type "list") "keys"=pure none:=by rw[Mc,Ku];kernel_rfl
theorem Zr1{prog:Program}{w:World}{A:Around}{E:Value→Shared→Prop}{s:Shared}{a:Addr}{o:Obj}{xs:Array Value}{k:Nat}{name:Str}{u:Tok}{Q:Value→Shared→Prop}
  (hx:s.heap.get? a=some o) (hc:o.cls= .type "list") (hdat:o.data= .seq xs k) (hd:o.dict=none) (hmiss:typeLookup (.type "list") name=pure none) (hname:(["__module__","__name__","__qualname__","__doc__","__annotations__"]:List Str).contains name=false) (hA:A.handled=none)
  (h:∀h' tk e,Heap.NewExcOf s.heap h' e "AttributeError"→E (.ref e) {s with heap:=h',toks:=tk}) (hsz:name.length+100≤sizeLine:=by size_fits):
  wpAny (model prog w) A (getAttrBy (.ref a) (.str name u) false) Q E s:=by
 obtain⟨c,dct,dat,sl⟩:=o
 simp only at hc hdat hd
 subst hc hdat hd
 obtain⟨hp,g,d,tk,os⟩:=s
 have hT:∀tk',(⟨hp,g,d,tk',os⟩:Shared).TypeIs (.ref a) "list":=fun _=>⟨_,hx,rfl⟩
 have f1:=sub_AttributeError
 have f3:=F.slot_list_getattribute.lookup
 have f4:=F.slot_list_getattribute.bind (.ref a)
 have f5:=am_list_getattr_none
 unfold getAttrBy
 repeat (any_goals (first | assumption | exact hT _ | ((with_reducible show wpAny _ _ (call (Ma "list.__getattribute__") _ _) _ _ _);refine Lb F.slot_list_getattribute (hT _) am_entry_list_getattribute (F.args_list_getattribute_2 _ _) (meets_getattribute_miss_list a xs k sl name _ hmiss hname hsz) ⟨hx,hA,fun h' tk' e hx'=>?_⟩) | wp_step))
 obtain⟨t',u',he⟩:=hx'.there
 show wpAny _ _ (getattributeRaised _ _ _ _ _ _ _) _ _ _
 unfold getattributeRaised
 repeat (any_goals (first | assumption | wp_step))
 exact h _ _ _ hx'.of
theorem Zx9{prog:Program}{w:World}{A:Around}{E:Value→Shared→Prop}{s:Shared}{a:Addr}{o:Obj}{xs:Array Value}{k:Nat}{Q:Option Value→Shared→Prop}
  (hx:s.heap.get? a=some o) (hc:o.cls= .type "list") (hdat:o.data= .seq xs k) (hd:o.dict=none) (hA:A.handled=none)
  (h:∀h' tk,(∀b o,s.heap.get? b=some o→h'.get? b=some o)→Q none {s with heap:=h',toks:=tk}):wpAny (model prog w) A (getAttr? (.ref a) "keys") Q E s:=by
 obtain⟨hp,g,d,tk,os⟩:=s
 unfold getAttr? getAttrBy?
 have f1:=sub_AttributeError
 repeat (any_goals (first | assumption | ((with_reducible show wpAny _ _ (getAttrBy _ _ false) _ _ _);refine Zr1 hx hc hdat hd Gq (by decide+kernel) hA fun h' tk' e hx'=>?_;obtain⟨ob,vs,he,hcl,_,_⟩:=hx'.there;refine Aa (Lk (T:="AttributeError") ⟨ob,he,hcl⟩ f1 ?_);exact Ab (h h' tk' hx'.keeps)) | wp_step))
section
variable{prog:Program}{w:World}{A:Around}{E:Value→Shared→Prop}{R:Result→Shared→Prop}
theorem Sl:entryFor table "dict.update.loop"=some Builtin.«dict.update.loop»:=entryFor_of_tree (by kernel_rfl)
theorem W9:plainId "dict.update.loop"=true:=by decide+kernel
def Zq9{K:Type}[DecidableEq K](knd:KeyKind prog w K)(h:Heap)(v:Value)(p:K×Value):Prop:=∃t u,v= .ref t∧h.IsTuple t #[u,p.2]∧knd.is p.1 u=true
theorem Ce{K:Type}[DecidableEq K]{knd:KeyKind prog w K}{h:Heap}{d I l:Addr}{i:Nat}{kvs:List (K×Value)}(hd:h.DictOf knd d kvs)(hI:h.IsListIter I l i):d≠I:=by
 rintro rfl
 obtain⟨o,_,_,ho,_,hc,_⟩:=hd
 obtain⟨o2,ho2,_,hc2⟩:=hI
 rw[ho] at ho2
 cases ho2
 rw[hc] at hc2
 cases hc2
theorem Zt2{K:Type}[DecidableEq K]{knd:KeyKind prog w K}{l I d:Addr}{items:Array Value}{ps:List (K×Value)}(hh:A.in1.handled=none)(hsz:items.size<sizeLine)(hps:ps.length=items.size):
  ∀(k i:Nat) (s:Shared) (kvs:List (K×Value)) (t:Tok),items.size - i=k→i≤items.size→kvs.length≤i→
  s.heap.IsListIter I l i→s.heap.IsList l items→s.heap.DictOf knd d kvs→(∀(j:Nat) v p,items[j]?=some v→ps[j]?=some p→Zq9 knd s.heap v p)→
  (∀h' tk,h'.DictOf knd d ((ps.drop i).foldl (fun m p=>stored m p.1 p.2) kvs)→(∀b o,b≠I→b≠d→s.heap.get? b=some o→h'.get? b=some o)→R (.ok (.ret .none)) {s with heap:=h',toks:=tk})→
  codeAny (model prog w) A (.builtin "dict.update.loop" ⟨[.ref d,.ref I,.int i t,.none],[]⟩) R s:=by
 intro k
 induction k with
 | zero=>
  intro i s kvs t hk hi hkv hI hl hd hp q
  have hin:i=items.size:=by omega
  refine Kc Sl ?_
  rw[Io W9 _]
  show wpAny _ A.in1 (pyNext (.ref I) >>=_) _ _ s
  refine Aa (wpAny_pyNext_list_end hh hI hl (by rw[hin];simp) fun h' he=>?_)
  show wpAny _ _ (Builtin.Dict.addKeywords d [] >>=_) _ _ _
  refine Aa (Ab (Ab ?_))
  have hdI:=Ce hd hI
  refine q h' _ ?_ fun b o h1 _ e=>he b o h1 e
  rw[List.drop_of_length_le (by omega)]
  exact hd.extBut he hdI
 | succ k ih=>
  intro i s kvs t hk hi hkv hI hl hd hp q
  have hlt:i<items.size:=by omega
  obtain⟨v,hv⟩:∃v,items[i]?=some v:=⟨_,De hlt⟩
  obtain⟨p,hpi⟩:∃p,ps[i]?=some p:=⟨_,Ag (by omega)⟩
  refine Kc Sl ?_
  rw[Io W9 _]
  show wpAny _ A.in1 (pyNext (.ref I) >>=_) _ _ s
  refine Aa (wpAny_pyNext_list_item hI hl hv fun h' hI' hs'=>?_)
  obtain⟨tt,u,rfl,htp,hku⟩:=hp i v p hv hpi
  have hdI:=Ce hd hI
  have keepI:∀b o,b≠I→s.heap.get? b=some o→h'.get? b=some o:=fun b o hb e=>(hs'.2 b hb).trans e
  have tI:tt≠I:=by
   rintro rfl
   obtain⟨o,ho,_,n,hc⟩:=htp
   obtain⟨o2,ho2,_,hc2⟩:=hI
   rw[ho] at ho2;cases ho2;rw[hc] at hc2;cases hc2
  have lI:l≠I:=by
   rintro rfl
   obtain⟨o,ho,_,n,hc⟩:=hl
   obtain⟨o2,ho2,_,hc2⟩:=hI
   rw[ho] at ho2;cases ho2;rw[hc] at hc2;cases hc2
  have nd:∀(b:Addr) (o:Obj) xs n,s.heap.get? b=some o→o.data= .seq xs n→b≠d∧b≠I:=by
   intro b o xs n ho hc
   constructor
   ·rintro rfl
    obtain⟨o2,_,_,ho2,_,hc2,_⟩:=hd
    rw[ho] at ho2;cases ho2;rw[hc] at hc2;cases hc2
   ·rintro rfl
    obtain⟨o2,ho2,_,hc2⟩:=hI
    rw[ho] at ho2;cases ho2;rw[hc] at hc2;cases hc2
  obtain⟨ot,hot,hct,nt,hdt⟩:=id htp
  show wpAny _ _ (holding [.ref tt] _ >>=_) _ _ _
  refine Aa (Dy (Aa (wpAny_tryCatch ?_)))
  unfold Builtin.Dict.pairItems
  refine Aa (Lh (T:="tuple") ⟨ot,keepI _ _ tI hot,hct⟩ ?_)
  rw[if_pos (by decide)]
  refine Aa (Ip (keepI _ _ tI hot) hdt ?_)
  refine Ab ?_
  show wpAny _ _ (holding [u,p.2] (dictSet d u p.2)) _ _ _
  have hd':h'.DictOf knd d kvs:=hd.extBut (fun b o hb e=>keepI b o hb e) hdI
  refine Dy (wpAny_dictSet_pairs hku hd' (fun h2 hd2 hs2=>?_) (by omega))
  refine Ab ⟨Kf W9 _,?_⟩
  have keep2:∀b o,b≠I→b≠d→s.heap.get? b=some o→h2.get? b=some o:=fun b o h1 h3 e=>(hs2.2 b h3).trans (keepI b o h1 e)
  have:=ih (i+1) {s with heap:=h2,toks:=s.toks+1} (stored kvs p.1 p.2) 0 (by omega) (by omega) ?_ ?_ ?_ hd2 ?_ ?_
  ·exact this
  ·unfold stored
   split
   ·rw[Ah];omega
   ·rw[Ay,Ly];omega
  ·obtain⟨o,ho,r⟩:=hI'
   exact⟨o,(hs2.2 I (Dm hdI)).trans ho,r⟩
  ·obtain⟨o,ho,hc,n,r⟩:=hl
   exact⟨o,keep2 _ _ (nd _ _ _ _ ho r).2 (nd _ _ _ _ ho r).1 ho,hc,n,r⟩
  ·intro j v p' h1 h3
   obtain⟨t3,u3,e3,⟨o,ho,hc,n,r⟩,g3⟩:=hp j v p' h1 h3
   exact⟨t3,u3,e3,⟨o,keep2 _ _ (nd _ _ _ _ ho r).2 (nd _ _ _ _ ho r).1 ho,hc,n,r⟩,g3⟩
  ·intro h3 tk3 hd3 k3
   refine q h3 tk3 ?_ fun b o h1 h4 e=>k3 b o h1 h4 (keep2 b o h1 h4 e)
   rw[Ik (by omega:i<ps.length)]
   rw[Ag (by omega)] at hpi
   cases hpi
   exact hd3
variable{s:Shared}
theorem Zw6{K:Type}[DecidableEq K]{knd:KeyKind prog w K}{l:Addr}{o:Obj}{n:Nat}{items:Array Value}{ps:List (K×Value)}{Q:Value→Shared→Prop}(hh:A.handled=none)
  (ho:s.heap.get? l=some o) (hc:o.cls= .type "list") (hdat:o.data= .seq items n) (hdi:o.dict=none) (hsz:items.size<sizeLine) (hps:ps.length=items.size)
  (hp:∀(j:Nat) v p,items[j]?=some v→ps[j]?=some p→Zq9 knd s.heap v p)
  (h:∀h' tk,h'.DictOf knd s.heap.objs.size (ps.foldl (fun m p=>stored m p.1 p.2) [])→(∀b o,s.heap.get? b=some o→h'.get? b=some o)→Q (.ref s.heap.objs.size) {s with heap:=h',toks:=tk}):
  wpAny (model prog w) A (call (.type "dict") [.ref l]) Q E s:=by
 refine callType_codes (Q₁:=fun obj s₁=>obj= .ref s.heap.objs.size∧s₁={s with heap:=s.heap.push {cls:= .type "dict",data:= .dict #[]}}) F.kt_called_dict (F.kt_typeCall_dict_1 _) F.entry_dict_init (kt_code_dict_new _ ⟨rfl,rfl⟩) ?_
 rintro obj s₁ ⟨rfl,rfl⟩
 have hnew:(s.heap.push {cls:= .type "dict",data:= .dict #[]}).DictOf knd s.heap.objs.size []:=Heap.DictOf.new s.heap
 refine⟨hnew.typeIs,F.args_dict_init_2 _ _,?_⟩
 unfold Builtin.«dict.__init__»
 refine Aa ?_
 unfold Builtin.Dict.selfAndRest
 refine Aa (wpAny_notOrdered_dict hnew.typeIs ?_)
 show wpAny _ _ (pure (s.heap.objs.size,[An l])) _ _ _
 refine Ab ?_
 show wpAny _ _ (Builtin.Dict.updateFrom "dict.__init__" s.heap.objs.size (.ref l) [] .none) _ _ _
 unfold Builtin.Dict.updateFrom
 have ho':(s.heap.push {cls:= .type "dict",data:= .dict #[]}).get? l=some o:=Ad _ ho
 refine Aa (Lh (T:="list") ⟨o,ho',hc⟩ ?_)
 rw[if_pos (by decide)]
 refine Aa (Zx9 ho' hc hdat hdi (by first | exact hh | rfl) fun h1 tk1 k1=>?_)
 simp only[Option.isNone_none,if_true]
 have hl1:h1.IsList l items:=⟨o,k1 _ _ ho',hc,n,hdat⟩
 have hd1:h1.DictOf knd s.heap.objs.size []:=by
  obtain⟨q,es,ep,hq,r⟩:=hnew
  exact⟨q,es,ep,k1 _ _ hq,r⟩
 have old:∀b o,s.heap.get? b=some o→h1.get? b=some o:=fun b o e=>k1 b o (Ad _ e)
 refine Aa (Lu ?_)
 refine Aa (Ky hl1 ?_)
 refine Ab ⟨Kf W9 _,?_⟩
 refine Zt2 (A:=A.in1) (knd:=knd) (ps:=ps) hh hsz hps _ 0 _ [] 0 rfl (Nat.zero_le _) (Nat.zero_le _) ⟨_,Al _ rfl,rfl,rfl⟩ (hl1.push _) (hd1.push _) ?_ ?_
 ·intro j v p h2 h3
  obtain⟨t,u,e,⟨q,hq,r⟩,g⟩:=hp j v p h2 h3
  exact⟨t,u,e,⟨q,Ad _ (old _ _ hq),r⟩,g⟩
 ·intro h' tk hd' hk
  refine⟨rfl,h h' tk hd' fun b o e=>hk b o ?_ ?_ (Ad _ (old _ _ e))⟩
  ·exact Nat.ne_of_lt (Ai (old _ _ e))
  ·exact Nat.ne_of_lt (Ai e)
end
end PySem
namespace L3
open PySem PySem.Spec PyProof.Rows L2
section
variable{X:Cx}{pins:List (Addr×Obj)}{σ:L2.St}{H:Hp}{s:Shared}
def Fc(K:Ae)(H:Hp):List V→List (Key×V)→Prop
 | [],[]=>True
 | v::r,p::q=>(∃t,v= .ref t∧SqT K H t [kV p.1,p.2])∧Fc K H r q
 | _,_=>False
theorem B1(I:Inv X pins σ H s):∀(vs:List V) (its:List Value) (ps:List (Key×V)),Vals vs its→Fc X.K H vs ps→∃ps',KV ps ps'∧ps'.length=its.length∧∀(j:Nat) v p,its[j]?=some v→ps'[j]?=some p→Zq9 (Yk X.prog X.w) s.heap v p
 | [],its,ps,r,h=>by
  cases ps with
  | cons _ _=>exact h.elim
  | nil=>
   have:=r.length
   cases its with
   | cons _ _=>simp at this
   | nil=>exact⟨[],by constructor,rfl,fun j v p h=>by simp at h⟩
 | v::vs,its,ps,r,h=>by
  cases ps with
  | nil=>exact h.elim
  | cons p ps=>
   obtain⟨⟨t,rfl,ht⟩,h⟩:=h
   cases r with
   | @cons _ u _ its ru r=>
   cases (show u=An t from ru)
   obtain⟨w2,r2,ht2,_⟩:=I.tuple ht
   obtain⟨u1,u2,rfl,s1,s2⟩:=Gr r2
   obtain⟨ps',k1,k2,k3⟩:=B1 I vs its ps r h
   refine⟨(p.1,u2)::ps',.cons ⟨rfl,s2⟩ k1,by rw[Dc,Dc,k2],fun j v q h1 h2=>?_⟩
   cases j with
   | zero=>
    cases h1;cases h2
    exact⟨t,u1,rfl,ht2,Jt s1⟩
   | succ j=>exact k3 j v q h1 h2
theorem Z89:∀{ps:List (Key×V)} {ps':List (Key×Value)} {kvs:List (Key×V)} {vs:List (Key×Value)},KV ps ps'→KV kvs vs→KV (ps.foldl (fun m p=>putK m p.1 p.2) kvs) (ps'.foldl (fun m p=>stored m p.1 p.2) vs)
 | _,_,_,_,.nil,h=>h
 | _,_,_,_,.cons e r,h=>by
  rw[Kt,Kt]
  refine Z89 r ?_
  rw[e.1]
  exact h.put _ e.2
theorem Eh:∀(ps:List (Key×V)) (kvs:List (Key×V)),(ps.foldl (fun m p=>putK m p.1 p.2) kvs).length≤kvs.length+ps.length
 | [],kvs=>Nat.le_refl _
 | p::ps,kvs=>by
  rw[Kt,Dc]
  have:=Eh ps (putK kvs p.1 p.2)
  have:=V7 kvs p.1 p.2
  omega
theorem Jf{K:Ae}:∀{vs:List V} {ps:List (Key×V)},Fc K H vs ps→vs.length=ps.length
 | [],[],_=>rfl
 | _::_,_::_,h=>by rw[Dc,Dc,Jf h.2]
theorem Z32(hc:X.calm=true):W0 X (.type "dict") (fun xs H Q=>∃(a:Addr) (vs:List V) (ps:List (Key×V)),xs=[V.ref a]∧SqL X.K H a vs∧Fc X.K H vs ps∧vs.length<sizeLine∧
  ∀p,H p=none→Q (.ref p) (upd H p (.dK (ps.foldl (fun m p=>putK m p.1 p.2) [])))):=by
 intro pins s σ H xs us Q I r h
 obtain⟨a,vs,ps,rfl,hx,hp,hz,q⟩:=h
 obtain⟨u,rfl,ru⟩:=Vl r
 cases ru
 obtain⟨its,rv,⟨o,n,ho,h1,h2,h3⟩,_⟩:=I.list hx
 obtain⟨ps',k1,k2,k3⟩:=B1 I vs its ps rv hp
 have hl:=rv.length
 have hl2:=Jf hp
 refine Zw6 (knd:=Yk X.prog X.w) (ps:=ps') (I.ok.hd hc) ho h1 h3 h2 (by rw[Aj];omega) (by rw[Aj];exact k2) (fun j v p e1 e2=>k3 j v p (by simpa using e1) e2) fun h' tk dd keep=>?_
 have lf:=Eh ps []
 refine⟨.ref _,_,I.laid (a:=s.heap.objs.size) (o:= .dK (ps.foldl (fun m p=>putK m p.1 p.2) [])) (t':=tk) keep (Nat.le_refl _) (Cv (by rw[List.length_nil] at lf;omega) (beq_eq_false_iff_ne.mpr (Dm (Nat.ne_of_lt I.big))) (Z89 k1 .nil) dd),rfl,q _ (I.hok.fresh (Nat.le_refl _))⟩
end
section
variable{X:Cx}
theorem Oy{pins:List (Addr×Obj)}{σ:L2.St}{H:Hp}{s:Shared}{h':Heap}{t':Nat}{ch:List Addr}(I:Inv X pins σ H s)(k:∀c o,c∉ch→s.heap.get? c=some o→h'.get? c=some o)(f:∀b∈ch,FpOk X pins H b):Inv X pins σ H {s with heap:=h',toks:=t'}:=by
 have nn:∀c u,H c=some u→c∉ch:=by
  intro c u e z
  rw[(f c z).1] at e
  cases e
 refine I.step (ch:=ch) (g':=s.gens) (d':=s.drawn) ?_ ?_ ?_ ?_ ?_ ?_ ?_ ?_ ?_ ?_ I.bare
 ·intro c hc
  exact⟨(f c hc).2.2.2.1,(f c hc).2.1,(f c hc).2.2.2.2.1,(f c hc).2.2.2.2.2⟩
 ·intro c o _ _ hc e _;exact k c o hc e
 ·intro c o _ _ hc e _;exact⟨o.slots,k c o hc e⟩
 ·intro _ _ _ _ n;exact n
 ·intro c o hc e;exact⟨o,k c o hc e⟩
 ·intro _ _ e;exact e
 ·intro _ _ _ e;exact e
 ·intro c ps e;exact⟨#[],by rw[e];simp⟩
 ·rintro m ⟨o,es,ep,ho,r⟩
  exact⟨o,es,ep,k _ o (fun z=>(f _ z).2.1 rfl) ho,r⟩
 ·intro c u e
  refine(I.hok c u e).stay ?_ (fun _ q=>q) fun _ _ q=>q
  intro d v hd q
  rcases hd with z | z
  ·subst z;exact k d v (nn d u e) q
  ·exact k d v (nn d _ z) q
noncomputable def Itz(K:Ae)(a b:Addr):It:=
 ⟨fun i H=>∃xs ys x y,SqL K H a xs∧SqL K H b ys∧xs[i]?=some x∧ys[i]?=some y,
  fun i H x H'=>∃p u v,H p=none∧H'=upd H p (.tup [u,v])∧x= .ref p∧(∀xs,SqL K H a xs→xs[i]?=some u)∧∀ys,SqL K H b ys→ys[i]?=some v,
  fun i H=>∃xs ys,SqL K H a xs∧SqL K H b ys∧(xs.length≤i∨ys.length≤i)⟩
theorem Zh6{P:Program}{w:World}{K:Ae}{elts:List Expr}{x1:Nat}{tp:Pos}(z TI TO i1 i2 a b:Addr)(D:ZipApart z TI TO i1 i2 a b):
  Turn P w K (.Tuple elts x1 tp) (Itz K a b) [z,TI,TO,i1,i2] z (fun i h=>IsZip h z TI TO .none∧IsPair h TI (.ref i1) (.ref i2)∧(∃u v,IsPair h TO u v)∧h.IsListIter i1 a i∧h.IsListIter i2 b i) where
 mem:=by simp
 obj:=by
  rintro i h ⟨hz,hTI,⟨u,v,hTO⟩,⟨o1,e1,_,d1⟩,⟨o2,e2,_,d2⟩⟩ c hc
  simp only[Am,Aw,or_false] at hc
  rcases hc with rfl | rfl | rfl | rfl | rfl
  ·exact⟨_,hz,fun v q=>by cases q⟩
  ·exact⟨_,hTI,fun v q=>by cases q⟩
  ·exact⟨_,hTO,fun v q=>by cases q⟩
  ·exact⟨_,e1,fun v q=>by rw[d1] at q;cases q⟩
  ·exact⟨_,e2,fun v q=>by rw[d2] at q;cases q⟩
 keep:=by
  rintro i h h' ⟨hz,hTI,⟨u,v,hTO⟩,h1,h2⟩ k
  exact⟨k z (by simp) _ hz,k TI (by simp) _ hTI,⟨u,v,k TO (by simp) _ hTO⟩,h1.at fun o q=>k i1 (by simp) o q,h2.at fun o q=>k i2 (by simp) o q⟩
 item:=by
  rintro X rfl rfl rfl hc i pins s σ H E I hf ⟨hz,hTI,⟨u0,v0,hTO⟩,h1,h2⟩ ⟨xs,ys,x,y,hq,hr,hx,hy⟩
  obtain⟨its,rv,p,_⟩:=I.list hq
  obtain⟨jts,rw2,p2,_⟩:=I.list hr
  obtain⟨u,hu,ru⟩:=rv.get hx
  obtain⟨v,hv,rv2⟩:=rw2.get hy
  have lt:∀c∈[z,TI,TO,i1,i2],@LT.lt Nat _ c s.heap.objs.size:=by
   intro c hc
   simp only[Am,Aw,or_false] at hc
   obtain⟨o1,e1,_⟩:=id h1
   obtain⟨o2,e2,_⟩:=id h2
   rcases hc with rfl | rfl | rfl | rfl | rfl
   ·exact Ai hz
   ·exact Ai hTI
   ·exact Ai hTO
   ·exact Ai e1
   ·exact Ai e2
  refine wpAny_pyNext_zip_item D hz hTI hTO h1 h2 p.isList p2.isList (x:=u) (y:=v) (by simpa using hu) (by simpa using hv) fun hh ho hTO2 g1 g2 hT hsz hk=>?_
  refine⟨_,rfl,wpAny_letOwnedTupleGo_zip ho fun h3 hz3 hs3=>?_⟩
  replace hs3:Dn z hh h3:=hs3
  have nz:s.heap.objs.size≠z:=Nat.ne_of_gt (lt z (by simp))
  have hT3:h3.get? s.heap.objs.size=some {cls:= .type "tuple",data:= .seq #[u,v]}:=(hs3.2 _ nz).trans hT
  have hn:H s.heap.objs.size=none:=I.hok.fresh (Nat.le_refl _)
  have I1:Inv X pins σ (upd H s.heap.objs.size (.tup [x,y])) {s with heap:=s.heap.push {cls:= .type "tuple",data:= .seq #[u,v]},toks:=s.toks}:=
   I.laid (fun b ob q=>Ad _ q) (Nat.le_refl _) ⟨show 2≤sizeLine by rw[Hv];omega,[u,v],.cons ru (.cons rv2 .nil),⟨_,Al _ rfl,rfl,_,rfl⟩⟩
  have up:∀c∈[z,TI,TO,i1,i2],FpOk X pins (upd H s.heap.objs.size (.tup [x,y])) c:=by
   intro c hc
   refine⟨?_,(hf c hc).2⟩
   rw[Zw (Nat.ne_of_lt (lt c hc))]
   exact(hf c hc).1
  have I2:=Oy (h':=h3) (t':=s.toks) I1 (fun c o hc e'=>by
   simp only[Am,Aw,or_false,not_or] at hc
   rcases Sx e' with q | q
   ·exact(hs3.2 c hc.1).trans (hk c o hc.1 hc.2.2.1 hc.2.2.2.1 hc.2.2.2.2 q)
   ·subst q
    have z2:(s.heap.push {cls:= .type "tuple",data:= .seq #[u,v]}).get? s.heap.objs.size=some o:=e'
    rw[Al _ rfl] at z2
    cases z2
    exact hT3) up
  refine⟨.ref s.heap.objs.size,_,I2,rfl,⟨_,x,y,hn,rfl,rfl,fun zs hs=>by rw[I.list_inj hs hq];exact hx,fun zs hs=>by rw[I.list_inj hs hr];exact hy⟩,
   ⟨hz3,(hs3.2 TI D.TIz).trans (hk TI _ D.TIz D.TITO D.TIi1 D.TIi2 hTI),⟨_,_,(hs3.2 TO D.TOz).trans hTO2⟩,g1.at fun o q=>(hs3.2 i1 D.i1z).trans q,g2.at fun o q=>(hs3.2 i2 D.i2z).trans q⟩,fun c hc=>(up c hc).1⟩
 done:=by
  rintro X rfl rfl rfl hc i pins s σ H E I hf ⟨hz,hTI,⟨u0,v0,hTO⟩,h1,h2⟩ ⟨xs,ys,hq,hr,hl⟩
  obtain⟨its,rv,p,_⟩:=I.list hq
  obtain⟨jts,rw2,p2,_⟩:=I.list hr
  have l1:=rv.length
  have l2:=rw2.length
  refine wpAny_pyNext_zip_end (I.ok.hd hc) D hz hTI hTO h1 h2 p.isList p2.isList ?_ fun h' eb=>⟨rfl,Oy (t':=s.toks) I (ch:=[z,TI,TO,i1,i2]) (fun c o hc e=>?_) hf⟩
  ·rcases hl with hl | hl
   ·exact .inl (by simp;omega)
   ·exact .inr (by simp;omega)
  ·simp only[Am,Aw,or_false,not_or] at hc
   exact eb c o hc.1 hc.2.2.1 hc.2.2.2.1 hc.2.2.2.2 e
 self:=by
  rintro A i s Q E ⟨hz,_⟩ h
  exact wpAny_pyIter_zip hz h
end
end L3
namespace SW
open PySem
def Rise(xs:Array Nat):Prop:=∀i k,i<k→k<xs.size→xs.getD i 0<xs.getD k 0
theorem Rise.le{xs:Array Nat}(h:Rise xs){i k:Nat}(a:i≤k)(b:k<xs.size):xs.getD i 0≤xs.getD k 0:=by
 rcases Nat.lt_or_eq_of_le a with a | rfl
 ·exact Nat.le_of_lt (h i k a b)
 ·exact Nat.le_refl _
theorem Zt6{xs:Array Nat}{i:Nat}(h:i<xs.size)(a b:Nat):xs.getD i a=xs.getD i b:=by
 rw[Dv,Dv,De h];rfl
structure At(xs:Array Nat)(j i:Nat):Prop where
 le:i≤xs.size
 lo:∀k,k<i→xs.getD k 0<j
 hi:∀k,i≤k→k<xs.size→j≤xs.getD k 0
theorem Zz3{xs:Array Nat}(h:Rise xs)(j:Nat):∀(fuel lo hi:Nat),hi - lo≤fuel→lo≤hi→hi≤xs.size→(∀k,k<lo→xs.getD k 0<j)→(∀k,hi≤k→k<xs.size→j≤xs.getD k 0)→At xs j (Hs.go xs j fuel lo hi)
 | 0,lo,hi,hf,hl,hs,a,b=>by
  have e:lo=hi:=by omega
  subst e
  exact⟨hs,a,b⟩
 | fuel+1,lo,hi,hf,hl,hs,a,b=>by
  unfold Hs.go
  by_cases hlt:lo<hi
  ·rw[if_pos hlt]
   dsimp only
   have hm:(lo+hi) / 2<hi:=by omega
   have hm2:lo≤(lo+hi) / 2:=by omega
   rw[Zt6 (by omega:(lo+hi) / 2<xs.size) j 0]
   by_cases hc:xs.getD ((lo+hi) / 2) 0<j
   ·rw[if_pos hc]
    exact Zz3 h j fuel _ _ (by omega) (by omega) hs (fun k hk=>Nat.lt_of_le_of_lt (h.le (by omega) (by omega)) hc) b
   ·rw[if_neg hc]
    exact Zz3 h j fuel _ _ (by omega) (by omega) (by omega) a (fun k hk hk2=>Nat.le_trans (by omega) (h.le hk hk2))
  ·rw[if_neg hlt]
   have e:lo=hi:=by omega
   subst e
   exact⟨hs,a,b⟩
theorem N6{xs:Array Nat}(h:Rise xs)(j:Nat):At xs j (Hs xs j):=by
 unfold Hs
 exact Zz3 h j _ _ _ (by omega) (by omega) (Nat.le_refl _) (fun k hk=>by omega) (fun k a b=>by omega)
theorem At.uniq{xs:Array Nat}{j i i':Nat}(a:At xs j i)(b:At xs j i'):i=i':=by
 rcases Nat.lt_trichotomy i i' with h | h | h
 ·have h1:=b.lo i h
  have h2:=a.hi i (Nat.le_refl _) (by have:=b.le;omega)
  omega
 ·exact h
 ·have h1:=a.lo i' h
  have h2:=b.hi i' (Nat.le_refl _) (by have:=a.le;omega)
  omega
theorem Z19{xs:Array Nat}(h:Rise xs):Hs xs 0=0:=(N6 h 0).uniq ⟨Nat.zero_le _,fun k hk=>by omega,fun k _ _=>Nat.zero_le _⟩
theorem Bp{xs:Array Nat}(h:Rise xs){i:Nat}(hi:i<xs.size):Hs xs (xs.getD i 0+1)=i+1:=
 (N6 h _).uniq ⟨hi,fun k hk=>by have:=h.le (show k≤i by omega) hi;omega,fun k a b=>h i k (by omega) b⟩
theorem Nk{α:Type}(xs:Array α)(p:Nat)(x:α)(h:p≤xs.size):(Lv xs p x).size=xs.size+1:=by
 unfold Lv
 simp only[Array.size_append,Array.size_push,Array.size_extract]
 omega
theorem Rq{xs:Array Nat}{p x:Nat}(h:p≤xs.size)(k:Nat):(Lv xs p x).getD k 0=if k<p then xs.getD k 0 else if k=p then x else xs.getD (k - 1) 0:=by
 unfold Lv
 simp only[Dv,Array.getElem?_append,Array.size_push,Array.size_extract,Array.getElem?_push,Array.getElem?_extract,Nat.min_eq_left h,Nat.sub_zero,Nat.zero_add]
 by_cases h1:k<p
 ·rw[if_pos (by omega),if_neg (by omega),if_pos h1,if_pos h1]
 ·by_cases h2:k=p
  ·subst h2
   rw[if_pos (by omega),if_pos rfl,if_neg (by omega),if_pos rfl];rfl
  ·rw[if_neg (by omega),if_neg h1,if_neg h2,Nat.min_self]
   by_cases h3:k - 1<xs.size
   ·rw[if_pos (by omega),show p+(k - (p+1))=k - 1 by omega]
   ·rw[if_neg (by omega),Array.getElem?_eq_none (by omega)]
theorem Ea{xs:Array Nat}(h:Rise xs){j:Nat}(hn:xs[Hs xs j]?≠some j):Rise (Lv xs (Hs xs j) j):=by
 have a:=N6 h j
 generalize Hs xs j=p at a hn ⊢
 have hgt:∀k,p≤k→k<xs.size→j<xs.getD k 0:=by
  intro k h1 h2
  have h3:=a.hi k h1 h2
  rcases Nat.lt_or_eq_of_le h3 with h4 | h4
  ·exact h4
  ·exfalso
   have h5:=a.hi p (Nat.le_refl _) (by omega)
   have h6:=h.le h1 h2
   have h7:xs.getD p 0=j:=by omega
   apply hn
   rw[Dv,De (by omega)] at h7
   rw[De (by omega)]
   exact congrArg some h7
 intro i k hik hk
 rw[Nk _ _ _ a.le] at hk
 rw[Rq a.le,Rq a.le]
 by_cases h1:i<p
 ·rw[if_pos h1]
  by_cases h2:k<p
  ·rw[if_pos h2];exact h i k hik (by have:=a.le;omega)
  ·rw[if_neg h2]
   by_cases h3:k=p
   ·rw[if_pos h3];exact a.lo i h1
   ·rw[if_neg h3];exact Nat.lt_trans (a.lo i h1) (hgt _ (by omega) (by omega))
 ·rw[if_neg h1,if_neg (show ¬k<p by omega),if_neg (show ¬k=p by omega)]
  by_cases h3:i=p
  ·rw[if_pos h3];exact hgt _ (by omega) (by omega)
  ·rw[if_neg h3];exact h _ _ (by omega) (by omega)
theorem Bo(n:Nat):Rise (Array.range n):=by
 intro i k h1 h2
 rw[Array.size_range] at h2
 simp only[Dv,Array.getElem?_range]
 rw[if_pos (by omega),if_pos h2]
 exact h1
structure TOk(t:SetTable)(led:Bool):Prop where
 rise:Rise t.place
 dum:t.dummies=#[]
 led:t.led=led
theorem El(j:Nat):SetTable.has #[] j=false:=rfl
theorem Bh{t:SetTable}(hd:t.dummies=#[])(j:Nat):t.slot j≠ .dummy:=by
 unfold SetTable.slot
 dsimp only
 rw[hd,El]
 split
 ·intro h;cases h
 ·intro h;rw[if_neg (by decide)] at h;cases h
theorem Z13{t:SetTable}{j:Nat}(h:t.slot j= .empty):t.place[Hs t.place j]?≠some j:=by
 intro e
 unfold SetTable.slot at h
 dsimp only at h
 rw[if_pos (by rw[e];simp)] at h
 cases h
theorem Z69(t:SetTable)(p:SetTable.Probe):(t.advance p).dummy=p.dummy:=by
 unfold SetTable.advance
 split
 ·rfl
 ·rfl
theorem Cp{t:SetTable}(hd:t.dummies=#[])(f:Nat→Int)(h:Int):∀(fuel:Nat) (p:SetTable.Probe) (j:Nat) (d:Option Nat),p.dummy=none→SetTable.probe.go t f h fuel p=some (.empty j d)→d=none∧t.slot j= .empty
 | 0,p,j,d,_,e=>by cases e
 | fuel+1,p,j,d,hp,e=>by
  unfold SetTable.probe.go at e
  cases hs:t.slot p.j with
  | empty=>
   rw[hs] at e
   cases e
   exact⟨hp,hs⟩
  | dummy=>exact absurd hs (Bh hd _)
  | live i=>
   rw[hs] at e
   dsimp only at e
   split at e
   ·cases e
   ·exact Cp hd f h fuel _ j d (by rw[Z69,hp]) e
theorem Z21{t:SetTable}(hd:t.dummies=#[]){h:Int}{k:Nat}{b:Bool}(e:t.freeSlot h=some (k,b)):t.slot k= .empty∧b=false:=by
 unfold SetTable.freeSlot at e
 split at e
 ·rename_i j dm hm
  cases e
  unfold SetTable.probe at hm
  obtain⟨rfl,h2⟩:=Cp hd _ _ _ _ _ _ rfl hm
  exact⟨h2,rfl⟩
 ·cases e
theorem Rx{t:SetTable}{led:Bool}(h:TOk t led)(n:Nat):TOk (t.standIn n) led:=⟨Bo n,rfl,h.led⟩
theorem Z38{t:SetTable}{led:Bool}(h:TOk t led)(n:Nat):TOk (t.orStandIn n) led:=by
 unfold SetTable.orStandIn
 split
 ·exact h
 ·exact Rx h n
theorem Y42{t:SetTable}{led:Bool}(h:TOk t led){j:Nat}(e:t.slot j= .empty):TOk (t.put j).1 led:=by
 unfold SetTable.put
 dsimp only
 refine⟨Ea h.rise (Z13 e),?_,h.led⟩
 dsimp only
 rw[h.dum,El]
 rfl
theorem Y05{t:SetTable}{led:Bool}(h:TOk t led)(es:Array (Int×Value))(k:Int)(x:Value):TOk (layNew t es k x).2.1 led:=by
 unfold layNew
 cases e:t.freeSlot k with
 | none=>exact Rx h _
 | some s=>
  obtain⟨slot,b⟩:=s
  dsimp only
  exact Z38 (Y42 h (Z21 h.dum e).1) _
theorem Zr3{l:List Nat}(hp:l.Pairwise (· < ·)):Rise l.toArray:=by
 intro i k hik hk
 rw[Aj] at hk
 have:=List.pairwise_iff_getElem.mp hp i k (by omega) hk hik
 simp only[Dv,Lz]
 rw[Ag hk,Ag (by omega)]
 exact this
theorem Ze1(owner:Array (Option Nat))(n:Nat):Rise ((((Ij n).filterMap fun j=>(owner.getD j none).map (j,·)).map (·.1)).toArray):=by
 refine Zr3 ?_
 rw[List.pairwise_map]
 refine List.Pairwise.filterMap _ (R:=(· < ·)) ?_ List.pairwise_lt_range
 intro a b hab x hx y hy
 obtain⟨_,_,rfl⟩:=Hw.mp hx
 obtain⟨_,_,rfl⟩:=Hw.mp hy
 exact hab
theorem Zl4{t:SetTable}{led:Bool}(h:TOk t led)(es:Array (Int×Value))(n:Nat):TOk (relayAll t es n).2.1 led:=by
 unfold relayAll
 cases e:t.relaid (es.map (·.1)) n with
 | none=>exact Rx h _
 | some s=>
  obtain⟨t',order⟩:=s
  dsimp only
  split
  ·unfold SetTable.relaid SetTable.laid at e
   cases e2:SetTable.layClean (SetTable.sizeAbove n - 1) (es.map (·.1)) with
   | none=>rw[e2] at e;cases e
   | some owner=>
    rw[e2] at e
    cases e
    exact⟨Ze1 _ _,rfl,h.led⟩
  ·exact Rx h _
end SW
namespace SW
open PySem PyProof.Rows
section
variable{M:Model}{prog:Program}{w:World}{A:Around}{E:Value→Shared→Prop}{s:Shared}
theorem Qq{α:Type}:∀(xs:List α) (i:Nat) (h:i<xs.length),(xs[i]::xs.eraseIdx i).Perm xs
 | x::xs,0,_=>Mh _
 | x::xs,i+1,h=>by
  have:=Qq xs i (by simpa using h)
  exact(Ml.swap _ _ _).trans (this.cons x)
theorem Z36{src:Source}{n:Nat}{Q:Nat→Shared→Prop}(hn:n≠0)(h:∀i d,i<n→Q i {s with drawn:=d}):wpAny M A (choose src n) Q E s:=
 fun Γ p hΓ=>⟨hn,h _ _ (Nat.mod_lt _ (Nat.pos_of_ne_zero hn))⟩
theorem Em{α:Type}:∀(n:Nat) (xs:List α) (s:Shared) (Q:List α→Shared→Prop),xs.length=n→(∀ys d,ys.Perm xs→Q ys {s with drawn:=d})→wpAny M A (drawOrder n xs) Q E s
 | 0,xs,s,Q,e,h=>by
  cases Iu.mp e
  unfold drawOrder
  exact Ab (h [] s.drawn (Mh _))
 | n+1,[],s,Q,e,h=>by cases e
 | n+1,x::xs,s,Q,e,h=>by
  unfold drawOrder
  refine Aa (Z36 (by simp) fun i d hi=>?_)
  rw[Ag hi]
  dsimp only
  refine Aa (Em n _ _ _ ?_ fun ys d2 hp=>Ab (h _ d2 ?_))
  ·rw[List.length_eraseIdx,if_pos hi];omega
  ·exact(hp.cons _).trans (Qq (x::xs) i hi)
inductive KeysOf {K:Type} [DecidableEq K] (knd:KeyKind prog w K):List K→List (Int×Value)→Prop
 | nil:KeysOf knd [] []
 | cons {k:K} {e:Int×Value} {ks:List K} {l:List (Int×Value)} (h:knd.is k e.2=true) (r:KeysOf knd ks l):KeysOf knd (k::ks) (e::l)
variable{K:Type}[DecidableEq K]{knd:KeyKind prog w K}
theorem KeysOf.len{ks:List K}{l:List (Int×Value)}(h:KeysOf knd ks l):ks.length=l.length:=by
 induction h with
 | nil=>rfl
 | cons _ _ ih=>rw[Dc,Dc,ih]
theorem KeysOf.mem{ks:List K}{l:List (Int×Value)}(h:KeysOf knd ks l){k:K}:k∈ks↔∃e∈l,knd.is k e.2=true:=by
 induction h with
 | nil=>simp
 | cons h r ih=>
  rename_i k' e ks l
  rw[Am,ih]
  constructor
  ·rintro(rfl | ⟨e,he,q⟩)
   ·exact⟨_,Bs,h⟩
   ·exact⟨e,Az _ he,q⟩
  ·rintro⟨e',he,q⟩
   rcases Am.mp he with rfl | he
   ·exact .inl (knd.inj _ _ _ q h)
   ·exact .inr ⟨e',he,q⟩
theorem KeysOf.app{ks ks':List K}{l l':List (Int×Value)}(h:KeysOf knd ks l)(g:KeysOf knd ks' l'):KeysOf knd (ks++ks') (l++l'):=by
 induction h with
 | nil=>exact g
 | cons h _ ih=>exact .cons h ih
theorem KeysOf.perm{l l':List (Int×Value)}(p:l'.Perm l):∀{ks:List K},KeysOf knd ks l→∃ks',ks'.Perm ks∧KeysOf knd ks' l':=by
 induction p with
 | nil=>intro ks h;exact⟨ks,Mh _,h⟩
 | cons x p ih=>
  intro ks h
  cases h with
  | cons h r=>
   obtain⟨ks',a,b⟩:=ih r
   exact⟨_,a.cons _,.cons h b⟩
 | swap x y l=>
  intro ks h
  cases h with
  | cons h r=>
   cases r with
   | cons h2 r=>exact⟨_,Ml.swap _ _ _,.cons h2 (.cons h r)⟩
 | trans p q ih1 ih2=>
  intro ks h
  obtain⟨k1,a1,b1⟩:=ih2 h
  obtain⟨k2,a2,b2⟩:=ih1 b1
  exact⟨k2,a2.trans a1,b2⟩
structure SetO(knd:KeyKind prog w K)(led:Bool)(o:Obj)(ks:List K):Prop where
 ex:o.ExactSet
 dat:∃es ep t,o.data= .set es ep t∧ElemsOf knd es.toList∧KeysOf knd ks es.toList∧t.fits es.size=true∧TOk t led
 nd:ks.Nodup
 sm:ks.length<scanBound
theorem Zh5{t:SetTable}{led:Bool}(h:TOk t led):TOk {t with plain:=false} led:=⟨h.rise,h.dum,h.led⟩
theorem Zq3{led:Bool}{a:Addr}{o:Obj}{k:K}{x:Value}{ks:List K}{Q:Bool→Shared→Prop}(hk:knd.is k x=true)(hx:x.scannable=true)(ho:s.heap.get? a=some o)(hS:SetO knd led o ks)(hr:ks.length+1<scanBound)
  (h:∀b h' o' ks',Dn a s.heap h'→h'.get? a=some o'→SetO knd led o' ks'→(k∈ks→ks'=ks)→(k∉ks→ks'.Perm (ks++[k]))→Q b {s with heap:=h'}):
  wpAny (model prog w) A (setAddHashed a x (knd.hash k)) Q E s:=by
 obtain⟨es,ep,t,hd,he,hks,hf,ht⟩:=hS.dat
 have hlen:=hks.len
 have hl2:es.toList.length=es.size:=Db
 have hsm:=hS.sm
 unfold setAddHashed setAddHashedIn
 refine Dy (Aa (Kz ho hd hf ?_))
 dsimp only
 rw[byScan_of hx (by omega) he,if_pos rfl]
 unfold setAddByScan
 refine Aa (Aa (Lu (Aa (wpAny_setScan_of hk ho hd hf he ?_))))
 cases hfd:es.toList.findIdx? (fun e=>knd.is k e.2) with
 | some j=>
  obtain⟨hj,hpj,_⟩:=List.findIdx?_eq_some_iff_getElem.mp hfd
  have hin:k∈ks:=hks.mem.mpr ⟨_,Go hj,hpj⟩
  dsimp only
  refine Ab (Ab ?_)
  have:=h false s.heap o ks (Dn.refl a s.heap) ho hS (fun _=>rfl) (fun z=>absurd hin z)
  exact this
 | none=>
  have hout:k∉ks:=fun z=>by
   obtain⟨e,h1,h2⟩:=hks.mem.mp z
   have:=List.findIdx?_eq_none_iff.mp hfd e h1
   rw[h2] at this
   cases this
  dsimp only
  have gv:∀(b:Bool) {s1:Shared} {R:Unit→Shared→Prop},R () s1→wpAny (model prog w) A (match b with | true=>rule "set.scan.the-table-gave-way" | false=>pure ()) R E s1:=by
   intro b s1 R q
   cases b
   ·exact Ab q
   ·exact Lu q
  have p1:=layNew_perm t es (knd.hash k) x
  have f1:=layNew_fits t es (knd.hash k) x
  have t1:=Y05 ht es (knd.hash k) x
  generalize layNew t es (knd.hash k) x=L at p1 f1 t1 ⊢
  obtain⟨es1,t2,wd,gave⟩:=L
  dsimp only at p1 f1 t1 ⊢
  rw[Array.toList_push] at p1
  have el1:ElemsOf knd es1.toList:=(he.push hk hx).perm p1
  obtain⟨k1,kp1,ko1⟩:=KeysOf.perm p1 (hks.app (.cons (e:=(knd.hash k,x)) hk .nil))
  have nd1:k1.Nodup:=kp1.nodup_iff.mpr (List.nodup_append.mpr ⟨hS.nd,by simp,fun a ha b hb=>by simp at hb;subst hb;rintro rfl;exact hout ha⟩)
  have ln1:k1.length=ks.length+1:=by rw[kp1.length_eq,Ay];rfl
  have sz1:es1.size=k1.length:=by rw[←Db,ko1.len]
  refine Aa (gv _ ?_)
  have key:∀(t3:SetTable),t3.fits es1.size=true→TOk t3 led→wpAny (model prog w) A (do
    storeSet a es1 t3
    if (!wd&&t3.tooFull)=true then do
      (match (relayAll t3 es1 (Iq es1.size)).2.2 with | true=>rule "set.scan.the-table-gave-way" | false=>pure ())
      storeSet a (relayAll t3 es1 (Iq es1.size)).1 (relayAll t3 es1 (Iq es1.size)).2.1
      pure (some true)
     else pure (some true)) (fun r s'=>∃h' o' ks',r=some true∧s'={s with heap:=h'}∧Dn a s.heap h'∧h'.get? a=some o'∧SetO knd led o' ks'∧ks'.Perm (ks++[k])) E s:=by
   intro t3 f3 ok3
   have fit1:es1.size≤sizeLine:=fits_of_scanBound (by omega)
   refine Aa (wpAny_storeSet_of ho hd ?_ fit1)
   have g1:(s.heap.update a (Obj.putSet es1 t3)).get? a=some {o with data:= .set es1 (ep+1) t3}:=by
    have:=Hm (Obj.putSet es1 t3) ho (by rw[putSet_of es1 t3 hd];rfl)
    rw[putSet_of es1 t3 hd] at this
    exact this
   have o1:SetO knd led {o with data:= .set es1 (ep+1) t3} k1:=⟨hS.ex,⟨es1,_,t3,rfl,el1,ko1,f3,ok3⟩,nd1,by omega⟩
   have sb1:=Dn.update s.heap a (Obj.putSet es1 t3)
   split
   ·have p2:=relayAll_perm t3 es1 (Iq es1.size)
    have f2:=relayAll_fits t3 es1 (Iq es1.size)
    have ok2:=Zl4 ok3 es1 (Iq es1.size)
    generalize relayAll t3 es1 (Iq es1.size)=L at p2 f2 ok2 ⊢
    obtain⟨es2,t4,gv2⟩:=L
    dsimp only at p2 f2 ok2 ⊢
    obtain⟨k2,kp2,ko2⟩:=KeysOf.perm p2 ko1
    have sz2:es2.size=es1.size:=by rw[←Db,p2.length_eq,Db]
    refine Aa (gv _ (Aa (wpAny_storeSet_of g1 rfl ?_ (by rw[sz2];exact fit1))))
    refine Ab ⟨_,_,k2,rfl,rfl,sb1.trans (Dn.update _ a _),Hm (Obj.putSet es2 t4) g1 rfl,?_,kp2.trans kp1⟩
    exact⟨hS.ex,⟨es2,_,t4,rfl,el1.perm p2,ko2,f2,ok2⟩,kp2.nodup_iff.mpr nd1,by rw[kp2.length_eq];omega⟩
   ·exact Ab ⟨_,_,k1,rfl,rfl,sb1,g1,o1,kp1⟩
  have fin:∀(t3:SetTable),t3.fits es1.size=true→TOk t3 led→wpAny (model prog w) A (do
    storeSet a es1 t3
    if (!wd&&t3.tooFull)=true then do
      (match (relayAll t3 es1 (Iq es1.size)).2.2 with | true=>rule "set.scan.the-table-gave-way" | false=>pure ())
      storeSet a (relayAll t3 es1 (Iq es1.size)).1 (relayAll t3 es1 (Iq es1.size)).2.1
      pure (some true)
     else pure (some true)) (fun r s'=>wpAny (model prog w) A (match r with | some added=>pure added | none=>setAddHashedIn a x (knd.hash k) 99999) Q E s') E s:=by
   intro t3 f3 ok3
   refine Hl (key t3 f3 ok3) ?_ fun _ _ z=>z
   rintro r s' ⟨h',o',ks',rfl,rfl,sb,g,so,p⟩
   exact Ab (h true h' o' ks' sb g so (fun z=>absurd z hout) fun _=>p)
  split
  ·refine Aa ?_
   rw[hashByValue_scannable 8 hx]
   refine Ab ?_
   split
   ·exact fin _ f1 t1
   ·exact fin _ (SetTable.fits_plain_off f1) (Zh5 t1)
  ·refine Aa (Ab ?_)
   rw[if_pos rfl]
   exact fin _ f1 t1
end
noncomputable def Pt(w:World):Bool:= !w.params.followText "set-order"
section
variable{prog:Program}{w:World}{A:Around}{E:Value→Shared→Prop}{s:Shared}
section
variable{K:Type}[DecidableEq K]{knd:KeyKind prog w K}{R:Result→Shared→Prop}{I:Addr}{fp wr:List Addr}{G:Array GenState→Array GenState→Prop}{n:Nat}{P:Nat→Value→Prop}{St:Nat→Shared→Prop}
theorem Zh9{led:Bool}(W:WalksS prog w A.in1 I fp wr G n P St)(S:Addr)(hSf:S∉fp)(key:Nat→K)(hkey:∀i v,P i v→knd.is (key i) v=true∧v.scannable=true)(hb:n+1<scanBound):
  ∀(m i:Nat) (s:Shared) (o:Obj) (ks:List K),n - i=m→i≤n→St i s→s.heap.get? S=some o→SetO knd led o ks→ks.length≤i→(∀k,k∈ks↔∃j,j<i∧key j=k)→
  (∀s' o' ks',Moved (S::wr) G s s'→s'.heap.get? S=some o'→SetO knd led o' ks'→ks'.length≤n→(∀k,k∈ks'↔∃j,j<n∧key j=k)→R (.ok (.ret .none)) s')→
  codeAny (model prog w) A (.builtin "set.update.loop" ⟨[.ref S,.ref I],[]⟩) R s:=by
 have hSw:S∉wr:=fun z=>hSf (W.sub _ z)
 have hs2:∀b∈wr,b∈S::wr:=fun b z=>Az _ z
 intro m
 induction m with
 | zero=>
  intro i s o ks hm hi st ho hS hl hmem q
  obtain rfl:i=n:=by omega
  refine Kc F.entry_set_update_loop ?_
  rw[Io F.plain_set_update_loop _]
  show wpAny _ A.in1 (pyNext (.ref I) >>=_) _ _ s
  refine Aa (W.done s _ _ st fun s' mv=>Ab ?_)
  exact q s' o ks (mv.mono hs2) (mv.heap S _ hSw ho) hS hl hmem
 | succ m ih=>
  intro i s o ks hm hi st ho hS hl hmem q
  have hlt:i<n:=by omega
  refine Kc F.entry_set_update_loop ?_
  rw[Io F.plain_set_update_loop _]
  show wpAny _ A.in1 (pyNext (.ref I) >>=_) _ _ s
  refine Aa (W.item i s _ _ hlt st fun v s' hP st' mv=>?_)
  obtain⟨hk,hx⟩:=hkey i v hP
  show wpAny _ A.in1 (holding [v] (setAdd S v) >>=_) _ _ s'
  refine Aa (Dy ?_)
  unfold setAdd
  refine Dy (Aa (knd.pyHash hk ?_))
  refine Zq3 (s:={s' with toks:=s'.toks+1}) hk hx (mv.heap S _ hSw ho) hS (by omega) fun b h' o' ks' sb ho' hS' c1 c2=>?_
  have hmem':∀k,k∈ks'↔∃j,j<i+1∧key j=k:=by
   intro k
   have e:(∃j,j<i+1∧key j=k)↔(∃j,j<i∧key j=k)∨key i=k:=by
    constructor
    ·rintro⟨j,h1,h2⟩
     by_cases h3:j=i
     ·subst h3;exact .inr h2
     ·exact .inl ⟨j,by omega,h2⟩
    ·rintro(⟨j,h1,h2⟩ | h2)
     ·exact⟨j,by omega,h2⟩
     ·exact⟨i,by omega,h2⟩
   rw[e,←hmem k]
   by_cases hin:key i∈ks
   ·rw[c1 hin]
    constructor
    ·exact .inl
    ·rintro(z | rfl)
     ·exact z
     ·exact hin
   ·rw[(c2 hin).mem_iff,Dd,Bk]
    constructor
    ·rintro(z | rfl)
     ·exact .inl z
     ·exact .inr rfl
    ·rintro(z | rfl)
     ·exact .inl z
     ·exact .inr rfl
  have hl':ks'.length≤i+1:=by
   by_cases hin:key i∈ks
   ·rw[c1 hin];omega
   ·rw[(c2 hin).length_eq,Ay,Ly];omega
  refine Ab ⟨Kf F.plain_set_update_loop _,ih (i+1) _ o' ks' (by omega) hlt (W.frame _ s' _ _ st' (Nat.le_succ _) fun b' hb' o2 e=>?_) ho' hS' hl' hmem' fun s2 o2 ks2 mv2 ho2 hS2 l2 m2=>?_⟩
  ·rw[sb.2 b' (fun z:b'=S=>hSf (by rw[←z];exact hb'))];exact e
  ·refine q s2 o2 ks2 (Moved.trans W.gtrans ((mv.mono hs2).then_heap (Nat.le_succ _) fun b' o3 hb' e=>?_) mv2) ho2 hS2 l2 m2
   rw[sb.2 b' (fun z:b'=S=>hb' (by rw[z];exact Bs))];exact e
end
noncomputable def newO(w:World):Obj:={cls:= .type "set",dict:=none,data:= .set #[] 0 (.fresh 0 0 (Pt w))}
theorem Zw1{K:Type}[DecidableEq K]{knd:KeyKind prog w K}:SetO knd (Pt w) (newO w) []:=
 ⟨⟨rfl,rfl,rfl⟩,⟨#[],0,_,rfl,fun e he=>by simp at he,.nil,rfl,⟨fun i k _ h=>by simp[SetTable.fresh] at h,rfl,rfl⟩⟩,List.nodup_nil,by show 0<scanBound;decide⟩
theorem Zl2(a:Value){Q:Value→Shared→Prop}(h:Q (.ref s.heap.objs.size) {s with heap:=s.heap.push (newO w)}):
  codeAny (model prog w) A (.call (.builtin "set.__new__") ⟨[.type "set",a],[]⟩) (wants Q E) s:=by
 refine codeAny_of_tree ?_
 show wpAny _ A.in1 (checkBuiltinCall "set.__new__" ⟨[.type "set",a],[]⟩ >>=fun _=>again (.builtin "set.__new__" ⟨[.type "set",a],[]⟩)) _ _ s
 refine Aa (wpAny_of_eq (F.newCall_set_1 a) (Ab ⟨Kf F.plain_set_new _,Kc F.entry_set_new ?_⟩))
 rw[Io F.plain_set_new _]
 unfold Builtin.«set.__new__» Builtin.Frozenset.newClass
 have sub0:=sub_set_self
 obtain⟨hp,g,d,tk,os⟩:=s
 dsimp only
 wp_walk
 refine Ll (Ab ?_)
 simp only[newObj]
 exact Aa (wpAny_alloc (Ab (Ab h)))
end
section
variable{prog:Program}{w:World}{A:Around}{E:Value→Shared→Prop}{s:Shared}{K:Type}[DecidableEq K]{knd:KeyKind prog w K}
set_option maxHeartbeats 3200000 in
theorem Zk3{l:Addr}{its:Array Value}{key:Nat→K}{Q:Value→Shared→Prop}(hh:A.handled=none)(hl:s.heap.IsList l its)(hkey:∀i v,its[i]?=some v→knd.is (key i) v=true∧v.scannable=true)(hb:its.size+1<scanBound)
  (h:∀h' tk o ks,h'.get? s.heap.objs.size=some o→SetO knd (Pt w) o ks→ks.length≤its.size→(∀k,k∈ks↔∃j,j<its.size∧key j=k)→(∀b o,b<s.heap.objs.size→s.heap.get? b=some o→h'.get? b=some o)→Q (.ref s.heap.objs.size) {s with heap:=h',toks:=tk}):
  wpAny (model prog w) A (call (.type "set") [.ref l]) Q E s:=by
 obtain⟨c0,tl,mro0⟩:=F.called_set.mro
 have made0:=F.called_set.made
 have sub0:=F.called_set.sub
 have nt0:=F.called_set.notType
 have cc0:=F.called_set.canCreate
 have ct0:=F.typeCall_set_1 (.ref l)
 refine wpAny_call (codeAny_of_tree ?_)
 show wpAny _ _ (callAny (.type "set") _) _ _ _
 refine Ab ⟨Code.quiet_builtin _ (by decide+kernel),Kc F.entry_type_call ?_⟩
 rw[Around.under_plain (weight_type_call_type "set" [.ref l] []) rfl]
 repeat (any_goals (first | assumption | wp_step))
 have hnew:=Zl2 (prog:=prog) (w:=w) (A:=A.in1) (s:=s) (E:=E) (.ref l) (Q:=fun v s1=>v= .ref s.heap.objs.size∧s1={s with heap:=s.heap.push (newO w)}) ⟨rfl,rfl⟩
 refine Lf hnew fun r s1 hr=>?_
 cases r with
 | error e=>exact hr
 | ok fl=>
 cases fl with
 | ret v=>
  obtain⟨rfl,rfl⟩:=hr
  have g0:(s.heap.push (newO w)).get? s.heap.objs.size=some (newO w):=Al _ rfl
  have ty0:Shared.TypeIs {s with heap:=s.heap.push (newO w)} (.ref s.heap.objs.size) "set":=⟨_,g0,rfl⟩
  have li0:=F.called_set.init.lookup
  have bi0:=F.called_set.init.bind (.ref s.heap.objs.size)
  repeat (any_goals (first | assumption | wp_step))
  have want:∀s2:Shared,(∃h' tk o ks,s2={s with heap:=h',toks:=tk}∧h'.get? s.heap.objs.size=some o∧SetO knd (Pt w) o ks∧ks.length≤its.size∧(∀k,k∈ks↔∃j,j<its.size∧key j=k)∧(∀b o,b<s.heap.objs.size→s.heap.get? b=some o→h'.get? b=some o))→Q (.ref s.heap.objs.size) s2:=by
   rintro s2 ⟨h',tk,o,ks,rfl,a1,a2,a0,a3,a4⟩
   exact h h' tk o ks a1 a2 a0 a3 a4
  clear h
  refine Lf (codeAny_call_builtin (R:=wants (fun r s2=>r= .none∧∃h' tk o ks,s2={s with heap:=h',toks:=tk}∧h'.get? s.heap.objs.size=some o∧SetO knd (Pt w) o ks∧ks.length≤its.size∧(∀k,k∈ks↔∃j,j<its.size∧key j=k)∧(∀b o,b<s.heap.objs.size→s.heap.get? b=some o→h'.get? b=some o)) E) F.called_set.init.plain F.entry_set_init (check_set_init_1 ty0 ?_)) fun r2 s2 hr2=>?_
  ·obtain⟨⟨cl,di,da,sl⟩,ol,hcl,nl,hdl⟩:=hl
   simp only at hcl hdl
   subst hcl hdl
   have ol1:(s.heap.push (newO w)).get? l=some {cls:= .type "list",dict:=di,data:= .seq its nl,slots:=sl}:=Ad _ ol
   have s1:=F.sub_list_set
   have s2:=F.sub_list_frozenset
   have s3:(Au "list"==Au "dict")=false:=by decide
   have il1:(s.heap.push (newO w)).IsList l its:=⟨_,ol1,rfl,nl,rfl⟩
   unfold Builtin.«set.__init__» noKeywords Builtin.Frozenset.updateFrom
   generalize hPI:pyIter=PI
   wp_walk
   subst hPI
   refine Ky il1 (Aa (wpAny_runValue ?_))
   have lS:l<s.heap.objs.size:=Ai ol
   have nI:l≠(s.heap.push (newO w)).objs.size:=by rw[Hr];exact Nat.ne_of_lt (Nat.lt_succ_of_lt lS)
   have nS:s.heap.objs.size∉[(s.heap.push (newO w)).objs.size,l]:=by
    rw[Hr,Am,Bk]
    exact fun z=>z.elim (Nat.ne_of_lt (Nat.lt_succ_self _)) (Nat.ne_of_gt lS)
   refine Zh9 (knd:=knd) (led:=Pt w) ((Walks.list (by simp[hh]) _ l nI its).toS) s.heap.objs.size nS key hkey hb _ 0 _ (newO w) [] rfl (Nat.zero_le _) ⟨⟨_,Al _ rfl,rfl,rfl⟩,il1.push _⟩ (Ad _ g0) Zw1 (Nat.zero_le _) (fun k=>by simp) ?_
   intro s' o' ks' mv ho' hS' hl' hm'
   obtain⟨h',g',d',tk',os'⟩:=s'
   cases mv.gens
   cases mv.drawn
   cases mv.os
   refine Ab ?_
   refine Ab ⟨rfl,h',tk',o',ks',rfl,ho',hS',hl',hm',fun b o hb e=>?_⟩
   refine mv.heap b o ?_ (Ad _ (Ad _ e))
   rw[Am,Bk,Hr]
   exact fun z=>z.elim (Nat.ne_of_lt hb) (Nat.ne_of_lt (Nat.lt_succ_of_lt hb))
  ·cases r2 with
   | error e=>exact hr2
   | ok fl2=>
    cases fl2 with
    | ret r=>
     obtain⟨rfl,hw⟩:=hr2
     repeat (any_goals (first | assumption | wp_step))
     exact want _ hw
    | _=>exact hr2.elim
 | _=>exact hr.elim
end
theorem We:Slot "set_iterator" "__next__" "set_iterator.__next__":=by
 refine .of (owner:="set_iterator") (n:="__next__") ?_ ?_ ?_ ?_ ?_ ?_
 ·rw[Mc,Ku];kernel_rfl
 all_goals first | decide+kernel | exact .inl (by decide+kernel) | exact .inr (by decide+kernel) | (rw[isSubtype_type];kernel_rfl)
theorem Ry:entryFor table "set_iterator.__next__"=some Builtin.«set_iterator.__next__»:=entryFor_of_tree (by kernel_rfl)
theorem Cq:Manifest.owners.lookup (String.ofList ['r','o','t','a','r','e','t','i','_','t','e','s'].reverse)=some Manifest.sig_set_iterator:=by kernel_rfl
theorem Os(a:Value):argsOk "set_iterator.__next__" ⟨[a],[]⟩:=by
 unfold argsOk
 rw[signature?_of (id:="set_iterator.__next__") (n:=['_','_','t','x','e','n','_','_']) (o:=['r','o','t','a','r','e','t','i','_','t','e','s']) (by kernel_rfl) Cq]
 kernel_rfl
theorem Zs1:entryFor table "set.__iter__"=some Builtin.«frozenset.__iter__»:=entryFor_alias (id':="frozenset.__iter__") (by kernel_rfl) rfl (by decide+kernel) (by kernel_rfl)
section
variable{prog:Program}{w:World}{A:Around}{E:Value→Shared→Prop}{s:Shared}
noncomputable abbrev itO(f:Value)(i:Nat)(a:Addr)(n ep:Nat):Obj:={cls:= .type "set_iterator",dict:=none,data:= .fields #[f,rawInt i,.ref a,rawInt n,rawInt ep],slots:=#[]}
section
variable{a I:Addr}{o:Obj}{es:Array (Int×Value)}{ep:Nat}{t:SetTable}
theorem Jl{slot i:Nat}{Q:Option (Value×Nat)→Shared→Prop}(ho:s.heap.get? a=some o)(hd:o.data= .set es ep t)(hf:t.fits es.size=true)(ht:w.params.followText "set-order"=true)
  (h:Q (((pickOrder (w.params.setOrder a ep) es)[i]?).map fun e=>(e.2,slot)) s):wpAny (model prog w) A (setNext a slot i ep) Q E s:=by
 unfold setNext
 refine Aa (Kz ho hd hf ?_)
 dsimp only
 unfold setsByText
 refine Aa (Aa (Ll (Ab ?_)))
 show wpAny _ _ (if w.params.followText "set-order"=true then _ else _) _ _ _
 rw[if_pos ht,if_neg (by simp)]
 refine Aa ?_
 unfold setWalk
 refine Aa (Kz ho hd hf ?_)
 dsimp only
 unfold setsByText
 refine Aa (Aa (Ll (Ab ?_)))
 show wpAny _ _ (if w.params.followText "set-order"=true then _ else _) _ _ _
 rw[if_pos ht]
 refine Aa (Ll (Ab (Ab h)))
theorem O5{slot i:Nat}{Q:Option (Value×Nat)→Shared→Prop}(ho:s.heap.get? a=some o)(hd:o.data= .set es ep t)(hf:t.fits es.size=true)(ht:w.params.followText "set-order"=false)
  (hp:(!t.plain&&decide (es.size >1))=false) (hl:t.led=true)
  (h:Q (match es[Hs t.place slot]?,t.place[Hs t.place slot]? with | some (_,x),some j=>some (x,j+1) | _,_=>none) s):wpAny (model prog w) A (setNext a slot i ep) Q E s:=by
 unfold setNext
 refine Aa (Kz ho hd hf ?_)
 dsimp only
 unfold setsByText
 refine Aa (Aa (Ll (Ab ?_)))
 show wpAny _ _ (if w.params.followText "set-order"=true then _ else _) _ _ _
 rw[if_neg (by rw[ht];exact Bool.false_ne_true)]
 show wpAny _ _ (if (!t.plain&&decide (es.size >1))=true then _ else _) _ _ _
 rw[if_neg (by rw[hp];exact Bool.false_ne_true)]
 refine Aa ?_
 show wpAny _ _ (if (!t.led&&!es.isEmpty)=true then _ else _) _ _ _
 rw[if_neg (by rw[hl];exact Bool.false_ne_true)]
 exact Ab (Ab h)
theorem Bu{place:Nat}{x:Int×Value}{Q:Value→Shared→Prop}(ho:s.heap.get? a=some o)(hd:o.data= .set es ep t)(hf:t.fits es.size=true)(hx:es[place]?=some x)(h:Q x.2 s):wpAny (model prog w) A (setNextDrawn a place ep) Q E s:=by
 unfold setNextDrawn
 refine Aa (Kz ho hd hf ?_)
 dsimp only
 rw[if_neg (by simp),hx]
 exact Ab h
theorem C2{slot i nx:Nat}{x:Value}{Q:Option Value→Shared→Prop}(hI:s.heap.get? I=some (itO (rawInt slot) i a es.size ep))(ho:s.heap.get? a=some o)(hd:o.data= .set es ep t)(hf:t.fits es.size=true)
  (hn:∀(E':Value→Shared→Prop) (R:Option (Value×Nat)→Shared→Prop),R (some (x,nx)) s→wpAny (model prog w) A.in1 (setNext a slot i ep) R E' s)
  (h:∀h',h'.get? I=some (itO (rawInt nx) (i+1) a es.size ep)→Dn I s.heap h'→Q (some x) {s with heap:=h'}):wpAny (model prog w) A (pyNext (.ref I)) Q E s:=by
 have hT:s.TypeIs (.ref I) "set_iterator":=⟨_,hI,rfl⟩
 unfold pyNext
 refine Aa (Kw (Ex (name:=Str.ofString "__next__") hT We (Hb We hT Ry ?_ (Os _))))
 unfold Builtin.«set_iterator.__next__»
 refine Aa (Ab ?_)
 refine Aa (wpAny_fieldsOf hI rfl ?_)
 show wpAny _ _ (setEntries a >>=_) _ _ _
 refine Aa (Lo ho hd hf ?_)
 rw[if_neg (by simp[rawInt])]
 show wpAny _ _ (setNext a (Km (slot:Int)) (Km (i:Int)) (Km (ep:Int)) >>=_) _ _ _
 rw[Dl,Dl,Dl]
 refine Aa (hn _ _ ?_)
 dsimp only
 refine Aa (Hi hI (by simp) fun h1 g1 s1=>?_)
 refine Aa (Hi g1 (by simp) fun h2 g2 s2=>?_)
 exact Ab ⟨_,rfl,Ab (h h2 g2 (s1.trans s2))⟩
theorem Y45{T:Addr}{oT:Obj}{pl:Array Value}{n:Nat}{Q:Option (Array Value)→Shared→Prop}(hoT:s.heap.get? T=some oT)(hdT:oT.data= .seq pl n)(h:Q (some pl) s):wpAny (model prog w) A (seqItems? (.ref T)) Q E s:=by
 unfold seqItems?
 refine Aa (wpAny_load hoT ?_)
 rw[hdT]
 exact Ab h
theorem Nt{Q:Fin→Shared→Prop}{R:Value→Shared→Prop}(hh:A.handled=none)(h:∀h' e,(∀b u,s.heap.get? b=some u→h'.get? b=some u)→(∃u,h'.get? e=some u∧u.cls= .type "StopIteration")→R (.ref e) {s with heap:=h'}):wpAny (model prog w) A (newExc (.type "StopIteration") [] >>=fun e=>(raiseNew e:Sem Fin)) Q R s:=by
 refine Aa ?_
 simp only[newExc,newTuple]
 refine Aa (Ho ?_ (by size_fits))
 refine Aa (m:=firstArgMember _ _) (wpAny_of_eq (a:=Kb) (by first | rfl | (simp only[firstArgMember];rfl)) ?_)
 refine Ho ?_ (by size_fits)
 simp only[raiseNew]
 refine Aa (wpAny_handled ?_)
 rw[hh]
 refine Aa (Ab (wpAny_throw ?_))
 exact h _ _ (fun b u q=>Ad _ (Ad _ q)) ⟨_,Al _ rfl,rfl⟩
theorem Z78{slot i:Nat}{Q:Option Value→Shared→Prop}(hh:A.handled=none)(hI:s.heap.get? I=some (itO (rawInt slot) i a es.size ep))(ho:s.heap.get? a=some o)(hd:o.data= .set es ep t)(hf:t.fits es.size=true)
  (hn:∀(E':Value→Shared→Prop) (R:Option (Value×Nat)→Shared→Prop),R none s→wpAny (model prog w) A.in1 (setNext a slot i ep) R E' s)
  (h:∀h',Heap.ExtBut I s.heap h'→Q none {s with heap:=h'}):wpAny (model prog w) A (pyNext (.ref I)) Q E s:=by
 have hT:s.TypeIs (.ref I) "set_iterator":=⟨_,hI,rfl⟩
 unfold pyNext
 refine Aa (Kw (Ex (name:=Str.ofString "__next__") hT We (Hb We hT Ry ?_ (Os _))))
 unfold Builtin.«set_iterator.__next__»
 refine Aa (Ab ?_)
 refine Aa (wpAny_fieldsOf hI rfl ?_)
 show wpAny _ _ (setEntries a >>=_) _ _ _
 refine Aa (Lo ho hd hf ?_)
 rw[if_neg (by simp[rawInt])]
 show wpAny _ _ (setNext a (Km (slot:Int)) (Km (i:Int)) (Km (ep:Int)) >>=_) _ _ _
 rw[Dl,Dl,Dl]
 refine Aa (hn _ _ ?_)
 dsimp only
 refine Aa (Hi hI (by simp) fun h1 g1 s1=>?_)
 refine Nt (A:=A.in1) hh fun h2 e k2 he=>?_
 obtain⟨u,hu,hc⟩:=he
 refine Aa (Lk (T:="StopIteration") (b:=true) ⟨u,hu,hc⟩ isSubtype_stop ?_)
 exact Ab (h h2 fun b v hb q=>k2 _ _ (s1.extBut _ _ hb q))
theorem Zi7{T:Addr}{pl:Array Value}{i place:Nat}{x:Int×Value}{Q:Option Value→Shared→Prop}(hI:s.heap.get? I=some (itO (.ref T) i a es.size ep))(hT0:s.heap.IsTuple T pl)(ho:s.heap.get? a=some o)(hd:o.data= .set es ep t)(hf:t.fits es.size=true)
  (hp:pl[i]?=some (rawInt place)) (hx:es[place]?=some x)
  (h:∀h',h'.get? I=some (itO (.ref T) (i+1) a es.size ep)→Dn I s.heap h'→Q (some x.2) {s with heap:=h'}):wpAny (model prog w) A (pyNext (.ref I)) Q E s:=by
 have hT:s.TypeIs (.ref I) "set_iterator":=⟨_,hI,rfl⟩
 obtain⟨oT,hoT,hcT,nT,hdT⟩:=hT0
 unfold pyNext
 refine Aa (Kw (Ex (name:=Str.ofString "__next__") hT We (Hb We hT Ry ?_ (Os _))))
 unfold Builtin.«set_iterator.__next__»
 refine Aa (Ab ?_)
 refine Aa (wpAny_fieldsOf hI rfl ?_)
 show wpAny _ _ (setEntries a >>=_) _ _ _
 refine Aa (Lo ho hd hf ?_)
 rw[if_neg (by simp[rawInt])]
 show wpAny _ _ (seqItems? (.ref T) >>=_) _ _ _
 refine Aa (Y45 hoT hdT ?_)
 dsimp only
 rw[Dl,hp]
 show wpAny _ _ (setNextDrawn a (Km (place:Int)) (Km (ep:Int)) >>=_) _ _ _
 rw[Dl,Dl]
 refine Aa (Bu ho hd hf hx ?_)
 refine Aa (Hi hI (by simp) fun h1 g1 s1=>?_)
 exact Ab ⟨_,rfl,Ab (h h1 g1 s1)⟩
theorem Zz6{T:Addr}{pl:Array Value}{i:Nat}{Q:Option Value→Shared→Prop}(hh:A.handled=none)(hI:s.heap.get? I=some (itO (.ref T) i a es.size ep))(hT0:s.heap.IsTuple T pl)(ho:s.heap.get? a=some o)(hd:o.data= .set es ep t)(hf:t.fits es.size=true)
  (hp:pl[i]?=none) (h:∀h',Heap.ExtBut I s.heap h'→Q none {s with heap:=h'}):wpAny (model prog w) A (pyNext (.ref I)) Q E s:=by
 have hT:s.TypeIs (.ref I) "set_iterator":=⟨_,hI,rfl⟩
 obtain⟨oT,hoT,hcT,nT,hdT⟩:=hT0
 unfold pyNext
 refine Aa (Kw (Ex (name:=Str.ofString "__next__") hT We (Hb We hT Ry ?_ (Os _))))
 unfold Builtin.«set_iterator.__next__»
 refine Aa (Ab ?_)
 refine Aa (wpAny_fieldsOf hI rfl ?_)
 show wpAny _ _ (setEntries a >>=_) _ _ _
 refine Aa (Lo ho hd hf ?_)
 rw[if_neg (by simp[rawInt])]
 show wpAny _ _ (seqItems? (.ref T) >>=_) _ _ _
 refine Aa (Y45 hoT hdT ?_)
 dsimp only
 rw[Dl,hp]
 dsimp only
 refine Aa (Hi hI (by simp) fun h1 g1 s1=>?_)
 refine Aa (Hi g1 (by simp) fun h2 g2 s2=>?_)
 refine Nt (A:=A.in1) hh fun h3 e k3 he=>?_
 obtain⟨u,hu,hc⟩:=he
 refine Aa (Lk (T:="StopIteration") (b:=true) ⟨u,hu,hc⟩ isSubtype_stop ?_)
 exact Ab (h h3 fun b v hb q=>k3 _ _ (s2.extBut _ _ hb (s1.extBut _ _ hb q)))
end
end
theorem Zd1{α:Type}(next:Nat→Nat):∀(fuel k:Nat) (left:List α) (out:Array α),left.length=fuel→(pickOrder.go next fuel k left out).toList.Perm (out.toList++left)
 | 0,k,left,out,e=>by
  cases Iu.mp e
  unfold pickOrder.go
  rw[Mb]
 | fuel+1,k,left,out,e=>by
  unfold pickOrder.go
  have hi:next k % left.length<left.length:=Nat.mod_lt _ (by omega)
  rw[Ag hi]
  dsimp only
  refine(Zd1 next fuel (k+1) _ _ (by rw[List.length_eraseIdx,if_pos hi];omega)).trans ?_
  rw[Array.toList_push,Hd]
  exact(Qq left _ hi).append_left _
theorem Zj1{α:Type}(next:Nat→Nat)(xs:Array α):(pickOrder next xs).toList.Perm xs.toList:=by
 have:=Zd1 next xs.size 0 xs.toList #[] (Db)
 unfold pickOrder
 simpa using this
theorem Rn:Slot "set_iterator" "__iter__" "set_iterator.__iter__":=by
 refine .of (owner:="set_iterator") (n:="__iter__") ?_ ?_ ?_ ?_ ?_ ?_
 ·rw[Mc,Ku];kernel_rfl
 all_goals first | decide+kernel | exact .inl (by decide+kernel) | exact .inr (by decide+kernel) | (rw[isSubtype_type];kernel_rfl)
theorem Nz:entryFor table "set_iterator.__iter__"=some Builtin.«dict_keyiterator.__iter__»:=entryFor_alias (id':="dict_keyiterator.__iter__") (by kernel_rfl) rfl (by decide+kernel) (by kernel_rfl)
theorem Gy(a:Value):argsOk "set_iterator.__iter__" ⟨[a],[]⟩:=by
 unfold argsOk
 rw[signature?_of (id:="set_iterator.__iter__") (n:=['_','_','r','e','t','i','_','_']) (o:=['r','o','t','a','r','e','t','i','_','t','e','s']) (by kernel_rfl) Cq]
 kernel_rfl
section
variable{prog:Program}{w:World}{A:Around}{E:Value→Shared→Prop}{s:Shared}
structure ItSt(w:World)(I a T:Addr)(o:Obj)(es:Array (Int×Value))(ep:Nat)(t:SetTable)(vs:List Value)(i:Nat)(h:Heap):Prop where
 set:h.get? a=some o
 md:(w.params.followText "set-order"=true∧vs=(pickOrder (w.params.setOrder a ep) es).toList.map (·.2)∧h.get? I=some (itO (rawInt 0) i a es.size ep))
  ∨(w.params.followText "set-order"=false∧(!t.plain&&decide (es.size >1))=false∧t.led=true∧Rise t.place∧vs=es.toList.map (·.2)∧∃slot,Hs t.place slot=i∧h.get? I=some (itO (rawInt slot) i a es.size ep))
  ∨(∃pl:List Nat,h.IsTuple T (pl.map fun(k:Nat)=>rawInt k).toArray∧vs=pl.map (fun k=>(es.getD k (0,.none)).2)∧(∀k∈pl,k<es.size)∧h.get? I=some (itO (.ref T) i a es.size ep))
theorem Zn1{I a T:Addr}{o:Obj}{es:Array (Int×Value)}{ep:Nat}{t:SetTable}{vs:List Value}(hh:A.handled=none)(na:a≠I)(nT:T≠I)(hd:o.data= .set es ep t)(hf:t.fits es.size=true):
  Walks prog w A I [I,a,T] [I] vs.length (fun i v=>vs[i]?=some v) (ItSt w I a T o es ep t vs) where
 sub:=fun b hb=>by simp at hb;simp[hb]
 frame:=fun i h h' st hk=>by
  refine⟨hk a (by simp) _ st.set,?_⟩
  rcases st.md with⟨h1,h2,h3⟩ | ⟨h1,h2,h3,h4,h5,slot,h6,h7⟩ | ⟨pl,⟨oT,q1,q2⟩,h2,h3,h4⟩
  ·exact .inl ⟨h1,h2,hk I (by simp) _ h3⟩
  ·exact .inr (.inl ⟨h1,h2,h3,h4,h5,slot,h6,hk I (by simp) _ h7⟩)
  ·exact .inr (.inr ⟨pl,⟨oT,hk T (by simp) _ q1,q2⟩,h2,h3,hk I (by simp) _ h4⟩)
 item:=fun i s Q E hi st hQ=>by
  have hfs:t.place.size=es.size:=by
   unfold SetTable.fits at hf
   simp only[Bool.and_eq_true,beq_iff_eq] at hf
   exact hf.1
  have stay:∀{h':Heap},Dn I s.heap h'→h'.get? a=some o:=fun sb=>sb.extBut _ _ na st.set
  have old:∀{h':Heap},Dn I s.heap h'→∀b u,b∉[I]→s.heap.get? b=some u→h'.get? b=some u:=fun sb b u hb e=>sb.extBut _ _ (by simpa using hb) e
  rcases st.md with⟨h1,h2,h3⟩ | ⟨h1,h2,h3,h4,h5,slot,h6,h7⟩ | ⟨pl,⟨oT,q1,q2⟩,h2,h3,h4⟩
  ·have hx:(pickOrder (w.params.setOrder a ep) es).toList[i]?=some ((pickOrder (w.params.setOrder a ep) es).toList[i]'(by rw[h2,Ah] at hi;exact hi)):=Ag _
   generalize (pickOrder (w.params.setOrder a ep) es).toList[i]'(by rw[h2,Ah] at hi;exact hi)=x at hx
   rw[Hn] at hx
   refine C2 (x:=x.2) (nx:=0) h3 st.set hd hf (fun E' R q=>Jl st.set hd hf h1 (by rw[hx];exact q)) fun h' g sb=>?_
   refine hQ x.2 h' s.toks ?_ ⟨stay sb,.inl ⟨h1,h2,g⟩⟩ (old sb)
   rw[h2,Aq,Hn,hx];rfl
  ·have hi':i<es.size:=by rw[h5,Ah,Db] at hi;exact hi
   have hx:es[i]?=some es[i]:=De hi'
   have hp:t.place[i]?=some (t.place.getD i 0):=by rw[Dv,De (by omega)];rfl
   refine C2 (x:=es[i].2) (nx:=t.place.getD i 0+1) h7 st.set hd hf (fun E' R q=>O5 st.set hd hf h1 h2 h3 (by rw[h6,hx,hp];exact q)) fun h' g sb=>?_
   refine hQ es[i].2 h' s.toks ?_ ⟨stay sb,.inr (.inl ⟨h1,h2,h3,h4,h5,_,Bp h4 (by omega),g⟩)⟩ (old sb)
   rw[h5,Aq,Hn,hx];rfl
  ·have hi':i<pl.length:=by rw[h2,Ah] at hi;exact hi
   have hk:=h3 _ (Go hi')
   refine Zi7 (place:=pl[i]) (x:=es[pl[i]]) h4 ⟨oT,q1,q2⟩ st.set hd hf (by rw[Lz,Aq,Ag hi'];rfl) (De hk) fun h' g sb=>?_
   refine hQ _ h' s.toks ?_ ⟨stay sb,.inr (.inr ⟨pl,⟨oT,sb.extBut _ _ nT q1,q2⟩,h2,h3,g⟩)⟩ (old sb)
   rw[h2,Aq,Ag hi']
   show some (es.getD pl[i] _).2=_
   rw[Dv,De hk];rfl
 done:=fun s Q E st hQ=>by
  have hfs:t.place.size=es.size:=by
   unfold SetTable.fits at hf
   simp only[Bool.and_eq_true,beq_iff_eq] at hf
   exact hf.1
  have old:∀{h':Heap},Heap.ExtBut I s.heap h'→∀b u,b∉[I]→s.heap.get? b=some u→h'.get? b=some u:=fun sb b u hb e=>sb _ _ (by simpa using hb) e
  rcases st.md with⟨h1,h2,h3⟩ | ⟨h1,h2,h3,h4,h5,slot,h6,h7⟩ | ⟨pl,⟨oT,q1,q2⟩,h2,h3,h4⟩
  ·refine Z78 hh h3 st.set hd hf (fun E' R q=>Jl st.set hd hf h1 ?_) fun h' sb=>hQ h' s.toks (old sb)
   rw[←Hn,Dr (by rw[h2,Ah];exact Nat.le_refl _)]
   exact q
  ·refine Z78 hh h7 st.set hd hf (fun E' R q=>O5 st.set hd hf h1 h2 h3 ?_) fun h' sb=>hQ h' s.toks (old sb)
   rw[h6,←Hn,Dr (by rw[h5,Ah];exact Nat.le_refl _)]
   exact q
  ·refine Zz6 hh h4 ⟨oT,q1,q2⟩ st.set hd hf ?_ fun h' sb=>hQ h' s.toks (old sb)
   rw[Lz,Dr (by rw[h2];simp)]
 self:=fun i s Q E st hQ=>by
  have hT:s.TypeIs (.ref I) "set_iterator":=by
   rcases st.md with⟨_,_,h3⟩ | ⟨_,_,_,_,_,_,_,h7⟩ | ⟨_,_,_,_,h4⟩
   ·exact⟨_,h3,rfl⟩
   ·exact⟨_,h7,rfl⟩
   ·exact⟨_,h4,rfl⟩
  refine wpAny_pyIter_slot hT Rn (Hb Rn hT Nz ?_ (Gy _))
  show wpAny _ _ (ret (.ref I)) _ _ s
  exact Ab ⟨_,rfl,"set_iterator",_,hT,We.lookup,hQ⟩
theorem Y46{a:Addr}{o:Obj}{es:Array (Int×Value)}{ep:Nat}{t:SetTable}{Q:Value→Shared→Prop}(hc:o.cls= .type "set")(ho:s.heap.get? a=some o)(hd:o.data= .set es ep t)(hf:t.fits es.size=true)(ht:TOk t (Pt w))(hz:es.size≤sizeLine)
  (h:∀d h' I T vs,vs.Perm (es.toList.map (·.2))→ItSt w I a T o es ep t vs 0 h'→s.heap.objs.size≤I→a≠I→T≠I→(T=a∨s.heap.objs.size≤T)→(∀b u,s.heap.get? b=some u→h'.get? b=some u)→Q (.ref I) {s with heap:=h',drawn:=d}):
  wpAny (model prog w) A (pyIter (.ref a)) Q E s:=by
 have hT:s.TypeIs (.ref a) "set":=⟨o,ho,hc⟩
 have la:a<s.heap.objs.size:=Ai ho
 refine wpAny_pyIter_slot hT F.slot_set_iter (Hb F.slot_set_iter hT Zs1 ?_ (F.args_set_iter_1 _))
 unfold Builtin.«frozenset.__iter__»
 refine Aa (Aa (Ab (Ab ?_)))
 refine Aa ?_
 unfold Builtin.Frozenset.sizeOf
 refine Aa (Lo ho hd hf (Ab ?_))
 refine Aa ?_
 unfold setDrawn
 refine Aa (Kz ho hd hf ?_)
 dsimp only
 unfold setsByText
 refine Aa (Aa (Ll (Ab ?_)))
 show wpAny _ _ (pure (!w.params.followText "set-order"&&(!t.plain&&decide (es.size >1)))) _ _ _
 refine Ab ?_
 have plainCase:(w.params.followText "set-order"=true∨(w.params.followText "set-order"=false∧(!t.plain&&decide (es.size >1))=false))→wpAny (model prog w) A.in1 (newFields "set_iterator" [rawInt 0,rawInt 0,.ref a,rawInt es.size,rawInt ep] >>=fun v=>ret v) (fun fin s'=>∃v,fin= .done (.ret v)∧∃T' r,s'.TypeIs v T'∧typeLookup (.type T') "__next__"=pure (some r)∧Q v s') E s:=by
  intro hm
  refine Aa ?_
  show wpAny _ _ (newObj (.type "set_iterator") (.fields #[rawInt 0,rawInt 0,.ref a,rawInt es.size,rawInt ep])) _ _ _
  refine Ho (Ab ⟨_,rfl,"set_iterator",_,⟨_,Al _ rfl,rfl⟩,We.lookup,?_⟩)
  have g:(s.heap.push (itO (rawInt 0) 0 a es.size ep)).get? s.heap.objs.size=some (itO (rawInt 0) 0 a es.size ep):=Al _ rfl
  have g0:(s.heap.push (itO (rawInt 0) 0 a es.size ep)).get? a=some o:=Ad _ ho
  have k:∀b u,s.heap.get? b=some u→(s.heap.push (itO (rawInt 0) 0 a es.size ep)).get? b=some u:=fun b u q=>Ad _ q
  rcases hm with hm | ⟨hm,hp⟩
  ·exact h s.drawn _ s.heap.objs.size a _ ((Zj1 (w.params.setOrder a ep) es).map _) ⟨g0,.inl ⟨hm,rfl,g⟩⟩ (Nat.le_refl _) (Nat.ne_of_lt la) (Nat.ne_of_lt la) (.inl rfl) k
  ·exact h s.drawn _ s.heap.objs.size a _ (Mh _) ⟨g0,.inr (.inl ⟨hm,hp,by rw[ht.led];unfold Pt;rw[hm];rfl,ht.rise,rfl,0,Z19 ht.rise,g⟩)⟩ (Nat.le_refl _) (Nat.ne_of_lt la) (Nat.ne_of_lt la) (.inl rfl) k
 by_cases hm:w.params.followText "set-order"=true
 ·rw[hm]
  rw[if_neg (by simp)]
  refine Aa (Ab (Aa (wpAny_setEpoch_of ho hd hf ?_)))
  exact plainCase (.inl hm)
 ·have hm':w.params.followText "set-order"=false:=by cases e:w.params.followText "set-order" <;>simp_all
  rw[hm']
  cases hp:(!t.plain&&decide (es.size >1)) with
  | false=>
   rw[if_neg (by simp)]
   refine Aa (Ab (Aa (wpAny_setEpoch_of ho hd hf ?_)))
   exact plainCase (.inr ⟨hm',hp⟩)
  | true=>
   rw[if_pos (by rfl)]
   refine Aa (Em _ _ _ _ (by simp) fun pl d pp=>?_)
   have pl_len:pl.length=es.size:=by rw[pp.length_eq,List.length_range]
   have pl_lt:∀k∈pl,k<es.size:=fun k hk=>Ia.mp (pp.mem_iff.mp hk)
   refine Aa (wpAny_newTuple ?_ (by rw[Ah,pl_len];exact hz))
   generalize hoT:({cls:= .type "tuple",data:= .seq (pl.map fun(i:Nat)=>rawInt i).toArray}:Obj)=oT
   have gT:(s.heap.push oT).get? s.heap.objs.size=some oT:=Al _ (by rw[←hoT];rfl)
   have ho1:(s.heap.push oT).get? a=some o:=Ad _ ho
   refine Aa (wpAny_setEpoch_of (s:={s with heap:=s.heap.push oT,drawn:=d}) ho1 hd hf ?_)
   refine Aa ?_
   show wpAny _ _ (newObj (.type "set_iterator") (.fields #[.ref s.heap.objs.size,rawInt 0,.ref a,rawInt es.size,rawInt ep])) _ _ _
   refine Ho (Ab ⟨_,rfl,"set_iterator",_,⟨_,Al _ rfl,rfl⟩,We.lookup,?_⟩)
   have sz1:(s.heap.push oT).objs.size=s.heap.objs.size+1:=Hr _ _
   refine h d _ (s.heap.push oT).objs.size s.heap.objs.size (pl.map (fun k=>(es.getD k (0,.none)).2)) ?_ ⟨Ad _ ho1,.inr (.inr ⟨pl,⟨oT,Ad _ gT,by rw[←hoT],0,by rw[←hoT]⟩,rfl,pl_lt,Al _ rfl⟩)⟩ ?_ ?_ ?_ (.inr (Nat.le_refl _)) fun b u q=>Ad _ (Ad _ q)
   ·refine(pp.map _).trans ?_
    have e:(Ij es.size).map (fun k=>(es.getD k (0,.none)).2)=es.toList.map (·.2):=by
     apply Lw
     intro i
     have e1:es.toList[i]?=es[i]?:=Hn
     rw[Aq,Aq,e1]
     by_cases hi:i<es.size
     ·rw[List.getElem?_range hi,De hi]
      show some (es.getD i _).2=_
      rw[Dv,De hi];rfl
     ·rw[Dr (by rw[List.length_range];omega),Array.getElem?_eq_none (by omega)];rfl
    rw[e]
   ·rw[sz1];exact Nat.le_succ _
   ·rw[sz1];exact Nat.ne_of_lt (Nat.lt_succ_of_lt la)
   ·rw[sz1];exact Nat.ne_of_lt (Nat.lt_succ_self _)
end
end SW
namespace SW
open PySem PyProof.Rows PySem.W
section
variable{prog:Program}{w:World}{A:Around}{E:Value→Shared→Prop}{s:Shared}
theorem Zf7{a:Addr}{Q:Bool→Shared→Prop}(hT:s.TypeIs (.ref a) "set")(h:Q false s):wpAny (model prog w) A (Kn (.ref a)) Q E s:=by
 unfold Kn
 refine Aa (Md hT PySem.F.slot_set_len.lookup ?_)
 generalize hid:("set.__len__":String)=id0
 wp_delta
 rw[show splitId id0=some ("set","__len__") from by subst hid;decide+kernel]
 subst hid
 refine Aa (Lk (T:="set") (b:=true) hT sub_set_self ?_)
 refine Kv (fun z=>absurd z (by decide)) fun _=>?_
 refine Kv (fun _=>Aa (Lh hT (Ab h))) fun z=>absurd (by decide+kernel) z
theorem Zy0{a S:Addr}{o:Obj}{es:Array (Int×Value)}{ep:Nat}{t:SetTable}{res:Value}{R:Result→Shared→Prop}(hh:A.handled=none)(hc:o.cls= .type "set")(ho:s.heap.get? a=some o)(hd:o.data= .set es ep t)(hf:t.fits es.size=true)(ht:TOk t (Pt w))(hz:es.size≤sizeLine)
  (hSa:S≠a) (c0:Nat) (hS:s.heap.get? S=some {cls:= .type "list",data:= .seq #[] c0})
  (hR:∀h' tk d (vs:List Value) c',vs.Perm (es.toList.map (·.2))→(∀b u,b≠S→s.heap.get? b=some u→h'.get? b=some u)→h'.get? S=some {cls:= .type "list",dict:=none,data:= .seq vs.toArray c',slots:=#[]}→R (.ok (.ret res)) {s with heap:=h',toks:=tk,drawn:=d}):
  wpAny (model prog w) A.in1 (Dw (.ref S) (.ref a) res)
   (fun fin s'=>match fin with | .done f=>R (.ok f) s' | .again c'=>c'.quiet=true∧codeAny (model prog w) A c' R s') (fun e s'=>R (.error e) s') s:=by
 have lS:S<s.heap.objs.size:=Ai hS
 unfold Dw
 refine Aa (Lh (T:="set") ⟨o,ho,hc⟩ ?_)
 have q1:Lm (.ref S) (.ref a)=false:=by simp[Lm,hSa]
 have q2:(Au "set"==Au "list")=false:=by decide
 have q3:(Au "set"==Au "tuple")=false:=by decide
 simp only[q1,q2,q3,Bool.or_false,Bool.false_eq_true,if_false]
 refine Aa (Y46 hc ho hd hf ht hz fun d h1 I T vs pv st lI na nT lT k1=>?_)
 have nSI:S≠I:=Nat.ne_of_lt (Nat.lt_of_lt_of_le lS lI)
 have nST:S≠T:=by
  rcases lT with rfl | lT
  ·exact hSa
  ·exact Nat.ne_of_lt (Nat.lt_of_lt_of_le lS lT)
 have nf:S∉[I,a,T]:=by
  simp only[Am,Aw,or_false,not_or]
  exact⟨nSI,hSa,nST⟩
 have W:=Zn1 (prog:=prog) (w:=w) (A:=A.in1) (vs:=vs) hh na nT hd hf
 have vl:vs.length≤sizeLine:=by rw[pv.length_eq,Ah,Db];exact hz
 have hS1:h1.get? S=some {cls:= .type "list",data:= .seq #[] c0}:=k1 _ _ hS
 have key:∀(h2:Heap) (c1 tk:Nat),ItSt w I a T o es ep t vs 0 h2→(∀b u,b≠S→s.heap.get? b=some u→h2.get? b=some u)→h2.get? S=some {cls:= .type "list",data:= .seq #[] c1}→
   codeAny (model prog w) A (.builtin "list.extend.loop" ⟨[.ref S,.ref I,res],[]⟩) R {s with heap:=h2,toks:=tk,drawn:=d}:=by
  intro h2 c1 tk st2 k2 g2
  refine codeAny_extend_loopS W.toS vl S nf res vs.length 0 _ #[] c1 rfl (Nat.zero_le _) st2 g2 (ItemsOf.nil _) fun s' acc c' mv hS' hacc=>?_
  rw[Moved.eq_with mv]
  have ea:acc=vs.toArray:=by
   apply Array.ext'
   apply Lw
   intro i
   by_cases hi:i<acc.size
   ·have h3:acc.toList[i]?=some acc[i]:=by rw[Hn,De hi]
    rw[h3]
    exact(hacc.2 i acc[i] (De hi)).symm
   ·rw[Dr (by rw[Db];omega),Dr (by have:=hacc.1;show vs.length≤i;omega)]
  rw[ea] at hS'
  refine hR s'.heap s'.toks d vs c' pv (fun b u hb e=>mv.heap b u ?_ (k2 b u hb e)) hS'
  intro hm
  rcases Am.mp hm with z | z
  ·exact hb z
  ·rw[Bk.mp z] at e
   exact absurd (Ai e) (Nat.not_lt.mpr lI)
 refine Aa (Dy (Zf7 ⟨o,k1 _ _ ho,hc⟩ ?_))
 refine Kv (fun _=>?_) fun _=>Ab ⟨Kf Ld _,key h1 c0 _ st (fun b u _ e=>k1 b u e) hS1⟩
 refine Aa (Lu (Aa ?_))
 show wpAny _ _ (updateSeq S (·.push .none) >>=fun _=>updateSeq S (·.pop)) _ _ _
 refine Aa (Me hS1 rfl ?_)
 have g2:=Hm (Ig (·.push Kb)) hS1 rfl
 refine Me (hz:=by seq_fits) g2 rfl ?_
 have g3:=Hm (Ig (·.pop)) g2 rfl
 have far:∀b u,b≠S→h1.get? b=some u→((h1.update S (Ig (·.push Kb))).update S (Ig (·.pop))).get? b=some u:=fun b u hb e=>(Hh _ _ (Dm hb)).trans ((Hh _ _ (Dm hb)).trans e)
 refine Ab ⟨Kf Ld _,key _ _ _ (W.frame 0 _ _ st fun b hb u e=>far b u (fun z=>nf (z ▸ hb)) e) (fun b u hb e=>far b u hb (k1 b u e)) g3⟩
theorem Bm{r:Value}{P:List Value→Prop}{R:List Value→Shared→Prop}
  (hx:∀R:Result→Shared→Prop,(∀h' tk d vs c',P vs→(∀b u,s.heap.get? b=some u→h'.get? b=some u)→h'.get? s.heap.objs.size=some {cls:= .type "list",dict:=none,data:= .seq vs.toArray c',slots:=#[]}→R (.ok (.ret (.ref s.heap.objs.size))) {s with heap:=h',toks:=tk,drawn:=d})→
   wpAny (model prog w) A.in1 (Dw (.ref s.heap.objs.size) r (.ref s.heap.objs.size))
    (fun fin s'=>match fin with | .done f=>R (.ok f) s' | .again c'=>c'.quiet=true∧codeAny (model prog w) A c' R s') (fun e s'=>R (.error e) s') {s with heap:=s.heap.push {cls:= .type "list",data:= .seq ([]:List Value).toArray}})
  (h:∀h' tk d vs,P vs→(∀b u,s.heap.get? b=some u→h'.get? b=some u)→s.heap.objs.size≤h'.objs.size→R vs {s with heap:=h',toks:=tk,drawn:=d}):
  wpAny (model prog w) A (collect r) R E s:=by
 unfold collect
 refine Aa (wpAny_runValue (Kc entry_proto_collect' ?_))
 rw[Io PySem.F.plain_proto_collect _]
 show wpAny _ A.in1 (newList [] >>=fun l=>again (.builtin "list.__iadd__" ⟨[l,r],[]⟩)) _ _ s
 refine Aa (Ho (Ab ⟨Kf PySem.F.plain_list_iadd _,Kc entry_list_iadd' ?_⟩))
 rw[Io PySem.F.plain_list_iadd _]
 have fin:∀s2:Shared,(∃h' tk d,∃vs:List Value,∃c',P vs∧(∀b u,s.heap.get? b=some u→h'.get? b=some u)∧h'.get? s.heap.objs.size=some {cls:= .type "list",dict:=none,data:= .seq vs.toArray c',slots:=#[]}∧s2={s with heap:=h',toks:=tk,drawn:=d})→wpAny (model prog w) A (load s.heap.objs.size >>=fun o=>match o.data with | .seq xs _=>pure xs.toList | _=>unsupported "internal:collect") R E s2:=by
  rintro s2 ⟨h',tk,d,vs,c',pv,k,g,rfl⟩
  exact Aa (wpAny_load g (Ab (h h' tk d vs pv k (Nat.le_of_lt (Ai g)))))
 have key:=hx (fun q s2=>q= .ok (.ret (.ref s.heap.objs.size))∧∃h' tk d,∃vs:List Value,∃c',P vs∧(∀b u,s.heap.get? b=some u→h'.get? b=some u)∧h'.get? s.heap.objs.size=some {cls:= .type "list",dict:=none,data:= .seq vs.toArray c',slots:=#[]}∧s2={s with heap:=h',toks:=tk,drawn:=d})
  (fun h' tk d vs c' pv k g=>⟨rfl,h',tk,d,vs,c',pv,k,g,rfl⟩)
 show wpAny _ A.in1 (Dw (.ref s.heap.objs.size) r (.ref s.heap.objs.size)) _ _ _
 refine Hl key (fun f s2 x=>?_) fun e s2 x=>by cases x.1
 cases f with
 | done f=>
  obtain⟨e,x⟩:=x
  cases e
  exact fin s2 x
 | again c1=>
  refine⟨x.1,Lf x.2 fun q s3 y=>?_⟩
  obtain⟨rfl,y⟩:=y
  exact fin s3 y
theorem Z46{h:Heap}{a:Addr}{vs:List Value}{n:Nat}(ho:h.get? a=some (seqObj "list" vs.toArray n))(out:Array Value):(∃c,(sortedHeap h a vs out).get? a=some (seqObj "list" out c))∧∀b u,b≠a→h.get? b=some u→(sortedHeap h a vs out).get? b=some u:=by
 have la:=Ai ho
 constructor
 ·have h1:=get?_update_seq ho (fun _=>(#[]:Array Value))
  have h2:(((h.update a (Ig fun _=>#[])).push (seqObj "tuple" vs.toArray 0)).push (seqObj "list" #[] 0)).get? a=_:=Ad _ (Ad _ h1)
  exact⟨_,get?_update_seq h2 (fun _=>out)⟩
 ·intro b u hb e
  unfold sortedHeap
  rw[Hh _ _ (Dm hb)]
  refine Ad _ (Ad _ ?_)
  rw[Hh _ _ (Dm hb)]
  exact e
theorem Z20{r:Value}{P:List Value→List Int→Prop}{Q:Value→Shared→Prop}
  (hx:∀R:Result→Shared→Prop,(∀h' tk d vs c',(∃ns,P vs ns)→(∀b u,s.heap.get? b=some u→h'.get? b=some u)→h'.get? s.heap.objs.size=some {cls:= .type "list",dict:=none,data:= .seq vs.toArray c',slots:=#[]}→R (.ok (.ret (.ref s.heap.objs.size))) {s with heap:=h',toks:=tk,drawn:=d})→
   wpAny (model prog w) A.in1.in1 (Dw (.ref s.heap.objs.size) r (.ref s.heap.objs.size))
    (fun fin s'=>match fin with | .done f=>R (.ok f) s' | .again c'=>c'.quiet=true∧codeAny (model prog w) A.in1 c' R s') (fun e s'=>R (.error e) s') {s with heap:=s.heap.push {cls:= .type "list",data:= .seq ([]:List Value).toArray}})
  (hP:∀vs ns,P vs ns→IntsAre vs ns∧vs.length<64)
  (h:∀h' tk d D c (out:List Value) ns ns' vs,(∀b u,s.heap.get? b=some u→h'.get? b=some u)→s.heap.objs.size≤D→h'.get? D=some {cls:= .type "list",dict:=none,data:= .seq out.toArray c,slots:=#[]}→P vs ns→IntsAre out ns'→ns'.Perm ns→ns'.Pairwise (·≤·)→Q (.ref D) {s with heap:=h',toks:=tk,drawn:=d}):
  wpAny (model prog w) A (call (.builtin "sorted") [r]) Q E s:=by
 refine Calls.call_function_entry kind_sorted plain_sorted entry_sorted (args_sorted1 _) ?_
 unfold Builtin.«sorted»
 refine Aa (m:=checkCount "sorted" 1 1 _) (Ab ?_)
 refine Aa (Bm hx fun h1 tk d vs p0 k1 hs=>?_)
 obtain⟨ns,p1⟩:=p0
 obtain⟨i1,l1⟩:=hP vs ns p1
 refine Aa (wpAny_newList ?_ (by rw[Hv];omega))
 have g1:(h1.push (seqObj "list" vs.toArray 0)).get? h1.objs.size=some (seqObj "list" vs.toArray 0):=Al _ rfl
 refine Aa (Dy (Hb slot_list_sort ⟨_,g1,rfl⟩ entry_list_sort (list_sort_tree g1 i1 l1 fun out ns' a1 a2 a3=>⟨_,rfl,?_⟩) (args_list_sort _)))
 obtain⟨⟨c,g2⟩,k2⟩:=Z46 g1 out
 have ea:out=out.toList.toArray:=by simp
 refine Ab ⟨_,rfl,h _ tk d h1.objs.size c out.toList ns ns' vs (fun b u e=>k2 b u (Nat.ne_of_lt (Ai (k1 b u e))) (Ad _ (k1 b u e))) hs ?_ p1 a1 a2 a3⟩
 rw[←ea]
 exact g2
end
end SW
namespace SW
open PySem PyProof.Rows
theorem Ze2{vs vs':List Value}(p:vs'.Perm vs):∀{ns:List Int},IntsAre vs ns→∃ns',ns'.Perm ns∧IntsAre vs' ns':=by
 induction p with
 | nil=>intro ns h;exact⟨ns,Mh _,h⟩
 | cons x p ih=>
  intro ns h
  cases h with
  | cons n t r=>
   obtain⟨ns',a,b⟩:=ih r
   exact⟨_,a.cons _,.cons n t b⟩
 | swap x y l=>
  intro ns h
  cases h with
  | cons n t r=>
   cases r with
   | cons m u r=>exact⟨_,Ml.swap _ _ _,.cons m u (.cons n t r)⟩
 | trans p q ih1 ih2=>
  intro ns h
  obtain⟨k1,a1,b1⟩:=ih2 h
  obtain⟨k2,a2,b2⟩:=ih1 b1
  exact⟨k2,a2.trans a1,b2⟩
end SW
namespace L3
open PySem PySem.Spec PyProof.Rows L2
section
variable{X:Cx}{pins:List (Addr×Obj)}{σ:L2.St}{H:Hp}{s:Shared}
theorem drew(I:Inv X pins σ H s)(d:Drawn):Inv X pins σ H {s with drawn:=d}:=⟨I.ok,I.os,I.bare,I.base,I.loc,I.cell,I.free,I.freeC,I.pin,I.hok,I.len⟩
def Vh(P:Program)(w:World)(a:Addr)(ks:List Key)(h:Heap):Prop:=∃o,h.get? a=some o∧SW.SetO (Yk P w) (SW.Pt w) o ks
theorem Vh.stay{P:Program}{w:World}{a:Addr}{ks:List Key}{h h':Heap}(x:Vh P w a ks h)(k:∀o,h.get? a=some o→h'.get? a=some o):Vh P w a ks h':=by
 obtain⟨o,ho,r⟩:=x
 exact⟨o,k _ ho,r⟩
theorem Z75(hc:X.calm=true):W0 X (.type "set") (fun xs H Q=>∃(a:Addr) (ks:List Key),xs=[V.ref a]∧SqL X.K H a (ks.map kV)∧ks.length+1<scanBound∧∀p ks',H p=none→ks'.Nodup→ks'.length≤ks.length→(∀k,k∈ks'↔k∈ks)→Q (.ref p) (upd H p (.ext (Vh X.prog X.w p ks')))):=by
 intro pins s σ H xs us Q I r h
 obtain⟨a,ks,rfl,hx,hz,q⟩:=h
 obtain⟨u,rfl,ru⟩:=Vl r
 cases ru
 obtain⟨its,rv,p,_⟩:=I.list hx
 have hl:its.length=ks.length:=by have:=rv.length;rw[Ah] at this;exact this.symm
 refine SW.Zk3 (knd:=Yk X.prog X.w) (key:=fun i=>ks.getD i (.inl 0)) (I.ok.hd hc) p.isList (fun i v e=>?_) (by rw[Aj];omega) fun h' tk o ks' ho hS hlk hm k=>?_
 ·rw[Lz] at e
  have hi:i<ks.length:=by have:=(Af.mp e).1;omega
  have e1:(ks.map kV)[i]?=some (kV ks[i]):=by rw[Aq,Ag hi];rfl
  obtain⟨u,e2,r2⟩:=rv.get e1
  rw[e] at e2
  cases e2
  have e3:ks.getD i (.inl 0)=ks[i]:=by rw[Dz,Ag hi];rfl
  have hk:Gm ks[i] v=true:=Jt (P:=X.prog) (w:=X.w) r2
  refine⟨by show Gm (ks.getD i (.inl 0)) v=true;rw[e3];exact hk,?_⟩
  rcases Y9 hk with⟨i,t,_,rfl⟩ | ⟨x,t,_,rfl⟩<;>rfl
 ·have k':∀b u,s.heap.get? b=some u→h'.get? b=some u:=fun b u e=>k b u (Ai e) e
  refine⟨.ref _,_,I.laid (a:=s.heap.objs.size) (o:= .ext (Vh X.prog X.w s.heap.objs.size ks')) (t':=tk) k' (Nat.le_refl _) ⟨⟨o,ho,hS⟩,⟨o,ho⟩,fun h1 h2 x k=>x.stay k⟩,rfl,q _ ks' (I.hok.fresh (Nat.le_refl _)) hS.nd (by rw[Aj,hl] at hlk;exact hlk) fun k=>?_⟩
  rw[hm,Aj,hl,List.mem_iff_getElem]
  constructor
  ·rintro⟨j,hj,e⟩
   exact⟨j,hj,by rw[←e,Dz,Ag hj];rfl⟩
  ·rintro⟨j,hj,e⟩
   exact⟨j,hj,by rw[←e,Dz,Ag hj];rfl⟩
theorem Jh{P:Program}{w:World}:∀{ns:List Int} {l:List (Int×Value)},SW.KeysOf (Yk P w) (ns.map Im) l→IntsAre (l.map (·.2)) ns
 | [],l,h=>by cases h;exact .nil
 | n::ns,l,h=>by
  cases h with
  | cons h r=>
   rename_i e l
   rcases Y9 (k:=Im n) (v:=e.2) h with⟨i,t,q,hv⟩ | ⟨x,t,q,hv⟩
   ·cases q
    rw[Ch,hv]
    exact .cons _ _ (Jh r)
   ·cases q
theorem Vs:∀{vs:List Value} {ns:List Int},IntsAre vs ns→Vals (ns.map V.int) vs
 | _,_,.nil=> .nil
 | _,_,.cons n t r=> .cons ⟨t,rfl⟩ (Vs r)
theorem Zn9(I:Inv X pins σ H s){p:Addr}{φ:Heap→Prop}(h:H p=some (.ext φ)):φ s.heap:=(I.hok p _ h).1
def Zn5(P:Program)(w:World):List V→Hp→VK→Prop:=fun xs H Q=>∃(p:Addr) (ns:List Int),xs=[V.ref p]∧H p=some (.ext (Vh P w p (ns.map Im)))∧ns.length<64∧∀q (ms:List Int),H q=none→ms.Perm ns→ms.Pairwise (·≤·)→Q (.ref q) (upd H q (.lst (ms.map V.int)))
theorem G4(hc:X.calm=true):W0 X (.builtin "sorted") (Zn5 X.prog X.w):=by
 intro pins s σ H xs us Q I r h
 obtain⟨p,ns,rfl,hx,hz,q⟩:=h
 obtain⟨u,rfl,ru⟩:=Vl r
 cases ru
 obtain⟨o,ho,hS⟩:=Zn9 I hx
 obtain⟨es,ep,t,hd,he,hks,hf,ht⟩:=hS.dat
 have hi:=Jh hks
 have hl:es.size=ns.length:=by have:=hks.len;rw[Ah,Db] at this;exact this.symm
 refine SW.Z20 (P:=fun vs ns'=>ns'.Perm ns∧IntsAre vs ns') (fun R hR=>?_) (fun vs ns' ⟨h1,h2⟩=>⟨h2,?_⟩) fun h' tk d D c out n1 n2 vs k lD g ⟨a1,a2⟩ b1 b2 b3=>?_
 ·have hS0:(s.heap.push {cls:= .type "list",data:= .seq ([]:List Value).toArray}).get? s.heap.objs.size=some {cls:= .type "list",data:= .seq #[] 0}:=Al _ rfl
  refine SW.Zy0 (A:=X.A.in1) (s:={s with heap:=s.heap.push {cls:= .type "list",data:= .seq ([]:List Value).toArray}}) (I.ok.hd hc) hS.ex.1 (Ad _ ho) hd hf ht (by rw[hl,Hv];omega) (Nat.ne_of_gt (Ai ho)) 0 hS0 fun h' tk d vs c' pv k g=>?_
  obtain⟨ns',q1,q2⟩:=SW.Ze2 pv hi
  exact hR h' tk d vs c' ⟨ns',q1,q2⟩ (fun b u e=>k b u (Nat.ne_of_lt (Ai e)) (Ad _ e)) g
 ·rw[h2.length,h1.length_eq];exact hz
 ·have hp:n2.Perm ns:=b2.trans a1
  refine⟨.ref D,_,drew (I.laid (a:=D) (o:= .lst (n2.map V.int)) (t':=tk) k lD ⟨?_,out,c,Vs b1,g⟩) d,rfl,q D n2 (I.hok.fresh lD) hp b3⟩
  rw[Ah,hp.length_eq,Hv];omega
def Y02(P:Program)(w:World):List V→Hp→VK→Prop:=fun xs H Q=>∃(p:Addr) (ks:List Key),xs=[V.ref p]∧H p=some (.ext (Vh P w p ks))∧Q (.int ks.length) H
theorem Z99:W0 X (.builtin "len") (Y02 X.prog X.w):=by
 intro pins s σ H xs us Q I r h
 obtain⟨p,ks,rfl,hx,q⟩:=h
 obtain⟨u,rfl,ru⟩:=Vl r
 cases ru
 obtain⟨o,ho,hS⟩:=Zn9 I hx
 obtain⟨es,ep,t,hd,he,hks,hf,ht⟩:=hS.dat
 have hl:es.size=ks.length:=by have:=hks.len;rw[Db] at this;exact this.symm
 have hb:ks.length<scanBound:=hS.sm
 have h4:scanBound=4096:=rfl
 refine call_len_set ho hS.ex hd hf (Int.lt_of_lt_of_le (show(es.size:Int)<4096 by omega) (by decide)) ?_
 rw[hl]
 exact⟨.int _,H,I.tok _,⟨_,rfl⟩,q⟩
end
section
variable{X:Cx}{pins:List (Addr×Obj)}{σ:L2.St}{H:Hp}{s:Shared}
theorem Za2{prog:Program}{w:World}{A:Around}{E:Value→Shared→Prop}{s:Shared}{t sl:Addr}{its:Array Value}{vl vu:Value}{lo hi:Option Int}{Q:Value→Shared→Prop}(ht:IsTup s.heap t its)(hs:s.heap.IsSliceOf sl vl vu .none)(pl:IsPart vl lo)(pu:IsPart vu hi)
  (hw:HT.sIx its.size 0 lo=0∧HT.sIx its.size its.size hi=its.size) (h:Q (.ref t) s):wpAny (model prog w) A (getItem (.ref t) (.ref sl)) Q E s:=by
 obtain⟨os,hos,hcs,hds⟩:=id hs
 have hTs:s.TypeIs (.ref sl) "slice":=⟨os,hos,hcs⟩
 unfold getItem
 try with_reducible refine Dy ?_
 first | refine Aa (Ab ?_) | skip
 refine Aa (wpAny_sequenceKey ht.typeIs (by decide) ?_)
 refine Aa (Ex (name:=Str.ofString "__getitem__") ht.typeIs Hq (Hb Hq ht.typeIs entry_tuple_getitem ?_ (args_tuple_getitem _ _)))
 show wpAny _ _ (Builtin.Tuple.tupleItemsOf (.ref t) >>=_) _ _ s
 refine Aa (tupleItemsOf_ ht (Aa (Lh hTs ?_)))
 rw[if_pos (by decide)]
 refine Aa (HT.Vj hs pl pu ?_)
 show wpAny _ _ (if (((HT.sIx its.size 0 lo:Nat):Int)==0&&(1:Int)==1&&(HT.sIx its.size its.size hi - HT.sIx its.size 0 lo)==its.size)=true then _ else _) _ _ s
 rw[if_pos (by rw[hw.1,hw.2];simp)]
 refine Aa ?_
 unfold Builtin.Tuple.tupleIsExact
 refine Aa (Lh ht.typeIs (Ab ?_))
 rw[if_pos (by decide)]
 exact Aa (Lu (Ab ⟨_,rfl,Ab h⟩))
theorem Zu1:SlR X (fun x lo hi H Q=>∃a xs,x= .ref a∧SqT X.K H a xs∧(HT.sIx xs.length 0 lo=0∧HT.sIx xs.length xs.length hi=xs.length)∧Q x H):=by
 intro pins s σ H x v vl vu lo hi sl Q I rx hs pl pu h
 obtain⟨a,xs,rfl,hx,hw,q⟩:=h
 cases rx
 obtain⟨its,r,ht,hz⟩:=I.tuple hx
 have hlen:its.toArray.size=xs.length:=by rw[Aj];exact r.length.symm
 exact⟨"tuple",_,Hq.lookup,ht.typeIs,Za2 ht hs pl pu (by rw[hlen];exact hw) ⟨.ref a,H,I,rfl,q⟩⟩
end
end L3
namespace L2
open PySem PySem.Spec PyProof.Rows
variable{X:Cx}
end L2
namespace SW
open PySem PySem.Spec PyProof.Rows
section
variable{prog:Program}{w:World}{A:Around}{E:Value→Shared→Prop}{s:Shared}
theorem Z24:typeLookup (.type "list_reverseiterator") "__len__"=pure none:=by rw[Mc,Ku];kernel_rfl
theorem J6:Slot "list_reverseiterator" "__length_hint__" "list_reverseiterator.__length_hint__":=
 .of (owner:="list_reverseiterator") (n:="__length_hint__") (by rw[Mc,Ku];kernel_rfl) (by decide+kernel) (by decide+kernel) (by decide+kernel)
  (by first | exact .inl (by decide+kernel) | exact .inr (by decide+kernel)) (by rw[isSubtype_type];kernel_rfl)
theorem Ze7{r:Addr}{Q:Bool→Shared→Prop}(hT:s.TypeIs (.ref r) "list_reverseiterator")(h:Q false s):wpAny (model prog w) A (Kn (.ref r)) Q E s:=by
 unfold Kn
 refine Aa (Md hT Z24 ?_)
 show wpAny _ A (specialOf (An r) (Str.ofString "__length_hint__") >>=_) _ _ _
 refine Aa (Md hT J6.lookup ?_)
 generalize hid:("list_reverseiterator.__length_hint__":String)=id0
 wp_delta
 rw[show splitId id0=some ("list_reverseiterator","__length_hint__") from by subst hid;decide+kernel]
 subst hid
 refine Aa (Lk (T:="list_reverseiterator") (b:=true) hT (by rw[isSubtype_type];kernel_rfl) ?_)
 refine Kv (fun hab=>absurd hab (by decide)) (fun _=>?_)
 dsimp only
 refine Kv (fun _=>?_) (fun hab=>absurd (by decide+kernel) hab)
 refine Kv (fun hab=>absurd hab (by decide+kernel)) (fun _=>?_)
 exact Ab h
theorem Zw2{I l S:Addr}{items:Array Value}{res:Value}{R:Result→Shared→Prop}(hh:A.handled=none)(hit:s.heap.IsRevIter I l ((items.size:Int) - 1))(hl:s.heap.IsList l items)(hz:items.size≤sizeLine)(hlI:l≠I)(hSI:S≠I)(hSl:S≠l)(c0:Nat)(hS:s.heap.get? S=some {cls:= .type "list",data:= .seq #[] c0})
  (hR:∀h' tk acc c',ItemsOf (fun i v=>items[items.size - 1 - i]?=some v) acc items.size→(∀b u,b≠S→b≠I→s.heap.get? b=some u→h'.get? b=some u)→h'.get? S=some {cls:= .type "list",dict:=none,data:= .seq acc c',slots:=#[]}→R (.ok (.ret res)) {s with heap:=h',toks:=tk}):
  wpAny (model prog w) A.in1 (Dw (.ref S) (.ref I) res)
   (fun fin s'=>match fin with | .done f=>R (.ok f) s' | .again c'=>c'.quiet=true∧codeAny (model prog w) A c' R s') (fun e s'=>R (.error e) s') s:=by
 have W:=Walks.listRev (prog:=prog) (w:=w) (A:=A.in1) hh I l hlI items
 have nf:S∉[I,l]:=by
  simp only[Am,Aw,or_false,not_or]
  exact⟨hSI,hSl⟩
 have st0:0≤items.size∧s.heap.IsRevIter I l ((items.size:Int) - 1 - ((0:Nat):Int))∧s.heap.IsList l items:=⟨Nat.zero_le _,by rw[show(items.size:Int) - 1 - ((0:Nat):Int)=(items.size:Int) - 1 by omega];exact hit,hl⟩
 have hT:=hit.typeIs
 unfold Dw
 refine Aa (Lh hT ?_)
 have q1:Lm (.ref S) (.ref I)=false:=by simp[Lm,hSI]
 have q2:(Au "list_reverseiterator"==Au "list")=false:=by decide
 have q3:(Au "list_reverseiterator"==Au "tuple")=false:=by decide
 simp only[q1,q2,q3,Bool.or_false,Bool.false_eq_true,if_false]
 refine Aa (wpAny_pyIter_revIter hit ?_)
 have key:∀(h2:Heap) (c1 tk:Nat),(0≤items.size∧h2.IsRevIter I l ((items.size:Int) - 1 - ((0:Nat):Int))∧h2.IsList l items)→(∀b u,b≠S→s.heap.get? b=some u→h2.get? b=some u)→h2.get? S=some {cls:= .type "list",data:= .seq #[] c1}→
   codeAny (model prog w) A (.builtin "list.extend.loop" ⟨[.ref S,.ref I,res],[]⟩) R {s with heap:=h2,toks:=tk}:=by
  intro h2 c1 tk st2 k2 g2
  refine codeAny_extend_loopS W.toS hz S nf res items.size 0 _ #[] c1 rfl (Nat.zero_le _) st2 g2 (ItemsOf.nil _) fun s' acc c' mv hS' hacc=>?_
  rw[Moved.eq_with mv]
  refine hR s'.heap s'.toks acc c' hacc (fun b u hb hI e=>mv.heap b u ?_ (k2 b u hb e)) hS'
  intro hm
  rcases Am.mp hm with z | z
  ·exact hb z
  ·exact hI (Bk.mp z)
 refine Aa (Dy (Ze7 hT ?_))
 refine Kv (fun _=>?_) fun _=>Ab ⟨Kf Ld _,key _ c0 _ st0 (fun b u _ e=>e) hS⟩
 refine Aa (Lu (Aa ?_))
 show wpAny _ _ (updateSeq S (·.push .none) >>=fun _=>updateSeq S (·.pop)) _ _ _
 refine Aa (Me hS rfl ?_)
 have g2:=Hm (Ig (·.push Kb)) hS rfl
 refine Me (hz:=by seq_fits) g2 rfl ?_
 have g3:=Hm (Ig (·.pop)) g2 rfl
 have far:∀b u,b≠S→s.heap.get? b=some u→((s.heap.update S (Ig (·.push Kb))).update S (Ig (·.pop))).get? b=some u:=fun b u hb e=>(Hh _ _ (Dm hb)).trans ((Hh _ _ (Dm hb)).trans e)
 exact Ab ⟨Kf Ld _,key _ _ _ (W.frame 0 _ _ st0 fun b hb u e=>far b u (fun z=>nf (z ▸ hb)) e) far g3⟩
theorem Zk5{I l S:Addr}{items:Array Value}{R:Result→Shared→Prop}(hh:A.handled=none)(hit:s.heap.IsRevIter I l ((items.size:Int) - 1))(hl:s.heap.IsList l items)(hz:items.size≤sizeLine)(hlI:l≠I)(hSI:S≠I)(hSl:S≠l)(hS:s.heap.get? S=some {cls:= .type "list",data:= .seq #[]})
  (hR:∀h' tk acc c',ItemsOf (fun i v=>items[items.size - 1 - i]?=some v) acc items.size→(∀b u,b≠S→b≠I→s.heap.get? b=some u→h'.get? b=some u)→h'.get? S=some {cls:= .type "list",dict:=none,data:= .seq acc c',slots:=#[]}→R (.ok (.ret .none)) {s with heap:=h',toks:=tk}):
  wpAny (model prog w) A.in1 (Builtin.«list.__init__» ⟨[.ref S,.ref I],[]⟩)
   (fun fin s'=>match fin with | .done f=>R (.ok f) s' | .again c'=>c'.quiet=true∧codeAny (model prog w) A c' R s') (fun e s'=>R (.error e) s') s:=by
 show wpAny _ _ (do let old ←Builtin.List.listItems (.ref S);Builtin.List.listUpdate (.ref S) (fun _=>#[]);letGo old.toList.reverse;Dw (.ref S) (.ref I) .none) _ _ s
 refine Aa ?_
 unfold Builtin.List.listItems
 refine Aa (Ip hS rfl (Ab ?_))
 show wpAny _ _ (updateSeq S (fun _=>#[]) >>=fun _=>letGo (#[]:Array Value).toList.reverse >>=fun _=>Dw (.ref S) (.ref I) .none) _ _ s
 refine Aa (Me hS rfl ?_)
 have hS₂:=Hm (Ig (fun _=>(#[]:Array Value))) hS rfl
 have oth:∀b o,b≠S→s.heap.get? b=some o→(s.heap.update S (Ig (fun _=>(#[]:Array Value)))).get? b=some o:=
  fun b o hb e=>(Hh _ _ (Dm hb)).trans e
 refine Aa (wpAny_letGo ?_)
 obtain⟨ol,hol,hol2⟩:=hl
 refine Zw2 hh (hit.at fun o e=>oth _ o (Dm hSI) e) ⟨ol,oth _ ol (Dm hSl) hol,hol2⟩ hz hlI hSI hSl _ hS₂ fun h' tk acc c' ha hk hS'=>?_
 exact hR h' tk acc c' ha (fun b o hb hI e=>hk b o hb hI (oth b o hb e)) hS'
theorem J3{I l:Addr}{items:Array Value}{Q:Value→Shared→Prop}(hh:A.handled=none)(hit:s.heap.IsRevIter I l ((items.size:Int) - 1))(hl:s.heap.IsList l items)(hz:items.size≤sizeLine)(hlI:l≠I)
  (hQ:∀h' tk acc c',ItemsOf (fun i v=>items[items.size - 1 - i]?=some v) acc items.size→(∀b u,b≠I→s.heap.get? b=some u→h'.get? b=some u)→h'.get? s.heap.objs.size=some {cls:= .type "list",dict:=none,data:= .seq acc c',slots:=#[]}→Q (.ref s.heap.objs.size) {s with heap:=h',toks:=tk}):
  wpAny (model prog w) A (call (.type "list") [.ref I]) Q E s:=by
 refine callType_codes (Q₁:=fun obj s₁=>obj= .ref s.heap.objs.size∧s₁={s with heap:=s.heap.push {cls:= .type "list",data:= .seq #[]}}) PySem.F.called_list (PySem.F.typeCall_list_1 _) PySem.F.entry_list_init
  (code_list_new _ ⟨rfl,rfl⟩) fun obj s₁ h₁=>?_
 obtain⟨rfl,rfl⟩:=h₁
 have hS:(s.heap.push {cls:= .type "list",data:= .seq #[]}).get? s.heap.objs.size=some {cls:= .type "list",data:= .seq #[]}:=Al _ rfl
 obtain⟨oi,hoi,hoi2⟩:=id hit
 obtain⟨ol,hol,hol2⟩:=id hl
 refine⟨⟨_,hS,rfl⟩,PySem.F.args_list_init_2 _ _,Zk5 (A:=A.in1) hh (hit.at fun o e=>Ad _ e) ⟨ol,Ad _ hol,hol2⟩ hz hlI (Nat.ne_of_gt (Ai hoi)) (Nat.ne_of_gt (Ai hol)) hS (fun h' tk acc c' ha hk hS'=>?_)⟩
 exact⟨rfl,hQ h' tk acc c' ha (fun b o hI e=>hk b o (Nat.ne_of_lt (Ai e)) hI (Ad _ e)) hS'⟩
end
end SW
namespace L3
open PySem PySem.Spec PyProof.Rows L2
section
variable{X:Cx}{pins:List (Addr×Obj)}{σ:L2.St}{H:Hp}{s:Shared}
def Er(m:Nat)(p l:Addr)(n:Nat):Heap→Prop:=fun h=>h.IsRevIter p l ((n:Int) - 1)∧m≤p∧l≠p
noncomputable def del(H:Hp)(p:Addr):Hp:=fun b=>if b=p then none else H b
theorem Zg2{p S:Addr}{o:HO}{φ:Heap→Prop}{h':Heap}{t':Nat}(I:Inv X pins σ H s)(hp:H p=some (.ext φ))(hm:X.s₀.heap.objs.size≤p)(k:∀b u,b≠p→s.heap.get? b=some u→h'.get? b=some u)(hS:s.heap.objs.size≤S)(new:Xl X.prog X.w (upd (del H p) S o) h' S o):Inv X pins σ (upd (del H p) S o) {s with heap:=h',toks:=t'}:=by
 have ne:∀b,H b=none→b≠p:=fun b e z=>by subst z;rw[hp] at e;cases e
 have nS:H S=none:=I.hok.fresh hS
 have de:∀b o',H b=some o'→b≠p→upd (del H p) S o b=some o':=fun b o' e n=>by
  rw[Zw (fun z=>by subst z;rw[nS] at e;cases e)]
  unfold del;rw[if_neg n];exact e
 refine I.step (g':=s.gens) (d':=s.drawn) (ch:=[p]) ?_ (fun b o _ _ hb e _=>k b o (by simpa using hb) e) (fun b o _ _ hb e _=>⟨o.slots,k b o (by simpa using hb) e⟩) (fun b o hb e n=>?_) (fun b o hb e=>⟨o,k b o (by simpa using hb) e⟩) (fun b xs e=>de b _ e fun z=>by subst z;rw[hp] at e;cases e) (fun b o u e=>de b _ e fun z=>by subst z;rw[hp] at e;cases e) (fun b ps e=>⟨#[],by rw[de b _ e fun z=>by subst z;rw[hp] at e;cases e];simp⟩) ?_ ?_ I.bare
 ·intro b hb
  cases Bk.mp hb
  exact⟨.inr hm,fun z=>ne _ I.free z.symm,fun x c e z=>ne _ (I.freeC x c e) z,fun q hq z=>ne _ (I.pin q hq).2.1 z⟩
 ·rw[Zw (Nat.ne_of_lt (Nat.lt_of_lt_of_le (Ai e) hS))]
  unfold del
  split
  ·rfl
  ·exact n
 ·rintro m ⟨o,es,ep,ho,r⟩
  exact⟨o,es,ep,k _ _ (ne _ I.free) ho,r⟩
 ·intro a o' e
  by_cases ha:a=S
  ·subst ha
   rw[Yy] at e
   cases e
   exact new
  rw[Zw ha] at e
  have ea:a≠p:=fun z=>by subst z;unfold del at e;rw[if_pos rfl] at e;cases e
  have e':H a=some o':=by unfold del at e;rw[if_neg ea] at e;exact e
  refine(I.hok a o' e').stay (fun b u hb q=>k b u (fun z=>?_) q) (fun b hb=>de b _ hb fun z=>?_) fun b xs hb=>de b _ hb fun z=>?_
  ·subst z
   rcases hb with z | z
   ·exact ea z.symm
   ·rw[hp] at z;cases z
  ·subst z;rw[hp] at hb;cases hb
  ·subst z;rw[hp] at hb;cases hb
def rRev(X:Cx):List V→Hp→VK→Prop:=fun xs H Q=>∃l ys,xs=[V.ref l]∧SqL X.K H l ys∧∀p,H p=none→l≠p→Q (.ref p) (upd H p (.ext (Er X.s₀.heap.objs.size p l ys.length)))
theorem Zl0:W0 X (.type "reversed") (rRev X):=by
 intro pins s σ H xs us Q I r h
 obtain⟨l,ys,rfl,hl,q⟩:=h
 obtain⟨u,rfl,ru⟩:=Vl r
 cases ru
 obtain⟨its,rv,pl,hz⟩:=I.list hl
 have il:=pl.isList
 have lt:l<s.heap.objs.size:=by obtain⟨o,ho,_⟩:=il;exact Ai ho
 have hn:its.toArray.size=ys.length:=by rw[Aj,rv.length]
 refine call_reversed_list il ?_
 have it:(s.heap.push (revObj l ((its.toArray.size:Int) - 1))).IsRevIter s.heap.objs.size l ((ys.length:Int) - 1):=⟨_,Al _ rfl,rfl,by rw[←hn];rfl⟩
 refine⟨.ref _,_,I.laid (a:=s.heap.objs.size) (o:= .ext (Er X.s₀.heap.objs.size s.heap.objs.size l ys.length)) (t':=s.toks) (fun b o e=>Ad _ e) (Nat.le_refl _) ⟨⟨it,I.sz,Nat.ne_of_lt lt⟩,⟨_,Al _ rfl⟩,fun h1 h2 zz59 k=>by obtain⟨a1,a2⟩:=zz59;exact⟨a1.at k,a2⟩⟩,rfl,q _ (I.hok.fresh (Nat.le_refl _)) (Nat.ne_of_lt lt)⟩
def Y82(X:Cx):List V→Hp→VK→Prop:=fun xs H Q=>∃p l ys,xs=[V.ref p]∧H p=some (.ext (Er X.s₀.heap.objs.size p l ys.length))∧SqL X.K H l ys∧∀S,H S=none→Q (.ref S) (upd (del H p) S (.lst ys.reverse))
theorem Z27(hc:X.calm=true):W0 X (.type "list") (Y82 X):=by
 intro pins s σ H xs us Q I r h
 obtain⟨p,l,ys,rfl,hp,hl,q⟩:=h
 obtain⟨u,rfl,ru⟩:=Vl r
 cases ru
 obtain⟨⟨it,hm,hlp⟩,_,_⟩:=I.hok p _ hp
 obtain⟨its,rv,pl,hz⟩:=I.list hl
 have hn:its.toArray.size=ys.length:=by rw[Aj,rv.length]
 refine SW.J3 (I.ok.hd hc) (by rw[hn];exact it) pl.isList (by rw[hn];exact hz) hlp fun h' tk acc c ha k g=>?_
 have e:acc=acc.toList.toArray:=by simp
 rw[e] at g
 refine⟨.ref _,_,Zg2 (t':=tk) I hp hm k (Nat.le_refl _) (o:= .lst ys.reverse) ⟨by rw[List.length_reverse];exact hz,acc.toList,c,?_,g⟩,rfl,q _ (I.hok.fresh (Nat.le_refl _))⟩
 have el:acc.toList=its.reverse:=by
  refine Lw fun i=>?_
  by_cases hi:i<its.length
  ·obtain⟨v,hv⟩:∃v,acc.toList[i]?=some v:=⟨_,Ag (by rw[Db,ha.1];simpa using hi)⟩
   have:=ha.2 i v (by rw[←Hn];exact hv)
   rw[hv,List.getElem?_reverse hi,←this]
   simp
  ·rw[Dr (by rw[Db,ha.1];simpa using hi),Dr (by simpa using hi)]
 rw[el]
 exact rv.reverse
end
section
variable{X:Cx}{pins:List (Addr×Obj)}{σ:L2.St}{H:Hp}{s:Shared}
theorem Z18(bs:List Bool):((Ij bs.length).any fun i=>(bs[i]?).getD false)=bs.any id:=by
 rw[Bool.eq_iff_iff,Kj,Kj]
 constructor
 ·rintro⟨i,hi,e⟩
  rw[Ia] at hi
  rw[Ag hi] at e
  exact⟨bs[i],Go hi,e⟩
 ·rintro⟨b,hb,e⟩
  obtain⟨i,hi,rfl⟩:=List.mem_iff_getElem.mp hb
  exact⟨i,Ia.mpr hi,by rw[Ag hi];exact e⟩
theorem Zj0(hc:X.calm=true):W0 X (.builtin "any") (fun xs H Q=>∃l,∃bs:List Bool,xs=[V.ref l]∧SqL X.K H l (bs.map V.bl)∧Q (.bl (bs.any id)) H):=by
 intro pins s σ H xs us Q I r h
 obtain⟨l,bs,rfl,hl,q⟩:=h
 obtain⟨u,rfl,ru⟩:=Vl r
 cases ru
 obtain⟨its,rv,pl,hz⟩:=I.list hl
 have il:=pl.isList
 have lt:l<s.heap.objs.size:=by obtain⟨o,ho,_⟩:=il;exact Ai ho
 have hn:its.length=bs.length:=by rw[←rv.length,Ah]
 refine call_any_walk (Ky il ?_)
 refine⟨s.heap.objs.size,[s.heap.objs.size,l],[s.heap.objs.size],its.toArray.size,_,_,fun i=>(bs[i]?).getD false,rfl,Walks.list (A:=X.A.in1) (I.ok.hd hc) _ l (Nat.ne_of_lt lt) its.toArray,⟨⟨_,Al _ rfl,rfl,rfl⟩,il.push _⟩,fun i v s' Q' E' hP hQ=>?_,fun h' tk hk=>?_⟩
 ·have hv:its[i]?=some v:=by simpa using hP
  have hi:i<bs.length:=by rw[←hn];exact(Af.mp hv).1
  obtain⟨v',e1,e2⟩:=rv.get (show(bs.map V.bl)[i]?=some (.bl bs[i]) by rw[Aq,Ag hi];rfl)
  rw[hv] at e1
  cases e1
  cases e2
  dsimp only at hQ
  rw[Ag hi] at hQ
  exact wpAny_truthy_bool hQ
 ·rw[Aj,hn,Z18]
  refine⟨.bl _,H,I.kept (t':=tk) fun b o e=>hk b o (fun hm=>?_) (Ad _ e),rfl,q⟩
  rw[Bk.mp hm] at e
  exact Nat.lt_irrefl _ (Ai e)
theorem E3:MtM X "list.insert" (fun x vs H Q=>∃l xs,∃i:Nat,∃y,x= .ref l∧vs=[.int i,y]∧H l=some (.lst xs)∧i≤xs.length∧xs.length<sizeLine∧Q .non (upd H l (.lst (xs.take i++y::xs.drop i)))):=by
 intro pins s σ H x vs v us Q I rx rv h
 obtain⟨l,xs,i,y,rfl,rfl,hH,hi,hz,q⟩:=h
 cases rx
 obtain⟨u0,u,rfl,ru0,ru⟩:=rv.two
 obtain⟨t,rfl⟩:∃t,u0=Value.int i t:=ru0
 obtain⟨z,its,n,r,hl,e⟩:=I.lstM hH
 have hf:Builtin.List.listFitsIndex (i:Int)=true:=by
  have hs:=Hv
  exact fitsIndex_both (by omega) (by omega)
 generalize hk:((i:Nat):Int)=k at hf
 refine Lb F.slot_list_insert ⟨_,e,rfl⟩ F.entry_list_insert (F.args_list_insert_3 _ _ _) (PySem.AutoListH.list_insert_list_int_val_1 l its.toArray n k t u (by rw[hf];exact Bool.false_ne_true) (by rw[Aj];omega)) ⟨e,?_⟩
 refine⟨.non,_,I.lset (its':=its.take i++u::its.drop i) hH e ?_ ?_ ?_,rfl,q⟩
 ·have h1:¬(k<0):=by omega
  have h2:min k.toNat its.toArray.size=i:=by rw[Aj];omega
  simp only[h1,if_false,h2]
  simp
  exact Dx (by simp)
 ·exact(r.take i).append (.cons ru (r.drop i))
 ·rw[Ay,Dc,Ie,Lg]
  omega
theorem Gu{prog:Program}{w:World}{A:Around}{E:Value→Shared→Prop}{it t:Addr}{items:Array Value}(hne:t≠it):∀(n i:Nat) (s:Shared) (Q:List Value→Shared→Prop),s.heap.IsListIter it t i→s.heap.IsList t items→i+n≤items.size→
  (∀h',h'.IsListIter it t (i+n)→Dn it s.heap h'→Q ((items.toList.drop i).take n) {s with heap:=h'})→wpAny (model prog w) A (draw (.ref it) n) Q E s
 | 0,i,s,Q,hit,_,_,hQ=>by
  show wpAny _ _ (pure []) Q E s
  exact Ab (by simpa using hQ s.heap hit (Dn.refl ..))
 | n+1,i,s,Q,hit,ht,hle,hQ=>by
  have hlt:i<items.size:=by omega
  show wpAny _ _ (pyNext (.ref it) >>=_) Q E s
  refine Aa (wpAny_pyNext_list_item hit ht (x:=items[i]) (by simp[hlt]) fun h₁ hit₁ hs₁=>?_)
  refine Aa (Dy (Gu hne n (i+1) _ _ hit₁ (ht.extBut hs₁.extBut hne) (by omega) fun h₂ hit₂ hs₂=>Ab ?_))
  have hd:items.toList.drop i=items[i]::items.toList.drop (i+1):=by simp[Ik,hlt]
  have:=hQ h₂ (by rw[show i+(n+1)=i+1+n by omega];exact hit₂) (hs₁.trans hs₂)
  rw[hd,List.take_succ_cons] at this
  exact this
theorem Rt{prog:Program}{w:World}{A:Around}{E:Value→Shared→Prop}{s:Shared}{t:Addr}{items:Array Value}{Q:List Value→Shared→Prop}(hh:A.handled=none)(ht:s.heap.IsList t items)
  (hQ:∀h',Heap.ExtBut s.heap.objs.size s.heap h'→Q items.toList {s with heap:=h'}):wpAny (model prog w) A (unpackItems (.ref t) items.size none) Q E s:=by
 have hlt:t≠s.heap.objs.size:=by obtain⟨o,ho,_⟩:=ht;exact Nat.ne_of_lt (Ai ho)
 unfold unpackItems
 refine Aa ?_
 ·unfold notIterableAtAll
  refine Aa (Md ht.typeIs slot_list_iter.lookup ?_)
  refine Ab ?_
  simp only[Bool.false_eq_true,if_false]
  refine Aa (Dy (Ky ht ?_))
  refine Aa (Dy (Gu hlt items.size 0 _ _ ⟨_,Al _ rfl,rfl,rfl⟩ (ht.push _) (by omega) fun h₁ hit₁ hs₁=>?_))
  have hall:List.take items.size (List.drop 0 items.toList)=items.toList:=by
   rw[List.drop_zero];exact Dx (by simp)
  rw[hall]
  rw[if_neg (by simp)]
  have ht₁:h₁.IsList t items:=(ht.push _).extBut hs₁.extBut hlt
  refine Aa (Dy (wpAny_pyNext_list_end hh hit₁ ht₁ (by simp) fun h₂ he₂=>?_))
  simp only[Option.isSome_none,Bool.false_eq_true,if_false]
  refine Ab (hQ h₂ fun b o hb e=>he₂ b o hb (hs₁.extBut b o hb (Ad _ e)))
noncomputable def gLst(K:Ae)(n:Nat)(t:TGs):TG:=fun v σ H Q=>∃a xs,v= .ref a∧(SqT K H a xs∨SqL K H a xs)∧xs.length=n∧t xs σ H Q
theorem Y12{es:List Expr}{k:Nat}{pos:Pos}{t:TGs}{n:Nat}(hc:X.calm=true)(h:PGs X es t)
  (hn:(assignEach es X.env).length=n:=by rfl) (hst:(assignEach es X.env).findIdx? (·.1)=none:=by rfl):PG X (.Tuple es k pos) (gLst X.K n t):=by
 intro pins s σ H v u Q I r hw
 obtain⟨a,xs,e1,hq,hl,hw⟩:=hw
 rcases hq with hq | hq
 ·exact Zp9 hc h hn hst pins s σ H v u Q I r ⟨a,xs,e1,hq,hl,hw⟩
 subst e1
 cases r
 obtain⟨its,rv,ht,hz⟩:=I.list hq
 have hsz:its.toArray.size=n:=by rw[Aj,←rv.length];exact hl
 rw[PyProof.Rows.assign_Tuple]
 refine Aa (wpAny_standAt ?_)
 unfold unpack
 rw[hn,hst,←hsz]
 refine Aa (Dy (Rt (I.ok.hd hc) ht.isList fun h' hx=>?_))
 have I1:Inv X pins σ H {s with heap:=h'}:=I.kept (t':=s.toks) fun b o e=>hx b o (Nat.ne_of_lt (Ai e)) e
 exact h pins _ σ H xs _ Q I1 (by simpa using rv) hw
theorem Zk4{Q:VK}(I:Inv X pins σ H s)(hu:X.A.units+64<cLine)(neg:Bool){p b:Addr}{vs:List V}(hp:SqL X.K H p vs)(hb:SqL X.K H b [])(q:Q (.bl (if neg then !vs.isEmpty else vs.isEmpty)) H):
  wpAny (model X.prog X.w) X.A (compareOp (if neg then .NotEq else .Eq) (.ref p) (.ref b)) (EP X pins σ Q) X.xe s:=by
 obtain⟨its,r,pl,_⟩:=I.list hp
 obtain⟨jts,r2,pl2,_⟩:=I.list hb
 have l2:jts=[]:=by cases r2;rfl
 subst l2
 cases vs with
 | nil=>
  cases r
  cases neg with
  | true=>exact SeqAt.RcNeAt.lists (e:=fun _=>true) pl.isList pl2.isList rfl (by omega) (fun j h=>absurd h (Nat.not_lt_zero _)) _ _ _ _ ⟨.bl _,H,I,rfl,q⟩
  | false=>exact SeqAt.RcAt.lists (e:=fun _=>true) pl.isList pl2.isList rfl (by omega) (fun j h=>absurd h (Nat.not_lt_zero _)) _ _ _ _ ⟨.bl _,H,I,rfl,q⟩
 | cons v vs=>
  have hz:(its.toArray.size !=([]:List Value).toArray.size)=true:=by
   cases r
   rfl
  cases neg with
  | true=>exact SeqAt.RcNeAt.lists_lengths pl.isList pl2.isList hz (by omega) _ _ _ _ ⟨.bl _,H,I,rfl,q⟩
  | false=>exact SeqAt.RcAt.lists_lengths pl.isList pl2.isList hz (by omega) _ _ _ _ ⟨.bl _,H,I,rfl,q⟩
theorem Zt4{Q:VK}(I:Inv X pins σ H s)(hu:X.A.units+64<cLine)(neg:Bool){a b:Addr}{vs ys:List V}(ha:SqT X.K H a vs)(hb:SqT X.K H b ys)(fa:vs.all Wu=true)(fb:ys.all Wu=true)(q:Q (.bl (if neg then !eqVs vs ys else eqVs vs ys)) H):
  wpAny (model X.prog X.w) X.A (compareOp (if neg then .NotEq else .Eq) (.ref a) (.ref b)) (EP X pins σ Q) X.xe s:=by
 obtain⟨us,ru,ta,_⟩:=I.tuple ha
 obtain⟨ws,rw',tb,_⟩:=I.tuple hb
 have l1:=ru.length
 have l2:=rw'.length
 have he:∀j (h1:j<us.toArray.size) (h2:j<ws.toArray.size),Dt X.A.in1 s us.toArray[j] ws.toArray[j] (eqV (vs.getD j .non) (ys.getD j .non)):=fun j h1 h2=>by
  have j1:j<vs.length:=by rw[Aj] at h1;omega
  have j2:j<ys.length:=by rw[Aj] at h2;omega
  obtain⟨u,e1,r1⟩:=ru.get (Ag j1)
  obtain⟨w,e2,r2⟩:=rw'.get (Ag j2)
  have x1:us.toArray[j]=u:=by have:=(Af.mp e1).2;simpa using this
  have x2:ws.toArray[j]=w:=by have:=(Af.mp e2).2;simpa using this
  rw[x1,x2,Dz,Dz,Ag j1,Ag j2]
  rw[Dk] at fa fb
  exact Cb r1 r2 (fa _ (Go j1)) (fb _ (Go j2))
 have hs:((Ij (min us.toArray.size ws.toArray.size)).all (fun j=>eqV (vs.getD j .non) (ys.getD j .non))&&us.toArray.size==ws.toArray.size)=eqVs vs ys:=by
  unfold eqVs
  rw[Aj,Aj,l1,l2]
 cases neg with
 | true=>exact SeqAt.RcNeAt.tuples (e:=fun j=>eqV (vs.getD j .non) (ys.getD j .non)) ta tb (by omega) he _ _ _ _ ⟨.bl _,H,I,rfl,by rw[hs];exact q⟩
 | false=>exact SeqAt.RcAt.tuples (e:=fun j=>eqV (vs.getD j .non) (ys.getD j .non)) ta tb (by omega) he _ _ _ _ ⟨.bl _,H,I,rfl,by rw[hs];exact q⟩
end
end L3
namespace L3
open PySem PySem.Spec PyProof.Rows L2 PySem.Builtin PySem.Builtin.Str
section
variable{X:Cx}{pins:List (Addr×Obj)}{σ:L2.St}{H:Hp}{s:Shared}
theorem Za1:∀l:List (Str×Tok),Vals (l.map fun p=>V.str p.1) (strValues l)
 | []=> .nil
 | p::l=> .cons ⟨p.2,rfl⟩ (Za1 l)
theorem Z52:∀{xs:List Str} {us:List Value},Vals (xs.map V.str) us→∃l:List (Str×Tok),us=strValues l∧l.map (·.1)=xs
 | [],_,.nil=>⟨[],rfl,rfl⟩
 | x::xs,_,.cons ⟨t,e⟩ r=>by
  obtain⟨l,rfl,h⟩:=Z52 r
  exact⟨(x,t)::l,by rw[e];rfl,by rw[Ch,h]⟩
theorem Zi4:MtM X "str.split" (fun x vs H Q=>∃a y,x= .str a∧vs=[.str y]∧(y.length==0)=false∧a.length+2≤sizeLine∧∀p,H p=none→Q (.ref p) (upd H p (.lst ((Ko a y).map V.str)))):=by
 intro pins s σ H x vs v us Q I rx rv h
 obtain⟨x,y,rfl,rfl,hy,hz,q⟩:=h
 obtain⟨t,rfl⟩:=rx
 obtain⟨u,rfl,u',rfl⟩:=rv.one
 have hn:(partsBetween x (occurrences x y 0 x.length (x.length+1)) y.length).length≤sizeLine:=by
  have e1:=StrLaws.occ_length_le x y 0 x.length (x.length+1)
  rw[length_partsBetween];omega
 have go:∀(l:List (Str×Tok)) (k:Nat),l.map (·.1)=Ko x y→l.length≤sizeLine→EP X pins σ Q (.ref s.heap.objs.size) {s with heap:=s.heap.push {cls:= .type "list",data:= .seq (strValues l).toArray},toks:=k}:=by
  intro l k e hl
  have e2:(Ko x y).map V.str=l.map fun p=>V.str p.1:=by rw[←e,Mg];rfl
  refine⟨.ref s.heap.objs.size,_,I.lnew (ys:=(Ko x y).map V.str) ?_ ?_,rfl,q _ I.fresh⟩
  ·rw[e2];exact Za1 l
  ·rw[e2,Ah];exact hl
 cases h1:(decide (x.length<y.length) || decide (strKind x<strKind y))
 ·cases hf:(occurrences x y 0 x.length (x.length+1)).isEmpty
  ·refine Lb F.slot_str_split (typeIs_str _ _ _) F.entry_str_split (F.args_str_split_2 _ _) (meets_str_split_sep x y t u' h1 hy hf (by omega) hn) ?_
   show EP X pins σ Q _ {s with toks:=_,heap:=s.heap.push {cls:= .type "list",data:= .seq (strsFrom s.toks (partsBetween x (occurrences x y 0 x.length (x.length+1)) y.length)).toArray}}
   rw[strsFrom_eq]
   have e:=numbered_texts s.toks (partsBetween x (occurrences x y 0 x.length (x.length+1)) y.length)
   refine go (numbered s.toks _) _ (e.trans ((if_neg (ne_true_of_eq_false h1)).trans (if_neg (ne_true_of_eq_false hf))).symm) ?_
   have:=congrArg List.length e
   rw[Ah] at this
   omega
  ·exact Lb F.slot_str_split (typeIs_str _ _ _) F.entry_str_split (F.args_str_split_2 _ _) (meets_str_split_not_found x y t u' h1 hy hf)
    (go [(x,t)] s.toks ((if_neg (ne_true_of_eq_false h1)).trans (if_pos hf)).symm (by have:=Hv;simp;omega))
 ·exact Lb F.slot_str_split (typeIs_str _ _ _) F.entry_str_split (F.args_str_split_2 _ _) (meets_str_split_cannot_occur x y t u' h1)
   (go [(x,t)] s.toks (if_pos h1).symm (by have:=Hv;simp;omega))
theorem Zx4:MtM X "str.join" (fun x vs H Q=>∃a l ys,x= .str a∧vs=[.ref l]∧SqL X.K H l (ys.map V.str)∧JoinOk a ys=true∧Q (.str (Du a ys)) H):=by
 intro pins s σ H x vs v us Q I rx rv h
 obtain⟨x,l,ys,rfl,rfl,hl,hz,q⟩:=h
 obtain⟨t,rfl⟩:=rx
 obtain⟨u,rfl,ru⟩:=rv.one
 cases ru
 obtain⟨its,r,pl,_⟩:=I.list hl
 obtain⟨ls,rfl,e⟩:=Z52 r
 exact SC.join pl.isList e hz fun t' k=>⟨.str _,H,I.tok _,⟨_,rfl⟩,q⟩
theorem Z80:MtM X "str.startswith" (fun x vs H Q=>∃a y,x= .str a∧vs=[.str y]∧Q (.bl (Txt.startswith a y)) H):=by
 intro pins s σ H x vs v us Q I rx rv h
 obtain⟨x,y,rfl,rfl,q⟩:=h
 obtain⟨t,rfl⟩:=rx
 obtain⟨u,rfl,u',rfl⟩:=rv.one
 exact SC.startswith ⟨.bl _,H,I,rfl,q⟩
theorem Zw7:MtM X "str.endswith" (fun x vs H Q=>∃a y,x= .str a∧vs=[.str y]∧Q (.bl (Txt.endswith a y)) H):=by
 intro pins s σ H x vs v us Q I rx rv h
 obtain⟨x,y,rfl,rfl,q⟩:=h
 obtain⟨t,rfl⟩:=rx
 obtain⟨u,rfl,u',rfl⟩:=rv.one
 exact SC.endswith ⟨.bl _,H,I,rfl,q⟩
theorem Z10(bs:List Bool):((Ij bs.length).all fun i=>(bs[i]?).getD false)=bs.all id:=by
 rw[Bool.eq_iff_iff,Dk,Dk]
 constructor
 ·intro h b hb
  obtain⟨i,hi,rfl⟩:=List.mem_iff_getElem.mp hb
  have:=h i (Ia.mpr hi)
  rw[Ag hi] at this
  exact this
 ·intro h i hi
  rw[Ia] at hi
  rw[Ag hi]
  exact h _ (Go hi)
theorem Ze8(hc:X.calm=true):W0 X (.builtin "all") (fun xs H Q=>∃l,∃bs:List Bool,xs=[V.ref l]∧SqL X.K H l (bs.map V.bl)∧Q (.bl (bs.all id)) H):=by
 intro pins s σ H xs us Q I r h
 obtain⟨l,bs,rfl,hl,q⟩:=h
 obtain⟨u,rfl,ru⟩:=Vl r
 cases ru
 obtain⟨its,rv,pl,hz⟩:=I.list hl
 have il:=pl.isList
 have lt:l<s.heap.objs.size:=by obtain⟨o,ho,_⟩:=il;exact Ai ho
 have hn:its.length=bs.length:=by rw[←rv.length,Ah]
 refine call_all_walk (Ky il ?_)
 refine⟨s.heap.objs.size,[s.heap.objs.size,l],[s.heap.objs.size],its.toArray.size,_,_,fun i=>(bs[i]?).getD false,rfl,Walks.list (A:=X.A.in1) (I.ok.hd hc) _ l (Nat.ne_of_lt lt) its.toArray,⟨⟨_,Al _ rfl,rfl,rfl⟩,il.push _⟩,fun i v s' Q' E' hP hQ=>?_,fun h' tk hk=>?_⟩
 ·have hv:its[i]?=some v:=by simpa using hP
  have hi:i<bs.length:=by rw[←hn];exact(Af.mp hv).1
  obtain⟨v',e1,e2⟩:=rv.get (show(bs.map V.bl)[i]?=some (.bl bs[i]) by rw[Aq,Ag hi];rfl)
  rw[hv] at e1
  cases e1
  cases e2
  dsimp only at hQ
  rw[Ag hi] at hQ
  exact wpAny_truthy_bool hQ
 ·rw[Aj,hn,Z10]
  refine⟨.bl _,H,I.kept (t':=tk) fun b o e=>hk b o (fun hm=>?_) (Ad _ e),rfl,q⟩
  rw[Bk.mp hm] at e
  exact Nat.lt_irrefl _ (Ai e)
theorem Zc2:W0 X (.type "int") (fun xs H Q=>∃x n,xs=[V.str x]∧intText? x=some n∧x.length≤640∧Q (.int n) H):=by
 intro pins s σ H xs us Q I r h
 obtain⟨x,n,rfl,e,hl,q⟩:=h
 obtain⟨u,rfl,t,rfl⟩:=Vl r
 exact PySem.W.KIN.call_text e hl ⟨.int _,H,I.tok _,⟨_,rfl⟩,q⟩
theorem Z81:W0 X (.type "str") (fun xs H Q=>∃x,xs=[V.str x]∧Q (.str x) H):=by
 intro pins s σ H xs us Q I r h
 obtain⟨x,rfl,q⟩:=h
 obtain⟨u,rfl,t,rfl⟩:=Vl r
 exact PySem.P.str_of_str ⟨.str _,H,I,⟨_,rfl⟩,q⟩
noncomputable def Its(x:Str):It:=⟨fun i _=>i<x.length,fun i H v H'=>H'=H∧∃c,x.cps.toList[i]?=some c∧v= .str ⟨#[c]⟩,fun i _=>x.length≤i⟩
theorem Ey{P:Program}{w:World}{K:Ae}{tg:Expr}(it:Addr)(x:Str)(t:Tok)(n:String)
  (hn:["enumerate","zip","dict_itemiterator","dict_reverseitemiterator","odict_iterator","itertools.zip_longest","itertools.pairwise"].contains n=false)
  (W:∀A:Around,A.handled=none→Walks P w A it [it] [it] x.cps.size (SignAt x) (fun i h=>h.IsStrIter it n x t i))
  (hd:∀(A:Around) (i:Nat) (s:Shared) (Q:Option Value→Shared→Prop) (E:Value→Shared→Prop),A.handled=none→s.heap.IsStrIter it n x t i→x.cps[i]?=none→(∀h',Heap.ExtBut it s.heap h'→Q none {s with heap:=h'})→wpAny (model P w) A (pyNext (.ref it)) Q E s)
  (hs:∀(A:Around) (i:Nat) (s:Shared) (Q:Value→Shared→Prop) (E:Value→Shared→Prop),s.heap.IsStrIter it n x t i→Q (.ref it) s→wpAny (model P w) A (pyIter (.ref it)) Q E s):
  Turn P w K tg (Its x) [it] it (fun i h=>h.IsStrIter it n x t i) where
 mem:=by simp
 obj:=fun i h st b hb=>by
  have e:b=it:=by simpa using hb
  subst e
  obtain⟨o,e,c,d⟩:=st
  exact⟨o,e,fun v z=>by rw[d] at z;cases z⟩
 keep:=fun i h h' st k=>by
  obtain⟨o,e,r⟩:=st
  exact⟨o,k it (by simp) o e,r⟩
 item:=by
  intro X hP hw hK hc i pins s σ H E I hf st hg
  subst hP hw hK
  obtain⟨f0,f1,f2,f3,f4,f5⟩:=hf it (by simp)
  refine(W X.A (I.ok.hd hc)).item i s _ _ hg st fun v h' tk hv st' kk=>?_
  obtain⟨c,t',hc',rfl⟩:=hv
  have I1:Inv X pins σ H {s with heap:=h',toks:=tk}:=I.turned (fun b o hb e=>kk b o (by simpa using hb) e) f0 f1 f3 f4 f5
  obtain⟨o,e,c1,d⟩:=id st'
  exact⟨_,rfl,Zj5 (s:={s with heap:=h',toks:=tk}) e c1 d hn ⟨.str ⟨#[c]⟩,H,I1,⟨_,rfl⟩,⟨rfl,c,by simpa using hc',rfl⟩,st',fun b hb=>(hf b hb).1⟩⟩
 done:=by
  intro X hP hw hK hc i pins s σ H E I hf st hg
  subst hP hw hK
  obtain⟨f0,f1,f2,f3,f4,f5⟩:=hf it (by simp)
  have e:x.cps.size≤i:=hg
  exact hd X.A i s _ _ (I.ok.hd hc) st (by simp;omega) fun h' eb=>⟨rfl,I.turned (t':=s.toks) (fun b o hb e=>eb b o hb e) f0 f1 f3 f4 f5⟩
 self:=fun A i s Q E st h=>hs A i s Q E st h
theorem Zi5{tg:Expr}{s1:Shared}{H1:Hp}{a:Str}{t:Tok}{R:It→Hp→Prop}(I1:Inv X pins σ H1 s1)(q:R (Its a) H1):wpAny (model X.prog X.w) X.A (pyIter (.str a t)) (PIE X pins σ tg R) X.xe s1:=by
 have fp:∀b∈[s1.heap.objs.size],FpOk X pins H1 b:=fun b hb=>by
  have e:b=s1.heap.objs.size:=by simpa using hb
  subst e
  exact I1.fpOk (Nat.le_refl _) (I1.hok.fresh (Nat.le_refl _))
 cases ha:a.cps.all (· <128)
 ·exact wpAny_pyIter_wide ha ⟨s1.heap.objs.size,[s1.heap.objs.size],_,_,H1,rfl,I1.kept (t':=s1.toks) fun b o e=>Ad _ e,Ey _ a t "str_iterator" (by decide) (fun A hA=>Walks.strWide hA _ a t) (fun _ _ _ _ _ hh st e q=>wpAny_pyNext_wide_end hh st e q) (fun _ _ _ _ _ st hQ=>wpAny_pyIter_striter_wide st hQ),⟨_,Al _ rfl,rfl,rfl⟩,fp,q⟩
 ·exact wpAny_pyIter_ascii ha ⟨s1.heap.objs.size,[s1.heap.objs.size],_,_,H1,rfl,I1.kept (t':=s1.toks) fun b o e=>Ad _ e,Ey _ a t "str_ascii_iterator" (by decide) (fun A hA=>Walks.strAscii hA _ a t) (fun _ _ _ _ _ hh st e q=>wpAny_pyNext_ascii_end hh st e q) (fun _ _ _ _ _ st hQ=>wpAny_pyIter_striter_ascii st hQ),⟨_,Al _ rfl,rfl,rfl⟩,fp,q⟩
end
end L3
namespace Tt
open PySem PySem.Builtin PySem.Builtin.Str
noncomputable abbrev L(x:Str):List Nat:=x.cps.toList
theorem L_ext{x y:Str}(h:L x=L y):x=y:=by
 cases x;cases y
 exact congrArg Str.mk (Array.toList_inj.mp h)
theorem L_app(a b:Str):L (a++b)=L a++L b:=by
 show(a.cps++b.cps).toList=_
 rw[Array.toList_append]
theorem L_len(x:Str):(L x).length=x.length:=Db
theorem cut1{c:Nat}:∀{p q u v:List Nat},c∉p→c∉q→p++c::u=q++c::v→p=q∧u=v
 | [],[],u,v,_,_,e=>⟨rfl,by simpa using e⟩
 | [],y::q,u,v,_,hq,e=>by
  simp only[Ls,Ki,Mf] at e
  exact absurd (by rw[e.1];exact Bs ..) hq
 | x::p,[],u,v,hp,_,e=>by
  simp only[Ls,Ki,Mf] at e
  exact absurd (by rw[e.1];exact Bs ..) hp
 | x::p,y::q,u,v,hp,hq,e=>by
  simp only[Ki,Mf] at e
  obtain⟨i1,i2⟩:=cut1 (fun z=>hp (Az _ z)) (fun z=>hq (Az _ z)) e.2
  exact⟨by rw[e.1,i1],i2⟩
theorem L_join(c:Nat)(x y:Str)(r:List Str):L (Str.join ⟨#[c]⟩ (x::y::r))=L x++c::L (Str.join ⟨#[c]⟩ (y::r)):=by
 show L (x++⟨#[c]⟩++Str.join ⟨#[c]⟩ (y::r))=_
 rw[L_app,L_app,Hd]
 rfl
theorem Gc(c:Nat):∀(ps qs:List Str),ps≠[]→qs≠[]→(∀p∈ps,c∉L p)→(∀p∈qs,c∉L p)→L (Str.join ⟨#[c]⟩ ps)=L (Str.join ⟨#[c]⟩ qs)→ps=qs
 | [],_,h,_,_,_,_=>absurd rfl h
 | _,[],_,h,_,_,_=>absurd rfl h
 | [p],[q],_,_,_,_,e=>by rw[L_ext (x:=p) (y:=q) e]
 | [p],q::q2::qs,_,_,hp,_,e=>by
  rw[L_join] at e
  exact absurd (by show c∈L p;rw[show L p=_ from e];simp) (hp p (Bs ..))
 | p::p2::ps,[q],_,_,_,hq,e=>by
  rw[L_join] at e
  exact absurd (by show c∈L q;rw[show L q=_ from e.symm];simp) (hq q (Bs ..))
 | p::p2::ps,q::q2::qs,_,_,hp,hq,e=>by
  rw[L_join,L_join] at e
  obtain⟨i1,i2⟩:=cut1 (hp p (Bs ..)) (hq q (Bs ..)) e
  rw[L_ext i1,Gc c (p2::ps) (q2::qs) (by simp) (by simp) (fun z hz=>hp z (Az _ hz)) (fun z hz=>hq z (Az _ hz)) i2]
theorem Zf2(x y:Str):Ko x y≠[]:=by
 unfold Ko
 split
 ·simp
 ·split
  ·simp
  ·rw[StrLaws.partsBetween_eq]
   obtain⟨p,r,e⟩:=StrLaws.partsFrom_ne x y.length 0 (occurrences x y 0 x.length (x.length+1))
   rw[e];simp
theorem split_join{c:Nat}{ws:List Str}(hn:ws≠[])(h:∀w∈ws,c∉L w):Ko (Du ⟨#[c]⟩ ws) ⟨#[c]⟩=ws:=by
 refine Gc c _ _ (Zf2 _ _) hn (StrLaws.split_free _ c) h ?_
 rw[StrLaws.join_split]
 show L (glued ⟨#[c]⟩ ws)=_
 rw[StrLaws.glued_eq_join]
theorem in_one(z:Str)(c:Nat):(!(occurrences z ⟨#[c]⟩ 0 z.length 1).isEmpty)=decide (c∈L z):=StrLaws.found_one z c
theorem L_from(x:Str){i:Nat}(h:i≤x.length):L (Hy x (some (i:Int)) none)=(L x).drop i:=by
 rw[PyProof.Rows.slice_from_eq (b:=x.length) (by omega) (by omega) rfl]
 show((x.cps.toList.drop i).take _)=_
 rw[Dx]
 rw[Lg]
 have:=L_len x
 simp only[L] at this
 omega
theorem L_to(x:Str){i:Nat}(h:i≤x.length):L (Hy x none (some (i:Int)))=(L x).take i:=by
 have e:=PyProof.Rows.slice_closes_to (x:=x) (j:=i) ⟨by omega,by have:=L_len x;simp only[L] at this;omega⟩
 rw[Iy e]
 show(x.cps.toList.drop 0).take _=_
 rw[List.drop_zero]
 congr 1
theorem L_cut{y:Str}{c:Nat}:L (Hy (y++⟨#[c]⟩) none (some (-1)))=L y:=by
 have hl:(y++⟨#[c]⟩:Str).length=y.length+1:=by
  rw[←L_len,L_app,Ay,L_len];rfl
 have e:=PyProof.Rows.slice_closes_to_neg (x:=y++⟨#[c]⟩) (j:=-1) (k:=y.length) (by decide) (by omega) (by omega)
 rw[Iy e]
 show((L (y++⟨#[c]⟩)).drop 0).take _=_
 rw[List.drop_zero,L_app]
 have:((y.length:Int) - 0).toNat=(L y).length:=by rw[L_len];omega
 rw[this,List.take_left]
theorem ends_c(y:Str)(c:Nat):Txt.endswith (y++⟨#[c]⟩) ⟨#[c]⟩=true:=PySem.W.KT.ends_app y ⟨#[c]⟩
theorem starts_c(x:Str)(c:Nat):Txt.startswith x ⟨#[c]⟩=decide ((L x).head?=some c):=by
 obtain⟨⟨l⟩⟩:=x
 cases l with
 | nil=>rfl
 | cons a r=>
  show(decide (0+1≤(⟨a::r⟩:Array Nat).size)&&(Array.extract ⟨a::r⟩ 0 (0+1)==#[c]))=decide (some a=some c)
  have h1:decide (0+1≤(⟨a::r⟩:Array Nat).size)=true:=by simp
  have h2:Array.extract (⟨a::r⟩:Array Nat) 0 (0+1)=#[a]:=by simp
  rw[h1,h2,Bool.true_and,Bool.eq_iff_iff]
  simp
noncomputable def fig(n:Nat):Str:=Str.ofString (toString (n:Int))
theorem Z11(n:Nat):L (fig n)=(Nat.toDigits 10 n).map Char.toNat:=PySem.W.KIN.signs_num n
theorem fig_digits{n c:Nat}(h:c∈L (fig n)):48≤c∧c≤57:=by
 rw[Z11] at h
 obtain⟨ch,hch,e⟩:=Dg.mp h
 have r:=PyProof.Rows.digit_range (Nat.isDigit_of_mem_toDigits (by decide) (by decide) hch)
 rw[←e]
 exact r
theorem Ft{n:Nat}(h:10≤n):L (fig n)=L (fig (n / 10))++[48+n % 10]:=by
 have hm:n % 10<10:=Nat.mod_lt n (by decide)
 have t:Nat.toDigits 10 (n / 10)++Nat.toDigits 10 (n % 10)=Nat.toDigits 10 (10 * (n / 10)+n % 10):=Nat.toDigits_append_toDigits (by decide) (by omega) hm
 rw[Nat.div_add_mod] at t
 rw[Z11,Z11,←t,Dh,Nat.toDigits_of_lt_base hm]
 have:∀d:Nat,d<10→(Nat.digitChar d).toNat=48+d:=by decide
 rw[List.map_singleton,this _ hm]
theorem fig_one{n:Nat}(h:n<10):L (fig n)=[48+n]:=by
 have:∀d:Nat,d<10→(Nat.digitChar d).toNat=48+d:=by decide
 rw[Z11,Nat.toDigits_of_lt_base h,List.map_singleton,this _ h]
theorem fig_len:∀(k n:Nat),n<10 ^ (k+1)→(L (fig n)).length≤k+1
 | 0,n,h=>by rw[fig_one (by simpa using h)];simp
 | k+1,n,h=>by
  rcases Nat.lt_or_ge n 10 with l | l
  ·rw[fig_one l];simp
  ·rw[Ft l,Ay]
   have:n / 10<10 ^ (k+1):=by rw[Nat.pow_succ] at h;omega
   have:=fig_len k _ this
   simp only[Ly]
   omega
theorem fig_head:∀(n:Nat),∃c r,L (fig n)=c::r∧(c=48→r=[]):=by
 intro n
 induction n using Nat.strongRecOn with
 | _ n ih=>
  rcases Nat.lt_or_ge n 10 with l | l
  ·exact⟨_,_,fig_one l,fun _=>rfl⟩
  ·obtain⟨c,r,e,h⟩:=ih (n / 10) (by omega)
   refine⟨c,r++[48+n % 10],by rw[Ft l,e];rfl,fun hc=>?_⟩
   exfalso
   have hr:=h hc
   subst hr hc
   rcases Nat.lt_or_ge (n / 10) 10 with l2 | l2
   ·rw[fig_one l2] at e
    simp only[Mf,and_true] at e
    omega
   ·have:=congrArg List.length e
    rw[Ft l2,Ay] at this
    obtain⟨c',r',e',_⟩:=ih (n / 10 / 10) (by omega)
    rw[e'] at this
    simp at this
theorem fig_reads{n:Nat}(h:n<10 ^ 18):intText? (fig n)=some (n:Int):=by
 have hl:=fig_len 17 n h
 obtain⟨c,r,e,_⟩:=fig_head n
 have e2:=PySem.intText_digits (x:=fig n) (fun c hc=>fig_digits hc) (by show L (fig n)≠[];rw[e];simp) (by rw[←L_len];omega)
 rw[e2]
 show some ((PySem.NumText.digitsVal (L (fig n)):Nat):Int)=_
 rw[Z11,PySem.W.KIN.val_back]
theorem L_neg{n:Nat}(h:0<n):L (Str.ofString (toString (-(n:Int))))=45::L (fig n):=by
 obtain⟨m,rfl⟩:∃m,n=m+1:=⟨n - 1,by omega⟩
 rw[Z11]
 show(Str.ofString (toString (Int.negSucc m))).cps.toList=_
 rw[PyProof.Rows.signs_ofString]
 show(("-"++Nat.repr (m+1)).toList.map Char.toNat)=_
 rw[String.toList_append,Dh,Nat.toList_repr]
 rfl
end Tt
namespace L3
open PySem PySem.Spec PyProof.Rows L2
section
variable{X:Cx}
def PFs(X:Cx)(vs:List Expr)(t:Str→L2.St→Hp→(Str→Hp→Prop)→Prop):Prop:=
 ∀(pins:List (Addr×Obj)) (s:Shared) (σ:L2.St) (H:Hp) (out:Str) (Q:Str→Hp→Prop),Inv X pins σ H s→t out σ H Q→
  wpAny (model X.prog X.w) X.A (joinParts out (evalEach vs X.env)) (EP X pins σ fun v H'=>∃x,v= .str x∧Q x H') X.xe s
theorem Y74:PFs X [] (fun out _ H Q=>out.length≤sizeLine∧Q out H):=by
 intro pins s σ H out Q I h
 exact joinParts_nil ⟨.str out,H,I.tok _,⟨_,rfl⟩,out,rfl,h.2⟩ h.1
theorem Y67{x:Str}{j:Nat}{pos:Pos}{r:List Expr}{t:Str→L2.St→Hp→(Str→Hp→Prop)→Prop}(h:PFs X r t):PFs X (.Constant (.str x) j pos::r) (fun out σ H Q=>(out++x).length≤sizeLine∧t (out++x) σ H Q):=by
 intro pins s σ H out Q I hw
 refine joinParts_cons (thn (Ei (X:=X) (x:=x) (j:=j) (pos:=pos) pins s σ H (fun v H'=>v= .str x∧H'=H) I ⟨rfl,rfl⟩) fun u s1 zz60=>?_)
 obtain⟨v,H1,I1,r1,e1,e2⟩:=zz60
 subst e1 e2
 obtain⟨tk,rfl⟩:=r1
 exact⟨hw.1,h pins s1 σ H1 (out++x) Q I1 hw.2⟩
theorem Y55{e:Expr}{te:TE}{pos:Pos}{r:List Expr}{t:Str→L2.St→Hp→(Str→Hp→Prop)→Prop}(he:PE X e te)(h:PFs X r t):
  PFs X (.FormattedValue e (-1) none pos::r) (fun out σ H Q=>te σ H fun v H1=>(∃i:Int,v= .int i∧i.natAbs.log2<1920∧(out++toString i:Str).length≤sizeLine∧t (out++toString i) σ H1 Q)∨∃y,v= .str y∧y.length≤sizeLine∧(out++y).length≤sizeLine∧t (out++y) σ H1 Q):=by
 intro pins s σ H out Q I hw
 refine joinParts_cons (FormattedValue_plain (thn (he pins s σ H _ I hw) fun u s1 zz61=>?_))
 obtain⟨v,H1,I1,r1,q1⟩:=zz61
 rcases q1 with⟨i,rfl,h1,h2,h3⟩ | ⟨y,rfl,h1,h2,h3⟩
 ·obtain⟨tk,rfl⟩:=r1
  exact formatField_int_small h1 ⟨h2,h pins _ σ H1 _ Q (I1.tok _) h3⟩
 ·obtain⟨tk,rfl⟩:=r1
  exact formatField_str (fun t' k=>⟨h2,h pins _ σ H1 _ Q (I1.tok _) h3⟩) h1
theorem Zx6{v₁ v₂:Expr}{r:List Expr}{pos:Pos}{t:Str→L2.St→Hp→(Str→Hp→Prop)→Prop}(h:PFs X (v₁::v₂::r) t):PE X (.JoinedStr (v₁::v₂::r) pos) (fun σ H Q=>t Str.empty σ H fun x H'=>Q (.str x) H'):=by
 intro pins s σ H Q I hw
 refine JoinedStr_many (thn (h pins s σ H Str.empty _ I hw) fun u s1 zz62=>?_)
 obtain⟨v,H1,I1,r1,x,e1,q1⟩:=zz62
 subst e1
 exact⟨_,H1,I1,r1,q1⟩
end
end L3
namespace ZT
open PySem PyProof.Rows
structure Nx(P:Program)(w:World)(i l:Addr)(its:Array Value)(St:Nat→Heap→Prop):Prop where
 obj:∀k h,St k h→∃o,h.get? i=some o∧o.cls≠ .type "zip"∧∀v,o.data≠ .cell v
 stay:∀k h h',St k h→(∀b o,b=i∨b=l→h.get? b=some o→h'.get? b=some o)→St k h'
 item:∀{A:Around} {E:Value→Shared→Prop} {s:Shared} {k:Nat} {x:Value} {Q:Value→Shared→Prop},St k s.heap→its[k]?=some x→(∀h',St (k+1) h'→Dn i s.heap h'→Q x {s with heap:=h'})→wpAny (model P w) A (Hg (.ref i)) Q E s
 done:∀{A:Around} {E:Value→Shared→Prop} {s:Shared} {k:Nat} {Q:Value→Shared→Prop},A.handled=none→St k s.heap→its[k]?=none→(∀h' e,(∀c o,c≠i→s.heap.get? c=some o→h'.get? c=some o)→(∃o,h'.get? e=some o∧o.cls= .type "StopIteration")→E (.ref e) {s with heap:=h'})→wpAny (model P w) A (Hg (.ref i)) Q E s
section
variable{prog:Program}{w:World}{A:Around}{E:Value→Shared→Prop}{s:Shared}
theorem Nx.tuple{i l:Addr}(hne:l≠i)(its:Array Value):Nx prog w i l its (fun k h=>h.IsTupleIter i l k∧h.IsTuple l its) where
 obj:=fun k h zz63=>by obtain⟨⟨o,e,c,d⟩,_⟩:=zz63;exact⟨o,e,by rw[c];decide,fun v z=>by rw[d] at z;cases z⟩
 stay:=fun k h h' zz64 q=>by obtain⟨⟨o,e,r⟩,⟨u,e2,r2⟩⟩:=zz64;exact⟨⟨o,q i o (.inl rfl) e,r⟩,⟨u,q l u (.inr rfl) e2,r2⟩⟩
 item:=by
  rintro A E s k x Q ⟨a,b⟩ hx q
  obtain⟨o,ho,hc,hd⟩:=id a
  obtain⟨ol,hol,hcl,nl,hdl⟩:=id b
  unfold Hg
  refine Aa (Ex (name:=Str.ofString "__next__") a.typeIs F.slot_tuple_iterator_next (Hb F.slot_tuple_iterator_next a.typeIs F.entry_tuple_iterator_next ?_ (F.args_tuple_iterator_next_1 _)))
  show wpAny _ _ (field (.ref i) 0 >>=_) _ _ s
  refine Aa (Ib ho hd (x:= .ref l) rfl ?_)
  show wpAny _ _ (if (An l==Kb)=true then _ else _) _ _ s
  rw[if_neg (by exact Bool.false_ne_true)]
  show wpAny _ _ (field (.ref i) 1 >>=_) _ _ s
  refine Aa (Ib ho hd (x:= .int k 0) rfl ?_)
  show wpAny _ _ (seqItems? (.ref l) >>=_) _ _ s
  refine Aa (Ip hol hdl ?_)
  simp only[Dl,hx]
  have sb:=Dn.update s.heap i (Obj.mapFields (·.setIfInBounds 1 (rawInt ((k:Int)+1))))
  refine Aa (wpAny_setField ho hd (by simp) (Ab ⟨x,rfl,Ab (q _ ⟨?_,b.extBut sb.extBut hne⟩ sb)⟩))
  exact⟨_,Hm _ ho (Obj.isFreed_of_fields (Obj.data_mapFields hd _)),(Obj.cls_mapFields ..).trans hc,by rw[Obj.data_mapFields hd];simp[rawInt]⟩
 done:=by
  rintro A E s k Q hh ⟨a,b⟩ hx q
  obtain⟨o,ho,hc,hd⟩:=id a
  obtain⟨ol,hol,hcl,nl,hdl⟩:=id b
  unfold Hg
  refine Aa (Ex (name:=Str.ofString "__next__") a.typeIs F.slot_tuple_iterator_next (Hb F.slot_tuple_iterator_next a.typeIs F.entry_tuple_iterator_next ?_ (F.args_tuple_iterator_next_1 _)))
  show wpAny _ _ (field (.ref i) 0 >>=_) _ _ s
  refine Aa (Ib ho hd (x:= .ref l) rfl ?_)
  show wpAny _ _ (if (An l==Kb)=true then _ else _) _ _ s
  rw[if_neg (by exact Bool.false_ne_true)]
  show wpAny _ _ (field (.ref i) 1 >>=_) _ _ s
  refine Aa (Ib ho hd (x:= .int k 0) rfl ?_)
  show wpAny _ _ (seqItems? (.ref l) >>=_) _ _ s
  refine Aa (Ip hol hdl ?_)
  simp only[Dl,hx]
  refine Aa (Lu (Aa (wpAny_setField ho hd (by simp) ?_)))
  refine SW.Nt (A:=A.in1) hh fun h' e kp he=>q h' e (fun c u hc2 z=>kp c u ((Dn.update ..).extBut c u hc2 z)) he
structure Ap(z TI TO i1 i2 l1 l2:Addr):Prop where
 z1:TI≠z∧TO≠z∧i1≠z∧i2≠z∧l1≠z∧l2≠z
 z2:TI≠TO∧i1≠TO∧i2≠TO∧l1≠TO∧l2≠TO
 z3:TI≠i1∧i2≠i1∧l1≠i1∧l2≠i1
 z4:TI≠i2∧l1≠i2∧l2≠i2
variable{z TI TO i1 i2 l1 l2:Addr}{xs ys:Array Value}{S1 S2:Nat→Heap→Prop}
theorem Nb{T:Addr}{a b x:Value}{k:Nat}{Q:Unit→Shared→Prop}(hT:IsPair s.heap T a b)
  (h:∀h',h'.get? T=some {cls:= .type "tuple",data:= .seq ((#[a,b]:Array Value).setIfInBounds k x)}→Dn T s.heap h'→Q () {s with heap:=h'}):wpAny (model prog w) A (updateSeq T (·.setIfInBounds k x)) Q E s:=wpAny_updateSeq_pair hT h
theorem Y47{k:Nat}{x y a b:Value}{Q:Value→Shared→Prop}(D:Ap z TI TO i1 i2 l1 l2)(N1:Nx prog w i1 l1 xs S1)(N2:Nx prog w i2 l2 ys S2)
  (hz:IsZip s.heap z TI TO .none) (hI:IsPair s.heap TI (.ref i1) (.ref i2)) (hO:IsPair s.heap TO a b) (h1:S1 k s.heap) (h2:S2 k s.heap) (hx:xs[k]?=some x) (hy:ys[k]?=some y)
  (q:∀h',IsZip h' z TI TO (rawInt s.heap.objs.size)→IsPair h' TO x y→S1 (k+1) h'→S2 (k+1) h'→IsPair h' s.heap.objs.size x y→h'.objs.size=s.heap.objs.size+1→(∀c o,c≠z→c≠TO→c≠i1→c≠i2→s.heap.get? c=some o→h'.get? c=some o)→Q (.ref s.heap.objs.size) {s with heap:=h'}):
  wpAny (model prog w) A (Builtin.«zip.__next__» ⟨[.ref z],[]⟩) (fun fin s'=>∃v,fin= .done (.ret v)∧Q v s') E s:=by
 obtain⟨⟨d1,d2,d3,d4,d5,d6⟩,⟨e1,e2,e3,e4,e5⟩,⟨f1,f2,f3,f4⟩,g1,g2,g3⟩:=D
 show wpAny _ _ (field (.ref z) 2 >>=_) _ _ _
 refine Aa (Ib (x:= .bool false) hz rfl rfl ?_)
 show wpAny _ _ (field (.ref z) 3 >>=_) _ _ _
 refine Aa (Ib (x:= .ref TI) hz rfl rfl (Aa (Ip hI rfl ?_)))
 show wpAny _ _ (Ir (.ref z) >>=_) _ _ _
 refine Aa ?_
 unfold Ir
 refine Aa (Ib (x:= .none) hz rfl rfl (Ab ?_))
 simp only[if_true]
 refine Aa (Lu (Aa (Ib (x:= .ref TO) hz rfl rfl (Aa (Hi hz (by simp) fun ha za sa=>?_)))))
 replace za:IsZip ha z TI TO .ellipsis:=za
 refine Aa ?_
 simp only[List.zipIdx_cons,List.zipIdx_nil,List.forIn_cons,List.forIn_nil]
 refine Aa (Aa (wpAny_onRaise ?_))
 show wpAny _ _ (Hg (.ref i1) >>=_) _ _ _
 have h1a:S1 k ha:=N1.stay _ _ _ h1 fun c o hc e=>sa.extBut c o (by rcases hc with rfl | rfl<;>assumption) e
 have h2a:S2 k ha:=N2.stay _ _ _ h2 fun c o hc e=>sa.extBut c o (by rcases hc with rfl | rfl<;>assumption) e
 refine Aa (N1.item h1a hx fun hb h1b sb=>Ab ?_)
 have Ob:IsPair hb TO a b:=sb.extBut _ _ (Dm e2) (sa.extBut _ _ d2 hO)
 have h2b:S2 k hb:=N2.stay _ _ _ h2a fun c o hc e=>sb.extBut c o (by rcases hc with rfl | rfl<;>assumption) e
 refine Aa (Ip Ob rfl (Aa (Nb Ob fun hc Oc sc=>?_)))
 replace Oc:IsPair hc TO x b:=Oc
 refine Aa (wpAny_letGo (Ab ?_))
 refine Aa (Aa (wpAny_onRaise ?_))
 show wpAny _ _ (Hg (.ref i2) >>=_) _ _ _
 have h2c:S2 k hc:=N2.stay _ _ _ h2b fun c o hc e=>sc.extBut c o (by rcases hc with rfl | rfl<;>assumption) e
 have h1c:S1 (k+1) hc:=N1.stay _ _ _ h1b fun c o hc e=>sc.extBut c o (by rcases hc with rfl | rfl<;>assumption) e
 refine Aa (N2.item h2c hy fun hd h2d sd=>Ab ?_)
 have Od:IsPair hd TO x b:=sd.extBut _ _ (Dm e3) Oc
 have h1d:S1 (k+1) hd:=N1.stay _ _ _ h1c fun c o hc e=>sd.extBut c o (by rcases hc with rfl | rfl;exact Dm f2;assumption) e
 refine Aa (Ip Od rfl (Aa (Nb Od fun he Oe se=>?_)))
 replace Oe:IsPair he TO x y:=Oe
 refine Aa (wpAny_letGo (Ab (Ab ?_)))
 refine Aa (Ip Oe rfl (Aa (wpAny_newTuple ?_)))
 have h1e:S1 (k+1) he:=N1.stay _ _ _ h1d fun c o hc e=>se.extBut c o (by rcases hc with rfl | rfl<;>assumption) e
 have h2e:S2 (k+1) he:=N2.stay _ _ _ h2d fun c o hc e=>se.extBut c o (by rcases hc with rfl | rfl<;>assumption) e
 have sz:he.objs.size=s.heap.objs.size:=by rw[se.1,sd.1,sc.1,sb.1,sa.1]
 have ze:IsZip he z TI TO .ellipsis:=se.extBut _ _ (Dm d2) (sd.extBut _ _ (Dm d4) (sc.extBut _ _ (Dm d2) (sb.extBut _ _ (Dm d3) za)))
 have ke:∀c o,c≠z→c≠TO→c≠i1→c≠i2→s.heap.get? c=some o→he.get? c=some o:=fun c o c1 c2 c3 c4 e=>
  se.extBut _ _ c2 (sd.extBut _ _ c4 (sc.extBut _ _ c2 (sb.extBut _ _ c3 (sa.extBut _ _ c1 e))))
 have lz:z<he.objs.size:=Ai ze
 show wpAny _ _ (Builtin.SmallTypes.ownedTupleHandOut (.ref z) (.ref he.objs.size) >>=_) _ _ _
 refine Aa ?_
 unfold Builtin.SmallTypes.ownedTupleHandOut
 have zf:IsZip (he.push {cls:= .type "tuple",data:= .seq #[x,y]}) z TI TO .ellipsis:=Ad _ ze
 refine Aa (Hi zf (by simp) fun hg zg sg=>?_)
 replace zg:IsZip hg z TI TO (rawInt he.objs.size):=zg
 refine Hi zg (by simp) fun hh zh sh=>?_
 replace zh:IsZip hh z TI TO (rawInt he.objs.size):=zh
 have up:∀c o,c≠z→he.get? c=some o→hh.get? c=some o:=fun c o c1 e=>sh.extBut _ _ c1 (sg.extBut _ _ c1 (Ad _ e))
 have Th:IsPair hh he.objs.size x y:=sh.extBut _ _ (Nat.ne_of_gt lz) (sg.extBut _ _ (Nat.ne_of_gt lz) (Al _ rfl))
 have zs:hh.objs.size=he.objs.size+1:=by rw[sh.1,sg.1,Hr]
 rw[sz] at zh Th zs
 refine Ab ⟨_,rfl,?_⟩
 show Q (.ref he.objs.size) _
 rw[sz]
 exact q hh zh (up _ _ d2 Oe) (N1.stay _ _ _ h1e fun c o hc e=>up c o (by rcases hc with rfl | rfl<;>assumption) e) (N2.stay _ _ _ h2e fun c o hc e=>up c o (by rcases hc with rfl | rfl<;>assumption) e) Th zs fun c o c1 c2 c3 c4 e=>up c o c1 (ke c o c1 c2 c3 c4 e)
theorem Y96{k:Nat}{a b:Value}{Q:Fin→Shared→Prop}(hh:A.handled=none)(D:Ap z TI TO i1 i2 l1 l2)(N1:Nx prog w i1 l1 xs S1)(N2:Nx prog w i2 l2 ys S2)
  (hz:IsZip s.heap z TI TO .none) (hI:IsPair s.heap TI (.ref i1) (.ref i2)) (hO:IsPair s.heap TO a b) (h1:S1 k s.heap) (h2:S2 k s.heap) (hend:xs[k]?=none∨ys[k]?=none)
  (q:∀h' e,(∀c o,c≠z→c≠TO→c≠i1→c≠i2→s.heap.get? c=some o→h'.get? c=some o)→(∃o,h'.get? e=some o∧o.cls= .type "StopIteration")→E (.ref e) {s with heap:=h'}):
  wpAny (model prog w) A (Builtin.«zip.__next__» ⟨[.ref z],[]⟩) Q E s:=by
 obtain⟨⟨d1,d2,d3,d4,d5,d6⟩,⟨e1,e2,e3,e4,e5⟩,⟨f1,f2,f3,f4⟩,g1,g2,g3⟩:=D
 show wpAny _ _ (field (.ref z) 2 >>=_) _ _ _
 refine Aa (Ib (x:= .bool false) hz rfl rfl ?_)
 show wpAny _ _ (field (.ref z) 3 >>=_) _ _ _
 refine Aa (Ib (x:= .ref TI) hz rfl rfl (Aa (Ip hI rfl ?_)))
 show wpAny _ _ (Ir (.ref z) >>=_) _ _ _
 refine Aa ?_
 unfold Ir
 refine Aa (Ib (x:= .none) hz rfl rfl (Ab ?_))
 simp only[if_true]
 refine Aa (Lu (Aa (Ib (x:= .ref TO) hz rfl rfl (Aa (Hi hz (by simp) fun ha za sa=>?_)))))
 replace za:IsZip ha z TI TO .ellipsis:=za
 refine Aa ?_
 simp only[List.zipIdx_cons,List.zipIdx_nil,List.forIn_cons,List.forIn_nil]
 refine Aa (Aa (wpAny_onRaise ?_))
 show wpAny _ _ (Hg (.ref i1) >>=_) _ _ _
 have h1a:S1 k ha:=N1.stay _ _ _ h1 fun c o hc e=>sa.extBut c o (by rcases hc with rfl | rfl<;>assumption) e
 have h2a:S2 k ha:=N2.stay _ _ _ h2 fun c o hc e=>sa.extBut c o (by rcases hc with rfl | rfl<;>assumption) e
 have fin:∀(h2:Heap) (e:Addr),IsZip h2 z TI TO .ellipsis→(∀c o,c≠z→c≠TO→c≠i1→c≠i2→s.heap.get? c=some o→h2.get? c=some o)→(∃o,h2.get? e=some o∧o.cls= .type "StopIteration")→wpAny (model prog w) A (setField (.ref z) 0 .none) (fun _ s'=>E (.ref e) s') E {s with heap:=h2}:=by
  rintro h2 e zz kp ⟨o,ho,hc⟩
  refine Hi zz (by simp) fun h3 _ s3=>q h3 e (fun c o c1 c2 c3 c4 x=>s3.extBut _ _ c1 (kp c o c1 c2 c3 c4 x)) ⟨o,s3.extBut _ _ ?_ ho,hc⟩
  rintro rfl
  rw[zz] at ho
  cases ho
  exact absurd (show Au "zip"=Au "StopIteration" from hc) (by decide)
 cases hx:xs[k]? with
 | none=>
  refine Aa (N1.done (s:={s with heap:=ha}) hh h1a hx fun hb e kb he=>?_)
  exact fin hb e (kb _ _ (Dm d3) za) (fun c o c1 _ c3 _ x=>kb _ _ c3 (sa.extBut _ _ c1 x)) he
 | some x=>
  have hy:ys[k]?=none:=hend.resolve_left (by rw[hx];intro z;cases z)
  refine Aa (N1.item (s:={s with heap:=ha}) h1a hx fun hb h1b sb=>Ab ?_)
  have Ob:IsPair hb TO a b:=sb.extBut _ _ (Dm e2) (sa.extBut _ _ d2 hO)
  have h2b:S2 k hb:=N2.stay _ _ _ h2a fun c o hc e=>sb.extBut c o (by rcases hc with rfl | rfl<;>assumption) e
  refine Aa (Ip Ob rfl (Aa (Nb Ob fun hc Oc sc=>?_)))
  refine Aa (wpAny_letGo (Ab ?_))
  refine Aa (Aa (wpAny_onRaise ?_))
  show wpAny _ _ (Hg (.ref i2) >>=_) _ _ _
  have h2c:S2 k hc:=N2.stay _ _ _ h2b fun c o hc e=>sc.extBut c o (by rcases hc with rfl | rfl<;>assumption) e
  have zc:IsZip hc z TI TO .ellipsis:=sc.extBut _ _ (Dm d2) (sb.extBut _ _ (Dm d3) za)
  refine Aa (N2.done (s:={s with heap:=hc}) hh h2c hy fun hd e kd he=>?_)
  exact fin hd e (kd _ _ (Dm d4) zc) (fun c o c1 c2 c3 c4 x=>kd _ _ c4 (sc.extBut _ _ c2 (sb.extBut _ _ c3 (sa.extBut _ _ c1 x)))) he
end
noncomputable abbrev zh1(h:Heap)(t:Addr):Heap:=h.push {cls:= .type "tuple_iterator",data:= .fields #[.ref t,.int 0 0]}
noncomputable abbrev zh2(h:Heap)(t l:Addr):Heap:=(zh1 h t).push {cls:= .type "tuple_iterator",data:= .fields #[.ref l,.int 0 0]}
noncomputable abbrev zh3(h:Heap)(t l:Addr):Heap:=(zh2 h t l).push {cls:= .type "tuple",data:= .seq #[.ref h.objs.size,.ref (zh1 h t).objs.size]}
noncomputable abbrev zh4(h:Heap)(t l:Addr):Heap:=(zh3 h t l).push {cls:= .type "tuple",data:= .seq #[.none,.none]}
noncomputable abbrev zh5(h:Heap)(t l:Addr):Heap:=(zh4 h t l).push {cls:= .type "zip",data:= .fields #[.none,.bool false,.bool false,.ref (zh2 h t l).objs.size,.ref (zh3 h t l).objs.size]}
theorem Y20(t l:Addr)(xs ys:Array Value):Meets (Builtin.«zip.__new__» ⟨[.type "zip",.ref t,.ref l],[]⟩) (fun _ R s=>s.heap.IsTuple t xs∧s.heap.IsTuple l ys∧R (.ok (.ret (.ref (zh4 s.heap t l).objs.size))) {s with heap:=zh5 s.heap t l}):=
 .of_wp fun prog w A R s h=>by
  obtain⟨hp,g,d,tk,os⟩:=s
  obtain⟨ht,hl,h⟩:=h
  have sub0:=sub_zip
  have hT:Heap.IsTuple (Shared.heap ⟨hp,g,d,tk,os⟩) t xs:=ht
  have hL:Heap.IsTuple (Shared.heap ⟨hp.push {cls:= .type "tuple_iterator",data:= .fields #[.ref t,.int 0 0]},g,d,tk,os⟩) l ys:=Heap.IsTuple.push hl _
  wp_walk using wpAny_pyIter_tuple hT,wpAny_pyIter_tuple hL
  exact⟨_,rfl,h⟩
section
variable{prog:Program}{w:World}{A:Around}{E:Value→Shared→Prop}{s:Shared}
theorem zt_call{t l:Addr}{xs ys:Array Value}{Q:Value→Shared→Prop}(ht:s.heap.IsTuple t xs)(hl:s.heap.IsTuple l ys)
  (h:∀h',IsZip h' (s.heap.objs.size+4) (s.heap.objs.size+2) (s.heap.objs.size+3) .none→IsPair h' (s.heap.objs.size+2) (.ref s.heap.objs.size) (.ref (s.heap.objs.size+1))→IsPair h' (s.heap.objs.size+3) .none .none→
   h'.IsTupleIter s.heap.objs.size t 0→h'.IsTupleIter (s.heap.objs.size+1) l 0→(∀c o,s.heap.get? c=some o→h'.get? c=some o)→Q (.ref (s.heap.objs.size+4)) {s with heap:=h'}):
  wpAny (model prog w) A (call (.type "zip") [.ref t,.ref l]) Q E s:=by
 refine callType_new F.called_zip (by decide) (F.typeCall_zip_2 _ _) (F.newCall_zip_2 _ _) (fun obj=>F.args_object_init_3 obj _ _) F.entry_zip_new (Y20 t l xs ys) ⟨ht,hl,?_⟩
 have z1:(zh1 s.heap t).objs.size=s.heap.objs.size+1:=Hr ..
 have z2:(zh2 s.heap t l).objs.size=s.heap.objs.size+2:=by rw[Hr,z1]
 have z3:(zh3 s.heap t l).objs.size=s.heap.objs.size+3:=by rw[Hr,z2]
 have z4:(zh4 s.heap t l).objs.size=s.heap.objs.size+4:=by rw[Hr,z3]
 have up:∀{h:Heap} {o:Obj} {c:Addr} {u:Obj},h.get? c=some u→(h.push o).get? c=some u:=fun e=>Ad _ e
 have g5:(zh5 s.heap t l).get? (zh4 s.heap t l).objs.size=some _:=Al _ rfl
 have g4:(zh5 s.heap t l).get? (zh3 s.heap t l).objs.size=some _:=up (Al _ rfl)
 have g3:(zh5 s.heap t l).get? (zh2 s.heap t l).objs.size=some _:=up (up (Al _ rfl))
 have g2:(zh5 s.heap t l).get? (zh1 s.heap t).objs.size=some _:=up (up (up (Al _ rfl)))
 have g1:(zh5 s.heap t l).get? s.heap.objs.size=some _:=up (up (up (up (Al _ rfl))))
 show _∧_
 rw[z2,z3,z4] at g5
 rw[z1,z2] at g3
 rw[z3] at g4
 rw[z1] at g2
 rw[z4]
 exact⟨⟨_,g5,rfl⟩,h _ g5 g3 g4 ⟨_,g1,rfl,rfl⟩ ⟨_,g2,rfl,rfl⟩ fun c o e=>up (up (up (up (up e))))⟩
variable{z TI TO i1 i2 l1 l2:Addr}{xs ys:Array Value}{S1 S2:Nat→Heap→Prop}
theorem zn_item{k:Nat}{x y a b:Value}{Q:Option Value→Shared→Prop}(D:Ap z TI TO i1 i2 l1 l2)(N1:Nx prog w i1 l1 xs S1)(N2:Nx prog w i2 l2 ys S2)
  (hz:IsZip s.heap z TI TO .none) (hI:IsPair s.heap TI (.ref i1) (.ref i2)) (hO:IsPair s.heap TO a b) (h1:S1 k s.heap) (h2:S2 k s.heap) (hx:xs[k]?=some x) (hy:ys[k]?=some y)
  (q:∀h',IsZip h' z TI TO (rawInt s.heap.objs.size)→IsPair h' TO x y→S1 (k+1) h'→S2 (k+1) h'→IsPair h' s.heap.objs.size x y→h'.objs.size=s.heap.objs.size+1→(∀c o,c≠z→c≠TO→c≠i1→c≠i2→s.heap.get? c=some o→h'.get? c=some o)→Q (some (.ref s.heap.objs.size)) {s with heap:=h'}):
  wpAny (model prog w) A (pyNext (.ref z)) Q E s:=by
 have hT:s.TypeIs (.ref z) "zip":=⟨_,hz,rfl⟩
 unfold pyNext
 exact Aa (Kw (Ex (name:=Str.ofString "__next__") hT F.slot_zip_next (Hb F.slot_zip_next hT F.entry_zip_next (Y47 D N1 N2 hz hI hO h1 h2 hx hy fun h' a1 a2 a3 a4 a5 a6 a7=>Ab (q h' a1 a2 a3 a4 a5 a6 a7)) (F.args_zip_next_1 _))))
theorem zn_end{k:Nat}{a b:Value}{Q:Option Value→Shared→Prop}(hh:A.handled=none)(D:Ap z TI TO i1 i2 l1 l2)(N1:Nx prog w i1 l1 xs S1)(N2:Nx prog w i2 l2 ys S2)
  (hz:IsZip s.heap z TI TO .none) (hI:IsPair s.heap TI (.ref i1) (.ref i2)) (hO:IsPair s.heap TO a b) (h1:S1 k s.heap) (h2:S2 k s.heap) (hend:xs[k]?=none∨ys[k]?=none)
  (q:∀h',(∀c o,c≠z→c≠TO→c≠i1→c≠i2→s.heap.get? c=some o→h'.get? c=some o)→Q none {s with heap:=h'}):wpAny (model prog w) A (pyNext (.ref z)) Q E s:=by
 have hT:s.TypeIs (.ref z) "zip":=⟨_,hz,rfl⟩
 unfold pyNext
 refine Aa (Kw (Ex (name:=Str.ofString "__next__") hT F.slot_zip_next (Hb F.slot_zip_next hT F.entry_zip_next (Y96 (A:=A.in1) hh D N1 N2 hz hI hO h1 h2 hend fun h' e hk he=>?_) (F.args_zip_next_1 _))))
 obtain⟨o,ho,hc⟩:=he
 exact Aa (Lk (T:="StopIteration") (b:=true) ⟨o,ho,hc⟩ isSubtype_stop (Ab (q _ hk)))
end
end ZT
namespace L3
open PySem PySem.Spec PyProof.Rows L2
section
variable{X:Cx}
noncomputable def Itzt(K:Ae)(a b:Addr)(xs ys:List V):It:=
 ⟨fun i H=>∃x y,SqT K H a xs∧SqT K H b ys∧xs[i]?=some x∧ys[i]?=some y,
  fun i H x H'=>∃p u v,H p=none∧H'=upd H p (.tup [u,v])∧x= .ref p∧xs[i]?=some u∧ys[i]?=some v,
  fun i H=>SqT K H a xs∧SqT K H b ys∧(xs.length≤i∨ys.length≤i)⟩
theorem Z95{P:Program}{w:World}{K:Ae}{elts:List Expr}{x1:Nat}{tp:Pos}{z TI TO i1 i2 a b:Addr}{xs ys:List V}(D:ZT.Ap z TI TO i1 i2 a b):
  Turn P w K (.Tuple elts x1 tp) (Itzt K a b xs ys) [z,TI,TO,i1,i2] z (fun i h=>IsZip h z TI TO .none∧IsPair h TI (.ref i1) (.ref i2)∧(∃u v,IsPair h TO u v)∧h.IsTupleIter i1 a i∧h.IsTupleIter i2 b i) where
 mem:=by simp
 obj:=by
  rintro i h ⟨hz,hTI,⟨u,v,hTO⟩,⟨o1,e1,_,d1⟩,⟨o2,e2,_,d2⟩⟩ c hc
  simp only[Am,Aw,or_false] at hc
  rcases hc with rfl | rfl | rfl | rfl | rfl
  ·exact⟨_,hz,fun v q=>by cases q⟩
  ·exact⟨_,hTI,fun v q=>by cases q⟩
  ·exact⟨_,hTO,fun v q=>by cases q⟩
  ·exact⟨_,e1,fun v q=>by rw[d1] at q;cases q⟩
  ·exact⟨_,e2,fun v q=>by rw[d2] at q;cases q⟩
 keep:=by
  rintro i h h' ⟨hz,hTI,⟨u,v,hTO⟩,⟨o,e,r⟩,⟨o2,e2,r2⟩⟩ k
  exact⟨k z (by simp) _ hz,k TI (by simp) _ hTI,⟨u,v,k TO (by simp) _ hTO⟩,⟨o,k i1 (by simp) _ e,r⟩,⟨o2,k i2 (by simp) _ e2,r2⟩⟩
 item:=by
  rintro X rfl rfl rfl hc i pins s σ H E I hf ⟨hz,hTI,⟨u0,v0,hTO⟩,h1,h2⟩ ⟨x,y,hq,hr,hx,hy⟩
  obtain⟨its,rv,p,_⟩:=I.tuple hq
  obtain⟨jts,rw2,p2,_⟩:=I.tuple hr
  obtain⟨u,hu,ru⟩:=rv.get hx
  obtain⟨v,hv,rv2⟩:=rw2.get hy
  have lt:∀c∈[z,TI,TO,i1,i2],@LT.lt Nat _ c s.heap.objs.size:=by
   intro c hc
   simp only[Am,Aw,or_false] at hc
   obtain⟨o1,e1,_⟩:=id h1
   obtain⟨o2,e2,_⟩:=id h2
   rcases hc with rfl | rfl | rfl | rfl | rfl
   ·exact Ai hz
   ·exact Ai hTI
   ·exact Ai hTO
   ·exact Ai e1
   ·exact Ai e2
  refine ZT.zn_item D (ZT.Nx.tuple D.z3.2.2.1 its.toArray) (ZT.Nx.tuple D.z4.2.2 jts.toArray) hz hTI hTO ⟨h1,p⟩ ⟨h2,p2⟩ (x:=u) (y:=v) (by simpa using hu) (by simpa using hv) fun hh ho hTO2 g1 g2 hT hsz hk=>?_
  refine⟨_,rfl,wpAny_letOwnedTupleGo_zip ho fun h3 hz3 hs3=>?_⟩
  replace hs3:Dn z hh h3:=hs3
  obtain⟨⟨a1,a2,a3,a4,a5,a6⟩,⟨b1,b2,b3,b4,b5⟩,⟨c1,c2,c3,c4⟩,e1,e2,e3⟩:=D
  have nz:s.heap.objs.size≠z:=Nat.ne_of_gt (lt z (by simp))
  have hT3:h3.get? s.heap.objs.size=some {cls:= .type "tuple",data:= .seq #[u,v]}:=(hs3.2 _ nz).trans hT
  have hn:H s.heap.objs.size=none:=I.hok.fresh (Nat.le_refl _)
  have I1:Inv X pins σ (upd H s.heap.objs.size (.tup [x,y])) {s with heap:=s.heap.push {cls:= .type "tuple",data:= .seq #[u,v]},toks:=s.toks}:=
   I.laid (fun b ob q=>Ad _ q) (Nat.le_refl _) ⟨show 2≤sizeLine by rw[Hv];omega,[u,v],.cons ru (.cons rv2 .nil),⟨_,Al _ rfl,rfl,_,rfl⟩⟩
  have up:∀c∈[z,TI,TO,i1,i2],FpOk X pins (upd H s.heap.objs.size (.tup [x,y])) c:=by
   intro c hc
   refine⟨?_,(hf c hc).2⟩
   rw[Zw (Nat.ne_of_lt (lt c hc))]
   exact(hf c hc).1
  have I2:=Oy (h':=h3) (t':=s.toks) I1 (fun c o hc e'=>by
   simp only[Am,Aw,or_false,not_or] at hc
   rcases Sx e' with q | q
   ·exact(hs3.2 c hc.1).trans (hk c o hc.1 hc.2.2.1 hc.2.2.2.1 hc.2.2.2.2 q)
   ·subst q
    have z2:(s.heap.push {cls:= .type "tuple",data:= .seq #[u,v]}).get? s.heap.objs.size=some o:=e'
    rw[Al _ rfl] at z2
    cases z2
    exact hT3) up
  obtain⟨q1,q2,q3⟩:=g1.1
  obtain⟨q4,q5,q6⟩:=g2.1
  refine⟨.ref s.heap.objs.size,_,I2,rfl,⟨_,x,y,hn,rfl,rfl,hx,hy⟩,
   ⟨hz3,(hs3.2 TI a1).trans (hk TI _ a1 b1 c1 e1 hTI),⟨_,_,(hs3.2 TO a2).trans hTO2⟩,⟨q1,(hs3.2 i1 a3).trans q2,q3⟩,⟨q4,(hs3.2 i2 a4).trans q5,q6⟩⟩,fun c hc=>(up c hc).1⟩
 done:=by
  rintro X rfl rfl rfl hc i pins s σ H E I hf ⟨hz,hTI,⟨u0,v0,hTO⟩,h1,h2⟩ ⟨hq,hr,hl⟩
  obtain⟨its,rv,p,_⟩:=I.tuple hq
  obtain⟨jts,rw2,p2,_⟩:=I.tuple hr
  have l1:=rv.length
  have l2:=rw2.length
  refine ZT.zn_end (I.ok.hd hc) D (ZT.Nx.tuple D.z3.2.2.1 its.toArray) (ZT.Nx.tuple D.z4.2.2 jts.toArray) hz hTI hTO ⟨h1,p⟩ ⟨h2,p2⟩ ?_ fun h' eb=>⟨rfl,Oy (t':=s.toks) I (ch:=[z,TI,TO,i1,i2]) (fun c o hc e=>?_) hf⟩
  ·rcases hl with hl | hl
   ·exact .inl (by simp;omega)
   ·exact .inr (by simp;omega)
  ·simp only[Am,Aw,or_false,not_or] at hc
   exact eb c o hc.1 hc.2.2.1 hc.2.2.2.1 hc.2.2.2.2 e
 self:=by
  rintro A i s Q E ⟨hz,_⟩ h
  exact wpAny_pyIter_zip hz h
def Yb2(K:Ae)(ta:TA):TI:=fun σ H R=>ta σ H fun vs H1=>(∃a b,vs=[V.ref a,V.ref b]∧(∃xs,SqL K H1 a xs)∧(∃ys,SqL K H1 b ys)∧R (Itz K a b) H1)∨(∃a b xs ys,vs=[V.ref a,V.ref b]∧SqT K H1 a xs∧SqT K H1 b ys∧R (Itzt K a b xs ys) H1)
theorem Zt9{elts:List Expr}{x1:Nat}{tp:Pos}{l:Expr}{ls:List Expr}{ta:TA}{p pos:Pos}(hg:Gl X "zip")(hm:X.mg "zip"=none)(ha:PA X (l::ls) ta)(he:starEach (l::ls) X.env=(false,eval l X.env)::starEach ls X.env)(hpl:(backTo pos (starEach ls X.env)).any (·.1)=false):
  PI X (.Tuple elts x1 tp) (.Call (.Name "zip" p) (l::ls) [] pos) (Yb2 X.K ta):=by
 intro pins s σ H R I h
 refine Lr (Qo I hg hm (u:= .type "zip") (by kernel_rfl) ?_)
 refine Iv (thn (ha pos pins s σ H _ I h) fun us s1 zz65=>?_) he hpl
 obtain⟨vs,H1,I1,rv,q⟩:=zz65
 have hb:∀c∈[s1.heap.objs.size+4,s1.heap.objs.size+2,s1.heap.objs.size+3,s1.heap.objs.size,s1.heap.objs.size+1],@LE.le Nat _ s1.heap.objs.size c:=by
  intro c hc
  simp only[Am,Aw,or_false] at hc
  rcases hc with rfl | rfl | rfl | rfl | rfl
  ·exact Nat.le_add_right _ _
  ·exact Nat.le_add_right _ _
  ·exact Nat.le_add_right _ _
  ·exact Nat.le_refl _
  ·exact Nat.le_add_right _ _
 rcases q with⟨a,b,ev,⟨xs,hp⟩,⟨ys,hq⟩,q⟩ | ⟨a,b,xs,ys,ev,hp,hq,q⟩
 ·subst ev
  obtain⟨u1,u2,rfl,e1,e2⟩:=Gr rv
  cases e1
  cases e2
  obtain⟨us,r1,pl1,z1⟩:=I1.list hp
  obtain⟨ws,r2,pl2,z2⟩:=I1.list hq
  have L1:=pl1.isList
  have L2:=pl2.isList
  have lt1:@LT.lt Nat _ a s1.heap.objs.size:=by obtain⟨o,e,_⟩:=L1;exact Ai e
  have lt2:@LT.lt Nat _ b s1.heap.objs.size:=by obtain⟨o,e,_⟩:=L2;exact Ai e
  refine call_zip_2 L1 L2 fun h' a1 a2 a3 a4 a5 a6 kp=>wpAny_pyIter_zip a1 ?_
  have D:ZipApart (s1.heap.objs.size+4) (s1.heap.objs.size+2) (s1.heap.objs.size+3) s1.heap.objs.size (s1.heap.objs.size+1) a b:=by
   constructor<;>(show(_:Nat)≠_)<;>omega
  exact⟨s1.heap.objs.size+4,[s1.heap.objs.size+4,s1.heap.objs.size+2,s1.heap.objs.size+3,s1.heap.objs.size,s1.heap.objs.size+1],_,_,H1,rfl,I1.kept (t':=s1.toks) kp,Zh6 _ _ _ _ _ a b D,⟨a1,a2,⟨_,_,a3⟩,a4,a5⟩,fun c hc=>I1.fpOk (hb c hc) (I1.hok.fresh (hb c hc)),q⟩
 ·subst ev
  obtain⟨u1,u2,rfl,e1,e2⟩:=Gr rv
  cases e1
  cases e2
  obtain⟨us,r1,pl1,z1⟩:=I1.tuple hp
  obtain⟨ws,r2,pl2,z2⟩:=I1.tuple hq
  have lt1:@LT.lt Nat _ a s1.heap.objs.size:=by obtain⟨o,e,_⟩:=pl1;exact Ai e
  have lt2:@LT.lt Nat _ b s1.heap.objs.size:=by obtain⟨o,e,_⟩:=pl2;exact Ai e
  refine ZT.zt_call pl1 pl2 fun h' a1 a2 a3 a4 a5 kp=>wpAny_pyIter_zip a1 ?_
  have D:ZT.Ap (s1.heap.objs.size+4) (s1.heap.objs.size+2) (s1.heap.objs.size+3) s1.heap.objs.size (s1.heap.objs.size+1) a b:=by
   refine⟨⟨?_,?_,?_,?_,?_,?_⟩,⟨?_,?_,?_,?_,?_⟩,⟨?_,?_,?_,?_⟩,?_,?_,?_⟩<;>(show(_:Nat)≠_)<;>omega
  exact⟨s1.heap.objs.size+4,[s1.heap.objs.size+4,s1.heap.objs.size+2,s1.heap.objs.size+3,s1.heap.objs.size,s1.heap.objs.size+1],_,_,H1,rfl,I1.kept (t':=s1.toks) kp,Z95 D,⟨a1,a2,⟨_,_,a3⟩,a4,a5⟩,fun c hc=>I1.fpOk (hb c hc) (I1.hok.fresh (hb c hc)),q⟩
end
end L3
namespace U
open PySem PySem.Spec PyProof.Rows L2 L3
inductive D where
 | non | bl (b:Bool) | int (i:Int) | str (x:Str) | tup (ds:List D) | ref (n:Nat) | ty (n:String) | gtup (ds:List D) | cls (a:Addr) | exn (e C dx:Addr) (row:D)
inductive Cell where
 | lst (ds:List D) | frz (ds:List D) | dct (kvs:List (Key×D)) | fdc (kvs:List (Key×D))
noncomputable abbrev Z2:=List Cell
noncomputable abbrev DEnv:=List (Option D)
abbrev DK:=D→Z2→Prop
abbrev DX:=Addr→D→Z2→Prop
abbrev DE:=DEnv→Z2→DK→Prop
abbrev DA:=DEnv→Z2→(List D→Z2→Prop)→Prop
abbrev DT:=DEnv→Z2→(Bool→Z2→Prop)→Prop
abbrev DSp:=List D→Z2→DK→DX→Prop
structure DEnds where
 nx:DEnv→Z2→Prop
 rt:DK
 bk:DEnv→Z2→Prop:=fun _ _=>False
 ct:DEnv→Z2→Prop:=fun _ _=>False
abbrev DS:=DEnds→DEnv→Z2→Prop
structure Vw where
 K:Ae
 H:Hp
 μ:Nat→Addr
 n:Nat
mutual
def RD(w:Vw):D→V→Prop
 | .non,v=>v= .non
 | .bl b,v=>v= .bl b
 | .int i,v=>v= .int i
 | .str x,v=>v= .str x
 | .tup ds,v=>∃a vs,v= .ref a∧w.H a=some (.tup vs)∧RDs w ds vs
 | .ref i,v=>i<w.n∧v= .ref (w.μ i)
 | .ty n,v=>v= .ty n
 | .gtup ds,v=>∃a vs,v= .ref a∧SqT w.K w.H a vs∧RDs w ds vs
 | .cls a,v=>v= .ref a
 | .exn e C dx row,v=>v= .ref e∧w.H e=some (XO e (.ref C) (some dx))∧∃r,w.H dx=some (.xd [("row",r)])∧RD w row r
def RDs(w:Vw):List D→List V→Prop
 | [],vs=>vs=[]
 | d::ds,vs=>∃v r,vs=v::r∧RD w d v∧RDs w ds r
end
def RKV(w:Vw):List (Key×D)→List (Key×V)→Prop
 | [],vs=>vs=[]
 |(k,d)::ds,vs=>∃v r,vs=(k,v)::r∧RD w d v∧RKV w ds r
def SqF(K:Ae)(H:Hp)(a:Addr)(vs:List V):Prop:=(∃o,H a=some (.frz o (.lst vs)))∨SqL K (fun _=>none) a vs
noncomputable def Cell.mut:Cell→Bool
 | .frz _=>false
 | _=>true
def Nl(w:Vw):Cell→Addr→Prop
 | .lst ds,a=>∃vs,w.H a=some (.lst vs)∧RDs w ds vs
 | .frz ds,a=>∃vs,SqF w.K w.H a vs∧RDs w ds vs
 | .dct kvs,a=>∃vs,w.H a=some (.dK vs)∧RKV w kvs vs
 | .fdc kvs,a=>∃o vs,w.H a=some (.frz o (.dK vs))∧RKV w kvs vs
structure RS(w:Vw)(M:Z2):Prop where
 len:w.n=M.length
 inj:∀(i j:Nat) (ci cj:Cell),M[i]?=some ci→M[j]?=some cj→ci.mut=true→cj.mut=true→w.μ i=w.μ j→i=j
 cell:∀i c,M[i]?=some c→Nl w c (w.μ i)
noncomputable def Imm:HO→Bool
 | .tup _ | .xd _ | .ext _ | .frz _ _=>true
 | _=>false
structure Ext(w w':Vw):Prop where
 K:w'.K=w.K
 n:w.n≤w'.n
 μ:∀i,i<w.n→w'.μ i=w.μ i
 imm:∀a o,w.H a=some o→Imm o=true→w'.H a=some o
theorem Ext.refl(w:Vw):Ext w w:=⟨rfl,Nat.le_refl _,fun _ _=>rfl,fun _ _ h _=>h⟩
theorem Ext.trans{a b c:Vw}(x:Ext a b)(y:Ext b c):Ext a c:=
 ⟨y.K.trans x.K,Nat.le_trans x.n y.n,fun i h=>(y.μ i (Nat.lt_of_lt_of_le h x.n)).trans (x.μ i h),fun p o h q=>y.imm p o (x.imm p o h q) q⟩
theorem Ext.sqT{w w':Vw}(x:Ext w w'){a:Addr}{vs:List V}(h:SqT w.K w.H a vs):SqT w'.K w'.H a vs:=by
 rw[x.K]
 rcases h with(h | ⟨o,h⟩) | h
 ·exact .inl (.inl (x.imm _ _ h rfl))
 ·exact .inl (.inr ⟨o,x.imm _ _ h rfl⟩)
 ·exact .inr h
mutual
theorem RD.ext{w w':Vw}(x:Ext w w'):∀{d:D} {v:V},RD w d v→RD w' d v
 | .non,v,h=>by unfold RD at *;exact h
 | .bl b,v,h=>by unfold RD at *;exact h
 | .int i,v,h=>by unfold RD at *;exact h
 | .str _,v,h=>by unfold RD at *;exact h
 | .tup ds,v,h=>by
  unfold RD at *
  obtain⟨a,vs,e,q,r⟩:=h
  exact⟨a,vs,e,x.imm _ _ q rfl,RDs.ext x r⟩
 | .ref i,v,h=>by
  unfold RD at *
  exact⟨Nat.lt_of_lt_of_le h.1 x.n,by rw[x.μ i h.1];exact h.2⟩
 | .ty n,v,h=>by unfold RD at *;exact h
 | .gtup ds,v,h=>by
  unfold RD at *
  obtain⟨a,vs,e,q,r⟩:=h
  exact⟨a,vs,e,x.sqT q,RDs.ext x r⟩
 | .cls a,v,h=>by unfold RD at *;exact h
 | .exn e C dx row,v,h=>by
  unfold RD at *
  obtain⟨e1,q,r,q2,q3⟩:=h
  exact⟨e1,x.imm _ _ q rfl,r,x.imm _ _ q2 rfl,RD.ext x q3⟩
theorem RDs.ext{w w':Vw}(x:Ext w w'):∀{ds:List D} {vs:List V},RDs w ds vs→RDs w' ds vs
 | [],vs,h=>by unfold RDs at *;exact h
 | d::ds,vs,h=>by
  unfold RDs at *
  obtain⟨v,r,e,h1,h2⟩:=h
  exact⟨v,r,e,RD.ext x h1,RDs.ext x h2⟩
end
theorem RKV.ext{w w':Vw}(x:Ext w w'):∀{ds:List (Key×D)} {vs:List (Key×V)},RKV w ds vs→RKV w' ds vs
 | [],vs,h=>by unfold RKV at *;exact h
 |(k,d)::ds,vs,h=>by
  unfold RKV at *
  obtain⟨v,r,e,h1,h2⟩:=h
  exact⟨v,r,e,RD.ext x h1,RKV.ext x h2⟩
structure Ext0(w w':Vw):Prop where
 K:w'.K=w.K
 n:w.n≤w'.n
 μ:∀i,i<w.n→w'.μ i=w.μ i
 imm:∀a o,w.H a=some o→Imm o=true→(∀ob kvs,o≠ .frz ob (.dK kvs))→w'.H a=some o
mutual
theorem RD.ext0{w w':Vw}(x:Ext0 w w'):∀{d:D} {v:V},RD w d v→RD w' d v
 | .non,v,h=>by unfold RD at *;exact h
 | .bl b,v,h=>by unfold RD at *;exact h
 | .int i,v,h=>by unfold RD at *;exact h
 | .str _,v,h=>by unfold RD at *;exact h
 | .tup ds,v,h=>by
  unfold RD at *
  obtain⟨a,vs,e,q,r⟩:=h
  exact⟨a,vs,e,x.imm _ _ q rfl (fun _ _ z=>by cases z),RDs.ext0 x r⟩
 | .ref i,v,h=>by
  unfold RD at *
  exact⟨Nat.lt_of_lt_of_le h.1 x.n,by rw[x.μ i h.1];exact h.2⟩
 | .ty n,v,h=>by unfold RD at *;exact h
 | .gtup ds,v,h=>by
  unfold RD at *
  obtain⟨a,vs,e,q,r⟩:=h
  refine⟨a,vs,e,?_,RDs.ext0 x r⟩
  rw[x.K]
  rcases q with(h | ⟨o,h⟩) | h
  ·exact .inl (.inl (x.imm _ _ h rfl (fun _ _ z=>by cases z)))
  ·exact .inl (.inr ⟨o,x.imm _ _ h rfl (fun _ _ z=>by cases z)⟩)
  ·exact .inr h
 | .cls a,v,h=>by unfold RD at *;exact h
 | .exn e C dx row,v,h=>by
  unfold RD at *
  obtain⟨e1,q,r,q2,q3⟩:=h
  exact⟨e1,x.imm _ _ q rfl (fun _ _ z=>by cases z),r,x.imm _ _ q2 rfl (fun _ _ z=>by cases z),RD.ext0 x q3⟩
theorem RDs.ext0{w w':Vw}(x:Ext0 w w'):∀{ds:List D} {vs:List V},RDs w ds vs→RDs w' ds vs
 | [],vs,h=>by unfold RDs at *;exact h
 | d::ds,vs,h=>by
  unfold RDs at *
  obtain⟨v,r,e,h1,h2⟩:=h
  exact⟨v,r,e,RD.ext0 x h1,RDs.ext0 x h2⟩
end
theorem RDs.nil(w:Vw):RDs w [] []:=by unfold RDs;rfl
theorem RDs.cons{w:Vw}{d:D}{v:V}{ds:List D}{vs:List V}(h:RD w d v)(r:RDs w ds vs):RDs w (d::ds) (v::vs):=by unfold RDs;exact⟨v,vs,rfl,h,r⟩
theorem RDs.length{w:Vw}:∀{ds:List D} {vs:List V},RDs w ds vs→vs.length=ds.length
 | [],vs,h=>by unfold RDs at h;subst h;rfl
 | d::ds,vs,h=>by
  unfold RDs at h
  obtain⟨v,r,rfl,_,h2⟩:=h
  simp[h2.length]
theorem RDs.get{w:Vw}:∀{ds:List D} {vs:List V} {i:Nat} {d:D},RDs w ds vs→ds[i]?=some d→∃v,vs[i]?=some v∧RD w d v
 | [],vs,i,d,h,e=>by simp at e
 | d::ds,vs,i,d',h,e=>by
  unfold RDs at h
  obtain⟨v,r,rfl,h1,h2⟩:=h
  cases i with
  | zero=>simp at e;subst e;exact⟨v,rfl,h1⟩
  | succ i=>simpa using RDs.get h2 (by simpa using e)
theorem RDs.append{w:Vw}:∀{ds es:List D} {vs us:List V},RDs w ds vs→RDs w es us→RDs w (ds++es) (vs++us)
 | [],es,vs,us,h,g=>by unfold RDs at h;subst h;exact g
 | d::ds,es,vs,us,h,g=>by
  unfold RDs at h
  obtain⟨v,r,rfl,h1,h2⟩:=h
  exact RDs.cons h1 (RDs.append h2 g)
theorem RDs.take{w:Vw}:∀{ds:List D} {vs:List V} (n:Nat),RDs w ds vs→RDs w (ds.take n) (vs.take n)
 | _,_,0,_=>by simp[RDs.nil]
 | [],vs,n+1,h=>by unfold RDs at h;subst h;simp[RDs.nil]
 | d::ds,vs,n+1,h=>by
  unfold RDs at h
  obtain⟨v,r,rfl,h1,h2⟩:=h
  exact RDs.cons h1 (RDs.take n h2)
theorem RDs.drop{w:Vw}:∀{ds:List D} {vs:List V} (n:Nat),RDs w ds vs→RDs w (ds.drop n) (vs.drop n)
 | _,_,0,h=>by simpa using h
 | [],vs,n+1,h=>by unfold RDs at h;subst h;simp[RDs.nil]
 | d::ds,vs,n+1,h=>by
  unfold RDs at h
  obtain⟨v,r,rfl,h1,h2⟩:=h
  simpa using RDs.drop n h2
theorem RDs.set{w:Vw}{d:D}{v:V}(q:RD w d v):∀{ds:List D} {vs:List V} (n:Nat),RDs w ds vs→RDs w (ds.set n d) (vs.set n v)
 | [],vs,n,h=>by unfold RDs at h;subst h;simp[RDs.nil]
 | d::ds,vs,0,h=>by
  unfold RDs at h
  obtain⟨v,r,rfl,h1,h2⟩:=h
  exact RDs.cons q h2
 | d::ds,vs,n+1,h=>by
  unfold RDs at h
  obtain⟨v,r,rfl,h1,h2⟩:=h
  exact RDs.cons h1 (RDs.set q n h2)
theorem RDs.reverse{w:Vw}:∀{ds:List D} {vs:List V},RDs w ds vs→RDs w ds.reverse vs.reverse
 | [],vs,h=>by unfold RDs at h;subst h;simp[RDs.nil]
 | d::ds,vs,h=>by
  unfold RDs at h
  obtain⟨v,r,rfl,h1,h2⟩:=h
  simp only[List.reverse_cons]
  exact(RDs.reverse h2).append (RDs.cons h1 (RDs.nil w))
noncomputable def Vw.push(w:Vw)(a:Addr)(o:HO):Vw:=⟨w.K,upd w.H a o,fun i=>if i=w.n then a else w.μ i,w.n+1⟩
noncomputable def Vw.alloc(w:Vw)(a:Addr)(o:HO):Vw:={w with H:=upd w.H a o}
theorem T4{w:Vw}{a:Addr}{o:HO}(h:w.H a=none):Ext w (w.alloc a o):=
 ⟨rfl,Nat.le_refl _,fun _ _=>rfl,fun b u q _=>by
  show upd w.H a o b=some u
  rw[Zw (by rintro rfl;rw[h] at q;cases q)];exact q⟩
theorem Sd{w:Vw}{a:Addr}{o:HO}(h:w.H a=none):Ext w (w.push a o):=
 ⟨rfl,Nat.le_succ _,fun i hi=>by show(if i=w.n then a else w.μ i)=_;rw[if_neg (by omega)],fun b u q _=>by
  show upd w.H a o b=some u
  rw[Zw (by rintro rfl;rw[h] at q;cases q)];exact q⟩
theorem SqF.stay{w w':Vw}{a:Addr}{vs:List V}(x:Ext w w')(h:SqF w.K w.H a vs):SqF w'.K w'.H a vs:=by
 rcases h with⟨o,h⟩ | h
 ·exact .inl ⟨o,x.imm _ _ h rfl⟩
 ·rw[x.K];exact .inr h
theorem SqF.sq{K:Ae}{H:Hp}{a:Addr}{vs:List V}(h:SqF K H a vs):SqL K H a vs:=by
 rcases h with⟨o,h⟩ | (h | ⟨o,h⟩) | h
 ·exact .inl (.inr ⟨o,h⟩)
 ·cases h
 ·cases h
 ·exact .inr h
theorem Nl.some{w:Vw}{c:Cell}{a:Addr}(hm:c.mut=true)(h:Nl w c a):∃o,w.H a=some o:=by
 cases c with
 | lst ds=>obtain⟨vs,q,_⟩:=h;exact⟨_,q⟩
 | frz ds=>cases hm
 | dct ds=>obtain⟨vs,q,_⟩:=h;exact⟨_,q⟩
 | fdc ds=>obtain⟨o,vs,q,_⟩:=h;exact⟨_,q⟩
theorem Nl.stay{w w':Vw}{c:Cell}{a:Addr}(x:Ext w w')(h:Nl w c a)(k:c.mut=true→w'.H a=w.H a):Nl w' c a:=by
 cases c with
 | lst ds=>obtain⟨vs,q,r⟩:=h;exact⟨vs,(k rfl).trans q,r.ext x⟩
 | frz ds=>obtain⟨vs,q,r⟩:=h;exact⟨vs,q.stay x,r.ext x⟩
 | dct ds=>obtain⟨vs,q,r⟩:=h;exact⟨vs,(k rfl).trans q,r.ext x⟩
 | fdc ds=>obtain⟨o,vs,q,r⟩:=h;exact⟨o,vs,(k rfl).trans q,r.ext x⟩
theorem RS.alloc{w:Vw}{M:Z2}{a:Addr}{o:HO}(R:RS w M)(h:w.H a=none):RS (w.alloc a o) M:=
 ⟨R.len,R.inj,fun i c e=>by
  have q:=R.cell i c e
  refine q.stay (T4 h) fun hm=>?_
  obtain⟨u,hu⟩:=q.some hm
  exact Zw (fun z=>by have z:w.μ i=a:=z;rw[z,h] at hu;cases hu)⟩
theorem RS.push{w:Vw}{M:Z2}{a:Addr}{o:HO}{c:Cell}(R:RS w M)(h:w.H a=none)(new:Nl (w.push a o) c a):RS (w.push a o) (M++[c]):=by
 have old:∀(i:Nat) (ci:Cell),(M++[c])[i]?=some ci→(i=w.n∧ci=c)∨(i<w.n∧M[i]?=some ci):=fun i ci e=>by
  by_cases hi:i<M.length
  ·rw[Dj hi] at e
   exact .inr ⟨by rw[R.len];exact hi,e⟩
  ·rw[Ih (by omega)] at e
   have hz:i - M.length=0:=by
    have:=(Af.mp e).1
    simp at this
    omega
   rw[hz] at e
   simp at e
   exact .inl ⟨by rw[R.len];omega,e.symm⟩
 have no:∀(i:Nat) (ci:Cell),M[i]?=some ci→ci.mut=true→w.μ i≠a:=fun i ci e hm z=>by
  obtain⟨u,hu⟩:=(R.cell i ci e).some hm
  rw[z,h] at hu;cases hu
 refine⟨by show w.n+1=_;rw[R.len];simp,fun i j ci cj ei ej mi mj e=>?_,fun i c' e=>?_⟩
 ·change (if i=w.n then a else w.μ i)=(if j=w.n then a else w.μ j) at e
  rcases old i ci ei with⟨h1,_⟩ | ⟨h1,h1'⟩
  ·rcases old j cj ej with⟨h2,_⟩ | ⟨h2,h2'⟩
   ·omega
   ·rw[if_pos h1,if_neg (by omega)] at e
    exact absurd e.symm (no j cj h2' mj)
  ·rcases old j cj ej with⟨h2,_⟩ | ⟨h2,h2'⟩
   ·rw[if_neg (by omega),if_pos h2] at e
    exact absurd e (no i ci h1' mi)
   ·rw[if_neg (by omega),if_neg (by omega)] at e
    exact R.inj i j ci cj h1' h2' mi mj e
 ·show Nl _ c' (if i=w.n then a else w.μ i)
  rcases old i c' e with⟨h1,rfl⟩ | ⟨h1,h1'⟩
  ·rw[if_pos h1];exact new
  ·rw[if_neg (by omega)]
   have q:=R.cell i c' h1'
   exact q.stay (Sd h) fun hm=>Zw (no i c' h1' hm)
theorem Vy{w:Vw}{a:Addr}{u o:HO}(h:w.H a=some u)(hu:Imm u=false):Ext w (w.alloc a o):=
 ⟨rfl,Nat.le_refl _,fun _ _=>rfl,fun b v q z=>by
  show upd w.H a o b=some v
  rw[Zw (by rintro rfl;rw[h] at q;cases q;rw[hu] at z;cases z)];exact q⟩
theorem RS.write{w:Vw}{M:Z2}{i:Nat}{u o:HO}{c0 c:Cell}(R:RS w M)(h0:M[i]?=some c0)(hm:c0.mut=true)(hc:c.mut=true)(h:w.H (w.μ i)=some u)(hu:Imm u=false)(new:Nl (w.alloc (w.μ i) o) c (w.μ i)):RS (w.alloc (w.μ i) o) (M.set i c):=by
 have hi:i<M.length:=(Af.mp h0).1
 have old:∀(j:Nat) (cj:Cell),(M.set i c)[j]?=some cj→cj.mut=true→∃cj',M[j]?=some cj'∧cj'.mut=true:=fun j cj e mj=>by
  by_cases h1:j=i
  ·subst h1;exact⟨c0,h0,hm⟩
  ·rw[Ht (Dm h1)] at e
   exact⟨cj,e,mj⟩
 refine⟨by show w.n=_;rw[R.len];simp,fun a b ca cb ea eb ma mb e=>?_,fun j c' e=>?_⟩
 ·obtain⟨ca',ea',ma'⟩:=old a ca ea ma
  obtain⟨cb',eb',mb'⟩:=old b cb eb mb
  exact R.inj a b ca' cb' ea' eb' ma' mb' e
 ·by_cases h1:j=i
  ·subst h1
   rw[Ii hi] at e
   cases e
   exact new
  ·rw[Ht (Dm h1)] at e
   have q:=R.cell j c' e
   exact q.stay (Vy h hu) fun mj=>Zw (fun z=>h1 (R.inj j i c' c0 e h0 mj hm z))
inductive Op where
 | add | sub | mul | fdiv | mod | pow
 deriving DecidableEq
inductive Cm where
 | lt | le | gt | eq | ne | is | isin | notin
 deriving DecidableEq
inductive Bf where
 | len | isinst | min2 | max2 | list1 | dict1 | str1 | int1
 deriving DecidableEq
inductive Mt where
 | append | popi | insi | split | join | starts | ends
 deriving DecidableEq
inductive Ty where
 | int | str | bool | list | tuple | dict | valueError
 deriving DecidableEq
noncomputable def Xw:Ty→String
 | .int=>"int" | .str=>"str" | .bool=>"bool" | .list=>"list" | .tuple=>"tuple" | .dict=>"dict" | .valueError=>"ValueError"
set_option genInjectivity false in
mutual
inductive E where
 | var (i:Nat) | int (i:Int) | bl (b:Bool) | non | str (x:Str) | ty (x:Ty) | glb (k:Nat)
 | bin (op:Op) (a b:E) | neg (a:E) | not (a:E) | cmp (op:Cm) (a b:E) | bop (isAnd:Bool) (es:Es)
 | lst (es:Es) | tup (es:Es) | dct (a b:E) | ix (a b:E) | sl (a:E) (lo hi:Eo)
 | call (f:Nat) (es:Es) | bf (b:Bf) (es:Es) | mt (m:Mt) (o:E) (es:Es)
 | comp (N':List Str) (js:List (Option Nat)) (tg:List Nat) (it:It) (cd:Eo) (e:E)
 | lrev (a:E) | anyf (a:E) | allf (a:E) | fstr (es:Es) | dctS (ps:List (Str×Str)) | setf (b:Bool) (a:E) | slW (a:E) (lo hi:Eo)
inductive Es where
 | nil | cons (e:E) (r:Es)
inductive Eo where
 | no | yes (e:E)
inductive It where
 | seq (e:E) | rng1 (a:E) | rng2 (a b:E) | enm (e:E) | zip (es:Es)
end
set_option genInjectivity false in
mutual
inductive S where
 | never | ret (e:E) | expr (e:E)
 | set (tg:List Nat) (e:E) | setL (tg:List Nat) (e:E)
 | put (o i v:E)
 | ite (c:E) (a b:Ss) | for_ (tg:List Nat) (it:It) (b:Ss) | while_ (c:E) (b:Ss)
inductive Ss where
 | nil | cons (s:S) (r:Ss)
end
noncomputable def Zd(M:Z2)(n:Nat):Option (List D):=match M[n]? with
 | some (.lst xs)=>some xs
 | some (.frz xs)=>some xs
 | _=>none
noncomputable def Zo(M:Z2)(n:Nat):Option (List D):=match M[n]? with
 | some (.lst xs)=>some xs
 | _=>none
noncomputable def Vm(M:Z2)(n:Nat):Option (List (Key×D)):=match M[n]? with
 | some (.dct xs)=>some xs
 | _=>none
noncomputable def Zz1(M:Z2)(n:Nat):Option (List (Key×D)):=match M[n]? with
 | some (.dct xs)=>some xs
 | some (.fdc xs)=>some xs
 | _=>none
noncomputable def valD(kvs:List (Key×D))(k:Key):Option D:=(kvs.find? fun kv=>decide (kv.1=k)).map (·.2)
noncomputable def putD(kvs:List (Key×D))(k:Key)(v:D):List (Key×D):=
 if (kvs.any fun kv=>decide (kv.1=k))=true then kvs.map (fun kv=>if kv.1=k then(kv.1,v) else kv) else kvs++[(k,v)]
noncomputable def keyD:D→Option Key
 | .int i=>some (.inl i)
 | .str x=>some (.inr x)
 | _=>none
noncomputable def kD:Key→D
 | .inl i=> .int i
 | .inr x=> .str x
noncomputable def Np(ps:List (Key×D)):List D:=ps.map fun p=> .tup [kD p.1,p.2]
noncomputable def N5(ps:List (Key×D)):List (Key×D):=ps.foldl (fun m p=>putD m p.1 p.2) []
noncomputable def qdiv(i j:Int):Int:=if 0<j then i / j else i.fdiv j
noncomputable def qmod(i j:Int):Int:=if 0<j then i % j else i.fmod j
theorem Zv6(i j:Int):i.fdiv j=qdiv i j:=by
 unfold qdiv
 split
 ·exact Int.fdiv_eq_ediv_of_nonneg _ (by omega)
 ·rfl
theorem Zq5(i j:Int):i.fmod j=qmod i j:=by
 unfold qmod
 split
 ·exact Int.fmod_eq_emod_of_nonneg _ (by omega)
 ·rfl
theorem Zh2{i j:Int}(h:0<j):qdiv i j=i / j:=if_pos h
theorem Zf1{i j:Int}(h:0<j):qmod i j=i % j:=if_pos h
def Z05(x:D)(F:Int→Prop):Prop:=match x with
 | .int i=>F i
 | _=>False
def Qb(x:D)(F:Nat→Prop):Prop:=match x with
 | .ref n=>F n
 | _=>False
def Zh0(x:D)(F:Str→Prop):Prop:=match x with
 | .str i=>F i
 | _=>False
def onSR(x:D)(F:Str→Prop)(G:Nat→Prop):Prop:=match x with
 | .str i=>F i
 | .ref n=>G n
 | _=>False
theorem Pd{x:D}{F:Str→Prop}(h:Zh0 x F):∃i,x= .str i∧F i:=by
 cases x with
 | str i=>exact⟨i,rfl,h⟩
 | _=>exact Di h
theorem Cj{x:D}{F:Str→Prop}{G:Nat→Prop}(h:onSR x F G):(∃i,x= .str i∧F i)∨∃n,x= .ref n∧G n:=by
 cases x with
 | str i=>exact .inl ⟨i,rfl,h⟩
 | ref n=>exact .inr ⟨n,rfl,h⟩
 | _=>exact Di h
noncomputable def Nn(x:Str):List D:=x.cps.toList.map fun c=> .str ⟨#[c]⟩
def onIS(x:D)(F:Int→Prop)(G:Str→Prop):Prop:=match x with
 | .int i=>F i
 | .str i=>G i
 | _=>False
theorem Ej{x:D}{F:Int→Prop}{G:Str→Prop}(h:onIS x F G):(∃i,x= .int i∧F i)∨∃i,x= .str i∧G i:=by
 cases x with
 | int i=>exact .inl ⟨i,rfl,h⟩
 | str i=>exact .inr ⟨i,rfl,h⟩
 | _=>exact Di h
def onBS(x:D)(F:Bool→Prop)(G:Str→Prop):Prop:=match x with
 | .bl i=>F i
 | .str i=>G i
 | _=>False
theorem Zm4{x:D}{F:Bool→Prop}{G:Str→Prop}(h:onBS x F G):(∃i,x= .bl i∧F i)∨∃i,x= .str i∧G i:=by
 cases x with
 | bl i=>exact .inl ⟨i,rfl,h⟩
 | str i=>exact .inr ⟨i,rfl,h⟩
 | _=>exact Di h
def Zg1(x:D)(F:List D→Prop):Prop:=match x with
 | .tup l=>F l
 | _=>False
def Pj(x y:D)(F:Int→Int→Prop):Prop:=Z05 x fun i=>Z05 y fun j=>F i j
def at0(l:List D)(P:Prop):Prop:=match l with
 | []=>P
 | _::_=>False
def at1(l:List D)(F:D→Prop):Prop:=match l with
 | []=>False
 | a::r=>at0 r (F a)
def at2(l:List D)(F:D→D→Prop):Prop:=match l with
 | []=>False
 | a::r=>at1 r (F a)
theorem Vu{x:D}{F:Int→Prop}(h:Z05 x F):∃i,x= .int i∧F i:=by
 cases x with
 | int i=>exact⟨i,rfl,h⟩
 | _=>exact Di h
theorem X8{x:D}{F:Nat→Prop}(h:Qb x F):∃n,x= .ref n∧F n:=by
 cases x with
 | ref n=>exact⟨n,rfl,h⟩
 | _=>exact Di h
theorem Qj{x:D}{F:List D→Prop}(h:Zg1 x F):∃l,x= .tup l∧F l:=by
 cases x with
 | tup l=>exact⟨l,rfl,h⟩
 | _=>exact Di h
theorem Xk{x y:D}{F:Int→Int→Prop}(h:Pj x y F):∃i j,x= .int i∧y= .int j∧F i j:=by
 obtain⟨i,rfl,h1⟩:=Vu h
 obtain⟨j,rfl,h2⟩:=Vu h1
 exact⟨i,j,rfl,rfl,h2⟩
theorem Zw0{l:List D}{P:Prop}(h:at0 l P):l=[]∧P:=by
 cases l with
 | nil=>exact⟨rfl,h⟩
 | cons _ _=>exact Di h
theorem W3{l:List D}{F:D→Prop}(h:at1 l F):∃a,l=[a]∧F a:=by
 cases l with
 | nil=>exact Di h
 | cons a r=>obtain⟨rfl,h1⟩:=Zw0 h;exact⟨a,rfl,h1⟩
theorem Qv{l:List D}{F:D→D→Prop}(h:at2 l F):∃a b,l=[a,b]∧F a b:=by
 cases l with
 | nil=>exact Di h
 | cons a r=>obtain⟨b,rfl,h1⟩:=W3 h;exact⟨a,b,rfl,h1⟩
def addD(x y:D)(M:Z2)(Q:DK):Prop:=match x with
 | .int i=>Z05 y fun j=>Q (.int (i+j)) M
 | .str a=>match y with
  | .str b=>a.length+b.length≤sizeLine∧Q (.str (a++b)) M
  | _=>False
 | .tup a=>Zg1 y fun b=>a≠[]∧a.length+b.length≤sizeLine∧Q (.tup (a++b)) M
 | .ref a=>Qb y fun b=>∃xs ys,Zo M a=some xs∧Zo M b=some ys∧xs.length+ys.length≤sizeLine∧Q (.ref M.length) (M++[.lst (xs++ys)])
 | _=>False
def mulD(x y:D)(M:Z2)(Q:DK):Prop:=match x with
 | .int i=>Z05 y fun j=>IntMulOk i j∧Q (.int (i * j)) M
 | .ref a=>Z05 y fun k=>∃xs,Zo M a=some xs∧0≤k∧k<2 ^ 62∧xs.length * k.toNat≤sizeLine∧Q (.ref M.length) (M++[.lst (Dp k.toNat xs).flatten])
 | _=>False
def opD(op:Op)(x y:D)(M:Z2)(Q:DK):Prop:=match op with
 | .add=>addD x y M Q
 | .mul=>mulD x y M Q
 | .sub=>Pj x y fun i j=>Q (.int (i - j)) M
 | .fdiv=>Pj x y fun i j=>Z72 i j∧Q (.int (qdiv i j)) M
 | .mod=>Pj x y fun i j=>j≠0∧Q (.int (qmod i j)) M
 | .pow=>Pj x y fun i j=>CPow i j∧Q (.int (i ^ j.toNat)) M
mutual
def PD(M:Z2):PyData→D→Prop
 | .none,d=>d= .non
 | .bool b,d=>d= .bl b
 | .int i,d=>d= .int i
 | .str x,d=>d= .str x
 | .list xs,d=>∃n ds,d= .ref n∧Zd M n=some ds∧PDs M xs ds
 | .tuple xs,d=>∃ds,d= .tup ds∧PDs M xs ds
 | .dict _,_=>False
def PDs(M:Z2):List PyData→List D→Prop
 | [],ds=>ds=[]
 | x::xs,ds=>∃d r,ds=d::r∧PD M x d∧PDs M xs r
end
noncomputable def Xc:D→Bool
 | .non | .bl _ | .int _ | .str _=>true
 | _=>false
noncomputable def eqF:D→D→Bool
 | .non,.non=>true
 | .bl a,.bl b=>a==b
 | .bl a,.int b=>(if a then 1 else 0)==b
 | .int a,.bl b=>a==(if b then 1 else 0)
 | .int a,.int b=>a==b
 | .str a,.str b=>a==b
 | _,_=>false
noncomputable def eqFs(xs ys:List D):Bool:=(Ij (min xs.length ys.length)).all (fun j=>eqF (xs.getD j .non) (ys.getD j .non))&&xs.length==ys.length
noncomputable def inD(x:D)(xs:List D):Bool:=xs.any fun y=>eqF y x
noncomputable def eqKV(a b:List (Key×D)):Bool:=a.length==b.length&&a.all fun kv=>match valD b kv.1 with
 | some y=>eqF kv.2 y
 | none=>false
noncomputable def eqS(x y:D):Option Bool:=match x with
 | .int i=>match y with
  | .int j=>some (decide (i=j))
  | .str _=>some false
  | .non=>some false
  | _=>none
 | .str i=>match y with
  | .str j=>some (decide (i=j))
  | .int _=>some false
  | .non=>some false
  | .bl _=>some false
  | _=>none
 | .bl i=>match y with
  | .bl j=>some (decide (i=j))
  | .non=>some false
  | .str _=>some false
  | _=>none
 | .non=>match y with
  | .non=>some true
  | .int _=>some false
  | .bl _=>some false
  | .str _=>some false
  | _=>none
 | _=>none
def eqD(M:Z2)(x y:D)(Q:Bool→Prop):Prop:=match eqS x y with
 | some b=>Q b
 | none=>(∃da db,PD M da x∧PD M db y∧da.canLay0=true∧db.canLay0=true∧min da.depth db.depth≤60∧Q (PyData.eqv da db))∨
   (∃m n a b,x= .ref m∧y= .ref n∧Vm M m=some a∧Vm M n=some b∧(a.all fun kv=>Xc kv.2)=true∧(b.all fun kv=>Xc kv.2)=true∧Q (eqKV a b))∨(∃m n xs,x= .ref m∧y= .ref n∧Zd M m=some xs∧Zd M n=some []∧Q xs.isEmpty)∨(∃xs ys,(x= .tup xs∨x= .gtup xs)∧(y= .tup ys∨y= .gtup ys)∧xs.all Xc=true∧ys.all Xc=true∧Q (eqFs xs ys))
noncomputable def Ze4(M:Z2):D→Option (List D)
 | .ref n=>Zd M n
 | .tup xs=>some xs
 | .gtup xs=>some xs
 | _=>none
def inQ(M:Z2):D→D→(Bool→Prop)→Prop
 | .str a,.str b,Q=>Q (!(Lp b a 0 b.length 1).isEmpty)
 | x,.ref n,Q=>(∃xs,Zd M n=some xs∧Xc x=true∧xs.all Xc=true∧Q (inD x xs))∨(∃kvs k,Vm M n=some kvs∧keyD x=some k∧Q (valD kvs k).isSome)∨(∃(ys:List D) (xs:List (List D)),x= .tup ys∧Zd M n=some (xs.map .tup)∧ys.all Xc=true∧(xs.all fun zs=>zs.all Xc)=true∧Q (xs.any fun zs=>eqFs zs ys))
 | x,.tup xs,Q=>Xc x=true∧xs.all Xc=true∧Q (inD x xs)
 | x,.gtup xs,Q=>Xc x=true∧xs.all Xc=true∧Q (inD x xs)
 | _,_,_=>False
def nonD(x y:D)(Q:Bool→Prop):Prop:=match y with
 | .non=>match x with
  | .non=>Q true
  | .bl _=>Q false
  | .int _=>Q false
  | .str _=>Q false
  | .tup _=>Q false
  | .ref _=>Q false
  | .exn _ _ _ _=>Q false
  | _=>False
 | _=>False
def cmD(M:Z2)(op:Cm)(x y:D)(Q:Bool→Prop):Prop:=match op with
 | .lt=>Pj x y fun i j=>Q (decide (i<j))
 | .le=>Pj x y fun i j=>Q (decide (i≤j))
 | .gt=>Pj x y fun i j=>Q (decide (j<i))
 | .eq=>eqD M x y Q
 | .ne=>eqD M x y fun b=>Q (!b)
 | .is=>nonD x y Q
 | .isin=>inQ M x y Q
 | .notin=>inQ M x y fun b=>Q (!b)
def truD(M:Z2):D→(Bool→Prop)→Prop
 | .non,Q=>Q false
 | .bl b,Q=>Q b
 | .int i,Q=>Q (i !=0)
 | .str x,Q=>x.length≤sizeLine∧Q ((x.length:Int) !=0)
 | .tup xs,Q=>Q (!xs.isEmpty)
 | .ref n,Q=>(∃xs,Zd M n=some xs∧Q (!xs.isEmpty))∨(∃xs,Vm M n=some xs∧Q (!xs.isEmpty))
 | _,_=>False
def ixD(M:Z2):D→D→(D→Prop)→Prop
 | .ref n,k,Q=>(∃xs i d,k= .int i∧Zd M n=some xs∧atI xs i=some d∧Q d)∨(∃kvs y d,Zz1 M n=some kvs∧keyD k=some y∧valD kvs y=some d∧Q d)
 | .tup xs,.int i,Q=>∃d,atI xs i=some d∧Q d
 | .gtup xs,.int i,Q=>∃d,atI xs i=some d∧Q d
 | .str z,.int i,Q=>z.length≤sizeLine∧∃c,atI z.cps.toList i=some c∧Q (.str ⟨#[c]⟩)
 | _,_,_=>False
noncomputable def cutD{α:Type}(xs:List α)(lo hi:Option Int):List α:=(xs.drop (HT.sIx xs.length 0 lo)).take (HT.sIx xs.length xs.length hi - HT.sIx xs.length 0 lo)
def slD:D→Option Int→Option Int→Z2→DK→Prop
 | .str z,lo,hi,M,Q=>z.length≤sizeLine∧Q (.str (Hy z lo hi)) M
 | .ref n,lo,hi,M,Q=>∃xs,Zd M n=some xs∧Q (.ref M.length) (M++[.lst (cutD xs lo hi)])
 | .tup xs,lo,hi,M,Q=>¬(HT.sIx xs.length 0 lo=0∧HT.sIx xs.length xs.length hi=xs.length)∧Q (.tup (cutD xs lo hi)) M
 | _,_,_,_,_=>False
noncomputable def tyD(M:Z2):D→Option String
 | .non=>some "NoneType"
 | .bl _=>some "bool"
 | .int _=>some "int"
 | .str _=>some "str"
 | .tup _=>some "tuple"
 | .ref n=>match M[n]? with
  | some (.lst _)=>some "list"
  | some (.frz _)=>none
  | some (.dct _)=>some "dict"
  | some (.fdc _)=>none
  | none=>none
 | _=>none
def isD(K:Ae)(M:Z2):D→D→(Bool→Prop)→Prop
 | .exn _ C _ _,.cls c,Q=>∃b,ExcIs K C∧Kh K (.ref C) (.ref c)=some b∧Q b
 | .exn _ C _ _,.ty c,Q=>∃b,ExcIs K C∧Kh K (.ref C) (.type c)=some b∧Q b
 | .exn _ C _ _,.tup cs,Q=>∃(as:List Addr) (b:Bool),cs=as.map D.cls∧ExcIs K C∧PySem.W.kitAny K (.ref C) (as.map An)=some b∧Q b
 | d,.ty c,Q=>∃t b,tyD M d=some t∧Kh K (.type t) (.type c)=some b∧Q b
 | _,_,_=>False
def lenD(x:D)(M:Z2)(Q:DK):Prop:=match x with
 | .ref n=>(∃xs,Zd M n=some xs∧Q (.int xs.length) M)∨(∃xs,Vm M n=some xs∧Q (.int xs.length) M)
 | .tup xs=>Q (.int xs.length) M
 | .str x=>x.length≤sizeLine∧Q (.int x.length) M
 | _=>False
def bfD(K:Ae)(b:Bf)(l:List D)(M:Z2)(Q:DK):Prop:=match b with
 | .len=>at1 l fun x=>lenD x M Q
 | .isinst=>at2 l fun d c=>isD K M d c fun b=>Q (.bl b) M
 | .min2=>at2 l fun x y=>Pj x y fun i j=>Q (.int (if j<i then j else i)) M
 | .max2=>at2 l fun x y=>Pj x y fun i j=>Q (.int (if j >i then j else i)) M
 | .list1=>at1 l fun d=>∃xs,Ze4 M d=some xs∧Q (.ref M.length) (M++[.lst xs])
 | .dict1=>at1 l fun x=>Qb x fun n=>(∃xs,Vm M n=some xs∧Q (.ref M.length) (M++[.dct xs]))∨(∃ps:List (Key×D),Zd M n=some (Np ps)∧ps.length<sizeLine∧Q (.ref M.length) (M++[.dct (N5 ps)]))
 | .str1=>at1 l fun x=>onIS x (fun i=>i.natAbs.log2<1920∧Q (.str (toString i)) M) fun y=>Q (.str y) M
 | .int1=>at1 l fun x=>onBS x (fun b=>Q (.int (if b then 1 else 0)) M) fun y=>∃n,intText? y=some n∧y.length≤640∧Q (.int n) M
def setD(b:Bool)(n:Nat)(M:Z2)(Q:DK):Prop:=match b with
 | true=>∃ns:List Int,Zd M n=some (ns.map .int)∧ns.length<64∧∀ms:List Int,ms.Pairwise (· < ·)→(∀i,i∈ms↔i∈ns)→Q (.ref M.length) (M++[.lst (ms.map .int)])
 | false=>∃ks:List Key,Zd M n=some (ks.map kD)∧ks.length+1<scanBound∧∀ks':List Key,ks'.Nodup→(∀k,k∈ks'↔k∈ks)→Q (.int ks'.length) M
def mtS(m:Mt)(x:Str)(l:List D)(M:Z2)(Q:DK):Prop:=match m with
 | .split=>at1 l fun y=>Zh0 y fun y=>(y.length==0)=false∧x.length+2≤sizeLine∧Q (.ref M.length) (M++[.lst ((Ko x y).map .str)])
 | .join=>at1 l fun y=>Qb y fun n=>∃ys:List Str,Zd M n=some (ys.map .str)∧JoinOk x ys=true∧Q (.str (Du x ys)) M
 | .starts=>at1 l fun y=>Zh0 y fun y=>Q (.bl (Txt.startswith x y)) M
 | .ends=>at1 l fun y=>Zh0 y fun y=>Q (.bl (Txt.endswith x y)) M
 | _=>False
def mtD(m:Mt)(o:D)(l:List D)(M:Z2)(Q:DK):Prop:=onSR o (fun x=>mtS m x l M Q) fun n=>match m with
 | .split=>False
 | .join=>False
 | .starts=>False
 | .ends=>False
 | .popi=>at1 l fun k=>∃xs d,∃j:Nat,k= .int j∧Zo M n=some xs∧xs[j]?=some d∧Q d (M.set n (.lst (xs.eraseIdx j)))
 | .insi=>at2 l fun k d=>∃xs,∃j:Nat,k= .int j∧Zo M n=some xs∧j≤xs.length∧xs.length<sizeLine∧Q .non (M.set n (.lst (xs.take j++d::xs.drop j)))
 | .append=>at1 l fun d=>∃xs,Zo M n=some xs∧xs.length<sizeLine∧Q .non (M.set n (.lst (xs++[d])))
noncomputable def isTx(m:Mt):Bool:=match m with
 | .split | .join | .starts | .ends=>true
 | _=>false
def mtK(m:Mt)(o:D)(M:Z2):Prop:=onSR o (fun _=>isTx m=true) fun n=>match m with
 | .split=>False
 | .join=>False
 | .starts=>False
 | .ends=>False
 | _=>(Zd M n).isSome=true
def tgD:List Nat→D→DEnv→(DEnv→Prop)→Prop
 | [i],d,σ,Q=>Q (σ.set i (some d))
 | is,.tup ds,σ,Q=>ds.length=is.length∧Q ((is.zip ds).foldl (fun σ p=>σ.set p.1 (some p.2)) σ)
 | _,_,_,_=>False
inductive Own where
 | no | lst (n:Nat) | enm (n:Nat) | dct (n:Nat) | two (n m:Nat)
noncomputable def Ya2(kvs:List (Key×D)):List D:=kvs.map fun p=>kD p.1
noncomputable def Ec(xs:List D):List D:=xs.mapIdx fun i d=> .tup [.int i,d]
noncomputable def zipT(ys zs:List D):List D:=(ys.zip zs).map fun p=>D.tup [p.1,p.2]
def zip2(M:Z2)(a b:D)(Q:Own→List D→Prop):Prop:=match a with
 | .ref n=>Qb b fun m=>∃ys zs,Zd M n=some ys∧Zd M m=some zs∧Q (.two n m) (zipT ys zs)
 | .tup ys=>Zg1 b fun zs=>Q .no (zipT ys zs)
 | _=>False
def itD(M:Z2):D→(Own→List D→Prop)→Prop
 | .ref n,R=>∃xs,Zd M n=some xs∧R (.lst n) xs
 | .tup xs,R=>R .no xs
 | .gtup xs,R=>R .no xs
 | .str x,R=>R .no (Nn x)
 | _,_=>False
noncomputable def S3(lo:Int)(n:Nat):List D:=(Ij n).map fun(k:Nat)=>D.int (lo+(k:Int))
def Ph(own:Own)(xs:List D)(M:Z2):Prop:=match own with
 | .lst n=>Zd M n=some xs
 | .enm n=>∃ys,Zd M n=some ys∧xs=Ec ys
 | .dct n=>∃kvs,M[n]?=some (.fdc kvs)∧xs=Ya2 kvs
 | .two n m=>∃ys zs,Zd M n=some ys∧Zd M m=some zs∧xs=zipT ys zs
 | .no=>True
def forD(own:Own)(xs:List D)(tg:List Nat)(body:DS):List D→DEnds→DEnv→Z2→Prop
 | [],R,σ,M=>Ph own xs M∧R.nx σ M
 | d::r,R,σ,M=>Ph own xs M∧tgD tg d σ fun σ'=>body {nx:=fun σ2 M2=>forD own xs tg body r R σ2 M2,rt:=R.rt,bk:=R.nx,ct:=fun σ2 M2=>forD own xs tg body r R σ2 M2} σ' M
def Js(own:Own)(xs:List D)(tg:List Nat)(cd:DT)(el:DE)(z:Nat):List D→DEnv→Z2→(Z2→Prop)→Prop
 | [],_,M,Q=>Ph own xs M∧Q M
 | d::r,σ,M,Q=>Ph own xs M∧tgD tg d σ fun σ'=>cd σ' M fun b M1=>if b=true then
   el σ' M1 fun y M2=>∃acc,Zo M2 z=some acc∧acc.length<sizeLine∧Js own xs tg cd el z r σ' (M2.set z (.lst (acc++[y]))) Q
   else Js own xs tg cd el z r σ' M1 Q
noncomputable def capD(js:List (Option Nat))(σ:DEnv):DEnv:=js.map fun o=>o.bind fun j=>(σ[j]?).join
abbrev noX:DX:=fun _ _ _=>False
structure Cfg where
 K:Ae
 Γ:List DSp
 G:List D
mutual
def te(c:Cfg)(X:DX):E→DE
 | .var i,σ,M,Q=>match σ[i]? with
  | some (some d)=>Q d M
  | _=>False
 | .int i,_,M,Q=>Q (.int i) M
 | .bl b,_,M,Q=>Q (.bl b) M
 | .non,_,M,Q=>Q .non M
 | .str x,_,M,Q=>Q (.str x) M
 | .ty n,_,M,Q=>Q (.ty (Xw n)) M
 | .glb k,_,M,Q=>match c.G[k]? with
  | some d=>Q d M
  | none=>False
 | .bin op a b,σ,M,Q=>te c X a σ M fun x M1=>te c X b σ M1 fun y M2=>opD op x y M2 Q
 | .neg a,σ,M,Q=>te c X a σ M fun x M1=>match x with
  | .int i=>Q (.int (-i)) M1
  | _=>False
 | .not a,σ,M,Q=>te c X a σ M fun x M1=>truD M1 x fun b=>Q (.bl (!b)) M1
 | .cmp op a b,σ,M,Q=>te c X a σ M fun x M1=>te c X b σ M1 fun y M2=>cmD M2 op x y fun r=>Q (.bl r) M2
 | .bop k es,σ,M,Q=>tbop c X k es σ M Q
 | .lst es,σ,M,Q=>tes c X es σ M fun ds M1=>ds.length≤sizeLine∧Q (.ref M1.length) (M1++[.lst ds])
 | .tup es,σ,M,Q=>tes c X es σ M fun ds M1=>ds.length≤sizeLine∧Q (.tup ds) M1
 | .dct a b,σ,M,Q=>te c X a σ (M++[.dct []]) fun x M1=>te c X b σ M1 fun y M2=>∃k,keyD x=some k∧Vm M2 M.length=some []∧Q (.ref M.length) (M2.set M.length (.dct [(k,y)]))
 | .ix a b,σ,M,Q=>te c X a σ M fun x M1=>te c X b σ M1 fun y M2=>ixD M2 x y fun d=>Q d M2
 | .sl a lo hi,σ,M,Q=>te c X a σ M fun x M1=>teo c X lo σ M1 fun l M2=>teo c X hi σ M2 fun h M3=>slD x l h M3 Q
 | .call f es,σ,M,Q=>tes c X es σ M fun ds M1=>match c.Γ[f]? with
  | some sp=>sp ds M1 Q X
  | none=>False
 | .bf b es,σ,M,Q=>tes c X es σ M fun ds M1=>bfD c.K b ds M1 Q
 | .slW a lo hi,σ,M,Q=>te c X a σ M fun x M1=>teo c X lo σ M1 fun l M2=>teo c X hi σ M2 fun h M3=>Zg1 x fun xs=>Q (.tup (cutD xs l h)) M3
 | .setf b a,σ,M,Q=>te c X a σ M fun x M1=>Qb x fun n=>setD b n M1 Q
 | .lrev a,σ,M,Q=>te c X a σ M fun x M1=>Qb x fun n=>∃xs,Zd M1 n=some xs∧Q (.ref M1.length) (M1++[.lst xs.reverse])
 | .fstr es,σ,M,Q=>tfs c X es Str.empty σ M fun x M1=>Q (.str x) M1
 | .allf a,σ,M,Q=>te c X a σ M fun x M1=>Qb x fun n=>∃bs:List Bool,Zd M1 n=some (bs.map .bl)∧Q (.bl (bs.all id)) M1
 | .anyf a,σ,M,Q=>te c X a σ M fun x M1=>Qb x fun n=>∃bs:List Bool,Zd M1 n=some (bs.map .bl)∧Q (.bl (bs.any id)) M1
 | .dctS ps,_,M,Q=>Q (.ref M.length) (M++[.dct (N5 (ps.map fun q=>(.inr q.1,.str q.2)))])
 | .mt m o es,σ,M,Q=>te c X o σ M fun x M1=>mtK m x M1∧tes c X es σ M1 fun ds M2=>mtD m x ds M2 Q
 | .comp _ js tg it cd e,σ,M,Q=>tit c X it σ M fun own xs M1=>Js own xs tg (tcd c noX cd) (te c noX e) M1.length xs (capD js σ) (M1++[.lst []]) fun M2=>Q (.ref M1.length) M2
def tbop(c:Cfg)(X:DX)(k:Bool):Es→DE
 | .nil,_,_,_=>False
 | .cons e .nil,σ,M,Q=>te c X e σ M Q
 | .cons e (.cons e2 r),σ,M,Q=>te c X e σ M fun x M1=>truD M1 x fun b=>if b=k then tbop c X k (.cons e2 r) σ M1 Q else Q x M1
def tfs(c:Cfg)(X:DX):Es→Str→DEnv→Z2→(Str→Z2→Prop)→Prop
 | .nil,o,_,M,Q=>o.length≤sizeLine∧Q o M
 | .cons e r,o,σ,M,Q=>te c X e σ M fun d M1=>onIS d (fun i=>i.natAbs.log2<1920∧(o++(toString i:String):Str).length≤sizeLine∧tfs c X r (o++(toString i:String)) σ M1 Q) fun y=>y.length≤sizeLine∧(o++y).length≤sizeLine∧tfs c X r (o++y) σ M1 Q
def tes(c:Cfg)(X:DX):Es→DA
 | .nil,_,M,Q=>Q [] M
 | .cons e r,σ,M,Q=>te c X e σ M fun d M1=>tes c X r σ M1 fun ds M2=>Q (d::ds) M2
def teo(c:Cfg)(X:DX):Eo→DEnv→Z2→(Option Int→Z2→Prop)→Prop
 | .no,_,M,Q=>Q none M
 | .yes e,σ,M,Q=>te c X e σ M fun d M1=>match d with
  | .int i=>Q (some i) M1
  | _=>False
def tcd(c:Cfg)(X:DX):Eo→DT
 | .no,_,M,Q=>Q true M
 | .yes e,σ,M,Q=>te c X e σ M fun x M1=>truD M1 x fun b=>Q b M1
def tit(c:Cfg)(X:DX):It→DEnv→Z2→(Own→List D→Z2→Prop)→Prop
 | .seq e,σ,M,Q=>te c X e σ M fun d M1=>itD M1 d fun own xs=>Q own xs M1
 | .rng1 a,σ,M,Q=>te c X a σ M fun d M1=>match d with
  | .int j=> -(2 ^ 62)≤j∧j<2 ^ 62∧Q .no (S3 0 j.toNat) M1
  | _=>False
 | .rng2 a b,σ,M,Q=>te c X a σ M fun d M1=>te c X b σ M1 fun d2 M2=>match d,d2 with
  | .int i,.int j=>(-(2 ^ 62)≤i∧i<2 ^ 62∧ -(2 ^ 62)≤j∧j<2 ^ 62)∧Q .no (S3 i (j - i).toNat) M2
  | _,_=>False
 | .enm e,σ,M,Q=>te c X e σ M fun d M1=>match d with
  | .ref n=>∃xs,Zd M1 n=some xs∧Q (.enm n) (Ec xs) M1
  | _=>False
 | .zip es,σ,M,Q=>tes c X es σ M fun ds M1=>at2 ds fun a b=>zip2 M1 a b fun o xs=>Q o xs M1
end
def tt(c:Cfg)(X:DX)(e:E):DT:=fun σ M Q=>te c X e σ M fun x M1=>truD M1 x fun b=>Q b M1
mutual
def ts(c:Cfg)(X:DX):S→DS
 | .never,_,_,_=>False
 | .ret e,R,σ,M=>te c X e σ M R.rt
 | .expr e,R,σ,M=>te c X e σ M fun _ M1=>R.nx σ M1
 | .setL tg e,R,σ,M=>te c X e σ M fun d M1=>Qb d fun n=>∃ds,Zd M1 n=some ds∧ds.length=tg.length∧R.nx ((tg.zip ds).foldl (fun σ p=>σ.set p.1 (some p.2)) σ) M1
 | .set tg e,R,σ,M=>te c X e σ M fun d M1=>tgD tg d σ fun σ'=>R.nx σ' M1
 | .put o i v,R,σ,M=>te c X v σ M fun d M1=>te c X o σ M1 fun x M2=>te c X i σ M2 fun y M3=>match x with
  | .ref n=>(∃xs k j,y= .int k∧Zo M3 n=some xs∧ixN xs.length k=some j∧R.nx σ (M3.set n (.lst (xs.set j d))))∨
    (∃kvs k,Vm M3 n=some kvs∧keyD y=some k∧kvs.length<sizeLine∧R.nx σ (M3.set n (.dct (putD kvs k d))))
  | _=>False
 | .ite t a b,R,σ,M=>tt c X t σ M fun r M1=>if r=true then tss c X a R σ M1 else tss c X b R σ M1
 | .for_ tg it b,R,σ,M=>tit c X it σ M fun own xs M1=>forD own xs tg (tss c X b) xs R σ M1
 | .while_ t b,R,σ,M=>∃W:Nat→DEnv→Z2→Prop,(∃m,W m σ M)∧∀m σ M,W m σ M→tt c X t σ M fun r M1=>if r=true then
   tss c X b {nx:=fun σ2 M2=>∃m',m'<m∧W m' σ2 M2,rt:=R.rt,bk:=R.nx,ct:=fun σ2 M2=>∃m',m'<m∧W m' σ2 M2} σ M1 else R.nx σ M1
def tss(c:Cfg)(X:DX):Ss→DS
 | .nil,R,σ,M=>R.nx σ M
 | .cons s r,R,σ,M=>ts c X s {R with nx:=fun σ' M'=>tss c X r R σ' M'} σ M
end
def REnv(w:Vw)(σD:DEnv)(σ:L2.St):Prop:=σD.length=σ.length∧∀(i:Nat) d,σD[i]?=some (some d)→∃v,σ[i]?=some (some v)∧RD w d v
theorem REnv.ext{w w':Vw}{σD:DEnv}{σ:L2.St}(h:REnv w σD σ)(x:Ext w w'):REnv w' σD σ:=
 ⟨h.1,fun i d e=>by obtain⟨v,q,r⟩:=h.2 i d e;exact⟨v,q,r.ext x⟩⟩
theorem REnv.set{w:Vw}{σD:DEnv}{σ:L2.St}{d:D}{v:V}(h:REnv w σD σ)(i:Nat)(r:RD w d v):REnv w (σD.set i (some d)) (σ.set i (some v)):=by
 refine⟨by simp[h.1],fun j d' e=>?_⟩
 by_cases hj:i=j
 ·subst hj
  by_cases hl:i<σD.length
  ·rw[Ii hl] at e
   cases e
   exact⟨v,by rw[Ii (by rw[←h.1];exact hl)],r⟩
  ·rw[Dr (by simp;omega)] at e
   cases e
 ·rw[Ht hj] at e
  rw[Ht hj]
  exact h.2 j d' e
structure StOk(w0 w:Vw)(σD:DEnv)(M:Z2)(σ:L2.St)(H:Hp):Prop where
 heap:w.H=H
 ext:Ext w0 w
 rs:RS w M
 env:REnv w σD σ
theorem StOk.next{w0 w w':Vw}{σD:DEnv}{M M':Z2}{σ:L2.St}{H:Hp}(s:StOk w0 w σD M σ H)(x:Ext w w')(r:RS w' M'):StOk w0 w' σD M' σ w'.H:=
 ⟨rfl,s.ext.trans x,r,s.env.ext x⟩
def Aft(w:Vw)(QD:DK)(Q:VK):Prop:=∀v w' d M',Ext w w'→RS w' M'→RD w' d v→QD d M'→Q v w'.H
def tF(w0:Vw)(f:DE):TE:=fun σ H Q=>∃w σD M QD,StOk w0 w σD M σ H∧f σD M QD∧Aft w QD Q
def tFA(w0:Vw)(f:DA):TA:=fun σ H Q=>∃w σD M QD,StOk w0 w σD M σ H∧f σD M QD∧∀vs w' ds M',Ext w w'→RS w' M'→RDs w' ds vs→QD ds M'→Q vs w'.H
def tFT(w0:Vw)(f:DT):TT:=fun σ H Q=>∃w σD M QD,StOk w0 w σD M σ H∧f σD M QD∧∀b w' M',Ext w w'→RS w' M'→QD b M'→Q b w'.H
def tFO(w0:Vw)(f:DEnv→Z2→(Option Int→Z2→Prop)→Prop):TO:=fun σ H Q=>∃w σD M QD,StOk w0 w σD M σ H∧f σD M QD∧∀b w' M',Ext w w'→RS w' M'→QD b M'→Q b w'.H
def tFS(w0:Vw)(f:DS):TS:=fun R σ H=>∃w σD M RD',StOk w0 w σD M σ H∧f RD' σD M∧
 (∀σ' w' σD' M',Ext w w'→RS w' M'→REnv w' σD' σ'→RD'.nx σD' M'→R.nx σ' w'.H)∧Aft w RD'.rt R.rt∧
 (∀σ' w' σD' M',Ext w w'→RS w' M'→REnv w' σD' σ'→RD'.bk σD' M'→R.bk σ' w'.H)∧
 (∀σ' w' σD' M',Ext w w'→RS w' M'→REnv w' σD' σ'→RD'.ct σD' M'→R.ct σ' w'.H)
def xkOf(w:Vw)(Z:DX):XK:=fun cls dd H'=>∃C dx r w' row M',cls= .ref C∧dd=some dx∧w'.H=H'∧Ext w w'∧RS w' M'∧H' dx=some (.xd [("row",r)])∧RD w' row r∧Z C row M'
def spF(K:Ae)(sp:DSp):Sp:=fun vs H Q E=>∃w ds M QD Z,w.K=K∧w.H=H∧RS w M∧RDs w ds vs∧sp ds M QD Z∧Aft w QD Q∧∀cls dd H',xkOf w Z cls dd H'→E cls dd H'
theorem Aft.ext{w w':Vw}{QD:DK}{Q:VK}(h:Aft w QD Q)(x:Ext w w'):Aft w' QD Q:=fun v w2 d M y r q p=>h v w2 d M (x.trans y) r q p
section
variable{X:Cx}{e:Expr}{w0:Vw}
theorem PE.imp{t t':TE}(h:PE X e t)(k:∀σ H Q,t' σ H Q→t σ H Q):PE X e t':=fun pins s σ H Q I q=>h pins s σ H Q I (k σ H Q q)
theorem PT.imp{t t':TT}(h:PT X e t)(k:∀σ H Q,t' σ H Q→t σ H Q):PT X e t':=fun pins s σ H Q I q=>h pins s σ H Q I (k σ H Q q)
theorem PA.imp{es:List Expr}{t t':TA}(h:PA X es t)(k:∀σ H Q,t' σ H Q→t σ H Q):PA X es t':=fun pos pins s σ H Q I q=>h pos pins s σ H Q I (k σ H Q q)
theorem PS.imp{st:Stmt}{t t':TS}(h:PS X st t)(k:∀R σ H,t' R σ H→t R σ H):PS X st t':=fun pins s σ H R I q=>h pins s σ H R I (k R σ H q)
theorem PSs.imp{st:List Stmt}{t t':TS}(h:PSs X st t)(k:∀R σ H,t' R σ H→t R σ H):PSs X st t':=fun pins s σ H R I q=>h pins s σ H R I (k R σ H q)
end
def rF(w0:Vw)(g:D→D→Z2→DK→Prop):R2:=fun x y H Q=>∃w M dx dy QD,w.H=H∧Ext w0 w∧RS w M∧RD w dx x∧RD w dy y∧g dx dy M QD∧Aft w QD Q
theorem Zc{w:Vw}{i:Int}{v:V}:RD w (.int i) v↔v= .int i:=by unfold RD;exact Mi
theorem Zb{w:Vw}{i:Str}{v:V}:RD w (.str i) v↔v= .str i:=by unfold RD;exact Mi
theorem Xq{w:Vw}{i:Bool}{v:V}:RD w (.bl i) v↔v= .bl i:=by unfold RD;exact Mi
theorem Yz{w:Vw}{v:V}:RD w .non v↔v= .non:=by unfold RD;exact Mi
theorem Zs7{w:Vw}{n:String}{v:V}:RD w (.ty n) v↔v= .ty n:=by unfold RD;exact Mi
theorem Zp2{w:Vw}{n:Addr}{v:V}:RD w (.cls n) v↔v= .ref n:=by unfold RD;exact Mi
theorem Zt{w:Vw}{i:Nat}{v:V}:RD w (.ref i) v↔i<w.n∧v= .ref (w.μ i):=by unfold RD;exact Mi
theorem X5{w:Vw}{ds:List D}{v:V}:RD w (.tup ds) v↔∃a vs,v= .ref a∧w.H a=some (.tup vs)∧RDs w ds vs:=by unfold RD;exact Mi
theorem T2{w:Vw}{ds:List D}{v:V}:RD w (.gtup ds) v↔∃a vs,v= .ref a∧SqT w.K w.H a vs∧RDs w ds vs:=by unfold RD;exact Mi
theorem C1{w:Vw}{e C dx:Addr}{row:D}{v:V}:RD w (.exn e C dx row) v↔v= .ref e∧w.H e=some (XO e (.ref C) (some dx))∧∃r,w.H dx=some (.xd [("row",r)])∧RD w row r:=Iff.of_eq (by rw[RD])
theorem RDs.empty{w:Vw}{ds:List D}(h:RDs w ds []):ds=[]:=by
 have:=h.length
 exact Iu.mp this.symm
theorem Zu5{M:Z2}{n:Nat}{xs:List D}(h:Zo M n=some xs):Zd M n=some xs:=by
 unfold Zo at h
 unfold Zd
 split at h
 ·rename_i e;rw[e];exact h
 ·cases h
theorem J0{M:Z2}{n:Nat}{xs:List D}(h:Zo M n=some xs):M[n]?=some (.lst xs):=by
 unfold Zo at h
 split at h
 ·rename_i e;rw[e];cases h;rfl
 ·cases h
theorem C0{M:Z2}{n:Nat}{xs:List (Key×D)}(h:Vm M n=some xs):M[n]?=some (.dct xs):=by
 unfold Vm at h
 split at h
 ·rename_i e;rw[e];cases h;rfl
 ·cases h
theorem RS.list{w:Vw}{M:Z2}{n:Nat}{xs:List D}(R:RS w M)(h:Zo M n=some xs):M[n]?=some (.lst xs)∧∃vs,w.H (w.μ n)=some (.lst vs)∧RDs w xs vs:=
 ⟨J0 h,R.cell n _ (J0 h)⟩
theorem RS.listL{w:Vw}{M:Z2}{n:Nat}{xs:List D}(R:RS w M)(h:Zd M n=some xs):n<w.n∧∃vs,SqL w.K w.H (w.μ n) vs∧RDs w xs vs∧True:=by
 unfold Zd at h
 split at h
 ·rename_i ys e
  cases h
  obtain⟨vs,q,r⟩:=R.cell n _ e
  exact⟨by rw[R.len];exact(Af.mp e).1,vs,.inl (.inl q),r,trivial⟩
 ·rename_i ys e
  cases h
  obtain⟨vs,q,r⟩:=R.cell n _ e
  exact⟨by rw[R.len];exact(Af.mp e).1,vs,q.sq,r,trivial⟩
 ·cases h
theorem RS.dictF{w:Vw}{M:Z2}{n:Nat}{xs:List (Key×D)}(R:RS w M)(h:Zz1 M n=some xs):∃vs,Rd w.H (w.μ n) (.dK vs)∧RKV w xs vs:=by
 unfold Zz1 at h
 split at h
 ·rename_i ys e
  cases h
  obtain⟨vs,q1,q2⟩:=R.cell n _ e
  exact⟨vs,.inl q1,q2⟩
 ·rename_i ys e
  cases h
  obtain⟨o,vs,q1,q2⟩:=R.cell n _ e
  exact⟨vs,.inr ⟨o,q1⟩,q2⟩
 ·cases h
theorem RS.dict{w:Vw}{M:Z2}{n:Nat}{xs:List (Key×D)}(R:RS w M)(h:Vm M n=some xs):M[n]?=some (.dct xs)∧∃vs,w.H (w.μ n)=some (.dK vs)∧RKV w xs vs:=
 ⟨C0 h,R.cell n _ (C0 h)⟩
theorem W5{w:Vw}{M:Z2}{p:Addr}{xs:List D}{vs:List V}(R:RS w M)(hp:w.H p=none)(r:RDs w xs vs):Ext w (w.push p (.lst vs))∧RS (w.push p (.lst vs)) (M++[.lst xs])∧RD (w.push p (.lst vs)) (.ref M.length) (.ref p):=by
 refine⟨Sd hp,R.push hp ⟨vs,Yy,r.ext (Sd hp)⟩,Zt.mpr ⟨?_,?_⟩⟩
 ·show M.length<w.n+1
  rw[R.len];omega
 ·show V.ref p=V.ref (if M.length=w.n then p else w.μ M.length)
  rw[if_pos R.len.symm]
theorem Rz{w:Vw}{M:Z2}{p:Addr}{xs:List (Key×D)}{vs:List (Key×V)}(R:RS w M)(hp:w.H p=none)(r:RKV w xs vs):Ext w (w.push p (.dK vs))∧RS (w.push p (.dK vs)) (M++[.dct xs])∧RD (w.push p (.dK vs)) (.ref M.length) (.ref p):=by
 refine⟨Sd hp,R.push hp ⟨vs,Yy,r.ext (Sd hp)⟩,Zt.mpr ⟨?_,?_⟩⟩
 ·show M.length<w.n+1
  rw[R.len];omega
 ·show V.ref p=V.ref (if M.length=w.n then p else w.μ M.length)
  rw[if_pos R.len.symm]
theorem Tw{w:Vw}{M:Z2}{p:Addr}{xs:List D}{vs:List V}(R:RS w M)(hp:w.H p=none)(r:RDs w xs vs):Ext w (w.alloc p (.tup vs))∧RS (w.alloc p (.tup vs)) M∧RD (w.alloc p (.tup vs)) (.tup xs) (.ref p):=
 ⟨T4 hp,R.alloc hp,X5.mpr ⟨p,vs,rfl,Yy,r.ext (T4 hp)⟩⟩
theorem V2{w:Vw}{M:Z2}{n:Nat}{us vs:List V}{ys xs:List D}(R:RS w M)(hn:M[n]?=some (.lst ys))(h:w.H (w.μ n)=some (.lst us))(r:RDs w xs vs):Ext w (w.alloc (w.μ n) (.lst vs))∧RS (w.alloc (w.μ n) (.lst vs)) (M.set n (.lst xs)):=
 ⟨Vy h rfl,R.write hn rfl rfl h rfl ⟨vs,Yy,r.ext (Vy h rfl)⟩⟩
theorem O3{w:Vw}{M:Z2}{n:Nat}{us vs:List (Key×V)}{ys xs:List (Key×D)}(R:RS w M)(hn:M[n]?=some (.dct ys))(h:w.H (w.μ n)=some (.dK us))(r:RKV w xs vs):Ext w (w.alloc (w.μ n) (.dK vs))∧RS (w.alloc (w.μ n) (.dK vs)) (M.set n (.dct xs)):=
 ⟨Vy h rfl,R.write hn rfl rfl h rfl ⟨vs,Yy,r.ext (Vy h rfl)⟩⟩
section
variable{X:Cx}{w0:Vw}
theorem Sz{f:Value→Value→Sem Value}{g:Int→Int→V}{o:D→D→Z2→DK→Prop}{C:Int→Int→Prop}{k:Int→Int→D}(h:OpR X f (rI C g))(hk:∀w i j,RD w (k i j) (g i j))
  {pins:List (Addr×Obj)} {s:Shared} {σ:L2.St} {x y:V} {v u:Value} {Q:VK} {w:Vw} {M:Z2} {QD:DK} {i j:Int} (I:Inv X pins σ w.H s) (rx:RelV x v) (ry:RelV y u) (R:RS w M) (hx:RD w (.int i) x) (hy:RD w (.int j) y)
  (hc:C i j) (q:QD (k i j) M) (a:Aft w QD Q):wpAny (model X.prog X.w) X.A (f v u) (EP X pins σ Q) X.xe s:=by
 cases Zc.mp hx
 cases Zc.mp hy
 exact h pins s σ w.H _ _ v u Q I rx ry ⟨i,j,rfl,rfl,hc,a _ w _ M (Ext.refl w) R (hk w i j) q⟩
noncomputable def opOf:Op→Operator
 | .add=> .Add | .sub=> .Sub | .mul=> .Mult | .fdiv=> .FloorDiv | .mod=> .Mod | .pow=> .Pow
theorem Y53{f:Value→Value→Sem Value}{g:Int→Int→V}(h:OpR X f (rI0 g)):OpR X f (rI (fun _ _=>True) g):=fun pins s σ H x y v u Q I rx ry zz66=>by obtain⟨i,j,e1,e2,_,q⟩:=zz66;exact h pins s σ H x y v u Q I rx ry ⟨i,j,e1,e2,q⟩
theorem RDs.rep{w:Vw}{xs:List D}{vs:List V}(h:RDs w xs vs):∀n:Nat,RDs w (Dp n xs).flatten (Dp n vs).flatten
 | 0=>RDs.nil w
 | n+1=>by
  rw[Ix,Ix,Kx,Kx]
  exact h.append (RDs.rep h n)
theorem Zf6(op:Op):OpR X (binaryOp (opOf op)) (rF w0 (opD op)):=by
 intro pins s σ H x y v u Q I rx ry h
 obtain⟨w,M,dx,dy,QD,rfl,e0,R,hx,hy,g,a⟩:=h
 have ri:∀w (i:Int),RD w (.int i) (.int i):=fun w i=>Zc.mpr rfl
 cases op with
 | add=>
  cases dx with
  | int i=>
   obtain⟨j,rfl,g2⟩:=Vu g;clear g;have g:=g2
   exact Sz (o:=opD .add) (C:=fun _ _=>True) (k:=fun i j=> .int (i+j)) (Y53 Y70) (fun w i j=>ri w _) I rx ry R hx hy trivial g a
  | str z=>
   cases dy with
   | str z2=>
    cases Zb.mp hx;cases Zb.mp hy
    exact Z33 pins s σ w.H _ _ v u Q I rx ry ⟨_,_,rfl,rfl,g.1,a _ w _ M (Ext.refl w) R (Zb.mpr rfl) g.2⟩
   | _=>exact Di g
  | tup l=>
   obtain⟨l2,rfl,g2⟩:=Qj g;clear g;have g:=g2
   obtain⟨a1,vs1,rfl,h1,r1⟩:=X5.mp hx
   obtain⟨a2,vs2,rfl,h2,r2⟩:=X5.mp hy
   obtain⟨g1,g2,g3⟩:=g
   refine Zy8 pins s σ w.H _ _ v u Q I rx ry ⟨a1,a2,vs1,vs2,rfl,rfl,.of h1,.of h2,?_,by rw[r1.length,r2.length];exact g2,fun z=>?_,fun _ p hp=>?_⟩
   ·intro z;subst z;have:=r1.length;simp at this;exact g1 (Iu.mp this.symm)
   ·subst z
    cases r2.empty
    rw[Mb] at g3
    exact a _ w _ M (Ext.refl w) R hx g3
   ·obtain⟨x1,x2,x3⟩:=Tw R hp (r1.append r2)
    exact a _ _ _ M x1 x2 x3 g3
  | ref n=>
   obtain⟨n2,rfl,g2⟩:=X8 g;clear g;have g:=g2
   obtain⟨h1,rfl⟩:=Zt.mp hx
   obtain⟨h2,rfl⟩:=Zt.mp hy
   obtain⟨xs,ys,g1,g2,g3,g4⟩:=g
   obtain⟨_,vs1,q1,r1⟩:=R.list g1
   obtain⟨_,vs2,q2,r2⟩:=R.list g2
   refine Y83 pins s σ w.H _ _ v u Q I rx ry ⟨_,_,vs1,vs2,rfl,rfl,q1,q2,by rw[r1.length,r2.length];exact g3,fun p hp=>?_⟩
   obtain⟨x1,x2,x3⟩:=W5 R hp (r1.append r2)
   exact a _ _ _ _ x1 x2 x3 g4
  | _=>exact Di g
 | mul=>
  cases dx with
  | int i=>
   obtain⟨j,rfl,g2⟩:=Vu g;clear g;have g:=g2
   exact Sz (o:=opD .add) (C:=IntMulOk) (k:=fun i j=> .int (i * j)) Zr9 (fun w i j=>ri w _) I rx ry R hx hy g.1 g.2 a
  | ref n=>
   obtain⟨k,rfl,g2⟩:=Vu g;clear g;have g:=g2
   obtain⟨h1,rfl⟩:=Zt.mp hx
   cases Zc.mp hy
   obtain⟨xs,g1,g2,g3,g4,g5⟩:=g
   obtain⟨_,vs1,q1,r1⟩:=R.list g1
   refine Y89 pins s σ w.H _ _ v u Q I rx ry ⟨_,_,vs1,rfl,rfl,q1,by omega,by omega,by rw[r1.length];exact g4,fun p hp=>?_⟩
   obtain⟨x1,x2,x3⟩:=W5 R hp (r1.rep _)
   exact a _ _ _ _ x1 x2 x3 g5
  | _=>exact Di g
 | sub=>
  obtain⟨i,j,rfl,rfl,g2⟩:=Xk g;clear g;have g:=g2
  exact Sz (o:=opD .add) (C:=fun _ _=>True) (k:=fun i j=> .int (i - j)) (Y53 Y00) (fun w i j=>ri w _) I rx ry R hx hy trivial g a
 | fdiv=>
  obtain⟨i,j,rfl,rfl,g2⟩:=Xk g;clear g;have g:=g2
  exact Sz (o:=opD .add) (C:=Z72) (k:=fun i j=> .int (qdiv i j)) Zl1 (fun w i j=>by rw[Zv6];exact ri w _) I rx ry R hx hy g.1 g.2 a
 | mod=>
  obtain⟨i,j,rfl,rfl,g2⟩:=Xk g;clear g;have g:=g2
  exact Sz (o:=opD .add) (C:=fun _ j=>j≠0) (k:=fun i j=> .int (qmod i j)) Zs8 (fun w i j=>by rw[Zq5];exact ri w _) I rx ry R hx hy g.1 g.2 a
 | pow=>
  obtain⟨i,j,rfl,rfl,g2⟩:=Xk g;clear g;have g:=g2
  exact Sz (o:=opD .add) (C:=CPow) (k:=fun i j=> .int (i ^ j.toNat)) Y03 (fun w i j=>ri w _) I rx ry R hx hy g.1 g.2 a
end
def rB(w0:Vw)(g:Z2→D→D→(Bool→Prop)→Prop):R2:=fun x y H Q=>∃w M dx dy QD,w.H=H∧w.K=w0.K∧RS w M∧RD w dx x∧RD w dy y∧g M dx dy QD∧∀b,QD b→Q (.bl b) H
mutual
theorem Zb5{w:Vw}{M:Z2}(R:RS w M):∀(da:PyData) {d:D} {v:V},PD M da d→RD w d v→Rep w.K w.H da v
 | .none,d,v,h,r=>by unfold PD at h;subst h;unfold Rep;exact Yz.mp r
 | .bool b,d,v,h,r=>by unfold PD at h;subst h;unfold Rep;exact Xq.mp r
 | .int b,d,v,h,r=>by unfold PD at h;subst h;unfold Rep;exact Zc.mp r
 | .str b,d,v,h,r=>by unfold PD at h;subst h;unfold Rep;exact Zb.mp r
 | .list xs,d,v,h,r=>by
  unfold PD at h
  obtain⟨n,ds,rfl,h1,h2⟩:=h
  obtain⟨_,rfl⟩:=Zt.mp r
  obtain⟨_,vs,q1,q2,_⟩:=R.listL h1
  unfold Rep
  exact⟨_,vs,rfl,q1,Pf R xs h2 q2⟩
 | .tuple xs,d,v,h,r=>by
  unfold PD at h
  obtain⟨ds,rfl,h2⟩:=h
  obtain⟨a,vs,rfl,q1,q2⟩:=X5.mp r
  unfold Rep
  exact⟨_,vs,rfl,.of q1,Pf R xs h2 q2⟩
 | .dict _,d,v,h,r=>by unfold PD at h;exact h.elim
theorem Pf{w:Vw}{M:Z2}(R:RS w M):∀(xs:List PyData) {ds:List D} {vs:List V},PDs M xs ds→RDs w ds vs→Wz w.K w.H xs vs
 | [],ds,vs,h,r=>by unfold PDs at h;subst h;unfold RDs at r;unfold Wz;exact r
 | x::xs,ds,vs,h,r=>by
  unfold PDs at h
  obtain⟨d,r',rfl,h1,h2⟩:=h
  unfold RDs at r
  obtain⟨v,r2,rfl,q1,q2⟩:=r
  unfold Wz
  exact⟨v,r2,rfl,Zb5 R x h1 q1,Pf R xs h2 q2⟩
end
theorem Tc{w:Vw}{d:D}{v:V}(f:Xc d=true)(r:RD w d v):Wu v=true:=by
 cases d<;>simp[Xc] at f
 ·cases Yz.mp r;rfl
 ·cases Xq.mp r;rfl
 ·cases Zc.mp r;rfl
 ·cases Zb.mp r;rfl
theorem E7{w:Vw}{d e:D}{v u:V}(f:Xc d=true)(g:Xc e=true)(r:RD w d v)(q:RD w e u):eqV v u=eqF d e:=by
 cases d<;>simp[Xc] at f
 all_goals (cases e<;>simp[Xc] at g)
 all_goals first
  |(first | cases Yz.mp r | cases Xq.mp r | cases Zc.mp r | cases Zb.mp r)
 all_goals first
  |(first | cases Yz.mp q | cases Xq.mp q | cases Zc.mp q | cases Zb.mp q)
 all_goals rfl
theorem Zo3{w:Vw}{x:D}{v:V}(f:Xc x=true)(r:RD w x v):∀{ds:List D} {vs:List V},ds.all Xc=true→RDs w ds vs→inV v vs=inD x ds∧vs.all Wu=true
 | [],vs,_,h=>by unfold RDs at h;subst h;exact⟨rfl,rfl⟩
 | d::ds,vs,g,h=>by
  unfold RDs at h
  obtain⟨v1,r1,rfl,h1,h2⟩:=h
  simp only[Hz,Bool.and_eq_true] at g
  obtain⟨i1,i2⟩:=Zo3 f r g.2 h2
  refine⟨?_,by simp only[Hz,Bool.and_eq_true];exact⟨Tc g.1 h1,i2⟩⟩
  unfold inV inD at *
  rw[Ke,Ke,E7 g.1 f h1 r,i1]
theorem RKV.val{w:Vw}:∀{ds:List (Key×D)} {vs:List (Key×V)} (k:Key),RKV w ds vs→(valD ds k=none∧valV vs k=none)∨∃d v,valD ds k=some d∧valV vs k=some v∧RD w d v
 | [],vs,k,h=>by unfold RKV at h;subst h;exact .inl ⟨rfl,rfl⟩
 |(k',d)::ds,vs,k,h=>by
  unfold RKV at h
  obtain⟨v,r,rfl,h1,h2⟩:=h
  by_cases e:k'=k
  ·exact .inr ⟨d,v,by simp[valD,Ic,e],by simp[valV,Ic,e],h1⟩
  ·have:=RKV.val k h2
   simpa[valD,valV,Ic,e] using this
theorem RKV.length{w:Vw}:∀{ds:List (Key×D)} {vs:List (Key×V)},RKV w ds vs→vs.length=ds.length
 | [],vs,h=>by unfold RKV at h;subst h;rfl
 |(k',d)::ds,vs,h=>by
  unfold RKV at h
  obtain⟨v,r,rfl,h1,h2⟩:=h
  simp[RKV.length h2]
theorem RKV.any{w:Vw}(k:Key):∀{ds:List (Key×D)} {vs:List (Key×V)},RKV w ds vs→(vs.any fun kv=>decide (kv.1=k))=(ds.any fun kv=>decide (kv.1=k))
 | [],vs,h=>by unfold RKV at h;subst h;rfl
 |(k',d)::ds,vs,h=>by
  unfold RKV at h
  obtain⟨v,r,rfl,h1,h2⟩:=h
  simp[RKV.any k h2]
theorem RKV.repl{w:Vw}{k:Key}{d:D}{v:V}(q:RD w d v):∀{ds:List (Key×D)} {vs:List (Key×V)},RKV w ds vs→RKV w (ds.map fun kv=>if kv.1=k then(kv.1,d) else kv) (vs.map fun kv=>if kv.1=k then(kv.1,v) else kv)
 | [],vs,h=>by unfold RKV at h;subst h;unfold RKV;rfl
 |(k',d')::ds,vs,h=>by
  unfold RKV at h
  obtain⟨v',r,rfl,h1,h2⟩:=h
  simp only[Ch]
  by_cases e:k'=k
  ·rw[if_pos e,if_pos e]
   unfold RKV
   exact⟨v,_,rfl,q,RKV.repl q h2⟩
  ·rw[if_neg e,if_neg e]
   unfold RKV
   exact⟨v',_,rfl,h1,RKV.repl q h2⟩
theorem RKV.snoc{w:Vw}{k:Key}{d:D}{v:V}(q:RD w d v):∀{ds:List (Key×D)} {vs:List (Key×V)},RKV w ds vs→RKV w (ds++[(k,d)]) (vs++[(k,v)])
 | [],vs,h=>by unfold RKV at h;subst h;unfold RKV;exact⟨v,[],rfl,q,by unfold RKV;rfl⟩
 |(k',d')::ds,vs,h=>by
  unfold RKV at h
  obtain⟨v',r,rfl,h1,h2⟩:=h
  show RKV w ((k',d')::(ds++[(k,d)])) _
  unfold RKV
  exact⟨v',_,rfl,h1,RKV.snoc q h2⟩
theorem RKV.put{w:Vw}{k:Key}{d:D}{v:V}(q:RD w d v){ds:List (Key×D)}{vs:List (Key×V)}(h:RKV w ds vs):RKV w (putD ds k d) (putK vs k v):=by
 unfold putD putK
 rw[h.any k]
 split
 ·exact h.repl q
 ·exact h.snoc q
theorem Oq{w:Vw}{d:D}{k:Key}{v:V}(h:keyD d=some k)(r:RD w d v):v=kV k:=by
 cases d<;>simp[keyD] at h
 ·subst h;exact Zc.mp r
 ·subst h;exact Zb.mp r
section
variable{X:Cx}{w0:Vw}
noncomputable def cmOf:Cm→CmpOp
 | .lt=> .Lt | .le=> .LtE | .gt=> .Gt | .eq=> .Eq | .ne=> .NotEq | .is=> .Is | .isin=> .In | .notin=> .NotIn
theorem Y39(hu:X.A.units+64<cLine):OpR X (compareOp .NotEq) (rEqD X.K true):=by
 intro pins s σ H x y v u Q I rx ry h
 obtain⟨da,db,h1,h2,h3,h4,h5,q⟩:=h
 obtain⟨as,q1⟩:=Rep.reads I da x v h1 rx
 obtain⟨bs,q2⟩:=Rep.reads I db y u h2 ry
 exact PySem.SeqAt.compareNe_reads q1 q2 h3 h4 (by omega) ⟨.bl _,H,I,rfl,q⟩
theorem Gh{w:Vw}{pins:List (Addr×Obj)}{σ:L2.St}{s:Shared}{A:Around}{b:List (Key×D)}{vb:List (Key×V)}{ub:List (Key×Value)}(rb:RKV w b vb)(kb:KV vb ub)(fb:(b.all fun kv=>Xc kv.2)=true):
  ∀{a:List (Key×D)} {va:List (Key×V)} {ua:List (Key×Value)},(a.all fun kv=>Xc kv.2)=true→RKV w a va→KV va ua→PySem.W.KeqHits A s ub ua (a.all fun kv=>match valD b kv.1 with
   | some y=>eqF kv.2 y
   | none=>false)
 | [],va,ua,_,h,k=>by
  unfold RKV at h;subst h
  cases k
  exact .nil
 |(k0,d)::a,va,ua,f,h,k=>by
  unfold RKV at h
  obtain⟨v,r,rfl,h1,h2⟩:=h
  simp only[Hz,Bool.and_eq_true] at f
  cases k with
  | @cons _ q _ ur hk kr=>
   obtain⟨k1,u⟩:=q
   obtain⟨e1,e2⟩:=hk
   dsimp only at e1 e2
   subst e1
   have ih:=Gh (A:=A) (s:=s) (pins:=pins) (σ:=σ) rb kb fb f.2 h2 kr
   rw[Hz]
   rcases rb.val k0 with⟨n1,n2⟩ | ⟨y,vy,n1,n2,n3⟩
   ·have hz:=kb.val k0
    rw[n2] at hz
    have hz':valueAt ub k0=none:=RelO.none_of hz
    simp only[n1,Bool.false_and]
    exact .miss hz'
   ·have hz:=kb.val k0
    rw[n2] at hz
    obtain⟨uy,ey,ry⟩:=hz.some_of
    have fy:Xc y=true:=by
     have hm:(k0,y)∈b:=by
      unfold valD at n1
      obtain⟨p,hp,e⟩:=Hw.mp n1
      have:=List.find?_some hp
      have hk:p.1=k0:=of_decide_eq_true this
      have:=List.mem_of_find?_eq_some hp
      rw[←e,←hk];exact this
     exact(Dk.mp fb) _ hm
    simp only[n1]
    refine .hit ey ?_ ih
    rw[←E7 f.1 fy h1 n3]
    exact Cb e2 ry (Tc f.1 h1) (Tc fy n3)
theorem Vr{w:Vw}:∀{ds:List D} {vs:List V},ds.all Xc=true→RDs w ds vs→vs.all Wu=true
 | [],vs,_,r=>by unfold RDs at r;subst r;rfl
 | d::ds,vs,f,r=>by
  unfold RDs at r
  obtain⟨v,vr,rfl,h1,h2⟩:=r
  rw[Hz,Bool.and_eq_true] at f
  rw[Hz,Tc f.1 h1,Vr f.2 h2]
  rfl
theorem B4{w:Vw}{xs ys:List D}{vs us:List V}(f:xs.all Xc=true)(g:ys.all Xc=true)(r:RDs w xs vs)(q:RDs w ys us):eqVs vs us=eqFs xs ys:=by
 unfold eqVs eqFs
 rw[r.length,q.length]
 congr 1
 have:∀j∈Ij (min xs.length ys.length),eqV (vs.getD j .non) (us.getD j .non)=eqF (xs.getD j .non) (ys.getD j .non):=by
  intro j hj
  rw[Ia] at hj
  have j1:j<xs.length:=by omega
  have j2:j<ys.length:=by omega
  obtain⟨v,e1,r1⟩:=r.get (Ag j1)
  obtain⟨u,e2,r2⟩:=q.get (Ag j2)
  rw[Dk] at f g
  simp only[Dz,e1,e2,Ag j1,Ag j2,Option.getD_some]
  exact E7 (f _ (Go j1)) (g _ (Go j2)) r1 r2
 rw[Bool.eq_iff_iff,Dk,Dk]
 constructor
 ·intro h j hj;rw[←this j hj];exact h j hj
 ·intro h j hj;rw[this j hj];exact h j hj
theorem Ct(hK:X.K=w0.K)(hu:X.A.units+64<cLine)(neg:Bool):OpR X (compareOp (if neg then .NotEq else .Eq)) (rB w0 fun M x y Q=>eqD M x y fun b=>Q (if neg then !b else b)):=by
 intro pins s σ H x y v u Q I rx ry h
 obtain⟨w,M,dx,dy,QD,rfl,e0,R,hx,hy,g,a⟩:=h
 have key:∀b:Bool,(scal x y=true∧decide (x=y)=b)→QD (if neg then !b else b)→wpAny (model X.prog X.w) X.A (compareOp (if neg then .NotEq else .Eq) v u) (EP X pins σ Q) X.xe s:=by
  rintro b ⟨h1,h2⟩ hq
  cases neg with
  | true=>exact Yb9 pins s σ w.H x y v u Q I rx ry ⟨h1,by rw[h2];exact a _ hq⟩
  | false=>exact Y97 pins s σ w.H x y v u Q I rx ry ⟨h1,by rw[h2];exact a _ hq⟩
 have hs:∀b,eqS dx dy=some b→scal x y=true∧decide (x=y)=b:=by
  intro b h
  cases dx with
  | int i=>
   cases Zc.mp hx
   cases dy with
   | int j=>cases Zc.mp hy;cases h;exact⟨rfl,by simp⟩
   | str j=>cases Zb.mp hy;cases h;exact⟨rfl,by simp⟩
   | non=>cases Yz.mp hy;cases h;exact⟨rfl,by simp⟩
   | _=>cases h
  | str i=>
   cases Zb.mp hx
   cases dy with
   | str j=>cases Zb.mp hy;cases h;exact⟨rfl,by simp⟩
   | int j=>cases Zc.mp hy;cases h;exact⟨rfl,by simp⟩
   | non=>cases Yz.mp hy;cases h;exact⟨rfl,by simp⟩
   | bl j=>cases Xq.mp hy;cases h;exact⟨rfl,by simp⟩
   | _=>cases h
  | bl i=>
   cases Xq.mp hx
   cases dy with
   | bl j=>cases Xq.mp hy;cases h;exact⟨rfl,by simp⟩
   | non=>cases Yz.mp hy;cases h;exact⟨rfl,by simp⟩
   | str j=>cases Zb.mp hy;cases h;exact⟨rfl,by simp⟩
   | _=>cases h
  | non=>
   cases Yz.mp hx
   cases dy with
   | non=>cases Yz.mp hy;cases h;exact⟨rfl,by simp⟩
   | int j=>cases Zc.mp hy;cases h;exact⟨rfl,by simp⟩
   | bl j=>cases Xq.mp hy;cases h;exact⟨rfl,by simp⟩
   | str j=>cases Zb.mp hy;cases h;exact⟨rfl,by simp⟩
   | _=>cases h
  | _=>cases h
 unfold eqD at g
 cases hb:eqS dx dy with
 | some b=>
  rw[hb] at g
  exact key b (hs b hb) g
 | none=>
  rw[hb] at g
  rcases g with⟨da,db,p1,p2,p3,p4,p5,g⟩ | ⟨m,n,ka,kb,rfl,rfl,p1,p2,f1,f2,g⟩ | ⟨m,n,xs,rfl,rfl,p1,p2,g⟩ | ⟨xs,ys,ex,ey,f1,f2,g⟩
  ·have q1:=Zb5 R da p1 hx
   have q2:=Zb5 R db p2 hy
   rw[e0,←hK] at q1 q2
   cases neg with
   | true=>exact Y39 hu pins s σ w.H x y v u Q I rx ry ⟨da,db,q1,q2,p3,p4,p5,a _ g⟩
   | false=>exact Y37 hu pins s σ w.H x y v u Q I rx ry ⟨da,db,q1,q2,p3,p4,p5,a _ g⟩
  ·obtain⟨_,rfl⟩:=Zt.mp hx
   obtain⟨_,rfl⟩:=Zt.mp hy
   obtain⟨_,va,ha,ra⟩:=R.dict p1
   obtain⟨_,vb,hb,rb⟩:=R.dict p2
   cases (show v=An (w.μ m) from rx)
   cases (show u=An (w.μ n) from ry)
   obtain⟨_,s1,ua,k1,d1⟩:=Zg3 I.hok ha
   obtain⟨_,s2,ub,k2,d2⟩:=Zg3 I.hok hb
   have hits:=Gh (A:=X.A.in1) (s:=s) (pins:=pins) (σ:=σ) rb k2 f2 f1 ra k1
   have hl:(ua.length==ub.length&&(ka.all fun kv=>match valD kb kv.1 with
    | some y=>eqF kv.2 y
    | none=>false))=eqKV ka kb:=by
    unfold eqKV
    rw[←k1.length,←k2.length,ra.length,rb.length]
    all_goals rfl
   cases neg with
   | true=>exact PySem.W.keq_ne s1 s2 d1 d2 (by omega) (fun _=>hits) ⟨.bl _,w.H,I,rfl,by rw[hl];exact a _ g⟩
   | false=>exact PySem.W.keq_eq s1 s2 d1 d2 (by omega) (fun _=>hits) ⟨.bl _,w.H,I,rfl,by rw[hl];exact a _ g⟩
  ·obtain⟨_,rfl⟩:=Zt.mp hx
   obtain⟨_,rfl⟩:=Zt.mp hy
   obtain⟨_,va,ha,ra,_⟩:=R.listL p1
   obtain⟨_,vb,hb,rb,_⟩:=R.listL p2
   rw[e0,←hK] at ha hb
   unfold RDs at rb
   subst rb
   cases (show v=An (w.μ m) from rx)
   cases (show u=An (w.μ n) from ry)
   have he:va.isEmpty=xs.isEmpty:=by have:=ra.length;cases va<;>cases xs<;>simp_all
   exact Zk4 I hu neg ha hb (by rw[he];exact a _ g)
  ·have tp:∀{d:D} {zs:List D} {x:V},(d= .tup zs∨d= .gtup zs)→RD w d x→∃p vs,x= .ref p∧SqT X.K w.H p vs∧RDs w zs vs:=by
    rintro d zs x (rfl | rfl) r
    ·obtain⟨p,vs,e,q1,q2⟩:=X5.mp r
     exact⟨p,vs,e,.of q1,q2⟩
    ·obtain⟨p,vs,e,q1,q2⟩:=T2.mp r
     rw[e0,←hK] at q1
     exact⟨p,vs,e,q1,q2⟩
   obtain⟨p,va,rfl,ha,ra⟩:=tp ex hx
   obtain⟨p2,vb,rfl,hb,rb⟩:=tp ey hy
   cases (show v=An p from rx)
   cases (show u=An p2 from ry)
   exact Zt4 I hu neg ha hb (Vr f1 ra) (Vr f2 rb) (by rw[B4 f1 f2 ra rb];exact a _ g)
theorem Gp{w:Vw}:∀{xs:List (List D)} {vs:List V},RDs w (xs.map .tup) vs→(xs.all fun zs=>zs.all Xc)=true→∃ts:List (List V),ts.length=vs.length∧(∀(j:Nat) u,vs[j]?=some u→∃a us,u= .ref a∧w.H a=some (.tup us)∧ts[j]?=some us∧us.all Wu=true)∧∀(ys:List D) (t:List V),ys.all Xc=true→RDs w ys t→(ts.any fun us=>eqVs us t)=xs.any fun zs=>eqFs zs ys
 | [],vs,h,_=>by
  rw[List.map_nil] at h
  unfold RDs at h
  subst h
  exact⟨[],rfl,fun j u e=>by simp at e,fun _ _ _ _=>rfl⟩
 | z::zs,vs,h,f=>by
  rw[Ch] at h
  unfold RDs at h
  obtain⟨v,r,rfl,h1,h2⟩:=h
  rw[Hz,Bool.and_eq_true] at f
  obtain⟨a,us,rfl,k1,k2⟩:=X5.mp h1
  obtain⟨ts,t1,t2,t3⟩:=Gp h2 f.2
  refine⟨us::ts,by rw[Dc,Dc,t1],fun j u e=>?_,fun ys t fy ry=>by rw[Ke,Ke,t3 ys t fy ry,B4 f.1 fy k2 ry]⟩
  cases j with
  | zero=>cases e;exact⟨a,us,rfl,k1,rfl,Vr f.1 k2⟩
  | succ j=>
   obtain⟨a',us',e1,e2,e3,e4⟩:=t2 j u (by simpa using e)
   exact⟨a',us',e1,e2,by simpa using e3,e4⟩
theorem Yb3{pins:List (Addr×Obj)}{s:Shared}{σ:L2.St}{H:Hp}{Q:VK}(I:Inv X pins σ H s)(hu:X.A.units+64<cLine)(neg:Bool){p b:Addr}{xs:List V}{ts:List (List V)}{t:List V}(hx:SqL X.K H p xs)(hl:xs.length=ts.length)(ht:∀(j:Nat) u,xs[j]?=some u→∃a us,u= .ref a∧H a=some (.tup us)∧ts[j]?=some us∧us.all Wu=true)(hb:H b=some (.tup t))(ft:t.all Wu=true)
  (q:Q (.bl (if neg then !(ts.any fun us=>eqVs us t) else ts.any fun us=>eqVs us t)) H):
  wpAny (model X.prog X.w) X.A (compareOp (if neg then .NotIn else .In) (.ref b) (.ref p)) (EP X pins σ Q) X.xe s:=by
 obtain⟨its,r,pl,hz⟩:=I.list hx
 have at':∀(j:Nat) w,its[j]?=some w→∃a us,w= .ref a∧H a=some (.tup us)∧ts[j]?=some us∧us.all Wu=true:=by
  intro j w hw
  have hj:j<xs.length:=by rw[r.length];exact(Af.mp hw).1
  obtain⟨a,us,e1,e2,e3,e4⟩:=ht j xs[j] (Ag hj)
  obtain⟨w',w1,w2⟩:=r.get (Ag hj)
  rw[hw] at w1
  cases w1
  rw[e1] at w2
  cases w2
  exact⟨a,us,rfl,e2,e3,e4⟩
 have ev:∀(a:Addr) (us:List V),H a=some (.tup us)→eqUT H t (.ref a)=eqVs us t:=by
  intro a us e
  show(match H a with | some (.tup vs)=>eqVs vs t | _=>false)=_
  rw[e]
 have he:∀w∈its.toArray,Dt X.A.in1 s w (.ref b) (eqUT H t w):=by
  intro w hw
  obtain⟨j,hj⟩:=List.getElem?_of_mem (show w∈its by simpa using hw)
  obtain⟨a,us,rfl,e2,e3,e4⟩:=at' j w hj
  rw[ev a _ e2]
  exact Y86 I (by show X.A.units+1+2<cLine;omega) e2 hb e4 ft
 have any:its.toArray.any (eqUT H t)=ts.any fun us=>eqVs us t:=by
  rw[show its.toArray.any (eqUT H t)=its.any (eqUT H t) by simp]
  have:its.map (eqUT H t)=ts.map fun us=>eqVs us t:=by
   refine Lw fun j=>?_
   rw[Aq,Aq]
   cases hw:its[j]? with
   | none=>
    rw[Dr (by rw[←hl,r.length];exact List.getElem?_eq_none_iff.mp hw)]
    rfl
   | some w=>
    obtain⟨a,us,rfl,e2,e3,e4⟩:=at' j w hw
    rw[e3]
    show some _=some _
    rw[ev a _ e2]
  have e1:its.any (eqUT H t)=(its.map (eqUT H t)).any id:=by rw[List.any_map];rfl
  have e2:(ts.any fun us=>eqVs us t)=(ts.map fun us=>eqVs us t).any id:=by rw[List.any_map];rfl
  rw[e1,e2,this]
 cases neg with
 | true=>exact SeqAt.notIn_listAt (eqUT H t) pl.isList he ⟨.bl _,H,I,rfl,by rw[any];exact q⟩
 | false=>exact SeqAt.in_listAt (eqUT H t) pl.isList he ⟨.bl _,H,I,rfl,by rw[any];exact q⟩
theorem Ew(hK:X.K=w0.K)(hu:X.A.units+64<cLine)(neg:Bool):OpR X (compareOp (if neg then .NotIn else .In)) (rB w0 fun M x y Q=>inQ M x y fun b=>Q (if neg then !b else b)):=by
 intro pins s σ H x y v u Q I rx ry h
 obtain⟨w,M,dx,dy,QD,rfl,e0,R,hx,hy,g,a⟩:=h
 have seq:∀{p:Addr} {vs:List V} {xs:List D},y= .ref p→(SqL X.K w.H p vs∨SqT X.K w.H p vs)→RDs w xs vs→Xc dx=true→xs.all Xc=true→QD (if neg then !inD dx xs else inD dx xs)→
   wpAny (model X.prog X.w) X.A (compareOp (if neg then .NotIn else .In) v u) (EP X pins σ Q) X.xe s:=by
  intro p vs xs ey q1 q2 g2 g3 g4
  obtain⟨i1,i2⟩:=Zo3 g2 hx g3 q2
  cases neg with
  | true=>exact Jr pins s σ w.H _ _ v u Q I rx ry ⟨p,vs,ey,q1,Tc g2 hx,i2,by rw[i1];exact a _ g4⟩
  | false=>exact Z45 pins s σ w.H _ _ v u Q I rx ry ⟨p,vs,ey,q1,Tc g2 hx,i2,by rw[i1];exact a _ g4⟩
 unfold inQ at g
 split at g
 ·cases Zb.mp hx;cases Zb.mp hy
  cases neg with
  | true=>exact Gs pins s σ w.H _ _ v u Q I rx ry ⟨_,_,rfl,rfl,a _ g⟩
  | false=>exact Zc0 pins s σ w.H _ _ v u Q I rx ry ⟨_,_,rfl,rfl,a _ g⟩
 ·obtain⟨_,rfl⟩:=Zt.mp hy
  rcases g with⟨xs,g1,g2,g3,g4⟩ | ⟨kvs,k,g1,g2,g3⟩ | ⟨ys,xs,rfl,g1,g2,g3,g4⟩
  ·obtain⟨_,vs,q1,q2,_⟩:=R.listL g1
   rw[e0,←hK] at q1
   exact seq rfl (.inl q1) q2 g2 g3 g4
  ·obtain⟨_,vs,q1,q2⟩:=R.dict g1
   cases Oq g2 hx
   cases (show u=An _ from ry)
   have hv:valV vs k=none∧valD kvs k=none∨∃d v',valD kvs k=some d∧valV vs k=some v':=by
    rcases q2.val k with⟨n1,n2⟩ | ⟨d,v',n1,n2,_⟩
    ·exact .inl ⟨n2,n1⟩
    ·exact .inr ⟨d,v',n1,n2⟩
   have hb:(valV vs k).isSome=(valD kvs k).isSome:=by
    rcases hv with⟨n1,n2⟩ | ⟨d,v',n1,n2⟩
    ·rw[n1,n2];rfl
    ·rw[n1,n2];rfl
   have hu1:X.A.units+1<cLine:=by omega
   cases neg with
   | true=>exact Zr7 hu1 I (DGet.k (k:=k) q1) rx fun s' I'=>⟨.bl (!(valV vs k).isSome),w.H,I',rfl,by rw[hb];exact a _ g3⟩
   | false=>exact d_in hu1 I (DGet.k (k:=k) q1) rx fun s' I'=>⟨.bl (valV vs k).isSome,w.H,I',rfl,by rw[hb];exact a _ g3⟩
  ·obtain⟨_,vs,q1,q2,_⟩:=R.listL g1
   rw[e0,←hK] at q1
   obtain⟨b,us,rfl,hb,rb⟩:=X5.mp hx
   cases (show v=An b from rx)
   cases (show u=An _ from ry)
   obtain⟨ts,h1,h2,h3⟩:=Gp q2 g3
   refine Yb3 I hu neg q1 h1.symm h2 hb (Vr g2 rb) ?_
   rw[h3 _ _ g2 rb]
   exact a _ g4
 ·obtain⟨p,vs,e,q1,q2⟩:=X5.mp hy
  exact seq e (.inr (.of q1)) q2 g.1 g.2.1 g.2.2
 ·obtain⟨p,vs,e,q1,q2⟩:=T2.mp hy
  rw[e0,←hK] at q1
  exact seq e (.inr q1) q2 g.1 g.2.1 g.2.2
 ·exact g.elim
theorem C4(hK:X.K=w0.K)(hu:X.A.units+64<cLine)(op:Cm):OpR X (compareOp (cmOf op)) (rB w0 fun M=>cmD M op):=by
 intro pins s σ H x y v u Q I rx ry h
 obtain⟨w,M,dx,dy,QD,rfl,e0,R,hx,hy,g,a⟩:=h
 cases op with
 | lt=>
  obtain⟨i,j,rfl,rfl,g2⟩:=Xk g;clear g;have g:=g2
  cases Zc.mp hx;cases Zc.mp hy
  exact Yb1 pins s σ w.H _ _ v u Q I rx ry ⟨_,_,rfl,rfl,a _ g⟩
 | le=>
  obtain⟨i,j,rfl,rfl,g2⟩:=Xk g;clear g;have g:=g2
  cases Zc.mp hx;cases Zc.mp hy
  exact Ya7 pins s σ w.H _ _ v u Q I rx ry ⟨_,_,rfl,rfl,a _ g⟩
 | gt=>
  obtain⟨i,j,rfl,rfl,g2⟩:=Xk g;clear g;have g:=g2
  cases Zc.mp hx;cases Zc.mp hy
  exact Ya0 pins s σ w.H _ _ v u Q I rx ry ⟨_,_,rfl,rfl,a _ g⟩
 | eq=>
  exact Ct hK hu false pins s σ w.H x y v u Q I rx ry ⟨w,M,_,_,QD,rfl,e0,R,hx,hy,g,a⟩
 | ne=>
  exact Ct hK hu true pins s σ w.H x y v u Q I rx ry ⟨w,M,_,_,QD,rfl,e0,R,hx,hy,g,a⟩
 | is=>
  cases dy with
  | non=>
   cases dx with
   | non=>
    cases Yz.mp hx;cases Yz.mp hy
    exact Qi pins s σ w.H _ _ v u Q I rx ry ⟨rfl,a _ g⟩
   | bl b=>
    cases Xq.mp hx;cases Yz.mp hy
    exact Qi pins s σ w.H _ _ v u Q I rx ry ⟨rfl,a _ g⟩
   | int i=>
    cases Zc.mp hx;cases Yz.mp hy
    exact Qi pins s σ w.H _ _ v u Q I rx ry ⟨rfl,a _ g⟩
   | str z=>
    cases Zb.mp hx;cases Yz.mp hy
    exact Qi pins s σ w.H _ _ v u Q I rx ry ⟨rfl,a _ g⟩
   | tup l=>
    obtain⟨_,_,rfl,_⟩:=X5.mp hx;cases Yz.mp hy
    exact Qi pins s σ w.H _ _ v u Q I rx ry ⟨rfl,a _ g⟩
   | ref n=>
    obtain⟨_,rfl⟩:=Zt.mp hx;cases Yz.mp hy
    exact Qi pins s σ w.H _ _ v u Q I rx ry ⟨rfl,a _ g⟩
   | exn e C d q=>
    obtain⟨rfl,_⟩:=C1.mp hx;cases Yz.mp hy
    exact Qi pins s σ w.H _ _ v u Q I rx ry ⟨rfl,a _ g⟩
   | _=>exact Di g
  | _=>exact Di g
 | isin=>
  exact Ew hK hu false pins s σ w.H x y v u Q I rx ry ⟨w,M,_,_,QD,rfl,e0,R,hx,hy,g,a⟩
 | notin=>
  exact Ew hK hu true pins s σ w.H x y v u Q I rx ry ⟨w,M,_,_,QD,rfl,e0,R,hx,hy,g,a⟩
end
theorem RKV.isEmpty{w:Vw}{ds:List (Key×D)}{vs:List (Key×V)}(h:RKV w ds vs):vs.isEmpty=ds.isEmpty:=by
 cases ds with
 | nil=>unfold RKV at h;subst h;rfl
 | cons p ds=>obtain⟨k,d⟩:=p;unfold RKV at h;obtain⟨v,r,rfl,_⟩:=h;rfl
theorem RDs.isEmpty{w:Vw}{ds:List D}{vs:List V}(h:RDs w ds vs):vs.isEmpty=ds.isEmpty:=by
 cases ds with
 | nil=>unfold RDs at h;subst h;rfl
 | cons d ds=>unfold RDs at h;obtain⟨v,r,rfl,_⟩:=h;rfl
theorem S6{K:Ae}{w:Vw}{M:Z2}{d:D}{x:V}{QD:Bool→Prop}(hK:w.K=K)(R:RS w M)(r:RD w d x)(g:truD M d QD):∃k,TruV K x w.H k∧QD k:=by
 unfold truD at g
 split at g
 ·cases Yz.mp r;exact⟨_,rfl,g⟩
 ·cases Xq.mp r;exact⟨_,rfl,g⟩
 ·cases Zc.mp r;exact⟨_,rfl,g⟩
 ·cases Zb.mp r;exact⟨_,⟨g.1,rfl⟩,g.2⟩
 ·obtain⟨a,vs,rfl,q1,q2⟩:=X5.mp r
  exact⟨_,.inr (.inl ⟨vs,.of q1,rfl⟩),by rw[q2.isEmpty];exact g⟩
 ·obtain⟨_,rfl⟩:=Zt.mp r
  rcases g with⟨xs,g1,g2⟩ | ⟨xs,g1,g2⟩
  ·obtain⟨_,vs,q1,q2,_⟩:=R.listL g1
   rw[hK] at q1
   exact⟨_,.inl ⟨vs,q1,rfl⟩,by rw[q2.isEmpty];exact g2⟩
  ·obtain⟨_,vs,q1,q2⟩:=R.dict g1
   exact⟨_,.inr (.inr ⟨vs,q1,rfl⟩),by rw[q2.isEmpty];exact g2⟩
 ·exact g.elim
theorem Fy{w:Vw}{xs:List D}{vs:List V}{i:Int}{d:D}(r:RDs w xs vs)(h:atI xs i=some d):∃v,atI vs i=some v∧RD w d v:=by
 unfold atI at *
 rw[r.length]
 obtain⟨j,h1,h2⟩:=Option.bind_eq_some_iff.mp h
 obtain⟨v,q1,q2⟩:=r.get h2
 exact⟨v,by rw[h1];exact q1,q2⟩
theorem Eb{w:Vw}{xs:List D}{vs:List V}{lo hi:Option Int}(r:RDs w xs vs):RDs w (cutD xs lo hi) (cutV vs lo hi):=by
 unfold cutD cutV
 rw[r.length]
 exact(r.drop _).take _
section
variable{X:Cx}{w0:Vw}
theorem Zu2(hu:X.A.units+1<cLine):IxR X (fun x y H Q=>∃a v,x= .ref a∧DGet H a y (some v)∧Q v H):=by
 intro value slice pins s σ H x y v u Q I rx ry h hs
 obtain⟨a,vv,rfl,g,q⟩:=h
 cases rx
 have hT:=E6 I g
 have h₂:wpAny (model X.prog X.w) X.A (getItem (.ref a) u) (EP X pins σ Q) X.xe s:=Zb7 hu I g ry fun w' s3 I3 rw'=>⟨vv,H,I3,rw',q⟩
 unfold subscriptTail
 refine Aa ?_
 rw[getitemInPython_of_ne hT.not_modules]
 refine Aa (Md hT PySem.F.slot_dict_getitem.lookup ?_)
 have fin:wpAny (model X.prog X.w) X.A (subscripted slice false (.ref a) u) (fun r s₃=>wpAny (model X.prog X.w) X.A (letTemporaryGo value (.ref a) r >>=fun _=>pure r) (EP X pins σ Q) X.xe s₃) X.xe s:=by
  rw[hs]
  exact wpAny_operating (Hl h₂ (fun r s₃ h₃=>Aa (wpAny_letTemporaryGo (Ab h₃))) fun _ _ x=>x)
 first
  | exact Ab (Aa fin)
  | exact Aa (Ab (Aa fin))
  | exact Aa fin
def rX(w0:Vw):R2:=fun x y H Q=>∃w M dx dy QD,w.H=H∧w.K=w0.K∧RS w M∧RD w dx x∧RD w dy y∧ixD M dx dy QD∧∀d v,QD d→RD w d v→Q v H
theorem Zg4(hK:X.K=w0.K)(hu:X.A.units+64<cLine):IxR X (rX w0):=by
 intro value slice pins s σ H x y v u Q I rx ry h hs
 obtain⟨w,M,dx,dy,QD,rfl,e0,R,hx,hy,g,a⟩:=h
 unfold ixD at g
 split at g
 ·obtain⟨_,rfl⟩:=Zt.mp hx
  rcases g with⟨xs,i,d,rfl,g1,g2,g3⟩ | ⟨kvs,k,d,g1,g2,g3,g4⟩
  ·cases Zc.mp hy
   obtain⟨_,vs,q1,q2,_⟩:=R.listL g1
   rw[e0,←hK] at q1
   obtain⟨vv,z1,z2⟩:=Fy q2 g2
   exact Zr6 value slice pins s σ w.H _ _ v u Q I rx ry ⟨_,vs,i,vv,rfl,rfl,q1,z1,a _ _ g3 z2⟩ hs
  ·obtain⟨vs,q1,q2⟩:=R.dictF g1
   cases Oq g2 hy
   rcases q2.val k with⟨n1,n2⟩ | ⟨d',v',n1,n2,n3⟩
   ·rw[n1] at g3;cases g3
   ·rw[n1] at g3;cases g3
    refine Zu2 (by omega) value slice pins s σ w.H _ _ v u Q I rx ry ⟨_,v',rfl,?_,a _ _ g4 n3⟩ hs
    have:DGet w.H (w.μ _) (kV k) (valV vs k):= .inl ⟨vs,k,q1,rfl,rfl⟩
    rw[n2] at this
    exact this
 ·cases Zc.mp hy
  obtain⟨p,vs,rfl,q1,q2⟩:=X5.mp hx
  obtain⟨d,g1,g2⟩:=g
  obtain⟨vv,z1,z2⟩:=Fy q2 g1
  exact Zo8 value slice pins s σ w.H _ _ v u Q I rx ry ⟨_,vs,_,vv,rfl,rfl,.of q1,z1,a _ _ g2 z2⟩ hs
 ·cases Zc.mp hy
  obtain⟨p,vs,rfl,q1,q2⟩:=T2.mp hx
  rw[e0,←hK] at q1
  obtain⟨d,g1,g2⟩:=g
  obtain⟨vv,z1,z2⟩:=Fy q2 g1
  exact Zo8 value slice pins s σ w.H _ _ v u Q I rx ry ⟨_,vs,_,vv,rfl,rfl,q1,z1,a _ _ g2 z2⟩ hs
 ·cases Zc.mp hy;cases Zb.mp hx
  obtain⟨g0,c,g1,g2⟩:=g
  exact Y19 value slice pins s σ w.H _ _ v u Q I rx ry ⟨_,_,c,rfl,rfl,g0,g1,a _ _ g2 (Zb.mpr rfl)⟩ hs
 ·exact g.elim
theorem Y07:SlR X (fun x lo hi H Q=>∃z,x= .str z∧z.length≤sizeLine∧Q (.str (Hy z lo hi)) H):=by
 intro pins s σ H x v vl vu lo hi sl Q I rx hs pl pu h
 obtain⟨z,rfl,hz,q⟩:=h
 obtain⟨t,rfl⟩:=rx
 have key:∀l u:Option (Int×Tok),l.map (·.1)=lo→u.map (·.1)=hi→vl=partValue l→vu=partValue u→wpAny (model X.prog X.w) X.A (getItem (.str z t) (.ref sl)) (EP X pins σ Q) X.xe s:=by
  intro l u e1 e2 e3 e4
  subst e1 e2 e3 e4
  refine wpAny_getItem_str_slice (l:=l) (u:=u) (st:=none) hs rfl ?_
  exact post_val_or_str ⟨Nat.le_trans (Txt.slice_le z _ _) hz,fun t' k=>⟨.str (Hy z _ _),H,I.tok _,⟨_,rfl⟩,q⟩⟩
 refine⟨"str",_,PySem.F.slot_str_getitem.lookup,typeIs_str _ _ _,?_⟩
 cases pl with
 | none=>
  cases pu with
  | none=>exact key none none rfl rfl rfl rfl
  | int j tj=>exact key none (some (j,tj)) rfl rfl rfl rfl
 | int i ti=>
  cases pu with
  | none=>exact key (some (i,ti)) none rfl rfl rfl rfl
  | int j tj=>exact key (some (i,ti)) (some (j,tj)) rfl rfl rfl rfl
def rSl(w0:Vw):V→Option Int→Option Int→Hp→VK→Prop:=fun x lo hi H Q=>∃w M dx QD,w.H=H∧w.K=w0.K∧RS w M∧RD w dx x∧slD dx lo hi M QD∧Aft w QD Q
theorem Zf9(hK:X.K=w0.K):SlR X (rSl w0):=by
 intro pins s σ H x v vl vu lo hi sl Q I rx hs pl pu h
 obtain⟨w,M,dx,QD,rfl,e0,R,hx,g,a⟩:=h
 unfold slD at g
 split at g
 ·cases Zb.mp hx
  exact Y07 pins s σ w.H _ v vl vu _ _ sl Q I rx hs pl pu ⟨_,rfl,g.1,a _ w _ M (Ext.refl w) R (Zb.mpr rfl) g.2⟩
 ·obtain⟨_,rfl⟩:=Zt.mp hx
  obtain⟨xs,g1,g2⟩:=g
  obtain⟨_,vs,q1,q2,_⟩:=R.listL g1
  rw[e0,←hK] at q1
  refine Zz5 pins s σ w.H _ v vl vu _ _ sl Q I rx hs pl pu ⟨_,vs,rfl,q1,fun p hp=>?_⟩
  obtain⟨x1,x2,x3⟩:=W5 R hp (Eb (lo:=lo) (hi:=hi) q2)
  exact a _ _ _ _ x1 x2 x3 g2
 ·obtain⟨p,vs,rfl,q1,q2⟩:=X5.mp hx
  refine Zp0 pins s σ w.H _ v vl vu _ _ sl Q I rx hs pl pu ⟨_,vs,rfl,.of q1,by rw[q2.length];exact g.1,fun p hp=>?_⟩
  obtain⟨x1,x2,x3⟩:=Tw R hp (Eb (lo:=lo) (hi:=hi) q2)
  exact a _ _ _ _ x1 x2 x3 g.2
 ·exact g.elim
def rC(w0:Vw)(g:List D→Z2→DK→Prop):List V→Hp→VK→Prop:=fun xs H Q=>∃w M ds QD,w.H=H∧w.K=w0.K∧RS w M∧RDs w ds xs∧g ds M QD∧Aft w QD Q
noncomputable def bfOf:Bf→Str×Value
 | .len=>("len",.builtin "len") | .isinst=>("isinstance",.builtin "isinstance") | .min2=>("min",.builtin "min") | .max2=>("max",.builtin "max")
 | .list1=>("list",.type "list") | .dict1=>("dict",.type "dict") | .str1=>("str",.type "str") | .int1=>("int",.type "int")
theorem rds1{w:Vw}{d:D}{xs:List V}(h:RDs w [d] xs):∃v,xs=[v]∧RD w d v:=by
 unfold RDs at h
 obtain⟨v,r,rfl,h1,h2⟩:=h
 unfold RDs at h2
 subst h2
 exact⟨v,rfl,h1⟩
theorem rds2{w:Vw}{d e:D}{xs:List V}(h:RDs w [d,e] xs):∃v u,xs=[v,u]∧RD w d v∧RD w e u:=by
 unfold RDs at h
 obtain⟨v,r,rfl,h1,h2⟩:=h
 obtain⟨u,rfl,h3⟩:=rds1 h2
 exact⟨v,u,rfl,h1,h3⟩
theorem rds0{w:Vw}{xs:List V}(h:RDs w [] xs):xs=[]:=by unfold RDs at h;exact h
theorem Zb3{w:Vw}:∀{as:List Addr} {vs:List V},RDs w (as.map D.cls) vs→vs=as.map V.ref
 | [],vs,h=>rds0 h
 | a::r,vs,h=>by
  rw[Ch] at h
  unfold RDs at h
  obtain⟨v,vs',rfl,h1,h2⟩:=h
  rw[Zp2.mp h1,Zb3 h2]
  rfl
def Yc4(K:Ae):List V→Hp→VK→Prop:=fun xs H Q=>∃(e C dx:Addr) (fs:List (Str×V)) (p:Addr) (as:List Addr) (b:Bool),xs=[.ref e,.ref p]∧H e=some (XO e (.ref C) (some dx))∧H dx=some (.xd fs)∧ExcIs K C∧H p=some (.tup (as.map V.ref))∧PySem.W.kitAny K (.ref C) (as.map An)=some b∧Q (.bl b) H
theorem Jy:∀{as:List Addr} {us:List Value},Vals (as.map V.ref) us→us=as.map An
 | [],us,h=>by cases h;rfl
 | a::r,us,h=>by
  cases h with
  | cons h1 h2=>
   obtain rfl:_=An a:=h1
   rw[Jy h2]
   rfl
theorem Z84{X:Cx}:W0 X (.builtin "isinstance") (Yc4 X.K):=by
 intro pins s σ H xs us Q I r h
 obtain⟨e,C,dx,fs,p,as,b,rfl,he,hd,S,hp,k,q⟩:=h
 obtain⟨u,v,rfl,ru,rv⟩:=Gr r
 obtain rfl:u=An e:=ru
 obtain rfl:v=An p:=rv
 obtain⟨oe,od,mA,J,_⟩:=B8 I he hd
 obtain⟨its,r',⟨⟨oc,odd,dat,sl⟩,g1,g2,n,g3⟩,hz⟩:=I.tuple (.of hp)
 cases Jy r'
 dsimp only at g2 g3
 subst g2 g3
 exact PySem.W.kia_tup (Cr S) I.kIn J g1 k (fun z=>nomatch z) fun tk=>⟨.bl b,H,I.tok tk,rfl,q⟩
theorem Y58{K:Ae}{w:Vw}{M:Z2}{d:D}{x:V}{t:String}(R:RS w M)(r:RD w d x)(h:tyD M d=some t):TyOf K w.H x (.type t):=by
 unfold tyD at h
 split at h
 ·cases h;cases Yz.mp r;exact .non
 ·cases h;cases Xq.mp r;exact .bl _
 ·cases h;cases Zc.mp r;exact .int _
 ·cases h;cases Zb.mp r;exact .str _
 ·cases h;obtain⟨a,vs,rfl,q,_⟩:=X5.mp r;exact .tup q
 ·obtain⟨_,rfl⟩:=Zt.mp r
  split at h
  ·rename_i e;cases h;obtain⟨vs,q,_⟩:=R.cell _ _ e;exact .lst q
  ·cases h
  ·rename_i e;cases h;obtain⟨vs,q,_⟩:=R.cell _ _ e;exact .dK q
  ·cases h
  ·cases h
 ·cases h
theorem Br:W0 X (.type "dict") (fun xs H Q=>∃a kvs,xs=[V.ref a]∧H a=some (.dK kvs)∧∀p,H p=none→Q (.ref p) (upd H p (.dK kvs))):=by
 intro pins s σ H xs us Q I r h
 obtain⟨a,kvs,rfl,e,q⟩:=h
 obtain⟨u,rfl,ru⟩:=Vl r
 cases ru
 exact Zj7 I (.inl e) fun p s' hp I'=>⟨.ref p,_,I',rfl,q p hp⟩
theorem Cy{w:Vw}:∀{ps:List (Key×D)} {vs:List V},RDs w (Np ps) vs→∃qs,Fc w.K w.H vs qs∧RKV w ps qs
 | [],vs,h=>by
  cases vs with
  | nil=>exact⟨[],trivial,by unfold RKV;rfl⟩
  | cons _ _=>have:=h.length;simp[Np] at this
 | p::ps,vs,h=>by
  change RDs w (D.tup [kD p.1,p.2]::Np ps) vs at h
  unfold RDs at h
  obtain⟨v,vr,rfl,r1,r2⟩:=h
  obtain⟨t,us,rfl,q1,q2⟩:=X5.mp r1
  obtain⟨u1,u2,rfl,s1,s2⟩:=rds2 q2
  obtain⟨qs,h1,h2⟩:=Cy r2
  have e:u1=kV p.1:=by
   cases hk:p.1 with
   | inl i=>rw[hk] at s1;exact Zc.mp s1
   | inr x=>rw[hk] at s1;exact Zb.mp s1
  subst e
  exact⟨(p.1,u2)::qs,⟨⟨t,rfl,.of q1⟩,h1⟩,by unfold RKV;exact⟨u2,qs,rfl,s2,h2⟩⟩
theorem J8{w:Vw}:∀{ps:List (Key×D)} {qs:List (Key×V)} {ds:List (Key×D)} {vs:List (Key×V)},RKV w ps qs→RKV w ds vs→RKV w (ps.foldl (fun m p=>putD m p.1 p.2) ds) (qs.foldl (fun m p=>putK m p.1 p.2) vs)
 | [],qs,ds,vs,h,g=>by unfold RKV at h;subst h;exact g
 | p::ps,qs,ds,vs,h,g=>by
  unfold RKV at h
  obtain⟨v,r,rfl,h1,h2⟩:=h
  rw[Kt,Kt]
  exact J8 (ps:=ps) (qs:=r) h2 (RKV.put (k:=p.1) h1 g)
noncomputable def Su:Bf→Bool
 | .min2 | .max2 | .dict1=>false
 | _=>true
theorem Za7:W0 X (.type "int") (fun xs H Q=>∃b,xs=[.bl b]∧Q (.int (if b then 1 else 0)) H):=by
 intro pins s σ H xs us Q I r h
 obtain⟨b,rfl,q⟩:=h
 obtain⟨u,rfl,e⟩:=Vl r
 cases e
 exact call_int_bool ⟨.int _,H,I.tok _,⟨_,rfl⟩,q⟩
theorem B0{w:Vw}:∀ns:List Int,RDs w (ns.map .int) (ns.map V.int)
 | []=>RDs.nil w
 | n::ns=>RDs.cons (Zc.mpr rfl) (B0 ns)
theorem Co{w:Vw}:∀{ks:List Key} {vs:List V},RDs w (ks.map kD) vs→vs=ks.map kV
 | [],vs,h=>rds0 h
 | k::ks,vs,h=>by
  rw[Ch] at h
  unfold RDs at h
  obtain⟨v,r,rfl,h1,h2⟩:=h
  rw[Co h2]
  cases k with
  | inl i=>cases Zc.mp h1;rfl
  | inr x=>cases Zb.mp h1;rfl
theorem Zl7(hK:X.K=w0.K)(b:Bf)(hc:X.calm=true∨Su b=true):W0 X (bfOf b).2 (rC w0 (bfD w0.K b)):=by
 intro pins s σ H xs us Q I r h
 obtain⟨w,M,ds,QD,rfl,e0,R,hx,g,a⟩:=h
 cases b with
 | len=>
  obtain⟨x,rfl,g2⟩:=W3 g;clear g;have g:=g2
  cases x with
  | ref n=>
   obtain⟨v,rfl,r1⟩:=rds1 hx
   obtain⟨_,rfl⟩:=Zt.mp r1
   rcases g with⟨xs,g1,g2⟩ | ⟨xs,g1,g2⟩
   ·obtain⟨_,vs,q1,q2,_⟩:=R.listL g1
    rw[e0,←hK] at q1
    exact Rm pins s σ w.H _ us Q I r ⟨_,vs,rfl,.inl q1,a _ w _ M (Ext.refl w) R (Zc.mpr (by rw[q2.length])) g2⟩
   ·obtain⟨_,vs,q1,q2⟩:=R.dict g1
    exact Zb9 pins s σ w.H _ us Q I r ⟨_,vs,rfl,q1,a _ w _ M (Ext.refl w) R (Zc.mpr (by rw[q2.length])) g2⟩
  | tup l=>
   obtain⟨v,rfl,r1⟩:=rds1 hx
   obtain⟨p,vs,rfl,q1,q2⟩:=X5.mp r1
   exact Rm pins s σ w.H _ us Q I r ⟨_,vs,rfl,.inr (.of q1),a _ w _ M (Ext.refl w) R (Zc.mpr (by rw[q2.length])) g⟩
  | str z=>
   obtain⟨v,rfl,r1⟩:=rds1 hx
   cases Zb.mp r1
   exact Fa pins s σ w.H _ us Q I r ⟨_,rfl,g.1,a _ w _ M (Ext.refl w) R (Zc.mpr rfl) g.2⟩
  | _=>exact Di g
 | isinst=>
  obtain⟨x,y,rfl,g2⟩:=Qv g;clear g;have g:=g2
  obtain⟨v,u,rfl,r1,r2⟩:=rds2 hx
  unfold isD at g
  split at g
  ·obtain⟨b,g1,g2,g3⟩:=g
   obtain⟨rfl,q1,row,q2,q3⟩:=C1.mp r1
   cases Zp2.mp r2
   rw[←hK] at g1 g2
   exact Ba pins s σ w.H _ us Q I r ⟨_,_,_,_,_,_,b,rfl,q1,q2,g1,fun u hu=>hu,g2,a _ w _ M (Ext.refl w) R (Xq.mpr rfl) g3⟩
  ·obtain⟨b,g1,g2,g3⟩:=g
   obtain⟨rfl,q1,row,q2,q3⟩:=C1.mp r1
   cases Zs7.mp r2
   rw[←hK] at g1 g2
   exact Ba pins s σ w.H _ us Q I r ⟨_,_,_,_,_,_,b,rfl,q1,q2,g1,fun u hu=>hu,g2,a _ w _ M (Ext.refl w) R (Xq.mpr rfl) g3⟩
  ·obtain⟨as,b,rfl,g1,g2,g3⟩:=g
   obtain⟨rfl,q1,row,q2,q3⟩:=C1.mp r1
   obtain⟨p,vs,rfl,q4,q5⟩:=X5.mp r2
   cases Zb3 q5
   rw[←hK] at g1 g2
   exact Z84 pins s σ w.H _ us Q I r ⟨_,_,_,_,_,_,b,rfl,q1,q2,g1,q4,g2,a _ w _ M (Ext.refl w) R (Xq.mpr rfl) g3⟩
  ·obtain⟨t,b,g1,g2,g3⟩:=g
   cases Zs7.mp r2
   rw[←hK] at g2
   exact Zh4 pins s σ w.H _ us Q I r ⟨_,_,_,b,rfl,Y58 R r1 g1,g2,a _ w _ M (Ext.refl w) R (Xq.mpr rfl) g3⟩
  ·exact g.elim
 | min2=>
  obtain⟨x,y,rfl,g2⟩:=Qv g;clear g;have g:=g2
  obtain⟨i,j,rfl,rfl,g2⟩:=Xk g;clear g;have g:=g2
  obtain⟨v,u,rfl,r1,r2⟩:=rds2 hx
  cases Zc.mp r1;cases Zc.mp r2
  exact Zd8 (hc.resolve_right (by simp[Su])) pins s σ w.H _ us Q I r ⟨_,_,rfl,a _ w _ M (Ext.refl w) R (Zc.mpr rfl) g⟩
 | max2=>
  obtain⟨x,y,rfl,g2⟩:=Qv g;clear g;have g:=g2
  obtain⟨i,j,rfl,rfl,g2⟩:=Xk g;clear g;have g:=g2
  obtain⟨v,u,rfl,r1,r2⟩:=rds2 hx
  cases Zc.mp r1;cases Zc.mp r2
  exact Za5 (hc.resolve_right (by simp[Su])) pins s σ w.H _ us Q I r ⟨_,_,rfl,a _ w _ M (Ext.refl w) R (Zc.mpr rfl) g⟩
 | list1=>
  obtain⟨x,rfl,g2⟩:=W3 g;clear g;have g:=g2
  obtain⟨v,rfl,r1⟩:=rds1 hx
  obtain⟨xs,g1,g2⟩:=g
  have:∃p vs,v= .ref p∧(SqL X.K w.H p vs∨SqT X.K w.H p vs)∧RDs w xs vs:=by
   rw[hK,←e0]
   unfold Ze4 at g1
   split at g1
   ·obtain⟨_,rfl⟩:=Zt.mp r1
    obtain⟨_,vs,q1,q2,_⟩:=R.listL g1
    exact⟨_,vs,rfl,.inl q1,q2⟩
   ·cases g1
    obtain⟨p,vs,rfl,q1,q2⟩:=X5.mp r1
    exact⟨_,vs,rfl,.inr (.of q1),q2⟩
   ·cases g1
    obtain⟨p,vs,rfl,q1,q2⟩:=T2.mp r1
    exact⟨_,vs,rfl,.inr q1,q2⟩
   ·cases g1
  obtain⟨p,vs,rfl,q1,q2⟩:=this
  refine Gv pins s σ w.H _ us Q I r ⟨p,vs,rfl,q1,fun l hl=>?_⟩
  obtain⟨x1,x2,x3⟩:=W5 R hl q2
  exact a _ _ _ _ x1 x2 x3 g2
 | dict1=>
  obtain⟨x,rfl,g2⟩:=W3 g;clear g;have g:=g2
  obtain⟨n,rfl,g2⟩:=X8 g;clear g;have g:=g2
  obtain⟨v,rfl,r1⟩:=rds1 hx
  obtain⟨_,rfl⟩:=Zt.mp r1
  rcases g with⟨xs,g1,g2⟩ | ⟨ps,g1,g2,g3⟩
  ·obtain⟨_,vs,q1,q2⟩:=R.dict g1
   refine Br pins s σ w.H _ us Q I r ⟨_,vs,rfl,q1,fun l hl=>?_⟩
   obtain⟨x1,x2,x3⟩:=Rz R hl q2
   exact a _ _ _ _ x1 x2 x3 g2
  ·obtain⟨_,vs,q1,q2,_⟩:=R.listL g1
   obtain⟨qs,z1,z2⟩:=Cy q2
   have hl2:=q2.length
   unfold Np at hl2
   rw[Ah] at hl2
   rw[e0,←hK] at q1 z1
   refine Z32 (hc.resolve_right (by simp[Su])) pins s σ w.H _ us Q I r ⟨_,vs,qs,rfl,q1,z1,by omega,fun l hl=>?_⟩
   obtain⟨x1,x2,x3⟩:=Rz R hl (J8 z2 (show RKV w [] [] by unfold RKV;rfl))
   exact a _ _ _ _ x1 x2 x3 g3
 | str1=>
  obtain⟨x,rfl,g2⟩:=W3 g;clear g;have g:=g2
  obtain⟨v,rfl,r1⟩:=rds1 hx
  rcases Ej g with⟨i,rfl,g⟩ | ⟨i,rfl,g⟩
  ·cases Zc.mp r1
   exact Gz pins s σ w.H _ us Q I r ⟨_,rfl,g.1,a _ w _ M (Ext.refl w) R (Zb.mpr rfl) g.2⟩
  ·cases Zb.mp r1
   exact Z81 pins s σ w.H _ us Q I r ⟨_,rfl,a _ w _ M (Ext.refl w) R (Zb.mpr rfl) g⟩
 | int1=>
  obtain⟨x,rfl,g2⟩:=W3 g;clear g;have g:=g2
  obtain⟨v,rfl,r1⟩:=rds1 hx
  rcases Zm4 g with⟨i,rfl,g⟩ | ⟨i,rfl,n,g1,g2,g3⟩
  ·cases Xq.mp r1
   exact Za7 pins s σ w.H _ us Q I r ⟨_,rfl,a _ w _ M (Ext.refl w) R (Zc.mpr rfl) g⟩
  ·cases Zb.mp r1
   exact Zc2 pins s σ w.H _ us Q I r ⟨_,n,rfl,g1,g2,a _ w _ M (Ext.refl w) R (Zc.mpr rfl) g3⟩
end
noncomputable def mtT:Mt→String
 | .append | .popi | .insi=>"list"
 | .split | .join | .starts | .ends=>"str"
noncomputable def mtN:Mt→Str
 | .append=>"append" | .popi=>"pop" | .insi=>"insert" | .split=>"split" | .join=>"join" | .starts=>"startswith" | .ends=>"endswith"
noncomputable def mtI:Mt→String
 | .split=>"str.split" | .join=>"str.join" | .starts=>"str.startswith" | .ends=>"str.endswith" | .popi=>"list.pop" | .insi=>"list.insert" | .append=>"list.append"
theorem Y23:∀m:Mt,PlainAttrs (mtT m)
 | .append | .popi | .insi=>PySem.F.plainAttrs_list
 | .split | .join | .starts | .ends=>PySem.F.plainAttrs_str
theorem Zb0:∀m:Mt,Slot (mtT m) (mtN m) (mtI m)
 | .split=>PySem.F.slot_str_split | .join=>PySem.F.slot_str_join | .starts=>PySem.F.slot_str_startswith | .ends=>PySem.F.slot_str_endswith | .popi=>PySem.F.slot_list_pop | .insi=>PySem.F.slot_list_insert | .append=>PySem.F.slot_list_append
theorem Y85:∀m:Mt,typeOf (.builtin (mtI m))=pure (.type "method_descriptor")
 | .split=>PySem.F.type_str_split | .join=>PySem.F.type_str_join | .starts=>PySem.F.type_str_startswith | .ends=>PySem.F.type_str_endswith | .popi=>PySem.F.type_list_pop | .insi=>PySem.F.type_list_insert | .append=>PySem.F.type_list_append
def rM(w0:Vw)(m:Mt):V→List V→Hp→VK→Prop:=fun x xs H Q=>∃w M dx ds QD,w.H=H∧w.K=w0.K∧RS w M∧RD w dx x∧RDs w ds xs∧mtD m dx ds M QD∧Aft w QD Q
theorem Zo7{w:Vw}{M:Z2}{m:Mt}{d:D}{x:V}(R:RS w M)(r:RD w d x)(h:mtK m d M):tyV w.K (mtT m) x w.H:=by
 have L:∀{n:Nat},RD w (.ref n) x→(Zd M n).isSome=true→tyV w.K "list" x w.H:=by
  intro n r h
  obtain⟨_,rfl⟩:=Zt.mp r
  obtain⟨xs,e⟩:=Option.isSome_iff_exists.mp h
  obtain⟨_,vs,q1,_⟩:=R.listL e
  exact .inl ⟨rfl,vs,q1⟩
 have K:∀{n:Nat},RD w (.ref n) x→(Vm M n).isSome=true→tyV w.K "dict" x w.H:=by
  intro n r h
  obtain⟨_,rfl⟩:=Zt.mp r
  obtain⟨xs,e⟩:=Option.isSome_iff_exists.mp h
  obtain⟨_,vs,q1,_⟩:=R.dict e
  exact .inr (.inr (.inl ⟨rfl,.inl ⟨vs,q1⟩⟩))
 rcases Cj h with⟨z,rfl,h⟩ | ⟨n,rfl,h⟩
 ·cases Zb.mp r
  cases m with
  | split=>exact rfl
  | join=>exact rfl
  | starts=>exact rfl
  | ends=>exact rfl
  | _=>exact absurd h Bool.false_ne_true
 cases m with
 | split=>exact h.elim
 | join=>exact h.elim
 | starts=>exact h.elim
 | ends=>exact h.elim
 | _=>exact L r h
theorem Z87{j n:Nat}(h:j<n):seqIndex? (j:Int) n=some j:=by
 unfold seqIndex?
 simp only[show ¬((j:Int)<0) by omega,if_false]
 simp
 omega
theorem RDs.eraseIdx{w:Vw}{xs:List D}{vs:List V}(r:RDs w xs vs)(j:Nat):RDs w (xs.eraseIdx j) (vs.eraseIdx j):=by
 rw[List.eraseIdx_eq_take_drop_succ,List.eraseIdx_eq_take_drop_succ]
 exact(r.take _).append (r.drop _)
section
variable{X:Cx}{w0:Vw}
theorem Ev{w:Vw}:∀{ys:List Str} {vs:List V},RDs w (ys.map .str) vs→vs=ys.map V.str
 | [],vs,h=>rds0 h
 | y::ys,vs,h=>by
  rw[Ch] at h
  unfold RDs at h
  obtain⟨v,r,rfl,h1,h2⟩:=h
  rw[Ev h2,Zb.mp h1]
  rfl
theorem Eg{w:Vw}:∀ys:List Str,RDs w (ys.map .str) (ys.map V.str)
 | []=>RDs.nil w
 | y::ys=>RDs.cons (Zb.mpr rfl) (Eg ys)
theorem Z79(hK:X.K=w0.K)(m:Mt)(pins:List (Addr×Obj))(s:Shared)(σ:L2.St)(H:Hp)(x:V)(xs:List V)(v:Value)(us:List Value)(Q:VK){w:Vw}{M:Z2}{ds:List D}{QD:DK}{z:Str}(I:Inv X pins σ w.H s)(rx:RelV x v)(r:Vals xs us)(e0:w.K=w0.K)(R:RS w M)(hx:RD w (.str z) x)(hs:RDs w ds xs)(g:mtS m z ds M QD)(a:Aft w QD Q):wpAny (model X.prog X.w) X.A (call (.builtin (mtI m)) (v::us)) (EP X pins σ Q) X.xe s:=by
 cases Zb.mp hx
 cases m with
 | split=>
  obtain⟨y,rfl,g⟩:=W3 g
  obtain⟨y,rfl,g1,g2,g3⟩:=Pd g
  obtain⟨u,rfl,ry⟩:=rds1 hs
  cases Zb.mp ry
  refine Zi4 pins s σ w.H _ _ v us Q I rx r ⟨_,_,rfl,rfl,g1,g2,fun l hl=>?_⟩
  obtain⟨x1,x2,x3⟩:=W5 R hl (Eg (w:=w) (Ko z y))
  exact a _ _ _ _ x1 x2 x3 g3
 | join=>
  obtain⟨y,rfl,g⟩:=W3 g
  obtain⟨n,rfl,ys,g1,g2,g3⟩:=X8 g
  obtain⟨u,rfl,ry⟩:=rds1 hs
  obtain⟨_,rfl⟩:=Zt.mp ry
  obtain⟨_,vs,q1,q2,_⟩:=R.listL g1
  rw[e0,←hK,Ev q2] at q1
  exact Zx4 pins s σ w.H _ _ v us Q I rx r ⟨_,_,ys,rfl,rfl,q1,g2,a _ w _ M (Ext.refl w) R (Zb.mpr rfl) g3⟩
 | starts=>
  obtain⟨y,rfl,g⟩:=W3 g
  obtain⟨y,rfl,g⟩:=Pd g
  obtain⟨u,rfl,ry⟩:=rds1 hs
  cases Zb.mp ry
  exact Z80 pins s σ w.H _ _ v us Q I rx r ⟨_,_,rfl,rfl,a _ w _ M (Ext.refl w) R (Xq.mpr rfl) g⟩
 | ends=>
  obtain⟨y,rfl,g⟩:=W3 g
  obtain⟨y,rfl,g⟩:=Pd g
  obtain⟨u,rfl,ry⟩:=rds1 hs
  cases Zb.mp ry
  exact Zw7 pins s σ w.H _ _ v us Q I rx r ⟨_,_,rfl,rfl,a _ w _ M (Ext.refl w) R (Xq.mpr rfl) g⟩
 | _=>exact g.elim
theorem Zg0(hK:X.K=w0.K)(hu:X.A.units+64<cLine)(m:Mt):MtR X (mtI m) (rM w0 m):=by
 intro pins s σ H x xs v us Q I rx r h
 obtain⟨w,M,dx,ds,QD,rfl,e0,R,hx,hs,g,a⟩:=h
 rcases Cj g with⟨z,rfl,g2⟩ | ⟨n,rfl,g2⟩
 ·clear g;have g:=g2
  exact Z79 hK m pins s σ w.H x xs v us Q I rx r e0 R hx hs g a
 clear g;have g:=g2
 cases m with
 | split=>exact g.elim
 | join=>exact g.elim
 | starts=>exact g.elim
 | ends=>exact g.elim
 | popi=>
  obtain⟨x,rfl,g2⟩:=W3 g;clear g;have g:=g2
  obtain⟨_,rfl⟩:=Zt.mp hx
  obtain⟨y,rfl,ry⟩:=rds1 hs
  obtain⟨ds,d,j,rfl,g1,g2,g3⟩:=g
  cases Zc.mp ry
  obtain⟨hn,vs,q1,q2⟩:=R.list g1
  obtain⟨z,z1,z2⟩:=q2.get g2
  have hj:j<vs.length:=(Af.mp z1).1
  have hz:=(I.hok _ _ q1).1
  have hb:((j:Nat):Int)<2 ^ 62:=by
   have:=Hv
   omega
  obtain⟨x1,x2⟩:=V2 R hn q1 (q2.eraseIdx j)
  exact Zg5 pins s σ w.H _ _ v us Q I rx r ⟨_,vs,_,j,z,rfl,rfl,q1,by omega,by omega,Z87 hj,z1,a _ _ _ _ x1 x2 (z2.ext x1) g3⟩
 | insi=>
  obtain⟨x0,x,rfl,g2⟩:=Qv g;clear g;have g:=g2
  obtain⟨_,rfl⟩:=Zt.mp hx
  obtain⟨y0,y,rfl,ry0,ry⟩:=rds2 hs
  obtain⟨ds,j,rfl,g1,gj,gz,g3⟩:=g
  cases Zc.mp ry0
  obtain⟨hn,vs,q1,q2⟩:=R.list g1
  obtain⟨x1,x2⟩:=V2 R hn q1 ((q2.take j).append (RDs.cons ry (q2.drop j)))
  exact E3 pins s σ w.H _ _ v us Q I rx r ⟨_,vs,j,y,rfl,rfl,q1,by rw[q2.length];exact gj,by rw[q2.length];exact gz,a _ _ _ _ x1 x2 (Yz.mpr rfl) g3⟩
 | append=>
  obtain⟨x,rfl,g2⟩:=W3 g;clear g;have g:=g2
  obtain⟨_,rfl⟩:=Zt.mp hx
  obtain⟨y,rfl,ry⟩:=rds1 hs
  obtain⟨ds,g1,g2,g3⟩:=g
  obtain⟨hn,vs,q1,q2⟩:=R.list g1
  obtain⟨x1,x2⟩:=V2 R hn q1 (q2.append (RDs.cons ry (RDs.nil w)))
  exact Qd pins s σ w.H _ _ v us Q I rx r ⟨_,vs,y,rfl,rfl,q1,by rw[q2.length];exact g2,a _ _ _ _ x1 x2 (Yz.mpr rfl) g3⟩
end
noncomputable def gF(w0:Vw)(tg:List Nat):TG:=fun v σ H Q=>∃w σD M d QD,StOk w0 w σD M σ H∧RD w d v∧tgD tg d σD QD∧∀σ' σD',REnv w σD' σ'→QD σD'→Q σ' H
noncomputable def gAll:List Nat→TGs
 | []=>gNil
 | i::is=>Y73 (Ze5 i) (gAll is)
theorem Nw{w:Vw}{H:Hp}{Q:L2.St→Hp→Prop}{QD:DEnv→Prop}(k:∀σ' σD',REnv w σD' σ'→QD σD'→Q σ' H):∀(is:List Nat) {ds:List D} {vs:List V} {σ:L2.St} {σD:DEnv},RDs w ds vs→ds.length=is.length→REnv w σD σ→
  QD ((is.zip ds).foldl (fun σ p=>σ.set p.1 (some p.2)) σD)→gAll is vs σ H Q
 | [],ds,vs,σ,σD,r,hl,e,q=>by
  cases Iu.mp hl
  cases rds0 r
  exact⟨rfl,k _ _ e q⟩
 | i::is,ds,vs,σ,σD,r,hl,e,q=>by
  cases ds with
  | nil=>simp at hl
  | cons d ds=>
   unfold RDs at r
   obtain⟨v,vr,rfl,h1,h2⟩:=r
   refine⟨v,vr,rfl,?_⟩
   show gAll is vr (σ.set i (some v)) H Q
   exact Nw k is h2 (by simpa using hl) (e.set i h1) q
section
variable{X:Cx}{w0:Vw}
theorem PG.imp{e:Expr}{t t':TG}(h:PG X e t)(k:∀v σ H Q,t' v σ H Q→t v σ H Q):PG X e t':=fun pins s σ H v u Q I r q=>h pins s σ H v u Q I r (k v σ H Q q)
theorem Y87{i:Nat}{e:Expr}(h:PG X e (Ze5 i)):PG X e (gF w0 [i]):=PG.imp h fun v σ H Q zz67=>by obtain⟨w,σD,M,d,QD,S,r,g,k⟩:=zz67;exact k _ _ (S.env.set i r) g
theorem Z53{is:List Nat}{e:Expr}(h:PG X e (gLst X.K is.length (gAll is))):PG X e (fun v σ H Q=>∃w σD M n ds,∃QD:DEnv→Prop,StOk w0 w σD M σ H∧X.K=w.K∧RD w (.ref n) v∧Zd M n=some ds∧ds.length=is.length∧QD ((is.zip ds).foldl (fun σ p=>σ.set p.1 (some p.2)) σD)∧∀σ' σD',REnv w σD' σ'→QD σD'→Q σ' H):=PG.imp h fun v σ H Q ⟨w,σD,M,n,ds,QD,S,hK,r,e1,g1,g2,k⟩=>by
 obtain⟨_,rfl⟩:=Zt.mp r
 obtain⟨_,vs,q1,q2,_⟩:=S.rs.listL e1
 rw[S.heap,←hK] at q1
 exact⟨_,vs,rfl,.inr q1,by rw[q2.length];exact g1,Nw k is q2 g1 S.env g2⟩
theorem Zv4{is:List Nat}{e:Expr}(hl:2≤is.length)(h:PG X e (gTup X.K is.length (gAll is))):PG X e (gF w0 is):=PG.imp h fun v σ H Q ⟨w,σD,M,d,QD,S,r,g,k⟩=>by
 unfold tgD at g
 split at g
 ·simp at hl
 ·obtain⟨a,vs,rfl,q1,q2⟩:=X5.mp r
  obtain⟨g1,g2⟩:=g
  rw[S.heap] at q1
  exact⟨a,vs,rfl,.of q1,by rw[q2.length];exact g1,Nw k is q2 g1 S.env g2⟩
 ·exact g.elim
end
structure Ck where
 N:List Str
 sc:Scope
 FN:List Str
 GN:List Str
 BN:List Str
 loops:Bool
 calm:Bool
 tries:Bool
 raises:List Nat
 cells:Bool
 own:List Str
noncomputable def Fq(scope:Scope):List Str:=(scope.names.filter fun y=>y.2== .cell).map (·.1)
noncomputable def Ck.vis(k:Ck)(x:Str):Bool:=(k.sc.names.lookup x==some .local || k.sc.names.lookup x==some .cell || k.sc.names.lookup x==some .free)&&!(x==("__debug__":Str))&&!(x==("__classdict__":Str))
noncomputable def Ck.glob(k:Ck)(x:Str):Bool:=k.sc.names.lookup x==some .globalImplicit&&!(x==("__debug__":Str))&&!(x==("__name__":Str))
noncomputable def Ck.loc(k:Ck)(x:Str):Bool:=k.sc.names.lookup x==some .local
noncomputable def Ck.locC(k:Ck)(x:Str):Bool:=k.loc x || ((k.cells || k.own.contains x)&&k.sc.names.lookup x==some .cell)
noncomputable def Z66:Expr→Bool
 | .Call (.Name x _) [] [] _=>x !=("super":Str)
 | _=>true
noncomputable def Fn:Expr→Bool
 | .Slice ..=>false
 | _=>true
noncomputable def Z62:Expr→Bool
 | .Set ..=>false
 | _=>true
noncomputable def Xo:Expr→Bool
 | .Starred ..=>false
 | _=>true
noncomputable def isIn:Cm→Bool
 | .isin | .notin=>true
 | _=>false
noncomputable def Z71(k:Ck):List Nat→List Expr→Bool
 | [],[]=>true
 | i::is,.Name x _::es=>k.N[i]?==some x&&k.locC x&&Z71 k is es
 | _,_=>false
noncomputable def G5(k:Ck)(is:List Nat):Expr→Bool
 | .Name x _=>match is with
  | [i]=>k.N[i]?==some x&&k.locC x
  | _=>false
 | .Tuple es _ _=>k.calm&&decide (2≤is.length)&&Z71 k is es
 | _=>false
noncomputable def chkP:List (Str×Str)→List (Option Expr)→List Expr→Bool
 | [],[],[]=>true
 | p::ps,some (.Constant (.str a) _ _)::ks,.Constant (.str b) _ _::vs=>p.1==a&&p.2==b&&chkP ps ks vs
 | _,_,_=>false
noncomputable def itTg:It→Expr→Bool
 | .enm _,.Tuple ..=>true
 | .enm _,_=>false
 | .zip _,.Tuple ..=>true
 | .zip _,_=>false
 | _,_=>true
noncomputable def isS:E→Str→Bool
 | .str y,z=>y==z
 | _,_=>false
theorem Yx{c:Prop}[Decidable c]{F:c→Bool}(h:(if q:c then F q else false)=true):∃q:c,F q=true:=by
 by_cases q:c
 ·rw[dif_pos q] at h;exact⟨q,h⟩
 ·rw[dif_neg q] at h;exact absurd h Bool.false_ne_true
noncomputable def To(zz:Expr)(F:Str→Bool):Bool:=if q:zz.ctorIdx=23 then Expr.Name.elim (motive_1:=fun _=>Bool) zz q (fun x _=>F x) else false
theorem X4{zz:Expr}{F:Str→Bool}(h:To zz F=true):∃x p,zz= .Name x p∧F x=true:=by
 obtain⟨q,h⟩:=Yx h
 exact Expr.Name.elim (motive_1:=fun zz=>∀q:zz.ctorIdx=23,Expr.Name.elim (motive_1:=fun _=>Bool) zz q (fun x _=>F x)=true→∃x p,zz= .Name x p∧F x=true) zz q (fun x p _ h=>⟨x,p,rfl,h⟩) q h
noncomputable def Qs(zz:Expr)(F:Const→Bool):Bool:=if q:zz.ctorIdx=19 then Expr.Constant.elim (motive_1:=fun _=>Bool) zz q (fun v _ _=>F v) else false
theorem Vb{zz:Expr}{F:Const→Bool}(h:Qs zz F=true):∃v j p,zz= .Constant v j p∧F v=true:=by
 obtain⟨q,h⟩:=Yx h
 exact Expr.Constant.elim (motive_1:=fun zz=>∀q:zz.ctorIdx=19,Expr.Constant.elim (motive_1:=fun _=>Bool) zz q (fun v _ _=>F v)=true→∃v j p,zz= .Constant v j p∧F v=true) zz q (fun v j p _ h=>⟨v,j,p,rfl,h⟩) q h
noncomputable def Y10(zz:Expr)(F:Expr→Operator→Expr→Bool):Bool:=if q:zz.ctorIdx=2 then Expr.BinOp.elim (motive_1:=fun _=>Bool) zz q (fun l o r _=>F l o r) else false
theorem Z60{zz:Expr}{F:Expr→Operator→Expr→Bool}(h:Y10 zz F=true):∃l o r p,zz= .BinOp l o r p∧F l o r=true:=by
 obtain⟨q,h⟩:=Yx h
 exact Expr.BinOp.elim (motive_1:=fun zz=>∀q:zz.ctorIdx=2,Expr.BinOp.elim (motive_1:=fun _=>Bool) zz q (fun l o r _=>F l o r)=true→∃l o r p,zz= .BinOp l o r p∧F l o r=true) zz q (fun l o r p _ h=>⟨l,o,r,p,rfl,h⟩) q h
noncomputable def onUn(zz:Expr)(F:UnaryOp→Expr→Bool):Bool:=if q:zz.ctorIdx=3 then Expr.UnaryOp.elim (motive_1:=fun _=>Bool) zz q (fun o l _=>F o l) else false
theorem Ep{zz:Expr}{F:UnaryOp→Expr→Bool}(h:onUn zz F=true):∃o l p,zz= .UnaryOp o l p∧F o l=true:=by
 obtain⟨q,h⟩:=Yx h
 exact Expr.UnaryOp.elim (motive_1:=fun zz=>∀q:zz.ctorIdx=3,Expr.UnaryOp.elim (motive_1:=fun _=>Bool) zz q (fun o l _=>F o l)=true→∃o l p,zz= .UnaryOp o l p∧F o l=true) zz q (fun o l p _ h=>⟨o,l,p,rfl,h⟩) q h
noncomputable def Y52(zz:Expr)(F:Expr→(List CmpOp)→(List Expr)→Bool):Bool:=if q:zz.ctorIdx=15 then Expr.Compare.elim (motive_1:=fun _=>Bool) zz q (fun l os rs _=>F l os rs) else false
theorem Z85{zz:Expr}{F:Expr→(List CmpOp)→(List Expr)→Bool}(h:Y52 zz F=true):∃l os rs p,zz= .Compare l os rs p∧F l os rs=true:=by
 obtain⟨q,h⟩:=Yx h
 exact Expr.Compare.elim (motive_1:=fun zz=>∀q:zz.ctorIdx=15,Expr.Compare.elim (motive_1:=fun _=>Bool) zz q (fun l os rs _=>F l os rs)=true→∃l os rs p,zz= .Compare l os rs p∧F l os rs=true) zz q (fun l os rs p _ h=>⟨l,os,rs,p,rfl,h⟩) q h
noncomputable def Zn6(zz:Expr)(F:BoolOp→(List Expr)→Bool):Bool:=if q:zz.ctorIdx=0 then Expr.BoolOp.elim (motive_1:=fun _=>Bool) zz q (fun o ls _=>F o ls) else false
theorem Z41{zz:Expr}{F:BoolOp→(List Expr)→Bool}(h:Zn6 zz F=true):∃o ls p,zz= .BoolOp o ls p∧F o ls=true:=by
 obtain⟨q,h⟩:=Yx h
 exact Expr.BoolOp.elim (motive_1:=fun zz=>∀q:zz.ctorIdx=0,Expr.BoolOp.elim (motive_1:=fun _=>Bool) zz q (fun o ls _=>F o ls)=true→∃o ls p,zz= .BoolOp o ls p∧F o ls=true) zz q (fun o ls p _ h=>⟨o,ls,p,rfl,h⟩) q h
noncomputable def Y41(zz:Expr)(F:(List Expr)→Bool):Bool:=if q:zz.ctorIdx=24 then Expr.List.elim (motive_1:=fun _=>Bool) zz q (fun ls _=>F ls) else false
theorem Z82{zz:Expr}{F:(List Expr)→Bool}(h:Y41 zz F=true):∃ls p,zz= .List ls p∧F ls=true:=by
 obtain⟨q,h⟩:=Yx h
 exact Expr.List.elim (motive_1:=fun zz=>∀q:zz.ctorIdx=24,Expr.List.elim (motive_1:=fun _=>Bool) zz q (fun ls _=>F ls)=true→∃ls p,zz= .List ls p∧F ls=true) zz q (fun ls p _ h=>⟨ls,p,rfl,h⟩) q h
noncomputable def Zw3(zz:Expr)(F:(List Expr)→Bool):Bool:=if q:zz.ctorIdx=25 then Expr.Tuple.elim (motive_1:=fun _=>Bool) zz q (fun ls _ _=>F ls) else false
theorem Jc{zz:Expr}{F:(List Expr)→Bool}(h:Zw3 zz F=true):∃ls j p,zz= .Tuple ls j p∧F ls=true:=by
 obtain⟨q,h⟩:=Yx h
 exact Expr.Tuple.elim (motive_1:=fun zz=>∀q:zz.ctorIdx=25,Expr.Tuple.elim (motive_1:=fun _=>Bool) zz q (fun ls _ _=>F ls)=true→∃ls j p,zz= .Tuple ls j p∧F ls=true) zz q (fun ls j p _ h=>⟨ls,j,p,rfl,h⟩) q h
noncomputable def Y06(zz:Expr)(F:(List (Option Expr))→(List Expr)→Bool):Bool:=if q:zz.ctorIdx=6 then Expr.Dict.elim (motive_1:=fun _=>Bool) zz q (fun ks vs _=>F ks vs) else false
theorem Za4{zz:Expr}{F:(List (Option Expr))→(List Expr)→Bool}(h:Y06 zz F=true):∃ks vs p,zz= .Dict ks vs p∧F ks vs=true:=by
 obtain⟨q,h⟩:=Yx h
 exact Expr.Dict.elim (motive_1:=fun zz=>∀q:zz.ctorIdx=6,Expr.Dict.elim (motive_1:=fun _=>Bool) zz q (fun ks vs _=>F ks vs)=true→∃ks vs p,zz= .Dict ks vs p∧F ks vs=true) zz q (fun ks vs p _ h=>⟨ks,vs,p,rfl,h⟩) q h
noncomputable def Zq8(zz:Expr)(F:Expr→Expr→Bool):Bool:=if q:zz.ctorIdx=21 then Expr.Subscript.elim (motive_1:=fun _=>Bool) zz q (fun l r _=>F l r) else false
theorem G8{zz:Expr}{F:Expr→Expr→Bool}(h:Zq8 zz F=true):∃l r p,zz= .Subscript l r p∧F l r=true:=by
 obtain⟨q,h⟩:=Yx h
 exact Expr.Subscript.elim (motive_1:=fun zz=>∀q:zz.ctorIdx=21,Expr.Subscript.elim (motive_1:=fun _=>Bool) zz q (fun l r _=>F l r)=true→∃l r p,zz= .Subscript l r p∧F l r=true) zz q (fun l r p _ h=>⟨l,r,p,rfl,h⟩) q h
noncomputable def Y69(zz:Expr)(F:(Option Expr)→(Option Expr)→(Option Expr)→Bool):Bool:=if q:zz.ctorIdx=26 then Expr.Slice.elim (motive_1:=fun _=>Bool) zz q (fun x y z _=>F x y z) else false
theorem Z55{zz:Expr}{F:(Option Expr)→(Option Expr)→(Option Expr)→Bool}(h:Y69 zz F=true):∃x y z p,zz= .Slice x y z p∧F x y z=true:=by
 obtain⟨q,h⟩:=Yx h
 exact Expr.Slice.elim (motive_1:=fun zz=>∀q:zz.ctorIdx=26,Expr.Slice.elim (motive_1:=fun _=>Bool) zz q (fun x y z _=>F x y z)=true→∃x y z p,zz= .Slice x y z p∧F x y z=true) zz q (fun x y z p _ h=>⟨x,y,z,p,rfl,h⟩) q h
noncomputable def Rr(zz:Expr)(F:Expr→(List Expr)→(List Keyword)→Pos→Bool):Bool:=if q:zz.ctorIdx=16 then Expr.Call.elim (motive_1:=fun _=>Bool) zz q (fun fn ls kws p=>F fn ls kws p) else false
theorem Xp{zz:Expr}{F:Expr→(List Expr)→(List Keyword)→Pos→Bool}(h:Rr zz F=true):∃fn ls kws p,zz= .Call fn ls kws p∧F fn ls kws p=true:=by
 obtain⟨q,h⟩:=Yx h
 exact Expr.Call.elim (motive_1:=fun zz=>∀q:zz.ctorIdx=16,Expr.Call.elim (motive_1:=fun _=>Bool) zz q (fun fn ls kws p=>F fn ls kws p)=true→∃fn ls kws p,zz= .Call fn ls kws p∧F fn ls kws p=true) zz q (fun fn ls kws p _ h=>⟨fn,ls,kws,p,rfl,h⟩) q h
noncomputable def Zp5(zz:Expr)(F:Expr→Str→Pos→Bool):Bool:=if q:zz.ctorIdx=20 then Expr.Attribute.elim (motive_1:=fun _=>Bool) zz q (fun l g p=>F l g p) else false
theorem Z15{zz:Expr}{F:Expr→Str→Pos→Bool}(h:Zp5 zz F=true):∃l g p,zz= .Attribute l g p∧F l g p=true:=by
 obtain⟨q,h⟩:=Yx h
 exact Expr.Attribute.elim (motive_1:=fun zz=>∀q:zz.ctorIdx=20,Expr.Attribute.elim (motive_1:=fun _=>Bool) zz q (fun l g p=>F l g p)=true→∃l g p,zz= .Attribute l g p∧F l g p=true) zz q (fun l g p _ h=>⟨l,g,p,rfl,h⟩) q h
noncomputable def onLC(zz:Expr)(F:Expr→(List Comprehension)→Scope→Bool):Bool:=if q:zz.ctorIdx=8 then Expr.ListComp.elim (motive_1:=fun _=>Bool) zz q (fun el gens scope _=>F el gens scope) else false
theorem Ez{zz:Expr}{F:Expr→(List Comprehension)→Scope→Bool}(h:onLC zz F=true):∃el gens scope p,zz= .ListComp el gens scope p∧F el gens scope=true:=by
 obtain⟨q,h⟩:=Yx h
 exact Expr.ListComp.elim (motive_1:=fun zz=>∀q:zz.ctorIdx=8,Expr.ListComp.elim (motive_1:=fun _=>Bool) zz q (fun el gens scope _=>F el gens scope)=true→∃el gens scope p,zz= .ListComp el gens scope p∧F el gens scope=true) zz q (fun el gens scope p _ h=>⟨el,gens,scope,p,rfl,h⟩) q h
noncomputable def on0{α:Type}(l:List α)(b:Bool):Bool:=match l with
 | []=>b
 | _::_=>false
noncomputable def on1{α:Type}(l:List α)(F:α→Bool):Bool:=match l with
 | []=>false
 | x::r=>on0 r (F x)
noncomputable def onC{α:Type}(l:List α)(F:α→List α→Bool):Bool:=match l with
 | []=>false
 | x::r=>F x r
theorem T6{α:Type}{l:List α}{b:Bool}(h:on0 l b=true):l=[]∧b=true:=by
 cases l with
 | nil=>exact⟨rfl,h⟩
 | cons _ _=>exact absurd h Bool.false_ne_true
theorem Vd{α:Type}{l:List α}{F:α→Bool}(h:on1 l F=true):∃x,l=[x]∧F x=true:=by
 cases l with
 | nil=>exact absurd h Bool.false_ne_true
 | cons x r=>obtain⟨rfl,h⟩:=T6 h;exact⟨x,rfl,h⟩
theorem E8{α:Type}{l:List α}{F:α→List α→Bool}(h:onC l F=true):∃x r,l=x::r∧F x r=true:=by
 cases l with
 | nil=>exact absurd h Bool.false_ne_true
 | cons x r=>exact⟨x,r,rfl,h⟩
noncomputable def noO{α:Type}(o:Option α)(b:Bool):Bool:=match o with
 | none=>b
 | some _=>false
theorem Zq4{α:Type}{o:Option α}{b:Bool}(h:noO o b=true):o=none∧b=true:=by
 cases o with
 | none=>exact⟨rfl,h⟩
 | some _=>exact absurd h Bool.false_ne_true
noncomputable def onZ(i:Int)(b:Bool):Bool:=match i with
 | .ofNat 0=>b
 | _=>false
theorem Zd5{i:Int}{b:Bool}(h:onZ i b=true):i=0∧b=true:=by
 rcases i with(_ | n) | n
 ·exact⟨rfl,h⟩
 ·exact absurd h Bool.false_ne_true
 ·exact absurd h Bool.false_ne_true
noncomputable def soO{α:Type}(o:Option α)(F:α→Bool):Bool:=match o with
 | none=>false
 | some x=>F x
theorem Zz2{α:Type}{o:Option α}{F:α→Bool}(h:soO o F=true):∃x,o=some x∧F x=true:=by
 cases o with
 | none=>exact absurd h Bool.false_ne_true
 | some x=>exact⟨x,rfl,h⟩
mutual
noncomputable def chkE(k:Ck):E→Expr→Bool
 | .var i,ex=>To ex fun x=>k.N[i]?==some x&&k.vis x
 | .int i,ex=>Qs ex fun v=>match v with
  | .int j=>i==j
  | _=>false
 | .bl b,ex=>Qs ex fun v=>match v with
  | .bool c=>b==c
  | _=>false
 | .non,ex=>Qs ex fun v=>match v with
  | .none=>true
  | _=>false
 | .str x,ex=>Qs ex fun v=>match v with
  | .str y=>x==y
  | _=>false
 | .ty t,ex=>To ex fun x=>x==Str.ofString (Xw t)&&k.glob x&&k.BN.contains x
 | .glb g,ex=>To ex fun x=>k.GN[g]?==some x&&k.glob x
 | .bin op a b,ex=>Y10 ex fun l o r=>o==opOf op&&chkE k a l&&chkE k b r
 | .neg a,ex=>onUn ex fun o l=>o== .USub&&chkE k a l
 | .not a,ex=>onUn ex fun o l=>o== .Not&&chkE k a l
 | .cmp op a b,ex=>Y52 ex fun l os rs=>on1 os fun o=>on1 rs fun r=>o==cmOf op&&(!isIn op || Z62 r)&&chkE k a l&&chkE k b r
 | .bop b es,ex=>Zn6 ex fun o ls=>o==(if b then .And else .Or)&&Tj k es ls
 | .lst es,ex=>Y41 ex fun ls=>Tj k es ls
 | .tup es,ex=>Zw3 ex fun ls=>Tj k es ls
 | .dct a b,ex=>Y06 ex fun ks vs=>on1 ks fun q=>soO q fun l=>on1 vs fun r=>chkE k a l&&chkE k b r
 | .ix a b,ex=>Zq8 ex fun l r=>Fn r&&chkE k a l&&chkE k b r
 | .sl a lo hi,ex=>Zq8 ex fun l r=>Y69 r fun x y z=>noO z (chkE k a l&&chkO k lo x&&chkO k hi y)
 | .slW a lo hi,.Subscript l (.Slice x y none _) _=>chkE k a l&&chkO k lo x&&chkO k hi y
 | .setf b a,.Call (.Name x _) [.Call (.Name y _) [l] [] _] [] _=>k.calm&&x==(if b then "sorted" else "len":Str)&&y==("set":Str)&&k.glob x&&k.glob y&&k.BN.contains x&&k.BN.contains y&&Xo l&&chkE k a l
 | .lrev a,.Call (.Name x _) [.Call (.Name y _) [l] [] _] [] _=>k.calm&&x==("list":Str)&&y==("reversed":Str)&&k.glob x&&k.glob y&&k.BN.contains x&&k.BN.contains y&&Xo l&&chkE k a l
 | .fstr es,.JoinedStr vs _=>decide (2≤vs.length)&&Fe k es vs
 | .allf a,.Call (.Name x _) [l] [] _=>k.calm&&x==("all":Str)&&k.glob x&&k.BN.contains x&&Xo l&&chkE k a l
 | .anyf a,.Call (.Name x _) [l] [] _=>k.calm&&x==("any":Str)&&k.glob x&&k.BN.contains x&&Xo l&&chkE k a l
 | .dctS ps,.Dict ks vs _=>decide (ps.length≤15)&&decide (0<ps.length)&&chkP ps ks vs
 | .call f es,ex=>Rr ex fun fn ls kws _=>To fn fun x=>on0 kws (k.calm&&k.FN[f]?==some x&&k.glob x&&Tj k es ls)
 | .bf b es,ex=>Rr ex fun fn ls kws _=>To fn fun x=>on0 kws (onC ls fun l ls=>(k.calm || Su b)&&x==(bfOf b).1&&k.glob x&&k.BN.contains x&&Tj k es (l::ls))
 | .mt m o es,ex=>Rr ex fun fn ls kws cp=>Zp5 fn fun l nm ap=>on0 kws (nm==mtN m&&Z66 l&&ap.endLine==cp.line&&decide (ls.length<30)&&chkE k o l&&Tj k es ls)
 | .comp N' js tg it cd e,ex=>onLC ex fun el gens scope=>on1 gens fun g=>match g with
  | ⟨t,iter,ifs,as⟩=>onZ as (k.calm&&Se k.sc k.N N' js scope&&Z62 iter&&Zh3 k it iter&&decide N'.Nodup&&
   G5 {k with N:=N',sc:=Vg scope k.sc,cells:=false,own:=Fq scope,tries:=false,raises:=[]} tg t&&chkC {k with N:=N',sc:=Vg scope k.sc,cells:=false,own:=Fq scope,tries:=false,raises:=[]} cd ifs&&chkE {k with N:=N',sc:=Vg scope k.sc,cells:=false,own:=Fq scope,tries:=false,raises:=[]} e el&&itTg it t)
 | _,_=>false
noncomputable def Fe(k:Ck):Es→List Expr→Bool
 | .nil,vs=>vs.isEmpty
 | .cons e r,vs=>match vs with
  | []=>false
  | x::xs=>(match x with
   | .FormattedValue v cv none _=>cv==(-1)&&chkE k e v
   | .Constant (.str z) _ _=>isS e z
   | _=>false)&&Fe k r xs
noncomputable def Tj(k:Ck):Es→List Expr→Bool
 | .nil,[]=>true
 | .cons e r,x::xs=>chkE k e x&&Xo x&&Tj k r xs
 | _,_=>false
noncomputable def chkO(k:Ck):Eo→Option Expr→Bool
 | .no,none=>true
 | .yes e,some x=>chkE k e x
 | _,_=>false
noncomputable def chkC(k:Ck):Eo→List Expr→Bool
 | .no,[]=>true
 | .yes e,[x]=>chkE k e x&&noIf e
 | _,_=>false
noncomputable def Zh3(k:Ck):It→Expr→Bool
 | .seq e,x=>chkE k e x
 | .rng1 a,ex=>Rr ex fun fn ls kws _=>To fn fun x=>on0 kws (on1 ls fun l=>x==("range":Str)&&k.glob x&&k.BN.contains x&&Xo l&&chkE k a l)
 | .rng2 a b,ex=>Rr ex fun fn ls kws _=>To fn fun x=>on0 kws (onC ls fun l ls=>on1 ls fun r=>x==("range":Str)&&k.glob x&&k.BN.contains x&&Xo l&&Xo r&&chkE k a l&&chkE k b r)
 | .enm e,ex=>Rr ex fun fn ls kws _=>To fn fun x=>on0 kws (on1 ls fun l=>x==("enumerate":Str)&&k.glob x&&k.BN.contains x&&Xo l&&chkE k e l)
 | .zip es,ex=>Rr ex fun fn ls kws _=>To fn fun x=>on0 kws (onC ls fun l ls=>x==("zip":Str)&&k.glob x&&k.BN.contains x&&Tj k es (l::ls))
noncomputable def noIf:E→Bool
 | .not a=>noIf a
 | .bop _ es=>Z22 es
 | _=>true
noncomputable def Z22:Es→Bool
 | .nil=>true
 | .cons e r=>noIf e&&Z22 r
end
def Zi8(X:Cx)(x:Str)(sp:DSp):Prop:=
 ∃(kk:Nat) (f:Addr) (fd:FuncData) (ps:List Str) (ds:List Value) (dvs:List V) (dD:List D) (sp0:DSp),FnOk X.prog X.w X.K X.mg X.base (CX1 X.prog X.w) kk f fd ps (spF X.K sp0)∧Room kk X.A∧X.mg x=some (.ref f)∧Ac X.K (.ref f)=true∧
  Y6 X.K fd ps ds∧Vals dvs ds∧(∀w:Vw,w.K=X.K→RDs w dD dvs)∧∀as M Q Z,sp as M Q Z→sp0 (as++dD) M Q Z
structure Good(c:Cfg)(k:Ck)(Z:DX)(w0:Vw)(X:Cx):Prop where
 hK:X.K=c.K
 wK:w0.K=c.K
 N:X.N=k.N
 nd:X.N.Nodup
 sc:X.env.scope=k.sc
 calm:k.calm=true→X.calm=true
 units:X.A.units+64<cLine
 fns:k.calm=true→∀(f:Nat) (x:Str) (sp:DSp),k.FN[f]?=some x→c.Γ[f]?=some sp→Zi8 X x sp
 flen:k.FN.length=c.Γ.length
 glb:∀(g:Nat) (x:Str) (d:D),k.GN[g]?=some x→c.G[g]?=some d→∃v u,X.mg x=some u∧RelV v u∧∀w:Vw,w.K=X.K→RD w d v
 blt:∀x,x∈k.BN→X.mg x=none
 exc:∃E,B9 (CX1 X.prog X.w) X E∧∀cls dd H',xkOf w0 Z cls dd H'→E cls dd H'
 stk:k.tries=true→X.stack=X.env::X.outer∧X.env.frame=some X.env.locals
 po:k.loops=true→PassesOwn (model X.prog X.w) X.A X.env X.xe
 fnc:k.cells=true→∀x,X.fn x=true
 fno:∀x,x∈k.own→X.fn x=true
theorem Z90{w w':Vw}{Z:DX}{cls:Value}{dd:Option Addr}{H':Hp}(x:Ext w w')(h:xkOf w' Z cls dd H'):xkOf w Z cls dd H':=by
 obtain⟨C,dx,r,w2,row,M,e1,e2,e3,e4,h5⟩:=h
 exact⟨C,dx,r,w2,row,M,e1,e2,e3,x.trans e4,h5⟩
def ttD(f:DE):DT:=fun σ M Q=>f σ M fun x M1=>truD M1 x fun b=>Q b M1
section
variable{c:Cfg}{k:Ck}{Z:DX}{w0:Vw}{X:Cx}
theorem Good.gl(G:Good c k Z w0 X){x:Str}(h:k.glob x=true):Gl X x∧(x==("__debug__":Str))=false∧x≠"__name__":=by
 unfold Ck.glob at h
 simp only[Bool.and_eq_true,beq_iff_eq,Bool.not_eq_true',beq_eq_false_iff_ne] at h
 refine⟨?_,by simpa using h.1.2,h.2⟩
 unfold Gl Env.kindOf
 rw[G.sc];exact h.1.1
theorem Good.vis(G:Good c k Z w0 X){x:Str}(h:k.vis x=true):Vis X.env.scope x∧(x==("__debug__":Str))=false∧(x==("__classdict__":Str))=false:=by
 unfold Ck.vis at h
 simp only[Bool.and_eq_true,beq_iff_eq,Bool.not_eq_true',Bool.or_eq_true] at h
 refine⟨?_,h.1.2,h.2⟩
 unfold Vis
 rw[G.sc]
 rcases h.1.1 with(q | q) | q
 ·exact .inl q
 ·exact .inr (.inl q)
 ·exact .inr (.inr q)
theorem Good.locC(G:Good c k Z w0 X){x:Str}(h:k.locC x=true):Loc X.env.scope x∧(X.fn x=true∨X.env.scope.names.lookup x=some .local):=by
 unfold Ck.locC Ck.loc at h
 rw[Bool.or_eq_true,Bool.and_eq_true] at h
 rcases h with h | ⟨h1,h2⟩
 ·have hl:X.env.scope.names.lookup x=some .local:=by rw[G.sc];exact Iy h
  exact⟨.inl hl,.inr hl⟩
 ·refine⟨.inr (by rw[G.sc];exact Iy h2),.inl ?_⟩
  rw[Bool.or_eq_true,Dq] at h1
  rcases h1 with z | z
  ·exact G.fnc z x
  ·exact G.fno x z
theorem Good.eK(G:Good c k Z w0 X):X.K=w0.K:=G.hK.trans G.wK.symm
theorem StOk.K{w w0:Vw}{σD:DEnv}{M:Z2}{σ:L2.St}{H:Hp}(S:StOk w0 w σD M σ H):w.K=w0.K:=S.ext.K
theorem Yj{f:DE}{σ:L2.St}{w:Vw}{σD:DEnv}{M:Z2}{H:Hp}{Q:VK}{QD:DK}(S:StOk w0 w σD M σ H)(h:f σD M QD)(a:Aft w QD Q):tF w0 f σ H Q:=⟨w,σD,M,QD,S,h,a⟩
theorem Jk{l:Expr}{nm:Str}{env:Env}(h:Z66 l=true):attributeBase l nm env (eval l env)=eval l env:=by
 unfold attributeBase
 split
 ·rename_i id np pos
  have:(id !="super" || nm=="__class__" || env.kindOf "super" !=some .globalImplicit || env.kindOf "__class__" !=some .free)=true:=by
   have:(id !=("super":Str))=true:=h
   rw[this];rfl
  simp only[this,if_true]
 ·rfl
theorem Zl{x:Expr}{xs:List Expr}{env:Env}(h:Xo x=true):starEach (x::xs) env=(false,eval x env)::starEach xs env:=by
 cases x<;>first | rfl | cases h
theorem V3{k:Ck}{env:Env}:∀(es:Es) (xs:List Expr),Tj k es xs=true→(starEach xs env).all (fun p=> !p.1)=true
 | .nil,[],_=>rfl
 | .nil,_::_,h=>absurd h Bool.false_ne_true
 | .cons e r,[],h=>absurd h Bool.false_ne_true
 | .cons e r,x::xs,h=>by
  simp only[Tj,Bool.and_eq_true] at h
  rw[Zl h.1.2]
  simp only[Hz,Bool.not_false,Bool.true_and]
  exact V3 r xs h.2
theorem Q5{pos:Pos}{l:List (Bool×Sem Value)}(h:l.all (fun p=> !p.1)=true):(backTo pos l).any (·.1)=false:=by
 induction l with
 | nil=>rfl
 | cons p r ih=>
  simp only[Hz,Bool.and_eq_true,Bool.not_eq_true'] at h
  show(p.1 || (backTo pos r).any (·.1))=false
  rw[h.1,ih h.2];rfl
theorem Zf3{pos:Pos}{l:List (Bool×Sem Value)}(h:l.all (fun p=> !p.1)=true):(backTo pos l).all (fun x=> !x.1)=true:=by
 induction l with
 | nil=>rfl
 | cons p r ih=>
  simp only[Hz,Bool.and_eq_true] at h
  show((!p.1)&&(backTo pos r).all (fun x=> !x.1))=true
  rw[h.1,ih h.2];rfl
theorem Yd0{f:DE}{ex:Expr}(G:Good c k Z w0 X)(h:PE X ex (tF w0 f))(he:∀whole,isTrue ex X.env whole=(do let v ←whole;standAt ex.pos;holding [v] (truthy v))):PT X ex (tFT w0 (ttD f)):=by
 refine PT.imp (Zi9 h he) fun σ H Q zz70=>?_
 obtain⟨w,σD,M,QD,S,g,a⟩:=zz70
 refine Yj S g fun v w' d M' x r rd q=>?_
 obtain⟨b,t1,t2⟩:=S6 (K:=X.K) (by rw[x.K,S.K,G.eK]) r rd q
 exact⟨b,t1,a b w' M' x r t2⟩
theorem Zy5{f:DE}{ex:Expr}(h:PT X ex (Y61 (tF w0 f)))(hb:∀σD M QD,f σD M QD→f σD M fun d M'=>(∃b,d= .bl b)∧QD d M'):PT X ex (tFT w0 (ttD f)):=by
 refine PT.imp h fun σ H Q zz71=>?_
 obtain⟨w,σD,M,QD,S,g,a⟩:=zz71
 refine Yj S (hb _ _ _ g) fun v w' d M' x r rd q=>?_
 obtain⟨⟨b,rfl⟩,q⟩:=q
 cases Xq.mp rd
 exact⟨b,rfl,a b w' M' x r q⟩
theorem Z77{fa fb:DE}{g:D→D→Z2→DK→Prop}{σ:L2.St}{H:Hp}{Q:VK}(h:tF w0 (fun σD M QD=>fa σD M fun x M1=>fb σD M1 fun y M2=>g x y M2 QD) σ H Q):tOp (rF w0 g) (tF w0 fa) (tF w0 fb) σ H Q:=by
 obtain⟨w,σD,M,QD,S,g0,a⟩:=h
 refine Yj S g0 fun x w1 dx M1 x1 r1 rx q1=>?_
 refine Yj (S.next x1 r1) q1 fun y w2 dy M2 x2 r2 ry q2=>?_
 exact⟨w2,M2,dx,dy,QD,rfl,(S.ext.trans x1).trans x2,r2,rx.ext x2,ry,q2,a.ext (x1.trans x2)⟩
theorem Gj{fa fb:DE}{g:Z2→D→D→(Bool→Prop)→Prop}{σ:L2.St}{H:Hp}{Q:VK}(h:tF w0 (fun σD M QD=>fa σD M fun x M1=>fb σD M1 fun y M2=>g M2 x y fun b=>QD (.bl b) M2) σ H Q):tOp (rB w0 g) (tF w0 fa) (tF w0 fb) σ H Q:=by
 obtain⟨w,σD,M,QD,S,g0,a⟩:=h
 refine Yj S g0 fun x w1 dx M1 x1 r1 rx q1=>?_
 refine Yj (S.next x1 r1) q1 fun y w2 dy M2 x2 r2 ry q2=>?_
 exact⟨w2,M2,dx,dy,_,rfl,((S.ext.trans x1).trans x2).K,r2,rx.ext x2,ry,q2,fun b hb=>a _ w2 _ M2 (x1.trans x2) r2 (Xq.mpr rfl) hb⟩
theorem Zs5{a:Expr}{ta:TE}{pos:Pos}(ha:PE X a ta):PE X (.UnaryOp .Not a pos) (fun σ H Q=>ta σ H fun x H1=>∃b,TruV X.K x H1 b∧Q (.bl (!b)) H1):=by
 intro pins s σ H Q I h
 refine UnaryOp_ (thn (ha pins s σ H _ I h) fun v s1 zz72=>?_)
 obtain⟨x,H1,I1,r1,q1⟩:=zz72
 refine not_of (thn (Bd pins s1 σ H1 x v (fun b H2=>Q (.bl (!b)) H2) I1 r1 q1) fun b s2 zz73=>by obtain⟨H2,I2,q2⟩:=zz73;exact⟨.bl (!b),H2,I2,rfl,q2⟩)
theorem Zw4(t:Ty):bootBuiltins (Str.ofString (Xw t))=some (.type (Xw t)):=by
 cases t
 ·exact boot_int
 ·exact boot_str
 ·exact boot_bool
 ·exact boot_list
 ·exact boot_tuple
 ·exact boot_dict
 ·show bootBuiltins "ValueError"=some (.type "ValueError")
  decide+kernel
theorem Qa:bootBuiltins "sorted"=some (.builtin "sorted"):=by decide+kernel
theorem Zl9:bootBuiltins "set"=some (.type "set"):=by decide+kernel
theorem J9:bootBuiltins "reversed"=some (.type "reversed"):=by decide+kernel
theorem Zh8:bootBuiltins "all"=some (.builtin "all"):=by decide+kernel
theorem Zh7:bootBuiltins "any"=some (.builtin "any"):=by decide+kernel
theorem Zq1(b:Bf):bootBuiltins (bfOf b).1=some (bfOf b).2:=by
 cases b<;>first | exact PySem.boot_len | exact boot_isinstance | exact PyProof.Rows.boot_min | exact PyProof.Rows.boot_max | exact boot_list | exact boot_tuple | exact boot_dict | exact boot_str | exact Qa | exact boot_int
end
def JOk(w1:Vw)(J:L2.It)(own:Own)(xs:List D):Prop:=∀w M,Ext w1 w→RS w M→Ph own xs M→∀i:Nat,
 (∀d,xs[i]?=some d→J.go i w.H∧∀x H',J.yld i w.H x H'→∃w',w'.H=H'∧Ext w w'∧RS w' M∧RD w' d x)∧(xs.length≤i→J.stop i w.H)
def iF(w0:Vw)(f:DEnv→Z2→(Own→List D→Z2→Prop)→Prop):TI:=fun σ H R=>∃w σD M QD,StOk w0 w σD M σ H∧f σD M QD∧
 ∀J w' own xs M',Ext w w'→RS w' M'→JOk w' J own xs→QD own xs M'→R J w'.H
section
variable{c:Cfg}{k:Ck}{Z:DX}{w0:Vw}{X:Cx}
theorem PI.imp{tg it:Expr}{t t':TI}(h:PI X tg it t)(q:∀σ H R,t' σ H R→t σ H R):PI X tg it t':=fun pins s σ H R I z=>h pins s σ H R I (q σ H R z)
theorem Y01{tg l:Expr}{tl:TE}(hl:PE X l tl):PI X tg l (fun σ H R=>tl σ H fun x H1=>(∃a,x= .ref a∧(∃xs,SqL X.K H1 a xs)∧R (Itl X.K a) H1)∨(∃a,x= .ref a∧(∃xs,SqT X.K H1 a xs)∧R (Itt X.K a) H1)∨∃z,x= .str z∧R (Its z) H1):=by
 intro pins s σ H R I h
 refine thn (hl pins s σ H _ I h) fun v s1 zz74=>?_
 obtain⟨x,H1,I1,r1,q1⟩:=zz74
 have fp:∀b∈[s1.heap.objs.size],FpOk X pins H1 b:=fun b hb=>by
  have e:b=s1.heap.objs.size:=by simpa using hb
  subst e
  exact I1.fpOk (Nat.le_refl _) (I1.hok.fresh (Nat.le_refl _))
 rcases q1 with⟨a,e,⟨xs,hq⟩,q⟩ | ⟨a,e,⟨xs,hq⟩,q⟩ | ⟨z,e,q⟩
 rotate_left 2
 ·subst e
  obtain⟨t,rfl⟩:=r1
  exact Zi5 I1 q
 ·subst e
  cases r1
  obtain⟨its,rv,p,hz⟩:=I1.list hq
  refine Ky p.isList ?_
  exact⟨s1.heap.objs.size,[s1.heap.objs.size],_,_,H1,rfl,I1.kept (t':=s1.toks) fun b o e=>Ad _ e,Za9 a _,⟨_,Al _ rfl,rfl,rfl⟩,fp,q⟩
 ·subst e
  cases r1
  obtain⟨its,rv,p,hz⟩:=I1.tuple hq
  refine wpAny_pyIter_tuple (show s1.heap.IsTuple a its.toArray from p) ?_
  exact⟨s1.heap.objs.size,[s1.heap.objs.size],_,_,H1,rfl,I1.kept (t':=s1.toks) fun b o e=>Ad _ e,Z39 a _,⟨_,Al _ rfl,rfl,rfl⟩,fp,q⟩
theorem Zg7{w1:Vw}{n:Nat}{xs:List D}(hK:X.K=w1.K)(hn:n<w1.n):JOk w1 (Itl X.K (w1.μ n)) (.lst n) xs:=by
 intro w M x R st i
 obtain⟨_,vs,q1,q2,_⟩:=R.listL st
 rw[x.μ n hn,x.K,←hK] at q1
 refine⟨fun d e=>?_,fun hl=>⟨vs,q1,by rw[q2.length];exact hl⟩⟩
 obtain⟨v,z1,z2⟩:=q2.get e
 refine⟨⟨vs,v,q1,z1⟩,fun y H' ⟨e1,e2⟩=>⟨w,e1.symm,Ext.refl w,R,?_⟩⟩
 have:=e2 vs q1
 rw[z1] at this
 cases this
 exact z2
theorem Zj3{w1:Vw}{n:Nat}{xs:List D}(hK:X.K=w1.K)(hn:n<w1.n):JOk w1 (Ite X.K (w1.μ n)) (.enm n) xs:=by
 intro w M x R st i
 obtain⟨ys,st,rfl⟩:=st
 obtain⟨_,vs,q1,q2,_⟩:=R.listL st
 rw[x.μ n hn,x.K,←hK] at q1
 refine⟨fun d e=>?_,fun hl=>⟨vs,q1,by rw[q2.length];unfold Ec at hl;rw[List.length_mapIdx] at hl;exact hl⟩⟩
 unfold Ec at e
 rw[List.getElem?_mapIdx,Hw] at e
 obtain⟨d,e,rfl⟩:=e
 obtain⟨v,z1,z2⟩:=q2.get e
 refine⟨⟨vs,v,q1,z1⟩,fun y H' zz76=>?_⟩
 obtain⟨p,u,hp,e1,e2,e3⟩:=zz76
 have:=e3 vs q1
 rw[z1] at this
 cases this
 subst e1 e2
 obtain⟨a1,a2,a3⟩:=Tw R hp (RDs.cons (Zc.mpr (rfl:V.int (i:Int)=_)) (RDs.cons z2 (RDs.nil w)))
 exact⟨_,rfl,a1,a2,a3⟩
theorem Za0{w:Vw}{ys zs:List D}{us vs:List V}(h1:RDs w ys us)(h2:RDs w zs vs){i:Nat}{d:D}(e:(zipT ys zs)[i]?=some d):∃x y u v,d= .tup [x,y]∧us[i]?=some u∧vs[i]?=some v∧RD w x u∧RD w y v:=by
 unfold zipT at e
 rw[Aq,Hw] at e
 obtain⟨p,e,rfl⟩:=e
 rw[List.getElem?_zip_eq_some] at e
 obtain⟨u,a1,a2⟩:=h1.get e.1
 obtain⟨v,b1,b2⟩:=h2.get e.2
 exact⟨_,_,u,v,rfl,a1,b1,a2,b2⟩
theorem Zx7{w1:Vw}{n m:Nat}{xs:List D}(hK:X.K=w1.K)(hn:n<w1.n)(hm:m<w1.n):JOk w1 (Itz X.K (w1.μ n) (w1.μ m)) (.two n m) xs:=by
 intro w M x R st i
 obtain⟨ys,zs,st,st2,rfl⟩:=st
 obtain⟨_,us,q1,q2,_⟩:=R.listL st
 obtain⟨_,vs,p1,p2,_⟩:=R.listL st2
 rw[x.μ n hn,x.K,←hK] at q1
 rw[x.μ m hm,x.K,←hK] at p1
 refine⟨fun d e=>?_,fun hl=>⟨us,vs,q1,p1,?_⟩⟩
 ·obtain⟨dx,dy,u,v,rfl,a1,a2,a3,a4⟩:=Za0 q2 p2 e
  refine⟨⟨us,vs,u,v,q1,p1,a1,a2⟩,fun y H' zz77=>?_⟩
  obtain⟨p,u',v',hp,e1,e2,e3,e4⟩:=zz77
  have h3:=e3 us q1
  have h4:=e4 vs p1
  rw[a1] at h3
  rw[a2] at h4
  cases h3
  cases h4
  subst e1 e2
  obtain⟨b1,b2,b3⟩:=Tw R hp (RDs.cons a3 (RDs.cons a4 (RDs.nil w)))
  exact⟨_,rfl,b1,b2,b3⟩
 ·have l1:=q2.length
  have l2:=p2.length
  unfold zipT at hl
  rw[Ah,List.length_zip] at hl
  omega
theorem Zk7{M:Z2}{a b:D}{Q:Own→List D→Prop}(h:zip2 M a b Q):(∃n m ys zs,a= .ref n∧b= .ref m∧Zd M n=some ys∧Zd M m=some zs∧Q (.two n m) (zipT ys zs))∨(∃ys zs,a= .tup ys∧b= .tup zs∧Q .no (zipT ys zs)):=by
 cases a with
 | ref n=>
  obtain⟨m,rfl,ys,zs,h1,h2,h3⟩:=X8 h
  exact .inl ⟨n,m,ys,zs,rfl,rfl,h1,h2,h3⟩
 | tup ys=>
  obtain⟨zs,rfl,h1⟩:=Qj h
  exact .inr ⟨ys,zs,rfl,rfl,h1⟩
 | _=>exact Di h
theorem Ze9{w1:Vw}{a b:Addr}{ys zs:List D}{us vs:List V}(ha:w1.H a=some (.tup us))(hb:w1.H b=some (.tup vs))(hr:RDs w1 ys us)(hs:RDs w1 zs vs):JOk w1 (Itzt X.K a b us vs) .no (zipT ys zs):=by
 intro w M x R st i
 have q1:SqT X.K w.H a us:= .of (x.imm _ _ ha rfl)
 have p1:SqT X.K w.H b vs:= .of (x.imm _ _ hb rfl)
 have q2:=hr.ext x
 have p2:=hs.ext x
 refine⟨fun d e=>?_,fun hl=>⟨q1,p1,?_⟩⟩
 ·obtain⟨dx,dy,u,v,rfl,a1,a2,a3,a4⟩:=Za0 q2 p2 e
  refine⟨⟨u,v,q1,p1,a1,a2⟩,fun y H' zz78=>?_⟩
  obtain⟨p,u',v',hp,e1,e2,e3,e4⟩:=zz78
  rw[a1] at e3
  rw[a2] at e4
  cases e3
  cases e4
  subst e1 e2
  obtain⟨b1,b2,b3⟩:=Tw R hp (RDs.cons a3 (RDs.cons a4 (RDs.nil w)))
  exact⟨_,rfl,b1,b2,b3⟩
 ·have l1:=q2.length
  have l2:=p2.length
  unfold zipT at hl
  rw[Ah,List.length_zip] at hl
  omega
theorem Zt5{w1:Vw}{z:Str}:JOk w1 (Its z) .no (Nn z):=by
 intro w M x R st i
 have hl:(Nn z).length=z.length:=by unfold Nn;rw[Ah];simp[Str.length]
 refine⟨fun d e=>⟨?_,fun y H' ⟨e1,c,e2,e3⟩=>?_⟩,fun h=>by rw[hl] at h;exact h⟩
 ·have:=(Af.mp e).1
  rw[hl] at this
  exact this
 ·unfold Nn at e
  rw[Aq,e2] at e
  cases e
  exact⟨w,e1.symm,Ext.refl w,R,by rw[e3];exact Zb.mpr rfl⟩
theorem Z67{w1:Vw}{a:Addr}{vs:List V}{xs:List D}(hK:X.K=w1.K)(h:SqT w1.K w1.H a vs)(r:RDs w1 xs vs):JOk w1 (Itt X.K a) .no xs:=by
 intro w M x R st i
 have q1:=x.sqT h
 rw[x.K,←hK] at q1
 have q2:=r.ext x
 refine⟨fun d e=>?_,fun hl=>⟨vs,q1,by rw[q2.length];exact hl⟩⟩
 obtain⟨v,z1,z2⟩:=q2.get e
 refine⟨⟨vs,v,q1,z1⟩,fun y H' ⟨e1,e2⟩=>⟨w,e1.symm,Ext.refl w,R,?_⟩⟩
 have:=e2 vs q1
 rw[z1] at this
 cases this
 exact z2
theorem Z57{w1:Vw}{lo:Int}{n:Nat}:JOk w1 (Itr lo n) .no (S3 lo n):=by
 intro w M x R st i
 unfold S3
 refine⟨fun d e=>?_,fun hl=>?_⟩
 ·rw[Aq,Hw] at e
  obtain⟨j,h1,rfl⟩:=e
  obtain⟨h2,h3⟩:=Af.mp h1
  have hj:j=i:=by simpa using h3.symm
  subst hj
  have h4:j<n:=by simpa using h2
  exact⟨h4,fun y H' zz81=>by obtain⟨e1,e2⟩:=zz81;exact⟨w,e1.symm,Ext.refl w,R,by rw[e2];exact Zc.mpr rfl⟩⟩
 ·have:n≤i:=by simpa using hl
  exact this
theorem Z98{X:Cx}{N':List Str}{scope:Scope}{cl:List (Str×Addr)}{C:Addr}{fp:List Addr}{pins:List (Addr×Obj)}{s:Shared}{H:Hp}:(cxC X N' scope cl C fp pins s H).env.scope=Vg scope X.env.scope:=rfl
theorem Good.block(G:Good c k Z w0 X)(hc:k.calm=true){N':List Str}{scope:Scope}(hn:N'.Nodup)(cl:List (Str×Addr))(C:Addr)(fp:List Addr)(pins:List (Addr×Obj))(s:Shared)(H:Hp):
  Good c {k with N:=N',sc:=Vg scope k.sc,cells:=false,own:=Fq scope,tries:=false,raises:=[]} noX w0 (cxC X N' scope cl C fp pins s H) where
 hK:=G.hK
 wK:=G.wK
 N:=rfl
 nd:=hn
 sc:=by rw[Z98,G.sc]
 calm:=fun _=>G.calm hc
 units:=G.units
 fns:=fun _ f x sp h1 h2=>by
  obtain⟨kk,f,fd,ps,ds,dvs,dD,sp0,h⟩:=G.fns hc f x sp h1 h2
  exact⟨kk,f,fd,ps,ds,dvs,dD,sp0,h⟩
 flen:=G.flen
 glb:=G.glb
 blt:=G.blt
 exc:=⟨E0,fun _ _ _ _ _ _ _ h=>by
  obtain⟨_,_,_,_,_,_,_,_,_,_,_,_,_,_,_,h⟩:=h
  exact h.elim,fun cls dd H' h=>by
  obtain⟨_,_,_,_,_,_,_,_,_,_,_,_,_,h⟩:=h
  exact h.elim⟩
 stk:=fun h=>by cases h
 po:=fun _=>PassesOwn.never
 fnc:=fun h=>by cases h
 fno:=fun x hx=>by
  show(scope.names.any fun y=>y.1==x&&y.2==Hk)=true
  have hx:x∈(scope.names.filter fun y=>y.2==Hk).map (·.1):=hx
  obtain⟨y,hy,rfl⟩:=Dg.mp hx
  obtain⟨h1,h2⟩:=List.mem_filter.mp hy
  rw[Kj]
  exact⟨y,h1,by rw[beq_self_eq_true,Bool.true_and];exact h2⟩
theorem Good.tgs(G:Good c k Z w0 X):∀(is:List Nat) (es:List Expr),Z71 k is es=true→PGs X es (gAll is)∧(assignEach es X.env).length=is.length∧(assignEach es X.env).findIdx? (·.1)=none:=by
 have one:∀(i:Nat) (x:Str) (pos:Pos),k.N[i]?=some x→k.locC x=true→PG X (.Name x pos) (Ze5 i):=fun i x pos h1 h2=>by
  obtain⟨l1,l2⟩:=G.locC h2
  exact Z92 G.nd (by rw[G.N];exact h1) l1 l2
 intro is
 induction is with
 | nil=>
  intro es h
  cases es with
  | nil=>exact⟨Zu3,rfl,rfl⟩
  | cons e es=>exact absurd h Bool.false_ne_true
 | cons i is ih=>
  intro es h
  cases es with
  | nil=>exact absurd h Bool.false_ne_true
  | cons e es=>
   cases e with
   | Name x pos=>
    change (_&&_)=true at h
    simp only[Bool.and_eq_true,beq_iff_eq] at h
    obtain⟨h1,h2,h3⟩:=ih es h.2
    refine⟨Zi1 (one i x pos h.1.1 h.1.2) h1 rfl,?_,?_⟩
    ·show(assignEach es X.env).length+1=is.length+1
     rw[h2]
    ·show((false,_)::assignEach es X.env).findIdx? (·.1)=none
     rw[List.findIdx?_cons,h3]
     rfl
   | _=>exact absurd h Bool.false_ne_true
theorem Good.tgt(G:Good c k Z w0 X):∀(is:List Nat) (ex:Expr),G5 k is ex=true→PG X ex (gF w0 is):=by
 have one:∀(i:Nat) (x:Str) (pos:Pos),k.N[i]?=some x→k.locC x=true→PG X (.Name x pos) (Ze5 i):=fun i x pos h1 h2=>by
  obtain⟨l1,l2⟩:=G.locC h2
  exact Z92 G.nd (by rw[G.N];exact h1) l1 l2
 have many:=G.tgs
 intro is ex h
 cases ex with
 | Name x pos=>
  match is,h with
  | [i],h=>
   change (_&&_)=true at h
   simp only[Bool.and_eq_true,beq_iff_eq] at h
   exact Y87 (one _ x pos h.1 h.2)
  | [],h=>exact absurd h Bool.false_ne_true
  | _::_::_,h=>exact absurd h Bool.false_ne_true
 | Tuple es kk pos=>
  change (_&&_)=true at h
  simp only[Bool.and_eq_true,decide_eq_true_eq] at h
  obtain⟨h1,h2,h3⟩:=many is es h.2
  exact Zv4 h.1.2 (Zp9 (G.calm h.1.1) h1 h2 h3)
 | _=>exact absurd h Bool.false_ne_true
theorem Zt3{w:Vw}{js:List (Option Nat)}{σD:DEnv}{σ:L2.St}(h:REnv w σD σ):REnv w (capD js σD) (Sn js σ):=by
 refine⟨by unfold capD Sn;simp,fun i d e=>?_⟩
 unfold capD at e
 unfold Sn
 rw[Aq] at e ⊢
 cases hj:js[i]? with
 | none=>rw[hj] at e;cases e
 | some o=>
  rw[hj] at e
  simp only[Option.map_some,Mj.injEq] at e ⊢
  cases o with
  | none=>cases e
  | some j=>
   simp only[Option.bind_some] at e ⊢
   cases hz:σD[j]? with
   | none=>rw[hz] at e;cases e
   | some z=>
    rw[hz] at e
    have e':z=some d:=e
    subst e'
    obtain⟨v,q1,q2⟩:=h.2 j d hz
    exact⟨v,by rw[q1];rfl,q2⟩
theorem Zn3{w1:Vw}{J:L2.It}{own:Own}{xs:List D}{tg:List Nat}{cd:DT}{el:DE}{M1:Z2}{H1:Hp}{σD:DEnv}{σ:L2.St}{QD:Z2→Prop}{Q:VK}(e0:Ext w0 w1)(hH:w1.H=H1)(R1:RS w1 M1)(env:REnv w1 σD σ)(jk:JOk w1 J own xs)
  (h:Js own xs tg cd el M1.length xs σD (M1++[.lst []]) QD) (a:Aft w1 (fun d M=>d= .ref M1.length∧QD M) Q):∀p,H1 p=none→∃W:Nat→Nat→L2.St→Hp→Prop,(∃m,W 0 m σ (upd H1 p (.lst [])))∧
   ∀i m σc Hc,W i m σc Hc→(J.stop i Hc∧Q (.ref p) Hc)∨(J.go i Hc∧∀x H',J.yld i Hc x H'→gF w0 tg x σc H' fun σ2 H2=>tFT w0 cd σ2 H2 fun b H3=>if b=true then tF w0 el σ2 H3 fun y H4=>∃acc,H4 p=some (.lst acc)∧acc.length<sizeLine∧
    ∃m',m'<m∧W (i+1) m' σ2 (upd H4 p (.lst (acc++[y]))) else ∃m',m'<m∧W (i+1) m' σ2 H3):=by
 intro p hp
 subst hH
 obtain⟨x1,R2,rz⟩:=W5 (xs:=[]) R1 hp (RDs.nil w1)
 have hz:M1.length< (w1.push p (.lst [])).n∧p=(w1.push p (.lst [])).μ M1.length:=by
  obtain⟨z1,z2⟩:=Zt.mp rz
  exact⟨z1,by injection z2⟩
 refine⟨fun i m σc Hc=>∃w σE M,StOk w0 w σE M σc Hc∧Ext (w1.push p (.lst [])) w∧i≤xs.length∧m=xs.length - i∧Js own xs tg cd el M1.length (xs.drop i) σE M QD,⟨xs.length,w1.push p (.lst []),σD,_,⟨rfl,e0.trans x1,R2,env.ext x1⟩,Ext.refl _,Nat.zero_le _,rfl,h⟩,?_⟩
 rintro i m σc Hc ⟨w,σE,M,S,x2,hi,rfl,hc⟩
 have x12:Ext w1 w:=x1.trans x2
 have hp':w.μ M1.length=p:=(x2.μ _ hz.1).trans hz.2.symm
 have hlt:M1.length<w.n:=Nat.lt_of_lt_of_le hz.1 x2.n
 have stp:∀st:Ph own xs M,_:=fun st=>jk w M x12 S.rs st i
 rw[S.heap] at stp
 by_cases hil:i<xs.length
 ·rw[Ik hil] at hc
  obtain⟨st,hc⟩:=hc
  obtain⟨j1,j2⟩:=(stp st).1 xs[i] (Ag hil)
  refine .inr ⟨j1,fun x H' hy=>?_⟩
  obtain⟨w3,rfl,x3,R3,rd3⟩:=j2 x H' hy
  refine⟨w3,σE,M,xs[i],_,⟨rfl,S.ext.trans x3,R3,S.env.ext x3⟩,rd3,hc,fun σ2 σE2 env2 q2=>?_⟩
  refine⟨w3,σE2,M,_,⟨rfl,S.ext.trans x3,R3,env2⟩,q2,fun b w4 M4 x4 R4 q4=>?_⟩
  cases b with
  | true=>
   rw[if_pos rfl] at q4 ⊢
   refine Yj ⟨rfl,(S.ext.trans x3).trans x4,R4,env2.ext x4⟩ q4 fun y w5 dy M5 x5 R5 rd5 q5=>?_
   obtain⟨acc,g1,g2,g3⟩:=q5
   obtain⟨hn,vs,z1,z2⟩:=R5.list g1
   have x35:Ext w w5:=(x3.trans x4).trans x5
   have hp5:w5.μ M1.length=p:=(x35.μ _ hlt).trans hp'
   obtain⟨y1,y2⟩:=V2 R5 hn z1 (z2.append (RDs.cons rd5 (RDs.nil w5)))
   rw[hp5] at z1 y1 y2
   refine⟨vs,z1,by rw[z2.length];exact g2,xs.length - (i+1),by omega,w5.alloc p (.lst (vs++[y])),σE2,_,⟨rfl,(S.ext.trans x35).trans y1,y2,(env2.ext (x4.trans x5)).ext y1⟩,(x2.trans x35).trans y1,hil,rfl,g3⟩
  | false=>
   rw[if_neg Bool.false_ne_true] at q4 ⊢
   exact⟨xs.length - (i+1),by omega,w4,σE2,M4,⟨rfl,(S.ext.trans x3).trans x4,R4,env2.ext x4⟩,(x2.trans x3).trans x4,hil,rfl,q4⟩
 ·rw[List.drop_eq_nil_of_le (by omega)] at hc
  obtain⟨st,hq⟩:=hc
  refine .inl ⟨(stp st).2 (by omega),?_⟩
  have:=a (.ref p) w (.ref M1.length) M x12 S.rs (Zt.mpr ⟨hlt,by rw[hp']⟩) ⟨rfl,hq⟩
  rw[S.heap] at this
  exact this
end
def Zp4(c:Cfg)(e:E):Prop:=∀(k:Ck) (Z:DX) (w0:Vw) (X:Cx) (ex:Expr),Good c k Z w0 X→chkE k e ex=true→PE X ex (tF w0 (te c Z e))∧(noIf e=true→PT X ex (tFT w0 (ttD (te c Z e))))
def Zv0(c:Cfg)(es:Es):Prop:=∀(k:Ck) (Z:DX) (w0:Vw) (X:Cx) (ls:List Expr),Good c k Z w0 X→Tj k es ls=true→PA X ls (tFA w0 (tes c Z es))∧
 ∀(b:Bool) (pos:Pos),PE X (.BoolOp (if b then .And else .Or) ls pos) (tF w0 (tbop c Z b es))∧(Z22 es=true→PW X (.BoolOp (if b then .And else .Or) ls pos) (tFT w0 (ttD (tbop c Z b es))))
def Zo4(c:Cfg)(eo:Eo):Prop:=(∀(k:Ck) (Z:DX) (w0:Vw) (X:Cx) (lo:Option Expr),Good c k Z w0 X→chkO k eo lo=true→PO X lo (tFO w0 (teo c Z eo)))∧
 ∀(k:Ck) (Z:DX) (w0:Vw) (X:Cx) (ls:List Expr),Good c k Z w0 X→chkC k eo ls=true→(∃x,ls=[x]∧PT X x (tFT w0 (tcd c Z eo)))∨(ls=[]∧eo= .no)
def Y62(c:Cfg)(it:It):Prop:=∀(k:Ck) (Z:DX) (w0:Vw) (X:Cx) (tg ex:Expr),Good c k Z w0 X→Zh3 k it ex=true→itTg it tg=true→PI X tg ex (iF w0 (tit c Z it))
section
variable{c:Cfg}{k:Ck}{Z:DX}{w0:Vw}{X:Cx}
theorem Px{d:D}{v:V}{σ:L2.St}{H:Hp}{Q:VK}(hv:∀w:Vw,w.K=w0.K→RD w d v)(h:tF w0 (fun _ M Q=>Q d M) σ H Q):tC v σ H Q:=by
 obtain⟨w,σD,M,QD,S,g,a⟩:=h
 have:=a v w d M (Ext.refl w) S.rs (hv w S.K) g
 rw[S.heap] at this
 exact this
def tFF(w0:Vw)(f:Str→DEnv→Z2→(Str→Z2→Prop)→Prop):Str→L2.St→Hp→(Str→Hp→Prop)→Prop:=fun o σ H Q=>∃w σD M QD,StOk w0 w σD M σ H∧f o σD M QD∧∀x w' M',Ext w w'→RS w' M'→QD x M'→Q x w'.H
def Zr8(c:Cfg)(es:Es):Prop:=∀(k:Ck) (Z:DX) (w0:Vw) (X:Cx) (vs:List Expr),Good c k Z w0 X→Fe k es vs=true→PFs X vs (tFF w0 (tfs c Z es))
theorem PFs.imp{X:Cx}{vs:List Expr}{t t':Str→L2.St→Hp→(Str→Hp→Prop)→Prop}(h:PFs X vs t)(q:∀o σ H Q,t' o σ H Q→t o σ H Q):PFs X vs t':=fun pins s σ H o Q I z=>h pins s σ H o Q I (q o σ H Q z)
theorem Y36{k:Ck}{vs:List Expr}(h:Fe k .nil vs=true):vs=[]:=by
 cases vs with
 | nil=>rfl
 | cons v vs=>exact absurd h Bool.false_ne_true
theorem Zv3{e:E}{z:Str}(h:isS e z=true):e= .str z:=by
 cases e with
 | str y=>exact congrArg E.str (Iy h)
 | _=>exact absurd h Bool.false_ne_true
theorem Zv1{k:Ck}{e:E}{r:Es}{vs:List Expr}(h:Fe k (.cons e r) vs=true):(∃y j p xs,e= .str y∧vs= .Constant (.str y) j p::xs∧Fe k r xs=true)∨∃v p xs,vs= .FormattedValue v (-1) none p::xs∧chkE k e v=true∧Fe k r xs=true:=by
 cases vs with
 | nil=>exact absurd h Bool.false_ne_true
 | cons x xs=>
  change (_&&_)=true at h
  rw[Bool.and_eq_true] at h
  obtain⟨h1,h2⟩:=h
  cases x with
  | Constant cst j p=>
   cases cst with
   | str z=>exact .inl ⟨z,j,p,xs,Zv3 h1,rfl,h2⟩
   | _=>exact absurd h1 Bool.false_ne_true
  | FormattedValue v cv sp p=>
   cases sp with
   | none=>
    change (_&&_)=true at h1
    rw[Bool.and_eq_true,beq_iff_eq] at h1
    obtain⟨rfl,h1⟩:=h1
    exact .inr ⟨v,p,xs,rfl,h1,h2⟩
   | some _=>exact absurd h1 Bool.false_ne_true
  | _=>exact absurd h1 Bool.false_ne_true
theorem Z08{k:Ck}{es:Es}{ex:Expr}(h:chkE k (.fstr es) ex=true):∃v1 v2 vs pos,ex= .JoinedStr (v1::v2::vs) pos∧Fe k es (v1::v2::vs)=true:=by
 cases ex with
 | JoinedStr vs pos=>
  change (_&&_)=true at h
  rw[Bool.and_eq_true,decide_eq_true_eq] at h
  match vs,h with
  | v1::v2::vs,h=>exact⟨v1,v2,vs,pos,rfl,h.2⟩
 | _=>exact absurd h Bool.false_ne_true
theorem Bt{c:Cfg}{Z:DX}{w0:Vw}{X:Cx}{es:Es}{v1 v2:Expr}{vs:List Expr}{pos:Pos}(ih:PFs X (v1::v2::vs) (tFF w0 (tfs c Z es))):PE X (.JoinedStr (v1::v2::vs) pos) (tF w0 (te c Z (.fstr es))):=
 PE.imp (Zx6 ih) fun σ H Q zz82=>by obtain⟨w,σD,M,QD,S,g,aq⟩:=zz82;exact⟨w,σD,M,_,S,g,fun x w' M' x1 r1 q=>aq _ w' _ M' x1 r1 (Zb.mpr rfl) q⟩
theorem both{f:DE}{ex:Expr}{b:Bool}(G:Good c k Z w0 X)(h:PE X ex (tF w0 f))(he:∀whole,isTrue ex X.env whole=(do let v ←whole;standAt ex.pos;holding [v] (truthy v))):
  PE X ex (tF w0 f)∧(b=true→PT X ex (tFT w0 (ttD f))):=⟨h,fun _=>Yd0 G h he⟩
theorem Z42{f:Nat}{es:Es}{x:Str}{np pos:Pos}{ls:List Expr}(G:Good c k Z w0 X)(hc:k.calm=true)(hf:k.FN[f]?=some x)(hg:k.glob x=true)(hs:Tj k es ls=true)(ih:PA X ls (tFA w0 (tes c Z es))):
  PE X (.Call (.Name x np) ls [] pos) (tF w0 (te c Z (.call f es))):=by
 obtain⟨g1,g2,g3⟩:=G.gl hg
 obtain⟨E,ps,xk⟩:=G.exc
 cases hsp:c.Γ[f]? with
 | none=>
  have h1:=(Af.mp hf).1
  have h2:=List.getElem?_eq_none_iff.mp hsp
  rw[G.flen] at h1
  omega
 | some sp=>
  obtain⟨kk,fa,fd,pr,ds,dvs,dD,sp0,F,hr,hm,hk,hb,hd,hD,hsp0⟩:=G.fns hc f x sp hf hsp
  have key:∀σ H Q,tF w0 (te c Z (.call f es)) σ H Q→tFA w0 (tes c Z es) σ H fun vs H1=>spF X.K sp0 (vs++dvs) H1 Q E:=by
   rintro σ H Q ⟨w,σD,M,QD,S,g,a⟩
   refine⟨w,σD,M,_,S,g,fun vs w' ds' M' x' r' rd' q'=>?_⟩
   have q':sp ds' M' QD Z:=by
    have:=q'
    simp only[hsp] at this
    exact this
   have hKw:w'.K=X.K:=by rw[x'.K,S.K,G.eK]
   exact⟨w',ds'++dD,M',QD,Z,hKw,rfl,r',rd'.append (hD w' hKw),hsp0 _ _ _ _ q',a.ext x',fun cls dd H' hx=>xk cls dd H' (Z90 (S.ext.trans x') hx)⟩
  cases ls with
  | nil=>
   refine PE.imp (Zi2 F hr g1 hm hk hb hd ps g2) fun σ H Q h=>?_
   have h2:=key σ H Q h
   obtain⟨w,σD,M,QD,S,g,a⟩:=h2
   cases es with
   | nil=>
    have:=a [] w [] M (Ext.refl w) S.rs (RDs.nil w) g
    rw[S.heap] at this
    exact this
   | cons e r=>exact absurd hs Bool.false_ne_true
  | cons l ls=>
   cases es with
   | nil=>exact absurd hs Bool.false_ne_true
   | cons e r=>
    change (_&&_)=true at hs
    simp only[Bool.and_eq_true] at hs
    exact PE.imp (Zz7 F hr g1 hm hk hb hd ps ih g2 (Zl hs.1.2) (Q5 (V3 r ls hs.2))) key
theorem te_var{i:Nat}{σ:DEnv}{M:Z2}{Q:DK}:te c Z (.var i) σ M Q=(match σ[i]? with | some (some d)=>Q d M | _=>False):=rfl
theorem te_glb{g:Nat}{σ:DEnv}{M:Z2}{Q:DK}:te c Z (.glb g) σ M Q=(match c.G[g]? with | some d=>Q d M | none=>False):=rfl
theorem Za3{i:Nat}{x:Str}{pos:Pos}(G:Good c k Z w0 X)(h1:k.N[i]?=some x)(h2:k.vis x=true):PE X (.Name x pos) (tF w0 (te c Z (.var i))):=by
 obtain⟨v1,v2,v3⟩:=G.vis h2
 refine PE.imp (Y77 (i:=i) (by rw[G.N];exact h1) v1 v2 v3) fun σ H Q zz83=>?_
 obtain⟨w,σD,M,QD,S,g,a⟩:=zz83
 rw[te_var] at g
 split at g
 ·rename_i d e
  obtain⟨v,q1,q2⟩:=S.env.2 i d e
  have:=a v w d M (Ext.refl w) S.rs q2 g
  rw[S.heap] at this
  exact⟨v,q1,this⟩
 ·exact g.elim
theorem Z97{g:Nat}{x:Str}{pos:Pos}(G:Good c k Z w0 X)(h1:k.GN[g]?=some x)(h2:k.glob x=true):PE X (.Name x pos) (tF w0 (te c Z (.glb g))):=by
 obtain⟨g1,g2,g3⟩:=G.gl h2
 cases hd:c.G[g]? with
 | none=>
  refine PE.imp (t:=fun _ _ _=>False) (fun _ _ _ _ _ _ h=>h.elim) fun σ H Q zz84=>?_
  obtain⟨w,σD,M,QD,S,q,a⟩:=zz84
  rw[te_glb] at q
  rw[hd] at q
  exact q
 | some d=>
  obtain⟨v,u,q1,q2,q3⟩:=G.glb g x d h1 hd
  refine PE.imp (Zx8 g1 q1 q2 g2) fun σ H Q h=>Px (d:=d) (fun w hw=>q3 w (by rw[hw,G.eK])) ?_
  obtain⟨w,σD,M,QD,S,q,a⟩:=h
  rw[te_glb] at q
  rw[hd] at q
  exact⟨w,σD,M,QD,S,q,a⟩
theorem Yc8{es:Es}{l:Expr}{ls:List Expr}{pos:Pos}(hs:Tj k es (l::ls)=true):starEach (l::ls) X.env=(false,eval l X.env)::starEach ls X.env∧(backTo pos (starEach ls X.env)).any (·.1)=false:=by
 cases es with
 | nil=>exact absurd hs Bool.false_ne_true
 | cons e r=>
  change (_&&_)=true at hs
  simp only[Bool.and_eq_true] at hs
  exact⟨Zl hs.1.2,Q5 (V3 r ls hs.2)⟩
theorem Zk9{b:Bf}{es:Es}{x:Str}{np pos:Pos}{l:Expr}{ls:List Expr}(G:Good c k Z w0 X)(hc:k.calm=true∨Su b=true)(hx:x=(bfOf b).1)(hg:k.glob x=true)(hB:x∈k.BN)(hs:Tj k es (l::ls)=true)(ih:PA X (l::ls) (tFA w0 (tes c Z es))):
  PE X (.Call (.Name x np) (l::ls) [] pos) (tF w0 (te c Z (.bf b es))):=by
 obtain⟨g1,g2,g3⟩:=G.gl hg
 have hm:=G.blt x hB
 have hb:bootBuiltins x=some (bfOf b).2:=by rw[hx];exact Zq1 b
 have snd:=Zl7 (w0:=w0) G.eK b (hc.imp G.calm id)
 have st:starEach (l::ls) X.env=(false,eval l X.env)::starEach ls X.env∧(backTo pos (starEach ls X.env)).any (·.1)=false:=by
  cases es with
  | nil=>exact absurd hs Bool.false_ne_true
  | cons e r=>
   change (_&&_)=true at hs
   simp only[Bool.and_eq_true] at hs
   exact⟨Zl hs.1.2,Q5 (V3 r ls hs.2)⟩
 have key:∀σ H Q,tF w0 (te c Z (.bf b es)) σ H Q→tCB (rC w0 (bfD w0.K b)) (tFA w0 (tes c Z es)) σ H Q:=by
  rintro σ H Q ⟨w,σD,M,QD,S,g,a⟩
  refine⟨w,σD,M,_,S,g,fun vs w' ds M' x' r' rd' q'=>?_⟩
  rw[←G.wK] at q'
  exact⟨w',M',ds,QD,rfl,by rw[x'.K,S.K],r',rd',q',a.ext x'⟩
 cases hv:(bfOf b).2 with
 | builtin id=>
  rw[hv] at hb snd
  exact PE.imp (S7 snd g1 hm hb ih g3 g2 st.1 st.2) key
 | type T=>
  rw[hv] at hb snd
  exact PE.imp (Sg snd g1 hm hb ih g3 g2 st.1 st.2) key
 | _=>cases b<;>cases hv
theorem Zm2{m:Mt}{o:E}{es:Es}{l:Expr}{ap cp:Pos}{ls:List Expr}(G:Good c k Z w0 X)(hb:Z66 l=true)(hl:(ap.endLine==cp.line)=true)(hn:ls.length<30)(hs:Tj k es ls=true)(ho:PE X l (tF w0 (te c Z o)))(ih:PA X ls (tFA w0 (tes c Z es))):
  PE X (.Call (.Attribute l (mtN m) ap) ls [] cp) (tF w0 (te c Z (.mt m o es))):=by
 have snd:=Zg0 (w0:=w0) G.eK G.units m
 cases ls with
 | nil=>
  refine PE.imp (Y48 (Y23 m) (Zb0 m) (Y85 m) snd ho (Jk hb) hl) fun σ H Q zz85=>?_
  obtain⟨w,σD,M,QD,S,g,a⟩:=zz85
  refine Yj S g fun x w1 dx M1 x1 r1 rx q1=>?_
  have ty:=Zo7 r1 rx q1.1
  rw[x1.K,S.K,←G.eK] at ty
  refine⟨ty,?_⟩
  cases es with
  | nil=>exact⟨w1,M1,dx,[],QD,rfl,by rw[x1.K,S.K],r1,rx,RDs.nil w1,q1.2,a.ext x1⟩
  | cons e r=>exact absurd hs Bool.false_ne_true
 | cons l' ls=>
  cases es with
  | nil=>exact absurd hs Bool.false_ne_true
  | cons e r=>
   have hs':=hs
   change (_&&_)=true at hs'
   simp only[Bool.and_eq_true] at hs'
   have few:((backTo cp (starEach (l'::ls) X.env)).all (fun x=> !x.1)&&(backToKw cp (keywordEach [] X.env)).all (fun x=>x.1.isSome)
     &&decide ((l'::ls).length+([]:List Keyword).length+(if ([]:List Keyword).isEmpty then 0 else 1)<30))=true:=by
    rw[Zf3 (V3 _ _ hs)]
    show(true&&true&&decide ((l'::ls).length+0+0<30))=true
    simpa using hn
   refine PE.imp (Yb7 (Y23 m) (Zb0 m) (Y85 m) snd ho ih (Jk hb) few hl (Zl hs'.1.2) (Q5 (V3 r ls hs'.2))) fun σ H Q zz86=>?_
   obtain⟨w,σD,M,QD,S,g,a⟩:=zz86
   refine Yj S g fun x w1 dx M1 x1 r1 rx q1=>?_
   have ty:=Zo7 r1 rx q1.1
   rw[x1.K,S.K,←G.eK] at ty
   refine⟨ty,w1,σD,M1,_,S.next x1 r1,q1.2,fun vs w2 ds M2 x2 r2 rd2 q2=>?_⟩
   exact⟨w2,M2,dx,ds,QD,rfl,by rw[x2.K,x1.K,S.K],r2,rx.ext x2,rd2,q2,a.ext (x1.trans x2)⟩
theorem Zf5{a:E}{lo hi:Eo}{l:Expr}{x y:Option Expr}{p2 pos:Pos}(G:Good c k Z w0 X)(ha:PE X l (tF w0 (te c Z a)))(h1:PO X x (tFO w0 (teo c Z lo)))(h2:PO X y (tFO w0 (teo c Z hi))):
  PE X (.Subscript l (.Slice x y none p2) pos) (tF w0 (te c Z (.sl a lo hi))):=by
 refine PE.imp (B6 (Zf9 (w0:=w0) G.eK) ha h1 h2) fun σ H Q zz87=>?_
 obtain⟨w,σD,M,QD,S,g,aq⟩:=zz87
 refine Yj S g fun x w1 dx M1 x1 r1 rx q1=>?_
 refine⟨w1,σD,M1,_,S.next x1 r1,q1,fun l w2 M2 x2 r2 q2=>?_⟩
 refine⟨w2,σD,M2,_,(S.next x1 r1).next x2 r2,q2,fun h w3 M3 x3 r3 q3=>?_⟩
 exact⟨w3,M3,dx,QD,rfl,by rw[x3.K,x2.K,x1.K,S.K],r3,rx.ext (x2.trans x3),q3,aq.ext ((x1.trans x2).trans x3)⟩
theorem Zb2{a b:E}{l r:Expr}{pos:Pos}(G:Good c k Z w0 X)(ha:PE X l (tF w0 (te c Z a)))(hb:PE X r (tF w0 (te c Z b))):PE X (.Dict [some l] [r] pos) (tF w0 (te c Z (.dct a b))):=by
 refine PE.imp (Z61 (C5 ha hb Z73) rfl rfl (by simp) (by simp)) fun σ H Q zz88=>?_
 obtain⟨w,σD,M,QD,S,g,aq⟩:=zz88
 intro p hp
 rw[←S.heap] at hp
 obtain⟨y1,y2,y3⟩:=Rz (xs:=[]) (vs:=[]) S.rs hp (by unfold RKV;rfl)
 have hup:upd H p (.dK [])=(w.push p (.dK [])).H:=by rw[←S.heap];rfl
 have eμ:(w.push p (.dK [])).μ M.length=p:=by
  show(if M.length=w.n then p else w.μ M.length)=p
  rw[if_pos S.rs.len.symm]
 have ln:M.length< (w.push p (.dK [])).n:=by show M.length<w.n+1;rw[S.rs.len];omega
 rw[hup]
 refine Yj (S.next y1 y2) g fun x w1 dx M1 x1 r1 rx q1=>?_
 refine Yj ((S.next y1 y2).next x1 r1) q1 fun y w2 dy M2 x2 r2 ry q2=>?_
 obtain⟨kk,e1,e2,e3⟩:=q2
 obtain⟨hn,vs,u1,u2⟩:=r2.dict e2
 rw[(x1.trans x2).μ _ ln,eμ] at u1
 have ev:vs=[]:=by have:=u2.length;exact Iu.mp (by simpa using this)
 subst ev
 cases Oq e1 (rx.ext x2)
 refine⟨u1,[(kk,y)],rfl,by simp,?_⟩
 have u1':w2.H (w2.μ M.length)=some (.dK []):=by rw[(x1.trans x2).μ _ ln,eμ];exact u1
 obtain⟨t1,t2⟩:=O3 (vs:=[(kk,y)]) (xs:=[(kk,dy)]) r2 hn u1' (by
  have:=(show RKV w2 [] [] by unfold RKV;rfl).put (k:=kk) ry
  exact this)
 have rr:RD (w2.alloc (w2.μ M.length) (.dK [(kk,y)])) (.ref M.length) (.ref p):=(y3.ext (x1.trans x2)).ext t1
 have:=aq _ _ _ _ (((y1.trans x1).trans x2).trans t1) t2 rr e3
 have hf:(w2.alloc (w2.μ M.length) (.dK [(kk,y)])).H=upd w2.H p (.dK (S8 [] [(kk,y)])):=by
  show upd w2.H (w2.μ M.length) (.dK [(kk,y)])=_
  rw[(x1.trans x2).μ _ ln,eμ]
  rfl
 rw[←hf]
 exact this
theorem sl_W:SlR X (fun x lo hi H Q=>∃a xs,x= .ref a∧SqT X.K H a xs∧((HT.sIx xs.length 0 lo=0∧HT.sIx xs.length xs.length hi=xs.length)→Q x H)∧∀p,H p=none→Q (.ref p) (upd H p (.tup (cutV xs lo hi)))):=by
 intro pins s σ H x v vl vu lo hi sl Q I rx hs pl pu h
 obtain⟨a,xs,rfl,hx,h1,h2⟩:=h
 by_cases hw:HT.sIx xs.length 0 lo=0∧HT.sIx xs.length xs.length hi=xs.length
 ·exact Zu1 pins s σ H _ v vl vu lo hi sl Q I rx hs pl pu ⟨a,xs,rfl,hx,hw,h1 hw⟩
 ·exact Zp0 pins s σ H _ v vl vu lo hi sl Q I rx hs pl pu ⟨a,xs,rfl,hx,hw,h2⟩
theorem Z59{a:E}{lo hi:Eo}{l:Expr}{x y:Option Expr}{p2 pos:Pos}(G:Good c k Z w0 X)(ha:PE X l (tF w0 (te c Z a)))(h1:PO X x (tFO w0 (teo c Z lo)))(h2:PO X y (tFO w0 (teo c Z hi))):
  PE X (.Subscript l (.Slice x y none p2) pos) (tF w0 (te c Z (.slW a lo hi))):=by
 refine PE.imp (B6 sl_W ha h1 h2) fun σ H Q zz89=>?_
 obtain⟨w,σD,M,QD,S,g,aq⟩:=zz89
 refine Yj S g fun x w1 dx M1 x1 r1 rx q1=>?_
 have S1:=S.next x1 r1
 refine⟨w1,σD,M1,_,S1,q1,fun l1 w2 M2 x2 r2 q2=>?_⟩
 have S2:=S1.next x2 r2
 refine⟨w2,σD,M2,_,S2,q2,fun h1 w3 M3 x3 r3 q3=>?_⟩
 obtain⟨xs,rfl,q4⟩:=Qj q3
 have rx3:=(rx.ext x2).ext x3
 obtain⟨p,vs,rfl,e1,e2⟩:=X5.mp rx3
 refine⟨p,vs,rfl,.of e1,fun hw=>?_,fun q hq=>?_⟩
 ·have e:cutD xs l1 h1=xs:=by
   unfold cutD
   rw[←e2.length,hw.1,hw.2,List.drop_zero,Nat.sub_zero,e2.length,List.take_length]
  rw[e] at q4
  exact aq _ _ _ _ ((x1.trans x2).trans x3) r3 rx3 q4
 ·obtain⟨y1,y2,y3⟩:=Tw r3 hq (Eb (lo:=l1) (hi:=h1) e2)
  exact aq _ _ _ _ (((x1.trans x2).trans x3).trans y1) y2 y3 q4
theorem Z49{ms:List Int}(h1:ms.Nodup)(h2:ms.Pairwise (·≤·)):ms.Pairwise (· < ·):=by
 induction ms with
 | nil=>exact .nil
 | cons x r ih=>
  rw[Kr] at h1
  rw[List.pairwise_cons] at h2
  refine .cons (fun y hy=>?_) (ih h1.2 h2.2)
  have:=h2.1 y hy
  have:x≠y:=fun z=>h1.1 (z ▸ hy)
  omega
theorem Bj{b:Bool}{a:E}{x y:Str}{p1 p2 q1 q2:Pos}{l:Expr}(G:Good c k Z w0 X)(hc:k.calm=true)(hx:x=(if b then "sorted" else "len":Str))(hy:y=("set":Str))(hg:k.glob x=true)(hg':k.glob y=true)(hB:x∈k.BN)(hB':y∈k.BN)(hl:Xo l=true)(ih:PE X l (tF w0 (te c Z a))):
  PE X (.Call (.Name x p1) [.Call (.Name y p2) [l] [] q2] [] q1) (tF w0 (te c Z (.setf b a))):=by
 obtain⟨g1,g2,g3⟩:=G.gl hg
 obtain⟨g1',g2',g3'⟩:=G.gl hg'
 have hset:=Sg (p:=p2) (pos:=q2) (Z75 (X:=X) (G.calm hc)) g1' (G.blt _ hB') (by rw[hy];exact Zl9) (W2 ih Vx (Zl hl)) g3' g2' (Zl hl) rfl
 have key:∀(w1:Vw) (M1:Z2) (n:Nat) (ks:List Key) (R:List V→Hp→VK→Prop) (Q:VK),RS w1 M1→w1.K=X.K→Zd M1 n=some (ks.map kD)→ks.length+1<scanBound→n<w1.n→
   (∀p ks',w1.H p=none→ks'.Nodup→ks'.length≤ks.length→(∀k,k∈ks'↔k∈ks)→R [V.ref p] (w1.alloc p (.ext (Vh X.prog X.w p ks'))).H Q)→∃(a:Addr) (ks:List Key),[V.ref (w1.μ n)]=[V.ref a]∧SqL X.K w1.H a (ks.map kV)∧ks.length+1<scanBound∧∀p ks',w1.H p=none→ks'.Nodup→ks'.length≤ks.length→(∀k,k∈ks'↔k∈ks)→R [V.ref p] (upd w1.H p (.ext (Vh X.prog X.w p ks'))) Q:=by
  intro w1 M1 n ks R Q r1 hK e1 hz hn h
  obtain⟨_,vs,z1,z2,_⟩:=r1.listL e1
  rw[hK] at z1
  rw[Co z2] at z1
  exact⟨_,ks,rfl,z1,hz,h⟩
 cases b with
 | true=>
  refine PE.imp (S7 (G4 (X:=X) (G.calm hc)) g1 (G.blt _ hB) (by rw[hx];exact Qa) (W2 hset Vx rfl) g3 g2 rfl rfl) fun σ H Q zz90=>?_
  obtain⟨w,σD,M,QD,S,g,aq⟩:=zz90
  refine Yj S g fun x w1 dx M1 x1 r1 rx q1=>?_
  obtain⟨n,rfl,q1⟩:=X8 q1
  obtain⟨hn,rfl⟩:=Zt.mp rx
  obtain⟨ns,e1,hz,q⟩:=q1
  have hK:w1.K=X.K:=by rw[x1.K,S.K,G.eK]
  refine key w1 M1 n (ns.map Im) (Zn5 X.prog X.w) Q r1 hK (by rw[e1,Mg];rfl) (by rw[Ah];show ns.length+1<4096;omega) hn fun p ks' hp nd hlk hm=>?_
  have hin:∃ns':List Int,ks'=ns'.map Im:=by
   refine⟨ks'.map (fun k=>match k with | .inl i=>i | .inr _=>0),?_⟩
   rw[Mg]
   have:∀k∈ks',(Im ∘ fun k:Key=>match k with | .inl i=>i | .inr _=>(0:Int)) k=k:=by
    intro k hk
    obtain⟨i,_,rfl⟩:=Dg.mp ((hm k).mp hk)
    rfl
   rw[List.map_congr_left this,List.map_id']
  obtain⟨ns',rfl⟩:=hin
  have nd':ns'.Nodup:=List.Pairwise.of_map Im (fun a b h z=>h (by rw[z])) nd
  have hm':∀i,i∈ns'↔i∈ns:=fun i=>by
   have:=hm (Im i)
   simpa using this
  have ln:ns'.length<64:=by
   rw[Ah,Ah] at hlk
   omega
  have ra:=r1.alloc (o:= .ext (Vh X.prog X.w p (ns'.map Im))) hp
  refine⟨p,ns',rfl,Yy,ln,fun l ms hl pm sm=>?_⟩
  obtain⟨y1,y2,y3⟩:=W5 (w:=w1.alloc p (.ext (Vh X.prog X.w p (ns'.map Im)))) ra hl (B0 ms)
  exact aq _ _ _ _ ((x1.trans (T4 hp)).trans y1) y2 y3 (q ms (Z49 (pm.nodup_iff.mpr nd') sm) fun i=>(pm.mem_iff.trans (hm' i)))
 | false=>
  refine PE.imp (S7 (Z99 (X:=X)) g1 (G.blt _ hB) (by rw[hx];exact PySem.boot_len) (W2 hset Vx rfl) g3 g2 rfl rfl) fun σ H Q zz91=>?_
  obtain⟨w,σD,M,QD,S,g,aq⟩:=zz91
  refine Yj S g fun x w1 dx M1 x1 r1 rx q1=>?_
  obtain⟨n,rfl,q1⟩:=X8 q1
  obtain⟨hn,rfl⟩:=Zt.mp rx
  obtain⟨ks,e1,hz,q⟩:=q1
  have hK:w1.K=X.K:=by rw[x1.K,S.K,G.eK]
  refine key w1 M1 n ks (Y02 X.prog X.w) Q r1 hK e1 hz hn fun p ks' hp nd hlk hm=>?_
  have ra:=r1.alloc (o:= .ext (Vh X.prog X.w p ks')) hp
  exact⟨p,ks',rfl,Yy,aq _ _ _ _ (x1.trans (T4 hp)) ra (Zc.mpr rfl) (q ks' nd hm)⟩
theorem Z37{a:E}{x y:Str}{p1 p2 q1 q2:Pos}{l:Expr}(G:Good c k Z w0 X)(hc:k.calm=true)(hx:x=("list":Str))(hy:y=("reversed":Str))(hg:k.glob x=true)(hg':k.glob y=true)(hB:x∈k.BN)(hB':y∈k.BN)(hl:Xo l=true)(ih:PE X l (tF w0 (te c Z a))):
  PE X (.Call (.Name x p1) [.Call (.Name y p2) [l] [] q2] [] q1) (tF w0 (te c Z (.lrev a))):=by
 obtain⟨g1,g2,g3⟩:=G.gl hg
 obtain⟨g1',g2',g3'⟩:=G.gl hg'
 have hset:=Sg (p:=p2) (pos:=q2) (Zl0 (X:=X)) g1' (G.blt _ hB') (by rw[hy];exact J9) (W2 ih Vx (Zl hl)) g3' g2' (Zl hl) rfl
 refine PE.imp (Sg (Z27 (X:=X) (G.calm hc)) g1 (G.blt _ hB) (by rw[hx];exact boot_list) (W2 hset Vx rfl) g3 g2 rfl rfl) fun σ H Q zz92=>?_
 obtain⟨w,σD,M,QD,S,g,aq⟩:=zz92
 refine Yj S g fun x w1 dx M1 x1 r1 rx q1=>?_
 obtain⟨n,rfl,q1⟩:=X8 q1
 obtain⟨hn,rfl⟩:=Zt.mp rx
 obtain⟨xs,e1,q⟩:=q1
 have hK:w1.K=X.K:=by rw[x1.K,S.K,G.eK]
 obtain⟨_,vs,z1,z2,_⟩:=r1.listL e1
 rw[hK] at z1
 refine⟨_,vs,rfl,z1,fun p hp hlp=>?_⟩
 refine⟨p,w1.μ n,vs,rfl,Yy,?_,fun t ht=>?_⟩
 ·rcases z1 with(z1 | ⟨o,z1⟩) | z1
  ·exact .inl (.inl (by rw[Zw hlp];exact z1))
  ·exact .inl (.inr ⟨o,by rw[Zw hlp];exact z1⟩)
  ·exact .inr z1
 ·have hd:del (upd w1.H p (.ext (Er X.s₀.heap.objs.size p (w1.μ n) vs.length))) p=w1.H:=by
   funext b
   unfold del
   split
   ·rename_i e;rw[e];exact hp.symm
   ·rename_i e;exact Zw e
  have ht':w1.H t=none:=by
   by_cases e:t=p
   ·rw[e];exact hp
   ·rw[Zw e] at ht;exact ht
  rw[hd]
  obtain⟨y1,y2,y3⟩:=W5 r1 ht' z2.reverse
  exact aq _ _ _ _ (x1.trans y1) y2 y3 q
theorem Z16{a:E}{x:Str}{p1 q1:Pos}{l:Expr}(G:Good c k Z w0 X)(hc:k.calm=true)(hx:x=("all":Str))(hg:k.glob x=true)(hB:x∈k.BN)(hl:Xo l=true)(ih:PE X l (tF w0 (te c Z a))):
  PE X (.Call (.Name x p1) [l] [] q1) (tF w0 (te c Z (.allf a))):=by
 obtain⟨g1,g2,g3⟩:=G.gl hg
 refine PE.imp (S7 (Ze8 (X:=X) (G.calm hc)) g1 (G.blt _ hB) (by rw[hx];exact Zh8) (W2 ih Vx (Zl hl)) g3 g2 (Zl hl) rfl) fun σ H Q zz93=>?_
 obtain⟨w,σD,M,QD,S,g,aq⟩:=zz93
 refine Yj S g fun x w1 dx M1 x1 r1 rx q1=>?_
 obtain⟨n,rfl,q1⟩:=X8 q1
 obtain⟨hn,rfl⟩:=Zt.mp rx
 obtain⟨bs,e1,q⟩:=q1
 have hK:w1.K=X.K:=by rw[x1.K,S.K,G.eK]
 obtain⟨_,vs,z1,z2,_⟩:=r1.listL e1
 rw[hK] at z1
 have ev:∀{bs:List Bool} {vs:List V},RDs w1 (bs.map .bl) vs→vs=bs.map V.bl:=by
  intro bs
  induction bs with
  | nil=>intro vs h;exact rds0 h
  | cons b bs ih=>
   intro vs h
   rw[Ch] at h
   unfold RDs at h
   obtain⟨v,r,rfl,h1,h2⟩:=h
   rw[ih h2,Xq.mp h1]
   rfl
 rw[ev z2] at z1
 exact⟨_,bs,rfl,z1,aq _ _ _ _ x1 r1 (Xq.mpr rfl) q⟩
theorem Z40{a:E}{x:Str}{p1 q1:Pos}{l:Expr}(G:Good c k Z w0 X)(hc:k.calm=true)(hx:x=("any":Str))(hg:k.glob x=true)(hB:x∈k.BN)(hl:Xo l=true)(ih:PE X l (tF w0 (te c Z a))):
  PE X (.Call (.Name x p1) [l] [] q1) (tF w0 (te c Z (.anyf a))):=by
 obtain⟨g1,g2,g3⟩:=G.gl hg
 refine PE.imp (S7 (Zj0 (X:=X) (G.calm hc)) g1 (G.blt _ hB) (by rw[hx];exact Zh7) (W2 ih Vx (Zl hl)) g3 g2 (Zl hl) rfl) fun σ H Q zz94=>?_
 obtain⟨w,σD,M,QD,S,g,aq⟩:=zz94
 refine Yj S g fun x w1 dx M1 x1 r1 rx q1=>?_
 obtain⟨n,rfl,q1⟩:=X8 q1
 obtain⟨hn,rfl⟩:=Zt.mp rx
 obtain⟨bs,e1,q⟩:=q1
 have hK:w1.K=X.K:=by rw[x1.K,S.K,G.eK]
 obtain⟨_,vs,z1,z2,_⟩:=r1.listL e1
 rw[hK] at z1
 have ev:∀{bs:List Bool} {vs:List V},RDs w1 (bs.map .bl) vs→vs=bs.map V.bl:=by
  intro bs
  induction bs with
  | nil=>intro vs h;exact rds0 h
  | cons b bs ih=>
   intro vs h
   rw[Ch] at h
   unfold RDs at h
   obtain⟨v,r,rfl,h1,h2⟩:=h
   rw[ih h2,Xq.mp h1]
   rfl
 rw[ev z2] at z1
 exact⟨_,bs,rfl,z1,aq _ _ _ _ x1 r1 (Xq.mpr rfl) q⟩
theorem Zd4{pos:Pos}:∀{ps:List (Str×Str)} {ks:List (Option Expr)} {vs:List Expr},chkP ps ks vs=true→PPs X pos ks vs (ps.map fun p=>(tC (.str p.1),tC (.str p.2)))∧ks.length=ps.length∧vs.length=ps.length∧ks.all (·.isSome)=true
 | [],ks,vs,h=>by
  match ks,vs,h with
  | [],[],_=>exact⟨Z73,rfl,rfl,rfl⟩
 | p::ps,ks,vs,h=>by
  match ks,vs,h with
  | some (.Constant (.str a) _ _)::ks,.Constant (.str b) _ _::vs,h=>
   change (_&&_)=true at h
   simp only[Bool.and_eq_true,beq_iff_eq] at h
   obtain⟨⟨rfl,rfl⟩,h3⟩:=h
   obtain⟨i1,i2,i3,i4⟩:=Zd4 (pos:=pos) h3
   exact⟨C5 Ei Ei i1,by rw[Dc,Dc,i2],by rw[Dc,Dc,i3],by rw[Hz,i4];rfl⟩
theorem O8{σ:L2.St}{H:Hp}:∀{ps:List (Str×Str)} {Q:List (V×V)→Hp→Prop},Q (ps.map fun p=>(V.str p.1,V.str p.2)) H→Ek (ps.map fun p=>(tC (.str p.1),tC (.str p.2))) σ H Q
 | [],Q,h=>h
 | p::ps,Q,h=>O8 (ps:=ps) (Q:=fun qs H3=>Q ((V.str p.1,V.str p.2)::qs) H3) h
theorem Z50{w:Vw}:∀ps:List (Str×Str),RKV w (ps.map fun q=>(.inr q.1,.str q.2)) (ps.map fun q=>(.inr q.1,V.str q.2))
 | []=>by unfold RKV;rfl
 | p::ps=>by rw[Ch];unfold RKV;exact⟨_,_,rfl,Zb.mpr rfl,Z50 ps⟩
theorem Bz{ps:List (Str×Str)}{ks:List (Option Expr)}{vs:List Expr}{pos:Pos}(G:Good c k Z w0 X)(h15:ps.length≤15)(h0:0<ps.length)(h:chkP ps ks vs=true):PE X (.Dict ks vs pos) (tF w0 (te c Z (.dctS ps))):=by
 obtain⟨i1,i2,i3,i4⟩:=Zd4 (X:=X) (pos:=pos) h
 refine PE.imp (Z61 i1 i4 (i2.trans i3.symm) (fun z=>by rw[z] at i2;simp at i2;omega) (by omega)) fun σ H Q zz95=>?_
 obtain⟨w,σD,M,QD,S,g,aq⟩:=zz95
 intro p hp
 rw[←S.heap] at hp
 refine O8 ⟨Yy,ps.map fun q=>(.inr q.1,V.str q.2),by rw[Mg];rfl,by rw[Ah];exact h15,?_⟩
 obtain⟨y1,y2,y3⟩:=Rz (xs:=N5 (ps.map fun q=>(.inr q.1,.str q.2))) (vs:=S8 [] (ps.map fun q=>(.inr q.1,V.str q.2))) S.rs hp (J8 (Z50 ps) (by unfold RKV;rfl))
 have hf:upd (upd H p (.dK [])) p (.dK (S8 [] (ps.map fun q=>(.inr q.1,V.str q.2))))=(w.push p (.dK (S8 [] (ps.map fun q=>(.inr q.1,V.str q.2))))).H:=by
  rw[←S.heap]
  funext b
  show upd (upd w.H p _) p _ b=upd w.H p _ b
  by_cases e:b=p
  ·rw[e,Yy,Yy]
  ·rw[Zw e,Zw e,Zw e]
 rw[hf]
 exact aq _ _ _ _ y1 y2 y3 g
theorem Zm6{a b:E}{l r:Expr}{pos:Pos}(G:Good c k Z w0 X)(hn:Fn r=true)(ha:PE X l (tF w0 (te c Z a)))(hb:PE X r (tF w0 (te c Z b))):PE X (.Subscript l r pos) (tF w0 (te c Z (.ix a b))):=by
 have pl:Z64 r:=by
  intro o i
  cases r<;>first | rfl | cases hn
 refine PE.imp (Yb4 (Zg4 (w0:=w0) G.eK G.units) ha hb pl) fun σ H Q zz96=>?_
 obtain⟨w,σD,M,QD,S,g,aq⟩:=zz96
 refine Yj S g fun x w1 dx M1 x1 r1 rx q1=>?_
 refine Yj (S.next x1 r1) q1 fun y w2 dy M2 x2 r2 ry q2=>?_
 exact⟨w2,M2,dx,dy,_,rfl,by rw[x2.K,x1.K,S.K],r2,rx.ext x2,ry,q2,fun d v hq hr=>aq v w2 d M2 (x1.trans x2) r2 hr hq⟩
theorem Og{N':List Str}{js:List (Option Nat)}{tg:List Nat}{it:It}{cd:Eo}{e:E}{el t iter:Expr}{ifs:List Expr}{scope:Scope}{pos:Pos}(G:Good c k Z w0 X)(hc:k.calm=true)(ho:Se k.sc k.N N' js scope=true)(hns:Z62 iter=true)(hn:N'.Nodup)
  (hi:PI X t iter (iF w0 (tit c Z it))) (ht:G5 {k with N:=N',sc:=Vg scope k.sc,cells:=false,own:=Fq scope,tries:=false,raises:=[]} tg t=true) (hd:chkC {k with N:=N',sc:=Vg scope k.sc,cells:=false,own:=Fq scope,tries:=false,raises:=[]} cd ifs=true) (he:chkE {k with N:=N',sc:=Vg scope k.sc,cells:=false,own:=Fq scope,tries:=false,raises:=[]} e el=true) (ihe:Zp4 c e) (ihd:Zo4 c cd):
  PE X (.ListComp el [⟨t,iter,ifs,0⟩] scope pos) (tF w0 (te c Z (.comp N' js tg it cd e)))∧
  ∀(i:Nat) (x:Str) (px spos:Pos),X.N[i]?=some x→X.env.scope.names.lookup x=some .local→swapsWith (.ListComp el [⟨t,iter,ifs,0⟩] scope pos) (some (.Name x px)) spos.line X.env=pure true→
   PS X (.Assign [.Name x px] (.ListComp el [⟨t,iter,ifs,0⟩] scope pos) spos) (fun R σ H=>tF w0 (te c Z (.comp N' js tg it cd e)) σ H fun v H1=>R.nx (σ.set i (some v)) H1):=by
 have ho':Se X.env.scope X.N N' js scope=true:=by rw[G.sc,G.N];exact ho
 have hf:∀x,foldedSetIterable iter X.env x=pure x:=by
  intro x
  cases iter<;>first | rfl | cases hns
 have hg:=fun cl C fp pins s H=>(Good.block G hc (scope:=scope) hn cl C fp pins s H).tgt tg t ht
 have hel:=fun cl C fp pins s H=>(ihe _ _ _ _ el (Good.block G hc (scope:=scope) hn cl C fp pins s H) he).1
 have key:∀σ H Q,tF w0 (te c Z (.comp N' js tg it cd e)) σ H Q→iF w0 (tit c Z it) σ H fun J H1=>∀p,H1 p=none→∃W:Nat→Nat→L2.St→Hp→Prop,(∃m,W 0 m (Sn js σ) (upd H1 p (.lst [])))∧
   ∀i m σc Hc,W i m σc Hc→(J.stop i Hc∧Q (.ref p) Hc)∨(J.go i Hc∧∀x H',J.yld i Hc x H'→gF w0 tg x σc H' fun σ2 H2=>tFT w0 (tcd c noX cd) σ2 H2 fun b H3=>if b=true then tF w0 (te c noX e) σ2 H3 fun y H4=>∃acc,H4 p=some (.lst acc)∧acc.length<sizeLine∧
    ∃m',m'<m∧W (i+1) m' σ2 (upd H4 p (.lst (acc++[y]))) else ∃m',m'<m∧W (i+1) m' σ2 H3):=by
  rintro σ H Q ⟨w,σD,M,QD,S,g,a⟩
  refine⟨w,σD,M,_,S,g,fun J w1 own xs M1 x1 R1 jk q1=>?_⟩
  exact Zn3 (S.ext.trans x1) rfl R1 (Zt3 (S.env.ext x1)) jk q1 fun v w2 d M2 x2 r2 rd2 zz97=>by obtain⟨e2,q2⟩:=zz97;exact a v w2 d M2 (x1.trans x2) r2 rd2 (by rw[e2];exact q2)
 have nocd:∀{σ:L2.St} {H:Hp} {P:Bool→Hp→Prop},cd= .no→tFT w0 (tcd c noX cd) σ H P→P true H:=by
  intro σ H P e h
  subst e
  obtain⟨w,σD,M,QD,S,g,a⟩:=h
  have:=a true w M (Ext.refl w) S.rs g
  rw[S.heap] at this
  exact this
 cases ifs with
 | nil=>
  have hcd:cd= .no:=by
   cases cd with
   | no=>rfl
   | yes e'=>exact absurd hd Bool.false_ne_true
  have key0:∀σ H Q,tF w0 (te c Z (.comp N' js tg it cd e)) σ H Q→Z96 js (iF w0 (tit c Z it)) (gF w0 tg) (tF w0 (te c noX e)) σ H Q:=by
   intro σ H Q h
   obtain⟨w,σD,M,QD,S,g,a⟩:=key σ H Q h
   refine⟨w,σD,M,QD,S,g,fun J w' own xs M' x' r' jk q p hp=>?_⟩
   obtain⟨W,w1,w2⟩:=a J w' own xs M' x' r' jk q p hp
   refine⟨W,w1,fun i m σc Hc hW=>(w2 i m σc Hc hW).imp id fun⟨z1,z2⟩=>⟨z1,fun x H' hy=>?_⟩⟩
   obtain⟨v1,v2,v3,v4,v5,v6,v7,v8,v9⟩:=z2 x H' hy
   refine⟨v1,v2,v3,v4,v5,v6,v7,v8,fun σ' σD' en q'=>?_⟩
   have:=nocd hcd (v9 σ' σD' en q')
   rw[if_pos rfl] at this
   exact this
  exact⟨PE.imp (Zk1 (G.calm hc) ho' hi hg hel hf) key0,fun i x px spos h1 h2 h3=>PS.imp (Zm5 (G.calm hc) ho' G.nd h1 h2 hi hg hel h3 hf) fun R σ H h=>key0 σ H _ h⟩
 | cons x0 ifs=>
  have hq:∀cl C fp pins s H,∃x,x0::ifs=[x]∧PT (cxC X N' scope cl C fp pins s H) x (tFT w0 (tcd c noX cd)):=fun cl C fp pins s H=>by
   rcases ihd.2 _ _ _ _ (x0::ifs) (Good.block G hc (scope:=scope) hn cl C fp pins s H) hd with h | ⟨h,_⟩
   ·exact h
   ·cases h
  have e0:ifs=[]:=by
   cases cd with
   | no=>exact absurd hd Bool.false_ne_true
   | yes e'=>
    cases ifs with
    | nil=>rfl
    | cons _ _=>exact absurd hd Bool.false_ne_true
  subst e0
  have hq':∀cl C fp pins s H,PT (cxC X N' scope cl C fp pins s H) x0 (tFT w0 (tcd c noX cd)):=fun cl C fp pins s H=>by
   obtain⟨x,h1,h2⟩:=hq cl C fp pins s H
   cases h1
   exact h2
  exact⟨PE.imp (Zm0 (G.calm hc) ho' hi hg hq' hel hf) key,fun i x px spos h1 h2 h3=>PS.imp (Zk8 (G.calm hc) ho' G.nd h1 h2 hi hg hq' hel h3 hf) fun R σ H h=>key σ H _ h⟩
end
section
variable{c:Cfg}{k:Ck}{Z:DX}{w0:Vw}{X:Cx}
theorem te_cmp_bl{op:Cm}{a b:E}(σD:DEnv)(M:Z2)(QD:DK)(h:te c Z (.cmp op a b) σD M QD):te c Z (.cmp op a b) σD M fun d M'=>(∃b,d= .bl b)∧QD d M':=by
 have e:(fun(d:D) (M':Z2)=>QD d M')=QD:=rfl
 show te c Z a σD M fun x M1=>te c Z b σD M1 fun y M2=>cmD M2 op x y fun r=>(∃b,D.bl r= .bl b)∧QD (.bl r) M2
 have h:te c Z a σD M (fun x M1=>te c Z b σD M1 fun y M2=>cmD M2 op x y fun r=>QD (.bl r) M2):=h
 have:(fun(x:D) (M1:Z2)=>te c Z b σD M1 fun y M2=>cmD M2 op x y fun r=>QD (.bl r) M2)=fun x M1=>te c Z b σD M1 fun y M2=>cmD M2 op x y fun r=>(∃b,D.bl r= .bl b)∧QD (.bl r) M2:=by
  funext x M1
  congr 1
  funext y M2
  congr 1
  funext r
  exact propext ⟨fun h=>⟨⟨r,rfl⟩,h⟩,fun h=>h.2⟩
 rw[this] at h
 exact h
theorem Zy4{a b:Expr}{rest:List Expr}{pos:Pos}{ta tb:TE}(ha:PE X a ta)(hb:PE X (.BoolOp .And (b::rest) pos) tb):PE X (.BoolOp .And (a::b::rest) pos) (fun σ H Q=>ta σ H fun x H1=>∃z,TruV X.K x H1 z∧if z=true then tb σ H1 Q else Q x H1):=by
 intro pins s σ H Q I h
 refine BoolOp_and (thn (ha pins s σ H _ I h) fun v s1 zz99=>?_)
 obtain⟨x,H1,I1,r1,q1⟩:=zz99
 refine thn (Bd pins s1 σ H1 x v (fun z H2=>if z=true then tb σ H2 Q else Q x H2) I1 r1 q1) fun z s2 zz100=>?_
 obtain⟨H2,I2,q2⟩:=zz100
 cases z with
 | true=>exact hb pins s2 σ H2 Q I2 (by rw[if_pos rfl] at q2;exact q2)
 | false=>exact⟨x,H2,I2,r1,by rw[if_neg Bool.false_ne_true] at q2;exact q2⟩
theorem Y32{a b:Expr}{rest:List Expr}{pos:Pos}{ta tb:TE}(ha:PE X a ta)(hb:PE X (.BoolOp .Or (b::rest) pos) tb):PE X (.BoolOp .Or (a::b::rest) pos) (fun σ H Q=>ta σ H fun x H1=>∃z,TruV X.K x H1 z∧if z=true then Q x H1 else tb σ H1 Q):=by
 intro pins s σ H Q I h
 refine BoolOp_or (thn (ha pins s σ H _ I h) fun v s1 zz101=>?_)
 obtain⟨x,H1,I1,r1,q1⟩:=zz101
 refine thn (Bd pins s1 σ H1 x v (fun z H2=>if z=true then Q x H2 else tb σ H2 Q) I1 r1 q1) fun z s2 zz102=>?_
 obtain⟨H2,I2,q2⟩:=zz102
 cases z with
 | false=>exact hb pins s2 σ H2 Q I2 (by rw[if_neg Bool.false_ne_true] at q2;exact q2)
 | true=>exact⟨x,H2,I2,r1,by rw[if_pos rfl] at q2;exact q2⟩
theorem Jw{M:Z2}{n:Nat}{xs:List D}{ys:List (Key×D)}(h1:Zd M n=some xs)(h2:Vm M n=some ys):False:=by
 unfold Zd at h1
 unfold Vm at h2
 cases h:M[n]? with
 | none=>rw[h] at h2;cases h2
 | some c=>rw[h] at h1 h2;cases c<;>simp at h1 h2
theorem Cf{M:Z2}{x:D}{k:Bool}{A:Prop}{P:Bool→Prop}:truD M x (fun b=>if b=k then A else truD M x P)=truD M x (fun b=>if b=k then A else P b):=by
 cases x with
 | str y=>
  apply propext
  show(y.length≤sizeLine∧if ((y.length:Int) !=0)=k then A else(y.length≤sizeLine∧P ((y.length:Int) !=0)))↔(y.length≤sizeLine∧if ((y.length:Int) !=0)=k then A else P ((y.length:Int) !=0))
  split<;>simp (config:={contextual:=true})
 | ref n=>
  apply propext
  have key:∀Q:Bool→Prop,truD M (.ref n) Q↔(∃xs,Zd M n=some xs∧Q (!xs.isEmpty))∨(∃xs,Vm M n=some xs∧Q (!xs.isEmpty)):=fun Q=>Mi
  constructor
  ·intro h
   rcases(key _).mp h with⟨xs,h1,h2⟩ | ⟨xs,h1,h2⟩
   ·refine(key _).mpr (.inl ⟨xs,h1,?_⟩)
    split at h2
    ·rename_i e;rw[if_pos e];exact h2
    ·rename_i e
     rw[if_neg e]
     rcases(key _).mp h2 with⟨ys,g1,g2⟩ | ⟨ys,g1,g2⟩
     ·rw[h1] at g1;cases g1;exact g2
     ·exact(Jw h1 g1).elim
   ·refine(key _).mpr (.inr ⟨xs,h1,?_⟩)
    split at h2
    ·rename_i e;rw[if_pos e];exact h2
    ·rename_i e
     rw[if_neg e]
     rcases(key _).mp h2 with⟨ys,g1,g2⟩ | ⟨ys,g1,g2⟩
     ·exact(Jw g1 h1).elim
     ·rw[h1] at g1;cases g1;exact g2
  ·intro h
   rcases(key _).mp h with⟨xs,h1,h2⟩ | ⟨xs,h1,h2⟩
   ·refine(key _).mpr (.inl ⟨xs,h1,?_⟩)
    split at h2
    ·rename_i e;rw[if_pos e];exact h2
    ·rename_i e;rw[if_neg e];exact(key _).mpr (.inl ⟨xs,h1,h2⟩)
   ·refine(key _).mpr (.inr ⟨xs,h1,?_⟩)
    split at h2
    ·rename_i e;rw[if_pos e];exact h2
    ·rename_i e;rw[if_neg e];exact(key _).mpr (.inr ⟨xs,h1,h2⟩)
 | non=>rfl
 | bl b=>rfl
 | int i=>rfl
 | tup xs=>rfl
 | _=>rfl
theorem te_bop_tt{e e2:E}{r:Es}{σD:DEnv}{M:Z2}{QD:Bool→Z2→Prop}(h:ttD (tbop c Z true (.cons e (.cons e2 r))) σD M QD):
  ttD (te c Z e) σD M fun z M1=>if z=true then ttD (tbop c Z true (.cons e2 r)) σD M1 QD else QD false M1:=by
 have hh:(fun(x:D) (M1:Z2)=>truD M1 x fun b=>if b=true then ttD (tbop c Z true (.cons e2 r)) σD M1 QD else truD M1 x fun b=>QD b M1)=
   fun x M1=>truD M1 x fun z=>if z=true then ttD (tbop c Z true (.cons e2 r)) σD M1 QD else QD false M1:=by
  funext x M1
  rw[Cf]
  congr 1
  funext b
  cases b<;>rfl
 have h':te c Z e σD M fun(x:D) (M1:Z2)=>truD M1 x fun b=>if b=true then ttD (tbop c Z true (.cons e2 r)) σD M1 QD else truD M1 x fun b=>QD b M1:=h
 rw[hh] at h'
 exact h'
theorem te_bop_ff{e e2:E}{r:Es}{σD:DEnv}{M:Z2}{QD:Bool→Z2→Prop}(h:ttD (tbop c Z false (.cons e (.cons e2 r))) σD M QD):
  ttD (te c Z e) σD M fun z M1=>if z=true then QD true M1 else ttD (tbop c Z false (.cons e2 r)) σD M1 QD:=by
 have hh:(fun(x:D) (M1:Z2)=>truD M1 x fun b=>if b=false then ttD (tbop c Z false (.cons e2 r)) σD M1 QD else truD M1 x fun b=>QD b M1)=
   fun x M1=>truD M1 x fun z=>if z=true then QD true M1 else ttD (tbop c Z false (.cons e2 r)) σD M1 QD:=by
  funext x M1
  rw[Cf]
  congr 1
  funext b
  cases b<;>rfl
 have h':te c Z e σD M fun(x:D) (M1:Z2)=>truD M1 x fun b=>if b=false then ttD (tbop c Z false (.cons e2 r)) σD M1 QD else truD M1 x fun b=>QD b M1:=h
 rw[hh] at h'
 exact h'
end
theorem Z07{k:Ck}{a:E}{ex:Expr}(h:chkE k (.lrev a) ex=true):∃x y l p1 p2 q1 q2,ex= .Call (.Name x p1) [.Call (.Name y p2) [l] [] q2] [] q1∧
  (k.calm&&x==("list":Str)&&y==("reversed":Str)&&k.glob x&&k.glob y&&k.BN.contains x&&k.BN.contains y&&Xo l&&chkE k a l)=true:=by
 cases ex with
 | Call fn as kws q1=>
  cases fn with
  | Name x p1=>
   cases as with
   | nil=>exact absurd h Bool.false_ne_true
   | cons a0 as=>
   cases a0 with
   | Call fn2 as2 kws2 q2=>
    cases fn2 with
    | Name y p2=>
     cases as2 with
     | nil=>exact absurd h Bool.false_ne_true
     | cons l ls=>
     cases ls with
     | cons _ _=>exact absurd h Bool.false_ne_true
     | nil=>
     cases kws2 with
     | cons _ _=>exact absurd h Bool.false_ne_true
     | nil=>
     cases as with
     | cons _ _=>exact absurd h Bool.false_ne_true
     | nil=>
     cases kws with
     | cons _ _=>exact absurd h Bool.false_ne_true
     | nil=>exact⟨x,y,l,p1,p2,q1,q2,rfl,h⟩
    | _=>exact absurd h Bool.false_ne_true
   | _=>exact absurd h Bool.false_ne_true
  | _=>exact absurd h Bool.false_ne_true
 | _=>exact absurd h Bool.false_ne_true
theorem Z23{k:Ck}{b:Bool}{a:E}{ex:Expr}(h:chkE k (.setf b a) ex=true):∃x y l p1 p2 q1 q2,ex= .Call (.Name x p1) [.Call (.Name y p2) [l] [] q2] [] q1∧
  (k.calm&&x==(if b then "sorted" else "len":Str)&&y==("set":Str)&&k.glob x&&k.glob y&&k.BN.contains x&&k.BN.contains y&&Xo l&&chkE k a l)=true:=by
 cases ex with
 | Call fn as kws q1=>
  cases fn with
  | Name x p1=>
   cases as with
   | nil=>exact absurd h Bool.false_ne_true
   | cons a0 as=>
   cases a0 with
   | Call fn2 as2 kws2 q2=>
    cases fn2 with
    | Name y p2=>
     cases as2 with
     | nil=>exact absurd h Bool.false_ne_true
     | cons l ls=>
     cases ls with
     | cons _ _=>exact absurd h Bool.false_ne_true
     | nil=>
     cases kws2 with
     | cons _ _=>exact absurd h Bool.false_ne_true
     | nil=>
     cases as with
     | cons _ _=>exact absurd h Bool.false_ne_true
     | nil=>
     cases kws with
     | cons _ _=>exact absurd h Bool.false_ne_true
     | nil=>exact⟨x,y,l,p1,p2,q1,q2,rfl,h⟩
    | _=>exact absurd h Bool.false_ne_true
   | _=>exact absurd h Bool.false_ne_true
  | _=>exact absurd h Bool.false_ne_true
 | _=>exact absurd h Bool.false_ne_true
theorem By{k:Ck}{ps:List (Str×Str)}{ex:Expr}(h:chkE k (.dctS ps) ex=true):∃ks vs pos,ex= .Dict ks vs pos∧(decide (ps.length≤15)&&decide (0<ps.length)&&chkP ps ks vs)=true:=by
 cases ex with
 | Dict ks vs pos=>exact⟨ks,vs,pos,rfl,h⟩
 | _=>exact absurd h Bool.false_ne_true
theorem Z02{k:Ck}{a:E}{ex:Expr}(h:chkE k (.allf a) ex=true):∃x l p1 q1,ex= .Call (.Name x p1) [l] [] q1∧(k.calm&&x==("all":Str)&&k.glob x&&k.BN.contains x&&Xo l&&chkE k a l)=true:=by
 cases ex with
 | Call fn ls kws pos=>
  cases fn with
  | Name x np=>
   match ls,kws,h with
   | [l],[],h=>exact⟨x,l,np,pos,rfl,h⟩
  | _=>exact absurd h Bool.false_ne_true
 | _=>exact absurd h Bool.false_ne_true
theorem Z00{k:Ck}{a:E}{ex:Expr}(h:chkE k (.anyf a) ex=true):∃x l p1 q1,ex= .Call (.Name x p1) [l] [] q1∧(k.calm&&x==("any":Str)&&k.glob x&&k.BN.contains x&&Xo l&&chkE k a l)=true:=by
 cases ex with
 | Call fn ls kws pos=>
  cases fn with
  | Name x np=>
   match ls,kws,h with
   | [l],[],h=>exact⟨x,l,np,pos,rfl,h⟩
  | _=>exact absurd h Bool.false_ne_true
 | _=>exact absurd h Bool.false_ne_true
theorem Z54{k:Ck}{es:Es}{ex:Expr}(h:Zh3 k (.zip es) ex=true):∃l ls p q,ex= .Call (.Name "zip" p) (l::ls) [] q∧(k.glob "zip"&&k.BN.contains "zip"&&Tj k es (l::ls))=true:=by
 obtain⟨fn,ls,kws,pos,rfl,h⟩:=Xp h
 obtain⟨x,np,rfl,h⟩:=X4 h
 obtain⟨rfl,h⟩:=T6 h
 obtain⟨l,ls,rfl,h⟩:=E8 h
 change (_&&_)=true at h
 simp only[Bool.and_eq_true,beq_iff_eq] at h
 obtain⟨⟨⟨rfl,h1⟩,h2⟩,h3⟩:=h
 refine⟨l,ls,_,_,rfl,?_⟩
 simp only[Bool.and_eq_true]
 exact⟨⟨h1,h2⟩,h3⟩
mutual
theorem Zu(c:Cfg):∀e:E,Zp4 c e
 | .var i,k,Z,w0,X,ex,G,h=>by
  obtain⟨x,pos,rfl,h⟩:=X4 h
  change (_&&_)=true at h
  simp only[Bool.and_eq_true,beq_iff_eq] at h
  exact both G (Za3 G h.1 h.2) fun _=>rfl
 | .int i,k,Z,w0,X,ex,G,h=>by
  obtain⟨v,j,pos,rfl,h⟩:=Vb h
  cases v with
  | int m=>
   have h:(i==m)=true:=h
   simp only[beq_iff_eq] at h
   subst h
   exact both G (PE.imp Y22 fun σ H Q q=>Px (fun _ _=>Zc.mpr rfl) q) fun _=>rfl
  | _=>exact absurd h Bool.false_ne_true
 | .bl i,k,Z,w0,X,ex,G,h=>by
  obtain⟨v,j,pos,rfl,h⟩:=Vb h
  cases v with
  | bool m=>
   have h:(i==m)=true:=h
   simp only[beq_iff_eq] at h
   subst h
   exact both G (PE.imp Y93 fun σ H Q q=>Px (fun _ _=>Xq.mpr rfl) q) fun _=>rfl
  | _=>exact absurd h Bool.false_ne_true
 | .non,k,Z,w0,X,ex,G,h=>by
  obtain⟨v,j,pos,rfl,h⟩:=Vb h
  cases v with
  | none=>exact both G (PE.imp Y24 fun σ H Q q=>Px (fun _ _=>Yz.mpr rfl) q) fun _=>rfl
  | _=>exact absurd h Bool.false_ne_true
 | .str i,k,Z,w0,X,ex,G,h=>by
  obtain⟨v,j,pos,rfl,h⟩:=Vb h
  cases v with
  | str m=>
   have h:(i==m)=true:=h
   simp only[beq_iff_eq] at h
   subst h
   exact both G (PE.imp Ei fun σ H Q q=>Px (fun _ _=>Zb.mpr rfl) q) fun _=>rfl
  | _=>exact absurd h Bool.false_ne_true
 | .ty t,k,Z,w0,X,ex,G,h=>by
  obtain⟨x,pos,rfl,h⟩:=X4 h
  change (_&&_)=true at h
  simp only[Bool.and_eq_true,beq_iff_eq,Dq] at h
  obtain⟨g1,g2,g3⟩:=G.gl h.1.2
  exact both G (PE.imp (Zy9 (v:= .ty (Xw t)) g1 (G.blt x h.2) (by rw[h.1.1];exact Zw4 t) rfl g3 g2) fun σ H Q q=>Px (fun _ _=>Zs7.mpr rfl) q) fun _=>rfl
 | .glb g,k,Z,w0,X,ex,G,h=>by
  obtain⟨x,pos,rfl,h⟩:=X4 h
  change (_&&_)=true at h
  simp only[Bool.and_eq_true,beq_iff_eq] at h
  exact both G (Z97 G h.1 h.2) fun _=>rfl
 | .bin op a b,k,Z,w0,X,ex,G,h=>by
  obtain⟨l,o,r,pos,rfl,h⟩:=Z60 h
  change (_&&_)=true at h
  simp only[Bool.and_eq_true,beq_iff_eq] at h
  obtain⟨⟨rfl,h1⟩,h2⟩:=h
  exact both G (PE.imp (Ya4 (Zf6 (w0:=w0) op) (Zu c a k Z w0 X l G h1).1 (Zu c b k Z w0 X r G h2).1) fun σ H Q q=>Z77 q) fun _=>rfl
 | .neg a,k,Z,w0,X,ex,G,h=>by
  obtain⟨o,l,pos,rfl,h⟩:=Ep h
  change (_&&_)=true at h
  simp only[Bool.and_eq_true,beq_iff_eq] at h
  obtain⟨rfl,h1⟩:=h
  refine both G (PE.imp (Yb0 Y88 (Zu c a k Z w0 X l G h1).1) fun σ H Q zz103=>?_) fun _=>rfl
  obtain⟨w,σD,M,QD,S,g,aq⟩:=zz103
  refine Yj S g fun x w1 dx M1 x1 r1 rx q1=>?_
  split at q1
  ·cases Zc.mp rx
   exact⟨_,rfl,aq _ w1 _ M1 x1 r1 (Zc.mpr rfl) q1⟩
  ·exact q1.elim
 | .not a,k,Z,w0,X,ex,G,h=>by
  obtain⟨o,l,pos,rfl,h⟩:=Ep h
  change (_&&_)=true at h
  simp only[Bool.and_eq_true,beq_iff_eq] at h
  obtain⟨rfl,h1⟩:=h
  obtain⟨i1,i2⟩:=Zu c a k Z w0 X l G h1
  refine⟨PE.imp (Zs5 i1) fun σ H Q ⟨w,σD,M,QD,S,g,aq⟩=>?_,fun hn=>PT.imp (Y54 (i2 hn)) fun σ H Q ⟨w,σD,M,QD,S,g,aq⟩=>?_⟩
  ·refine Yj S g fun x w1 dx M1 x1 r1 rx q1=>?_
   obtain⟨b,t1,t2⟩:=S6 (K:=X.K) (by rw[x1.K,S.K,G.eK]) r1 rx q1
   exact⟨b,t1,aq _ w1 _ M1 x1 r1 (Xq.mpr rfl) t2⟩
  ·exact⟨w,σD,M,fun b M1=>QD (!b) M1,S,g,fun b w' M' x' r' q'=>aq _ w' M' x' r' q'⟩
 | .cmp op a b,k,Z,w0,X,ex,G,h=>by
  obtain⟨l,os,rs,pos,rfl,h⟩:=Z85 h
  obtain⟨o,rfl,h⟩:=Vd h
  obtain⟨r,rfl,h⟩:=Vd h
  change (_&&_)=true at h
  simp only[Bool.and_eq_true,beq_iff_eq] at h
  obtain⟨⟨⟨rfl,h0⟩,h1⟩,h2⟩:=h
  have hm:behindInMarks (cmOf op) r=false:=by
   cases r with
   | Set es kk p=>cases op<;>first | (simp[isIn,Z62] at h0;done) | (simp[behindInMarks,cmOf])
   | _=>rfl
  have ia:=(Zu c a k Z w0 X l G h1).1
  have ib:=(Zu c b k Z w0 X r G h2).1
  refine⟨PE.imp (Zw8 (C4 (w0:=w0) G.eK G.units op) ia ib hm) fun σ H Q q=>Gj q,fun _=>Zy5 (PT.imp (Zv7 (C4 (w0:=w0) G.eK G.units op) ia ib hm) fun σ H Q q=>Gj q) te_cmp_bl⟩
 | .bop b es,k,Z,w0,X,ex,G,h=>by
  obtain⟨o,ls,pos,rfl,h⟩:=Z41 h
  change (_&&_)=true at h
  simp only[Bool.and_eq_true,beq_iff_eq] at h
  obtain⟨rfl,h⟩:=h
  cases b with
  | true=>
   obtain⟨i1,i2⟩:=(V6 c es k Z w0 X ls G h).2 true pos
   exact⟨i1,fun hn=>(i2 hn).pt⟩
  | false=>
   obtain⟨i1,i2⟩:=(V6 c es k Z w0 X ls G h).2 false pos
   exact⟨i1,fun hn=>(i2 hn).pt⟩
 | .lst es,k,Z,w0,X,ex,G,h=>by
  obtain⟨ls,pos,rfl,h⟩:=Z82 h
  refine both G (PE.imp (Y50 (V6 c es k Z w0 X ls G h).1) fun σ H Q zz106=>?_) fun _=>rfl
  obtain⟨w,σD,M,QD,S,g,aq⟩:=zz106
  refine⟨w,σD,M,_,S,g,fun vs w1 ds M1 x1 r1 rd1 q1=>⟨by rw[rd1.length];exact q1.1,fun p hp=>?_⟩⟩
  obtain⟨y1,y2,y3⟩:=W5 r1 hp rd1
  exact aq _ _ _ _ (x1.trans y1) y2 y3 q1.2
 | .tup es,k,Z,w0,X,ex,G,h=>by
  obtain⟨ls,kk,pos,rfl,h⟩:=Jc h
  refine both G (PE.imp (Y13 (V6 c es k Z w0 X ls G h).1) fun σ H Q zz107=>?_) fun _=>rfl
  obtain⟨w,σD,M,QD,S,g,aq⟩:=zz107
  refine⟨w,σD,M,_,S,g,fun vs w1 ds M1 x1 r1 rd1 q1=>⟨by rw[rd1.length];exact q1.1,fun p hp=>?_⟩⟩
  obtain⟨y1,y2,y3⟩:=Tw r1 hp rd1
  exact aq _ _ _ _ (x1.trans y1) y2 y3 q1.2
 | .dct a b,k,Z,w0,X,ex,G,h=>by
  obtain⟨ks,vs,pos,rfl,h⟩:=Za4 h
  obtain⟨q,rfl,h⟩:=Vd h
  obtain⟨l,rfl,h⟩:=Zz2 h
  obtain⟨r,rfl,h2⟩:=Vd h
  change (_&&_)=true at h2
  rw[Bool.and_eq_true] at h2
  exact both G (Zb2 G (Zu c a k Z w0 X l G h2.1).1 (Zu c b k Z w0 X r G h2.2).1) fun _=>rfl
 | .ix a b,k,Z,w0,X,ex,G,h=>by
  obtain⟨l,r,pos,rfl,h⟩:=G8 h
  change (_&&_)=true at h
  simp only[Bool.and_eq_true] at h
  exact both G (Zm6 G h.1.1 (Zu c a k Z w0 X l G h.1.2).1 (Zu c b k Z w0 X r G h.2).1) fun _=>rfl
 | .sl a lo hi,k,Z,w0,X,ex,G,h=>by
  obtain⟨l,r,pos,rfl,h⟩:=G8 h
  obtain⟨x,y,z,p2,rfl,h⟩:=Z55 h
  obtain⟨rfl,h⟩:=Zq4 h
  change (_&&_)=true at h
  simp only[Bool.and_eq_true] at h
  exact both G (Zf5 G (Zu c a k Z w0 X l G h.1.1).1 ((Oi c lo).1 k Z w0 X x G h.1.2) ((Oi c hi).1 k Z w0 X y G h.2)) fun _=>rfl
 | .slW a lo hi,k,Z,w0,X,ex,G,h=>by
  cases ex with
  | Subscript l r pos=>
   cases r with
   | Slice x y z p2=>
    cases z with
    | none=>
     change (_&&_)=true at h
     simp only[Bool.and_eq_true] at h
     exact both G (Z59 G (Zu c a k Z w0 X l G h.1.1).1 ((Oi c lo).1 k Z w0 X x G h.1.2) ((Oi c hi).1 k Z w0 X y G h.2)) fun _=>rfl
    | some _=>exact absurd h Bool.false_ne_true
   | _=>exact absurd h Bool.false_ne_true
  | _=>exact absurd h Bool.false_ne_true
 | .setf b a,k,Z,w0,X,ex,G,h=>by
  obtain⟨x,y,l,p1,p2,q1,q2,rfl,hs⟩:=Z23 h
  simp only[Bool.and_eq_true,beq_iff_eq,Dq] at hs
  obtain⟨⟨⟨⟨⟨⟨⟨⟨h1,h2⟩,h3⟩,h4⟩,h5⟩,h6⟩,h7⟩,h8⟩,h9⟩:=hs
  exact both G (Bj G h1 h2 h3 h4 h5 h6 h7 h8 (Zu c a k Z w0 X l G h9).1) fun _=>rfl
 | .lrev a,k,Z,w0,X,ex,G,h=>by
  obtain⟨x,y,l,p1,p2,q1,q2,rfl,hs⟩:=Z07 h
  simp only[Bool.and_eq_true,beq_iff_eq,Dq] at hs
  obtain⟨⟨⟨⟨⟨⟨⟨⟨h1,h2⟩,h3⟩,h4⟩,h5⟩,h6⟩,h7⟩,h8⟩,h9⟩:=hs
  exact both G (Z37 G h1 h2 h3 h4 h5 h6 h7 h8 (Zu c a k Z w0 X l G h9).1) fun _=>rfl
 | .fstr es,k,Z,w0,X,ex,G,h=>by
  obtain⟨v1,v2,vs,pos,rfl,hs⟩:=Z08 h
  exact both G (Bt (Fo c es k Z w0 X _ G hs)) fun _=>rfl
 | .allf a,k,Z,w0,X,ex,G,h=>by
  obtain⟨x,l,p1,q1,rfl,hs⟩:=Z02 h
  simp only[Bool.and_eq_true,beq_iff_eq,Dq] at hs
  obtain⟨⟨⟨⟨⟨h1,h2⟩,h3⟩,h4⟩,h5⟩,h6⟩:=hs
  exact both G (Z16 G h1 h2 h3 h4 h5 (Zu c a k Z w0 X l G h6).1) fun _=>rfl
 | .anyf a,k,Z,w0,X,ex,G,h=>by
  obtain⟨x,l,p1,q1,rfl,hs⟩:=Z00 h
  simp only[Bool.and_eq_true,beq_iff_eq,Dq] at hs
  obtain⟨⟨⟨⟨⟨h1,h2⟩,h3⟩,h4⟩,h5⟩,h6⟩:=hs
  exact both G (Z40 G h1 h2 h3 h4 h5 (Zu c a k Z w0 X l G h6).1) fun _=>rfl
 | .dctS ps,k,Z,w0,X,ex,G,h=>by
  obtain⟨ks,vs,pos,rfl,hs⟩:=By h
  simp only[Bool.and_eq_true,decide_eq_true_eq] at hs
  exact both G (Bz G hs.1.1 hs.1.2 hs.2) fun _=>rfl
 | .call f es,k,Z,w0,X,ex,G,h=>by
  obtain⟨fn,ls,kws,pos,rfl,h⟩:=Xp h
  obtain⟨x,np,rfl,h⟩:=X4 h
  obtain⟨rfl,h⟩:=T6 h
  change (_&&_)=true at h
  simp only[Bool.and_eq_true,beq_iff_eq] at h
  exact both G (Z42 G h.1.1.1 h.1.1.2 h.1.2 h.2 (V6 c es k Z w0 X ls G h.2).1) fun _=>rfl
 | .bf b es,k,Z,w0,X,ex,G,h=>by
  obtain⟨fn,ls,kws,pos,rfl,h⟩:=Xp h
  obtain⟨x,np,rfl,h⟩:=X4 h
  obtain⟨rfl,h⟩:=T6 h
  obtain⟨l,ls,rfl,h⟩:=E8 h
  change (_&&_)=true at h
  simp only[Bool.and_eq_true,beq_iff_eq,Bool.or_eq_true,Dq] at h
  exact both G (Zk9 G h.1.1.1.1 h.1.1.1.2 h.1.1.2 h.1.2 h.2 (V6 c es k Z w0 X (l::ls) G h.2).1) fun _=>rfl
 | .mt m o es,k,Z,w0,X,ex,G,h=>by
  obtain⟨fn,ls,kws,pos,rfl,h⟩:=Xp h
  obtain⟨l,nm,ap,rfl,h⟩:=Z15 h
  obtain⟨rfl,h⟩:=T6 h
  change (_&&_)=true at h
  simp only[Bool.and_eq_true,beq_iff_eq,decide_eq_true_eq] at h
  obtain⟨⟨⟨⟨⟨rfl,h1⟩,h2⟩,h3⟩,h4⟩,h5⟩:=h
  exact both G (Zm2 G h1 (by rw[h2];simp) h3 h5 (Zu c o k Z w0 X l G h4).1 (V6 c es k Z w0 X ls G h5).1) fun _=>rfl
 | .comp N' js tg it cd e,k,Z,w0,X,ex,G,h=>by
  obtain⟨el,gens,scope,pos,rfl,h⟩:=Ez h
  obtain⟨g,rfl,h⟩:=Vd h
  obtain⟨t,iter,ifs,as⟩:=g
  obtain⟨rfl,h⟩:=Zd5 h
  change (_&&_)=true at h
  simp only[Bool.and_eq_true,decide_eq_true_eq] at h
  obtain⟨⟨⟨⟨⟨⟨⟨⟨h1,h2⟩,h3⟩,h4⟩,h5⟩,h6⟩,h7⟩,h8⟩,h9⟩:=h
  exact both G (Og G h1 h2 h3 h5 (Z70 c it k Z w0 X t iter G h4 h9) h6 h7 h8 (Zu c e) (Oi c cd)).1 fun _=>rfl
theorem Fo(c:Cfg):∀es:Es,Zr8 c es
 | .nil,k,Z,w0,X,vs,G,h=>by
  cases Y36 h
  refine PFs.imp Y74 fun o σ H Q ⟨w,σD,M,QD,S,g,aq⟩=>⟨g.1,?_⟩
  have:=aq o w M (Ext.refl w) S.rs g.2
  rw[S.heap] at this
  exact this
 | .cons e r,k,Z,w0,X,vs,G,h=>by
  rcases Zv1 h with⟨y,j,p,xs,rfl,rfl,h1⟩ | ⟨v,p,xs,rfl,h1,h2⟩
  ·refine PFs.imp (Y67 (Fo c r k Z w0 X xs G h1)) fun o σ H Q zz109=>?_
   obtain⟨w,σD,M,QD,S,g,aq⟩:=zz109
   obtain⟨g1,g2,g3⟩:y.length≤sizeLine∧(o++y).length≤sizeLine∧tfs c Z r (o++y) σD M QD:=g
   exact⟨g2,w,σD,M,QD,S,g3,aq⟩
  ·refine PFs.imp (Y55 (Zu c e k Z w0 X v G h1).1 (Fo c r k Z w0 X xs G h2)) fun o σ H Q zz110=>?_
   obtain⟨w,σD,M,QD,S,g,aq⟩:=zz110
   refine Yj S g fun u w1 d M1 x1 r1 rd1 q1=>?_
   rcases Ej q1 with⟨i,rfl,a1,a2,a3⟩ | ⟨y,rfl,a1,a2,a3⟩
   ·cases Zc.mp rd1
    exact .inl ⟨i,rfl,a1,a2,w1,σD,M1,QD,S.next x1 r1,a3,fun x w' M' x2 r2 q=>aq x w' M' (x1.trans x2) r2 q⟩
   ·cases Zb.mp rd1
    exact .inr ⟨y,rfl,a1,a2,w1,σD,M1,QD,S.next x1 r1,a3,fun x w' M' x2 r2 q=>aq x w' M' (x1.trans x2) r2 q⟩
theorem V6(c:Cfg):∀es:Es,Zv0 c es
 | .nil,k,Z,w0,X,ls,G,h=>by
  cases ls with
  | nil=>
   refine⟨PA.imp Vx fun σ H Q zz111=>?_,fun b pos=>⟨PE.imp (t:=fun _ _ _=>False) (fun _ _ _ _ _ _ h=>h.elim) fun σ H Q zz112=>by obtain⟨w,σD,M,QD,S,g,aq⟩:=zz112;exact g,fun _ whole pins s σ H Q I zz113=>by obtain⟨w,σD,M,QD,S,g,aq⟩:=zz113;exact g.elim⟩⟩
   obtain⟨w,σD,M,QD,S,g,aq⟩:=zz111
   have:=aq [] w [] M (Ext.refl w) S.rs (RDs.nil w) g
   rw[S.heap] at this
   exact this
  | cons l ls=>exact absurd h Bool.false_ne_true
 | .cons e r,k,Z,w0,X,ls,G,h=>by
  cases ls with
  | nil=>exact absurd h Bool.false_ne_true
  | cons l ls=>
   change (_&&_)=true at h
   simp only[Bool.and_eq_true] at h
   obtain⟨ie,it⟩:=Zu c e k Z w0 X l G h.1.1
   obtain⟨ir,ib⟩:=V6 c r k Z w0 X ls G h.2
   refine⟨PA.imp (W2 ie ir (Zl h.1.2)) fun σ H Q ⟨w,σD,M,QD,S,g,aq⟩=>?_,fun b pos=>?_⟩
   ·refine Yj S g fun v w1 d M1 x1 r1 rd1 q1=>?_
    refine⟨w1,σD,M1,_,S.next x1 r1,q1,fun vs w2 ds M2 x2 r2 rd2 q2=>?_⟩
    exact aq _ w2 _ M2 (x1.trans x2) r2 (RDs.cons (rd1.ext x2) rd2) q2
   ·cases r with
    | nil=>
     cases ls with
     | cons _ _=>exact absurd h.2 Bool.false_ne_true
     | nil=>
      refine⟨PE.imp (Y35 ie) fun σ H Q q=>q,fun hn=>?_⟩
      have hn':noIf e=true:=by simpa[Z22] using hn
      cases b with
      | true=>exact fun whole pins s σ H Q I q=>Zs4 (it hn') whole pins s σ H Q I q
      | false=>exact fun whole pins s σ H Q I q=>Y21 (it hn') whole pins s σ H Q I q
    | cons e2 r2=>
     cases ls with
     | nil=>exact absurd h.2 Bool.false_ne_true
     | cons l2 ls=>
      obtain⟨jb,jw⟩:=ib b pos
      constructor
      ·cases b with
       | true=>
        refine PE.imp (Zy4 ie jb) fun σ H Q zz115=>?_
        obtain⟨w,σD,M,QD,S,g,aq⟩:=zz115
        refine Yj S g fun v w1 d M1 x1 r1 rd1 q1=>?_
        obtain⟨z,t1,t2⟩:=S6 (K:=X.K) (by rw[x1.K,S.K,G.eK]) r1 rd1 q1
        refine⟨z,t1,?_⟩
        cases z with
        | true=>rw[if_pos rfl] at t2 ⊢;exact Yj (S.next x1 r1) t2 (aq.ext x1)
        | false=>rw[if_neg Bool.false_ne_true] at t2 ⊢;exact aq _ w1 _ M1 x1 r1 rd1 t2
       | false=>
        refine PE.imp (Y32 ie jb) fun σ H Q zz116=>?_
        obtain⟨w,σD,M,QD,S,g,aq⟩:=zz116
        refine Yj S g fun v w1 d M1 x1 r1 rd1 q1=>?_
        obtain⟨z,t1,t2⟩:=S6 (K:=X.K) (by rw[x1.K,S.K,G.eK]) r1 rd1 q1
        refine⟨z,t1,?_⟩
        cases z with
        | false=>rw[if_pos rfl] at t2;rw[if_neg Bool.false_ne_true];exact Yj (S.next x1 r1) t2 (aq.ext x1)
        | true=>rw[if_neg (by decide)] at t2;rw[if_pos rfl];exact aq _ w1 _ M1 x1 r1 rd1 t2
      ·intro hn
       have hn':noIf e=true∧Z22 (.cons e2 r2)=true:=by
        have:(noIf e&&Z22 (.cons e2 r2))=true:=hn
        simpa using this
       have jw':=jw hn'.2
       cases b with
       | true=>
        rintro whole pins s σ H Q I ⟨w,σD,M,QD,S,g,aq⟩
        refine Y68 (it hn'.1) jw' whole pins s σ H Q I ?_
        refine⟨w,σD,M,fun z M1=>if z=true then ttD (tbop c Z true (.cons e2 r2)) σD M1 QD else QD false M1,S,?_,fun z w1 M1 x1 r1 q1=>?_⟩
        ·exact te_bop_tt g
        ·cases z with
         | true=>rw[if_pos rfl] at q1 ⊢;exact⟨w1,σD,M1,QD,S.next x1 r1,q1,fun z w2 M2 x2 r2 q2=>aq z w2 M2 (x1.trans x2) r2 q2⟩
         | false=>rw[if_neg Bool.false_ne_true] at q1 ⊢;exact aq _ w1 M1 x1 r1 q1
       | false=>
        rintro whole pins s σ H Q I ⟨w,σD,M,QD,S,g,aq⟩
        refine Yc9 (it hn'.1) jw' whole pins s σ H Q I ?_
        refine⟨w,σD,M,fun z M1=>if z=true then QD true M1 else ttD (tbop c Z false (.cons e2 r2)) σD M1 QD,S,?_,fun z w1 M1 x1 r1 q1=>?_⟩
        ·exact te_bop_ff g
        ·cases z with
         | true=>rw[if_pos rfl] at q1 ⊢;exact aq _ w1 M1 x1 r1 q1
         | false=>rw[if_neg Bool.false_ne_true] at q1 ⊢;exact⟨w1,σD,M1,QD,S.next x1 r1,q1,fun z w2 M2 x2 r2 q2=>aq z w2 M2 (x1.trans x2) r2 q2⟩
theorem Oi(c:Cfg):∀eo:Eo,Zo4 c eo
 | .no=>⟨fun k Z w0 X lo G h=>by
   cases lo with
   | none=>
    rintro pins s σ H Q I ⟨w,σD,M,QD,S,g,aq⟩
    refine Zs2 pins s σ H Q I ?_
    have:=aq none w M (Ext.refl w) S.rs g
    rw[S.heap] at this
    exact this
   | some _=>exact absurd h Bool.false_ne_true,fun k Z w0 X ls G h=>by
   cases ls with
   | nil=>exact .inr ⟨rfl,rfl⟩
   | cons _ _=>exact absurd h Bool.false_ne_true⟩
 | .yes e=>⟨fun k Z w0 X lo G h=>by
   cases lo with
   | none=>exact absurd h Bool.false_ne_true
   | some x=>
    rintro pins s σ H Q I ⟨w,σD,M,QD,S,g,aq⟩
    refine Zz8 (Zu c e k Z w0 X x G h).1 pins s σ H Q I ?_
    refine Yj S g fun v w1 d M1 x1 r1 rd1 q1=>?_
    split at q1
    ·cases Zc.mp rd1
     exact⟨_,rfl,aq _ w1 M1 x1 r1 q1⟩
    ·exact q1.elim,fun k Z w0 X ls G h=>by
   match ls,h with
   | [x],h=>
    change (_&&_)=true at h
    simp only[Bool.and_eq_true] at h
    exact .inl ⟨x,rfl,(Zu c e k Z w0 X x G h.1).2 h.2⟩
   | [],h=>exact absurd h Bool.false_ne_true
   | _::_::_,h=>exact absurd h Bool.false_ne_true⟩
theorem Z70(c:Cfg):∀it:It,Y62 c it
 | .seq e,k,Z,w0,X,tg,ex,G,h,_=>by
  refine PI.imp (Y01 (Zu c e k Z w0 X ex G h).1) fun σ H R zz117=>?_
  obtain⟨w,σD,M,QD,S,g,aq⟩:=zz117
  refine Yj S g fun v w1 d M1 x1 r1 rd1 q1=>?_
  have hK:X.K=w1.K:=by rw[x1.K,S.K,G.eK]
  unfold itD at q1
  split at q1
  ·obtain⟨hn,rfl⟩:=Zt.mp rd1
   obtain⟨xs,z1,z2⟩:=q1
   obtain⟨_,vs,y1,y2,_⟩:=r1.listL z1
   rw[←hK] at y1
   exact .inl ⟨_,rfl,⟨vs,y1⟩,aq _ w1 _ _ M1 x1 r1 (Zg7 hK hn) z2⟩
  ·obtain⟨a,vs,rfl,y1,y2⟩:=X5.mp rd1
   exact .inr (.inl ⟨a,rfl,⟨vs,.of y1⟩,aq _ w1 _ _ M1 x1 r1 (Z67 hK (.of y1) y2) q1⟩)
  ·obtain⟨a,vs,rfl,y1,y2⟩:=T2.mp rd1
   exact .inr (.inl ⟨a,rfl,⟨vs,by rw[hK];exact y1⟩,aq _ w1 _ _ M1 x1 r1 (Z67 hK y1 y2) q1⟩)
  ·cases Zb.mp rd1
   exact .inr (.inr ⟨_,rfl,aq _ w1 _ _ M1 x1 r1 Zt5 q1⟩)
  ·exact q1.elim
 | .rng1 a,k,Z,w0,X,tg,ex,G,h,_=>by
  obtain⟨fn,ls,kws,pos,rfl,h⟩:=Xp h
  obtain⟨x,np,rfl,h⟩:=X4 h
  obtain⟨rfl,h⟩:=T6 h
  obtain⟨l,rfl,h⟩:=Vd h
  change (_&&_)=true at h
  simp only[Bool.and_eq_true,beq_iff_eq,Dq] at h
  obtain⟨⟨⟨⟨rfl,h1⟩,h2⟩,h3⟩,h4⟩:=h
  obtain⟨g1,g2,g3⟩:=G.gl h1
  refine PI.imp (Z74 g1 (G.blt _ h2) (W2 (Zu c a k Z w0 X l G h4).1 Vx (Zl h3)) (Zl h3)) fun σ H R zz118=>?_
  obtain⟨w,σD,M,QD,S,g,aq⟩:=zz118
  refine Yj S g fun v w1 d M1 x1 r1 rd1 q1=>?_
  split at q1
  ·cases Zc.mp rd1
   exact⟨_,rfl,q1.1,q1.2.1,aq _ w1 _ _ M1 x1 r1 Z57 q1.2.2⟩
  ·exact q1.elim
 | .rng2 a b,k,Z,w0,X,tg,ex,G,h,_=>by
  obtain⟨fn,ls,kws,pos,rfl,h⟩:=Xp h
  obtain⟨x,np,rfl,h⟩:=X4 h
  obtain⟨rfl,h⟩:=T6 h
  obtain⟨l,ls,rfl,h⟩:=E8 h
  obtain⟨r,rfl,h⟩:=Vd h
  change (_&&_)=true at h
  simp only[Bool.and_eq_true,beq_iff_eq,Dq] at h
  obtain⟨⟨⟨⟨⟨⟨rfl,h1⟩,h2⟩,h3⟩,h5⟩,h4⟩,h6⟩:=h
  obtain⟨g1,g2,g3⟩:=G.gl h1
  refine PI.imp (Z76 g1 (G.blt _ h2) (W2 (Zu c a k Z w0 X l G h4).1 (W2 (Zu c b k Z w0 X r G h6).1 Vx (Zl h5)) (Zl h3)) (by rw[Zl h3,Zl h5];rfl) (Zl h5)) fun σ H R zz119=>?_
  obtain⟨w,σD,M,QD,S,g,aq⟩:=zz119
  refine Yj S g fun v w1 d M1 x1 r1 rd1 q1=>?_
  refine Yj (S.next x1 r1) q1 fun v2 w2 d2 M2 x2 r2 rd2 q2=>?_
  split at q2
  ·cases Zc.mp rd1
   cases Zc.mp rd2
   exact⟨_,_,rfl,q2.1,aq _ w2 _ _ M2 (x1.trans x2) r2 Z57 q2.2⟩
  ·exact q2.elim
 | .zip es,k,Z,w0,X,tg,ex,G,h,ht=>by
  cases tg with
  | Tuple elts ctx tp=>
   obtain⟨l,ls,p,q,rfl,h2⟩:=Z54 h
   simp only[Bool.and_eq_true,Dq] at h2
   obtain⟨⟨h3,h4⟩,h5⟩:=h2
   obtain⟨g1,g2,g3⟩:=G.gl h3
   obtain⟨s1,s2⟩:=Yc8 h5
   refine PI.imp (Zt9 g1 (G.blt _ h4) (V6 c es k Z w0 X (l::ls) G h5).1 s1 s2) fun σ H R zz120=>?_
   obtain⟨w,σD,M,QD,S,g,aq⟩:=zz120
   refine⟨w,σD,M,_,S,g,fun vs w1 ds M1 x1 r1 rd1 q1=>?_⟩
   obtain⟨da,db,rfl,q2⟩:=Qv q1
   have hK:X.K=w1.K:=by rw[x1.K,S.K,G.eK]
   obtain⟨v1,v2,rfl,a1,a2⟩:=rds2 rd1
   rcases Zk7 q2 with⟨n,m,ys,zs,rfl,rfl,z1,z2,z3⟩ | ⟨ys,zs,rfl,rfl,z3⟩
   ·obtain⟨hn,rfl⟩:=Zt.mp a1
    obtain⟨hm,rfl⟩:=Zt.mp a2
    obtain⟨_,us,y1,_,_⟩:=r1.listL z1
    obtain⟨_,vs,y2,_,_⟩:=r1.listL z2
    rw[←hK] at y1 y2
    exact .inl ⟨_,_,rfl,⟨us,y1⟩,⟨vs,y2⟩,aq _ w1 _ _ M1 x1 r1 (Zx7 hK hn hm) z3⟩
   ·obtain⟨p1,us,rfl,y1,y2⟩:=X5.mp a1
    obtain⟨p2,vs,rfl,y3,y4⟩:=X5.mp a2
    exact .inr ⟨_,_,us,vs,rfl,.of y1,.of y3,aq _ w1 _ _ M1 x1 r1 (Ze9 y1 y3 y2 y4) z3⟩
  | _=>exact absurd ht Bool.false_ne_true
 | .enm a,k,Z,w0,X,tg,ex,G,h,ht=>by
  obtain⟨elts,ctx,tp,rfl,_⟩:=Jc (F:=fun _=>true) (show Zw3 tg (fun _=>true)=true by cases tg<;>first | rfl | exact ht)
  obtain⟨fn,ls,kws,pos,rfl,h⟩:=Xp h
  obtain⟨x,np,rfl,h⟩:=X4 h
  obtain⟨rfl,h⟩:=T6 h
  obtain⟨l,rfl,h⟩:=Vd h
  change (_&&_)=true at h
  simp only[Bool.and_eq_true,beq_iff_eq,Dq] at h
  obtain⟨⟨⟨⟨rfl,h1⟩,h2⟩,h3⟩,h4⟩:=h
  obtain⟨g1,g2,g3⟩:=G.gl h1
  refine PI.imp (Zy2 g1 (G.blt _ h2) (W2 (Zu c a k Z w0 X l G h4).1 Vx (Zl h3)) (Zl h3)) fun σ H R zz121=>?_
  obtain⟨w,σD,M,QD,S,g,aq⟩:=zz121
  refine Yj S g fun v w1 d M1 x1 r1 rd1 q1=>?_
  have hK:X.K=w1.K:=by rw[x1.K,S.K,G.eK]
  split at q1
  ·obtain⟨hn,rfl⟩:=Zt.mp rd1
   obtain⟨xs,z1,z2⟩:=q1
   obtain⟨_,vs,y1,y2,_⟩:=r1.listL z1
   rw[←hK] at y1
   exact⟨_,rfl,⟨vs,y1⟩,aq _ w1 _ _ M1 x1 r1 (Zj3 hK hn) z2⟩
  ·exact q1.elim
end
noncomputable def O2:Expr→Bool
 | .ListComp .. | .SetComp .. | .DictComp ..=>false
 | _=>true
noncomputable def Ol:Expr→Bool
 | .Tuple ..=>false
 | _=>true
noncomputable def Zp8:Expr→Bool
 | .Name ..=>true
 | _=>false
noncomputable def Zt0(k:Ck)(t x:Expr):Bool:=match t,x with
 | .Name n pos,.ListComp _ _ scope p=>k.sc.kind== .function&&k.loc n&&pos.line==p.line&&!(scope.names.any fun(m,j)=>m==n&&(j== .local || j== .cell))
 | _,_=>false
noncomputable def Y60(k:Ck)(t x:Expr):Bool:=match t,x with
 | .Name n _,.ListComp ..=>k.sc.names.lookup n==some .cell
 | _,_=>false
mutual
noncomputable def chkS(k:Ck):S→Stmt→Bool
 | .never,_=>true
 | .ret e,.Return (some x) _=>chkE k e x
 | .expr e,.Expr x _=>O2 x&&chkE k e x
 | .setL tg e,.Assign [.Tuple es _ _] x _=>k.calm&&Z71 k tg es&&chkE k e x&&O2 x&&Ol x
 | .set tg e,.Assign [t] x _=>G5 k tg t&&chkE k e x&&((O2 x&&(Zp8 t || Ol x)) || (Zt0 k t x&&decide (tg.length=1)) || Y60 k t x)
 | .put o i v,.Assign [.Subscript l r _] x _=>Fn r&&O2 x&&chkE k v x&&chkE k o l&&chkE k i r
 | .ite t a b,.If x ls rs _=>chkE k t x&&noIf t&&Yb k a ls&&Yb k b rs
 | .for_ tg it b,.For t x ls [] _=>k.calm&&k.loops&&Z62 x&&G5 k tg t&&Zh3 k it x&&Yb k b ls&&itTg it t
 | .while_ t b,.While x ls [] _=>k.loops&&chkE k t x&&noIf t&&Yb k b ls
 | _,_=>false
noncomputable def Yb(k:Ck):Ss→List Stmt→Bool
 | .nil,[]=>true
 | .cons s r,x::xs=>chkS k s x&&Yb k r xs
 | _,_=>false
end
section
variable{c:Cfg}{k:Ck}{Z:DX}{w0:Vw}{X:Cx}
theorem N8{x:Expr}{t:Option Expr}{line:Nat}{env:Env}(h:O2 x=true):swapsWith x t line env=pure false:=by
 cases x<;>first | rfl | cases h
theorem Ff{f:DS}{σ:L2.St}{w:Vw}{σD:DEnv}{M:Z2}{H:Hp}{R:Ends}{RR:DEnds}(S:StOk w0 w σD M σ H)(h:f RR σD M)
  (h1:∀σ' w' σD' M',Ext w w'→RS w' M'→REnv w' σD' σ'→RR.nx σD' M'→R.nx σ' w'.H) (h2:Aft w RR.rt R.rt)
  (h3:∀σ' w' σD' M',Ext w w'→RS w' M'→REnv w' σD' σ'→RR.bk σD' M'→R.bk σ' w'.H)
  (h4:∀σ' w' σD' M',Ext w w'→RS w' M'→REnv w' σD' σ'→RR.ct σD' M'→R.ct σ' w'.H):tFS w0 f R σ H:=⟨w,σD,M,RR,S,h,h1,h2,h3,h4⟩
theorem Zs6{w1:Vw}{J:L2.It}{own:Own}{xs:List D}{tg:List Nat}{body:DS}{M1:Z2}{H1:Hp}{σD:DEnv}{σ:L2.St}{RR:DEnds}{R:Ends}(S:StOk w0 w1 σD M1 σ H1)(jk:JOk w1 J own xs)
  (h:forD own xs tg body xs RR σD M1)
  (h1:∀σ' w' σD' M',Ext w1 w'→RS w' M'→REnv w' σD' σ'→RR.nx σD' M'→R.nx σ' w'.H) (h2:Aft w1 RR.rt R.rt):
  ∃W:Nat→Nat→L2.St→Hp→Prop,(∃m,W 0 m σ H1)∧∀i m σ H,W i m σ H→
   (J.stop i H∧R.nx σ H)∨(J.go i H∧∃N:L2.St→Hp→Prop,(∀σ' H',N σ' H'→∃m',m'<m∧W (i+1) m' σ' H')∧∀x H',J.yld i H x H'→gF w0 tg x σ H' fun σ2 H2=>tFS w0 body {R with nx:=N,ct:=N,bk:=R.nx} σ2 H2):=by
 refine⟨fun i m σ H=>∃w σE M,StOk w0 w σE M σ H∧Ext w1 w∧i≤xs.length∧m=xs.length - i∧forD own xs tg body (xs.drop i) RR σE M,⟨xs.length,w1,σD,M1,S,Ext.refl _,Nat.zero_le _,rfl,h⟩,?_⟩
 rintro i m σc Hc ⟨w,σE,M,S1,x1,hi,rfl,hc⟩
 have stp:∀st:Ph own xs M,_:=fun st=>jk w M x1 S1.rs st i
 rw[S1.heap] at stp
 by_cases hil:i<xs.length
 ·rw[Ik hil] at hc
  obtain⟨st,hc⟩:=hc
  obtain⟨j1,j2⟩:=(stp st).1 xs[i] (Ag hil)
  refine .inr ⟨j1,fun σ' H'=>∃w σE M,StOk w0 w σE M σ' H'∧Ext w1 w∧i+1≤xs.length∧forD own xs tg body (xs.drop (i+1)) RR σE M,?_,fun x H' hy=>?_⟩
  ·rintro σ' H' ⟨w2,σ2,M2,S2,x2,l2,f2⟩
   exact⟨xs.length - (i+1),by omega,w2,σ2,M2,S2,x2,l2,rfl,f2⟩
  ·obtain⟨w3,rfl,x3,R3,rd3⟩:=j2 x H' hy
   refine⟨w3,σE,M,xs[i],_,⟨rfl,S1.ext.trans x3,R3,S1.env.ext x3⟩,rd3,hc,fun σ2 σE2 env2 q2=>?_⟩
   have nxt:∀σ' w' σD' M',Ext w3 w'→RS w' M'→REnv w' σD' σ'→forD own xs tg body (xs.drop (i+1)) RR σD' M'→
     ∃w σE M,StOk w0 w σE M σ' w'.H∧Ext w1 w∧i+1≤xs.length∧forD own xs tg body (xs.drop (i+1)) RR σE M:=
    fun σ' w' σD' M' x' r' e' q'=>⟨w',σD',M',⟨rfl,(S1.ext.trans x3).trans x',r',e'⟩,(x1.trans x3).trans x',hil,q'⟩
   exact Ff ⟨rfl,S1.ext.trans x3,R3,env2⟩ q2 nxt (fun v w' d M' x' r' rd' q'=>h2 v w' d M' ((x1.trans x3).trans x') r' rd' q')
    (fun σ' w' σD' M' x' r' e' q'=>h1 σ' w' σD' M' ((x1.trans x3).trans x') r' e' q') nxt
 ·rw[List.drop_eq_nil_of_le (by omega)] at hc
  obtain⟨st,hq⟩:=hc
  refine .inl ⟨(stp st).2 (by omega),?_⟩
  have:=h1 σc w σE M x1 S1.rs S1.env hq
  rw[S1.heap] at this
  exact this
theorem Y75{o i value:Expr}{td ty tv:TE}{pos pos':Pos}(hu:X.A.units+1<cLine)(ho:PE X o td)(hi:PE X i ty)(hv:PE X value tv)(hs:swapsWith value (some (.Subscript o i pos')) pos.line X.env=pure false):
  PS X (.Assign [.Subscript o i pos'] value pos) (fun R σ H=>tv σ H fun v H1=>td σ H1 fun x H2=>ty σ H2 fun y H3=>Y57 x y v H3 (fun H4=>R.nx σ H4)∨∃a H4,x= .ref a∧DPut H3 a y v H4∧R.nx σ H4):=by
 intro pins s σ H D I h
 refine wpAny_Assign_Subscript (thn (hv pins s σ H _ I h) fun r s1 ⟨v,H1,I1,rv,q1⟩=>thn (ho pins s1 σ H1 _ I1 q1) fun u s2 ⟨x,H2,I2,rx,q2⟩=>thn (hi pins s2 σ H2 _ I2 q2) fun iv s3 zz124=>?_) hs
 obtain⟨y,H3,I3,ry,q3⟩:=zz124
 rcases q3 with q3 | ⟨a,H4,ex,g,q3⟩
 ·exact thn (Zl8 pins s3 σ H3 x y v u iv r (fun H4=>D.nx σ H4) I3 rx ry rv q3) fun _ s4 zz125=>by obtain⟨H4,I4,q4⟩:=zz125;exact⟨σ,H4,I4,q4⟩
 ·subst ex
  obtain rfl:u=An a:=rx
  exact Z56 hu I3 g ry rv fun s4 I4=>⟨σ,H4,I4,q3⟩
end
def B3(c:Cfg)(s:S):Prop:=∀(k:Ck) (Z:DX) (w0:Vw) (X:Cx) (st:Stmt),Good c k Z w0 X→chkS k s st=true→PS X st (tFS w0 (ts c Z s))
def Zy1(c:Cfg)(s:Ss):Prop:=∀(k:Ck) (Z:DX) (w0:Vw) (X:Cx) (st:List Stmt),Good c k Z w0 X→Yb k s st=true→PSs X st (tFS w0 (tss c Z s))
theorem Z14{k:Ck}{t x:Expr}(h:Zt0 k t x=true):∃n np el gens scope p,t= .Name n np∧x= .ListComp el gens scope p:=by
 cases t with
 | Name n np=>
  cases x with
  | ListComp el gens scope p=>exact⟨_,_,_,_,_,_,rfl,rfl⟩
  | _=>exact absurd h Bool.false_ne_true
 | _=>exact absurd h Bool.false_ne_true
theorem Z29{k:Ck}{t x:Expr}(h:Y60 k t x=true):∃n np el gens scope p,t= .Name n np∧x= .ListComp el gens scope p∧k.sc.names.lookup n=some .cell:=by
 cases t with
 | Name n np=>
  cases x with
  | ListComp el gens scope p=>exact⟨_,_,_,_,_,_,rfl,rfl,Iy h⟩
  | _=>exact absurd h Bool.false_ne_true
 | _=>exact absurd h Bool.false_ne_true
theorem Bw{k:Ck}{e:E}{el:Expr}{gens:List Comprehension}{scope:Scope}{p:Pos}(h:chkE k e (.ListComp el gens scope p)=true):
  ∃N' js tg it cd e' t iter ifs,e= .comp N' js tg it cd e'∧gens=[⟨t,iter,ifs,0⟩]:=by
 cases e with
 | comp N' js tg it cd e'=>
  obtain⟨_,_,_,_,he,h⟩:=Ez h
  cases he
  obtain⟨g,rfl,h⟩:=Vd h
  obtain⟨t,iter,ifs,as⟩:=g
  obtain⟨rfl,_⟩:=Zd5 h
  exact⟨_,_,_,_,_,_,_,_,_,rfl,rfl⟩
 | _=>exact absurd h Bool.false_ne_true
theorem Z12{k:Ck}{tg:List Nat}{e:E}{st:Stmt}(h:chkS k (.setL tg e) st=true):∃es kk p x pos,st= .Assign [.Tuple es kk p] x pos∧(k.calm&&Z71 k tg es&&chkE k e x&&O2 x&&Ol x)=true:=by
 cases st with
 | Assign ts' x pos=>
  match ts',h with
  | [.Tuple es kk p],h=>exact⟨es,kk,p,x,pos,rfl,h⟩
 | _=>exact absurd h Bool.false_ne_true
theorem Z04(c:Cfg)(tg:List Nat)(e:E):B3 c (.setL tg e):=by
 intro k Z w0 X st G h
 obtain⟨es,kk,p,x,pos,rfl,hs⟩:=Z12 h
 simp only[Bool.and_eq_true] at hs
 obtain⟨⟨⟨⟨hc,ht⟩,he⟩,hn⟩,hu⟩:=hs
 have h1:∀t:Expr,swapsWithSole [t] x pos.line X.env=pure false:=fun t=>N8 hn
 have h2:swappedStores [.Tuple es kk p] x X.env=pure none:=by
  cases x<;>first | rfl | cases hu
 obtain⟨i1,i2,i3⟩:=G.tgs tg es ht
 refine PS.imp (Zb1 (Zu c e k Z w0 X x G he).1 (Z53 (w0:=w0) (Y12 (G.calm hc) i1 i2 i3)) (h1 _) h2 rfl) fun R σ H zz126=>?_
 obtain⟨w,σD,M,RR,S,q,q1,q2,q3,q4⟩:=zz126
 refine Yj S q fun v w' d M' x' r' rd' q'=>?_
 obtain⟨n,rfl,ds,e1,e2,e3⟩:=X8 q'
 exact⟨w',σD,M',n,ds,_,S.next x' r',by rw[x'.K,S.K,G.eK],rd',e1,e2,e3,fun σ' σD' e' z=>q1 σ' w' σD' M' x' r' e' z⟩
theorem Z63(c:Cfg)(tg:List Nat)(e:E):B3 c (.set tg e):=by
  intro k Z w0 X st G h
  cases st with
  | Assign ts' x pos=>
   match ts',h with
   | [t],h=>
    change (_&&_)=true at h
    simp only[Bool.and_eq_true,Bool.or_eq_true,decide_eq_true_eq] at h
    obtain⟨⟨ht,he⟩,h⟩:=h
    rcases h with(⟨hc,hs⟩ | ⟨hs,hl⟩) | hs
    rotate_left 2
    ·obtain⟨n,np,el,gens,scope,p,rfl,rfl,hcell⟩:=Z29 hs
     have h1:swapsWithSole [.Name n np] (.ListComp el gens scope p) pos.line X.env=pure false:=by
      have hk:X.env.kindOf n=some .cell:=by
       unfold Env.kindOf
       rw[G.sc];exact hcell
      have hk':(X.env.kindOf n==some NameKind.local)=false:=by rw[hk];rfl
      unfold swapsWithSole swapsWith
      simp only[hk',Bool.and_false,Bool.false_and]
     refine PS.imp (Zb1 (Zu c e k Z w0 X _ G he).1 (G.tgt tg _ ht) h1 rfl rfl) fun R σ H zz127=>?_
     obtain⟨w,σD,M,RR,S,q,q1,q2,q3,q4⟩:=zz127
     refine Yj S q fun v w' d M' x' r' rd' q'=>?_
     exact⟨w',σD,M',d,_,S.next x' r',rd',q',fun σ' σD' e' z=>q1 σ' w' σD' M' x' r' e' z⟩
    ·have h1:swapsWithSole [t] x pos.line X.env=pure false:=N8 hc
     have h2:swappedStores [t] x X.env=pure none:=by
      cases t with
      | Name n p=>cases x<;>rfl
      | Tuple es kk p=>
       have:Ol x=true:=hs.resolve_left (by simp[Zp8])
       cases x<;>first | rfl | cases this
      | _=>exact absurd ht Bool.false_ne_true
     have h3:(assignEach [t] X.env).map (·.2)=[assign t X.env]:=by
      cases t with
      | Name n p=>rfl
      | Tuple es kk p=>rfl
      | _=>exact absurd ht Bool.false_ne_true
     refine PS.imp (Zb1 (Zu c e k Z w0 X x G he).1 (G.tgt tg t ht) h1 h2 h3) fun R σ H zz128=>?_
     obtain⟨w,σD,M,RR,S,q,q1,q2,q3,q4⟩:=zz128
     refine Yj S q fun v w' d M' x' r' rd' q'=>?_
     exact⟨w',σD,M',d,_,S.next x' r',rd',q',fun σ' σD' e' z=>q1 σ' w' σD' M' x' r' e' z⟩
    ·match tg,hl,ht with
     | [i],_,ht=>
      obtain⟨n,np,el,gens,scope,p,rfl,rfl⟩:=Z14 hs
      obtain⟨N',js,tg,it,cd,e,t2,iter,ifs,rfl,rfl⟩:=Bw he
      change (_&&_)=true at he
      simp only[Bool.and_eq_true,decide_eq_true_eq] at he
      obtain⟨⟨⟨⟨⟨⟨⟨⟨h1,h2⟩,h3⟩,h4⟩,h5⟩,h6⟩,h7⟩,h8⟩,h9⟩:=he
      change (_&&_)=true at ht
      simp only[Bool.and_eq_true,beq_iff_eq] at ht
      simp only[Zt0,Bool.and_eq_true,beq_iff_eq,Bool.not_eq_true'] at hs
      obtain⟨⟨⟨s1,s2⟩,s3⟩,s4⟩:=hs
      have hl':X.env.scope.names.lookup n=some .local:=by
       unfold Ck.loc at s2
       rw[G.sc];exact Iy s2
      have hsw:swapsWith (.ListComp el [⟨t2,iter,ifs,0⟩] scope p) (some (.Name n np)) pos.line X.env=pure true:=by
       unfold swapsWith
       have hb:(X.env.blockKind==ScopeKind.function)=true:=by
        unfold Env.blockKind
        rw[G.sc,s1];rfl
       have hk:(X.env.kindOf n==some NameKind.local)=true:=by
        unfold Env.kindOf
        rw[hl'];rfl
       have hp:(np.line==(Expr.ListComp el [⟨t2,iter,ifs,0⟩] scope p).pos.line)=true:=by
        show(np.line==p.line)=true
        rw[s3];simp
       simp only[hb,hk,hp,s4,Bool.not_false,Bool.and_self]
      refine PS.imp ((Og G h1 h2 h3 h5 (Z70 c it k Z w0 X t2 iter G h4 h9) h6 h7 h8 (Zu c e) (Oi c cd)).2 i n np pos (by rw[G.N];exact ht.1) hl' hsw) fun R σ H zz129=>?_
      obtain⟨w,σD,M,RR,S,q,q1,q2,q3,q4⟩:=zz129
      have q:te c Z (.comp N' js tg it cd e) σD M fun d M1=>RR.nx (σD.set i (some d)) M1:=q
      refine Yj S q fun v w' d M' x' r' rd' q'=>?_
      exact q1 _ w' _ M' x' r' ((S.env.ext x').set i rd') q'
     | [],hl,_=>simp at hl
     | _::_::_,hl,_=>simp at hl
   | [],h=>exact absurd h Bool.false_ne_true
   | _::_::_,h=>exact absurd h Bool.false_ne_true
  | _=>exact absurd h Bool.false_ne_true
theorem Zb8(c:Cfg)(o i v:E):B3 c (.put o i v):=by
  intro k Z w0 X st G h
  cases st with
  | Assign ts' x pos=>
   match ts',h with
   | [t],h=>
    cases t with
    | Subscript l r p=>
     change (_&&_)=true at h
     simp only[Bool.and_eq_true] at h
     obtain⟨⟨⟨⟨h1,h2⟩,h3⟩,h4⟩,h5⟩:=h
     refine PS.imp (Y75 (by have:=G.units;omega) (Zu c o k Z w0 X l G h4).1 (Zu c i k Z w0 X r G h5).1 (Zu c v k Z w0 X x G h3).1 (N8 h2)) fun R σ H zz130=>?_
     obtain⟨w,σD,M,RR,S,q,q1,q2,q3,q4⟩:=zz130
     refine Yj S q fun vv w1 dv M1 x1 r1 rd1 z1=>?_
     refine Yj (S.next x1 r1) z1 fun vo w2 dob M2 x2 r2 rd2 z2=>?_
     refine Yj ((S.next x1 r1).next x2 r2) z2 fun vi w3 di M3 x3 r3 rd3 z3=>?_
     split at z3
     ·obtain⟨hn,rfl⟩:=Zt.mp (rd2.ext x3)
      rcases z3 with⟨xs,kk,j,rfl,y1,y2,y3⟩ | ⟨kvs,kk,y1,y2,y3,y4⟩
      ·cases Zc.mp rd3
       obtain⟨hn,vs,u1,u2⟩:=r3.list y1
       obtain⟨t1,t2⟩:=V2 r3 hn u1 (u2.set (rd1.ext (x2.trans x3)) j)
       exact .inl ⟨_,vs,kk,j,rfl,rfl,u1,by rw[u2.length];exact y2,q1 σ _ σD _ (((x1.trans x2).trans x3).trans t1) t2 (S.env.ext (((x1.trans x2).trans x3).trans t1)) y3⟩
      ·obtain⟨hn,vs,u1,u2⟩:=r3.dict y1
       cases Oq y2 rd3
       obtain⟨t1,t2⟩:=O3 r3 hn u1 (u2.put (k:=kk) (rd1.ext (x2.trans x3)))
       exact .inr ⟨_,_,rfl,DPut.k (k:=kk) u1 (by rw[u2.length];exact y3),q1 σ _ σD _ (((x1.trans x2).trans x3).trans t1) t2 (S.env.ext (((x1.trans x2).trans x3).trans t1)) y4⟩
     ·exact z3.elim
    | _=>exact absurd h Bool.false_ne_true
   | [],h=>exact absurd h Bool.false_ne_true
   | a::b::r,h=>cases a<;>exact absurd h Bool.false_ne_true
  | _=>exact absurd h Bool.false_ne_true
mutual
theorem Y44(c:Cfg):∀s:S,B3 c s
 | .never,k,Z,w0,X,st,G,h=>PS.imp Zj6 fun R σ H zz131=>by obtain⟨w,σD,M,RR,S,q,_⟩:=zz131;exact q
 | .ret e,k,Z,w0,X,st,G,h=>by
  cases st with
  | Return v pos=>
   cases v with
   | some x=>exact PS.imp (Y51 (Zu c e k Z w0 X x G h).1) fun R σ H zz132=>by obtain⟨w,σD,M,RR,S,q,h1,h2,h3,h4⟩:=zz132;exact Yj S q h2
   | none=>exact absurd h Bool.false_ne_true
  | _=>exact absurd h Bool.false_ne_true
 | .expr e,k,Z,w0,X,st,G,h=>by
  cases st with
  | Expr x pos=>
   change (_&&_)=true at h
   simp only[Bool.and_eq_true] at h
   exact PS.imp (Zu0 (Zu c e k Z w0 X x G h.2).1 (N8 h.1)) fun R σ H zz133=>by obtain⟨w,σD,M,RR,S,q,h1,h2,h3,h4⟩:=zz133;exact Yj S q fun v w' d M' x' r' rd' q'=>h1 σ w' σD M' x' r' (S.env.ext x') q'
  | _=>exact absurd h Bool.false_ne_true
 | .setL tg e,k,Z,w0,X,st,G,h=>Z04 c tg e k Z w0 X st G h
 | .set tg e,k,Z,w0,X,st,G,h=>Z63 c tg e k Z w0 X st G h
 | .put o i v,k,Z,w0,X,st,G,h=>Zb8 c o i v k Z w0 X st G h
 | .ite t a b,k,Z,w0,X,st,G,h=>by
  cases st with
  | If x ls rs pos=>
   change (_&&_)=true at h
   simp only[Bool.and_eq_true] at h
   obtain⟨⟨⟨h1,h2⟩,h3⟩,h4⟩:=h
   refine PS.imp (Ya6 ((Zu c t k Z w0 X x G h1).2 h2) (R6 c a k Z w0 X ls G h3) (R6 c b k Z w0 X rs G h4)) fun R σ H zz134=>?_
   obtain⟨w,σD,M,RR,S,q,q1,q2,q3,q4⟩:=zz134
   refine⟨w,σD,M,_,S,q,fun z w1 M1 x1 r1 y1=>?_⟩
   have fin:∀{f:DS},f RR σD M1→tFS w0 f R σ w1.H:=fun hf=>Ff (S.next x1 r1) hf (fun σ' w' σD' M' x' r' e' z=>q1 σ' w' σD' M' (x1.trans x') r' e' z) (q2.ext x1)
    (fun σ' w' σD' M' x' r' e' z=>q3 σ' w' σD' M' (x1.trans x') r' e' z) (fun σ' w' σD' M' x' r' e' z=>q4 σ' w' σD' M' (x1.trans x') r' e' z)
   cases z with
   | true=>
    rw[if_pos rfl] at y1
    show if (true:Bool)=true then _ else _
    rw[if_pos rfl];exact fin y1
   | false=>
    rw[if_neg Bool.false_ne_true] at y1
    show if (false:Bool)=true then _ else _
    rw[if_neg Bool.false_ne_true];exact fin y1
  | _=>exact absurd h Bool.false_ne_true
 | .for_ tg it b,k,Z,w0,X,st,G,h=>by
  cases st with
  | For t x ls els pos=>
   cases els with
   | nil=>
    change (_&&_)=true at h
    simp only[Bool.and_eq_true] at h
    obtain⟨⟨⟨⟨⟨⟨h1,h2⟩,h3⟩,h4⟩,h5⟩,h6⟩,h7⟩:=h
    have hf:∀v,foldedSetIterable x X.env v=pure v:=by
     intro v
     cases x<;>first | rfl | cases h3
    refine PS.imp (Y30 (G.po h2) (G.calm h1) (Z70 c it k Z w0 X t x G h5 h7) (G.tgt tg t h4) (R6 c b k Z w0 X ls G h6) hf) fun R σ H zz135=>?_
    obtain⟨w,σD,M,RR,S,q,q1,q2,q3,q4⟩:=zz135
    refine⟨w,σD,M,_,S,q,fun J w1 own xs M1 x1 r1 jk z=>?_⟩
    exact Zs6 (S.next x1 r1) jk z (fun σ' w' σD' M' x' r' e' z=>q1 σ' w' σD' M' (x1.trans x') r' e' z) (q2.ext x1)
   | cons _ _=>exact absurd h Bool.false_ne_true
  | _=>exact absurd h Bool.false_ne_true
 | .while_ t b,k,Z,w0,X,st,G,h=>by
  cases st with
  | While x ls els pos=>
   cases els with
   | nil=>
    change (_&&_)=true at h
    simp only[Bool.and_eq_true] at h
    obtain⟨⟨⟨h1,h2⟩,h3⟩,h4⟩:=h
    refine PS.imp (Zj4 (G.po h1) ((Zu c t k Z w0 X x G h2).2 h3) (R6 c b k Z w0 X ls G h4)) fun R σ H zz136=>?_
    obtain⟨w,σD,M,RR,S,q,q1,q2,q3,q4⟩:=zz136
    obtain⟨W,⟨m0,hm0⟩,step⟩:=q
    refine⟨fun m σ H=>∃w2 σE M2,StOk w0 w2 σE M2 σ H∧Ext w w2∧W m σE M2,⟨m0,w,σD,M,S,Ext.refl w,hm0⟩,?_⟩
    rintro m σ2 H2 ⟨w2,σE,M2,S2,x2,hW⟩
    refine⟨w2,σE,M2,_,S2,step m σE M2 hW,fun z w3 M3 x3 r3 y3=>?_⟩
    cases z with
    | false=>
     rw[if_neg Bool.false_ne_true] at y3 ⊢
     exact q1 σ2 w3 σE M3 (x2.trans x3) r3 (S2.env.ext x3) y3
    | true=>
     rw[if_pos rfl] at y3 ⊢
     have nxt:∀σ' w' σD' M',Ext w3 w'→RS w' M'→REnv w' σD' σ'→(∃m',m'<m∧W m' σD' M')→∃m',m'<m∧∃w2 σE M2,StOk w0 w2 σE M2 σ' w'.H∧Ext w w2∧W m' σE M2:=
      fun σ' w' σD' M' x' r' e' zz137=>by obtain⟨m',l',z'⟩:=zz137;exact⟨m',l',w',σD',M',⟨rfl,(S2.ext.trans x3).trans x',r',e'⟩,(x2.trans x3).trans x',z'⟩
     refine⟨fun σ' H'=>∃m',m'<m∧∃w2 σE M2,StOk w0 w2 σE M2 σ' H'∧Ext w w2∧W m' σE M2,fun σ' H' z=>z,?_⟩
     exact Ff (S2.next x3 r3) y3 nxt (fun v w' d M' x' r' rd' z'=>q2 v w' d M' ((x2.trans x3).trans x') r' rd' z') (fun σ' w' σD' M' x' r' e' z'=>q1 σ' w' σD' M' ((x2.trans x3).trans x') r' e' z') nxt
   | cons _ _=>exact absurd h Bool.false_ne_true
  | _=>exact absurd h Bool.false_ne_true
theorem R6(c:Cfg):∀s:Ss,Zy1 c s
 | .nil,k,Z,w0,X,st,G,h=>by
  cases st with
  | nil=>
   refine PSs.imp Zr5 fun R σ H zz138=>?_
   obtain⟨w,σD,M,RR,S,q,h1,_⟩:=zz138
   have:=h1 σ w σD M (Ext.refl w) S.rs S.env q
   rw[S.heap] at this
   exact this
  | cons _ _=>exact absurd h Bool.false_ne_true
 | .cons s r,k,Z,w0,X,st,G,h=>by
  cases st with
  | nil=>exact absurd h Bool.false_ne_true
  | cons x xs=>
   change (_&&_)=true at h
   simp only[Bool.and_eq_true] at h
   refine PSs.imp (Zk0 (Y44 c s k Z w0 X x G h.1) (R6 c r k Z w0 X xs G h.2)) fun R σ H zz139=>?_
   obtain⟨w,σD,M,RR,S,q,h1,h2,h3,h4⟩:=zz139
   refine Ff S q ?_ h2 h3 h4
   intro σ' w' σD' M' x' r' e' q'
   exact Ff ⟨rfl,S.ext.trans x',r',e'⟩ q' (fun σ2 w2 σD2 M2 x2 r2 e2 z=>h1 σ2 w2 σD2 M2 (x'.trans x2) r2 e2 z) (h2.ext x') (fun σ2 w2 σD2 M2 x2 r2 e2 z=>h3 σ2 w2 σD2 M2 (x'.trans x2) r2 e2 z) (fun σ2 w2 σD2 M2 x2 r2 e2 z=>h4 σ2 w2 σD2 M2 (x'.trans x2) r2 e2 z)
end
theorem FnOk.cx{P:Program}{w:World}{K:Ae}{mg:Str→Option Value}{base:Heap}{CX:CXT}{k:Nat}{f:Addr}{fd:FuncData}{ps:List Str}{sp:Sp}(F:FnOk P w K mg base CX0 k f fd ps sp):FnOk P w K mg base CX k f fd ps sp:=
 ⟨F.len,fun A outer s H args us vs Q E hr he hb hv hs=>Lf (F.run A outer s H args us vs Q E hr he hb hv hs) fun r s' h=>by
  cases r with
  | error e=>exact Di h
  | ok fl=>cases fl<;>exact h⟩
structure Prg(P:Program)(w:World)(K:Ae)(mg:Str→Option Value)(base:Heap)(c:Cfg)(FN GN BN:List Str)(lv:Nat):Prop where
 hK:c.K=K
 fns:∀(f:Nat) (x:Str) (sp:DSp),FN[f]?=some x→c.Γ[f]?=some sp→∃(kk:Nat) (f:Addr) (fd:FuncData) (ps:List Str) (ds:List Value) (dvs:List V) (dD:List D) (sp0:DSp),FnOk P w K mg base (CX1 P w) kk f fd ps (spF K sp0)∧kk≤lv∧mg x=some (.ref f)∧Ac K (.ref f)=true∧
  Y6 K fd ps ds∧Vals dvs ds∧(∀w:Vw,w.K=K→RDs w dD dvs)∧∀as M Q Z,sp as M Q Z→sp0 (as++dD) M Q Z
 flen:FN.length=c.Γ.length
 glb:∀(g:Nat) (x:Str) (d:D),GN[g]?=some x→c.G[g]?=some d→∃v u,mg x=some u∧RelV v u∧∀w:Vw,w.K=K→RD w d v
 blt:∀x,x∈BN→mg x=none
noncomputable def start0(N:List Str)(ds:List D):DEnv:=ds.map some++Dp (N.length - ds.length) none
theorem Z91{w:Vw}{N:List Str}{ds:List D}{vs:List V}(r:RDs w ds vs):REnv w (start0 N ds) (L2.start N vs):=by
 refine⟨by unfold start0 L2.start;simp[r.length],fun i d e=>?_⟩
 unfold start0 at e
 unfold L2.start
 by_cases hi:i<ds.length
 ·rw[Dj (by simpa using hi),Aq] at e
  rw[Dj (by rw[Ah,r.length];exact hi),Aq]
  cases hd:ds[i]? with
  | none=>rw[hd] at e;cases e
  | some d'=>
   rw[hd] at e
   have e':d'=d:=by simpa using e
   subst e'
   obtain⟨v,q1,q2⟩:=r.get hd
   exact⟨v,by rw[q1];rfl,q2⟩
 ·rw[Ih (by simpa using hi)] at e
  have:=Af.mp e
  simp at this
section
variable{P:Program}{w:World}{K:Ae}{mg:Str→Option Value}{base:Heap}{c:Cfg}{FN GN BN:List Str}{lv:Nat}{x qual:Str}{st:Stmt}{f:Addr}{fd:FuncData}{N ps:List Str}
noncomputable abbrev ck0(N:List Str)(st:Stmt)(FN GN BN:List Str):Ck:=⟨N,Z1 st,FN,GN,BN,true,true,true,[],true,[]⟩
theorem fn0(Pr:Prg P w K mg base c FN GN BN lv)(F:Fun K x qual st f fd)(S:FnScope N ps (Z1 st)){body:Ss}(hc:Yb (ck0 N st FN GN BN) body (Z4 st)=true){sp:DSp}(hl:∀ds M Q Z,sp ds M Q Z→ds.length=ps.length)
  (hb:∀ds M Q Z,sp ds M Q Z→tss c noX body {nx:=fun _ M=>Q .non M,rt:=Q} (start0 N ds) M):FnOk P w K mg base (CX1 P w) (lv+1) f fd ps (spF K sp):=by
 refine FnOk.cx (F.ok S (fun vs H Q E h=>?_) fun cdv A outer s H vs Q E hr h=>?_)
 ·obtain⟨w,ds,M,QD,Z,_,_,_,r,h,_⟩:=h
  rw[r.length];exact hl _ _ _ _ h
 obtain⟨w',ds,M,QD,Z,hK',rfl,R,r,h,a,xk⟩:=h
 have G:Good c (ck0 N st FN GN BN) noX w' (cxOf CX0 P w K mg base N qual (Z1 st) f cdv A outer s w'.H E).nox:=
  {hK:=Pr.hK.symm
   wK:=hK'.trans Pr.hK.symm
   N:=rfl
   nd:=S.nd
   sc:=rfl
   calm:=fun _=>rfl
   units:=hr.units
   fns:=fun _ f x sp h1 h2=>by
    obtain⟨kk,f,fd,ps,ds,dvs,dD,sp0,F,hk,h⟩:=Pr.fns f x sp h1 h2
    exact⟨kk,f,fd,ps,ds,dvs,dD,sp0,F,hr.mono hk,h⟩
   flen:=Pr.flen
   glb:=Pr.glb
   blt:=Pr.blt
   exc:=⟨E0,fun _ _ _ _ _ _ _ h=>by
    obtain⟨_,_,_,_,_,_,_,_,_,_,_,_,_,_,_,h⟩:=h
    exact h.elim,fun cls dd H' h=>by
    obtain⟨_,_,_,_,_,_,_,_,_,_,_,_,_,h⟩:=h
    exact h.elim⟩
   stk:=fun _=>⟨rfl,rfl⟩
   po:=fun _=>PassesOwn.never
   fnc:=fun _ _=>rfl
   fno:=fun _ h=>by cases h}
 refine⟨_,R6 c body _ _ w' _ _ G hc,w',start0 N ds,M,{nx:=fun _ M=>QD .non M,rt:=QD},⟨rfl,Ext.refl w',R,Z91 r⟩,hb _ _ _ _ h,?_,a,?_,?_⟩
 ·exact fun σ' w2 σD' M' x' r' e' q'=>a .non w2 .non M' x' r' (Yz.mpr rfl) q'
 ·exact fun σ' w2 σD' M' x' r' e' q'=>q'.elim
 ·exact fun σ' w2 σD' M' x' r' e' q'=>q'.elim
end
def Bv:DSp:=fun ds M Q _=>∃ns:List Int,ds=[.ref 0]∧M=[.frz (ns.map .int)]∧ns.length≤63∧(∀i∈ns,Bits bigN i)∧∀M',Q (.bl true) M'
theorem Bb(w:Vw):∀ns:List Int,RDs w (ns.map .int) (ns.map V.int)
 | []=>RDs.nil w
 | _::r=>RDs.cons (Zc.mpr rfl) (Bb w r)
theorem Zi3{l:PySem.W.OpenLaw}{k:Nat}{q:Program}{loose:List Str}{XP:(Str→Option Value)→Heap→Prop}{YP:World→Heap→Prop}{d:DefRec}{K:Params→Ae}{x:Str}(hn:l.most=some 63)(hdf:d.params.defaults=[])(hr:Room k callerA)
  (hY:∀(w:World) (h:Heap),YP w h→(K w.params).In h)
  (F:∀(w:World) (mg:Str→Option Value) (fa:Addr) (h:Heap),(K w.params).In h→h.Ns mainGlobals mg→mg d.name=some (.ref fa)→
   ∃fd:FuncData,(∀(s:Shared) (u:Value),BindsTo s fd ⟨[u],[]⟩ [(x,u)])∧∀base:Heap,(K w.params).In base→base.Ns mainGlobals mg→FnOk l.prog w (K w.params) mg base (CX1 l.prog w) k fa fd [x] (spF (K w.params) Bv)):
  PySem.W.WalkO q loose XP YP l.row.toRowW d [] (fun f vs=>PySem.call f vs):=by
 refine Y17 (n:=63) (k:=k) (x:=x) (CX:=fun w=>CX1 l.prog w) (sp:=fun w=>spF (K w.params) Bv) hn (by decide) hdf hr hY F (fun w H a ns hl hb hO hS=>?_) fun w H s e s' h=>?_
 ·have hF:SqF (K w.params) H a (ns.map V.int):=by
   rcases hS with(h | ⟨o,h⟩) | h
   ·rcases hO a with z | ⟨o,xs,z⟩
    ·rw[z] at h;cases h
    ·rw[z] at h;cases h
   ·exact .inl ⟨o,h⟩
   ·exact .inr (.inr h)
  refine⟨⟨K w.params,H,fun _=>a,1⟩,[.ref 0],[.frz (ns.map .int)],fun d _=>d= .bl true,noX,rfl,rfl,⟨rfl,fun i j ci cj ei ej mi mj _=>?_,fun i c' e=>?_⟩,RDs.cons (Zt.mpr ⟨Nat.one_pos,rfl⟩) (RDs.nil _),⟨ns,rfl,rfl,hl,hb,fun _=>rfl⟩,fun v w' d M' _ _ rd e=>?_,fun cls dd H' h=>?_⟩
  ·have h1:=(Af.mp ei).1
   have h2:=(Af.mp ej).1
   simp at h1 h2
   omega
  ·have h1:=(Af.mp e).1
   have hi:i=0:=by simp at h1;exact h1
   subst hi
   simp at e
   subst e
   exact⟨_,hF,Bb _ ns⟩
  ·subst e
   exact Xq.mp rd
  ·obtain⟨_,_,_,_,_,_,_,_,_,_,_,_,_,h⟩:=h
   exact h.elim
 ·obtain⟨_,_,_,_,_,_,_,_,_,_,_,_,_,_,_,h⟩:=h
  exact h.elim
def bot:DSp:=fun _ _ _ _=>False
def Ent(K:Ae)(mg:Str→Option Value)(x:Str):Prop:=∃(f:Addr) (fd:FuncData) (ps:List Str),mg x=some (.ref f)∧Ac K (.ref f)=true∧Y6 K fd ps []
section
variable{P:Program}{w:World}{K:Ae}{mg:Str→Option Value}{base:Heap}{Γ:List DSp}{G:List D}{FN GN BN:List Str}{lv:Nat}
theorem Prg.zero(hF:∀x∈FN,Ent K mg x)(hl:FN.length=Γ.length)(hb:∀sp∈Γ,sp=bot)(hg:∀(g:Nat) (x:Str) (d:D),GN[g]?=some x→G[g]?=some d→∃v u,mg x=some u∧RelV v u∧∀w:Vw,w.K=K→RD w d v)(hB:∀x∈BN,mg x=none):
  Prg P w K mg base ⟨K,Γ,G⟩ FN GN BN 0 where
 hK:=rfl
 fns:=fun f x sp h1 h2=>by
  obtain⟨fa,fd,ps,e1,e2,e3⟩:=hF x (Ha h1)
  have hs:sp=bot:=hb sp (Ha h2)
  subst hs
  have no:∀vs H Q E,¬spF K bot vs H Q E:=fun vs H Q E zz140=>by obtain⟨_,_,_,_,_,_,_,_,_,h,_⟩:=zz140;exact h
  exact⟨0,fa,fd,ps,[],[],[],bot,⟨fun vs H Q E h=>absurd h (no vs H Q E),fun A outer s H args us vs Q E _ _ _ _ h=>absurd h (no vs H Q E)⟩,Nat.le_refl _,e1,e2,e3,.nil,fun w _=>RDs.nil w,fun _ _ _ _ h=>h.elim⟩
 flen:=hl
 glb:=hg
 blt:=hB
theorem Prg.add(Pr:Prg P w K mg base ⟨K,Γ,G⟩ FN GN BN lv)(n:Nat){x:Str}{sp:DSp}{kk lv':Nat}{f:Addr}{fd:FuncData}{ps:List Str}(hx:FN[n]?=some x)(F:FnOk P w K mg base (CX1 P w) kk f fd ps (spF K sp))(h1:kk≤lv')(h2:lv≤lv')(hm:mg x=some (.ref f))(hk:Ac K (.ref f)=true)(hb:Y6 K fd ps []):
  Prg P w K mg base ⟨K,Γ.set n sp,G⟩ FN GN BN lv' where
 hK:=rfl
 fns:=fun m y sp' e1 e2=>by
  by_cases hmn:n=m
  ·subst hmn
   rw[hx] at e1
   cases e1
   have hl:n<Γ.length:=by rw[←Pr.flen];exact(Af.mp hx).1
   have e2:(Γ.set n sp)[n]?=some sp':=e2
   rw[Ii hl] at e2
   cases e2
   exact⟨kk,f,fd,ps,[],[],[],sp,F,h1,hm,hk,hb,.nil,fun w _=>RDs.nil w,fun as M Q Z h=>by rw[Mb];exact h⟩
  ·have e2:(Γ.set n sp)[m]?=some sp':=e2
   rw[Ht hmn] at e2
   obtain⟨kk,f,fd,ps,ds,dvs,dD,sp0,F,hk,h⟩:=Pr.fns m y sp' e1 e2
   exact⟨kk,f,fd,ps,ds,dvs,dD,sp0,F,Nat.le_trans hk h2,h⟩
 flen:=by rw[Pr.flen];simp
 glb:=Pr.glb
 blt:=Pr.blt
end
theorem Wx{M N:Z2}{a:Nat}{xs:List D}(h:Zd M a=some xs):Zd (M++N) a=some xs:=by
 unfold Zd at *
 have ha:a<M.length:=by
  cases e:M[a]? with
  | none=>rw[e] at h;cases h
  | some c=>exact(Af.mp e).1
 rw[Dj ha];exact h
theorem Vp{M N:Z2}{a:Nat}{xs:List D}(h:Zo M a=some xs):Zo (M++N) a=some xs:=by
 unfold Zo at *
 have ha:a<M.length:=by
  cases e:M[a]? with
  | none=>rw[e] at h;cases h
  | some c=>exact(Af.mp e).1
 rw[Dj ha];exact h
theorem Zb6(M:Z2)(c:Cell)(N:Z2):(M++c::N)[M.length]?=some c:=by simp
theorem Zv(M:Z2)(xs:List D)(N:Z2):Zd (M++ .lst xs::N) M.length=some xs:=by unfold Zd;rw[Zb6]
theorem Y8(M:Z2)(xs:List D)(N:Z2):Zo (M++ .lst xs::N) M.length=some xs:=by unfold Zo;rw[Zb6]
theorem Z3{M:Z2}{n:Nat}{xs:List D}(h:Zo M n=some xs):Zd M n=some xs:=Zu5 h
theorem Rl{M:Z2}{a b:Nat}{c:Cell}(h:b≠a):Zo (M.set b c) a=Zo M a:=by unfold Zo;rw[Ht h]
theorem Ze3{lo:Int}{n i:Nat}(h:i<n):(S3 lo n)[i]?=some (.int (lo+i)):=by
 unfold S3;rw[Aq,List.getElem?_range h];rfl
theorem Wm(lo:Int)(n:Nat):(S3 lo n).length=n:=by unfold S3;simp
theorem Nr{own:Own}{xs:List D}{tg:List Nat}{body:DS}{R:DEnds}{σ:DEnv}{M:Z2}(I:Nat→DEnv→Z2→Prop)(h0:I 0 σ M)(hs:∀i σ M,i≤xs.length→I i σ M→Ph own xs M)
  (step:∀(i:Nat) (d:D) σ M (C:DEnv→Z2→Prop),xs[i]?=some d→I i σ M→(∀σ2 M2,I (i+1) σ2 M2→C σ2 M2)→tgD tg d σ fun σ'=>body {nx:=C,rt:=R.rt,bk:=R.nx,ct:=C} σ' M)
  (fin:∀σ M,I xs.length σ M→R.nx σ M):forD own xs tg body xs R σ M:=by
 have key:∀(j:Nat) σ M,j≤xs.length→I (xs.length - j) σ M→forD own xs tg body (xs.drop (xs.length - j)) R σ M:=by
  intro j
  induction j with
  | zero=>
   intro σ M _ h
   rw[Nat.sub_zero] at h ⊢
   rw[List.drop_length]
   exact⟨hs _ σ M (Nat.le_refl _) h,fin σ M h⟩
  | succ j ih=>
   intro σ M hj h
   have hi:xs.length - (j+1)<xs.length:=by omega
   have e:xs.length - (j+1)+1=xs.length - j:=by omega
   rw[Ik hi]
   refine⟨hs _ σ M (by omega) h,step _ _ σ M _ (Ag hi) h fun σ2 M2 h2=>?_⟩
   rw[e] at h2 ⊢
   exact ih σ2 M2 (by omega) h2
 have:=key xs.length σ M (Nat.le_refl _) (by rw[Nat.sub_self];exact h0)
 rw[Nat.sub_self] at this
 exact this
theorem Ov{lo:Int}{n:Nat}{tg:List Nat}{body:DS}{R:DEnds}{σ:DEnv}{M:Z2}(I:Nat→DEnv→Z2→Prop)(h0:I 0 σ M)
  (step:∀(i:Nat) σ M (C:DEnv→Z2→Prop),i<n→I i σ M→(∀σ2 M2,I (i+1) σ2 M2→C σ2 M2)→tgD tg (.int (lo+i)) σ fun σ'=>body {nx:=C,rt:=R.rt,bk:=R.nx,ct:=C} σ' M)
  (fin:∀σ M,I n σ M→R.nx σ M):forD .no (S3 lo n) tg body (S3 lo n) R σ M:=by
 refine Nr I h0 (fun _ _ _ _ _=>trivial) (fun i d σ M C hd hI hC=>?_) (fun σ M h=>fin σ M (by rw[Wm] at h;exact h))
 have hi:i<n:=by
  have:=(Af.mp hd).1
  rwa[Wm] at this
 rw[Ze3 hi] at hd
 cases hd
 exact step i σ M C hi hI hC
theorem V9{own:Own}{xs:List D}{tg:List Nat}{cd:DT}{el:DE}{z:Nat}{Q:Z2→Prop}{σ:DEnv}{M:Z2}(I:Nat→DEnv→Z2→Prop)(h0:I 0 σ M)(hs:∀i σ M,i≤xs.length→I i σ M→Ph own xs M)
  (step:∀(i:Nat) (d:D) σ M (C:DEnv→Z2→Prop),xs[i]?=some d→I i σ M→(∀σ2 M2,I (i+1) σ2 M2→C σ2 M2)→tgD tg d σ fun σ'=>cd σ' M fun b M1=>if b=true then
   el σ' M1 fun y M2=>∃acc,Zo M2 z=some acc∧acc.length<sizeLine∧C σ' (M2.set z (.lst (acc++[y]))) else C σ' M1)
  (fin:∀σ M,I xs.length σ M→Q M):Js own xs tg cd el z xs σ M Q:=by
 have key:∀(j:Nat) σ M,j≤xs.length→I (xs.length - j) σ M→Js own xs tg cd el z (xs.drop (xs.length - j)) σ M Q:=by
  intro j
  induction j with
  | zero=>
   intro σ M _ h
   rw[Nat.sub_zero] at h ⊢
   rw[List.drop_length]
   exact⟨hs _ σ M (Nat.le_refl _) h,fin σ M h⟩
  | succ j ih=>
   intro σ M hj h
   have hi:xs.length - (j+1)<xs.length:=by omega
   have e:xs.length - (j+1)+1=xs.length - j:=by omega
   rw[Ik hi]
   refine⟨hs _ σ M (by omega) h,step _ _ σ M (fun σ2 M2=>Js own xs tg cd el z (xs.drop (xs.length - (j+1)+1)) σ2 M2 Q) (Ag hi) h fun σ2 M2 h2=>?_⟩
   rw[e] at h2 ⊢
   exact ih σ2 M2 (by omega) h2
 have:=key xs.length σ M (Nat.le_refl _) (by rw[Nat.sub_self];exact h0)
 rw[Nat.sub_self] at this
 exact this
theorem mulR{i j:Int}(h1:-(2 ^ 64)<j)(h2:j<2 ^ 64):IntMulOk i j:=CMul.ok (.inr ⟨h1,h2⟩)
theorem mulL{i j:Int}(h1:-(2 ^ 64)<i)(h2:i<2 ^ 64):IntMulOk i j:=CMul.ok (.inl ⟨h1,h2⟩)
theorem Zr{i j:Int}(h1:0<j)(h2:j<2 ^ 64):Z72 i j:=by
 refine⟨by omega,?_⟩
 have h3:j.natAbs<2 ^ 64:=by omega
 exact Nat.lt_trans (V0 h3 (by decide)) (by decide)
theorem Z0{n:Nat}(h:n≤16000000):n≤sizeLine:=by rw[Hv];omega
theorem Zy{n:Nat}(h:n≤16000000):n<sizeLine:=by rw[Hv];omega
section
variable{M:Z2}{Q:DK}{B:Bool→Prop}{i j:Int}{a b:Str}{p q:Bool}{xs ys:List D}{n m:Nat}{K:Ae}
theorem op_add_i:opD .add (.int i) (.int j) M Q=Q (.int (i+j)) M:=rfl
theorem op_add_s:opD .add (.str a) (.str b) M Q=(a.length+b.length≤sizeLine∧Q (.str (a++b)) M):=rfl
theorem op_add_t:opD .add (.tup xs) (.tup ys) M Q=(xs≠[]∧xs.length+ys.length≤sizeLine∧Q (.tup (xs++ys)) M):=rfl
theorem op_add_l:opD .add (.ref n) (.ref m) M Q=∃xs ys,Zo M n=some xs∧Zo M m=some ys∧xs.length+ys.length≤sizeLine∧Q (.ref M.length) (M++[.lst (xs++ys)]):=rfl
theorem op_sub_i:opD .sub (.int i) (.int j) M Q=Q (.int (i - j)) M:=rfl
theorem op_mul_i:opD .mul (.int i) (.int j) M Q=(IntMulOk i j∧Q (.int (i * j)) M):=rfl
theorem op_mul_l:opD .mul (.ref n) (.int i) M Q=∃xs,Zo M n=some xs∧0≤i∧i<2 ^ 62∧xs.length * i.toNat≤sizeLine∧Q (.ref M.length) (M++[.lst (Dp i.toNat xs).flatten]):=rfl
theorem op_fdiv_i:opD .fdiv (.int i) (.int j) M Q=(Z72 i j∧Q (.int (qdiv i j)) M):=rfl
theorem op_mod_i:opD .mod (.int i) (.int j) M Q=(j≠0∧Q (.int (qmod i j)) M):=rfl
theorem op_pow_i:opD .pow (.int i) (.int j) M Q=(CPow i j∧Q (.int (i ^ j.toNat)) M):=rfl
theorem cm_lt_i:cmD M .lt (.int i) (.int j) B=B (decide (i<j)):=rfl
theorem cm_le_i:cmD M .le (.int i) (.int j) B=B (decide (i≤j)):=rfl
theorem cm_gt_i:cmD M .gt (.int i) (.int j) B=B (decide (j<i)):=rfl
theorem cm_eq{x y:D}:cmD M .eq x y B=eqD M x y B:=rfl
theorem cm_ne{x y:D}:cmD M .ne x y B=eqD M x y fun b=>B (!b):=rfl
theorem cm_in{x y:D}:cmD M .isin x y B=inQ M x y B:=rfl
theorem cm_notin{x y:D}:cmD M .notin x y B=inQ M x y fun b=>B (!b):=rfl
theorem cm_is_n:cmD M .is .non .non B=B true:=rfl
theorem cm_is_i:cmD M .is (.int i) .non B=B false:=rfl
theorem cm_is_s:cmD M .is (.str a) .non B=B false:=rfl
theorem cm_is_b:cmD M .is (.bl p) .non B=B false:=rfl
theorem cm_is_t:cmD M .is (.tup xs) .non B=B false:=rfl
theorem cm_is_r:cmD M .is (.ref n) .non B=B false:=rfl
theorem eq_i:eqD M (.int i) (.int j) B=B (decide (i=j)):=rfl
theorem eq_s:eqD M (.str a) (.str b) B=B (decide (a=b)):=rfl
theorem eq_b:eqD M (.bl p) (.bl q) B=B (decide (p=q)):=rfl
theorem eq_nn:eqD M .non .non B=B true:=rfl
theorem eq_is:eqD M (.int i) (.str b) B=B false:=rfl
theorem eq_si:eqD M (.str b) (.int i) B=B false:=rfl
theorem tru_b:truD M (.bl p) B=B p:=rfl
theorem tru_i:truD M (.int i) B=B (i !=0):=rfl
theorem tru_n:truD M .non B=B false:=rfl
theorem tru_t:truD M (.tup xs) B=B (!xs.isEmpty):=rfl
theorem ix_t{F:D→Prop}:ixD M (.tup xs) (.int i) F=∃d,atI xs i=some d∧F d:=rfl
theorem ix_g{F:D→Prop}:ixD M (.gtup xs) (.int i) F=∃d,atI xs i=some d∧F d:=rfl
theorem ix_s{F:D→Prop}:ixD M (.str a) (.int i) F=(a.length≤sizeLine∧∃c,atI a.cps.toList i=some c∧F (.str ⟨#[c]⟩)):=rfl
theorem ix_l{F:D→Prop}{k:Nat}(h:Zd M n=some xs){d:D}(hd:xs[k]?=some d)(hF:F d):ixD M (.ref n) (.int k) F:= .inl ⟨xs,k,d,rfl,h,Yv hd,hF⟩
theorem Vk{F:D→Prop}(h:Zd M n=some xs){d:D}(hd:atI xs i=some d)(hF:F d):ixD M (.ref n) (.int i) F:= .inl ⟨xs,i,d,rfl,h,hd,hF⟩
theorem sl_s{lo hi:Option Int}:slD (.str a) lo hi M Q=(a.length≤sizeLine∧Q (.str (Hy a lo hi)) M):=rfl
theorem sl_t{lo hi:Option Int}:slD (.tup xs) lo hi M Q=(¬(HT.sIx xs.length 0 lo=0∧HT.sIx xs.length xs.length hi=xs.length)∧Q (.tup (cutD xs lo hi)) M):=rfl
theorem sl_l{lo hi:Option Int}:slD (.ref n) lo hi M Q=∃xs,Zd M n=some xs∧Q (.ref M.length) (M++[.lst (cutD xs lo hi)]):=rfl
noncomputable def tyNon:Ty→Bool:=fun _=>false
noncomputable def tyBl:Ty→Bool
 | .bool=>true | .int=>true | _=>false
noncomputable def tyInt:Ty→Bool
 | .int=>true | _=>false
noncomputable def tyStr:Ty→Bool
 | .str=>true | _=>false
noncomputable def tyTup:Ty→Bool
 | .tuple=>true | _=>false
noncomputable def tyLst:Ty→Bool
 | .list=>true | _=>false
noncomputable def tyDct:Ty→Bool
 | .dict=>true | _=>false
theorem Oj{d:D}{t:Ty}{s:String}{v:Bool}(hd:∀e C dx r,d≠ .exn e C dx r)(h1:tyD M d=some s)(h2:Kh K (.type s) (.type (Xw t))=some v):isD K M d (.ty (Xw t)) B=B v:=by
 have:isD K M d (.ty (Xw t)) B=∃t' b,tyD M d=some t'∧Kh K (.type t') (.type (Xw t))=some b∧B b:=by
  cases d<;>first | rfl | exact absurd rfl (hd _ _ _ _)
 rw[this]
 apply propext
 constructor
 ·rintro⟨t',b,e1,e2,h⟩
  rw[h1] at e1
  cases e1
  rw[h2] at e2
  cases e2
  exact h
 ·intro h;exact⟨s,v,h1,h2,h⟩
theorem is_non{t:Ty}:isD K M .non (.ty (Xw t)) B=B (tyNon t):=Oj (fun _ _ _ _ h=>nomatch h) rfl (by cases t<;>rfl)
theorem is_bl{t:Ty}:isD K M (.bl p) (.ty (Xw t)) B=B (tyBl t):=Oj (fun _ _ _ _ h=>nomatch h) rfl (by cases t<;>rfl)
theorem is_int{t:Ty}:isD K M (.int i) (.ty (Xw t)) B=B (tyInt t):=Oj (fun _ _ _ _ h=>nomatch h) rfl (by cases t<;>rfl)
theorem is_str{t:Ty}:isD K M (.str a) (.ty (Xw t)) B=B (tyStr t):=Oj (fun _ _ _ _ h=>nomatch h) rfl (by cases t<;>rfl)
theorem is_tup{t:Ty}:isD K M (.tup xs) (.ty (Xw t)) B=B (tyTup t):=Oj (fun _ _ _ _ h=>nomatch h) rfl (by cases t<;>rfl)
theorem Zo2{t:Ty}(h:Zo M n=some xs):isD K M (.ref n) (.ty (Xw t)) B=B (tyLst t):=Oj (s:="list") (fun _ _ _ _ h=>nomatch h) (by simp only[tyD,J0 h]) (by cases t<;>rfl)
theorem Y1(h:Zd M n=some xs)(hq:Q (.int xs.length) M):bfD K .len [.ref n] M Q:= .inl ⟨xs,h,hq⟩
theorem bf_len_t:bfD K .len [.tup xs] M Q=Q (.int xs.length) M:=rfl
theorem bf_len_s:bfD K .len [.str a] M Q=(a.length≤sizeLine∧Q (.int a.length) M):=rfl
theorem bf_is{d c:D}:bfD K .isinst [d,c] M Q=isD K M d c fun b=>Q (.bl b) M:=rfl
theorem bf_min:bfD K .min2 [.int i,.int j] M Q=Q (.int (if j<i then j else i)) M:=rfl
theorem bf_max:bfD K .max2 [.int i,.int j] M Q=Q (.int (if j >i then j else i)) M:=rfl
theorem bf_list{d:D}:bfD K .list1 [d] M Q=∃xs,Ze4 M d=some xs∧Q (.ref M.length) (M++[.lst xs]):=rfl
theorem bf_dict:bfD K .dict1 [.ref n] M Q=((∃xs,Vm M n=some xs∧Q (.ref M.length) (M++[.dct xs]))∨(∃ps:List (Key×D),Zd M n=some (Np ps)∧ps.length<sizeLine∧Q (.ref M.length) (M++[.dct (N5 ps)]))):=rfl
theorem bf_int:bfD K .int1 [.bl p] M Q=Q (.int (if p then 1 else 0)) M:=rfl
theorem Y66{x y:D}{F:D→D→Prop}:at2 [x,y] F=F x y:=rfl
theorem on_ref{F:Nat→Prop}:Qb (.ref n) F=F n:=rfl
theorem set_f:setD false n M Q=∃ks:List Key,Zd M n=some (ks.map kD)∧ks.length+1<scanBound∧∀ks':List Key,ks'.Nodup→(∀k,k∈ks'↔k∈ks)→Q (.int ks'.length) M:=rfl
theorem onIS_i{i:Int}{F:Int→Prop}{G:Str→Prop}:onIS (.int i) F G=F i:=rfl
theorem onIS_s{x:Str}{F:Int→Prop}{G:Str→Prop}:onIS (.str x) F G=G x:=rfl
theorem bf_strS{x:Str}:bfD K .str1 [.str x] M Q=Q (.str x) M:=rfl
theorem bf_intT{x:Str}:bfD K .int1 [.str x] M Q=∃n,intText? x=some n∧x.length≤640∧Q (.int n) M:=rfl
theorem mt_split_s{x y:Str}:mtD .split (.str x) [.str y] M Q=((y.length==0)=false∧x.length+2≤sizeLine∧Q (.ref M.length) (M++[.lst ((Ko x y).map .str)])):=rfl
theorem mt_join_s{x:Str}:mtD .join (.str x) [.ref n] M Q=∃ys:List Str,Zd M n=some (ys.map .str)∧JoinOk x ys=true∧Q (.str (Du x ys)) M:=rfl
theorem mt_starts_s{x y:Str}:mtD .starts (.str x) [.str y] M Q=Q (.bl (Txt.startswith x y)) M:=rfl
theorem mt_ends_s{x y:Str}:mtD .ends (.str x) [.str y] M Q=Q (.bl (Txt.endswith x y)) M:=rfl
theorem mk_split{x:Str}:mtK .split (.str x) M=(true=true):=rfl
theorem mk_join{x:Str}:mtK .join (.str x) M=(true=true):=rfl
theorem mk_starts{x:Str}:mtK .starts (.str x) M=(true=true):=rfl
theorem mk_ends{x:Str}:mtK .ends (.str x) M=(true=true):=rfl
theorem it_str{x:Str}{R:Own→List D→Prop}:itD M (.str x) R=R .no (Nn x):=rfl
theorem bf_str:bfD K .str1 [.int i] M Q=(i.natAbs.log2<1920∧Q (.str (toString i)) M):=rfl
theorem mt_popi_r{k:D}:mtD .popi (.ref n) [k] M Q=∃xs d,∃j:Nat,k= .int j∧Zo M n=some xs∧xs[j]?=some d∧Q d (M.set n (.lst (xs.eraseIdx j))):=rfl
theorem mt_insi_r{k d:D}:mtD .insi (.ref n) [k,d] M Q=∃xs,∃j:Nat,k= .int j∧Zo M n=some xs∧j≤xs.length∧xs.length<sizeLine∧Q .non (M.set n (.lst (xs.take j++d::xs.drop j))):=rfl
theorem mk_popi:mtK .popi (.ref n) M=((Zd M n).isSome=true):=rfl
theorem mk_insi:mtK .insi (.ref n) M=((Zd M n).isSome=true):=rfl
theorem ati0{α:Type}{x:α}{l:List α}:atI (x::l) 0=some x:=Yv (j:=0) rfl
theorem ati1{α:Type}{x y:α}{l:List α}:atI (x::y::l) 1=some y:=Yv (j:=1) rfl
theorem ati2{α:Type}{x y z:α}{l:List α}:atI (x::y::z::l) 2=some z:=Yv (j:=2) rfl
theorem ofS_inj{a b:String}:(Str.ofString a=Str.ofString b)=(a=b):=by
 apply propext
 constructor
 ·intro h
  rw[Str.ofString_eq_toList,Str.ofString_eq_toList] at h
  have h1:=congrArg (fun s:Str=>s.cps.toList) h
  simp only at h1
  have inj:∀{l m:List Char},l.map Char.toNat=m.map Char.toNat→l=m:=by
   intro l
   induction l with
   | nil=>intro m h;cases m<;>simp_all
   | cons c l ih=>
    intro m h
    cases m with
    | nil=>simp at h
    | cons e m=>
     rw[Ch,Ch,Mf] at h
     rw[ih h.2,Char.toNat_inj.mp h.1]
  exact String.toList_inj.mp (inj h1)
 ·intro h;rw[h]
theorem mt_append_r{d:D}:mtD .append (.ref n) [d] M Q=∃xs,Zo M n=some xs∧xs.length<sizeLine∧Q .non (M.set n (.lst (xs++[d]))):=rfl
theorem mk_append:mtK .append (.ref n) M=((Zd M n).isSome=true):=rfl
theorem tg_one{k:Nat}{d:D}{σ:DEnv}{F:DEnv→Prop}:tgD [k] d σ F=F (σ.set k (some d)):=by cases d<;>rfl
theorem tg_two{k l:Nat}{d e:D}{σ:DEnv}{F:DEnv→Prop}:tgD [k,l] (.tup [d,e]) σ F=F ((σ.set k (some d)).set l (some e)):=by
 show([d,e].length=[k,l].length∧F _)=_
 simp
theorem it_r{R:Own→List D→Prop}:itD M (.ref n) R=∃xs,Zd M n=some xs∧R (.lst n) xs:=rfl
theorem it_t{R:Own→List D→Prop}:itD M (.tup xs) R=R .no xs:=rfl
theorem it_g{R:Own→List D→Prop}:itD M (.gtup xs) R=R .no xs:=rfl
theorem key_i:keyD (.int i)=some (.inl i):=rfl
theorem key_s:keyD (.str a)=some (.inr a):=rfl
theorem in_ss:inQ M (.str a) (.str b) B=B (!(Lp b a 0 b.length 1).isEmpty):=rfl
end
theorem Vo{α:Type}{o:Option α}{x:α}(h:o=some x):o.isSome=true:=by rw[h];rfl
theorem Prg.up{P:Program}{w:World}{K:Ae}{mg:Str→Option Value}{base:Heap}{c:Cfg}{FN GN BN:List Str}{lv lv':Nat}(Pr:Prg P w K mg base c FN GN BN lv)(h:lv≤lv'):Prg P w K mg base c FN GN BN lv' where
 hK:=Pr.hK
 fns:=fun m y sp e1 e2=>by
  obtain⟨kk,f,fd,ps,ds,dvs,dD,sp0,F,hk,r⟩:=Pr.fns m y sp e1 e2
  exact⟨kk,f,fd,ps,ds,dvs,dD,sp0,F,Nat.le_trans hk h,r⟩
 flen:=Pr.flen
 glb:=Pr.glb
 blt:=Pr.blt
theorem Zo1{α:Type}{P:List α→Prop}(h:P [])(l:List α)(e:l.length=0):P l:=by
 cases l with
 | nil=>exact h
 | cons _ _=>cases e
theorem Bg{α:Type}{n:Nat}{P:List α→Prop}(h:∀a l,l.length=n→P (a::l))(l:List α)(e:l.length=n+1):P l:=by
 cases l with
 | nil=>cases e
 | cons a r=>exact h a r (Nat.succ.inj e)
theorem X6{α:Type}{P:List α→Prop}(h:∀a,P [a]):∀l:List α,l.length=1→P l:=Bg fun a=>Zo1 (h a)
theorem Wq{α:Type}{P:List α→Prop}(h:∀a b,P [a,b]):∀l:List α,l.length=2→P l:=Bg fun a=>X6 (P:=fun l=>P (a::l)) (h a)
theorem Zo5{α:Type}{P:List α→Prop}(h:∀a b c,P [a,b,c]):∀l:List α,l.length=3→P l:=Bg fun a=>Wq (P:=fun l=>P (a::l)) (h a)
theorem Zc9{α:Type}{P:List α→Prop}(h:∀a b c d,P [a,b,c,d]):∀l:List α,l.length=4→P l:=Bg fun a=>Zo5 (P:=fun l=>P (a::l)) (h a)
theorem Z58{α:Type}{P:α→Prop}:∀x∈([]:List α),P x:=fun _ h=>absurd h Aw
theorem all_cons{α:Type}{P:α→Prop}{a:α}{l:List α}(h:P a)(t:∀x∈l,P x):∀x∈a::l,P x:=fun x hx=>(Am.mp hx).elim (fun e=>e ▸ h) (t x)
end U
namespace GT
inductive Av (g:Nat→List Nat) (a:Nat):Nat→Prop
 | zero:a≠0→Av g a 0
 | step {x y:Nat}:Av g a x→y∈g x→y≠a→Av g a y
structure Num(g:Nat→List Nat)(n:Nat):Prop where
 pos:0<n
 cl:∀x,x<n→∀y∈g x,y<n
 up:∀k,k<n→k≠0→∃p,p<k∧k∈g p
structure Must(g:Nat→List Nat)(k m:Nat):Prop where
 ne:m≠k
 dom:¬Av g m k
 last:∀d,d≠k→¬Av g d k→d≤m
structure Wk(g:Nat→List Nat)(n:Nat)(B:List Nat)(T:List (Nat×Nat))(F:List Nat):Prop where
 bn:B.Nodup
 bl:∀x∈B,x<n
 z:0∈B
 mem:∀x,x∈B↔(∃s,(x,s)∈T)∨x∈F
 nd:(T.map (·.1)++F).Nodup
 first:∀p,T[0]?=some p→p.1=0
 chain:∀(i:Nat) p q,T[i]?=some p→T[i+1]?=some q→q.1∈g p.1
 steps:∀a s,(a,s)∈T→s≤(g a).length∧∀j y,j<s→(g a)[j]?=some y→y∈B
 fin:∀d∈F,∀y∈g d,y∈B
 par:∀(i:Nat) x,F[i]?=some x→x≠0→∃p,x∈g p∧p∈B∧p∉F.take (i+1)
theorem Cd{α:Type}(T:List α)(p:α):(T++[p])[T.length]?=some p:=by simp
theorem Q2{α:Type}{T:List α}{p q:α}{i:Nat}(h:T[i]?=some q):(T++[p])[i]?=some q:=by
 rw[Dj (Af.mp h).1];exact h
theorem W7{α:Type}{T:List α}{p q:α}{i:Nat}(h:(T++[p])[i]?=some q):T[i]?=some q∨(i=T.length∧q=p):=by
 by_cases hi:i<T.length
 ·rw[Dj hi] at h;exact .inl h
 ·rw[Ih (by omega)] at h
  have h':=(Af.mp h).1
  simp at h'
  have e:i - T.length=0:=by omega
  rw[e] at h
  simp at h
  exact .inr ⟨by omega,h.symm⟩
theorem Wk.open{g:Nat→List Nat}{n a s y:Nat}{B F:List Nat}{T:List (Nat×Nat)}(w:Wk g n B (T++[(a,s)]) F)(hy:(g a)[s]?=some y)(hn:y<n)(hb:y∉B):Wk g n (B++[y]) (T++[(a,s+1),(y,0)]) F where
 bn:=by
  rw[List.nodup_append]
  refine⟨w.bn,by simp,fun x hx z hz=>?_⟩
  simp at hz
  subst hz
  exact fun e=>hb (e ▸ hx)
 bl:=by
  intro x hx
  rcases Dd.mp hx with h | h
  ·exact w.bl x h
  ·simp at h;omega
 z:=Hf _ w.z
 mem:=by
  intro x
  rw[Dd,w.mem x]
  simp only[Dd,Bk,Am,Prod.mk.injEq,Aw,or_false]
  constructor
  ·rintro((⟨s',h | ⟨rfl,rfl⟩⟩ | h) | rfl)
   ·exact .inl ⟨s',.inl h⟩
   ·exact .inl ⟨s'+1,.inr (.inl ⟨rfl,rfl⟩)⟩
   ·exact .inr h
   ·exact .inl ⟨0,.inr (.inr ⟨rfl,rfl⟩)⟩
  ·rintro(⟨s',h | ⟨rfl,rfl⟩ | ⟨rfl,rfl⟩⟩ | h)
   ·exact .inl (.inl ⟨s',.inl h⟩)
   ·exact .inl (.inl ⟨s,.inr ⟨rfl,rfl⟩⟩)
   ·exact .inr rfl
   ·exact .inl (.inr h)
 nd:=by
  have h1:=w.nd
  have h2:y∉(T++[(a,s)]).map (·.1)++F:=by
   intro h
   apply hb
   rw[w.mem y]
   rcases Dd.mp h with h | h
   ·obtain⟨⟨b,t⟩,hp,e⟩:=Dg.mp h
    simp at e
    subst e
    exact .inl ⟨t,hp⟩
   ·exact .inr h
  have p:((T++[(a,s+1),(y,0)]).map (·.1)++F).Perm (y::((T++[(a,s)]).map (·.1)++F)):=by
   simp only[Dh,Ch,List.map_nil,Hd,Ki,Ls]
   have q:=List.perm_middle (a:=y) (l₁:=List.map (fun x=>x.1) T++[a]) (l₂:=F)
   simpa only[Hd,Ki,Ls] using q
  exact p.nodup_iff.mpr (Kr.mpr ⟨h2,h1⟩)
 first:=by
  intro p h
  have:T++[(a,s+1),(y,0)]=(T++[(a,s+1)])++[(y,0)]:=by simp
  rw[this] at h
  rcases W7 h with h | ⟨e,rfl⟩
  ·rcases W7 h with h | ⟨e,rfl⟩
   ·exact w.first p (Q2 h)
   ·exact w.first (a,s) (by rw[e];exact Cd _ _)
  ·simp at e
 chain:=by
  intro i p q h1 h2
  have:T++[(a,s+1),(y,0)]=(T++[(a,s+1)])++[(y,0)]:=by simp
  rw[this] at h1 h2
  rcases W7 h2 with h2 | ⟨e,rfl⟩
  ·rcases W7 h1 with h1 | ⟨e1,rfl⟩
   ·rcases W7 h2 with h2 | ⟨e,rfl⟩
    ·rcases W7 h1 with h1 | ⟨e1,rfl⟩
     ·exact w.chain i p q (Q2 h1) (Q2 h2)
     ·have:=(Af.mp h2).1
      omega
    ·rcases W7 h1 with h1 | ⟨e1,rfl⟩
     ·exact w.chain i p (a,s) (Q2 h1) (by rw[e];exact Cd _ _)
     ·omega
   ·have:=(Af.mp h2).1
    omega
  ·rcases W7 h1 with h1 | ⟨e1,rfl⟩
   ·rcases W7 h1 with h1 | ⟨e1,rfl⟩
    ·have:=(Af.mp h1).1
     simp at e
     omega
    ·exact Ha hy
   ·omega
 steps:=by
  intro b t h
  simp only[Dd,Am,Aw,or_false,Prod.mk.injEq] at h
  rcases h with h | ⟨rfl,rfl⟩ | ⟨rfl,rfl⟩
  ·obtain⟨h1,h2⟩:=w.steps b t (Hf _ h)
   exact⟨h1,fun j z hj hz=>Hf _ (h2 j z hj hz)⟩
  ·obtain⟨h1,h2⟩:=w.steps b s (by simp)
   refine⟨(Af.mp hy).1,fun j z hj hz=>?_⟩
   by_cases e:j=s
   ·subst e;rw[hy] at hz;cases hz;simp
   ·exact Hf _ (h2 j z (by omega) hz)
  ·exact⟨Nat.zero_le _,fun j y h=>by omega⟩
 fin:=fun d h z hz=>Hf _ (w.fin d h z hz)
 par:=by
  intro i x h hx
  obtain⟨p,h1,h2,h3⟩:=w.par i x h hx
  exact⟨p,h1,Hf _ h2,h3⟩
structure Ord(g:Nat→List Nat)(n:Nat)(O:List Nat):Prop where
 nd:O.Nodup
 lt:∀x∈O,x<n
 z:O[0]?=some 0
 cl:∀x∈O,∀y∈g x,y∈O
 up:∀(k:Nat) x,O[k]?=some x→k≠0→∃(j:Nat) (p:Nat),j<k∧O[j]?=some p∧x∈g p
structure Fd(g:Nat→List Nat)(n a:Nat)(L:List Nat)(t:Nat):Prop where
 nd:L.Nodup
 z:L[0]?=some 0
 av:∀x∈L,Av g a x
 done:∀(i:Nat) x,i<t→L[i]?=some x→∀y∈g x,y=a∨y∈L
 le:t≤L.length
theorem Fd.next{g:Nat→List Nat}{n a t x:Nat}{L:List Nat}(f:Fd g n a L t)(hx:L[t]?=some x)(h:∀y∈g x,y=a∨y∈L):Fd g n a L (t+1) where
 nd:=f.nd
 z:=f.z
 av:=f.av
 done:=by
  intro i u h1 h2 v hv
  by_cases e:i=t
  ·subst e;rw[hx] at h2;cases h2;exact h v hv
  ·exact f.done i u (by omega) h2 v hv
 le:=(Af.mp hx).1
end GT
namespace K05
open PySem PySem.Spec PyProof.Rows L2 L3 U
noncomputable def top(i:Nat):Stmt:=PySem.Challenge.pw_unjump_k05_rows_written.main.body.getD i (.Pass ⟨0,0,0,0⟩)
noncomputable def FN:List Str:="is_made_of"::"is_name"::"are_figures"::"read_number"::"read_below_nought"::"read_whole"::"read_operand"::"read_asked"::"read_sum"::"read_test"::"written_sum"::"written_test"::"read_jump"::"read_test_row"::"read_told"::"read_row"::"read_lines"::"refuse_lost_jumps"::"read"::"written_told"::"written_row"::"written"::"_law_raw"::"_law_mix"::"_law_kept"::"_law_sign"::"_law_word"::"_law_names"::"_law_operand"::"_law_numbers"::"_law_row"::"_law_rows"::"_law_line"::"_law_alike"::"_law_many"::"_law_due"::"_law_told"::"_law_goals"::"law"::[]
noncomputable def GN:List Str:=["LETTERS","FIGURES","KEPT","MOST_SIGNS_OF_NAME","MOST_FIGURES_OF_NUMBER","MOST_FIGURES_OF_OPERAND","SIGNS_OF_SUMS","SIGNS_OF_TESTS","MOST_ROWS_OF_TEXT"]
noncomputable def BN:List Str:=["all","len","int","zip","dict","enumerate","range","min","str","isinstance","tuple","list","bool","max"]
noncomputable abbrev Yr:Stmt:=top 21
noncomputable def Wh:List Str:=["word","signs"]
theorem Nh:FnScope Wh ["word","signs"] (Z1 Yr):=⟨rfl,rfl,rfl,by decide+kernel,rfl,by decide+kernel,by decide+kernel⟩
noncomputable def b_is_made_of:Ss:=
 (.cons (.ret (.allf (.comp ["sign","signs"] [none,(some 1)] [0] (.seq (.var 0)) .no (.cmp .isin (.var 0) (.var 1)))))
 .nil)
theorem G3:Yb (ck0 Wh Yr FN GN BN) b_is_made_of (Z4 Yr)=true:=by decide+kernel
noncomputable abbrev Xx:Stmt:=top 15
noncomputable def Si:List Str:=["word"]
theorem Bi:FnScope Si ["word"] (Z1 Xx):=⟨rfl,rfl,rfl,by decide+kernel,rfl,by decide+kernel,by decide+kernel⟩
noncomputable def Qw:Ss:=
 (.cons (.ret (.bop true (.cons (.cmp .isin (.ix (.var 0) (.int 0)) (.glb 0)) (.cons (.call 0 (.cons (.var 0) (.cons (.bin .add (.glb 0) (.glb 1)) .nil))) .nil))))
 .nil)
noncomputable def Qx:Ss:=
 (.cons (.ite (.cmp .isin (.var 0) (.glb 2)) (.cons (.ret (.bl false))
 .nil) .nil)
 Qw)
noncomputable def b_is_name:Ss:=
 (.cons (.ite (.bop false (.cons (.cmp .eq (.var 0) (.str "")) (.cons (.cmp .gt (.bf .len (.cons (.var 0) .nil)) (.glb 3)) .nil))) (.cons (.ret (.bl false))
 .nil) .nil)
 Qx)
theorem Z47:Yb (ck0 Si Xx FN GN BN) b_is_name (Z4 Xx)=true:=by decide+kernel
noncomputable abbrev Yd:Stmt:=top 20
noncomputable def Wa:List Str:=["word","most"]
theorem Pk:FnScope Wa ["word","most"] (Z1 Yd):=⟨rfl,rfl,rfl,by decide+kernel,rfl,by decide+kernel,by decide+kernel⟩
noncomputable def Wf:Ss:=
 (.cons (.ret (.call 0 (.cons (.var 0) (.cons (.glb 1) .nil))))
 .nil)
noncomputable def T5:Ss:=
 (.cons (.ite (.bop true (.cons (.cmp .eq (.ix (.var 0) (.int 0)) (.str "0")) (.cons (.cmp .gt (.bf .len (.cons (.var 0) .nil)) (.int 1)) .nil))) (.cons (.ret (.bl false))
 .nil) .nil)
 Wf)
noncomputable def b_are_figures:Ss:=
 (.cons (.ite (.bop false (.cons (.cmp .eq (.var 0) (.str "")) (.cons (.cmp .gt (.bf .len (.cons (.var 0) .nil)) (.var 1)) .nil))) (.cons (.ret (.bl false))
 .nil) .nil)
 T5)
theorem Nq:Yb (ck0 Wa Yd FN GN BN) b_are_figures (Z4 Yd)=true:=by decide+kernel
noncomputable abbrev Yg:Stmt:=top 16
noncomputable def Wd:List Str:=["word"]
theorem Pv:FnScope Wd ["word"] (Z1 Yg):=⟨rfl,rfl,rfl,by decide+kernel,rfl,by decide+kernel,by decide+kernel⟩
noncomputable def Qc:Ss:=
 (.cons (.ret .non)
 .nil)
noncomputable def b_read_number:Ss:=
 (.cons (.ite (.call 2 (.cons (.var 0) (.cons (.glb 4) .nil))) (.cons (.ret (.bf .int1 (.cons (.var 0) .nil)))
 .nil) .nil)
 Qc)
theorem N0:Yb (ck0 Wd Yg FN GN BN) b_read_number (Z4 Yg)=true:=by decide+kernel
noncomputable abbrev Zm:Stmt:=top 19
noncomputable def Yt:List Str:=["figures"]
theorem Tk:FnScope Yt ["figures"] (Z1 Zm):=⟨rfl,rfl,rfl,by decide+kernel,rfl,by decide+kernel,by decide+kernel⟩
noncomputable def Vv:Ss:=
 (.cons (.ret .non)
 .nil)
noncomputable def b_read_below_nought:Ss:=
 (.cons (.ite (.call 2 (.cons (.var 0) (.cons (.glb 5) .nil))) (.cons (.ret (.neg (.bf .int1 (.cons (.var 0) .nil))))
 .nil) .nil)
 Vv)
theorem Tz:Yb (ck0 Yt Zm FN GN BN) b_read_below_nought (Z4 Zm)=true:=by decide+kernel
noncomputable abbrev Yp:Stmt:=top 18
noncomputable def Wj:List Str:=["word"]
theorem Na:FnScope Wj ["word"] (Z1 Yp):=⟨rfl,rfl,rfl,by decide+kernel,rfl,by decide+kernel,by decide+kernel⟩
noncomputable def Pm:Ss:=
 (.cons (.ret .non)
 .nil)
noncomputable def Tq:Ss:=
 (.cons (.ite (.call 2 (.cons (.var 0) (.cons (.glb 5) .nil))) (.cons (.ret (.bf .int1 (.cons (.var 0) .nil)))
 .nil) .nil)
 Pm)
noncomputable def Ww:Ss:=
 (.cons (.ite (.mt .starts (.var 0) (.cons (.str "-") .nil)) (.cons (.ret (.call 4 (.cons (.sl (.var 0) (.yes (.int 1)) .no) .nil)))
 .nil) .nil)
 Tq)
noncomputable def b_read_whole:Ss:=
 (.cons (.ite (.cmp .eq (.var 0) (.str "-0")) (.cons (.ret .non)
 .nil) .nil)
 Ww)
theorem Gi:Yb (ck0 Wj Yp FN GN BN) b_read_whole (Z4 Yp)=true:=by decide+kernel
noncomputable abbrev Y5:Stmt:=top 17
noncomputable def Xu:List Str:=["word"]
theorem Qg:FnScope Xu ["word"] (Z1 Y5):=⟨rfl,rfl,rfl,by decide+kernel,rfl,by decide+kernel,by decide+kernel⟩
noncomputable def Vf:Ss:=
 (.cons (.ret (.call 5 (.cons (.var 0) .nil)))
 .nil)
noncomputable def b_read_operand:Ss:=
 (.cons (.ite (.call 1 (.cons (.var 0) .nil)) (.cons (.ret (.var 0))
 .nil) .nil)
 Vf)
theorem Pg:Yb (ck0 Xu Y5 FN GN BN) b_read_operand (Z4 Y5)=true:=by decide+kernel
noncomputable abbrev Ys:Stmt:=top 24
noncomputable def Wn:List Str:=["words","signs","one","other"]
theorem N9:FnScope Wn ["words","signs"] (Z1 Ys):=⟨rfl,rfl,rfl,by decide+kernel,rfl,by decide+kernel,by decide+kernel⟩
noncomputable def Tv:Ss:=
 (.cons (.ret (.tup (.cons (.var 2) (.cons (.ix (.var 0) (.int 1)) (.cons (.var 3) .nil)))))
 .nil)
noncomputable def b_read_asked:Ss:=
 (.cons (.set [2] (.call 6 (.cons (.ix (.var 0) (.int 0)) .nil)))
 (.cons (.set [3] (.call 6 (.cons (.ix (.var 0) (.int 2)) .nil)))
 (.cons (.ite (.bop false (.cons (.cmp .is (.var 2) .non) (.cons (.cmp .is (.var 3) .non) (.cons (.cmp .notin (.ix (.var 0) (.int 1)) (.var 1)) .nil)))) (.cons (.ret .non)
 .nil) .nil)
 Tv)))
theorem Jm:Yb (ck0 Wn Ys FN GN BN) b_read_asked (Z4 Ys)=true:=by decide+kernel
noncomputable abbrev Xe:Stmt:=top 22
noncomputable def Te:List Str:=["words","asked"]
theorem Fu:FnScope Te ["words"] (Z1 Xe):=⟨rfl,rfl,rfl,by decide+kernel,rfl,by decide+kernel,by decide+kernel⟩
noncomputable def Rj:Ss:=
 (.cons (.ret (.bin .add (.tup (.cons (.ix (.var 0) (.int 0)) .nil)) (.var 1)))
 .nil)
noncomputable def Ri:Ss:=
 (.cons (.set [1] (.call 7 (.cons (.sl (.var 0) (.yes (.int 2)) .no) (.cons (.glb 6) .nil))))
 (.cons (.ite (.cmp .is (.var 1) .non) (.cons (.ret .non)
 .nil) .nil)
 Rj))
noncomputable def b_read_sum:Ss:=
 (.cons (.ite (.bop false (.cons (.cmp .ne (.bf .len (.cons (.var 0) .nil)) (.int 5)) (.cons (.cmp .ne (.ix (.var 0) (.int 1)) (.str "=")) (.cons (.not (.call 1 (.cons (.ix (.var 0) (.int 0)) .nil))) .nil)))) (.cons (.ret .non)
 .nil) .nil)
 Ri)
theorem Z09:Yb (ck0 Te Xe FN GN BN) b_read_sum (Z4 Xe)=true:=by decide+kernel
noncomputable abbrev X2:Stmt:=top 23
noncomputable def Ve:List Str:=["words"]
theorem G2:FnScope Ve ["words"] (Z1 X2):=⟨rfl,rfl,rfl,by decide+kernel,rfl,by decide+kernel,by decide+kernel⟩
noncomputable def Sa:Ss:=
 (.cons (.ret (.call 7 (.cons (.var 0) (.cons (.glb 7) .nil))))
 .nil)
noncomputable def b_read_test:Ss:=
 (.cons (.ite (.cmp .ne (.bf .len (.cons (.var 0) .nil)) (.int 3)) (.cons (.ret .non)
 .nil) .nil)
 Sa)
theorem Fw:Yb (ck0 Ve X2 FN GN BN) b_read_test (Z4 X2)=true:=by decide+kernel
noncomputable abbrev Yi:Stmt:=top 25
noncomputable def W6:List Str:=["name","one","sign","other"]
theorem Pl:FnScope W6 ["name","one","sign","other"] (Z1 Yi):=⟨rfl,rfl,rfl,by decide+kernel,rfl,by decide+kernel,by decide+kernel⟩
noncomputable def b_written_sum:Ss:=
 (.cons (.ret (.fstr (.cons (.var 0) (.cons (.str " = ") (.cons (.var 1) (.cons (.str " ") (.cons (.var 2) (.cons (.str " ") (.cons (.var 3) .nil)))))))))
 .nil)
theorem Ng:Yb (ck0 W6 Yi FN GN BN) b_written_sum (Z4 Yi)=true:=by decide+kernel
noncomputable abbrev Y3:Stmt:=top 26
noncomputable def Xs:List Str:=["one","sign","other"]
theorem Q8:FnScope Xs ["one","sign","other"] (Z1 Y3):=⟨rfl,rfl,rfl,by decide+kernel,rfl,by decide+kernel,by decide+kernel⟩
noncomputable def b_written_test:Ss:=
 (.cons (.ret (.fstr (.cons (.str "if ") (.cons (.var 0) (.cons (.str " ") (.cons (.var 1) (.cons (.str " ") (.cons (.var 2) .nil))))))))
 .nil)
theorem Pn:Yb (ck0 Xs Y3 FN GN BN) b_written_test (Z4 Y3)=true:=by decide+kernel
noncomputable abbrev X0:Stmt:=top 33
noncomputable def V8:List Str:=["word","to"]
theorem G1:FnScope V8 ["word"] (Z1 X0):=⟨rfl,rfl,rfl,by decide+kernel,rfl,by decide+kernel,by decide+kernel⟩
noncomputable def Sc:Ss:=
 (.cons (.ret (.tup (.cons (.str "jump") (.cons (.var 1) .nil))))
 .nil)
noncomputable def b_read_jump:Ss:=
 (.cons (.set [1] (.call 3 (.cons (.var 0) .nil)))
 (.cons (.ite (.cmp .is (.var 1) .non) (.cons (.ret .non)
 .nil) .nil)
 Sc))
theorem Fg:Yb (ck0 V8 X0 FN GN BN) b_read_jump (Z4 X0)=true:=by decide+kernel
noncomputable abbrev Zx:Stmt:=top 34
noncomputable def Xn:List Str:=["words","asked","to"]
theorem Rv:FnScope Xn ["words"] (Z1 Zx):=⟨rfl,rfl,rfl,by decide+kernel,rfl,by decide+kernel,by decide+kernel⟩
noncomputable def Wy:Ss:=
 (.cons (.ret (.bin .add (.bin .add (.tup (.cons (.str "test") .nil)) (.var 1)) (.tup (.cons (.var 2) .nil))))
 .nil)
noncomputable def b_read_test_row:Ss:=
 (.cons (.set [1] (.call 9 (.cons (.sl (.var 0) (.yes (.int 1)) (.yes (.int 4))) .nil)))
 (.cons (.set [2] (.call 3 (.cons (.ix (.var 0) (.int 5)) .nil)))
 (.cons (.ite (.bop false (.cons (.cmp .is (.var 1) .non) (.cons (.cmp .is (.var 2) .non) .nil))) (.cons (.ret .non)
 .nil) .nil)
 Wy)))
theorem Qt:Yb (ck0 Xn Zx FN GN BN) b_read_test_row (Z4 Zx)=true:=by decide+kernel
noncomputable abbrev X1:Stmt:=top 32
noncomputable def V4:List Str:=["words","asked"]
theorem Jq:FnScope V4 ["words"] (Z1 X1):=⟨rfl,rfl,rfl,by decide+kernel,rfl,by decide+kernel,by decide+kernel⟩
noncomputable def Sh:Ss:=
 (.cons (.ret (.bin .add (.tup (.cons (.str "sum") .nil)) (.var 1)))
 .nil)
noncomputable def Sf:Ss:=
 (.cons (.set [1] (.call 8 (.cons (.var 0) .nil)))
 (.cons (.ite (.cmp .is (.var 1) .non) (.cons (.ret .non)
 .nil) .nil)
 Sh))
noncomputable def V5:Ss:=
 (.cons (.ite (.bop true (.cons (.cmp .eq (.bf .len (.cons (.var 0) .nil)) (.int 6)) (.cons (.cmp .eq (.ix (.var 0) (.int 0)) (.str "if")) (.cons (.cmp .eq (.ix (.var 0) (.int 4)) (.str "jump")) .nil)))) (.cons (.ret (.call 13 (.cons (.var 0) .nil)))
 .nil) .nil)
 Sf)
noncomputable def Wb:Ss:=
 (.cons (.ite (.bop true (.cons (.cmp .eq (.bf .len (.cons (.var 0) .nil)) (.int 2)) (.cons (.cmp .eq (.ix (.var 0) (.int 0)) (.str "jump")) .nil))) (.cons (.ret (.call 12 (.cons (.ix (.var 0) (.int 1)) .nil)))
 .nil) .nil)
 V5)
noncomputable def b_read_told:Ss:=
 (.cons (.ite (.cmp .eq (.var 0) (.lst (.cons (.str "end") .nil))) (.cons (.ret (.tup (.cons (.str "end") .nil)))
 .nil) .nil)
 Wb)
theorem Fs:Yb (ck0 V4 X1 FN GN BN) b_read_told (Z4 X1)=true:=by decide+kernel
noncomputable abbrev Xh:Stmt:=top 31
noncomputable def Td:List Str:=["line","words","number","told"]
theorem Fz:FnScope Td ["line"] (Z1 Xh):=⟨rfl,rfl,rfl,by decide+kernel,rfl,by decide+kernel,by decide+kernel⟩
noncomputable def Rf:Ss:=
 (.cons (.ret (.bin .add (.tup (.cons (.var 2) .nil)) (.var 3)))
 .nil)
noncomputable def Ra:Ss:=
 (.cons (.set [2] (.call 3 (.cons (.sl (.ix (.var 1) (.int 0)) .no (.yes (.neg (.int 1)))) .nil)))
 (.cons (.set [3] (.call 14 (.cons (.sl (.var 1) (.yes (.int 1)) .no) .nil)))
 (.cons (.ite (.bop false (.cons (.cmp .is (.var 2) .non) (.cons (.cmp .is (.var 3) .non) .nil))) (.cons (.ret .non)
 .nil) .nil)
 Rf)))
noncomputable def b_read_row:Ss:=
 (.cons (.set [1] (.mt .split (.var 0) (.cons (.str " ") .nil)))
 (.cons (.ite (.not (.mt .ends (.ix (.var 1) (.int 0)) (.cons (.str ":") .nil))) (.cons (.ret .non)
 .nil) .nil)
 Ra))
theorem Z25:Yb (ck0 Td Xh FN GN BN) b_read_row (Z4 Xh)=true:=by decide+kernel
noncomputable abbrev Yo:Stmt:=top 30
noncomputable def Wl:List Str:=["lines","places","rows","before","place","row"]
theorem N3:FnScope Wl ["lines","places"] (Z1 Yo):=⟨rfl,rfl,rfl,by decide+kernel,rfl,by decide+kernel,by decide+kernel⟩
noncomputable def Tm:Ss:=
 (.cons (.ret (.var 2))
 .nil)
noncomputable def Tp:Ss:=
 (.cons (.set [3] (.ix (.var 5) (.int 0)))
 (.cons (.expr (.mt .append (.var 2) (.cons (.var 5) .nil)))
 .nil))
noncomputable def Tu:Ss:=
 (.cons (.set [5] (.call 15 (.cons (.ix (.var 0) (.var 4)) .nil)))
 (.cons (.ite (.bop false (.cons (.cmp .is (.var 5) .non) (.cons (.cmp .le (.ix (.var 5) (.int 0)) (.var 3)) .nil))) (.cons .never
 .nil) .nil)
 Tp))
noncomputable def b_read_lines:Ss:=
 (.cons (.set [2] (.lst .nil))
 (.cons (.set [3] (.neg (.int 1)))
 (.cons (.for_ [4] (.seq (.var 1)) Tu)
 Tm)))
theorem Gg:Yb (ck0 Wl Yo FN GN BN) b_read_lines (Z4 Yo)=true:=by decide+kernel
noncomputable abbrev Zk:Stmt:=top 35
noncomputable def Yu:List Str:=["rows","places","numbers","place","row"]
theorem Tl:FnScope Yu ["rows","places"] (Z1 Zk):=⟨rfl,rfl,rfl,by decide+kernel,rfl,by decide+kernel,by decide+kernel⟩
noncomputable def Xz:Ss:=
 (.cons (.ite (.bop true (.cons (.cmp .isin (.ix (.var 4) (.int 1)) (.tup (.cons (.str "test") (.cons (.str "jump") .nil)))) (.cons (.cmp .notin (.ix (.var 4) (.neg (.int 1))) (.var 2)) .nil))) (.cons .never
 .nil) .nil)
 .nil)
noncomputable def b_refuse_lost_jumps:Ss:=
 (.cons (.set [2] (.bf .dict1 (.cons (.comp ["row"] [none] [0] (.seq (.var 0)) .no (.tup (.cons (.ix (.var 0) (.int 0)) (.cons (.bl true) .nil)))) .nil)))
 (.cons (.for_ [3,4] (.zip (.cons (.var 1) (.cons (.var 0) .nil))) Xz)
 .nil))
theorem S0:Yb (ck0 Yu Zk FN GN BN) b_refuse_lost_jumps (Z4 Zk)=true:=by decide+kernel
noncomputable abbrev Re:Stmt:=top 29
noncomputable def Eu:List Str:=["text","lines","places","rows"]
theorem Zu6:FnScope Eu ["text"] (Z1 Re):=⟨rfl,rfl,rfl,by decide+kernel,rfl,by decide+kernel,by decide+kernel⟩
noncomputable def Nm:Ss:=
 (.cons (.ret (.var 3))
 .nil)
noncomputable def C8:Ss:=
 (.cons (.set [3] (.call 16 (.cons (.var 1) (.cons (.var 2) .nil))))
 (.cons (.expr (.call 17 (.cons (.var 3) (.cons (.var 2) .nil))))
 (.cons (.ite (.bop false (.cons (.cmp .eq (.var 3) (.lst .nil)) (.cons (.cmp .notin (.ix (.ix (.var 3) (.neg (.int 1))) (.int 1)) (.tup (.cons (.str "jump") (.cons (.str "end") .nil)))) .nil))) (.cons .never
 .nil) .nil)
 Nm)))
noncomputable def b_read:Ss:=
 (.cons (.set [1] (.mt .split (.var 0) (.cons (.str "\n") .nil)))
 (.cons (.set [2] (.comp ["place","line"] [none,none] [0,1] (.enm (.var 1)) (.yes (.cmp .ne (.var 1) (.str ""))) (.var 0)))
 (.cons (.ite (.cmp .gt (.bf .len (.cons (.var 2) .nil)) (.glb 8)) (.cons .never
 .nil) .nil)
 C8)))
theorem Y27:Yb (ck0 Eu Re FN GN BN) b_read (Z4 Re)=true:=by decide+kernel
noncomputable abbrev Y2:Stmt:=top 38
noncomputable def Xr:List Str:=["row","to","asked"]
theorem Qk:FnScope Xr ["row"] (Z1 Y2):=⟨rfl,rfl,rfl,by decide+kernel,rfl,by decide+kernel,by decide+kernel⟩
noncomputable def Vi:Ss:=
 (.cons (.set [2] (.call 11 (.cons (.ix (.var 0) (.int 2)) (.cons (.ix (.var 0) (.int 3)) (.cons (.ix (.var 0) (.int 4)) .nil)))))
 (.cons (.ret (.fstr (.cons (.var 2) (.cons (.str " jump ") (.cons (.var 1) .nil)))))
 .nil))
noncomputable def W1:Ss:=
 (.cons (.set [1] (.ix (.var 0) (.neg (.int 1))))
 (.cons (.ite (.cmp .eq (.ix (.var 0) (.int 1)) (.str "jump")) (.cons (.ret (.fstr (.cons (.str "jump ") (.cons (.var 1) .nil))))
 .nil) .nil)
 Vi))
noncomputable def X9:Ss:=
 (.cons (.ite (.cmp .eq (.ix (.var 0) (.int 1)) (.str "sum")) (.cons (.ret (.call 10 (.cons (.ix (.var 0) (.int 2)) (.cons (.ix (.var 0) (.int 3)) (.cons (.ix (.var 0) (.int 4)) (.cons (.ix (.var 0) (.int 5)) .nil))))))
 .nil) .nil)
 W1)
noncomputable def b_written_told:Ss:=
 (.cons (.ite (.cmp .eq (.ix (.var 0) (.int 1)) (.str "end")) (.cons (.ret (.str "end"))
 .nil) .nil)
 X9)
theorem Po:Yb (ck0 Xr Y2 FN GN BN) b_written_told (Z4 Y2)=true:=by decide+kernel
noncomputable abbrev Ye:Stmt:=top 37
noncomputable def W8:List Str:=["row","number","told"]
theorem Pu:FnScope W8 ["row"] (Z1 Ye):=⟨rfl,rfl,rfl,by decide+kernel,rfl,by decide+kernel,by decide+kernel⟩
noncomputable def b_written_row:Ss:=
 (.cons (.set [1] (.ix (.var 0) (.int 0)))
 (.cons (.set [2] (.call 19 (.cons (.var 0) .nil)))
 (.cons (.ret (.fstr (.cons (.var 1) (.cons (.str ": ") (.cons (.var 2) .nil)))))
 .nil)))
theorem Ox:Yb (ck0 W8 Ye FN GN BN) b_written_row (Z4 Ye)=true:=by decide+kernel
noncomputable abbrev Xy:Stmt:=top 36
noncomputable def Sk:List Str:=["rows"]
theorem Bl:FnScope Sk ["rows"] (Z1 Xy):=⟨rfl,rfl,rfl,by decide+kernel,rfl,by decide+kernel,by decide+kernel⟩
noncomputable def b_written:Ss:=
 (.cons (.ret (.mt .join (.str "\n") (.cons (.comp ["row"] [none] [0] (.seq (.var 0)) .no (.call 20 (.cons (.var 0) .nil))) .nil)))
 .nil)
theorem Zd7:Yb (ck0 Sk Xy FN GN BN) b_written (Z4 Xy)=true:=by decide+kernel
noncomputable abbrev Rg:Stmt:=top 40
noncomputable def Cn:List Str:=["_law_script","_law_k"]
theorem Zv5:FnScope Cn ["_law_script","_law_k"] (Z1 Rg):=⟨rfl,rfl,rfl,by decide+kernel,rfl,by decide+kernel,by decide+kernel⟩
noncomputable def C3:Ss:=
 (.cons (.ret (.ix (.var 0) (.bin .mod (.var 1) (.bf .len (.cons (.var 0) .nil)))))
 .nil)
noncomputable def b_Lraw:Ss:=
 (.cons (.ite (.cmp .eq (.bf .len (.cons (.var 0) .nil)) (.int 0)) (.cons (.ret (.var 1))
 .nil) .nil)
 C3)
theorem Y38:Yb (ck0 Cn Rg FN GN BN) b_Lraw (Z4 Rg)=true:=by decide+kernel
noncomputable abbrev Ro:Stmt:=top 41
noncomputable def Cs:List Str:=["_law_script","_law_k","_law_turn"]
theorem Zq6:FnScope Cs ["_law_script","_law_k"] (Z1 Ro):=⟨rfl,rfl,rfl,by decide+kernel,rfl,by decide+kernel,by decide+kernel⟩
noncomputable def B7:Ss:=
 (.cons (.set [2] (.bin .fdiv (.var 1) (.bf .len (.cons (.var 0) .nil))))
 (.cons (.ret (.bin .mod (.bin .mul (.bin .add (.bin .mod (.call 22 (.cons (.var 0) (.cons (.var 1) .nil))) (.int 2147483629)) (.int 2)) (.bin .add (.int 48271) (.bin .mul (.bin .mul (.int 7) (.var 2)) (.var 2)))) (.int 2147483647)))
 .nil))
noncomputable def b_Lmix:Ss:=
 (.cons (.ite (.cmp .eq (.bf .len (.cons (.var 0) .nil)) (.int 0)) (.cons (.ret (.bin .mod (.bin .mul (.bin .add (.bin .mul (.var 1) (.var 1)) (.int 3)) (.int 48271)) (.int 2147483647)))
 .nil) .nil)
 B7)
theorem Y84:Yb (ck0 Cs Ro FN GN BN) b_Lmix (Z4 Ro)=true:=by decide+kernel
noncomputable abbrev Vt:Stmt:=top 42
noncomputable def Ny:List Str:=[]
theorem Zm3:FnScope Ny [] (Z1 Vt):=⟨rfl,rfl,rfl,by decide+kernel,rfl,by decide+kernel,by decide+kernel⟩
noncomputable def b_Lkept:Ss:=
 (.cons (.ret (.lst (.cons (.str "if") (.cons (.str "jump") (.cons (.str "end") (.cons (.str "rest") (.cons (.str "round") (.cons (.str "part") (.cons (.str "leave") (.cons (.str "again") (.cons (.str "else") (.cons (.str "done") .nil))))))))))))
 .nil)
theorem Zq7:Yb (ck0 Ny Vt FN GN BN) b_Lkept (Z4 Vt)=true:=by decide+kernel
noncomputable abbrev T7:Stmt:=top 43
noncomputable def N7:List Str:=["_law_number","_law_first"]
theorem Zg6:FnScope N7 ["_law_number","_law_first"] (Z1 T7):=⟨rfl,rfl,rfl,by decide+kernel,rfl,by decide+kernel,by decide+kernel⟩
noncomputable def G0:Ss:=
 (.cons (.ret (.ix (.str "abcdefghijklmnopqrstuvwxyz0123456789") (.bin .mod (.var 0) (.int 36))))
 .nil)
noncomputable def b_Lsign:Ss:=
 (.cons (.ite (.var 1) (.cons (.ret (.ix (.str "abcdefghijklmnopqrstuvwxyz") (.bin .mod (.var 0) (.int 26))))
 .nil) .nil)
 G0)
theorem Zq0:Yb (ck0 N7 T7 FN GN BN) b_Lsign (Z4 T7)=true:=by decide+kernel
noncomputable abbrev T9:Stmt:=top 44
noncomputable def Om:List Str:=["_law_number","_law_size","_law_word_here","_law_k"]
theorem Zm8:FnScope Om ["_law_number","_law_size"] (Z1 T9):=⟨rfl,rfl,rfl,by decide+kernel,rfl,by decide+kernel,by decide+kernel⟩
noncomputable def Gb:Ss:=
 (.cons (.ret (.var 2))
 .nil)
noncomputable def G7:Ss:=
 (.cons (.set [0] (.bin .mod (.bin .mul (.bin .add (.var 0) (.int 2)) (.int 69621)) (.int 2147483629)))
 (.cons (.set [2] (.bin .add (.var 2) (.call 25 (.cons (.bin .fdiv (.var 0) (.int 64)) (.cons (.cmp .eq (.var 3) (.int 0)) .nil)))))
 .nil))
noncomputable def b_Lword:Ss:=
 (.cons (.set [2] (.str ""))
 (.cons (.for_ [3] (.rng1 (.var 1)) G7)
 Gb))
theorem Zu4:Yb (ck0 Om T9 FN GN BN) b_Lword (Z4 T9)=true:=by decide+kernel
noncomputable abbrev Ws:Stmt:=top 45
noncomputable def Q0:List Str:=["_law_script","_law_first","_law_stem","_law_at","_law_names_here","_law_k","_law_number","_law_word_here"]
theorem Z94:FnScope Q0 ["_law_script"] (Z1 Ws):=⟨rfl,rfl,rfl,by decide+kernel,rfl,by decide+kernel,by decide+kernel⟩
noncomputable def O9:Ss:=
 (.cons (.ret (.var 4))
 .nil)
noncomputable def Sy:Ss:=
 (.cons (.expr (.mt .append (.var 4) (.cons (.var 7) .nil)))
 .nil)
noncomputable def Sq:Ss:=
 (.cons (.ite (.cmp .isin (.var 7) (.call 24 .nil)) (.cons (.set [7] (.bin .add (.str "q") (.sl (.var 7) (.yes (.int 1)) .no)))
 .nil) .nil)
 Sy)
noncomputable def Sw:Ss:=
 (.cons (.ite (.bop true (.cons (.cmp .eq (.var 5) (.int 4)) (.cons (.cmp .eq (.bin .mod (.var 6) (.int 4)) (.int 1)) .nil))) (.cons (.set [7] (.bin .add (.ix (.call 24 .nil) (.bin .mod (.bin .fdiv (.var 6) (.int 4)) (.int 10))) (.call 25 (.cons (.bin .fdiv (.var 6) (.int 64)) (.cons (.bl false) .nil)))))
 .nil) .nil)
 Sq)
noncomputable def Oh:Ss:=
 (.cons (.set [6] (.call 23 (.cons (.var 0) (.cons (.bin .add (.int 902) (.var 5)) .nil))))
 (.cons (.set [7] (.bin .add (.bin .add (.sl (.var 2) .no (.yes (.var 3))) (.call 25 (.cons (.bin .add (.bin .fdiv (.var 1) (.int 512)) (.bin .mul (.int 7) (.var 5))) (.cons (.cmp .eq (.var 3) (.int 0)) .nil)))) (.sl (.var 2) (.yes (.bin .add (.var 3) (.int 1))) .no)))
 (.cons (.ite (.cmp .eq (.bin .mod (.var 1) (.int 2)) (.int 0)) (.cons (.set [7] (.call 26 (.cons (.var 6) (.cons (.bin .add (.int 1) (.bin .mod (.bin .fdiv (.var 6) (.int 8)) (.int 8))) .nil))))
 .nil) .nil)
 Sw)))
noncomputable def b_Lnames:Ss:=
 (.cons (.set [1] (.call 23 (.cons (.var 0) (.cons (.int 901) .nil))))
 (.cons (.set [2] (.call 26 (.cons (.var 1) (.cons (.bin .add (.int 1) (.bin .mod (.bin .fdiv (.var 1) (.int 8)) (.int 8))) .nil))))
 (.cons (.set [3] (.bin .mod (.bin .fdiv (.var 1) (.int 64)) (.bf .len (.cons (.var 2) .nil))))
 (.cons (.set [4] (.lst .nil))
 (.cons (.for_ [5] (.rng1 (.int 5)) Oh)
 O9)))))
theorem Zn0:Yb (ck0 Q0 Ws FN GN BN) b_Lnames (Z4 Ws)=true:=by decide+kernel
noncomputable abbrev Xg:Stmt:=top 46
noncomputable def Tg:List Str:=["_law_script","_law_k","_law_names_here","_law_number","_law_big"]
theorem Fm:FnScope Tg ["_law_script","_law_k","_law_names_here","_law_number"] (Z1 Xg):=⟨rfl,rfl,rfl,by decide+kernel,rfl,by decide+kernel,by decide+kernel⟩
noncomputable def Rp:Ss:=
 (.cons (.ret (.var 4))
 .nil)
noncomputable def T3:Ss:=
 (.cons (.ite (.cmp .eq (.bin .mod (.bin .fdiv (.var 3) (.int 12)) (.int 2)) (.int 0)) (.cons (.ret (.bin .sub (.int 0) (.var 4)))
 .nil) .nil)
 Rp)
noncomputable def Rh:Ss:=
 (.cons (.set [4] (.bin .mod (.bin .mul (.bin .mod (.call 22 (.cons (.var 0) (.cons (.var 1) .nil))) (.bin .pow (.int 10) (.int 18))) (.bin .add (.int 1) (.bin .mod (.bin .fdiv (.var 3) (.int 24)) (.int 1000)))) (.bin .pow (.int 10) (.int 18))))
 (.cons (.ite (.cmp .eq (.bin .mod (.bin .fdiv (.var 3) (.int 3)) (.int 4)) (.int 0)) (.cons (.set [4] (.bin .sub (.bin .sub (.bin .pow (.int 10) (.int 18)) (.int 1)) (.bin .mod (.bin .fdiv (.var 3) (.int 24)) (.int 3))))
 .nil) .nil)
 T3))
noncomputable def Rk:Ss:=
 (.cons (.ite (.cmp .eq (.bin .mod (.var 3) (.int 3)) (.int 1)) (.cons (.ret (.bin .sub (.bin .mod (.bin .fdiv (.var 3) (.int 3)) (.int 41)) (.int 20)))
 .nil) .nil)
 Rh)
noncomputable def b_Loperand:Ss:=
 (.cons (.ite (.cmp .eq (.bin .mod (.var 3) (.int 3)) (.int 0)) (.cons (.ret (.ix (.var 2) (.bin .mod (.bin .fdiv (.var 3) (.int 3)) (.int 5))))
 .nil) .nil)
 Rk)
theorem Z28:Yb (ck0 Tg Xg FN GN BN) b_Loperand (Z4 Xg)=true:=by decide+kernel
noncomputable abbrev Xd:Stmt:=top 47
noncomputable def Tf:List Str:=["_law_script","_law_many_here","_law_number","_law_steps","_law_found","_law_k"]
theorem Fx:FnScope Tf ["_law_script","_law_many_here"] (Z1 Xd):=⟨rfl,rfl,rfl,by decide+kernel,rfl,by decide+kernel,by decide+kernel⟩
noncomputable def T8:Ss:=
 (.cons (.ret (.var 4))
 .nil)
noncomputable def Wp:Ss:=
 (.cons (.ite (.cmp .eq (.bin .mod (.call 23 (.cons (.var 0) (.cons (.int 804) .nil))) (.int 5)) (.int 1)) (.cons (.put (.var 4) (.neg (.int 1)) (.int 9999))
 .nil) .nil)
 T8)
noncomputable def Wo:Ss:=
 (.cons (.expr (.mt .append (.var 4) (.cons (.var 2) .nil)))
 (.cons (.set [2] (.bin .add (.bin .add (.var 2) (.int 1)) (.bin .mod (.call 23 (.cons (.var 0) (.cons (.bin .add (.int 700) (.var 5)) .nil))) (.var 3))))
 .nil))
noncomputable def b_Lnumbers:Ss:=
 (.cons (.set [2] (.bin .mul (.bin .mod (.call 23 (.cons (.var 0) (.cons (.int 801) .nil))) (.int 200)) (.bin .mod (.call 23 (.cons (.var 0) (.cons (.int 802) .nil))) (.int 3))))
 (.cons (.set [3] (.bf .min2 (.cons (.ix (.lst (.cons (.int 1) (.cons (.int 3) (.cons (.bin .fdiv (.int 9300) (.var 1)) .nil)))) (.bin .mod (.call 23 (.cons (.var 0) (.cons (.int 803) .nil))) (.int 3))) (.cons (.bin .fdiv (.int 9300) (.var 1)) .nil))))
 (.cons (.set [4] (.lst .nil))
 (.cons (.for_ [5] (.rng1 (.var 1)) Wo)
 Wp))))
theorem Bx:Yb (ck0 Tf Xd FN GN BN) b_Lnumbers (Z4 Xd)=true:=by decide+kernel
noncomputable abbrev Rs:Stmt:=top 48
noncomputable def Be:List Str:=["_law_script","_law_k","_law_numbers_here","_law_names_here","_law_number","_law_to","_law_one","_law_other","_law_kind","_law_at","_law_sign_here","_law_goes"]
theorem Zq2:FnScope Be ["_law_script","_law_k","_law_numbers_here","_law_names_here"] (Z1 Rs):=⟨rfl,rfl,rfl,by decide+kernel,rfl,by decide+kernel,by decide+kernel⟩
noncomputable def C9:Ss:=
 (.cons (.ret (.tup (.cons (.var 9) (.cons (.str "end") .nil))))
 .nil)
noncomputable def B5:Ss:=
 (.cons (.ite (.cmp .eq (.var 8) (.int 8)) (.cons (.ret (.tup (.cons (.var 9) (.cons (.str "jump") (.cons (.var 5) .nil)))))
 .nil) .nil)
 C9)
noncomputable def C6:Ss:=
 (.cons (.ite (.cmp .lt (.var 8) (.int 8)) (.cons (.set [10] (.ix (.lst (.cons (.str "<") (.cons (.str "=") .nil))) (.bin .mod (.bin .fdiv (.var 4) (.int 10)) (.int 2))))
 (.cons (.ret (.tup (.cons (.var 9) (.cons (.str "test") (.cons (.var 6) (.cons (.var 10) (.cons (.var 7) (.cons (.var 5) .nil))))))))
 .nil)) .nil)
 B5)
noncomputable def Ot:Ss:=
 (.cons (.set [9] (.ix (.var 2) (.var 1)))
 (.cons (.ite (.cmp .lt (.var 8) (.int 5)) (.cons (.set [10] (.ix (.lst (.cons (.str "+") (.cons (.str "-") (.cons (.str "/") (.cons (.str "rest") (.cons (.str "&") (.cons (.str "^") .nil))))))) (.bin .mod (.bin .fdiv (.var 4) (.int 10)) (.int 6))))
 (.cons (.set [11] (.ix (.var 3) (.bin .mod (.bin .fdiv (.var 4) (.int 60)) (.int 5))))
 (.cons (.ret (.tup (.cons (.var 9) (.cons (.str "sum") (.cons (.var 11) (.cons (.var 6) (.cons (.var 10) (.cons (.var 7) .nil))))))))
 .nil))) .nil)
 C6))
noncomputable def b_Lrow:Ss:=
 (.cons (.set [4] (.call 23 (.cons (.var 0) (.cons (.var 1) .nil))))
 (.cons (.set [5] (.ix (.var 2) (.bin .mod (.bin .fdiv (.bin .mod (.bin .mul (.var 4) (.int 40692)) (.int 2147483399)) (.int 8)) (.bf .len (.cons (.var 2) .nil)))))
 (.cons (.set [6] (.call 28 (.cons (.var 0) (.cons (.var 1) (.cons (.var 3) (.cons (.bin .fdiv (.bin .mod (.bin .mul (.var 4) (.int 16807)) (.int 2147483563)) (.int 8)) .nil))))))
 (.cons (.set [7] (.call 28 (.cons (.var 0) (.cons (.bin .add (.var 1) (.int 1)) (.cons (.var 3) (.cons (.bin .fdiv (.bin .mod (.bin .mul (.var 4) (.int 39373)) (.int 2147483543)) (.int 8)) .nil))))))
 (.cons (.set [8] (.bin .mod (.var 4) (.int 10)))
 (.cons (.ite (.cmp .eq (.var 1) (.bin .sub (.bf .len (.cons (.var 2) .nil)) (.int 1))) (.cons (.set [8] (.bin .add (.int 8) (.bin .mod (.var 4) (.int 2))))
 .nil) .nil)
 Ot))))))
theorem Y78:Yb (ck0 Be Rs FN GN BN) b_Lrow (Z4 Rs)=true:=by decide+kernel
noncomputable abbrev Vq:Stmt:=top 49
noncomputable def Nf:List Str:=["_law_script","_law_many_here","_law_numbers_here","_law_names_here"]
theorem Zg8:FnScope Nf ["_law_script","_law_many_here"] (Z1 Vq):=⟨rfl,rfl,rfl,by decide+kernel,rfl,by decide+kernel,by decide+kernel⟩
noncomputable def b_Lrows:Ss:=
 (.cons (.set [2] (.call 29 (.cons (.var 0) (.cons (.var 1) .nil))))
 (.cons (.set [3] (.call 27 (.cons (.var 0) .nil)))
 (.cons (.ret (.comp ["_law_k","_law_script","_law_numbers_here","_law_names_here"] [none,(some 0),(some 2),(some 3)] [0] (.rng1 (.var 1)) .no (.call 30 (.cons (.var 1) (.cons (.var 0) (.cons (.var 2) (.cons (.var 3) .nil)))))))
 .nil)))
theorem Zv9:Yb (ck0 Nf Vq FN GN BN) b_Lrows (Z4 Vq)=true:=by decide+kernel
noncomputable abbrev Vz:Stmt:=top 50
noncomputable def Nj:List Str:=["_law_row_here","_law_head","_law_words"]
theorem Zf4:FnScope Nj ["_law_row_here"] (Z1 Vz):=⟨rfl,rfl,rfl,by decide+kernel,rfl,by decide+kernel,by decide+kernel⟩
noncomputable def Gk:Ss:=
 (.cons (.ret (.bin .add (.var 1) (.str "end")))
 .nil)
noncomputable def Qy:Ss:=
 (.cons (.ite (.cmp .eq (.ix (.var 0) (.int 1)) (.str "jump")) (.cons (.ret (.bin .add (.bin .add (.var 1) (.str "jump ")) (.bf .str1 (.cons (.ix (.var 0) (.int 2)) .nil))))
 .nil) .nil)
 Gk)
noncomputable def Sj:Ss:=
 (.cons (.ite (.cmp .eq (.ix (.var 0) (.int 1)) (.str "test")) (.cons (.set [2] (.lst (.cons (.str "if") (.cons (.bf .str1 (.cons (.ix (.var 0) (.int 2)) .nil)) (.cons (.ix (.var 0) (.int 3)) (.cons (.bf .str1 (.cons (.ix (.var 0) (.int 4)) .nil)) .nil))))))
 (.cons (.ret (.bin .add (.var 1) (.mt .join (.str " ") (.cons (.bin .add (.var 2) (.lst (.cons (.str "jump") (.cons (.bf .str1 (.cons (.ix (.var 0) (.int 5)) .nil)) .nil)))) .nil))))
 .nil)) .nil)
 Qy)
noncomputable def b_Lline:Ss:=
 (.cons (.set [1] (.bin .add (.bf .str1 (.cons (.ix (.var 0) (.int 0)) .nil)) (.str ": ")))
 (.cons (.ite (.cmp .eq (.ix (.var 0) (.int 1)) (.str "sum")) (.cons (.set [2] (.lst (.cons (.ix (.var 0) (.int 2)) (.cons (.str "=") (.cons (.bf .str1 (.cons (.ix (.var 0) (.int 3)) .nil)) (.cons (.ix (.var 0) (.int 4)) (.cons (.bf .str1 (.cons (.ix (.var 0) (.int 5)) .nil)) .nil)))))))
 (.cons (.ret (.bin .add (.var 1) (.mt .join (.str " ") (.cons (.var 2) .nil))))
 .nil)) .nil)
 Sj))
theorem Zz4:Yb (ck0 Nj Vz FN GN BN) b_Lline (Z4 Vz)=true:=by decide+kernel
noncomputable abbrev Wi:Stmt:=top 51
noncomputable def Wr:List Str:=["_law_found","_law_due_here","_law_one","_law_other"]
theorem Jn:FnScope Wr ["_law_found","_law_due_here"] (Z1 Wi):=⟨rfl,rfl,rfl,by decide+kernel,rfl,by decide+kernel,by decide+kernel⟩
noncomputable def Pz:Ss:=
 (.cons (.ret (.bl true))
 .nil)
noncomputable def O7:Ss:=
 (.cons (.ite (.not (.call 33 (.cons (.var 2) (.cons (.var 3) .nil)))) (.cons (.ret (.bl false))
 .nil) .nil)
 .nil)
noncomputable def Of:Ss:=
 (.cons (.for_ [2,3] (.zip (.cons (.var 0) (.cons (.var 1) .nil))) O7)
 Pz)
noncomputable def R7:Ss:=
 (.cons (.ite (.cmp .ne (.bf .len (.cons (.var 0) .nil)) (.bf .len (.cons (.var 1) .nil))) (.cons (.ret (.bl false))
 .nil) .nil)
 Of)
noncomputable def Sr:Ss:=
 (.cons (.ite (.bop true (.cons (.bf .isinst (.cons (.var 1) (.cons (.ty .tuple) .nil))) (.cons (.not (.bf .isinst (.cons (.var 0) (.cons (.ty .tuple) .nil)))) .nil))) (.cons (.ret (.bl false))
 .nil) .nil)
 R7)
noncomputable def R9:Ss:=
 (.cons (.ite (.bop true (.cons (.bf .isinst (.cons (.var 1) (.cons (.ty .list) .nil))) (.cons (.not (.bf .isinst (.cons (.var 0) (.cons (.ty .list) .nil)))) .nil))) (.cons (.ret (.bl false))
 .nil) .nil)
 Sr)
noncomputable def Ta:Ss:=
 (.cons (.ite (.bf .isinst (.cons (.var 1) (.cons (.ty .str) .nil))) (.cons (.ret (.bop true (.cons (.bf .isinst (.cons (.var 0) (.cons (.ty .str) .nil))) (.cons (.cmp .eq (.var 0) (.var 1)) .nil))))
 .nil) .nil)
 R9)
noncomputable def b_Lalike:Ss:=
 (.cons (.ite (.bf .isinst (.cons (.var 1) (.cons (.ty .int) .nil))) (.cons (.ret (.bop true (.cons (.bf .isinst (.cons (.var 0) (.cons (.ty .int) .nil))) (.cons (.not (.bf .isinst (.cons (.var 0) (.cons (.ty .bool) .nil)))) (.cons (.cmp .eq (.var 0) (.var 1)) .nil)))))
 .nil) .nil)
 Ta)
theorem B2:Yb (ck0 Wr Wi FN GN BN) b_Lalike (Z4 Wi)=true:=by decide+kernel
noncomputable abbrev T0:Stmt:=top 52
noncomputable def Ja:List Str:=["_law_script","_law_number"]
theorem Zj2:FnScope Ja ["_law_script"] (Z1 T0):=⟨rfl,rfl,rfl,by decide+kernel,rfl,by decide+kernel,by decide+kernel⟩
noncomputable def Jg:Ss:=
 (.cons (.ret (.bf .max2 (.cons (.int 1) (.cons (.bf .min2 (.cons (.bf .len (.cons (.var 0) .nil)) (.cons (.int 80) .nil))) .nil))))
 .nil)
noncomputable def Ge:Ss:=
 (.cons (.ite (.cmp .eq (.bin .mod (.var 1) (.int 8)) (.int 1)) (.cons (.ret (.bin .add (.int 81) (.bin .mod (.bin .fdiv (.var 1) (.int 8)) (.int 120))))
 .nil) .nil)
 Jg)
noncomputable def b_Lmany:Ss:=
 (.cons (.set [1] (.call 23 (.cons (.var 0) (.cons (.int 201) .nil))))
 (.cons (.ite (.cmp .eq (.bin .mod (.var 1) (.int 4)) (.int 0)) (.cons (.ret (.bin .add (.int 1) (.bin .mod (.bin .fdiv (.var 1) (.int 4)) (.int 80))))
 .nil) .nil)
 Ge))
theorem Zx2:Yb (ck0 Ja T0 FN GN BN) b_Lmany (Z4 T0)=true:=by decide+kernel
noncomputable abbrev Rb:Stmt:=top 53
noncomputable def Ci:List Str:=["_law_rows_here"]
theorem Zu9:FnScope Ci ["_law_rows_here"] (Z1 Rb):=⟨rfl,rfl,rfl,by decide+kernel,rfl,by decide+kernel,by decide+kernel⟩
noncomputable def b_Ldue:Ss:=
 (.cons (.ret (.mt .join (.str "\n") (.cons (.comp ["_law_row_here"] [none] [0] (.seq (.var 0)) .no (.call 32 (.cons (.var 0) .nil))) .nil)))
 .nil)
theorem Y31:Yb (ck0 Ci Rb FN GN BN) b_Ldue (Z4 Rb)=true:=by decide+kernel
noncomputable abbrev Vn:Stmt:=top 54
noncomputable def Ow:List Str:=["_law_found","_law_rows_here"]
theorem Zl6:FnScope Ow ["_law_found","_law_rows_here"] (Z1 Vn):=⟨rfl,rfl,rfl,by decide+kernel,rfl,by decide+kernel,by decide+kernel⟩
noncomputable def b_Ltold:Ss:=
 (.cons (.ret (.bop true (.cons (.bf .isinst (.cons (.var 0) (.cons (.ty .str) .nil))) (.cons (.cmp .eq (.var 0) (.call 35 (.cons (.var 1) .nil))) .nil))))
 .nil)
theorem Zx5:Yb (ck0 Ow Vn FN GN BN) b_Ltold (Z4 Vn)=true:=by decide+kernel
noncomputable abbrev Wt:Stmt:=top 55
noncomputable def Q1:List Str:=["_law_rows_here"]
theorem Zc8:FnScope Q1 ["_law_rows_here"] (Z1 Wt):=⟨rfl,rfl,rfl,by decide+kernel,rfl,by decide+kernel,by decide+kernel⟩
noncomputable def b_Lgoals:Ss:=
 (.cons (.ret (.comp ["_law_row_here"] [none] [0] (.seq (.var 0)) (.yes (.bop false (.cons (.cmp .eq (.ix (.var 0) (.int 1)) (.str "test")) (.cons (.cmp .eq (.ix (.var 0) (.int 1)) (.str "jump")) .nil)))) (.ix (.var 0) (.neg (.int 1)))))
 .nil)
theorem Zi0:Yb (ck0 Q1 Wt FN GN BN) b_Lgoals (Z4 Wt)=true:=by decide+kernel
noncomputable abbrev Gn:Stmt:=top 56
noncomputable def Zk6:List Str:=["_law_script","_law_rows_here","_law_handed","_law_out","_law_found"]
theorem Y80:FnScope Zk6 ["_law_script"] (Z1 Gn):=⟨rfl,rfl,rfl,by decide+kernel,rfl,by decide+kernel,by decide+kernel⟩
noncomputable def Fl:Ss:=
 (.cons (.ret (.bop false (.cons (.cmp .gt (.bf .len (.cons (.var 1) .nil)) (.int 80)) (.cons (.call 33 (.cons (.call 18 (.cons (.var 4) .nil)) (.cons (.var 1) .nil))) .nil))))
 .nil)
noncomputable def Nv:Ss:=
 (.cons (.set [4] (.call 21 (.cons (.var 2) .nil)))
 (.cons (.ite (.bop false (.cons (.not (.call 36 (.cons (.var 4) (.cons (.var 1) .nil)))) (.cons (.not (.call 33 (.cons (.var 2) (.cons (.var 1) .nil)))) .nil))) (.cons (.ret (.bl false))
 .nil) .nil)
 Fl))
noncomputable def Zc1:Ss:=
 (.cons (.expr (.mt .insi (.var 2) (.cons (.int 1) (.cons (.var 3) .nil))))
 .nil)
noncomputable def Za8:Ss:=
 (.cons (.ite (.bop true (.cons (.cmp .gt (.bf .len (.cons (.var 1) .nil)) (.int 2)) (.cons (.cmp .notin (.ix (.ix (.var 1) (.int 1)) (.int 0)) (.call 37 (.cons (.var 1) .nil))) .nil))) (.cons (.set [3] (.mt .popi (.var 2) (.cons (.int 1) .nil)))
 (.cons (.ite (.not (.call 36 (.cons (.call 21 (.cons (.var 2) .nil)) (.cons (.bin .add (.lst (.cons (.ix (.var 1) (.int 0)) .nil)) (.sl (.var 1) (.yes (.int 2)) .no)) .nil)))) (.cons (.ret (.bl false))
 .nil) .nil)
 Zc1)) .nil)
 Nv)
noncomputable def b_law:Ss:=
 (.cons (.set [1] (.call 31 (.cons (.var 0) (.cons (.call 34 (.cons (.var 0) .nil)) .nil))))
 (.cons (.set [2] (.bf .list1 (.cons (.var 1) .nil)))
 (.cons (.ite (.bop false (.cons (.not (.call 36 (.cons (.call 21 (.cons (.var 2) .nil)) (.cons (.var 1) .nil)))) (.cons (.not (.call 33 (.cons (.var 2) (.cons (.var 1) .nil)))) .nil))) (.cons (.ret (.bl false))
 .nil) .nil)
 Za8)))
theorem Y95:Yb (ck0 Zk6 Gn FN GN BN) b_law (Z4 Gn)=true:=by decide+kernel
set_option genInjectivity false in
structure Adr where
 mk::
 a_is_made_of:Addr
 d_is_made_of:FuncData
 a_is_name:Addr
 d_is_name:FuncData
 a_are_figures:Addr
 d_are_figures:FuncData
 a_read_number:Addr
 d_read_number:FuncData
 a_read_below_nought:Addr
 d_read_below_nought:FuncData
 a_read_whole:Addr
 d_read_whole:FuncData
 a_read_operand:Addr
 d_read_operand:FuncData
 a_read_asked:Addr
 d_read_asked:FuncData
 a_read_sum:Addr
 d_read_sum:FuncData
 a_read_test:Addr
 d_read_test:FuncData
 a_written_sum:Addr
 d_written_sum:FuncData
 a_written_test:Addr
 d_written_test:FuncData
 a_read_jump:Addr
 d_read_jump:FuncData
 a_read_test_row:Addr
 d_read_test_row:FuncData
 a_read_told:Addr
 d_read_told:FuncData
 a_read_row:Addr
 d_read_row:FuncData
 a_read_lines:Addr
 d_read_lines:FuncData
 a_refuse_lost_jumps:Addr
 d_refuse_lost_jumps:FuncData
 a_read:Addr
 d_read:FuncData
 a_written_told:Addr
 d_written_told:FuncData
 a_written_row:Addr
 d_written_row:FuncData
 a_written:Addr
 d_written:FuncData
 a_Lraw:Addr
 d_Lraw:FuncData
 a_Lmix:Addr
 d_Lmix:FuncData
 a_Lkept:Addr
 d_Lkept:FuncData
 a_Lsign:Addr
 d_Lsign:FuncData
 a_Lword:Addr
 d_Lword:FuncData
 a_Lnames:Addr
 d_Lnames:FuncData
 a_Loperand:Addr
 d_Loperand:FuncData
 a_Lnumbers:Addr
 d_Lnumbers:FuncData
 a_Lrow:Addr
 d_Lrow:FuncData
 a_Lrows:Addr
 d_Lrows:FuncData
 a_Lline:Addr
 d_Lline:FuncData
 a_Lalike:Addr
 d_Lalike:FuncData
 a_Lmany:Addr
 d_Lmany:FuncData
 a_Ldue:Addr
 d_Ldue:FuncData
 a_Ltold:Addr
 d_Ltold:FuncData
 a_Lgoals:Addr
 d_Lgoals:FuncData
 a_law:Addr
 d_law:FuncData
structure Tx(K:Ae)(mg:Str→Option Value)(t:Adr):Prop where
 mk::
 F_is_made_of:Fun K "is_made_of" "is_made_of" Yr t.a_is_made_of t.d_is_made_of
 g_is_made_of:mg "is_made_of"=some (.ref t.a_is_made_of)
 k_is_made_of:Ac K (.ref t.a_is_made_of)=true
 b_is_made_of:Y6 K t.d_is_made_of ["word","signs"] []
 F_is_name:Fun K "is_name" "is_name" Xx t.a_is_name t.d_is_name
 g_is_name:mg "is_name"=some (.ref t.a_is_name)
 k_is_name:Ac K (.ref t.a_is_name)=true
 b_is_name:Y6 K t.d_is_name ["word"] []
 F_are_figures:Fun K "are_figures" "are_figures" Yd t.a_are_figures t.d_are_figures
 g_are_figures:mg "are_figures"=some (.ref t.a_are_figures)
 k_are_figures:Ac K (.ref t.a_are_figures)=true
 b_are_figures:Y6 K t.d_are_figures ["word","most"] []
 F_read_number:Fun K "read_number" "read_number" Yg t.a_read_number t.d_read_number
 g_read_number:mg "read_number"=some (.ref t.a_read_number)
 k_read_number:Ac K (.ref t.a_read_number)=true
 b_read_number:Y6 K t.d_read_number ["word"] []
 F_read_below_nought:Fun K "read_below_nought" "read_below_nought" Zm t.a_read_below_nought t.d_read_below_nought
 g_read_below_nought:mg "read_below_nought"=some (.ref t.a_read_below_nought)
 k_read_below_nought:Ac K (.ref t.a_read_below_nought)=true
 b_read_below_nought:Y6 K t.d_read_below_nought ["figures"] []
 F_read_whole:Fun K "read_whole" "read_whole" Yp t.a_read_whole t.d_read_whole
 g_read_whole:mg "read_whole"=some (.ref t.a_read_whole)
 k_read_whole:Ac K (.ref t.a_read_whole)=true
 b_read_whole:Y6 K t.d_read_whole ["word"] []
 F_read_operand:Fun K "read_operand" "read_operand" Y5 t.a_read_operand t.d_read_operand
 g_read_operand:mg "read_operand"=some (.ref t.a_read_operand)
 k_read_operand:Ac K (.ref t.a_read_operand)=true
 b_read_operand:Y6 K t.d_read_operand ["word"] []
 F_read_asked:Fun K "read_asked" "read_asked" Ys t.a_read_asked t.d_read_asked
 g_read_asked:mg "read_asked"=some (.ref t.a_read_asked)
 k_read_asked:Ac K (.ref t.a_read_asked)=true
 b_read_asked:Y6 K t.d_read_asked ["words","signs"] []
 F_read_sum:Fun K "read_sum" "read_sum" Xe t.a_read_sum t.d_read_sum
 g_read_sum:mg "read_sum"=some (.ref t.a_read_sum)
 k_read_sum:Ac K (.ref t.a_read_sum)=true
 b_read_sum:Y6 K t.d_read_sum ["words"] []
 F_read_test:Fun K "read_test" "read_test" X2 t.a_read_test t.d_read_test
 g_read_test:mg "read_test"=some (.ref t.a_read_test)
 k_read_test:Ac K (.ref t.a_read_test)=true
 b_read_test:Y6 K t.d_read_test ["words"] []
 F_written_sum:Fun K "written_sum" "written_sum" Yi t.a_written_sum t.d_written_sum
 g_written_sum:mg "written_sum"=some (.ref t.a_written_sum)
 k_written_sum:Ac K (.ref t.a_written_sum)=true
 b_written_sum:Y6 K t.d_written_sum ["name","one","sign","other"] []
 F_written_test:Fun K "written_test" "written_test" Y3 t.a_written_test t.d_written_test
 g_written_test:mg "written_test"=some (.ref t.a_written_test)
 k_written_test:Ac K (.ref t.a_written_test)=true
 b_written_test:Y6 K t.d_written_test ["one","sign","other"] []
 F_read_jump:Fun K "read_jump" "read_jump" X0 t.a_read_jump t.d_read_jump
 g_read_jump:mg "read_jump"=some (.ref t.a_read_jump)
 k_read_jump:Ac K (.ref t.a_read_jump)=true
 b_read_jump:Y6 K t.d_read_jump ["word"] []
 F_read_test_row:Fun K "read_test_row" "read_test_row" Zx t.a_read_test_row t.d_read_test_row
 g_read_test_row:mg "read_test_row"=some (.ref t.a_read_test_row)
 k_read_test_row:Ac K (.ref t.a_read_test_row)=true
 b_read_test_row:Y6 K t.d_read_test_row ["words"] []
 F_read_told:Fun K "read_told" "read_told" X1 t.a_read_told t.d_read_told
 g_read_told:mg "read_told"=some (.ref t.a_read_told)
 k_read_told:Ac K (.ref t.a_read_told)=true
 b_read_told:Y6 K t.d_read_told ["words"] []
 F_read_row:Fun K "read_row" "read_row" Xh t.a_read_row t.d_read_row
 g_read_row:mg "read_row"=some (.ref t.a_read_row)
 k_read_row:Ac K (.ref t.a_read_row)=true
 b_read_row:Y6 K t.d_read_row ["line"] []
 F_read_lines:Fun K "read_lines" "read_lines" Yo t.a_read_lines t.d_read_lines
 g_read_lines:mg "read_lines"=some (.ref t.a_read_lines)
 k_read_lines:Ac K (.ref t.a_read_lines)=true
 b_read_lines:Y6 K t.d_read_lines ["lines","places"] []
 F_refuse_lost_jumps:Fun K "refuse_lost_jumps" "refuse_lost_jumps" Zk t.a_refuse_lost_jumps t.d_refuse_lost_jumps
 g_refuse_lost_jumps:mg "refuse_lost_jumps"=some (.ref t.a_refuse_lost_jumps)
 k_refuse_lost_jumps:Ac K (.ref t.a_refuse_lost_jumps)=true
 b_refuse_lost_jumps:Y6 K t.d_refuse_lost_jumps ["rows","places"] []
 F_read:Fun K "read" "read" Re t.a_read t.d_read
 g_read:mg "read"=some (.ref t.a_read)
 k_read:Ac K (.ref t.a_read)=true
 b_read:Y6 K t.d_read ["text"] []
 F_written_told:Fun K "written_told" "written_told" Y2 t.a_written_told t.d_written_told
 g_written_told:mg "written_told"=some (.ref t.a_written_told)
 k_written_told:Ac K (.ref t.a_written_told)=true
 b_written_told:Y6 K t.d_written_told ["row"] []
 F_written_row:Fun K "written_row" "written_row" Ye t.a_written_row t.d_written_row
 g_written_row:mg "written_row"=some (.ref t.a_written_row)
 k_written_row:Ac K (.ref t.a_written_row)=true
 b_written_row:Y6 K t.d_written_row ["row"] []
 F_written:Fun K "written" "written" Xy t.a_written t.d_written
 g_written:mg "written"=some (.ref t.a_written)
 k_written:Ac K (.ref t.a_written)=true
 b_written:Y6 K t.d_written ["rows"] []
 F_Lraw:Fun K "_law_raw" "_law_raw" Rg t.a_Lraw t.d_Lraw
 g_Lraw:mg "_law_raw"=some (.ref t.a_Lraw)
 k_Lraw:Ac K (.ref t.a_Lraw)=true
 b_Lraw:Y6 K t.d_Lraw ["_law_script","_law_k"] []
 F_Lmix:Fun K "_law_mix" "_law_mix" Ro t.a_Lmix t.d_Lmix
 g_Lmix:mg "_law_mix"=some (.ref t.a_Lmix)
 k_Lmix:Ac K (.ref t.a_Lmix)=true
 b_Lmix:Y6 K t.d_Lmix ["_law_script","_law_k"] []
 F_Lkept:Fun K "_law_kept" "_law_kept" Vt t.a_Lkept t.d_Lkept
 g_Lkept:mg "_law_kept"=some (.ref t.a_Lkept)
 k_Lkept:Ac K (.ref t.a_Lkept)=true
 b_Lkept:Y6 K t.d_Lkept [] []
 F_Lsign:Fun K "_law_sign" "_law_sign" T7 t.a_Lsign t.d_Lsign
 g_Lsign:mg "_law_sign"=some (.ref t.a_Lsign)
 k_Lsign:Ac K (.ref t.a_Lsign)=true
 b_Lsign:Y6 K t.d_Lsign ["_law_number","_law_first"] []
 F_Lword:Fun K "_law_word" "_law_word" T9 t.a_Lword t.d_Lword
 g_Lword:mg "_law_word"=some (.ref t.a_Lword)
 k_Lword:Ac K (.ref t.a_Lword)=true
 b_Lword:Y6 K t.d_Lword ["_law_number","_law_size"] []
 F_Lnames:Fun K "_law_names" "_law_names" Ws t.a_Lnames t.d_Lnames
 g_Lnames:mg "_law_names"=some (.ref t.a_Lnames)
 k_Lnames:Ac K (.ref t.a_Lnames)=true
 b_Lnames:Y6 K t.d_Lnames ["_law_script"] []
 F_Loperand:Fun K "_law_operand" "_law_operand" Xg t.a_Loperand t.d_Loperand
 g_Loperand:mg "_law_operand"=some (.ref t.a_Loperand)
 k_Loperand:Ac K (.ref t.a_Loperand)=true
 b_Loperand:Y6 K t.d_Loperand ["_law_script","_law_k","_law_names_here","_law_number"] []
 F_Lnumbers:Fun K "_law_numbers" "_law_numbers" Xd t.a_Lnumbers t.d_Lnumbers
 g_Lnumbers:mg "_law_numbers"=some (.ref t.a_Lnumbers)
 k_Lnumbers:Ac K (.ref t.a_Lnumbers)=true
 b_Lnumbers:Y6 K t.d_Lnumbers ["_law_script","_law_many_here"] []
 F_Lrow:Fun K "_law_row" "_law_row" Rs t.a_Lrow t.d_Lrow
 g_Lrow:mg "_law_row"=some (.ref t.a_Lrow)
 k_Lrow:Ac K (.ref t.a_Lrow)=true
 b_Lrow:Y6 K t.d_Lrow ["_law_script","_law_k","_law_numbers_here","_law_names_here"] []
 F_Lrows:Fun K "_law_rows" "_law_rows" Vq t.a_Lrows t.d_Lrows
 g_Lrows:mg "_law_rows"=some (.ref t.a_Lrows)
 k_Lrows:Ac K (.ref t.a_Lrows)=true
 b_Lrows:Y6 K t.d_Lrows ["_law_script","_law_many_here"] []
 F_Lline:Fun K "_law_line" "_law_line" Vz t.a_Lline t.d_Lline
 g_Lline:mg "_law_line"=some (.ref t.a_Lline)
 k_Lline:Ac K (.ref t.a_Lline)=true
 b_Lline:Y6 K t.d_Lline ["_law_row_here"] []
 F_Lalike:Fun K "_law_alike" "_law_alike" Wi t.a_Lalike t.d_Lalike
 g_Lalike:mg "_law_alike"=some (.ref t.a_Lalike)
 k_Lalike:Ac K (.ref t.a_Lalike)=true
 b_Lalike:Y6 K t.d_Lalike ["_law_found","_law_due_here"] []
 F_Lmany:Fun K "_law_many" "_law_many" T0 t.a_Lmany t.d_Lmany
 g_Lmany:mg "_law_many"=some (.ref t.a_Lmany)
 k_Lmany:Ac K (.ref t.a_Lmany)=true
 b_Lmany:Y6 K t.d_Lmany ["_law_script"] []
 F_Ldue:Fun K "_law_due" "_law_due" Rb t.a_Ldue t.d_Ldue
 g_Ldue:mg "_law_due"=some (.ref t.a_Ldue)
 k_Ldue:Ac K (.ref t.a_Ldue)=true
 b_Ldue:Y6 K t.d_Ldue ["_law_rows_here"] []
 F_Ltold:Fun K "_law_told" "_law_told" Vn t.a_Ltold t.d_Ltold
 g_Ltold:mg "_law_told"=some (.ref t.a_Ltold)
 k_Ltold:Ac K (.ref t.a_Ltold)=true
 b_Ltold:Y6 K t.d_Ltold ["_law_found","_law_rows_here"] []
 F_Lgoals:Fun K "_law_goals" "_law_goals" Wt t.a_Lgoals t.d_Lgoals
 g_Lgoals:mg "_law_goals"=some (.ref t.a_Lgoals)
 k_Lgoals:Ac K (.ref t.a_Lgoals)=true
 b_Lgoals:Y6 K t.d_Lgoals ["_law_rows_here"] []
 F_law:Fun K "law" "law" Gn t.a_law t.d_law
 g_law:mg "law"=some (.ref t.a_law)
 k_law:Ac K (.ref t.a_law)=true
 b_law:Y6 K t.d_law ["_law_script"] []
 z_all:mg "all"=none
 z_len:mg "len"=none
 z_int:mg "int"=none
 z_zip:mg "zip"=none
 z_dict:mg "dict"=none
 z_enumerate:mg "enumerate"=none
 z_range:mg "range"=none
 z_min:mg "min"=none
 z_str:mg "str"=none
 z_isinstance:mg "isinstance"=none
 z_tuple:mg "tuple"=none
 z_list:mg "list"=none
 z_bool:mg "bool"=none
 z_max:mg "max"=none
 q_KEPT:∃a,mg "KEPT"=some (.ref a)∧∃(o:Obj) (its:Array Value) (n:Nat),K.lookup a=some o∧o.cls= .type "tuple"∧o.data= .seq its n∧its.size≤sizeLine∧Vals [.str "if",.str "jump",.str "end",.str "rest",.str "round",.str "part",.str "leave",.str "again",.str "else",.str "done"] its.toList
 q_SIGNS_OF_SUMS:∃a,mg "SIGNS_OF_SUMS"=some (.ref a)∧∃(o:Obj) (its:Array Value) (n:Nat),K.lookup a=some o∧o.cls= .type "tuple"∧o.data= .seq its n∧its.size≤sizeLine∧Vals [.str "+",.str "-",.str "/",.str "rest",.str "&",.str "^"] its.toList
 q_SIGNS_OF_TESTS:∃a,mg "SIGNS_OF_TESTS"=some (.ref a)∧∃(o:Obj) (its:Array Value) (n:Nat),K.lookup a=some o∧o.cls= .type "tuple"∧o.data= .seq its n∧its.size≤sizeLine∧Vals [.str "<",.str "="] its.toList
 q_MOST_SIGNS_OF_NAME:∃tk,mg "MOST_SIGNS_OF_NAME"=some (.int 8 tk)
 q_MOST_FIGURES_OF_NUMBER:∃tk,mg "MOST_FIGURES_OF_NUMBER"=some (.int 4 tk)
 q_MOST_FIGURES_OF_OPERAND:∃tk,mg "MOST_FIGURES_OF_OPERAND"=some (.int 18 tk)
 q_MOST_ROWS_OF_TEXT:∃tk,mg "MOST_ROWS_OF_TEXT"=some (.int 80 tk)
 q_LETTERS:∃tk,mg "LETTERS"=some (.str "abcdefghijklmnopqrstuvwxyz" tk)
 q_FIGURES:∃tk,mg "FIGURES"=some (.str "0123456789" tk)
theorem ents{K:Ae}{mg:Str→Option Value}{t:Adr}(T:Tx K mg t):∀x∈FN,Ent K mg x:=
 all_cons ⟨_,_,_,T.g_is_made_of,T.k_is_made_of,T.b_is_made_of⟩ (all_cons ⟨_,_,_,T.g_is_name,T.k_is_name,T.b_is_name⟩ (all_cons ⟨_,_,_,T.g_are_figures,T.k_are_figures,T.b_are_figures⟩ (all_cons ⟨_,_,_,T.g_read_number,T.k_read_number,T.b_read_number⟩ (all_cons ⟨_,_,_,T.g_read_below_nought,T.k_read_below_nought,T.b_read_below_nought⟩ (all_cons ⟨_,_,_,T.g_read_whole,T.k_read_whole,T.b_read_whole⟩ (all_cons ⟨_,_,_,T.g_read_operand,T.k_read_operand,T.b_read_operand⟩ (all_cons ⟨_,_,_,T.g_read_asked,T.k_read_asked,T.b_read_asked⟩ (all_cons ⟨_,_,_,T.g_read_sum,T.k_read_sum,T.b_read_sum⟩ (all_cons ⟨_,_,_,T.g_read_test,T.k_read_test,T.b_read_test⟩ (all_cons ⟨_,_,_,T.g_written_sum,T.k_written_sum,T.b_written_sum⟩ (all_cons ⟨_,_,_,T.g_written_test,T.k_written_test,T.b_written_test⟩ (all_cons ⟨_,_,_,T.g_read_jump,T.k_read_jump,T.b_read_jump⟩ (all_cons ⟨_,_,_,T.g_read_test_row,T.k_read_test_row,T.b_read_test_row⟩ (all_cons ⟨_,_,_,T.g_read_told,T.k_read_told,T.b_read_told⟩ (all_cons ⟨_,_,_,T.g_read_row,T.k_read_row,T.b_read_row⟩ (all_cons ⟨_,_,_,T.g_read_lines,T.k_read_lines,T.b_read_lines⟩ (all_cons ⟨_,_,_,T.g_refuse_lost_jumps,T.k_refuse_lost_jumps,T.b_refuse_lost_jumps⟩ (all_cons ⟨_,_,_,T.g_read,T.k_read,T.b_read⟩ (all_cons ⟨_,_,_,T.g_written_told,T.k_written_told,T.b_written_told⟩ (all_cons ⟨_,_,_,T.g_written_row,T.k_written_row,T.b_written_row⟩ (all_cons ⟨_,_,_,T.g_written,T.k_written,T.b_written⟩ (all_cons ⟨_,_,_,T.g_Lraw,T.k_Lraw,T.b_Lraw⟩ (all_cons ⟨_,_,_,T.g_Lmix,T.k_Lmix,T.b_Lmix⟩ (all_cons ⟨_,_,_,T.g_Lkept,T.k_Lkept,T.b_Lkept⟩ (all_cons ⟨_,_,_,T.g_Lsign,T.k_Lsign,T.b_Lsign⟩ (all_cons ⟨_,_,_,T.g_Lword,T.k_Lword,T.b_Lword⟩ (all_cons ⟨_,_,_,T.g_Lnames,T.k_Lnames,T.b_Lnames⟩ (all_cons ⟨_,_,_,T.g_Loperand,T.k_Loperand,T.b_Loperand⟩ (all_cons ⟨_,_,_,T.g_Lnumbers,T.k_Lnumbers,T.b_Lnumbers⟩ (all_cons ⟨_,_,_,T.g_Lrow,T.k_Lrow,T.b_Lrow⟩ (all_cons ⟨_,_,_,T.g_Lrows,T.k_Lrows,T.b_Lrows⟩ (all_cons ⟨_,_,_,T.g_Lline,T.k_Lline,T.b_Lline⟩ (all_cons ⟨_,_,_,T.g_Lalike,T.k_Lalike,T.b_Lalike⟩ (all_cons ⟨_,_,_,T.g_Lmany,T.k_Lmany,T.b_Lmany⟩ (all_cons ⟨_,_,_,T.g_Ldue,T.k_Ldue,T.b_Ldue⟩ (all_cons ⟨_,_,_,T.g_Ltold,T.k_Ltold,T.b_Ltold⟩ (all_cons ⟨_,_,_,T.g_Lgoals,T.k_Lgoals,T.b_Lgoals⟩ (all_cons ⟨_,_,_,T.g_law,T.k_law,T.b_law⟩ Z58))))))))))))))))))))))))))))))))))))))
theorem blts{K:Ae}{mg:Str→Option Value}{t:Adr}(T:Tx K mg t):∀x∈BN,mg x=none:=
 all_cons T.z_all (all_cons T.z_len (all_cons T.z_int (all_cons T.z_zip (all_cons T.z_dict (all_cons T.z_enumerate (all_cons T.z_range (all_cons T.z_min (all_cons T.z_str (all_cons T.z_isinstance (all_cons T.z_tuple (all_cons T.z_list (all_cons T.z_bool (all_cons T.z_max Z58)))))))))))))
set_option maxHeartbeats 0 in
theorem Yc3{K:Ae}{h:Heap}{mg:Str→Option Value}{f0 f1 f2 f3 f4 f5 f6 f7 f8 f9 f10 f11 f12 f13 f14 f15 f16 f17 f18 f19 f20 f21 f22 f23 f24 f25 f26 f27 f28 f29 f30 f31 f32 f33 f34 f35 f36 f37 f38:Addr}(X:K.In h)(G:h.Ns mainGlobals mg)
  {od0 an0 od1 an1 od2 an2 od3 an3 od4 an4 od5 an5 od6 an6 od7 an7 od8 an8 od9 an9 od10 an10 od11 an11 od12 an12 od13 an13 od14 an14 od15 an15 od16 an16 od17 an17 od18 an18 od19 an19 od20 an20 od21 an21 od22 an22 od23 an23 od24 an24 od25 an25 od26 an26 od27 an27 od28 an28 od29 an29 od30 an30 od31 an31 od32 an32 od33 an33 od34 an34 od35 an35 od36 an36 od37 an37 od38 an38:Option Addr} {sl0 sl1 sl2 sl3 sl4 sl5 sl6 sl7 sl8 sl9 sl10 sl11 sl12 sl13 sl14 sl15 sl16 sl17 sl18 sl19 sl20 sl21 sl22 sl23 sl24 sl25 sl26 sl27 sl28 sl29 sl30 sl31 sl32 sl33 sl34 sl35 sl36 sl37 sl38:Array (Option Value)} {oc0 kV0 dc0 pm0 cd0 ct0 oc1 kV1 dc1 pm1 cd1 ct1 oc2 kV2 dc2 pm2 cd2 ct2 oc3 kV3 dc3 pm3 cd3 ct3 oc4 kV4 dc4 pm4 cd4 ct4 oc5 kV5 dc5 pm5 cd5 ct5 oc6 kV6 dc6 pm6 cd6 ct6 oc7 kV7 dc7 pm7 cd7 ct7 oc8 kV8 dc8 pm8 cd8 ct8 oc9 kV9 dc9 pm9 cd9 ct9 oc10 kV10 dc10 pm10 cd10 ct10 oc11 kV11 dc11 pm11 cd11 ct11 oc12 kV12 dc12 pm12 cd12 ct12 oc13 kV13 dc13 pm13 cd13 ct13 oc14 kV14 dc14 pm14 cd14 ct14 oc15 kV15 dc15 pm15 cd15 ct15 oc16 kV16 dc16 pm16 cd16 ct16 oc17 kV17 dc17 pm17 cd17 ct17 oc18 kV18 dc18 pm18 cd18 ct18 oc19 kV19 dc19 pm19 cd19 ct19 oc20 kV20 dc20 pm20 cd20 ct20 oc21 kV21 dc21 pm21 cd21 ct21 oc22 kV22 dc22 pm22 cd22 ct22 oc23 kV23 dc23 pm23 cd23 ct23 oc24 kV24 dc24 pm24 cd24 ct24 oc25 kV25 dc25 pm25 cd25 ct25 oc26 kV26 dc26 pm26 cd26 ct26 oc27 kV27 dc27 pm27 cd27 ct27 oc28 kV28 dc28 pm28 cd28 ct28 oc29 kV29 dc29 pm29 cd29 ct29 oc30 kV30 dc30 pm30 cd30 ct30 oc31 kV31 dc31 pm31 cd31 ct31 oc32 kV32 dc32 pm32 cd32 ct32 oc33 kV33 dc33 pm33 cd33 ct33 oc34 kV34 dc34 pm34 cd34 ct34 oc35 kV35 dc35 pm35 cd35 ct35 oc36 kV36 dc36 pm36 cd36 ct36 oc37 kV37 dc37 pm37 cd37 ct37 oc38 kV38 dc38 pm38 cd38 ct38:Value}
  (a0:Ak K mainGlobals "is_made_of"=some (some (.ref f0))) (l0:K.lookup f0=some ⟨oc0,od0,.func (As "is_made_of" "is_made_of" (Zf Yr) (Z4 Yr) (Z1 Yr) .none kV0 dc0 pm0 an0 cd0 ct0),sl0⟩) (c0:Ar K cd0 "is_made_of"=true) (k0:Ac K (.ref f0)=true)
  (a1:Ak K mainGlobals "is_name"=some (some (.ref f1))) (l1:K.lookup f1=some ⟨oc1,od1,.func (As "is_name" "is_name" (Zf Xx) (Z4 Xx) (Z1 Xx) .none kV1 dc1 pm1 an1 cd1 ct1),sl1⟩) (c1:Ar K cd1 "is_name"=true) (k1:Ac K (.ref f1)=true)
  (a2:Ak K mainGlobals "are_figures"=some (some (.ref f2))) (l2:K.lookup f2=some ⟨oc2,od2,.func (As "are_figures" "are_figures" (Zf Yd) (Z4 Yd) (Z1 Yd) .none kV2 dc2 pm2 an2 cd2 ct2),sl2⟩) (c2:Ar K cd2 "are_figures"=true) (k2:Ac K (.ref f2)=true)
  (a3:Ak K mainGlobals "read_number"=some (some (.ref f3))) (l3:K.lookup f3=some ⟨oc3,od3,.func (As "read_number" "read_number" (Zf Yg) (Z4 Yg) (Z1 Yg) .none kV3 dc3 pm3 an3 cd3 ct3),sl3⟩) (c3:Ar K cd3 "read_number"=true) (k3:Ac K (.ref f3)=true)
  (a4:Ak K mainGlobals "read_below_nought"=some (some (.ref f4))) (l4:K.lookup f4=some ⟨oc4,od4,.func (As "read_below_nought" "read_below_nought" (Zf Zm) (Z4 Zm) (Z1 Zm) .none kV4 dc4 pm4 an4 cd4 ct4),sl4⟩) (c4:Ar K cd4 "read_below_nought"=true) (k4:Ac K (.ref f4)=true)
  (a5:Ak K mainGlobals "read_whole"=some (some (.ref f5))) (l5:K.lookup f5=some ⟨oc5,od5,.func (As "read_whole" "read_whole" (Zf Yp) (Z4 Yp) (Z1 Yp) .none kV5 dc5 pm5 an5 cd5 ct5),sl5⟩) (c5:Ar K cd5 "read_whole"=true) (k5:Ac K (.ref f5)=true)
  (a6:Ak K mainGlobals "read_operand"=some (some (.ref f6))) (l6:K.lookup f6=some ⟨oc6,od6,.func (As "read_operand" "read_operand" (Zf Y5) (Z4 Y5) (Z1 Y5) .none kV6 dc6 pm6 an6 cd6 ct6),sl6⟩) (c6:Ar K cd6 "read_operand"=true) (k6:Ac K (.ref f6)=true)
  (a7:Ak K mainGlobals "read_asked"=some (some (.ref f7))) (l7:K.lookup f7=some ⟨oc7,od7,.func (As "read_asked" "read_asked" (Zf Ys) (Z4 Ys) (Z1 Ys) .none kV7 dc7 pm7 an7 cd7 ct7),sl7⟩) (c7:Ar K cd7 "read_asked"=true) (k7:Ac K (.ref f7)=true)
  (a8:Ak K mainGlobals "read_sum"=some (some (.ref f8))) (l8:K.lookup f8=some ⟨oc8,od8,.func (As "read_sum" "read_sum" (Zf Xe) (Z4 Xe) (Z1 Xe) .none kV8 dc8 pm8 an8 cd8 ct8),sl8⟩) (c8:Ar K cd8 "read_sum"=true) (k8:Ac K (.ref f8)=true)
  (a9:Ak K mainGlobals "read_test"=some (some (.ref f9))) (l9:K.lookup f9=some ⟨oc9,od9,.func (As "read_test" "read_test" (Zf X2) (Z4 X2) (Z1 X2) .none kV9 dc9 pm9 an9 cd9 ct9),sl9⟩) (c9:Ar K cd9 "read_test"=true) (k9:Ac K (.ref f9)=true)
  (a10:Ak K mainGlobals "written_sum"=some (some (.ref f10))) (l10:K.lookup f10=some ⟨oc10,od10,.func (As "written_sum" "written_sum" (Zf Yi) (Z4 Yi) (Z1 Yi) .none kV10 dc10 pm10 an10 cd10 ct10),sl10⟩) (c10:Ar K cd10 "written_sum"=true) (k10:Ac K (.ref f10)=true)
  (a11:Ak K mainGlobals "written_test"=some (some (.ref f11))) (l11:K.lookup f11=some ⟨oc11,od11,.func (As "written_test" "written_test" (Zf Y3) (Z4 Y3) (Z1 Y3) .none kV11 dc11 pm11 an11 cd11 ct11),sl11⟩) (c11:Ar K cd11 "written_test"=true) (k11:Ac K (.ref f11)=true)
  (a12:Ak K mainGlobals "read_jump"=some (some (.ref f12))) (l12:K.lookup f12=some ⟨oc12,od12,.func (As "read_jump" "read_jump" (Zf X0) (Z4 X0) (Z1 X0) .none kV12 dc12 pm12 an12 cd12 ct12),sl12⟩) (c12:Ar K cd12 "read_jump"=true) (k12:Ac K (.ref f12)=true)
  (a13:Ak K mainGlobals "read_test_row"=some (some (.ref f13))) (l13:K.lookup f13=some ⟨oc13,od13,.func (As "read_test_row" "read_test_row" (Zf Zx) (Z4 Zx) (Z1 Zx) .none kV13 dc13 pm13 an13 cd13 ct13),sl13⟩) (c13:Ar K cd13 "read_test_row"=true) (k13:Ac K (.ref f13)=true)
  (a14:Ak K mainGlobals "read_told"=some (some (.ref f14))) (l14:K.lookup f14=some ⟨oc14,od14,.func (As "read_told" "read_told" (Zf X1) (Z4 X1) (Z1 X1) .none kV14 dc14 pm14 an14 cd14 ct14),sl14⟩) (c14:Ar K cd14 "read_told"=true) (k14:Ac K (.ref f14)=true)
  (a15:Ak K mainGlobals "read_row"=some (some (.ref f15))) (l15:K.lookup f15=some ⟨oc15,od15,.func (As "read_row" "read_row" (Zf Xh) (Z4 Xh) (Z1 Xh) .none kV15 dc15 pm15 an15 cd15 ct15),sl15⟩) (c15:Ar K cd15 "read_row"=true) (k15:Ac K (.ref f15)=true)
  (a16:Ak K mainGlobals "read_lines"=some (some (.ref f16))) (l16:K.lookup f16=some ⟨oc16,od16,.func (As "read_lines" "read_lines" (Zf Yo) (Z4 Yo) (Z1 Yo) .none kV16 dc16 pm16 an16 cd16 ct16),sl16⟩) (c16:Ar K cd16 "read_lines"=true) (k16:Ac K (.ref f16)=true)
  (a17:Ak K mainGlobals "refuse_lost_jumps"=some (some (.ref f17))) (l17:K.lookup f17=some ⟨oc17,od17,.func (As "refuse_lost_jumps" "refuse_lost_jumps" (Zf Zk) (Z4 Zk) (Z1 Zk) .none kV17 dc17 pm17 an17 cd17 ct17),sl17⟩) (c17:Ar K cd17 "refuse_lost_jumps"=true) (k17:Ac K (.ref f17)=true)
  (a18:Ak K mainGlobals "read"=some (some (.ref f18))) (l18:K.lookup f18=some ⟨oc18,od18,.func (As "read" "read" (Zf Re) (Z4 Re) (Z1 Re) .none kV18 dc18 pm18 an18 cd18 ct18),sl18⟩) (c18:Ar K cd18 "read"=true) (k18:Ac K (.ref f18)=true)
  (a19:Ak K mainGlobals "written_told"=some (some (.ref f19))) (l19:K.lookup f19=some ⟨oc19,od19,.func (As "written_told" "written_told" (Zf Y2) (Z4 Y2) (Z1 Y2) .none kV19 dc19 pm19 an19 cd19 ct19),sl19⟩) (c19:Ar K cd19 "written_told"=true) (k19:Ac K (.ref f19)=true)
  (a20:Ak K mainGlobals "written_row"=some (some (.ref f20))) (l20:K.lookup f20=some ⟨oc20,od20,.func (As "written_row" "written_row" (Zf Ye) (Z4 Ye) (Z1 Ye) .none kV20 dc20 pm20 an20 cd20 ct20),sl20⟩) (c20:Ar K cd20 "written_row"=true) (k20:Ac K (.ref f20)=true)
  (a21:Ak K mainGlobals "written"=some (some (.ref f21))) (l21:K.lookup f21=some ⟨oc21,od21,.func (As "written" "written" (Zf Xy) (Z4 Xy) (Z1 Xy) .none kV21 dc21 pm21 an21 cd21 ct21),sl21⟩) (c21:Ar K cd21 "written"=true) (k21:Ac K (.ref f21)=true)
  (a22:Ak K mainGlobals "_law_raw"=some (some (.ref f22))) (l22:K.lookup f22=some ⟨oc22,od22,.func (As "_law_raw" "_law_raw" (Zf Rg) (Z4 Rg) (Z1 Rg) .none kV22 dc22 pm22 an22 cd22 ct22),sl22⟩) (c22:Ar K cd22 "_law_raw"=true) (k22:Ac K (.ref f22)=true)
  (a23:Ak K mainGlobals "_law_mix"=some (some (.ref f23))) (l23:K.lookup f23=some ⟨oc23,od23,.func (As "_law_mix" "_law_mix" (Zf Ro) (Z4 Ro) (Z1 Ro) .none kV23 dc23 pm23 an23 cd23 ct23),sl23⟩) (c23:Ar K cd23 "_law_mix"=true) (k23:Ac K (.ref f23)=true)
  (a24:Ak K mainGlobals "_law_kept"=some (some (.ref f24))) (l24:K.lookup f24=some ⟨oc24,od24,.func (As "_law_kept" "_law_kept" (Zf Vt) (Z4 Vt) (Z1 Vt) .none kV24 dc24 pm24 an24 cd24 ct24),sl24⟩) (c24:Ar K cd24 "_law_kept"=true) (k24:Ac K (.ref f24)=true)
  (a25:Ak K mainGlobals "_law_sign"=some (some (.ref f25))) (l25:K.lookup f25=some ⟨oc25,od25,.func (As "_law_sign" "_law_sign" (Zf T7) (Z4 T7) (Z1 T7) .none kV25 dc25 pm25 an25 cd25 ct25),sl25⟩) (c25:Ar K cd25 "_law_sign"=true) (k25:Ac K (.ref f25)=true)
  (a26:Ak K mainGlobals "_law_word"=some (some (.ref f26))) (l26:K.lookup f26=some ⟨oc26,od26,.func (As "_law_word" "_law_word" (Zf T9) (Z4 T9) (Z1 T9) .none kV26 dc26 pm26 an26 cd26 ct26),sl26⟩) (c26:Ar K cd26 "_law_word"=true) (k26:Ac K (.ref f26)=true)
  (a27:Ak K mainGlobals "_law_names"=some (some (.ref f27))) (l27:K.lookup f27=some ⟨oc27,od27,.func (As "_law_names" "_law_names" (Zf Ws) (Z4 Ws) (Z1 Ws) .none kV27 dc27 pm27 an27 cd27 ct27),sl27⟩) (c27:Ar K cd27 "_law_names"=true) (k27:Ac K (.ref f27)=true)
  (a28:Ak K mainGlobals "_law_operand"=some (some (.ref f28))) (l28:K.lookup f28=some ⟨oc28,od28,.func (As "_law_operand" "_law_operand" (Zf Xg) (Z4 Xg) (Z1 Xg) .none kV28 dc28 pm28 an28 cd28 ct28),sl28⟩) (c28:Ar K cd28 "_law_operand"=true) (k28:Ac K (.ref f28)=true)
  (a29:Ak K mainGlobals "_law_numbers"=some (some (.ref f29))) (l29:K.lookup f29=some ⟨oc29,od29,.func (As "_law_numbers" "_law_numbers" (Zf Xd) (Z4 Xd) (Z1 Xd) .none kV29 dc29 pm29 an29 cd29 ct29),sl29⟩) (c29:Ar K cd29 "_law_numbers"=true) (k29:Ac K (.ref f29)=true)
  (a30:Ak K mainGlobals "_law_row"=some (some (.ref f30))) (l30:K.lookup f30=some ⟨oc30,od30,.func (As "_law_row" "_law_row" (Zf Rs) (Z4 Rs) (Z1 Rs) .none kV30 dc30 pm30 an30 cd30 ct30),sl30⟩) (c30:Ar K cd30 "_law_row"=true) (k30:Ac K (.ref f30)=true)
  (a31:Ak K mainGlobals "_law_rows"=some (some (.ref f31))) (l31:K.lookup f31=some ⟨oc31,od31,.func (As "_law_rows" "_law_rows" (Zf Vq) (Z4 Vq) (Z1 Vq) .none kV31 dc31 pm31 an31 cd31 ct31),sl31⟩) (c31:Ar K cd31 "_law_rows"=true) (k31:Ac K (.ref f31)=true)
  (a32:Ak K mainGlobals "_law_line"=some (some (.ref f32))) (l32:K.lookup f32=some ⟨oc32,od32,.func (As "_law_line" "_law_line" (Zf Vz) (Z4 Vz) (Z1 Vz) .none kV32 dc32 pm32 an32 cd32 ct32),sl32⟩) (c32:Ar K cd32 "_law_line"=true) (k32:Ac K (.ref f32)=true)
  (a33:Ak K mainGlobals "_law_alike"=some (some (.ref f33))) (l33:K.lookup f33=some ⟨oc33,od33,.func (As "_law_alike" "_law_alike" (Zf Wi) (Z4 Wi) (Z1 Wi) .none kV33 dc33 pm33 an33 cd33 ct33),sl33⟩) (c33:Ar K cd33 "_law_alike"=true) (k33:Ac K (.ref f33)=true)
  (a34:Ak K mainGlobals "_law_many"=some (some (.ref f34))) (l34:K.lookup f34=some ⟨oc34,od34,.func (As "_law_many" "_law_many" (Zf T0) (Z4 T0) (Z1 T0) .none kV34 dc34 pm34 an34 cd34 ct34),sl34⟩) (c34:Ar K cd34 "_law_many"=true) (k34:Ac K (.ref f34)=true)
  (a35:Ak K mainGlobals "_law_due"=some (some (.ref f35))) (l35:K.lookup f35=some ⟨oc35,od35,.func (As "_law_due" "_law_due" (Zf Rb) (Z4 Rb) (Z1 Rb) .none kV35 dc35 pm35 an35 cd35 ct35),sl35⟩) (c35:Ar K cd35 "_law_due"=true) (k35:Ac K (.ref f35)=true)
  (a36:Ak K mainGlobals "_law_told"=some (some (.ref f36))) (l36:K.lookup f36=some ⟨oc36,od36,.func (As "_law_told" "_law_told" (Zf Vn) (Z4 Vn) (Z1 Vn) .none kV36 dc36 pm36 an36 cd36 ct36),sl36⟩) (c36:Ar K cd36 "_law_told"=true) (k36:Ac K (.ref f36)=true)
  (a37:Ak K mainGlobals "_law_goals"=some (some (.ref f37))) (l37:K.lookup f37=some ⟨oc37,od37,.func (As "_law_goals" "_law_goals" (Zf Wt) (Z4 Wt) (Z1 Wt) .none kV37 dc37 pm37 an37 cd37 ct37),sl37⟩) (c37:Ar K cd37 "_law_goals"=true) (k37:Ac K (.ref f37)=true)
  (a38:Ak K mainGlobals "law"=some (some (.ref f38))) (l38:K.lookup f38=some ⟨oc38,od38,.func (As "law" "law" (Zf Gn) (Z4 Gn) (Z1 Gn) .none kV38 dc38 pm38 an38 cd38 ct38),sl38⟩) (c38:Ar K cd38 "law"=true) (k38:Ac K (.ref f38)=true)
  (z0:Ak K mainGlobals "all"=some none) (z1:Ak K mainGlobals "len"=some none) (z2:Ak K mainGlobals "int"=some none) (z3:Ak K mainGlobals "zip"=some none) (z4:Ak K mainGlobals "dict"=some none) (z5:Ak K mainGlobals "enumerate"=some none) (z6:Ak K mainGlobals "range"=some none) (z7:Ak K mainGlobals "min"=some none) (z8:Ak K mainGlobals "str"=some none) (z9:Ak K mainGlobals "isinstance"=some none) (z10:Ak K mainGlobals "tuple"=some none) (z11:Ak K mainGlobals "list"=some none) (z12:Ak K mainGlobals "bool"=some none) (z13:Ak K mainGlobals "max"=some none)
  {ta0:Addr} {tn0:Nat} {tt0_0 tt0_1 tt0_2 tt0_3 tt0_4 tt0_5 tt0_6 tt0_7 tt0_8 tt0_9:Tok} {to0:Option Addr} {tl0:Array (Option Value)} (u0:Ak K mainGlobals "KEPT"=some (some (.ref ta0))) (v0:K.lookup ta0=some ⟨.type "tuple",to0,.seq #[.str "if" tt0_0,.str "jump" tt0_1,.str "end" tt0_2,.str "rest" tt0_3,.str "round" tt0_4,.str "part" tt0_5,.str "leave" tt0_6,.str "again" tt0_7,.str "else" tt0_8,.str "done" tt0_9] tn0,tl0⟩)
  {ta1:Addr} {tn1:Nat} {tt1_0 tt1_1 tt1_2 tt1_3 tt1_4 tt1_5:Tok} {to1:Option Addr} {tl1:Array (Option Value)} (u1:Ak K mainGlobals "SIGNS_OF_SUMS"=some (some (.ref ta1))) (v1:K.lookup ta1=some ⟨.type "tuple",to1,.seq #[.str "+" tt1_0,.str "-" tt1_1,.str "/" tt1_2,.str "rest" tt1_3,.str "&" tt1_4,.str "^" tt1_5] tn1,tl1⟩)
  {ta2:Addr} {tn2:Nat} {tt2_0 tt2_1:Tok} {to2:Option Addr} {tl2:Array (Option Value)} (u2:Ak K mainGlobals "SIGNS_OF_TESTS"=some (some (.ref ta2))) (v2:K.lookup ta2=some ⟨.type "tuple",to2,.seq #[.str "<" tt2_0,.str "=" tt2_1] tn2,tl2⟩)
  {tq0:Tok} (q0:Ak K mainGlobals "MOST_SIGNS_OF_NAME"=some (some (.int 8 tq0)))
  {tq1:Tok} (q1:Ak K mainGlobals "MOST_FIGURES_OF_NUMBER"=some (some (.int 4 tq1)))
  {tq2:Tok} (q2:Ak K mainGlobals "MOST_FIGURES_OF_OPERAND"=some (some (.int 18 tq2)))
  {tq3:Tok} (q3:Ak K mainGlobals "MOST_ROWS_OF_TEXT"=some (some (.int 80 tq3)))
  {ts0:Tok} (qs0:Ak K mainGlobals "LETTERS"=some (some (.str "abcdefghijklmnopqrstuvwxyz" ts0)))
  {ts1:Tok} (qs1:Ak K mainGlobals "FIGURES"=some (some (.str "0123456789" ts1)))
  :∃t:Adr,Tx K mg t∧t.a_law=f38∧∀(s:Shared) (v:Value),BindsTo s t.d_law ⟨[v],[]⟩ [("_law_script",v)]:=by
 have F0:=Zs (st:=Yr) l0 c0 k0
 have F1:=Zs (st:=Xx) l1 c1 k1
 have F2:=Zs (st:=Yd) l2 c2 k2
 have F3:=Zs (st:=Yg) l3 c3 k3
 have F4:=Zs (st:=Zm) l4 c4 k4
 have F5:=Zs (st:=Yp) l5 c5 k5
 have F6:=Zs (st:=Y5) l6 c6 k6
 have F7:=Zs (st:=Ys) l7 c7 k7
 have F8:=Zs (st:=Xe) l8 c8 k8
 have F9:=Zs (st:=X2) l9 c9 k9
 have F10:=Zs (st:=Yi) l10 c10 k10
 have F11:=Zs (st:=Y3) l11 c11 k11
 have F12:=Zs (st:=X0) l12 c12 k12
 have F13:=Zs (st:=Zx) l13 c13 k13
 have F14:=Zs (st:=X1) l14 c14 k14
 have F15:=Zs (st:=Xh) l15 c15 k15
 have F16:=Zs (st:=Yo) l16 c16 k16
 have F17:=Zs (st:=Zk) l17 c17 k17
 have F18:=Zs (st:=Re) l18 c18 k18
 have F19:=Zs (st:=Y2) l19 c19 k19
 have F20:=Zs (st:=Ye) l20 c20 k20
 have F21:=Zs (st:=Xy) l21 c21 k21
 have F22:=Zs (st:=Rg) l22 c22 k22
 have F23:=Zs (st:=Ro) l23 c23 k23
 have F24:=Zs (st:=Vt) l24 c24 k24
 have F25:=Zs (st:=T7) l25 c25 k25
 have F26:=Zs (st:=T9) l26 c26 k26
 have F27:=Zs (st:=Ws) l27 c27 k27
 have F28:=Zs (st:=Xg) l28 c28 k28
 have F29:=Zs (st:=Xd) l29 c29 k29
 have F30:=Zs (st:=Rs) l30 c30 k30
 have F31:=Zs (st:=Vq) l31 c31 k31
 have F32:=Zs (st:=Vz) l32 c32 k32
 have F33:=Zs (st:=Wi) l33 c33 k33
 have F34:=Zs (st:=T0) l34 c34 k34
 have F35:=Zs (st:=Rb) l35 c35 k35
 have F36:=Zs (st:=Vn) l36 c36 k36
 have F37:=Zs (st:=Wt) l37 c37 k37
 have F38:=Zs (st:=Gn) l38 c38 k38
 exact⟨⟨f0,_,f1,_,f2,_,f3,_,f4,_,f5,_,f6,_,f7,_,f8,_,f9,_,f10,_,f11,_,f12,_,f13,_,f14,_,f15,_,f16,_,f17,_,f18,_,f19,_,f20,_,f21,_,f22,_,f23,_,f24,_,f25,_,f26,_,f27,_,f28,_,f29,_,f30,_,f31,_,f32,_,f33,_,f34,_,f35,_,f36,_,f37,_,f38,_⟩,⟨F0,Ao X G a0,k0,.all (Wq (fun _ _=>rfl)),
  F1,Ao X G a1,k1,.all (X6 (fun _=>rfl)),
  F2,Ao X G a2,k2,.all (Wq (fun _ _=>rfl)),
  F3,Ao X G a3,k3,.all (X6 (fun _=>rfl)),
  F4,Ao X G a4,k4,.all (X6 (fun _=>rfl)),
  F5,Ao X G a5,k5,.all (X6 (fun _=>rfl)),
  F6,Ao X G a6,k6,.all (X6 (fun _=>rfl)),
  F7,Ao X G a7,k7,.all (Wq (fun _ _=>rfl)),
  F8,Ao X G a8,k8,.all (X6 (fun _=>rfl)),
  F9,Ao X G a9,k9,.all (X6 (fun _=>rfl)),
  F10,Ao X G a10,k10,.all (Zc9 (fun _ _ _ _=>rfl)),
  F11,Ao X G a11,k11,.all (Zo5 (fun _ _ _=>rfl)),
  F12,Ao X G a12,k12,.all (X6 (fun _=>rfl)),
  F13,Ao X G a13,k13,.all (X6 (fun _=>rfl)),
  F14,Ao X G a14,k14,.all (X6 (fun _=>rfl)),
  F15,Ao X G a15,k15,.all (X6 (fun _=>rfl)),
  F16,Ao X G a16,k16,.all (Wq (fun _ _=>rfl)),
  F17,Ao X G a17,k17,.all (Wq (fun _ _=>rfl)),
  F18,Ao X G a18,k18,.all (X6 (fun _=>rfl)),
  F19,Ao X G a19,k19,.all (X6 (fun _=>rfl)),
  F20,Ao X G a20,k20,.all (X6 (fun _=>rfl)),
  F21,Ao X G a21,k21,.all (X6 (fun _=>rfl)),
  F22,Ao X G a22,k22,.all (Wq (fun _ _=>rfl)),
  F23,Ao X G a23,k23,.all (Wq (fun _ _=>rfl)),
  F24,Ao X G a24,k24,.all (Zo1 rfl),
  F25,Ao X G a25,k25,.all (Wq (fun _ _=>rfl)),
  F26,Ao X G a26,k26,.all (Wq (fun _ _=>rfl)),
  F27,Ao X G a27,k27,.all (X6 (fun _=>rfl)),
  F28,Ao X G a28,k28,.all (Zc9 (fun _ _ _ _=>rfl)),
  F29,Ao X G a29,k29,.all (Wq (fun _ _=>rfl)),
  F30,Ao X G a30,k30,.all (Zc9 (fun _ _ _ _=>rfl)),
  F31,Ao X G a31,k31,.all (Wq (fun _ _=>rfl)),
  F32,Ao X G a32,k32,.all (X6 (fun _=>rfl)),
  F33,Ao X G a33,k33,.all (Wq (fun _ _=>rfl)),
  F34,Ao X G a34,k34,.all (X6 (fun _=>rfl)),
  F35,Ao X G a35,k35,.all (X6 (fun _=>rfl)),
  F36,Ao X G a36,k36,.all (Wq (fun _ _=>rfl)),
  F37,Ao X G a37,k37,.all (X6 (fun _=>rfl)),
  F38,Ao X G a38,k38,.all (X6 (fun _=>rfl)),
  Ds X G z0,
  Ds X G z1,
  Ds X G z2,
  Ds X G z3,
  Ds X G z4,
  Ds X G z5,
  Ds X G z6,
  Ds X G z7,
  Ds X G z8,
  Ds X G z9,
  Ds X G z10,
  Ds X G z11,
  Ds X G z12,
  Ds X G z13,
  ⟨_,Ao X G u0,_,_,_,v0,rfl,rfl,show 10≤sizeLine by decide,.cons ⟨_,rfl⟩ (.cons ⟨_,rfl⟩ (.cons ⟨_,rfl⟩ (.cons ⟨_,rfl⟩ (.cons ⟨_,rfl⟩ (.cons ⟨_,rfl⟩ (.cons ⟨_,rfl⟩ (.cons ⟨_,rfl⟩ (.cons ⟨_,rfl⟩ (.cons ⟨_,rfl⟩ (.nil))))))))))⟩,
  ⟨_,Ao X G u1,_,_,_,v1,rfl,rfl,show 6≤sizeLine by decide,.cons ⟨_,rfl⟩ (.cons ⟨_,rfl⟩ (.cons ⟨_,rfl⟩ (.cons ⟨_,rfl⟩ (.cons ⟨_,rfl⟩ (.cons ⟨_,rfl⟩ (.nil))))))⟩,
  ⟨_,Ao X G u2,_,_,_,v2,rfl,rfl,show 2≤sizeLine by decide,.cons ⟨_,rfl⟩ (.cons ⟨_,rfl⟩ (.nil))⟩,
  ⟨_,Ao X G q0⟩,
  ⟨_,Ao X G q1⟩,
  ⟨_,Ao X G q2⟩,
  ⟨_,Ao X G q3⟩,
  ⟨_,Ao X G qs0⟩,
  ⟨_,Ao X G qs1⟩⟩,rfl,fun s v=> .of_eq rfl⟩
set_option hygiene false
local macro_rules | `(tactic| walk_at "ev")=>do
 let ids:=("tss ts te tes teo tit tcd tbop tt op_add_i op_add_s op_add_t op_add_l op_sub_i op_mul_i op_mul_l op_fdiv_i op_mod_i op_pow_i cm_lt_i cm_le_i cm_gt_i cm_eq cm_ne cm_in cm_notin cm_is_n cm_is_i cm_is_s cm_is_b cm_is_t cm_is_r eq_i eq_s eq_b eq_nn eq_is eq_si tru_b tru_i tru_n tru_t ix_t ix_g ix_s sl_s sl_t sl_l is_non is_bl is_int is_str is_tup tyNon tyBl tyInt tyStr tyTup tyLst tyDct bf_len_t bf_len_s bf_is bf_min bf_max bf_list bf_dict bf_int on_ref set_f mt_popi_r mk_popi mt_insi_r mk_insi ati0 ati1 ati2 Option.some.injEq exists_eq_left' ofS_inj String.reduceEq bf_strS bf_intT mt_split_s mt_join_s mt_starts_s mt_ends_s mk_split mk_join mk_starts mk_ends it_str onIS_i onIS_s bf_str mt_append_r mk_append tg_one tg_two it_r it_t it_g key_i key_s in_ss start0 List.map_cons List.map_nil List.length_cons List.length_nil List.cons_append List.nil_append List.append_nil List.replicate List.set_cons_zero List.set_cons_succ List.getElem?_cons_zero List.getElem?_cons_succ Nat.reduceAdd Nat.reduceSub Nat.sub_self Nat.zero_add decide_eq_true_eq ne_eq Int.reduceEq not_false_eq_true true_and Bool.not_eq_true' decide_eq_false_iff_not Bool.false_eq_true if_true if_false Bool.not_true Bool.not_false".splitOn " ").toArray.map fun s=>Lean.mkIdent s.toName
 `(tactic| first | (dsimp only[$[$ids:ident],*];try simp only[$[$ids:ident],*]) | simp only[$[$ids:ident],*])
structure Ks(F:Nat→Prop)(M M':Z2):Prop where
 at':∀a,¬F a→a<M.length→M'[a]?=M[a]?
 len:M.length≤M'.length
abbrev Kp:Z2→Z2→Prop:=Ks fun _=>False
theorem Ks.refl{F:Nat→Prop}(M:Z2):Ks F M M:=⟨fun _ _ _=>rfl,Nat.le_refl _⟩
theorem Ks.trans{F:Nat→Prop}{M M' M2:Z2}(h:Ks F M M')(g:Ks F M' M2):Ks F M M2:=⟨fun a n l=>(g.at' a n (Nat.lt_of_lt_of_le l h.len)).trans (h.at' a n l),Nat.le_trans h.len g.len⟩
theorem Ks.app{F:Nat→Prop}{M M':Z2}(h:Ks F M M')(N:Z2):Ks F M (M'++N):=⟨fun a n l=>by rw[Dj (Nat.lt_of_lt_of_le l h.len)];exact h.at' a n l,Nat.le_trans h.len (by rw[Ay];omega)⟩
theorem Ks.new{F:Nat→Prop}(M N:Z2):Ks F M (M++N):=(Ks.refl M).app N
theorem Ks.set{F:Nat→Prop}{M M':Z2}(h:Ks F M M'){a:Nat}{c:Cell}(ha:F a∨M.length≤a):Ks F M (M'.set a c):=⟨fun b n l=>by
 have:a≠b:=by
  rintro rfl
  rcases ha with z | z
  ·exact n z
  ·omega
 rw[Ht this];exact h.at' b n l,by rw[Iw];exact h.len⟩
theorem Xv{M:Z2}{n:Nat}{xs:List D}(h:Zd M n=some xs):n<M.length:=by
 unfold Zd at h
 rcases Nat.lt_or_ge n M.length with l | l
 ·exact l
 ·rw[Dr l] at h
  cases h
theorem Ks.L{F:Nat→Prop}{M M':Z2}{a:Nat}{xs:List D}(h:Ks F M M')(n:¬F a)(e:Zd M a=some xs):Zd M' a=some xs:=by
 unfold Zd at e ⊢
 rw[h.at' a n (Xv (M:=M) (xs:=xs) e)];exact e
theorem Ks.W{F:Nat→Prop}{M M':Z2}{a:Nat}{xs:List D}(h:Ks F M M')(n:¬F a)(e:Zo M a=some xs):Zo M' a=some xs:=by
 have l:=Xv (Z3 e)
 unfold Zo at e ⊢
 rw[h.at' a n l];exact e
theorem Ks.pL{M M':Z2}{a:Nat}{xs:List D}(h:Kp M M')(e:Zd M a=some xs):Zd M' a=some xs:=h.L (fun z=>z) e
theorem Ks.pW{M M':Z2}{a:Nat}{xs:List D}(h:Kp M M')(e:Zo M a=some xs):Zo M' a=some xs:=h.W (fun z=>z) e
theorem Ym{M:Z2}{n:Nat}{xs:List D}(h:n<M.length):Zo (M.set n (.lst xs)) n=some xs:=by
 unfold Zo
 rw[Ii h]
theorem qm{i j:Int}(h:0<j):qmod i j=i % j:=Zf1 h
theorem qd{i j:Int}(h:0<j):qdiv i j=i / j:=Zh2 h
theorem Y08{xs:List D}{i:Int}{d:D}(h0:0≤i)(h:xs[i.toNat]?=some d):atI xs i=some d:=by
 have:=Yv h
 rwa[Kg h0] at this
theorem Ya5{xs:List D}{i:Int}(h0:0≤i)(h:i<xs.length):∃d,atI xs i=some d∧d∈xs:=by
 have hl:i.toNat<xs.length:=by omega
 exact⟨xs[i.toNat],Y08 h0 (Ag hl),Go hl⟩
theorem ix_m{M:Z2}{n:Nat}{xs:List D}{i m:Int}{F:D→Prop}(h:Zd M n=some xs)(hm:m=xs.length)(h0:0<xs.length)(q:∀d,d∈xs→F d):ixD M (.ref n) (.int (qmod i m)) F:=by
 subst hm
 rw[qm (by omega)]
 obtain⟨d,e1,e2⟩:=Ya5 (xs:=xs) (Kd i (b:=(xs.length:Int)) (by omega)) (Ka i (by omega))
 exact Vk h e1 (q d e2)
theorem Y15{z:Str}{i m:Int}{F:D→Prop}(hm:m=z.length)(h0:0<z.length)(hz:z.length≤1000)(q:∀c∈Tt.L z,F (.str ⟨#[c]⟩)):z.length≤sizeLine∧∃c,atI z.cps.toList (qmod i m)=some c∧F (.str ⟨#[c]⟩):=by
 subst hm
 rw[qm (by omega)]
 have h1:=Kd i (b:=(z.length:Int)) (by omega)
 have h2:=Ka i (b:=(z.length:Int)) (by omega)
 have hl:(i % (z.length:Int)).toNat<z.cps.toList.length:=by rw[Db];show _<z.length;omega
 refine⟨Z0 (by omega),z.cps.toList[(i % (z.length:Int)).toNat],?_,q _ (Go hl)⟩
 have:=Yv (Ag hl)
 rwa[Kg h1] at this
theorem Z5(a b:Str):(a++b).length=a.length+b.length:=by
 show(a.cps++b.cps).size=_
 rw[Array.size_append];rfl
def Scr(M:Z2)(a:Nat):Prop:=∃ns:List Int,Zd M a=some (ns.map .int)∧ns.length≤63
theorem Scr.ks{F:Nat→Prop}{M M':Z2}{a:Nat}(h:Scr M a)(k:Ks F M M')(n:¬F a):Scr M' a:=by obtain⟨ns,e,l⟩:=h;exact⟨ns,k.L n e,l⟩
def Wv:DSp:=fun ds M Q _=>∃(a k:Nat),ds=[.ref a,.int k]∧Scr M a∧∀v,Q (.int v) M
def Wg:DSp:=fun ds M Q _=>∃(a k:Nat),ds=[.ref a,.int k]∧Scr M a∧k≤1000∧∀v:Nat,v<2147483647→Q (.int v) M
noncomputable def kept:List Str:=["if","jump","end","rest","round","part","leave","again","else","done"]
def Xf:DSp:=fun ds M Q _=>ds=[]∧Q (.ref M.length) (M++[.lst (kept.map D.str)])
def Lc(c:Nat):Prop:=97≤c∧c≤122
def Wc(c:Nat):Prop:=Lc c∨(48≤c∧c≤57)
noncomputable instance(c:Nat):Decidable (Lc c):=inferInstanceAs (Decidable (_∧_))
noncomputable instance(c:Nat):Decidable (Wc c):=inferInstanceAs (Decidable (_∨_))
def Wrd(x:Str):Prop:=(∀c∈Tt.L x,Wc c)∧∀c,(Tt.L x).head?=some c→Lc c
def Nam(x:Str):Prop:=Wrd x∧1≤x.length∧x.length≤8∧x∉kept
theorem L1(c:Nat):Tt.L ⟨#[c]⟩=[c]:=rfl
theorem Wrd.app{x y:Str}(h:Wrd x)(hl:0<x.length)(hy:∀c∈Tt.L y,Wc c):Wrd (x++y):=by
 have e:=Tt.L_app x y
 have hl':=Tt.L_len x
 cases hx:Tt.L x with
 | nil=>rw[hx] at hl';simp at hl';omega
 | cons a r=>
  refine⟨fun c hc=>?_,fun c hc=>?_⟩
  ·rw[e,Dd] at hc
   exact hc.elim (h.1 c) (hy c)
  ·rw[e,hx] at hc
   exact h.2 c (by rw[hx];exact hc)
theorem Wrd.one{c:Nat}(h:Lc c):Wrd ⟨#[c]⟩:=⟨fun d hd=>by rw[L1,Bk] at hd;rw[hd];exact .inl h,fun d hd=>by rw[L1] at hd;cases hd;exact h⟩
theorem Wrd.nil:Wrd ("":Str):=⟨fun c hc=>by(have e:Tt.L ("":Str)=[]:=rfl);rw[e] at hc;simp at hc,fun c hc=>by(have e:Tt.L ("":Str)=[]:=rfl);rw[e] at hc;simp at hc⟩
def Xj:DSp:=fun ds M Q _=>∃(n:Int) (b:Bool),ds=[.int n,.bl b]∧∀c:Nat,Wc c→(b=true→Lc c)→Q (.str ⟨#[c]⟩) M
def W4:DSp:=fun ds M Q _=>∃(n:Int) (s:Nat),ds=[.int n,.int s]∧s≤8∧∀x:Str,x.length=s→Wrd x→Q (.str x) M
def Xa:DSp:=fun ds M Q _=>∃a:Nat,ds=[.ref a]∧Scr M a∧∀(l:List Str) M' r,l.length=5→(∀x∈l,Nam x)→Kp M M'→Zd M' r=some (l.map D.str)→Q (.ref r) M'
inductive Opd where
 | nm (x:Str) | no (i:Int)
noncomputable def Opd.d:Opd→D
 | .nm x=> .str x
 | .no i=> .int i
noncomputable def Opd.t:Opd→Str
 | .nm x=>x
 | .no i=>Str.ofString (toString i)
def Opd.ok:Opd→Prop
 | .nm x=>Nam x
 | .no i=> -1000000000000000000<i∧i<1000000000000000000
def Nms(M:Z2)(r:Nat):Prop:=∃l:List Str,l.length=5∧(∀x∈l,Nam x)∧Zd M r=some (l.map D.str)
theorem Nms.ks{F:Nat→Prop}{M M':Z2}{a:Nat}(h:Nms M a)(k:Ks F M M')(n:¬F a):Nms M' a:=by obtain⟨ns,l,o,e⟩:=h;exact⟨ns,l,o,k.L n e⟩
def Yh:DSp:=fun ds M Q _=>∃(a k r n:Nat),ds=[.ref a,.int k,.ref r,.int n]∧Scr M a∧Nms M r∧∀o:Opd,o.ok→Q o.d M
section
variable{K:Ae}
theorem Y63{Γ G}:∀ds M Q Z,Wv ds M Q Z→tss ⟨K,Γ,G⟩ noX b_Lraw {nx:=fun _ M=>Q .non M,rt:=Q} (start0 Cn ds) M:=by
 rintro ds M Q Z ⟨a,k,rfl,⟨ns,hm,hl⟩,q⟩
 delta b_Lraw Cn
 walk_at "ev"
 refine Y1 hm ?_
 walk_at "ev"
 split
 ·exact q _
 ·rename_i h
  delta C3
  walk_at "ev"
  refine Y1 hm ⟨by omega,ix_m hm rfl (by omega) fun d hd=>?_⟩
  obtain⟨v,_,rfl⟩:=Dg.mp hd
  exact q v
theorem mixR{M:Z2}{Q:DK}{v:Int}(q:∀v:Nat,v<2147483647→Q (.int v) M):Q (.int (qmod v 2147483647)) M:=by
 rw[qm (by decide)]
 have h1:=Kd v (show(2147483647:Int)≠0 by decide)
 have h2:=Ka v (show(0:Int)<2147483647 by decide)
 have:=q (v % 2147483647).toNat (by omega)
 rwa[Kg h1] at this
theorem Y65{Γ G}(g:Γ[22]?=some Wv):∀ds M Q Z,Wg ds M Q Z→tss ⟨K,Γ,G⟩ noX b_Lmix {nx:=fun _ M=>Q .non M,rt:=Q} (start0 Cs ds) M:=by
 rintro ds M Q Z ⟨a,k,rfl,hs,hk,q⟩
 obtain⟨ns,hm,hl⟩:=id hs
 delta b_Lmix Cs
 walk_at "ev"
 refine Y1 hm ?_
 walk_at "ev"
 split
 ·exact⟨mulR (by omega) (by omega),mulR (by decide) (by decide),mixR q⟩
 ·rename_i h
  delta B7
  walk_at "ev"
  have hp:(0:Int)< (ns.map D.int).length:=by omega
  refine Y1 hm ⟨Zr hp (by rw[Ah];omega),?_⟩
  rw[qd hp]
  have d1:0≤(k:Int) / (ns.map D.int).length:=Int.ediv_nonneg (by omega) (by omega)
  have d2:(k:Int) / (ns.map D.int).length≤k:=Int.ediv_le_self _ (by omega)
  simp only[g]
  refine⟨a,k,rfl,hs,fun v=>?_⟩
  walk_at "ev"
  refine⟨mulL (by decide) (by decide),mulR (by omega) (by omega),mulR ?_ ?_,mixR q⟩
  ·have:0≤7 * ((k:Int) / (ns.map D.int).length) * ((k:Int) / (ns.map D.int).length):=Int.mul_nonneg (by omega) d1
   omega
  ·have:7 * ((k:Int) / (ns.map D.int).length) * ((k:Int) / (ns.map D.int).length)≤7000 * 1000:=Int.mul_le_mul (by omega) (by omega) d1 (by decide)
   omega
theorem Zu7{Γ G}:∀ds M Q Z,Xf ds M Q Z→tss ⟨K,Γ,G⟩ noX b_Lkept {nx:=fun _ M=>Q .non M,rt:=Q} (start0 Ny ds) M:=by
 rintro ds M Q Z ⟨rfl,q⟩
 delta b_Lkept Ny
 walk_at "ev"
 exact⟨Z0 (by decide),q⟩
theorem Zr0{Γ G}:∀ds M Q Z,Xj ds M Q Z→tss ⟨K,Γ,G⟩ noX b_Lsign {nx:=fun _ M=>Q .non M,rt:=Q} (start0 N7 ds) M:=by
 rintro ds M Q Z ⟨n,b,rfl,q⟩
 delta b_Lsign N7
 walk_at "ev"
 split
 ·have h:∀c∈Tt.L "abcdefghijklmnopqrstuvwxyz",Lc c:=by decide+kernel
  refine Y15 (F:=fun d=>Q d M) (z:="abcdefghijklmnopqrstuvwxyz") ?_ ?_ ?_ (fun c hc=>q c (.inl (h c hc)) fun _=>h c hc)<;>decide+kernel
 ·rename_i hb
  delta G0
  walk_at "ev"
  have h:∀c∈Tt.L "abcdefghijklmnopqrstuvwxyz0123456789",Wc c:=by decide+kernel
  refine Y15 (F:=fun d=>Q d M) (z:="abcdefghijklmnopqrstuvwxyz0123456789") ?_ ?_ ?_ (fun c hc=>q c (h c hc) fun e=>absurd e hb)<;>decide+kernel
theorem Zz9{Γ G}(g:Γ[25]?=some Xj):∀ds M Q Z,W4 ds M Q Z→tss ⟨K,Γ,G⟩ noX b_Lword {nx:=fun _ M=>Q .non M,rt:=Q} (start0 Om ds) M:=by
 rintro ds M Q Z ⟨n,s,rfl,hs,q⟩
 delta b_Lword Om
 walk_at "ev"
 refine⟨by omega,by omega,?_⟩
 rw[Dl]
 refine Ov (fun i σ M'=>∃(n:Int) (x:Str) (d:Option D),σ=[some (.int n),some (.int s),some (.str x),d]∧M'=M∧x.length=i∧Wrd x) ⟨n,_,none,rfl,rfl,rfl,Wrd.nil⟩ ?_ ?_
 ·rintro i σ M' C hi ⟨n,x,d,rfl,rfl,hx,hw⟩ hC
  delta G7
  walk_at "ev"
  refine⟨mulR (by decide) (by decide),Zr (by decide) (by decide),?_⟩
  simp only[g]
  refine⟨_,_,rfl,fun c hc h0=>?_⟩
  walk_at "ev"
  have l1:(⟨#[c]⟩:Str).length=1:=rfl
  refine⟨Z0 (by omega),hC _ _ ⟨_,_,_,rfl,rfl,by rw[Z5,hx,l1],?_⟩⟩
  rcases Nat.eq_zero_or_pos i with z | z
  ·have e:x++⟨#[c]⟩=(⟨#[c]⟩:Str):=Tt.L_ext (by rw[Tt.L_app,show Tt.L x=[] from List.eq_nil_of_length_eq_zero (by rw[Tt.L_len];omega)];rfl)
   rw[e]
   exact Wrd.one (h0 (by simp;omega))
  ·exact hw.app (by omega) fun d hd=>by rw[L1,Bk] at hd;rw[hd];exact hc
 ·rintro σ M' ⟨n,x,d,rfl,rfl,hx,hw⟩
  delta Gb
  walk_at "ev"
  exact q x hx hw
end
section
variable{K:Ae}
theorem Zd9(x:Str){i:Int}(h:0≤i):(Hy x (some i) none).length≤x.length:=by
 rcases Int.lt_or_le i x.length with l | l
 ·have:=(fact_slice_sn x i).1 h (by omega)
  omega
 ·have:=(fact_slice_sn x i).2 l
  omega
theorem Y92(x:Str){i:Int}(h:0≤i):(Hy x none (some i)).length≤x.length:=by
 rcases Int.lt_or_le i x.length with l | l
 ·have:=(fact_slice_ns x i).1 h (by omega)
  omega
 ·have:=(fact_slice_ns x i).2 l
  omega
theorem Qh(l:List Str):(l.map D.str).all Xc=true:=by
 rw[Dk]
 intro d h
 obtain⟨x,_,rfl⟩:=Dg.mp h
 rfl
theorem E4(x:Str)(l:List Str):inD (.str x) (l.map D.str)=true↔x∈l:=by
 unfold inD
 rw[List.any_map,Kj]
 constructor
 ·rintro⟨y,hy,e⟩
  have:y=x:=by simpa[eqF] using e
  rwa[←this]
 ·intro h
  exact⟨x,h,by simp[eqF]⟩
theorem Ya8{x:Str}(h:Wrd x)(h1:1≤x.length)(h8:x.length≤8):Nam (("q":Str)++Hy x (some ((1:Nat):Int)) none):=by
 have e:Tt.L (("q":Str)++Hy x (some ((1:Nat):Int)) none)=113::(Tt.L x).drop 1:=by
  rw[Tt.L_app,Tt.L_from x h1];rfl
 refine⟨⟨fun c hc=>?_,fun c hc=>?_⟩,?_,?_,fun hk=>?_⟩
 ·rw[e,Am] at hc
  exact hc.elim (fun z=>by rw[z];decide) fun z=>h.1 c (List.mem_of_mem_drop z)
 ·rw[e] at hc;cases hc;decide
 ·rw[←Tt.L_len,e];simp
 ·rw[←Tt.L_len,e,Dc,Lg,Tt.L_len];omega
 ·have:∀y∈kept,(Tt.L y).head?≠some 113:=by decide+kernel
  exact this _ hk (by rw[e];rfl)
theorem Zs0{x:Str}{t c:Nat}(h:Wrd x)(ht:t<x.length)(hc:Wc c)(h0:t=0→Lc c):Wrd (Hy x none (some (t:Int))++⟨#[c]⟩++Hy x (some ((t+1:Nat):Int)) none)∧(Hy x none (some (t:Int))++⟨#[c]⟩++Hy x (some ((t+1:Nat):Int)) none).length=x.length:=by
 have e:Tt.L (Hy x none (some (t:Int))++⟨#[c]⟩++Hy x (some ((t+1:Nat):Int)) none)=(Tt.L x).take t++c::(Tt.L x).drop (t+1):=by
  rw[Tt.L_app,Tt.L_app,Tt.L_to x (by omega),Tt.L_from x (by omega),Hd];rfl
 have hl:=Tt.L_len x
 refine⟨⟨fun d hd=>?_,fun d hd=>?_⟩,?_⟩
 ·rw[e,Dd,Am] at hd
  rcases hd with z | z | z
  ·exact h.1 d (List.mem_of_mem_take z)
  ·rw[z];exact hc
  ·exact h.1 d (List.mem_of_mem_drop z)
 ·rw[e] at hd
  cases t with
  | zero=>cases hd;exact h0 rfl
  | succ t=>
   cases hx:Tt.L x with
   | nil=>rw[hx] at hl;simp at hl;omega
   | cons a r=>rw[hx] at hd;exact h.2 d (by rw[hx];exact hd)
 ·rw[←Tt.L_len,e,Ay,Dc,Ie,Lg,hl];omega
def NmI(a:Nat)(M:Z2)(f:Nat)(stem:Str)(t:Nat)(i:Nat)(w:Option D)(σ:DEnv)(M':Z2):Prop:=∃(l:List Str) (d5 d6:Option D),σ=[some (.ref a),some (.int f),some (.str stem),some (.int t),some (.ref M.length),d5,d6,w]∧Kp M M'∧Zo M' M.length=some (l.map D.str)∧l.length=i∧∀x∈l,Nam x
theorem nm_2{Γ G}{P:DEnds}{a f t i:Nat}{M M':Z2}{stem x:Str}{l:List Str}{d5 d6:Option D}(hx:Nam x)(k:Kp M M')(e:Zo M' M.length=some (l.map D.str))(hl:l.length=i)(hn:∀x∈l,Nam x)(hi:i<5)
  (h:∀σ M2,(∃w,NmI a M f stem t (i+1) w σ M2)→P.nx σ M2):tss ⟨K,Γ,G⟩ noX Sy P [some (.ref a),some (.int f),some (.str stem),some (.int t),some (.ref M.length),d5,d6,some (.str x)] M':=by
 delta Sy
 walk_at "ev"
 refine⟨Vo (Z3 e),_,e,Zy (by rw[Ah];omega),h _ _ ⟨_,l++[x],_,_,rfl,k.set (.inr (Nat.le_refl _)),?_,by rw[Ay,hl];rfl,fun y hy=>(Dd.mp hy).elim (hn y) fun z=>by rw[Bk.mp z];exact hx⟩⟩
 rw[Ym (Xv (Z3 e)),Dh]
 rfl
theorem nm_3{Γ G}(g:Γ[24]?=some Xf){P:DEnds}{a f t i:Nat}{M M':Z2}{stem x:Str}{l:List Str}{d5 d6:Option D}(hw:Wrd x)(h1:1≤x.length)(h8:x.length≤8)(k:Kp M M')(e:Zo M' M.length=some (l.map D.str))(hl:l.length=i)(hn:∀x∈l,Nam x)(hi:i<5)
  (h:∀σ M2,(∃w,NmI a M f stem t (i+1) w σ M2)→P.nx σ M2):tss ⟨K,Γ,G⟩ noX Sq P [some (.ref a),some (.int f),some (.str stem),some (.int t),some (.ref M.length),d5,d6,some (.str x)] M':=by
 delta Sq
 walk_at "ev"
 simp only[g]
 refine⟨rfl,.inl ⟨_,Zv _ _ [],rfl,Qh _,?_⟩⟩
 walk_at "ev"
 have k2:Kp M (M'++[.lst (kept.map D.str)]):=k.app _
 have e2:=Vp (N:=[.lst (kept.map D.str)]) e
 split
 ·refine⟨Z0 (by omega),?_⟩
  have:=Zd9 x (show(0:Int)≤1 by decide)
  have l1:("q":Str).length=1:=by decide+kernel
  exact⟨Z0 (by omega),nm_2 (Ya8 hw h1 h8) k2 e2 hl hn hi h⟩
 ·rename_i hk
  exact nm_2 ⟨hw,h1,h8,fun z=>hk ((E4 _ _).mpr z)⟩ k2 e2 hl hn hi h
theorem nm_4{Γ G}(g:Γ[24]?=some Xf)(gs:Γ[25]?=some Xj){P:DEnds}{a f t i v:Nat}{M M':Z2}{stem x:Str}{l:List Str}(hw:Wrd x)(h1:1≤x.length)(h8:x.length≤8)(k:Kp M M')(e:Zo M' M.length=some (l.map D.str))(hl:l.length=i)(hn:∀x∈l,Nam x)(hi:i<5)
  (h:∀σ M2,(∃w,NmI a M f stem t (i+1) w σ M2)→P.nx σ M2):tss ⟨K,Γ,G⟩ noX Sw P [some (.ref a),some (.int f),some (.str stem),some (.int t),some (.ref M.length),some (.int i),some (.int v),some (.str x)] M':=by
 delta Sw
 walk_at "ev"
 have fin:=nm_3 (G:=G) (P:=P) (a:=a) (f:=f) (t:=t) (stem:=stem) (d5:=some (.int i)) (d6:=some (.int v)) (K:=K) g (x:=x) hw h1 h8 k e hl hn hi h
 have hy9:∀y∈kept,y.length≤5∧1≤y.length∧(∀c∈Tt.L y,Wc c)∧Lc ((Tt.L y).headD 0):=by decide+kernel
 split
 ·split
  ·simp only[g]
   refine⟨rfl,Zr (by decide) (by decide),ix_m (Zv _ _ []) rfl (by decide) fun d hd=>?_⟩
   obtain⟨y,hy,rfl⟩:=Dg.mp hd
   refine⟨Zr (by decide) (by decide),?_⟩
   simp only[gs]
   refine⟨_,_,rfl,fun z hz _=>?_⟩
   obtain⟨y5,y1,yw,yl⟩:=hy9 y hy
   have l1:(⟨#[z]⟩:Str).length=1:=rfl
   have wy:Wrd y:=⟨yw,fun c hc=>by cases hy:Tt.L y<;>rw[hy] at hc yl<;>cases hc;exact yl⟩
   walk_at "ev"
   exact⟨Z0 (by omega),nm_3 g (wy.app (by omega) fun d hd=>by rw[L1,Bk] at hd;rw[hd];exact hz) (by rw[Z5];omega) (by rw[Z5];omega) (k.app _) (Vp e) hl hn hi h⟩
  ·exact fin
 ·exact fin
theorem Zf8{Γ G}(gm:Γ[23]?=some Wg)(gk:Γ[24]?=some Xf)(gs:Γ[25]?=some Xj)(gw:Γ[26]?=some W4):∀ds M Q Z,Xa ds M Q Z→tss ⟨K,Γ,G⟩ noX b_Lnames {nx:=fun _ M=>Q .non M,rt:=Q} (start0 Q0 ds) M:=by
 rintro ds M Q Z ⟨a,rfl,hs,q⟩
 have m8:∀v:Nat,∃s:Nat,s<8∧qmod (qdiv (v:Int) 8) 8=s:=by
  intro v
  rw[qm (by decide),qd (by decide)]
  have h1:=Kd ((v:Int) / 8) (show(8:Int)≠0 by decide)
  have h2:=Ka ((v:Int) / 8) (show(0:Int)<8 by decide)
  exact⟨((v:Int) / 8 % 8).toNat,by omega,by omega⟩
 delta b_Lnames Q0
 walk_at "ev"
 simp only[gm]
 refine⟨a,901,rfl,hs,by decide,fun f hf=>?_⟩
 walk_at "ev"
 refine⟨Zr (by decide) (by decide),?_⟩
 simp only[gw]
 obtain⟨s8,hs8,e8⟩:=m8 f
 rw[e8]
 refine⟨_,s8+1,by rw[show(1:Int)+s8=((s8+1:Nat):Int) by omega],by omega,fun stem hst hsw=>?_⟩
 walk_at "ev"
 refine⟨Zr (by decide) (by decide),Z0 (by omega),by omega,Z0 (by decide),by decide,by decide,?_⟩
 rw[qm (show(0:Int)<stem.length by omega)]
 have t1:=Kd (qdiv (f:Int) 64) (show(stem.length:Int)≠0 by omega)
 have t2:=Ka (qdiv (f:Int) 64) (show(0:Int)<stem.length by omega)
 obtain⟨t,ht,et⟩:∃t:Nat,t<stem.length∧qdiv (f:Int) 64 % stem.length=t:=⟨(qdiv (f:Int) 64 % stem.length).toNat,by omega,by omega⟩
 rw[et]
 refine Ov (fun i σ M'=>∃w,NmI a M f stem t i w σ M') ⟨none,[],none,none,rfl,Ks.new _ _,Y8 _ _ [],rfl,fun x hx=>by cases hx⟩ ?_ ?_
 ·rintro i σ M' C hi ⟨w,l,d5,d6,rfl,k,e,hl,hn⟩ hC
  have i5:i<5:=hi
  (delta Oh;simp only[Int.zero_add])
  walk_at "ev"
  simp only[gm]
  refine⟨a,902+i,by rw[show(902:Int)+i=((902+i:Nat):Int) by omega],hs.ks k (fun z=>z),by omega,fun v hv=>?_⟩
  walk_at "ev"
  refine⟨Z0 (by omega),Zr (by decide) (by decide),mulL (by decide) (by decide),?_⟩
  simp only[gs]
  refine⟨_,_,rfl,fun z hz hz0=>?_⟩
  walk_at "ev"
  have lz:(⟨#[z]⟩:Str).length=1:=rfl
  have l1:=Y92 stem (show(0:Int)≤t by omega)
  have l2:=Zd9 stem (show(0:Int)≤t+1 by omega)
  refine⟨Z0 (by omega),Z0 (by omega),Z0 (by rw[Z5];omega),?_⟩
  split
  ·refine⟨Zr (by decide) (by decide),?_⟩
   simp only[gw]
   obtain⟨v8,hv8,ev8⟩:=m8 v
   rw[ev8]
   exact⟨_,v8+1,by rw[show(1:Int)+v8=((v8+1:Nat):Int) by omega],by omega,fun x hx hw=>nm_4 gk gs hw (by omega) (by omega) k e hl hn i5 hC⟩
  ·obtain⟨w1,w2⟩:=Zs0 hsw ht hz fun z=>hz0 (by simp;omega)
   rw[show((t+1:Nat):Int)=(t:Int)+1 by omega] at w1 w2
   exact nm_4 gk gs w1 (by rw[w2];omega) (by rw[w2];omega) k e hl hn i5 hC
 ·rintro σ M' ⟨w,l,d5,d6,rfl,k,e,hl,hn⟩
  delta O9
  walk_at "ev"
  exact q l _ _ hl hn k (Z3 e)
theorem Z26{Γ G}(g:Γ[22]?=some Wv):∀ds M Q Z,Yh ds M Q Z→tss ⟨K,Γ,G⟩ noX b_Loperand {nx:=fun _ M=>Q .non M,rt:=Q} (start0 Tg ds) M:=by
 rintro ds M Q Z ⟨a,k,r,n,rfl,hs,⟨l,hl,hn,hr⟩,q⟩
 have qi:∀i:Int,-1000000000000000000<i→i<1000000000000000000→Q (.int i) M:=fun i h1 h2=>q (.no i) ⟨h1,h2⟩
 delta b_Loperand Tg
 walk_at "ev"
 split
 ·refine⟨Zr (by decide) (by decide),ix_m hr (by rw[Ah,hl];rfl) (by rw[Ah];omega) fun d hd=>?_⟩
  obtain⟨x,hx,rfl⟩:=Dg.mp hd
  exact q (.nm x) (hn x hx)
 ·delta Rk
  walk_at "ev"
  split
  ·rw[qm (by decide)]
   exact⟨Zr (by decide) (by decide),qi _ (by omega) (by omega)⟩
  ·delta Rh
   walk_at "ev"
   simp only[g]
   have p18:CPow 10 18:=⟨by decide,by decide,by decide⟩
   have e18:(10:Int) ^ (18:Int).toNat=1000000000000000000:=by decide
   have r1:=Kd (qdiv (n:Int) 24) (show(1000:Int)≠0 by decide)
   have r2:=Ka (qdiv (n:Int) 24) (show(0:Int)<1000 by decide)
   refine⟨a,k,rfl,hs,fun v=>?_⟩
   walk_at "ev"
   refine⟨p18,by decide,Zr (by decide) (by decide),mulR (by rw[qm (by decide)];omega) (by rw[qm (by decide)];omega),p18,by decide,Zr (by decide) (by decide),?_⟩
   have fin:∀b:Int,0≤b→b<1000000000000000000→tss ⟨K,Γ,G⟩ noX T3 {nx:=fun _ M=>Q .non M,rt:=Q} [some (.ref a),some (.int k),some (.ref r),some (.int n),some (.int b)] M:=by
    intro b hb0 hb
    delta T3
    walk_at "ev"
    refine⟨Zr (by decide) (by decide),?_⟩
    split
    ·exact qi _ (by omega) (by omega)
    ·delta Rp
     walk_at "ev"
     exact qi _ (by omega) (by omega)
   split
   ·refine⟨p18,Zr (by decide) (by decide),fin _ ?_ ?_⟩<;>(rw[e18,qm (by decide)];omega)
   ·refine fin _ ?_ ?_<;>(rw[e18,qm (by decide)];omega)
end
inductive Rw where
 | sum (n:Nat) (g:Str) (a:Opd) (s:Str) (b:Opd) | test (n:Nat) (a:Opd) (s:Str) (b:Opd) (t:Nat) | jump (n t:Nat) | fin (n:Nat)
noncomputable def Rw.n:Rw→Nat
 | .sum n _ _ _ _=>n
 | .test n _ _ _ _=>n
 | .jump n _=>n
 | .fin n=>n
noncomputable def Rw.d:Rw→D
 | .sum n g a s b=> .tup [.int n,.str "sum",.str g,a.d,.str s,b.d]
 | .test n a s b t=> .tup [.int n,.str "test",a.d,.str s,b.d,.int t]
 | .jump n t=> .tup [.int n,.str "jump",.int t]
 | .fin n=> .tup [.int n,.str "end"]
noncomputable def sgnS:List Str:=["+","-","/","rest","&","^"]
noncomputable def sgnT:List Str:=["<","="]
def Rw.ok(ns:List Nat):Rw→Prop
 | .sum n g a s b=>n∈ns∧Nam g∧a.ok∧s∈sgnS∧b.ok
 | .test n a s b t=>n∈ns∧a.ok∧s∈sgnT∧b.ok∧t∈ns
 | .jump n t=>n∈ns∧t∈ns
 | .fin n=>n∈ns
noncomputable def Rw.last:Rw→Bool
 | .jump _ _ | .fin _=>true
 | _=>false
noncomputable def nsD(ns:List Nat):List D:=ns.map fun(n:Nat)=>D.int n
structure Nmb(ns:List Nat):Prop where
 inc:ns.Pairwise (· < ·)
 top:∀n∈ns,n≤9999
 ne:ns≠[]
 len:ns.length≤200
structure Gd(ns:List Nat)(ws:List Rw):Prop extends Nmb ns where
 eq:ws.map Rw.n=ns
 ok:∀w∈ws,w.ok ns
 lst:∀w,ws[ws.length - 1]?=some w→w.last=true
def Yn:DSp:=fun ds M Q _=>∃(a m:Nat),ds=[.ref a,.int m]∧Scr M a∧1≤m∧m≤200∧∀(ns:List Nat) M' r,Nmb ns→ns.length=m→Kp M M'→Zd M' r=some (nsD ns)→Q (.ref r) M'
def Ru:DSp:=fun ds M Q _=>∃(a k r m:Nat) (ns:List Nat),ds=[.ref a,.int k,.ref r,.ref m]∧Scr M a∧Zd M r=some (nsD ns)∧Nmb ns∧Nms M m∧k<ns.length∧
 ∀(w:Rw) M',w.ok ns→ns[k]?=some w.n→(k+1=ns.length→w.last=true)→Kp M M'→Q w.d M'
def T1:DSp:=fun ds M Q _=>∃(a m:Nat),ds=[.ref a,.int m]∧Scr M a∧1≤m∧m≤200∧∀(ns:List Nat) (ws:List Rw) M' r,Gd ns ws→Kp M M'→M.length≤r→Zo M' r=some (ws.map Rw.d)→Q (.ref r) M'
theorem Cw{α:Type}(v:α):∀ns:List α,ns≠[]→ns.set (ns.length - 1) v=ns.dropLast++[v]
 | [],h=>absurd rfl h
 | [x],_=>rfl
 | x::y::r,_=>by
  have:=Cw v (y::r) (by simp)
  rw[List.dropLast_cons_cons,Ki,←this]
  rfl
section
variable{K:Ae}
theorem Z43{Γ G}(gm:Γ[23]?=some Wg):∀ds M Q Z,Yn ds M Q Z→tss ⟨K,Γ,G⟩ noX b_Lnumbers {nx:=fun _ M=>Q .non M,rt:=Q} (start0 Tf ds) M:=by
 rintro ds M Q Z ⟨a,m,rfl,hs,h1,h80,q⟩
 delta b_Lnumbers Tf
 walk_at "ev"
 simp only[gm]
 refine⟨a,801,rfl,hs,by decide,fun v1 hv1=>?_⟩
 walk_at "ev"
 refine⟨a,802,rfl,hs,by decide,fun v2 hv2=>?_⟩
 walk_at "ev"
 have m1:(0:Int)<m:=by omega
 refine⟨mulR (by rw[qm (by decide)];omega) (by rw[qm (by decide)];omega),Zr m1 (by omega),Z0 (by decide),a,803,rfl,hs.ks (Ks.new (F:=fun _=>False) _ _) (fun z=>z),by decide,fun v3 hv3=>?_⟩
 walk_at "ev"
 have hb:∃B:Nat,qmod (v1:Int) 200 * qmod (v2:Int) 3=B∧B≤398:=by
  rw[qm (by decide),qm (by decide)]
  have h1:0≤(v1:Int) % 200 * ((v2:Int) % 3):=Int.mul_nonneg (by omega) (by omega)
  have h2:(v1:Int) % 200 * ((v2:Int) % 3)≤199 * 2:=Int.mul_le_mul (by omega) (by omega) (by omega) (by omega)
  exact⟨((v1:Int) % 200 * ((v2:Int) % 3)).toNat,by omega,by omega⟩
 obtain⟨B,eB,hB⟩:=hb
 rw[eB]
 have hd:qdiv 9300 (m:Int)=((9300 / m:Nat):Int):=by rw[qd m1];rfl
 have hd1:1≤9300 / m:=(Nat.le_div_iff_mul_le (by omega)).mpr (by omega)
 have hdm:(9300 / m) * m≤9300:=Nat.div_mul_le_self _ _
 rw[hd]
 have fin:∀st:Nat,1≤st→st≤9300 / m→∀M',Kp M M'→forD Own.no (S3 0 (Km m)) [5] (tss ⟨K,Γ,G⟩ noX Wo) (S3 0 (Km m)) {nx:=fun σ' M'=>tss ⟨K,Γ,G⟩ noX Wp {nx:=fun _ M=>Q .non M,rt:=Q} σ' M',rt:=Q} [some (.ref a),some (.int m),some (.int B),some (.int st),some (.ref M'.length),none] (M'++[.lst []]):=by
  intro st s1 s2 M1 k1
  rw[Dl]
  have hsm:st * m≤9300:=Nat.le_trans (Nat.mul_le_mul_right _ s2) hdm
  refine Ov (fun i σ M'=>∃(ns:List Nat) (b:Nat) (d:Option D),σ=[some (.ref a),some (.int m),some (.int b),some (.int st),some (.ref M1.length),d]∧Kp M M'∧M1.length<M'.length∧Zo M' M1.length=some (nsD ns)∧ns.length=i∧ns.Pairwise (· < ·)∧(∀n∈ns,n<b)∧b≤398+i * st) ⟨[],B,none,rfl,k1.app _,by simp,Y8 _ _ [],rfl,List.Pairwise.nil,fun n hn=>(by cases hn),by omega⟩ ?_ ?_
  ·rintro i σ M' C hi ⟨ns,b,d,rfl,k,hlt,e,hl,hp,hb,hbb⟩ hC
   (delta Wo;simp only[Int.zero_add])
   walk_at "ev"
   refine⟨Vo (Z3 e),_,e,Zy (by unfold nsD;rw[Ah];omega),?_⟩
   simp only[gm]
   have k':Kp M (M'.set M1.length (.lst (nsD ns++[.int b]))):=k.set (.inr k1.len)
   refine⟨a,700+i,by rw[show(700:Int)+i=((700+i:Nat):Int) by omega],hs.ks k' (fun z=>z),by omega,fun v hv=>?_⟩
   walk_at "ev"
   refine⟨by omega,?_⟩
   rw[qm (by omega)]
   have r1:=Kd (v:Int) (show(st:Int)≠0 by omega)
   have r2:=Ka (v:Int) (show(0:Int)<st by omega)
   refine hC _ _ ⟨ns++[b],(b+1+(v:Int) % st).toNat,some (.int i),?_,k',by rw[Iw];exact hlt,?_,by rw[Ay,hl];rfl,?_,?_,?_⟩
   ·rw[Kg (by omega)]
   ·rw[Ym hlt]
    unfold nsD
    rw[Dh]
    rfl
   ·rw[List.pairwise_append]
    exact⟨hp,List.pairwise_singleton _ _,fun x hx y hy=>by rw[Bk.mp hy];exact hb x hx⟩
   ·intro n hn
    rcases Dd.mp hn with z | z
    ·have:=hb n z;omega
    ·rw[Bk.mp z];omega
   ·rw[Nat.succ_mul];omega
  ·rintro σ M' ⟨ns,b,d,rfl,k,hlt,e,hl,hp,hb,hbb⟩
   delta Wp
   walk_at "ev"
   simp only[gm]
   refine⟨a,804,rfl,hs.ks k (fun z=>z),by decide,fun v hv=>?_⟩
   walk_at "ev"
   have hne:ns≠[]:=fun z=>by rw[z] at hl;simp at hl;omega
   have hms:m * st≤9300:=by rw[Nat.mul_comm];exact hsm
   have h99:∀n∈ns,n<9999:=fun n hn=>by have:=hb n hn;omega
   split
   ·refine .inl ⟨_,_,m - 1,rfl,e,?_,?_⟩
    ·unfold ixN nsD
     rw[Ah,hl]
     simp
     omega
    ·delta T8
     walk_at "ev"
     have es:(nsD ns).set (m - 1) (.int 9999)=nsD (ns.dropLast++[9999]):=by
      rw[←Cw 9999 ns hne,hl]
      unfold nsD
      rw[List.map_set]
      rfl
     rw[es]
     have hsub:∀n∈ns.dropLast,n∈ns:=fun n hn=>List.dropLast_subset _ hn
     refine q (ns.dropLast++[9999]) _ _ ⟨?_,?_,by simp,?_⟩ ?_ (k.set (.inr k1.len)) (Z3 (Ym hlt))
     ·rw[List.pairwise_append]
      exact⟨hp.sublist (List.dropLast_sublist _),List.pairwise_singleton _ _,fun x hx y hy=>by rw[Bk.mp hy];exact h99 x (hsub x hx)⟩
     ·intro n hn
      rcases Dd.mp hn with z | z
      ·exact Nat.le_of_lt (h99 n (hsub n z))
      ·rw[Bk.mp z];exact Nat.le_refl _
     ·rw[Ay,List.length_dropLast,hl];simp;omega
     ·rw[Ay,List.length_dropLast,hl];simp;omega
   ·delta T8
    walk_at "ev"
    exact q ns _ _ ⟨hp,fun n hn=>Nat.le_of_lt (h99 n hn),hne,by omega⟩ hl k (Z3 e)
 refine ix_m (Zv _ _ []) rfl (by simp) fun d hd=>⟨Zr m1 (by omega),?_⟩
 have go:∀st:Nat,1≤st→bfD K Bf.min2 [.int st,.int ((9300 / m:Nat):Int)] (M++[.lst [.int 1,.int 3,.int ((9300 / m:Nat):Int)]]) (fun d_2 M1=>0≤sizeLine∧ -2 ^ 62≤(m:Int)∧(m:Int)<2 ^ 62∧forD Own.no (S3 0 (Km m)) [5] (tss ⟨K,Γ,G⟩ noX Wo) (S3 0 (Km m)) {nx:=fun σ' M'=>tss ⟨K,Γ,G⟩ noX Wp {nx:=fun _ M=>Q .non M,rt:=Q} σ' M',rt:=Q} [some (.ref a),some (.int m),some (.int B),some d_2,some (.ref M1.length),none] (M1++[.lst []])):=by
  intro st s1
  walk_at "ev"
  refine⟨Nat.zero_le _,by omega,by omega,?_⟩
  split
  ·exact fin _ hd1 (Nat.le_refl _) _ (Ks.new _ _)
  ·exact fin st s1 (by omega) _ (Ks.new _ _)
 simp only[Am,Aw,or_false] at hd
 rcases hd with rfl | rfl | rfl
 ·exact go 1 (by decide)
 ·exact go 3 (by decide)
 ·exact go _ hd1
end
section
variable{K:Ae}
theorem Y56{ns:List Nat}{d:D}(h:d∈nsD ns):∃n∈ns,d= .int (n:Nat):=by
 obtain⟨n,hn,rfl⟩:=Dg.mp h
 exact⟨n,hn,rfl⟩
theorem Y43{Γ G}(gm:Γ[23]?=some Wg)(go:Γ[28]?=some Yh):∀ds M Q Z,Ru ds M Q Z→tss ⟨K,Γ,G⟩ noX b_Lrow {nx:=fun _ M=>Q .non M,rt:=Q} (start0 Be ds) M:=by
 rintro ds M Q Z ⟨a,k,r,m,ns,rfl,hs,hr,hN,hm,hk,q⟩
 have h80:=hN.len
 have hl:(nsD ns).length=ns.length:=Ah ..
 have hnum:∀x y:Int,0<y→∃n:Nat,qdiv (qmod x y) 8=n:=fun x y hy=>by
  rw[qm hy,qd (by decide)]
  have:=Kd x (show y≠0 by omega)
  exact⟨(x % y / 8).toNat,by omega⟩
 obtain⟨n,hn,en⟩:∃n,n∈ns∧ns[k]?=some n:=⟨ns[k],Go hk,Ag hk⟩
 delta b_Lrow Be
 walk_at "ev"
 simp only[gm]
 refine⟨a,k,rfl,hs,by omega,fun v hv=>?_⟩
 walk_at "ev"
 refine⟨mulR (by decide) (by decide),Zr (by decide) (by decide),Y1 hr ⟨by omega,ix_m hr rfl (by omega) fun d hd=>?_⟩⟩
 obtain⟨t,ht,rfl⟩:=Y56 hd
 refine⟨mulR (by decide) (by decide),Zr (by decide) (by decide),?_⟩
 simp only[go]
 obtain⟨n1,e1⟩:=hnum ((v:Int) * 16807) 2147483563 (by decide)
 obtain⟨n2,e2⟩:=hnum ((v:Int) * 39373) 2147483543 (by decide)
 refine⟨a,k,m,n1,by rw[e1],hs,hm,fun o1 h1=>?_⟩
 walk_at "ev"
 refine⟨mulR (by decide) (by decide),Zr (by decide) (by decide),a,k+1,m,n2,by rw[e2];rfl,hs,hm,fun o2 h2=>?_⟩
 walk_at "ev"
 have fin:∀kd:Int,(k+1=ns.length→8≤kd)→tss ⟨K,Γ,G⟩ noX Ot {nx:=fun _ M=>Q .non M,rt:=Q} [some (.ref a),some (.int k),some (.ref r),some (.ref m),some (.int v),some (.int t),some o1.d,some o2.d,some (.int kd),none,none,none] M:=by
  intro kd hkd
  delta Ot
  walk_at "ev"
  refine ix_l hr (show(nsD ns)[k]?=some (.int (n:Nat)) by unfold nsD;rw[Aq,en];rfl) ?_
  split
  ·rename_i h5
   refine⟨Z0 (by decide),Zr (by decide) (by decide),ix_m (Zv _ _ []) rfl (by decide) fun d hd=>?_⟩
   obtain⟨l,hl5,hnm,hrd⟩:=hm
   refine⟨Zr (by decide) (by decide),ix_m (Wx hrd) (by rw[Ah,hl5];rfl) (by rw[Ah];omega) fun d2 hd2=>?_⟩
   obtain⟨g,hg,rfl⟩:=Dg.mp hd2
   obtain⟨s,hss,rfl⟩:=Dg.mp (show d∈sgnS.map D.str from hd)
   refine⟨Z0 (by decide),?_⟩
   exact q (.sum n g o1 s o2) _ ⟨hn,hnm g hg,h1,hss,h2⟩ en (fun z=>by have:=hkd z;omega) (Ks.new _ _)
  ·delta C6
   walk_at "ev"
   split
   ·rename_i h8
    refine⟨Z0 (by decide),Zr (by decide) (by decide),ix_m (Zv _ _ []) rfl (by decide) fun d hd=>?_⟩
    obtain⟨s,hss,rfl⟩:=Dg.mp (show d∈sgnT.map D.str from hd)
    refine⟨Z0 (by decide),?_⟩
    exact q (.test n o1 s o2 t) _ ⟨hn,h1,hss,h2,ht⟩ en (fun z=>by have:=hkd z;omega) (Ks.new _ _)
   ·delta B5
    walk_at "ev"
    split
    ·refine⟨Z0 (by decide),?_⟩
     exact q (.jump n t) _ ⟨hn,ht⟩ en (fun _=>rfl) (Ks.refl _)
    ·delta C9
     walk_at "ev"
     refine⟨Z0 (by decide),?_⟩
     exact q (.fin n) _ hn en (fun _=>rfl) (Ks.refl _)
 refine Y1 hr ?_
 walk_at "ev"
 split
 ·refine fin _ fun _=>?_
  rw[qm (by decide)]
  omega
 ·rename_i h
  exact fin _ fun z=>absurd (by omega) h
theorem Zv2{Γ G}(gn:Γ[29]?=some Yn)(gm:Γ[27]?=some Xa)(gr:Γ[30]?=some Ru):∀ds M Q Z,T1 ds M Q Z→tss ⟨K,Γ,G⟩ noX b_Lrows {nx:=fun _ M=>Q .non M,rt:=Q} (start0 Nf ds) M:=by
 rintro ds M Q Z ⟨a,m,rfl,hs,h1,h80,q⟩
 delta b_Lrows Nf
 walk_at "ev"
 simp only[gn,gm]
 refine⟨a,m,rfl,hs,h1,h80,fun ns M1 r hN hl k1 hr=>?_⟩
 walk_at "ev"
 refine⟨a,rfl,hs.ks k1 (fun z=>z),fun l M2 r2 hl5 hnm k2 hr2=>?_⟩
 walk_at "ev"
 refine⟨by omega,by omega,?_⟩
 rw[Dl]
 have k12:=k1.trans k2
 refine V9 (fun i σ M'=>∃(ws:List Rw) (d:Option D),σ=[d,some (.ref a),some (.ref r),some (.ref r2)]∧Kp M M'∧Kp M2 M'∧M2.length<M'.length∧Zo M' M2.length=some (ws.map Rw.d)∧ws.length=i∧(∀w∈ws,w.ok ns)∧(∀(j:Nat) w,ws[j]?=some w→ns[j]?=some w.n)∧∀w,ws[ns.length - 1]?=some w→w.last=true) ⟨[],none,rfl,k12.app _,Ks.new _ _,by simp,Y8 _ _ [],rfl,fun w hw=>(by cases hw),fun j w e=>(by simp at e),fun w e=>(by simp at e)⟩ (fun _ _ _ _ _=>trivial) ?_ ?_
 ·rintro i d σ M' C hd ⟨ws,d0,rfl,k,k',hlt,e,hw,ho,hj,hla⟩ hC
  have hi:i<m:=by
   have:=(Af.mp hd).1
   rwa[Wm] at this
  have hdi:d= .int i:=by
   unfold S3 at hd
   rw[Aq,List.getElem?_range hi] at hd
   simpa using hd.symm
  subst hdi
  walk_at "ev"
  simp only[gr]
  refine⟨a,i,r,r2,ns,rfl,hs.ks k (fun z=>z),(k2.trans k').pL hr,hN,⟨l,hl5,hnm,k'.pL hr2⟩,by omega,fun w M3 w1 w2 w3 k3=>?_⟩
  refine⟨_,k3.pW e,Zy (by rw[Ah];omega),hC _ _ ⟨ws++[w],_,rfl,(k.trans k3).set (.inr k12.len),(k'.trans k3).set (.inr (Nat.le_refl _)),by rw[Iw];exact Nat.lt_of_lt_of_le hlt k3.len,?_,by rw[Ay,hw];rfl,?_,?_,?_⟩⟩
  ·rw[Ym (Nat.lt_of_lt_of_le hlt k3.len),Dh];rfl
  ·intro x hx
   rcases Dd.mp hx with z | z
   ·exact ho x z
   ·rw[Bk.mp z];exact w1
  ·intro j x hx
   rcases Nat.lt_or_ge j ws.length with z | z
   ·rw[Dj z] at hx;exact hj j x hx
   ·rw[Ih z] at hx
    have:j=ws.length:=by
     have:=(Af.mp hx).1
     simp at this;omega
    subst this
    simp at hx
    rw[←hx,hw];exact w2
  ·intro x hx
   rcases Nat.lt_or_ge (ns.length - 1) ws.length with z | z
   ·rw[Dj z] at hx;exact hla x hx
   ·rw[Ih z] at hx
    have:ns.length - 1=ws.length:=by
     have:=(Af.mp hx).1
     simp at this;omega
    rw[this] at hx
    simp at hx
    rw[←hx];exact w3 (by omega)
 ·rintro σ M' ⟨ws,d0,rfl,k,k',hlt,e,hw,ho,hj,hla⟩
  rw[Wm] at hw
  refine q ns ws _ _ {hN with eq:=?_,ok:=ho,lst:=?_} k k12.len e
  ·refine Lw fun j=>?_
   rw[Aq]
   cases hwj:ws[j]? with
   | none=>rw[Dr (by have:=List.getElem?_eq_none_iff.mp hwj;omega)];rfl
   | some w=>exact(hj j w hwj).symm
  ·intro w hw2
   rw[hw,←hl] at hw2
   exact hla w hw2
end
theorem sp32:(" ":Str)=⟨#[32]⟩:=rfl
theorem nl10:("\n":Str)=⟨#[10]⟩:=rfl
def free(x:Str):Prop:=∀c∈Tt.L x,c≠32∧c≠10∧c<128
theorem Opd.no_L{i:Int}:(∃n:Nat,i=n∧Str.ofString (toString i)=Tt.fig n)∨∃n:Nat,0<n∧i= -(n:Int)∧Tt.L (Str.ofString (toString i))=45::Tt.L (Tt.fig n):=by
 rcases Int.lt_or_le i 0 with h | h
 ·refine .inr ⟨i.natAbs,by omega,by omega,?_⟩
  have:=Tt.L_neg (n:=i.natAbs) (by omega)
  rwa[show -((i.natAbs:Nat):Int)=i by omega] at this
 ·exact .inl ⟨i.toNat,by omega,by unfold Tt.fig;rw[Kg h]⟩
theorem Zj8{n:Nat}(h:n<1000000000000000000):(Tt.fig n).length≤18:=by
 have:=Tt.fig_len 17 n h
 rwa[Tt.L_len] at this
theorem Qm{n:Nat}(h:n≤9999):(Tt.fig n).length≤4:=by
 have:=Tt.fig_len 3 n (by omega)
 rwa[Tt.L_len] at this
theorem Q3(n:Nat):free (Tt.fig n):=fun c hc=>by have:=Tt.fig_digits hc;omega
theorem Nam.free{x:Str}(h:Nam x):free x:=fun c hc=>by
 have:=h.1.1 c hc
 unfold Wc Lc at this
 omega
theorem Opd.len{o:Opd}(h:o.ok):o.t.length≤19:=by
 cases o with
 | nm x=>have:=h.2.2.1;show x.length≤19;omega
 | no i=>
  obtain⟨h1,h2⟩:-1000000000000000000<i∧i<1000000000000000000:=h
  show(Str.ofString (toString i)).length≤19
  rcases Opd.no_L (i:=i) with⟨n,e1,e2⟩ | ⟨n,e0,e1,e2⟩
  ·rw[e2];have:=Zj8 (n:=n) (by omega);omega
  ·rw[←Tt.L_len,e2,Dc,Tt.L_len]
   have:=Zj8 (n:=n) (by omega);omega
theorem Opd.free{o:Opd}(h:o.ok):free o.t:=by
 cases o with
 | nm x=>exact Nam.free h
 | no i=>
  show K05.free (Str.ofString (toString i))
  rcases Opd.no_L (i:=i) with⟨n,e1,e2⟩ | ⟨n,e0,e1,e2⟩
  ·rw[e2];exact Q3 n
  ·intro c hc
   rw[e2,Am] at hc
   exact hc.elim (fun z=>by omega) (Q3 n c)
noncomputable def hd(n:Nat):Str:=Tt.fig n++":"
noncomputable def Rw.words:Rw→List Str
 | .sum n g a s b=>[hd n,g,"=",a.t,s,b.t]
 | .test n a s b t=>[hd n,"if",a.t,s,b.t,"jump",Tt.fig t]
 | .jump n t=>[hd n,"jump",Tt.fig t]
 | .fin n=>[hd n,"end"]
noncomputable def Rw.line(w:Rw):Str:=Du " " w.words
theorem Zp7:∀s∈sgnS++sgnT,s.length≤4∧∀c∈Tt.L s,c≠32∧c≠10∧c<128:=by decide+kernel
theorem Zb4{n:Nat}(h:n≤9999):(hd n).length≤19∧free (hd n):=by
 have h1:=Qm h
 have l1:(":":Str).length=1:=rfl
 refine⟨by unfold hd;rw[Z5];omega,fun c hc=>?_⟩
 unfold hd at hc
 rw[Tt.L_app,Dd] at hc
 exact hc.elim (Q3 n c) fun z=>by rw[show Tt.L (":":Str)=[58] from rfl,Bk] at z;omega
theorem Zp6:∀s∈(["=","if","jump","end"]:List Str),s.length≤19∧∀c∈Tt.L s,c≠32∧c≠10∧c<128:=by decide+kernel
theorem Rw.wok{w:Rw}{ns:List Nat}(h:w.ok ns)(hN:∀n∈ns,n≤9999):∀x∈w.words,x.length≤19∧free x:=by
 have so:∀s,s∈sgnS∨s∈sgnT→s.length≤19∧K05.free s:=fun s hs=>by
  obtain⟨a,b⟩:=Zp7 s (Dd.mpr hs)
  exact⟨by omega,b⟩
 have op:∀o:Opd,o.ok→o.t.length≤19∧K05.free o.t:=fun o ho=>⟨Opd.len ho,Opd.free ho⟩
 have fg:∀n∈ns,(Tt.fig n).length≤19∧K05.free (Tt.fig n):=fun n hn=>⟨by have:=Qm (hN n hn);omega,Q3 n⟩
 have lt:∀s∈(["=","if","jump","end"]:List Str),s.length≤19∧K05.free s:=Zp6
 intro x hx
 cases w with
 | sum n g a s b=>
  obtain⟨h1,h2,h3,h4,h5⟩:=h
  simp only[Rw.words,Am,Aw,or_false] at hx
  rcases hx with rfl | rfl | rfl | rfl | rfl | rfl
  ·exact Zb4 (hN n h1)
  ·exact⟨by have:=h2.2.2.1;omega,h2.free⟩
  ·exact lt _ (by simp)
  ·exact op a h3
  ·exact so _ (.inl h4)
  ·exact op b h5
 | test n a s b t=>
  obtain⟨h1,h2,h3,h4,h5⟩:=h
  simp only[Rw.words,Am,Aw,or_false] at hx
  rcases hx with rfl | rfl | rfl | rfl | rfl | rfl | rfl
  ·exact Zb4 (hN n h1)
  ·exact lt _ (by simp)
  ·exact op a h2
  ·exact so _ (.inr h3)
  ·exact op b h4
  ·exact lt _ (by simp)
  ·exact fg t h5
 | jump n t=>
  simp only[Rw.words,Am,Aw,or_false] at hx
  rcases hx with rfl | rfl | rfl
  ·exact Zb4 (hN n h.1)
  ·exact lt _ (by simp)
  ·exact fg t h.2
 | fin n=>
  simp only[Rw.words,Am,Aw,or_false] at hx
  rcases hx with rfl | rfl
  ·exact Zb4 (hN n h)
  ·exact lt _ (by simp)
theorem Rw.wlen(w:Rw):w.words.length≤7∧w.words≠[]:=by cases w<;>simp[Rw.words]
theorem tj(sep:Str)(l:List Str):Du sep l=Str.join sep l:=StrLaws.glued_eq_join sep l
theorem jn{x y:Str}{r:List Str}:Du " " (x::y::r)=x++" "++Du " " (y::r):=by rw[tj,tj];rfl
theorem R8(sep:Str)(h1:sep.length≤1){l:List Str}{B:Nat}(h:∀x∈l,x.length≤B):(Du sep l).length≤l.length * (B+1):=by
 rw[tj]
 have a:=StrLaws.join_length_le sep l
 have b:=StrLaws.sumLen_le l h
 have c:=Nat.mul_le_mul_left l.length h1
 rw[Nat.mul_add]
 omega
theorem Q4{w:Rw}{ns:List Nat}(h:w.ok ns)(hN:∀n∈ns,n≤9999):w.line.length≤140:=by
 have a:=R8 " " (by decide) (fun x hx=>(w.wok h hN x hx).1)
 have b:=Nat.mul_le_mul_right 20 w.wlen.1
 unfold Rw.line
 omega
theorem Et{sep:Str}(h1:sep.length≤1){l:List Str}{B:Nat}(h:∀x∈l,x.length≤B)(hl:l.length * (B+1)≤16000000):JoinOk sep l=true:=by
 unfold JoinOk
 rw[StrLaws.joinFits h ?_]
 ·rfl
 ·have c:=Nat.mul_le_mul_left l.length h1
  rw[Nat.mul_add] at hl
  omega
theorem Cg{K:Ae}{o:Opd}{M:Z2}{Q:DK}(h:o.ok)(q:Q (.str o.t) M):bfD K .str1 [o.d] M Q:=by
 cases o with
 | nm x=>exact q
 | no i=>
  obtain⟨h1,h2⟩:-1000000000000000000<i∧i<1000000000000000000:=h
  refine⟨?_,q⟩
  have:i.natAbs<2 ^ 64:=by omega
  exact Nat.lt_trans (V0 this (by decide)) (by decide)
theorem Y25{K:Ae}{n:Nat}{M:Z2}{Q:DK}(h:n≤9999)(q:Q (.str (Tt.fig n)) M):bfD K .str1 [.int (n:Nat)] M Q:=by
 refine⟨?_,q⟩
 have:((n:Nat):Int).natAbs<2 ^ 64:=by omega
 exact Nat.lt_trans (V0 this (by decide)) (by decide)
def Tn:DSp:=fun ds M Q _=>∃(w:Rw) (ns:List Nat),ds=[w.d]∧w.ok ns∧(∀n∈ns,n≤9999)∧∀M',Kp M M'→Q (.str w.line) M'
section
variable{K:Ae}
theorem Zt1{Γ G}:∀ds M Q Z,Tn ds M Q Z→tss ⟨K,Γ,G⟩ noX b_Lline {nx:=fun _ M=>Q .non M,rt:=Q} (start0 Nj ds) M:=by
 rintro ds M Q Z ⟨w,ns,rfl,h,hN,q⟩
 have c2:(": ":Str)=":"++" ":=by decide+kernel
 have l2:(": ":Str).length=2:=rfl
 have hw:=w.wok h hN
 have hdl:∀(n:Nat) (J:Str),(Str.ofString (toString (n:Int)):Str)++(": ":Str)++J=hd n++" "++J:=fun n J=>Tt.L_ext (by
  rw[c2]
  unfold hd
  show Tt.L (Tt.fig n++_++J)=_
  simp only[Tt.L_app,Hd])
 have lg:∀n:Nat,n≤9999→((n:Nat):Int).natAbs.log2<1920:=fun n hn=>Nat.lt_trans (V0 (show((n:Nat):Int).natAbs<2 ^ 64 by omega) (by decide)) (by decide)
 have fl:∀n:Nat,n≤9999→(Str.ofString (toString (n:Int)):Str).length≤4:=fun n hn=>Qm hn
 delta b_Lline Nj
 cases w with
 | sum n g a s b=>
  obtain⟨h1,h2,h3,h4,h5⟩:=id h
  have hn:=hN n h1
  have f4:=fl n hn
  simp only[Rw.d]
  walk_at "ev"
  refine⟨lg n hn,Z0 (by omega),_,Yv (j:=3) rfl,Cg h3 ⟨_,Yv (j:=4) rfl,_,Yv (j:=5) rfl,Cg h5 ⟨Z0 (by decide),[g,"=",a.t,s,b.t],Zv _ _ [],?_⟩⟩⟩
  have hx:∀x∈([g,"=",a.t,s,b.t]:List Str),x.length≤19:=fun x hx=>(hw x (Az _ hx)).1
  have hj:=R8 " " (by decide) hx
  refine⟨Et (by decide) hx (by simp),Z0 (by rw[Z5];simp at hj;omega),?_⟩
  rw[hdl]
  have:=q _ (Ks.new M [.lst [.str g,.str "=",.str a.t,.str s,.str b.t]])
  unfold Rw.line Rw.words at this
  rw[jn] at this
  exact this
 | test n a s b t=>
  obtain⟨h1,h2,h3,h4,h5⟩:=id h
  have hn:=hN n h1
  have f4:=fl n hn
  simp only[Rw.d]
  walk_at "ev"
  refine⟨lg n hn,Z0 (by omega),?_⟩
  delta Sj
  walk_at "ev"
  have ht:=hN t h5
  refine Cg h2 ⟨_,Yv (j:=3) rfl,_,Yv (j:=4) rfl,Cg h4 ⟨Z0 (by decide),_,Yv (j:=5) rfl,Y25 ht ⟨Z0 (by decide),_,_,Vp (Y8 _ _ []),Y8 _ _ [],Z0 (by simp),["if",a.t,s,b.t,"jump",Tt.fig t],Zv _ _ [],?_⟩⟩⟩
  have hx:∀x∈(["if",a.t,s,b.t,"jump",Tt.fig t]:List Str),x.length≤19:=fun x hx=>(hw x (Az _ hx)).1
  have hj:=R8 " " (by decide) hx
  refine⟨Et (by decide) hx (by simp),Z0 (by rw[Z5];simp at hj;omega),?_⟩
  rw[hdl]
  have:=q _ (((Ks.new (F:=fun _=>False) M [.lst [.str "if",.str a.t,.str s,.str b.t]]).app [.lst [.str "jump",.str (Tt.fig t)]]).app [.lst ([.str "if",.str a.t,.str s,.str b.t]++[.str "jump",.str (Tt.fig t)])])
  unfold Rw.line Rw.words at this
  rw[jn] at this
  exact this
 | jump n t=>
  have hn:=hN n h.1
  have ht:=hN t h.2
  have f4:=fl n hn
  have f5:=fl t ht
  simp only[Rw.d]
  walk_at "ev"
  refine⟨lg n hn,Z0 (by omega),?_⟩
  delta Sj
  walk_at "ev"
  delta Qy
  walk_at "ev"
  have l5:("jump ":Str).length=5:=rfl
  refine⟨Z0 (by rw[Z5];omega),lg t ht,Z0 (by rw[Z5,Z5];omega),?_⟩
  have:=q _ (Ks.refl M)
  unfold Rw.line Rw.words at this
  rw[jn,jn] at this
  rw[hdl]
  have e:hd n++(" ":Str)++("jump ":Str)++Str.ofString (toString (t:Int))=hd n++" "++("jump"++" "++Du " " [Tt.fig t]):=Tt.L_ext (by
   rw[show("jump ":Str)="jump"++" " by decide+kernel,tj]
   show Tt.L (_++Tt.fig t)=Tt.L (hd n++" "++("jump"++" "++Tt.fig t))
   simp only[Tt.L_app,Hd])
  rw[e]
  exact this
 | fin n=>
  have hn:=hN n h
  have f4:=fl n hn
  simp only[Rw.d]
  walk_at "ev"
  refine⟨lg n hn,Z0 (by omega),?_⟩
  delta Sj
  walk_at "ev"
  delta Qy
  walk_at "ev"
  delta Gk
  walk_at "ev"
  have l3:("end":Str).length=3:=rfl
  refine⟨Z0 (by rw[Z5];omega),?_⟩
  rw[hdl]
  have:=q _ (Ks.refl M)
  unfold Rw.line Rw.words at this
  rw[jn,tj] at this
  exact this
theorem Zx1(w:Rw):w.line≠"":=by
 intro e
 have:(Tt.L w.line).length=0:=by rw[e];rfl
 have hh:∀n r,Tt.L (Du " " (hd n::r))≠[]:=by
  intro n r z
  have:58∈Tt.L (Du " " (hd n::r)):=by
   have h58:58∈Tt.L (hd n):=by unfold hd;rw[Tt.L_app];exact Ax _ (by rw[show Tt.L (":":Str)=[58] from rfl];simp)
   cases r with
   | nil=>rw[tj];exact h58
   | cons y r=>rw[jn,Tt.L_app,Tt.L_app];exact Hf _ (Hf _ h58)
  rw[z] at this
  cases this
 cases w<;>exact hh _ _ (List.eq_nil_of_length_eq_zero this)
end
noncomputable def lets:Str:="abcdefghijklmnopqrstuvwxyz"
noncomputable def figs:Str:="0123456789"
theorem Q6{c:Nat}:c∈Tt.L lets↔Lc c:=by
 rw[show Tt.L lets=(Ij 26).map (97+·) by decide+kernel,Dg]
 unfold Lc
 constructor
 ·rintro⟨a,h,rfl⟩
  rw[Ia] at h
  omega
 ·intro h
  exact⟨c - 97,Ia.mpr (by omega),by omega⟩
theorem Cc{c:Nat}:c∈Tt.L figs↔48≤c∧c≤57:=by
 rw[show Tt.L figs=(Ij 10).map (48+·) by decide+kernel,Dg]
 constructor
 ·rintro⟨a,h,rfl⟩
  rw[Ia] at h
  omega
 ·intro h
  exact⟨c - 48,Ia.mpr (by omega),by omega⟩
def Zp:DSp:=fun ds M Q _=>∃x z:Str,ds=[.str x,.str z]∧x.length≤1000∧∀M',Kp M M'→Q (.bl ((Tt.L x).all fun c=>decide (c∈Tt.L z))) M'
def Z9:DSp:=fun ds M Q _=>∃(x:Str) (b:Bool),ds=[.str x]∧(if b=true then Nam x else ∃c r,Tt.L x=c::r∧¬Lc c∧x.length≤1000)∧∀M',Kp M M'→Q (.bl b) M'
def Za:DSp:=fun ds M Q _=>∃n m:Nat,ds=[.str (Tt.fig n),.int m]∧(Tt.fig n).length≤m∧m≤100∧∀M',Kp M M'→Q (.bl true) M'
def Z6:DSp:=fun ds M Q _=>∃n:Nat,ds=[.str (Tt.fig n)]∧n≤9999∧∀M',Kp M M'→Q (.int (n:Nat)) M'
def Zh:DSp:=fun ds M Q _=>∃n:Nat,ds=[.str (Tt.fig n)]∧n<1000000000000000000∧∀M',Kp M M'→Q (.int (-(n:Int))) M'
def Zi:DSp:=fun ds M Q _=>∃i:Int,ds=[.str (Opd.no i).t]∧(Opd.no i).ok∧∀M',Kp M M'→Q (.int i) M'
def Z7:DSp:=fun ds M Q _=>∃o:Opd,ds=[.str o.t]∧o.ok∧∀M',Kp M M'→Q o.d M'
section
variable{K:Ae}
theorem Ji{Γ G}:∀ds M Q Z,Zp ds M Q Z→tss ⟨K,Γ,G⟩ noX b_is_made_of {nx:=fun _ M=>Q .non M,rt:=Q} (start0 Wh ds) M:=by
 rintro ds M Q Z ⟨x,z,rfl,hx,q⟩
 delta b_is_made_of Wh
 walk_at "ev"
 have hl:(Nn x).length=x.length:=by unfold Nn;rw[Ah];exact Tt.L_len x
 refine V9 (fun i σ M'=>∃(d:Option D),σ=[d,some (.str z)]∧Kp M M'∧Zo M' M.length=some ((((Tt.L x).take i).map fun c=>decide (c∈Tt.L z)).map D.bl)) ⟨none,rfl,Ks.new _ _,Y8 _ _ []⟩ (fun _ _ _ _ _=>trivial) ?_ ?_
 ·rintro i d σ M' C hd ⟨d0,rfl,k,e⟩ hC
  have hi:i< (Tt.L x).length:=by
   have:=(Af.mp hd).1
   rw[hl] at this
   rwa[Tt.L_len]
  have hdi:d= .str ⟨#[(Tt.L x)[i]]⟩:=by
   unfold Nn at hd
   rw[Aq,Ag hi] at hd
   simpa using hd.symm
  subst hdi
  walk_at "ev"
  rw[Tt.in_one]
  refine⟨_,e,Zy (by rw[Ah,Ah,Ie,Tt.L_len];omega),hC _ _ ⟨_,rfl,k.set (.inr (Nat.le_refl _)),?_⟩⟩
  rw[Ym (Xv (Z3 e)),Le,Ag hi,Dh,Dh]
  rfl
 ·rintro σ M' ⟨d0,rfl,k,e⟩
  rw[hl,Dx (by rw[Tt.L_len];exact Nat.le_refl _)] at e
  refine⟨_,Z3 e,?_⟩
  rw[List.all_map]
  exact q _ k
theorem Zd2{Γ G}(e0:G[0]?=some (.str lets))(e1:G[1]?=some (.str figs))(e2:G[2]?=some (.gtup (kept.map D.str)))(e3:G[3]?=some (.int 8))(g:Γ[0]?=some Zp):∀ds M Q Z,Z9 ds M Q Z→tss ⟨K,Γ,G⟩ noX b_is_name {nx:=fun _ M=>Q .non M,rt:=Q} (start0 Si ds) M:=by
 rintro ds M Q Z ⟨x,b,rfl,hx,q⟩
 delta b_is_name Si
 walk_at "ev"
 simp only[e0,e1,e2,e3]
 obtain⟨c,tl,ex,hx8⟩:∃c tl,Tt.L x=c::tl∧x.length≤1000:=by
  cases b with
  | true=>
   obtain⟨_,h1,h8,_⟩:Nam x:=by simpa using hx
   cases h:Tt.L x with
   | nil=>have:=Tt.L_len x;rw[h] at this;simp at this;omega
   | cons c tl=>exact⟨c,tl,rfl,by omega⟩
  | false=>
   obtain⟨c,tl,h1,_,h2⟩:∃c r,Tt.L x=c::r∧¬Lc c∧x.length≤1000:=by simpa using hx
   exact⟨c,tl,h1,h2⟩
 have hne:¬x=("":Str):=fun z=>by rw[z] at ex;cases ex
 rw[if_pos hne]
 refine⟨Z0 (by omega),?_⟩
 walk_at "ev"
 split
 ·rename_i h8
  cases b with
  | true=>exact absurd (show Nam x by simpa using hx).2.2.1 (by omega)
  | false=>exact q _ (Ks.refl _)
 ·rename_i h8
  delta Qx
  walk_at "ev"
  simp only[e0,e1,e2,e3]
  refine⟨rfl,Qh _,?_⟩
  walk_at "ev"
  split
  ·rename_i hk
   cases b with
   | true=>exact absurd ((E4 _ _).mp hk) (show Nam x by simpa using hx).2.2.2
   | false=>exact q _ (Ks.refl _)
  ·delta Qw
   walk_at "ev"
   simp only[e0,e1,e2,e3]
   refine⟨Z0 (by omega),c,by rw[show x.cps.toList=c::tl from ex];exact ati0,?_⟩
   walk_at "ev"
   rw[Tt.in_one]
   split
   ·rename_i hc
    refine⟨Z0 (by decide+kernel),?_⟩
    simp only[g]
    refine⟨x,lets++figs,rfl,by omega,fun M' k'=>?_⟩
    have hb:b=true:=by
     cases b with
     | true=>rfl
     | false=>
      obtain⟨c',tl',h1,h2,_⟩:∃c r,Tt.L x=c::r∧¬Lc c∧x.length≤1000:=by simpa using hx
      rw[ex] at h1
      cases h1
      have hio:=Tt.in_one lets c
      rw[hc] at hio
      exact absurd (Q6.mp (of_decide_eq_true (hio.symm.trans rfl))) h2
    have:((Tt.L x).all fun c=>decide (c∈Tt.L (lets++figs)))=b:=by
     rw[hb,Dk]
     intro d hd
     have hN:Nam x:=by rw[hb] at hx;simpa using hx
     have:=hN.1.1 d hd
     rw[Tt.L_app]
     simp only[Dd,decide_eq_true_eq]
     rcases this with z | z
     ·exact .inl (Q6.mpr z)
     ·exact .inr (Cc.mpr z)
    rw[this]
    exact q _ k'
   ·rename_i hc
    cases b with
    | true=>
     have hN:Nam x:=by simpa using hx
     have hio:=Tt.in_one lets c
     rw[decide_eq_true (Q6.mpr (hN.1.2 c (by rw[ex];rfl)))] at hio
     exact absurd ((Bool.not_eq_true' _).mp hio) hc
    | false=>
     obtain⟨c',tl',h1,h2,_⟩:∃c r,Tt.L x=c::r∧¬Lc c∧x.length≤1000:=by simpa using hx
     rw[ex] at h1
     cases h1
     rw[decide_eq_false fun z=>h2 (Q6.mp z)]
     exact q _ (Ks.refl _)
theorem Ou{Γ G}(e1:G[1]?=some (.str figs))(g:Γ[0]?=some Zp):∀ds M Q Z,Za ds M Q Z→tss ⟨K,Γ,G⟩ noX b_are_figures {nx:=fun _ M=>Q .non M,rt:=Q} (start0 Wa ds) M:=by
 rintro ds M Q Z ⟨n,m,rfl,hl,hm,q⟩
 obtain⟨c,tl,ex,h0⟩:=Tt.fig_head n
 have hne:¬Tt.fig n=("":Str):=fun z=>by rw[z] at ex;cases ex
 delta b_are_figures Wa
 walk_at "ev"
 rw[if_pos hne]
 refine⟨Z0 (by omega),?_⟩
 rw[if_neg (by omega)]
 delta T5
 walk_at "ev"
 have fin:tss ⟨K,Γ,G⟩ noX Wf {nx:=fun _ M=>Q .non M,rt:=Q} [some (.str (Tt.fig n)),some (.int m)] M:=by
  delta Wf
  walk_at "ev"
  simp only[e1,g]
  refine⟨_,_,rfl,by omega,fun M' k'=>?_⟩
  have:((Tt.L (Tt.fig n)).all fun c=>decide (c∈Tt.L figs))=true:=by
   rw[Dk]
   intro d hd
   simpa using Cc.mpr (Tt.fig_digits hd)
  rw[this]
  exact q _ k'
 refine⟨Z0 (by omega),c,by rw[show(Tt.fig n).cps.toList=c::tl from ex];exact ati0,?_⟩
 by_cases hc:(⟨#[c]⟩:Str)="0"
 ·rw[if_pos hc]
  have c48:c=48:=by
   have:=congrArg Tt.L hc
   rw[L1,show Tt.L ("0":Str)=[48] from rfl] at this
   simpa using this
  have hl1:(Tt.fig n).length=1:=by rw[←Tt.L_len,ex,h0 c48];rfl
  refine⟨Z0 (by omega),?_⟩
  rw[if_neg (by omega)]
  exact fin
 ·rw[if_neg hc,if_neg hc]
  exact fin
theorem J7{Γ G}(e4:G[4]?=some (.int 4))(g:Γ[2]?=some Za):∀ds M Q Z,Z6 ds M Q Z→tss ⟨K,Γ,G⟩ noX b_read_number {nx:=fun _ M=>Q .non M,rt:=Q} (start0 Wd ds) M:=by
 rintro ds M Q Z ⟨n,rfl,hn,q⟩
 have hl:=Qm hn
 delta b_read_number Wd
 walk_at "ev"
 simp only[e4,g]
 refine⟨n,4,rfl,hl,by decide,fun M' k'=>?_⟩
 walk_at "ev"
 exact⟨_,Tt.fig_reads (by omega),by omega,q _ k'⟩
theorem Fb{Γ G}(e5:G[5]?=some (.int 18))(g:Γ[2]?=some Za):∀ds M Q Z,Zh ds M Q Z→tss ⟨K,Γ,G⟩ noX b_read_below_nought {nx:=fun _ M=>Q .non M,rt:=Q} (start0 Yt ds) M:=by
 rintro ds M Q Z ⟨n,rfl,hn,q⟩
 have hl:=Zj8 hn
 delta b_read_below_nought Yt
 walk_at "ev"
 simp only[e5,g]
 refine⟨n,18,rfl,hl,by decide,fun M' k'=>?_⟩
 walk_at "ev"
 exact⟨_,Tt.fig_reads (by omega),by omega,q _ k'⟩
theorem G6{Γ G}(e5:G[5]?=some (.int 18))(g:Γ[2]?=some Za)(gb:Γ[4]?=some Zh):∀ds M Q Z,Zi ds M Q Z→tss ⟨K,Γ,G⟩ noX b_read_whole {nx:=fun _ M=>Q .non M,rt:=Q} (start0 Wj ds) M:=by
 rintro ds M Q Z ⟨i,rfl,hi,q⟩
 obtain⟨h1,h2⟩:-1000000000000000000<i∧i<1000000000000000000:=id hi
 have h19:=Opd.len hi
 have d45:(("-":Str))=⟨#[45]⟩:=rfl
 delta b_read_whole Wj
 walk_at "ev"
 have hT:(Opd.no i).t=Str.ofString (toString i):=rfl
 rcases Opd.no_L (i:=i) with⟨n,e1,e2⟩ | ⟨n,e0,e1,e2⟩
 ·obtain⟨c,tl,ex,_⟩:=Tt.fig_head n
  rw[hT,e2]
  have hc:48≤c∧c≤57:=Tt.fig_digits (n:=n) (by rw[ex];exact Bs ..)
  rw[if_neg (fun z=>by rw[z] at ex;rw[show Tt.L ("-0":Str)=[45,48] from rfl] at ex;cases ex;omega)]
  delta Ww
  walk_at "ev"
  rw[d45,Tt.starts_c,ex]
  rw[if_neg (by simp;omega)]
  delta Tq
  walk_at "ev"
  simp only[e5,g]
  refine⟨n,18,rfl,Zj8 (by omega),by decide,fun M' k'=>?_⟩
  walk_at "ev"
  exact⟨_,Tt.fig_reads (by omega),by rw[hT,e2] at h19;omega,by rw[←e1];exact q _ k'⟩
 ·rw[hT]
  have hl:(Str.ofString (toString i)).length≤19:=h19
  rw[if_neg (fun z=>by
   rw[z,show Tt.L ("-0":Str)=[45,48] from rfl] at e2
   have e3:Tt.L (Tt.fig n)=[48]:=by simpa using e2.symm
   have:Tt.fig n=Tt.fig 0:=Tt.L_ext (by rw[e3];exact(Tt.fig_one (n:=0) (by decide)).symm)
   have h3:=Tt.fig_reads (n:=n) (by omega)
   rw[this,Tt.fig_reads (by decide)] at h3
   simp at h3
   omega)]
  delta Ww
  walk_at "ev"
  rw[d45,Tt.starts_c,e2]
  rw[if_pos (by simp)]
  refine⟨Z0 (by omega),?_⟩
  simp only[gb]
  have hs:Hy (Str.ofString (toString i)) (some 1) none=Tt.fig n:=Tt.L_ext (by
   have:=Tt.L_from (Str.ofString (toString i)) (i:=1) (by rw[←Tt.L_len,e2];simp)
   rw[e2] at this
   exact this)
  rw[hs]
  exact⟨n,rfl,by omega,fun M' k'=>by rw[←e1];exact q _ k'⟩
theorem Ps{Γ G}(gn:Γ[1]?=some Z9)(gw:Γ[5]?=some Zi):∀ds M Q Z,Z7 ds M Q Z→tss ⟨K,Γ,G⟩ noX b_read_operand {nx:=fun _ M=>Q .non M,rt:=Q} (start0 Xu ds) M:=by
 rintro ds M Q Z ⟨o,rfl,ho,q⟩
 delta b_read_operand Xu
 walk_at "ev"
 simp only[gn]
 cases o with
 | nm x=>
  refine⟨x,true,rfl,by rw[if_pos rfl];exact ho,fun M' k'=>?_⟩
  walk_at "ev"
  exact q _ k'
 | no i=>
  refine⟨_,false,rfl,?_,fun M' k'=>?_⟩
  ·have h19:=Opd.len ho
   rw[if_neg (by decide)]
   rcases Opd.no_L (i:=i) with⟨n,e1,e2⟩ | ⟨n,e0,e1,e2⟩
   ·obtain⟨c,tl,ex,_⟩:=Tt.fig_head n
    have hc:48≤c∧c≤57:=Tt.fig_digits (n:=n) (by rw[ex];exact Bs ..)
    exact⟨c,tl,by show Tt.L (Str.ofString (toString i))=_;rw[e2,ex],fun z=>by unfold Lc at z;omega,by omega⟩
   ·exact⟨45,_,e2,by decide,by omega⟩
  ·walk_at "ev"
   delta Vf
   walk_at "ev"
   simp only[gw]
   exact⟨i,rfl,ho,fun M2 k2=>q _ (k'.trans k2)⟩
end
def Zj:DSp:=fun ds M Q _=>∃(r:Nat) (a b:Opd) (s:Str) (sg:List Str),ds=[.ref r,.gtup (sg.map D.str)]∧Zd M r=some [.str a.t,.str s,.str b.t]∧a.ok∧b.ok∧s∈sg∧∀M',Kp M M'→Q (.tup [a.d,.str s,b.d]) M'
def X3:DSp:=fun ds M Q _=>∃(r:Nat) (g:Str) (a b:Opd) (s:Str),ds=[.ref r]∧Zd M r=some [.str g,.str "=",.str a.t,.str s,.str b.t]∧Nam g∧a.ok∧b.ok∧s∈sgnS∧∀M',Kp M M'→Q (.tup [.str g,a.d,.str s,b.d]) M'
def Zz:DSp:=fun ds M Q _=>∃(r:Nat) (a b:Opd) (s:Str),ds=[.ref r]∧Zd M r=some [.str a.t,.str s,.str b.t]∧a.ok∧b.ok∧s∈sgnT∧∀M',Kp M M'→Q (.tup [a.d,.str s,b.d]) M'
def Yc:DSp:=fun ds M Q _=>∃n:Nat,ds=[.str (Tt.fig n)]∧n≤9999∧∀M',Kp M M'→Q (.tup [.str "jump",.int (n:Nat)]) M'
def Ze:DSp:=fun ds M Q _=>∃(r t:Nat) (a b:Opd) (s:Str),ds=[.ref r]∧Zd M r=some [.str "if",.str a.t,.str s,.str b.t,.str "jump",.str (Tt.fig t)]∧a.ok∧b.ok∧s∈sgnT∧t≤9999∧∀M',Kp M M'→Q (.tup [.str "test",a.d,.str s,b.d,.int (t:Nat)]) M'
noncomputable def Rw.told:Rw→List D
 | .sum _ g a s b=>[.str "sum",.str g,a.d,.str s,b.d]
 | .test _ a s b t=>[.str "test",a.d,.str s,b.d,.int (t:Nat)]
 | .jump _ t=>[.str "jump",.int (t:Nat)]
 | .fin _=>[.str "end"]
def Yl:DSp:=fun ds M Q _=>∃(r:Nat) (w:Rw) (ns:List Nat),ds=[.ref r]∧Zd M r=some (w.words.tail.map D.str)∧w.ok ns∧(∀n∈ns,n≤9999)∧∀M',Kp M M'→Q (.tup w.told) M'
def Zg:DSp:=fun ds M Q _=>∃(w:Rw) (ns:List Nat),ds=[.str w.line]∧w.ok ns∧(∀n∈ns,n≤9999)∧∀M',Kp M M'→Q w.d M'
theorem Zn8{M:Z2}{o:Opd}{F:Bool→Prop}(h:F false):cmD M .is o.d .non F:=by cases o<;>exact h
theorem J1(M:Z2):∀xs:List Str,PDs M (xs.map Kl) (xs.map D.str)
 | []=>rfl
 | x::xs=>⟨_,_,rfl,rfl,J1 M xs⟩
theorem Oo:∀{xs:List Str},(∀x∈xs,free x)→PyData.canLayAll0 (xs.map Kl)=true
 | [],_=>rfl
 | x::xs,h=>by
  show(PySem.PyData.strOk x&&PyData.canLayAll0 (xs.map Kl))=true
  rw[Oo fun y hy=>h y (Az _ hy),Bool.and_true]
  unfold PySem.PyData.strOk
  rw[←Array.all_toList,Dk]
  intro c hc
  have:=(h x (Bs ..) c hc).2.2
  simp only[decide_eq_true_eq]
  omega
theorem Jb:∀xs:List Str,PyData.depthAll (xs.map Kl)=0
 | []=>rfl
 | x::xs=>by
  show max 0 (PyData.depthAll (xs.map Kl))=0
  rw[Jb xs]
  rfl
theorem Cu:∀xs ys:List Str,PyData.eqvAll (xs.map Kl) (ys.map Kl)=decide (xs=ys)
 | [],[]=>rfl
 | [],_::_=>by simp[PyData.eqvAll]
 | _::_,[]=>by simp[PyData.eqvAll]
 | x::xs,y::ys=>by
  show((x==y)&&PyData.eqvAll (xs.map Kl) (ys.map Kl))=_
  rw[Cu xs ys,Bool.eq_iff_iff]
  simp
theorem Zy7{M:Z2}{m n:Nat}{xs ys:List Str}{F:Bool→Prop}(h1:Zd M m=some (xs.map D.str))(h2:Zd M n=some (ys.map D.str))(f1:∀x∈xs,free x)(f2:∀x∈ys,free x)(q:F (decide (xs=ys))):eqD M (.ref m) (.ref n) F:=by
 refine .inl ⟨.list (xs.map Kl),.list (ys.map Kl),⟨m,_,rfl,h1,J1 M xs⟩,⟨n,_,rfl,h2,J1 M ys⟩,Oo f1,Oo f2,?_,?_⟩
 ·show min (PyData.depthAll _+1) (PyData.depthAll _+1)≤60
  rw[Jb,Jb]
  decide
 ·show F (PyData.eqvAll _ _)
  rw[Cu]
  exact q
section
variable{K:Ae}
theorem Jx{Γ G}(g:Γ[6]?=some Z7):∀ds M Q Z,Zj ds M Q Z→tss ⟨K,Γ,G⟩ noX b_read_asked {nx:=fun _ M=>Q .non M,rt:=Q} (start0 Wn ds) M:=by
 rintro ds M Q Z ⟨r,a,b,s,sg,rfl,hr,ha,hb,hs,q⟩
 delta b_read_asked Wn
 walk_at "ev"
 simp only[g]
 refine Vk hr ati0 ⟨a,rfl,ha,fun M1 k1=>Vk (k1.pL hr) ati2 ⟨b,rfl,hb,fun M2 k2=>?_⟩⟩
 walk_at "ev"
 have hr2:=k2.pL (k1.pL hr)
 refine Zn8 ?_
 rw[if_pos rfl]
 refine Zn8 ?_
 rw[if_pos rfl]
 refine Vk hr2 ati1 ⟨rfl,Qh _,?_⟩
 rw[(E4 _ _).mpr hs]
 walk_at "ev"
 delta Tv
 walk_at "ev"
 exact Vk hr2 ati1 ⟨Z0 (by simp),q _ (k1.trans k2)⟩
theorem Z06{Γ G}(e6:G[6]?=some (.gtup (sgnS.map D.str)))(gn:Γ[1]?=some Z9)(g:Γ[7]?=some Zj):∀ds M Q Z,X3 ds M Q Z→tss ⟨K,Γ,G⟩ noX b_read_sum {nx:=fun _ M=>Q .non M,rt:=Q} (start0 Te ds) M:=by
 rintro ds M Q Z ⟨r,x,a,b,s,rfl,hr,hx,ha,hb,hs,q⟩
 delta b_read_sum Te
 walk_at "ev"
 refine Y1 hr ?_
 walk_at "ev"
 refine Vk hr ati1 ?_
 walk_at "ev"
 refine Vk hr ati0 ?_
 simp only[gn]
 refine⟨x,true,rfl,by rw[if_pos rfl];exact hx,fun M1 k1=>?_⟩
 walk_at "ev"
 delta Ri
 walk_at "ev"
 simp only[e6,g]
 refine⟨_,k1.pL hr,M1.length,a,b,s,sgnS,rfl,Zv _ _ [],ha,hb,hs,fun M2 k2=>?_⟩
 walk_at "ev"
 delta Rj
 walk_at "ev"
 have kk:=k1.trans ((Ks.new (F:=fun _=>False) _ _).trans k2)
 exact Vk (kk.pL hr) ati0 ⟨Z0 (by decide),by simp,Z0 (by decide),q _ kk⟩
theorem Fi{Γ G}(e7:G[7]?=some (.gtup (sgnT.map D.str)))(g:Γ[7]?=some Zj):∀ds M Q Z,Zz ds M Q Z→tss ⟨K,Γ,G⟩ noX b_read_test {nx:=fun _ M=>Q .non M,rt:=Q} (start0 Ve ds) M:=by
 rintro ds M Q Z ⟨r,a,b,s,rfl,hr,ha,hb,hs,q⟩
 delta b_read_test Ve
 walk_at "ev"
 refine Y1 hr ?_
 walk_at "ev"
 delta Sa
 walk_at "ev"
 simp only[e7,g]
 exact⟨r,a,b,s,sgnT,rfl,hr,ha,hb,hs,q⟩
theorem E2{Γ G}(g:Γ[3]?=some Z6):∀ds M Q Z,Yc ds M Q Z→tss ⟨K,Γ,G⟩ noX b_read_jump {nx:=fun _ M=>Q .non M,rt:=Q} (start0 V8 ds) M:=by
 rintro ds M Q Z ⟨n,rfl,hn,q⟩
 delta b_read_jump V8
 walk_at "ev"
 simp only[g]
 refine⟨n,rfl,hn,fun M' k'=>?_⟩
 walk_at "ev"
 delta Sc
 walk_at "ev"
 exact⟨Z0 (by decide),q _ k'⟩
theorem Qn{Γ G}(gt:Γ[9]?=some Zz)(gn:Γ[3]?=some Z6):∀ds M Q Z,Ze ds M Q Z→tss ⟨K,Γ,G⟩ noX b_read_test_row {nx:=fun _ M=>Q .non M,rt:=Q} (start0 Xn ds) M:=by
 rintro ds M Q Z ⟨r,t,a,b,s,rfl,hr,ha,hb,hs,ht,q⟩
 delta b_read_test_row Xn
 walk_at "ev"
 simp only[gt]
 refine⟨_,hr,M.length,a,b,s,rfl,Zv _ _ [],ha,hb,hs,fun M1 k1=>?_⟩
 have k01:=(Ks.new (F:=fun _=>False) M [.lst (U.cutD [.str "if",.str a.t,.str s,.str b.t,.str "jump",.str (Tt.fig t)] (some 1) (some 4))]).trans k1
 refine Vk (k01.pL hr) (Yv (j:=5) rfl) ?_
 simp only[gn]
 refine⟨t,rfl,ht,fun M2 k2=>?_⟩
 walk_at "ev"
 delta Wy
 walk_at "ev"
 exact⟨Z0 (by decide),by simp,Z0 (by decide),Z0 (by decide),by simp,Z0 (by decide),q _ (k01.trans k2)⟩
theorem Fv{Γ G}(gs:Γ[8]?=some X3)(gj:Γ[12]?=some Yc)(gt:Γ[13]?=some Ze):∀ds M Q Z,Yl ds M Q Z→tss ⟨K,Γ,G⟩ noX b_read_told {nx:=fun _ M=>Q .non M,rt:=Q} (start0 V4 ds) M:=by
 rintro ds M Q Z ⟨r,w,ns,rfl,hr,hw,hN,q⟩
 have hf:∀x∈w.words.tail,free x:=fun x hx=>(w.wok hw hN x (List.mem_of_mem_tail hx)).2
 delta b_read_told V4
 walk_at "ev"
 refine⟨Z0 (by decide),Zy7 (ys:=["end"]) (Wx hr) (Zv _ _ []) hf (fun x hx=>by rw[Bk.mp hx];exact(Zp6 _ (by simp)).2) ?_⟩
 have k0:Kp M (M++[.lst [.str "end"]]):=Ks.new _ _
 have hr':=k0.pL hr
 cases w with
 | fin n=>
  rw[if_pos (by simp[Rw.words])]
  exact⟨Z0 (by decide),q _ k0⟩
 | jump n t=>
  rw[if_neg (by simp[Rw.words])]
  delta Wb
  walk_at "ev"
  have hr2:Zd (M++[.lst [.str "end"]]) r=some [.str "jump",.str (Tt.fig t)]:=hr'
  refine Y1 hr2 ?_
  walk_at "ev"
  refine Vk hr2 ati0 ?_
  walk_at "ev"
  refine Vk hr2 ati1 ?_
  simp only[gj]
  exact⟨t,rfl,hN t hw.2,fun M1 k1=>q _ (k0.trans k1)⟩
 | sum n g a s b=>
  obtain⟨h1,h2,h3,h4,h5⟩:=id hw
  rw[if_neg (by simp[Rw.words])]
  have hr2:Zd (M++[.lst [.str "end"]]) r=some [.str g,.str "=",.str a.t,.str s,.str b.t]:=hr'
  delta Wb
  walk_at "ev"
  refine Y1 hr2 ?_
  walk_at "ev"
  rw[if_neg (by decide)]
  try rw[if_neg (by decide)]
  delta V5
  walk_at "ev"
  refine Y1 hr2 ?_
  walk_at "ev"
  try rw[if_neg (by decide)]
  try rw[if_neg (by decide)]
  delta Sf
  walk_at "ev"
  simp only[gs]
  refine⟨r,g,a,b,s,rfl,hr2,h2,h3,h5,h4,fun M1 k1=>?_⟩
  walk_at "ev"
  delta Sh
  walk_at "ev"
  exact⟨Z0 (by decide),by simp,Z0 (by decide),q _ (k0.trans k1)⟩
 | test n a s b t=>
  obtain⟨h1,h2,h3,h4,h5⟩:=id hw
  rw[if_neg (by simp[Rw.words])]
  have hr2:Zd (M++[.lst [.str "end"]]) r=some [.str "if",.str a.t,.str s,.str b.t,.str "jump",.str (Tt.fig t)]:=hr'
  delta Wb
  walk_at "ev"
  refine Y1 hr2 ?_
  walk_at "ev"
  rw[if_neg (by decide)]
  try rw[if_neg (by decide)]
  delta V5
  walk_at "ev"
  refine Y1 hr2 ?_
  walk_at "ev"
  refine Vk hr2 ati0 ?_
  walk_at "ev"
  refine Vk hr2 (Yv (j:=4) rfl) ?_
  walk_at "ev"
  simp only[gt]
  exact⟨r,t,a,b,s,rfl,hr2,h2,h4,h3,hN t h5,fun M1 k1=>q _ (k0.trans k1)⟩
theorem Z34{Γ G}(gn:Γ[3]?=some Z6)(gt:Γ[14]?=some Yl):∀ds M Q Z,Zg ds M Q Z→tss ⟨K,Γ,G⟩ noX b_read_row {nx:=fun _ M=>Q .non M,rt:=Q} (start0 Td ds) M:=by
 rintro ds M Q Z ⟨w,ns,rfl,hw,hN,q⟩
 have hsp:Ko w.line " "=w.words:=by
  unfold Rw.line
  rw[sp32]
  exact Tt.split_join w.wlen.2 fun x hx hc=>((w.wok hw hN x hx).2 32 hc).1 rfl
 have hll:=Q4 hw hN
 obtain⟨n,tl,hwd,hn,hd1,hd2⟩:∃n tl,w.words=hd n::tl∧n∈ns∧w.n=n∧w.d= .tup (.int (n:Nat)::w.told):=by
  cases w with
  | sum n g a s b=>exact⟨n,_,rfl,hw.1,rfl,rfl⟩
  | test n a s b t=>exact⟨n,_,rfl,hw.1,rfl,rfl⟩
  | jump n t=>exact⟨n,_,rfl,hw.1,rfl,rfl⟩
  | fin n=>exact⟨n,_,rfl,hw,rfl,rfl⟩
 delta b_read_row Td
 walk_at "ev"
 rw[hsp,hwd]
 refine⟨rfl,Z0 (by omega),Vk (Zv _ _ []) ati0 ?_⟩
 walk_at "ev"
 have hde:Txt.endswith (hd n) ":"=true:=Tt.ends_c _ 58
 rw[hde,if_neg (by decide)]
 delta Ra
 walk_at "ev"
 have k0:Kp M (M++[.lst (D.str (hd n)::tl.map D.str)]):=Ks.new _ _
 have hr0:Zd (M++[.lst (D.str (hd n)::tl.map D.str)]) M.length=some (D.str (hd n)::tl.map D.str):=Zv _ _ []
 have hh:=Zb4 (hN n hn)
 have hcut:Hy (hd n) none (some (-1))=Tt.fig n:=Tt.L_ext (Tt.L_cut (y:=Tt.fig n) (c:=58))
 refine Vk hr0 ati0 ?_
 walk_at "ev"
 refine⟨Z0 (by omega),?_⟩
 rw[hcut]
 simp only[gn,gt]
 refine⟨n,rfl,hN n hn,fun M1 k1=>?_⟩
 walk_at "ev"
 refine⟨_,k1.pL hr0,M1.length,w,ns,rfl,?_,hw,hN,fun M2 k2=>?_⟩
 ·rw[Zv _ _ []]
  have:U.cutD (D.str (hd n)::tl.map D.str) (some 1) none=tl.map D.str:=by
   unfold U.cutD HT.sIx
   simp
   rw[Dx (by simp)]
  rw[this,hwd]
  rfl
 ·walk_at "ev"
  delta Rf
  walk_at "ev"
  have:=q M2 (k0.trans (k1.trans ((Ks.new (F:=fun _=>False) _ _).trans k2)))
  rw[hd2] at this
  have l6:w.told.length≤10:=by cases w<;>simp[Rw.told]
  exact⟨Z0 (by decide),by simp,Z0 (by omega),this⟩
end
theorem Rw.d_eq(w:Rw):w.d= .tup (.int (w.n:Nat)::w.told):=by cases w<;>rfl
noncomputable def isD'(ps:List Nat):List D:=ps.map fun(p:Nat)=>D.int p
def At(ls:List Str)(ps:List Nat)(ws:List Rw):Prop:=ps.map (ls[·]?)=ws.map fun w=>some w.line
theorem At.len{ls:List Str}{ps:List Nat}{ws:List Rw}(h:At ls ps ws):ps.length=ws.length:=by
 have:=congrArg List.length h
 rwa[Ah,Ah] at this
theorem At.at'{ls:List Str}{ps:List Nat}{ws:List Rw}(h:At ls ps ws){j p:Nat}(hp:ps[j]?=some p):∃w,ws[j]?=some w∧ls[p]?=some w.line:=by
 have:=congrArg (·[j]?) h
 simp only[Aq,hp,Option.map_some] at this
 cases hw:ws[j]? with
 | none=>rw[hw] at this;cases this
 | some w=>rw[hw] at this;exact⟨w,rfl,by simpa using this⟩
def Z8:DSp:=fun ds M Q _=>∃(r p:Nat) (ls:List Str) (ps ns:List Nat) (ws:List Rw),ds=[.ref r,.ref p]∧Zd M r=some (ls.map D.str)∧Zd M p=some (isD' ps)∧Gd ns ws∧At ls ps ws∧
 ∀M' o,Kp M M'→M.length≤o→Zo M' o=some (ws.map Rw.d)→Q (.ref o) M'
def Yw:DSp:=fun ds M Q _=>∃(r p:Nat) (ps ns:List Nat) (ws:List Rw),ds=[.ref r,.ref p]∧Zd M r=some (ws.map Rw.d)∧Zd M p=some (isD' ps)∧Gd ns ws∧∀M',Kp M M'→Q .non M'
def Yq:DSp:=fun ds M Q _=>∃(ls:List Str) (ns:List Nat) (ws:List Rw),ds=[.str (Du "\n" ls)]∧ls≠[]∧ls.length≤1000∧ls.filter (fun x=>decide (x≠("":Str)))=ws.map Rw.line∧Gd ns ws∧ws.length≤80∧
 ∀M' o,Kp M M'→M.length≤o→Zo M' o=some (ws.map Rw.d)→Q (.ref o) M'
theorem Zi6(m:List (Key×D))(k j:Key)(v:D):valD (putD m k v) j=if k=j then some v else valD m j:=by
 unfold putD
 split
 ·rename_i h
  unfold valD
  induction m with
  | nil=>simp at h
  | cons p r ih=>
   rw[Ch,Ic,Ic]
   by_cases hp:p.1=k
   ·rw[if_pos hp]
    by_cases hj:k=j
    ·subst hj;simp[hp]
    ·have:decide (p.1=j)=false:=by rw[decide_eq_false_iff_not,hp];exact hj
     simp only[this]
     rw[if_neg hj]
     by_cases hr:(r.any fun kv=>decide (kv.1=k))=true
     ·have:=ih hr;rw[if_neg hj] at this;exact this
     ·have hn:r.map (fun kv=>if kv.1=k then(kv.1,v) else kv)=r:=by
       rw[List.map_congr_left (g:=id)]
       ·simp
       ·intro kv hkv
        rw[if_neg]
        ·rfl
        ·intro z;exact hr (Kj.mpr ⟨kv,hkv,by simpa using z⟩)
      rw[hn]
   ·rw[if_neg hp]
    have hr:(r.any fun kv=>decide (kv.1=k))=true:=by simpa[hp] using h
    by_cases hj:p.1=j
    ·have:¬k=j:=fun z=>hp (hj.trans z.symm)
     simp[hj,this]
    ·simp only[hj,decide_false]
     exact ih hr
 ·rename_i h
  unfold valD
  rw[List.find?_append]
  by_cases hj:k=j
  ·subst hj
   have:m.find? (fun kv=>decide (kv.1=k))=none:=by
    rw[List.find?_eq_none]
    intro kv hkv z
    exact h (Kj.mpr ⟨kv,hkv,z⟩)
   rw[this]
   simp
  ·rw[if_neg hj]
   simp[hj]
noncomputable def trP(ns:List Nat):List (Key×D):=ns.map fun(n:Nat)=>((Im (n:Int),D.bl true):Key×D)
theorem Ca(k:Key):∀(ps m:List (Key×D)),((valD m k).isSome=true∨k∈ps.map (·.1))→(valD (ps.foldl (fun m p=>putD m p.1 p.2) m) k).isSome=true
 | [],m,h=>h.elim id fun z=>by cases z
 | p::ps,m,h=>by
  rw[Kt]
  refine Ca k ps _ ?_
  rw[Zi6]
  by_cases e:p.1=k
  ·rw[if_pos e];exact .inl rfl
  ·rw[if_neg e]
   rcases h with z | z
   ·exact .inl z
   ·rw[Ch,Am] at z
    exact .inr (z.resolve_left fun x=>e x.symm)
theorem Zo0{ns:List Nat}{t:Nat}(h:t∈ns):(valD (N5 (trP ns)) (Im (t:Int))).isSome=true:=by
 refine Ca _ _ _ (.inr ?_)
 unfold trP
 rw[Mg]
 exact Dg.mpr ⟨t,h,rfl⟩
section
variable{K:Ae}
theorem Ju{Γ G}(g:Γ[15]?=some Zg):∀ds M Q Z,Z8 ds M Q Z→tss ⟨K,Γ,G⟩ noX b_read_lines {nx:=fun _ M=>Q .non M,rt:=Q} (start0 Wl ds) M:=by
 rintro ds M Q Z ⟨r,p,ls,ps,ns,ws,rfl,hr,hp,hG,hA,q⟩
 have hwl:ws.length=ns.length:=by rw[←hG.eq,Ah]
 have h80:=hG.len
 delta b_read_lines Wl
 walk_at "ev"
 refine⟨Nat.zero_le _,_,Wx hp,?_⟩
 refine Nr (fun i σ M'=>∃(b:Int) (d4 d5:Option D),σ=[some (.ref r),some (.ref p),some (.ref M.length),some (.int b),d4,d5]∧Kp M M'∧Zo M' M.length=some ((ws.take i).map Rw.d)∧∀j w,i≤j→ws[j]?=some w→b<w.n) ⟨-1,none,none,rfl,Ks.new _ _,Y8 _ _ [],fun j w _ _=>by omega⟩ (fun i σ M' _ zz141=>by obtain⟨b,d4,d5,_,k,_⟩:=zz141;exact k.pL hp) ?_ ?_
 ·rintro i d σ M' C hd ⟨b,d4,d5,rfl,k,e,hb⟩ hC
  obtain⟨pl,hpl,rfl⟩:∃pl:Nat,ps[i]?=some pl∧d= .int (pl:Nat):=by
   unfold isD' at hd
   rw[Aq] at hd
   cases h:ps[i]? with
   | none=>rw[h] at hd;cases hd
   | some x=>rw[h] at hd;exact⟨x,rfl,by simpa using hd.symm⟩
  obtain⟨w,hw,hlw⟩:=hA.at' hpl
  have hwm:=Ha hw
  delta Tu
  walk_at "ev"
  refine ix_l (k.pL hr) (d:= .str w.line) (by rw[Aq,hlw];rfl) ?_
  simp only[g]
  refine⟨w,ns,rfl,hG.ok w hwm,hG.top,fun M2 k2=>?_⟩
  rw[w.d_eq]
  walk_at "ev"
  have hbw:=hb i w (Nat.le_refl _) hw
  rw[if_neg (by omega)]
  delta Tp
  walk_at "ev"
  have e2:=k2.pW e
  have hi:i<ws.length:=(Af.mp hw).1
  refine⟨Vo (Z3 e2),_,e2,Zy (by rw[Ah,Ie];omega),hC _ _ ⟨_,_,_,rfl,(k.trans k2).set (.inr (Nat.le_refl _)),?_,fun j x hj hx=>?_⟩⟩
  ·rw[Ym (Xv (Z3 e2)),Le,hw,Dh]
   show _=some (_++[w.d])
   rw[w.d_eq]
  ·have hp:=hG.inc
   rw[←hG.eq] at hp
   have:=List.pairwise_iff_getElem.mp hp i j (by rw[Ah];exact hi) (by rw[Ah];exact(Af.mp hx).1) (by omega)
   rw[List.getElem_map,List.getElem_map,(Af.mp hw).2,(Af.mp hx).2] at this
   omega
 ·rintro σ M' ⟨b,d4,d5,rfl,k,e,hb⟩
  delta Tm
  walk_at "ev"
  rw[Dx (by unfold isD';rw[Ah,hA.len];exact Nat.le_refl _)] at e
  exact q _ _ k (Nat.le_refl _) e
theorem Zh1{Γ G}:∀ds M Q Z,Yw ds M Q Z→tss ⟨K,Γ,G⟩ noX b_refuse_lost_jumps {nx:=fun _ M=>Q .non M,rt:=Q} (start0 Yu ds) M:=by
 rintro ds M Q Z ⟨r,p,ps,ns,ws,rfl,hr,hp,hG,q⟩
 have hwl:ws.length=ns.length:=by rw[←hG.eq,Ah]
 have h80:=hG.len
 delta b_refuse_lost_jumps Yu
 walk_at "ev"
 refine⟨_,hr,?_⟩
 refine V9 (fun i σ M'=>∃(d:Option D),σ=[d]∧Kp M M'∧M.length<M'.length∧Zo M' M.length=some (U.Np (trP (ns.take i)))) ⟨none,rfl,Ks.new _ _,by simp,Y8 _ _ []⟩ (fun i σ M' _ zz142=>by obtain⟨d,_,k,_⟩:=zz142;exact k.pL hr) ?_ ?_
 ·rintro i d σ M' C hd ⟨d0,rfl,k,hlt,e⟩ hC
  obtain⟨w,hw,rfl⟩:∃w,ws[i]?=some w∧d=w.d:=by
   rw[Aq] at hd
   cases h:ws[i]? with
   | none=>rw[h] at hd;cases hd
   | some x=>rw[h] at hd;exact⟨x,rfl,by simpa using hd.symm⟩
  have hn:ns[i]?=some w.n:=by rw[←hG.eq,Aq,hw];rfl
  have hi:=(Af.mp hw).1
  rw[w.d_eq]
  walk_at "ev"
  refine⟨Z0 (by decide),_,e,Zy (by unfold U.Np trP;rw[Ah,Ah,Ie];omega),hC _ _ ⟨_,rfl,k.set (.inr (Nat.le_refl _)),by rw[Iw];exact hlt,?_⟩⟩
  rw[Ym hlt,Le,hn]
  unfold U.Np trP
  rw[Dh,Dh]
  rfl
 ·rintro σ M' ⟨d0,rfl,k,hlt,e⟩
  rw[Ah,Dx (by omega)] at e
  refine .inr ⟨trP ns,Z3 e,Zy (by unfold trP;rw[Ah];omega),?_⟩
  have kd:Kp M (M'++[.dct (N5 (trP ns))]):=k.app _
  refine⟨_,_,kd.pL hp,kd.pL hr,?_⟩
  refine Nr (fun i σ N=>∃(d3 d4:Option D),σ=[some (.ref r),some (.ref p),some (.ref M'.length),d3,d4]∧N=M'++[.dct (N5 (trP ns))]) ⟨none,none,rfl,rfl⟩ ?_ ?_ ?_
  ·rintro i σ N _ ⟨d3,d4,rfl,rfl⟩
   exact⟨_,_,kd.pL hp,kd.pL hr,rfl⟩
  ·rintro i d σ N C hd ⟨d3,d4,rfl,rfl⟩ hC
   obtain⟨pl,w,hw,rfl⟩:∃(pl:D) (w:Rw),w∈ws∧d= .tup [pl,w.d]:=by
    have:=Ha hd
    unfold zipT at this
    obtain⟨⟨a,b⟩,h1,rfl⟩:=Dg.mp this
    obtain⟨w,hw,rfl⟩:=Dg.mp (List.of_mem_zip h1).2
    exact⟨a,w,hw,rfl⟩
   have hG':=hG.ok w hw
   have hrd:Vm (M'++[.dct (N5 (trP ns))]) M'.length=some (N5 (trP ns)):=by unfold Vm;rw[Zb6]
   delta Xz
   cases w with
   | sum n g a s b=>
    simp only[Rw.d]
    walk_at "ev"
    refine⟨Z0 (by decide),rfl,rfl,?_⟩
    rw[show inD (.str "sum") [.str "test",.str "jump"]=false by decide+kernel]
    walk_at "ev"
    exact hC _ _ ⟨_,_,rfl,rfl⟩
   | test n a s b t=>
    simp only[Rw.d]
    walk_at "ev"
    refine⟨Z0 (by decide),rfl,rfl,?_⟩
    rw[show inD (.str "test") [.str "test",.str "jump"]=true by decide+kernel]
    walk_at "ev"
    refine⟨.int (t:Nat),rfl,.inr (.inl ⟨_,_,hrd,rfl,?_⟩)⟩
    rw[Zo0 hG'.2.2.2.2]
    walk_at "ev"
    exact hC _ _ ⟨_,_,rfl,rfl⟩
   | jump n t=>
    simp only[Rw.d]
    walk_at "ev"
    refine⟨Z0 (by decide),rfl,rfl,?_⟩
    rw[show inD (.str "jump") [.str "test",.str "jump"]=true by decide+kernel]
    walk_at "ev"
    refine⟨.int (t:Nat),rfl,.inr (.inl ⟨_,_,hrd,rfl,?_⟩)⟩
    rw[Zo0 hG'.2]
    walk_at "ev"
    exact hC _ _ ⟨_,_,rfl,rfl⟩
   | fin n=>
    simp only[Rw.d]
    walk_at "ev"
    refine⟨Z0 (by decide),rfl,rfl,?_⟩
    rw[show inD (.str "end") [.str "test",.str "jump"]=false by decide+kernel]
    walk_at "ev"
    exact hC _ _ ⟨_,_,rfl,rfl⟩
  ·rintro σ N ⟨d3,d4,rfl,rfl⟩
   exact q _ kd
theorem Zu8{α:Type}{xs:List α}{x:α}(h:0<xs.length)(e:xs[xs.length - 1]?=some x):atI xs (-1)=some x:=by
 have:ixN xs.length (-1)=some (xs.length - 1):=by unfold ixN;simp;omega
 unfold atI
 rw[this]
 exact e
theorem Ef(c:Nat):∀(xs:List Str) (d:Nat),d∈Tt.L (Str.join ⟨#[c]⟩ xs)→d=c∨∃x∈xs,d∈Tt.L x
 | [],d,h=>by cases h
 | [x],d,h=> .inr ⟨x,Bk.mpr rfl,h⟩
 | x::y::r,d,h=>by
  rw[Tt.L_join,Dd,Am] at h
  rcases h with z | z | z
  ·exact .inr ⟨x,Bs ..,z⟩
  ·exact .inl z
  ·rcases Ef c (y::r) d z with z | ⟨w,h1,h2⟩
   ·exact .inl z
   ·exact .inr ⟨w,Az _ h1,h2⟩
theorem Zc7{w:Rw}{ns:List Nat}(h:w.ok ns)(hN:∀n∈ns,n≤9999):10∉Tt.L w.line:=by
 intro z
 unfold Rw.line at z
 rw[tj,sp32] at z
 rcases Ef 32 _ _ z with e | ⟨x,h1,h2⟩
 ·cases e
 ·exact((w.wok h hN x h1).2 10 h2).2.1 rfl
theorem Y59{Γ G}(e8:G[8]?=some (.int 80))(gl:Γ[16]?=some Z8)(gr:Γ[17]?=some Yw):∀ds M Q Z,Yq ds M Q Z→tss ⟨K,Γ,G⟩ noX b_read {nx:=fun _ M=>Q .non M,rt:=Q} (start0 Eu ds) M:=by
 rintro ds M Q Z ⟨ls,ns,ws,rfl,hne,hl,hf,hG,h80,q⟩
 have hwl:ws.length=ns.length:=by rw[←hG.eq,Ah]
 rw[hwl] at h80
 have hin:∀x∈ls,x≠("":Str)→∃w∈ws,x=w.line:=fun x hx h0=>by
  have:x∈ls.filter (fun x=>decide (x≠("":Str))):=List.mem_filter.mpr ⟨hx,by simpa using h0⟩
  rw[hf] at this
  obtain⟨w,hw,rfl⟩:=Dg.mp this
  exact⟨w,hw,rfl⟩
 have hsp:Ko (Du "\n" ls) "\n"=ls:=by
  rw[nl10]
  refine Tt.split_join hne fun x hx hc=>?_
  by_cases h0:x=("":Str)
  ·rw[h0] at hc;cases hc
  ·obtain⟨w,hw,rfl⟩:=hin x hx h0
   exact Zc7 (hG.ok w hw) hG.top hc
 have hxl:∀x∈ls,x.length≤140:=fun x hx=>by
  by_cases h0:x=("":Str)
  ·rw[h0];decide
  ·obtain⟨w,hw,rfl⟩:=hin x hx h0
   exact Q4 (hG.ok w hw) hG.top
 have hjl:=R8 "\n" (by decide) hxl
 have hjl2:=Nat.mul_le_mul_right 141 hl
 delta b_read Eu
 walk_at "ev"
 rw[hsp]
 refine⟨rfl,Z0 (by omega),_,Zv _ _ [],?_⟩
 obtain⟨S,hS⟩:∃S:Z2,S=M++[.lst (ls.map D.str)]:=⟨_,rfl⟩
 have hSr:Zd S M.length=some (ls.map D.str):=by rw[hS];exact Zv _ _ []
 have kS:Kp M S:=by rw[hS];exact Ks.new _ _
 rw[←hS]
 refine V9 (fun i σ M'=>∃(d0 d1:Option D) (ps:List Nat),σ=[d0,d1]∧Kp S M'∧S.length<M'.length∧Zo M' S.length=some (isD' ps)∧ps.length≤i∧ps.map (ls[·]?)=((ls.take i).filter (fun x=>decide (x≠("":Str)))).map some) ⟨none,none,[],rfl,Ks.new _ _,by simp,Y8 _ _ [],Nat.le_refl _,rfl⟩ (fun i σ M' _ zz143=>by obtain⟨d0,d1,ps,_,k,_⟩:=zz143;exact⟨_,k.pL hSr,rfl⟩) ?_ ?_
 ·rintro i d σ M' C hd ⟨d0,d1,ps,rfl,k,hlt,e,hpl,hpm⟩ hC
  obtain⟨x,hx,rfl⟩:∃x,ls[i]?=some x∧d= .tup [.int (i:Nat),.str x]:=by
   unfold Ec at hd
   rw[List.getElem?_mapIdx,Aq] at hd
   cases h:ls[i]? with
   | none=>rw[h] at hd;cases hd
   | some x=>rw[h] at hd;exact⟨x,rfl,by simpa using hd.symm⟩
  have hi:=(Af.mp hx).1
  walk_at "ev"
  by_cases h0:x=("":Str)
  ·rw[if_neg (fun z=>z h0)]
   refine hC _ _ ⟨_,_,ps,rfl,k,hlt,e,by omega,?_⟩
   rw[hpm,Le,hx,List.filter_append]
   rw[show(Mj x).toList.filter (fun x=>decide (x≠("":Str)))=[] by simp[h0],Mb]
  ·rw[if_pos h0]
   refine⟨_,e,Zy (by unfold isD';rw[Ah];omega),hC _ _ ⟨_,_,ps++[i],rfl,k.set (.inr (Nat.le_refl _)),by rw[Iw];exact hlt,?_,by rw[Ay];simp;omega,?_⟩⟩
   ·rw[Ym hlt]
    unfold isD'
    rw[Dh]
    rfl
   ·rw[Dh,hpm,Le,hx,List.filter_append,Dh]
    rw[show(Mj x).toList.filter (fun x=>decide (x≠("":Str)))=[x] by simp[h0],List.map_singleton,List.map_singleton,hx]
 ·rintro σ M' ⟨d0,d1,ps,rfl,k,hlt,e,hpl,hpm⟩
  rw[show(Ec (ls.map D.str)).length=ls.length by unfold Ec;simp,Dx (Nat.le_refl _),hf] at hpm
  have hA:At ls ps ws:=by unfold At;rw[hpm,Mg];rfl
  have hpw:=hA.len
  refine Y1 (Z3 e) ?_
  simp only[e8]
  walk_at "ev"
  rw[if_neg (by unfold isD';rw[Ah];omega)]
  delta C8
  walk_at "ev"
  simp only[gl]
  have k1:=kS.trans k
  refine⟨M.length,S.length,ls,ps,ns,ws,rfl,k.pL hSr,Z3 e,hG,hA,fun M2 o k2 ho e2=>?_⟩
  walk_at "ev"
  simp only[gr]
  refine⟨o,S.length,ps,ns,ws,rfl,Z3 e2,k2.pL (Z3 e),hG,fun M3 k3=>?_⟩
  walk_at "ev"
  have e3:=k3.pW e2
  have hne2:0<ws.length:=by rw[hwl];exact List.length_pos_iff.mpr hG.ne
  refine⟨Nat.zero_le _,.inr (.inr (.inl ⟨_,_,_,rfl,rfl,Wx (Z3 e3),Zv _ _ [],?_⟩))⟩
  rw[show(ws.map Rw.d).isEmpty=false by cases ws with | nil=>simp at hne2 | cons a b=>rfl]
  walk_at "ev"
  obtain⟨w,hw⟩:∃w,ws[ws.length - 1]?=some w:=⟨_,Ag (by omega)⟩
  have hlast:=hG.lst w hw
  refine Vk (Wx (Z3 e3)) (d:=w.d) (Zu8 (by rw[Ah];exact hne2) (by rw[Ah,Aq,hw];rfl)) ?_
  have fin:tss ⟨K,Γ,G⟩ noX Nm {nx:=fun _ M=>Q .non M,rt:=Q} [some (.str (Du "\n" ls)),some (.ref M.length),some (.ref S.length),some (.ref o)] (M3++[.lst []]):=by
   delta Nm
   walk_at "ev"
   exact q _ _ ((k1.trans (k2.trans k3)).app _) (Nat.le_trans k1.len ho) (Vp e3)
  cases w with
  | sum n g a s b=>cases hlast
  | test n a s b t=>cases hlast
  | jump n t=>
   simp only[Rw.d]
   walk_at "ev"
   refine⟨Z0 (by decide),rfl,rfl,?_⟩
   rw[show inD (.str "jump") [.str "jump",.str "end"]=true by decide+kernel]
   exact fin
  | fin n=>
   simp only[Rw.d]
   walk_at "ev"
   refine⟨Z0 (by decide),rfl,rfl,?_⟩
   rw[show inD (.str "end") [.str "jump",.str "end"]=true by decide+kernel]
   exact fin
end
section
variable{K:Ae}
noncomputable def fN:D→Bool
 | .int _ | .str _=>true
 | _=>false
def AL(M:Z2):Nat→D→D→Prop
 | 0,x,y=>x=y∧fN x=true
 | n+1,x,y=>(x=y∧fN x=true)∨(∃xs ys,x= .tup xs∧y= .tup ys∧xs.length=ys.length∧∀(i:Nat) a b,xs[i]?=some a→ys[i]?=some b→AL M n a b)∨
   ∃m k xs ys,x= .ref m∧y= .ref k∧Zo M m=some xs∧Zo M k=some ys∧xs.length=ys.length∧∀(i:Nat) a b,xs[i]?=some a→ys[i]?=some b→AL M n a b
def Xb(n:Nat):DSp:=fun ds M Q _=>∃x y,ds=[x,y]∧AL M n x y∧Q (.bl true) M
theorem O4{Γ G}{M:Z2}{Q:DK}{x:D}(h:fN x=true)(q:Q (.bl true) M):tss ⟨K,Γ,G⟩ noX b_Lalike {nx:=fun _ M=>Q .non M,rt:=Q} (start0 Wr [x,x]) M:=by
 delta b_Lalike Wr
 cases x with
 | int i=>
  walk_at "ev"
  simpa using q
 | str z=>
  walk_at "ev"
  delta Ta
  walk_at "ev"
  simpa using q
 | _=>exact absurd h Bool.false_ne_true
theorem Y26{xs ys:List D}{i:Nat}{d:D}(h:(zipT xs ys)[i]?=some d):∃a b,xs[i]?=some a∧ys[i]?=some b∧d= .tup [a,b]:=by
 unfold zipT at h
 rw[Aq,Hw] at h
 obtain⟨p,e,rfl⟩:=h
 rw[List.getElem?_zip_eq_some] at e
 exact⟨_,_,e.1,e.2,rfl⟩
theorem Gw{Γ G}{n:Nat}(g:Γ[33]?=some (Xb n)){M:Z2}{Q:DK}{x y:D}{xs ys:List D}{own:Own}(hl:xs.length=ys.length)(h:∀(i:Nat) a b,xs[i]?=some a→ys[i]?=some b→AL M n a b)
  (lx:∀F:DK,F (.int xs.length) M→bfD K .len [x] M F) (ly:∀F:DK,F (.int ys.length) M→bfD K .len [y] M F) (hz:∀F:Own→List D→Prop,F own (zipT xs ys)→zip2 M x y F) (st:Ph own (zipT xs ys) M) (q:Q (.bl true) M):
  tss ⟨K,Γ,G⟩ noX R7 {nx:=fun _ M=>Q .non M,rt:=Q} [some x,some y,none,none] M:=by
 delta R7
 walk_at "ev"
 refine lx _ (ly _ ?_)
 walk_at "ev"
 rw[if_neg (by rw[hl];simp)]
 delta Of
 walk_at "ev"
 rw[Y66]
 refine hz _ ?_
 refine Nr (fun i σ M'=>∃d2 d3,σ=[some x,some y,d2,d3]∧M'=M) ⟨none,none,rfl,rfl⟩ ?_ ?_ ?_
 ·rintro i σ M' _ ⟨d2,d3,rfl,rfl⟩
  exact st
 ·rintro i d σ M' C hd ⟨d2,d3,rfl,rfl⟩ hC
  obtain⟨a,b,ea,eb,rfl⟩:=Y26 hd
  rw[tg_two]
  delta O7
  walk_at "ev"
  simp only[g]
  refine⟨_,_,rfl,h i a b ea eb,?_⟩
  try walk_at "ev"
  exact hC _ _ ⟨_,_,rfl,rfl⟩
 ·rintro σ M' ⟨d2,d3,rfl,rfl⟩
  delta Pz
  walk_at "ev"
  exact q
theorem Z88{Γ G}:∀ds M Q Z,Xb 0 ds M Q Z→tss ⟨K,Γ,G⟩ noX b_Lalike {nx:=fun _ M=>Q .non M,rt:=Q} (start0 Wr ds) M:=by
 rintro ds M Q Z ⟨x,y,rfl,⟨rfl,h⟩,q⟩
 exact O4 h q
theorem Za6{Γ G}{n:Nat}(g:Γ[33]?=some (Xb n)):∀ds M Q Z,Xb (n+1) ds M Q Z→tss ⟨K,Γ,G⟩ noX b_Lalike {nx:=fun _ M=>Q .non M,rt:=Q} (start0 Wr ds) M:=by
 rintro ds M Q Z ⟨x,y,rfl,h | ⟨xs,ys,rfl,rfl,hl,h⟩ | ⟨m,k,xs,ys,rfl,rfl,h1,h2,hl,h⟩,q⟩
 ·obtain⟨rfl,h⟩:=h
  exact O4 h q
 ·delta b_Lalike Wr
  walk_at "ev"
  delta Ta
  walk_at "ev"
  delta R9
  walk_at "ev"
  delta Sr
  walk_at "ev"
  exact Gw (own:= .no) g hl h (fun F f=>f) (fun F f=>f) (fun F f=>f) trivial q
 ·have i1:∀{t:Ty} {B:Bool→Prop},isD K M (.ref m) (.ty (Xw t)) B=B (tyLst t):=fun{t B}=>Zo2 h1
  have i2:∀{t:Ty} {B:Bool→Prop},isD K M (.ref k) (.ty (Xw t)) B=B (tyLst t):=fun{t B}=>Zo2 h2
  delta b_Lalike Wr
  walk_at "ev"
  simp only[i2]
  walk_at "ev"
  delta Ta
  walk_at "ev"
  simp only[i2]
  walk_at "ev"
  delta R9
  walk_at "ev"
  simp only[i1,i2]
  walk_at "ev"
  delta Sr
  walk_at "ev"
  simp only[i1,i2]
  walk_at "ev"
  exact Gw (own:= .two m k) g hl h (fun F f=>Y1 (Z3 h1) f) (fun F f=>Y1 (Z3 h2) f) (fun F f=>⟨xs,ys,Z3 h1,Z3 h2,f⟩) ⟨xs,ys,Z3 h1,Z3 h2,rfl⟩ q
theorem Fh{M:Z2}{m k:Nat}{ws:List Rw}(h1:Zo M m=some (ws.map Rw.d))(h2:Zo M k=some (ws.map Rw.d)):AL M 2 (.ref m) (.ref k):=by
 refine .inr (.inr ⟨m,k,_,_,rfl,rfl,h1,h2,rfl,fun i a b ha hb=>?_⟩)
 rw[ha] at hb
 cases hb
 obtain⟨w,_,rfl⟩:=Dg.mp (Ha ha)
 have od:∀o:Opd,fN o.d=true:=fun o=>by cases o<;>rfl
 have hall:∀d∈(match w.d with | .tup xs=>xs | _=>[]),fN d=true:=by
  cases w with
  | sum n g a s b=>intro d hd;simp only[Rw.d,Am,Aw,or_false] at hd;rcases hd with rfl | rfl | rfl | rfl | rfl | rfl<;>first | rfl | exact od _
  | test n a s b t=>intro d hd;simp only[Rw.d,Am,Aw,or_false] at hd;rcases hd with rfl | rfl | rfl | rfl | rfl | rfl<;>first | rfl | exact od _
  | jump n t=>intro d hd;simp only[Rw.d,Am,Aw,or_false] at hd;rcases hd with rfl | rfl | rfl<;>rfl
  | fin n=>intro d hd;simp only[Rw.d,Am,Aw,or_false] at hd;rcases hd with rfl | rfl<;>rfl
 rw[w.d_eq] at hall ⊢
 refine .inr (.inl ⟨_,_,rfl,rfl,rfl,fun j x y hx hy=>?_⟩)
 rw[hx] at hy
 cases hy
 exact⟨rfl,hall _ (Ha hx)⟩
end
theorem Y64{o:Opd}{out:Str}{R:Str→Prop}(h:o.ok)(hl:out.length≤1000)(q:R (out++o.t)):onIS o.d (fun i=>i.natAbs.log2<1920∧(out++(toString i:String):Str).length≤sizeLine∧R (out++(toString i:String))) fun y=>y.length≤sizeLine∧(out++y).length≤sizeLine∧R (out++y):=by
 have h19:=Opd.len h
 cases o with
 | nm x=>exact⟨Z0 (by have:x.length≤19:=h19;omega),Z0 (by rw[Z5];have:x.length≤19:=h19;omega),q⟩
 | no i=>
  obtain⟨h1,h2⟩:-1000000000000000000<i∧i<1000000000000000000:=h
  have:i.natAbs<2 ^ 64:=by omega
  exact⟨Nat.lt_trans (V0 this (by decide)) (by decide),Z0 (by rw[Z5];have:(Str.ofString (toString i)).length≤19:=h19;omega),q⟩
theorem Y71{x out:Str}{R:Str→Prop}(hx:x.length≤1000)(hl:out.length≤1000)(q:R (out++x)):x.length≤sizeLine∧(out++x).length≤sizeLine∧R (out++x):=⟨Z0 (by omega),Z0 (by rw[Z5];omega),q⟩
theorem emp(x:Str):Str.empty++x=x:=Tt.L_ext (by rw[Tt.L_app];rfl)
def Y4:DSp:=fun ds M Q _=>∃(g s:Str) (a b:Opd),ds=[.str g,a.d,.str s,b.d]∧g.length≤8∧a.ok∧s.length≤4∧b.ok∧Q (.str (Du " " [g,"=",a.t,s,b.t])) M
def Zq:DSp:=fun ds M Q _=>∃(s:Str) (a b:Opd),ds=[a.d,.str s,b.d]∧a.ok∧s.length≤4∧b.ok∧Q (.str (Du " " ["if",a.t,s,b.t])) M
def Y7:DSp:=fun ds M Q _=>∃(w:Rw) (ns:List Nat),ds=[w.d]∧w.ok ns∧(∀n∈ns,n≤9999)∧Q (.str (Du " " w.words.tail)) M
def X7:DSp:=fun ds M Q _=>∃(w:Rw) (ns:List Nat),ds=[w.d]∧w.ok ns∧(∀n∈ns,n≤9999)∧Q (.str w.line) M
def Oks(ns:List Nat)(ws:List Rw):Prop:=(∀w∈ws,w.ok ns)∧(∀n∈ns,n≤9999)∧ws.length≤200
def Zn:DSp:=fun ds M Q _=>∃(r:Nat) (ns:List Nat) (ws:List Rw),ds=[.ref r]∧Zd M r=some (ws.map Rw.d)∧Oks ns ws∧∀M',Kp M M'→Q (.str (Du "\n" (ws.map Rw.line))) M'
section
variable{K:Ae}
theorem Pe{Γ:List DSp}{G:List D}{e:E}{r:Es}{out:Str}{σ:DEnv}{M:Z2}{Q:Str→Z2→Prop}{o:Opd}(he:∀F:DK,F o.d M→te ⟨K,Γ,G⟩ noX e σ M F)(h:o.ok)(hl:out.length≤1000)(q:tfs ⟨K,Γ,G⟩ noX r (out++o.t) σ M Q):tfs ⟨K,Γ,G⟩ noX (.cons e r) out σ M Q:=he _ (Y64 (R:=fun x=>tfs ⟨K,Γ,G⟩ noX r x σ M Q) h hl q)
theorem Xm{Γ:List DSp}{G:List D}{e:E}{r:Es}{out x:Str}{σ:DEnv}{M:Z2}{Q:Str→Z2→Prop}(he:∀F:DK,F (.str x) M→te ⟨K,Γ,G⟩ noX e σ M F)(hx:x.length≤1000)(hl:out.length≤1000)(q:tfs ⟨K,Γ,G⟩ noX r (out++x) σ M Q):tfs ⟨K,Γ,G⟩ noX (.cons e r) out σ M Q:=he _ (Y71 (R:=fun x=>tfs ⟨K,Γ,G⟩ noX r x σ M Q) hx hl q)
theorem Ql{Γ:List DSp}{G:List D}{out:Str}{σ:DEnv}{M:Z2}{Q:Str→Z2→Prop}(hl:out.length≤1000)(q:Q out M):tfs ⟨K,Γ,G⟩ noX .nil out σ M Q:=⟨Z0 (by omega),q⟩
theorem e0l:Str.empty.length=0:=rfl
theorem N4{Γ G}:∀ds M Q Z,Y4 ds M Q Z→tss ⟨K,Γ,G⟩ noX b_written_sum {nx:=fun _ M=>Q .non M,rt:=Q} (start0 W6 ds) M:=by
 rintro ds M Q Z ⟨g,s,a,b,rfl,hg,ha,hs,hb,q⟩
 have ha9:=Opd.len ha
 have hb9:=Opd.len hb
 have l3:(" = ":Str).length=3:=rfl
 have l1:(" ":Str).length=1:=rfl
 have e0:=e0l
 delta b_written_sum W6
 walk_at "ev"
 refine Xm (x:=g) (fun F f=>f) (by omega) (by omega) (Xm (x:=" = ") (fun F f=>f) (by omega) (by simp only[Z5];omega) (Pe (o:=a) (fun F f=>f) ha (by simp only[Z5];omega) (Xm (x:=" ") (fun F f=>f) (by omega) (by simp only[Z5];omega) (Xm (x:=s) (fun F f=>f) (by omega) (by simp only[Z5];omega) (Xm (x:=" ") (fun F f=>f) (by omega) (by simp only[Z5];omega) (Pe (o:=b) (fun F f=>f) hb (by simp only[Z5];omega) (Ql (by simp only[Z5];omega) ?_)))))))
 have e:Str.empty++g++(" = ":Str)++a.t++(" ":Str)++s++(" ":Str)++b.t=Du " " [g,"=",a.t,s,b.t]:=by
  rw[jn,jn,jn,jn,tj,emp,show(" = ":Str)=" "++"="++" " by decide+kernel]
  refine Tt.L_ext ?_
  show _=Tt.L (g++" "++("="++" "++(a.t++" "++(s++" "++b.t))))
  simp only[Tt.L_app,Hd]
 rw[e]
 exact q
theorem Pp{Γ G}:∀ds M Q Z,Zq ds M Q Z→tss ⟨K,Γ,G⟩ noX b_written_test {nx:=fun _ M=>Q .non M,rt:=Q} (start0 Xs ds) M:=by
 rintro ds M Q Z ⟨s,a,b,rfl,ha,hs,hb,q⟩
 have ha9:=Opd.len ha
 have hb9:=Opd.len hb
 have l3:("if ":Str).length=3:=rfl
 have l1:(" ":Str).length=1:=rfl
 have e0:=e0l
 delta b_written_test Xs
 walk_at "ev"
 refine Xm (x:="if ") (fun F f=>f) (by omega) (by omega) (Pe (o:=a) (fun F f=>f) ha (by simp only[Z5];omega) (Xm (x:=" ") (fun F f=>f) (by omega) (by simp only[Z5];omega) (Xm (x:=s) (fun F f=>f) (by omega) (by simp only[Z5];omega) (Xm (x:=" ") (fun F f=>f) (by omega) (by simp only[Z5];omega) (Pe (o:=b) (fun F f=>f) hb (by simp only[Z5];omega) (Ql (by simp only[Z5];omega) ?_))))))
 have e:Str.empty++("if ":Str)++a.t++(" ":Str)++s++(" ":Str)++b.t=Du " " ["if",a.t,s,b.t]:=by
  rw[jn,jn,jn,tj,emp,show("if ":Str)="if"++" " by decide+kernel]
  refine Tt.L_ext ?_
  show _=Tt.L ("if"++" "++(a.t++" "++(s++" "++b.t)))
  simp only[Tt.L_app,Hd]
 rw[e]
 exact q
theorem E9{Γ:List DSp}{G:List D}{e:E}{r:Es}{out:Str}{σ:DEnv}{M:Z2}{Q:Str→Z2→Prop}{n:Nat}(he:∀F:DK,F (.int (n:Nat)) M→te ⟨K,Γ,G⟩ noX e σ M F)(h:n≤9999)(hl:out.length≤1000)(q:tfs ⟨K,Γ,G⟩ noX r (out++Tt.fig n) σ M Q):tfs ⟨K,Γ,G⟩ noX (.cons e r) out σ M Q:=Pe (o:= .no (n:Nat)) he ⟨by omega,by omega⟩ hl q
theorem Y18{s:Str}(h:s∈sgnS∨s∈sgnT):s.length≤4:=(Zp7 s (Dd.mpr h)).1
theorem Pq{Γ G}(gs:Γ[10]?=some Y4)(gt:Γ[11]?=some Zq):∀ds M Q Z,Y7 ds M Q Z→tss ⟨K,Γ,G⟩ noX b_written_told {nx:=fun _ M=>Q .non M,rt:=Q} (start0 Xr ds) M:=by
 rintro ds M Q Z ⟨w,ns,rfl,hw,hN,q⟩
 have e0:=e0l
 delta b_written_told Xr
 cases w with
 | fin n=>
  simp only[Rw.d]
  walk_at "ev"
  simp only[Rw.words,List.tail_cons,tj] at q
  exact q
 | sum n g a s b=>
  obtain⟨h1,h2,h3,h4,h5⟩:=id hw
  simp only[Rw.d]
  walk_at "ev"
  delta X9
  walk_at "ev"
  simp only[gs]
  exact⟨_,Yv (j:=3) rfl,_,Yv (j:=4) rfl,_,Yv (j:=5) rfl,g,s,a,b,rfl,h2.2.2.1,h3,Y18 (.inl h4),h5,q⟩
 | jump n t=>
  have f4:=Qm (hN t hw.2)
  have l5:("jump ":Str).length=5:=rfl
  simp only[Rw.d]
  walk_at "ev"
  delta X9
  walk_at "ev"
  delta W1
  walk_at "ev"
  refine⟨.int (t:Nat),rfl,Xm (x:="jump ") (fun F f=>f) (by omega) (by omega) (E9 (n:=t) (fun F f=>f) (hN t hw.2) (by simp only[Z5];omega) (Ql (by simp only[Z5];omega) ?_))⟩
  have e:Str.empty++("jump ":Str)++Tt.fig t=Du " " ["jump",Tt.fig t]:=by
   rw[jn,tj,emp,show("jump ":Str)="jump"++" " by decide+kernel]
   rfl
  rw[e]
  exact q
 | test n a s b t=>
  obtain⟨h1,h2,h3,h4,h5⟩:=id hw
  have f4:=Qm (hN t h5)
  simp only[Rw.d]
  walk_at "ev"
  delta X9
  walk_at "ev"
  delta W1
  walk_at "ev"
  refine⟨.int (t:Nat),rfl,?_⟩
  delta Vi
  walk_at "ev"
  simp only[gt]
  refine⟨_,Yv (j:=3) rfl,_,Yv (j:=4) rfl,s,a,b,rfl,h2,Y18 (.inr h3),h4,?_⟩
  have l6:(" jump ":Str).length=6:=rfl
  have hj:=R8 " " (by decide) (l:=["if",a.t,s,b.t]) (B:=19) (fun x hx=>(Rw.wok hw hN x (by simp only[Rw.words,Am,Aw,or_false] at hx ⊢;rcases hx with h | h | h | h<;>simp[h])).1)
  have hj':(Du " " ["if",a.t,s,b.t]).length≤80:=by simpa using hj
  try walk_at "ev"
  refine Xm (x:=Du " " ["if",a.t,s,b.t]) (fun F f=>f) (by omega) (by omega) (Xm (x:=" jump ") (fun F f=>f) (by omega) (by simp only[Z5];omega) (E9 (n:=t) (fun F f=>f) (hN t h5) (by simp only[Z5];omega) (Ql (by simp only[Z5];omega) ?_)))
  have e:Str.empty++Du " " ["if",a.t,s,b.t]++(" jump ":Str)++Tt.fig t=Du " " ["if",a.t,s,b.t,"jump",Tt.fig t]:=by
   rw[jn,jn,jn,jn,jn,jn,jn,jn,tj,tj,emp,show(" jump ":Str)=" "++"jump"++" " by decide+kernel]
   refine Tt.L_ext ?_
   show Tt.L ("if"++" "++(a.t++" "++(s++" "++b.t))++_++Tt.fig t)=Tt.L ("if"++" "++(a.t++" "++(s++" "++(b.t++" "++("jump"++" "++Tt.fig t)))))
   simp only[Tt.L_app,Hd]
  rw[e]
  exact q
theorem Ni{Γ G}(g:Γ[19]?=some Y7):∀ds M Q Z,X7 ds M Q Z→tss ⟨K,Γ,G⟩ noX b_written_row {nx:=fun _ M=>Q .non M,rt:=Q} (start0 W8 ds) M:=by
 rintro ds M Q Z ⟨w,ns,rfl,hw,hN,q⟩
 have e0:=e0l
 have l2:(": ":Str).length=2:=rfl
 obtain⟨y,tl,hwd⟩:∃y tl,w.words=hd w.n::y::tl:=by cases w<;>exact⟨_,_,rfl⟩
 have hn:w.n≤9999:=by cases w<;>first | exact hN _ hw.1 | exact hN _ hw
 have hj:=R8 " " (by decide) (l:=w.words.tail) (B:=19) (fun x hx=>(Rw.wok hw hN x (List.mem_of_mem_tail hx)).1)
 have hl7:w.words.tail.length≤7:=by have:=w.wlen.1;rw[List.length_tail];omega
 have hj':=Nat.mul_le_mul_right 20 hl7
 have f4:=Qm hn
 delta b_written_row W8
 walk_at "ev"
 rw[w.d_eq]
 walk_at "ev"
 rw[←w.d_eq]
 simp only[g]
 refine⟨w,ns,rfl,hw,hN,?_⟩
 try walk_at "ev"
 refine E9 (n:=w.n) (fun F f=>f) hn (by omega) (Xm (x:=": ") (fun F f=>f) (by omega) (by simp only[Z5];omega) (Xm (x:=Du " " w.words.tail) (fun F f=>f) (by omega) (by simp only[Z5];omega) (Ql (by simp only[Z5];omega) ?_)))
 have e:Str.empty++Tt.fig w.n++(": ":Str)++Du " " w.words.tail=w.line:=by
  unfold Rw.line
  rw[hwd,List.tail_cons,jn,emp,show(": ":Str)=":"++" " by decide+kernel]
  unfold hd
  refine Tt.L_ext ?_
  simp only[Tt.L_app,Hd]
 rw[e]
 exact q
theorem Zd6{Γ G}(g:Γ[20]?=some X7):∀ds M Q Z,Zn ds M Q Z→tss ⟨K,Γ,G⟩ noX b_written {nx:=fun _ M=>Q .non M,rt:=Q} (start0 Sk ds) M:=by
 rintro ds M Q Z ⟨r,ns,ws,rfl,hr,⟨ho,hN,h200⟩,q⟩
 delta b_written Sk
 walk_at "ev"
 refine⟨_,hr,?_⟩
 refine V9 (fun i σ M'=>∃(d:Option D),σ=[d]∧Kp M M'∧M.length<M'.length∧Zo M' M.length=some (((ws.take i).map Rw.line).map D.str)) ⟨none,rfl,Ks.new _ _,by simp,Y8 _ _ []⟩ (fun i σ M' _ zz144=>by obtain⟨d,_,k,_⟩:=zz144;exact k.pL hr) ?_ ?_
 ·rintro i d σ M' C hd ⟨d0,rfl,k,hlt,e⟩ hC
  obtain⟨w,hw,rfl⟩:∃w,ws[i]?=some w∧d=w.d:=by
   rw[Aq] at hd
   cases h:ws[i]? with
   | none=>rw[h] at hd;cases hd
   | some x=>rw[h] at hd;exact⟨x,rfl,by simpa using hd.symm⟩
  have hi:=(Af.mp hw).1
  walk_at "ev"
  simp only[g]
  refine⟨w,ns,rfl,ho w (Ha hw),hN,_,e,Zy (by rw[Ah,Ah,Ie];omega),hC _ _ ⟨_,rfl,k.set (.inr (Nat.le_refl _)),by rw[Iw];exact hlt,?_⟩⟩
  rw[Ym hlt,Le,hw,Dh,Dh]
  rfl
 ·rintro σ M' ⟨d0,rfl,k,hlt,e⟩
  rw[Ah,Dx (Nat.le_refl _)] at e
  refine⟨ws.map Rw.line,Z3 e,Et (B:=140) (by decide) (fun x hx=>?_) (by rw[Ah];have:=Nat.mul_le_mul_right 141 h200;omega),q _ k⟩
  obtain⟨w,hw,rfl⟩:=Dg.mp hx
  exact Q4 (ho w hw) hN
end
def Z31:DSp:=fun ds M Q _=>∃(r:Nat) (ns:List Nat) (ws:List Rw),ds=[.ref r]∧Zd M r=some (ws.map Rw.d)∧Oks ns ws∧∀M',Kp M M'→Q (.str (Du "\n" (ws.map Rw.line))) M'
def Sv:DSp:=fun ds M Q _=>∃(r:Nat) (ns:List Nat) (ws:List Rw),ds=[.str (Du "\n" (ws.map Rw.line)),.ref r]∧Zd M r=some (ws.map Rw.d)∧Oks ns ws∧∀M',Kp M M'→Q (.bl true) M'
def Nc:DSp:=fun ds M Q _=>∃(r:Nat) (ws:List Rw),ds=[.ref r]∧Zd M r=some (ws.map Rw.d)∧ws.length≤200∧∀(tz:List Nat) M' o,Kp M M'→M.length≤o→Zd M' o=some (nsD tz)→Q (.ref o) M'
def Qf:DSp:=fun ds M Q _=>∃a:Nat,ds=[.ref a]∧Scr M a∧∀m:Nat,1≤m→m≤200→Q (.int (m:Nat)) M
section
variable{K:Ae}
theorem Y16{Γ G}(g:Γ[32]?=some Tn):∀ds M Q Z,Z31 ds M Q Z→tss ⟨K,Γ,G⟩ noX b_Ldue {nx:=fun _ M=>Q .non M,rt:=Q} (start0 Ci ds) M:=by
 rintro ds M Q Z ⟨r,ns,ws,rfl,hr,⟨ho,hN,h200⟩,q⟩
 delta b_Ldue Ci
 walk_at "ev"
 refine⟨_,hr,?_⟩
 refine V9 (fun i σ M'=>∃(d:Option D),σ=[d]∧Kp M M'∧M.length<M'.length∧Zo M' M.length=some (((ws.take i).map Rw.line).map D.str)) ⟨none,rfl,Ks.new _ _,by simp,Y8 _ _ []⟩ (fun i σ M' _ zz145=>by obtain⟨d,_,k,_⟩:=zz145;exact k.pL hr) ?_ ?_
 ·rintro i d σ M' C hd ⟨d0,rfl,k,hlt,e⟩ hC
  obtain⟨w,hw,rfl⟩:∃w,ws[i]?=some w∧d=w.d:=by
   rw[Aq] at hd
   cases h:ws[i]? with
   | none=>rw[h] at hd;cases hd
   | some x=>rw[h] at hd;exact⟨x,rfl,by simpa using hd.symm⟩
  have hi:=(Af.mp hw).1
  walk_at "ev"
  simp only[g]
  refine⟨w,ns,rfl,ho w (Ha hw),hN,fun M2 k2=>⟨_,k2.pW e,Zy (by rw[Ah,Ah,Ie];omega),hC _ _ ⟨_,rfl,(k.trans k2).set (.inr (Nat.le_refl _)),by rw[Iw];exact Nat.lt_of_lt_of_le hlt k2.len,?_⟩⟩⟩
  rw[Ym (Nat.lt_of_lt_of_le hlt k2.len),Le,hw,Dh,Dh]
  rfl
 ·rintro σ M' ⟨d0,rfl,k,hlt,e⟩
  rw[Ah,Dx (Nat.le_refl _)] at e
  refine⟨ws.map Rw.line,Z3 e,Et (B:=140) (by decide) (fun x hx=>?_) (by rw[Ah];have:=Nat.mul_le_mul_right 141 h200;omega),q _ k⟩
  obtain⟨w,hw,rfl⟩:=Dg.mp hx
  exact Q4 (ho w hw) hN
theorem Zy3{Γ G}(g:Γ[35]?=some Z31):∀ds M Q Z,Sv ds M Q Z→tss ⟨K,Γ,G⟩ noX b_Ltold {nx:=fun _ M=>Q .non M,rt:=Q} (start0 Ow ds) M:=by
 rintro ds M Q Z ⟨r,ns,ws,rfl,hr,ho,q⟩
 delta b_Ltold Ow
 walk_at "ev"
 simp only[g]
 refine⟨r,ns,ws,rfl,hr,ho,fun M' k=>?_⟩
 walk_at "ev"
 simpa using q _ k
theorem Zz0{Γ G}(gm:Γ[23]?=some Wg):∀ds M Q Z,Qf ds M Q Z→tss ⟨K,Γ,G⟩ noX b_Lmany {nx:=fun _ M=>Q .non M,rt:=Q} (start0 Ja ds) M:=by
 rintro ds M Q Z ⟨a,rfl,hs,q⟩
 obtain⟨ms,hm,_⟩:=id hs
 have q':∀i:Int,1≤i→i≤200→Q (.int i) M:=fun i h1 h2=>by
  have:=q i.toNat (by omega) (by omega)
  rwa[Kg (by omega)] at this
 delta b_Lmany Ja
 walk_at "ev"
 simp only[gm]
 refine⟨a,201,rfl,hs,by decide,fun v hv=>?_⟩
 walk_at "ev"
 split
 ·refine⟨Zr (by decide) (by decide),?_⟩
  rw[qm (by decide)]
  exact q' _ (by omega) (by omega)
 ·delta Ge
  walk_at "ev"
  split
  ·refine⟨Zr (by decide) (by decide),?_⟩
   rw[qm (by decide)]
   exact q' _ (by omega) (by omega)
  ·delta Jg
   walk_at "ev"
   refine Y1 hm ?_
   walk_at "ev"
   refine q' _ ?_ ?_<;>(split<;>split at * <;>omega)
theorem Zm1{Γ G}:∀ds M Q Z,Nc ds M Q Z→tss ⟨K,Γ,G⟩ noX b_Lgoals {nx:=fun _ M=>Q .non M,rt:=Q} (start0 Q1 ds) M:=by
 rintro ds M Q Z ⟨r,ws,rfl,hr,h200,q⟩
 delta b_Lgoals Q1
 walk_at "ev"
 refine⟨_,hr,?_⟩
 refine V9 (fun i σ M'=>∃(d:Option D) (tz:List Nat),σ=[d]∧Kp M M'∧M.length<M'.length∧Zo M' M.length=some (nsD tz)∧tz.length≤i) ⟨none,[],rfl,Ks.new _ _,by simp,Y8 _ _ [],Nat.le_refl _⟩ (fun i σ M' _ zz146=>by obtain⟨d,_,_,k,_⟩:=zz146;exact k.pL hr) ?_ ?_
 ·rintro i d σ M' C hd ⟨d0,tz,rfl,k,hlt,e,hl⟩ hC
  obtain⟨w,hw,rfl⟩:∃w,ws[i]?=some w∧d=w.d:=by
   rw[Aq] at hd
   cases h:ws[i]? with
   | none=>rw[h] at hd;cases hd
   | some x=>rw[h] at hd;exact⟨x,rfl,by simpa using hd.symm⟩
  have hi:=(Af.mp hw).1
  have put:∀(t:Nat) (d:Option D),∃acc,Zo M' M.length=some acc∧acc.length<sizeLine∧C [d] (M'.set M.length (.lst (acc++[.int (t:Nat)]))):=fun t d=>by
   refine⟨_,e,Zy (by unfold nsD;rw[Ah];omega),hC _ _ ⟨_,tz++[t],rfl,k.set (.inr (Nat.le_refl _)),by rw[Iw];exact hlt,?_,by rw[Ay];simp;omega⟩⟩
   rw[Ym hlt]
   unfold nsD
   rw[Dh]
   rfl
  have no:∀d:Option D,C [d] M':=fun d=>hC _ _ ⟨_,tz,rfl,k,hlt,e,by omega⟩
  cases w with
  | sum n g a s b=>simp only[Rw.d];walk_at "ev";exact no _
  | fin n=>simp only[Rw.d];walk_at "ev";exact no _
  | test n a s b t=>simp only[Rw.d];walk_at "ev";exact⟨.int (t:Nat),rfl,put t _⟩
  | jump n t=>simp only[Rw.d];walk_at "ev";exact⟨.int (t:Nat),rfl,put t _⟩
 ·rintro σ M' ⟨d0,tz,rfl,k,hlt,e,hl⟩
  exact q tz _ _ k (Nat.le_refl _) (Z3 e)
end
section
variable{K:Ae}
theorem Yc0{Γ G}(gd:Γ[18]?=some Yq)(ga:Γ[33]?=some (Xb 2)){M:Z2}{Q:DK}{r:Nat}{h d3 a:Option D}{ns:List Nat}{ws:List Rw}(hG:Gd ns ws)(er:Zo M r=some (ws.map Rw.d))(q:∀M',Q (.bl true) M'):
  tss ⟨K,Γ,G⟩ noX Fl {nx:=fun _ M=>Q .non M,rt:=Q} [a,some (.ref r),h,d3,some (.str (Du "\n" (ws.map Rw.line)))] M:=by
 have hne:0<ws.length:=by rw[←Ah (f:=Rw.n),hG.eq];exact List.length_pos_iff.mpr hG.ne
 delta Fl
 walk_at "ev"
 refine Y1 (Z3 er) ?_
 walk_at "ev"
 simp only[gd,ga]
 split
 ·rename_i h80
  rw[Ah] at h80
  refine⟨ws.map Rw.line,ns,ws,rfl,?_,?_,?_,hG,by omega,fun M' o k ho e=>?_⟩
  ·intro z
   have:=congrArg List.length z
   rw[Ah,List.length_nil] at this
   omega
  ·rw[Ah];omega
  ·rw[List.filter_eq_self]
   intro x hx
   obtain⟨w,_,rfl⟩:=Dg.mp hx
   simpa using Zx1 w
  ·exact⟨_,_,rfl,Fh e (k.pW er),q _⟩
 ·rename_i h80
  rw[show decide ((80:Int)< ((ws.map Rw.d).length:Nat))=true by simpa using h80]
  exact q _
theorem Ya9{Γ G}(gw:Γ[21]?=some Zn)(gt:Γ[36]?=some Sv)(gd:Γ[18]?=some Yq)(ga:Γ[33]?=some (Xb 2)){M:Z2}{Q:DK}{r h:Nat}{d3 d4 a:Option D}{ns:List Nat}{ws:List Rw}(hG:Gd ns ws)(hO:Oks ns ws)(er:Zo M r=some (ws.map Rw.d))(eh:Zo M h=some (ws.map Rw.d))(q:∀M',Q (.bl true) M'):
  tss ⟨K,Γ,G⟩ noX Nv {nx:=fun _ M=>Q .non M,rt:=Q} [a,some (.ref r),some (.ref h),d3,d4] M:=by
 delta Nv
 walk_at "ev"
 simp only[gw,gt,ga]
 refine⟨h,ns,ws,rfl,Z3 eh,hO,fun M1 k1=>?_⟩
 try walk_at "ev"
 refine⟨r,ns,ws,rfl,Z3 (k1.pW er),hO,fun M2 k2=>?_⟩
 walk_at "ev"
 have k:=k1.trans k2
 refine⟨_,_,rfl,Fh (k.pW eh) (k.pW er),?_⟩
 walk_at "ev"
 exact Yc0 gd ga hG (k.pW er) q
theorem Y99{Γ G}(gn:Γ[34]?=some Qf)(gr:Γ[31]?=some T1)(gw:Γ[21]?=some Zn)(gt:Γ[36]?=some Sv)(gg:Γ[37]?=some Nc)(gd:Γ[18]?=some Yq)(ga:Γ[33]?=some (Xb 2)):∀ds M Q Z,Bv ds M Q Z→tss ⟨K,Γ,G⟩ noX b_law {nx:=fun _ M=>Q .non M,rt:=Q} (start0 Zk6 ds) M:=by
 rintro ds M Q Z ⟨ns,rfl,rfl,hn,_,q⟩
 have hs:Scr [.frz (ns.map .int)] 0:=⟨ns,rfl,hn⟩
 generalize [Cell.frz (ns.map .int)]=M at hs ⊢
 delta b_law Zk6
 walk_at "ev"
 simp only[gn,gr,gw,gt,ga]
 refine⟨0,rfl,hs,fun m h1 h200=>?_⟩
 try walk_at "ev"
 refine⟨0,m,rfl,hs,h1,h200,fun ns' ws M1 r hG k1 hr1 e1=>?_⟩
 have hwl:ws.length=ns'.length:=by rw[←hG.eq,Ah]
 have hO:Oks ns' ws:=⟨hG.ok,hG.top,by have:=hG.len;omega⟩
 walk_at "ev"
 have hrl:=Xv (Z3 e1)
 refine⟨ws.map Rw.d,Z3 e1,M1.length,ns',ws,rfl,Zv _ _ [],hO,fun M2 k2=>?_⟩
 try walk_at "ev"
 have k12:=(Ks.new (F:=fun _=>False) M1 [.lst (ws.map Rw.d)]).trans k2
 have er2:=k12.pW e1
 have eh2:=k2.pW (Y8 M1 (ws.map Rw.d) [])
 refine⟨r,ns',ws,rfl,Z3 er2,hO,fun M3 k3=>?_⟩
 walk_at "ev"
 have er3:=k3.pW er2
 have eh3:=k3.pW eh2
 refine⟨_,_,rfl,Fh eh3 er3,?_⟩
 walk_at "ev"
 have hrh:M1.length≠r:=by omega
 generalize M1.length=h at eh3 hrh ⊢
 clear eh2 er2 k12 k2 k3 hrl
 rw[if_neg (by decide)]
 have two:∀(N:Z2) (d3:Option D),Zo N r=some (ws.map Rw.d)→Zo N h=some (ws.map Rw.d)→tss ⟨K,Γ,G⟩ noX Nv {nx:=fun _ M=>Q .non M,rt:=Q} [some (.ref 0),some (.ref r),some (.ref h),d3,none] N:=fun N d3 x y=>Ya9 gw gt gd ga hG hO x y q
 delta Za8
 walk_at "ev"
 refine Y1 (Z3 er3) ?_
 walk_at "ev"
 simp only[gg]
 rw[Ah]
 split
 ·rename_i h2
  have l2:2<ws.length:=by omega
  obtain⟨w0,w1,rest,rfl⟩:∃w0 w1 rest,ws=w0::w1::rest:=by
   match ws,l2 with
   | w0::w1::rest,_=>exact⟨w0,w1,rest,rfl⟩
  refine Vk (Z3 er3) (d:=w1.d) ati1 ?_
  rw[w1.d_eq]
  walk_at "ev"
  refine⟨r,_,rfl,Z3 er3,hO.2.2,fun tz M4 o k4 ho e4=>?_⟩
  have er4:=k4.pW er3
  have eh4:=k4.pW eh3
  refine .inl ⟨_,e4,rfl,by unfold nsD;rw[List.all_map,Dk];intro x _;rfl,?_⟩
  walk_at "ev"
  split
  ·refine⟨Vo (Z3 eh4),_,w1.d,1,rfl,eh4,rfl,?_⟩
   simp only[gw,gt]
   have hhl:=Xv (Z3 eh4)
   have er5:Zo (M4.set h (.lst (((w0::w1::rest).map Rw.d).eraseIdx 1))) r=some ((w0::w1::rest).map Rw.d):=by rw[Rl hrh];exact er4
   have eh5:Zo (M4.set h (.lst (((w0::w1::rest).map Rw.d).eraseIdx 1))) h=some ((w0::rest).map Rw.d):=by rw[Ym hhl];rfl
   generalize M4.set h (.lst (((w0::w1::rest).map Rw.d).eraseIdx 1))=M5 at er5 eh5 ⊢
   have hO':Oks ns' (w0::rest):=⟨fun w hw=>hO.1 w (by rcases Am.mp hw with z | z<;>simp[z]),hO.2.1,by have:=hO.2.2;simp at this ⊢;omega⟩
   refine⟨h,ns',w0::rest,rfl,Z3 eh5,hO',fun M6 k6=>?_⟩
   have er6:=k6.pW er5
   refine Vk (Z3 er6) (d:=w0.d) ati0 ⟨Z0 (by decide),_,Wx (Z3 er6),_,_,Vp (Y8 _ _ []),Y8 _ _ [],?_⟩
   have hcut:U.cutD ((w0::w1::rest).map Rw.d) (some 2) none=rest.map Rw.d:=by
    unfold U.cutD HT.sIx
    simp
    rw[Dx (by simp)]
   rw[hcut]
   have h200:=hO.2.2
   refine⟨Z0 (by simp at h200 ⊢;omega),_,ns',w0::rest,rfl,Zv _ _ [],hO',fun M7 k7=>?_⟩
   walk_at "ev"
   have k67:=(((Ks.new (F:=fun _=>False) M6 [.lst [w0.d]]).app [.lst (rest.map Rw.d)]).app [.lst ([w0.d]++rest.map Rw.d)]).trans k7
   have er7:=k67.pW er6
   have eh7:=k67.pW (k6.pW eh5)
   delta Zc1
   walk_at "ev"
   refine⟨Vo (Z3 eh7),_,1,rfl,eh7,by simp,Zy (by simp at h200 ⊢;omega),?_⟩
   refine two _ _ ?_ ?_
   ·rw[Rl hrh];exact er7
   ·rw[Ym (Xv (Z3 eh7))];rfl
  ·exact two _ _ er4 eh4
 ·exact two _ _ er3 eh3
end
set_option maxHeartbeats 0 in
theorem Y34{P:Program}{w:World}{K:Ae}{mg:Str→Option Value}{base:Heap}{t:Adr}(T:Tx K mg t):FnOk P w K mg base (CX1 P w) 41 t.a_law t.d_law ["_law_script"] (spF K Bv):=by
 have PZ:Prg P w K mg base ⟨K,[bot,bot,bot,bot,bot,bot,bot,bot,bot,bot,bot,bot,bot,bot,bot,bot,bot,bot,bot,bot,bot,bot,bot,bot,bot,bot,bot,bot,bot,bot,bot,bot,bot,bot,bot,bot,bot,bot,bot],[.str "abcdefghijklmnopqrstuvwxyz",.str "0123456789",.gtup [.str "if",.str "jump",.str "end",.str "rest",.str "round",.str "part",.str "leave",.str "again",.str "else",.str "done"],.int 8,.int 4,.int 18,.gtup [.str "+",.str "-",.str "/",.str "rest",.str "&",.str "^"],.gtup [.str "<",.str "="],.int 80]⟩ FN GN BN 0:=Prg.zero (ents T) rfl (by intro sp h;simp only[Am,Aw,or_false,or_self] at h;exact h) (fun g x d h1 h2=>match g,h1,h2 with | 0,h1,h2=>by cases h1;cases h2;obtain⟨tk,e⟩:=T.q_LETTERS;exact⟨.str _,_,e,⟨tk,rfl⟩,fun w _=>Zb.mpr rfl⟩ | 1,h1,h2=>by cases h1;cases h2;obtain⟨tk,e⟩:=T.q_FIGURES;exact⟨.str _,_,e,⟨tk,rfl⟩,fun w _=>Zb.mpr rfl⟩ | 2,h1,h2=>by cases h1;cases h2;obtain⟨a,e,r⟩:=T.q_KEPT;exact⟨.ref a,_,e,rfl,fun w hw=>T2.mpr ⟨a,_,rfl,.inr (by rw[hw];exact r),(RDs.cons (Zb.mpr rfl) (RDs.cons (Zb.mpr rfl) (RDs.cons (Zb.mpr rfl) (RDs.cons (Zb.mpr rfl) (RDs.cons (Zb.mpr rfl) (RDs.cons (Zb.mpr rfl) (RDs.cons (Zb.mpr rfl) (RDs.cons (Zb.mpr rfl) (RDs.cons (Zb.mpr rfl) (RDs.cons (Zb.mpr rfl) (RDs.nil w)))))))))))⟩⟩ | 3,h1,h2=>by cases h1;cases h2;obtain⟨tk,e⟩:=T.q_MOST_SIGNS_OF_NAME;exact⟨.int 8,_,e,⟨tk,rfl⟩,fun w _=>Zc.mpr rfl⟩ | 4,h1,h2=>by cases h1;cases h2;obtain⟨tk,e⟩:=T.q_MOST_FIGURES_OF_NUMBER;exact⟨.int 4,_,e,⟨tk,rfl⟩,fun w _=>Zc.mpr rfl⟩ | 5,h1,h2=>by cases h1;cases h2;obtain⟨tk,e⟩:=T.q_MOST_FIGURES_OF_OPERAND;exact⟨.int 18,_,e,⟨tk,rfl⟩,fun w _=>Zc.mpr rfl⟩ | 6,h1,h2=>by cases h1;cases h2;obtain⟨a,e,r⟩:=T.q_SIGNS_OF_SUMS;exact⟨.ref a,_,e,rfl,fun w hw=>T2.mpr ⟨a,_,rfl,.inr (by rw[hw];exact r),(RDs.cons (Zb.mpr rfl) (RDs.cons (Zb.mpr rfl) (RDs.cons (Zb.mpr rfl) (RDs.cons (Zb.mpr rfl) (RDs.cons (Zb.mpr rfl) (RDs.cons (Zb.mpr rfl) (RDs.nil w)))))))⟩⟩ | 7,h1,h2=>by cases h1;cases h2;obtain⟨a,e,r⟩:=T.q_SIGNS_OF_TESTS;exact⟨.ref a,_,e,rfl,fun w hw=>T2.mpr ⟨a,_,rfl,.inr (by rw[hw];exact r),(RDs.cons (Zb.mpr rfl) (RDs.cons (Zb.mpr rfl) (RDs.nil w)))⟩⟩ | 8,h1,h2=>by cases h1;cases h2;obtain⟨tk,e⟩:=T.q_MOST_ROWS_OF_TEXT;exact⟨.int 80,_,e,⟨tk,rfl⟩,fun w _=>Zc.mpr rfl⟩ | n+9,h1,h2=>by cases h2) (blts T)
 have P0:=PZ.up (show 0≤0 by decide)
 have F0:=fn0 P0 T.F_is_made_of Nh G3 (sp:=Zp) (by rintro _ _ _ _ ⟨_,_,rfl,_⟩;rfl) Ji
 have P1:Prg P w K mg base ⟨K,[Zp,bot,bot,bot,bot,bot,bot,bot,bot,bot,bot,bot,bot,bot,bot,bot,bot,bot,bot,bot,bot,bot,bot,bot,bot,bot,bot,bot,bot,bot,bot,bot,bot,bot,bot,bot,bot,bot,bot],[.str "abcdefghijklmnopqrstuvwxyz",.str "0123456789",.gtup [.str "if",.str "jump",.str "end",.str "rest",.str "round",.str "part",.str "leave",.str "again",.str "else",.str "done"],.int 8,.int 4,.int 18,.gtup [.str "+",.str "-",.str "/",.str "rest",.str "&",.str "^"],.gtup [.str "<",.str "="],.int 80]⟩ FN GN BN 1:=P0.add 0 (x:="is_made_of") rfl F0 (Nat.le_refl _) (Nat.le_succ _) T.g_is_made_of T.k_is_made_of T.b_is_made_of
 have F1:=fn0 P1 T.F_is_name Bi Z47 (sp:=Z9) (by rintro _ _ _ _ ⟨_,_,rfl,_⟩;rfl) (Zd2 rfl rfl rfl rfl rfl)
 have P2:Prg P w K mg base ⟨K,[Zp,Z9,bot,bot,bot,bot,bot,bot,bot,bot,bot,bot,bot,bot,bot,bot,bot,bot,bot,bot,bot,bot,bot,bot,bot,bot,bot,bot,bot,bot,bot,bot,bot,bot,bot,bot,bot,bot,bot],[.str "abcdefghijklmnopqrstuvwxyz",.str "0123456789",.gtup [.str "if",.str "jump",.str "end",.str "rest",.str "round",.str "part",.str "leave",.str "again",.str "else",.str "done"],.int 8,.int 4,.int 18,.gtup [.str "+",.str "-",.str "/",.str "rest",.str "&",.str "^"],.gtup [.str "<",.str "="],.int 80]⟩ FN GN BN 2:=P1.add 1 (x:="is_name") rfl F1 (Nat.le_refl _) (Nat.le_succ _) T.g_is_name T.k_is_name T.b_is_name
 have F2:=fn0 P2 T.F_are_figures Pk Nq (sp:=Za) (by rintro _ _ _ _ ⟨_,_,rfl,_⟩;rfl) (Ou rfl rfl)
 have P3:Prg P w K mg base ⟨K,[Zp,Z9,Za,bot,bot,bot,bot,bot,bot,bot,bot,bot,bot,bot,bot,bot,bot,bot,bot,bot,bot,bot,bot,bot,bot,bot,bot,bot,bot,bot,bot,bot,bot,bot,bot,bot,bot,bot,bot],[.str "abcdefghijklmnopqrstuvwxyz",.str "0123456789",.gtup [.str "if",.str "jump",.str "end",.str "rest",.str "round",.str "part",.str "leave",.str "again",.str "else",.str "done"],.int 8,.int 4,.int 18,.gtup [.str "+",.str "-",.str "/",.str "rest",.str "&",.str "^"],.gtup [.str "<",.str "="],.int 80]⟩ FN GN BN 3:=P2.add 2 (x:="are_figures") rfl F2 (Nat.le_refl _) (Nat.le_succ _) T.g_are_figures T.k_are_figures T.b_are_figures
 have F3:=fn0 P3 T.F_read_number Pv N0 (sp:=Z6) (by rintro _ _ _ _ ⟨_,rfl,_⟩;rfl) (J7 rfl rfl)
 have P4:Prg P w K mg base ⟨K,[Zp,Z9,Za,Z6,bot,bot,bot,bot,bot,bot,bot,bot,bot,bot,bot,bot,bot,bot,bot,bot,bot,bot,bot,bot,bot,bot,bot,bot,bot,bot,bot,bot,bot,bot,bot,bot,bot,bot,bot],[.str "abcdefghijklmnopqrstuvwxyz",.str "0123456789",.gtup [.str "if",.str "jump",.str "end",.str "rest",.str "round",.str "part",.str "leave",.str "again",.str "else",.str "done"],.int 8,.int 4,.int 18,.gtup [.str "+",.str "-",.str "/",.str "rest",.str "&",.str "^"],.gtup [.str "<",.str "="],.int 80]⟩ FN GN BN 4:=P3.add 3 (x:="read_number") rfl F3 (Nat.le_refl _) (Nat.le_succ _) T.g_read_number T.k_read_number T.b_read_number
 have F4:=fn0 P4 T.F_read_below_nought Tk Tz (sp:=Zh) (by rintro _ _ _ _ ⟨_,rfl,_⟩;rfl) (Fb rfl rfl)
 have P5:Prg P w K mg base ⟨K,[Zp,Z9,Za,Z6,Zh,bot,bot,bot,bot,bot,bot,bot,bot,bot,bot,bot,bot,bot,bot,bot,bot,bot,bot,bot,bot,bot,bot,bot,bot,bot,bot,bot,bot,bot,bot,bot,bot,bot,bot],[.str "abcdefghijklmnopqrstuvwxyz",.str "0123456789",.gtup [.str "if",.str "jump",.str "end",.str "rest",.str "round",.str "part",.str "leave",.str "again",.str "else",.str "done"],.int 8,.int 4,.int 18,.gtup [.str "+",.str "-",.str "/",.str "rest",.str "&",.str "^"],.gtup [.str "<",.str "="],.int 80]⟩ FN GN BN 5:=P4.add 4 (x:="read_below_nought") rfl F4 (Nat.le_refl _) (Nat.le_succ _) T.g_read_below_nought T.k_read_below_nought T.b_read_below_nought
 have F5:=fn0 P5 T.F_read_whole Na Gi (sp:=Zi) (by rintro _ _ _ _ ⟨_,rfl,_⟩;rfl) (G6 rfl rfl rfl)
 have P6:Prg P w K mg base ⟨K,[Zp,Z9,Za,Z6,Zh,Zi,bot,bot,bot,bot,bot,bot,bot,bot,bot,bot,bot,bot,bot,bot,bot,bot,bot,bot,bot,bot,bot,bot,bot,bot,bot,bot,bot,bot,bot,bot,bot,bot,bot],[.str "abcdefghijklmnopqrstuvwxyz",.str "0123456789",.gtup [.str "if",.str "jump",.str "end",.str "rest",.str "round",.str "part",.str "leave",.str "again",.str "else",.str "done"],.int 8,.int 4,.int 18,.gtup [.str "+",.str "-",.str "/",.str "rest",.str "&",.str "^"],.gtup [.str "<",.str "="],.int 80]⟩ FN GN BN 6:=P5.add 5 (x:="read_whole") rfl F5 (Nat.le_refl _) (Nat.le_succ _) T.g_read_whole T.k_read_whole T.b_read_whole
 have F6:=fn0 P6 T.F_read_operand Qg Pg (sp:=Z7) (by rintro _ _ _ _ ⟨_,rfl,_⟩;rfl) (Ps rfl rfl)
 have P7:Prg P w K mg base ⟨K,[Zp,Z9,Za,Z6,Zh,Zi,Z7,bot,bot,bot,bot,bot,bot,bot,bot,bot,bot,bot,bot,bot,bot,bot,bot,bot,bot,bot,bot,bot,bot,bot,bot,bot,bot,bot,bot,bot,bot,bot,bot],[.str "abcdefghijklmnopqrstuvwxyz",.str "0123456789",.gtup [.str "if",.str "jump",.str "end",.str "rest",.str "round",.str "part",.str "leave",.str "again",.str "else",.str "done"],.int 8,.int 4,.int 18,.gtup [.str "+",.str "-",.str "/",.str "rest",.str "&",.str "^"],.gtup [.str "<",.str "="],.int 80]⟩ FN GN BN 7:=P6.add 6 (x:="read_operand") rfl F6 (Nat.le_refl _) (Nat.le_succ _) T.g_read_operand T.k_read_operand T.b_read_operand
 have F7:=fn0 P7 T.F_read_asked N9 Jm (sp:=Zj) (by rintro _ _ _ _ ⟨_,_,_,_,_,rfl,_⟩;rfl) (Jx rfl)
 have P8:Prg P w K mg base ⟨K,[Zp,Z9,Za,Z6,Zh,Zi,Z7,Zj,bot,bot,bot,bot,bot,bot,bot,bot,bot,bot,bot,bot,bot,bot,bot,bot,bot,bot,bot,bot,bot,bot,bot,bot,bot,bot,bot,bot,bot,bot,bot],[.str "abcdefghijklmnopqrstuvwxyz",.str "0123456789",.gtup [.str "if",.str "jump",.str "end",.str "rest",.str "round",.str "part",.str "leave",.str "again",.str "else",.str "done"],.int 8,.int 4,.int 18,.gtup [.str "+",.str "-",.str "/",.str "rest",.str "&",.str "^"],.gtup [.str "<",.str "="],.int 80]⟩ FN GN BN 8:=P7.add 7 (x:="read_asked") rfl F7 (Nat.le_refl _) (Nat.le_succ _) T.g_read_asked T.k_read_asked T.b_read_asked
 have F8:=fn0 P8 T.F_read_sum Fu Z09 (sp:=X3) (by rintro _ _ _ _ ⟨_,_,_,_,_,rfl,_⟩;rfl) (Z06 rfl rfl rfl)
 have P9:Prg P w K mg base ⟨K,[Zp,Z9,Za,Z6,Zh,Zi,Z7,Zj,X3,bot,bot,bot,bot,bot,bot,bot,bot,bot,bot,bot,bot,bot,bot,bot,bot,bot,bot,bot,bot,bot,bot,bot,bot,bot,bot,bot,bot,bot,bot],[.str "abcdefghijklmnopqrstuvwxyz",.str "0123456789",.gtup [.str "if",.str "jump",.str "end",.str "rest",.str "round",.str "part",.str "leave",.str "again",.str "else",.str "done"],.int 8,.int 4,.int 18,.gtup [.str "+",.str "-",.str "/",.str "rest",.str "&",.str "^"],.gtup [.str "<",.str "="],.int 80]⟩ FN GN BN 9:=P8.add 8 (x:="read_sum") rfl F8 (Nat.le_refl _) (Nat.le_succ _) T.g_read_sum T.k_read_sum T.b_read_sum
 have F9:=fn0 P9 T.F_read_test G2 Fw (sp:=Zz) (by rintro _ _ _ _ ⟨_,_,_,_,rfl,_⟩;rfl) (Fi rfl rfl)
 have P10:Prg P w K mg base ⟨K,[Zp,Z9,Za,Z6,Zh,Zi,Z7,Zj,X3,Zz,bot,bot,bot,bot,bot,bot,bot,bot,bot,bot,bot,bot,bot,bot,bot,bot,bot,bot,bot,bot,bot,bot,bot,bot,bot,bot,bot,bot,bot],[.str "abcdefghijklmnopqrstuvwxyz",.str "0123456789",.gtup [.str "if",.str "jump",.str "end",.str "rest",.str "round",.str "part",.str "leave",.str "again",.str "else",.str "done"],.int 8,.int 4,.int 18,.gtup [.str "+",.str "-",.str "/",.str "rest",.str "&",.str "^"],.gtup [.str "<",.str "="],.int 80]⟩ FN GN BN 10:=P9.add 9 (x:="read_test") rfl F9 (Nat.le_refl _) (Nat.le_succ _) T.g_read_test T.k_read_test T.b_read_test
 have F10:=fn0 P10 T.F_written_sum Pl Ng (sp:=Y4) (by rintro _ _ _ _ ⟨_,_,_,_,rfl,_⟩;rfl) N4
 have P11:Prg P w K mg base ⟨K,[Zp,Z9,Za,Z6,Zh,Zi,Z7,Zj,X3,Zz,Y4,bot,bot,bot,bot,bot,bot,bot,bot,bot,bot,bot,bot,bot,bot,bot,bot,bot,bot,bot,bot,bot,bot,bot,bot,bot,bot,bot,bot],[.str "abcdefghijklmnopqrstuvwxyz",.str "0123456789",.gtup [.str "if",.str "jump",.str "end",.str "rest",.str "round",.str "part",.str "leave",.str "again",.str "else",.str "done"],.int 8,.int 4,.int 18,.gtup [.str "+",.str "-",.str "/",.str "rest",.str "&",.str "^"],.gtup [.str "<",.str "="],.int 80]⟩ FN GN BN 11:=P10.add 10 (x:="written_sum") rfl F10 (Nat.le_refl _) (Nat.le_succ _) T.g_written_sum T.k_written_sum T.b_written_sum
 have F11:=fn0 P11 T.F_written_test Q8 Pn (sp:=Zq) (by rintro _ _ _ _ ⟨_,_,_,rfl,_⟩;rfl) Pp
 have P12:Prg P w K mg base ⟨K,[Zp,Z9,Za,Z6,Zh,Zi,Z7,Zj,X3,Zz,Y4,Zq,bot,bot,bot,bot,bot,bot,bot,bot,bot,bot,bot,bot,bot,bot,bot,bot,bot,bot,bot,bot,bot,bot,bot,bot,bot,bot,bot],[.str "abcdefghijklmnopqrstuvwxyz",.str "0123456789",.gtup [.str "if",.str "jump",.str "end",.str "rest",.str "round",.str "part",.str "leave",.str "again",.str "else",.str "done"],.int 8,.int 4,.int 18,.gtup [.str "+",.str "-",.str "/",.str "rest",.str "&",.str "^"],.gtup [.str "<",.str "="],.int 80]⟩ FN GN BN 12:=P11.add 11 (x:="written_test") rfl F11 (Nat.le_refl _) (Nat.le_succ _) T.g_written_test T.k_written_test T.b_written_test
 have F12:=fn0 P12 T.F_read_jump G1 Fg (sp:=Yc) (by rintro _ _ _ _ ⟨_,rfl,_⟩;rfl) (E2 rfl)
 have P13:Prg P w K mg base ⟨K,[Zp,Z9,Za,Z6,Zh,Zi,Z7,Zj,X3,Zz,Y4,Zq,Yc,bot,bot,bot,bot,bot,bot,bot,bot,bot,bot,bot,bot,bot,bot,bot,bot,bot,bot,bot,bot,bot,bot,bot,bot,bot,bot],[.str "abcdefghijklmnopqrstuvwxyz",.str "0123456789",.gtup [.str "if",.str "jump",.str "end",.str "rest",.str "round",.str "part",.str "leave",.str "again",.str "else",.str "done"],.int 8,.int 4,.int 18,.gtup [.str "+",.str "-",.str "/",.str "rest",.str "&",.str "^"],.gtup [.str "<",.str "="],.int 80]⟩ FN GN BN 13:=P12.add 12 (x:="read_jump") rfl F12 (Nat.le_refl _) (Nat.le_succ _) T.g_read_jump T.k_read_jump T.b_read_jump
 have F13:=fn0 P13 T.F_read_test_row Rv Qt (sp:=Ze) (by rintro _ _ _ _ ⟨_,_,_,_,_,rfl,_⟩;rfl) (Qn rfl rfl)
 have P14:Prg P w K mg base ⟨K,[Zp,Z9,Za,Z6,Zh,Zi,Z7,Zj,X3,Zz,Y4,Zq,Yc,Ze,bot,bot,bot,bot,bot,bot,bot,bot,bot,bot,bot,bot,bot,bot,bot,bot,bot,bot,bot,bot,bot,bot,bot,bot,bot],[.str "abcdefghijklmnopqrstuvwxyz",.str "0123456789",.gtup [.str "if",.str "jump",.str "end",.str "rest",.str "round",.str "part",.str "leave",.str "again",.str "else",.str "done"],.int 8,.int 4,.int 18,.gtup [.str "+",.str "-",.str "/",.str "rest",.str "&",.str "^"],.gtup [.str "<",.str "="],.int 80]⟩ FN GN BN 14:=P13.add 13 (x:="read_test_row") rfl F13 (Nat.le_refl _) (Nat.le_succ _) T.g_read_test_row T.k_read_test_row T.b_read_test_row
 have F14:=fn0 P14 T.F_read_told Jq Fs (sp:=Yl) (by rintro _ _ _ _ ⟨_,_,_,rfl,_⟩;rfl) (Fv rfl rfl rfl)
 have P15:Prg P w K mg base ⟨K,[Zp,Z9,Za,Z6,Zh,Zi,Z7,Zj,X3,Zz,Y4,Zq,Yc,Ze,Yl,bot,bot,bot,bot,bot,bot,bot,bot,bot,bot,bot,bot,bot,bot,bot,bot,bot,bot,bot,bot,bot,bot,bot,bot],[.str "abcdefghijklmnopqrstuvwxyz",.str "0123456789",.gtup [.str "if",.str "jump",.str "end",.str "rest",.str "round",.str "part",.str "leave",.str "again",.str "else",.str "done"],.int 8,.int 4,.int 18,.gtup [.str "+",.str "-",.str "/",.str "rest",.str "&",.str "^"],.gtup [.str "<",.str "="],.int 80]⟩ FN GN BN 15:=P14.add 14 (x:="read_told") rfl F14 (Nat.le_refl _) (Nat.le_succ _) T.g_read_told T.k_read_told T.b_read_told
 have F15:=fn0 P15 T.F_read_row Fz Z25 (sp:=Zg) (by rintro _ _ _ _ ⟨_,_,rfl,_⟩;rfl) (Z34 rfl rfl)
 have P16:Prg P w K mg base ⟨K,[Zp,Z9,Za,Z6,Zh,Zi,Z7,Zj,X3,Zz,Y4,Zq,Yc,Ze,Yl,Zg,bot,bot,bot,bot,bot,bot,bot,bot,bot,bot,bot,bot,bot,bot,bot,bot,bot,bot,bot,bot,bot,bot,bot],[.str "abcdefghijklmnopqrstuvwxyz",.str "0123456789",.gtup [.str "if",.str "jump",.str "end",.str "rest",.str "round",.str "part",.str "leave",.str "again",.str "else",.str "done"],.int 8,.int 4,.int 18,.gtup [.str "+",.str "-",.str "/",.str "rest",.str "&",.str "^"],.gtup [.str "<",.str "="],.int 80]⟩ FN GN BN 16:=P15.add 15 (x:="read_row") rfl F15 (Nat.le_refl _) (Nat.le_succ _) T.g_read_row T.k_read_row T.b_read_row
 have F16:=fn0 P16 T.F_read_lines N3 Gg (sp:=Z8) (by rintro _ _ _ _ ⟨_,_,_,_,_,_,rfl,_⟩;rfl) (Ju rfl)
 have P17:Prg P w K mg base ⟨K,[Zp,Z9,Za,Z6,Zh,Zi,Z7,Zj,X3,Zz,Y4,Zq,Yc,Ze,Yl,Zg,Z8,bot,bot,bot,bot,bot,bot,bot,bot,bot,bot,bot,bot,bot,bot,bot,bot,bot,bot,bot,bot,bot,bot],[.str "abcdefghijklmnopqrstuvwxyz",.str "0123456789",.gtup [.str "if",.str "jump",.str "end",.str "rest",.str "round",.str "part",.str "leave",.str "again",.str "else",.str "done"],.int 8,.int 4,.int 18,.gtup [.str "+",.str "-",.str "/",.str "rest",.str "&",.str "^"],.gtup [.str "<",.str "="],.int 80]⟩ FN GN BN 17:=P16.add 16 (x:="read_lines") rfl F16 (Nat.le_refl _) (Nat.le_succ _) T.g_read_lines T.k_read_lines T.b_read_lines
 have F17:=fn0 P17 T.F_refuse_lost_jumps Tl S0 (sp:=Yw) (by rintro _ _ _ _ ⟨_,_,_,_,_,rfl,_⟩;rfl) Zh1
 have P18:Prg P w K mg base ⟨K,[Zp,Z9,Za,Z6,Zh,Zi,Z7,Zj,X3,Zz,Y4,Zq,Yc,Ze,Yl,Zg,Z8,Yw,bot,bot,bot,bot,bot,bot,bot,bot,bot,bot,bot,bot,bot,bot,bot,bot,bot,bot,bot,bot,bot],[.str "abcdefghijklmnopqrstuvwxyz",.str "0123456789",.gtup [.str "if",.str "jump",.str "end",.str "rest",.str "round",.str "part",.str "leave",.str "again",.str "else",.str "done"],.int 8,.int 4,.int 18,.gtup [.str "+",.str "-",.str "/",.str "rest",.str "&",.str "^"],.gtup [.str "<",.str "="],.int 80]⟩ FN GN BN 18:=P17.add 17 (x:="refuse_lost_jumps") rfl F17 (Nat.le_refl _) (Nat.le_succ _) T.g_refuse_lost_jumps T.k_refuse_lost_jumps T.b_refuse_lost_jumps
 have F18:=fn0 P18 T.F_read Zu6 Y27 (sp:=Yq) (by rintro _ _ _ _ ⟨_,_,_,rfl,_⟩;rfl) (Y59 rfl rfl rfl)
 have P19:Prg P w K mg base ⟨K,[Zp,Z9,Za,Z6,Zh,Zi,Z7,Zj,X3,Zz,Y4,Zq,Yc,Ze,Yl,Zg,Z8,Yw,Yq,bot,bot,bot,bot,bot,bot,bot,bot,bot,bot,bot,bot,bot,bot,bot,bot,bot,bot,bot,bot],[.str "abcdefghijklmnopqrstuvwxyz",.str "0123456789",.gtup [.str "if",.str "jump",.str "end",.str "rest",.str "round",.str "part",.str "leave",.str "again",.str "else",.str "done"],.int 8,.int 4,.int 18,.gtup [.str "+",.str "-",.str "/",.str "rest",.str "&",.str "^"],.gtup [.str "<",.str "="],.int 80]⟩ FN GN BN 19:=P18.add 18 (x:="read") rfl F18 (Nat.le_refl _) (Nat.le_succ _) T.g_read T.k_read T.b_read
 have F19:=fn0 P19 T.F_written_told Qk Po (sp:=Y7) (by rintro _ _ _ _ ⟨_,_,rfl,_⟩;rfl) (Pq rfl rfl)
 have P20:Prg P w K mg base ⟨K,[Zp,Z9,Za,Z6,Zh,Zi,Z7,Zj,X3,Zz,Y4,Zq,Yc,Ze,Yl,Zg,Z8,Yw,Yq,Y7,bot,bot,bot,bot,bot,bot,bot,bot,bot,bot,bot,bot,bot,bot,bot,bot,bot,bot,bot],[.str "abcdefghijklmnopqrstuvwxyz",.str "0123456789",.gtup [.str "if",.str "jump",.str "end",.str "rest",.str "round",.str "part",.str "leave",.str "again",.str "else",.str "done"],.int 8,.int 4,.int 18,.gtup [.str "+",.str "-",.str "/",.str "rest",.str "&",.str "^"],.gtup [.str "<",.str "="],.int 80]⟩ FN GN BN 20:=P19.add 19 (x:="written_told") rfl F19 (Nat.le_refl _) (Nat.le_succ _) T.g_written_told T.k_written_told T.b_written_told
 have F20:=fn0 P20 T.F_written_row Pu Ox (sp:=X7) (by rintro _ _ _ _ ⟨_,_,rfl,_⟩;rfl) (Ni rfl)
 have P21:Prg P w K mg base ⟨K,[Zp,Z9,Za,Z6,Zh,Zi,Z7,Zj,X3,Zz,Y4,Zq,Yc,Ze,Yl,Zg,Z8,Yw,Yq,Y7,X7,bot,bot,bot,bot,bot,bot,bot,bot,bot,bot,bot,bot,bot,bot,bot,bot,bot,bot],[.str "abcdefghijklmnopqrstuvwxyz",.str "0123456789",.gtup [.str "if",.str "jump",.str "end",.str "rest",.str "round",.str "part",.str "leave",.str "again",.str "else",.str "done"],.int 8,.int 4,.int 18,.gtup [.str "+",.str "-",.str "/",.str "rest",.str "&",.str "^"],.gtup [.str "<",.str "="],.int 80]⟩ FN GN BN 21:=P20.add 20 (x:="written_row") rfl F20 (Nat.le_refl _) (Nat.le_succ _) T.g_written_row T.k_written_row T.b_written_row
 have F21:=fn0 P21 T.F_written Bl Zd7 (sp:=Zn) (by rintro _ _ _ _ ⟨_,_,_,rfl,_⟩;rfl) (Zd6 rfl)
 have P22:Prg P w K mg base ⟨K,[Zp,Z9,Za,Z6,Zh,Zi,Z7,Zj,X3,Zz,Y4,Zq,Yc,Ze,Yl,Zg,Z8,Yw,Yq,Y7,X7,Zn,bot,bot,bot,bot,bot,bot,bot,bot,bot,bot,bot,bot,bot,bot,bot,bot,bot],[.str "abcdefghijklmnopqrstuvwxyz",.str "0123456789",.gtup [.str "if",.str "jump",.str "end",.str "rest",.str "round",.str "part",.str "leave",.str "again",.str "else",.str "done"],.int 8,.int 4,.int 18,.gtup [.str "+",.str "-",.str "/",.str "rest",.str "&",.str "^"],.gtup [.str "<",.str "="],.int 80]⟩ FN GN BN 22:=P21.add 21 (x:="written") rfl F21 (Nat.le_refl _) (Nat.le_succ _) T.g_written T.k_written T.b_written
 have F22:=fn0 P22 T.F_Lraw Zv5 Y38 (sp:=Wv) (by rintro _ _ _ _ ⟨_,_,rfl,_⟩;rfl) Y63
 have P23:Prg P w K mg base ⟨K,[Zp,Z9,Za,Z6,Zh,Zi,Z7,Zj,X3,Zz,Y4,Zq,Yc,Ze,Yl,Zg,Z8,Yw,Yq,Y7,X7,Zn,Wv,bot,bot,bot,bot,bot,bot,bot,bot,bot,bot,bot,bot,bot,bot,bot,bot],[.str "abcdefghijklmnopqrstuvwxyz",.str "0123456789",.gtup [.str "if",.str "jump",.str "end",.str "rest",.str "round",.str "part",.str "leave",.str "again",.str "else",.str "done"],.int 8,.int 4,.int 18,.gtup [.str "+",.str "-",.str "/",.str "rest",.str "&",.str "^"],.gtup [.str "<",.str "="],.int 80]⟩ FN GN BN 23:=P22.add 22 (x:="_law_raw") rfl F22 (Nat.le_refl _) (Nat.le_succ _) T.g_Lraw T.k_Lraw T.b_Lraw
 have F23:=fn0 P23 T.F_Lmix Zq6 Y84 (sp:=Wg) (by rintro _ _ _ _ ⟨_,_,rfl,_⟩;rfl) (Y65 rfl)
 have P24:Prg P w K mg base ⟨K,[Zp,Z9,Za,Z6,Zh,Zi,Z7,Zj,X3,Zz,Y4,Zq,Yc,Ze,Yl,Zg,Z8,Yw,Yq,Y7,X7,Zn,Wv,Wg,bot,bot,bot,bot,bot,bot,bot,bot,bot,bot,bot,bot,bot,bot,bot],[.str "abcdefghijklmnopqrstuvwxyz",.str "0123456789",.gtup [.str "if",.str "jump",.str "end",.str "rest",.str "round",.str "part",.str "leave",.str "again",.str "else",.str "done"],.int 8,.int 4,.int 18,.gtup [.str "+",.str "-",.str "/",.str "rest",.str "&",.str "^"],.gtup [.str "<",.str "="],.int 80]⟩ FN GN BN 24:=P23.add 23 (x:="_law_mix") rfl F23 (Nat.le_refl _) (Nat.le_succ _) T.g_Lmix T.k_Lmix T.b_Lmix
 have F24:=fn0 P24 T.F_Lkept Zm3 Zq7 (sp:=Xf) (by rintro _ _ _ _ ⟨rfl,_⟩;rfl) Zu7
 have P25:Prg P w K mg base ⟨K,[Zp,Z9,Za,Z6,Zh,Zi,Z7,Zj,X3,Zz,Y4,Zq,Yc,Ze,Yl,Zg,Z8,Yw,Yq,Y7,X7,Zn,Wv,Wg,Xf,bot,bot,bot,bot,bot,bot,bot,bot,bot,bot,bot,bot,bot,bot],[.str "abcdefghijklmnopqrstuvwxyz",.str "0123456789",.gtup [.str "if",.str "jump",.str "end",.str "rest",.str "round",.str "part",.str "leave",.str "again",.str "else",.str "done"],.int 8,.int 4,.int 18,.gtup [.str "+",.str "-",.str "/",.str "rest",.str "&",.str "^"],.gtup [.str "<",.str "="],.int 80]⟩ FN GN BN 25:=P24.add 24 (x:="_law_kept") rfl F24 (Nat.le_refl _) (Nat.le_succ _) T.g_Lkept T.k_Lkept T.b_Lkept
 have F25:=fn0 P25 T.F_Lsign Zg6 Zq0 (sp:=Xj) (by rintro _ _ _ _ ⟨_,_,rfl,_⟩;rfl) Zr0
 have P26:Prg P w K mg base ⟨K,[Zp,Z9,Za,Z6,Zh,Zi,Z7,Zj,X3,Zz,Y4,Zq,Yc,Ze,Yl,Zg,Z8,Yw,Yq,Y7,X7,Zn,Wv,Wg,Xf,Xj,bot,bot,bot,bot,bot,bot,bot,bot,bot,bot,bot,bot,bot],[.str "abcdefghijklmnopqrstuvwxyz",.str "0123456789",.gtup [.str "if",.str "jump",.str "end",.str "rest",.str "round",.str "part",.str "leave",.str "again",.str "else",.str "done"],.int 8,.int 4,.int 18,.gtup [.str "+",.str "-",.str "/",.str "rest",.str "&",.str "^"],.gtup [.str "<",.str "="],.int 80]⟩ FN GN BN 26:=P25.add 25 (x:="_law_sign") rfl F25 (Nat.le_refl _) (Nat.le_succ _) T.g_Lsign T.k_Lsign T.b_Lsign
 have F26:=fn0 P26 T.F_Lword Zm8 Zu4 (sp:=W4) (by rintro _ _ _ _ ⟨_,_,rfl,_⟩;rfl) (Zz9 rfl)
 have P27:Prg P w K mg base ⟨K,[Zp,Z9,Za,Z6,Zh,Zi,Z7,Zj,X3,Zz,Y4,Zq,Yc,Ze,Yl,Zg,Z8,Yw,Yq,Y7,X7,Zn,Wv,Wg,Xf,Xj,W4,bot,bot,bot,bot,bot,bot,bot,bot,bot,bot,bot,bot],[.str "abcdefghijklmnopqrstuvwxyz",.str "0123456789",.gtup [.str "if",.str "jump",.str "end",.str "rest",.str "round",.str "part",.str "leave",.str "again",.str "else",.str "done"],.int 8,.int 4,.int 18,.gtup [.str "+",.str "-",.str "/",.str "rest",.str "&",.str "^"],.gtup [.str "<",.str "="],.int 80]⟩ FN GN BN 27:=P26.add 26 (x:="_law_word") rfl F26 (Nat.le_refl _) (Nat.le_succ _) T.g_Lword T.k_Lword T.b_Lword
 have F27:=fn0 P27 T.F_Lnames Z94 Zn0 (sp:=Xa) (by rintro _ _ _ _ ⟨_,rfl,_⟩;rfl) (Zf8 rfl rfl rfl rfl)
 have P28:Prg P w K mg base ⟨K,[Zp,Z9,Za,Z6,Zh,Zi,Z7,Zj,X3,Zz,Y4,Zq,Yc,Ze,Yl,Zg,Z8,Yw,Yq,Y7,X7,Zn,Wv,Wg,Xf,Xj,W4,Xa,bot,bot,bot,bot,bot,bot,bot,bot,bot,bot,bot],[.str "abcdefghijklmnopqrstuvwxyz",.str "0123456789",.gtup [.str "if",.str "jump",.str "end",.str "rest",.str "round",.str "part",.str "leave",.str "again",.str "else",.str "done"],.int 8,.int 4,.int 18,.gtup [.str "+",.str "-",.str "/",.str "rest",.str "&",.str "^"],.gtup [.str "<",.str "="],.int 80]⟩ FN GN BN 28:=P27.add 27 (x:="_law_names") rfl F27 (Nat.le_refl _) (Nat.le_succ _) T.g_Lnames T.k_Lnames T.b_Lnames
 have F28:=fn0 P28 T.F_Loperand Fm Z28 (sp:=Yh) (by rintro _ _ _ _ ⟨_,_,_,_,rfl,_⟩;rfl) (Z26 rfl)
 have P29:Prg P w K mg base ⟨K,[Zp,Z9,Za,Z6,Zh,Zi,Z7,Zj,X3,Zz,Y4,Zq,Yc,Ze,Yl,Zg,Z8,Yw,Yq,Y7,X7,Zn,Wv,Wg,Xf,Xj,W4,Xa,Yh,bot,bot,bot,bot,bot,bot,bot,bot,bot,bot],[.str "abcdefghijklmnopqrstuvwxyz",.str "0123456789",.gtup [.str "if",.str "jump",.str "end",.str "rest",.str "round",.str "part",.str "leave",.str "again",.str "else",.str "done"],.int 8,.int 4,.int 18,.gtup [.str "+",.str "-",.str "/",.str "rest",.str "&",.str "^"],.gtup [.str "<",.str "="],.int 80]⟩ FN GN BN 29:=P28.add 28 (x:="_law_operand") rfl F28 (Nat.le_refl _) (Nat.le_succ _) T.g_Loperand T.k_Loperand T.b_Loperand
 have F29:=fn0 P29 T.F_Lnumbers Fx Bx (sp:=Yn) (by rintro _ _ _ _ ⟨_,_,rfl,_⟩;rfl) (Z43 rfl)
 have P30:Prg P w K mg base ⟨K,[Zp,Z9,Za,Z6,Zh,Zi,Z7,Zj,X3,Zz,Y4,Zq,Yc,Ze,Yl,Zg,Z8,Yw,Yq,Y7,X7,Zn,Wv,Wg,Xf,Xj,W4,Xa,Yh,Yn,bot,bot,bot,bot,bot,bot,bot,bot,bot],[.str "abcdefghijklmnopqrstuvwxyz",.str "0123456789",.gtup [.str "if",.str "jump",.str "end",.str "rest",.str "round",.str "part",.str "leave",.str "again",.str "else",.str "done"],.int 8,.int 4,.int 18,.gtup [.str "+",.str "-",.str "/",.str "rest",.str "&",.str "^"],.gtup [.str "<",.str "="],.int 80]⟩ FN GN BN 30:=P29.add 29 (x:="_law_numbers") rfl F29 (Nat.le_refl _) (Nat.le_succ _) T.g_Lnumbers T.k_Lnumbers T.b_Lnumbers
 have F30:=fn0 P30 T.F_Lrow Zq2 Y78 (sp:=Ru) (by rintro _ _ _ _ ⟨_,_,_,_,_,rfl,_⟩;rfl) (Y43 rfl rfl)
 have P31:Prg P w K mg base ⟨K,[Zp,Z9,Za,Z6,Zh,Zi,Z7,Zj,X3,Zz,Y4,Zq,Yc,Ze,Yl,Zg,Z8,Yw,Yq,Y7,X7,Zn,Wv,Wg,Xf,Xj,W4,Xa,Yh,Yn,Ru,bot,bot,bot,bot,bot,bot,bot,bot],[.str "abcdefghijklmnopqrstuvwxyz",.str "0123456789",.gtup [.str "if",.str "jump",.str "end",.str "rest",.str "round",.str "part",.str "leave",.str "again",.str "else",.str "done"],.int 8,.int 4,.int 18,.gtup [.str "+",.str "-",.str "/",.str "rest",.str "&",.str "^"],.gtup [.str "<",.str "="],.int 80]⟩ FN GN BN 31:=P30.add 30 (x:="_law_row") rfl F30 (Nat.le_refl _) (Nat.le_succ _) T.g_Lrow T.k_Lrow T.b_Lrow
 have F31:=fn0 P31 T.F_Lrows Zg8 Zv9 (sp:=T1) (by rintro _ _ _ _ ⟨_,_,rfl,_⟩;rfl) (Zv2 rfl rfl rfl)
 have P32:Prg P w K mg base ⟨K,[Zp,Z9,Za,Z6,Zh,Zi,Z7,Zj,X3,Zz,Y4,Zq,Yc,Ze,Yl,Zg,Z8,Yw,Yq,Y7,X7,Zn,Wv,Wg,Xf,Xj,W4,Xa,Yh,Yn,Ru,T1,bot,bot,bot,bot,bot,bot,bot],[.str "abcdefghijklmnopqrstuvwxyz",.str "0123456789",.gtup [.str "if",.str "jump",.str "end",.str "rest",.str "round",.str "part",.str "leave",.str "again",.str "else",.str "done"],.int 8,.int 4,.int 18,.gtup [.str "+",.str "-",.str "/",.str "rest",.str "&",.str "^"],.gtup [.str "<",.str "="],.int 80]⟩ FN GN BN 32:=P31.add 31 (x:="_law_rows") rfl F31 (Nat.le_refl _) (Nat.le_succ _) T.g_Lrows T.k_Lrows T.b_Lrows
 have F32:=fn0 P32 T.F_Lline Zf4 Zz4 (sp:=Tn) (by rintro _ _ _ _ ⟨_,_,rfl,_⟩;rfl) Zt1
 have P33:Prg P w K mg base ⟨K,[Zp,Z9,Za,Z6,Zh,Zi,Z7,Zj,X3,Zz,Y4,Zq,Yc,Ze,Yl,Zg,Z8,Yw,Yq,Y7,X7,Zn,Wv,Wg,Xf,Xj,W4,Xa,Yh,Yn,Ru,T1,Tn,bot,bot,bot,bot,bot,bot],[.str "abcdefghijklmnopqrstuvwxyz",.str "0123456789",.gtup [.str "if",.str "jump",.str "end",.str "rest",.str "round",.str "part",.str "leave",.str "again",.str "else",.str "done"],.int 8,.int 4,.int 18,.gtup [.str "+",.str "-",.str "/",.str "rest",.str "&",.str "^"],.gtup [.str "<",.str "="],.int 80]⟩ FN GN BN 33:=P32.add 32 (x:="_law_line") rfl F32 (Nat.le_refl _) (Nat.le_succ _) T.g_Lline T.k_Lline T.b_Lline
 have A33:∀n:Nat,Prg P w K mg base ⟨K,[Zp,Z9,Za,Z6,Zh,Zi,Z7,Zj,X3,Zz,Y4,Zq,Yc,Ze,Yl,Zg,Z8,Yw,Yq,Y7,X7,Zn,Wv,Wg,Xf,Xj,W4,Xa,Yh,Yn,Ru,T1,Tn,(Xb n),bot,bot,bot,bot,bot],[.str "abcdefghijklmnopqrstuvwxyz",.str "0123456789",.gtup [.str "if",.str "jump",.str "end",.str "rest",.str "round",.str "part",.str "leave",.str "again",.str "else",.str "done"],.int 8,.int 4,.int 18,.gtup [.str "+",.str "-",.str "/",.str "rest",.str "&",.str "^"],.gtup [.str "<",.str "="],.int 80]⟩ FN GN BN (33+n+1):=by
  intro n
  induction n with
  | zero=>exact P33.add 33 (x:="_law_alike") rfl (fn0 P33 T.F_Lalike Jn B2 (sp:=Xb 0) (by rintro _ _ _ _ ⟨_,_,rfl,_⟩;rfl) Z88) (Nat.le_refl _) (Nat.le_succ _) T.g_Lalike T.k_Lalike T.b_Lalike
  | succ n ih=>exact ih.add 33 (x:="_law_alike") rfl (fn0 ih T.F_Lalike Jn B2 (sp:=Xb (n+1)) (by rintro _ _ _ _ ⟨_,_,rfl,_⟩;rfl) (Za6 rfl)) (Nat.le_refl _) (Nat.le_succ _) T.g_Lalike T.k_Lalike T.b_Lalike
 have P34:Prg P w K mg base ⟨K,[Zp,Z9,Za,Z6,Zh,Zi,Z7,Zj,X3,Zz,Y4,Zq,Yc,Ze,Yl,Zg,Z8,Yw,Yq,Y7,X7,Zn,Wv,Wg,Xf,Xj,W4,Xa,Yh,Yn,Ru,T1,Tn,(Xb 2),bot,bot,bot,bot,bot],[.str "abcdefghijklmnopqrstuvwxyz",.str "0123456789",.gtup [.str "if",.str "jump",.str "end",.str "rest",.str "round",.str "part",.str "leave",.str "again",.str "else",.str "done"],.int 8,.int 4,.int 18,.gtup [.str "+",.str "-",.str "/",.str "rest",.str "&",.str "^"],.gtup [.str "<",.str "="],.int 80]⟩ FN GN BN 36:=A33 2
 have F34:=fn0 P34 T.F_Lmany Zj2 Zx2 (sp:=Qf) (by rintro _ _ _ _ ⟨_,rfl,_⟩;rfl) (Zz0 rfl)
 have P35:Prg P w K mg base ⟨K,[Zp,Z9,Za,Z6,Zh,Zi,Z7,Zj,X3,Zz,Y4,Zq,Yc,Ze,Yl,Zg,Z8,Yw,Yq,Y7,X7,Zn,Wv,Wg,Xf,Xj,W4,Xa,Yh,Yn,Ru,T1,Tn,(Xb 2),Qf,bot,bot,bot,bot],[.str "abcdefghijklmnopqrstuvwxyz",.str "0123456789",.gtup [.str "if",.str "jump",.str "end",.str "rest",.str "round",.str "part",.str "leave",.str "again",.str "else",.str "done"],.int 8,.int 4,.int 18,.gtup [.str "+",.str "-",.str "/",.str "rest",.str "&",.str "^"],.gtup [.str "<",.str "="],.int 80]⟩ FN GN BN 37:=P34.add 34 (x:="_law_many") rfl F34 (Nat.le_refl _) (Nat.le_succ _) T.g_Lmany T.k_Lmany T.b_Lmany
 have F35:=fn0 P35 T.F_Ldue Zu9 Y31 (sp:=Z31) (by rintro _ _ _ _ ⟨_,_,_,rfl,_⟩;rfl) (Y16 rfl)
 have P36:Prg P w K mg base ⟨K,[Zp,Z9,Za,Z6,Zh,Zi,Z7,Zj,X3,Zz,Y4,Zq,Yc,Ze,Yl,Zg,Z8,Yw,Yq,Y7,X7,Zn,Wv,Wg,Xf,Xj,W4,Xa,Yh,Yn,Ru,T1,Tn,(Xb 2),Qf,Z31,bot,bot,bot],[.str "abcdefghijklmnopqrstuvwxyz",.str "0123456789",.gtup [.str "if",.str "jump",.str "end",.str "rest",.str "round",.str "part",.str "leave",.str "again",.str "else",.str "done"],.int 8,.int 4,.int 18,.gtup [.str "+",.str "-",.str "/",.str "rest",.str "&",.str "^"],.gtup [.str "<",.str "="],.int 80]⟩ FN GN BN 38:=P35.add 35 (x:="_law_due") rfl F35 (Nat.le_refl _) (Nat.le_succ _) T.g_Ldue T.k_Ldue T.b_Ldue
 have F36:=fn0 P36 T.F_Ltold Zl6 Zx5 (sp:=Sv) (by rintro _ _ _ _ ⟨_,_,_,rfl,_⟩;rfl) (Zy3 rfl)
 have P37:Prg P w K mg base ⟨K,[Zp,Z9,Za,Z6,Zh,Zi,Z7,Zj,X3,Zz,Y4,Zq,Yc,Ze,Yl,Zg,Z8,Yw,Yq,Y7,X7,Zn,Wv,Wg,Xf,Xj,W4,Xa,Yh,Yn,Ru,T1,Tn,(Xb 2),Qf,Z31,Sv,bot,bot],[.str "abcdefghijklmnopqrstuvwxyz",.str "0123456789",.gtup [.str "if",.str "jump",.str "end",.str "rest",.str "round",.str "part",.str "leave",.str "again",.str "else",.str "done"],.int 8,.int 4,.int 18,.gtup [.str "+",.str "-",.str "/",.str "rest",.str "&",.str "^"],.gtup [.str "<",.str "="],.int 80]⟩ FN GN BN 39:=P36.add 36 (x:="_law_told") rfl F36 (Nat.le_refl _) (Nat.le_succ _) T.g_Ltold T.k_Ltold T.b_Ltold
 have F37:=fn0 P37 T.F_Lgoals Zc8 Zi0 (sp:=Nc) (by rintro _ _ _ _ ⟨_,_,rfl,_⟩;rfl) Zm1
 have P38:Prg P w K mg base ⟨K,[Zp,Z9,Za,Z6,Zh,Zi,Z7,Zj,X3,Zz,Y4,Zq,Yc,Ze,Yl,Zg,Z8,Yw,Yq,Y7,X7,Zn,Wv,Wg,Xf,Xj,W4,Xa,Yh,Yn,Ru,T1,Tn,(Xb 2),Qf,Z31,Sv,Nc,bot],[.str "abcdefghijklmnopqrstuvwxyz",.str "0123456789",.gtup [.str "if",.str "jump",.str "end",.str "rest",.str "round",.str "part",.str "leave",.str "again",.str "else",.str "done"],.int 8,.int 4,.int 18,.gtup [.str "+",.str "-",.str "/",.str "rest",.str "&",.str "^"],.gtup [.str "<",.str "="],.int 80]⟩ FN GN BN 40:=P37.add 37 (x:="_law_goals") rfl F37 (Nat.le_refl _) (Nat.le_succ _) T.g_Lgoals T.k_Lgoals T.b_Lgoals
 have F38:=fn0 P38 T.F_law Y80 Y95 (sp:=Bv) (by rintro _ _ _ _ ⟨_,rfl,_⟩;rfl) (Y99 rfl rfl rfl rfl rfl rfl rfl)
 exact F38
theorem Zx3{l:PySem.W.OpenLaw}{w:World}{fa f:Addr}{K:Ae}{mg:Str→Option Value}(hfa:mg "law"=some (.ref fa))(h:∃t:Adr,Tx K mg t∧t.a_law=f∧∀(s:Shared) (v:Value),BindsTo s t.d_law ⟨[v],[]⟩ [("_law_script",v)])
  :∃fd:FuncData,(∀(s:Shared) (v:Value),BindsTo s fd ⟨[v],[]⟩ [("_law_script",v)])∧∀base:Heap,K.In base→base.Ns mainGlobals mg→FnOk l.prog w K mg base (CX1 l.prog w) 41 fa fd ["_law_script"] (spF K Bv):=by
 obtain⟨t,T,e,hb⟩:=h
 have e2:=hfa.symm.trans T.g_law
 cases e2
 exact⟨t.d_law,hb,fun base _ _=>Y34 T⟩
end K05
namespace Hand
open PySem PySem.Spec PyProof.Rows L2 L3 U K05
noncomputable def kf(n:Str)(i:Nat)(dV kV dc pm:Value)(an:Option Addr)(cd ct:Value):Obj:=⟨.type "function",none,.func (As n n (Zf (top i)) (Z4 (top i)) (Z1 (top i)) dV kV dc pm an cd ct),#[]⟩
noncomputable def kg(n:Str)(i:Nat)(m:Str)(t c:Nat):Obj:=kf n i .none .none .none (.str m t) none (.ref c) .none
noncomputable def kc(n:Str)(t:Nat)(l a:Int)(r:Nat)(x y:Int)(z:Nat):Obj:=⟨.type "code",none,.fields #[.str n t,.str n (t+1),.str "/claim/cut.py" (t+2),.int l 0,.int a 0,.int 0 0,.int 0 0,.int 3 0,.ref r,.bool true,.int x 0,.ref (r+1),.none,.ref (r+2),.ref (r+3),.ref (r+4),.int y 0,.int l 0,.str "/claim/cut.py" z],#[]⟩
noncomputable def ke(P:Params)(x:Str)(t:Nat)(v:Value):DictEntry:=⟨PyData.keyHash P x,.str x t,v⟩
noncomputable abbrev kd:Value:= .type "dict"
noncomputable abbrev kR(a:Nat):Value:= .ref a
noncomputable abbrev kS(x:Str)(t:Nat):Value:= .str x t
noncomputable def KH(P:Params):Ae:=(nat_lit 2,⟨.none,none,.dict #[] 0,#[]⟩)::(nat_lit 3,⟨kd,none,.dict #[ke P "__name__" 165 (kS "law_unjump_k05_rows_written" 493),ke P "__doc__" 166 .none,ke P "__package__" 167 .none,ke P "__loader__" 168 (.builtin "__main__.__loader__#opaque"),ke P "__spec__" 169 .none,ke P "__annotations__" 170 (kR 6),ke P "__builtins__" 171 (kR 4),ke P "__file__" 173 (kS "/claim/cut.py" 172),ke P "__cached__" 174 .none,ke P "JumpError" 215 (kR 32),ke P "NoRow" 231 (kR 45),ke P "NoJump" 247 (kR 57),ke P "NoEnd" 263 (kR 69),ke P "TooGreat" 279 (kR 81),ke P "LETTERS" 283 (kS "abcdefghijklmnopqrstuvwxyz" 282),ke P "FIGURES" 285 (kS "0123456789" 284),ke P "KEPT" 296 (kR 84),ke P "MOST_SIGNS_OF_NAME" 298 (.int 8 297),ke P "MOST_FIGURES_OF_NUMBER" 300 (.int 4 299),ke P "MOST_FIGURES_OF_OPERAND" 302 (.int 18 301),ke P "SIGNS_OF_SUMS" 309 (kR 85),ke P "SIGNS_OF_TESTS" 312 (kR 86),ke P "is_name" 319 (kR 93),ke P "read_number" 326 (kR 100),ke P "read_operand" 333 (kR 107),ke P "read_whole" 340 (kR 114),ke P "read_below_nought" 347 (kR 121),ke P "are_figures" 355 (kR 128),ke P "is_made_of" 361 (kR 133),ke P "read_sum" 369 (kR 140),ke P "read_test" 376 (kR 147),ke P "read_asked" 386 (kR 154),ke P "written_sum" 396 (kR 161),ke P "written_test" 405 (kR 168),ke P "MOST_ROWS_OF_TEXT" 409 (.int 80 408),ke P "read" 415 (kR 173),ke P "read_lines" 427 (kR 180),ke P "read_row" 437 (kR 187),ke P "read_told" 445 (kR 194),ke P "read_jump" 453 (kR 201),ke P "read_test_row" 462 (kR 208),ke P "refuse_lost_jumps" 468 (kR 213),ke P "written" 474 (kR 218),ke P "written_row" 483 (kR 225),ke P "written_told" 492 (kR 232),ke P "_law_raw" 502 (kR 239),ke P "_law_mix" 511 (kR 246),ke P "_law_kept" 517 (kR 253),ke P "_law_sign" 525 (kR 260),ke P "_law_word" 535 (kR 267),ke P "_law_names" 549 (kR 274),ke P "_law_operand" 560 (kR 281),ke P "_law_numbers" 572 (kR 288),ke P "_law_row" 590 (kR 295),ke P "_law_rows" 596 (kR 300),ke P "_law_line" 605 (kR 307),ke P "_law_alike" 615 (kR 314),ke P "_law_many" 623 (kR 321),ke P "_law_due" 629 (kR 326),ke P "_law_told" 637 (kR 333),ke P "_law_goals" 643 (kR 338),ke P "law" 654 (kR 345)] 62,#[]⟩)::(nat_lit 22,⟨(.type "tuple"),none,.seq #[.none] 0,#[]⟩)::(nat_lit 28,⟨(.type "code"),none,.fields #[(.str "__init__" 201),(.str "JumpError.__init__" 202),(.str "/claim/cut.py" 203),(.int 4 0),(.int 2 0),(.int 0 0),(.int 0 0),(.int 3 0),(.ref 23),(.bool true),(.int 181 0),(.ref 24),.none,(.ref 25),(.ref 26),(.ref 27),(.int 206 0),(.int 4 0),(.str "/claim/cut.py" 207)],#[]⟩)::(nat_lit 29,{cls:=Au "function",data:=Data.func {name:=Str.ofString "__init__",qualname:=Str.ofString "JumpError.__init__",params:={posonlyargs:=[],args:=[{arg:=Str.ofString "self",annotation:=none,pos:={line:=4,col:=17,endLine:=4,endCol:=21}},{arg:=Str.ofString "row",annotation:=none,pos:={line:=4,col:=23,endLine:=4,endCol:=26}}],vararg:=none,kwonlyargs:=[],kw_defaults:=[],kwarg:=none,defaults:=[Expr.Constant Const.none 0 {line:=4,col:=27,endLine:=4,endCol:=31}]},body:=FuncBody.stmts [Stmt.Assign [(Expr.Name (Str.ofString "self") {line:=5,col:=8,endLine:=5,endCol:=12}).Attribute (Str.ofString "row") {line:=5,col:=8,endLine:=5,endCol:=16}] (Expr.Name (Str.ofString "row") {line:=5,col:=19,endLine:=5,endCol:=22}) {line:=5,col:=8,endLine:=5,endCol:=22}],scope:={kind:=ScopeKind.function,names:=[(Str.ofString "self",NameKind.local),(Str.ofString "row",NameKind.local)],isGenerator:=false,isCoroutine:=false},globals:=3,closure:=[],defaults:=An 22,kwdefaults:=Kb,pyModule:=Il (Str.ofString "unjump.errors") 187,code:=An 28}})::(nat_lit 30,⟨(.type "tuple"),none,.seq #[(.str "row" 209)] 0,#[]⟩)::(nat_lit 31,⟨kd,none,.dict #[ke P "__module__" 196 (kS "unjump.errors" 187),ke P "__firstlineno__" 200 (.int 2 199),ke P "__init__" 208 (kR 29),ke P "__static_attributes__" 210 (kR 30),ke P "__weakref__" 212 (kR 33),ke P "__doc__" 213 .none] 3,#[]⟩)::(nat_lit 32,{cls:=Au "type",data:=Data.cls {name:=Str.ofString "JumpError",bases:=[Au "ValueError"],mro:=[An 32,Au "ValueError",Au "Exception",Au "BaseException",Au "object"],ns:=31,qualname:=Str.ofString "JumpError",subclasses:=[An 45,An 57,An 69,An 81]},slots:=#[some (An 15),none,some (Il (Str.ofString "JumpError") 189),some (Il (Str.ofString "JumpError") 197),some (Ma "ValueError.__new__"),some (Lq true)]})::(nat_lit 43,⟨(.type "tuple"),none,.seq #[] 0,#[]⟩)::(nat_lit 44,⟨kd,none,.dict #[ke P "__module__" 223 (kS "unjump.errors" 187),ke P "__firstlineno__" 227 (.int 6 226),ke P "__static_attributes__" 228 (kR 43),ke P "__doc__" 229 .none] 2,#[]⟩)::(nat_lit 45,{cls:=Au "type",data:=Data.cls {name:=Str.ofString "NoRow",bases:=[An 32],mro:=[An 45,An 32,Au "ValueError",Au "Exception",Au "BaseException",Au "object"],ns:=44,qualname:=Str.ofString "NoRow"},slots:=#[some (An 36),none,some (Il (Str.ofString "NoRow") 216),some (Il (Str.ofString "NoRow") 224),some (Ma "ValueError.__new__"),some (Lq true)]})::(nat_lit 55,⟨(.type "tuple"),none,.seq #[] 0,#[]⟩)::(nat_lit 56,⟨kd,none,.dict #[ke P "__module__" 239 (kS "unjump.errors" 187),ke P "__firstlineno__" 243 (.int 8 242),ke P "__static_attributes__" 244 (kR 55),ke P "__doc__" 245 .none] 2,#[]⟩)::(nat_lit 57,{cls:=Au "type",data:=Data.cls {name:=Str.ofString "NoJump",bases:=[An 32],mro:=[An 57,An 32,Au "ValueError",Au "Exception",Au "BaseException",Au "object"],ns:=56,qualname:=Str.ofString "NoJump"},slots:=#[some (An 48),none,some (Il (Str.ofString "NoJump") 232),some (Il (Str.ofString "NoJump") 240),some (Ma "ValueError.__new__"),some (Lq true)]})::(nat_lit 67,⟨(.type "tuple"),none,.seq #[] 0,#[]⟩)::(nat_lit 68,⟨kd,none,.dict #[ke P "__module__" 255 (kS "unjump.errors" 187),ke P "__firstlineno__" 259 (.int 10 258),ke P "__static_attributes__" 260 (kR 67),ke P "__doc__" 261 .none] 2,#[]⟩)::(nat_lit 69,{cls:=Au "type",data:=Data.cls {name:=Str.ofString "NoEnd",bases:=[An 32],mro:=[An 69,An 32,Au "ValueError",Au "Exception",Au "BaseException",Au "object"],ns:=68,qualname:=Str.ofString "NoEnd"},slots:=#[some (An 60),none,some (Il (Str.ofString "NoEnd") 248),some (Il (Str.ofString "NoEnd") 256),some (Ma "ValueError.__new__"),some (Lq true)]})::(nat_lit 79,⟨(.type "tuple"),none,.seq #[] 0,#[]⟩)::(nat_lit 80,⟨kd,none,.dict #[ke P "__module__" 271 (kS "unjump.errors" 187),ke P "__firstlineno__" 275 (.int 12 274),ke P "__static_attributes__" 276 (kR 79),ke P "__doc__" 277 .none] 2,#[]⟩)::(nat_lit 81,{cls:=Au "type",data:=Data.cls {name:=Str.ofString "TooGreat",bases:=[An 32],mro:=[An 81,An 32,Au "ValueError",Au "Exception",Au "BaseException",Au "object"],ns:=80,qualname:=Str.ofString "TooGreat"},slots:=#[some (An 72),none,some (Il (Str.ofString "TooGreat") 264),some (Il (Str.ofString "TooGreat") 272),some (Ma "ValueError.__new__"),some (Lq true)]})::(nat_lit 84,⟨(.type "tuple"),none,.seq #[(.str "if" 286),(.str "jump" 287),(.str "end" 288),(.str "rest" 289),(.str "round" 290),(.str "part" 291),(.str "leave" 292),(.str "again" 293),(.str "else" 294),(.str "done" 295)] 0,#[]⟩)::(nat_lit 85,⟨(.type "tuple"),none,.seq #[(.str "+" 303),(.str "-" 304),(.str "/" 305),(.str "rest" 306),(.str "&" 307),(.str "^" 308)] 0,#[]⟩)::(nat_lit 86,⟨(.type "tuple"),none,.seq #[(.str "<" 310),(.str "=" 311)] 0,#[]⟩)::(nat_lit 92,kc "is_name" 313 23 1 87 181 317 318)::(nat_lit 93,kg "is_name" 15 "unjump.words" 280 92)::(nat_lit 99,kc "read_number" 320 29 1 94 181 324 325)::(nat_lit 100,kg "read_number" 16 "unjump.words" 280 99)::(nat_lit 106,kc "read_operand" 327 33 1 101 181 331 332)::(nat_lit 107,kg "read_operand" 17 "unjump.words" 280 106)::(nat_lit 113,kc "read_whole" 334 37 1 108 181 338 339)::(nat_lit 114,kg "read_whole" 18 "unjump.words" 280 113)::(nat_lit 120,kc "read_below_nought" 341 45 1 115 181 345 346)::(nat_lit 121,kg "read_below_nought" 19 "unjump.words" 280 120)::(nat_lit 127,kc "are_figures" 348 49 2 122 181 353 354)::(nat_lit 128,kg "are_figures" 20 "unjump.words" 280 127)::(nat_lit 132,⟨(.type "code"),none,.fields #[(.str "is_made_of" 356),(.str "is_made_of" 357),(.str "/claim/cut.py" 358),(.int 55 0),(.int 2 0),(.int 0 0),(.int 0 0),(.int 3 0),(.ref 129),(.bool true),(.int 181 0),(.ref 130),.none,.none,.none,(.ref 131),(.int 359 0),(.int 55 0),(.str "/claim/cut.py" 360)],#[]⟩)::(nat_lit 133,kg "is_made_of" 21 "unjump.words" 280 132)::(nat_lit 139,kc "read_sum" 362 57 1 134 181 367 368)::(nat_lit 140,kg "read_sum" 22 "unjump.words" 280 139)::(nat_lit 146,kc "read_test" 370 64 1 141 181 374 375)::(nat_lit 147,kg "read_test" 23 "unjump.words" 280 146)::(nat_lit 153,kc "read_asked" 377 68 2 148 181 384 385)::(nat_lit 154,kg "read_asked" 24 "unjump.words" 280 153)::(nat_lit 160,kc "written_sum" 387 74 4 155 181 394 395)::(nat_lit 161,kg "written_sum" 25 "unjump.words" 280 160)::(nat_lit 167,kc "written_test" 397 76 3 162 181 403 404)::(nat_lit 168,kg "written_test" 26 "unjump.words" 280 167)::(nat_lit 172,⟨(.type "code"),none,.fields #[(.str "read" 410),(.str "read" 411),(.str "/claim/cut.py" 412),(.int 80 0),(.int 1 0),(.int 0 0),(.int 0 0),(.int 3 0),(.ref 169),(.bool true),(.int 181 0),(.ref 170),.none,.none,.none,(.ref 171),(.int 413 0),(.int 80 0),(.str "/claim/cut.py" 414)],#[]⟩)::(nat_lit 173,kg "read" 29 "unjump.rows" 406 172)::(nat_lit 179,kc "read_lines" 416 90 2 174 181 425 426)::(nat_lit 180,kg "read_lines" 30 "unjump.rows" 406 179)::(nat_lit 186,kc "read_row" 428 100 1 181 181 435 436)::(nat_lit 187,kg "read_row" 31 "unjump.rows" 406 186)::(nat_lit 193,kc "read_told" 438 109 1 188 181 443 444)::(nat_lit 194,kg "read_told" 32 "unjump.rows" 406 193)::(nat_lit 200,kc "read_jump" 446 120 1 195 181 451 452)::(nat_lit 201,kg "read_jump" 33 "unjump.rows" 406 200)::(nat_lit 207,kc "read_test_row" 454 125 1 202 181 460 461)::(nat_lit 208,kg "read_test_row" 34 "unjump.rows" 406 207)::(nat_lit 212,⟨(.type "code"),none,.fields #[(.str "refuse_lost_jumps" 463),(.str "refuse_lost_jumps" 464),(.str "/claim/cut.py" 465),(.int 131 0),(.int 2 0),(.int 0 0),(.int 0 0),(.int 3 0),(.ref 209),(.bool true),(.int 181 0),(.ref 210),.none,.none,.none,(.ref 211),(.int 466 0),(.int 131 0),(.str "/claim/cut.py" 467)],#[]⟩)::(nat_lit 213,kg "refuse_lost_jumps" 35 "unjump.rows" 406 212)::(nat_lit 217,⟨(.type "code"),none,.fields #[(.str "written" 469),(.str "written" 470),(.str "/claim/cut.py" 471),(.int 136 0),(.int 1 0),(.int 0 0),(.int 0 0),(.int 3 0),(.ref 214),(.bool true),(.int 181 0),(.ref 215),.none,.none,.none,(.ref 216),(.int 472 0),(.int 136 0),(.str "/claim/cut.py" 473)],#[]⟩)::(nat_lit 218,kg "written" 36 "unjump.rows" 406 217)::(nat_lit 224,kc "written_row" 475 138 1 219 181 481 482)::(nat_lit 225,kg "written_row" 37 "unjump.rows" 406 224)::(nat_lit 231,kc "written_told" 484 142 1 226 181 490 491)::(nat_lit 232,kg "written_told" 38 "unjump.rows" 406 231)::(nat_lit 238,kc "_law_raw" 495 153 2 233 181 500 501)::(nat_lit 239,kg "_law_raw" 40 "law_unjump_k05_rows_written" 493 238)::(nat_lit 245,kc "_law_mix" 503 157 2 240 181 509 510)::(nat_lit 246,kg "_law_mix" 41 "law_unjump_k05_rows_written" 493 245)::(nat_lit 252,kc "_law_kept" 512 162 0 247 181 515 516)::(nat_lit 253,kg "_law_kept" 42 "law_unjump_k05_rows_written" 493 252)::(nat_lit 259,kc "_law_sign" 518 164 2 254 181 523 524)::(nat_lit 260,kg "_law_sign" 43 "law_unjump_k05_rows_written" 493 259)::(nat_lit 266,kc "_law_word" 526 168 2 261 181 533 534)::(nat_lit 267,kg "_law_word" 44 "law_unjump_k05_rows_written" 493 266)::(nat_lit 273,kc "_law_names" 536 174 1 268 181 547 548)::(nat_lit 274,kg "_law_names" 45 "law_unjump_k05_rows_written" 493 273)::(nat_lit 280,kc "_law_operand" 550 190 4 275 181 558 559)::(nat_lit 281,kg "_law_operand" 46 "law_unjump_k05_rows_written" 493 280)::(nat_lit 287,kc "_law_numbers" 561 201 2 282 181 570 571)::(nat_lit 288,kg "_law_numbers" 47 "law_unjump_k05_rows_written" 493 287)::(nat_lit 294,kc "_law_row" 573 211 4 289 181 588 589)::(nat_lit 295,kg "_law_row" 48 "law_unjump_k05_rows_written" 493 294)::(nat_lit 299,⟨(.type "code"),none,.fields #[(.str "_law_rows" 591),(.str "_law_rows" 592),(.str "/claim/cut.py" 593),(.int 230 0),(.int 2 0),(.int 0 0),(.int 0 0),(.int 3 0),(.ref 296),(.bool true),(.int 181 0),(.ref 297),.none,.none,.none,(.ref 298),(.int 594 0),(.int 230 0),(.str "/claim/cut.py" 595)],#[]⟩)::(nat_lit 300,kg "_law_rows" 49 "law_unjump_k05_rows_written" 493 299)::(nat_lit 306,kc "_law_line" 597 234 1 301 181 603 604)::(nat_lit 307,kg "_law_line" 50 "law_unjump_k05_rows_written" 493 306)::(nat_lit 313,kc "_law_alike" 606 245 2 308 181 613 614)::(nat_lit 314,kg "_law_alike" 51 "law_unjump_k05_rows_written" 493 313)::(nat_lit 320,kc "_law_many" 616 260 1 315 181 621 622)::(nat_lit 321,kg "_law_many" 52 "law_unjump_k05_rows_written" 493 320)::(nat_lit 325,⟨(.type "code"),none,.fields #[(.str "_law_due" 624),(.str "_law_due" 625),(.str "/claim/cut.py" 626),(.int 267 0),(.int 1 0),(.int 0 0),(.int 0 0),(.int 3 0),(.ref 322),(.bool true),(.int 181 0),(.ref 323),.none,.none,.none,(.ref 324),(.int 627 0),(.int 267 0),(.str "/claim/cut.py" 628)],#[]⟩)::(nat_lit 326,kg "_law_due" 53 "law_unjump_k05_rows_written" 493 325)::(nat_lit 332,kc "_law_told" 630 269 2 327 181 635 636)::(nat_lit 333,kg "_law_told" 54 "law_unjump_k05_rows_written" 493 332)::(nat_lit 337,⟨(.type "code"),none,.fields #[(.str "_law_goals" 638),(.str "_law_goals" 639),(.str "/claim/cut.py" 640),(.int 271 0),(.int 1 0),(.int 0 0),(.int 0 0),(.int 3 0),(.ref 334),(.bool true),(.int 181 0),(.ref 335),.none,.none,.none,(.ref 336),(.int 641 0),(.int 271 0),(.str "/claim/cut.py" 642)],#[]⟩)::(nat_lit 338,kg "_law_goals" 55 "law_unjump_k05_rows_written" 493 337)::(nat_lit 344,kc "law" 644 273 1 339 181 652 653)::(nat_lit 345,kg "law" 56 "law_unjump_k05_rows_written" 493 344)::[]
noncomputable def qH:Program:={PySem.Challenge.pw_unjump_k05_rows_written with main:={PySem.Challenge.pw_unjump_k05_rows_written.main with body:=[top 56]}}
noncomputable def lH:List Str:="JumpError"::"NoRow"::"NoJump"::"NoEnd"::"TooGreat"::"LETTERS"::"FIGURES"::"KEPT"::"MOST_SIGNS_OF_NAME"::"MOST_FIGURES_OF_NUMBER"::"MOST_FIGURES_OF_OPERAND"::"SIGNS_OF_SUMS"::"SIGNS_OF_TESTS"::"is_name"::"read_number"::"read_operand"::"read_whole"::"read_below_nought"::"are_figures"::"is_made_of"::"read_sum"::"read_test"::"read_asked"::"written_sum"::"written_test"::"MOST_ROWS_OF_TEXT"::"read"::"read_lines"::"read_row"::"read_told"::"read_jump"::"read_test_row"::"refuse_lost_jumps"::"written"::"written_row"::"written_told"::"_law_raw"::"_law_mix"::"_law_kept"::"_law_sign"::"_law_word"::"_law_names"::"_law_operand"::"_law_numbers"::"_law_row"::"_law_rows"::"_law_line"::"_law_alike"::"_law_many"::"_law_due"::"_law_told"::"_law_goals"::[]
noncomputable def aH:List Addr:=2::3::22::28::29::30::31::32::43::44::45::55::56::57::67::68::69::79::80::81::84::85::86::92::93::99::100::106::107::113::114::120::121::127::128::132::133::139::140::146::147::153::154::160::161::167::168::172::173::179::180::186::187::193::194::200::201::207::208::212::213::217::218::224::225::231::232::238::239::245::246::252::253::259::260::266::267::273::274::280::281::287::288::294::295::299::300::306::307::313::314::320::321::325::326::332::333::337::338::344::345::[]
theorem eH(P:Params):aH=(KH P).map (·.1):=by kernel_rfl
set_option maxHeartbeats 0 in
theorem hlH:PySem.W.LeftO PySem.Challenge.pw_unjump_k05_rows_written qH lH (fun s=>PySem.W.xlAt qH [] s&&PySem.W.recOk [] s) (PySem.W.Hook.obs (PySem.W.kHook KH aH eH)) (PySem.W.Hook.val (PySem.W.kHook KH aH eH)) 4904:=by intro w;kernel_rfl
end Hand
open PySem PySem.W PyProof.Rows
set_option maxRecDepth 100000 in
set_option maxHeartbeats 0 in
theorem PySem.Challenge.cw_unjump_k05_rows_written_holds : PySem.Challenge.rw_unjump_k05_rows_written.Holds := by
 w_on;o_law;refine holds_open (q:=Hand.qH) (loose:=Hand.lH) (Xt:=fun s=>xlAt Hand.qH [] s&&recOk [] s) (XP:=XL Hand.qH []) (Yf:=Hook.obs (kHook Hand.KH Hand.aH Hand.eH)) (Ya:=Hook.val (kHook Hand.KH Hand.aH Hand.eH)) (YP:=Hook.says (kHook Hand.KH Hand.aH Hand.eH)) (N:=4904) Hand.hlH (Hook.of _) (Hook.keeps _) (fun s e=>xl_of s (Bool.and_eq_true_iff.mp e).1) XL.keeps (by rfl) (by rfl) (by rfl) (fun s e=>recFacts_of (Bool.and_eq_true_iff.mp e).2) (by rfl) (by first | assumption | decide+kernel) (by decide+kernel) ⟨rfl,rfl,rfl,rfl,rfl,by decide+kernel⟩ ?hw ?hc;(case hw=>w_witness2)
 k_fill
 refine U.Zi3 (l:=PySem.Challenge.rw_unjump_k05_rows_written) (k:=41) (x:="_law_script") rfl rfl ⟨rfl,by decide,by decide⟩ (fun w h Y=>PySem.W.kIn_of Y) ?F
 case F=>
  intro w mg fa h KX G hmg
  refine' K05.Zx3 hmg (K05.Yc3 KX G ?a0 ?l0 ?c0 ?k0 ?a1 ?l1 ?c1 ?k1 ?a2 ?l2 ?c2 ?k2 ?a3 ?l3 ?c3 ?k3 ?a4 ?l4 ?c4 ?k4 ?a5 ?l5 ?c5 ?k5 ?a6 ?l6 ?c6 ?k6 ?a7 ?l7 ?c7 ?k7 ?a8 ?l8 ?c8 ?k8 ?a9 ?l9 ?c9 ?k9 ?a10 ?l10 ?c10 ?k10 ?a11 ?l11 ?c11 ?k11 ?a12 ?l12 ?c12 ?k12 ?a13 ?l13 ?c13 ?k13 ?a14 ?l14 ?c14 ?k14 ?a15 ?l15 ?c15 ?k15 ?a16 ?l16 ?c16 ?k16 ?a17 ?l17 ?c17 ?k17 ?a18 ?l18 ?c18 ?k18 ?a19 ?l19 ?c19 ?k19 ?a20 ?l20 ?c20 ?k20 ?a21 ?l21 ?c21 ?k21 ?a22 ?l22 ?c22 ?k22 ?a23 ?l23 ?c23 ?k23 ?a24 ?l24 ?c24 ?k24 ?a25 ?l25 ?c25 ?k25 ?a26 ?l26 ?c26 ?k26 ?a27 ?l27 ?c27 ?k27 ?a28 ?l28 ?c28 ?k28 ?a29 ?l29 ?c29 ?k29 ?a30 ?l30 ?c30 ?k30 ?a31 ?l31 ?c31 ?k31 ?a32 ?l32 ?c32 ?k32 ?a33 ?l33 ?c33 ?k33 ?a34 ?l34 ?c34 ?k34 ?a35 ?l35 ?c35 ?k35 ?a36 ?l36 ?c36 ?k36 ?a37 ?l37 ?c37 ?k37 ?a38 ?l38 ?c38 ?k38 ?z0 ?z1 ?z2 ?z3 ?z4 ?z5 ?z6 ?z7 ?z8 ?z9 ?z10 ?z11 ?z12 ?z13 ?u0 ?v0 ?u1 ?v1 ?u2 ?v2 ?q0 ?q1 ?q2 ?q3 ?qs0 ?qs1)
  (case a0=>k_is);(case l0=>k_is);(case c0=>k_is);(case k0=>k_is)
  (case a1=>k_is);(case l1=>k_is);(case c1=>k_is);(case k1=>k_is)
  (case a2=>k_is);(case l2=>k_is);(case c2=>k_is);(case k2=>k_is)
  (case a3=>k_is);(case l3=>k_is);(case c3=>k_is);(case k3=>k_is)
  (case a4=>k_is);(case l4=>k_is);(case c4=>k_is);(case k4=>k_is)
  (case a5=>k_is);(case l5=>k_is);(case c5=>k_is);(case k5=>k_is)
  (case a6=>k_is);(case l6=>k_is);(case c6=>k_is);(case k6=>k_is)
  (case a7=>k_is);(case l7=>k_is);(case c7=>k_is);(case k7=>k_is)
  (case a8=>k_is);(case l8=>k_is);(case c8=>k_is);(case k8=>k_is)
  (case a9=>k_is);(case l9=>k_is);(case c9=>k_is);(case k9=>k_is)
  (case a10=>k_is);(case l10=>k_is);(case c10=>k_is);(case k10=>k_is)
  (case a11=>k_is);(case l11=>k_is);(case c11=>k_is);(case k11=>k_is)
  (case a12=>k_is);(case l12=>k_is);(case c12=>k_is);(case k12=>k_is)
  (case a13=>k_is);(case l13=>k_is);(case c13=>k_is);(case k13=>k_is)
  (case a14=>k_is);(case l14=>k_is);(case c14=>k_is);(case k14=>k_is)
  (case a15=>k_is);(case l15=>k_is);(case c15=>k_is);(case k15=>k_is)
  (case a16=>k_is);(case l16=>k_is);(case c16=>k_is);(case k16=>k_is)
  (case a17=>k_is);(case l17=>k_is);(case c17=>k_is);(case k17=>k_is)
  (case a18=>k_is);(case l18=>k_is);(case c18=>k_is);(case k18=>k_is)
  (case a19=>k_is);(case l19=>k_is);(case c19=>k_is);(case k19=>k_is)
  (case a20=>k_is);(case l20=>k_is);(case c20=>k_is);(case k20=>k_is)
  (case a21=>k_is);(case l21=>k_is);(case c21=>k_is);(case k21=>k_is)
  (case a22=>k_is);(case l22=>k_is);(case c22=>k_is);(case k22=>k_is)
  (case a23=>k_is);(case l23=>k_is);(case c23=>k_is);(case k23=>k_is)
  (case a24=>k_is);(case l24=>k_is);(case c24=>k_is);(case k24=>k_is)
  (case a25=>k_is);(case l25=>k_is);(case c25=>k_is);(case k25=>k_is)
  (case a26=>k_is);(case l26=>k_is);(case c26=>k_is);(case k26=>k_is)
  (case a27=>k_is);(case l27=>k_is);(case c27=>k_is);(case k27=>k_is)
  (case a28=>k_is);(case l28=>k_is);(case c28=>k_is);(case k28=>k_is)
  (case a29=>k_is);(case l29=>k_is);(case c29=>k_is);(case k29=>k_is)
  (case a30=>k_is);(case l30=>k_is);(case c30=>k_is);(case k30=>k_is)
  (case a31=>k_is);(case l31=>k_is);(case c31=>k_is);(case k31=>k_is)
  (case a32=>k_is);(case l32=>k_is);(case c32=>k_is);(case k32=>k_is)
  (case a33=>k_is);(case l33=>k_is);(case c33=>k_is);(case k33=>k_is)
  (case a34=>k_is);(case l34=>k_is);(case c34=>k_is);(case k34=>k_is)
  (case a35=>k_is);(case l35=>k_is);(case c35=>k_is);(case k35=>k_is)
  (case a36=>k_is);(case l36=>k_is);(case c36=>k_is);(case k36=>k_is)
  (case a37=>k_is);(case l37=>k_is);(case c37=>k_is);(case k37=>k_is)
  (case a38=>k_is);(case l38=>k_is);(case c38=>k_is);(case k38=>k_is)
  (case z0=>k_is);(case z1=>k_is);(case z2=>k_is);(case z3=>k_is);(case z4=>k_is);(case z5=>k_is);(case z6=>k_is);(case z7=>k_is);(case z8=>k_is);(case z9=>k_is);(case z10=>k_is);(case z11=>k_is);(case z12=>k_is);(case z13=>k_is)
  (case u0=>k_is);(case v0=>k_is);(case u1=>k_is);(case v1=>k_is);(case u2=>k_is);(case v2=>k_is);(case q0=>k_is);(case q1=>k_is);(case q2=>k_is);(case q3=>k_is);(case qs0=>k_is);(case qs1=>k_is)
