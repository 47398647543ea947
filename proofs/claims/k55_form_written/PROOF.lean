import PyProof.Rows.All
import Wide.All
import OpenK.AllK
import Wide.FinOn
import Lean
import PyProof.EqAt
import PyProof.EqKinds
import PyProof.TupleCall
import PyProof.CompFree
import PyProof.StationsW
import PyProof.ExcClass3
import PyProof.Commute
import OpenK.KGet
import OpenK.KMeth
import PyProof.ExcArgs
import PyProof.ZipIter
import PyProof.ListNew
import PyProof.EnumMake
import PyProof.EnumStmt
import KE.KRevSl
import PyProof.WalkInts
import PyProof.Rows.MinMaxN
import PyProof.AttrMissHeap
import PyProof.DictList
import PyProof.DictUpdate
import KE.KDictOf
import PyProof.DictWalks
import PyProof.Conv_int_bool
import PyProof.Rows.SetFrom
import PyProof.SetRoads
import PyProof.ForAny
import KE.KDictSum
import PyProof.AutoListH
import KE.KRevIter
import KE.KDictList
import PyProof.ConsumeWalk
import PyProof.TupleIter
import PyProof.EnumIter
import PyProof.ZipIter
import PyProof.StrCalls2
import PyProof.StrWalks
import PyProof.StrLawsChain
import PyProof.CallStr
import KE.KIntText
import PyProof.StrLawsTight
import PyProof.StrLawsIn
import PyProof.Rows.CatFin
import PyProof.Rows.StrClose3
import KE.KxText
import KE.KxWritten
import PyProof.P3In
import PyProof.StrBlock2
import PyProof.Rows.FStr
import PySem.Challenge.RW_unjump_k55_form_written
open Bool renaming false_ne_true→Bf9, and_eq_true→Bz9
open PySem renaming wpAny_bind→Aa, wpAny_pure→Ai, Spec→Hh, wpAny_holding→Hk, wpAny_mono→Hl, wpAny_field→Hu, wpAny_callSpecial?_slot→Im, wpAny_newObj_type→Io, wpAny_seqItems→Ix, sizeLine_eq→Ka, wpAny_passesOwn→Kn, call_meets→Kw, wpAny_call_entry→Ky, wpAny_comprehension_free→Ld, mem_of_lookup→Le, wpAny_Call_Name_kw→Lk, wpAny_setField_rec→Lm, wpAny_pyIter_list→Lr, codeAny_mono→Lu, wpAny_rule→Md
open List renaming length_append→Ab, length_map→Ac, getElem?_eq_getElem→Ae, getElem?_eq_some_iff→Af, mem_cons→Ag, size_toArray→Ah, length_cons→Aj, map_append→Am, mem_singleton→An, mem_cons_self→Ao, length_singleton→Aq, mem_cons_of_mem→Ar, getElem?_map→As, mem_append_right→Ax, append_assoc→Ay, length_set→Az, mem_append→Bk, append_nil→Db, not_mem_nil→Dc, map_cons→De, replicate→Df, filter_cons→Dg, all_eq_true→Dj, getD_eq_getElem?_getD→Dk, drop_eq_getElem_cons→Dl, cons_append→Dp, take_of_length_le→Ds, getElem?_set_ne→Dt, pairwise_cons→Du, nil_append→Dv, contains_iff_mem→Dw, getElem?_append_left→Ex, length_take→He, mem_map→Hf, getElem_mem→Hg, range→Hi, lookup_cons→Hn, all_cons→Ho, mem_range→Hr, concat_eq_append→Ht, mem_append_left→Hw, mem_of_getElem?→Hx, set→Hy, getElem?_set_self→Hz, drop_eq_nil_of_le→Ib, replicate_succ→Ie, length_nil→Ig, eq_nil_or_concat→Ij, nodup_cons→Ip, find?_cons→Iq, any_cons→Iu, pairwise_singleton→Kd, length_drop→Kf, getElem?_eq_none→Ko, getElem?_append_right→Kq, flatten_cons→Kr, pairwise_append→Kx, any_eq_true→Lb, getLast?_cons_cons→Lh, reverse_cons→Lp, any_map→Lv, mem_filter→Lw, map_nil→Lz, map_map→Ma, cons→Mg
open PySem.W renaming Frag→Ad, mg_of→Dy, nsIn→Dz, keepIn→Ha, kia_one→Hm, kitOne→Ke, fnOf→Kk, findIn→Ls, codeIn→Mc
open PySem.Heap renaming get?_push_of_some→Ak, lt_size→Al, get?_push_size→Aw, SameBut→Hd, size_push→Hs, get?_update_self→Ii, get?_update_other→Ki
open PySem.Value renaming ref→Au, type→Dm, str→Kj, none→Ku, bool→Mb
open Ne renaming symm→Bs
open Option.some renaming inj→Dd
open PySem.NameKind renaming free→Dh, cell→Hb
open False renaming elim→Di
open Array renaming length_toList→Dn, getD_eq_getD_getElem?→Hv
open PySem.SeqAt renaming EqAt→Dq
open PySem.Txt renaming join→Dx, slice→Ic, split→Km, lstripChars→Ll, mul→Me
open PySem.Builtin.SmallTypes renaming nextOf→Go, ownedTupleIsFree→Il
open PyProof.Rows renaming slot_tuple_getitem→Hj
open PySem.PyData renaming eqvAll→Hq, str→Ih, canLayAll0→Kb, canLay0→Kg, depthAll→Ly
open Option renaming map_eq_some_iff→Ia
open PySem.SetTable renaming grown→Ik, below→Iw, insertAt→Lq
open Int renaming emod_nonneg→Ir, emod_lt_of_pos→Iy, toNat_natCast→Kt, toNat_of_nonneg→Lf
open LawfulBEq renaming eq_of_beq→Kc
open PySem.Obj renaming mapSeq→Kh
open PySem.Builtin.List renaming listExtendWith→Kl, listTooLong→La
open PySem.Builtin.Slice renaming slicePlaces→Kv
open PySem.Builtin.Tuple renaming tupleExact→Kz
open PySem.Builtin.Str renaming occurrences→Lg
open Sum renaming inl→Li
open True renaming intro→Lj
open List.cons renaming injEq→Lx
open Iff renaming rfl→Mf
set_option bootstrap.genMatcherCode false
set_option Elab.async false
set_option linter.all false
set_option maxRecDepth 100000
set_option genSizeOf false
set_option compiler.extract_closed false
set_option autoImplicit true
namespace L2
open PySem PySem.Spec PyProof.Rows
noncomputable abbrev Key:=Sum Int Str
noncomputable def Fi:Key→Value→Bool
 | .inl k,v=>Value.isInt k v
 | .inr x,v=>Value.isStrOf x v
noncomputable def keyH(w:World):Key→Int
 | .inl k=>hashInt k
 | .inr x=>hashStr w x
theorem Zr:∀{k:Key} {v:Value},Fi k v=true→(∃i t,k=Li i∧v=Value.int i t)∨(∃x t,k=Sum.inr x∧v=Kj x t)
 | .inl i,v,h=>by
  obtain⟨t,e⟩:=Value.isInt_shape (k:=i) (v:=v) h
  exact .inl ⟨i,t,rfl,e⟩
 | .inr x,v,h=>by
  obtain⟨t,e⟩:=Value.isStrOf_shape (x:=x) (v:=v) h
  exact .inr ⟨x,t,rfl,e⟩
theorem Zf7(i:Int)(t:Tok):Fi (.inl i) (.int i t)=true:=by simp[Fi,Value.isInt]
theorem Za5(x:Str)(t:Tok):Fi (.inr x) (.str x t)=true:=by simp[Fi,Value.isStrOf]
theorem Yd4(a b:Int):decide ((Li a:Key)=Li b)=(a==b):=by
 by_cases e:a=b
 ·subst e;simp
 ·have h:¬(Li a:Key)=Li b:=fun q=>e (Li.inj q)
  rw[decide_eq_false h]
  exact(beq_eq_false_iff_ne.mpr e).symm
theorem Yi1(a b:Str):decide ((Sum.inr a:Key)=Sum.inr b)=decide (a=b):=by
 by_cases e:a=b
 ·subst e;simp
 ·have h:¬(Sum.inr a:Key)=Sum.inr b:=fun q=>e (Sum.inr.inj q)
  rw[decide_eq_false h,decide_eq_false e]
theorem Yj4(a:Int)(b:Str):decide ((Li a:Key)=Sum.inr b)=false:=decide_eq_false (fun q=>nomatch q)
theorem Yc5(a:Str)(b:Int):decide ((Sum.inr a:Key)=Li b)=false:=decide_eq_false (fun q=>nomatch q)
noncomputable def Y3(prog:Program)(w:World):PySem.KeyKind prog w Key where
 is:=Fi
 hash:=keyH w
 inj:=fun v a b ha hb=>by
  rcases Zr ha with⟨i,t,rfl,rfl⟩ | ⟨x,t,rfl,rfl⟩
  ·rcases Zr hb with⟨j,u,rfl,e⟩ | ⟨y,u,rfl,e⟩
   ·injection e with e1 _;rw[e1]
   ·exact nomatch e
  ·rcases Zr hb with⟨j,u,rfl,e⟩ | ⟨y,u,rfl,e⟩
   ·exact nomatch e
   ·injection e with e1 _;rw[e1]
 byValue:=fun k v h=>by
  rcases Zr h with⟨i,t,rfl,rfl⟩ | ⟨x,t,rfl,rfl⟩<;>rfl
 pyHash:=fun hv h=>by
  rcases Zr hv with⟨i,t,rfl,rfl⟩ | ⟨x,t,rfl,rfl⟩
  ·exact wpAny_pyHash_int h
  ·exact wpAny_pyHash_str h
 eqBool:=fun hu hv h=>by
  rcases Zr hu with⟨i,t,rfl,rfl⟩ | ⟨x,t,rfl,rfl⟩
  ·rcases Zr hv with⟨j,u,rfl,rfl⟩ | ⟨y,u,rfl,rfl⟩
   ·rw[Yd4] at h;exact wpAny_eqBool_int h
   ·rw[Yj4] at h;exact Dq.int_str i t y u _ _ _ _ h
  ·rcases Zr hv with⟨j,u,rfl,rfl⟩ | ⟨y,u,rfl,rfl⟩
   ·rw[Yc5] at h;exact Dq.str_int x t j u _ _ _ _ h
   ·rw[Yi1] at h;exact wpAny_eqBool_str h
 «strs»:=fun k x t v h=>by
  rcases Zr h with⟨i,u,rfl,e⟩ | ⟨y,u,rfl,e⟩
  ·exact nomatch e
  ·injection e with e1 _
   subst e1
   cases v<;>rfl
theorem Eb(prog:Program)(w:World)(i:Int)(t:Tok):(Y3 prog w).is (.inl i) (.int i t)=true:=Zf7 i t
theorem Ev(prog:Program)(w:World)(x:Str)(t:Tok):(Y3 prog w).is (.inr x) (.str x t)=true:=Za5 x t
inductive V where
 | non | bl (b:Bool) | int (i:Int) | str (x:Str) | byt (b:Array UInt8) | flt (b:UInt64) | ref (a:Addr) | ty (n:String)
 deriving DecidableEq
def RelV:V→Value→Prop
 | .non,u=>u=Ku
 | .bl b,u=>u=Mb b
 | .int i,u=>∃t,u=Value.int i t
 | .str x,u=>∃t,u=Kj x t
 | .byt b,u=>∃t,u=Value.bytes b t
 | .flt b,u=>∃t,u=Value.float b t
 | .ref a,u=>u=Au a
 | .ty n,u=>u=Dm n
abbrev Vals:List V→List Value→Prop:=Paired RelV
theorem Vals.length{xs:List V}{us:List Value}(r:Vals xs us):xs.length=us.length:=Paired.length r
theorem Vals.get:∀{xs:List V} {us:List Value} {i:Nat} {x:V},Vals xs us→xs[i]?=some x→∃u,us[i]?=some u∧RelV x u
 | _,_,_,_,.nil,e=>by simp at e
 | _,_,0,_,.cons r _,e=>by simp at e;subst e;exact⟨_,rfl,r⟩
 | _,_,i+1,x,.cons _ t,e=>by
  obtain⟨u,h1,h2⟩:=Vals.get (i:=i) (x:=x) t (by simpa using e)
  exact⟨u,by simpa using h1,h2⟩
theorem Vals.set{x:V}{u:Value}(r:RelV x u):∀{xs:List V} {us:List Value} (i:Nat),Vals xs us→Vals (xs.set i x) (us.set i u)
 | _,_,_,.nil=> .nil
 | _,_,0,.cons _ t=> .cons r t
 | _,_,i+1,.cons q t=> .cons q (Vals.set r i t)
theorem Vals.append:∀{xs ys:List V} {us ws:List Value},Vals xs us→Vals ys ws→Vals (xs++ys) (us++ws)
 | _,_,_,_,.nil,s=>s
 | _,_,_,_,.cons r t,s=> .cons r (Vals.append t s)
theorem Vals.take:∀{xs:List V} {us:List Value} (n:Nat),Vals xs us→Vals (xs.take n) (us.take n)
 | _,_,0,_=> .nil
 | _,_,_+1,.nil=> .nil
 | _,_,n+1,.cons r t=> .cons r (Vals.take n t)
theorem Vals.drop:∀{xs:List V} {us:List Value} (n:Nat),Vals xs us→Vals (xs.drop n) (us.drop n)
 | _,_,0,r=>r
 | _,_,_+1,.nil=> .nil
 | _,_,n+1,.cons _ t=>Vals.drop n t
def RelO:Option V→Option Value→Prop
 | some v,some u=>RelV v u
 | none,none=>True
 | _,_=>False
def KV{κ:Type}:List (κ×V)→List (κ×Value)→Prop:=Paired fun(p:κ×V) (q:κ×Value)=>p.1=q.1∧RelV p.2 q.2
noncomputable def kV:Key→V
 | .inl i=> .int i
 | .inr x=> .str x
inductive HO where
 | lst (xs:List V)
 | tup (xs:List V)
 | dK (kvs:List (Key×V)) | dT (kvs:List (List Key×V))
 | set (S:Int→Bool) (n:Nat)
 | ins (C dx:Addr) (fs:List (Str×V))
 | own (x:Addr)
 | xd (fs:List (Str×V))
 | met (f x:Addr)
 | rng (lo hi:Int)
 | frz (o:Obj) (u:HO)
 | tbl (ps:Array Value)
 | ext (φ:Heap→Prop)
noncomputable abbrev Hp:=Addr→Option HO
noncomputable def upd(H:Hp)(a:Addr)(o:HO):Hp:=fun b=>if b=a then some o else H b
theorem Yt{H:Hp}{a:Addr}{o:HO}:upd H a o a=some o:=by unfold upd;rw[if_pos rfl]
theorem Zo{H:Hp}{a b:Addr}{o:HO}(h:b≠a):upd H a o b=H b:=by unfold upd;rw[if_neg h]
theorem Yo5{H:Hp}{a b:Addr}{o u:HO}(h:H a=some o)(h':H b=some u)(d:o≠u):a≠b:=by
 intro e;subst e;rw[h] at h';exact d (Dd h')
theorem Xb{H:Hp}{a b:Addr}{o:HO}(h:H a=some o)(h':H b=none):a≠b:=by
 intro e;subst e;rw[h] at h';cases h'
section
variable(P:Program)(w:World)
def Yh(H:Hp)(h:Heap)(a:Addr):HO→Prop
 | .lst xs=>xs.length≤sizeLine∧∃(its:List Value) (n:Nat),Vals xs its∧h.get? a=some {cls:= .type "list",data:= .seq its.toArray n}
 | .tup xs=>xs.length≤sizeLine∧∃its:List Value,Vals xs its∧IsTup h a its.toArray
 | .dK kvs=>kvs.length≤sizeLine∧(a==sysModules)=false∧∃vs,KV kvs vs∧h.DictOf (Y3 P w) a vs
 | .dT kvs=>kvs.length≤sizeLine∧(a==sysModules)=false∧∃xs:List (List Key×Addr×Value),
   Paired (fun(p:List Key×V) (q:List Key×Addr×Value)=>p.1=q.1∧H q.2.1=some (.tup (p.1.map kV))∧RelV p.2 q.2.2) kvs xs∧
   ∃o es ep,h.get? a=some o∧o.ExactDict∧o.data= .dict es ep∧es.toList=xs.map (entryOfKey (tupleKind (Y3 P w)))∧(xs.map (·.1)).Nodup
 | .set S n=>h.SetOf (intKind P w) a S n
 | .ins C dx fs=>H dx=some (.own a)∧fs.length≤1000∧dx≠a∧h.get? a=some (PySem.W.instObj C dx)∧
   ∃mA,h.Ns1 dx mA∧(∀f,RelO (fs.lookup f) (mA f))∧PySem.Within mA (fs.map (·.1))
 | .own _=>∃o,h.get? a=some o
 | .xd fs=>∃mA,h.Ns1 a mA∧∀f,RelO (fs.lookup f) (mA f)
 | .rng lo hi=>∃t u v,h.get? a=some {cls:= .type "range",data:= .fields #[.int lo t,.int hi u,.int 1 v]}
 | .frz o u=>h.get? a=some o∧Yh H h a u
 | .tbl ps=>h.get? a=some {cls:= .none,data:= .fields ps}
 | .met f x=>h.get? a=some (PySem.W.methodObj (.ref f) (.ref x))
 | .ext φ=>φ h∧(∃o,h.get? a=some o)∧∀h1 h2:Heap,φ h1→(∀o,h1.get? a=some o→h2.get? a=some o)→φ h2
def HOk(H:Hp)(h:Heap):Prop:=∀a o,H a=some o→Yh P w H h a o
end
section
variable{P:Program}{w:World}{H H':Hp}{h h':Heap}{a:Addr}{o:HO}
theorem Yh.lt(x:Yh P w H h a o):a<h.objs.size:=by
 cases o with
 | lst xs=>obtain⟨_,_,_,_,e⟩:=x;exact Al e
 | tup xs=>obtain⟨_,_,_,p⟩:=x;exact p.lt
 | dK kvs=>obtain⟨_,_,_,_,o,_,_,e,_⟩:=x;exact Al e
 | dT kvs=>obtain⟨_,_,_,_,o,_,_,e,_⟩:=x;exact Al e
 | set S n=>obtain⟨o,_,_,_,e,_⟩:=x;exact Al e
 | ins C dx fs=>obtain⟨_,_,_,e,_⟩:=x;exact Al e
 | own y=>obtain⟨_,e⟩:=x;exact Al e
 | xd fs=>obtain⟨_,⟨_,_,_,e,_⟩,_⟩:=x;exact Al e
 | rng lo hi=>obtain⟨_,_,_,e⟩:=x;exact Al e
 | frz ob u=>obtain⟨e,_⟩:=x;exact Al e
 | tbl ps=>exact Al (show h.get? a=some _ from x)
 | met f y=>exact Al (show h.get? a=some _ from x)
 | ext φ=>obtain⟨_,⟨_,e⟩,_⟩:=x;exact Al e
theorem Paired.mapP{α β:Type}{F G:α→β→Prop}:∀{l₁:List α} {l₂:List β},Paired F l₁ l₂→(∀a b,F a b→G a b)→Paired G l₁ l₂
 | _,_,.nil,_=> .nil
 | _,_,.cons r t,f=> .cons (f _ _ r) (Paired.mapP t f)
theorem Yh.stay(x:Yh P w H h a o)(k:∀b u,(b=a∨H b=some (.own a))→h.get? b=some u→h'.get? b=some u)
  (ho:∀b,H b=some (.own a)→H' b=some (.own a)) (ht:∀b xs,H b=some (.tup xs)→H' b=some (.tup xs)):Yh P w H' h' a o:=by
 induction o with
 | lst xs=>obtain⟨z,its,n,r,e⟩:=x;exact⟨z,its,n,r,k _ _ (.inl rfl) e⟩
 | tup xs=>obtain⟨z,its,r,ob,e,c⟩:=x;exact⟨z,its,r,ob,k _ _ (.inl rfl) e,c⟩
 | dK kvs=>obtain⟨z,y,vs,r,ob,es,ep,e,c⟩:=x;exact⟨z,y,vs,r,ob,es,ep,k _ _ (.inl rfl) e,c⟩
 | dT kvs=>
  obtain⟨z,y,xs,r,ob,es,ep,e,c⟩:=x
  exact⟨z,y,xs,Paired.mapP r fun p q z=>⟨z.1,ht _ _ z.2.1,z.2.2⟩,ob,es,ep,k _ _ (.inl rfl) e,c⟩
 | set S n=>obtain⟨ob,es,ep,t,e,c⟩:=x;exact⟨ob,es,ep,t,k _ _ (.inl rfl) e,c⟩
 | ins C dx fs=>
  obtain⟨d,z,ne,e,mA,⟨od,es,ep,e2,c⟩,r⟩:=x
  exact⟨ho _ d,z,ne,k _ _ (.inl rfl) e,mA,⟨od,es,ep,k _ _ (.inr d) e2,c⟩,r⟩
 | own y=>obtain⟨ob,e⟩:=x;exact⟨ob,k _ _ (.inl rfl) e⟩
 | xd fs=>obtain⟨mA,⟨od,es,ep,e,c⟩,r⟩:=x;exact⟨mA,⟨od,es,ep,k _ _ (.inl rfl) e,c⟩,r⟩
 | rng lo hi=>obtain⟨t,u,v,e⟩:=x;exact⟨t,u,v,k _ _ (.inl rfl) e⟩
 | frz ob u ih=>obtain⟨e,q⟩:=x;exact⟨k _ _ (.inl rfl) e,ih q⟩
 | tbl ps=>
  have e:h.get? a=some {cls:= .none,data:= .fields ps}:=x
  show h'.get? a=some {cls:= .none,data:= .fields ps}
  exact k a _ (.inl rfl) e
 | met f y=>
  have e:h.get? a=some (PySem.W.methodObj (.ref f) (.ref y)):=x
  show h'.get? a=some (PySem.W.methodObj (.ref f) (.ref y))
  exact k a _ (.inl rfl) e
 | ext φ=>obtain⟨p,⟨o,e⟩,st⟩:=x;exact⟨st _ _ p fun o q=>k _ _ (.inl rfl) q,⟨o,k _ _ (.inl rfl) e⟩,st⟩
theorem HOk.lt(x:HOk P w H h)(e:H a=some o):a<h.objs.size:=(x a o e).lt
theorem HOk.fresh(x:HOk P w H h)(e:h.objs.size≤a):H a=none:=by
 cases q:H a with
 | none=>rfl
 | some u=>exact absurd (Nat.lt_of_lt_of_le (x.lt q) e) (Nat.lt_irrefl _)
theorem HOk.kept(x:HOk P w H h)(k:∀b u,h.get? b=some u→h'.get? b=some u):HOk P w H h':=fun a o e=>
 (x a o e).stay (fun b u _ q=>k b u q) (fun _ q=>q) fun _ _ q=>q
theorem HOk.laid(x:HOk P w H h)(k:∀b u,h.get? b=some u→h'.get? b=some u)(hp:h.objs.size≤a)(new:Yh P w (upd H a o) h' a o):HOk P w (upd H a o) h':=fun b u e=>by
 have hn:=x.fresh hp
 by_cases hb:b=a
 ·subst hb;rw[Yt] at e;cases e;exact new
 ·rw[Zo hb] at e
  exact(x b u e).stay (fun c v _ q=>k c v q) (fun c q=>by rw[Zo (Xb q hn)];exact q) fun c xs q=>by rw[Zo (Xb q hn)];exact q
end
def Rd(H:Hp)(a:Addr)(u:HO):Prop:=H a=some u∨∃o,H a=some (.frz o u)
theorem Rd.ok{P:Program}{w:World}{H:Hp}{h:Heap}{a:Addr}{u:HO}(r:Rd H a u)(x:HOk P w H h):Yh P w H h a u:=by
 rcases r with r | ⟨o,r⟩
 ·exact x a u r
 ·obtain⟨_,q⟩:=x a _ r
  exact q
def Mut:Option HO→Prop
 | some (.lst _)=>True
 | some (.dK _)=>True
 | some (.dT _)=>True
 | some (.set _ _)=>True
 | some (.ins _ _ _)=>True
 | some (.ext _)=>True
 | _=>False
section
variable{P:Program}{w:World}{H:Hp}{h h':Heap}{x e:Addr}{o':HO}
theorem HOk.write(ok:HOk P w H h)(mu:Mut (H x))(he:e=x∨H e=some (.own x))(k:∀b u,b≠e→h.get? b=some u→h'.get? b=some u)(heo:∃u,h'.get? e=some u)
  (new:Yh P w (upd H x o') h' x o'):HOk P w (upd H x o') h':=fun b u q=>by
 have nown:∀c y,H c=some (.own y)→c≠x:=fun c y r z=>by subst z;rw[r] at mu;exact mu
 have ntup:∀c xs,H c=some (.tup xs)→c≠x:=fun c xs r z=>by subst z;rw[r] at mu;exact mu
 by_cases hb:b=x
 ·subst hb;rw[Yt] at q;cases q;exact new
 ·rw[Zo hb] at q
  by_cases hbe:b=e
  ·have q':H b=some (.own x):=by
    rcases he with z | z
    ·exact absurd (hbe.trans z) hb
    ·rw[hbe];exact z
   rw[q] at q';cases q'
   obtain⟨v,hv⟩:=heo
   exact⟨v,by rw[hbe];exact hv⟩
  ·refine(ok b u q).stay (fun c v hc r=>k c v ?_ r) (fun c r=>by rw[Zo (nown c b r)];exact r) fun c xs r=>by rw[Zo (ntup c xs r)];exact r
   rcases hc with rfl | hc
   ·exact hbe
   ·rintro rfl
    rcases he with z | z
    ·exact nown c b hc z
    ·rw[hc] at z;cases z;exact hb rfl
end
structure Un(fs ex:List Addr)(H H':Hp)(h h':Heap):Prop where
 keep:∀b o,h.get? b=some o→H b=none→b∉fs→b∉ex→h'.get? b=some o
 slot:∀b o,h.get? b=some o→H b=none→b∈fs→b∉ex→∃sl,h'.get? b=some {o with slots:=sl}
 free:∀b o,h.get? b=some o→H b=none→b∉ex→H' b=none
 there:∀b o,h.get? b=some o→b∉ex→∃o',h'.get? b=some o'
 tups:∀b xs,H b=some (.tup xs)→H' b=some (.tup xs)
 frzs:∀b o u,H b=some (.frz o u)→H' b=some (.frz o u)
 tbls:∀b ps,H b=some (.tbl ps)→∃more,H' b=some (.tbl (ps++more))
section
variable{fs fs' ex ex':List Addr}{H H1 H2:Hp}{h h1 h2 h':Heap}{a x e:Addr}{o:HO}
theorem Un.any(u:Un fs ex H H1 h h1){b:Addr}{ob:Obj}(q:h.get? b=some ob)(n:H b=none)(hx:b∉ex):∃sl,h1.get? b=some {ob with slots:=sl}:=by
 by_cases hb:b∈fs
 ·exact u.slot b ob q n hb hx
 ·exact⟨ob.slots,u.keep b ob q n hb hx⟩
theorem Un.kept(k:∀b u,h.get? b=some u→h'.get? b=some u):Un fs ex H H h h':=
 ⟨fun b ob q _ _ _=>k b ob q,fun b ob q _ _ _=>⟨ob.slots,k b ob q⟩,fun _ _ _ n _=>n,fun b ob q _=>⟨ob,k b ob q⟩,fun _ _ q=>q,fun _ _ _ q=>q,fun _ ps q=>⟨#[],by rw[q];simp⟩⟩
theorem Un.refl:Un fs ex H H h h:=Un.kept fun _ _ q=>q
theorem Un.laid(k:∀b u,h.get? b=some u→h'.get? b=some u)(hp:h.objs.size≤a)(hn:H a=none):Un fs ex H (upd H a o) h h' where
 keep:=fun b u q _ _ _=>k b u q
 slot:=fun b u q _ _ _=>⟨u.slots,k b u q⟩
 free:=fun b u q n _=>by rw[Zo (Nat.ne_of_lt (Nat.lt_of_lt_of_le (Al q) hp))];exact n
 there:=fun b u q _=>⟨u,k b u q⟩
 tups:=fun b xs q=>by rw[Zo (Xb q hn)];exact q
 frzs:=fun b u xs q=>by rw[Zo (Xb q hn)];exact q
 tbls:=fun b ps q=>⟨#[],by rw[Zo (Xb q hn),q];simp⟩
theorem Un.write(mu:Mut (H x))(he:e=x∨H e=some (.own x))(k:∀b u,b≠e→h.get? b=some u→h'.get? b=some u)(heo:∃u,h'.get? e=some u):Un fs ex H (upd H x o) h h':=by
 have hx:∀b,H b=none→b≠x:=fun b n z=>by subst z;rw[n] at mu;exact mu
 have hb:∀b,H b=none→b≠e:=fun b n z=>by
  subst z
  rcases he with r | r
  ·exact hx b n r
  ·rw[n] at r;cases r
 have hm:∀b u,H b=some u→¬Mut (some u)→b≠x:=fun b u q nm z=>by subst z;rw[q] at mu;exact nm mu
 refine⟨fun b u q n _ _=>k b u (hb b n) q,fun b u q n _ _=>⟨u.slots,k b u (hb b n) q⟩,fun b u q n _=>by rw[Zo (hx b n)];exact n,fun b u q _=>?_,
  fun b xs q=>by rw[Zo (hm b _ q fun z=>z)];exact q,fun b u xs q=>by rw[Zo (hm b _ q fun z=>z)];exact q,fun b ps q=>⟨#[],by rw[Zo (hm b _ q fun z=>z),q];simp⟩⟩
 by_cases hbe:b=e
 ·subst hbe;exact heo
 ·exact⟨u,k b u hbe q⟩
end
noncomputable def trk(h:Heap)(H:Hp):List Addr:=(Hi h.objs.size).filter fun a=>(H a).isSome
noncomputable def hidT(h:Heap)(H:Hp):Heap:=PySem.W.hideAll h (trk h H)
theorem Z96(h:Heap)(H:Hp):(hidT h H).objs.size=h.objs.size:=PySem.W.hideAll_size _ _
theorem Zq2{h:Heap}{H:Hp}{b:Addr}{o:Obj}(e:h.get? b=some o)(n:H b=none):(hidT h H).get? b=some o:=
 PySem.W.hideAll_get _ e fun hm=>by
  have q:(H b).isSome=true:=(Lw.mp hm).2
  rw[n] at q;simp at q
theorem Y43{h:Heap}{H:Hp}{b:Addr}{o:Obj}(e:(hidT h H).get? b=some o):h.get? b=some o∧H b=none:=by
 have e':h.get? b=some o:=PySem.W.of_hideAll (trk h H) e
 refine⟨e',?_⟩
 cases q:H b with
 | none=>rfl
 | some x=>
  have hm:b∈trk h H:=Lw.mpr ⟨Hr.mpr (Al e'),by simp[q]⟩
  have z:(hidT h H).get? b=none:=PySem.W.hideAll_none (trk h H) hm
  rw[z] at e;cases e
noncomputable def Y55(g h:Heap)(L:Addr):List (Addr×Obj):=(Hi h.objs.size).filterMap fun a=>if a=L∨(g.get? a).isSome=true then none else(h.get? a).map fun o=>(a,o)
noncomputable def rest(g h:Heap)(L d:Addr):List (Addr×Obj):=(Y55 g h L).filter fun p=>decide (p.1≠d)
structure Mod(K:Ad)(mg:Str→Option Value)(base:Heap):Prop where
 kin:K.In base
 glob:base.Ns mainGlobals mg
 blt:∃mb,base.Ns builtinsNs mb∧∀x:Str,x≠"__name__"→mb x=bootBuiltins x
 nolimit:base.NoLimit
structure Cx where
 prog:Program
 w:World
 K:Ad
 mg:Str→Option Value
 base:Heap
 A:Around
 N:List Str
 s₀:Shared
 H₀:Hp
 env:Env
 outer:List Env
 stack:List Env
 ex:List Addr
 fn:Str→Bool
 calm:Bool
 pn:List (Addr×Obj)
 xe:Value→Shared→Prop
noncomputable def frs(l:List Env):List Addr:=l.filterMap (·.frame)
noncomputable abbrev Cx.fs(X:Cx):List Addr:=frs X.outer
def Vis(sc:Scope)(x:Str):Prop:=sc.names.lookup x=some .local∨sc.names.lookup x=some .cell∨sc.names.lookup x=some .free
def Loc(sc:Scope)(x:Str):Prop:=sc.names.lookup x=some .local∨sc.names.lookup x=some .cell
def Look(env:Env)(h:Heap)(m:Str→Option Value)(x:Str)(u:Value):Prop:=
 (env.kindOf x=some .local∧m x=some u)∨((env.kindOf x=some .cell∨env.kindOf x=some .free)∧∃c,env.cells.lookup x=some c∧h.IsCell c (some u))
structure Cx.Ok(X:Cx):Prop where
 mod:Mod X.K X.mg X.base
 kind:X.env.scope.kind= .function
 glob:X.env.globals=mainGlobals
 blt:X.env.builtins=builtinsNs
 above:X.s₀.heap.objs.size≤X.env.locals
 inj:∀x y c,X.env.cells.lookup x=some c→X.env.cells.lookup y=some c→x=y
 has:∀x,(X.env.kindOf x=some .cell∨X.env.kindOf x=some .free)→∃c,X.env.cells.lookup x=some c
 cab:∀x c,X.fn x=true→X.env.cells.lookup x=some c→X.s₀.heap.objs.size≤c
 hd:X.calm=true→X.A.handled=none
 frames:X.A.frames=some X.stack
 stk:X.stack=X.outer∨(X.stack=X.env::X.outer∧X.env.frame=some X.env.locals)
 exf:∀b∈X.ex,b≠X.env.locals∧∀x c,X.env.cells.lookup x=some c→c≠b
 bs:∀b o,X.base.get? b=some o→X.s₀.heap.get? b=some o∧X.H₀ b=none
 bsz:X.base.objs.size≤X.s₀.heap.objs.size
 noex:∀b o,X.base.get? b=some o→b∉X.ex
 exfs:∀b∈X.ex,b∉X.fs
 funs:X.s₀.heap.FunFrames X.base X.outer
 frf:∀b∈X.fs,X.H₀ b=none
structure Inv(X:Cx)(pins:List (Addr×Obj))(σ:List (Option V))(H:Hp)(s:Shared):Prop where
 ok:X.Ok
 os:s.os=X.s₀.os
 bare:AllBare s.gens
 base:Un X.fs X.ex X.H₀ H X.s₀.heap s.heap
 loc:∃m,s.heap.Ns X.env.locals m∧∀(i:Nat) (x:Str) (v:V),X.N[i]?=some x→σ[i]?=some (some v)→Vis X.env.scope x→∃u,RelV v u∧Look X.env s.heap m x u
 cell:∀x c,X.env.cells.lookup x=some c→∃v,s.heap.IsCell c v
 free:H X.env.locals=none
 freeC:∀x c,X.env.cells.lookup x=some c→H c=none
 pin:∀p∈X.pn++pins,s.heap.get? p.1=some p.2∧H p.1=none∧p.1≠X.env.locals∧p.1∉X.fs∧∀v,p.2.data≠ .cell v
 hok:HOk X.prog X.w H s.heap
 len:σ.length=X.N.length
section
variable{X:Cx}{pins:List (Addr×Obj)}{σ:List (Option V)}{H H':Hp}{s:Shared}{h':Heap}
theorem Cx.Ok.nofr(ok:X.Ok){b:Addr}{o:Obj}(e:X.base.get? b=some o):b∉X.fs:=fun hb=>by
 have:=(ok.funs.mem hb).1
 rw[e] at this;cases this
theorem Inv.bs(I:Inv X pins σ H s):∀b o,X.base.get? b=some o→s.heap.get? b=some o∧H b=none:=fun b o e=>
 ⟨I.base.keep b o (I.ok.bs b o e).1 (I.ok.bs b o e).2 (I.ok.nofr e) (I.ok.noex b o e),I.base.free b o (I.ok.bs b o e).1 (I.ok.bs b o e).2 (I.ok.noex b o e)⟩
theorem Inv.bk(I:Inv X pins σ H s):∀b o,X.base.get? b=some o→s.heap.get? b=some o:=fun b o e=>(I.bs b o e).1
theorem Inv.mod(I:Inv X pins σ H s):Mod X.K X.mg X.base:=I.ok.mod
theorem Inv.kIn(I:Inv X pins σ H s):X.K.In s.heap:=I.ok.mod.kin.keeps I.bk
theorem Inv.lt(I:Inv X pins σ H s):X.env.locals<s.heap.objs.size:=by obtain⟨_,hn,_⟩:=I.loc;exact hn.lt
theorem Inv.sz(I:Inv X pins σ H s):X.s₀.heap.objs.size≤s.heap.objs.size:=Nat.le_trans I.ok.above (Nat.le_of_lt I.lt)
theorem Inv.nofs(I:Inv X pins σ H s){a:Addr}(h:s.heap.objs.size≤a):a∉X.fs:=fun hb=>by
 obtain⟨_,o,ho,_⟩:=I.ok.funs.mem hb
 exact absurd (Nat.lt_of_lt_of_le (Al ho) (Nat.le_trans I.sz h)) (Nat.lt_irrefl _)
theorem Inv.cne(I:Inv X pins σ H s):∀x c,X.env.cells.lookup x=some c→c≠X.env.locals:=fun x c e z=>by
 obtain⟨v,o,ho,hd⟩:=I.cell x c e
 obtain⟨m,⟨o',es,ep,ho',hd',_⟩,_⟩:=I.loc
 rw[z,ho'] at ho;cases ho;rw[hd'] at hd;cases hd
theorem Inv.funs(I:Inv X pins σ H s):s.heap.FunFrames X.base X.outer:=by
 have all:∀(l:List Env),(∀b∈frs l,b∈X.fs)→X.s₀.heap.FunFrames X.base l→s.heap.FunFrames X.base l:=by
  intro l
  induction l with
  | nil=>intro _ _;trivial
  | cons env r ih=>
   intro hs hl
   obtain⟨hk,⟨L,o,hf,hn,ho,hd⟩,hr⟩:=hl
   have hL:L∈X.fs:=hs L (by unfold frs;rw[List.filterMap_cons,hf];exact Ao)
   obtain⟨sl,e⟩:=I.base.slot L o ho (I.ok.frf L hL) hL fun z=>I.ok.exfs L z hL
   exact⟨hk,⟨L,_,hf,hn,e,hd⟩,ih (fun b hb=>hs b (by unfold frs;rw[List.filterMap_cons,hf];exact Ar _ hb)) hr⟩
 exact all X.outer (fun _ hb=>hb) I.ok.funs
theorem Inv.stack(I:Inv X pins σ H s):s.heap.FunFrames X.base X.stack:=by
 rcases I.ok.stk with e | ⟨e,hf⟩
 ·rw[e];exact I.funs
 ·rw[e]
  obtain⟨m,hn,_⟩:=I.loc
  refine .cons (by rw[I.ok.kind];decide) hf hn ?_ I.funs
  exact Heap.get?_none_of_le (Nat.le_trans I.ok.bsz I.ok.above)
theorem Inv.stkSub(I:Inv X pins σ H s):∀b∈frs X.stack,b∈X.env.locals::X.fs:=fun b hb=>by
 rcases I.ok.stk with e | ⟨e,hf⟩
 ·rw[e] at hb;exact Ar _ hb
 ·rw[e] at hb
  unfold frs at hb
  rw[List.filterMap_cons,hf] at hb
  exact hb
theorem Inv.stkFree(I:Inv X pins σ H s):∀b∈frs X.stack,H b=none:=fun b hb=>by
 rcases Ag.mp (I.stkSub b hb) with e | hb
 ·rw[e];exact I.free
 ·obtain⟨_,o,ho,_⟩:=I.ok.funs.mem hb
  exact I.base.free b o ho (I.ok.frf b hb) fun z=>I.ok.exfs b z hb
theorem Inv.step{g':Array GenState}{t':Nat}{d':Drawn}{ch:List Addr}(I:Inv X pins σ H s)
  (hch:∀b∈ch,(b∈X.ex∨X.s₀.heap.objs.size≤b)∧b≠X.env.locals∧(∀x c,X.env.cells.lookup x=some c→c≠b)∧∀p∈X.pn++pins,p.1≠b)
  (keep:∀b o,b≠X.env.locals→b∉X.fs→b∉ch→s.heap.get? b=some o→H b=none→h'.get? b=some o)
  (slot:∀b o,b≠X.env.locals→b∈X.fs→b∉ch→s.heap.get? b=some o→H b=none→∃sl,h'.get? b=some {o with slots:=sl}) (free:∀b o,b∉ch→s.heap.get? b=some o→H b=none→H' b=none)
  (there:∀b o,b∉ch→s.heap.get? b=some o→∃o',h'.get? b=some o')
  (tups:∀b xs,H b=some (.tup xs)→H' b=some (.tup xs)) (frzs:∀b o u,H b=some (.frz o u)→H' b=some (.frz o u)) (tbls:∀b ps,H b=some (.tbl ps)→∃more,H' b=some (.tbl (ps++more)))
  (ns:∀m,s.heap.Ns X.env.locals m→h'.Ns X.env.locals m) (hok:HOk X.prog X.w H' h') (hg:AllBare g'):
  Inv X pins σ H' {s with heap:=h',gens:=g',drawn:=d',toks:=t'}:=by
 have neL:∀b o,X.s₀.heap.get? b=some o→b≠X.env.locals:=fun b o e=>Nat.ne_of_lt (Nat.lt_of_lt_of_le (Al e) I.ok.above)
 have neC:∀b o,X.s₀.heap.get? b=some o→b∉X.ex→b∉ch:=fun b o e hx hb=>by
  rcases(hch b hb).1 with z | z
  ·exact hx z
  ·exact absurd (Nat.lt_of_lt_of_le (Al e) z) (Nat.lt_irrefl _)
 have cellK:∀x c,X.env.cells.lookup x=some c→∀v,s.heap.IsCell c v→h'.IsCell c v:=fun x c e v ⟨o,ho,hd⟩=>by
  have nch:c∉ch:=fun z=>(hch c z).2.2.1 x c e rfl
  by_cases hc:c∈X.fs
  ·obtain⟨sl,q⟩:=slot c o (I.cne x c e) hc nch ho (I.freeC x c e)
   exact⟨_,q,hd⟩
  ·exact⟨o,keep c o (I.cne x c e) hc nch ho (I.freeC x c e),hd⟩
 refine⟨I.ok,I.os,hg,⟨fun b o e n hb hx=>?_,fun b o e n hb hx=>?_,fun b o e n hx=>?_,fun b o e hx=>?_,fun b xs e=>tups b xs (I.base.tups b xs e),fun b o xs e=>frzs b o xs (I.base.frzs b o xs e),fun b ps e=>?_⟩,?_,fun x c e=>?_,?_,fun x c e=>?_,fun p hp=>?_,hok,I.len⟩
 ·exact keep b o (neL b o e) hb (neC b o e hx) (I.base.keep b o e n hb hx) (I.base.free b o e n hx)
 ·obtain⟨sl,e1⟩:=I.base.slot b o e n hb hx
  obtain⟨sl',e2⟩:=slot b _ (neL b o e) hb (neC b o e hx) e1 (I.base.free b o e n hx)
  exact⟨sl',e2⟩
 ·obtain⟨o',e1⟩:=I.base.there b o e hx
  exact free b o' (neC b o e hx) e1 (I.base.free b o e n hx)
 ·obtain⟨o',e1⟩:=I.base.there b o e hx
  exact there b o' (neC b o e hx) e1
 ·obtain⟨m1,e1⟩:=I.base.tbls b ps e
  obtain⟨m2,e2⟩:=tbls b _ e1
  exact⟨m1++m2,by rw[e2,Array.append_assoc]⟩
 ·obtain⟨m,hn,hl⟩:=I.loc
  refine⟨m,ns m hn,fun i x v e1 e2 e3=>?_⟩
  obtain⟨u,r,l⟩:=hl i x v e1 e2 e3
  refine⟨u,r,?_⟩
  rcases l with l | ⟨k,c,e,z⟩
  ·exact .inl l
  ·exact .inr ⟨k,c,e,cellK x c e _ z⟩
 ·obtain⟨v,z⟩:=I.cell x c e
  exact⟨v,cellK x c e v z⟩
 ·obtain⟨m,⟨o,_,_,ho,_⟩,_⟩:=I.loc
  exact free _ o (fun z=>(hch _ z).2.1 rfl) ho I.free
 ·obtain⟨v,o,ho,hd⟩:=I.cell x c e
  exact free c o (fun z=>(hch c z).2.2.1 x c e rfl) ho (I.freeC x c e)
 ·obtain⟨e,n,ne,nf,d⟩:=I.pin p hp
  have nch:p.1∉ch:=fun z=>(hch p.1 z).2.2.2 p hp rfl
  exact⟨keep p.1 p.2 ne nf nch e n,free p.1 p.2 nch e n,ne,nf,d⟩
theorem Inv.un{t':Nat}(I:Inv X pins σ H s)(u:Un X.fs [] H H' s.heap h')(hok:HOk X.prog X.w H' h'):Inv X pins σ H' {s with heap:=h',toks:=t'}:=by
 obtain⟨m,⟨o,es,ep,ho,r⟩,_⟩:=id I.loc
 obtain⟨sl,hL⟩:=u.any ho I.free (by simp)
 exact I.step (g':=s.gens) (d':=s.drawn) (ch:=[]) (fun _ z=>nomatch z) (fun b o _ hb _ e n=>u.keep b o e n hb (by simp)) (fun b o _ hb _ e n=>u.slot b o e n hb (by simp)) (fun b o _ e n=>u.free b o e n (by simp)) (fun b o _ e=>u.there b o e (by simp)) u.tups u.frzs u.tbls (fun m' hm=>by
  obtain⟨o',es',ep',ho',r'⟩:=hm
  rw[ho] at ho';cases ho'
  exact⟨_,es',ep',hL,r'⟩) hok I.bare
theorem Inv.call{g':Array GenState}{t':Nat}{d':Drawn}{ch:List Addr}(I:Inv X pins σ H s)(u:Un (frs X.stack) ch H H' s.heap h')(hok:HOk X.prog X.w H' h')(hg:AllBare g')
  (hch:∀b∈ch,(b∈X.ex∨X.s₀.heap.objs.size≤b)∧b≠X.env.locals∧(∀x c,X.env.cells.lookup x=some c→c≠b)∧∀p∈X.pn++pins,p.1≠b):
  Inv X pins σ H' {s with heap:=h',gens:=g',drawn:=d',toks:=t'}:=by
 obtain⟨m,⟨o,es,ep,ho,r⟩,_⟩:=id I.loc
 obtain⟨sl,hL⟩:=u.any ho I.free fun z=>(hch _ z).2.1 rfl
 exact I.step (ch:=ch) hch (fun b o hL hb hc e n=>u.keep b o e n (fun z=>(Ag.mp (I.stkSub b z)).elim hL hb) hc) (fun b o _ _ hc e n=>u.any e n hc) (fun b o hc e n=>u.free b o e n hc) (fun b o hc e=>u.there b o e hc) u.tups u.frzs u.tbls (fun m' hm=>by
  obtain⟨o',es',ep',ho',r'⟩:=hm
  rw[ho] at ho';cases ho'
  exact⟨_,es',ep',hL,r'⟩) hok hg
theorem Inv.turned{t':Nat}{it:Addr}(I:Inv X pins σ H s)(k:∀b o,b≠it→s.heap.get? b=some o→h'.get? b=some o)(hn:H it=none)(hL:it≠X.env.locals)
  (h1:it∈X.ex∨X.s₀.heap.objs.size≤it) (h2:∀x c,X.env.cells.lookup x=some c→c≠it) (h3:∀p∈X.pn++pins,p.1≠it):Inv X pins σ H {s with heap:=h',toks:=t'}:=by
 have nit:∀b u,H b=some u→b≠it:=fun b u e z=>by rw[z,hn] at e;cases e
 refine I.step (g':=s.gens) (d':=s.drawn) (ch:=[it]) (fun b hb=>?_) (fun b o _ _ hc e _=>k b o (fun z=>hc (by simp[z])) e) (fun b o _ _ hc e _=>⟨o.slots,k b o (fun z=>hc (by simp[z])) e⟩) (fun _ _ _ _ n=>n)
  (fun b o hc e=>⟨o,k b o (fun z=>hc (by simp[z])) e⟩) (fun _ _ e=>e) (fun _ _ _ e=>e) (fun b ps e=>⟨#[],by rw[e];simp⟩) (fun m hm=>?_) (fun b u e=>?_) I.bare
 ·have e:b=it:=by simpa using hb
  subst e
  exact⟨h1,hL,h2,h3⟩
 ·obtain⟨o,es,ep,ho,r⟩:=hm
  exact⟨o,es,ep,k _ o (Bs hL) ho,r⟩
 ·refine(I.hok b u e).stay (fun c v hc q=>k c v ?_ q) (fun _ q=>q) fun _ _ q=>q
  rcases hc with z | z
  ·rw[z];exact nit b u e
  ·exact nit c _ z
theorem Inv.tok(I:Inv X pins σ H s)(t:Nat):Inv X pins σ H {s with toks:=t}:=I.un (h':=s.heap) (t':=t) Un.refl I.hok
theorem Inv.kept{t':Nat}(I:Inv X pins σ H s)(k:∀b u,s.heap.get? b=some u→h'.get? b=some u):Inv X pins σ H {s with heap:=h',toks:=t'}:=I.un (Un.kept k) (I.hok.kept k)
theorem Inv.laid{a:Addr}{o:HO}{t':Nat}(I:Inv X pins σ H s)(k:∀b u,s.heap.get? b=some u→h'.get? b=some u)(hp:s.heap.objs.size≤a)(new:Yh X.prog X.w (upd H a o) h' a o):
  Inv X pins σ (upd H a o) {s with heap:=h',toks:=t'}:=I.un (Un.laid k hp (I.hok.fresh hp)) (I.hok.laid k hp new)
theorem Inv.write{x e:Addr}{o:HO}{t':Nat}(I:Inv X pins σ H s)(mu:Mut (H x))(he:e=x∨H e=some (.own x))(k:∀b u,b≠e→s.heap.get? b=some u→h'.get? b=some u)(heo:∃u,h'.get? e=some u)
  (new:Yh X.prog X.w (upd H x o) h' x o):Inv X pins σ (upd H x o) {s with heap:=h',toks:=t'}:=I.un (Un.write mu he k heo) (I.hok.write mu he k heo new)
theorem Inv.pins_of{pins':List (Addr×Obj)}(I:Inv X pins σ H s)(h:∀p∈pins',s.heap.get? p.1=some p.2∧H p.1=none∧p.1≠X.env.locals∧p.1∉X.fs∧∀v,p.2.data≠ .cell v):Inv X pins' σ H s:=
 ⟨I.ok,I.os,I.bare,I.base,I.loc,I.cell,I.free,I.freeC,fun p hp=>(Bk.mp hp).elim (fun z=>I.pin p (Hw _ z)) (h p),I.hok,I.len⟩
theorem B3{N:List Str}(hN:N.Nodup){i j:Nat}{x:Str}(a:N[i]?=some x)(b:N[j]?=some x):i=j:=by
 obtain⟨h1,e1⟩:=Af.mp a
 obtain⟨h2,e2⟩:=Af.mp b
 exact(List.getElem_inj hN).mp (e1.trans e2.symm)
theorem Pu{M:Model}{A:Around}{E:Value→Shared→Prop}{i:Nat}{x:Str}{v:V}{u:Value}{Q:Unit→Shared→Prop}(I:Inv X pins σ H s)(hN:X.N.Nodup)(hi:X.N[i]?=some x)(hx:Loc X.env.scope x)(r:RelV v u)
  (h:∀s',Inv X pins (σ.set i (some v)) H s'→(∃a,Hd a s.heap s'.heap∧(a=X.env.locals∨X.env.cells.lookup x=some a))→Q () s') (hf:X.fn x=true∨X.env.scope.names.lookup x=some .local:=by first | exact .inl rfl | exact .inr rfl | assumption):wpAny M A (storeName X.env x u) Q E s:=by
 obtain⟨m,hn,hl⟩:=id I.loc
 have hcls:(X.env.scope.kind== .class || (X.env.scope.kind== .module&&X.env.locals !=X.env.globals))=false:=by rw[I.ok.kind];rfl
 have hiσ:i<σ.length:=by rw[I.len];exact(Af.mp hi).1
 have cne:=I.cne
 have tracked:∀{a:Addr} {h':Heap},(∃o,s.heap.get? a=some o∧H a=none)→Hd a s.heap h'→HOk X.prog X.w H h':=fun{a h'} ha hs b ob e=>by
  obtain⟨_,_,hfree⟩:=ha
  refine(I.hok b ob e).stay (fun c w' hc q=>(hs.2 c ?_).trans q) (fun _ q=>q) fun _ _ q=>q
  rintro rfl
  rcases hc with rfl | hc
  ·rw[hfree] at e;cases e
  ·rw[hfree] at hc;cases hc
 rcases hx with hk | hk
 ·refine wpAny_storeName_local hk hn (fun h' hn' hs=>?_) hcls
  obtain⟨oL,_,_,hoL,_⟩:=id hn
  refine h _ ⟨I.ok,I.os,I.bare,⟨fun b o e n hb hx=>?_,fun b o e n hb hx=>?_,I.base.free,fun b o e hx=>?_,I.base.tups,I.base.frzs,I.base.tbls⟩,⟨_,hn',fun j y v' e1 e2 e3=>?_⟩,fun y c e=>?_,I.free,I.freeC,fun p hp=>?_,tracked ⟨oL,hoL,I.free⟩ hs,by simpa using I.len⟩ ⟨_,hs,.inl rfl⟩
  ·exact(hs.2 b (Nat.ne_of_lt (Nat.lt_of_lt_of_le (Al e) I.ok.above))).trans (I.base.keep b o e n hb hx)
  ·obtain⟨sl,e1⟩:=I.base.slot b o e n hb hx
   exact⟨sl,(hs.2 b (Nat.ne_of_lt (Nat.lt_of_lt_of_le (Al e) I.ok.above))).trans e1⟩
  ·obtain⟨o',e1⟩:=I.base.there b o e hx
   exact⟨o',(hs.2 b (Nat.ne_of_lt (Nat.lt_of_lt_of_le (Al e) I.ok.above))).trans e1⟩
  ·by_cases hj:j=i
   ·subst hj
    rw[hi] at e1;cases e1
    rw[Hz hiσ] at e2
    cases e2
    exact⟨u,r,.inl ⟨hk,by simp⟩⟩
   ·rw[Dt (Bs hj)] at e2
    obtain⟨u',r',q⟩:=hl j y v' e1 e2 e3
    refine⟨u',r',?_⟩
    rcases q with⟨k,e⟩ | ⟨k,c,e,z⟩
    ·refine .inl ⟨k,?_⟩
     have:y≠x:=fun e=>hj (B3 hN e1 (e ▸ hi))
     simp[this,e]
    ·exact .inr ⟨k,c,e,z.sameBut hs (cne y c e)⟩
  ·obtain⟨w',z⟩:=I.cell y c e
   exact⟨w',z.sameBut hs (cne y c e)⟩
  ·obtain⟨e,n,ne,nf,d⟩:=I.pin p hp
   exact⟨(hs.2 p.1 ne).trans e,n,ne,nf,d⟩
 ·have hfn:X.fn x=true:=by
   rcases hf with z | z
   ·exact z
   ·rw[z] at hk;cases hk
  obtain⟨c,hc⟩:=I.ok.has x (.inl hk)
  obtain⟨w',z⟩:=I.cell x c hc
  refine wpAny_storeName_cell I.ok.kind hk hc z (fun h' hc' hs=>?_)
  obtain⟨oc,hoc,hocd⟩:=id z
  refine h {s with heap:=h'} ⟨I.ok,I.os,I.bare,⟨fun b o e n hb hx=>?_,fun b o e n hb hx=>?_,I.base.free,fun b o e hx=>?_,I.base.tups,I.base.frzs,I.base.tbls⟩,⟨m,hn.sameBut hs (Bs (cne x c hc)),fun j y v' e1 e2 e3=>?_⟩,fun y c' e=>?_,I.free,I.freeC,fun p hp=>?_,tracked ⟨oc,hoc,I.freeC x c hc⟩ hs,by simpa using I.len⟩ ⟨c,hs,.inr hc⟩
  ·exact(hs.2 b (Nat.ne_of_lt (Nat.lt_of_lt_of_le (Al e) (I.ok.cab x c hfn hc)))).trans (I.base.keep b o e n hb hx)
  ·obtain⟨sl,e1⟩:=I.base.slot b o e n hb hx
   exact⟨sl,(hs.2 b (Nat.ne_of_lt (Nat.lt_of_lt_of_le (Al e) (I.ok.cab x c hfn hc)))).trans e1⟩
  ·obtain⟨o',e1⟩:=I.base.there b o e hx
   exact⟨o',(hs.2 b (Nat.ne_of_lt (Nat.lt_of_lt_of_le (Al e) (I.ok.cab x c hfn hc)))).trans e1⟩
  ·by_cases hj:j=i
   ·subst hj
    rw[hi] at e1;cases e1
    rw[Hz hiσ] at e2
    cases e2
    exact⟨u,r,.inr ⟨.inl hk,c,hc,hc'⟩⟩
   ·rw[Dt (Bs hj)] at e2
    obtain⟨u',r',q⟩:=hl j y v' e1 e2 e3
    refine⟨u',r',?_⟩
    rcases q with q | ⟨k,c',e,z'⟩
    ·exact .inl q
    ·refine .inr ⟨k,c',e,z'.sameBut hs ?_⟩
     rintro rfl
     exact hj (B3 hN e1 (I.ok.inj _ _ _ e hc ▸ hi))
  ·by_cases hcc:c'=c
   ·subst hcc;exact⟨_,hc'⟩
   ·obtain⟨w2,z2⟩:=I.cell y c' e
    exact⟨w2,z2.sameBut hs hcc⟩
  ·obtain⟨e,n,ne,nf,d⟩:=I.pin p hp
   refine⟨(hs.2 p.1 ?_).trans e,n,ne,nf,d⟩
   intro q
   rw[q,hoc] at e
   have q':oc=p.2:=Dd e
   exact d w' (by rw[←q'];exact hocd)
theorem Bp{M:Model}{A:Around}{E:Value→Shared→Prop}{i:Nat}{x:Str}{v:V}{u:Value}{Q:Unit→Shared→Prop}(I:Inv X pins σ H s)(hN:X.N.Nodup)(hi:X.N[i]?=some x)(hx:Loc X.env.scope x)(r:RelV v u)
  (h:∀s',Inv X pins (σ.set i (some v)) H s'→Q () s') (hf:X.fn x=true∨X.env.scope.names.lookup x=some .local:=by first | exact .inl rfl | exact .inr rfl | assumption):wpAny M A (storeName X.env x u) Q E s:=
 Pu I hN hi hx r (fun s' I' _=>h s' I') hf
theorem Inv.call'{s':Shared}{ch:List Addr}(I:Inv X pins σ H s)(ho:s'.os=s.os)(u:Un (frs X.stack) ch H H' s.heap s'.heap)(hok:HOk X.prog X.w H' s'.heap)(hg:AllBare s'.gens)
  (hch:∀b∈ch,(b∈X.ex∨X.s₀.heap.objs.size≤b)∧b≠X.env.locals∧(∀x c,X.env.cells.lookup x=some c→c≠b)∧∀p∈X.pn++pins,p.1≠b):Inv X pins σ H' s':=by
 obtain⟨h',g',d',t',o'⟩:=s'
 have e:o'=s.os:=ho
 subst e
 exact I.call (g':=g') (t':=t') (d':=d') u hok hg hch
end
abbrev XK:=Value→Option Addr→Hp→Prop
noncomputable abbrev St:=List (Option V)
abbrev VK:=V→Hp→Prop
abbrev TE:=St→Hp→VK→Prop
abbrev TT:=St→Hp→(Bool→Hp→Prop)→Prop
abbrev TA:=St→Hp→(List V→Hp→Prop)→Prop
structure Ends where
 nx:St→Hp→Prop
 rt:VK
 bk:St→Hp→Prop:=fun _ _=>False
 ct:St→Hp→Prop:=fun _ _=>False
abbrev TS:=Ends→St→Hp→Prop
def EP(X:Cx)(pins:List (Addr×Obj))(σ:St)(Q:VK)(u:Value)(s':Shared):Prop:=∃v H',Inv X pins σ H' s'∧RelV v u∧Q v H'
def TP(X:Cx)(pins:List (Addr×Obj))(σ:St)(Q:Bool→Hp→Prop)(b:Bool)(s':Shared):Prop:=∃H',Inv X pins σ H' s'∧Q b H'
def AP(X:Cx)(pins:List (Addr×Obj))(σ:St)(Q:List V→Hp→Prop)(us:List Value)(s':Shared):Prop:=∃vs H',Inv X pins σ H' s'∧Vals vs us∧Q vs H'
def SP(X:Cx)(pins:List (Addr×Obj))(D:Ends)(f:Flow)(s':Shared):Prop:=
 match f with
 | .next=>∃σ' H',Inv X pins σ' H' s'∧D.nx σ' H'
 | .brk=>∃σ' H',Inv X pins σ' H' s'∧D.bk σ' H'
 | .cont=>∃σ' H',Inv X pins σ' H' s'∧D.ct σ' H'
 | .ret u=>∃v σ' H',Inv X pins σ' H' s'∧RelV v u∧D.rt v H'
def PE(X:Cx)(e:Expr)(t:TE):Prop:=
 ∀(pins:List (Addr×Obj)) (s:Shared) (σ:St) (H:Hp) (Q:VK),Inv X pins σ H s→t σ H Q→wpAny (model X.prog X.w) X.A (eval e X.env) (EP X pins σ Q) X.xe s
def PT(X:Cx)(e:Expr)(t:TT):Prop:=
 ∀(pins:List (Addr×Obj)) (s:Shared) (σ:St) (H:Hp) (Q:Bool→Hp→Prop),Inv X pins σ H s→t σ H Q→wpAny (model X.prog X.w) X.A (isTrue e X.env (eval e X.env)) (TP X pins σ Q) X.xe s
def PW(X:Cx)(e:Expr)(t:TT):Prop:=
 ∀(whole:Sem Value) (pins:List (Addr×Obj)) (s:Shared) (σ:St) (H:Hp) (Q:Bool→Hp→Prop),Inv X pins σ H s→t σ H Q→wpAny (model X.prog X.w) X.A (isTrue e X.env whole) (TP X pins σ Q) X.xe s
theorem PW.pt{X:Cx}{e:Expr}{t:TT}(h:PW X e t):PT X e t:=h _
def PA(X:Cx)(es:List Expr)(t:TA):Prop:=
 ∀(pos:Pos) (pins:List (Addr×Obj)) (s:Shared) (σ:St) (H:Hp) (Q:List V→Hp→Prop),Inv X pins σ H s→t σ H Q→wpAny (model X.prog X.w) X.A (spliced (backTo pos (starEach es X.env))) (AP X pins σ Q) X.xe s
def PS(X:Cx)(st:Stmt)(t:TS):Prop:=
 ∀(pins:List (Addr×Obj)) (s:Shared) (σ:St) (H:Hp) (D:Ends),Inv X pins σ H s→t D σ H→wpAny (model X.prog X.w) X.A (exec st X.env) (SP X pins D) X.xe s
def PSs(X:Cx)(st:List Stmt)(t:TS):Prop:=
 ∀(pins:List (Addr×Obj)) (s:Shared) (σ:St) (H:Hp) (D:Ends),Inv X pins σ H s→t D σ H→wpAny (model X.prog X.w) X.A (execs st X.env) (SP X pins D) X.xe s
theorem thn{α:Type}{t:Sem α}{Q Q':α→Shared→Prop}{M:Model}{A:Around}{E:Value→Shared→Prop}{s:Shared}(h:wpAny M A t Q E s)(hQ:∀a s,Q a s→Q' a s):wpAny M A t Q' E s:=Hl h hQ fun _ _ x=>x
section
variable{X:Cx}
theorem bin{a b:Expr}{ta tb:TE}(ha:PE X a ta)(hb:PE X b tb){pins:List (Addr×Obj)}{s:Shared}{σ:St}{H:Hp}{R:V→V→Hp→Prop}(I:Inv X pins σ H s)(h:ta σ H fun x H1=>tb σ H1 fun y H2=>R x y H2)
  {α:Type} {Q:α→Shared→Prop} {f:Value→Value→Sem α}
  (hf:∀v u s2 x y H2,Inv X pins σ H2 s2→RelV x v→RelV y u→R x y H2→wpAny (model X.prog X.w) X.A (f v u) Q X.xe s2):
  wpAny (model X.prog X.w) X.A (eval a X.env) (fun v s₁=>wpAny (model X.prog X.w) X.A (eval b X.env) (fun u s₂=>wpAny (model X.prog X.w) X.A (f v u) Q X.xe s₂) X.xe s₁) X.xe s:=by
 refine thn (ha pins s σ H _ I h) fun v s1 zz2=>?_
 obtain⟨x,H1,I1,r1,q1⟩:=zz2
 refine thn (hb pins s1 σ H1 _ I1 q1) fun u s2 zz3=>?_
 obtain⟨y,H2,I2,r2,q2⟩:=zz3
 exact hf v u s2 x y H2 I2 r1 r2 q2
def tVar(i:Nat):TE:=fun σ H Q=>∃v,σ[i]?=some (some v)∧Q v H
def tC(v:V):TE:=fun _ H Q=>Q v H
theorem Yd7{i:Nat}{x:Str}{pos:Pos}(hN:X.N[i]?=some x)(hv:Vis X.env.scope x)(hd:(x==("__debug__":Str))=false:=by decide)(hcd:(x==("__classdict__":Str))=false:=by decide):PE X (.Name x pos) (tVar i):=by
 intro pins s σ H Q I h
 obtain⟨v,e,h⟩:=h
 obtain⟨m,hn,hl⟩:=I.loc
 obtain⟨u,r,l⟩:=hl i x v hN e hv
 have fin:EP X pins σ Q u s:=⟨v,H,I,r,h⟩
 rcases l with⟨hk,hm⟩ | ⟨hk,c,hc,hcell⟩
 ·exact wpAny_Name (wpAny_loadName_local I.ok.kind hk hn hm fin) hd
 ·rcases hk with hk | hk
  ·exact wpAny_Name (wpAny_loadName_cell I.ok.kind hk hc hcell fin) hd
  ·exact wpAny_Name (wpAny_loadName_free I.ok.kind hk hc hcell fin hcd) hd
theorem Yj3{i j pos}:PE X (.Constant (.int i) j pos) (tC (.int i)):=fun _ _ _ H _ I h=>wpAny_Constant_int ⟨.int i,H,I.tok _,⟨_,rfl⟩,h⟩
theorem Ym3{b j pos}:PE X (.Constant (.bool b) j pos) (tC (.bl b)):=fun _ _ _ H _ I h=>Constant_bool ⟨.bl b,H,I,rfl,h⟩
theorem Y99{j pos}:PE X (.Constant .none j pos) (tC .non):=fun _ _ _ H _ I h=>Constant_none ⟨.non,H,I,rfl,h⟩
theorem Zx9{x j pos}:PE X (.Constant (.str x) j pos) (tC (.str x)):=fun _ _ _ H _ I h=>Calls.Constant_str ⟨.str x,H,I.tok _,⟨_,rfl⟩,h⟩
def Gl(X:Cx)(x:Str):Prop:=X.env.kindOf x=some .globalImplicit
theorem Cb{E:Value→Shared→Prop}{pins:List (Addr×Obj)}{s:Shared}{σ:St}{H:Hp}{x:Str}{u:Value}{pos:Pos}{Q:Value→Shared→Prop}(I:Inv X pins σ H s)(hg:Gl X x)(hm:X.mg x=some u)(h:Q u s)
  (hd:(x==("__debug__":Str))=false:=by decide):wpAny (model X.prog X.w) X.A (eval (.Name x pos) X.env) Q E s:=
 Calls.Name_function_global I.ok.kind hg (Calls.loadGlobal_global (by rw[I.ok.glob];exact I.mod.glob.keeps I.bk) hm h) hd
theorem E1{E:Value→Shared→Prop}{pins:List (Addr×Obj)}{s:Shared}{σ:St}{H:Hp}{x:Str}{u:Value}{pos:Pos}{Q:Value→Shared→Prop}(I:Inv X pins σ H s)(hg:Gl X x)(hm:X.mg x=none)(hv:bootBuiltins x=some u)(h:Q u s)
  (hn:x≠"__name__":=by decide) (hd:(x==("__debug__":Str))=false:=by decide):wpAny (model X.prog X.w) X.A (eval (.Name x pos) X.env) Q E s:=by
 obtain⟨mb,h1,h2⟩:=I.mod.blt
 exact Calls.Name_function_global I.ok.kind hg (Calls.loadGlobal_builtin (by rw[I.ok.glob];exact I.mod.glob.keeps I.bk) hm (by rw[I.ok.blt];exact h1.keeps I.bk) ((h2 x hn).trans hv) h) hd
theorem Y31{x:Str}{v:V}{u:Value}{pos:Pos}(hg:Gl X x)(hm:X.mg x=some u)(r:RelV v u)(hd:(x==("__debug__":Str))=false:=by decide):PE X (.Name x pos) (tC v):=
 fun _ _ _ H _ I h=>Cb I hg hm ⟨v,H,I,r,h⟩ hd
theorem Y19{x:Str}{v:V}{u:Value}{pos:Pos}(hg:Gl X x)(hm:X.mg x=none)(hv:bootBuiltins x=some u)(r:RelV v u)(hn:x≠"__name__":=by decide)(hd:(x==("__debug__":Str))=false:=by decide):PE X (.Name x pos) (tC v):=
 fun _ _ _ H _ I h=>E1 I hg hm hv ⟨v,H,I,r,h⟩ hn hd
variable{a b:Expr}{ta tb:TE}{pos:Pos}
variable{tA tB':TT}{rest:List Expr}
def tAnd(t u:TT):TT:=fun σ H Q=>t σ H fun c H1=>if c=true then u σ H1 Q else Q false H1
def tOr(t u:TT):TT:=fun σ H Q=>t σ H fun c H1=>if c=true then Q true H1 else u σ H1 Q
def tNot(t:TT):TT:=fun σ H Q=>t σ H fun c H1=>Q (!c) H1
theorem Y02(ha:PT X a tA):PW X (.BoolOp .And [a] pos) tA:=by
 intro wh pins s σ H Q I h
 refine isTrue_and (thn (ha pins s σ H Q I h) fun c s1 e=>?_)
 cases c with
 | true=>exact isTrue_and_nil e
 | false=>exact e
theorem Ya4(ha:PT X a tA):PW X (.BoolOp .Or [a] pos) tA:=by
 intro wh pins s σ H Q I h
 refine isTrue_or (thn (ha pins s σ H Q I h) fun c s1 e=>?_)
 cases c with
 | false=>exact isTrue_or_nil e
 | true=>exact e
theorem Yb3(ha:PT X a tA)(hb:PW X (.BoolOp .And (b::rest) pos) tB'):PW X (.BoolOp .And (a::b::rest) pos) (tAnd tA tB'):=by
 intro wh pins s σ H Q I h
 refine isTrue_and (thn (ha pins s σ H _ I h) fun c s1 zz4=>?_)
 obtain⟨H1,I1,q1⟩:=zz4
 cases c with
 | true=>exact hb wh pins s1 σ H1 Q I1 q1
 | false=>exact⟨H1,I1,q1⟩
theorem Yo6(ha:PT X a tA)(hb:PW X (.BoolOp .Or (b::rest) pos) tB'):PW X (.BoolOp .Or (a::b::rest) pos) (tOr tA tB'):=by
 intro wh pins s σ H Q I h
 refine isTrue_or (thn (ha pins s σ H _ I h) fun c s1 zz5=>?_)
 obtain⟨H1,I1,q1⟩:=zz5
 cases c with
 | true=>exact⟨H1,I1,q1⟩
 | false=>exact hb wh pins s1 σ H1 Q I1 q1
theorem Yd0(ha:PT X a tA):PT X (.UnaryOp .Not a pos) (tNot tA):=by
 intro pins s σ H Q I h
 exact isTrue_not (ha pins s σ H (fun c H1=>Q (!c) H1) I h)
theorem Ye0{op}{t:TE}(h:PE X a t):PE X (.BoolOp op [a] pos) t:=fun pins s σ H Q I hw=>BoolOp_one (h pins s σ H Q I hw)
end
def SqL(K:Ad)(H:Hp)(a:Addr)(xs:List V):Prop:=
 Rd H a (.lst xs)∨
  ∃(o:Obj) (its:Array Value) (n:Nat),K.lookup a=some o∧o.cls= .type "list"∧o.dict=none∧o.data= .seq its n∧its.size≤sizeLine∧Vals xs its.toList
def SqT(K:Ad)(H:Hp)(a:Addr)(xs:List V):Prop:=
 Rd H a (.tup xs)∨
  ∃(o:Obj) (its:Array Value) (n:Nat),K.lookup a=some o∧o.cls= .type "tuple"∧o.data= .seq its n∧its.size≤sizeLine∧Vals xs its.toList
noncomputable def absV:Value→Option V
 | .none=>some .non
 | .bool b=>some (.bl b)
 | .int i _=>some (.int i)
 | .str x _=>some (.str x)
 | .bytes b _=>some (.byt b)
 | .float b _=>some (.flt b)
 | .ref a=>some (.ref a)
 | .type n=>some (.ty n)
 | _=>none
theorem RelV.abs{x:V}{u:Value}(r:RelV x u):absV u=some x:=by
 cases x with
 | non=>cases r;rfl
 | bl _=>cases r;rfl
 | int _=>obtain⟨t,rfl⟩:=r;rfl
 | str _=>obtain⟨t,rfl⟩:=r;rfl
 | byt _=>obtain⟨t,rfl⟩:=r;rfl
 | flt _=>obtain⟨t,rfl⟩:=r;rfl
 | ref _=>cases r;rfl
 | ty _=>cases r;rfl
theorem RelV.inj{x y:V}{u:Value}(r:RelV x u)(q:RelV y u):x=y:=Dd (r.abs.symm.trans q.abs)
theorem Vals.inj:∀{xs ys:List V} {us:List Value},Vals xs us→Vals ys us→xs=ys
 | _,_,_,.nil,.nil=>rfl
 | _,_,_,.cons r t,.cons r' t'=>by rw[r.inj r',Vals.inj t t']
section
variable{X:Cx}{pins:List (Addr×Obj)}{σ:St}{H:Hp}{s:Shared}{a:Addr}{xs ys:List V}
theorem SqT.of{K:Ad}(h:H a=some (.tup xs)):SqT K H a xs:= .inl (.inl h)
theorem Inv.list(I:Inv X pins σ H s)(h:SqL X.K H a xs):∃its:List Value,Vals xs its∧PlainL s.heap a its.toArray∧xs.length≤sizeLine:=by
 rcases h with h | ⟨o,its,n,hk,hc,hd,hs,hz,r⟩
 ·obtain⟨z,its,n,r,e⟩:=h.ok I.hok
  exact⟨its,r,⟨_,n,e,rfl,rfl,rfl⟩,z⟩
 ·refine⟨its.toList,r,⟨o,n,I.kIn a o hk,hc,hd,by simpa using hs⟩,?_⟩
  have e:=r.length
  simp only[Dn] at e
  omega
theorem Inv.tuple(I:Inv X pins σ H s)(h:SqT X.K H a xs):∃its:List Value,Vals xs its∧IsTup s.heap a its.toArray∧xs.length≤sizeLine:=by
 rcases h with h | ⟨o,its,n,hk,hc,hs,hz,r⟩
 ·obtain⟨z,its,r,p⟩:=h.ok I.hok
  exact⟨its,r,p,z⟩
 ·refine⟨its.toList,r,⟨o,I.kIn a o hk,hc,n,by simpa using hs⟩,?_⟩
  have e:=r.length
  simp only[Dn] at e
  omega
theorem Inv.list_inj(I:Inv X pins σ H s)(h:SqL X.K H a xs)(h':SqL X.K H a ys):xs=ys:=by
 obtain⟨its,r,⟨o,n,e,_,_,d⟩,_⟩:=I.list h
 obtain⟨its',r',⟨o',n',e',_,_,d'⟩,_⟩:=I.list h'
 rw[e] at e';cases e'
 rw[d] at d'
 injection d' with d1 _
 have:its=its':=by simpa using congrArg Array.toList d1
 subst this
 exact r.inj r'
theorem Inv.tuple_inj(I:Inv X pins σ H s)(h:SqT X.K H a xs)(h':SqT X.K H a ys):xs=ys:=by
 obtain⟨its,r,⟨o,e,_,n,d⟩,_⟩:=I.tuple h
 obtain⟨its',r',⟨o',e',_,n',d'⟩,_⟩:=I.tuple h'
 rw[e] at e';cases e'
 rw[d] at d'
 injection d' with d1 _
 have:its=its':=by simpa using congrArg Array.toList d1
 subst this
 exact r.inj r'
end
abbrev Cx.wish(X:Cx)(E:Value→Shared→Prop):Cx:={X with xe:=E}
noncomputable abbrev Cx.nox(X:Cx):Cx:=X.wish fun _ _=>False
theorem Cx.Ok.wish{X:Cx}(ok:X.Ok)(E:Value→Shared→Prop):(X.wish E).Ok:=
 ⟨ok.mod,ok.kind,ok.glob,ok.blt,ok.above,ok.inj,ok.has,ok.cab,ok.hd,ok.frames,ok.stk,ok.exf,ok.bs,ok.bsz,ok.noex,ok.exfs,ok.funs,ok.frf⟩
theorem Cx.Ok.unwish{X:Cx}{E:Value→Shared→Prop}(ok:(X.wish E).Ok):X.Ok:=
 ⟨ok.mod,ok.kind,ok.glob,ok.blt,ok.above,ok.inj,ok.has,ok.cab,ok.hd,ok.frames,ok.stk,ok.exf,ok.bs,ok.bsz,ok.noex,ok.exfs,ok.funs,ok.frf⟩
section
variable{X:Cx}{pins:List (Addr×Obj)}{σ:St}{H:Hp}{s:Shared}{E:Value→Shared→Prop}
theorem Inv.wish(I:Inv X pins σ H s)(E:Value→Shared→Prop):Inv (X.wish E) pins σ H s:=⟨I.ok.wish E,I.os,I.bare,I.base,I.loc,I.cell,I.free,I.freeC,I.pin,I.hok,I.len⟩
theorem Inv.unwish(I:Inv (X.wish E) pins σ H s):Inv X pins σ H s:=⟨I.ok.unwish,I.os,I.bare,I.base,I.loc,I.cell,I.free,I.freeC,I.pin,I.hok,I.len⟩
theorem SP.unwish{D:Ends}{f:Flow}{s':Shared}(h:SP (X.wish E) pins D f s'):SP X pins D f s':=by
 cases f with
 | next=>obtain⟨σ',H',I,q⟩:=h;exact⟨σ',H',I.unwish,q⟩
 | brk=>obtain⟨σ',H',I,q⟩:=h;exact⟨σ',H',I.unwish,q⟩
 | cont=>obtain⟨σ',H',I,q⟩:=h;exact⟨σ',H',I.unwish,q⟩
 | ret u=>obtain⟨v,σ',H',I,r,q⟩:=h;exact⟨v,σ',H',I.unwish,r,q⟩
theorem PSs.nox{st:List Stmt}{t:TS}(h:PSs X.nox st t):PSs X st t:=fun pins s σ H D I hw=>
 Hl (h pins s σ H D (I.wish _) hw) (fun _ _ q=>q.unwish) fun _ _ z=>Di z
end
section
variable{X:Cx}{st:Stmt}{rest:List Stmt}{t u:TS}{e:Expr}{te:TE}{pos:Pos}
def Yo0:TS:=fun D σ H=>D.nx σ H
def tSeq(t u:TS):TS:=fun D σ H=>t {D with nx:=u D} σ H
theorem Y50:PSs X [] Yo0:=fun _ _ σ H _ I h=>wpAny_execs_nil ⟨σ,H,I,h⟩
theorem Zu3(h1:PS X st t)(h2:PSs X rest u):PSs X (st::rest) (tSeq t u):=by
 intro pins s σ H D I h
 refine wpAny_execs_cons (thn (h1 pins s σ H {D with nx:=u D} I h) fun f s1 q=>?_)
 cases f with
 | next=>
  obtain⟨σ',H',I',q⟩:=q
  exact h2 pins s1 σ' H' D I' q
 | ret v=>exact q
 | brk=>exact q
 | cont=>exact q
theorem Inv.quiet{pins:List (Addr×Obj)}{σ:St}{H:Hp}{s:Shared}(I:Inv X pins σ H s):interactive X.env=false:=by simp[interactive,I.ok.kind]
def Yp0(te:TE):TS:=fun D σ H=>te σ H fun _ H1=>D.nx σ H1
theorem Y60(he:PE X e te)(hs:swapsWith e none pos.line X.env=pure false:=by rfl):PS X (.Expr e pos) (Yp0 te):=by
 intro pins s σ H D I h
 exact wpAny_Expr_any (thn (he pins s σ H _ I h) fun v s1 zz6=>by obtain⟨x,H1,I1,r1,q1⟩:=zz6;exact⟨σ,H1,I1,q1⟩) I.quiet hs
def tRet(te:TE):TS:=fun D σ H=>te σ H D.rt
theorem Ye2(he:PE X e te):PS X (.Return (some e) pos) (tRet te):=by
 intro pins s σ H D I h
 exact wpAny_Return_some (thn (he pins s σ H _ I h) fun v s1 zz7=>by obtain⟨x,H1,I1,r1,q1⟩:=zz7;exact⟨x,σ,H1,I1,r1,q1⟩)
def tIfS(c:TT)(t u:TS):TS:=fun D σ H=>c σ H fun b H1=>if b=true then t D σ H1 else u D σ H1
theorem Ym2{c:Expr}{a b:List Stmt}{tc:TT}(hc:PT X c tc)(ha:PSs X a t)(hb:PSs X b u):PS X (.If c a b pos) (tIfS tc t u):=by
 intro pins s σ H D I h
 refine wpAny_If (thn (hc pins s σ H _ I h) fun d s1 zz8=>?_)
 obtain⟨H1,I1,q1⟩:=zz8
 cases d with
 | true=>exact ha pins s1 σ H1 D I1 q1
 | false=>exact hb pins s1 σ H1 D I1 q1
def Ya2:TS:=fun _ _ _=>False
theorem Zv2:PS X st Ya2:=fun _ _ _ _ _ _ h=>h.elim
end
abbrev TG:=V→St→Hp→(St→Hp→Prop)→Prop
abbrev TGs:=List V→St→Hp→(St→Hp→Prop)→Prop
def PG(X:Cx)(target:Expr)(t:TG):Prop:=
 ∀(pins:List (Addr×Obj)) (s:Shared) (σ:St) (H:Hp) (v:V) (u:Value) (Q:St→Hp→Prop),Inv X pins σ H s→RelV v u→t v σ H Q→
  wpAny (model X.prog X.w) X.A (assign target X.env u) (fun _ s'=>∃σ' H',Inv X pins σ' H' s'∧Q σ' H') X.xe s
def PGs(X:Cx)(ts:List Expr)(t:TGs):Prop:=
 ∀(pins:List (Addr×Obj)) (s:Shared) (σ:St) (H:Hp) (vs:List V) (us:List Value) (Q:St→Hp→Prop),Inv X pins σ H s→Vals vs us→t vs σ H Q→
  wpAny (model X.prog X.w) X.A (assignInOrder ((assignEach ts X.env).map (·.2)) us) (fun _ s'=>∃σ' H',Inv X pins σ' H' s'∧Q σ' H') X.xe s
abbrev TSet:=V→V→V→Hp→(Hp→Prop)→Prop
def PSet(X:Cx)(t:TSet):Prop:=
 ∀(pins:List (Addr×Obj)) (s:Shared) (σ:St) (H:Hp) (o i v:V) (ov iv u:Value) (Q:Hp→Prop),Inv X pins σ H s→RelV o ov→RelV i iv→RelV v u→t o i v H Q→
  wpAny (model X.prog X.w) X.A (setItem ov iv u) (fun _ s'=>∃H',Inv X pins σ H' s'∧Q H') X.xe s
abbrev TIp:=V→V→Hp→VK→Prop
def PIp(X:Cx)(op:Operator)(t:TIp):Prop:=
 ∀(pins:List (Addr×Obj)) (s:Shared) (σ:St) (H:Hp) (x y:V) (v u:Value) (Q:VK),Inv X pins σ H s→RelV x v→RelV y u→t x y H Q→
  wpAny (model X.prog X.w) X.A (inplaceOp op v u) (EP X pins σ Q) X.xe s
section
variable{X:Cx}{pos:Pos}
noncomputable def Za2(i:Nat):TG:=fun v σ H Q=>Q (σ.set i (some v)) H
theorem Zk5{i:Nat}{x:Str}(hN:X.N.Nodup)(hi:X.N[i]?=some x)(hx:Loc X.env.scope x)(hf:X.fn x=true∨X.env.scope.names.lookup x=some .local:=by first | exact .inl rfl | exact .inr rfl | assumption):PG X (.Name x pos) (Za2 i):=by
 intro pins s σ H v u Q I r h
 exact wpAny_assign_Name (Bp I hN hi hx r (fun s' I'=>⟨_,H,I',h⟩) hf)
noncomputable def gNil:TGs:=fun vs σ H Q=>vs=[]∧Q σ H
noncomputable def Ye8(t:TG)(u:TGs):TGs:=fun vs σ H Q=>∃v r,vs=v::r∧t v σ H fun σ' H'=>u r σ' H' Q
theorem Y70:PGs X [] gNil:=by
 intro pins s σ H vs us Q I r h
 obtain⟨e,h⟩:=h
 subst e
 cases r
 exact assignInOrder_nil ⟨σ,H,I,h⟩
theorem Zn4{e:Expr}{es:List Expr}{t:TG}{u:TGs}(h1:PG X e t)(h2:PGs X es u)
  (hs:(assignEach (e::es) X.env).map (·.2)=assign e X.env::(assignEach es X.env).map (·.2):=by rfl):PGs X (e::es) (Ye8 t u):=by
 intro pins s σ H vs us Q I r h
 obtain⟨v,vr,e1,h⟩:=h
 subst e1
 cases r with
 | cons r rr=>
  rw[hs]
  refine assignInOrder_cons (thn (h1 pins s σ H _ _ _ I r h) fun _ s1 zz9=>?_)
  obtain⟨σ1,H1,I1,q1⟩:=zz9
  exact h2 pins s1 σ1 H1 _ _ Q I1 rr q1
noncomputable def gTup(K:Ad)(n:Nat)(t:TGs):TG:=fun v σ H Q=>∃a xs,v= .ref a∧SqT K H a xs∧xs.length=n∧t xs σ H Q
theorem Zw4{es:List Expr}{k:Nat}{t:TGs}{n:Nat}(hc:X.calm=true)(h:PGs X es t)
  (hn:(assignEach es X.env).length=n:=by rfl) (hst:(assignEach es X.env).findIdx? (·.1)=none:=by rfl):PG X (.Tuple es k pos) (gTup X.K n t):=by
 intro pins s σ H v u Q I r hw
 obtain⟨a,xs,e1,hq,hl,hw⟩:=hw
 subst e1
 cases r
 obtain⟨its,rv,ht,hz⟩:=I.tuple hq
 refine assign_Tuple_tuple (I.ok.hd hc) ht (by simp[hn,←hl,rv.length]) hst fun h' hx=>?_
 have I1:Inv X pins σ H {s with heap:=h'}:=I.kept (t':=s.toks) fun b o e=>hx b o (Nat.ne_of_lt (Al e)) e
 exact h pins _ σ H xs _ Q I1 (by simpa using rv) hw
def tAsg(te:TE)(g:TG):TS:=fun D σ H=>te σ H fun x H1=>g x σ H1 D.nx
theorem Zg3{tg e:Expr}{te:TE}{g:TG}(he:PE X e te)(hg:PG X tg g)(hs:swapsWithSole [tg] e pos.line X.env=pure false:=by rfl)(hw:swappedStores [tg] e X.env=pure none:=by rfl)
  (h1:(assignEach [tg] X.env).map (·.2)=[assign tg X.env]:=by rfl):PS X (.Assign [tg] e pos) (tAsg te g):=by
 intro pins s σ H D I h
 refine wpAny_Assign_stores (thn (he pins s σ H _ I h) fun v s1 zz10=>?_) hs hw
 obtain⟨x,H1,I1,r1,q1⟩:=zz10
 rw[h1]
 exact thn (hg pins s1 σ H1 x v _ I1 r1 q1) fun _ s2 q=>q
def tAug(i:Nat)(te:TE)(ti:TIp):TS:=fun D σ H=>∃x,σ[i]?=some (some x)∧te σ H fun y H1=>ti x y H1 fun z H2=>D.nx (σ.set i (some z)) H2
theorem Yf9{i:Nat}{x:Str}{e:Expr}{te:TE}{op:Operator}{ti:TIp}{pos':Pos}(hN:X.N.Nodup)(hi:X.N[i]?=some x)(hx:Loc X.env.scope x)(he:PE X e te)(ho:PIp X op ti)(hf:X.fn x=true∨X.env.scope.names.lookup x=some .local:=by first | exact .inl rfl | exact .inr rfl | assumption):
  PS X (.AugAssign (.Name x pos') op e pos) (tAug i te ti):=by
 intro pins s σ H D I h
 obtain⟨v,e1,h⟩:=h
 obtain⟨m,hn,hl⟩:=I.loc
 have vis:Vis X.env.scope x:=by rcases hx with k | k;exact .inl k;exact .inr (.inl k)
 obtain⟨u,r,l⟩:=hl i x v hi e1 vis
 refine wpAny_AugAssign_Name ?_
 have go:wpAny (model X.prog X.w) X.A (eval e X.env) (fun w s₂=>wpAny (model X.prog X.w) X.A (inplaceOp op u w) (fun r s₃=>wpAny (model X.prog X.w) X.A (storeName X.env x r) (fun _=>SP X pins D .next) X.xe s₃) X.xe s₂) X.xe s:=by
  refine thn (he pins s σ H _ I h) fun w s1 zz11=>?_
  obtain⟨y,H1,I1,r1,q1⟩:=zz11
  refine thn (ho pins s1 σ H1 v y u w _ I1 r r1 q1) fun z s2 zz12=>?_
  obtain⟨zv,H2,I2,r2,q2⟩:=zz12
  exact Bp I2 hN hi hx r2 (fun s3 I3=>⟨_,H2,I3,q2⟩) hf
 rcases l with⟨hk,hm⟩ | ⟨hk,c,hc,hcell⟩
 ·exact wpAny_loadName_local I.ok.kind hk hn hm go
 ·rcases hk with hk | hk
  ·exact wpAny_loadName_cell I.ok.kind hk hc hcell go
  ·rcases hx with k | k
   ·have:X.env.scope.names.lookup x=some .free:=hk
    rw[k] at this;cases this
   ·have:X.env.scope.names.lookup x=some .free:=hk
    rw[k] at this;cases this
noncomputable def ipI(f:Int→Int→Int):TIp:=fun x y H Q=>∃i j,x= .int i∧y= .int j∧Q (.int (f i j)) H
theorem Yk3:PIp X .Add (ipI fun i j=>i+j):=by
 intro pins s σ H x y v u Q I r1 r2 h
 obtain⟨i,j,e1,e2,q⟩:=h
 subst e1;subst e2
 obtain⟨t,rfl⟩:=r1
 obtain⟨t',rfl⟩:=r2
 exact iadd_int ⟨.int _,H,I.tok _,⟨_,rfl⟩,q⟩
theorem Yh6:PIp X .Sub (ipI fun i j=>i - j):=by
 intro pins s σ H x y v u Q I r1 r2 h
 obtain⟨i,j,e1,e2,q⟩:=h
 subst e1;subst e2
 obtain⟨t,rfl⟩:=r1
 obtain⟨t',rfl⟩:=r2
 exact isub_int ⟨.int _,H,I.tok _,⟨_,rfl⟩,q⟩
end
section
variable{X:Cx}{pos:Pos}
def Zx6(c:TT)(tb:TS):TS:=fun D σ H=>∃W:Nat→St→Hp→Prop,(∃m,W m σ H)∧∀m σ H,W m σ H→
 c σ H fun b H1=>if b=true then ∃N:St→Hp→Prop,(∀σ' H',N σ' H'→∃m',m'<m∧W m' σ' H')∧tb {D with nx:=N,ct:=N,bk:=D.nx} σ H1 else D.nx σ H1
theorem Zn2{c:Expr}{body:List Stmt}{tc:TT}{tb:TS}(hp:PassesOwn (model X.prog X.w) X.A X.env X.xe)(hc:PT X c tc)(hb:PSs X body tb):PS X (.While c body [] pos) (Zx6 tc tb):=by
 intro pins s σ H D I h
 obtain⟨W,⟨m0,w0⟩,turn⟩:=h
 refine wpAny_While (codeAny_whileLoop (fun n s'=>∃σ' H',Inv X pins σ' H' s'∧W n σ' H') ?_ m0 ⟨σ,H,I,w0⟩)
 rintro n s1 ⟨σ1,H1,I1,w1⟩
 refine Kn hp (thn (hc pins s1 σ1 H1 _ I1 (turn n σ1 H1 w1)) fun b s2 zz13=>?_)
 obtain⟨H2,I2,q2⟩:=zz13
 cases b with
 | true=>
  obtain⟨N,hN,q2⟩:=q2
  rw[if_pos rfl]
  refine Kn hp (thn (hb pins s2 σ1 H2 _ I2 q2) fun f s3 q3=>?_)
  cases f with
  | next=>
   obtain⟨σ3,H3,I3,n3⟩:=q3
   obtain⟨m',hm,w3⟩:=hN σ3 H3 n3
   exact⟨m',hm,σ3,H3,I3,w3⟩
  | cont=>
   obtain⟨σ3,H3,I3,n3⟩:=q3
   obtain⟨m',hm,w3⟩:=hN σ3 H3 n3
   exact⟨m',hm,σ3,H3,I3,w3⟩
  | brk=>exact q3
  | ret v=>exact q3
 | false=>
  rw[if_neg Bf9]
  exact wpAny_execs_nil ⟨σ1,H2,I2,q2⟩
end
structure It where
 go:Nat→Hp→Prop
 yld:Nat→Hp→V→Hp→Prop
 stop:Nat→Hp→Prop
def FpOk(X:Cx)(pins:List (Addr×Obj))(H:Hp)(b:Addr):Prop:=
 H b=none∧b≠X.env.locals∧b∉X.fs∧(b∈X.ex∨X.s₀.heap.objs.size≤b)∧(∀x c,X.env.cells.lookup x=some c→c≠b)∧∀p∈X.pn++pins,p.1≠b
theorem Inv.fpOk{X:Cx}{pins:List (Addr×Obj)}{σ:St}{H H':Hp}{s:Shared}{b:Addr}(I:Inv X pins σ H s)(hb:s.heap.objs.size≤b)(hn:H' b=none):FpOk X pins H' b:=by
 refine⟨hn,Nat.ne_of_gt (Nat.lt_of_lt_of_le I.lt hb),I.nofs hb,.inr (Nat.le_trans I.sz hb),fun x c e z=>?_,fun p hp z=>?_⟩
 ·obtain⟨v,q⟩:=I.cell x c e
  exact absurd (Nat.lt_of_lt_of_le q.lt (by rw[z];exact hb)) (Nat.lt_irrefl _)
 ·exact absurd (Nat.lt_of_lt_of_le (Al (I.pin p hp).1) (by rw[z];exact hb)) (Nat.lt_irrefl _)
structure Turn(P:Program)(w:World)(K:Ad)(tg:Expr)(J:It)(fp:List Addr)(it:Addr)(tn:Nat→Heap→Prop):Prop where
 mem:it∈fp
 obj:∀i h,tn i h→∀b∈fp,∃o,h.get? b=some o∧∀v,o.data≠ .cell v
 keep:∀i h h',tn i h→(∀b∈fp,∀o,h.get? b=some o→h'.get? b=some o)→tn i h'
 item:∀(X:Cx),X.prog=P→X.w=w→X.K=K→X.calm=true→∀(i:Nat) (pins:List (Addr×Obj)) (s:Shared) (σ:St) (H:Hp) (E:Value→Shared→Prop),Inv X pins σ H s→(∀b∈fp,FpOk X pins H b)→tn i s.heap→J.go i H→
  wpAny (model P w) X.A (pyNext (.ref it)) (fun r s1=>∃u,r=some u∧
   wpAny (model P w) X.A (letOwnedTupleGo tg (.ref it) u) (fun _ s2=>∃x H',Inv X pins σ H' s2∧RelV x u∧J.yld i H x H'∧tn (i+1) s2.heap∧∀b∈fp,H' b=none) E s1) E s
 done:∀(X:Cx),X.prog=P→X.w=w→X.K=K→X.calm=true→∀(i:Nat) (pins:List (Addr×Obj)) (s:Shared) (σ:St) (H:Hp) (E:Value→Shared→Prop),Inv X pins σ H s→(∀b∈fp,FpOk X pins H b)→tn i s.heap→J.stop i H→
  wpAny (model P w) X.A (pyNext (.ref it)) (fun r s1=>r=none∧Inv X pins σ H s1) E s
 self:∀(A:Around) (i:Nat) (s:Shared) (Q:Value→Shared→Prop) (E:Value→Shared→Prop),tn i s.heap→Q (.ref it) s→wpAny (model P w) A (pyIter (.ref it)) Q E s
abbrev TI:=St→Hp→(It→Hp→Prop)→Prop
def PIE(X:Cx)(pins:List (Addr×Obj))(σ:St)(tg:Expr)(R:It→Hp→Prop)(itv:Value)(s2:Shared):Prop:=
 ∃(it:Addr) (fp:List Addr) (tn:Nat→Heap→Prop) (J:It) (H':Hp),itv= .ref it∧Inv X pins σ H' s2∧Turn X.prog X.w X.K tg J fp it tn∧tn 0 s2.heap∧(∀b∈fp,FpOk X pins H' b)∧R J H'
def PI(X:Cx)(tg iter:Expr)(wi:TI):Prop:=
 ∀(pins:List (Addr×Obj)) (s:Shared) (σ:St) (H:Hp) (R:It→Hp→Prop),Inv X pins σ H s→wi σ H R→
  wpAny (model X.prog X.w) X.A (eval iter X.env) (fun v s1=>wpAny (model X.prog X.w) X.A (pyIter v) (PIE X pins σ tg R) X.xe s1) X.xe s
theorem Zp0{M:Model}{A:Around}{E:Value→Shared→Prop}{s:Shared}{tg:Expr}{it:Addr}{u:Value}{o:Obj}{n:String}{vs:Array Value}{Q:Unit→Shared→Prop}(ho:s.heap.get? it=some o)(hc:o.cls= .type n)(hd:o.data= .fields vs)
  (hn:["enumerate","zip","dict_itemiterator","dict_reverseitemiterator","odict_iterator","itertools.zip_longest","itertools.pairwise"].contains n=false) (hQ:Q () s):wpAny M A (letOwnedTupleGo tg (.ref it) u) Q E s:=by
 unfold letOwnedTupleGo
 cases tg<;>first
  | exact Ai hQ
  |(cases u<;>first
    | exact Ai hQ
    |(refine Aa (wpAny_load ho ?_)
      rw[hc,hd]
      show wpAny M A (if (["enumerate","zip","dict_itemiterator","dict_reverseitemiterator","odict_iterator","itertools.zip_longest","itertools.pairwise"].contains n&&vs[0]?==some (rawInt _))=true then _ else _) Q E s
      rw[if_neg (by intro h;rw[hn,Bool.false_and] at h;cases h)]
      exact Ai hQ))
noncomputable def Itl(K:Ad)(a:Addr):It:=
 ⟨fun i H=>∃xs x,SqL K H a xs∧xs[i]?=some x,fun i H x H'=>H'=H∧∀xs,SqL K H a xs→xs[i]?=some x,fun i H=>∃xs,SqL K H a xs∧xs.length≤i⟩
noncomputable def Itt(K:Ad)(a:Addr):It:=
 ⟨fun i H=>∃xs x,SqT K H a xs∧xs[i]?=some x,fun i H x H'=>H'=H∧∀xs,SqT K H a xs→xs[i]?=some x,fun i H=>∃xs,SqT K H a xs∧xs.length≤i⟩
noncomputable def Itr(lo:Int)(n:Nat):It:=⟨fun i _=>i<n,fun i H x H'=>H'=H∧x= .int (lo+i),fun i _=>n≤i⟩
theorem Za8{P:Program}{w:World}{K:Ad}{tg:Expr}(a it:Addr):Turn P w K tg (Itl K a) [it] it (fun i h=>h.IsListIter it a i) where
 mem:=by simp
 obj:=fun i h st b hb=>by
  have e:b=it:=by simpa using hb
  subst e
  obtain⟨o,e,c,d⟩:=st
  exact⟨o,e,fun v z=>by rw[d] at z;cases z⟩
 keep:=fun i h h' st k=>st.at fun o e=>k it (by simp) o e
 item:=by
  intro X hP hw hK hc i pins s σ H E I hf st hg
  subst hP hw hK
  obtain⟨xs,x,hq,hx⟩:=hg
  obtain⟨its,rv,p,hz⟩:=I.list hq
  obtain⟨u,hu,ru⟩:=rv.get hx
  obtain⟨f0,f1,f2,f3,f4,f5⟩:=hf it (by simp)
  refine wpAny_pyNext_list_item st p.isList (x:=u) (by simpa using hu) fun h' st' sb=>?_
  have I1:Inv X pins σ H {s with heap:=h'}:=I.turned (t':=s.toks) (fun b o hb e=>(sb.2 b hb).trans e) f0 f1 f3 f4 f5
  obtain⟨o,e,c,d⟩:=id st'
  exact⟨u,rfl,Zp0 (s:={s with heap:=h'}) e c d (by decide) ⟨x,H,I1,ru,⟨rfl,fun ys hy=>by rw[I.list_inj hy hq];exact hx⟩,st',fun b hb=>(hf b hb).1⟩⟩
 done:=by
  intro X hP hw hK hc i pins s σ H E I hf st hg
  subst hP hw hK
  obtain⟨xs,hq,hx⟩:=hg
  obtain⟨its,rv,p,hz⟩:=I.list hq
  obtain⟨f0,f1,f2,f3,f4,f5⟩:=hf it (by simp)
  have hl:=rv.length
  exact wpAny_pyNext_list_end (I.ok.hd hc) st p.isList (by simp;omega) fun h' eb=>⟨rfl,I.turned (t':=s.toks) (fun b o hb e=>eb b o hb e) f0 f1 f3 f4 f5⟩
 self:=fun _ _ _ _ _ st h=>wpAny_pyIter_listiter st h
theorem Z49{P:Program}{w:World}{K:Ad}{tg:Expr}(a it:Addr):Turn P w K tg (Itt K a) [it] it (fun i h=>h.IsTupleIter it a i) where
 mem:=by simp
 obj:=fun i h st b hb=>by
  have e:b=it:=by simpa using hb
  subst e
  obtain⟨o,e,c,d⟩:=st
  exact⟨o,e,fun v z=>by rw[d] at z;cases z⟩
 keep:=fun i h h' st k=>st.at fun o e=>k it (by simp) o e
 item:=by
  intro X hP hw hK hc i pins s σ H E I hf st hg
  subst hP hw hK
  obtain⟨xs,x,hq,hx⟩:=hg
  obtain⟨its,rv,p,hz⟩:=I.tuple hq
  obtain⟨u,hu,ru⟩:=rv.get hx
  obtain⟨f0,f1,f2,f3,f4,f5⟩:=hf it (by simp)
  refine wpAny_pyNext_tuple_item st (show s.heap.IsTuple a its.toArray from p) (x:=u) (by simpa using hu) fun h' st' sb=>?_
  have I1:Inv X pins σ H {s with heap:=h'}:=I.turned (t':=s.toks) (fun b o hb e=>(sb.2 b hb).trans e) f0 f1 f3 f4 f5
  obtain⟨o,e,c,d⟩:=id st'
  exact⟨u,rfl,Zp0 (s:={s with heap:=h'}) e c d (by decide) ⟨x,H,I1,ru,⟨rfl,fun ys hy=>by rw[I.tuple_inj hy hq];exact hx⟩,st',fun b hb=>(hf b hb).1⟩⟩
 done:=by
  intro X hP hw hK hc i pins s σ H E I hf st hg
  subst hP hw hK
  obtain⟨xs,hq,hx⟩:=hg
  obtain⟨its,rv,p,hz⟩:=I.tuple hq
  obtain⟨f0,f1,f2,f3,f4,f5⟩:=hf it (by simp)
  have hl:=rv.length
  exact wpAny_pyNext_tuple_end (I.ok.hd hc) st (show s.heap.IsTuple a its.toArray from p) (by simp;omega) fun h' eb=>⟨rfl,I.turned (t':=s.toks) (fun b o hb e=>eb b o hb e) f0 f1 f3 f4 f5⟩
 self:=fun _ _ _ _ _ st h=>wpAny_pyIter_tupleiter st h
theorem Z71{P:Program}{w:World}{K:Ad}{tg:Expr}(it:Addr)(lo:Int)(n:Nat):Turn P w K tg (Itr lo n) [it] it (fun i h=>IsRangeIter h it (lo+(i:Nat) * 1) ((n:Int) - (i:Nat)) 1) where
 mem:=by simp
 obj:=fun i h st b hb=>by
  have e:b=it:=by simpa using hb
  subst e
  exact⟨_,st,fun v z=>by
   have z':Data.fields _=Data.cell v:=z
   cases z'⟩
 keep:=fun i h h' st k=>k it (by simp) _ st
 item:=by
  intro X hP hw hK hc i pins s σ H E I hf st hg
  subst hP hw hK
  obtain⟨f0,f1,f2,f3,f4,f5⟩:=hf it (by simp)
  have W:=Walks.range (prog:=X.prog) (w:=X.w) (I.ok.hd hc) it lo 1 n
  refine W.item i s _ _ hg st fun v h' tk hv st' kk=>?_
  obtain⟨t,rfl⟩:=hv
  have I1:Inv X pins σ H {s with heap:=h',toks:=tk}:=I.turned (fun b o hb e=>kk b o (by simpa using hb) e) f0 f1 f3 f4 f5
  refine⟨_,rfl,Zp0 (s:={s with heap:=h',toks:=tk}) (n:="range_iterator") st' rfl rfl (by decide) ⟨.int (lo+i),H,I1,⟨t,?_⟩,⟨rfl,rfl⟩,st',fun b hb=>(hf b hb).1⟩⟩
  rw[Int.mul_one]
 done:=by
  intro X hP hw hK hc i pins s σ H E I hf st hg
  subst hP hw hK
  obtain⟨f0,f1,f2,f3,f4,f5⟩:=hf it (by simp)
  exact wpAny_pyNext_range_end (I.ok.hd hc) st (by have:n≤i:=hg;omega) fun h' eb=>⟨rfl,I.turned (t':=s.toks) (fun b o hb e=>eb b o hb e) f0 f1 f3 f4 f5⟩
 self:=fun _ _ _ _ _ st h=>wpAny_pyIter_rangeiter st h
section
variable{X:Cx}{tg:Expr}
theorem Zt1{pins:List (Addr×Obj)}{σ:St}{H:Hp}{s:Shared}{R:It→Hp→Prop}{E:Value→Shared→Prop}{lo hi:Int}{t u v:Tok}{tk:Nat}(I:Inv X pins σ H s)(h1:-(2 ^ 62)≤lo)(h2:lo<2 ^ 62)(h3:-(2 ^ 62)≤hi)(h4:hi<2 ^ 62)
  (q:R (Itr lo (hi - lo).toNat) H):wpAny (model X.prog X.w) X.A (pyIter (.ref s.heap.objs.size)) (PIE X pins σ tg R) E {s with heap:=s.heap.push {cls:= .type "range",data:= .fields #[.int lo t,.int hi u,.int 1 v]},toks:=tk}:=by
 refine wpAny_pyIter_range (IsRange.new ..) (small_one h1 h2 h3 h4) ?_
 have I1:Inv X pins σ H {s with heap:=s.heap.push {cls:= .type "range",data:= .fields #[.int lo t,.int hi u,.int 1 v]},toks:=tk}:=I.kept fun b o e=>Ak _ e
 refine⟨(s.heap.push {cls:= .type "range",data:= .fields #[.int lo t,.int hi u,.int 1 v]}).objs.size,[(s.heap.push {cls:= .type "range",data:= .fields #[.int lo t,.int hi u,.int 1 v]}).objs.size],_,_,H,rfl,
  I1.kept (t':=tk) fun b o e=>Ak _ e,Z71 _ lo (hi - lo).toNat,?_,fun b hb=>?_,q⟩
 ·have e1:lo+((0:Nat):Int) * 1=lo:=by simp
  have e2:(((hi - lo).toNat:Nat):Int) - ((0:Nat):Int)=Builtin.Range.rangeSize lo hi 1:=by rw[rangeSize_one];split<;>omega
  show IsRangeIter _ _ (lo+((0:Nat):Int) * 1) ((((hi - lo).toNat:Nat):Int) - ((0:Nat):Int)) 1
  rw[e1,e2]
  exact Aw _ rfl
 ·have e:b=(s.heap.push {cls:= .type "range",data:= .fields #[.int lo t,.int hi u,.int 1 v]}).objs.size:=by simpa using hb
  subst e
  exact I1.fpOk (Nat.le_refl _) (I1.hok.fresh (Nat.le_refl _))
def Ym4(ta:TA):TI:=fun σ H R=>ta σ H fun vs H1=>∃j:Int,vs=[.int j]∧ -(2 ^ 62)≤j∧j<2 ^ 62∧R (Itr 0 j.toNat) H1
theorem Zh0{a:Expr}{ta:TA}{p pos:Pos}(hg:Gl X "range")(hm:X.mg "range"=none)(ha:PA X [a] ta)(hs:starEach [a] X.env=[(false,eval a X.env)]:=by rfl):PI X tg (.Call (.Name "range" p) [a] [] pos) (Ym4 ta):=by
 intro pins s σ H R I h
 refine Call_ (E1 I hg hm boot_range (PyProof.Rows.callWith_type1 (thn (ha pos pins s σ H _ I h) fun us s1 zz14=>?_) hs rfl))
 obtain⟨vs,H1,I1,r1,q1⟩:=zz14
 obtain⟨j,e,q1,q2,q⟩:=q1
 subst e
 cases r1 with
 | cons r rr=>
  cases rr
  obtain⟨t,rfl⟩:=r
  exact call_range_1 (Zt1 I1 (by omega) (by omega) q1 q2 (by simpa using q))
def tFor(wi:TI)(g:TG)(tb:TS):TS:=fun D σ H=>wi σ H fun J H1=>∃W:Nat→Nat→St→Hp→Prop,(∃m,W 0 m σ H1)∧∀i m σ H,W i m σ H→
 (J.stop i H∧D.nx σ H)∨(J.go i H∧∃N:St→Hp→Prop,(∀σ' H',N σ' H'→∃m',m'<m∧W (i+1) m' σ' H')∧∀x H',J.yld i H x H'→g x σ H' fun σ2 H2=>tb {D with nx:=N,ct:=N,bk:=D.nx} σ2 H2)
noncomputable def Z04(fp:List Addr)(h:Heap):List (Addr×Obj):=fp.filterMap fun b=>(h.get? b).map fun o=>(b,o)
theorem Y9{fp:List Addr}{h:Heap}{b:Addr}{o:Obj}(hb:b∈fp)(e:h.get? b=some o):(b,o)∈Z04 fp h:=List.mem_filterMap.mpr ⟨b,hb,by rw[e];rfl⟩
theorem Zj4{fp:List Addr}{h:Heap}{p:Addr×Obj}(hp:p∈Z04 fp h):p.1∈fp∧h.get? p.1=some p.2:=by
 obtain⟨b,hb,e⟩:=List.mem_filterMap.mp hp
 cases q:h.get? b with
 | none=>rw[q] at e;cases e
 | some o=>
  rw[q] at e
  have e':(b,o)=p:=Dd e
  subst e'
  exact⟨hb,q⟩
theorem Inv.pinned{pins:List (Addr×Obj)}{σ:St}{H:Hp}{s:Shared}{fp:List Addr}(I:Inv X pins σ H s)(hf:∀b∈fp,FpOk X pins H b)(ho:∀b∈fp,∃o,s.heap.get? b=some o∧∀v,o.data≠ .cell v):Inv X (pins++Z04 fp s.heap) σ H s:=
 I.pins_of fun p hp=>(Bk.mp hp).elim (fun z=>I.pin p (Ax _ z)) fun z=>by
  obtain⟨hb,e⟩:=Zj4 z
  obtain⟨f0,f1,f2,_⟩:=hf p.1 hb
  obtain⟨o,e',d⟩:=ho p.1 hb
  rw[e] at e';cases e'
  exact⟨e,f0,f1,f2,d⟩
theorem Inv.unpinned{pins pl:List (Addr×Obj)}{σ:St}{H:Hp}{s:Shared}(I:Inv X (pins++pl) σ H s):Inv X pins σ H s:=I.pins_of fun p hp=>I.pin p (Ax _ (Hw _ hp))
theorem Yd3{iter:Expr}{body:List Stmt}{wi:TI}{g:TG}{tb:TS}{pos:Pos}(hp:PassesOwn (model X.prog X.w) X.A X.env X.xe)(hc:X.calm=true)(hi:PI X tg iter wi)(hg:PG X tg g)(hb:PSs X body tb)
  (hs:∀x,foldedSetIterable iter X.env x=pure x:=by intro _;rfl):PS X (.For tg iter body [] pos) (tFor wi g tb):=by
 intro pins s σ H D I h
 refine wpAny_For (thn (hi pins s σ H _ I h) fun v s1 h1=>thn h1 fun itv s2 h2=>?_) hs
 obtain⟨it,fp,tn,J,H2,e,I2,T,st2,f2,W,⟨m0,w0⟩,turn⟩:=h2
 subst e
 have stat:∀{H':Hp},(∀b∈fp,H' b=none)→∀b∈fp,FpOk X pins H' b:=fun hn b hb=>⟨hn b hb,(f2 b hb).2⟩
 refine codeAny_forLoop_any (fun n s'=>∃i σ' H',Inv X pins σ' H' s'∧tn i s'.heap∧(∀b∈fp,H' b=none)∧W i n σ' H') ?_ m0 ⟨0,σ,H2,I2,st2,fun b hb=>(f2 b hb).1,w0⟩
 rintro n s3 ⟨i,σ3,H3,I3,st3,fr3,w3⟩
 rcases turn i n σ3 H3 w3 with⟨stop,qn⟩ | ⟨go,N,hN,step⟩
 ·refine Kn hp (thn (T.done X rfl rfl rfl hc i pins s3 σ3 H3 X.xe I3 (stat fr3) st3 stop) fun r s4 zz15=>?_)
  obtain⟨hr,I4⟩:=zz15
  subst hr
  exact wpAny_execs_nil ⟨σ3,H3,I4,qn⟩
 ·refine Kn hp (thn (T.item X rfl rfl rfl hc i pins s3 σ3 H3 X.xe I3 (stat fr3) st3 go) fun r s4 zz16=>?_)
  obtain⟨u,hr,h4⟩:=zz16
  subst hr
  refine Kn hp (thn h4 fun _ s5 zz17=>?_)
  obtain⟨x,H5,I5,r5,y5,st5,fr5⟩:=zz17
  have I5':=I5.pinned (stat fr5) (T.obj _ _ st5)
  refine Kn hp (thn (hg _ s5 σ3 H5 x u _ I5' r5 (step x H5 y5)) fun _ s6 zz18=>?_)
  obtain⟨σ6,H6,I6,q6⟩:=zz18
  refine Kn hp (thn (hb _ s6 σ6 H6 _ I6 q6) fun f s7 q7=>?_)
  have again:∀{σ7:St} {H7:Hp},Inv X (pins++Z04 fp s5.heap) σ7 H7 s7→N σ7 H7→∃m,m<n∧∃i σ' H',Inv X pins σ' H' s7∧tn i s7.heap∧(∀b∈fp,H' b=none)∧W i m σ' H':=fun{σ7 H7} I7 n7=>by
   obtain⟨m',hm,w7⟩:=hN σ7 H7 n7
   refine⟨m',hm,i+1,σ7,H7,I7.unpinned,T.keep _ _ _ st5 fun b hb o e=>(I7.pin (b,o) (Ax _ (Ax _ (Y9 hb e)))).1,fun b hb=>?_,w7⟩
   obtain⟨o,e,d⟩:=T.obj _ _ st5 b hb
   exact(I7.pin (b,o) (Ax _ (Ax _ (Y9 hb e)))).2.1
  cases f with
  | next=>obtain⟨σ7,H7,I7,n7⟩:=q7;exact again I7 n7
  | cont=>obtain⟨σ7,H7,I7,n7⟩:=q7;exact again I7 n7
  | brk=>obtain⟨σ7,H7,I7,q7⟩:=q7;exact⟨σ7,H7,I7.unpinned,q7⟩
  | ret v=>obtain⟨x7,σ7,H7,I7,r7,q7⟩:=q7;exact⟨x7,σ7,H7,I7.unpinned,r7,q7⟩
end
theorem Jv{c:TT}{tb:TS}{D:Ends}{σ:St}{H:Hp}(Pv:St→Hp→Prop)(μ:St→Hp→Nat)(h0:Pv σ H)
  (hs:∀σ H,Pv σ H→c σ H fun b H1=>if b=true then tb {D with nx:=fun σ' H'=>Pv σ' H'∧μ σ' H'<μ σ H,ct:=fun σ' H'=>Pv σ' H'∧μ σ' H'<μ σ H,bk:=D.nx} σ H1 else D.nx σ H1)
  (mono:∀σ H Q Q',(∀b H1,Q b H1→Q' b H1)→c σ H Q→c σ H Q'):Zx6 c tb D σ H:=by
 refine⟨fun m σ H=>m=μ σ H∧Pv σ H,⟨_,rfl,h0⟩,?_⟩
 rintro m σ H ⟨rfl,p⟩
 refine mono σ H _ _ (fun b H1 q=>?_) (hs σ H p)
 cases b with
 | true=>exact⟨_,fun σ' H' zz19=>by obtain⟨p',l⟩:=zz19;exact⟨_,l,rfl,p'⟩,q⟩
 | false=>exact q
abbrev R2:=V→V→Hp→VK→Prop
def OpR(X:Cx)(f:Value→Value→Sem Value)(r:R2):Prop:=
 ∀(pins:List (Addr×Obj)) (s:Shared) (σ:St) (H:Hp) (x y:V) (v u:Value) (Q:VK),Inv X pins σ H s→RelV x v→RelV y u→r x y H Q→
  wpAny (model X.prog X.w) X.A (f v u) (EP X pins σ Q) X.xe s
def UnR(X:Cx)(f:Value→Sem Value)(r:V→Hp→VK→Prop):Prop:=
 ∀(pins:List (Addr×Obj)) (s:Shared) (σ:St) (H:Hp) (x:V) (v:Value) (Q:VK),Inv X pins σ H s→RelV x v→r x H Q→
  wpAny (model X.prog X.w) X.A (f v) (EP X pins σ Q) X.xe s
def X1(X:Cx)(f:Value)(r:List V→Hp→VK→Prop):Prop:=
 ∀(pins:List (Addr×Obj)) (s:Shared) (σ:St) (H:Hp) (xs:List V) (us:List Value) (Q:VK),Inv X pins σ H s→Vals xs us→r xs H Q→
  wpAny (model X.prog X.w) X.A (call f us) (EP X pins σ Q) X.xe s
def TruR(X:Cx)(r:V→Hp→(Bool→Hp→Prop)→Prop):Prop:=
 ∀(pins:List (Addr×Obj)) (s:Shared) (σ:St) (H:Hp) (x:V) (v:Value) (Q:Bool→Hp→Prop),Inv X pins σ H s→RelV x v→r x H Q→
  wpAny (model X.prog X.w) X.A (truthy v) (TP X pins σ Q) X.xe s
def tOp(r:R2)(ta tb:TE):TE:=fun σ H Q=>ta σ H fun x H1=>tb σ H1 fun y H2=>r x y H2 Q
def tUn(r:V→Hp→VK→Prop)(ta:TE):TE:=fun σ H Q=>ta σ H fun x H1=>r x H1 Q
def rI(C:Int→Int→Prop)(g:Int→Int→V):R2:=fun x y H Q=>∃i j,x= .int i∧y= .int j∧C i j∧Q (g i j) H
def rI0(g:Int→Int→V):R2:=fun x y H Q=>∃i j,x= .int i∧y= .int j∧Q (g i j) H
def rU(g:Int→V):V→Hp→VK→Prop:=fun x H Q=>∃i,x= .int i∧Q (g i) H
section
variable{X:Cx}{a b c:Expr}{ta tb tc:TE}{pos:Pos}
theorem binT(ha:PE X a ta)(hb:PE X b tb){pins:List (Addr×Obj)}{s:Shared}{σ:St}{H:Hp}{R:V→V→Hp→Prop}(I:Inv X pins σ H s)
  (h:ta σ H fun x H1=>tb σ H1 fun y H2=>R x y H2) {Q:Value→Shared→Prop} {f:Value→Value→Sem Value}
  (hf:∀v u s2 x y H2,Inv X pins σ H2 s2→RelV x v→RelV y u→R x y H2→wpAny (model X.prog X.w) X.A (f v u) Q X.xe s2):
  wpAny (model X.prog X.w) X.A (eval a X.env) (fun v s₁=>wpAny (model X.prog X.w) X.A (eval b X.env) (fun u s₂=>wpAny (model X.prog X.w) X.A (f v u) Q X.xe s₂) X.xe s₁) X.xe s:=by
 refine thn (ha pins s σ H _ I h) fun v s1 zz20=>?_
 obtain⟨x,H1,I1,r1,q1⟩:=zz20
 refine thn (hb pins s1 σ H1 _ I1 q1) fun u s2 zz21=>?_
 obtain⟨y,H2,I2,r2,q2⟩:=zz21
 exact hf v u s2 x y H2 I2 r1 r2 q2
theorem Yn7{op:Operator}{r:R2}(ho:OpR X (binaryOp op) r)(ha:PE X a ta)(hb:PE X b tb):PE X (.BinOp a op b pos) (tOp r ta tb):=by
 intro pins s σ H Q I h
 exact wpAny_BinOp (binT ha hb I h fun v u s2 x y H2 I2 rx ry q=>ho pins s2 σ H2 x y v u Q I2 rx ry q)
theorem Yn2{op:UnaryOp}{r:V→Hp→VK→Prop}(ho:UnR X (unaryOp op) r)(ha:PE X a ta):PE X (.UnaryOp op a pos) (tUn r ta):=by
 intro pins s σ H Q I h
 exact UnaryOp_ (thn (ha pins s σ H _ I h) fun v s1 zz22=>by obtain⟨x,H1,I1,r1,q1⟩:=zz22;exact ho pins s1 σ H1 x v Q I1 r1 q1)
theorem opI{f:Value→Value→Sem Value}{C:Int→Int→Prop}{g:Int→Int→Int}
  (rule:∀(i j:Int) (t u:Tok) (s:Shared) (Q:Value→Shared→Prop) (E:Value→Shared→Prop),C i j→Q (.int (g i j) s.toks) {s with toks:=s.toks+1}→wpAny (model X.prog X.w) X.A (f (.int i t) (.int j u)) Q E s):
  OpR X f (rI C fun i j=> .int (g i j)):=by
 intro pins s σ H x y v u Q I rx ry h
 obtain⟨i,j,rfl,rfl,hc,q⟩:=h
 obtain⟨t,rfl⟩:=rx
 obtain⟨t',rfl⟩:=ry
 exact rule i j t t' s _ _ hc ⟨.int (g i j),H,I.tok _,⟨_,rfl⟩,q⟩
theorem opI0{f:Value→Value→Sem Value}{g:Int→Int→Int}
  (rule:∀(i j:Int) (t u:Tok) (s:Shared) (Q:Value→Shared→Prop) (E:Value→Shared→Prop),Q (.int (g i j) s.toks) {s with toks:=s.toks+1}→wpAny (model X.prog X.w) X.A (f (.int i t) (.int j u)) Q E s):
  OpR X f (rI0 fun i j=> .int (g i j)):=by
 intro pins s σ H x y v u Q I rx ry h
 obtain⟨i,j,rfl,rfl,q⟩:=h
 obtain⟨t,rfl⟩:=rx
 obtain⟨t',rfl⟩:=ry
 exact rule i j t t' s _ _ ⟨.int (g i j),H,I.tok _,⟨_,rfl⟩,q⟩
theorem opB0{f:Value→Value→Sem Value}{g:Int→Int→Bool}
  (rule:∀(i j:Int) (t u:Tok) (s:Shared) (Q:Value→Shared→Prop) (E:Value→Shared→Prop),Q (.bool (g i j)) s→wpAny (model X.prog X.w) X.A (f (.int i t) (.int j u)) Q E s):
  OpR X f (rI0 fun i j=> .bl (g i j)):=by
 intro pins s σ H x y v u Q I rx ry h
 obtain⟨i,j,rfl,rfl,q⟩:=h
 obtain⟨t,rfl⟩:=rx
 obtain⟨t',rfl⟩:=ry
 exact rule i j t t' s _ _ ⟨.bl (g i j),H,I,rfl,q⟩
def CPow(i j:Int):Prop:=0≤j∧j≤1000000∧i.natAbs<2 ^ 64
def CMul(i j:Int):Prop:=(-(2 ^ 64)<i∧i<2 ^ 64)∨(-(2 ^ 64)<j∧j<2 ^ 64)
theorem CMul.ok{i j:Int}(h:CMul i j):IntMulOk i j:=by
 rcases h with⟨h1,h2⟩ | ⟨h1,h2⟩
 ·exact .of_left (intBits_le_64 h1 h2)
 ·exact .of_right (intBits_le_64 h1 h2)
theorem Yd6:OpR X (binaryOp .Add) (rI0 fun i j=> .int (i+j)):=opI0 fun _ _ _ _ _ _ _ q=>add_int q
theorem Yh1:OpR X (binaryOp .Sub) (rI0 fun i j=> .int (i - j)):=opI0 fun _ _ _ _ _ _ _ q=>sub_int q
theorem Zz7:OpR X (binaryOp .Mod) (rI (fun _ j=>j≠0) fun i j=> .int (i.fmod j)):=opI fun _ _ _ _ _ _ _ hc q=>mod_int' hc q
theorem Yc7:OpR X (binaryOp .Pow) (rI CPow fun i j=> .int (i ^ j.toNat)):=opI fun _ _ _ _ _ _ _ hc q=>pow_int_small hc.1 hc.2.1 hc.2.2 q
theorem unI{f:Value→Sem Value}{g:Int→Int}
  (rule:∀(i:Int) (t:Tok) (s:Shared) (Q:Value→Shared→Prop) (E:Value→Shared→Prop),Q (.int (g i) s.toks) {s with toks:=s.toks+1}→wpAny (model X.prog X.w) X.A (f (.int i t)) Q E s):
  UnR X f (rU fun i=> .int (g i)):=by
 intro pins s σ H x v Q I rx h
 obtain⟨i,rfl,q⟩:=h
 obtain⟨t,rfl⟩:=rx
 exact rule i t s _ _ ⟨.int (g i),H,I.tok _,⟨_,rfl⟩,q⟩
theorem Yd5:UnR X (unaryOp .USub) (rU fun i=> .int (-i)):=unI fun _ _ _ _ _ q=>neg_int q
end
noncomputable def scal:V→V→Bool
 | .non,.non=>true | .non,.int _=>true | .int _,.non=>true | .non,.bl _=>true | .bl _,.non=>true | .non,.str _=>true | .str _,.non=>true
 | .int _,.int _=>true | .bl _,.bl _=>true | .str _,.str _=>true | .byt _,.byt _=>true
 | .int _,.str _=>true | .str _,.int _=>true | .bl _,.str _=>true | .str _,.bl _=>true
 | _,_=>false
def rEq:R2:=fun x y H Q=>scal x y=true∧Q (.bl (decide (x=y))) H
def rNe:R2:=fun x y H Q=>scal x y=true∧Q (.bl (!decide (x=y))) H
theorem Zi2{i j:Int}:decide (V.int i=V.int j)=(i==j):=by
 rw[Bool.eq_iff_iff]
 simp
theorem Zx0{i j:Bool}:decide (V.bl i=V.bl j)=(i==j):=by
 rw[Bool.eq_iff_iff]
 simp
theorem Zf0{i j:Str}:decide (V.str i=V.str j)=(i==j):=by
 rw[Bool.eq_iff_iff]
 simp
theorem Zl3{i j:Array UInt8}:decide (V.byt i=V.byt j)=(i.toList==j.toList):=by
 rw[Bool.eq_iff_iff]
 cases i
 cases j
 simp
section
variable{X:Cx}{a b c:Expr}{ta tb tc:TE}{pos:Pos}
theorem Zm{pins:List (Addr×Obj)}{σ:St}{H:Hp}{s:Shared}{Q:VK}{k k':Bool}(I:Inv X pins σ H s)(q:Q (.bl k) H)(e:k=k'):EP X pins σ Q (.bool k') s:=by
 subst e
 exact⟨.bl k,H,I,rfl,q⟩
theorem Yk5:OpR X (compareOp .Eq) rEq:=by
 intro pins s σ H x y v u Q I rx ry h
 obtain⟨hs,q⟩:=h
 cases x with
 | non=>
  cases rx
  cases y with
  | non=>cases ry;exact PySem.EqNone.eq_none_none (Zm I q (by simp))
  | bl j=>cases ry;exact PySem.EqNone.eq_none_bool (Zm I q (by simp))
  | int j=>obtain⟨t',rfl⟩:=ry;exact PySem.EqNone.eq_none_int (Zm I q (by simp))
  | str j=>obtain⟨t',rfl⟩:=ry;exact PySem.EqNone.eq_none_str (Zm I q (by simp))
  | _=>exact absurd (show false=true from hs) Bf9
 | bl i=>
  cases rx
  cases y with
  | non=>cases ry;exact PySem.EqNone.eq_bool_none (Zm I q (by simp))
  | bl j=>cases ry;exact eq_bool (Zm I q Zx0)
  | str j=>obtain⟨t',rfl⟩:=ry;exact PySem.EqMixed.eq_bool_str (Zm I q (by simp))
  | _=>exact absurd (show false=true from hs) Bf9
 | int i=>
  obtain⟨t,rfl⟩:=rx
  cases y with
  | non=>cases ry;exact PySem.EqNone.eq_int_none (Zm I q (by simp))
  | int j=>obtain⟨t',rfl⟩:=ry;exact eq_int (Zm I q Zi2)
  | str j=>obtain⟨t',rfl⟩:=ry;exact PySem.EqMixed.eq_int_str (Zm I q (by simp))
  | _=>exact absurd (show false=true from hs) Bf9
 | str i=>
  obtain⟨t,rfl⟩:=rx
  cases y with
  | non=>cases ry;exact PySem.EqNone.eq_str_none (Zm I q (by simp))
  | bl j=>cases ry;exact PySem.EqMixed.eq_str_bool (Zm I q (by simp))
  | int j=>obtain⟨t',rfl⟩:=ry;exact PySem.EqMixed.eq_str_int (Zm I q (by simp))
  | str j=>obtain⟨t',rfl⟩:=ry;exact eq_str (Zm I q Zf0)
  | _=>exact absurd (show false=true from hs) Bf9
 | byt i=>
  obtain⟨t,rfl⟩:=rx
  cases y with
  | byt j=>obtain⟨t',rfl⟩:=ry;exact PySem.W.eq_bytes (Zm I q Zl3)
  | _=>exact absurd (show false=true from hs) Bf9
 | _=>cases y<;>exact absurd (show false=true from hs) Bf9
theorem Yn5:OpR X (compareOp .NotEq) rNe:=by
 intro pins s σ H x y v u Q I rx ry h
 obtain⟨hs,q⟩:=h
 cases x with
 | non=>
  cases rx
  cases y with
  | non=>cases ry;exact PySem.EqNone.ne_none_none (Zm I q (by simp))
  | bl j=>cases ry;exact PySem.EqNone.ne_none_bool (Zm I q (by simp))
  | int j=>obtain⟨t',rfl⟩:=ry;exact PySem.EqNone.ne_none_int (Zm I q (by simp))
  | str j=>obtain⟨t',rfl⟩:=ry;exact PySem.EqNone.ne_none_str (Zm I q (by simp))
  | _=>exact absurd (show false=true from hs) Bf9
 | bl i=>
  cases rx
  cases y with
  | non=>cases ry;exact PySem.EqNone.ne_bool_none (Zm I q (by simp))
  | bl j=>cases ry;exact ne_bool (Zm I q (congrArg not Zx0))
  | str j=>obtain⟨t',rfl⟩:=ry;exact PySem.EqMixed.ne_bool_str (Zm I q (by simp))
  | _=>exact absurd (show false=true from hs) Bf9
 | int i=>
  obtain⟨t,rfl⟩:=rx
  cases y with
  | non=>cases ry;exact PySem.EqNone.ne_int_none (Zm I q (by simp))
  | int j=>obtain⟨t',rfl⟩:=ry;exact ne_int (Zm I q (congrArg not Zi2))
  | str j=>obtain⟨t',rfl⟩:=ry;exact PySem.EqMixed.ne_int_str (Zm I q (by simp))
  | _=>exact absurd (show false=true from hs) Bf9
 | str i=>
  obtain⟨t,rfl⟩:=rx
  cases y with
  | non=>cases ry;exact PySem.EqNone.ne_str_none (Zm I q (by simp))
  | bl j=>cases ry;exact PySem.EqMixed.ne_str_bool (Zm I q (by simp))
  | int j=>obtain⟨t',rfl⟩:=ry;exact PySem.EqMixed.ne_str_int (Zm I q (by simp))
  | str j=>obtain⟨t',rfl⟩:=ry;exact ne_str (Zm I q (congrArg not Zf0))
  | _=>exact absurd (show false=true from hs) Bf9
 | byt i=>
  obtain⟨t,rfl⟩:=rx
  cases y with
  | byt j=>obtain⟨t',rfl⟩:=ry;exact PySem.W.ne_bytes (Zm I q (congrArg not Zl3))
  | _=>exact absurd (show false=true from hs) Bf9
 | _=>cases y<;>exact absurd (show false=true from hs) Bf9
theorem Yl5:OpR X (compareOp .Lt) (rI0 fun i j=> .bl (decide (i<j))):=opB0 fun _ _ _ _ _ _ _ q=>lt_int q
theorem Yn9:OpR X (compareOp .Gt) (rI0 fun i j=> .bl (decide (j<i))):=opB0 fun _ _ _ _ _ _ _ q=>gt_int q
theorem Yo4:OpR X (compareOp .GtE) (rI0 fun i j=> .bl (decide (j≤i))):=opB0 fun _ _ _ _ _ _ _ q=>ge_int q
theorem Zb7:OpR X (compareOp .In) (fun x y H Q=>∃i j,x= .str i∧y= .str j∧Q (.bl (!(Lg j i 0 j.length 1).isEmpty)) H):=by
 intro pins s σ H x y v u Q I rx ry h
 obtain⟨i,j,rfl,rfl,q⟩:=h
 obtain⟨t,rfl⟩:=rx
 obtain⟨t',rfl⟩:=ry
 exact in_str (Zm I q rfl)
theorem Pa:OpR X (compareOp .Is) (fun x y H Q=>y= .non∧Q (.bl (decide (x= .non))) H):=by
 intro pins s σ H x y v u Q I rx ry h
 obtain⟨rfl,q⟩:=h
 cases ry
 refine is_none_gen (Zm I q ?_)
 cases x<;>first
  |(cases rx;rfl)
  |(obtain⟨t,rfl⟩:=rx;rfl)
theorem G9:OpR X (compareOp .NotIn) (fun x y H Q=>∃i j,x= .str i∧y= .str j∧Q (.bl (!(!(Lg j i 0 j.length 1).isEmpty))) H):=by
 intro pins s σ H x y v u Q I rx ry h
 obtain⟨i,j,rfl,rfl,q⟩:=h
 obtain⟨t,rfl⟩:=rx
 obtain⟨t',rfl⟩:=ry
 exact notIn_str (Zm I q rfl)
theorem Y22{op:CmpOp}{r:R2}(ho:OpR X (compareOp op) r)(ha:PE X a ta)(hb:PE X b tb)(hm:behindInMarks op b=false):PE X (.Compare a [op] [b] pos) (tOp r ta tb):=by
 intro pins s σ H Q I h
 exact wpAny_Compare1 (binT ha hb I h fun v u s2 x y H2 I2 rx ry q=>ho pins s2 σ H2 x y v u Q I2 rx ry q) hm
def Y96(t:TE):TT:=fun σ H Q=>t σ H fun x H'=>∃k,x= .bl k∧Q k H'
theorem Y72{op:CmpOp}{r:R2}(ho:OpR X (compareOp op) r)(ha:PE X a ta)(hb:PE X b tb)(hm:behindInMarks op b=false):PT X (.Compare a [op] [b] pos) (Y96 (tOp r ta tb)):=by
 intro pins s σ H Q I h
 refine wpAny_isTrue_Compare1 (thn (ha pins s σ H _ I h) fun v s1 ⟨x,H1,I1,r1,q1⟩=>thn (hb pins s1 σ H1 _ I1 q1) fun u s2 ⟨y,H2,I2,r2,q2⟩=>
  thn (ho pins s2 σ H2 x y v u _ I2 r1 r2 q2) fun c s3 ⟨z,H3,I3,r3,k,e,q3⟩=>?_) hm
 subst e
 cases r3
 exact wpAny_truthy_bool ⟨H3,I3,q3⟩
def TruV(K:Ad)(x:V)(H:Hp)(k:Bool):Prop:=
 match x with
 | .non=>k=false
 | .bl b=>k=b
 | .int i=>k=(i !=0)
 | .str y=>y.length≤sizeLine∧k=((y.length:Int) !=0)
 | .byt y=>y.size≤sizeLine∧k=((y.size:Int) !=0)
 | .ref p=>(∃xs,SqL K H p xs∧k= !xs.isEmpty)∨(∃xs,SqT K H p xs∧k= !xs.isEmpty)∨∃kvs,H p=some (.dK kvs)∧k= !kvs.isEmpty
 | _=>False
theorem Z44{κ:Type}{kvs:List (κ×V)}{vs:List (κ×Value)}(r:KV kvs vs):(!vs.isEmpty)= !kvs.isEmpty:=by
 cases r<;>rfl
theorem Ng{xs:List V}{its:List Value}(r:Vals xs its):(!its.toArray.isEmpty)= !xs.isEmpty:=by
 cases r<;>simp
theorem Pf:(sizeLine:Nat)<2 ^ 63:=by rw[Ka];decide
theorem Bl:TruR X (fun x H Q=>∃k,TruV X.K x H k∧Q k H):=by
 intro pins s σ H x v Q I rx h
 obtain⟨k,e,q⟩:=h
 have hl:=Pf
 have hs:sizeLine=16777216:=Ka
 cases x with
 | non=>
  cases rx
  have e':k=false:=e
  subst e'
  exact truthy_none ⟨H,I,q⟩
 | bl b=>
  cases rx
  have e':k=b:=e
  subst e'
  exact wpAny_truthy_bool ⟨H,I,q⟩
 | int i=>
  obtain⟨t,rfl⟩:=rx
  have e':k=(i !=0):=e
  subst e'
  exact PySem.P.truthy_int ⟨H,I,q⟩
 | str y=>
  obtain⟨t,rfl⟩:=rx
  obtain⟨hy,e'⟩:y.length≤sizeLine∧k=((y.length:Int) !=0):=e
  subst e'
  exact PySem.P.truthy_str (by omega) ⟨H,I.tok _,q⟩
 | byt y=>
  obtain⟨t,rfl⟩:=rx
  obtain⟨hy,e'⟩:y.size≤sizeLine∧k=((y.size:Int) !=0):=e
  subst e'
  exact PySem.W.truthy_bytes (by omega) ⟨H,I.tok _,q⟩
 | ref p=>
  cases rx
  have e':(∃xs,SqL X.K H p xs∧k= !xs.isEmpty)∨(∃xs,SqT X.K H p xs∧k= !xs.isEmpty)∨∃kvs,H p=some (.dK kvs)∧k= !kvs.isEmpty:=e
  rcases e' with⟨xs,hx,e'⟩ | ⟨xs,hx,e'⟩ | ⟨kvs,hx,e'⟩
  ·subst e'
   obtain⟨its,r,pl,hz⟩:=I.list hx
   have hlen:=r.length
   exact wpAny_truthy_list pl.isList (by simp only[Ah];omega) ⟨H,I.tok _,by rw[Ng r];exact q⟩
  ·subst e'
   obtain⟨its,r,pl,hz⟩:=I.tuple hx
   have hlen:=r.length
   exact truthy_tuple pl (by simp only[Ah];omega) ⟨H,I.tok _,by rw[Ng r];exact q⟩
  ·subst e'
   obtain⟨hz,hS,vs,r,m⟩:kvs.length≤sizeLine∧(p==sysModules)=false∧∃vs,KV kvs vs∧s.heap.DictOf (Y3 X.prog X.w) p vs:=I.hok p _ hx
   have hlen:kvs.length=vs.length:=Paired.length r
   exact wpAny_truthy_dict hS m (by omega) ⟨H,I.tok _,by rw[Z44 r];exact q⟩
 | _=>exact(show False from e).elim
theorem Zn1(ha:PE X a ta)(he:∀whole,isTrue a X.env whole=(do let v ←whole;standAt a.pos;holding [v] (truthy v))):
  PT X a (fun σ H Q=>ta σ H fun x H'=>∃k,TruV X.K x H' k∧Q k H'):=by
 intro pins s σ H Q I h
 exact isTrue_plain (thn (ha pins s σ H _ I h) fun v s1 zz24=>by obtain⟨x,H1,I1,r1,q1⟩:=zz24;exact Bl pins s1 σ H1 x v Q I1 r1 q1) (he _)
theorem Z34:OpR X (binaryOp .Add) (fun x y H Q=>∃i j,x= .str i∧y= .str j∧i.length+j.length≤sizeLine∧Q (.str (i++j)) H):=by
 intro pins s σ H x y v u Q I rx ry h
 obtain⟨i,j,rfl,rfl,hz,q⟩:=h
 obtain⟨t,rfl⟩:=rx
 obtain⟨t',rfl⟩:=ry
 exact add_str (fun t' tk=>⟨.str (i++j),H,I.tok _,⟨_,rfl⟩,q⟩) hz
theorem Tn{x:V}{us:List Value}(r:Vals [x] us):∃u,us=[u]∧RelV x u:=by
 cases r with
 | cons r1 r2=>cases r2;exact⟨_,rfl,r1⟩
theorem Ej{x y:V}{us:List Value}(r:Vals [x,y] us):∃u w',us=[u,w']∧RelV x u∧RelV y w':=by
 cases r with
 | cons r1 r2=>
  cases r2 with
  | cons r3 r4=>cases r4;exact⟨_,_,rfl,r1,r3⟩
theorem Zk9(hc:X.calm=true):X1 X (.builtin "max") (fun xs H Q=>∃i j,xs=[.int i,.int j]∧Q (.int (if j >i then j else i)) H):=by
 intro pins s σ H xs us Q I r h
 obtain⟨i,j,rfl,q⟩:=h
 obtain⟨u,w',rfl,⟨t,rfl⟩,⟨t',rfl⟩⟩:=Ej r
 refine max_two_ints (I.ok.hd hc) fun h' tk k=>⟨_,H,I.kept k,?_,q⟩
 by_cases hj:j >i
 ·rw[if_pos hj,if_pos hj];exact⟨_,rfl⟩
 ·rw[if_neg hj,if_neg hj];exact⟨_,rfl⟩
theorem Zh8(hc:X.calm=true):X1 X (.builtin "min") (fun xs H Q=>∃i j,xs=[.int i,.int j]∧Q (.int (if j<i then j else i)) H):=by
 intro pins s σ H xs us Q I r h
 obtain⟨i,j,rfl,q⟩:=h
 obtain⟨u,w',rfl,⟨t,rfl⟩,⟨t',rfl⟩⟩:=Ej r
 refine min_two_ints (I.ok.hd hc) fun h' tk k=>⟨_,H,I.kept k,?_,q⟩
 by_cases hj:j<i
 ·rw[if_pos hj,if_pos hj];exact⟨_,rfl⟩
 ·rw[if_neg hj,if_neg hj];exact⟨_,rfl⟩
theorem Fg:X1 X (.type "str") (fun xs H Q=>∃i,xs=[.int i]∧i.natAbs.log2<1920∧Q (.str (toString i)) H):=by
 intro pins s σ H xs us Q I r h
 obtain⟨i,rfl,hz,q⟩:=h
 obtain⟨u,rfl,t,rfl⟩:=Tn r
 exact PySem.P.str_of_int hz ⟨.str _,H,I.tok _,⟨_,rfl⟩,q⟩
end
structure ObjM(h:Heap)(x dx C:Addr)(mA:Str→Option Value):Prop where
 obj:h.get? x=some (PySem.W.instObj C dx)
 ns:h.Ns1 dx mA
 ne:dx≠x
theorem Fa{h:Heap}{dx:Addr}{mA:Str→Option Value}(n:h.Ns1 dx mA):∃od,h.get? dx=some od∧∀name,PySem.W.lookIn name od=some (mA name):=by
 obtain⟨o,es,ep,ho,hd,hk,_,hm⟩:=n
 refine⟨o,ho,fun name=>?_⟩
 have e:=hm name
 unfold nsFind findBy at e
 rw[←Array.find?_toList] at e
 unfold PySem.W.lookIn
 rw[hd]
 dsimp only
 split
 ·rename_i y q
  rw[q] at e
  exact congrArg some e
 ·rename_i q
  rw[q] at e
  have a:es.toList.any (·.refKey)=false:=by
   rw[List.any_eq_false]
   intro y hy
   obtain⟨z,t,hkey⟩:=hk y (Array.mem_toList_iff.mp hy)
   simp[DictEntry.refKey,hkey]
  have a':¬es.toList.any (·.refKey)=true:=by rw[a];exact Bf9
  rw[if_neg a']
  exact congrArg some e
theorem ObjM.look{h:Heap}{x dx C:Addr}{mA:Str→Option Value}(I:ObjM h x dx C mA):∃od,PySem.W.InstAt h x (PySem.W.instObj C dx) C (some od)∧∀name,PySem.W.lookIn name od=some (mA name):=
 let ⟨od,ho,hl⟩:=Fa I.ns
 ⟨od,⟨I.obj,rfl,rfl,ho⟩,hl⟩
theorem RelO.some_of{v:V}{o:Option Value}(r:RelO (some v) o):∃u,o=some u∧RelV v u:=by
 cases o with
 | none=>exact(show False from r).elim
 | some u=>exact⟨u,rfl,r⟩
theorem RelO.none_of{o:Option Value}(r:RelO none o):o=none:=by
 cases o with
 | none=>rfl
 | some u=>exact(show False from r).elim
section
variable{P:Program}{w:World}{H H':Hp}{h h':Heap}{a C dx:Addr}{fs fs':List (Str×V)}
theorem Y05(hok:HOk P w H h)(e:H a=some (.ins C dx fs)):∃mA,ObjM h a dx C mA∧(∀f,RelO (fs.lookup f) (mA f))∧PySem.Within mA (fs.map (·.1))∧fs.length≤1000∧H dx=some (.own a):=by
 obtain⟨d,z,ne,ob,mA,n,r,q⟩:=(show Yh P w H h a (.ins C dx fs) from hok a _ e)
 exact⟨mA,⟨ob,n,ne⟩,r,q,z,d⟩
end
structure Cls(K:Ad)(C:Addr):Prop where
 pg:PySem.W.plainGet K C Str.empty=true
 hd:PySem.W.hasDictIn K C=true
 po:PySem.W.plainOver K C=true
 sa:Ls K (.ref C) "__setattr__"=some (some (.builtin "object.__setattr__"))
theorem Cls.get{K:Ad}{C:Addr}(c:Cls K C)(f:Str):PySem.W.plainGet K C f=true:=c.pg
structure Con(K:Ad)(C:Addr)(f:Str)(v:V)(u:Value):Prop where
 at_:Ls K (.ref C) f=some (some u)
 rel:RelV v u
 get:PySem.W.specialIn K u "__get__"=some none
 cp:PySem.W.copiedNames.contains f=false
structure Meth(K:Ad)(C:Addr)(m:Str)(f:Addr):Prop where
 at_:Ls K (.ref C) m=some (some (.ref f))
 fn:PySem.W.isFn K (.ref f)=true
 kp:Ha K (.ref f)=true
section
variable{X:Cx}{pins:List (Addr×Obj)}{σ:St}{H:Hp}{s:Shared}{A:Around}{E:Value→Shared→Prop}{Q:Value→Shared→Prop}{c:Value}{b:Bool}
inductive TyOf (K:Ad) (H:Hp):V→Value→Prop where
 | non:TyOf K H .non (.type "NoneType")
 | bl (x:Bool):TyOf K H (.bl x) (.type "bool")
 | int (i:Int):TyOf K H (.int i) (.type "int")
 | str (x:Str):TyOf K H (.str x) (.type "str")
 | flt (x:UInt64):TyOf K H (.flt x) (.type "float")
 | lst {a:Addr} {xs:List V} (e:H a=some (.lst xs)):TyOf K H (.ref a) (.type "list")
 | frz {a:Addr} {o:Obj} {xs:List V} (e:H a=some (.frz o (.lst xs))):TyOf K H (.ref a) (.type "list")
 | tup {a:Addr} {xs:List V} (e:H a=some (.tup xs)):TyOf K H (.ref a) (.type "tuple")
 | dK {a:Addr} {kvs:List (Key×V)} (e:H a=some (.dK kvs)):TyOf K H (.ref a) (.type "dict")
 | dT {a:Addr} {kvs:List (List Key×V)} (e:H a=some (.dT kvs)):TyOf K H (.ref a) (.type "dict")
 | ins {a C dx:Addr} {fs:List (Str×V)} (e:H a=some (.ins C dx fs)) (cl:Cls K C) (ha:Ls K (.ref C) "__class__"=some (some (.builtin "object.__class__")))
   (hn:PySem.W.specialIn K (.builtin "object.__class__") "__get__"=some (some (.builtin "getset_descriptor.__get__"))) (htk:PySem.W.takesIn K (.builtin "object.__class__")=some true)
   (hm:PySem.W.mroIn K C (.type "object")=some true):TyOf K H (.ref a) (.ref C)
theorem Ze9{x:V}{u t:Value}(I:Inv X pins σ H s)(rx:RelV x u)(ty:TyOf X.K H x t)(e:Ke X.K t c=some b)(h:∀tk,Q (.bool b) {s with toks:=tk}):
  wpAny (model X.prog X.w) A (call (.builtin "isinstance") [u,c]) Q E s:=by
 cases ty with
 | non=>cases (show u=Ku from rx);exact Hm PySem.W.kitx_none I.kIn Lj e (fun z=>nomatch z) h
 | bl y=>cases (show u=Mb y from rx);exact Hm PySem.W.kitx_bool I.kIn Lj e (fun z=>nomatch z) h
 | int i=>obtain⟨t,q⟩:=(show ∃t,u=Value.int i t from rx);cases q;exact Hm PySem.W.kitx_int I.kIn Lj e (fun z=>nomatch z) h
 | str y=>obtain⟨t,q⟩:=(show ∃t,u=Kj y t from rx);cases q;exact Hm PySem.W.kitx_str I.kIn Lj e (fun z=>nomatch z) h
 | flt y=>obtain⟨t,q⟩:=(show ∃t,u=Value.float y t from rx);cases q;exact Hm PySem.W.kitx_float I.kIn Lj e (fun z=>nomatch z) h
 | @lst a xs ea=>
  cases (show u=Au a from rx)
  obtain⟨_,_,n,_,h1⟩:=(show Yh X.prog X.w H s.heap a (.lst xs) from I.hok a _ ea)
  exact Hm PySem.W.kitx_list I.kIn ⟨_,h1,rfl⟩ e (fun z=>nomatch z) h
 | @frz a ob xs ea=>
  cases (show u=Au a from rx)
  obtain⟨_,_,_,n,_,h1⟩:=(show Yh X.prog X.w H s.heap a (.frz ob (.lst xs)) from I.hok a _ ea)
  exact Hm PySem.W.kitx_list I.kIn ⟨_,h1,rfl⟩ e (fun z=>nomatch z) h
 | @tup a xs ea=>
  cases (show u=Au a from rx)
  obtain⟨_,_,_,p⟩:=(show Yh X.prog X.w H s.heap a (.tup xs) from I.hok a _ ea)
  obtain⟨o,h1,h2,_⟩:=p
  exact Hm PySem.W.kitx_tuple I.kIn ⟨o,h1,h2⟩ e (fun z=>nomatch z) h
 | @dK a kvs ea=>
  cases (show u=Au a from rx)
  obtain⟨_,_,vs,_,p⟩:=(show Yh X.prog X.w H s.heap a (.dK kvs) from I.hok a _ ea)
  obtain⟨o,es,ep,h1,h2,_⟩:=p
  exact Hm PySem.W.kitx_dict I.kIn ⟨o,h1,h2.1⟩ e (fun z=>nomatch z) h
 | @dT a kvs ea=>
  cases (show u=Au a from rx)
  obtain⟨_,_,xs,_,o,es,ep,h1,h2,_⟩:=(show Yh X.prog X.w H s.heap a (.dT kvs) from I.hok a _ ea)
  exact Hm PySem.W.kitx_dict I.kIn ⟨o,h1,h2.1⟩ e (fun z=>nomatch z) h
 | @ins a C dx fs ea cl ha hn htk hm=>
  cases (show u=Au a from rx)
  obtain⟨mA,O,_⟩:=Y05 I.hok ea
  obtain⟨od,J,_⟩:=O.look
  exact Hm (PySem.W.kitx_own (cl.get _) cl.hd ha hn htk hm) I.kIn J e (fun z=>nomatch z) h
end
structure Room(k:Nat)(A:Around):Prop where
 hd:A.handled=none
 dp:A.depth+3 * k+5<recursionLimit
 un:A.units+16 * k+200<cLine
theorem Room.mono{j k:Nat}{A:Around}(r:Room k A)(h:j≤k):Room j A:=⟨r.hd,by have:=r.dp;omega,by have:=r.un;omega⟩
theorem Room.deeper{k:Nat}{A:Around}(r:Room (k+1) A)(env:Env):Room k (A.deeper env):=
 ⟨r.hd,by have:=r.dp;show A.depth+1+3 * k+5<_;omega,by have:=r.un;show A.units+3+16 * k+200<_;omega⟩
theorem Room.depth{k:Nat}{A:Around}(r:Room k A):A.depth<recursionLimit:=by have:=r.dp;omega
theorem Room.units{k:Nat}{A:Around}(r:Room k A):A.units+64<cLine:=by have:=r.un;omega
def tNil:TA:=fun _ H Q=>Q [] H
def Ym6(ta:TE)(tr:TA):TA:=fun σ H Q=>ta σ H fun x H1=>tr σ H1 fun xs H2=>Q (x::xs) H2
section
variable{X:Cx}{e:Expr}{es:List Expr}{te:TE}{t:TA}{pos:Pos}
theorem S6:PA X [] tNil:=fun _ _ _ _ H Q I h=>Calls.spliced_nil ⟨[],H,I,.nil,h⟩
theorem Xp(ha:PE X e te)(hr:PA X es t)(hs:starEach (e::es) X.env=(false,eval e X.env)::starEach es X.env:=by rfl):PA X (e::es) (Ym6 te t):=by
 intro pos pins s σ H Q I h
 rw[hs]
 show wpAny _ _ (spliced ((false,eval e X.env)::backTo pos (starEach es X.env))) _ _ s
 refine Calls.spliced_cons (thn (ha pins s σ H _ I h) fun u s1 zz25=>?_)
 obtain⟨x,H1,I1,r1,q1⟩:=zz25
 exact thn (hr pos pins s1 σ H1 _ I1 q1) fun us s2 zz26=>by obtain⟨xs,H2,I2,r2,q2⟩:=zz26;exact⟨x::xs,H2,I2,.cons r1 r2,q2⟩
def tTup(t:TA):TE:=fun σ H Q=>t σ H fun xs H1=>xs.length≤sizeLine∧∀p,H1 p=none→Q (.ref p) (upd H1 p (.tup xs))
def tLst(t:TA):TE:=fun σ H Q=>t σ H fun xs H1=>xs.length≤sizeLine∧∀p,H1 p=none→Q (.ref p) (upd H1 p (.lst xs))
theorem Ya3{x1}(h:PA X es t):PE X (.Tuple es x1 pos) (tTup t):=by
 intro pins s σ H Q I hq
 refine wpAny_Tuple_spliced (thn (h pos pins s σ H _ I hq) fun us s1 ⟨xs,H1,I1,r,z,q⟩=>⟨by rw[←r.length];exact z,?_⟩)
 have hf:H1 s1.heap.objs.size=none:=I1.hok.fresh (Nat.le_refl _)
 refine⟨.ref s1.heap.objs.size,upd H1 s1.heap.objs.size (.tup xs),I1.laid (t':=s1.toks) (fun b u e=>Ak _ e) (Nat.le_refl _) ?_,rfl,q _ hf⟩
 exact⟨z,us,r,⟨_,Aw _ rfl,rfl,_,rfl⟩⟩
theorem Yb4(h:PA X es t):PE X (.List es pos) (tLst t):=by
 intro pins s σ H Q I hq
 refine wpAny_List_spliced (thn (h pos pins s σ H _ I hq) fun us s1 ⟨xs,H1,I1,r,z,q⟩=>⟨by rw[←r.length];exact z,?_⟩)
 have hf:H1 s1.heap.objs.size=none:=I1.hok.fresh (Nat.le_refl _)
 refine⟨.ref s1.heap.objs.size,upd H1 s1.heap.objs.size (.lst xs),I1.laid (t':=s1.toks) (fun b u e=>Ak _ e) (Nat.le_refl _) ?_,rfl,q _ hf⟩
 exact⟨z,us,0,r,Aw _ rfl⟩
end
abbrev Sp:=List V→Hp→VK→XK→Prop
abbrev CXT:=List Env→Hp→Shared→XK→Value→Shared→Prop
structure Env0(P:Program)(w:World)(K:Ad)(mg:Str→Option Value)(base:Heap)(A:Around)(outer:List Env)(s:Shared)(H:Hp):Prop where
 frames:A.frames=some outer
 mod:Mod K mg base
 bs:∀b o,base.get? b=some o→s.heap.get? b=some o∧H b=none
 bsz:base.objs.size≤s.heap.objs.size
 funs:s.heap.FunFrames base outer
 frf:∀b∈frs outer,H b=none
 hok:HOk P w H s.heap
 bare:AllBare s.gens
def CE(outer:List Env)(P:Program)(w:World)(H:Hp)(s:Shared)(Q:VK)(u:Value)(s':Shared):Prop:=
 ∃v H',s'.os=s.os∧AllBare s'.gens∧Un (frs outer) [] H H' s.heap s'.heap∧HOk P w H' s'.heap∧RelV v u∧Q v H'
def CR(CX:CXT)(outer:List Env)(P:Program)(w:World)(H:Hp)(s:Shared)(Q:VK)(E:XK)(r:Result)(s':Shared):Prop:=
 match r with
 | .ok (.ret u)=>CE outer P w H s Q u s'
 | .ok _=>False
 | .error e=>CX outer H s E e s'
structure FnOk(P:Program)(w:World)(K:Ad)(mg:Str→Option Value)(base:Heap)(CX:CXT)(k:Nat)(f:Addr)(fd:FuncData)(ps:List Str)(sp:Sp):Prop where
 len:∀vs H Q E,sp vs H Q E→vs.length=ps.length
 run:∀(A:Around) (outer:List Env) (s:Shared) (H:Hp) (args:Args) (us:List Value) (vs:List V) (Q:VK) (E:XK),Room k A→Env0 P w K mg base A outer s H→BindsTo s fd args (ps.zip us)→Vals vs us→sp vs H Q E→
  codeAny (model P w) A (.call (.ref f) args) (CR CX outer P w H s Q E) s
section
variable{X:Cx}{pins:List (Addr×Obj)}{σ:St}{H:Hp}{s s':Shared}
theorem Inv.env0(I:Inv X pins σ H s):Env0 X.prog X.w X.K X.mg X.base X.A X.stack s H:=
 ⟨I.ok.frames,I.ok.mod,I.bs,Nat.le_trans I.ok.bsz I.sz,I.stack,I.stkFree,I.hok,I.bare⟩
theorem Inv.after{Q:VK}{u:Value}(I:Inv X pins σ H s)(h:CE X.stack X.prog X.w H s Q u s'):EP X pins σ Q u s':=by
 obtain⟨v,H',os,bare,un,hok,r,q⟩:=h
 obtain⟨hh,g,d,t,os'⟩:=s'
 obtain rfl:os'=s.os:=os
 exact⟨v,H',I.call (h':=hh) (g':=g) (d':=d) (t':=t) (ch:=[]) un hok bare (fun b z=>absurd z (by simp)),r,q⟩
end
def Y98(sp:Sp)(dvs:List V)(E:XK)(t:TA):TE:=fun σ H Q=>t σ H fun vs H1=>sp (vs++dvs) H1 Q E
def Pl(K:Ad)(fd:FuncData)(ps:List Str)(ds:List Value):Prop:=
 ∀(s:Shared) (us:List Value),K.In s.heap→(us++ds).length=ps.length→BindsTo s fd ⟨us,[]⟩ (ps.zip (us++ds))
theorem Pl.all{K:Ad}{fd:FuncData}{ps:List Str}(h:∀us:List Value,us.length=ps.length→bindArgs fd ⟨us,[]⟩=pure (ps.zip us)):Pl K fd ps []:=fun s us _ hl=>by
 rw[Db] at hl ⊢
 exact .of_eq (h us hl)
def Z00(CX:CXT)(X:Cx)(E:XK):Prop:=∀(pins:List (Addr×Obj)) (σ:St) (H:Hp) (s:Shared) (e:Value) (s':Shared),Inv X pins σ H s→CX X.stack H s E e s'→X.xe e s'
section
variable{X:Cx}{CX:CXT}{k:Nat}{f C:Addr}{fd:FuncData}{ps:List Str}{sp:Sp}{dvs:List V}{ds:List Value}{E:XK}{x m:Str}{p pos apos:Pos}{e o:Expr}{es:List Expr}{ta:TE}{t:TA}
theorem Zv8{pins:List (Addr×Obj)}{σ:St}{H:Hp}{s:Shared}{Q:VK}{us:List Value}{vs:List V}(F:FnOk X.prog X.w X.K X.mg X.base CX k f fd ps sp)(hr:Room k X.A)(hb:Pl X.K fd ps ds)(hd:Vals dvs ds)(hx:Z00 CX X E)
  (I:Inv X pins σ H s) (r:Vals vs us) (h:sp (vs++dvs) H Q E):wpAny (model X.prog X.w) X.A (call (.ref f) us) (EP X pins σ Q) X.xe s:=by
 have r2:Vals (vs++dvs) (us++ds):=r.append hd
 have hl:(us++ds).length=ps.length:=by rw[←r2.length];exact F.len _ _ _ _ h
 refine wpAny_call (Lu (F.run X.A X.stack s H ⟨us,[]⟩ (us++ds) (vs++dvs) Q E hr I.env0 (hb s us I.kIn hl) r2 h) fun r s' hq=>?_)
 cases r with
 | error e=>exact hx pins σ H s e s' I hq
 | ok fl=>
  cases fl with
  | ret u=>exact I.after hq
  | next=>exact Di hq
  | brk=>exact Di hq
  | cont=>exact Di hq
theorem Y37(F:FnOk X.prog X.w X.K X.mg X.base CX k f fd ps sp)(hr:Room k X.A)(hg:Gl X x)(hm:X.mg x=some (.ref f))(hk:Ha X.K (.ref f)=true)(hb:Pl X.K fd ps ds)(hd:Vals dvs ds)(hx:Z00 CX X E)
  (ha:PA X (e::es) t) (hdb:(x==("__debug__":Str))=false:=by decide) (he:starEach (e::es) X.env=(false,eval e X.env)::starEach es X.env:=by rfl) (hpl:(backTo pos (starEach es X.env)).any (·.1)=false:=by rfl):
  PE X (.Call (.Name x p) (e::es) [] pos) (Y98 sp dvs E t):=by
 intro pins s σ H Q I h
 refine Lk (Cb I hg hm ?_ hdb)
 refine PySem.W.callWith_K (h₀:=X.base) I.ok.mod.kin hk (thn (ha pos pins s σ H _ I h) fun us s1 ⟨vs,H1,I1,r,q⟩=>⟨I1.kIn,?_⟩) he hpl
 exact Zv8 F hr hb hd hx I1 r q
theorem Zu7(F:FnOk X.prog X.w X.K X.mg X.base CX k f fd ps sp)(hr:Room k X.A)(hg:Gl X x)(hm:X.mg x=some (.ref f))(hk:Ha X.K (.ref f)=true)(hb:Pl X.K fd ps ds)(hd:Vals dvs ds)(hx:Z00 CX X E)
  (hdb:(x==("__debug__":Str))=false:=by decide):PE X (.Call (.Name x p) [] [] pos) (Y98 sp dvs E tNil):=by
 intro pins s σ H Q I h
 refine Lk (Cb I hg hm ?_ hdb)
 exact PySem.W.callWith_K0 I.kIn hk (Zv8 (us:=[]) F hr hb hd hx I .nil h)
structure Mk(K:Ad)(C f:Addr):Prop where
 makes:PySem.W.makesIn K C=true
 init:Ls K (.ref C) "__init__"=some (some (.ref f))
 fn:PySem.W.isFn K (.ref f)=true
 kp:Ha K (.ref C)=true
end
section
variable{X:Cx}{CX:CXT}{k:Nat}{f C:Addr}{fd:FuncData}{ps ks:List Str}{sp:Sp}{E:XK}{x m:Str}{p pos apos kpos:Pos}{e o:Expr}{es:List Expr}{kws:List Keyword}{te ta:TE}{t tk:TA}{nm:Option Str}
structure KBinds(K:Ad)(fd:FuncData)(ps ks:List Str)(g:List Value→List Value→List Value)(gV:List V→List V→List V):Prop where
 to:∀(s:Shared) (us ws:List Value),K.In s.heap→(g us ws).length=ps.length→BindsTo s fd ⟨us,ks.zip ws⟩ (ps.zip (g us ws))
 rel:∀{vs:List V} {us:List Value} {zs:List V} {ws:List Value},Vals vs us→Vals zs ws→Vals (gV vs zs) (g us ws)
variable{g:List Value→List Value→List Value}{gV:List V→List V→List V}
end
structure FnScope(N P:List Str)(sc:Scope):Prop where
 kind:sc.kind= .function
 co:sc.isCoroutine=false
 gen:sc.isGenerator=false
 nd:N.Nodup
 pre:N.take P.length=P
 par:∀x∈P,sc.names.lookup x=some .local∨sc.names.lookup x=some .cell
 nofree:∀y∈sc.names,y.2≠ .free
theorem Gf{kindOf:Str→Option NameKind}{x:Str}:∀{binds:List (Str×Value)} {m:Str→Option Value},(∀v,(x,v)∉binds)→bindL kindOf binds m x=m x
 | [],_,_=>rfl
 |(n,v)::r,m,h=>by
  unfold bindL
  rw[Gf fun w hw=>h w (Ar _ hw)]
  split
  ·have:x≠n:=by rintro rfl;exact h v Ao
   simp[this]
  ·rfl
theorem F0{kindOf:Str→Option NameKind}{x:Str}:∀{binds:List (Str×Value)} {m:Str→Option Value},(∀v,(x,v)∉binds)→bindC kindOf binds m x=m x
 | [],_,_=>rfl
 |(n,v)::r,m,h=>by
  unfold bindC
  rw[F0 fun w hw=>h w (Ar _ hw)]
  split
  ·rfl
  ·have:x≠n:=by rintro rfl;exact h v Ao
   simp[this]
theorem Fs{kindOf:Str→Option NameKind}{x:Str}{v:Value}:∀{P:List Str} {vs:List Value} {i:Nat} {m:Str→Option Value},P.Nodup→P[i]?=some x→vs[i]?=some v→kindOf x=some .local→
  bindL kindOf (P.zip vs) m x=some v
 | [],_,_,_,_,h,_,_=>by simp at h
 | _::_,[],_,_,_,_,h,_=>by simp at h
 | p::P,w::vs,0,m,nd,h1,h2,hk=>by
  simp at h1 h2;subst h1;subst h2
  show bindL kindOf ((p,w)::P.zip vs) m p=_
  unfold bindL
  rw[Gf fun v hv=>(Ip.mp nd).1 (List.of_mem_zip hv).1,if_pos hk]
  simp
 | p::P,w::vs,i+1,m,nd,h1,h2,hk=>by
  show bindL kindOf ((p,w)::P.zip vs) m x=_
  unfold bindL
  exact Fs (i:=i) (Ip.mp nd).2 (by simpa using h1) (by simpa using h2) hk
theorem F9{kindOf:Str→Option NameKind}{x:Str}{v:Value}:∀{P:List Str} {vs:List Value} {i:Nat} {m:Str→Option Value},P.Nodup→P[i]?=some x→vs[i]?=some v→kindOf x≠some .local→
  bindC kindOf (P.zip vs) m x=some v
 | [],_,_,_,_,h,_,_=>by simp at h
 | _::_,[],_,_,_,_,h,_=>by simp at h
 | p::P,w::vs,0,m,nd,h1,h2,hk=>by
  simp at h1 h2;subst h1;subst h2
  show bindC kindOf ((p,w)::P.zip vs) m p=_
  unfold bindC
  rw[F0 fun v hv=>(Ip.mp nd).1 (List.of_mem_zip hv).1,if_neg hk]
  simp
 | p::P,w::vs,i+1,m,nd,h1,h2,hk=>by
  show bindC kindOf ((p,w)::P.zip vs) m x=_
  unfold bindC
  exact F9 (i:=i) (Ip.mp nd).2 (by simpa using h1) (by simpa using h2) hk
noncomputable def start(N:List Str)(vs:List V):St:=vs.map some++Df (N.length - vs.length) none
def cxOf(CX:CXT)(P:Program)(w:World)(K:Ad)(mg:Str→Option Value)(base:Heap)(N:List Str)(qual:Str)(scope:Scope)(f:Addr)(cd:Value)(A:Around)(outer:List Env)(s:Shared)(H:Hp)(E:XK):Cx where
 prog:=P
 w:=w
 K:=K
 mg:=mg
 base:=base
 A:=A.deeper (envOfC qual scope s.heap.objs.size f cd)
 N:=N
 s₀:=s
 H₀:=H
 env:=envOfC qual scope s.heap.objs.size f cd
 outer:=outer
 stack:=envOfC qual scope s.heap.objs.size f cd::outer
 ex:=[]
 calm:=true
 fn:=fun _=>true
 pn:=[]
 xe:=fun e s'=>wpAny (model P w) (A.deeper (envOfC qual scope s.heap.objs.size f cd)) (leaving (envOfC qual scope s.heap.objs.size f cd) e) (fun _ s''=>CX outer H s E e s'') (fun e' s''=>CX outer H s E e' s'') s'
theorem Ba{sc:Scope}{n:Nat}{x:Str}(h:sc.names.lookup x=some .cell):∃c,(cellsFrom n sc.names []).lookup x=some c:=by
 have q:=PySem.W.cellsFrom_some sc.names n [] (.inl h)
 exact Option.isSome_iff_exists.mp q
theorem Ze4{CX:CXT}{P:Program}{w:World}{K:Ad}{mg:Str→Option Value}{base:Heap}{N ps:List Str}{qual:Str}{scope:Scope}{f:Addr}{cd:Value}{A:Around}{outer:List Env}{s s1:Shared}{H:Hp}{E:XK}{us:List Value}{vs:List V}
  (S:FnScope N ps scope) (hd:A.handled=none) (e0:Env0 P w K mg base A outer s H) (hl:vs.length=ps.length) (r:Vals vs us)
  (x:InCallC s s.heap.objs.size (bindL (envOfC qual scope s.heap.objs.size f cd).kindOf (ps.zip us) fun _=>none) (cellsFrom (s.heap.objs.size+1) scope.names []) (bindC (envOfC qual scope s.heap.objs.size f cd).kindOf (ps.zip us) fun _=>none) s1):
  Inv (cxOf CX P w K mg base N qual scope f cd A outer s H E) [] (start N vs) H s1:=by
 have hpl:ps.length≤N.length:=by have:=congrArg List.length S.pre;rw[He] at this;omega
 obtain⟨h1,tk,rfl,hk⟩:=x.done
 have noA:∀b:Addr,b∉(cxOf CX P w K mg base N qual scope f cd A outer s H E).ex:=fun b z=>absurd (show b∈([]:List Addr) from z) (by simp)
 refine⟨⟨e0.mod,S.kind,rfl,rfl,Nat.le_refl _,fun y z c h1 h2=>?_,fun y hy=>?_,fun y c _ h=>?_,fun _=>hd,Around.frames_deeper e0.frames,.inr ⟨rfl,rfl⟩,fun b z=>absurd z (noA b),e0.bs,e0.bsz,fun b _ _=>noA b,fun b z=>absurd z (noA b),e0.funs,e0.frf⟩,
  rfl,e0.bare,Un.kept hk,⟨_,x.toInCall.ns,fun i y v h1 h2 h3=>?_⟩,fun y c h=>⟨_,x.cell y c h⟩,e0.hok.fresh (Nat.le_refl _),fun y c h=>?_,fun p hp=>absurd (show p∈([]:List (Addr×Obj)) from hp) (by simp),e0.hok.kept hk,?_⟩
 ·exact name_of_addr x.apart (Le h1) (Le h2)
 ·have hy:scope.names.lookup y=some .cell∨scope.names.lookup y=some .free:=hy
  rcases hy with hy | hy
  ·exact Ba hy
  ·exact absurd rfl (S.nofree _ (Le hy))
 ·exact Nat.le_of_lt (x.above y c (Le h))
 ·have hi:i<vs.length:=by
   unfold start at h2
   by_cases hi:i<vs.length
   ·exact hi
   ·rw[Kq (by simpa using hi)] at h2
    rw[List.getElem?_replicate] at h2
    split at h2<;>cases h2
  have ha:vs[i]?=some v:=by
   unfold start at h2
   rw[Ex (by simpa using hi),As] at h2
   cases e:vs[i]? with
   | none=>rw[e] at h2;cases h2
   | some a=>rw[e] at h2;cases h2;rfl
  obtain⟨u,hu,rv⟩:=r.get ha
  have hp:ps[i]?=some y:=by
   rw[←S.pre,List.getElem?_take_of_lt (by omega)];exact h1
  have ndP:ps.Nodup:=by rw[←S.pre];exact S.nd.sublist (List.take_sublist _ _)
  refine⟨u,rv,?_⟩
  rcases S.par y (Hx hp) with k | k
  ·exact .inl ⟨k,Fs ndP hp hu k⟩
  ·obtain⟨c,e⟩:=Ba (n:=s.heap.objs.size+1) k
   refine .inr ⟨.inl k,c,e,?_⟩
   have q:=x.cell y c e
   rw[F9 ndP hp hu (by show scope.names.lookup y≠_;rw[k];decide)] at q
   exact q
 ·exact e0.hok.fresh (Nat.le_of_lt (x.above y c (Le h)))
 ·unfold start
  show _=N.length
  rw[Ab,Ac,List.length_replicate]
  omega
theorem Ym0{CX:CXT}{P:Program}{w:World}{K:Ad}{mg:Str→Option Value}{base:Heap}{k:Nat}{f:Addr}{name qual:Str}{params:Arguments}{body:List Stmt}{scope:Scope}{dV kV doc pm cdv ct oc:Value}{an od:Option Addr}
  {osl:Array (Option Value)} {N ps:List Str} {sp:Sp} (lk:K.lookup f=some ⟨oc,od,.func (Kk name qual params body scope dV kV doc pm an cdv ct),osl⟩) (hcd:Mc K cdv qual=true) (S:FnScope N ps scope)
  (len:∀vs H Q E,sp vs H Q E→vs.length=ps.length)
  (hbody:∀(A:Around) (outer:List Env) (s:Shared) (H:Hp) (vs:List V) (Q:VK) (E:XK),Room k (A.deeper (envOfC qual scope s.heap.objs.size f cdv))→sp vs H Q E→
   ∃t,PSs (cxOf CX P w K mg base N qual scope f cdv A outer s H E) body t∧t {nx:=fun _ H'=>Q .non H',rt:=Q} (start N vs) H):
  FnOk P w K mg base CX (k+1) f (Kk name qual params body scope dV kV doc pm an cdv ct) ps sp:=by
 refine⟨len,fun A outer s H args us vs Q E hr e0 hb r hsp=>?_⟩
 have hl:=len _ _ _ _ hsp
 have KX:K.In s.heap:=e0.mod.kin.keeps fun b o e=>(e0.bs b o e).1
 have lim:s.heap.NoLimit:=e0.mod.nolimit.keeps fun b o e=>(e0.bs b o e).1
 have hkind:∀y∈ps.zip us,scope.names.lookup y.1=some .local∨(scope.names.lookup y.1=some .cell∧((cellsFrom (s.heap.objs.size+1) scope.names []).lookup y.1).isSome=true):=fun⟨n,v⟩ hy=>by
  rcases S.par n (List.of_mem_zip hy).1 with q | q
  ·exact .inl q
  ·exact .inr ⟨q,PySem.W.cellsFrom_some _ _ _ (.inl q)⟩
 refine codeAny_call_function hr.depth (KX _ _ lk) rfl S.co S.gen rfl (PySem.W.codeRec_of KX hcd) (hb _ _ _ _ ?_)
 refine wpAny_newFunctionEnv_cells S.kind hkind fun env he s1 x=>?_
 subst he
 refine⟨lim.keeps x.toInCall.keep,codeAny_func ?_⟩
 obtain⟨t,ht,hq⟩:=hbody A outer s H vs Q E (hr.deeper _) hsp
 have I:Inv (cxOf CX P w K mg base N qual scope f cdv A outer s H E) [] (start N vs) H s1:=Ze4 S hr.hd e0 hl r x
 refine Hl (ht [] s1 (start N vs) H _ I hq) (fun fl s' hs=>?_) fun e s' hs=>hs
 have fin:∀{σ':St} {H':Hp} {v:V} {u:Value},Inv (cxOf CX P w K mg base N qual scope f cdv A outer s H E) [] σ' H' s'→RelV v u→Q v H'→CE outer P w H s Q u s':=
  fun{σ' H' v u} J rv q=>⟨v,H',J.os,J.bare,J.base,J.hok,rv,q⟩
 cases fl with
 | ret u=>
  obtain⟨v,σ',H',J,rv,q⟩:=hs
  exact fin J rv q
 | next=>
  obtain⟨σ',H',J,q⟩:=hs
  exact fin (v:=V.non) (u:=Ku) J rfl q
 | brk=>
  obtain⟨_,_,_,q⟩:=hs
  exact Di q
 | cont=>
  obtain⟨_,_,_,q⟩:=hs
  exact Di q
section
variable{X:Cx}{x:Str}{p pos:Pos}{e:Expr}{es:List Expr}{t:TA}{id T:String}{r:List V→Hp→VK→Prop}
def tCB(r:List V→Hp→VK→Prop)(t:TA):TE:=fun σ H Q=>t σ H fun vs H1=>r vs H1 Q
theorem Tg(hc:X1 X (.builtin id) r)(hg:Gl X x)(hm:X.mg x=none)(hv:bootBuiltins x=some (.builtin id))(ha:PA X (e::es) t)(hn:x≠"__name__":=by decide)(hdb:(x==("__debug__":Str))=false:=by decide)
  (he:starEach (e::es) X.env=(false,eval e X.env)::starEach es X.env:=by rfl) (hpl:(backTo pos (starEach es X.env)).any (·.1)=false:=by rfl):PE X (.Call (.Name x p) (e::es) [] pos) (tCB r t):=by
 intro pins s σ H Q I h
 refine Lk (E1 I hg hm hv ?_ hn hdb)
 exact PyProof.Rows.callWith_builtin1 (thn (ha pos pins s σ H _ I h) fun us s1 zz31=>by obtain⟨vs,H1,I1,r1,q1⟩:=zz31;exact hc pins s1 σ H1 vs us Q I1 r1 q1) he hpl
theorem Tq(hc:X1 X (.type T) r)(hg:Gl X x)(hm:X.mg x=none)(hv:bootBuiltins x=some (.type T))(ha:PA X (e::es) t)(hn:x≠"__name__":=by decide)(hdb:(x==("__debug__":Str))=false:=by decide)
  (he:starEach (e::es) X.env=(false,eval e X.env)::starEach es X.env:=by rfl) (hpl:(backTo pos (starEach es X.env)).any (·.1)=false:=by rfl):PE X (.Call (.Name x p) (e::es) [] pos) (tCB r t):=by
 intro pins s σ H Q I h
 refine Lk (E1 I hg hm hv ?_ hn hdb)
 exact PyProof.Rows.callWith_type1 (thn (ha pos pins s σ H _ I h) fun us s1 zz32=>by obtain⟨vs,H1,I1,r1,q1⟩:=zz32;exact hc pins s1 σ H1 vs us Q I1 r1 q1) he hpl
end
end L2
namespace HT
open PySem PyProof.Rows
section
open PySem.SeqAt
open PySem.AutoSeq1 (wpAny_loadPart')
open PySem.MeetsSeq PySem.MeetsSeq2 PySem.MeetsSeq3
end
section
variable{prog:Program}{w:World}{A:Around}{E:Value→Shared→Prop}{s:Shared}
theorem Y39{t b:Addr}{vs ws:List Value}{Q:Value→Shared→Prop}(ht:IsTup s.heap t vs.toArray)(hb:IsTup s.heap b ws.toArray)(hv:vs≠[])
  (h1:ws=[]→Q (.ref t) s) (h2:ws≠[]→Q (.ref s.heap.objs.size) {s with heap:=s.heap.push {cls:= .type "tuple",data:= .seq (vs++ws).toArray}})
  (hsz:vs.length+ws.length≤sizeLine):wpAny (model prog w) A (binaryOp .Add (.ref t) (.ref b)) Q E s:=by
 obtain⟨⟨cls,dd,data,sl⟩,ho,hc,n,hd⟩:=id ht
 obtain⟨⟨cls2,dd2,data2,sl2⟩,ho2,hc2,n2,hd2⟩:=id hb
 simp only at hc hd hc2 hd2
 subst hc hd hc2 hd2
 have e:vs.toArray++ws.toArray=(vs++ws).toArray:=by simp
 by_cases hw:ws=[]
 ·exact concat_meets ⟨_,ho,rfl⟩ ⟨_,ho2,rfl⟩ noFill_tuple_add seq_tuple_add PySem.F.slot_tuple_add PySem.F.entry_tuple_add (PySem.F.args_tuple_add_2 _ _)
   (tuple_addW1 t b vs.toArray ws.toArray n n2 dd dd2 sl sl2 (by simpa using hv) (by simp[hw])) ⟨ho,ho2,h1 hw⟩
 ·refine concat_meets ⟨_,ho,rfl⟩ ⟨_,ho2,rfl⟩ noFill_tuple_add seq_tuple_add PySem.F.slot_tuple_add PySem.F.entry_tuple_add (PySem.F.args_tuple_add_2 _ _)
   (tuple_addW2 t b vs.toArray ws.toArray n n2 dd dd2 sl sl2 (by simpa using hv) (by simpa using hw) (by rw[Ah,Ah];exact hsz)) ⟨ho,ho2,?_⟩
  rw[e]
  exact h2 hw
noncomputable def sIx(n d:Nat):Option Int→Nat
 | none=>d
 | some v=>if v<0 then(v+(n:Int)).toNat else min v.toNat n
theorem Yf6(n d:Nat)(hd:d≤n)(o:Option Int):sIx n d o≤n:=by
 cases o with
 | none=>exact hd
 | some v=>
  show(if v<0 then(v+(n:Int)).toNat else min v.toNat n)≤n
  by_cases hv:v<0
  ·rw[if_pos hv];omega
  ·rw[if_neg hv];exact Nat.min_le_right _ _
theorem Zf8(v:Int)(n d:Nat):(if v<0 then max (v+(n:Int)) 0 else min v (n:Int))=((sIx n d (some v):Nat):Int):=by
 show(if v<0 then max (v+(n:Int)) 0 else min v (n:Int))=(((if v<0 then(v+(n:Int)).toNat else min v.toNat n):Nat):Int)
 by_cases hv:v<0
 ·simp only[if_pos hv];omega
 ·simp only[if_neg hv];omega
theorem Z39(lo hi:Option Int)(n:Nat):Builtin.Slice.sliceAdjust lo hi 1 (n:Int)=(((sIx n 0 lo:Nat):Int),((sIx n n hi:Nat):Int)):=by
 have h1:¬((1:Int)<0):=by omega
 unfold Builtin.Slice.sliceAdjust
 simp only[h1,if_false]
 refine Prod.ext ?_ ?_
 ·cases lo with
  | none=>rfl
  | some v=>exact Zf8 v n 0
 ·cases hi with
  | none=>rfl
  | some v=>exact Zf8 v n n
theorem Z72(i j:Nat):Kv (i:Int) (j:Int) 1=j - i:=by
 unfold Kv
 have h1:(1:Int) >0:=by omega
 simp only[h1,if_true,Int.ediv_one]
 split<;>omega
theorem Np(p:IsPart v o)(h:Q o s):wpAny (model prog w) A (Builtin.Slice.slicePartIndex v) Q E s:=by
 cases p with
 | none=>exact slicePart_none h
 | int i t=>exact slicePart_int h
theorem Xr{sl:Addr}{vl vu:Value}{lo hi:Option Int}{n:Nat}{Q:Int×Int×Nat→Shared→Prop}(hs:s.heap.IsSliceOf sl vl vu .none)(pl:IsPart vl lo)(pu:IsPart vu hi)
  (h:Q (((sIx n 0 lo:Nat):Int),1,sIx n n hi - sIx n 0 lo) s):wpAny (model prog w) A (Builtin.Slice.sliceApplied (.ref sl) (pure (n:Int))) Q E s:=by
 obtain⟨os,hos,hcs,hds⟩:=id hs
 unfold Builtin.Slice.sliceApplied Builtin.Slice.sliceFields
 refine Aa (Aa (Hu hos hds (x:=vl) rfl (Aa (Hu hos hds (x:=vu) rfl (Aa (Hu hos hds (x:= .none) rfl (Ai ?_)))))))
 refine Aa (slicePart_none ?_)
 show wpAny _ _ (if ((1:Int)==0)=true then _ else _) _ _ s
 rw[if_neg (by decide)]
 refine Aa (Np pl (Aa (Np pu (Aa (Ai ?_)))))
 show wpAny _ _ (match Builtin.Slice.sliceAdjust lo hi 1 (n:Int) with | (lo,hi)=>pure (lo,(1:Int),Kv lo hi 1)) _ _ s
 rw[Z39 lo hi n]
 show wpAny _ _ (pure (((sIx n 0 lo:Nat):Int),(1:Int),Kv ((sIx n 0 lo:Nat):Int) ((sIx n n hi:Nat):Int) 1)) _ _ s
 rw[Z72]
 exact Ai h
theorem Zq6(xs:Array Value)(i k:Nat):((Hi k).filterMap fun(m:Nat)=>xs[((i:Int)+(m:Int) * 1).toNat]?).toArray=((xs.toList.drop i).take k).toArray:=by
 have e:(fun(m:Nat)=>xs[((i:Int)+(m:Int) * 1).toNat]?)=fun m=>xs[i+m]?:=by
  funext m
  have:((i:Int)+(m:Int) * 1).toNat=i+m:=by omega
  rw[this]
 rw[e]
 have:=pick_run xs i k
 rw[List.filterMap_map] at this
 have e2:((fun x=>xs[x]?) ∘ fun x=>i+x)=fun m=>xs[i+m]?:=rfl
 rw[e2] at this
 rw[this]
theorem Su{t sl:Addr}{items:Array Value}{vl vu:Value}{lo hi:Option Int}{Q:Value→Shared→Prop}(ht:IsTup s.heap t items)(hs:s.heap.IsSliceOf sl vl vu .none)(pl:IsPart vl lo)(pu:IsPart vu hi)
  (hw:¬(sIx items.size 0 lo=0∧sIx items.size items.size hi=items.size))
  (h:Q (.ref s.heap.objs.size) {s with heap:=s.heap.push {cls:= .type "tuple",data:= .seq ((items.toList.drop (sIx items.size 0 lo)).take (sIx items.size items.size hi - sIx items.size 0 lo)).toArray}})
  (hsz:items.size≤sizeLine):wpAny (model prog w) A (getItem (.ref t) (.ref sl)) Q E s:=by
 have htake:sizeOk (.seq ((items.toList.drop (sIx items.size 0 lo)).take (sIx items.size items.size hi - sIx items.size 0 lo)).toArray):=by
  show((items.toList.drop (sIx items.size 0 lo)).take (sIx items.size items.size hi - sIx items.size 0 lo)).toArray.size≤sizeLine
  rw[Ah,He,Kf,Dn]
  omega
 have hj:sIx items.size items.size hi≤items.size:=Yf6 _ _ (Nat.le_refl _) hi
 obtain⟨os,hos,hcs,hds⟩:=id hs
 have hTs:s.TypeIs (.ref sl) "slice":=⟨os,hos,hcs⟩
 unfold getItem
 try with_reducible refine Hk ?_
 first | refine Aa (Ai ?_) | skip
 refine Aa (wpAny_sequenceKey ht.typeIs (by decide) ?_)
 refine Aa (Im (name:=Str.ofString "__getitem__") ht.typeIs Hj
  (Ky Hj ht.typeIs entry_tuple_getitem ?_ (args_tuple_getitem _ _)))
 show wpAny _ _ (Builtin.Tuple.tupleItemsOf (.ref t) >>=_) _ _ s
 refine Aa (tupleItemsOf_ ht ?_)
 refine Aa (wpAny_typeOf hTs ?_)
 rw[if_pos (by decide)]
 refine Aa (Xr hs pl pu ?_)
 have hno:¬((((sIx items.size 0 lo:Nat):Int)==0&&(1:Int)==1&&(sIx items.size items.size hi - sIx items.size 0 lo)==items.size)=true):=by
  intro q
  rw[Bz9,Bz9] at q
  have q1:((sIx items.size 0 lo:Nat):Int)=0:=Kc q.1.1
  have q2:sIx items.size items.size hi - sIx items.size 0 lo=items.size:=Kc q.2
  exact hw ⟨by omega,by omega⟩
 show wpAny _ _ (if (((sIx items.size 0 lo:Nat):Int)==0&&(1:Int)==1&&(sIx items.size items.size hi - sIx items.size 0 lo)==items.size)=true then _ else _) _ _ s
 rw[if_neg hno,Zq6]
 first
  | exact Aa (m:=Kz _) (Io (Ai ⟨_,rfl,Ai h⟩) htake)
  | exact Aa (m:=Kz _) (Io (Aa (Ai (Ai ⟨_,rfl,Ai h⟩))) htake)
  | exact Aa (Aa (m:=Kz _) (Io (Ai (Ai ⟨_,rfl,Ai h⟩)) htake))
  | exact Aa (Aa (m:=Kz _) (Io (Ai ⟨_,rfl,Ai h⟩) htake))
end
end HT
namespace L2
open PySem PySem.Spec PyProof.Rows
abbrev TO:=St→Hp→(Option Int→Hp→Prop)→Prop
def PO(X:Cx)(e:Option Expr)(t:TO):Prop:=
 ∀(pins:List (Addr×Obj)) (s:Shared) (σ:St) (H:Hp) (Q:Option Int→Hp→Prop),Inv X pins σ H s→t σ H Q→
  wpAny (model X.prog X.w) X.A (evalPart e X.env) (fun u s'=>∃o H',Inv X pins σ H' s'∧IsPart u o∧Q o H') X.xe s
def Zz1:TO:=fun _ H Q=>Q none H
def Yk4(t:TE):TO:=fun σ H Q=>t σ H fun x H1=>∃i,x= .int i∧Q (some i) H1
section
variable{X:Cx}{e:Expr}{te:TE}{lo hi:Option Expr}{tl th:TO}{pos p2:Pos}
theorem Y27:PO X none Zz1:=by
 intro pins s σ H Q I h
 rw[evalPart_none]
 exact Ai ⟨none,H,I,.none,h⟩
theorem Y84(h:PE X e te):PO X (some e) (Yk4 te):=by
 intro pins s σ H Q I hw
 rw[evalPart_some]
 refine thn (h pins s σ H _ I hw) fun u s1 zz33=>?_
 obtain⟨x,H1,I1,r1,q1⟩:=zz33
 obtain⟨i,rfl,q⟩:=q1
 obtain⟨t,rfl⟩:=r1
 exact⟨some i,H1,I1,.int i t,q⟩
def SlR(X:Cx)(r:V→Option Int→Option Int→Hp→VK→Prop):Prop:=
 ∀(pins:List (Addr×Obj)) (s:Shared) (σ:St) (H:Hp) (x:V) (v vl vu:Value) (lo hi:Option Int) (sl:Addr) (Q:VK),Inv X pins σ H s→RelV x v→s.heap.IsSliceOf sl vl vu .none→IsPart vl lo→IsPart vu hi→r x lo hi H Q→
  ∃T id,typeLookup (.type T) "__getitem__"=pure (some (.builtin id))∧s.TypeIs v T∧wpAny (model X.prog X.w) X.A (getItem v (.ref sl)) (EP X pins σ Q) X.xe s
def tSl(r:V→Option Int→Option Int→Hp→VK→Prop)(te:TE)(tl th:TO):TE:=fun σ H Q=>te σ H fun x H1=>tl σ H1 fun l H2=>th σ H2 fun u H3=>r x l u H3 Q
theorem Z10(hr:SlR X r)(he:PE X e te)(hl:PO X lo tl)(hu:PO X hi th):PE X (.Subscript e (.Slice lo hi none p2) pos) (tSl r te tl th):=by
 intro pins s σ H Q I h
 refine Subscript_ (thn (he pins s σ H _ I h) fun v s1 zz34=>?_)
 obtain⟨x,H1,I1,r1,q1⟩:=zz34
 refine wpAny_Slice (thn (hl pins s1 σ H1 _ I1 q1) fun vl s2 ⟨l,H2,I2,pl,q2⟩=>thn (hu pins s2 σ H2 _ I2 q2) fun vu s3 zz36=>?_)
 obtain⟨u,H3,I3,pu,q3⟩:=zz36
 rw[evalPart_none]
 refine Ai ?_
 have I4:Inv X pins σ H3 {s3 with heap:=s3.heap.push {cls:= .type "slice",data:= .fields #[vl,vu,.none]}}:=I3.kept (t':=s3.toks) fun b ob q=>Ak _ q
 obtain⟨T,id,hT,ht,hg⟩:=hr pins {s3 with heap:=s3.heap.push {cls:= .type "slice",data:= .fields #[vl,vu,.none]}} σ H3 x v vl vu l u s3.heap.objs.size Q I4 r1 (Heap.IsSliceOf.new ..) pl pu q3
 show wpAny (model X.prog X.w) X.A (subscriptTail e (.Slice lo hi none p2) v (.ref s3.heap.objs.size)) (EP X pins σ Q) X.xe {s3 with heap:=s3.heap.push {cls:= .type "slice",data:= .fields #[vl,vu,.none]}}
 exact tail_any (ops:=[.ref s3.heap.objs.size,v]) ht hT hg (by with_unfolding_all rfl)
noncomputable def cutV(xs:List V)(lo hi:Option Int):List V:=(xs.drop (HT.sIx xs.length 0 lo)).take (HT.sIx xs.length xs.length hi - HT.sIx xs.length 0 lo)
theorem Pm(xs:List V)(lo hi:Option Int):(cutV xs lo hi).length≤xs.length:=by
 unfold cutV
 rw[He,Kf]
 omega
def rSlT(K:Ad):V→Option Int→Option Int→Hp→VK→Prop:=fun x lo hi H Q=>∃a xs,x= .ref a∧SqT K H a xs∧
 ¬(HT.sIx xs.length 0 lo=0∧HT.sIx xs.length xs.length hi=xs.length)∧∀p,H p=none→Q (.ref p) (upd H p (.tup (cutV xs lo hi)))
theorem Zy5:SlR X (rSlT X.K):=by
 intro pins s σ H x v vl vu lo hi sl Q I rx hs pl pu h
 obtain⟨a,xs,rfl,hx,hw,q⟩:=h
 cases rx
 obtain⟨its,r,ht,hz⟩:=I.tuple hx
 have hlen:its.toArray.size=xs.length:=by rw[Ah];exact r.length.symm
 refine⟨"tuple",_,Hj.lookup,ht.typeIs,?_⟩
 refine HT.Su ht hs pl pu (by rw[hlen];exact hw) ?_ (by rw[hlen];exact hz)
 rw[hlen]
 refine⟨.ref s.heap.objs.size,_,I.laid (t':=s.toks) (o:= .tup (cutV xs lo hi)) (fun b ob q=>Ak _ q) (Nat.le_refl _) ?_,rfl,q _ (I.hok.fresh (Nat.le_refl _))⟩
 exact⟨Nat.le_trans (Pm xs lo hi) hz,_,(r.drop (HT.sIx xs.length 0 lo)).take (HT.sIx xs.length xs.length hi - HT.sIx xs.length 0 lo),IsTup.new _ _⟩
def Yl8(K:Ad):R2:=fun x y H Q=>∃a b xs ys,x= .ref a∧y= .ref b∧SqT K H a xs∧SqT K H b ys∧xs≠[]∧xs.length+ys.length≤sizeLine∧
 (ys=[]→Q (.ref a) H)∧(ys≠[]→∀p,H p=none→Q (.ref p) (upd H p (.tup (xs++ys))))
theorem Vals.nil_iff(r:Vals xs us):us=[]↔xs=[]:=by
 cases r with
 | nil=>simp
 | cons _ _=>simp
theorem Y94:OpR X (binaryOp .Add) (Yl8 X.K):=by
 intro pins s σ H x y v u Q I rx ry h
 obtain⟨a,b,xs,ys,rfl,rfl,ha,hb,hx,hz,q1,q2⟩:=h
 cases rx
 cases ry
 obtain⟨its,r1,p1,_⟩:=I.tuple ha
 obtain⟨its2,r2,p2,_⟩:=I.tuple hb
 refine HT.Y39 p1 p2 (fun z=>hx (r1.nil_iff.mp z)) (fun z=>⟨.ref a,H,I,rfl,q1 (r2.nil_iff.mp z)⟩) (fun z=>?_) (by rw[←r1.length,←r2.length];exact hz)
 refine⟨.ref s.heap.objs.size,_,I.laid (t':=s.toks) (o:= .tup (xs++ys)) (fun b ob q=>Ak _ q) (Nat.le_refl _) ?_,rfl,q2 (fun w=>z (r2.nil_iff.mpr w)) _ (I.hok.fresh (Nat.le_refl _))⟩
 exact⟨by rw[Ab];exact hz,_,r1.append r2,IsTup.new _ _⟩
end
noncomputable def ixN(n:Nat)(i:Int):Option Nat:=if 0≤i then(if i<n then some i.toNat else none) else if -(n:Int)≤i then some (i+n).toNat else none
noncomputable def atI{α:Type}(xs:List α)(i:Int):Option α:=(ixN xs.length i).bind fun j=>xs[j]?
theorem Zj0{n:Nat}(h:ixN n i=some j):seqIndex? i n=some j∧j<n∧ -(n:Int)≤i∧i<n:=by
 unfold ixN at h
 by_cases h0:0≤i
 ·rw[if_pos h0] at h
  by_cases h1:i<n
  ·rw[if_pos h1] at h
   have e:i.toNat=j:=Dd h
   exact⟨by rw[seqIndex_of h0 h1,e],by omega,by omega,h1⟩
  ·rw[if_neg h1] at h;cases h
 ·rw[if_neg h0] at h
  by_cases h1:-(n:Int)≤i
  ·rw[if_pos h1] at h
   have e:(i+n).toNat=j:=Dd h
   exact⟨by rw[seqIndex_neg (by omega) h1,e],by omega,h1,by omega⟩
  ·rw[if_neg h1] at h;cases h
theorem C0{α:Type}{xs:List α}{i:Int}{v:α}(h:atI xs i=some v):∃j,seqIndex? i xs.length=some j∧xs[j]?=some v∧j<xs.length∧ -(xs.length:Int)≤i∧i<xs.length:=by
 unfold atI at h
 cases e:ixN xs.length i with
 | none=>rw[e] at h;cases h
 | some j=>
  rw[e] at h
  obtain⟨h1,h2,h3,h4⟩:=Zj0 e
  exact⟨j,h1,h,h2,h3,h4⟩
theorem Wd{α:Type}{xs:List α}{j:Nat}{v:α}(h:xs[j]?=some v):atI xs (j:Int)=some v:=by
 have hj:j<xs.length:=(Af.mp h).1
 have e:ixN xs.length (j:Int)=some j:=by
  unfold ixN
  rw[if_pos (by omega),if_pos (by omega)];simp
 unfold atI;rw[e];exact h
def Zb5(b:Expr):Prop:=∀o i,subscripted b false o i=operate [o,i] (getItem o i)
def IxR(X:Cx)(r:R2):Prop:=
 ∀(value slice:Expr) (pins:List (Addr×Obj)) (s:Shared) (σ:St) (H:Hp) (x y:V) (v u:Value) (Q:VK),Inv X pins σ H s→RelV x v→RelV y u→r x y H Q→
  subscripted slice false v u=operate [v,u] (getItem v u)→wpAny (model X.prog X.w) X.A (subscriptTail value slice v u) (EP X pins σ Q) X.xe s
def MtR(X:Cx)(id:String)(r:V→List V→Hp→VK→Prop):Prop:=
 ∀(pins:List (Addr×Obj)) (s:Shared) (σ:St) (H:Hp) (x:V) (xs:List V) (v:Value) (us:List Value) (Q:VK),Inv X pins σ H s→RelV x v→Vals xs us→r x xs H Q→
  wpAny (model X.prog X.w) X.A (call (.builtin id) (v::us)) (EP X pins σ Q) X.xe s
section
variable{X:Cx}{a b:Expr}{ta tb:TE}{pos:Pos}
theorem Yl6(hr:IxR X r)(ha:PE X a ta)(hb:PE X b tb)(hs:Zb5 b):PE X (.Subscript a b pos) (tOp r ta tb):=by
 intro pins s σ H Q I h
 exact Subscript_ (binT ha hb I h fun v u s2 x y H2 I2 rx ry q=>hr a b pins s2 σ H2 x y v u Q I2 rx ry q (hs _ _))
def rIxL(K:Ad):R2:=fun x y H Q=>∃p xs i v,x= .ref p∧y= .int i∧SqL K H p xs∧atI xs i=some v∧Q v H
def rIxT(K:Ad):R2:=fun x y H Q=>∃p xs i v,x= .ref p∧y= .int i∧SqT K H p xs∧atI xs i=some v∧Q v H
def rIxS:R2:=fun x y H Q=>∃z i c,x= .str z∧y= .int i∧z.length≤sizeLine∧atI z.cps.toList i=some c∧Q (.str ⟨#[c]⟩) H
theorem Y33:IxR X (rIxL X.K):=by
 intro value slice pins s σ H x y v u Q I rx ry h hs
 obtain⟨p,xs,i,z,rfl,rfl,hq,he,q⟩:=h
 cases rx
 obtain⟨t,rfl⟩:=ry
 obtain⟨its,r,pl,hz⟩:=I.list hq
 obtain⟨j,h1,h2,h3,h4,h5⟩:=C0 he
 obtain⟨w,ew,rw'⟩:=r.get h2
 have hl:=r.length
 have hn:=Pf
 have fin:EP X pins σ Q w s:=⟨z,H,I,rw',q⟩
 by_cases h0:0≤i
 ·have hj:i.toNat=j:=by
   rw[seqIndex_of h0 h5] at h1
   exact Dd h1
  exact item_listR pl.isList h0 (by omega) (by rw[hj];simpa using ew) fin hs
 ·have hj:(i+(its.toArray.size:Int)).toNat=j:=by
   rw[seqIndex_neg (by omega) h4] at h1
   rw[Ah,←hl]
   exact Dd h1
  exact subscriptTail_builtinR (x:=w) pl.isList.typeIs slot_list_getitem.lookup
   (wpAny_getItem_list_neg (Q:=fun r s'=>r=w∧EP X pins σ Q r s') pl.isList (by omega) (by rw[Ah]<;>omega) (by omega) (by rw[hj];simpa using ew) ⟨rfl,fin⟩) hs
theorem Zw8:IxR X (rIxT X.K):=by
 intro value slice pins s σ H x y v u Q I rx ry h hs
 obtain⟨p,xs,i,z,rfl,rfl,hq,he,q⟩:=h
 cases rx
 obtain⟨t,rfl⟩:=ry
 obtain⟨its,r,pl,hz⟩:=I.tuple hq
 obtain⟨j,h1,h2,h3,h4,h5⟩:=C0 he
 obtain⟨w,ew,rw'⟩:=r.get h2
 have hl:=r.length
 have hn:=Pf
 have fin:EP X pins σ Q w s:=⟨z,H,I,rw',q⟩
 exact subscriptTail_builtinR (x:=w) pl.typeIs slot_tuple_getitem.lookup
  (getItem_tuple (j:=j) (Q:=fun r s'=>r=w∧EP X pins σ Q r s') pl (by omega) (by omega) (by rw[Ah,←hl];exact h1) (by simpa using ew) ⟨rfl,fin⟩) hs
theorem Yf1:IxR X rIxS:=by
 intro value slice pins s σ H x y v u Q I rx ry h hs
 obtain⟨z,i,c,rfl,rfl,hz,he,q⟩:=h
 obtain⟨t,rfl⟩:=rx
 obtain⟨t',rfl⟩:=ry
 obtain⟨j,h1,h2,h3,h4,h5⟩:=C0 he
 have hl:z.cps.toList.length=z.length:=by simp[Str.length]
 rw[hl] at h1 h4 h5
 have hn:=Pf
 exact tail_any (typeIs_str s z t) slot_str_getitem.lookup (getItem_str (c:=c) (by
  have e1:decide (i< -(2 ^ 63:Int))=false:=decide_eq_false (by omega)
  have e2:decide (i ≥ 2 ^ 63)=false:=decide_eq_false (by omega)
  rw[e1,e2,Bool.or_false]) (by rw[h1];simpa using h2) ⟨.str ⟨#[c]⟩,H,I.tok _,⟨_,rfl⟩,q⟩) hs
theorem Z33(its:List Value)(n j:Nat)(u:Value):Kh (·.setIfInBounds j u) {cls:= .type "list",data:= .seq its.toArray n}={cls:= .type "list",data:= .seq (its.set j u).toArray n}:=by
 simp[Kh]
theorem Inv.lst{pins:List (Addr×Obj)}{σ:St}{H:Hp}{s:Shared}{p:Addr}{xs:List V}(I:Inv X pins σ H s)(h:H p=some (.lst xs)):
  ∃(its:List Value) (n:Nat),Vals xs its∧s.heap.get? p=some {cls:= .type "list",data:= .seq its.toArray n}∧xs.length≤sizeLine:=by
 obtain⟨z,its,n,r,e⟩:=I.hok p _ h
 exact⟨its,n,r,e,z⟩
theorem Inv.lstUpd{pins:List (Addr×Obj)}{σ:St}{H:Hp}{s:Shared}{p:Addr}{xs ys:List V}{its its':List Value}{n n':Nat}{f:Obj→Obj}(I:Inv X pins σ H s)(h:H p=some (.lst xs))
  (ho:s.heap.get? p=some {cls:= .type "list",data:= .seq its.toArray n}) (hf:f {cls:= .type "list",data:= .seq its.toArray n}={cls:= .type "list",data:= .seq its'.toArray n'}) (r:Vals ys its') (hz:ys.length≤sizeLine) (t:Nat):
  Inv X pins σ (upd H p (.lst ys)) {s with heap:=s.heap.update p f,toks:=t}:=by
 have e:(s.heap.update p f).get? p=some {cls:= .type "list",data:= .seq its'.toArray n'}:=by
  rw[Ii f ho (by rw[hf]<;>rfl),hf]
 refine I.write (x:=p) (e:=p) (by rw[h];trivial) (.inl rfl) (fun b u hb q=>(Ki _ _ (Bs hb)).trans q) ⟨_,e⟩ ?_
 exact⟨hz,its',n',r,e⟩
def Yk2:V→V→V→Hp→(Hp→Prop)→Prop:=fun o i v H Q=>∃p xs k j,o= .ref p∧i= .int k∧H p=some (.lst xs)∧ixN xs.length k=some j∧Q (upd H p (.lst (xs.set j v)))
theorem Zq0:PSet X Yk2:=by
 intro pins s σ H o i v ov iv u Q I ro ri rv h
 obtain⟨p,xs,k,j,rfl,rfl,hp,hj,q⟩:=h
 cases ro
 obtain⟨t,rfl⟩:=ri
 obtain⟨its,n,r,ho,hz⟩:=I.lst hp
 obtain⟨h1,h2,h3,h4⟩:=Zj0 hj
 have hl:=r.length
 have hn:=Pf
 have I':Inv X pins σ (upd H p (.lst (xs.set j v))) {s with heap:=s.heap.update p (Kh (·.setIfInBounds j u))}:=
  I.lstUpd hp ho (Z33 its n j u) (r.set rv j) (by rw[Az];exact hz) s.toks
 by_cases h0:0≤k
 ·have hk:k.toNat=j:=by
   rw[seqIndex_of h0 h4] at h1
   exact Dd h1
  exact PySem.W.ki_setAt ho h0 (by omega) (by rw[Ah,←hl];exact h4) (by rw[hk];exact⟨_,I',q⟩)
 ·have hk:(k+(its.toArray.size:Int)).toNat=j:=by
   rw[seqIndex_neg (by omega) h3] at h1
   rw[Ah,←hl]
   exact Dd h1
  exact PySem.W.ki_setBack ho (by omega) (by rw[Ah,←hl];exact h3) (by omega) (by rw[hk];exact⟨_,I',q⟩)
theorem Fj(lo hi:Option Int)(n:Nat):(sliceBounds lo hi none n).1=((HT.sIx n 0 lo:Nat):Int)∧(sliceBounds lo hi none n).2.1=((HT.sIx n n hi:Nat):Int)∧(sliceBounds lo hi none n).2.2=1:=by
 refine⟨?_,?_,rfl⟩
 ·cases lo with
  | none=>simp[sliceBounds,HT.sIx]
  | some i=>
   simp only[sliceBounds,HT.sIx,Option.getD_none,show(1:Int) >0 by decide,if_true]
   by_cases h:i<0
   ·simp only[h,if_true]<;>omega
   ·simp only[h,if_false]<;>omega
 ·cases hi with
  | none=>simp[sliceBounds,HT.sIx]
  | some i=>
   simp only[sliceBounds,HT.sIx,Option.getD_none,show(1:Int) >0 by decide,if_true]
   by_cases h:i<0
   ·simp only[h,if_true]<;>omega
   ·simp only[h,if_false]<;>omega
theorem Jw(its:List Value)(lo hi:Option Int):slicePick its.toArray lo hi none=((its.drop (HT.sIx its.length 0 lo)).take (HT.sIx its.length its.length hi - HT.sIx its.length 0 lo)).toArray:=by
 obtain⟨h1,h2,h3⟩:=Fj lo hi its.toArray.size
 unfold slicePick
 rw[h1,h2,h3]
 simp only[sliceRange_one,pick_run,Ah]<;>rfl
def rSlL(K:Ad):V→Option Int→Option Int→Hp→VK→Prop:=fun x lo hi H Q=>∃a xs,x= .ref a∧SqL K H a xs∧∀p,H p=none→Q (.ref p) (upd H p (.lst (cutV xs lo hi)))
theorem Y74:SlR X (rSlL X.K):=by
 intro pins s σ H x v vl vu lo hi sl Q I rx hs pl pu h
 obtain⟨a,xs,rfl,hx,q⟩:=h
 cases rx
 obtain⟨its,r,ht,hz⟩:=I.list hx
 have hlen:=r.length
 refine⟨"list",_,slot_list_getitem.lookup,ht.isList.typeIs,?_⟩
 refine wpAny_getItem_list_slice ht.isList hs pl pu .none (by simp) ?_ (by rw[Ah]<;>omega)
 rw[Jw,←hlen]
 refine⟨.ref s.heap.objs.size,_,I.laid (t':=s.toks) (o:= .lst (cutV xs lo hi)) (fun b ob q=>Ak _ q) (Nat.le_refl _) ?_,rfl,q _ (I.hok.fresh (Nat.le_refl _))⟩
 exact⟨Nat.le_trans (Pm xs lo hi) hz,_,0,(r.drop (HT.sIx xs.length 0 lo)).take (HT.sIx xs.length xs.length hi - HT.sIx xs.length 0 lo),Aw _ rfl⟩
noncomputable def X7:V→Bool
 | .non=>true
 | .bl _=>true
 | .int _=>true
 | .str _=>true
 | _=>false
noncomputable def eqV:V→V→Bool
 | .non,.non=>true
 | .bl a,.bl b=>a==b
 | .bl a,.int b=>(if a then 1 else 0)==b
 | .int a,.bl b=>a==(if b then 1 else 0)
 | .int a,.int b=>a==b
 | .str a,.str b=>a==b
 | _,_=>false
theorem Bt{y x:V}(ry:RelV y u)(rx:RelV x v)(fy:X7 y=true)(fx:X7 x=true):Dq A s u v (eqV y x):=by
 cases y with
 | non=>
  cases ry
  cases x with
  | non=>cases rx;exact Dq.same _
  | bl b=>cases rx;exact Dq.none_bool b
  | int b=>obtain⟨t,rfl⟩:=rx;exact Dq.none_int b t
  | str b=>obtain⟨t,rfl⟩:=rx;exact Dq.none_str b t
  | _=>exact absurd (show false=true from fx) Bf9
 | bl a=>
  cases ry
  cases x with
  | non=>cases rx;exact Dq.bool_none a
  | bl b=>cases rx;exact Dq.bool_bool a b
  | int b=>obtain⟨t,rfl⟩:=rx;exact Dq.bool_int a b t
  | str b=>obtain⟨t,rfl⟩:=rx;exact Dq.bool_str a b t
  | _=>exact absurd (show false=true from fx) Bf9
 | int a=>
  obtain⟨t',rfl⟩:=ry
  cases x with
  | non=>cases rx;exact Dq.int_none a t'
  | bl b=>cases rx;exact Dq.int_bool a t' b
  | int b=>obtain⟨t,rfl⟩:=rx;exact Dq.int_int a t' b t
  | str b=>obtain⟨t,rfl⟩:=rx;exact Dq.int_str a t' b t
  | _=>exact absurd (show false=true from fx) Bf9
 | str a=>
  obtain⟨t',rfl⟩:=ry
  cases x with
  | non=>cases rx;exact Dq.str_none a t'
  | bl b=>cases rx;exact Dq.str_bool a t' b
  | int b=>obtain⟨t,rfl⟩:=rx;exact Dq.str_int a t' b t
  | str b=>obtain⟨t,rfl⟩:=rx;exact Dq.str_str a t' b t
  | _=>exact absurd (show false=true from fx) Bf9
 | _=>exact absurd (show false=true from fy) Bf9
noncomputable def eqU(x:V)(u:Value):Bool:=match u with
 | .none=>eqV .non x
 | .bool b=>eqV (.bl b) x
 | .int i _=>eqV (.int i) x
 | .str z _=>eqV (.str z) x
 | _=>false
theorem Zw0{x y:V}(r:RelV y u)(f:X7 y=true):eqU x u=eqV y x:=by
 cases y with
 | non=>cases r;rfl
 | bl b=>cases r;rfl
 | int i=>obtain⟨t,rfl⟩:=r;rfl
 | str z=>obtain⟨t,rfl⟩:=r;rfl
 | _=>exact absurd (show false=true from f) Bf9
theorem Pj{x:V}:∀{xs:List V} {us:List Value},Vals xs us→xs.all X7=true→us.any (eqU x)=xs.any fun y=>eqV y x
 | _,_,.nil,_=>rfl
 | y::xs,u::us,.cons r t,f=>by
  rw[Ho,Bz9] at f
  rw[Iu,Iu,Zw0 r f.1,Pj t f.2]
theorem Vx{x:V}(rx:RelV x v)(fx:X7 x=true):∀{xs:List V} {us:List Value},Vals xs us→xs.all X7=true→∀u∈us,Dq A s u v (eqU x u)
 | _,_,.nil,_=>fun u hu=>by cases hu
 | y::xs,u::us,.cons r t,f=>fun u' hu=>by
  rw[Ho,Bz9] at f
  rcases Ag.mp hu with rfl | hu
  ·rw[Zw0 r f.1];exact Bt r rx f.1 fx
  ·exact Vx rx fx t f.2 u' hu
noncomputable def inV(x:V)(xs:List V):Bool:=xs.any fun y=>eqV y x
def rIn(K:Ad)(neg:Bool):R2:=fun x y H Q=>∃p xs,y= .ref p∧(SqL K H p xs∨SqT K H p xs)∧X7 x=true∧xs.all X7=true∧Q (.bl (if neg then !inV x xs else inV x xs)) H
theorem Zg1:OpR X (compareOp .In) (rIn X.K false):=by
 intro pins s σ H x y v u Q I rx ry h
 obtain⟨p,xs,rfl,hq,fx,fs,q⟩:=h
 cases ry
 rcases hq with hq | hq
 ·obtain⟨its,r,pl,hz⟩:=I.list hq
  refine SeqAt.in_listAt (eqU x) pl.isList (fun w hw=>Vx rx fx r fs w (by simpa using hw)) ⟨.bl _,H,I,rfl,?_⟩
  rw[show its.toArray.any (eqU x)=its.any (eqU x) by simp,Pj r fs]
  exact q
 ·obtain⟨its,r,pl,hz⟩:=I.tuple hq
  refine SeqAt.in_tupleAt (eqU x) pl (fun w hw=>Vx rx fx r fs w (by simpa using hw)) ⟨.bl _,H,I,rfl,?_⟩
  rw[show its.toArray.any (eqU x)=its.any (eqU x) by simp,Pj r fs]
  exact q
theorem Gh:OpR X (compareOp .NotIn) (rIn X.K true):=by
 intro pins s σ H x y v u Q I rx ry h
 obtain⟨p,xs,rfl,hq,fx,fs,q⟩:=h
 cases ry
 rcases hq with hq | hq
 ·obtain⟨its,r,pl,hz⟩:=I.list hq
  refine SeqAt.notIn_listAt (eqU x) pl.isList (fun w hw=>Vx rx fx r fs w (by simpa using hw)) ⟨.bl _,H,I,rfl,?_⟩
  rw[show its.toArray.any (eqU x)=its.any (eqU x) by simp,Pj r fs]
  exact q
 ·obtain⟨its,r,pl,hz⟩:=I.tuple hq
  refine SeqAt.notIn_tupleAt (eqU x) pl (fun w hw=>Vx rx fx r fs w (by simpa using hw)) ⟨.bl _,H,I,rfl,?_⟩
  rw[show its.toArray.any (eqU x)=its.any (eqU x) by simp,Pj r fs]
  exact q
theorem W9:X1 X (.builtin "len") (fun xs H Q=>∃p ys,xs=[.ref p]∧(SqL X.K H p ys∨SqT X.K H p ys)∧Q (.int ys.length) H):=by
 intro pins s σ H xs us Q I r h
 obtain⟨p,ys,rfl,hq,q⟩:=h
 obtain⟨u,rfl,rx⟩:=Tn r
 cases rx
 have hn:=Pf
 rcases hq with hq | hq
 ·obtain⟨its,r',pl,hz⟩:=I.list hq
  have hlen:=r'.length
  exact Calls.call_len_list pl.isList (by simp only[Ah]<;>omega) ⟨.int ys.length,H,I.tok _,⟨s.toks+1,by rw[Ah,hlen]⟩,q⟩
 ·obtain⟨its,r',pl,hz⟩:=I.tuple hq
  have hlen:=r'.length
  exact len_tuple pl (by simp only[Ah]<;>omega) ⟨.int ys.length,H,I.tok _,⟨s.toks+1,by rw[Ah,hlen]⟩,q⟩
theorem Fp:X1 X (.builtin "len") (fun xs H Q=>∃z,xs=[.str z]∧z.length≤sizeLine∧Q (.int z.length) H):=by
 intro pins s σ H xs us Q I r h
 obtain⟨z,rfl,hz,q⟩:=h
 obtain⟨u,rfl,t,rfl⟩:=Tn r
 have hn:=Pf
 exact len_str (by omega) ⟨.int z.length,H,I.tok _,⟨_,rfl⟩,q⟩
theorem Jg:X1 X (.type "tuple") (fun xs H Q=>∃p ys,xs=[.ref p]∧((SqL X.K H p ys∧∀l,H l=none→Q (.ref l) (upd H l (.tup ys)))∨(SqT X.K H p ys∧Q (.ref p) H))):=by
 intro pins s σ H xs us Q I r h
 obtain⟨p,ys,rfl,h⟩:=h
 obtain⟨u,rfl,rx⟩:=Tn r
 cases rx
 rcases h with⟨hq,q⟩ | ⟨hq,q⟩
 ·obtain⟨its,r',pl,hz⟩:=I.list hq
  have hlen:=r'.length
  refine call_tuple_list pl.isList (fun h' kp=>?_) (by simp only[Ah]<;>omega)
  have I1:Inv X pins σ H {s with heap:=h'}:=I.kept (t':=s.toks) kp
  have I2:Inv X pins σ (upd H h'.objs.size (.tup ys)) {s with heap:=h'.push {cls:= .type "tuple",data:= .seq its.toArray}}:=
   I1.laid (t':=s.toks) (fun b o e=>Ak _ e) (Nat.le_refl _) (show Yh X.prog X.w _ _ _ (.tup ys) from⟨hz,its,r',IsTup.new _ _⟩)
  exact⟨.ref h'.objs.size,_,I2,rfl,q _ (I1.hok.fresh (Nat.le_refl _))⟩
 ·obtain⟨its,r',pl,hz⟩:=I.tuple hq
  exact call_tuple_same pl ⟨.ref p,H,I,rfl,q⟩
def tyV(K:Ad)(T:String)(x:V)(H:Hp):Prop:=match x with
 | .str _=>T="str"
 | .int _=>T="int"
 | .ref p=>(T="list"∧∃xs,SqL K H p xs)∨(T="tuple"∧∃o,K.lookup p=some o∧o.cls= .type "tuple"∧o.dict=none)∨
   (T="dict"∧((∃kvs,H p=some (.dK kvs))∨∃kvs,H p=some (.dT kvs)))∨(T="set"∧∃S n,H p=some (.set S n))
 | _=>False
theorem Zx4{x:V}(I:Inv X pins σ H s)(r:RelV x v)(ty:tyV X.K T x H):
  s.TypeIs v T∧∀a,v= .ref a→∃ob,s.heap.get? a=some ob∧ob.dict=none:=by
 cases x with
 | str z=>
  obtain⟨t,rfl⟩:=r
  cases (show T="str" from ty)
  exact⟨typeIs_str s z t,fun _ e=>nomatch e⟩
 | int i=>
  obtain⟨t,rfl⟩:=r
  cases (show T="int" from ty)
  exact⟨typeIs_int s i t,fun _ e=>nomatch e⟩
 | ref p=>
  cases r
  rcases ty with⟨rfl,xs,hq⟩ | ⟨rfl,o,hk,hc,hd⟩ | ⟨rfl,hk⟩ | ⟨rfl,S,n,hk⟩
  ·obtain⟨its,_,pl,_⟩:=I.list hq
   refine⟨pl.isList.typeIs,fun a e=>?_⟩
   cases e
   obtain⟨o,n,e,c,hd,_⟩:=pl
   exact⟨o,e,hd⟩
  ·refine⟨⟨o,I.kIn p o hk,hc⟩,fun a e=>?_⟩
   cases e
   exact⟨o,I.kIn _ o hk,hd⟩
  ·have z:∃o,s.heap.get? p=some o∧o.ExactDict:=by
    rcases hk with⟨kvs,hk⟩ | ⟨kvs,hk⟩
    ·obtain⟨_,_,_,_,o,_,_,e,ex,_⟩:=I.hok p _ hk
     exact⟨o,e,ex⟩
    ·obtain⟨_,_,_,_,o,_,_,e,ex,_⟩:=I.hok p _ hk
     exact⟨o,e,ex⟩
   obtain⟨o,e,ex⟩:=z
   refine⟨⟨o,e,ex.1⟩,fun a e2=>?_⟩
   cases e2
   exact⟨o,e,ex.2.1⟩
  ·obtain⟨o,_,_,_,e,ex,_⟩:=I.hok p _ hk
   refine⟨⟨o,e,ex.1⟩,fun a e2=>?_⟩
   cases e2
   exact⟨o,e,ex.2.1⟩
 | _=>exact Di ty
def tBM0(K:Ad)(T:String)(r:V→List V→Hp→VK→Prop)(to:TE):TE:=fun σ H Q=>to σ H fun x H1=>tyV K T x H1∧r x [] H1 Q
def tBM(K:Ad)(T:String)(r:V→List V→Hp→VK→Prop)(to:TE)(t:TA):TE:=fun σ H Q=>to σ H fun x H1=>tyV K T x H1∧t σ H1 fun xs H2=>r x xs H2 Q
variable{o e:Expr}{es:List Expr}{to:TE}{t:TA}{name:Str}{apos cpos:Pos}{T id:String}{r:V→List V→Hp→VK→Prop}
theorem Yg1(pa:PlainAttrs T)(slot:Slot T name id)(hty:typeOf (.builtin id)=pure (.type "method_descriptor"))(hm:MtR X id r)(ho:PE X o to)
  (hbase:attributeBase o name X.env (eval o X.env)=eval o X.env:=by rfl) (hline:(apos.endLine==cpos.line)=true:=by rfl):PE X (.Call (.Attribute o name apos) [] [] cpos) (tBM0 X.K T r to):=by
 intro pins s σ H Q I h
 refine wpAny_Call_method0_late hbase hline (thn (ho pins s σ H _ I h) fun v s1 zz37=>?_)
 obtain⟨x,H1,I1,r1,ty,q1⟩:=zz37
 obtain⟨h1,h2⟩:=Zx4 I1 r1 ty
 exact⟨T,id,pa,slot,hty,h1,h2,Calls.callWith_builtin rfl (PySem.evalArgs_none (hm pins s1 σ H1 x [] v [] Q I1 r1 .nil q1))⟩
theorem Yn6(pa:PlainAttrs T)(slot:Slot T name id)(hty:typeOf (.builtin id)=pure (.type "method_descriptor"))(hm:MtR X id r)(ho:PE X o to)(ha:PA X (e::es) t)
  (hbase:attributeBase o name X.env (eval o X.env)=eval o X.env:=by rfl)
  (hfew:((backTo cpos (starEach (e::es) X.env)).all (fun x=> !x.1)&&(backToKw cpos (keywordEach [] X.env)).all (fun x=>x.1.isSome)
   &&decide ((e::es).length+([]:List Keyword).length+(if ([]:List Keyword).isEmpty then 0 else 1)<30))=true:=by rfl)
  (hline:(apos.endLine==cpos.line)=true:=by rfl) (hs:starEach (e::es) X.env=(false,eval e X.env)::starEach es X.env:=by rfl) (hplain:(backTo cpos (starEach es X.env)).any (·.1)=false:=by rfl):
  PE X (.Call (.Attribute o name apos) (e::es) [] cpos) (tBM X.K T r to t):=by
 intro pins s σ H Q I h
 refine wpAny_Call_method_late hbase hfew hline rfl (thn (ho pins s σ H _ I h) fun v s1 zz38=>?_)
 obtain⟨x,H1,I1,r1,ty,q1⟩:=zz38
 obtain⟨h1,h2⟩:=Zx4 I1 r1 ty
 refine⟨T,id,pa,slot,hty,h1,h2,?_⟩
 have hA:=ha cpos pins s1 σ H1 _ I1 q1
 rw[hs] at hA ⊢
 refine Calls.callWith_builtin (by show(false || (backTo cpos (starEach es X.env)).any (·.1))=false;rw[hplain]<;>rfl) (Calls.evalArgs_plain ?_)
 exact thn hA fun us s2 zz39=>by obtain⟨vs,H2,I2,r2,q2⟩:=zz39;exact hm pins s2 σ H2 x vs v us Q I2 r1 r2 q2
end
def MtM(X:Cx)(id:String)(r:V→List V→Hp→VK→Prop):Prop:=
 ∀(pins:List (Addr×Obj)) (s:Shared) (σ:St) (H:Hp) (x:V) (xs:List V) (v:Value) (us:List Value) (Q:VK),Inv X pins σ H s→RelV x v→Vals xs us→r x xs H Q→
  wpAny (model X.prog X.w) X.A (call (.builtin id) (v::us)) (EP X pins σ Q) X.xe s
theorem Vals.one:∀{x:V} {us:List Value},Vals [x] us→∃u,us=[u]∧RelV x u
 | _,_,.cons r .nil=>⟨_,rfl,r⟩
theorem Vals.two:∀{x y:V} {us:List Value},Vals [x,y] us→∃u v,us=[u,v]∧RelV x u∧RelV y v
 | _,_,_,.cons r (.cons q .nil)=>⟨_,_,rfl,r,q⟩
theorem Vals.zero:∀{us:List Value},Vals [] us→us=[]
 | _,.nil=>rfl
theorem Vals.dropLast(h:Vals xs us):Vals xs.dropLast us.dropLast:=by
 induction h with
 | nil=>exact .nil
 | cons r t ih=>
  cases t with
  | nil=>exact .nil
  | cons q t'=>exact .cons r ih
theorem Vals.eraseIdx:∀{xs:List V} {us:List Value} (i:Nat),Vals xs us→Vals (xs.eraseIdx i) (us.eraseIdx i)
 | _,_,_,.nil=> .nil
 | _,_,0,.cons _ t=>t
 | _,_,i+1,.cons r t=> .cons r (Vals.eraseIdx i t)
theorem Vals.reverse(h:Vals xs us):Vals xs.reverse us.reverse:=by
 induction h with
 | nil=>exact .nil
 | cons r t ih=>rw[Lp,Lp];exact Vals.append ih (.cons r .nil)
theorem Vals.rep(h:Vals xs us):∀k:Nat,Vals (Df k xs).flatten (Df k us).flatten
 | 0=> .nil
 | k+1=>by
  rw[Ie,Ie,Kr,Kr]
  exact Vals.append h (Vals.rep h k)
theorem Z54{α:Type}(l:List α):l.eraseIdx (l.length - 1)=l.dropLast:=by
 induction l with
 | nil=>rfl
 | cons a r ih=>
  cases r with
  | nil=>rfl
  | cons b r=>
   have e:(a::b::r).length - 1=((b::r).length - 1)+1:=by
    have h1:(a::b::r).length=r.length+2:=rfl
    have h2:(b::r).length=r.length+1:=rfl
    omega
   rw[e,List.eraseIdx_cons_succ,ih]
   all_goals rfl
theorem F8{α:Type}:∀(l:List α) (i:Nat),(l.eraseIdx i).length≤l.length
 | [],_=>Nat.le_refl _
 | _::_,0=>Nat.le_succ _
 | _::r,i+1=>Nat.succ_le_succ (F8 r i)
theorem Fu(its:List Value):∀(k:Nat) (acc:List Value),
  List.foldl (fun x1 x2=>x1++x2) acc.toArray (Df k its.toArray)=(acc++(Df k its).flatten).toArray
 | 0,acc=>by simp
 | k+1,acc=>by
  have e:acc.toArray++its.toArray=(acc++its).toArray:=by simp
  have e2:(acc++its)++(Df k its).flatten=acc++(Df (k+1) its).flatten:=by
   rw[Ie,Kr,Ay]
  rw[←e2,←Fu its k (acc++its),←e,Ie,List.foldl_cons]
section
variable{X:Cx}{pins:List (Addr×Obj)}{σ:St}{H:Hp}{s:Shared}{l b:Addr}{xs ys zs:List V}
theorem Inv.lset{its its':List Value}{n:Nat}{f:Array Value→Array Value}{t':Nat}(I:Inv X pins σ H s)(hH:H l=some (.lst xs))
  (e:s.heap.get? l=some {cls:= .type "list",data:= .seq its.toArray n}) (hf:f its.toArray=its'.toArray) (hv:Vals ys its') (hz:ys.length≤sizeLine):
  Inv X pins σ (upd H l (.lst ys)) {s with heap:=s.heap.update l (Kh f),toks:=t'}:=by
 have q:=PySem.IsL.update e f
 rw[hf] at q
 refine I.write (x:=l) (e:=l) (by rw[hH];exact trivial) (.inl rfl) (fun b' u hb hu=>(Ki s.heap (Kh f) (Bs hb)).trans hu) ⟨_,q⟩ ?_
 exact⟨hz,its',_,hv,q⟩
theorem Inv.lnew(I:Inv X pins σ H s)(hv:Vals ys its)(hz:ys.length≤sizeLine):
  Inv X pins σ (upd H s.heap.objs.size (.lst ys)) {s with heap:=s.heap.push {cls:= .type "list",data:= .seq its.toArray},toks:=t'}:=
 I.laid (fun _ _ q=>Ak _ q) (Nat.le_refl _) ⟨hz,its,0,hv,Aw _ rfl⟩
theorem Inv.fresh(I:Inv X pins σ H s):H s.heap.objs.size=none:=I.hok.fresh (Nat.le_refl _)
theorem Inv.lstM(I:Inv X pins σ H s)(hH:H l=some (.lst xs)):xs.length≤sizeLine∧∃(its:List Value) (n:Nat),Vals xs its∧xs.length=its.length∧s.heap.get? l=some {cls:= .type "list",data:= .seq its.toArray n}:=by
 obtain⟨z,its,n,r,e⟩:=I.hok l _ hH
 exact⟨z,its,n,r,r.length,e⟩
theorem Bh{n:Nat}(h:n≤sizeLine):La n=false:=by
 unfold La
 exact decide_eq_false (by omega)
end
section
variable{X:Cx}
def Y20:V→List V→Hp→VK→Prop:=fun x vs H Q=>∃l xs y,x= .ref l∧vs=[y]∧H l=some (.lst xs)∧xs.length<sizeLine∧Q .non (upd H l (.lst (xs++[y])))
theorem Pc:MtM X "list.append" Y20:=by
 intro pins s σ H x vs v us Q I rx rv h
 obtain⟨l,xs,y,rfl,rfl,hH,hz,q⟩:=h
 cases rx
 obtain⟨u,rfl,ru⟩:=rv.one
 obtain⟨z,its,n,r,hl,e⟩:=I.lstM hH
 refine Kw F.slot_list_append ⟨_,e,rfl⟩ F.entry_list_append (F.args_list_append_2 _ _) (PySem.list_append l its.toArray n u (by rw[Ah];omega)) ⟨e,?_⟩
 refine⟨.non,_,I.lset (its':=its++[u]) hH e (by simp) (r.append (.cons ru .nil)) ?_,rfl,q⟩
 rw[Ab,Aq]
 omega
def Y24:V→List V→Hp→VK→Prop:=fun x vs H Q=>∃l b xs zs,x= .ref l∧vs=[.ref b]∧H l=some (.lst xs)∧H b=some (.lst zs)∧xs.length+zs.length≤sizeLine∧Q .non (upd H l (.lst (xs++zs)))
theorem Za3:MtM X "list.extend" Y24:=by
 intro pins s σ H x vs v us Q I rx rv h
 obtain⟨l,b,xs,zs,rfl,rfl,hH,hB,hz,q⟩:=h
 cases rx
 obtain⟨u,rfl,ru⟩:=rv.one
 cases ru
 obtain⟨z,its,n,r,hl,e⟩:=I.lstM hH
 obtain⟨z2,its2,n2,r2,hl2,e2⟩:=I.lstM hB
 have hsz:its.toArray.size+its2.toArray.size≤sizeLine:=by rw[Ah,Ah];omega
 have hlong:¬(!its.toArray.isEmpty&&La (its.toArray.size+its2.toArray.size))=true:=by
  rw[Bh hsz,Bool.and_false]
  exact Bf9
 refine Kw F.slot_list_extend ⟨_,e,rfl⟩ F.entry_list_extend (F.args_list_extend_2 _ _)
  (AutoSeq1.list_extend_list_list_0 l its.toArray n b its2.toArray n2 hlong (by rw[Ah];omega) (by omega)) ⟨e,e2,?_⟩
 refine⟨.non,_,I.lset (its':=its++its2) hH e (by simp) (r.append r2) ?_,rfl,q⟩
 rw[Ab]
 omega
def rPop:V→List V→Hp→VK→Prop:=fun x vs H Q=>∃l xs y,x= .ref l∧vs=[]∧H l=some (.lst xs)∧xs[xs.length - 1]?=some y∧Q y (upd H l (.lst xs.dropLast))
theorem Yc6:MtM X "list.pop" rPop:=by
 intro pins s σ H x vs v us Q I rx rv h
 obtain⟨l,xs,y,rfl,rfl,hH,hy,q⟩:=h
 cases rx
 have hus:=rv.zero
 subst hus
 obtain⟨z,its,n,r,hl,e⟩:=I.lstM hH
 obtain⟨u,hu,ru⟩:=r.get hy
 have hy':its.toArray[its.toArray.size - 1]?=some u:=by
  show its.toArray[its.length - 1]?=some u
  rw[←Array.getElem?_toList,←hl]
  exact hu
 refine Kw F.slot_list_pop ⟨_,e,rfl⟩ F.entry_list_pop (F.args_list_pop_1 _) (MeetsSeq.list_pop_last l its.toArray n u hy' (by rw[Ah];omega)) ⟨e,?_⟩
 refine⟨y,_,I.lset (its':=its.dropLast) hH e ?_ r.dropLast ?_,ru,q⟩
 ·show its.toArray.eraseIdxIfInBounds (its.toArray.size - 1)=its.dropLast.toArray
  rw[Ah,List.eraseIdxIfInBounds_toArray,Z54]
 ·rw[List.length_dropLast]
  omega
def Yi5:V→List V→Hp→VK→Prop:=fun x vs H Q=>∃l xs i k y,x= .ref l∧vs=[.int i]∧H l=some (.lst xs)∧ -(2 ^ 63)≤i∧i<2 ^ 63∧seqIndex? i xs.length=some k∧xs[k]?=some y∧Q y (upd H l (.lst (xs.eraseIdx k)))
theorem Zs1:MtM X "list.pop" Yi5:=by
 intro pins s σ H x vs v us Q I rx rv h
 obtain⟨l,xs,i,k,y,rfl,rfl,hH,h1,h2,hk,hy,q⟩:=h
 cases rx
 obtain⟨u,rfl,ru⟩:=rv.one
 obtain⟨t,rfl⟩:=ru
 obtain⟨z,its,n,r,hl,e⟩:=I.lstM hH
 obtain⟨w,hw,rw'⟩:=r.get hy
 refine Kw F.slot_list_pop ⟨_,e,rfl⟩ F.entry_list_pop (F.args_list_pop_2 _ _)
  (MeetsSeq.list_pop_at l its.toArray n i t k w (fitsIndex_both h1 h2) (by rw[Ah,←hl];exact hk) (by rw[←Array.getElem?_toList];exact hw) (by rw[Ah];omega)) ⟨e,?_⟩
 refine⟨y,_,I.lset (its':=its.eraseIdx k) hH e ?_ (r.eraseIdx k) ?_,rw',q⟩
 ·show its.toArray.eraseIdxIfInBounds k=(its.eraseIdx k).toArray
  rw[List.eraseIdxIfInBounds_toArray]
 ·have:=F8 xs k
  omega
def rCat:R2:=fun x y H Q=>∃l b xs zs,x= .ref l∧y= .ref b∧H l=some (.lst xs)∧H b=some (.lst zs)∧xs.length+zs.length≤sizeLine∧∀p,H p=none→Q (.ref p) (upd H p (.lst (xs++zs)))
theorem Yh8:OpR X (binaryOp .Add) rCat:=by
 intro pins s σ H x y v u Q I rx ry h
 obtain⟨l,b,xs,zs,rfl,rfl,hH,hB,hz,q⟩:=h
 cases rx
 cases ry
 obtain⟨z,its,n,r,hl,e⟩:=I.lstM hH
 obtain⟨z2,its2,n2,r2,hl2,e2⟩:=I.lstM hB
 refine PySem.P.add_list e e2 ?_ (by rw[Ah,Ah];omega)
 have ea:its.toArray++its2.toArray=(its++its2).toArray:=by simp
 rw[ea]
 exact⟨.ref _,_,I.lnew (t':=s.toks) (r.append r2) (by rw[Ab];omega),rfl,q _ I.fresh⟩
def rRep:R2:=fun x y H Q=>∃l k xs,x= .ref l∧y= .int k∧H l=some (.lst xs)∧ -(2 ^ 63)≤k∧k<2 ^ 63∧xs.length * k.toNat≤sizeLine∧
 ∀p,H p=none→Q (.ref p) (upd H p (.lst (Df k.toNat xs).flatten))
theorem Y21{α:Type}(xs:List α)(k:Nat):(Df k xs).flatten.length=k * xs.length:=by
 induction k with
 | zero=>simp
 | succ k ih=>rw[Ie,Kr,Ab,ih,Nat.succ_mul,Nat.add_comm]
theorem Yd9:OpR X (binaryOp .Mult) rRep:=by
 intro pins s σ H x y v u Q I rx ry h
 obtain⟨l,k,xs,rfl,rfl,hH,h1,h2,hz,q⟩:=h
 cases rx
 obtain⟨t,rfl⟩:=ry
 obtain⟨z,its,n,r,hl,e⟩:=I.lstM hH
 have hlen:its.toArray.size * k.toNat≤sizeLine:=by rw[Ah,←hl];exact hz
 have hcap:¬its.toArray.size * k.toNat >(2 ^ 63 - 1) / 8:=by
  have:(sizeLine:Nat)≤(2 ^ 63 - 1) / 8:=by decide
  omega
 have hfit:¬(!Builtin.List.listFitsIndex k)=true:=by
  rw[fitsIndex_both h1 h2]
  exact Bf9
 have hlong:¬La (its.toArray.size * k.toNat)=true:=by
  rw[Bh hlen]
  exact Bf9
 have hnew:List.foldl (fun x1 x2=>x1++x2) #[] (Df (if its.toArray.isEmpty=true then 0 else k.toNat) its.toArray)=(Df k.toNat its).flatten.toArray:=by
  have f0:∀m:Nat,List.foldl (fun x1 x2=>x1++x2) #[] (Df m its.toArray)=(Df m its).flatten.toArray:=fun m=>by
   have:=Fu its m []
   rw[Dv] at this
   exact this
  rw[f0]
  cases its with
  | nil=>simp
  | cons a r'=>rw[if_neg (by simp)]
 refine wpAny_binaryOp_repeat_ref (T:="list") (U:="int") (by decide) ⟨_,e,rfl⟩ (fun s'=>typeIs_int s' k t) noFill_list_mul F.fills_int_mul F.slot_int_rmul repeat_list F.slot_int_index.lookup
  (Kw F.slot_int_rmul (typeIs_int s k t) F.entry_int_rmul (F.args_int_rmul_2 _ _) (int___rmul___int_list k t l its.toArray n)
   ⟨e,rfl,⟨_,e,rfl⟩,Kw F.slot_list_mul ⟨_,e,rfl⟩ F.entry_list_mul (F.args_list_mul_2 _ _) (AutoListH.list___mul___list_int_3 l its.toArray n k t hfit hcap hlong) ⟨e,?_⟩⟩)
 rw[hnew]
 exact⟨.ref _,_,I.lnew (t':=s.toks) (r.rep k.toNat) (by rw[Y21,Nat.mul_comm];exact hz),rfl,q _ I.fresh⟩
end
section
variable{κ:Type}[DecidableEq κ]
noncomputable def valV(kvs:List (κ×V))(k:κ):Option V:=(kvs.find? fun kv=>decide (kv.1=k)).map (·.2)
noncomputable def putK(kvs:List (κ×V))(k:κ)(v:V):List (κ×V):=
 if (kvs.any fun kv=>decide (kv.1=k))=true then kvs.map (fun kv=>if kv.1=k then(kv.1,v) else kv) else kvs++[(k,v)]
theorem Nt{p:κ×V}{k:κ}(e:p.1=k):valV (p::r) k=some p.2:=by simp[valV,Iq,e]
theorem Ja{p:κ×V}{k:κ}(e:¬p.1=k):valV (p::r) k=valV r k:=by simp[valV,Iq,e]
theorem Z22(k:κ):∀kvs:List (κ×V),(kvs.any fun kv=>decide (kv.1=k))=(valV kvs k).isSome
 | []=>rfl
 | p::r=>by
  rw[Iu]
  by_cases e:p.1=k
  ·simp only[Nt e,decide_eq_true e,Bool.true_or,Option.isSome_some]
  ·rw[Ja e,decide_eq_false e,Bool.false_or];exact Z22 k r
theorem Qg(kvs:List (κ×V))(k:κ)(v:V):(putK kvs k v).length≤kvs.length+1:=by
 unfold putK
 split
 ·rw[Ac];omega
 ·rw[Ab,Aj,Ig];omega
theorem RelO.isSome_eq(r:RelO o u):o.isSome=u.isSome:=by
 cases o with
 | none=>cases u with
  | none=>rfl
  | some _=>exact(show False from r).elim
 | some _=>cases u with
  | none=>exact(show False from r).elim
  | some _=>rfl
theorem KV.val(r:KV kvs vs)(k:κ):RelO (valV kvs k) (valueAt vs k):=by
 unfold KV at r
 induction r with
 | nil=>exact Lj
 | @cons p q ps qs h t ih=>
  obtain⟨h1,h2⟩:=h
  by_cases e:p.1=k
  ·have e':q.1=k:=h1.symm.trans e
   have b:valueAt (q::qs) k=some q.2:=by simp[valueAt,Iq,e']
   rw[Nt e,b];exact h2
  ·have e':¬q.1=k:=fun z=>e (h1.trans z)
   have b:valueAt (q::qs) k=valueAt qs k:=by simp[valueAt,Iq,e']
   rw[Ja e,b];exact ih
theorem KV.any(r:KV kvs vs)(k:κ):(kvs.any fun kv=>decide (kv.1=k))=vs.any fun kv=>decide (kv.1=k):=by
 unfold KV at r
 induction r with
 | nil=>rfl
 | cons h t ih=>rw[Iu,Iu,ih,h.1]
theorem KV.repl(r:KV kvs vs)(k:κ){y:V}(ry:RelV y u):
  KV (kvs.map fun kv=>if kv.1=k then(kv.1,y) else kv) (vs.map fun kv=>if kv.1=k then(kv.1,u) else kv):=by
 unfold KV at r ⊢
 induction r with
 | nil=>exact .nil
 | @cons p q ps qs h t ih=>
  rw[De,De]
  refine .cons ?_ ih
  obtain⟨h1,h2⟩:=h
  by_cases e:p.1=k
  ·rw[if_pos e,if_pos (h1.symm.trans e)];exact⟨h1,ry⟩
  ·rw[if_neg e,if_neg (fun z=>e (h1.trans z))];exact⟨h1,h2⟩
theorem KV.put(r:KV kvs vs)(k:κ){y:V}(ry:RelV y u):KV (putK kvs k y) (stored vs k u):=by
 unfold putK stored
 rw[r.any k]
 by_cases e:(vs.any fun kv=>decide (kv.1=k))=true
 ·rw[if_pos e,if_pos e];exact r.repl k ry
 ·rw[if_neg e,if_neg e];exact Paired.snoc r ⟨rfl,ry⟩
theorem KV.length(r:KV kvs vs):kvs.length=vs.length:=Paired.length r
end
theorem Z37{k:Key}(r:RelV (kV k) u):(Y3 P w).is k u=true:=by
 cases k with
 | inl i=>obtain⟨t,e⟩:=(show ∃t,u=Value.int i t from r);subst e;exact Eb P w i t
 | inr x=>obtain⟨t,e⟩:=(show ∃t,u=Kj x t from r);subst e;exact Ev P w x t
theorem Gw:∀{ks:List Key} {us:List Value},Vals (ks.map kV) us→ItemsAre (Y3 P w) ks us
 | [],_,r=>by rw[Lz] at r;cases r;exact .nil
 | k::ks,_,r=>by
  rw[De] at r
  cases r with
  | cons h t=>exact .cons (Z37 h) (Gw t)
abbrev KT(H:Hp):List (List Key×V)→List (List Key×Addr×Value)→Prop:=Paired fun p q=>p.1=q.1∧H q.2.1=some (.tup (p.1.map kV))∧RelV p.2 q.2.2
theorem KT.val{H:Hp}(r:KT H kvs xs)(k:List Key):RelO (valV kvs k) ((atKey xs k).map (·.2)):=by
 induction r with
 | nil=>exact Lj
 | @cons p q ps qs h t ih=>
  obtain⟨h1,_,h2⟩:=h
  by_cases e:p.1=k
  ·have e':q.1=k:=h1.symm.trans e
   have b:atKey (q::qs) k=some q.2:=by simp[atKey,Iq,e']
   rw[Nt e,b];exact h2
  ·have e':¬q.1=k:=fun z=>e (h1.trans z)
   have b:atKey (q::qs) k=atKey qs k:=by simp[atKey,Iq,e']
   rw[Ja e,b];exact ih
theorem KT.repl{H:Hp}(r:KT H kvs xs)(k:List Key){y:V}(ry:RelV y u):
  KT H (kvs.map fun kv=>if kv.1=k then(kv.1,y) else kv) (xs.map (putAt k u)):=by
 induction r with
 | nil=>exact .nil
 | @cons p q ps qs h t ih=>
  rw[De,De]
  refine .cons ?_ ih
  obtain⟨h1,h2,h3⟩:=h
  unfold putAt
  by_cases e:p.1=k
  ·rw[if_pos e,if_pos (h1.symm.trans e)];exact⟨h1,h2,ry⟩
  ·rw[if_neg e,if_neg (fun z=>e (h1.trans z))];exact⟨h1,h2,h3⟩
theorem KT.put{H:Hp}(r:KT H kvs xs)(k:List Key){y:V}(hb:H b=some (.tup (k.map kV)))(ry:RelV y u):
  KT H (putK kvs k y) (storedH xs k b u):=by
 have e:(kvs.any fun kv=>decide (kv.1=k))=(atKey xs k).isSome:=by
  rw[Z22,(r.val k).isSome_eq,Option.isSome_map]
 unfold putK storedH
 rw[e]
 by_cases q:(atKey xs k).isSome=true
 ·rw[if_pos q,if_pos q];exact r.repl k ry
 ·rw[if_neg q,if_neg q];exact Paired.snoc r ⟨rfl,hb,ry⟩
theorem KT.keeps{H H':Hp}(r:KT H kvs xs)(ht:∀b ys,H b=some (.tup ys)→H' b=some (.tup ys)):KT H' kvs xs:=
 Paired.mapP r fun _ _ z=>⟨z.1,ht _ _ z.2.1,z.2.2⟩
section
variable{P:Program}{w:World}{H:Hp}{h:Heap}{a:Addr}
theorem Yb2(ok:HOk P w H h)(e:Rd H a u):Yh P w H h a u:=e.ok ok
theorem Z32(ok:HOk P w H h)(e:Rd H a (.dK kvs)):kvs.length≤sizeLine∧(a==sysModules)=false∧∃vs,KV kvs vs∧h.DictOf (Y3 P w) a vs:=
 show Yh P w H h a (.dK kvs) from Yb2 ok e
theorem Y40(ok:HOk P w H h)(e:H a=some (.dK kvs)):kvs.length≤sizeLine∧(a==sysModules)=false∧∃vs,KV kvs vs∧h.DictOf (Y3 P w) a vs:=Z32 ok (.inl e)
theorem Jy(ok:HOk P w H h)(e:H a=some (.tup (ks.map kV))):(tupleKind (Y3 P w)).is h ks a:=by
 obtain⟨_,its,r,o,h1,h2,n,h3⟩:=(show Yh P w H h a (.tup (ks.map kV)) from ok a _ e)
 exact⟨o,its.toArray,n,h1,h2,h3,by simpa using Gw r⟩
theorem Z99(ok:HOk P w H h)(e:Rd H a (.dT kvs)):kvs.length≤sizeLine∧(a==sysModules)=false∧
  ∃xs,KT H kvs xs∧h.DictOfH (tupleKind (Y3 P w)) a xs:=by
 obtain⟨z,y,xs,r,o,es,ep,h1,h2,h3,h4,h5⟩:=(show Yh P w H h a (.dT kvs) from Yb2 ok e)
 refine⟨z,y,xs,r,o,es,ep,h1,h2,h3,h4,fun x hx=>?_,h5⟩
 have all:∀{l:List (List Key×V)} {m:List (List Key×Addr×Value)},KT H l m→∀x∈m,(tupleKind (Y3 P w)).is h x.1 x.2.1:=by
  intro l m q
  induction q with
  | nil=>intro x hx;exact nomatch hx
  | @cons p q ps qs hq t ih=>
   intro x hx
   rcases Ag.mp hx with e | hx
   ·subst e
    exact Jy ok (by rw[←hq.1];exact hq.2.1)
   ·exact ih x hx
 exact all r x hx
theorem Yn4(ok:HOk P w H h)(e:H a=some (.dT kvs)):kvs.length≤sizeLine∧(a==sysModules)=false∧
  ∃xs,KT H kvs xs∧h.DictOfH (tupleKind (Y3 P w)) a xs:=Z99 ok (.inl e)
end
def DGet(H:Hp)(a:Addr)(y:V)(r:Option V):Prop:=
 (∃kvs k,Rd H a (.dK kvs)∧y=kV k∧r=valV kvs k)∨∃kvs k b,Rd H a (.dT kvs)∧y= .ref b∧H b=some (.tup (k.map kV))∧r=valV kvs k
def DPut(H:Hp)(a:Addr)(y v:V)(H':Hp):Prop:=
 (∃kvs k,H a=some (.dK kvs)∧y=kV k∧kvs.length<sizeLine∧H'=upd H a (.dK (putK kvs k v)))∨
 ∃kvs k b,H a=some (.dT kvs)∧y= .ref b∧H b=some (.tup (k.map kV))∧kvs.length<sizeLine∧H'=upd H a (.dT (putK kvs k v))
theorem DGet.k{H:Hp}{a:Addr}{k:Key}(e:H a=some (.dK kvs)):DGet H a (kV k) (valV kvs k):= .inl ⟨kvs,k,.inl e,rfl,rfl⟩
theorem DPut.k{H:Hp}{a:Addr}{k:Key}{v:V}(e:H a=some (.dK kvs))(hl:kvs.length<sizeLine):DPut H a (kV k) v (upd H a (.dK (putK kvs k v))):= .inl ⟨kvs,k,e,rfl,hl,rfl⟩
section
variable{X:Cx}{pins:List (Addr×Obj)}{σ:St}{H:Hp}{s:Shared}{a:Addr}{y v:V}{u r:Value}{o:Option V}{A:Around}{E:Value→Shared→Prop}
theorem Zd6(hu:A.units+1<cLine)(I:Inv X pins σ H s)(g:DGet H a y (some v))(ry:RelV y u)(h:∀w' s',Inv X pins σ H s'→RelV v w'→Q w' s'):
  wpAny (model X.prog X.w) A (getItem (.ref a) u) Q E s:=by
 rcases g with⟨kvs,k,e,ey,l⟩ | ⟨kvs,k,b,e,ey,eb,l⟩
 ·subst ey
  obtain⟨z,hd,vs,rel,dd⟩:=Z32 I.hok e
  obtain⟨w',hw,rw'⟩:=RelO.some_of (v:=v) (o:=valueAt vs k) (by rw[l];exact rel.val k)
  exact wpAny_getItem_of (Z37 ry) dd.mapOf hw (h w' _ (I.tok _) rw')
 ·subst ey
  cases (show u=Au b from ry)
  obtain⟨z,hd,xs,rel,dd⟩:=Z99 I.hok e
  obtain⟨w',hw,rw'⟩:=RelO.some_of (v:=v) (o:=(atKey xs k).map (·.2)) (by rw[l];exact rel.val k)
  obtain⟨p,hp,hp2⟩:=Ia.mp hw
  refine wpAny_getItem_heap (tupleKind_room_in1 hu) (Jy I.hok eb) dd hp ?_
  rw[hp2]
  exact h w' _ (I.tok _) rw'
theorem d_in(hu:A.units+1<cLine)(I:Inv X pins σ H s)(g:DGet H a y o)(ry:RelV y u)(h:∀s',Inv X pins σ H s'→Q (.bool o.isSome) s'):
  wpAny (model X.prog X.w) A (compareOp .In u (.ref a)) Q E s:=by
 rcases g with⟨kvs,k,e,ey,l⟩ | ⟨kvs,k,b,e,ey,eb,l⟩
 ·subst ey
  obtain⟨z,hd,vs,rel,dd⟩:=Z32 I.hok e
  refine wpAny_in_of (Z37 ry) hd dd.mapOf ?_
  rw[←(rel.val k).isSome_eq,←l]
  exact h _ (I.tok _)
 ·subst ey
  cases (show u=Au b from ry)
  obtain⟨z,hd,xs,rel,dd⟩:=Z99 I.hok e
  refine wpAny_in_heap (tupleKind_room_in1 hu) (Jy I.hok eb) hd dd ?_
  have q:=(rel.val k).isSome_eq
  rw[Option.isSome_map] at q
  rw[←q,←l]
  exact h _ (I.tok _)
theorem Y01(hu:A.units+1<cLine)(I:Inv X pins σ H s)(g:DGet H a y o)(ry:RelV y u)(h:∀s',Inv X pins σ H s'→Q (.bool (!o.isSome)) s'):
  wpAny (model X.prog X.w) A (compareOp .NotIn u (.ref a)) Q E s:=by
 rcases g with⟨kvs,k,e,ey,l⟩ | ⟨kvs,k,b,e,ey,eb,l⟩
 ·subst ey
  obtain⟨z,hd,vs,rel,dd⟩:=Z32 I.hok e
  refine wpAny_notIn_of (Z37 ry) hd dd.mapOf ?_
  rw[←(rel.val k).isSome_eq,←l]
  exact h _ (I.tok _)
 ·subst ey
  cases (show u=Au b from ry)
  obtain⟨z,hd,xs,rel,dd⟩:=Z99 I.hok e
  refine wpAny_notIn_heap (tupleKind_room_in1 hu) (Jy I.hok eb) hd dd ?_
  have q:=(rel.val k).isSome_eq
  rw[Option.isSome_map] at q
  rw[←q,←l]
  exact h _ (I.tok _)
theorem Zl5(I:Inv X pins σ H s)(mu:Mut (H a))(hs:Hd a s.heap h')(he:∃q,h'.get? a=some q)(new:Yh X.prog X.w (upd H a ob) h' a ob):
  Inv X pins σ (upd H a ob) {s with heap:=h',toks:=t'}:=
 I.write (x:=a) (e:=a) mu (.inl rfl) (fun b q hb z=>(hs.2 b hb).trans z) he new
theorem Y97(z:kvs.length≤sizeLine)(hd:(a==sysModules)=false)(rel:KV kvs vs)(dd:h'.DictOf (Y3 P w) a vs):
  Yh P w H' h' a (.dK kvs):=⟨z,hd,vs,rel,dd⟩
theorem Zi5(hu:A.units+1<cLine)(I:Inv X pins σ H s)(g:DPut H a y v H')(ry:RelV y u)(rv:RelV v r)(h:∀s',Inv X pins σ H' s'→Q () s'):
  wpAny (model X.prog X.w) A (setItem (.ref a) u r) Q E s:=by
 rcases g with⟨kvs,k,e,ey,l,eH⟩ | ⟨kvs,k,b,e,ey,eb,l,eH⟩
 ·subst ey eH
  obtain⟨z,hd,vs,rel,dd⟩:=Y40 I.hok e
  have hz:vs.length≤sizeLine:=by rw[←rel.length];exact z
  have hl:(putK kvs k v).length≤sizeLine:=by have:=Qg kvs k v;omega
  refine wpAny_setItem_pairs (hsz:=hz) (Z37 ry) dd fun h' dd' hs=>h _ ?_
  have he:∃q,h'.get? a=some q:=by obtain⟨q,_,_,hq,_⟩:=dd';exact⟨q,hq⟩
  exact Zl5 I (by rw[e];exact Lj) hs he (Y97 hl hd (rel.put k rv) dd')
 ·subst ey eH
  cases (show u=Au b from ry)
  obtain⟨z,hd,xs,rel,dd⟩:=Yn4 I.hok e
  have hz:xs.length≤sizeLine:=by rw[←Paired.length rel];exact z
  have hl:(putK kvs k v).length≤sizeLine:=by have:=Qg kvs k v;omega
  refine wpAny_setItem_heap (hsz:=hz) (tupleKind_room_in1 hu) (Jy I.hok eb) dd fun h' dd' hs=>h _ ?_
  obtain⟨q,es,ep,hq,h2,h3,h4,_,h5⟩:=dd'
  refine Zl5 I (by rw[e];exact Lj) hs ⟨q,hq⟩ ⟨hl,hd,_,(rel.put k eb rv).keeps fun c ys ec=>?_,q,es,ep,hq,h2,h3,h4,h5⟩
  rw[Zo (Yo5 ec e (fun z=>nomatch z))]
  exact ec
end
section
variable{X:Cx}{pins:List (Addr×Obj)}{σ:St}{H:Hp}{s:Shared}{a:Addr}{kvs:List (Key×V)}{k:Key}{u:Value}{A:Around}{E:Value→Shared→Prop}
theorem Yo2(I:Inv X pins σ H s)(e:Rd H a (.dK kvs))(h:∀t s',Inv X pins σ H s'→Q (.int kvs.length t) s'):wpAny (model X.prog X.w) A (call (.builtin "len") [.ref a]) Q E s:=by
 obtain⟨z,hd,vs,rel,dd⟩:=Z32 I.hok e
 refine call_len_dict hd dd (by rw[←rel.length];rw[Ka] at z;omega) ?_
 rw[←rel.length]
 exact h _ _ (I.tok _)
end
theorem Ek{H:Hp}{a:Addr}{y:V}(I:Inv X pins σ H s)(g:DGet H a y o):s.TypeIs (.ref a) "dict":=by
 rcases g with⟨kvs,k,e,_,_⟩ | ⟨kvs,k,b,e,_,_,_⟩
 ·obtain⟨_,_,vs,_,dd⟩:=Z32 I.hok e
  exact dd.typeIs
 ·obtain⟨_,_,xs,_,dd⟩:=Z99 I.hok e
  exact dd.typeIs
structure M1(X:Cx)(o:Expr)(m:Str)(apos:Pos)(e:Expr)(cpos:Pos):Prop where
 base:attributeBase o m X.env (eval o X.env)=eval o X.env
 few:((backTo cpos (starEach [e] X.env)).all (fun x=> !x.1)&&(backToKw cpos (keywordEach [] X.env)).all (fun x=>x.1.isSome)
  &&decide (([e]:List Expr).length+([]:List Keyword).length+(if ([]:List Keyword).isEmpty then 0 else 1)<30))=true
 line:(apos.endLine==cpos.line)=true
 trees:backTo cpos (starEach [e] X.env)=[(false,eval e X.env)]
structure M2(X:Cx)(o:Expr)(m:Str)(apos:Pos)(e f:Expr)(cpos:Pos):Prop where
 base:attributeBase o m X.env (eval o X.env)=eval o X.env
 few:((backTo cpos (starEach [e,f] X.env)).all (fun x=> !x.1)&&(backToKw cpos (keywordEach [] X.env)).all (fun x=>x.1.isSome)
  &&decide (([e,f]:List Expr).length+([]:List Keyword).length+(if ([]:List Keyword).isEmpty then 0 else 1)<30))=true
 line:(apos.endLine==cpos.line)=true
 trees:backTo cpos (starEach [e,f] X.env)=[(false,eval e X.env),(false,eval f X.env)]
end L2
namespace Att
open PySem PySem.W PySem.Calls PyProof.Rows
theorem Qu:∀(ns:List Int) (vs:List Value),WellAll P h vs (ns.map WData.int)→IntsAre vs ns:=by
 intro ns
 induction ns with
 | nil=>
  intro vs w
  rw[Lz] at w
  cases w
  exact .nil
 | cons n ns ih=>
  intro vs w
  rw[De] at w
  cases w with
  | cons a b=>
   cases a
   exact .cons _ _ (ih _ b)
theorem script_of{l:OpenLaw}{n:Nat}(hn:l.most=some n){P:Params}{h:Heap}{args:List WData}{vals:List Value}
  (hpre:l.row.toRowW.claim.pre args=true) (hwl:WellAll P h vals args):
  ∃a vs ns,vals=[Au a]∧args=[WData.list (ns.map WData.int)]∧h.get? a=some {cls:= .type "list",data:= .seq vs.toArray}∧IntsAre vs ns∧ns.length≤n:=by
 have hsh:WShape.hasAll [] args [.list .int]=true:=(pre_splitW hpre).1
 have hc:l.pre.holds [] {args:=args}=true:=(pre_splitW hpre).2
 obtain⟨d,r,rfl,h1,h2⟩:=hasAllW_cons hsh
 obtain rfl:=hasAllW_nil h2
 obtain⟨xs,rfl,h3⟩:=hasW_list h1
 obtain⟨ns,rfl⟩:=items_int h3
 have hlen:ns.length≤n:=by
  unfold OpenLaw.pre at hc
  have h4:(WTm.not (.lt (.lit (.int (n:Int))) (.len (.arg 0)))).holds [] {args:=[.list (ns.map .int)]}=true:=by
   have h4:=(holds_andW hc).1
   rw[hn] at h4
   exact h4
  have h5:=condW_of h4 (w_not (w_lt w_lit (w_len_list (w_arg rfl))))
  rw[Ac] at h5
  refine Nat.le_of_not_lt fun q=>?_
  have q':(n:Int)< ((ns.length:Nat):Int):=by omega
  first
   |(rw[decide_eq_true q'] at h5;exact absurd h5 (by decide))
   |(simp at h5;omega)
 cases hwl with
 | cons w1 w2=>
  cases w2
  cases w1 with
  | list ho hall=>exact⟨_,_,ns,rfl,rfl,ho,Qu ns _ hall,hlen⟩
theorem post_true(l:OpenLaw)(args:List WData):l.row.toRowW.claim.post args (.bool true) args=true:=
 postW_of (r:=l.row.toRowW) (X:=(true==true))
  (show WShape.has [] (.bool true) .bool=true by first | rfl | decide | simp[WShape.has,WShape.arms,WShape.armsAll])
  (show(WTm.eq .res (.lit (.bool true))).value [] {args:=args,res:=some (.bool true),after:=args}=some (.bool (true==true)) from w_eq_bool (w_res rfl) w_lit) rfl
end Att
namespace L2
open PySem PySem.Spec PyProof.Rows
theorem Tl:∀{vs:List Value} {ns:List Int},IntsAre vs ns→Vals (ns.map V.int) vs
 | _,_,.nil=> .nil
 | _,_,.cons n t h=> .cons ⟨t,rfl⟩ (Tl h)
def Only(H:Hp):Prop:=∀b,H b=none∨∃o xs,H b=some (.frz o (.lst xs))
theorem Zt8{P:Program}{w:World}{K:Ad}{mg mb:Str→Option Value}{CX:CXT}{k:Nat}{fa a:Addr}{fd:FuncData}{x:Str}{sp:Sp}{s₁:Shared}{vs:List Value}{ns:List Int}
  (KX:K.In s₁.heap) (hns:s₁.heap.Ns mainGlobals mg) (hb:s₁.heap.Ns builtinsNs mb) (hbb:∀x:Str,x≠"__name__"→mb x=bootBuiltins x) (hlim:s₁.heap.NoLimit) (hg:s₁.gens=#[])
  (ha:s₁.heap.get? a=some {cls:= .type "list",data:= .seq vs.toArray}) (hi:IntsAre vs ns) (hl:ns.length≤sizeLine) (hr:Room k callerA)
  (F:∀base:Heap,K.In base→base.Ns mainGlobals mg→FnOk P w K mg base CX k fa fd [x] sp) (hbind:∀(s:Shared) (u:Value),BindsTo s fd ⟨[u],[]⟩ [(x,u)])
  (hsp:∀H:Hp,Only H→SqL K H a (ns.map V.int)→sp [.ref a] H (fun v _=>v= .bl true) fun _ _ _=>False)
  (hCX:∀H e s',CX [] H s₁ (fun _ _ _=>False) e s'→False):
  codeAny (model P w) callerA (.call (.ref fa) ⟨[.ref a],[]⟩) (fun r s'=>r= .ok (.ret (.bool true))∧OldK s₁.heap s'.heap∧s'.os=s₁.os∧AllBare s'.gens) s₁:=by
 have rv:=Tl hi
 have lenV:=hi.length
 have core:∀H:Hp,Only H→SqL K H a (ns.map V.int)→HOk P w H s₁.heap→(∀b,H b≠none→b=a)→(H a≠none→K.lookup a=none)→
   codeAny (model P w) callerA (.call (.ref fa) ⟨[.ref a],[]⟩) (fun r s'=>r= .ok (.ret (.bool true))∧OldK s₁.heap s'.heap∧s'.os=s₁.os∧AllBare s'.gens) s₁:=by
  intro H hO hS hok hA hK
  have base_of:∀{b:Addr} {o:Obj},s₁.heap.get? b=some o→H b=none→(hidT s₁.heap H).get? b=some o:=fun e n=>Zq2 e n
  have noA:∀{b:Addr} {o:Obj} {es:Array DictEntry} {ep:Nat},s₁.heap.get? b=some o→o.data= .dict es ep→H b=none:=fun{b o es ep} e d=>by
   cases q:H b with
   | none=>rfl
   | some u=>
    have e':b=a:=hA b (by rw[q];simp)
    subst e'
    rw[ha] at e;cases e
    have d':Data.seq vs.toArray _=Data.dict es ep:=d
    cases d'
  have nsK:∀{b:Addr} {m:Str→Option Value},s₁.heap.Ns b m→(hidT s₁.heap H).Ns b m:=fun{b m} zz40=>by obtain⟨o,es,ep,e,d,r⟩:=zz40;exact⟨o,es,ep,base_of e (noA e d),d,r⟩
  have hKb:K.In (hidT s₁.heap H):=fun b o e=>base_of (KX b o e) (by
   cases q:H b with
   | none=>rfl
   | some u=>
    have e':b=a:=hA b (by rw[q];simp)
    subst e'
    rw[hK (by rw[q];simp)] at e;cases e)
  have hM:Mod K mg (hidT s₁.heap H):=⟨hKb,nsK hns,⟨mb,nsK hb,hbb⟩,let ⟨mc,h1,h2⟩:=hlim;⟨mc,nsK h1,h2⟩⟩
  have e0:Env0 P w K mg (hidT s₁.heap H) callerA [] s₁ H:=⟨rfl,hM,fun b o e=>Y43 e,Nat.le_of_eq (Z96 _ _),trivial,fun b hb=>absurd (show b∈([]:List Addr) from hb) (by simp),hok,.of_eq hg⟩
  refine Lu ((F _ hKb (nsK hns)).run callerA [] s₁ H ⟨[.ref a],[]⟩ [.ref a] [.ref a] _ _ hr e0 (hbind s₁ (.ref a)) (.cons rfl .nil) (hsp H hO hS)) fun r s' h=>?_
  cases r with
  | error e=>exact(hCX H e s' h).elim
  | ok fl=>
   cases fl with
   | next=>exact Di h
   | brk=>exact Di h
   | cont=>exact Di h
   | ret u=>
    obtain⟨v,H',os,bare,un,hok',r',q⟩:=h
    have q':v= .bl true:=q
    subst q'
    obtain rfl:u=Mb true:=r'
    refine⟨rfl,OldK.of_keep fun b o e=>?_,os,bare⟩
    cases q:H b with
    | none=>exact un.keep b o e q (by intro z;exact absurd (show b∈([]:List Addr) from z) (by simp)) (by simp)
    | some u=>
     rcases hO b with z | ⟨ob,xs,z⟩
     ·rw[q] at z;cases z
     ·have z2:=un.frzs b ob _ z
      obtain⟨e1,_⟩:=hok b _ z
      obtain⟨e2,_⟩:=hok' b _ z2
      rw[e] at e1;cases e1
      exact e2
 cases hk:K.lookup a with
 | some o=>
  have e:=KX a o hk
  rw[ha] at e
  cases e
  refine core (fun _=>none) (fun _=> .inl rfl) (.inr ⟨_,vs.toArray,_,hk,rfl,rfl,rfl,by rw[Ah,lenV];exact hl,by simpa using rv⟩) (fun b u z=>by have z':(none:Option HO)=some u:=z;cases z') (fun b z=>absurd rfl z) fun z=>absurd rfl z
 | none=>
  refine core (fun b=>if b=a then some (.frz {cls:= .type "list",data:= .seq vs.toArray} (.lst (ns.map V.int))) else none) (fun b=>?_) (.inl (.inr ⟨{cls:= .type "list",data:= .seq vs.toArray},if_pos rfl⟩)) (fun b u z=>?_) (fun b z=>?_) fun _=>hk
  ·by_cases hb:b=a
   ·exact .inr ⟨_,_,if_pos hb⟩
   ·exact .inl (if_neg hb)
  ·by_cases hb:b=a
   ·have z':=(if_pos hb).symm.trans z
    cases z'
    subst hb
    exact⟨ha,by rw[Ac];exact hl,vs,_,rv,ha⟩
   ·have z':=(if_neg hb).symm.trans z
    cases z'
  ·by_cases hb:b=a
   ·exact hb
   ·exact absurd (if_neg hb) z
noncomputable def Vh(s:Stmt):Arguments:=match s with
 | .FunctionDef _ a _ _ _ _ _ _ _ _=>a
 | _=>{posonlyargs:=[],args:=[],vararg:=none,kwonlyargs:=[],kw_defaults:=[],kwarg:=none,defaults:=[]}
noncomputable def X0(s:Stmt):List Stmt:=match s with
 | .FunctionDef _ _ b _ _ _ _ _ _ _=>b
 | _=>[]
noncomputable def Zt(s:Stmt):Scope:=match s with
 | .FunctionDef _ _ _ _ _ _ sc _ _ _=>sc
 | _=>{kind:= .function,names:=[],isGenerator:=false,isCoroutine:=false}
noncomputable abbrev CX0:CXT:=fun _ _ _ _ _ _=>False
abbrev E0:XK:=fun _ _ _=>False
structure Fun(K:Ad)(x qual:Str)(st:Stmt)(f:Addr)(fd:FuncData):Prop where
 ex:∃(oc:Value) (od:Option Addr) (dV kV doc pm:Value) (an:Option Addr) (cdv ct:Value) (osl:Array (Option Value)),
  fd=Kk x qual (Vh st) (X0 st) (Zt st) dV kV doc pm an cdv ct∧K.lookup f=some ⟨oc,od,.func fd,osl⟩∧Mc K cdv qual=true
 kp:Ha K (.ref f)=true
section
variable{P:Program}{w:World}{K:Ad}{mg:Str→Option Value}{base:Heap}
theorem Fun.ok{x qual:Str}{st:Stmt}{f:Addr}{fd:FuncData}{N ps:List Str}{k:Nat}{sp:Sp}(F:Fun K x qual st f fd)(S:FnScope N ps (Zt st))(len:∀vs H Q E,sp vs H Q E→vs.length=ps.length)
  (hbody:∀(cdv:Value) (A:Around) (outer:List Env) (s:Shared) (H:Hp) (vs:List V) (Q:VK) (E:XK),Room k (A.deeper (envOfC qual (Zt st) s.heap.objs.size f cdv))→sp vs H Q E→
   ∃t,PSs (cxOf CX0 P w K mg base N qual (Zt st) f cdv A outer s H E).nox (X0 st) t∧t {nx:=fun _ H'=>Q .non H',rt:=Q} (start N vs) H):FnOk P w K mg base CX0 (k+1) f fd ps sp:=by
 obtain⟨oc,od,dV,kV,doc,pm,an,cdv,ct,osl,rfl,lk,hcd⟩:=F.ex
 refine Ym0 lk hcd S len fun A outer s H vs Q E hr hsp=>?_
 obtain⟨t,h,q⟩:=hbody cdv A outer s H vs Q E hr hsp
 exact⟨t,h.nox,q⟩
theorem Yj8{x qual:Str}{st:Stmt}{f:Addr}{oc:Value}{od an:Option Addr}{osl:Array (Option Value)}{dV kV doc pm cdv ct:Value}(l:K.lookup f=some ⟨oc,od,.func (Kk x qual (Vh st) (X0 st) (Zt st) dV kV doc pm an cdv ct),osl⟩)
  (c:Mc K cdv qual=true) (k:Ha K (.ref f)=true):Fun K x qual st f (Kk x qual (Vh st) (X0 st) (Zt st) dV kV doc pm an cdv ct):=⟨⟨oc,od,dV,kV,doc,pm,an,cdv,ct,osl,rfl,l,c⟩,k⟩
end
section
variable{X:Cx}
theorem Zl6:X1 X (.builtin "len") (fun xs H Q=>∃a kvs,xs=[V.ref a]∧H a=some (.dK kvs)∧Q (.int kvs.length) H):=by
 intro pins s σ H xs us Q I r h
 obtain⟨a,kvs,rfl,ha,q⟩:=h
 obtain⟨u,rfl,ru⟩:=Tn r
 cases ru
 exact Yo2 I (.inl ha) fun t s' I'=>⟨.int kvs.length,H,I',⟨t,rfl⟩,q⟩
end
end L2
namespace L3
open PySem PySem.Spec PyProof.Rows L2
def Bits(n:Nat)(x:Int):Prop:=x.natAbs<2 ^ n
theorem Xd{m n:Nat}(h:m<2 ^ n)(hn:0<n):m.log2<n:=by
 rcases Nat.eq_zero_or_pos m with h0 | h0
 ·rw[h0];exact hn
 ·exact(Nat.log2_lt (Nat.ne_of_gt h0)).mpr h
section
variable{X:Cx}
def Z84(_ j:Int):Prop:=j≠0∧j.natAbs.log2<9000
theorem Zs4:OpR X (binaryOp .FloorDiv) (rI Z84 fun i j=> .int (i.fdiv j)):=opI fun _ _ _ _ _ _ _ hc q=>floordiv_int hc.1 q (.inl (PyProof.noPylong_of_log2 hc.2))
theorem Y11:OpR X (binaryOp .Mult) (rI IntMulOk fun i j=> .int (i * j)):=opI fun _ _ _ _ _ _ _ hc q=>mul_int q hc
def rIsB(K:Ad):List V→Hp→VK→Prop:=fun xs H Q=>∃x n t b,xs=[x,.ty n]∧TyOf K H x t∧Ke K t (.type n)=some b∧Q (.bl b) H
theorem Zt5:X1 X (.builtin "isinstance") (rIsB X.K):=by
 intro pins s σ H xs us Q I r h
 obtain⟨x,n,t,b,rfl,ty,e,q⟩:=h
 obtain⟨u,v,rfl,ru,rv⟩:=Ej r
 obtain rfl:v=Dm n:=rv
 exact Ze9 I ru ty e fun tk=>⟨.bl b,H,I.tok tk,rfl,q⟩
end
mutual
def Rep(K:Ad)(H:Hp):PyData→V→Prop
 | .none,v=>v= .non
 | .bool b,v=>v= .bl b
 | .int i,v=>v= .int i
 | .str x,v=>v= .str x
 | .list ds,v=>∃a xs,v= .ref a∧SqL K H a xs∧Xe K H ds xs
 | .tuple ds,v=>∃a xs,v= .ref a∧SqT K H a xs∧Xe K H ds xs
 | .dict _,_=>False
def Xe(K:Ad)(H:Hp):List PyData→List V→Prop
 | [],xs=>xs=[]
 | d::ds,xs=>∃v vs,xs=v::vs∧Rep K H d v∧Xe K H ds vs
end
section
variable{X:Cx}{pins:List (Addr×Obj)}{σ:L2.St}{H:Hp}{s:Shared}
mutual
theorem Rep.reads(I:Inv X pins σ H s):∀(d:PyData) (v:V) (u:Value),Rep X.K H d v→RelV v u→∃as,Reads s.heap u d as
 | .none,v,u,h,r=>by
  unfold Rep at h;subst h
  cases (show u=Ku from r)
  exact⟨[],.none⟩
 | .bool b,v,u,h,r=>by
  unfold Rep at h;subst h
  cases (show u=Mb b from r)
  exact⟨[],.bool b⟩
 | .int i,v,u,h,r=>by
  unfold Rep at h;subst h
  obtain⟨t,rfl⟩:=(show ∃t,u=Value.int i t from r)
  exact⟨[],.int i t⟩
 | .str x,v,u,h,r=>by
  unfold Rep at h;subst h
  obtain⟨t,rfl⟩:=(show ∃t,u=Kj x t from r)
  exact⟨[],.str x t⟩
 | .list ds,v,u,h,r=>by
  unfold Rep at h
  obtain⟨a,xs,rfl,hq,ha⟩:=h
  cases (show u=Au a from r)
  obtain⟨its,rv,⟨o,n,h1,h2,_,h4⟩,_⟩:=I.list hq
  obtain⟨as,hr⟩:=Xe.reads I ds xs its ha rv
  exact⟨_,.list h1 h2 h4 hr⟩
 | .tuple ds,v,u,h,r=>by
  unfold Rep at h
  obtain⟨a,xs,rfl,hq,ha⟩:=h
  cases (show u=Au a from r)
  obtain⟨its,rv,⟨o,h1,h2,n,h4⟩,_⟩:=I.tuple hq
  obtain⟨as,hr⟩:=Xe.reads I ds xs its ha rv
  exact⟨_,.tuple h1 h2 h4 hr⟩
 | .dict kvs,v,u,h,r=>by
  unfold Rep at h
  exact h.elim
theorem Xe.reads(I:Inv X pins σ H s):∀(ds:List PyData) (xs:List V) (us:List Value),Xe X.K H ds xs→Vals xs us→∃as,ReadsAll s.heap us ds as
 | [],xs,us,h,r=>by
  unfold Xe at h;subst h
  cases r
  exact⟨[],.nil⟩
 | d::ds,xs,us,h,r=>by
  unfold Xe at h
  obtain⟨v,vs,rfl,h1,h2⟩:=h
  cases r with
  | cons r1 r2=>
   obtain⟨as,q1⟩:=Rep.reads I d v _ h1 r1
   obtain⟨bs,q2⟩:=Xe.reads I ds vs _ h2 r2
   exact⟨_,.cons q1 q2⟩
end
end
section
variable{X:Cx}
def rEqD(K:Ad)(neg:Bool):R2:=fun x y H Q=>∃da db,Rep K H da x∧Rep K H db y∧da.canLay0=true∧db.canLay0=true∧min da.depth db.depth≤60∧Q (.bl (if neg then !PyData.eqv da db else PyData.eqv da db)) H
theorem Yh4(hu:X.A.units+64<cLine):OpR X (compareOp .Eq) (rEqD X.K false):=by
 intro pins s σ H x y v u Q I rx ry h
 obtain⟨da,db,h1,h2,h3,h4,h5,q⟩:=h
 obtain⟨as,q1⟩:=Rep.reads I da x v h1 rx
 obtain⟨bs,q2⟩:=Rep.reads I db y u h2 ry
 exact PySem.SeqAt.compareEq_reads q1 q2 h3 h4 (by omega) ⟨.bl _,H,I,rfl,q⟩
end
end L3
namespace L3
open PySem PySem.W PySem.Calls PyProof.Rows L2
noncomputable def bigN:Nat:=1048576
theorem Pg:∀(ns:List Int) (i:Int),i∈ns→WData.weight (.int i)≤WData.weightAll (ns.map WData.int)
 | [],_,h=>nomatch h
 | n::r,i,h=>by
  rw[De]
  have e:WData.weightAll (WData.int n::r.map WData.int)=WData.weight (.int n)+1+WData.weightAll (r.map WData.int):=by simp[WData.weightAll]
  rw[e]
  rcases Ag.mp h with q | q
  ·subst q;omega
  ·have:=Pg r i q;omega
theorem Q3{ns:List Int}(h:WData.layableAll [WData.list (ns.map WData.int)]=true):∀i∈ns,Bits bigN i:=by
 intro i hi
 have h1:WData.layable (WData.list (ns.map WData.int))=true:=by simpa[WData.layableAll] using h
 unfold WData.layable at h1
 rw[Bz9] at h1
 have h2:WData.weight (WData.list (ns.map WData.int))≤2 ^ 20:=of_decide_eq_true h1.2
 have h3:WData.weight (WData.list (ns.map WData.int))=WData.weightAll (ns.map WData.int):=by simp[WData.weight]
 have h4:=Pg ns i hi
 have h5:WData.weight (.int i)=if i==0 then 0 else i.natAbs.log2+1:=by simp[WData.weight]
 unfold Bits bigN
 by_cases h0:i=0
 ·subst h0;exact Nat.two_pow_pos _
 ·have hb:(i==0)=false:=by simpa using h0
  rw[hb] at h5
  have h6:i.natAbs.log2<1048576:=by
   have:(2:Nat) ^ 20=1048576:=by decide
   simp only[Bool.false_eq_true,if_false] at h5
   omega
  exact(Nat.log2_lt (by omega)).mp h6
theorem G5{l:OpenLaw}{n:Nat}{q:Program}{loose:List Str}{XP:(Str→Option Value)→Heap→Prop}{YP:World→Heap→Prop}{d:DefRec}(hn:l.most=some n)(hdf:d.params.defaults=[])
  (call:∀(w:World) (s₀ s₁:Shared) (mg mb:Str→Option Value) (fa:Addr) (o:Obj) (pm cd doc:Value) (a:Addr) (vs:List Value) (ns:List Int),
   Ground q loose [] XP w s₀ mg mb s₁.heap→YP w s₁.heap→mg d.name=some (.ref fa)→
   s₁.heap.get? a=some {cls:= .type "list",data:= .seq vs.toArray}→IntsAre vs ns→ns.length≤n→(∀i∈ns,Bits bigN i)→s₁.gens=#[]→
   codeAny (model l.prog w) callerA (.call (.ref fa) ⟨[.ref a],[]⟩) (fun r s'=>r= .ok (.ret (.bool true))∧OldK s₁.heap s'.heap∧s'.os=s₁.os∧AllBare s'.gens) s₁):
  WalkO q loose XP YP l.row.toRowW d [] (fun f vs=>PySem.call f vs):=by
 intro w s₀ s₁ mg mb G Y fa o pm cd doc dV kV ho hd hcd hD hmg hg args vals as hpre hlay hrd hwl hlo
 obtain⟨a,vs,ns,rfl,rfl,hobj,hints,hlen⟩:=Att.script_of hn hpre hwl
 refine enter_call (Lu (call w s₀ s₁ mg mb fa o pm cd doc a vs ns G Y hmg hobj hints hlen (Q3 hlay) hg) fun r s' hq=>?_)
 obtain⟨rfl,h2,h3,h4⟩:=hq
 exact⟨.inl ⟨.bool true,.bool true,[],rfl,fun _=>rfl,.bool true,Att.post_true l _,fun _=>⟨List.Pairwise.nil,fun _ hm=>(nomatch hm)⟩⟩,h2,h3,h4⟩
theorem Ye6{l:PySem.W.OpenLaw}{n k:Nat}{q:Program}{loose:List Str}{XP:(Str→Option Value)→Heap→Prop}{YP:World→Heap→Prop}{d:DefRec}{K:Params→Ad}{CX:World→CXT}{sp:World→Sp}{x:Str}
  (hn:l.most=some n) (hn2:n≤sizeLine) (hdf:d.params.defaults=[]) (hr:Room k callerA) (hY:∀(w:World) (h:Heap),YP w h→(K w.params).In h)
  (F:∀(w:World) (mg:Str→Option Value) (fa:Addr) (h:Heap),(K w.params).In h→h.Ns mainGlobals mg→mg d.name=some (.ref fa)→
   ∃fd:FuncData,(∀(s:Shared) (u:Value),BindsTo s fd ⟨[u],[]⟩ [(x,u)])∧∀base:Heap,(K w.params).In base→base.Ns mainGlobals mg→FnOk l.prog w (K w.params) mg base (CX w) k fa fd [x] (sp w))
  (hsp:∀(w:World) (H:Hp) (a:Addr) (ns:List Int),ns.length≤n→(∀i∈ns,Bits bigN i)→Only H→SqL (K w.params) H a (ns.map V.int)→sp w [.ref a] H (fun v _=>v= .bl true) fun _ _ _=>False)
  (hCX:∀(w:World) (H:Hp) (s:Shared) (e:Value) (s':Shared),CX w [] H s (fun _ _ _=>False) e s'→False):
  PySem.W.WalkO q loose XP YP l.row.toRowW d [] (fun f vs=>PySem.call f vs):=by
 refine G5 hn hdf fun w s₀ s₁ mg mb fa o pm cd doc a vs ns G Y hmg hobj hints hlen hbits hg=>?_
 have KX:=hY w _ Y
 obtain⟨fd,hb,hF⟩:=F w mg fa _ KX G.T.g hmg
 exact Zt8 KX G.T.g G.T.b G.T.builtins G.T.nolimit hg hobj hints (Nat.le_trans hlen hn2) hr hF hb (fun H hO hS=>hsp w H a ns hlen hbits hO hS) fun H e s'=>hCX w H s₁ e s'
end L3
namespace L3
open PySem
section
variable{P:Program}{w:World}{A:Around}{R:Result→Shared→Prop}{s:Shared}{elt tg iter c:Expr}{scope:Scope}{pos:Pos}{it acc:Value}{env:Env}
abbrev noE:Value→Shared→Prop:=fun _ _=>False
theorem Z70(I:Nat→Shared→Prop)
  (turn:∀n s,I n s→wpAny (model P w) A (pyNext it) (fun r s1=>match r with
   | none=>R (.ok .next) s1
   | some v=>wpAny (model P w) A (letOwnedTupleGo tg it v) (fun _ s2=>wpAny (model P w) A (assign tg env v) (fun _ s3=>wpAny (model P w) A (eval elt env) (fun x s4=>
     wpAny (model P w) A (call (.builtin "list.append") [acc,x]) (fun _ s5=>∃m,m<n∧I m s5) noE s4) noE s3) noE s2) noE s1) noE s)
  (n:Nat) (h:I n s):codeAny (model P w) A (.compLoop (.ListComp elt [⟨tg,iter,[],0⟩] scope pos) 0 it acc env) R s:=by
 refine codeAny_loop rfl I (fun m z hI=>?_) n h
 show wpAny _ A ((compTurn (.ListComp elt [⟨tg,iter,[],0⟩] scope pos) 0 it acc env).onRaise fun x=>do noteFrame x env;theTreesLotGoes x) _ _ z
 refine wpAny_noted ?_
 rw[compTurn_list1]
 refine Aa (wpAny_standAt (Aa (Hl (turn m z hI) (fun r s1 h1=>?_) fun _ _ f=>f.elim)))
 cases r with
 | none=>exact Ai h1
 | some v=>
  refine Aa (Hl h1 (fun _ s2 h2=>?_) fun _ _ f=>f.elim)
  refine Aa (Hl h2 (fun _ s3 h3=>?_) fun _ _ f=>f.elim)
  refine Aa (Aa (Hl h3 (fun x s4 h4=>?_) fun _ _ f=>f.elim))
  exact Aa (Hl h4 (fun _ s5 h5=>Ai (Ai ⟨rfl,h5⟩)) fun _ _ f=>f.elim)
theorem Z81(I:Nat→Shared→Prop)
  (turn:∀n s,I n s→wpAny (model P w) A (pyNext it) (fun r s1=>match r with
   | none=>R (.ok .next) s1
   | some v=>wpAny (model P w) A (letOwnedTupleGo tg it v) (fun _ s2=>wpAny (model P w) A (assign tg env v) (fun _ s3=>wpAny (model P w) A (isTrue c env (eval c env)) (fun ok s4=>
     if ok=true then wpAny (model P w) A (eval elt env) (fun x s5=>wpAny (model P w) A (call (.builtin "list.append") [acc,x]) (fun _ s6=>∃m,m<n∧I m s6) noE s5) noE s4
     else ∃m,m<n∧I m s4) noE s3) noE s2) noE s1) noE s)
  (n:Nat) (h:I n s):codeAny (model P w) A (.compLoop (.ListComp elt [⟨tg,iter,[c],0⟩] scope pos) 0 it acc env) R s:=by
 refine codeAny_loop rfl I (fun m z hI=>?_) n h
 show wpAny _ A ((compTurn (.ListComp elt [⟨tg,iter,[c],0⟩] scope pos) 0 it acc env).onRaise fun x=>do noteFrame x env;theTreesLotGoes x) _ _ z
 refine wpAny_noted ?_
 rw[compTurn_list]
 refine Aa (wpAny_standAt (Aa (Hl (turn m z hI) (fun r s1 h1=>?_) fun _ _ f=>f.elim)))
 cases r with
 | none=>exact Ai h1
 | some v=>
  refine Aa (Hl h1 (fun _ s2 h2=>?_) fun _ _ f=>f.elim)
  refine Aa (Hl h2 (fun _ s3 h3=>?_) fun _ _ f=>f.elim)
  refine Aa (wpAny_tests_one (Hl h3 (fun ok s4 h4=>?_) fun _ _ f=>f.elim))
  cases ok with
  | false=>exact Ai ⟨rfl,h4⟩
  | true=>
   refine Aa (Aa (Hl h4 (fun x s5 h5=>?_) fun _ _ f=>f.elim))
   exact Aa (Hl h5 (fun _ s6 h6=>Ai (Ai ⟨rfl,h6⟩)) fun _ _ f=>f.elim)
end
theorem Sc:∀(names:List (Str×NameKind)) (acc:List (Str×Addr)),(∀n,(n,Dh)∈names→∃c,env.cells.lookup n=some c)→
  (∀x c,acc.lookup x=some c→env.cells.lookup x=some c)→
  ∃cl,(forIn names acc fun(x:Str×NameKind) (cs:List (Str×Addr))=>match x with
   |(name,kind)=>if (kind==Dh)=true then do let c ←cellOf env name;pure (ForInStep.yield ((name,c)::cs)) else pure (ForInStep.yield cs):Sem (List (Str×Addr)))=pure cl∧
   (∀x c,cl.lookup x=some c→env.cells.lookup x=some c)∧(∀n,(n,Dh)∈names→∃c,cl.lookup n=some c)∧∀x c,acc.lookup x=some c→∃c',cl.lookup x=some c'
 | [],acc,_,ha=>⟨acc,rfl,ha,(fun _ h=>nomatch h),fun x c e=>⟨c,e⟩⟩
 |(n,k)::r,acc,hn,ha=>by
  by_cases hk:k= .free
  ·subst hk
   obtain⟨c,hc⟩:=hn n Ao
   obtain⟨cl,e,h1,h2,h3⟩:=Sc r ((n,c)::acc) (fun m hm=>hn m (Ar _ hm)) (fun x d hx=>by
    rw[Hn] at hx
    cases q:x==n with
    | true=>rw[q] at hx;cases hx;rw[Kc q];exact hc
    | false=>rw[q] at hx;exact ha x d hx)
   refine⟨cl,?_,h1,fun m hm=>?_,fun x d hx=>?_⟩
   ·rw[List.forIn_cons]
    show(bind (bind (cellOf env n) _) _:Sem _)=_
    unfold cellOf
    rw[hc]
    exact e
   ·rcases Ag.mp hm with q | q
    ·cases q;exact h3 n c (by simp[Hn])
    ·exact h2 m q
   ·cases q:x==n with
    | true=>exact h3 x c (by rw[Hn,q])
    | false=>exact h3 x d (by rw[Hn,q];exact hx)
  ·have hb:(k==Dh)=false:=by simpa using hk
   obtain⟨cl,e,h1,h2,h3⟩:=Sc r acc (fun m hm=>hn m (Ar _ hm)) ha
   refine⟨cl,?_,h1,fun m hm=>?_,h3⟩
   ·rw[List.forIn_cons]
    show(bind (if (k==Dh)=true then _ else _) _:Sem _)=_
    rw[hb]
    exact e
   ·rcases Ag.mp hm with q | q
    ·cases q;exact absurd rfl hk
    ·exact h2 m q
theorem Ww(hn:∀n,(n,Dh)∈scope.names→∃c,env.cells.lookup n=some c):
  ∃cl,closureFor scope env=pure cl∧(∀x c,cl.lookup x=some c→env.cells.lookup x=some c)∧∀n,(n,Dh)∈scope.names→∃c,cl.lookup n=some c:=by
 obtain⟨cl,e,h1,h2,_⟩:=Sc scope.names [] hn (fun x c h=>by cases h)
 refine⟨cl,?_,h1,h2⟩
 exact(congrArg (fun t:Sem (List (Str×Addr))=>bind t fun z=>pure z) e).trans rfl
end L3
namespace L3
open PySem PySem.Spec PyProof.Rows L2
noncomputable def cxC(X:Cx)(N':List Str)(scope:Scope)(cl:List (Str×Addr))(C:Addr)(fp:List Addr)(pins:List (Addr×Obj))(s:Shared)(H:Hp):Cx where
 prog:=X.prog
 w:=X.w
 K:=X.K
 mg:=X.mg
 base:=X.base
 A:=X.A
 N:=N'
 s₀:=s
 H₀:=H
 env:=compEnvC scope cl C X.env
 outer:=X.stack
 stack:=X.stack
 ex:=fp
 fn:=fun x=>scope.names.any fun y=>y.1==x&&y.2== .cell
 calm:=X.calm
 pn:=X.pn++pins
 xe:=noE
noncomputable def Xq(scope dsc:Scope):Scope:=
 {scope with names:=scope.names.map fun(n,k)=>if (k== .free&&dsc.kind== .function&&dsc.names.lookup n==some .cell) then(n,.cell) else(n,k)}
noncomputable def Si(js:List (Option Nat))(σ:L2.St):L2.St:=js.map fun o=>o.bind fun j=>(σ[j]?).join
structure CompScope(dsc:Scope)(dN N':List Str)(js:List (Option Nat))(scope:Scope):Prop where
 kind:scope.kind= .function
 nd:(scope.names.map (·.1)).Nodup
 loc:∀y∈scope.names,y.2= .local→scope.names.lookup y.1=some .local
 len:js.length=N'.length
 cap:∀(i:Nat) (x:Str) (j:Nat),N'[i]?=some x→js[i]?=some (some j)→dN[j]?=some x∧(x,Dh)∈scope.names
 free:∀n,(n,Dh)∈scope.names→dsc.names.lookup n=some .cell∨dsc.names.lookup n=some .free
 seen:∀n,(n,Dh)∈scope.names→(Xq scope dsc).names.lookup n=some .cell∨(Xq scope dsc).names.lookup n=some .free
noncomputable def Vv(dsc:Scope)(dN N':List Str)(js:List (Option Nat))(scope:Scope):Bool:=
 scope.kind== .function&&decide ((scope.names.map (·.1)).Nodup)&&scope.names.all (fun y=>y.2 != .local || scope.names.lookup y.1==some .local)&&js.length==N'.length&&
 (N'.zip js).all (fun p=>match p.2 with | some j=>dN[j]?==some p.1&&scope.names.contains (p.1,Dh) | none=>true)&&
 scope.names.all (fun y=>y.2 != .free || ((dsc.names.lookup y.1==some .cell || dsc.names.lookup y.1==some .free)&&((Xq scope dsc).names.lookup y.1==some .cell || (Xq scope dsc).names.lookup y.1==some .free)))
theorem CompScope.of(h:Vv dsc dN N' js scope=true):CompScope dsc dN N' js scope:=by
 unfold Vv at h
 simp only[Bz9,Dj,beq_iff_eq,bne_iff_ne,Bool.or_eq_true,decide_eq_true_eq] at h
 obtain⟨⟨⟨⟨⟨h1,h2⟩,h3⟩,h4⟩,h5⟩,h6⟩:=h
 refine⟨h1,h2,fun y hy hl=>(h3 y hy).resolve_left fun z=>z hl,h4,fun i x j e1 e2=>?_,fun n hn=>?_,fun n hn=>?_⟩
 ·have hm:(x,some j)∈N'.zip js:=Hx (i:=i) (by rw[List.getElem?_zip_eq_some];exact⟨e1,e2⟩)
  have q:=h5 _ hm
  simp only[Bz9,beq_iff_eq,Dw] at q
  exact q
 ·exact((h6 _ hn).resolve_left fun z=>z rfl).1
 ·exact((h6 _ hn).resolve_left fun z=>z rfl).2
theorem Vo{env:Env}{x:Str}{k:NameKind}:∀{names:List (Str×NameKind)},
  (names.map fun(n,k)=>if (k==Dh&&env.scope.kind== .function&&env.kindOf n==some .cell) then(n,Hb) else(n,k)).lookup x=some k→(k= .cell∨k= .free)→(x,Dh)∈names∨(x,Hb)∈names
 | [],h,_=>by simp at h
 |(n,q)::r,h,hk=>by
  rw[De] at h
  by_cases hx:x=n
  ·subst hx
   have hq:q= .free∨q= .cell:=by
    by_cases c:(q==Dh&&env.scope.kind== .function&&env.kindOf x==some .cell)=true
    ·rw[Bz9,Bz9] at c
     exact .inl (Kc c.1.1)
    ·simp only[if_neg c] at h
     rw[Hn,beq_self_eq_true] at h
     have e:q=k:=Dd h
     rcases hk with z | z
     ·exact .inr (e.trans z)
     ·exact .inl (e.trans z)
   rcases hq with rfl | rfl
   ·exact .inl Ao
   ·exact .inr Ao
  ·have hb:(x==n)=false:=by simpa using hx
   have rest:(r.map fun(n,k)=>if (k==Dh&&env.scope.kind== .function&&env.kindOf n==some .cell) then(n,Hb) else(n,k)).lookup x=some k:=by
    by_cases c:(q==Dh&&env.scope.kind== .function&&env.kindOf n==some .cell)=true
    ·simp only[if_pos c] at h
     rw[Hn,hb] at h
     exact h
    ·simp only[if_neg c] at h
     rw[Hn,hb] at h
     exact h
   exact(Vo (env:=env) rest hk).imp (Ar _) (Ar _)
structure BlockCells(X:Cx)(scope:Scope)(cl:List (Str×Addr))(sz:Nat)(h1:Heap):Prop where
 each:∀x c,cl.lookup x=some c→X.env.cells.lookup x=some c∨(sz<c∧h1.IsCell c none)
 free:∀n,(n,Dh)∈scope.names→∃c,cl.lookup n=some c∧X.env.cells.lookup n=some c
 own:∀n,(n,Hb)∈scope.names→∃c,cl.lookup n=some c∧sz<c
 inj:∀x y c,cl.lookup x=some c→cl.lookup y=some c→sz<c→x=y
theorem Tx{x:Str}:∀(names:List (Str×NameKind)) (n:Nat) (acc:List (Str×Addr)),(x,Hb)∉names→(cellsFrom n names acc).lookup x=acc.lookup x
 | [],_,_,_=>rfl
 |(y,k)::r,n,acc,h=>by
  have hr:(x,Hb)∉r:=fun z=>h (Ar _ z)
  unfold cellsFrom
  split
  ·rename_i hk
   have hxy:(x==y)=false:=by
    rw[beq_eq_false_iff_ne]
    intro e
    apply h
    rw[e,←Kc hk]
    exact Ao
   rw[Tx r _ _ hr,Hn,hxy]
  ·exact Tx r n acc hr
theorem Pk{x:Str}:∀(names:List (Str×NameKind)) (n:Nat) (acc:List (Str×Addr)),(x,Hb)∈names→∃c,(cellsFrom n names acc).lookup x=some c∧n≤c
 | [],_,_,h=>by cases h
 |(y,k)::r,n,acc,h=>by
  unfold cellsFrom
  by_cases hr:(x,Hb)∈r
  ·split
   ·obtain⟨c,e,l⟩:=Pk r (n+1) ((y,n)::acc) hr
    exact⟨c,e,by omega⟩
   ·exact Pk r n acc hr
  ·rcases Ag.mp h with e | e
   ·cases e
    rw[if_pos (by rfl),Tx r _ _ hr,Hn,beq_self_eq_true]
    exact⟨n,rfl,Nat.le_refl _⟩
   ·exact absurd e hr
theorem Vp:∀(names:List (Str×NameKind)) (n:Nat) (acc cl:List (Str×Addr)),∃own,cellsFrom n names (acc++cl)=own++cl∧cellsFrom n names acc=own
 | [],n,acc,cl=>⟨acc,rfl,rfl⟩
 |(y,k)::r,n,acc,cl=>by
  unfold cellsFrom
  split
  ·exact Vp r (n+1) ((y,n)::acc) cl
  ·exact Vp r n acc cl
theorem Wt{x:Str}:∀{a b:List (Str×Addr)},(a++b).lookup x=some c→a.lookup x=some c∨b.lookup x=some c
 | [],b,h=> .inr h
 |(y,d)::a,b,h=>by
  rw[Dp,Hn] at h
  rw[Hn]
  cases e:x==y with
  | true=>rw[e] at h;exact .inl h
  | false=>rw[e] at h;exact Wt h
theorem Oz{H:Hp}(nd:(scope.names.map (·.1)).Nodup)(I:Inv X pins σ H s)(o:Obj)
  (c1:∀x c,cl.lookup x=some c→X.env.cells.lookup x=some c) (c2:∀n,(n,Dh)∈scope.names→∃c,cl.lookup n=some c):
  BlockCells X scope (cellsFrom (s.heap.objs.size+1) scope.names cl) s.heap.objs.size (pushCells (s.heap.push o) scope.names):=by
 obtain⟨own,e1,e2⟩:=Vp scope.names (s.heap.objs.size+1) [] cl
 rw[Dv] at e1
 have ok:=cellsFrom_ok scope.names (s.heap.push o) (s.heap.objs.size+1) [] ⟨fun _ _ hm=>(nomatch hm),List.Pairwise.nil⟩ (by rw[Hs];exact Nat.le_refl _)
 rw[Hs,e2] at ok
 have old:∀x c,cl.lookup x=some c→c<s.heap.objs.size:=by
  intro x c e
  obtain⟨v,q⟩:=I.cell x c (c1 x c e)
  exact q.lt
 have one:∀{n:Str},(n,Dh)∈scope.names→(n,Hb)∉scope.names:=by
  intro n h1 h2
  have key:∀(l:List (Str×NameKind)),(l.map (·.1)).Nodup→(n,Dh)∈l→(n,Hb)∈l→False:=by
   intro l
   induction l with
   | nil=>intro _ h;cases h
   | cons y r ih=>
    intro hn a b
    rw[De,Ip] at hn
    rcases Ag.mp a with e1 | a2
    ·rcases Ag.mp b with e2 | b2
     ·rw[←e1] at e2;cases e2
     ·exact hn.1 (Hf.mpr ⟨_,b2,by rw[←e1]⟩)
    ·rcases Ag.mp b with e2 | b2
     ·exact hn.1 (Hf.mpr ⟨_,a2,by rw[←e2]⟩)
     ·exact ih hn.2 a2 b2
  exact key _ nd h1 h2
 refine⟨fun x c e=>?_,fun n hn=>?_,fun n hn=>?_,fun x y c hx hy hc=>?_⟩
 ·rw[e1] at e
  rcases Wt e with z | z
  ·obtain⟨a,b⟩:=ok.empty x c (mem_of_lookup z)
   exact .inr ⟨b,a⟩
  ·exact .inl (c1 x c z)
 ·obtain⟨c,hc⟩:=c2 n hn
  refine⟨c,?_,c1 n c hc⟩
  rw[Tx _ _ _ (one hn)]
  exact hc
 ·obtain⟨c,a,b⟩:=Pk scope.names (s.heap.objs.size+1) cl hn
  exact⟨c,a,b⟩
 ·rw[e1] at hx hy
  rcases Wt hx with z | z
  ·rcases Wt hy with z2 | z2
   ·exact name_of_addr ok.apart (mem_of_lookup z) (mem_of_lookup z2)
   ·exact absurd (old y c z2) (Nat.lt_asymm hc)
  ·exact absurd (old x c z) (Nat.lt_asymm hc)
theorem Ox{M:Model}{A:Around}{E:Value→Shared→Prop}{s:Shared}{scope:Scope}{globals:Addr}{cl:List (Str×Addr)}{qual:Str}{o:Env}{Q:Env→Shared→Prop}
  (hQ:Q {scope:=scope,locals:=s.heap.objs.size,globals:=globals,cells:=cellsFrom (s.heap.objs.size+1) scope.names cl,qual:=qual,func:=none,code:=o.code,frame:=o.frame,builtins:=o.builtins} {s with heap:=pushCells (s.heap.push {cls:= .type "dict",data:= .dict #[]}) scope.names}):
  wpAny M A (newFunctionEnv scope globals cl [] qual none .none (some o)) Q E s:=by
 simp only[newFunctionEnv,Option.isSome_some,if_true]
 refine Aa (wpAny_alloc ?_)
 refine Aa (wpAny_layCells _ (fun name kind cells=>by cases hkc:kind==Hb<;>simp[hkc]) _ _ _ _ ?_)
 rw[show({s with heap:=s.heap.push {cls:= .type "dict",data:= .dict #[]}}:Shared).heap.objs.size=s.heap.objs.size+1 from Hs ..]
 rw[List.forIn_nil]
 exact Aa (Ai (Ai hQ))
section
variable{X:Cx}{elt tg iter c:Expr}{scope:Scope}{pos:Pos}{N':List Str}{js:List (Option Nat)}{wi:TI}{g:TG}{te:TE}{tc:TT}
theorem N8{N':List Str}{js:List (Option Nat)}{pins:List (Addr×Obj)}{σ:L2.St}{H:Hp}{s:Shared}{cl:List (Str×Addr)}{fp:List Addr}{h1:Heap}{tk:Nat}(S:CompScope X.env.scope X.N N' js scope)(I:Inv X pins σ H s)
  (bc:BlockCells X scope cl s.heap.objs.size h1) (hf:∀b∈fp,FpOk X pins H b) (hlt:∀b∈fp,b<s.heap.objs.size)
  {m:Str→Option Value} (hn:h1.Ns s.heap.objs.size m) (hk:∀b o,s.heap.get? b=some o→h1.get? b=some o):
  Inv (cxC X N' scope cl s.heap.objs.size fp pins s H) [] (Si js σ) H {s with heap:=h1,toks:=tk}:=by
 have ok:(cxC X N' scope cl s.heap.objs.size fp pins s H).Ok:=by
  refine⟨I.ok.mod,S.kind,I.ok.glob,I.ok.blt,Nat.le_refl _,fun x y c h1 h2=>?_,fun x hx=>?_,fun x c hx e=>?_,I.ok.hd,I.ok.frames,.inl rfl,fun b hb=>⟨Nat.ne_of_lt (hlt b hb),fun x c e=>?_⟩,
   I.bs,Nat.le_trans I.ok.bsz I.sz,fun b o e hb=>?_,fun b hb hx=>?_,I.stack,I.stkFree⟩
  ·rcases bc.each x c h1 with z | z
   ·rcases bc.each y c h2 with z2 | z2
    ·exact I.ok.inj x y c z z2
    ·exact bc.inj x y c h1 h2 z2.1
   ·exact bc.inj x y c h1 h2 z.1
  ·have hx':(relabel scope X.env).names.lookup x=some .cell∨(relabel scope X.env).names.lookup x=some .free:=hx
   have hm:(x,Dh)∈scope.names∨(x,Hb)∈scope.names:=by
    rcases hx' with z | z
    ·exact Vo z (.inl rfl)
    ·exact Vo z (.inr rfl)
   rcases hm with z | z
   ·obtain⟨c,e,_⟩:=bc.free x z;exact⟨c,e⟩
   ·obtain⟨c,e,_⟩:=bc.own x z;exact⟨c,e⟩
  ·have hx':(scope.names.any fun y=>y.1==x&&y.2==Hb)=true:=hx
   rw[Lb] at hx'
   obtain⟨⟨y,k⟩,hm,hy⟩:=hx'
   rw[Bz9] at hy
   have e1:y=x:=Kc hy.1
   have e2:k= .cell:=Kc hy.2
   subst e1 e2
   obtain⟨c',e',l⟩:=bc.own _ hm
   have:c'=c:=Dd (e'.symm.trans e)
   subst this
   exact Nat.le_of_lt l
  ·rcases bc.each x c e with z | z
   ·exact(hf b hb).2.2.2.2.1 x c z
   ·exact fun q=>absurd z.1 (Nat.lt_asymm (by rw[q];exact hlt b hb))
  ·obtain⟨_,_,_,f3,_⟩:=hf b hb
   rcases f3 with z | z
   ·exact I.ok.noex b o e z
   ·exact absurd (Nat.lt_of_lt_of_le (Al e) (Nat.le_trans I.ok.bsz z)) (Nat.lt_irrefl _)
  ·obtain⟨_,f1,f2,_⟩:=hf b hb
   rcases Ag.mp (I.stkSub b hx) with z | z
   ·exact f1 z
   ·exact f2 z
 refine⟨ok,rfl,I.bare,Un.kept hk,⟨m,hn,fun i x v e1 e2 e3=>?_⟩,fun x c e=>?_,I.hok.fresh (Nat.le_refl _),fun x c e=>(bc.each x c e).elim (fun z=>I.freeC x c z) (fun z=>I.hok.fresh (Nat.le_of_lt z.1)),fun p hp=>?_,I.hok.kept hk,?_⟩
 ·have e2':(Si js σ)[i]?=some (some v):=e2
  unfold Si at e2'
  rw[As] at e2'
  cases q:js[i]? with
  | none=>rw[q] at e2';cases e2'
  | some o=>
   rw[q] at e2'
   cases o with
   | none=>cases e2'
   | some j=>
    have e4:(σ[j]?).join=some v:=Dd e2'
    obtain⟨hN,hm⟩:=S.cap i x j e1 q
    have hσ:σ[j]?=some (some v):=by
     cases z:σ[j]? with
     | none=>rw[z] at e4;cases e4
     | some o=>rw[z] at e4;exact congrArg some e4
    obtain⟨m0,hn0,hl⟩:=I.loc
    obtain⟨c,hc,hc0⟩:=bc.free x hm
    have hv:Vis X.env.scope x:=(S.free x hm).elim (fun z=> .inr (.inl z)) fun z=> .inr (.inr z)
    obtain⟨u,r,l⟩:=hl j x v hN hσ hv
    refine⟨u,r,.inr ⟨?_,c,hc,?_⟩⟩
    ·exact S.seen x hm
    ·rcases l with⟨kl,_⟩ | ⟨_,c',hc',cell⟩
     ·rcases S.free x hm with y | y<;>(have z:=y.symm.trans (show X.env.scope.names.lookup x=some .local from kl);cases z)
     ·rw[hc0] at hc'
      cases hc'
      obtain⟨o,ho,hd⟩:=cell
      exact⟨o,hk _ _ ho,hd⟩
 ·rcases bc.each x c e with z | z
  ·obtain⟨v,o,ho,hd⟩:=I.cell x c z
   exact⟨v,o,hk _ _ ho,hd⟩
  ·exact⟨none,z.2⟩
 ·have hp':p∈X.pn++pins:=(Bk.mp hp).elim (fun z=>z) fun z=>absurd z (by simp)
  obtain⟨e,n,ne,nf,d⟩:=I.pin p hp'
  refine⟨hk _ _ e,n,Nat.ne_of_lt (Al e),fun z=>?_,d⟩
  rcases Ag.mp (I.stkSub p.1 z) with y | y
  ·exact ne y
  ·exact nf y
 ·show(Si js σ).length=N'.length
  unfold Si
  rw[Ac];exact S.len
end
section
variable{X:Cx}{elt tg iter c:Expr}{scope:Scope}{pos:Pos}{N':List Str}{js:List (Option Nat)}{wi:TI}{g:TG}{te:TE}{tc:TT}
def Z92(js:List (Option Nat))(wi:TI)(g:TG)(te:TE):TE:=fun σ H Q=>wi σ H fun J H1=>∀D,H1 D=none→∃W:Nat→Nat→L2.St→Hp→Prop,(∃m,W 0 m (Si js σ) (upd H1 D (.lst [])))∧
 ∀i m σc Hc,W i m σc Hc→(J.stop i Hc∧Q (.ref D) Hc)∨(J.go i Hc∧∀x H',J.yld i Hc x H'→g x σc H' fun σ2 H2=>te σ2 H2 fun y H4=>∃acc,H4 D=some (.lst acc)∧acc.length<sizeLine∧
  ∃m',m'<m∧W (i+1) m' σ2 (upd H4 D (.lst (acc++[y]))))
def Zv5(js:List (Option Nat))(wi:TI)(g:TG)(tc:TT)(te:TE):TE:=fun σ H Q=>wi σ H fun J H1=>∀D,H1 D=none→∃W:Nat→Nat→L2.St→Hp→Prop,(∃m,W 0 m (Si js σ) (upd H1 D (.lst [])))∧
 ∀i m σc Hc,W i m σc Hc→(J.stop i Hc∧Q (.ref D) Hc)∨(J.go i Hc∧∀x H',J.yld i Hc x H'→g x σc H' fun σ2 H2=>tc σ2 H2 fun b H3=>if b=true then te σ2 H3 fun y H4=>∃acc,H4 D=some (.lst acc)∧acc.length<sizeLine∧
  ∃m',m'<m∧W (i+1) m' σ2 (upd H4 D (.lst (acc++[y]))) else ∃m',m'<m∧W (i+1) m' σ2 H3)
theorem Q4{pins:List (Addr×Obj)}{σ:L2.St}{H2:Hp}{s2:Shared}{cl:List (Str×Addr)}{it:Addr}{fp:List Addr}{tn:Nat→Heap→Prop}{J:It}{QD:Addr→Hp→Prop}{R:Value→Addr→Result→Shared→Prop}{E:Value→Shared→Prop}
  (hc:X.calm=true) (S:CompScope X.env.scope X.N N' js scope) (c1:∀x c,cl.lookup x=some c→X.env.cells.lookup x=some c) (c2:∀n,(n,Dh)∈scope.names→∃c,cl.lookup n=some c)
  (hg:∀cl C fp pins s H,PG (cxC X N' scope cl C fp pins s H) tg g) (he:∀cl C fp pins s H,PE (cxC X N' scope cl C fp pins s H) elt te)
  (I2:Inv X pins σ H2 s2) (T:Turn X.prog X.w X.K tg J fp it tn) (st2:tn 0 s2.heap) (f2:∀b∈fp,FpOk X pins H2 b)
  (q:∀D,H2 D=none→∃W:Nat→Nat→L2.St→Hp→Prop,(∃m,W 0 m (Si js σ) (upd H2 D (.lst [])))∧
   ∀i m σc Hc,W i m σc Hc→(J.stop i Hc∧QD D Hc)∨(J.go i Hc∧∀x H',J.yld i Hc x H'→g x σc H' fun σ2 H2=>te σ2 H2 fun y H4=>∃acc,H4 D=some (.lst acc)∧acc.length<sizeLine∧
    ∃m',m'<m∧W (i+1) m' σ2 (upd H4 D (.lst (acc++[y])))))
  (back:∀(D C:Addr) (Hc:Hp) (s4:Shared),(∃m,s4.heap.Ns C m)→Inv X pins σ Hc s4→Hc C=none→C≠X.env.locals→X.s₀.heap.objs.size≤C→(∀x c,X.env.cells.lookup x=some c→c≠C)→(∀p∈X.pn++pins,p.1≠C)→QD D Hc→R (.ref D) C (.ok .next) s4):
  wpAny (model X.prog X.w) X.A (newList []) (fun acc s3=>wpAny (model X.prog X.w) X.A (newFunctionEnv scope X.env.globals cl [] X.env.qual none .none (some X.env)) (fun cenv s4=>
   codeAny (model X.prog X.w) X.A (.compStart (.ListComp elt [⟨tg,iter,[],0⟩] scope pos) 0 (.ref it) acc {cenv with scope:=relabel scope X.env}) (R acc cenv.locals) s4) E s3) E s2:=by
 refine Io (Ox ?_)
 dsimp only
 have I3:Inv X pins σ (upd H2 s2.heap.objs.size (.lst [])) {s2 with heap:=s2.heap.push {cls:= .type "list",data:= .seq ([]:List Value).toArray}}:=I2.lnew (its:=[]) (t':=s2.toks) .nil (Nat.zero_le _)
 obtain⟨W,⟨m0,w0⟩,turn⟩:=q s2.heap.objs.size I2.fresh
 have hob:=T.obj 0 _ st2
 have f3:∀b∈fp,FpOk X pins (upd H2 s2.heap.objs.size (.lst [])) b:=fun b hb=>by
  obtain⟨o,e,_⟩:=hob b hb
  exact⟨by rw[Zo (Nat.ne_of_lt (Al e))];exact(f2 b hb).1,(f2 b hb).2⟩
 generalize hS3:(s2.heap.push {cls:= .type "list",data:= .seq ([]:List Value).toArray}:Heap)=h3 at *
 have k23:∀b o,s2.heap.get? b=some o→h3.get? b=some o:=fun b o e=>by rw[←hS3];exact Ak _ e
 have hlt:∀b∈fp,b<h3.objs.size:=fun b hb=>by
  obtain⟨o,e,_⟩:=hob b hb
  exact Al (k23 b o e)
 have bc:=Oz S.nd I3 {cls:= .type "dict",data:= .dict #[]} c1 c2
 have hns:(pushCells (h3.push {cls:= .type "dict",data:= .dict #[]}) scope.names).Ns h3.objs.size (fun _=>none):=(Heap.Ns.new h3 (.type "dict")).keeps (pushCells_keeps _ _)
 have k31:∀b o,h3.get? b=some o→(pushCells (h3.push {cls:= .type "dict",data:= .dict #[]}) scope.names).get? b=some o:=fun b o e=>pushCells_keeps _ _ b o (Ak _ e)
 dsimp only at bc
 generalize cellsFrom (h3.objs.size+1) scope.names cl=cl' at bc ⊢
 generalize pushCells (h3.push {cls:= .type "dict",data:= .dict #[]}) scope.names=h1 at bc hns k31 ⊢
 have I4:=N8 (tk:=s2.toks) S I3 bc f3 hlt hns k31
 have st4:tn 0 h1:=T.keep 0 _ h1 st2 fun b hb o e=>k31 b o (k23 b o e)
 have nofs:∀b∈fp,b∉(cxC X N' scope cl' h3.objs.size fp pins {s2 with heap:=h3} (upd H2 s2.heap.objs.size (.lst []))).fs:=I4.ok.exfs
 have stat:∀{H':Hp},(∀b∈fp,H' b=none)→∀b∈fp,FpOk (cxC X N' scope cl' h3.objs.size fp pins {s2 with heap:=h3} (upd H2 s2.heap.objs.size (.lst []))) [] H' b:=fun{H'} hn b hb=>
  ⟨hn b hb,Nat.ne_of_lt (hlt b hb),nofs b hb,.inl hb,fun x c e=>(bc.each x c e).elim (fun z=>(f3 b hb).2.2.2.2.1 x c z) (fun z q=>absurd z.1 (Nat.lt_asymm (by rw[q];exact hlt b hb))),fun p hp=>(f3 b hb).2.2.2.2.2 p (by simpa[cxC] using hp)⟩
 have loop:codeAny (model X.prog X.w) X.A (.compLoop (.ListComp elt [⟨tg,iter,[],0⟩] scope pos) 0 (.ref it) (.ref s2.heap.objs.size) (compEnvC scope cl' h3.objs.size X.env))
   (R (.ref s2.heap.objs.size) h3.objs.size) {s2 with heap:=h1,toks:=s2.toks}:=by
  refine Z70 (fun n s'=>∃i σc Hc,Inv (cxC X N' scope cl' h3.objs.size fp pins {s2 with heap:=h3} (upd H2 s2.heap.objs.size (.lst []))) [] σc Hc s'∧tn i s'.heap∧(∀b∈fp,Hc b=none)∧W i n σc Hc) ?_ m0
   ⟨0,_,_,I4,st4,fun b hb=>(f3 b hb).1,w0⟩
  rintro n z ⟨i,σc,Hc,Iz,stz,frz,wz⟩
  rcases turn i n σc Hc wz with⟨stop,qd⟩ | ⟨go,step⟩
  ·refine thn (T.done (cxC X N' scope cl' h3.objs.size fp pins {s2 with heap:=h3} (upd H2 s2.heap.objs.size (.lst []))) rfl rfl rfl hc i [] z σc Hc noE Iz (stat frz) stz stop) fun r s4 zz41=>?_
   obtain⟨hr,I5⟩:=zz41
   subst hr
   have J5:Inv X pins σ Hc s4:=I3.call' (s':=s4) I5.os I5.base I5.hok I5.bare fun b hb=>⟨(f3 b hb).2.2.2.1,(f3 b hb).2.1,(f3 b hb).2.2.2.2.1,(f3 b hb).2.2.2.2.2⟩
   obtain⟨m,hm,_⟩:=I5.loc
   refine back _ _ Hc s4 ⟨m,hm⟩ J5 I5.free (Nat.ne_of_gt I3.lt) (Nat.le_trans I3.ok.above (Nat.le_of_lt I3.lt)) (fun x c e z=>?_) (fun p hp z=>?_) qd
   ·obtain⟨v,q⟩:=I3.cell x c e
    exact absurd q.lt (by rw[z];exact Nat.lt_irrefl _)
   ·exact absurd (Al (I3.pin p hp).1) (by rw[z];exact Nat.lt_irrefl _)
  ·refine thn (T.item (cxC X N' scope cl' h3.objs.size fp pins {s2 with heap:=h3} (upd H2 s2.heap.objs.size (.lst []))) rfl rfl rfl hc i [] z σc Hc noE Iz (stat frz) stz go) fun r s4 zz42=>?_
   obtain⟨u,hr,h4⟩:=zz42
   subst hr
   refine thn h4 fun _ s5 zz43=>?_
   obtain⟨x,H5,I5,r5,y5,st5,fr5⟩:=zz43
   have I5':=I5.pinned (stat fr5) (T.obj _ _ st5)
   refine thn (hg _ _ _ _ _ _ _ s5 σc H5 x u _ I5' r5 (step x H5 y5)) fun _ s6 zz44=>?_
   obtain⟨σ6,H6,I6,q6⟩:=zz44
   refine thn (he _ _ _ _ _ _ _ s6 σ6 H6 _ I6 q6) fun v s7 zz45=>?_
   obtain⟨y,H7,I7,r7,acc,hD,hlen,m',hm,w7⟩:=zz45
   refine thn (Pc _ s7 σ6 H7 (.ref s2.heap.objs.size) [y] (.ref s2.heap.objs.size) [v] (fun _ H8=>H8=upd H7 s2.heap.objs.size (.lst (acc++[y]))) I7 rfl (.cons r7 .nil) ⟨_,acc,y,rfl,rfl,hD,hlen,rfl⟩) fun _ s8 zz46=>?_
   obtain⟨_,H8,I8,_,e8⟩:=zz46
   subst e8
   refine⟨m',hm,i+1,σ6,_,I8.unpinned,T.keep _ _ _ st5 fun b hb o e=>(I8.pin (b,o) (Ax _ (Ax _ (Y9 hb e)))).1,fun b hb=>?_,w7⟩
   obtain⟨o,e,d⟩:=T.obj _ _ st5 b hb
   exact(I8.pin (b,o) (Ax _ (Ax _ (Y9 hb e)))).2.1
 exact codeAny_compStart_list loop (T.self _ 0 _ _ _ st4 loop)
theorem Zm7(hc:X.calm=true)(ho:Vv X.env.scope X.N N' js scope=true)(hi:PI X tg iter wi)(hg:∀cl C fp pins s H,PG (cxC X N' scope cl C fp pins s H) tg g)(he:∀cl C fp pins s H,PE (cxC X N' scope cl C fp pins s H) elt te)
  (hs:∀x,foldedSetIterable iter X.env x=pure x:=by intro _;rfl):PE X (.ListComp elt [⟨tg,iter,[],0⟩] scope pos) (Z92 js wi g te):=by
 intro pins s σ H Q I h
 have S:=CompScope.of ho
 obtain⟨cl,hcl,c1,c2⟩:=Ww (scope:=scope) (env:=X.env) fun n hn=>I.ok.has n (S.free n hn)
 rw[eval_ListComp]
 refine Ld (use:=none) rfl hs hcl S.kind S.loc (thn (hi pins s σ H _ I h) fun v s1 h1=>thn h1 fun itv s2 h2=>?_)
 obtain⟨it,fp,tn,J,H2,e,I2,T,st2,f2,q2⟩:=h2
 subst e
 refine Q4 (QD:=fun D Hc=>Q (.ref D) Hc) (R:=fun acc C=>compPost (model X.prog X.w) X.A X.xe none (EP X pins σ Q) acc C) hc S c1 c2 hg he I2 T st2 f2 q2 ?_
 rintro D C Hc s4 ⟨m,hm⟩ J4 fC nL sC cC pC qd
 refine⟨m,hm,fun h' hs'=>⟨.ref D,Hc,?_,rfl,qd⟩⟩
 exact J4.turned (t':=s4.toks) (fun b o hb e=>(hs'.2 b hb).trans e) fC nL (.inr sC) cC pC
def Ye5(i:Nat)(js:List (Option Nat))(wi:TI)(g:TG)(te:TE):TS:=fun D σ H=>Z92 js wi g te σ H fun v H1=>D.nx (σ.set i (some v)) H1
theorem Zp4{i:Nat}{x:Str}(hc:X.calm=true)(ho:Vv X.env.scope X.N N' js scope=true)(hN:X.N.Nodup)(hx:X.N[i]?=some x)(hl:X.env.scope.names.lookup x=some .local)(hi:PI X tg iter wi)
  (hg:∀cl C fp pins s H,PG (cxC X N' scope cl C fp pins s H) tg g) (he:∀cl C fp pins s H,PE (cxC X N' scope cl C fp pins s H) elt te)
  (hsw:swapsWith (.ListComp elt [⟨tg,iter,[],0⟩] scope pos) (some (.Name x px)) spos.line X.env=pure true)
  (hs:∀x,foldedSetIterable iter X.env x=pure x:=by intro _;rfl):PS X (.Assign [.Name x px] (.ListComp elt [⟨tg,iter,[],0⟩] scope pos) spos) (Ye5 i js wi g te):=by
 intro pins s σ H D I h
 have S:=CompScope.of ho
 obtain⟨cl,hcl,c1,c2⟩:=Ww (scope:=scope) (env:=X.env) fun n hn=>I.ok.has n (S.free n hn)
 rw[exec_Assign_Name_used _ _ _ _ hsw]
 refine Aa (wpAny_standAt (Aa ?_))
 show wpAny _ _ (do let _ ←comprehension (.ListComp elt [⟨tg,iter,[],0⟩] scope pos) scope X.env _ (newList []) false (eval iter X.env) (some (assign (.Name x px) X.env))) _ _ s
 refine Aa (Hl (Ld (use:=some (assign (.Name x px) X.env)) (Q:=fun _ s'=>SP X pins D .next s') rfl hs hcl S.kind S.loc (thn (hi pins s σ H _ I h) fun v s1 h1=>thn h1 fun itv s2 h2=>?_)) (fun _ s' hq=>Ai (Ai hq)) fun _ _ e=>e)
 obtain⟨it,fp,tn,J,H2,e,I2,T,st2,f2,q2⟩:=h2
 subst e
 refine Q4 (QD:=fun E' Hc=>D.nx (σ.set i (some (.ref E'))) Hc) (R:=fun acc C=>compPost (model X.prog X.w) X.A X.xe (some (assign (.Name x px) X.env)) (fun _ s'=>SP X pins D .next s') acc C) hc S c1 c2 hg he I2 T st2 f2 q2 ?_
 rintro E' C Hc s4 ⟨m,hm⟩ J4 fC nL sC cC pC qd
 show wpAny _ _ (assign (.Name x px) X.env (.ref E')) _ _ s4
 refine wpAny_assign_Name (Pu J4 hN hx (.inl hl) (v:= .ref E') rfl (fun s5 J5 zz47=>?_) (.inr hl))
 obtain⟨a,sb,ha⟩:=zz47
 have hCa:C≠a:=by
  rcases ha with z | z
  ·rw[z];exact nL
  ·exact(cC x a z).symm
 refine⟨m,hm.sameBut sb hCa,fun h' hs'=>⟨σ.set i (some (.ref E')),Hc,?_,qd⟩⟩
 exact J5.turned (t':=s5.toks) (fun b o hb e=>(hs'.2 b hb).trans e) fC nL (.inr sC) cC pC
theorem Pt{pins:List (Addr×Obj)}{σ:L2.St}{H2:Hp}{s2:Shared}{cl:List (Str×Addr)}{it:Addr}{fp:List Addr}{tn:Nat→Heap→Prop}{J:It}{QD:Addr→Hp→Prop}{R:Value→Addr→Result→Shared→Prop}{E:Value→Shared→Prop}
  (hc:X.calm=true) (S:CompScope X.env.scope X.N N' js scope) (c1:∀x c,cl.lookup x=some c→X.env.cells.lookup x=some c) (c2:∀n,(n,Dh)∈scope.names→∃c,cl.lookup n=some c)
  (hg:∀cl C fp pins s H,PG (cxC X N' scope cl C fp pins s H) tg g) (hq:∀cl C fp pins s H,PT (cxC X N' scope cl C fp pins s H) c tc) (he:∀cl C fp pins s H,PE (cxC X N' scope cl C fp pins s H) elt te)
  (I2:Inv X pins σ H2 s2) (T:Turn X.prog X.w X.K tg J fp it tn) (st2:tn 0 s2.heap) (f2:∀b∈fp,FpOk X pins H2 b)
  (q:∀D,H2 D=none→∃W:Nat→Nat→L2.St→Hp→Prop,(∃m,W 0 m (Si js σ) (upd H2 D (.lst [])))∧
   ∀i m σc Hc,W i m σc Hc→(J.stop i Hc∧QD D Hc)∨(J.go i Hc∧∀x H',J.yld i Hc x H'→g x σc H' fun σ2 H2=>tc σ2 H2 fun b H3=>if b=true then te σ2 H3 fun y H4=>∃acc,H4 D=some (.lst acc)∧acc.length<sizeLine∧
    ∃m',m'<m∧W (i+1) m' σ2 (upd H4 D (.lst (acc++[y]))) else ∃m',m'<m∧W (i+1) m' σ2 H3))
  (back:∀(D C:Addr) (Hc:Hp) (s4:Shared),(∃m,s4.heap.Ns C m)→Inv X pins σ Hc s4→Hc C=none→C≠X.env.locals→X.s₀.heap.objs.size≤C→(∀x c,X.env.cells.lookup x=some c→c≠C)→(∀p∈X.pn++pins,p.1≠C)→QD D Hc→R (.ref D) C (.ok .next) s4):
  wpAny (model X.prog X.w) X.A (newList []) (fun acc s3=>wpAny (model X.prog X.w) X.A (newFunctionEnv scope X.env.globals cl [] X.env.qual none .none (some X.env)) (fun cenv s4=>
   codeAny (model X.prog X.w) X.A (.compStart (.ListComp elt [⟨tg,iter,[c],0⟩] scope pos) 0 (.ref it) acc {cenv with scope:=relabel scope X.env}) (R acc cenv.locals) s4) E s3) E s2:=by
 refine Io (Ox ?_)
 dsimp only
 have I3:Inv X pins σ (upd H2 s2.heap.objs.size (.lst [])) {s2 with heap:=s2.heap.push {cls:= .type "list",data:= .seq ([]:List Value).toArray}}:=I2.lnew (its:=[]) (t':=s2.toks) .nil (Nat.zero_le _)
 obtain⟨W,⟨m0,w0⟩,turn⟩:=q s2.heap.objs.size I2.fresh
 have hob:=T.obj 0 _ st2
 have f3:∀b∈fp,FpOk X pins (upd H2 s2.heap.objs.size (.lst [])) b:=fun b hb=>by
  obtain⟨o,e,_⟩:=hob b hb
  exact⟨by rw[Zo (Nat.ne_of_lt (Al e))];exact(f2 b hb).1,(f2 b hb).2⟩
 generalize hS3:(s2.heap.push {cls:= .type "list",data:= .seq ([]:List Value).toArray}:Heap)=h3 at *
 have k23:∀b o,s2.heap.get? b=some o→h3.get? b=some o:=fun b o e=>by rw[←hS3];exact Ak _ e
 have hlt:∀b∈fp,b<h3.objs.size:=fun b hb=>by
  obtain⟨o,e,_⟩:=hob b hb
  exact Al (k23 b o e)
 have bc:=Oz S.nd I3 {cls:= .type "dict",data:= .dict #[]} c1 c2
 have hns:(pushCells (h3.push {cls:= .type "dict",data:= .dict #[]}) scope.names).Ns h3.objs.size (fun _=>none):=(Heap.Ns.new h3 (.type "dict")).keeps (pushCells_keeps _ _)
 have k31:∀b o,h3.get? b=some o→(pushCells (h3.push {cls:= .type "dict",data:= .dict #[]}) scope.names).get? b=some o:=fun b o e=>pushCells_keeps _ _ b o (Ak _ e)
 dsimp only at bc
 generalize cellsFrom (h3.objs.size+1) scope.names cl=cl' at bc ⊢
 generalize pushCells (h3.push {cls:= .type "dict",data:= .dict #[]}) scope.names=h1 at bc hns k31 ⊢
 have I4:=N8 (tk:=s2.toks) S I3 bc f3 hlt hns k31
 have st4:tn 0 h1:=T.keep 0 _ h1 st2 fun b hb o e=>k31 b o (k23 b o e)
 have nofs:∀b∈fp,b∉(cxC X N' scope cl' h3.objs.size fp pins {s2 with heap:=h3} (upd H2 s2.heap.objs.size (.lst []))).fs:=I4.ok.exfs
 have stat:∀{H':Hp},(∀b∈fp,H' b=none)→∀b∈fp,FpOk (cxC X N' scope cl' h3.objs.size fp pins {s2 with heap:=h3} (upd H2 s2.heap.objs.size (.lst []))) [] H' b:=fun{H'} hn b hb=>
  ⟨hn b hb,Nat.ne_of_lt (hlt b hb),nofs b hb,.inl hb,fun x c e=>(bc.each x c e).elim (fun z=>(f3 b hb).2.2.2.2.1 x c z) (fun z q=>absurd z.1 (Nat.lt_asymm (by rw[q];exact hlt b hb))),fun p hp=>(f3 b hb).2.2.2.2.2 p (by simpa[cxC] using hp)⟩
 have loop:codeAny (model X.prog X.w) X.A (.compLoop (.ListComp elt [⟨tg,iter,[c],0⟩] scope pos) 0 (.ref it) (.ref s2.heap.objs.size) (compEnvC scope cl' h3.objs.size X.env))
   (R (.ref s2.heap.objs.size) h3.objs.size) {s2 with heap:=h1,toks:=s2.toks}:=by
  refine Z81 (fun n s'=>∃i σc Hc,Inv (cxC X N' scope cl' h3.objs.size fp pins {s2 with heap:=h3} (upd H2 s2.heap.objs.size (.lst []))) [] σc Hc s'∧tn i s'.heap∧(∀b∈fp,Hc b=none)∧W i n σc Hc) ?_ m0
   ⟨0,_,_,I4,st4,fun b hb=>(f3 b hb).1,w0⟩
  rintro n z ⟨i,σc,Hc,Iz,stz,frz,wz⟩
  rcases turn i n σc Hc wz with⟨stop,qd⟩ | ⟨go,step⟩
  ·refine thn (T.done (cxC X N' scope cl' h3.objs.size fp pins {s2 with heap:=h3} (upd H2 s2.heap.objs.size (.lst []))) rfl rfl rfl hc i [] z σc Hc noE Iz (stat frz) stz stop) fun r s4 zz48=>?_
   obtain⟨hr,I5⟩:=zz48
   subst hr
   have J5:Inv X pins σ Hc s4:=I3.call' (s':=s4) I5.os I5.base I5.hok I5.bare fun b hb=>⟨(f3 b hb).2.2.2.1,(f3 b hb).2.1,(f3 b hb).2.2.2.2.1,(f3 b hb).2.2.2.2.2⟩
   obtain⟨m,hm,_⟩:=I5.loc
   refine back _ _ Hc s4 ⟨m,hm⟩ J5 I5.free (Nat.ne_of_gt I3.lt) (Nat.le_trans I3.ok.above (Nat.le_of_lt I3.lt)) (fun x c e z=>?_) (fun p hp z=>?_) qd
   ·obtain⟨v,q⟩:=I3.cell x c e
    exact absurd q.lt (by rw[z];exact Nat.lt_irrefl _)
   ·exact absurd (Al (I3.pin p hp).1) (by rw[z];exact Nat.lt_irrefl _)
  ·refine thn (T.item (cxC X N' scope cl' h3.objs.size fp pins {s2 with heap:=h3} (upd H2 s2.heap.objs.size (.lst []))) rfl rfl rfl hc i [] z σc Hc noE Iz (stat frz) stz go) fun r s4 zz49=>?_
   obtain⟨u,hr,h4⟩:=zz49
   subst hr
   refine thn h4 fun _ s5 zz50=>?_
   obtain⟨x,H5,I5,r5,y5,st5,fr5⟩:=zz50
   have I5':=I5.pinned (stat fr5) (T.obj _ _ st5)
   refine thn (hg _ _ _ _ _ _ _ s5 σc H5 x u _ I5' r5 (step x H5 y5)) fun _ s6 zz51=>?_
   obtain⟨σ6,H6,I6,q6⟩:=zz51
   refine thn (hq _ _ _ _ _ _ _ s6 σ6 H6 _ I6 q6) fun ok s6' zz52=>?_
   obtain⟨H6',I6',q6'⟩:=zz52
   cases ok with
   | false=>
    rw[if_neg Bf9] at q6' ⊢
    obtain⟨m',hm,w7⟩:=q6'
    refine⟨m',hm,i+1,σ6,_,I6'.unpinned,T.keep _ _ _ st5 fun b hb o e=>(I6'.pin (b,o) (Ax _ (Ax _ (Y9 hb e)))).1,fun b hb=>?_,w7⟩
    obtain⟨o,e,d⟩:=T.obj _ _ st5 b hb
    exact(I6'.pin (b,o) (Ax _ (Ax _ (Y9 hb e)))).2.1
   | true=>
   rw[if_pos rfl] at q6' ⊢
   refine thn (he _ _ _ _ _ _ _ s6' σ6 H6' _ I6' q6') fun v s7 zz53=>?_
   obtain⟨y,H7,I7,r7,acc,hD,hlen,m',hm,w7⟩:=zz53
   refine thn (Pc _ s7 σ6 H7 (.ref s2.heap.objs.size) [y] (.ref s2.heap.objs.size) [v] (fun _ H8=>H8=upd H7 s2.heap.objs.size (.lst (acc++[y]))) I7 rfl (.cons r7 .nil) ⟨_,acc,y,rfl,rfl,hD,hlen,rfl⟩) fun _ s8 zz54=>?_
   obtain⟨_,H8,I8,_,e8⟩:=zz54
   subst e8
   refine⟨m',hm,i+1,σ6,_,I8.unpinned,T.keep _ _ _ st5 fun b hb o e=>(I8.pin (b,o) (Ax _ (Ax _ (Y9 hb e)))).1,fun b hb=>?_,w7⟩
   obtain⟨o,e,d⟩:=T.obj _ _ st5 b hb
   exact(I8.pin (b,o) (Ax _ (Ax _ (Y9 hb e)))).2.1
 exact codeAny_compStart_list loop (T.self _ 0 _ _ _ st4 loop)
theorem Zp2(hc:X.calm=true)(ho:Vv X.env.scope X.N N' js scope=true)(hi:PI X tg iter wi)(hg:∀cl C fp pins s H,PG (cxC X N' scope cl C fp pins s H) tg g)(hq:∀cl C fp pins s H,PT (cxC X N' scope cl C fp pins s H) c tc)(he:∀cl C fp pins s H,PE (cxC X N' scope cl C fp pins s H) elt te)
  (hs:∀x,foldedSetIterable iter X.env x=pure x:=by intro _;rfl):PE X (.ListComp elt [⟨tg,iter,[c],0⟩] scope pos) (Zv5 js wi g tc te):=by
 intro pins s σ H Q I h
 have S:=CompScope.of ho
 obtain⟨cl,hcl,c1,c2⟩:=Ww (scope:=scope) (env:=X.env) fun n hn=>I.ok.has n (S.free n hn)
 rw[eval_ListComp]
 refine Ld (use:=none) rfl hs hcl S.kind S.loc (thn (hi pins s σ H _ I h) fun v s1 h1=>thn h1 fun itv s2 h2=>?_)
 obtain⟨it,fp,tn,J,H2,e,I2,T,st2,f2,q2⟩:=h2
 subst e
 refine Pt (QD:=fun D Hc=>Q (.ref D) Hc) (R:=fun acc C=>compPost (model X.prog X.w) X.A X.xe none (EP X pins σ Q) acc C) hc S c1 c2 hg hq he I2 T st2 f2 q2 ?_
 rintro D C Hc s4 ⟨m,hm⟩ J4 fC nL sC cC pC qd
 refine⟨m,hm,fun h' hs'=>⟨.ref D,Hc,?_,rfl,qd⟩⟩
 exact J4.turned (t':=s4.toks) (fun b o hb e=>(hs'.2 b hb).trans e) fC nL (.inr sC) cC pC
def Yj7(i:Nat)(js:List (Option Nat))(wi:TI)(g:TG)(tc:TT)(te:TE):TS:=fun D σ H=>Zv5 js wi g tc te σ H fun v H1=>D.nx (σ.set i (some v)) H1
theorem Zr1{i:Nat}{x:Str}(hc:X.calm=true)(ho:Vv X.env.scope X.N N' js scope=true)(hN:X.N.Nodup)(hx:X.N[i]?=some x)(hl:X.env.scope.names.lookup x=some .local)(hi:PI X tg iter wi)
  (hg:∀cl C fp pins s H,PG (cxC X N' scope cl C fp pins s H) tg g) (hq:∀cl C fp pins s H,PT (cxC X N' scope cl C fp pins s H) c tc) (he:∀cl C fp pins s H,PE (cxC X N' scope cl C fp pins s H) elt te)
  (hsw:swapsWith (.ListComp elt [⟨tg,iter,[c],0⟩] scope pos) (some (.Name x px)) spos.line X.env=pure true)
  (hs:∀x,foldedSetIterable iter X.env x=pure x:=by intro _;rfl):PS X (.Assign [.Name x px] (.ListComp elt [⟨tg,iter,[c],0⟩] scope pos) spos) (Yj7 i js wi g tc te):=by
 intro pins s σ H D I h
 have S:=CompScope.of ho
 obtain⟨cl,hcl,c1,c2⟩:=Ww (scope:=scope) (env:=X.env) fun n hn=>I.ok.has n (S.free n hn)
 rw[exec_Assign_Name_used _ _ _ _ hsw]
 refine Aa (wpAny_standAt (Aa ?_))
 show wpAny _ _ (do let _ ←comprehension (.ListComp elt [⟨tg,iter,[c],0⟩] scope pos) scope X.env _ (newList []) false (eval iter X.env) (some (assign (.Name x px) X.env))) _ _ s
 refine Aa (Hl (Ld (use:=some (assign (.Name x px) X.env)) (Q:=fun _ s'=>SP X pins D .next s') rfl hs hcl S.kind S.loc (thn (hi pins s σ H _ I h) fun v s1 h1=>thn h1 fun itv s2 h2=>?_)) (fun _ s' hq=>Ai (Ai hq)) fun _ _ e=>e)
 obtain⟨it,fp,tn,J,H2,e,I2,T,st2,f2,q2⟩:=h2
 subst e
 refine Pt (QD:=fun E' Hc=>D.nx (σ.set i (some (.ref E'))) Hc) (R:=fun acc C=>compPost (model X.prog X.w) X.A X.xe (some (assign (.Name x px) X.env)) (fun _ s'=>SP X pins D .next s') acc C) hc S c1 c2 hg hq he I2 T st2 f2 q2 ?_
 rintro E' C Hc s4 ⟨m,hm⟩ J4 fC nL sC cC pC qd
 show wpAny _ _ (assign (.Name x px) X.env (.ref E')) _ _ s4
 refine wpAny_assign_Name (Pu J4 hN hx (.inl hl) (v:= .ref E') rfl (fun s5 J5 zz55=>?_) (.inr hl))
 obtain⟨a,sb,ha⟩:=zz55
 have hCa:C≠a:=by
  rcases ha with z | z
  ·rw[z];exact nL
  ·exact(cC x a z).symm
 refine⟨m,hm.sameBut sb hCa,fun h' hs'=>⟨σ.set i (some (.ref E')),Hc,?_,qd⟩⟩
 exact J5.turned (t':=s5.toks) (fun b o hb e=>(hs'.2 b hb).trans e) fC nL (.inr sC) cC pC
end
end L3
namespace L3
open PySem
def ExAt(h:Heap)(e:Addr)(cls:Value)(dd:Option Addr)(tb:Value):Prop:=∃oe vs,h.get? e=some oe∧(oe.cls=cls∧oe.dict=dd)∧oe.data= .fields vs∧vs[1]?=some tb
def TbAt(h:Heap)(T:Addr)(fl:Value):Prop:=∃oT ts,h.get? T=some oT∧oT.data= .fields ts∧ts[3]?=some fl
structure Flown(fs xs:List Addr)(h h':Heap):Prop where
 keep:∀b o,h.get? b=some o→b∉fs→b∉xs→h'.get? b=some o
 slot:∀b o,h.get? b=some o→b∈fs→b∉xs→∃sl,h'.get? b=some {o with slots:=sl}
 there:∀b o,h.get? b=some o→∃o',h'.get? b=some o'
end L3
namespace L3
open PySem PySem.W
section
variable{prog:Program}{w:World}{A:Around}{h:Heap}{g:Array GenState}{d:Drawn}{t:Nat}{os:OsState}
variable{nm q:Str}{C N f:Addr}{bs bm:List Value}{hdct:Bool}{sn:List Str}{sub:List Value}{ab:Bool}{col:Option Bool}{dd:Option Addr}{k0 k1 k2 k3 k5:Option Value}{Bn newId inN:String}{bmN:List Value}
structure ExcCls(h:Heap)(C:Addr)(nm q:Str)(N:Addr)(bs bm:List Value)(hdct:Bool)(sn:List Str)(sub:List Value)(ab:Bool)(col:Option Bool)(dd:Option Addr)(k0 k1 k2 k3 k5:Option Value)(Bn newId:String):Prop where
 obj:h.get? C=some (excClassObj nm q C N bs bm hdct sn sub ab col dd k0 k1 k2 k3 k5 newId)
 hB:(Au C::bm).contains (.type Bn)=true
 hA:(Au C::bm).contains (.type "AttributeError")=false
 hN:(Au C::bm).contains (.type "NameError")=false
 hE:(Au C::bm).contains (.type "BaseException")=true
end
end L3
namespace L3
open PySem PySem.W PySem.Calls PyProof.Rows Builtin Builtin.ObjectAttr
structure ExcSet(K:Frag)(C:Addr)(name:Str):Prop where
 cls:∃cd own,clsIn K C=some cd∧cd.hasDict=true∧cd.mro=own++[.type "ValueError",.type "Exception",.type "BaseException",.type "object"]∧∀v∈own,∃a,v=Au a
 no:findIn K (.ref C) name=some none
 set:findIn K (.ref C) "__setattr__"=some (some (.builtin "object.__setattr__"))
section
variable{prog:Program}{w:World}{A:Around}{K:Frag}{C e:Addr}{s:Shared}{name:Str}{R:Result→Shared→Prop}
structure ExcGet(K:Frag)(C:Addr)(name:Str):Prop where
 cls:∃cd,clsIn K C=some cd∧cd.hasDict=true
 no:findIn K (.ref C) name=some none
 ga:findIn K (.ref C) "__getattribute__"=some (some (.builtin "BaseException.__getattribute__"))
 gh:findIn K (.ref C) "__getattr__"=some none
 base:mroIn K C (.type "BaseException")=some true
theorem Y69(self:Value):bindSpecial (.builtin "BaseException.__getattribute__") self=pure (.builtin "BaseException.__getattribute__",[self]):=by kernel_rfl
theorem Y06:builtinKind "BaseException.__getattribute__"=some .slot:=by decide+kernel
theorem Zn9:splitId "BaseException.__getattribute__"=some ("BaseException","__getattribute__"):=by decide+kernel
theorem Zr7:plainId "BaseException.__getattribute__"=true:=by decide+kernel
theorem Y15(a b:Value):argsOk "BaseException.__getattribute__" ⟨[a,b],[]⟩:=by unfold argsOk;kernel_rfl
end
end L3
namespace L3
open PySem PySem.Spec PyProof.Rows L2
noncomputable def XO(e:Addr)(cls:Value)(dd:Option Addr):HO:= .ext fun h=>∃oe vs tb,h.get? e=some oe∧(oe.cls=cls∧oe.dict=dd)∧oe.data= .fields vs∧vs[1]?=some tb
theorem XO.at{H:Hp}(x:Yh P w H h e (XO e cls dd)):∃tb,ExAt h e cls dd tb:=by
 obtain⟨⟨oe,vs,tb,q1,q2,q3,q4⟩,_⟩:=x
 exact⟨tb,oe,vs,q1,q2,q3,q4⟩
noncomputable def CX1(P:Program)(w:World):CXT:=fun outer H s E e s'=>∃(ea T:Addr) (cls:Value) (dd:Option Addr) (H':Hp),e= .ref ea∧s'.os=s.os∧AllBare s'.gens∧Un (frs outer) [] H H' s.heap s'.heap∧HOk P w H' s'.heap∧
 (s.heap.objs.size≤ea∧s.heap.objs.size≤T)∧H' ea=some (XO ea cls dd)∧(H' T=none∧T≠ea)∧ExAt s'.heap ea cls dd (.ref T)∧TbAt s'.heap T .none∧E cls dd H'
structure Leaves(X:Cx)(E:XK):Prop where
 stk:X.stack=X.env::X.outer
 fr:X.env.frame=some X.env.locals
 ex:X.ex=[]
 xe:∀e s',wpAny (model X.prog X.w) X.A (leaving X.env e) (fun _ s''=>CX1 X.prog X.w X.outer X.H₀ X.s₀ E e s'') (fun e' s''=>CX1 X.prog X.w X.outer X.H₀ X.s₀ E e' s'') s'→X.xe e s'
structure ExcMk(K:Ad)(C f:Addr):Prop where
 cls:∃nm q N bs bm hdct sn sub ab col dd k0 k1 k2 k3 k5,K.lookup C=some (excClassObj nm q C N bs bm hdct sn sub ab col dd k0 k1 k2 k3 k5 "ValueError.__new__")∧(Au C::bm).contains (.type "ValueError")=true∧
  (Au C::bm).contains (.type "AttributeError")=false∧(Au C::bm).contains (.type "NameError")=false∧(Au C::bm).contains (.type "BaseException")=true
 init:Ls K (.ref C) "__init__"=some (some (.ref f))
 fn:PySem.W.isFn K (.ref f)=true
 kp:Ha K (.ref C)=true
end L3
namespace L3
open PySem PySem.W PySem.Calls PyProof.Rows Builtin Builtin.ObjectAttr
section
variable{prog:Program}{w:World}{A:Around}{E:Value→Shared→Prop}{K:Frag}{C D e:Addr}{s:Shared}
structure ExcIs(K:Frag)(C:Addr):Prop where
 cls:∃cd,clsIn K C=some cd∧cd.hasDict=true
 ga:findIn K (.ref C) "__getattribute__"=some (some (.builtin "BaseException.__getattribute__"))
 gh:findIn K (.ref C) "__getattr__"=some none
 base:mroIn K C (.type "BaseException")=some true
 own:findIn K (.ref C) "__class__"=some (some (.builtin "object.__class__"))
 ds:specialIn K (.builtin "object.__class__") "__get__"=some (some (.builtin "getset_descriptor.__get__"))
 tk:takesIn K (.builtin "object.__class__")=some true
 obj:mroIn K C (.type "object")=some true
theorem Zg8{oe:Obj}{od:Obj}{Q:Option Value→Shared→Prop}(X:K.In s.heap)(S:ExcIs K C)(J:InstAt s.heap e oe C (some od))(h:Q (some (.ref C)) {s with toks:=s.toks+1}):
  wpAny (model prog w) A (getAttr? (.ref e) "__class__") Q E s:=by
 obtain⟨⟨cd,hcd,hdict⟩,hga,hgh,hbase,hown,hds,htk,hobj⟩:=S
 obtain⟨hp,g,d,t,os⟩:=s
 have hf:findObj K C (some od) "__class__"=some (.bind (.builtin "getset_descriptor.__get__") (.builtin "object.__class__")):=findObj_data (by rw[hcd];rfl) hown hds htk
 have L0:=J.type (M:=model prog w)
 have L1:=looks_findIn (M:=model prog w) X hga
 have L2:=looks_findIn (M:=model prog w) X hgh
 have L3':=looks_find (M:=model prog w) X J hf
 have sub:Looks (model prog w) hp (isInstance (.ref e) (.type "BaseException")) true:=L0.andThen (looks_mroIn X hbase)
 unfold getAttr? getAttrBy? getAttrBy
 refine Aa (wpAny_mkText (Aa (wpAny_attempt (Hk (Aa (L0.at (Aa (L1.at ?_))))))))
 show wpAny _ _ (getAttrByItsOwn _ _ _ _ _ _) _ _ _
 unfold getAttrByItsOwn
 refine Aa (L2.at (Aa (wpAny_attempt (Hk ?_))))
 unfold callGetattribute
 rw[if_neg (by decide)]
 unfold boundAndCalled
 rw[Y69]
 refine Aa (Ai (wpAny_call ?_))
 refine codeAny_call_builtin Zr7 F.entry_bexc_ga (@check_slot (model prog w) _ _ _ "BaseException.__getattribute__" "BaseException" "__getattribute__" (.ref e) [.str "__class__" t] [] _ Y06 Zn9 sub (Y15 (.ref e) (.str "__class__" t)) ?_)
 show wpAny _ _ (typeOf (.ref e) >>=fun tp=>find (.ref e) tp "__class__" >>=_) _ _ _
 refine Aa (L0.at (Aa (L3'.at ?_)))
 have hcall:=class_get (prog:=prog) (w:=w) (A:=A.in1) (s:=⟨hp,g,d,t+1,os⟩) (tp:= .ref C) (R:=fun r s'=>r= .ok (.ret (.ref C))∧s'=⟨hp,g,d,t+1,os⟩) X J hobj ⟨rfl,rfl⟩
 unfold bindTo
 refine Aa (Hk (wpAny_call (Lu hcall fun r s' z=>?_)))
 obtain⟨rfl,rfl⟩:=z
 refine Ai ?_
 show wpAny _ _ (handedOut (.ref C)) _ _ _
 exact handed_on rfl (Ai h)
end
end L3
namespace L3
open PySem PySem.Spec PyProof.Rows L2
section
variable{K:Ad}{C e:Addr}
theorem Bz(S:ExcIs K C):PySem.W.KitX K (.ref e) (.ref C) (fun h=>PySem.W.InstAt h e oe C (some od)) where
 ty:=fun _ _ _ I=>I.type
 it:=fun _ _ X _=>by
  obtain⟨cd,hcd,_⟩:=S.cls
  unfold PySem.W.clsIn at hcd
  split at hcd
  ·rename_i ho
   intro A' Q' E' s' k q
   unfold isType loadHead
   exact Aa (wpAny_loadPart (k _ _ (X _ _ ho)) (Ai q))
  ·cases hcd
 ne:=fun h tp dd its n sl X htp=>by
  obtain⟨cd,hcd,_⟩:=S.cls
  refine Bool.eq_false_iff.mpr fun q=>?_
  have z:C=tp:=Au.inj (beq_iff_eq.mp q)
  subst z
  unfold PySem.W.clsIn at hcd
  split at hcd
  ·rename_i ho
   have y:=(X _ _ ho).symm.trans htp
   cases y
  ·cases hcd
 ca:=fun X I k=>Zg8 X S I k
variable{X:Cx}{pins:List (Addr×Obj)}{σ:L2.St}{H:Hp}{s:Shared}{dx:Addr}{fs:List (Str×V)}
theorem Z08(I:Inv X pins σ H s)(he:H e=some (XO e (.ref C) (some dx)))(hd:H dx=some (.xd fs)):∃(oe od:Obj) (mA:Str→Option Value),PySem.W.InstAt s.heap e oe C (some od)∧(∀name,PySem.W.lookIn name od=some (mA name))∧∀f,RelO (fs.lookup f) (mA f):=by
 obtain⟨tb,oe,vs,h1,⟨h2,h3⟩,h4,_⟩:=XO.at (I.hok e _ he)
 obtain⟨mA,hn,hr⟩:=(show Yh X.prog X.w H s.heap dx (.xd fs) from I.hok dx _ hd)
 obtain⟨od,q1,q2⟩:=Fa hn
 refine⟨oe,od,mA,⟨h1,h2,by unfold PySem.W.notCls;rw[h4],by rw[h3];exact q1⟩,q2,hr⟩
def rIsX(K:Ad):List V→Hp→VK→Prop:=fun xs H Q=>∃e C dx fs c cv b,xs=[.ref e,c]∧H e=some (XO e (.ref C) (some dx))∧H dx=some (.xd fs)∧ExcIs K C∧(∀u,RelV c u→u=cv)∧Ke K (.ref C) cv=some b∧Q (.bl b) H
theorem Bv:X1 X (.builtin "isinstance") (rIsX X.K):=by
 intro pins s σ H xs us Q I r h
 obtain⟨e,C,dx,fs,c,cv,b,rfl,he,hd,S,hc,k,q⟩:=h
 obtain⟨u,v,rfl,ru,rv⟩:=Ej r
 obtain rfl:u=Au e:=ru
 cases hc v rv
 obtain⟨oe,od,mA,J,_⟩:=Z08 I he hd
 exact Hm (Bz S) I.kIn J k (fun z=>nomatch z) fun tk=>⟨.bl b,H,I.tok tk,rfl,q⟩
end
def XP(X:Cx)(pins:List (Addr×Obj))(σ:L2.St)(E:XK)(x:Value)(s':Shared):Prop:=∃(e T:Addr) (cls:Value) (dd:Option Addr) (H':Hp),x= .ref e∧Inv X pins σ H' s'∧FpOk X pins H' T∧T≠e∧H' e=some (XO e cls dd)∧
 ExAt s'.heap e cls dd (.ref T)∧TbAt s'.heap T .none∧E cls dd H'
abbrev TEX:=L2.St→Hp→VK→XK→Prop
abbrev TSX:=Ends→XK→L2.St→Hp→Prop
structure Catch(K:Ad)(C D:Addr)(b:Bool):Prop where
 ty:PySem.W.typeIn K (.ref D)=some (.type "type")
 cls:(PySem.W.clsIn K D).isSome=true
 exc:PySem.W.mroIn K D (.type "BaseException")=some true
 sub:PySem.W.mroIn K C (.ref D)=some b
section
open PySem.W
end
end L3
namespace L3
open PySem PyProof.Rows
section
variable{prog:Program}{w:World}{A:Around}{E:Value→Shared→Prop}{s:Shared}
abbrev Zw3(h:Heap)(z TI TO:Addr)(f0:Value)(b:Bool):Prop:=
 h.get? z=some {cls:= .type "zip",dict:=none,data:= .fields #[f0,.bool b,.bool false,.ref TI,.ref TO],slots:=#[]}
end
section
variable{prog:Program}{w:World}{A:Around}{E:Value→Shared→Prop}{s:Shared}
structure ZS(h0 h:Heap)(S z TI TO i1 i2 l1 l2:Addr)(xs ys:Array Value)(Ts:List Addr):Prop where
 kept:∀b o,h0.get? b=some o→h.get? b=some o
 zp:(Ts=[]∧Zw3 h z TI TO .none false∧∃a b,IsPair h TO a b)∨∃(T:Addr) (b:Bool) (oT:Obj),Zw3 h z TI TO (rawInt T) b∧h.get? T=some oT
 ti:IsPair h TI (.ref i1) (.ref i2)
 to:∃o,h.get? TO=some o
 t1:h.IsListIter i1 l1 Ts.length
 t2:h.IsListIter i2 l2 Ts.length
 nd:Ts.Nodup
 tp:∀(j:Nat) T,Ts[j]?=some T→∃x y,xs[j]?=some x∧ys[j]?=some y∧IsPair h T x y
 tb:∀T∈Ts,h0.objs.size≤T∧T≠z∧T≠TO∧T≠i1∧T≠i2∧T≠S
structure ZF(h0:Heap)(S z TI TO i1 i2 l1 l2:Addr)(xs ys:Array Value):Prop where
 D:ZipApart z TI TO i1 i2 l1 l2
 l1:h0.IsList l1 xs
 l2:h0.IsList l2 ys
 nz:h0.objs.size≤z
 nTO:h0.objs.size≤TO
 n1:h0.objs.size≤i1
 n2:h0.objs.size≤i2
 nS:h0.objs.size≤S
 sz:S≠z
 sTI:S≠TI
 sTO:S≠TO
 s1:S≠i1
 s2:S≠i2
end
structure ZEnd(h0 h:Heap)(S:Addr)(xs ys:Array Value)(Ts:List Addr):Prop where
 kept:∀b o,h0.get? b=some o→h.get? b=some o
 len:Ts.length=min xs.size ys.size
 nd:Ts.Nodup
 tp:∀(j:Nat) T,Ts[j]?=some T→∃x y,xs[j]?=some x∧ys[j]?=some y∧IsPair h T x y
 tb:∀T∈Ts,h0.objs.size≤T∧T≠S
 so:∃c,h.get? S=some {cls:= .type "list",dict:=none,data:= .seq (Ts.map Au).toArray c,slots:=#[]}
end L3
namespace L3
open PySem PySem.Spec PyProof.Rows L2
section
variable{X:Cx}{pins:List (Addr×Obj)}{σ:L2.St}{H H':Hp}{s:Shared}{h':Heap}
theorem Vy:∀Ts:List Addr,Vals (Ts.map V.ref) (Ts.map Au)
 | []=> .nil
 | _::r=> .cons rfl (Vy r)
end
section
variable{X:Cx}
noncomputable def eqVs(vs ys:List V):Bool:=(Hi (min vs.length ys.length)).all (fun j=>eqV (vs.getD j .non) (ys.getD j .non))&&vs.length==ys.length
noncomputable def eqUT(H:Hp)(ys:List V):Value→Bool
 | .ref a=>match H a with
  | some (.tup vs)=>eqVs vs ys
  | _=>false
 | _=>false
theorem Zs5{x:V}(h:X7 x=true):eqV x x=true:=by
 cases x<;>first | rfl | (simp[eqV];done) | exact absurd (show false=true from h) Bf9
theorem Zg0(h:xs.all X7=true):eqVs xs xs=true:=by
 unfold eqVs
 rw[Bz9,Dj]
 refine⟨fun j hj=>?_,by simp⟩
 rw[Hr] at hj
 have hl:j<xs.length:=by omega
 rw[Dj] at h
 rw[Dk,Ae hl]
 exact Zs5 (h _ (Hg hl))
theorem Ye4{H:Hp}(I:Inv X pins σ H s)(hu:A.units+2<cLine){a b:Addr}(ha:H a=some (.tup vs))(hb:H b=some (.tup ys))(fa:vs.all X7=true)(fb:ys.all X7=true):Dq A s (.ref a) (.ref b) (eqVs vs ys):=by
 by_cases e:a=b
 ·subst e
  rw[ha] at hb
  cases hb
  rw[Zg0 fa]
  exact Dq.same _
 ·obtain⟨us,ru,ta,_⟩:=I.tuple (.of ha)
  obtain⟨ws,rw',tb,_⟩:=I.tuple (.of hb)
  have l1:=ru.length
  have l2:=rw'.length
  have key:=SeqAt.RcAt.tuples (A:=A) (e:=fun j=>eqV (vs.getD j .non) (ys.getD j .non)) ta tb (by omega) (fun j h1 h2=>by
   have j1:j<vs.length:=by rw[Ah] at h1;omega
   have j2:j<ys.length:=by rw[Ah] at h2;omega
   obtain⟨u,e1,r1⟩:=ru.get (Ae j1)
   obtain⟨w,e2,r2⟩:=rw'.get (Ae j2)
   have x1:us.toArray[j]=u:=by have:=(Af.mp e1).2;simpa using this
   have x2:ws.toArray[j]=w:=by have:=(Af.mp e2).2;simpa using this
   rw[x1,x2,Dk,Dk,Ae j1,Ae j2]
   rw[Dj] at fa fb
   exact Bt r1 r2 (fa _ (Hg j1)) (fb _ (Hg j2)))
  have hs:((Hi (min us.toArray.size ws.toArray.size)).all (fun j=>eqV (vs.getD j .non) (ys.getD j .non))&&us.toArray.size==ws.toArray.size)=eqVs vs ys:=by
   unfold eqVs
   rw[Ah,Ah,l1,l2]
  rw[hs] at key
  exact Dq.of_refs e key
theorem N3{h:Heap}{o u:Obj}{b:Addr}(e:(h.push o).get? b=some u):h.get? b=some u∨b=h.objs.size:=by
 by_cases hb:b=h.objs.size
 ·exact .inr hb
 ·refine .inl ?_
  have hl:=Al e
  rw[Hs] at hl
  obtain⟨e1,e2⟩:=Heap.get?_some_iff.mp e
  refine Heap.get?_some_iff.mpr ⟨?_,e2⟩
  cases h
  simpa[Heap.push,Array.getElem?_push,hb] using e1
end
end L3
namespace PySem
end PySem
namespace L3
open PySem PySem.Spec PyProof.Rows L2
section
variable{X:Cx}
theorem Jc{pins:List (Addr×Obj)}{σ:L2.St}{H:Hp}{s:Shared}{h':Heap}{t':Nat}{ch:List Addr}(I:Inv X pins σ H s)(k:∀c o,c∉ch→s.heap.get? c=some o→h'.get? c=some o)(f:∀b∈ch,FpOk X pins H b):Inv X pins σ H {s with heap:=h',toks:=t'}:=by
 have nn:∀c u,H c=some u→c∉ch:=by
  intro c u e z
  rw[(f c z).1] at e
  cases e
 refine I.step (ch:=ch) (g':=s.gens) (d':=s.drawn) ?_ ?_ ?_ ?_ ?_ ?_ ?_ ?_ ?_ ?_ I.bare
 ·intro c hc
  exact⟨(f c hc).2.2.2.1,(f c hc).2.1,(f c hc).2.2.2.2.1,(f c hc).2.2.2.2.2⟩
 ·intro c o _ _ hc e _;exact k c o hc e
 ·intro c o _ _ hc e _;exact⟨o.slots,k c o hc e⟩
 ·intro _ _ _ _ n;exact n
 ·intro c o hc e;exact⟨o,k c o hc e⟩
 ·intro _ _ e;exact e
 ·intro _ _ _ e;exact e
 ·intro c ps e;exact⟨#[],by rw[e];simp⟩
 ·rintro m ⟨o,es,ep,ho,r⟩
  exact⟨o,es,ep,k _ o (fun z=>(f _ z).2.1 rfl) ho,r⟩
 ·intro c u e
  refine(I.hok c u e).stay ?_ (fun _ q=>q) fun _ _ q=>q
  intro d v hd q
  rcases hd with z | z
  ·subst z;exact k d v (nn d u e) q
  ·exact k d v (nn d _ z) q
noncomputable def Itz(K:Ad)(a b:Addr):It:=
 ⟨fun i H=>∃xs ys x y,SqL K H a xs∧SqL K H b ys∧xs[i]?=some x∧ys[i]?=some y,
  fun i H x H'=>∃p u v,H p=none∧H'=upd H p (.tup [u,v])∧x= .ref p∧(∀xs,SqL K H a xs→xs[i]?=some u)∧∀ys,SqL K H b ys→ys[i]?=some v,
  fun i H=>∃xs ys,SqL K H a xs∧SqL K H b ys∧(xs.length≤i∨ys.length≤i)⟩
theorem Zp1{P:Program}{w:World}{K:Ad}{elts:List Expr}{x1:Nat}{tp:Pos}(z TI TO i1 i2 a b:Addr)(D:ZipApart z TI TO i1 i2 a b):
  Turn P w K (.Tuple elts x1 tp) (Itz K a b) [z,TI,TO,i1,i2] z (fun i h=>IsZip h z TI TO .none∧IsPair h TI (.ref i1) (.ref i2)∧(∃u v,IsPair h TO u v)∧h.IsListIter i1 a i∧h.IsListIter i2 b i) where
 mem:=by simp
 obj:=by
  rintro i h ⟨hz,hTI,⟨u,v,hTO⟩,⟨o1,e1,_,d1⟩,⟨o2,e2,_,d2⟩⟩ c hc
  simp only[Ag,Dc,or_false] at hc
  rcases hc with rfl | rfl | rfl | rfl | rfl
  ·exact⟨_,hz,fun v q=>by cases q⟩
  ·exact⟨_,hTI,fun v q=>by cases q⟩
  ·exact⟨_,hTO,fun v q=>by cases q⟩
  ·exact⟨_,e1,fun v q=>by rw[d1] at q;cases q⟩
  ·exact⟨_,e2,fun v q=>by rw[d2] at q;cases q⟩
 keep:=by
  rintro i h h' ⟨hz,hTI,⟨u,v,hTO⟩,h1,h2⟩ k
  exact⟨k z (by simp) _ hz,k TI (by simp) _ hTI,⟨u,v,k TO (by simp) _ hTO⟩,h1.at fun o q=>k i1 (by simp) o q,h2.at fun o q=>k i2 (by simp) o q⟩
 item:=by
  rintro X rfl rfl rfl hc i pins s σ H E I hf ⟨hz,hTI,⟨u0,v0,hTO⟩,h1,h2⟩ ⟨xs,ys,x,y,hq,hr,hx,hy⟩
  obtain⟨its,rv,p,_⟩:=I.list hq
  obtain⟨jts,rw2,p2,_⟩:=I.list hr
  obtain⟨u,hu,ru⟩:=rv.get hx
  obtain⟨v,hv,rv2⟩:=rw2.get hy
  have lt:∀c∈[z,TI,TO,i1,i2],@LT.lt Nat _ c s.heap.objs.size:=by
   intro c hc
   simp only[Ag,Dc,or_false] at hc
   obtain⟨o1,e1,_⟩:=id h1
   obtain⟨o2,e2,_⟩:=id h2
   rcases hc with rfl | rfl | rfl | rfl | rfl
   ·exact Al hz
   ·exact Al hTI
   ·exact Al hTO
   ·exact Al e1
   ·exact Al e2
  refine wpAny_pyNext_zip_item D hz hTI hTO h1 h2 p.isList p2.isList (x:=u) (y:=v) (by simpa using hu) (by simpa using hv) fun hh ho hTO2 g1 g2 hT hsz hk=>?_
  refine⟨_,rfl,wpAny_letOwnedTupleGo_zip ho fun h3 hz3 hs3=>?_⟩
  replace hs3:Hd z hh h3:=hs3
  have nz:s.heap.objs.size≠z:=Nat.ne_of_gt (lt z (by simp))
  have hT3:h3.get? s.heap.objs.size=some {cls:= .type "tuple",data:= .seq #[u,v]}:=(hs3.2 _ nz).trans hT
  have hn:H s.heap.objs.size=none:=I.hok.fresh (Nat.le_refl _)
  have I1:Inv X pins σ (upd H s.heap.objs.size (.tup [x,y])) {s with heap:=s.heap.push {cls:= .type "tuple",data:= .seq #[u,v]},toks:=s.toks}:=
   I.laid (fun b ob q=>Ak _ q) (Nat.le_refl _) ⟨show 2≤sizeLine by rw[Ka];omega,[u,v],.cons ru (.cons rv2 .nil),⟨_,Aw _ rfl,rfl,_,rfl⟩⟩
  have up:∀c∈[z,TI,TO,i1,i2],FpOk X pins (upd H s.heap.objs.size (.tup [x,y])) c:=by
   intro c hc
   refine⟨?_,(hf c hc).2⟩
   rw[Zo (Nat.ne_of_lt (lt c hc))]
   exact(hf c hc).1
  have I2:=Jc (h':=h3) (t':=s.toks) I1 (fun c o hc e'=>by
   simp only[Ag,Dc,or_false,not_or] at hc
   rcases N3 e' with q | q
   ·exact(hs3.2 c hc.1).trans (hk c o hc.1 hc.2.2.1 hc.2.2.2.1 hc.2.2.2.2 q)
   ·subst q
    have z2:(s.heap.push {cls:= .type "tuple",data:= .seq #[u,v]}).get? s.heap.objs.size=some o:=e'
    rw[Aw _ rfl] at z2
    cases z2
    exact hT3) up
  refine⟨.ref s.heap.objs.size,_,I2,rfl,⟨_,x,y,hn,rfl,rfl,fun zs hs=>by rw[I.list_inj hs hq];exact hx,fun zs hs=>by rw[I.list_inj hs hr];exact hy⟩,
   ⟨hz3,(hs3.2 TI D.TIz).trans (hk TI _ D.TIz D.TITO D.TIi1 D.TIi2 hTI),⟨_,_,(hs3.2 TO D.TOz).trans hTO2⟩,g1.at fun o q=>(hs3.2 i1 D.i1z).trans q,g2.at fun o q=>(hs3.2 i2 D.i2z).trans q⟩,fun c hc=>(up c hc).1⟩
 done:=by
  rintro X rfl rfl rfl hc i pins s σ H E I hf ⟨hz,hTI,⟨u0,v0,hTO⟩,h1,h2⟩ ⟨xs,ys,hq,hr,hl⟩
  obtain⟨its,rv,p,_⟩:=I.list hq
  obtain⟨jts,rw2,p2,_⟩:=I.list hr
  have l1:=rv.length
  have l2:=rw2.length
  refine wpAny_pyNext_zip_end (I.ok.hd hc) D hz hTI hTO h1 h2 p.isList p2.isList ?_ fun h' eb=>⟨rfl,Jc (t':=s.toks) I (ch:=[z,TI,TO,i1,i2]) (fun c o hc e=>?_) hf⟩
  ·rcases hl with hl | hl
   ·exact .inl (by simp;omega)
   ·exact .inr (by simp;omega)
  ·simp only[Ag,Dc,or_false,not_or] at hc
   exact eb c o hc.1 hc.2.2.1 hc.2.2.2.1 hc.2.2.2.2 e
 self:=by
  rintro A i s Q E ⟨hz,_⟩ h
  exact wpAny_pyIter_zip hz h
end
end L3
namespace SW
open PySem
def Rise(xs:Array Nat):Prop:=∀i k,i<k→k<xs.size→xs.getD i 0<xs.getD k 0
theorem Rise.le{xs:Array Nat}(h:Rise xs){i k:Nat}(a:i≤k)(b:k<xs.size):xs.getD i 0≤xs.getD k 0:=by
 rcases Nat.lt_or_eq_of_le a with a | rfl
 ·exact Nat.le_of_lt (h i k a b)
 ·exact Nat.le_refl _
theorem Y12{xs:Array Nat}{i:Nat}(h:i<xs.size)(a b:Nat):xs.getD i a=xs.getD i b:=by
 rw[Hv,Hv,Array.getElem?_eq_getElem h];rfl
structure At(xs:Array Nat)(j i:Nat):Prop where
 le:i≤xs.size
 lo:∀k,k<i→xs.getD k 0<j
 hi:∀k,i≤k→k<xs.size→j≤xs.getD k 0
theorem Y03{xs:Array Nat}(h:Rise xs)(j:Nat):∀(fuel lo hi:Nat),hi - lo≤fuel→lo≤hi→hi≤xs.size→(∀k,k<lo→xs.getD k 0<j)→(∀k,hi≤k→k<xs.size→j≤xs.getD k 0)→At xs j (Iw.go xs j fuel lo hi)
 | 0,lo,hi,hf,hl,hs,a,b=>by
  have e:lo=hi:=by omega
  subst e
  exact⟨hs,a,b⟩
 | fuel+1,lo,hi,hf,hl,hs,a,b=>by
  unfold Iw.go
  by_cases hlt:lo<hi
  ·rw[if_pos hlt]
   dsimp only
   have hm:(lo+hi) / 2<hi:=by omega
   have hm2:lo≤(lo+hi) / 2:=by omega
   rw[Y12 (by omega:(lo+hi) / 2<xs.size) j 0]
   by_cases hc:xs.getD ((lo+hi) / 2) 0<j
   ·rw[if_pos hc]
    exact Y03 h j fuel _ _ (by omega) (by omega) hs (fun k hk=>Nat.lt_of_le_of_lt (h.le (by omega) (by omega)) hc) b
   ·rw[if_neg hc]
    exact Y03 h j fuel _ _ (by omega) (by omega) (by omega) a (fun k hk hk2=>Nat.le_trans (by omega) (h.le hk hk2))
  ·rw[if_neg hlt]
   have e:lo=hi:=by omega
   subst e
   exact⟨hs,a,b⟩
theorem Zs7(h:Rise xs)(j:Nat):At xs j (Iw xs j):=by
 unfold Iw
 exact Y03 h j _ _ _ (by omega) (by omega) (Nat.le_refl _) (fun k hk=>by omega) (fun k a b=>by omega)
theorem Jh{α:Type}(xs:Array α)(p:Nat)(x:α)(h:p≤xs.size):(Lq xs p x).size=xs.size+1:=by
 unfold Lq
 simp only[Array.size_append,Array.size_push,Array.size_extract]
 omega
theorem Ro{p x:Nat}(h:p≤xs.size)(k:Nat):(Lq xs p x).getD k 0=if k<p then xs.getD k 0 else if k=p then x else xs.getD (k - 1) 0:=by
 unfold Lq
 simp only[Hv,Array.getElem?_append,Array.size_push,Array.size_extract,Array.getElem?_push,Array.getElem?_extract,Nat.min_eq_left h,Nat.sub_zero,Nat.zero_add]
 by_cases h1:k<p
 ·rw[if_pos (by omega),if_neg (by omega),if_pos h1,if_pos h1]
 ·by_cases h2:k=p
  ·subst h2
   rw[if_pos (by omega),if_pos rfl,if_neg (by omega),if_pos rfl];rfl
  ·rw[if_neg (by omega),if_neg h1,if_neg h2,Nat.min_self]
   by_cases h3:k - 1<xs.size
   ·rw[if_pos (by omega),show p+(k - (p+1))=k - 1 by omega]
   ·rw[if_neg (by omega),Array.getElem?_eq_none (by omega)]
theorem Ct(h:Rise xs)(hn:xs[Iw xs j]?≠some j):Rise (Lq xs (Iw xs j) j):=by
 have a:=Zs7 h j
 generalize Iw xs j=p at a hn ⊢
 have hgt:∀k,p≤k→k<xs.size→j<xs.getD k 0:=by
  intro k h1 h2
  have h3:=a.hi k h1 h2
  rcases Nat.lt_or_eq_of_le h3 with h4 | h4
  ·exact h4
  ·exfalso
   have h5:=a.hi p (Nat.le_refl _) (by omega)
   have h6:=h.le h1 h2
   have h7:xs.getD p 0=j:=by omega
   apply hn
   rw[Hv,Array.getElem?_eq_getElem (by omega)] at h7
   rw[Array.getElem?_eq_getElem (by omega)]
   exact congrArg some h7
 intro i k hik hk
 rw[Jh _ _ _ a.le] at hk
 rw[Ro a.le,Ro a.le]
 by_cases h1:i<p
 ·rw[if_pos h1]
  by_cases h2:k<p
  ·rw[if_pos h2];exact h i k hik (by have:=a.le;omega)
  ·rw[if_neg h2]
   by_cases h3:k=p
   ·rw[if_pos h3];exact a.lo i h1
   ·rw[if_neg h3];exact Nat.lt_trans (a.lo i h1) (hgt _ (by omega) (by omega))
 ·rw[if_neg h1,if_neg (show ¬k<p by omega),if_neg (show ¬k=p by omega)]
  by_cases h3:i=p
  ·rw[if_pos h3];exact hgt _ (by omega) (by omega)
  ·rw[if_neg h3];exact h _ _ (by omega) (by omega)
theorem Z45(n:Nat):Rise (Array.range n):=by
 intro i k h1 h2
 rw[Array.size_range] at h2
 simp only[Hv,Array.getElem?_range]
 rw[if_pos (by omega),if_pos h2]
 exact h1
structure TOk(t:SetTable)(led:Bool):Prop where
 rise:Rise t.place
 dum:t.dummies=#[]
 led:t.led=led
theorem Z16(j:Nat):SetTable.has #[] j=false:=rfl
theorem Z83{t:SetTable}(hd:t.dummies=#[])(j:Nat):t.slot j≠ .dummy:=by
 unfold SetTable.slot
 dsimp only
 rw[hd,Z16]
 split
 ·intro h;cases h
 ·intro h;rw[if_neg (by decide)] at h;cases h
theorem Z75{t:SetTable}(h:t.slot j= .empty):t.place[Iw t.place j]?≠some j:=by
 intro e
 unfold SetTable.slot at h
 dsimp only at h
 rw[if_pos (by rw[e];simp)] at h
 cases h
theorem Z85(t:SetTable)(p:SetTable.Probe):(t.advance p).dummy=p.dummy:=by
 unfold SetTable.advance
 split
 ·rfl
 ·rfl
theorem Z18{t:SetTable}(hd:t.dummies=#[])(f:Nat→Int)(h:Int):∀(fuel:Nat) (p:SetTable.Probe) (j:Nat) (d:Option Nat),p.dummy=none→SetTable.probe.go t f h fuel p=some (.empty j d)→d=none∧t.slot j= .empty
 | 0,p,j,d,_,e=>by cases e
 | fuel+1,p,j,d,hp,e=>by
  unfold SetTable.probe.go at e
  cases hs:t.slot p.j with
  | empty=>
   rw[hs] at e
   cases e
   exact⟨hp,hs⟩
  | dummy=>exact absurd hs (Z83 hd _)
  | live i=>
   rw[hs] at e
   dsimp only at e
   split at e
   ·cases e
   ·exact Z18 hd f h fuel _ j d (by rw[Z85,hp]) e
theorem Z64{t:SetTable}(hd:t.dummies=#[]){k:Nat}(e:t.freeSlot h=some (k,b)):t.slot k= .empty∧b=false:=by
 unfold SetTable.freeSlot at e
 split at e
 ·rename_i j dm hm
  cases e
  unfold SetTable.probe at hm
  obtain⟨rfl,h2⟩:=Z18 hd _ _ _ _ _ _ rfl hm
  exact⟨h2,rfl⟩
 ·cases e
theorem Rz{t:SetTable}(h:TOk t led)(n:Nat):TOk (t.standIn n) led:=⟨Z45 n,rfl,h.led⟩
theorem Z79{t:SetTable}(h:TOk t led)(n:Nat):TOk (t.orStandIn n) led:=by
 unfold SetTable.orStandIn
 split
 ·exact h
 ·exact Rz h n
theorem Yc8{t:SetTable}(h:TOk t led)(e:t.slot j= .empty):TOk (t.put j).1 led:=by
 unfold SetTable.put
 dsimp only
 refine⟨Ct h.rise (Z75 e),?_,h.led⟩
 dsimp only
 rw[h.dum,Z16]
 rfl
theorem Yi2{t:SetTable}(h:TOk t led)(es:Array (Int×Value))(k:Int)(x:Value):TOk (layNew t es k x).2.1 led:=by
 unfold layNew
 cases e:t.freeSlot k with
 | none=>exact Rz h _
 | some s=>
  obtain⟨slot,b⟩:=s
  dsimp only
  exact Z79 (Yc8 h (Z64 h.dum e).1) _
theorem Y09{l:List Nat}(hp:l.Pairwise (· < ·)):Rise l.toArray:=by
 intro i k hik hk
 rw[Ah] at hk
 have:=List.pairwise_iff_getElem.mp hp i k (by omega) hk hik
 simp only[Hv,List.getElem?_toArray]
 rw[Ae hk,Ae (by omega)]
 exact this
theorem Zi8(owner:Array (Option Nat))(n:Nat):Rise ((((Hi n).filterMap fun j=>(owner.getD j none).map (j,·)).map (·.1)).toArray):=by
 refine Y09 ?_
 rw[List.pairwise_map]
 refine List.Pairwise.filterMap _ (R:=(· < ·)) ?_ List.pairwise_lt_range
 intro a b hab x hx y hy
 obtain⟨_,_,rfl⟩:=Ia.mp hx
 obtain⟨_,_,rfl⟩:=Ia.mp hy
 exact hab
theorem Zs6{t:SetTable}(h:TOk t led)(es:Array (Int×Value))(n:Nat):TOk (relayAll t es n).2.1 led:=by
 unfold relayAll
 cases e:t.relaid (es.map (·.1)) n with
 | none=>exact Rz h _
 | some s=>
  obtain⟨t',order⟩:=s
  dsimp only
  split
  ·unfold SetTable.relaid SetTable.laid at e
   cases e2:SetTable.layClean (SetTable.sizeAbove n - 1) (es.map (·.1)) with
   | none=>rw[e2] at e;cases e
   | some owner=>
    rw[e2] at e
    cases e
    exact⟨Zi8 _ _,rfl,h.led⟩
  ·exact Rz h _
end SW
namespace SW
open PySem PyProof.Rows
section
variable{M:Model}{prog:Program}{w:World}{A:Around}{E:Value→Shared→Prop}{s:Shared}
inductive KeysOf {K:Type} [DecidableEq K] (knd:KeyKind prog w K):List K→List (Int×Value)→Prop
 | nil:KeysOf knd [] []
 | cons {k:K} {e:Int×Value} {ks:List K} {l:List (Int×Value)} (h:knd.is k e.2=true) (r:KeysOf knd ks l):KeysOf knd (k::ks) (e::l)
variable{K:Type}[DecidableEq K]{knd:KeyKind prog w K}
theorem KeysOf.len(h:KeysOf knd ks l):ks.length=l.length:=by
 induction h with
 | nil=>rfl
 | cons _ _ ih=>rw[Aj,Aj,ih]
theorem KeysOf.mem(h:KeysOf knd ks l){k:K}:k∈ks↔∃e∈l,knd.is k e.2=true:=by
 induction h with
 | nil=>simp
 | cons h r ih=>
  rename_i k' e ks l
  rw[Ag,ih]
  constructor
  ·rintro(rfl | ⟨e,he,q⟩)
   ·exact⟨_,Ao,h⟩
   ·exact⟨e,Ar _ he,q⟩
  ·rintro⟨e',he,q⟩
   rcases Ag.mp he with rfl | he
   ·exact .inl (knd.inj _ _ _ q h)
   ·exact .inr ⟨e',he,q⟩
theorem KeysOf.app(h:KeysOf knd ks l)(g:KeysOf knd ks' l'):KeysOf knd (ks++ks') (l++l'):=by
 induction h with
 | nil=>exact g
 | cons h _ ih=>exact .cons h ih
theorem KeysOf.perm(p:l'.Perm l):∀{ks:List K},KeysOf knd ks l→∃ks',ks'.Perm ks∧KeysOf knd ks' l':=by
 induction p with
 | nil=>intro ks h;exact⟨ks,List.Perm.refl _,h⟩
 | cons x p ih=>
  intro ks h
  cases h with
  | cons h r=>
   obtain⟨ks',a,b⟩:=ih r
   exact⟨_,a.cons _,.cons h b⟩
 | swap x y l=>
  intro ks h
  cases h with
  | cons h r=>
   cases r with
   | cons h2 r=>exact⟨_,List.Perm.swap _ _ _,.cons h2 (.cons h r)⟩
 | trans p q ih1 ih2=>
  intro ks h
  obtain⟨k1,a1,b1⟩:=ih2 h
  obtain⟨k2,a2,b2⟩:=ih1 b1
  exact⟨k2,a2.trans a1,b2⟩
structure SetO(knd:KeyKind prog w K)(led:Bool)(o:Obj)(ks:List K):Prop where
 ex:o.ExactSet
 dat:∃es ep t,o.data= .set es ep t∧ElemsOf knd es.toList∧KeysOf knd ks es.toList∧t.fits es.size=true∧TOk t led
 nd:ks.Nodup
 sm:ks.length<scanBound
theorem Zu8{t:SetTable}(h:TOk t led):TOk {t with plain:=false} led:=⟨h.rise,h.dum,h.led⟩
theorem Y58{led:Bool}{a:Addr}{o:Obj}{k:K}{x:Value}{ks:List K}{Q:Bool→Shared→Prop}(hk:knd.is k x=true)(hx:x.scannable=true)(ho:s.heap.get? a=some o)(hS:SetO knd led o ks)(hr:ks.length+1<scanBound)
  (h:∀b h' o' ks',Hd a s.heap h'→h'.get? a=some o'→SetO knd led o' ks'→(k∈ks→ks'=ks)→(k∉ks→ks'.Perm (ks++[k]))→Q b {s with heap:=h'}):
  wpAny (model prog w) A (setAddHashed a x (knd.hash k)) Q E s:=by
 obtain⟨es,ep,t,hd,he,hks,hf,ht⟩:=hS.dat
 have hlen:=hks.len
 have hl2:es.toList.length=es.size:=Dn
 have hsm:=hS.sm
 unfold setAddHashed setAddHashedIn
 refine Hk (Aa (wpAny_setState_of ho hd hf ?_))
 dsimp only
 rw[byScan_of hx (by omega) he,if_pos rfl]
 unfold setAddByScan
 refine Aa (Aa (Md (Aa (wpAny_setScan_of hk ho hd hf he ?_))))
 cases hfd:es.toList.findIdx? (fun e=>knd.is k e.2) with
 | some j=>
  obtain⟨hj,hpj,_⟩:=List.findIdx?_eq_some_iff_getElem.mp hfd
  have hin:k∈ks:=hks.mem.mpr ⟨_,Hg hj,hpj⟩
  dsimp only
  refine Ai (Ai ?_)
  have:=h false s.heap o ks (Hd.refl a s.heap) ho hS (fun _=>rfl) (fun z=>absurd hin z)
  exact this
 | none=>
  have hout:k∉ks:=fun z=>by
   obtain⟨e,h1,h2⟩:=hks.mem.mp z
   have:=List.findIdx?_eq_none_iff.mp hfd e h1
   rw[h2] at this
   cases this
  dsimp only
  have gv:∀(b:Bool) {s1:Shared} {R:Unit→Shared→Prop},R () s1→wpAny (model prog w) A (match b with | true=>rule "set.scan.the-table-gave-way" | false=>pure ()) R E s1:=by
   intro b s1 R q
   cases b
   ·exact Ai q
   ·exact Md q
  have p1:=layNew_perm t es (knd.hash k) x
  have f1:=layNew_fits t es (knd.hash k) x
  have t1:=Yi2 ht es (knd.hash k) x
  generalize layNew t es (knd.hash k) x=L at p1 f1 t1 ⊢
  obtain⟨es1,t2,wd,gave⟩:=L
  dsimp only at p1 f1 t1 ⊢
  rw[Array.toList_push] at p1
  have el1:ElemsOf knd es1.toList:=(he.push hk hx).perm p1
  obtain⟨k1,kp1,ko1⟩:=KeysOf.perm p1 (hks.app (.cons (e:=(knd.hash k,x)) hk .nil))
  have nd1:k1.Nodup:=kp1.nodup_iff.mpr (List.nodup_append.mpr ⟨hS.nd,by simp,fun a ha b hb=>by simp at hb;subst hb;rintro rfl;exact hout ha⟩)
  have ln1:k1.length=ks.length+1:=by rw[kp1.length_eq,Ab];rfl
  have sz1:es1.size=k1.length:=by rw[←Dn,ko1.len]
  refine Aa (gv _ ?_)
  have key:∀(t3:SetTable),t3.fits es1.size=true→TOk t3 led→wpAny (model prog w) A (do
    storeSet a es1 t3
    if (!wd&&t3.tooFull)=true then do
      (match (relayAll t3 es1 (Ik es1.size)).2.2 with | true=>rule "set.scan.the-table-gave-way" | false=>pure ())
      storeSet a (relayAll t3 es1 (Ik es1.size)).1 (relayAll t3 es1 (Ik es1.size)).2.1
      pure (some true)
     else pure (some true)) (fun r s'=>∃h' o' ks',r=some true∧s'={s with heap:=h'}∧Hd a s.heap h'∧h'.get? a=some o'∧SetO knd led o' ks'∧ks'.Perm (ks++[k])) E s:=by
   intro t3 f3 ok3
   have fit1:es1.size≤sizeLine:=fits_of_scanBound (by omega)
   refine Aa (wpAny_storeSet_of ho hd ?_ fit1)
   have g1:(s.heap.update a (Obj.putSet es1 t3)).get? a=some {o with data:= .set es1 (ep+1) t3}:=by
    have:=Ii (Obj.putSet es1 t3) ho (by rw[putSet_of es1 t3 hd];rfl)
    rw[putSet_of es1 t3 hd] at this
    exact this
   have o1:SetO knd led {o with data:= .set es1 (ep+1) t3} k1:=⟨hS.ex,⟨es1,_,t3,rfl,el1,ko1,f3,ok3⟩,nd1,by omega⟩
   have sb1:=Hd.update s.heap a (Obj.putSet es1 t3)
   split
   ·have p2:=relayAll_perm t3 es1 (Ik es1.size)
    have f2:=relayAll_fits t3 es1 (Ik es1.size)
    have ok2:=Zs6 ok3 es1 (Ik es1.size)
    generalize relayAll t3 es1 (Ik es1.size)=L at p2 f2 ok2 ⊢
    obtain⟨es2,t4,gv2⟩:=L
    dsimp only at p2 f2 ok2 ⊢
    obtain⟨k2,kp2,ko2⟩:=KeysOf.perm p2 ko1
    have sz2:es2.size=es1.size:=by rw[←Dn,p2.length_eq,Dn]
    refine Aa (gv _ (Aa (wpAny_storeSet_of g1 rfl ?_ (by rw[sz2];exact fit1))))
    refine Ai ⟨_,_,k2,rfl,rfl,sb1.trans (Hd.update _ a _),Ii (Obj.putSet es2 t4) g1 rfl,?_,kp2.trans kp1⟩
    exact⟨hS.ex,⟨es2,_,t4,rfl,el1.perm p2,ko2,f2,ok2⟩,kp2.nodup_iff.mpr nd1,by rw[kp2.length_eq];omega⟩
   ·exact Ai ⟨_,_,k1,rfl,rfl,sb1,g1,o1,kp1⟩
  have fin:∀(t3:SetTable),t3.fits es1.size=true→TOk t3 led→wpAny (model prog w) A (do
    storeSet a es1 t3
    if (!wd&&t3.tooFull)=true then do
      (match (relayAll t3 es1 (Ik es1.size)).2.2 with | true=>rule "set.scan.the-table-gave-way" | false=>pure ())
      storeSet a (relayAll t3 es1 (Ik es1.size)).1 (relayAll t3 es1 (Ik es1.size)).2.1
      pure (some true)
     else pure (some true)) (fun r s'=>wpAny (model prog w) A (match r with | some added=>pure added | none=>setAddHashedIn a x (knd.hash k) 99999) Q E s') E s:=by
   intro t3 f3 ok3
   refine Hl (key t3 f3 ok3) ?_ fun _ _ z=>z
   rintro r s' ⟨h',o',ks',rfl,rfl,sb,g,so,p⟩
   exact Ai (h true h' o' ks' sb g so (fun z=>absurd z hout) fun _=>p)
  split
  ·refine Aa ?_
   rw[hashByValue_scannable 8 hx]
   refine Ai ?_
   split
   ·exact fin _ f1 t1
   ·exact fin _ (SetTable.fits_plain_off f1) (Zu8 t1)
  ·refine Aa (Ai ?_)
   rw[if_pos rfl]
   exact fin _ f1 t1
end
noncomputable def Ez(w:World):Bool:= !w.params.followText "set-order"
section
variable{prog:Program}{w:World}{A:Around}{E:Value→Shared→Prop}{s:Shared}
section
variable{K:Type}[DecidableEq K]{knd:KeyKind prog w K}{R:Result→Shared→Prop}{I:Addr}{fp wr:List Addr}{G:Array GenState→Array GenState→Prop}{n:Nat}{P:Nat→Value→Prop}{St:Nat→Shared→Prop}
theorem Zs9(W:WalksS prog w A.in1 I fp wr G n P St)(S:Addr)(hSf:S∉fp)(key:Nat→K)(hkey:∀i v,P i v→knd.is (key i) v=true∧v.scannable=true)(hb:n+1<scanBound):
  ∀(m i:Nat) (s:Shared) (o:Obj) (ks:List K),n - i=m→i≤n→St i s→s.heap.get? S=some o→SetO knd led o ks→ks.length≤i→(∀k,k∈ks↔∃j,j<i∧key j=k)→
  (∀s' o' ks',Moved (S::wr) G s s'→s'.heap.get? S=some o'→SetO knd led o' ks'→ks'.length≤n→(∀k,k∈ks'↔∃j,j<n∧key j=k)→R (.ok (.ret .none)) s')→
  codeAny (model prog w) A (.builtin "set.update.loop" ⟨[.ref S,.ref I],[]⟩) R s:=by
 have hSw:S∉wr:=fun z=>hSf (W.sub _ z)
 have hs2:∀b∈wr,b∈S::wr:=fun b z=>Ar _ z
 intro m
 induction m with
 | zero=>
  intro i s o ks hm hi st ho hS hl hmem q
  obtain rfl:i=n:=by omega
  refine codeAny_builtin F.entry_set_update_loop ?_
  rw[Around.under_plainId F.plain_set_update_loop _]
  show wpAny _ A.in1 (pyNext (.ref I) >>=_) _ _ s
  refine Aa (W.done s _ _ st fun s' mv=>Ai ?_)
  exact q s' o ks (mv.mono hs2) (mv.heap S _ hSw ho) hS hl hmem
 | succ m ih=>
  intro i s o ks hm hi st ho hS hl hmem q
  have hlt:i<n:=by omega
  refine codeAny_builtin F.entry_set_update_loop ?_
  rw[Around.under_plainId F.plain_set_update_loop _]
  show wpAny _ A.in1 (pyNext (.ref I) >>=_) _ _ s
  refine Aa (W.item i s _ _ hlt st fun v s' hP st' mv=>?_)
  obtain⟨hk,hx⟩:=hkey i v hP
  show wpAny _ A.in1 (holding [v] (setAdd S v) >>=_) _ _ s'
  refine Aa (Hk ?_)
  unfold setAdd
  refine Hk (Aa (knd.pyHash hk ?_))
  refine Y58 (s:={s' with toks:=s'.toks+1}) hk hx (mv.heap S _ hSw ho) hS (by omega) fun b h' o' ks' sb ho' hS' c1 c2=>?_
  have hmem':∀k,k∈ks'↔∃j,j<i+1∧key j=k:=by
   intro k
   have e:(∃j,j<i+1∧key j=k)↔(∃j,j<i∧key j=k)∨key i=k:=by
    constructor
    ·rintro⟨j,h1,h2⟩
     by_cases h3:j=i
     ·subst h3;exact .inr h2
     ·exact .inl ⟨j,by omega,h2⟩
    ·rintro(⟨j,h1,h2⟩ | h2)
     ·exact⟨j,by omega,h2⟩
     ·exact⟨i,by omega,h2⟩
   rw[e,←hmem k]
   by_cases hin:key i∈ks
   ·rw[c1 hin]
    constructor
    ·exact .inl
    ·rintro(z | rfl)
     ·exact z
     ·exact hin
   ·rw[(c2 hin).mem_iff,Bk,An]
    constructor
    ·rintro(z | rfl)
     ·exact .inl z
     ·exact .inr rfl
    ·rintro(z | rfl)
     ·exact .inl z
     ·exact .inr rfl
  have hl':ks'.length≤i+1:=by
   by_cases hin:key i∈ks
   ·rw[c1 hin];omega
   ·rw[(c2 hin).length_eq,Ab,Aq];omega
  refine Ai ⟨plainId_quiet F.plain_set_update_loop _,ih (i+1) _ o' ks' (by omega) hlt (W.frame _ s' _ _ st' (Nat.le_succ _) fun b' hb' o2 e=>?_) ho' hS' hl' hmem' fun s2 o2 ks2 mv2 ho2 hS2 l2 m2=>?_⟩
  ·rw[sb.2 b' (fun z:b'=S=>hSf (by rw[←z];exact hb'))];exact e
  ·refine q s2 o2 ks2 (Moved.trans W.gtrans ((mv.mono hs2).then_heap (Nat.le_succ _) fun b' o3 hb' e=>?_) mv2) ho2 hS2 l2 m2
   rw[sb.2 b' (fun z:b'=S=>hb' (by rw[z];exact Ao))];exact e
end
noncomputable def newO(w:World):Obj:={cls:= .type "set",dict:=none,data:= .set #[] 0 (.fresh 0 0 (Ez w))}
theorem Y36{K:Type}[DecidableEq K]{knd:KeyKind prog w K}:SetO knd (Ez w) (newO w) []:=
 ⟨⟨rfl,rfl,rfl⟩,⟨#[],0,_,rfl,fun e he=>by simp at he,.nil,rfl,⟨fun i k _ h=>by simp[SetTable.fresh] at h,rfl,rfl⟩⟩,List.nodup_nil,by show 0<scanBound;decide⟩
theorem Zt6(a:Value){Q:Value→Shared→Prop}(h:Q (.ref s.heap.objs.size) {s with heap:=s.heap.push (newO w)}):
  codeAny (model prog w) A (.call (.builtin "set.__new__") ⟨[.type "set",a],[]⟩) (wants Q E) s:=by
 refine codeAny_of_tree ?_
 show wpAny _ A.in1 (checkBuiltinCall "set.__new__" ⟨[.type "set",a],[]⟩ >>=fun _=>again (.builtin "set.__new__" ⟨[.type "set",a],[]⟩)) _ _ s
 refine Aa (wpAny_of_eq (F.newCall_set_1 a) (Ai ⟨plainId_quiet F.plain_set_new _,codeAny_builtin F.entry_set_new ?_⟩))
 rw[Around.under_plainId F.plain_set_new _]
 unfold Builtin.«set.__new__» Builtin.Frozenset.newClass
 have sub0:=sub_set_self
 obtain⟨hp,g,d,tk,os⟩:=s
 dsimp only
 wp_walk
 refine wpAny_askSetting (Ai ?_)
 simp only[newObj]
 exact Aa (wpAny_alloc (Ai (Ai h)))
end
section
variable{prog:Program}{w:World}{A:Around}{E:Value→Shared→Prop}{s:Shared}{K:Type}[DecidableEq K]{knd:KeyKind prog w K}
set_option maxHeartbeats 3200000 in
theorem Zp7{l:Addr}{its:Array Value}{key:Nat→K}{Q:Value→Shared→Prop}(hh:A.handled=none)(hl:s.heap.IsList l its)(hkey:∀i v,its[i]?=some v→knd.is (key i) v=true∧v.scannable=true)(hb:its.size+1<scanBound)
  (h:∀h' tk o ks,h'.get? s.heap.objs.size=some o→SetO knd (Ez w) o ks→ks.length≤its.size→(∀k,k∈ks↔∃j,j<its.size∧key j=k)→(∀b o,b<s.heap.objs.size→s.heap.get? b=some o→h'.get? b=some o)→Q (.ref s.heap.objs.size) {s with heap:=h',toks:=tk}):
  wpAny (model prog w) A (call (.type "set") [.ref l]) Q E s:=by
 obtain⟨c0,tl,mro0⟩:=F.called_set.mro
 have made0:=F.called_set.made
 have sub0:=F.called_set.sub
 have nt0:=F.called_set.notType
 have cc0:=F.called_set.canCreate
 have ct0:=F.typeCall_set_1 (.ref l)
 refine wpAny_call (codeAny_of_tree ?_)
 show wpAny _ _ (callAny (.type "set") _) _ _ _
 refine Ai ⟨Code.quiet_builtin _ (by decide+kernel),codeAny_builtin F.entry_type_call ?_⟩
 rw[Around.under_plain (weight_type_call_type "set" [.ref l] []) rfl]
 repeat (any_goals (first | assumption | wp_step))
 have hnew:=Zt6 (prog:=prog) (w:=w) (A:=A.in1) (s:=s) (E:=E) (.ref l) (Q:=fun v s1=>v= .ref s.heap.objs.size∧s1={s with heap:=s.heap.push (newO w)}) ⟨rfl,rfl⟩
 refine Lu hnew fun r s1 hr=>?_
 cases r with
 | error e=>exact hr
 | ok fl=>
 cases fl with
 | ret v=>
  obtain⟨rfl,rfl⟩:=hr
  have g0:(s.heap.push (newO w)).get? s.heap.objs.size=some (newO w):=Aw _ rfl
  have ty0:Shared.TypeIs {s with heap:=s.heap.push (newO w)} (.ref s.heap.objs.size) "set":=⟨_,g0,rfl⟩
  have li0:=F.called_set.init.lookup
  have bi0:=F.called_set.init.bind (.ref s.heap.objs.size)
  repeat (any_goals (first | assumption | wp_step))
  have want:∀s2:Shared,(∃h' tk o ks,s2={s with heap:=h',toks:=tk}∧h'.get? s.heap.objs.size=some o∧SetO knd (Ez w) o ks∧ks.length≤its.size∧(∀k,k∈ks↔∃j,j<its.size∧key j=k)∧(∀b o,b<s.heap.objs.size→s.heap.get? b=some o→h'.get? b=some o))→Q (.ref s.heap.objs.size) s2:=by
   rintro s2 ⟨h',tk,o,ks,rfl,a1,a2,a0,a3,a4⟩
   exact h h' tk o ks a1 a2 a0 a3 a4
  clear h
  refine Lu (codeAny_call_builtin (R:=wants (fun r s2=>r= .none∧∃h' tk o ks,s2={s with heap:=h',toks:=tk}∧h'.get? s.heap.objs.size=some o∧SetO knd (Ez w) o ks∧ks.length≤its.size∧(∀k,k∈ks↔∃j,j<its.size∧key j=k)∧(∀b o,b<s.heap.objs.size→s.heap.get? b=some o→h'.get? b=some o)) E) F.called_set.init.plain F.entry_set_init (check_set_init_1 ty0 ?_)) fun r2 s2 hr2=>?_
  ·obtain⟨⟨cl,di,da,sl⟩,ol,hcl,nl,hdl⟩:=hl
   simp only at hcl hdl
   subst hcl hdl
   have ol1:(s.heap.push (newO w)).get? l=some {cls:= .type "list",dict:=di,data:= .seq its nl,slots:=sl}:=Ak _ ol
   have s1:=F.sub_list_set
   have s2:=F.sub_list_frozenset
   have s3:(Dm "list"==Dm "dict")=false:=by decide
   have il1:(s.heap.push (newO w)).IsList l its:=⟨_,ol1,rfl,nl,rfl⟩
   unfold Builtin.«set.__init__» noKeywords Builtin.Frozenset.updateFrom
   generalize hPI:pyIter=PI
   wp_walk
   subst hPI
   refine Lr il1 (Aa (wpAny_runValue ?_))
   have lS:l<s.heap.objs.size:=Al ol
   have nI:l≠(s.heap.push (newO w)).objs.size:=by rw[Hs];exact Nat.ne_of_lt (Nat.lt_succ_of_lt lS)
   have nS:s.heap.objs.size∉[(s.heap.push (newO w)).objs.size,l]:=by
    rw[Hs,Ag,An]
    exact fun z=>z.elim (Nat.ne_of_lt (Nat.lt_succ_self _)) (Nat.ne_of_gt lS)
   refine Zs9 (knd:=knd) (led:=Ez w) ((Walks.list (by simp[hh]) _ l nI its).toS) s.heap.objs.size nS key hkey hb _ 0 _ (newO w) [] rfl (Nat.zero_le _) ⟨⟨_,Aw _ rfl,rfl,rfl⟩,il1.push _⟩ (Ak _ g0) Y36 (Nat.zero_le _) (fun k=>by simp) ?_
   intro s' o' ks' mv ho' hS' hl' hm'
   obtain⟨h',g',d',tk',os'⟩:=s'
   cases mv.gens
   cases mv.drawn
   cases mv.os
   refine Ai ?_
   refine Ai ⟨rfl,h',tk',o',ks',rfl,ho',hS',hl',hm',fun b o hb e=>?_⟩
   refine mv.heap b o ?_ (Ak _ (Ak _ e))
   rw[Ag,An,Hs]
   exact fun z=>z.elim (Nat.ne_of_lt hb) (Nat.ne_of_lt (Nat.lt_succ_of_lt hb))
  ·cases r2 with
   | error e=>exact hr2
   | ok fl2=>
    cases fl2 with
    | ret r=>
     obtain⟨rfl,hw⟩:=hr2
     repeat (any_goals (first | assumption | wp_step))
     exact want _ hw
    | _=>exact hr2.elim
 | _=>exact hr.elim
end
section
variable{prog:Program}{w:World}{A:Around}{E:Value→Shared→Prop}{s:Shared}
noncomputable abbrev itO(f:Value)(i:Nat)(a:Addr)(n ep:Nat):Obj:={cls:= .type "set_iterator",dict:=none,data:= .fields #[f,rawInt i,.ref a,rawInt n,rawInt ep],slots:=#[]}
section
variable{a I:Addr}{o:Obj}{es:Array (Int×Value)}{ep:Nat}{t:SetTable}
theorem Zo3{Q:Fin→Shared→Prop}{R:Value→Shared→Prop}(hh:A.handled=none)(h:∀h' e,(∀b u,s.heap.get? b=some u→h'.get? b=some u)→(∃u,h'.get? e=some u∧u.cls= .type "StopIteration")→R (.ref e) {s with heap:=h'}):wpAny (model prog w) A (newExc (.type "StopIteration") [] >>=fun e=>(raiseNew e:Sem Fin)) Q R s:=by
 refine Aa ?_
 simp only[newExc,newTuple]
 refine Aa (Io ?_ (by size_fits))
 refine Aa (m:=firstArgMember _ _) (wpAny_of_eq (a:=Ku) (by first | rfl | (simp only[firstArgMember];rfl)) ?_)
 refine Io ?_ (by size_fits)
 simp only[raiseNew]
 refine Aa (wpAny_handled ?_)
 rw[hh]
 refine Aa (Ai (wpAny_throw ?_))
 exact h _ _ (fun b u q=>Ak _ (Ak _ q)) ⟨_,Aw _ rfl,rfl⟩
end
end
section
variable{prog:Program}{w:World}{A:Around}{E:Value→Shared→Prop}{s:Shared}
structure ItSt(w:World)(I a T:Addr)(o:Obj)(es:Array (Int×Value))(ep:Nat)(t:SetTable)(vs:List Value)(i:Nat)(h:Heap):Prop where
 set:h.get? a=some o
 md:(w.params.followText "set-order"=true∧vs=(pickOrder (w.params.setOrder a ep) es).toList.map (·.2)∧h.get? I=some (itO (rawInt 0) i a es.size ep))
  ∨(w.params.followText "set-order"=false∧(!t.plain&&decide (es.size >1))=false∧t.led=true∧Rise t.place∧vs=es.toList.map (·.2)∧∃slot,Iw t.place slot=i∧h.get? I=some (itO (rawInt slot) i a es.size ep))
  ∨(∃pl:List Nat,h.IsTuple T (pl.map fun(k:Nat)=>rawInt k).toArray∧vs=pl.map (fun k=>(es.getD k (0,.none)).2)∧(∀k∈pl,k<es.size)∧h.get? I=some (itO (.ref T) i a es.size ep))
end
end SW
namespace SW
open PySem PyProof.Rows PySem.W
end SW
namespace SW
open PySem PyProof.Rows
end SW
namespace L3
open PySem PySem.Spec PyProof.Rows L2
section
variable{X:Cx}{pins:List (Addr×Obj)}{σ:L2.St}{H:Hp}{s:Shared}
def Td(P:Program)(w:World)(a:Addr)(ks:List Key)(h:Heap):Prop:=∃o,h.get? a=some o∧SW.SetO (Y3 P w) (SW.Ez w) o ks
theorem Td.stay{a:Addr}(x:Td P w a ks h)(k:∀o,h.get? a=some o→h'.get? a=some o):Td P w a ks h':=by
 obtain⟨o,ho,r⟩:=x
 exact⟨o,k _ ho,r⟩
theorem Zf9(hc:X.calm=true):X1 X (.type "set") (fun xs H Q=>∃(a:Addr) (ks:List Key),xs=[V.ref a]∧SqL X.K H a (ks.map kV)∧ks.length+1<scanBound∧∀p ks',H p=none→ks'.Nodup→ks'.length≤ks.length→(∀k,k∈ks'↔k∈ks)→Q (.ref p) (upd H p (.ext (Td X.prog X.w p ks')))):=by
 intro pins s σ H xs us Q I r h
 obtain⟨a,ks,rfl,hx,hz,q⟩:=h
 obtain⟨u,rfl,ru⟩:=Tn r
 cases ru
 obtain⟨its,rv,p,_⟩:=I.list hx
 have hl:its.length=ks.length:=by have:=rv.length;rw[Ac] at this;exact this.symm
 refine SW.Zp7 (knd:=Y3 X.prog X.w) (key:=fun i=>ks.getD i (.inl 0)) (I.ok.hd hc) p.isList (fun i v e=>?_) (by rw[Ah];omega) fun h' tk o ks' ho hS hlk hm k=>?_
 ·rw[List.getElem?_toArray] at e
  have hi:i<ks.length:=by have:=(Af.mp e).1;omega
  have e1:(ks.map kV)[i]?=some (kV ks[i]):=by rw[As,Ae hi];rfl
  obtain⟨u,e2,r2⟩:=rv.get e1
  rw[e] at e2
  cases e2
  have e3:ks.getD i (.inl 0)=ks[i]:=by rw[Dk,Ae hi];rfl
  have hk:Fi ks[i] v=true:=Z37 (P:=X.prog) (w:=X.w) r2
  refine⟨by show Fi (ks.getD i (.inl 0)) v=true;rw[e3];exact hk,?_⟩
  rcases Zr hk with⟨i,t,_,rfl⟩ | ⟨x,t,_,rfl⟩<;>rfl
 ·have k':∀b u,s.heap.get? b=some u→h'.get? b=some u:=fun b u e=>k b u (Al e) e
  refine⟨.ref _,_,I.laid (a:=s.heap.objs.size) (o:= .ext (Td X.prog X.w s.heap.objs.size ks')) (t':=tk) k' (Nat.le_refl _) ⟨⟨o,ho,hS⟩,⟨o,ho⟩,fun h1 h2 x k=>x.stay k⟩,rfl,q _ ks' (I.hok.fresh (Nat.le_refl _)) hS.nd (by rw[Ah,hl] at hlk;exact hlk) fun k=>?_⟩
  rw[hm,Ah,hl,List.mem_iff_getElem]
  constructor
  ·rintro⟨j,hj,e⟩
   exact⟨j,hj,by rw[←e,Dk,Ae hj];rfl⟩
  ·rintro⟨j,hj,e⟩
   exact⟨j,hj,by rw[←e,Dk,Ae hj];rfl⟩
theorem Tl:∀{vs:List Value} {ns:List Int},IntsAre vs ns→Vals (ns.map V.int) vs
 | _,_,.nil=> .nil
 | _,_,.cons n t r=> .cons ⟨t,rfl⟩ (Tl r)
theorem Yi9(I:Inv X pins σ H s){p:Addr}{φ:Heap→Prop}(h:H p=some (.ext φ)):φ s.heap:=(I.hok p _ h).1
def Ya9(P:Program)(w:World):List V→Hp→VK→Prop:=fun xs H Q=>∃(p:Addr) (ks:List Key),xs=[V.ref p]∧H p=some (.ext (Td P w p ks))∧Q (.int ks.length) H
theorem Fe:X1 X (.builtin "len") (Ya9 X.prog X.w):=by
 intro pins s σ H xs us Q I r h
 obtain⟨p,ks,rfl,hx,q⟩:=h
 obtain⟨u,rfl,ru⟩:=Tn r
 cases ru
 obtain⟨o,ho,hS⟩:=Yi9 I hx
 obtain⟨es,ep,t,hd,he,hks,hf,ht⟩:=hS.dat
 have hl:es.size=ks.length:=by have:=hks.len;rw[Dn] at this;exact this.symm
 have hb:ks.length<scanBound:=hS.sm
 have h4:scanBound=4096:=rfl
 refine call_len_set ho hS.ex hd hf (Int.lt_of_lt_of_le (show(es.size:Int)<4096 by omega) (by decide)) ?_
 rw[hl]
 exact⟨.int _,H,I.tok _,⟨_,rfl⟩,q⟩
end
section
variable{X:Cx}{pins:List (Addr×Obj)}{σ:L2.St}{H:Hp}{s:Shared}
theorem Ze5{prog:Program}{w:World}{A:Around}{E:Value→Shared→Prop}{s:Shared}{t sl:Addr}{its:Array Value}{vl vu:Value}{lo hi:Option Int}{Q:Value→Shared→Prop}(ht:IsTup s.heap t its)(hs:s.heap.IsSliceOf sl vl vu .none)(pl:IsPart vl lo)(pu:IsPart vu hi)
  (hw:HT.sIx its.size 0 lo=0∧HT.sIx its.size its.size hi=its.size) (h:Q (.ref t) s):wpAny (model prog w) A (getItem (.ref t) (.ref sl)) Q E s:=by
 obtain⟨os,hos,hcs,hds⟩:=id hs
 have hTs:s.TypeIs (.ref sl) "slice":=⟨os,hos,hcs⟩
 unfold getItem
 try with_reducible refine Hk ?_
 first | refine Aa (Ai ?_) | skip
 refine Aa (wpAny_sequenceKey ht.typeIs (by decide) ?_)
 refine Aa (Im (name:=Str.ofString "__getitem__") ht.typeIs Hj (Ky Hj ht.typeIs entry_tuple_getitem ?_ (args_tuple_getitem _ _)))
 show wpAny _ _ (Builtin.Tuple.tupleItemsOf (.ref t) >>=_) _ _ s
 refine Aa (tupleItemsOf_ ht (Aa (wpAny_typeOf hTs ?_)))
 rw[if_pos (by decide)]
 refine Aa (HT.Xr hs pl pu ?_)
 show wpAny _ _ (if (((HT.sIx its.size 0 lo:Nat):Int)==0&&(1:Int)==1&&(HT.sIx its.size its.size hi - HT.sIx its.size 0 lo)==its.size)=true then _ else _) _ _ s
 rw[if_pos (by rw[hw.1,hw.2];simp)]
 refine Aa ?_
 unfold Builtin.Tuple.tupleIsExact
 refine Aa (wpAny_typeOf ht.typeIs (Ai ?_))
 rw[if_pos (by decide)]
 exact Aa (Md (Ai ⟨_,rfl,Ai h⟩))
theorem Y46:SlR X (fun x lo hi H Q=>∃a xs,x= .ref a∧SqT X.K H a xs∧(HT.sIx xs.length 0 lo=0∧HT.sIx xs.length xs.length hi=xs.length)∧Q x H):=by
 intro pins s σ H x v vl vu lo hi sl Q I rx hs pl pu h
 obtain⟨a,xs,rfl,hx,hw,q⟩:=h
 cases rx
 obtain⟨its,r,ht,hz⟩:=I.tuple hx
 have hlen:its.toArray.size=xs.length:=by rw[Ah];exact r.length.symm
 exact⟨"tuple",_,Hj.lookup,ht.typeIs,Ze5 ht hs pl pu (by rw[hlen];exact hw) ⟨.ref a,H,I,rfl,q⟩⟩
end
end L3
namespace L2
open PySem PySem.Spec PyProof.Rows
variable{X:Cx}
end L2
namespace SW
open PySem PySem.Spec PyProof.Rows
section
variable{prog:Program}{w:World}{A:Around}{E:Value→Shared→Prop}{s:Shared}
theorem Z31:typeLookup (.type "list_reverseiterator") "__len__"=pure none:=by rw[typeLookup_type,builtinLookup_eq_fast];kernel_rfl
theorem Jm:Slot "list_reverseiterator" "__length_hint__" "list_reverseiterator.__length_hint__":=
 .of (owner:="list_reverseiterator") (n:="__length_hint__") (by rw[typeLookup_type,builtinLookup_eq_fast];kernel_rfl) (by decide+kernel) (by decide+kernel) (by decide+kernel)
  (by first | exact .inl (by decide+kernel) | exact .inr (by decide+kernel)) (by rw[isSubtype_type];kernel_rfl)
theorem Zq8(hT:s.TypeIs (.ref r) "list_reverseiterator")(h:Q false s):wpAny (model prog w) A (Builtin.List.listLengthHint (.ref r)) Q E s:=by
 unfold Builtin.List.listLengthHint
 refine Aa (wpAny_specialOf hT Z31 ?_)
 show wpAny _ A (specialOf (Au r) (Str.ofString "__length_hint__") >>=_) _ _ _
 refine Aa (wpAny_specialOf hT Jm.lookup ?_)
 generalize hid:("list_reverseiterator.__length_hint__":String)=id0
 wp_delta
 rw[show splitId id0=some ("list_reverseiterator","__length_hint__") from by subst hid;decide+kernel]
 subst hid
 refine Aa (wpAny_isInstance (T:="list_reverseiterator") (b:=true) hT (by rw[isSubtype_type];kernel_rfl) ?_)
 refine wpAny_ite_split (fun hab=>absurd hab (by decide)) (fun _=>?_)
 dsimp only
 refine wpAny_ite_split (fun _=>?_) (fun hab=>absurd (by decide+kernel) hab)
 refine wpAny_ite_split (fun hab=>absurd hab (by decide+kernel)) (fun _=>?_)
 exact Ai h
theorem Y93{I l S:Addr}{items:Array Value}{res:Value}{R:Result→Shared→Prop}(hh:A.handled=none)(hit:s.heap.IsRevIter I l ((items.size:Int) - 1))(hl:s.heap.IsList l items)(hz:items.size≤sizeLine)(hlI:l≠I)(hSI:S≠I)(hSl:S≠l)(c0:Nat)(hS:s.heap.get? S=some {cls:= .type "list",data:= .seq #[] c0})
  (hR:∀h' tk acc c',ItemsOf (fun i v=>items[items.size - 1 - i]?=some v) acc items.size→(∀b u,b≠S→b≠I→s.heap.get? b=some u→h'.get? b=some u)→h'.get? S=some {cls:= .type "list",dict:=none,data:= .seq acc c',slots:=#[]}→R (.ok (.ret res)) {s with heap:=h',toks:=tk}):
  wpAny (model prog w) A.in1 (Kl (.ref S) (.ref I) res)
   (fun fin s'=>match fin with | .done f=>R (.ok f) s' | .again c'=>c'.quiet=true∧codeAny (model prog w) A c' R s') (fun e s'=>R (.error e) s') s:=by
 have W:=Walks.listRev (prog:=prog) (w:=w) (A:=A.in1) hh I l hlI items
 have nf:S∉[I,l]:=by
  simp only[Ag,Dc,or_false,not_or]
  exact⟨hSI,hSl⟩
 have st0:0≤items.size∧s.heap.IsRevIter I l ((items.size:Int) - 1 - ((0:Nat):Int))∧s.heap.IsList l items:=⟨Nat.zero_le _,by rw[show(items.size:Int) - 1 - ((0:Nat):Int)=(items.size:Int) - 1 by omega];exact hit,hl⟩
 have hT:=hit.typeIs
 unfold Kl
 refine Aa (wpAny_typeOf hT ?_)
 have q1:Builtin.List.listSameRef (.ref S) (.ref I)=false:=by simp[Builtin.List.listSameRef,hSI]
 have q2:(Dm "list_reverseiterator"==Dm "list")=false:=by decide
 have q3:(Dm "list_reverseiterator"==Dm "tuple")=false:=by decide
 simp only[q1,q2,q3,Bool.or_false,Bool.false_eq_true,if_false]
 refine Aa (wpAny_pyIter_revIter hit ?_)
 have key:∀(h2:Heap) (c1 tk:Nat),(0≤items.size∧h2.IsRevIter I l ((items.size:Int) - 1 - ((0:Nat):Int))∧h2.IsList l items)→(∀b u,b≠S→s.heap.get? b=some u→h2.get? b=some u)→h2.get? S=some {cls:= .type "list",data:= .seq #[] c1}→
   codeAny (model prog w) A (.builtin "list.extend.loop" ⟨[.ref S,.ref I,res],[]⟩) R {s with heap:=h2,toks:=tk}:=by
  intro h2 c1 tk st2 k2 g2
  refine codeAny_extend_loopS W.toS hz S nf res items.size 0 _ #[] c1 rfl (Nat.zero_le _) st2 g2 (ItemsOf.nil _) fun s' acc c' mv hS' hacc=>?_
  rw[Moved.eq_with mv]
  refine hR s'.heap s'.toks acc c' hacc (fun b u hb hI e=>mv.heap b u ?_ (k2 b u hb e)) hS'
  intro hm
  rcases Ag.mp hm with z | z
  ·exact hb z
  ·exact hI (An.mp z)
 refine Aa (Hk (Zq8 hT ?_))
 refine wpAny_ite_split (fun _=>?_) fun _=>Ai ⟨plainId_quiet PySem.F.plain_extend_loop _,key _ c0 _ st0 (fun b u _ e=>e) hS⟩
 refine Aa (Md (Aa ?_))
 show wpAny _ _ (updateSeq S (·.push .none) >>=fun _=>updateSeq S (·.pop)) _ _ _
 refine Aa (wpAny_updateSeq hS rfl ?_)
 have g2:=Ii (Kh (·.push Ku)) hS rfl
 refine wpAny_updateSeq (hz:=by seq_fits) g2 rfl ?_
 have g3:=Ii (Kh (·.pop)) g2 rfl
 have far:∀b u,b≠S→s.heap.get? b=some u→((s.heap.update S (Kh (·.push Ku))).update S (Kh (·.pop))).get? b=some u:=fun b u hb e=>(Ki _ _ (Bs hb)).trans ((Ki _ _ (Bs hb)).trans e)
 exact Ai ⟨plainId_quiet PySem.F.plain_extend_loop _,key _ _ _ (W.frame 0 _ _ st0 fun b hb u e=>far b u (fun z=>nf (z ▸ hb)) e) far g3⟩
theorem Zm2{I l S:Addr}{items:Array Value}{R:Result→Shared→Prop}(hh:A.handled=none)(hit:s.heap.IsRevIter I l ((items.size:Int) - 1))(hl:s.heap.IsList l items)(hz:items.size≤sizeLine)(hlI:l≠I)(hSI:S≠I)(hSl:S≠l)(hS:s.heap.get? S=some {cls:= .type "list",data:= .seq #[]})
  (hR:∀h' tk acc c',ItemsOf (fun i v=>items[items.size - 1 - i]?=some v) acc items.size→(∀b u,b≠S→b≠I→s.heap.get? b=some u→h'.get? b=some u)→h'.get? S=some {cls:= .type "list",dict:=none,data:= .seq acc c',slots:=#[]}→R (.ok (.ret .none)) {s with heap:=h',toks:=tk}):
  wpAny (model prog w) A.in1 (Builtin.«list.__init__» ⟨[.ref S,.ref I],[]⟩)
   (fun fin s'=>match fin with | .done f=>R (.ok f) s' | .again c'=>c'.quiet=true∧codeAny (model prog w) A c' R s') (fun e s'=>R (.error e) s') s:=by
 show wpAny _ _ (do let old ←Builtin.List.listItems (.ref S);Builtin.List.listUpdate (.ref S) (fun _=>#[]);letGo old.toList.reverse;Kl (.ref S) (.ref I) .none) _ _ s
 refine Aa ?_
 unfold Builtin.List.listItems
 refine Aa (Ix hS rfl (Ai ?_))
 show wpAny _ _ (updateSeq S (fun _=>#[]) >>=fun _=>letGo (#[]:Array Value).toList.reverse >>=fun _=>Kl (.ref S) (.ref I) .none) _ _ s
 refine Aa (wpAny_updateSeq hS rfl ?_)
 have hS₂:=Ii (Kh (fun _=>(#[]:Array Value))) hS rfl
 have oth:∀b o,b≠S→s.heap.get? b=some o→(s.heap.update S (Kh (fun _=>(#[]:Array Value)))).get? b=some o:=
  fun b o hb e=>(Ki _ _ (Bs hb)).trans e
 refine Aa (wpAny_letGo ?_)
 obtain⟨ol,hol,hol2⟩:=hl
 refine Y93 hh (hit.at fun o e=>oth _ o (Bs hSI) e) ⟨ol,oth _ ol (Bs hSl) hol,hol2⟩ hz hlI hSI hSl _ hS₂ fun h' tk acc c' ha hk hS'=>?_
 exact hR h' tk acc c' ha (fun b o hb hI e=>hk b o hb hI (oth b o hb e)) hS'
theorem Jj{I l:Addr}{items:Array Value}{Q:Value→Shared→Prop}(hh:A.handled=none)(hit:s.heap.IsRevIter I l ((items.size:Int) - 1))(hl:s.heap.IsList l items)(hz:items.size≤sizeLine)(hlI:l≠I)
  (hQ:∀h' tk acc c',ItemsOf (fun i v=>items[items.size - 1 - i]?=some v) acc items.size→(∀b u,b≠I→s.heap.get? b=some u→h'.get? b=some u)→h'.get? s.heap.objs.size=some {cls:= .type "list",dict:=none,data:= .seq acc c',slots:=#[]}→Q (.ref s.heap.objs.size) {s with heap:=h',toks:=tk}):
  wpAny (model prog w) A (call (.type "list") [.ref I]) Q E s:=by
 refine callType_codes (Q₁:=fun obj s₁=>obj= .ref s.heap.objs.size∧s₁={s with heap:=s.heap.push {cls:= .type "list",data:= .seq #[]}}) PySem.F.called_list (PySem.F.typeCall_list_1 _) PySem.F.entry_list_init
  (code_list_new _ ⟨rfl,rfl⟩) fun obj s₁ h₁=>?_
 obtain⟨rfl,rfl⟩:=h₁
 have hS:(s.heap.push {cls:= .type "list",data:= .seq #[]}).get? s.heap.objs.size=some {cls:= .type "list",data:= .seq #[]}:=Aw _ rfl
 obtain⟨oi,hoi,hoi2⟩:=id hit
 obtain⟨ol,hol,hol2⟩:=id hl
 refine⟨⟨_,hS,rfl⟩,PySem.F.args_list_init_2 _ _,Zm2 (A:=A.in1) hh (hit.at fun o e=>Ak _ e) ⟨ol,Ak _ hol,hol2⟩ hz hlI (Nat.ne_of_gt (Al hoi)) (Nat.ne_of_gt (Al hol)) hS (fun h' tk acc c' ha hk hS'=>?_)⟩
 exact⟨rfl,hQ h' tk acc c' ha (fun b o hI e=>hk b o (Nat.ne_of_lt (Al e)) hI (Ak _ e)) hS'⟩
end
end SW
namespace L3
open PySem PySem.Spec PyProof.Rows L2
section
variable{X:Cx}{pins:List (Addr×Obj)}{σ:L2.St}{H:Hp}{s:Shared}
def Z07(m:Nat)(p l:Addr)(n:Nat):Heap→Prop:=fun h=>h.IsRevIter p l ((n:Int) - 1)∧m≤p∧l≠p
noncomputable def del(H:Hp)(p:Addr):Hp:=fun b=>if b=p then none else H b
theorem Zu4{p S:Addr}(I:Inv X pins σ H s)(hp:H p=some (.ext φ))(hm:X.s₀.heap.objs.size≤p)(k:∀b u,b≠p→s.heap.get? b=some u→h'.get? b=some u)(hS:s.heap.objs.size≤S)(new:Yh X.prog X.w (upd (del H p) S o) h' S o):Inv X pins σ (upd (del H p) S o) {s with heap:=h',toks:=t'}:=by
 have ne:∀b,H b=none→b≠p:=fun b e z=>by subst z;rw[hp] at e;cases e
 have nS:H S=none:=I.hok.fresh hS
 have de:∀b o',H b=some o'→b≠p→upd (del H p) S o b=some o':=fun b o' e n=>by
  rw[Zo (fun z=>by subst z;rw[nS] at e;cases e)]
  unfold del;rw[if_neg n];exact e
 refine I.step (g':=s.gens) (d':=s.drawn) (ch:=[p]) ?_ (fun b o _ _ hb e _=>k b o (by simpa using hb) e) (fun b o _ _ hb e _=>⟨o.slots,k b o (by simpa using hb) e⟩) (fun b o hb e n=>?_) (fun b o hb e=>⟨o,k b o (by simpa using hb) e⟩) (fun b xs e=>de b _ e fun z=>by subst z;rw[hp] at e;cases e) (fun b o u e=>de b _ e fun z=>by subst z;rw[hp] at e;cases e) (fun b ps e=>⟨#[],by rw[de b _ e fun z=>by subst z;rw[hp] at e;cases e];simp⟩) ?_ ?_ I.bare
 ·intro b hb
  cases An.mp hb
  exact⟨.inr hm,fun z=>ne _ I.free z.symm,fun x c e z=>ne _ (I.freeC x c e) z,fun q hq z=>ne _ (I.pin q hq).2.1 z⟩
 ·rw[Zo (Nat.ne_of_lt (Nat.lt_of_lt_of_le (Al e) hS))]
  unfold del
  split
  ·rfl
  ·exact n
 ·rintro m ⟨o,es,ep,ho,r⟩
  exact⟨o,es,ep,k _ _ (ne _ I.free) ho,r⟩
 ·intro a o' e
  by_cases ha:a=S
  ·subst ha
   rw[Yt] at e
   cases e
   exact new
  rw[Zo ha] at e
  have ea:a≠p:=fun z=>by subst z;unfold del at e;rw[if_pos rfl] at e;cases e
  have e':H a=some o':=by unfold del at e;rw[if_neg ea] at e;exact e
  refine(I.hok a o' e').stay (fun b u hb q=>k b u (fun z=>?_) q) (fun b hb=>de b _ hb fun z=>?_) fun b xs hb=>de b _ hb fun z=>?_
  ·subst z
   rcases hb with z | z
   ·exact ea z.symm
   ·rw[hp] at z;cases z
  ·subst z;rw[hp] at hb;cases hb
  ·subst z;rw[hp] at hb;cases hb
def rRev(X:Cx):List V→Hp→VK→Prop:=fun xs H Q=>∃l ys,xs=[V.ref l]∧SqL X.K H l ys∧∀p,H p=none→l≠p→Q (.ref p) (upd H p (.ext (Z07 X.s₀.heap.objs.size p l ys.length)))
theorem Zu6:X1 X (.type "reversed") (rRev X):=by
 intro pins s σ H xs us Q I r h
 obtain⟨l,ys,rfl,hl,q⟩:=h
 obtain⟨u,rfl,ru⟩:=Tn r
 cases ru
 obtain⟨its,rv,pl,hz⟩:=I.list hl
 have il:=pl.isList
 have lt:l<s.heap.objs.size:=by obtain⟨o,ho,_⟩:=il;exact Al ho
 have hn:its.toArray.size=ys.length:=by rw[Ah,rv.length]
 refine call_reversed_list il ?_
 have it:(s.heap.push (revObj l ((its.toArray.size:Int) - 1))).IsRevIter s.heap.objs.size l ((ys.length:Int) - 1):=⟨_,Aw _ rfl,rfl,by rw[←hn];rfl⟩
 refine⟨.ref _,_,I.laid (a:=s.heap.objs.size) (o:= .ext (Z07 X.s₀.heap.objs.size s.heap.objs.size l ys.length)) (t':=s.toks) (fun b o e=>Ak _ e) (Nat.le_refl _) ⟨⟨it,I.sz,Nat.ne_of_lt lt⟩,⟨_,Aw _ rfl⟩,fun h1 h2 zz56 k=>by obtain⟨a1,a2⟩:=zz56;exact⟨a1.at k,a2⟩⟩,rfl,q _ (I.hok.fresh (Nat.le_refl _)) (Nat.ne_of_lt lt)⟩
def Ye1(X:Cx):List V→Hp→VK→Prop:=fun xs H Q=>∃p l ys,xs=[V.ref p]∧H p=some (.ext (Z07 X.s₀.heap.objs.size p l ys.length))∧SqL X.K H l ys∧∀S,H S=none→Q (.ref S) (upd (del H p) S (.lst ys.reverse))
theorem Z47(hc:X.calm=true):X1 X (.type "list") (Ye1 X):=by
 intro pins s σ H xs us Q I r h
 obtain⟨p,l,ys,rfl,hp,hl,q⟩:=h
 obtain⟨u,rfl,ru⟩:=Tn r
 cases ru
 obtain⟨⟨it,hm,hlp⟩,_,_⟩:=I.hok p _ hp
 obtain⟨its,rv,pl,hz⟩:=I.list hl
 have hn:its.toArray.size=ys.length:=by rw[Ah,rv.length]
 refine SW.Jj (I.ok.hd hc) (by rw[hn];exact it) pl.isList (by rw[hn];exact hz) hlp fun h' tk acc c ha k g=>?_
 have e:acc=acc.toList.toArray:=by simp
 rw[e] at g
 refine⟨.ref _,_,Zu4 (t':=tk) I hp hm k (Nat.le_refl _) (o:= .lst ys.reverse) ⟨by rw[List.length_reverse];exact hz,acc.toList,c,?_,g⟩,rfl,q _ (I.hok.fresh (Nat.le_refl _))⟩
 have el:acc.toList=its.reverse:=by
  refine List.ext_getElem? fun i=>?_
  by_cases hi:i<its.length
  ·obtain⟨v,hv⟩:∃v,acc.toList[i]?=some v:=⟨_,Ae (by rw[Dn,ha.1];simpa using hi)⟩
   have:=ha.2 i v (by rw[←Array.getElem?_toList];exact hv)
   rw[hv,List.getElem?_reverse hi,←this]
   simp
  ·rw[Ko (by rw[Dn,ha.1];simpa using hi),Ko (by simpa using hi)]
 rw[el]
 exact rv.reverse
end
section
variable{X:Cx}{pins:List (Addr×Obj)}{σ:L2.St}{H:Hp}{s:Shared}
theorem Z58(bs:List Bool):((Hi bs.length).any fun i=>(bs[i]?).getD false)=bs.any id:=by
 rw[Bool.eq_iff_iff,Lb,Lb]
 constructor
 ·rintro⟨i,hi,e⟩
  rw[Hr] at hi
  rw[Ae hi] at e
  exact⟨bs[i],Hg hi,e⟩
 ·rintro⟨b,hb,e⟩
  obtain⟨i,hi,rfl⟩:=List.mem_iff_getElem.mp hb
  exact⟨i,Hr.mpr hi,by rw[Ae hi];exact e⟩
theorem Zl9(hc:X.calm=true):X1 X (.builtin "any") (fun xs H Q=>∃l,∃bs:List Bool,xs=[V.ref l]∧SqL X.K H l (bs.map V.bl)∧Q (.bl (bs.any id)) H):=by
 intro pins s σ H xs us Q I r h
 obtain⟨l,bs,rfl,hl,q⟩:=h
 obtain⟨u,rfl,ru⟩:=Tn r
 cases ru
 obtain⟨its,rv,pl,hz⟩:=I.list hl
 have il:=pl.isList
 have lt:l<s.heap.objs.size:=by obtain⟨o,ho,_⟩:=il;exact Al ho
 have hn:its.length=bs.length:=by rw[←rv.length,Ac]
 refine call_any_walk (Lr il ?_)
 refine⟨s.heap.objs.size,[s.heap.objs.size,l],[s.heap.objs.size],its.toArray.size,_,_,fun i=>(bs[i]?).getD false,rfl,Walks.list (A:=X.A.in1) (I.ok.hd hc) _ l (Nat.ne_of_lt lt) its.toArray,⟨⟨_,Aw _ rfl,rfl,rfl⟩,il.push _⟩,fun i v s' Q' E' hP hQ=>?_,fun h' tk hk=>?_⟩
 ·have hv:its[i]?=some v:=by simpa using hP
  have hi:i<bs.length:=by rw[←hn];exact(Af.mp hv).1
  obtain⟨v',e1,e2⟩:=rv.get (show(bs.map V.bl)[i]?=some (.bl bs[i]) by rw[As,Ae hi];rfl)
  rw[hv] at e1
  cases e1
  cases e2
  dsimp only at hQ
  rw[Ae hi] at hQ
  exact wpAny_truthy_bool hQ
 ·rw[Ah,hn,Z58]
  refine⟨.bl _,H,I.kept (t':=tk) fun b o e=>hk b o (fun hm=>?_) (Ak _ e),rfl,q⟩
  rw[An.mp hm] at e
  exact Nat.lt_irrefl _ (Al e)
theorem Cp:MtM X "list.insert" (fun x vs H Q=>∃l xs,∃i:Nat,∃y,x= .ref l∧vs=[.int i,y]∧H l=some (.lst xs)∧i≤xs.length∧xs.length<sizeLine∧Q .non (upd H l (.lst (xs.take i++y::xs.drop i)))):=by
 intro pins s σ H x vs v us Q I rx rv h
 obtain⟨l,xs,i,y,rfl,rfl,hH,hi,hz,q⟩:=h
 cases rx
 obtain⟨u0,u,rfl,ru0,ru⟩:=rv.two
 obtain⟨t,rfl⟩:∃t,u0=Value.int i t:=ru0
 obtain⟨z,its,n,r,hl,e⟩:=I.lstM hH
 have hf:Builtin.List.listFitsIndex (i:Int)=true:=by
  have hs:=Ka
  exact fitsIndex_both (by omega) (by omega)
 generalize hk:((i:Nat):Int)=k at hf
 refine Kw F.slot_list_insert ⟨_,e,rfl⟩ F.entry_list_insert (F.args_list_insert_3 _ _ _) (PySem.AutoListH.list_insert_list_int_val_1 l its.toArray n k t u (by rw[hf];exact Bf9) (by rw[Ah];omega)) ⟨e,?_⟩
 refine⟨.non,_,I.lset (its':=its.take i++u::its.drop i) hH e ?_ ?_ ?_,rfl,q⟩
 ·have h1:¬(k<0):=by omega
  have h2:min k.toNat its.toArray.size=i:=by rw[Ah];omega
  simp only[h1,if_false,h2]
  simp
  exact Ds (by simp)
 ·exact(r.take i).append (.cons ru (r.drop i))
 ·rw[Ab,Aj,He,Kf]
  omega
theorem Gv{E:Value→Shared→Prop}{it t:Addr}(hne:t≠it):∀(n i:Nat) (s:Shared) (Q:List Value→Shared→Prop),s.heap.IsListIter it t i→s.heap.IsList t items→i+n≤items.size→
  (∀h',h'.IsListIter it t (i+n)→Hd it s.heap h'→Q ((items.toList.drop i).take n) {s with heap:=h'})→wpAny (model prog w) A (draw (.ref it) n) Q E s
 | 0,i,s,Q,hit,_,_,hQ=>by
  show wpAny _ _ (pure []) Q E s
  exact Ai (by simpa using hQ s.heap hit (Hd.refl ..))
 | n+1,i,s,Q,hit,ht,hle,hQ=>by
  have hlt:i<items.size:=by omega
  show wpAny _ _ (pyNext (.ref it) >>=_) Q E s
  refine Aa (wpAny_pyNext_list_item hit ht (x:=items[i]) (by simp[hlt]) fun h₁ hit₁ hs₁=>?_)
  refine Aa (Hk (Gv hne n (i+1) _ _ hit₁ (ht.extBut hs₁.extBut hne) (by omega) fun h₂ hit₂ hs₂=>Ai ?_))
  have hd:items.toList.drop i=items[i]::items.toList.drop (i+1):=by simp[Dl,hlt]
  have:=hQ h₂ (by rw[show i+(n+1)=i+1+n by omega];exact hit₂) (hs₁.trans hs₂)
  rw[hd,List.take_succ_cons] at this
  exact this
theorem Rs{prog:Program}{w:World}{A:Around}{E:Value→Shared→Prop}{s:Shared}{t:Addr}{items:Array Value}{Q:List Value→Shared→Prop}(hh:A.handled=none)(ht:s.heap.IsList t items)
  (hQ:∀h',Heap.ExtBut s.heap.objs.size s.heap h'→Q items.toList {s with heap:=h'}):wpAny (model prog w) A (unpackItems (.ref t) items.size none) Q E s:=by
 have hlt:t≠s.heap.objs.size:=by obtain⟨o,ho,_⟩:=ht;exact Nat.ne_of_lt (Al ho)
 unfold unpackItems
 refine Aa ?_
 ·unfold notIterableAtAll
  refine Aa (wpAny_specialOf ht.typeIs slot_list_iter.lookup ?_)
  refine Ai ?_
  simp only[Bool.false_eq_true,if_false]
  refine Aa (Hk (Lr ht ?_))
  refine Aa (Hk (Gv hlt items.size 0 _ _ ⟨_,Aw _ rfl,rfl,rfl⟩ (ht.push _) (by omega) fun h₁ hit₁ hs₁=>?_))
  have hall:List.take items.size (List.drop 0 items.toList)=items.toList:=by
   rw[List.drop_zero];exact Ds (by simp)
  rw[hall]
  rw[if_neg (by simp)]
  have ht₁:h₁.IsList t items:=(ht.push _).extBut hs₁.extBut hlt
  refine Aa (Hk (wpAny_pyNext_list_end hh hit₁ ht₁ (by simp) fun h₂ he₂=>?_))
  simp only[Option.isSome_none,Bool.false_eq_true,if_false]
  refine Ai (hQ h₂ fun b o hb e=>he₂ b o hb (hs₁.extBut b o hb (Ak _ e)))
noncomputable def gLst(K:Ad)(n:Nat)(t:TGs):TG:=fun v σ H Q=>∃a xs,v= .ref a∧(SqT K H a xs∨SqL K H a xs)∧xs.length=n∧t xs σ H Q
theorem Yg0{es:List Expr}{k:Nat}{pos:Pos}{t:TGs}{n:Nat}(hc:X.calm=true)(h:PGs X es t)
  (hn:(assignEach es X.env).length=n:=by rfl) (hst:(assignEach es X.env).findIdx? (·.1)=none:=by rfl):PG X (.Tuple es k pos) (gLst X.K n t):=by
 intro pins s σ H v u Q I r hw
 obtain⟨a,xs,e1,hq,hl,hw⟩:=hw
 rcases hq with hq | hq
 ·exact Zw4 hc h hn hst pins s σ H v u Q I r ⟨a,xs,e1,hq,hl,hw⟩
 subst e1
 cases r
 obtain⟨its,rv,ht,hz⟩:=I.list hq
 have hsz:its.toArray.size=n:=by rw[Ah,←rv.length];exact hl
 rw[PyProof.Rows.assign_Tuple]
 refine Aa (wpAny_standAt ?_)
 unfold unpack
 rw[hn,hst,←hsz]
 refine Aa (Hk (Rs (I.ok.hd hc) ht.isList fun h' hx=>?_))
 have I1:Inv X pins σ H {s with heap:=h'}:=I.kept (t':=s.toks) fun b o e=>hx b o (Nat.ne_of_lt (Al e)) e
 exact h pins _ σ H xs _ Q I1 (by simpa using rv) hw
theorem Zm5(I:Inv X pins σ H s)(hu:X.A.units+64<cLine)(neg:Bool){p b:Addr}(hp:SqL X.K H p vs)(hb:SqL X.K H b [])(q:Q (.bl (if neg then !vs.isEmpty else vs.isEmpty)) H):
  wpAny (model X.prog X.w) X.A (compareOp (if neg then .NotEq else .Eq) (.ref p) (.ref b)) (EP X pins σ Q) X.xe s:=by
 obtain⟨its,r,pl,_⟩:=I.list hp
 obtain⟨jts,r2,pl2,_⟩:=I.list hb
 have l2:jts=[]:=by cases r2;rfl
 subst l2
 cases vs with
 | nil=>
  cases r
  cases neg with
  | true=>exact SeqAt.RcNeAt.lists (e:=fun _=>true) pl.isList pl2.isList rfl (by omega) (fun j h=>absurd h (Nat.not_lt_zero _)) _ _ _ _ ⟨.bl _,H,I,rfl,q⟩
  | false=>exact SeqAt.RcAt.lists (e:=fun _=>true) pl.isList pl2.isList rfl (by omega) (fun j h=>absurd h (Nat.not_lt_zero _)) _ _ _ _ ⟨.bl _,H,I,rfl,q⟩
 | cons v vs=>
  have hz:(its.toArray.size !=([]:List Value).toArray.size)=true:=by
   cases r
   rfl
  cases neg with
  | true=>exact SeqAt.RcNeAt.lists_lengths pl.isList pl2.isList hz (by omega) _ _ _ _ ⟨.bl _,H,I,rfl,q⟩
  | false=>exact SeqAt.RcAt.lists_lengths pl.isList pl2.isList hz (by omega) _ _ _ _ ⟨.bl _,H,I,rfl,q⟩
theorem Y07(I:Inv X pins σ H s)(hu:X.A.units+64<cLine)(neg:Bool){a b:Addr}(ha:SqT X.K H a vs)(hb:SqT X.K H b ys)(fa:vs.all X7=true)(fb:ys.all X7=true)(q:Q (.bl (if neg then !eqVs vs ys else eqVs vs ys)) H):
  wpAny (model X.prog X.w) X.A (compareOp (if neg then .NotEq else .Eq) (.ref a) (.ref b)) (EP X pins σ Q) X.xe s:=by
 obtain⟨us,ru,ta,_⟩:=I.tuple ha
 obtain⟨ws,rw',tb,_⟩:=I.tuple hb
 have l1:=ru.length
 have l2:=rw'.length
 have he:∀j (h1:j<us.toArray.size) (h2:j<ws.toArray.size),Dq X.A.in1 s us.toArray[j] ws.toArray[j] (eqV (vs.getD j .non) (ys.getD j .non)):=fun j h1 h2=>by
  have j1:j<vs.length:=by rw[Ah] at h1;omega
  have j2:j<ys.length:=by rw[Ah] at h2;omega
  obtain⟨u,e1,r1⟩:=ru.get (Ae j1)
  obtain⟨w,e2,r2⟩:=rw'.get (Ae j2)
  have x1:us.toArray[j]=u:=by have:=(Af.mp e1).2;simpa using this
  have x2:ws.toArray[j]=w:=by have:=(Af.mp e2).2;simpa using this
  rw[x1,x2,Dk,Dk,Ae j1,Ae j2]
  rw[Dj] at fa fb
  exact Bt r1 r2 (fa _ (Hg j1)) (fb _ (Hg j2))
 have hs:((Hi (min us.toArray.size ws.toArray.size)).all (fun j=>eqV (vs.getD j .non) (ys.getD j .non))&&us.toArray.size==ws.toArray.size)=eqVs vs ys:=by
  unfold eqVs
  rw[Ah,Ah,l1,l2]
 cases neg with
 | true=>exact SeqAt.RcNeAt.tuples (e:=fun j=>eqV (vs.getD j .non) (ys.getD j .non)) ta tb (by omega) he _ _ _ _ ⟨.bl _,H,I,rfl,by rw[hs];exact q⟩
 | false=>exact SeqAt.RcAt.tuples (e:=fun j=>eqV (vs.getD j .non) (ys.getD j .non)) ta tb (by omega) he _ _ _ _ ⟨.bl _,H,I,rfl,by rw[hs];exact q⟩
end
end L3
namespace L3
open PySem PySem.Spec PyProof.Rows L2 PySem.Builtin PySem.Builtin.Str
section
variable{X:Cx}{pins:List (Addr×Obj)}{σ:L2.St}{H:Hp}{s:Shared}
theorem Z86:∀l:List (Str×Tok),Vals (l.map fun p=>V.str p.1) (strValues l)
 | []=> .nil
 | p::l=> .cons ⟨p.2,rfl⟩ (Z86 l)
theorem Zj5:∀{xs:List Str} {us:List Value},Vals (xs.map V.str) us→∃l:List (Str×Tok),us=strValues l∧l.map (·.1)=xs
 | [],_,.nil=>⟨[],rfl,rfl⟩
 | x::xs,_,.cons ⟨t,e⟩ r=>by
  obtain⟨l,rfl,h⟩:=Zj5 r
  exact⟨(x,t)::l,by rw[e];rfl,by rw[De,h]⟩
theorem Zq9:MtM X "str.split" (fun x vs H Q=>∃a y,x= .str a∧vs=[.str y]∧(y.length==0)=false∧a.length+2≤sizeLine∧∀p,H p=none→Q (.ref p) (upd H p (.lst ((Km a y).map V.str)))):=by
 intro pins s σ H x vs v us Q I rx rv h
 obtain⟨x,y,rfl,rfl,hy,hz,q⟩:=h
 obtain⟨t,rfl⟩:=rx
 obtain⟨u,rfl,u',rfl⟩:=rv.one
 have hn:(partsBetween x (occurrences x y 0 x.length (x.length+1)) y.length).length≤sizeLine:=by
  have e1:=StrLaws.occ_length_le x y 0 x.length (x.length+1)
  rw[length_partsBetween];omega
 have go:∀(l:List (Str×Tok)) (k:Nat),l.map (·.1)=Km x y→l.length≤sizeLine→EP X pins σ Q (.ref s.heap.objs.size) {s with heap:=s.heap.push {cls:= .type "list",data:= .seq (strValues l).toArray},toks:=k}:=by
  intro l k e hl
  have e2:(Km x y).map V.str=l.map fun p=>V.str p.1:=by rw[←e,Ma];rfl
  refine⟨.ref s.heap.objs.size,_,I.lnew (ys:=(Km x y).map V.str) ?_ ?_,rfl,q _ I.fresh⟩
  ·rw[e2];exact Z86 l
  ·rw[e2,Ac];exact hl
 cases h1:(decide (x.length<y.length) || decide (strKind x<strKind y))
 ·cases hf:(occurrences x y 0 x.length (x.length+1)).isEmpty
  ·refine Kw F.slot_str_split (typeIs_str _ _ _) F.entry_str_split (F.args_str_split_2 _ _) (meets_str_split_sep x y t u' h1 hy hf (by omega) hn) ?_
   show EP X pins σ Q _ {s with toks:=_,heap:=s.heap.push {cls:= .type "list",data:= .seq (strsFrom s.toks (partsBetween x (occurrences x y 0 x.length (x.length+1)) y.length)).toArray}}
   rw[strsFrom_eq]
   have e:=numbered_texts s.toks (partsBetween x (occurrences x y 0 x.length (x.length+1)) y.length)
   refine go (numbered s.toks _) _ (e.trans ((if_neg (ne_true_of_eq_false h1)).trans (if_neg (ne_true_of_eq_false hf))).symm) ?_
   have:=congrArg List.length e
   rw[Ac] at this
   omega
  ·exact Kw F.slot_str_split (typeIs_str _ _ _) F.entry_str_split (F.args_str_split_2 _ _) (meets_str_split_not_found x y t u' h1 hy hf)
    (go [(x,t)] s.toks ((if_neg (ne_true_of_eq_false h1)).trans (if_pos hf)).symm (by have:=Ka;simp;omega))
 ·exact Kw F.slot_str_split (typeIs_str _ _ _) F.entry_str_split (F.args_str_split_2 _ _) (meets_str_split_cannot_occur x y t u' h1)
   (go [(x,t)] s.toks (if_pos h1).symm (by have:=Ka;simp;omega))
theorem Y79:MtM X "str.join" (fun x vs H Q=>∃a l ys,x= .str a∧vs=[.ref l]∧SqL X.K H l (ys.map V.str)∧JoinOk a ys=true∧Q (.str (Dx a ys)) H):=by
 intro pins s σ H x vs v us Q I rx rv h
 obtain⟨x,l,ys,rfl,rfl,hl,hz,q⟩:=h
 obtain⟨t,rfl⟩:=rx
 obtain⟨u,rfl,ru⟩:=rv.one
 cases ru
 obtain⟨its,r,pl,_⟩:=I.list hl
 obtain⟨ls,rfl,e⟩:=Zj5 r
 exact SC.join pl.isList e hz fun t' k=>⟨.str _,H,I.tok _,⟨_,rfl⟩,q⟩
theorem Zf2:MtM X "str.startswith" (fun x vs H Q=>∃a y,x= .str a∧vs=[.str y]∧Q (.bl (Txt.startswith a y)) H):=by
 intro pins s σ H x vs v us Q I rx rv h
 obtain⟨x,y,rfl,rfl,q⟩:=h
 obtain⟨t,rfl⟩:=rx
 obtain⟨u,rfl,u',rfl⟩:=rv.one
 exact SC.startswith ⟨.bl _,H,I,rfl,q⟩
theorem Y85:MtM X "str.endswith" (fun x vs H Q=>∃a y,x= .str a∧vs=[.str y]∧Q (.bl (Txt.endswith a y)) H):=by
 intro pins s σ H x vs v us Q I rx rv h
 obtain⟨x,y,rfl,rfl,q⟩:=h
 obtain⟨t,rfl⟩:=rx
 obtain⟨u,rfl,u',rfl⟩:=rv.one
 exact SC.endswith ⟨.bl _,H,I,rfl,q⟩
theorem Z78(bs:List Bool):((Hi bs.length).all fun i=>(bs[i]?).getD false)=bs.all id:=by
 rw[Bool.eq_iff_iff,Dj,Dj]
 constructor
 ·intro h b hb
  obtain⟨i,hi,rfl⟩:=List.mem_iff_getElem.mp hb
  have:=h i (Hr.mpr hi)
  rw[Ae hi] at this
  exact this
 ·intro h i hi
  rw[Hr] at hi
  rw[Ae hi]
  exact h _ (Hg hi)
theorem Zr5(hc:X.calm=true):X1 X (.builtin "all") (fun xs H Q=>∃l,∃bs:List Bool,xs=[V.ref l]∧SqL X.K H l (bs.map V.bl)∧Q (.bl (bs.all id)) H):=by
 intro pins s σ H xs us Q I r h
 obtain⟨l,bs,rfl,hl,q⟩:=h
 obtain⟨u,rfl,ru⟩:=Tn r
 cases ru
 obtain⟨its,rv,pl,hz⟩:=I.list hl
 have il:=pl.isList
 have lt:l<s.heap.objs.size:=by obtain⟨o,ho,_⟩:=il;exact Al ho
 have hn:its.length=bs.length:=by rw[←rv.length,Ac]
 refine call_all_walk (Lr il ?_)
 refine⟨s.heap.objs.size,[s.heap.objs.size,l],[s.heap.objs.size],its.toArray.size,_,_,fun i=>(bs[i]?).getD false,rfl,Walks.list (A:=X.A.in1) (I.ok.hd hc) _ l (Nat.ne_of_lt lt) its.toArray,⟨⟨_,Aw _ rfl,rfl,rfl⟩,il.push _⟩,fun i v s' Q' E' hP hQ=>?_,fun h' tk hk=>?_⟩
 ·have hv:its[i]?=some v:=by simpa using hP
  have hi:i<bs.length:=by rw[←hn];exact(Af.mp hv).1
  obtain⟨v',e1,e2⟩:=rv.get (show(bs.map V.bl)[i]?=some (.bl bs[i]) by rw[As,Ae hi];rfl)
  rw[hv] at e1
  cases e1
  cases e2
  dsimp only at hQ
  rw[Ae hi] at hQ
  exact wpAny_truthy_bool hQ
 ·rw[Ah,hn,Z78]
  refine⟨.bl _,H,I.kept (t':=tk) fun b o e=>hk b o (fun hm=>?_) (Ak _ e),rfl,q⟩
  rw[An.mp hm] at e
  exact Nat.lt_irrefl _ (Al e)
theorem Zk1:X1 X (.type "int") (fun xs H Q=>∃x n,xs=[V.str x]∧intText? x=some n∧x.length≤640∧Q (.int n) H):=by
 intro pins s σ H xs us Q I r h
 obtain⟨x,n,rfl,e,hl,q⟩:=h
 obtain⟨u,rfl,t,rfl⟩:=Tn r
 exact PySem.W.KIN.call_text e hl ⟨.int _,H,I.tok _,⟨_,rfl⟩,q⟩
theorem Zc9:X1 X (.type "str") (fun xs H Q=>∃x,xs=[V.str x]∧Q (.str x) H):=by
 intro pins s σ H xs us Q I r h
 obtain⟨x,rfl,q⟩:=h
 obtain⟨u,rfl,t,rfl⟩:=Tn r
 exact PySem.P.str_of_str ⟨.str _,H,I,⟨_,rfl⟩,q⟩
noncomputable def Its(x:Str):It:=⟨fun i _=>i<x.length,fun i H v H'=>H'=H∧∃c,x.cps.toList[i]?=some c∧v= .str ⟨#[c]⟩,fun i _=>x.length≤i⟩
theorem Z12{P:Program}{w:World}{K:Ad}{tg:Expr}(it:Addr)(x:Str)(t:Tok)(n:String)
  (hn:["enumerate","zip","dict_itemiterator","dict_reverseitemiterator","odict_iterator","itertools.zip_longest","itertools.pairwise"].contains n=false)
  (W:∀A:Around,A.handled=none→Walks P w A it [it] [it] x.cps.size (SignAt x) (fun i h=>h.IsStrIter it n x t i))
  (hd:∀(A:Around) (i:Nat) (s:Shared) (Q:Option Value→Shared→Prop) (E:Value→Shared→Prop),A.handled=none→s.heap.IsStrIter it n x t i→x.cps[i]?=none→(∀h',Heap.ExtBut it s.heap h'→Q none {s with heap:=h'})→wpAny (model P w) A (pyNext (.ref it)) Q E s)
  (hs:∀(A:Around) (i:Nat) (s:Shared) (Q:Value→Shared→Prop) (E:Value→Shared→Prop),s.heap.IsStrIter it n x t i→Q (.ref it) s→wpAny (model P w) A (pyIter (.ref it)) Q E s):
  Turn P w K tg (Its x) [it] it (fun i h=>h.IsStrIter it n x t i) where
 mem:=by simp
 obj:=fun i h st b hb=>by
  have e:b=it:=by simpa using hb
  subst e
  obtain⟨o,e,c,d⟩:=st
  exact⟨o,e,fun v z=>by rw[d] at z;cases z⟩
 keep:=fun i h h' st k=>by
  obtain⟨o,e,r⟩:=st
  exact⟨o,k it (by simp) o e,r⟩
 item:=by
  intro X hP hw hK hc i pins s σ H E I hf st hg
  subst hP hw hK
  obtain⟨f0,f1,f2,f3,f4,f5⟩:=hf it (by simp)
  refine(W X.A (I.ok.hd hc)).item i s _ _ hg st fun v h' tk hv st' kk=>?_
  obtain⟨c,t',hc',rfl⟩:=hv
  have I1:Inv X pins σ H {s with heap:=h',toks:=tk}:=I.turned (fun b o hb e=>kk b o (by simpa using hb) e) f0 f1 f3 f4 f5
  obtain⟨o,e,c1,d⟩:=id st'
  exact⟨_,rfl,Zp0 (s:={s with heap:=h',toks:=tk}) e c1 d hn ⟨.str ⟨#[c]⟩,H,I1,⟨_,rfl⟩,⟨rfl,c,by simpa using hc',rfl⟩,st',fun b hb=>(hf b hb).1⟩⟩
 done:=by
  intro X hP hw hK hc i pins s σ H E I hf st hg
  subst hP hw hK
  obtain⟨f0,f1,f2,f3,f4,f5⟩:=hf it (by simp)
  have e:x.cps.size≤i:=hg
  exact hd X.A i s _ _ (I.ok.hd hc) st (by simp;omega) fun h' eb=>⟨rfl,I.turned (t':=s.toks) (fun b o hb e=>eb b o hb e) f0 f1 f3 f4 f5⟩
 self:=fun A i s Q E st h=>hs A i s Q E st h
theorem Zn7{a:Str}{t:Tok}(I1:Inv X pins σ H1 s1)(q:R (Its a) H1):wpAny (model X.prog X.w) X.A (pyIter (.str a t)) (PIE X pins σ tg R) X.xe s1:=by
 have fp:∀b∈[s1.heap.objs.size],FpOk X pins H1 b:=fun b hb=>by
  have e:b=s1.heap.objs.size:=by simpa using hb
  subst e
  exact I1.fpOk (Nat.le_refl _) (I1.hok.fresh (Nat.le_refl _))
 cases ha:a.cps.all (· <128)
 ·exact wpAny_pyIter_wide ha ⟨s1.heap.objs.size,[s1.heap.objs.size],_,_,H1,rfl,I1.kept (t':=s1.toks) fun b o e=>Ak _ e,Z12 _ a t "str_iterator" (by decide) (fun A hA=>Walks.strWide hA _ a t) (fun _ _ _ _ _ hh st e q=>wpAny_pyNext_wide_end hh st e q) (fun _ _ _ _ _ st hQ=>wpAny_pyIter_striter_wide st hQ),⟨_,Aw _ rfl,rfl,rfl⟩,fp,q⟩
 ·exact wpAny_pyIter_ascii ha ⟨s1.heap.objs.size,[s1.heap.objs.size],_,_,H1,rfl,I1.kept (t':=s1.toks) fun b o e=>Ak _ e,Z12 _ a t "str_ascii_iterator" (by decide) (fun A hA=>Walks.strAscii hA _ a t) (fun _ _ _ _ _ hh st e q=>wpAny_pyNext_ascii_end hh st e q) (fun _ _ _ _ _ st hQ=>wpAny_pyIter_striter_ascii st hQ),⟨_,Aw _ rfl,rfl,rfl⟩,fp,q⟩
end
end L3
namespace Tt
open PySem PySem.Builtin PySem.Builtin.Str
noncomputable abbrev L(x:Str):List Nat:=x.cps.toList
theorem L_ext{x y:Str}(h:L x=L y):x=y:=by
 cases x;cases y
 exact congrArg Str.mk (Array.toList_inj.mp h)
theorem L_app(a b:Str):L (a++b)=L a++L b:=by
 show(a.cps++b.cps).toList=_
 rw[Array.toList_append]
theorem L_len(x:Str):(L x).length=x.length:=Dn
theorem cut1:∀{p q u v:List Nat},c∉p→c∉q→p++c::u=q++c::v→p=q∧u=v
 | [],[],u,v,_,_,e=>⟨rfl,by simpa using e⟩
 | [],y::q,u,v,_,hq,e=>by
  simp only[Dv,Dp,Lx] at e
  exact absurd (by rw[e.1];exact Ao ..) hq
 | x::p,[],u,v,hp,_,e=>by
  simp only[Dv,Dp,Lx] at e
  exact absurd (by rw[e.1];exact Ao ..) hp
 | x::p,y::q,u,v,hp,hq,e=>by
  simp only[Dp,Lx] at e
  obtain⟨i1,i2⟩:=cut1 (fun z=>hp (Ar _ z)) (fun z=>hq (Ar _ z)) e.2
  exact⟨by rw[e.1,i1],i2⟩
theorem L_join(c:Nat)(x y:Str)(r:List Str):L (Str.join ⟨#[c]⟩ (x::y::r))=L x++c::L (Str.join ⟨#[c]⟩ (y::r)):=by
 show L (x++⟨#[c]⟩++Str.join ⟨#[c]⟩ (y::r))=_
 rw[L_app,L_app,Ay]
 rfl
theorem Ft(c:Nat):∀(ps qs:List Str),ps≠[]→qs≠[]→(∀p∈ps,c∉L p)→(∀p∈qs,c∉L p)→L (Str.join ⟨#[c]⟩ ps)=L (Str.join ⟨#[c]⟩ qs)→ps=qs
 | [],_,h,_,_,_,_=>absurd rfl h
 | _,[],_,h,_,_,_=>absurd rfl h
 | [p],[q],_,_,_,_,e=>by rw[L_ext (x:=p) (y:=q) e]
 | [p],q::q2::qs,_,_,hp,_,e=>by
  rw[L_join] at e
  exact absurd (by show c∈L p;rw[show L p=_ from e];simp) (hp p (Ao ..))
 | p::p2::ps,[q],_,_,_,hq,e=>by
  rw[L_join] at e
  exact absurd (by show c∈L q;rw[show L q=_ from e.symm];simp) (hq q (Ao ..))
 | p::p2::ps,q::q2::qs,_,_,hp,hq,e=>by
  rw[L_join,L_join] at e
  obtain⟨i1,i2⟩:=cut1 (hp p (Ao ..)) (hq q (Ao ..)) e
  rw[L_ext i1,Ft c (p2::ps) (q2::qs) (by simp) (by simp) (fun z hz=>hp z (Ar _ hz)) (fun z hz=>hq z (Ar _ hz)) i2]
theorem Zr9(x y:Str):Km x y≠[]:=by
 unfold Km
 split
 ·simp
 ·split
  ·simp
  ·rw[StrLaws.partsBetween_eq]
   obtain⟨p,r,e⟩:=StrLaws.partsFrom_ne x y.length 0 (occurrences x y 0 x.length (x.length+1))
   rw[e];simp
theorem split_join(hn:ws≠[])(h:∀w∈ws,c∉L w):Km (Dx ⟨#[c]⟩ ws) ⟨#[c]⟩=ws:=by
 refine Ft c _ _ (Zr9 _ _) hn (StrLaws.split_free _ c) h ?_
 rw[StrLaws.join_split]
 show L (glued ⟨#[c]⟩ ws)=_
 rw[StrLaws.glued_eq_join]
theorem in_one(z:Str)(c:Nat):(!(occurrences z ⟨#[c]⟩ 0 z.length 1).isEmpty)=decide (c∈L z):=StrLaws.found_one z c
theorem L_from(x:Str){i:Nat}(h:i≤x.length):L (Ic x (some (i:Int)) none)=(L x).drop i:=by
 rw[PyProof.Rows.slice_from_eq (b:=x.length) (by omega) (by omega) rfl]
 show((x.cps.toList.drop i).take _)=_
 rw[Ds]
 rw[Kf]
 have:=L_len x
 simp only[L] at this
 omega
theorem L_to(x:Str){i:Nat}(h:i≤x.length):L (Ic x none (some (i:Int)))=(L x).take i:=by
 have e:=PyProof.Rows.slice_closes_to (x:=x) (j:=i) ⟨by omega,by have:=L_len x;simp only[L] at this;omega⟩
 rw[Kc e]
 show(x.cps.toList.drop 0).take _=_
 rw[List.drop_zero]
 congr 1
theorem starts_c(x:Str)(c:Nat):Txt.startswith x ⟨#[c]⟩=decide ((L x).head?=some c):=by
 obtain⟨⟨l⟩⟩:=x
 cases l with
 | nil=>rfl
 | cons a r=>
  show(decide (0+1≤(⟨a::r⟩:Array Nat).size)&&(Array.extract ⟨a::r⟩ 0 (0+1)==#[c]))=decide (some a=some c)
  have h1:decide (0+1≤(⟨a::r⟩:Array Nat).size)=true:=by simp
  have h2:Array.extract (⟨a::r⟩:Array Nat) 0 (0+1)=#[a]:=by simp
  rw[h1,h2,Bool.true_and,Bool.eq_iff_iff]
  simp
noncomputable def fig(n:Nat):Str:=Str.ofString (toString (n:Int))
theorem Z46(n:Nat):L (fig n)=(Nat.toDigits 10 n).map Char.toNat:=PySem.W.KIN.signs_num n
theorem fig_digits{n c:Nat}(h:c∈L (fig n)):48≤c∧c≤57:=by
 rw[Z46] at h
 obtain⟨ch,hch,e⟩:=Hf.mp h
 have r:=PyProof.Rows.digit_range (Nat.isDigit_of_mem_toDigits (by decide) (by decide) hch)
 rw[←e]
 exact r
theorem Cg{n:Nat}(h:10≤n):L (fig n)=L (fig (n / 10))++[48+n % 10]:=by
 have hm:n % 10<10:=Nat.mod_lt n (by decide)
 have t:Nat.toDigits 10 (n / 10)++Nat.toDigits 10 (n % 10)=Nat.toDigits 10 (10 * (n / 10)+n % 10):=Nat.toDigits_append_toDigits (by decide) (by omega) hm
 rw[Nat.div_add_mod] at t
 rw[Z46,Z46,←t,Am,Nat.toDigits_of_lt_base hm]
 have:∀d:Nat,d<10→(Nat.digitChar d).toNat=48+d:=by decide
 rw[List.map_singleton,this _ hm]
theorem fig_one{n:Nat}(h:n<10):L (fig n)=[48+n]:=by
 have:∀d:Nat,d<10→(Nat.digitChar d).toNat=48+d:=by decide
 rw[Z46,Nat.toDigits_of_lt_base h,List.map_singleton,this _ h]
theorem fig_len:∀(k n:Nat),n<10 ^ (k+1)→(L (fig n)).length≤k+1
 | 0,n,h=>by rw[fig_one (by simpa using h)];simp
 | k+1,n,h=>by
  rcases Nat.lt_or_ge n 10 with l | l
  ·rw[fig_one l];simp
  ·rw[Cg l,Ab]
   have:n / 10<10 ^ (k+1):=by rw[Nat.pow_succ] at h;omega
   have:=fig_len k _ this
   simp only[Aq]
   omega
theorem fig_head:∀(n:Nat),∃c r,L (fig n)=c::r∧(c=48→r=[]):=by
 intro n
 induction n using Nat.strongRecOn with
 | _ n ih=>
  rcases Nat.lt_or_ge n 10 with l | l
  ·exact⟨_,_,fig_one l,fun _=>rfl⟩
  ·obtain⟨c,r,e,h⟩:=ih (n / 10) (by omega)
   refine⟨c,r++[48+n % 10],by rw[Cg l,e];rfl,fun hc=>?_⟩
   exfalso
   have hr:=h hc
   subst hr hc
   rcases Nat.lt_or_ge (n / 10) 10 with l2 | l2
   ·rw[fig_one l2] at e
    simp only[Lx,and_true] at e
    omega
   ·have:=congrArg List.length e
    rw[Cg l2,Ab] at this
    obtain⟨c',r',e',_⟩:=ih (n / 10 / 10) (by omega)
    rw[e'] at this
    simp at this
theorem fig_reads{n:Nat}(h:n<10 ^ 18):intText? (fig n)=some (n:Int):=by
 have hl:=fig_len 17 n h
 obtain⟨c,r,e,_⟩:=fig_head n
 have e2:=PySem.intText_digits (x:=fig n) (fun c hc=>fig_digits hc) (by show L (fig n)≠[];rw[e];simp) (by rw[←L_len];omega)
 rw[e2]
 show some ((PySem.NumText.digitsVal (L (fig n)):Nat):Int)=_
 rw[Z46,PySem.W.KIN.val_back]
theorem L_neg{n:Nat}(h:0<n):L (Str.ofString (toString (-(n:Int))))=45::L (fig n):=by
 obtain⟨m,rfl⟩:∃m,n=m+1:=⟨n - 1,by omega⟩
 rw[Z46]
 show(Str.ofString (toString (Int.negSucc m))).cps.toList=_
 rw[PyProof.Rows.signs_ofString]
 show(("-"++Nat.repr (m+1)).toList.map Char.toNat)=_
 rw[String.toList_append,Am,Nat.toList_repr]
 rfl
end Tt
namespace L3
open PySem PySem.Spec PyProof.Rows L2
section
variable{X:Cx}
def PFs(X:Cx)(vs:List Expr)(t:Str→L2.St→Hp→(Str→Hp→Prop)→Prop):Prop:=
 ∀(pins:List (Addr×Obj)) (s:Shared) (σ:L2.St) (H:Hp) (out:Str) (Q:Str→Hp→Prop),Inv X pins σ H s→t out σ H Q→
  wpAny (model X.prog X.w) X.A (joinParts out (evalEach vs X.env)) (EP X pins σ fun v H'=>∃x,v= .str x∧Q x H') X.xe s
theorem Yg3:PFs X [] (fun out _ H Q=>out.length≤sizeLine∧Q out H):=by
 intro pins s σ H out Q I h
 exact joinParts_nil ⟨.str out,H,I.tok _,⟨_,rfl⟩,out,rfl,h.2⟩ h.1
theorem Yb8{x:Str}{t:Str→L2.St→Hp→(Str→Hp→Prop)→Prop}(h:PFs X r t):PFs X (.Constant (.str x) j pos::r) (fun out σ H Q=>(out++x).length≤sizeLine∧t (out++x) σ H Q):=by
 intro pins s σ H out Q I hw
 refine joinParts_cons (thn (Zx9 (X:=X) (x:=x) (j:=j) (pos:=pos) pins s σ H (fun v H'=>v= .str x∧H'=H) I ⟨rfl,rfl⟩) fun u s1 zz57=>?_)
 obtain⟨v,H1,I1,r1,e1,e2⟩:=zz57
 subst e1 e2
 obtain⟨tk,rfl⟩:=r1
 exact⟨hw.1,h pins s1 σ H1 (out++x) Q I1 hw.2⟩
theorem Yf3{te:TE}{t:Str→L2.St→Hp→(Str→Hp→Prop)→Prop}(he:PE X e te)(h:PFs X r t):
  PFs X (.FormattedValue e (-1) none pos::r) (fun out σ H Q=>te σ H fun v H1=>(∃i:Int,v= .int i∧i.natAbs.log2<1920∧(out++toString i:Str).length≤sizeLine∧t (out++toString i) σ H1 Q)∨∃y,v= .str y∧y.length≤sizeLine∧(out++y).length≤sizeLine∧t (out++y) σ H1 Q):=by
 intro pins s σ H out Q I hw
 refine joinParts_cons (FormattedValue_plain (thn (he pins s σ H _ I hw) fun u s1 zz58=>?_))
 obtain⟨v,H1,I1,r1,q1⟩:=zz58
 rcases q1 with⟨i,rfl,h1,h2,h3⟩ | ⟨y,rfl,h1,h2,h3⟩
 ·obtain⟨tk,rfl⟩:=r1
  exact formatField_int_small h1 ⟨h2,h pins _ σ H1 _ Q (I1.tok _) h3⟩
 ·obtain⟨tk,rfl⟩:=r1
  exact formatField_str (fun t' k=>⟨h2,h pins _ σ H1 _ Q (I1.tok _) h3⟩) h1
theorem Zz5{t:Str→L2.St→Hp→(Str→Hp→Prop)→Prop}(h:PFs X (v₁::v₂::r) t):PE X (.JoinedStr (v₁::v₂::r) pos) (fun σ H Q=>t Str.empty σ H fun x H'=>Q (.str x) H'):=by
 intro pins s σ H Q I hw
 refine JoinedStr_many (thn (h pins s σ H Str.empty _ I hw) fun u s1 zz59=>?_)
 obtain⟨v,H1,I1,r1,x,e1,q1⟩:=zz59
 subst e1
 exact⟨_,H1,I1,r1,q1⟩
end
section
variable{X:Cx}{pins:List (Addr×Obj)}{σ:L2.St}{H:Hp}{s:Shared}
theorem Zk0:MtM X "str.lstrip" (fun x vs H Q=>∃a y,x= .str a∧vs=[.str y]∧a.length≤sizeLine∧Q (.str (Ll a y)) H):=by
 intro pins s σ H x vs v us Q I rx rv h
 obtain⟨x,y,rfl,rfl,hz,q⟩:=h
 obtain⟨t,rfl⟩:=rx
 obtain⟨u,rfl,u',rfl⟩:=rv.one
 exact SC.lstripChars (fun t' k=>⟨.str _,H,I.tok _,⟨_,rfl⟩,q⟩) hz
theorem Y18{x:Str}{n:Int}{v u:Value}(I:Inv X pins σ H s)(rx:RelV (.str x) v)(ry:RelV (.int n) u)(hok:MulOk x n)(q:Q (.str (Me x n)) H):wpAny (model X.prog X.w) X.A (binaryOp .Mult v u) (EP X pins σ Q) X.xe s:=by
 obtain⟨t,rfl⟩:=rx
 obtain⟨t',rfl⟩:=ry
 exact SB.mul hok fun t' k=>⟨.str _,H,I.tok _,⟨_,rfl⟩,q⟩
theorem Yb5(hu:X.A.units+64<cLine){x y:V}{v u:Value}{d:PyData}(I:Inv X pins σ H s)(rx:RelV x v)(ry:RelV y u)(q1:Rep X.K H d x)(q2:Rep X.K H (.tuple ds) y)(p3:d.canLay0=true)(p4:Kb ds=true)(p5:min (Ly ds) d.depth≤60)(q:Q (.bl (ds.any fun e=>PyData.eqv e d)) H):wpAny (model X.prog X.w) X.A (compareOp .In v u) (EP X pins σ Q) X.xe s:=by
 obtain⟨as,r1⟩:=Rep.reads I d x v q1 rx
 obtain⟨bs,r2⟩:=Rep.reads I (.tuple ds) y u q2 ry
 exact PySem.SeqAt.in_tuple_reads r2 r1 p4 p3 (by omega) ⟨.bl _,H,I,rfl,q⟩
end
end L3
namespace ZT
open PySem PyProof.Rows
structure Nx(P:Program)(w:World)(i l:Addr)(its:Array Value)(St:Nat→Heap→Prop):Prop where
 obj:∀k h,St k h→∃o,h.get? i=some o∧o.cls≠ .type "zip"∧∀v,o.data≠ .cell v
 stay:∀k h h',St k h→(∀b o,b=i∨b=l→h.get? b=some o→h'.get? b=some o)→St k h'
 item:∀{A:Around} {E:Value→Shared→Prop} {s:Shared} {k:Nat} {x:Value} {Q:Value→Shared→Prop},St k s.heap→its[k]?=some x→(∀h',St (k+1) h'→Hd i s.heap h'→Q x {s with heap:=h'})→wpAny (model P w) A (Go (.ref i)) Q E s
 done:∀{A:Around} {E:Value→Shared→Prop} {s:Shared} {k:Nat} {Q:Value→Shared→Prop},A.handled=none→St k s.heap→its[k]?=none→(∀h' e,(∀c o,c≠i→s.heap.get? c=some o→h'.get? c=some o)→(∃o,h'.get? e=some o∧o.cls= .type "StopIteration")→E (.ref e) {s with heap:=h'})→wpAny (model P w) A (Go (.ref i)) Q E s
section
variable{prog:Program}{w:World}{A:Around}{E:Value→Shared→Prop}{s:Shared}
theorem Nx.tuple{i l:Addr}(hne:l≠i)(its:Array Value):Nx prog w i l its (fun k h=>h.IsTupleIter i l k∧h.IsTuple l its) where
 obj:=fun k h zz60=>by obtain⟨⟨o,e,c,d⟩,_⟩:=zz60;exact⟨o,e,by rw[c];decide,fun v z=>by rw[d] at z;cases z⟩
 stay:=fun k h h' zz61 q=>by obtain⟨⟨o,e,r⟩,⟨u,e2,r2⟩⟩:=zz61;exact⟨⟨o,q i o (.inl rfl) e,r⟩,⟨u,q l u (.inr rfl) e2,r2⟩⟩
 item:=by
  rintro A E s k x Q ⟨a,b⟩ hx q
  obtain⟨o,ho,hc,hd⟩:=id a
  obtain⟨ol,hol,hcl,nl,hdl⟩:=id b
  unfold Go
  refine Aa (Im (name:=Str.ofString "__next__") a.typeIs F.slot_tuple_iterator_next (Ky F.slot_tuple_iterator_next a.typeIs F.entry_tuple_iterator_next ?_ (F.args_tuple_iterator_next_1 _)))
  show wpAny _ _ (field (.ref i) 0 >>=_) _ _ s
  refine Aa (Hu ho hd (x:= .ref l) rfl ?_)
  show wpAny _ _ (if (Au l==Ku)=true then _ else _) _ _ s
  rw[if_neg (by exact Bf9)]
  show wpAny _ _ (field (.ref i) 1 >>=_) _ _ s
  refine Aa (Hu ho hd (x:= .int k 0) rfl ?_)
  show wpAny _ _ (seqItems? (.ref l) >>=_) _ _ s
  refine Aa (Ix hol hdl ?_)
  simp only[Kt,hx]
  have sb:=Hd.update s.heap i (Obj.mapFields (·.setIfInBounds 1 (rawInt ((k:Int)+1))))
  refine Aa (wpAny_setField ho hd (by simp) (Ai ⟨x,rfl,Ai (q _ ⟨?_,b.extBut sb.extBut hne⟩ sb)⟩))
  exact⟨_,Ii _ ho (Obj.isFreed_of_fields (Obj.data_mapFields hd _)),(Obj.cls_mapFields ..).trans hc,by rw[Obj.data_mapFields hd];simp[rawInt]⟩
 done:=by
  rintro A E s k Q hh ⟨a,b⟩ hx q
  obtain⟨o,ho,hc,hd⟩:=id a
  obtain⟨ol,hol,hcl,nl,hdl⟩:=id b
  unfold Go
  refine Aa (Im (name:=Str.ofString "__next__") a.typeIs F.slot_tuple_iterator_next (Ky F.slot_tuple_iterator_next a.typeIs F.entry_tuple_iterator_next ?_ (F.args_tuple_iterator_next_1 _)))
  show wpAny _ _ (field (.ref i) 0 >>=_) _ _ s
  refine Aa (Hu ho hd (x:= .ref l) rfl ?_)
  show wpAny _ _ (if (Au l==Ku)=true then _ else _) _ _ s
  rw[if_neg (by exact Bf9)]
  show wpAny _ _ (field (.ref i) 1 >>=_) _ _ s
  refine Aa (Hu ho hd (x:= .int k 0) rfl ?_)
  show wpAny _ _ (seqItems? (.ref l) >>=_) _ _ s
  refine Aa (Ix hol hdl ?_)
  simp only[Kt,hx]
  refine Aa (Md (Aa (wpAny_setField ho hd (by simp) ?_)))
  refine SW.Zo3 (A:=A.in1) hh fun h' e kp he=>q h' e (fun c u hc2 z=>kp c u ((Hd.update ..).extBut c u hc2 z)) he
structure Ap(z TI TO i1 i2 l1 l2:Addr):Prop where
 z1:TI≠z∧TO≠z∧i1≠z∧i2≠z∧l1≠z∧l2≠z
 z2:TI≠TO∧i1≠TO∧i2≠TO∧l1≠TO∧l2≠TO
 z3:TI≠i1∧i2≠i1∧l1≠i1∧l2≠i1
 z4:TI≠i2∧l1≠i2∧l2≠i2
variable{z TI TO i1 i2 l1 l2:Addr}{xs ys:Array Value}{S1 S2:Nat→Heap→Prop}
theorem Jq{T:Addr}{a b x:Value}{k:Nat}{Q:Unit→Shared→Prop}(hT:IsPair s.heap T a b)
  (h:∀h',h'.get? T=some {cls:= .type "tuple",data:= .seq ((#[a,b]:Array Value).setIfInBounds k x)}→Hd T s.heap h'→Q () {s with heap:=h'}):wpAny (model prog w) A (updateSeq T (·.setIfInBounds k x)) Q E s:=wpAny_updateSeq_pair hT h
theorem Yc1{k:Nat}{x y a b:Value}{Q:Value→Shared→Prop}(D:Ap z TI TO i1 i2 l1 l2)(N1:Nx prog w i1 l1 xs S1)(N2:Nx prog w i2 l2 ys S2)
  (hz:IsZip s.heap z TI TO .none) (hI:IsPair s.heap TI (.ref i1) (.ref i2)) (hO:IsPair s.heap TO a b) (h1:S1 k s.heap) (h2:S2 k s.heap) (hx:xs[k]?=some x) (hy:ys[k]?=some y)
  (q:∀h',IsZip h' z TI TO (rawInt s.heap.objs.size)→IsPair h' TO x y→S1 (k+1) h'→S2 (k+1) h'→IsPair h' s.heap.objs.size x y→h'.objs.size=s.heap.objs.size+1→(∀c o,c≠z→c≠TO→c≠i1→c≠i2→s.heap.get? c=some o→h'.get? c=some o)→Q (.ref s.heap.objs.size) {s with heap:=h'}):
  wpAny (model prog w) A (Builtin.«zip.__next__» ⟨[.ref z],[]⟩) (fun fin s'=>∃v,fin= .done (.ret v)∧Q v s') E s:=by
 obtain⟨⟨d1,d2,d3,d4,d5,d6⟩,⟨e1,e2,e3,e4,e5⟩,⟨f1,f2,f3,f4⟩,g1,g2,g3⟩:=D
 show wpAny _ _ (field (.ref z) 2 >>=_) _ _ _
 refine Aa (Hu (x:= .bool false) hz rfl rfl ?_)
 show wpAny _ _ (field (.ref z) 3 >>=_) _ _ _
 refine Aa (Hu (x:= .ref TI) hz rfl rfl (Aa (Ix hI rfl ?_)))
 show wpAny _ _ (Il (.ref z) >>=_) _ _ _
 refine Aa ?_
 unfold Il
 refine Aa (Hu (x:= .none) hz rfl rfl (Ai ?_))
 simp only[if_true]
 refine Aa (Md (Aa (Hu (x:= .ref TO) hz rfl rfl (Aa (Lm hz (by simp) fun ha za sa=>?_)))))
 replace za:IsZip ha z TI TO .ellipsis:=za
 refine Aa ?_
 simp only[List.zipIdx_cons,List.zipIdx_nil,List.forIn_cons,List.forIn_nil]
 refine Aa (Aa (wpAny_onRaise ?_))
 show wpAny _ _ (Go (.ref i1) >>=_) _ _ _
 have h1a:S1 k ha:=N1.stay _ _ _ h1 fun c o hc e=>sa.extBut c o (by rcases hc with rfl | rfl<;>assumption) e
 have h2a:S2 k ha:=N2.stay _ _ _ h2 fun c o hc e=>sa.extBut c o (by rcases hc with rfl | rfl<;>assumption) e
 refine Aa (N1.item h1a hx fun hb h1b sb=>Ai ?_)
 have Ob:IsPair hb TO a b:=sb.extBut _ _ (Bs e2) (sa.extBut _ _ d2 hO)
 have h2b:S2 k hb:=N2.stay _ _ _ h2a fun c o hc e=>sb.extBut c o (by rcases hc with rfl | rfl<;>assumption) e
 refine Aa (Ix Ob rfl (Aa (Jq Ob fun hc Oc sc=>?_)))
 replace Oc:IsPair hc TO x b:=Oc
 refine Aa (wpAny_letGo (Ai ?_))
 refine Aa (Aa (wpAny_onRaise ?_))
 show wpAny _ _ (Go (.ref i2) >>=_) _ _ _
 have h2c:S2 k hc:=N2.stay _ _ _ h2b fun c o hc e=>sc.extBut c o (by rcases hc with rfl | rfl<;>assumption) e
 have h1c:S1 (k+1) hc:=N1.stay _ _ _ h1b fun c o hc e=>sc.extBut c o (by rcases hc with rfl | rfl<;>assumption) e
 refine Aa (N2.item h2c hy fun hd h2d sd=>Ai ?_)
 have Od:IsPair hd TO x b:=sd.extBut _ _ (Bs e3) Oc
 have h1d:S1 (k+1) hd:=N1.stay _ _ _ h1c fun c o hc e=>sd.extBut c o (by rcases hc with rfl | rfl;exact Bs f2;assumption) e
 refine Aa (Ix Od rfl (Aa (Jq Od fun he Oe se=>?_)))
 replace Oe:IsPair he TO x y:=Oe
 refine Aa (wpAny_letGo (Ai (Ai ?_)))
 refine Aa (Ix Oe rfl (Aa (wpAny_newTuple ?_)))
 have h1e:S1 (k+1) he:=N1.stay _ _ _ h1d fun c o hc e=>se.extBut c o (by rcases hc with rfl | rfl<;>assumption) e
 have h2e:S2 (k+1) he:=N2.stay _ _ _ h2d fun c o hc e=>se.extBut c o (by rcases hc with rfl | rfl<;>assumption) e
 have sz:he.objs.size=s.heap.objs.size:=by rw[se.1,sd.1,sc.1,sb.1,sa.1]
 have ze:IsZip he z TI TO .ellipsis:=se.extBut _ _ (Bs d2) (sd.extBut _ _ (Bs d4) (sc.extBut _ _ (Bs d2) (sb.extBut _ _ (Bs d3) za)))
 have ke:∀c o,c≠z→c≠TO→c≠i1→c≠i2→s.heap.get? c=some o→he.get? c=some o:=fun c o c1 c2 c3 c4 e=>
  se.extBut _ _ c2 (sd.extBut _ _ c4 (sc.extBut _ _ c2 (sb.extBut _ _ c3 (sa.extBut _ _ c1 e))))
 have lz:z<he.objs.size:=Al ze
 show wpAny _ _ (Builtin.SmallTypes.ownedTupleHandOut (.ref z) (.ref he.objs.size) >>=_) _ _ _
 refine Aa ?_
 unfold Builtin.SmallTypes.ownedTupleHandOut
 have zf:IsZip (he.push {cls:= .type "tuple",data:= .seq #[x,y]}) z TI TO .ellipsis:=Ak _ ze
 refine Aa (Lm zf (by simp) fun hg zg sg=>?_)
 replace zg:IsZip hg z TI TO (rawInt he.objs.size):=zg
 refine Lm zg (by simp) fun hh zh sh=>?_
 replace zh:IsZip hh z TI TO (rawInt he.objs.size):=zh
 have up:∀c o,c≠z→he.get? c=some o→hh.get? c=some o:=fun c o c1 e=>sh.extBut _ _ c1 (sg.extBut _ _ c1 (Ak _ e))
 have Th:IsPair hh he.objs.size x y:=sh.extBut _ _ (Nat.ne_of_gt lz) (sg.extBut _ _ (Nat.ne_of_gt lz) (Aw _ rfl))
 have zs:hh.objs.size=he.objs.size+1:=by rw[sh.1,sg.1,Hs]
 rw[sz] at zh Th zs
 refine Ai ⟨_,rfl,?_⟩
 show Q (.ref he.objs.size) _
 rw[sz]
 exact q hh zh (up _ _ d2 Oe) (N1.stay _ _ _ h1e fun c o hc e=>up c o (by rcases hc with rfl | rfl<;>assumption) e) (N2.stay _ _ _ h2e fun c o hc e=>up c o (by rcases hc with rfl | rfl<;>assumption) e) Th zs fun c o c1 c2 c3 c4 e=>up c o c1 (ke c o c1 c2 c3 c4 e)
theorem Yo1{k:Nat}{a b:Value}{Q:Fin→Shared→Prop}(hh:A.handled=none)(D:Ap z TI TO i1 i2 l1 l2)(N1:Nx prog w i1 l1 xs S1)(N2:Nx prog w i2 l2 ys S2)
  (hz:IsZip s.heap z TI TO .none) (hI:IsPair s.heap TI (.ref i1) (.ref i2)) (hO:IsPair s.heap TO a b) (h1:S1 k s.heap) (h2:S2 k s.heap) (hend:xs[k]?=none∨ys[k]?=none)
  (q:∀h' e,(∀c o,c≠z→c≠TO→c≠i1→c≠i2→s.heap.get? c=some o→h'.get? c=some o)→(∃o,h'.get? e=some o∧o.cls= .type "StopIteration")→E (.ref e) {s with heap:=h'}):
  wpAny (model prog w) A (Builtin.«zip.__next__» ⟨[.ref z],[]⟩) Q E s:=by
 obtain⟨⟨d1,d2,d3,d4,d5,d6⟩,⟨e1,e2,e3,e4,e5⟩,⟨f1,f2,f3,f4⟩,g1,g2,g3⟩:=D
 show wpAny _ _ (field (.ref z) 2 >>=_) _ _ _
 refine Aa (Hu (x:= .bool false) hz rfl rfl ?_)
 show wpAny _ _ (field (.ref z) 3 >>=_) _ _ _
 refine Aa (Hu (x:= .ref TI) hz rfl rfl (Aa (Ix hI rfl ?_)))
 show wpAny _ _ (Il (.ref z) >>=_) _ _ _
 refine Aa ?_
 unfold Il
 refine Aa (Hu (x:= .none) hz rfl rfl (Ai ?_))
 simp only[if_true]
 refine Aa (Md (Aa (Hu (x:= .ref TO) hz rfl rfl (Aa (Lm hz (by simp) fun ha za sa=>?_)))))
 replace za:IsZip ha z TI TO .ellipsis:=za
 refine Aa ?_
 simp only[List.zipIdx_cons,List.zipIdx_nil,List.forIn_cons,List.forIn_nil]
 refine Aa (Aa (wpAny_onRaise ?_))
 show wpAny _ _ (Go (.ref i1) >>=_) _ _ _
 have h1a:S1 k ha:=N1.stay _ _ _ h1 fun c o hc e=>sa.extBut c o (by rcases hc with rfl | rfl<;>assumption) e
 have h2a:S2 k ha:=N2.stay _ _ _ h2 fun c o hc e=>sa.extBut c o (by rcases hc with rfl | rfl<;>assumption) e
 have fin:∀(h2:Heap) (e:Addr),IsZip h2 z TI TO .ellipsis→(∀c o,c≠z→c≠TO→c≠i1→c≠i2→s.heap.get? c=some o→h2.get? c=some o)→(∃o,h2.get? e=some o∧o.cls= .type "StopIteration")→wpAny (model prog w) A (setField (.ref z) 0 .none) (fun _ s'=>E (.ref e) s') E {s with heap:=h2}:=by
  rintro h2 e zz kp ⟨o,ho,hc⟩
  refine Lm zz (by simp) fun h3 _ s3=>q h3 e (fun c o c1 c2 c3 c4 x=>s3.extBut _ _ c1 (kp c o c1 c2 c3 c4 x)) ⟨o,s3.extBut _ _ ?_ ho,hc⟩
  rintro rfl
  rw[zz] at ho
  cases ho
  exact absurd (show Dm "zip"=Dm "StopIteration" from hc) (by decide)
 cases hx:xs[k]? with
 | none=>
  refine Aa (N1.done (s:={s with heap:=ha}) hh h1a hx fun hb e kb he=>?_)
  exact fin hb e (kb _ _ (Bs d3) za) (fun c o c1 _ c3 _ x=>kb _ _ c3 (sa.extBut _ _ c1 x)) he
 | some x=>
  have hy:ys[k]?=none:=hend.resolve_left (by rw[hx];intro z;cases z)
  refine Aa (N1.item (s:={s with heap:=ha}) h1a hx fun hb h1b sb=>Ai ?_)
  have Ob:IsPair hb TO a b:=sb.extBut _ _ (Bs e2) (sa.extBut _ _ d2 hO)
  have h2b:S2 k hb:=N2.stay _ _ _ h2a fun c o hc e=>sb.extBut c o (by rcases hc with rfl | rfl<;>assumption) e
  refine Aa (Ix Ob rfl (Aa (Jq Ob fun hc Oc sc=>?_)))
  refine Aa (wpAny_letGo (Ai ?_))
  refine Aa (Aa (wpAny_onRaise ?_))
  show wpAny _ _ (Go (.ref i2) >>=_) _ _ _
  have h2c:S2 k hc:=N2.stay _ _ _ h2b fun c o hc e=>sc.extBut c o (by rcases hc with rfl | rfl<;>assumption) e
  have zc:IsZip hc z TI TO .ellipsis:=sc.extBut _ _ (Bs d2) (sb.extBut _ _ (Bs d3) za)
  refine Aa (N2.done (s:={s with heap:=hc}) hh h2c hy fun hd e kd he=>?_)
  exact fin hd e (kd _ _ (Bs d4) zc) (fun c o c1 c2 c3 c4 x=>kd _ _ c4 (sc.extBut _ _ c2 (sb.extBut _ _ c3 (sa.extBut _ _ c1 x)))) he
end
noncomputable abbrev zh1(h:Heap)(t:Addr):Heap:=h.push {cls:= .type "tuple_iterator",data:= .fields #[.ref t,.int 0 0]}
noncomputable abbrev zh2(h:Heap)(t l:Addr):Heap:=(zh1 h t).push {cls:= .type "tuple_iterator",data:= .fields #[.ref l,.int 0 0]}
noncomputable abbrev zh3(h:Heap)(t l:Addr):Heap:=(zh2 h t l).push {cls:= .type "tuple",data:= .seq #[.ref h.objs.size,.ref (zh1 h t).objs.size]}
noncomputable abbrev zh4(h:Heap)(t l:Addr):Heap:=(zh3 h t l).push {cls:= .type "tuple",data:= .seq #[.none,.none]}
noncomputable abbrev zh5(h:Heap)(t l:Addr):Heap:=(zh4 h t l).push {cls:= .type "zip",data:= .fields #[.none,.bool false,.bool false,.ref (zh2 h t l).objs.size,.ref (zh3 h t l).objs.size]}
theorem Yg4(t l:Addr)(xs ys:Array Value):Meets (Builtin.«zip.__new__» ⟨[.type "zip",.ref t,.ref l],[]⟩) (fun _ R s=>s.heap.IsTuple t xs∧s.heap.IsTuple l ys∧R (.ok (.ret (.ref (zh4 s.heap t l).objs.size))) {s with heap:=zh5 s.heap t l}):=
 .of_wp fun prog w A R s h=>by
  obtain⟨hp,g,d,tk,os⟩:=s
  obtain⟨ht,hl,h⟩:=h
  have sub0:=sub_zip
  have hT:Heap.IsTuple (Shared.heap ⟨hp,g,d,tk,os⟩) t xs:=ht
  have hL:Heap.IsTuple (Shared.heap ⟨hp.push {cls:= .type "tuple_iterator",data:= .fields #[.ref t,.int 0 0]},g,d,tk,os⟩) l ys:=Heap.IsTuple.push hl _
  wp_walk using wpAny_pyIter_tuple hT,wpAny_pyIter_tuple hL
  exact⟨_,rfl,h⟩
section
variable{prog:Program}{w:World}{A:Around}{E:Value→Shared→Prop}{s:Shared}
theorem zt_call{t l:Addr}{xs ys:Array Value}{Q:Value→Shared→Prop}(ht:s.heap.IsTuple t xs)(hl:s.heap.IsTuple l ys)
  (h:∀h',IsZip h' (s.heap.objs.size+4) (s.heap.objs.size+2) (s.heap.objs.size+3) .none→IsPair h' (s.heap.objs.size+2) (.ref s.heap.objs.size) (.ref (s.heap.objs.size+1))→IsPair h' (s.heap.objs.size+3) .none .none→
   h'.IsTupleIter s.heap.objs.size t 0→h'.IsTupleIter (s.heap.objs.size+1) l 0→(∀c o,s.heap.get? c=some o→h'.get? c=some o)→Q (.ref (s.heap.objs.size+4)) {s with heap:=h'}):
  wpAny (model prog w) A (call (.type "zip") [.ref t,.ref l]) Q E s:=by
 refine callType_new F.called_zip (by decide) (F.typeCall_zip_2 _ _) (F.newCall_zip_2 _ _) (fun obj=>F.args_object_init_3 obj _ _) F.entry_zip_new (Yg4 t l xs ys) ⟨ht,hl,?_⟩
 have z1:(zh1 s.heap t).objs.size=s.heap.objs.size+1:=Hs ..
 have z2:(zh2 s.heap t l).objs.size=s.heap.objs.size+2:=by rw[Hs,z1]
 have z3:(zh3 s.heap t l).objs.size=s.heap.objs.size+3:=by rw[Hs,z2]
 have z4:(zh4 s.heap t l).objs.size=s.heap.objs.size+4:=by rw[Hs,z3]
 have up:∀{h:Heap} {o:Obj} {c:Addr} {u:Obj},h.get? c=some u→(h.push o).get? c=some u:=fun e=>Ak _ e
 have g5:(zh5 s.heap t l).get? (zh4 s.heap t l).objs.size=some _:=Aw _ rfl
 have g4:(zh5 s.heap t l).get? (zh3 s.heap t l).objs.size=some _:=up (Aw _ rfl)
 have g3:(zh5 s.heap t l).get? (zh2 s.heap t l).objs.size=some _:=up (up (Aw _ rfl))
 have g2:(zh5 s.heap t l).get? (zh1 s.heap t).objs.size=some _:=up (up (up (Aw _ rfl)))
 have g1:(zh5 s.heap t l).get? s.heap.objs.size=some _:=up (up (up (up (Aw _ rfl))))
 show _∧_
 rw[z2,z3,z4] at g5
 rw[z1,z2] at g3
 rw[z3] at g4
 rw[z1] at g2
 rw[z4]
 exact⟨⟨_,g5,rfl⟩,h _ g5 g3 g4 ⟨_,g1,rfl,rfl⟩ ⟨_,g2,rfl,rfl⟩ fun c o e=>up (up (up (up (up e))))⟩
variable{z TI TO i1 i2 l1 l2:Addr}{xs ys:Array Value}{S1 S2:Nat→Heap→Prop}
theorem zn_item{k:Nat}{x y a b:Value}{Q:Option Value→Shared→Prop}(D:Ap z TI TO i1 i2 l1 l2)(N1:Nx prog w i1 l1 xs S1)(N2:Nx prog w i2 l2 ys S2)
  (hz:IsZip s.heap z TI TO .none) (hI:IsPair s.heap TI (.ref i1) (.ref i2)) (hO:IsPair s.heap TO a b) (h1:S1 k s.heap) (h2:S2 k s.heap) (hx:xs[k]?=some x) (hy:ys[k]?=some y)
  (q:∀h',IsZip h' z TI TO (rawInt s.heap.objs.size)→IsPair h' TO x y→S1 (k+1) h'→S2 (k+1) h'→IsPair h' s.heap.objs.size x y→h'.objs.size=s.heap.objs.size+1→(∀c o,c≠z→c≠TO→c≠i1→c≠i2→s.heap.get? c=some o→h'.get? c=some o)→Q (some (.ref s.heap.objs.size)) {s with heap:=h'}):
  wpAny (model prog w) A (pyNext (.ref z)) Q E s:=by
 have hT:s.TypeIs (.ref z) "zip":=⟨_,hz,rfl⟩
 unfold pyNext
 exact Aa (wpAny_attempt (Im (name:=Str.ofString "__next__") hT F.slot_zip_next (Ky F.slot_zip_next hT F.entry_zip_next (Yc1 D N1 N2 hz hI hO h1 h2 hx hy fun h' a1 a2 a3 a4 a5 a6 a7=>Ai (q h' a1 a2 a3 a4 a5 a6 a7)) (F.args_zip_next_1 _))))
theorem zn_end{k:Nat}{a b:Value}{Q:Option Value→Shared→Prop}(hh:A.handled=none)(D:Ap z TI TO i1 i2 l1 l2)(N1:Nx prog w i1 l1 xs S1)(N2:Nx prog w i2 l2 ys S2)
  (hz:IsZip s.heap z TI TO .none) (hI:IsPair s.heap TI (.ref i1) (.ref i2)) (hO:IsPair s.heap TO a b) (h1:S1 k s.heap) (h2:S2 k s.heap) (hend:xs[k]?=none∨ys[k]?=none)
  (q:∀h',(∀c o,c≠z→c≠TO→c≠i1→c≠i2→s.heap.get? c=some o→h'.get? c=some o)→Q none {s with heap:=h'}):wpAny (model prog w) A (pyNext (.ref z)) Q E s:=by
 have hT:s.TypeIs (.ref z) "zip":=⟨_,hz,rfl⟩
 unfold pyNext
 refine Aa (wpAny_attempt (Im (name:=Str.ofString "__next__") hT F.slot_zip_next (Ky F.slot_zip_next hT F.entry_zip_next (Yo1 (A:=A.in1) hh D N1 N2 hz hI hO h1 h2 hend fun h' e hk he=>?_) (F.args_zip_next_1 _))))
 obtain⟨o,ho,hc⟩:=he
 exact Aa (wpAny_isInstance (T:="StopIteration") (b:=true) ⟨o,ho,hc⟩ isSubtype_stop (Ai (q _ hk)))
end
end ZT
namespace L3
open PySem PySem.Spec PyProof.Rows L2
section
variable{X:Cx}
noncomputable def Itzt(K:Ad)(a b:Addr)(xs ys:List V):It:=
 ⟨fun i H=>∃x y,SqT K H a xs∧SqT K H b ys∧xs[i]?=some x∧ys[i]?=some y,
  fun i H x H'=>∃p u v,H p=none∧H'=upd H p (.tup [u,v])∧x= .ref p∧xs[i]?=some u∧ys[i]?=some v,
  fun i H=>SqT K H a xs∧SqT K H b ys∧(xs.length≤i∨ys.length≤i)⟩
theorem Z90{P:Program}{w:World}{K:Ad}{elts:List Expr}{x1:Nat}{tp:Pos}{z TI TO i1 i2 a b:Addr}{xs ys:List V}(D:ZT.Ap z TI TO i1 i2 a b):
  Turn P w K (.Tuple elts x1 tp) (Itzt K a b xs ys) [z,TI,TO,i1,i2] z (fun i h=>IsZip h z TI TO .none∧IsPair h TI (.ref i1) (.ref i2)∧(∃u v,IsPair h TO u v)∧h.IsTupleIter i1 a i∧h.IsTupleIter i2 b i) where
 mem:=by simp
 obj:=by
  rintro i h ⟨hz,hTI,⟨u,v,hTO⟩,⟨o1,e1,_,d1⟩,⟨o2,e2,_,d2⟩⟩ c hc
  simp only[Ag,Dc,or_false] at hc
  rcases hc with rfl | rfl | rfl | rfl | rfl
  ·exact⟨_,hz,fun v q=>by cases q⟩
  ·exact⟨_,hTI,fun v q=>by cases q⟩
  ·exact⟨_,hTO,fun v q=>by cases q⟩
  ·exact⟨_,e1,fun v q=>by rw[d1] at q;cases q⟩
  ·exact⟨_,e2,fun v q=>by rw[d2] at q;cases q⟩
 keep:=by
  rintro i h h' ⟨hz,hTI,⟨u,v,hTO⟩,⟨o,e,r⟩,⟨o2,e2,r2⟩⟩ k
  exact⟨k z (by simp) _ hz,k TI (by simp) _ hTI,⟨u,v,k TO (by simp) _ hTO⟩,⟨o,k i1 (by simp) _ e,r⟩,⟨o2,k i2 (by simp) _ e2,r2⟩⟩
 item:=by
  rintro X rfl rfl rfl hc i pins s σ H E I hf ⟨hz,hTI,⟨u0,v0,hTO⟩,h1,h2⟩ ⟨x,y,hq,hr,hx,hy⟩
  obtain⟨its,rv,p,_⟩:=I.tuple hq
  obtain⟨jts,rw2,p2,_⟩:=I.tuple hr
  obtain⟨u,hu,ru⟩:=rv.get hx
  obtain⟨v,hv,rv2⟩:=rw2.get hy
  have lt:∀c∈[z,TI,TO,i1,i2],@LT.lt Nat _ c s.heap.objs.size:=by
   intro c hc
   simp only[Ag,Dc,or_false] at hc
   obtain⟨o1,e1,_⟩:=id h1
   obtain⟨o2,e2,_⟩:=id h2
   rcases hc with rfl | rfl | rfl | rfl | rfl
   ·exact Al hz
   ·exact Al hTI
   ·exact Al hTO
   ·exact Al e1
   ·exact Al e2
  refine ZT.zn_item D (ZT.Nx.tuple D.z3.2.2.1 its.toArray) (ZT.Nx.tuple D.z4.2.2 jts.toArray) hz hTI hTO ⟨h1,p⟩ ⟨h2,p2⟩ (x:=u) (y:=v) (by simpa using hu) (by simpa using hv) fun hh ho hTO2 g1 g2 hT hsz hk=>?_
  refine⟨_,rfl,wpAny_letOwnedTupleGo_zip ho fun h3 hz3 hs3=>?_⟩
  replace hs3:Hd z hh h3:=hs3
  obtain⟨⟨a1,a2,a3,a4,a5,a6⟩,⟨b1,b2,b3,b4,b5⟩,⟨c1,c2,c3,c4⟩,e1,e2,e3⟩:=D
  have nz:s.heap.objs.size≠z:=Nat.ne_of_gt (lt z (by simp))
  have hT3:h3.get? s.heap.objs.size=some {cls:= .type "tuple",data:= .seq #[u,v]}:=(hs3.2 _ nz).trans hT
  have hn:H s.heap.objs.size=none:=I.hok.fresh (Nat.le_refl _)
  have I1:Inv X pins σ (upd H s.heap.objs.size (.tup [x,y])) {s with heap:=s.heap.push {cls:= .type "tuple",data:= .seq #[u,v]},toks:=s.toks}:=
   I.laid (fun b ob q=>Ak _ q) (Nat.le_refl _) ⟨show 2≤sizeLine by rw[Ka];omega,[u,v],.cons ru (.cons rv2 .nil),⟨_,Aw _ rfl,rfl,_,rfl⟩⟩
  have up:∀c∈[z,TI,TO,i1,i2],FpOk X pins (upd H s.heap.objs.size (.tup [x,y])) c:=by
   intro c hc
   refine⟨?_,(hf c hc).2⟩
   rw[Zo (Nat.ne_of_lt (lt c hc))]
   exact(hf c hc).1
  have I2:=Jc (h':=h3) (t':=s.toks) I1 (fun c o hc e'=>by
   simp only[Ag,Dc,or_false,not_or] at hc
   rcases N3 e' with q | q
   ·exact(hs3.2 c hc.1).trans (hk c o hc.1 hc.2.2.1 hc.2.2.2.1 hc.2.2.2.2 q)
   ·subst q
    have z2:(s.heap.push {cls:= .type "tuple",data:= .seq #[u,v]}).get? s.heap.objs.size=some o:=e'
    rw[Aw _ rfl] at z2
    cases z2
    exact hT3) up
  obtain⟨q1,q2,q3⟩:=g1.1
  obtain⟨q4,q5,q6⟩:=g2.1
  refine⟨.ref s.heap.objs.size,_,I2,rfl,⟨_,x,y,hn,rfl,rfl,hx,hy⟩,
   ⟨hz3,(hs3.2 TI a1).trans (hk TI _ a1 b1 c1 e1 hTI),⟨_,_,(hs3.2 TO a2).trans hTO2⟩,⟨q1,(hs3.2 i1 a3).trans q2,q3⟩,⟨q4,(hs3.2 i2 a4).trans q5,q6⟩⟩,fun c hc=>(up c hc).1⟩
 done:=by
  rintro X rfl rfl rfl hc i pins s σ H E I hf ⟨hz,hTI,⟨u0,v0,hTO⟩,h1,h2⟩ ⟨hq,hr,hl⟩
  obtain⟨its,rv,p,_⟩:=I.tuple hq
  obtain⟨jts,rw2,p2,_⟩:=I.tuple hr
  have l1:=rv.length
  have l2:=rw2.length
  refine ZT.zn_end (I.ok.hd hc) D (ZT.Nx.tuple D.z3.2.2.1 its.toArray) (ZT.Nx.tuple D.z4.2.2 jts.toArray) hz hTI hTO ⟨h1,p⟩ ⟨h2,p2⟩ ?_ fun h' eb=>⟨rfl,Jc (t':=s.toks) I (ch:=[z,TI,TO,i1,i2]) (fun c o hc e=>?_) hf⟩
  ·rcases hl with hl | hl
   ·exact .inl (by simp;omega)
   ·exact .inr (by simp;omega)
  ·simp only[Ag,Dc,or_false,not_or] at hc
   exact eb c o hc.1 hc.2.2.1 hc.2.2.2.1 hc.2.2.2.2 e
 self:=by
  rintro A i s Q E ⟨hz,_⟩ h
  exact wpAny_pyIter_zip hz h
def Ym9(K:Ad)(ta:TA):TI:=fun σ H R=>ta σ H fun vs H1=>(∃a b,vs=[V.ref a,V.ref b]∧(∃xs,SqL K H1 a xs)∧(∃ys,SqL K H1 b ys)∧R (Itz K a b) H1)∨(∃a b xs ys,vs=[V.ref a,V.ref b]∧SqT K H1 a xs∧SqT K H1 b ys∧R (Itzt K a b xs ys) H1)
theorem Y75{elts:List Expr}{x1:Nat}{tp:Pos}{l:Expr}{ls:List Expr}{ta:TA}{p pos:Pos}(hg:Gl X "zip")(hm:X.mg "zip"=none)(ha:PA X (l::ls) ta)(he:starEach (l::ls) X.env=(false,eval l X.env)::starEach ls X.env)(hpl:(backTo pos (starEach ls X.env)).any (·.1)=false):
  PI X (.Tuple elts x1 tp) (.Call (.Name "zip" p) (l::ls) [] pos) (Ym9 X.K ta):=by
 intro pins s σ H R I h
 refine Lk (E1 I hg hm (u:= .type "zip") (by kernel_rfl) ?_)
 refine PyProof.Rows.callWith_type1 (thn (ha pos pins s σ H _ I h) fun us s1 zz62=>?_) he hpl
 obtain⟨vs,H1,I1,rv,q⟩:=zz62
 have hb:∀c∈[s1.heap.objs.size+4,s1.heap.objs.size+2,s1.heap.objs.size+3,s1.heap.objs.size,s1.heap.objs.size+1],@LE.le Nat _ s1.heap.objs.size c:=by
  intro c hc
  simp only[Ag,Dc,or_false] at hc
  rcases hc with rfl | rfl | rfl | rfl | rfl
  ·exact Nat.le_add_right _ _
  ·exact Nat.le_add_right _ _
  ·exact Nat.le_add_right _ _
  ·exact Nat.le_refl _
  ·exact Nat.le_add_right _ _
 rcases q with⟨a,b,ev,⟨xs,hp⟩,⟨ys,hq⟩,q⟩ | ⟨a,b,xs,ys,ev,hp,hq,q⟩
 ·subst ev
  obtain⟨u1,u2,rfl,e1,e2⟩:=Ej rv
  cases e1
  cases e2
  obtain⟨us,r1,pl1,z1⟩:=I1.list hp
  obtain⟨ws,r2,pl2,z2⟩:=I1.list hq
  have L1:=pl1.isList
  have L2:=pl2.isList
  have lt1:@LT.lt Nat _ a s1.heap.objs.size:=by obtain⟨o,e,_⟩:=L1;exact Al e
  have lt2:@LT.lt Nat _ b s1.heap.objs.size:=by obtain⟨o,e,_⟩:=L2;exact Al e
  refine call_zip_2 L1 L2 fun h' a1 a2 a3 a4 a5 a6 kp=>wpAny_pyIter_zip a1 ?_
  have D:ZipApart (s1.heap.objs.size+4) (s1.heap.objs.size+2) (s1.heap.objs.size+3) s1.heap.objs.size (s1.heap.objs.size+1) a b:=by
   constructor<;>(show(_:Nat)≠_)<;>omega
  exact⟨s1.heap.objs.size+4,[s1.heap.objs.size+4,s1.heap.objs.size+2,s1.heap.objs.size+3,s1.heap.objs.size,s1.heap.objs.size+1],_,_,H1,rfl,I1.kept (t':=s1.toks) kp,Zp1 _ _ _ _ _ a b D,⟨a1,a2,⟨_,_,a3⟩,a4,a5⟩,fun c hc=>I1.fpOk (hb c hc) (I1.hok.fresh (hb c hc)),q⟩
 ·subst ev
  obtain⟨u1,u2,rfl,e1,e2⟩:=Ej rv
  cases e1
  cases e2
  obtain⟨us,r1,pl1,z1⟩:=I1.tuple hp
  obtain⟨ws,r2,pl2,z2⟩:=I1.tuple hq
  have lt1:@LT.lt Nat _ a s1.heap.objs.size:=by obtain⟨o,e,_⟩:=pl1;exact Al e
  have lt2:@LT.lt Nat _ b s1.heap.objs.size:=by obtain⟨o,e,_⟩:=pl2;exact Al e
  refine ZT.zt_call pl1 pl2 fun h' a1 a2 a3 a4 a5 kp=>wpAny_pyIter_zip a1 ?_
  have D:ZT.Ap (s1.heap.objs.size+4) (s1.heap.objs.size+2) (s1.heap.objs.size+3) s1.heap.objs.size (s1.heap.objs.size+1) a b:=by
   refine⟨⟨?_,?_,?_,?_,?_,?_⟩,⟨?_,?_,?_,?_,?_⟩,⟨?_,?_,?_,?_⟩,?_,?_,?_⟩<;>(show(_:Nat)≠_)<;>omega
  exact⟨s1.heap.objs.size+4,[s1.heap.objs.size+4,s1.heap.objs.size+2,s1.heap.objs.size+3,s1.heap.objs.size,s1.heap.objs.size+1],_,_,H1,rfl,I1.kept (t':=s1.toks) kp,Z90 D,⟨a1,a2,⟨_,_,a3⟩,a4,a5⟩,fun c hc=>I1.fpOk (hb c hc) (I1.hok.fresh (hb c hc)),q⟩
end
end L3
namespace U
open PySem PySem.Spec PyProof.Rows L2 L3
inductive D where
 | non | bl (b:Bool) | int (i:Int) | str (x:Str) | tup (ds:List D) | ref (n:Nat) | ty (n:String) | gtup (ds:List D) | cls (a:Addr) | exn (e C dx:Addr) (row:D)
inductive Cell where
 | lst (ds:List D) | frz (ds:List D) | dct (kvs:List (Key×D)) | fdc (kvs:List (Key×D))
noncomputable abbrev Z2:=List Cell
noncomputable abbrev DEnv:=List (Option D)
abbrev DK:=D→Z2→Prop
abbrev DX:=Addr→D→Z2→Prop
abbrev DE:=DEnv→Z2→DK→Prop
abbrev DA:=DEnv→Z2→(List D→Z2→Prop)→Prop
abbrev DT:=DEnv→Z2→(Bool→Z2→Prop)→Prop
abbrev DSp:=List D→Z2→DK→DX→Prop
structure DEnds where
 nx:DEnv→Z2→Prop
 rt:DK
 bk:DEnv→Z2→Prop:=fun _ _=>False
 ct:DEnv→Z2→Prop:=fun _ _=>False
abbrev DS:=DEnds→DEnv→Z2→Prop
structure Vw where
 K:Ad
 H:Hp
 μ:Nat→Addr
 n:Nat
mutual
def RD(w:Vw):D→V→Prop
 | .non,v=>v= .non
 | .bl b,v=>v= .bl b
 | .int i,v=>v= .int i
 | .str x,v=>v= .str x
 | .tup ds,v=>∃a vs,v= .ref a∧w.H a=some (.tup vs)∧RDs w ds vs
 | .ref i,v=>i<w.n∧v= .ref (w.μ i)
 | .ty n,v=>v= .ty n
 | .gtup ds,v=>∃a vs,v= .ref a∧SqT w.K w.H a vs∧RDs w ds vs
 | .cls a,v=>v= .ref a
 | .exn e C dx row,v=>v= .ref e∧w.H e=some (XO e (.ref C) (some dx))∧∃r,w.H dx=some (.xd [("row",r)])∧RD w row r
def RDs(w:Vw):List D→List V→Prop
 | [],vs=>vs=[]
 | d::ds,vs=>∃v r,vs=v::r∧RD w d v∧RDs w ds r
end
def RKV(w:Vw):List (Key×D)→List (Key×V)→Prop
 | [],vs=>vs=[]
 |(k,d)::ds,vs=>∃v r,vs=(k,v)::r∧RD w d v∧RKV w ds r
def SqF(K:Ad)(H:Hp)(a:Addr)(vs:List V):Prop:=(∃o,H a=some (.frz o (.lst vs)))∨SqL K (fun _=>none) a vs
noncomputable def Cell.mut:Cell→Bool
 | .frz _=>false
 | _=>true
def J3(w:Vw):Cell→Addr→Prop
 | .lst ds,a=>∃vs,w.H a=some (.lst vs)∧RDs w ds vs
 | .frz ds,a=>∃vs,SqF w.K w.H a vs∧RDs w ds vs
 | .dct kvs,a=>∃vs,w.H a=some (.dK vs)∧RKV w kvs vs
 | .fdc kvs,a=>∃o vs,w.H a=some (.frz o (.dK vs))∧RKV w kvs vs
structure RS(w:Vw)(M:Z2):Prop where
 len:w.n=M.length
 inj:∀(i j:Nat) (ci cj:Cell),M[i]?=some ci→M[j]?=some cj→ci.mut=true→cj.mut=true→w.μ i=w.μ j→i=j
 cell:∀i c,M[i]?=some c→J3 w c (w.μ i)
noncomputable def Imm:HO→Bool
 | .tup _ | .xd _ | .ext _ | .frz _ _=>true
 | _=>false
structure Ext(w w':Vw):Prop where
 K:w'.K=w.K
 n:w.n≤w'.n
 μ:∀i,i<w.n→w'.μ i=w.μ i
 imm:∀a o,w.H a=some o→Imm o=true→w'.H a=some o
theorem Ext.refl(w:Vw):Ext w w:=⟨rfl,Nat.le_refl _,fun _ _=>rfl,fun _ _ h _=>h⟩
theorem Ext.trans{a b c:Vw}(x:Ext a b)(y:Ext b c):Ext a c:=
 ⟨y.K.trans x.K,Nat.le_trans x.n y.n,fun i h=>(y.μ i (Nat.lt_of_lt_of_le h x.n)).trans (x.μ i h),fun p o h q=>y.imm p o (x.imm p o h q) q⟩
theorem Ext.sqT(x:Ext w w'){a:Addr}(h:SqT w.K w.H a vs):SqT w'.K w'.H a vs:=by
 rw[x.K]
 rcases h with(h | ⟨o,h⟩) | h
 ·exact .inl (.inl (x.imm _ _ h rfl))
 ·exact .inl (.inr ⟨o,x.imm _ _ h rfl⟩)
 ·exact .inr h
mutual
theorem RD.ext(x:Ext w w'):∀{d:D} {v:V},RD w d v→RD w' d v
 | .non,v,h=>by unfold RD at *;exact h
 | .bl b,v,h=>by unfold RD at *;exact h
 | .int i,v,h=>by unfold RD at *;exact h
 | .str _,v,h=>by unfold RD at *;exact h
 | .tup ds,v,h=>by
  unfold RD at *
  obtain⟨a,vs,e,q,r⟩:=h
  exact⟨a,vs,e,x.imm _ _ q rfl,RDs.ext x r⟩
 | .ref i,v,h=>by
  unfold RD at *
  exact⟨Nat.lt_of_lt_of_le h.1 x.n,by rw[x.μ i h.1];exact h.2⟩
 | .ty n,v,h=>by unfold RD at *;exact h
 | .gtup ds,v,h=>by
  unfold RD at *
  obtain⟨a,vs,e,q,r⟩:=h
  exact⟨a,vs,e,x.sqT q,RDs.ext x r⟩
 | .cls a,v,h=>by unfold RD at *;exact h
 | .exn e C dx row,v,h=>by
  unfold RD at *
  obtain⟨e1,q,r,q2,q3⟩:=h
  exact⟨e1,x.imm _ _ q rfl,r,x.imm _ _ q2 rfl,RD.ext x q3⟩
theorem RDs.ext(x:Ext w w'):∀{ds:List D} {vs:List V},RDs w ds vs→RDs w' ds vs
 | [],vs,h=>by unfold RDs at *;exact h
 | d::ds,vs,h=>by
  unfold RDs at *
  obtain⟨v,r,e,h1,h2⟩:=h
  exact⟨v,r,e,RD.ext x h1,RDs.ext x h2⟩
end
theorem RKV.ext(x:Ext w w'):∀{ds:List (Key×D)} {vs:List (Key×V)},RKV w ds vs→RKV w' ds vs
 | [],vs,h=>by unfold RKV at *;exact h
 |(k,d)::ds,vs,h=>by
  unfold RKV at *
  obtain⟨v,r,e,h1,h2⟩:=h
  exact⟨v,r,e,RD.ext x h1,RKV.ext x h2⟩
structure Ext0(w w':Vw):Prop where
 K:w'.K=w.K
 n:w.n≤w'.n
 μ:∀i,i<w.n→w'.μ i=w.μ i
 imm:∀a o,w.H a=some o→Imm o=true→(∀ob kvs,o≠ .frz ob (.dK kvs))→w'.H a=some o
mutual
theorem RD.ext0(x:Ext0 w w'):∀{d:D} {v:V},RD w d v→RD w' d v
 | .non,v,h=>by unfold RD at *;exact h
 | .bl b,v,h=>by unfold RD at *;exact h
 | .int i,v,h=>by unfold RD at *;exact h
 | .str _,v,h=>by unfold RD at *;exact h
 | .tup ds,v,h=>by
  unfold RD at *
  obtain⟨a,vs,e,q,r⟩:=h
  exact⟨a,vs,e,x.imm _ _ q rfl (fun _ _ z=>by cases z),RDs.ext0 x r⟩
 | .ref i,v,h=>by
  unfold RD at *
  exact⟨Nat.lt_of_lt_of_le h.1 x.n,by rw[x.μ i h.1];exact h.2⟩
 | .ty n,v,h=>by unfold RD at *;exact h
 | .gtup ds,v,h=>by
  unfold RD at *
  obtain⟨a,vs,e,q,r⟩:=h
  refine⟨a,vs,e,?_,RDs.ext0 x r⟩
  rw[x.K]
  rcases q with(h | ⟨o,h⟩) | h
  ·exact .inl (.inl (x.imm _ _ h rfl (fun _ _ z=>by cases z)))
  ·exact .inl (.inr ⟨o,x.imm _ _ h rfl (fun _ _ z=>by cases z)⟩)
  ·exact .inr h
 | .cls a,v,h=>by unfold RD at *;exact h
 | .exn e C dx row,v,h=>by
  unfold RD at *
  obtain⟨e1,q,r,q2,q3⟩:=h
  exact⟨e1,x.imm _ _ q rfl (fun _ _ z=>by cases z),r,x.imm _ _ q2 rfl (fun _ _ z=>by cases z),RD.ext0 x q3⟩
theorem RDs.ext0(x:Ext0 w w'):∀{ds:List D} {vs:List V},RDs w ds vs→RDs w' ds vs
 | [],vs,h=>by unfold RDs at *;exact h
 | d::ds,vs,h=>by
  unfold RDs at *
  obtain⟨v,r,e,h1,h2⟩:=h
  exact⟨v,r,e,RD.ext0 x h1,RDs.ext0 x h2⟩
end
theorem RDs.nil(w:Vw):RDs w [] []:=by unfold RDs;rfl
theorem RDs.cons{w:Vw}{d:D}{v:V}{ds:List D}{vs:List V}(h:RD w d v)(r:RDs w ds vs):RDs w (d::ds) (v::vs):=by unfold RDs;exact⟨v,vs,rfl,h,r⟩
theorem RDs.length:∀{ds:List D} {vs:List V},RDs w ds vs→vs.length=ds.length
 | [],vs,h=>by unfold RDs at h;subst h;rfl
 | d::ds,vs,h=>by
  unfold RDs at h
  obtain⟨v,r,rfl,_,h2⟩:=h
  simp[h2.length]
theorem RDs.get:∀{ds:List D} {vs:List V} {i:Nat} {d:D},RDs w ds vs→ds[i]?=some d→∃v,vs[i]?=some v∧RD w d v
 | [],vs,i,d,h,e=>by simp at e
 | d::ds,vs,i,d',h,e=>by
  unfold RDs at h
  obtain⟨v,r,rfl,h1,h2⟩:=h
  cases i with
  | zero=>simp at e;subst e;exact⟨v,rfl,h1⟩
  | succ i=>simpa using RDs.get h2 (by simpa using e)
theorem RDs.append:∀{ds es:List D} {vs us:List V},RDs w ds vs→RDs w es us→RDs w (ds++es) (vs++us)
 | [],es,vs,us,h,g=>by unfold RDs at h;subst h;exact g
 | d::ds,es,vs,us,h,g=>by
  unfold RDs at h
  obtain⟨v,r,rfl,h1,h2⟩:=h
  exact RDs.cons h1 (RDs.append h2 g)
theorem RDs.take:∀{ds:List D} {vs:List V} (n:Nat),RDs w ds vs→RDs w (ds.take n) (vs.take n)
 | _,_,0,_=>by simp[RDs.nil]
 | [],vs,n+1,h=>by unfold RDs at h;subst h;simp[RDs.nil]
 | d::ds,vs,n+1,h=>by
  unfold RDs at h
  obtain⟨v,r,rfl,h1,h2⟩:=h
  exact RDs.cons h1 (RDs.take n h2)
theorem RDs.drop:∀{ds:List D} {vs:List V} (n:Nat),RDs w ds vs→RDs w (ds.drop n) (vs.drop n)
 | _,_,0,h=>by simpa using h
 | [],vs,n+1,h=>by unfold RDs at h;subst h;simp[RDs.nil]
 | d::ds,vs,n+1,h=>by
  unfold RDs at h
  obtain⟨v,r,rfl,h1,h2⟩:=h
  simpa using RDs.drop n h2
theorem RDs.set{d:D}{v:V}(q:RD w d v):∀{ds:List D} {vs:List V} (n:Nat),RDs w ds vs→RDs w (ds.set n d) (vs.set n v)
 | [],vs,n,h=>by unfold RDs at h;subst h;simp[RDs.nil]
 | d::ds,vs,0,h=>by
  unfold RDs at h
  obtain⟨v,r,rfl,h1,h2⟩:=h
  exact RDs.cons q h2
 | d::ds,vs,n+1,h=>by
  unfold RDs at h
  obtain⟨v,r,rfl,h1,h2⟩:=h
  exact RDs.cons h1 (RDs.set q n h2)
theorem RDs.reverse:∀{ds:List D} {vs:List V},RDs w ds vs→RDs w ds.reverse vs.reverse
 | [],vs,h=>by unfold RDs at h;subst h;simp[RDs.nil]
 | d::ds,vs,h=>by
  unfold RDs at h
  obtain⟨v,r,rfl,h1,h2⟩:=h
  simp only[Lp]
  exact(RDs.reverse h2).append (RDs.cons h1 (RDs.nil w))
noncomputable def Vw.push(w:Vw)(a:Addr)(o:HO):Vw:=⟨w.K,upd w.H a o,fun i=>if i=w.n then a else w.μ i,w.n+1⟩
noncomputable def Vw.alloc(w:Vw)(a:Addr)(o:HO):Vw:={w with H:=upd w.H a o}
theorem Tu{a:Addr}(h:w.H a=none):Ext w (w.alloc a o):=
 ⟨rfl,Nat.le_refl _,fun _ _=>rfl,fun b u q _=>by
  show upd w.H a o b=some u
  rw[Zo (by rintro rfl;rw[h] at q;cases q)];exact q⟩
theorem Ny{a:Addr}(h:w.H a=none):Ext w (w.push a o):=
 ⟨rfl,Nat.le_succ _,fun i hi=>by show(if i=w.n then a else w.μ i)=_;rw[if_neg (by omega)],fun b u q _=>by
  show upd w.H a o b=some u
  rw[Zo (by rintro rfl;rw[h] at q;cases q)];exact q⟩
theorem SqF.stay{a:Addr}(x:Ext w w')(h:SqF w.K w.H a vs):SqF w'.K w'.H a vs:=by
 rcases h with⟨o,h⟩ | h
 ·exact .inl ⟨o,x.imm _ _ h rfl⟩
 ·rw[x.K];exact .inr h
theorem SqF.sq{K:Ad}{H:Hp}{a:Addr}(h:SqF K H a vs):SqL K H a vs:=by
 rcases h with⟨o,h⟩ | (h | ⟨o,h⟩) | h
 ·exact .inl (.inr ⟨o,h⟩)
 ·cases h
 ·cases h
 ·exact .inr h
theorem J3.some{a:Addr}(hm:c.mut=true)(h:J3 w c a):∃o,w.H a=some o:=by
 cases c with
 | lst ds=>obtain⟨vs,q,_⟩:=h;exact⟨_,q⟩
 | frz ds=>cases hm
 | dct ds=>obtain⟨vs,q,_⟩:=h;exact⟨_,q⟩
 | fdc ds=>obtain⟨o,vs,q,_⟩:=h;exact⟨_,q⟩
theorem J3.stay{a:Addr}(x:Ext w w')(h:J3 w c a)(k:c.mut=true→w'.H a=w.H a):J3 w' c a:=by
 cases c with
 | lst ds=>obtain⟨vs,q,r⟩:=h;exact⟨vs,(k rfl).trans q,r.ext x⟩
 | frz ds=>obtain⟨vs,q,r⟩:=h;exact⟨vs,q.stay x,r.ext x⟩
 | dct ds=>obtain⟨vs,q,r⟩:=h;exact⟨vs,(k rfl).trans q,r.ext x⟩
 | fdc ds=>obtain⟨o,vs,q,r⟩:=h;exact⟨o,vs,(k rfl).trans q,r.ext x⟩
theorem RS.alloc{a:Addr}(R:RS w M)(h:w.H a=none):RS (w.alloc a o) M:=
 ⟨R.len,R.inj,fun i c e=>by
  have q:=R.cell i c e
  refine q.stay (Tu h) fun hm=>?_
  obtain⟨u,hu⟩:=q.some hm
  exact Zo (fun z=>by have z:w.μ i=a:=z;rw[z,h] at hu;cases hu)⟩
theorem RS.push{a:Addr}(R:RS w M)(h:w.H a=none)(new:J3 (w.push a o) c a):RS (w.push a o) (M++[c]):=by
 have old:∀(i:Nat) (ci:Cell),(M++[c])[i]?=some ci→(i=w.n∧ci=c)∨(i<w.n∧M[i]?=some ci):=fun i ci e=>by
  by_cases hi:i<M.length
  ·rw[Ex hi] at e
   exact .inr ⟨by rw[R.len];exact hi,e⟩
  ·rw[Kq (by omega)] at e
   have hz:i - M.length=0:=by
    have:=(Af.mp e).1
    simp at this
    omega
   rw[hz] at e
   simp at e
   exact .inl ⟨by rw[R.len];omega,e.symm⟩
 have no:∀(i:Nat) (ci:Cell),M[i]?=some ci→ci.mut=true→w.μ i≠a:=fun i ci e hm z=>by
  obtain⟨u,hu⟩:=(R.cell i ci e).some hm
  rw[z,h] at hu;cases hu
 refine⟨by show w.n+1=_;rw[R.len];simp,fun i j ci cj ei ej mi mj e=>?_,fun i c' e=>?_⟩
 ·change (if i=w.n then a else w.μ i)=(if j=w.n then a else w.μ j) at e
  rcases old i ci ei with⟨h1,_⟩ | ⟨h1,h1'⟩
  ·rcases old j cj ej with⟨h2,_⟩ | ⟨h2,h2'⟩
   ·omega
   ·rw[if_pos h1,if_neg (by omega)] at e
    exact absurd e.symm (no j cj h2' mj)
  ·rcases old j cj ej with⟨h2,_⟩ | ⟨h2,h2'⟩
   ·rw[if_neg (by omega),if_pos h2] at e
    exact absurd e (no i ci h1' mi)
   ·rw[if_neg (by omega),if_neg (by omega)] at e
    exact R.inj i j ci cj h1' h2' mi mj e
 ·show J3 _ c' (if i=w.n then a else w.μ i)
  rcases old i c' e with⟨h1,rfl⟩ | ⟨h1,h1'⟩
  ·rw[if_pos h1];exact new
  ·rw[if_neg (by omega)]
   have q:=R.cell i c' h1'
   exact q.stay (Ny h) fun hm=>Zo (no i c' h1' hm)
theorem Xz{a:Addr}(h:w.H a=some u)(hu:Imm u=false):Ext w (w.alloc a o):=
 ⟨rfl,Nat.le_refl _,fun _ _=>rfl,fun b v q z=>by
  show upd w.H a o b=some v
  rw[Zo (by rintro rfl;rw[h] at q;cases q;rw[hu] at z;cases z)];exact q⟩
theorem RS.write{i:Nat}(R:RS w M)(h0:M[i]?=some c0)(hm:c0.mut=true)(hc:c.mut=true)(h:w.H (w.μ i)=some u)(hu:Imm u=false)(new:J3 (w.alloc (w.μ i) o) c (w.μ i)):RS (w.alloc (w.μ i) o) (M.set i c):=by
 have hi:i<M.length:=(Af.mp h0).1
 have old:∀(j:Nat) (cj:Cell),(M.set i c)[j]?=some cj→cj.mut=true→∃cj',M[j]?=some cj'∧cj'.mut=true:=fun j cj e mj=>by
  by_cases h1:j=i
  ·subst h1;exact⟨c0,h0,hm⟩
  ·rw[Dt (Bs h1)] at e
   exact⟨cj,e,mj⟩
 refine⟨by show w.n=_;rw[R.len];simp,fun a b ca cb ea eb ma mb e=>?_,fun j c' e=>?_⟩
 ·obtain⟨ca',ea',ma'⟩:=old a ca ea ma
  obtain⟨cb',eb',mb'⟩:=old b cb eb mb
  exact R.inj a b ca' cb' ea' eb' ma' mb' e
 ·by_cases h1:j=i
  ·subst h1
   rw[Hz hi] at e
   cases e
   exact new
  ·rw[Dt (Bs h1)] at e
   have q:=R.cell j c' e
   exact q.stay (Xz h hu) fun mj=>Zo (fun z=>h1 (R.inj j i c' c0 e h0 mj hm z))
inductive Op where
 | add | sub | mul | fdiv | mod | pow
 deriving DecidableEq
inductive Cm where
 | lt | gt | ge | eq | ne | is | isin | notin | inT
 deriving DecidableEq
inductive Bf where
 | len | isinst | min2 | max2 | tuple1 | str1 | int1
 deriving DecidableEq
inductive Mt where
 | append | pop0 | extend | popi | insi | split | join | starts | ends | lstrip
 deriving DecidableEq
inductive Ty where
 | int | str | bool | list | tuple | dict | valueError
 deriving DecidableEq
noncomputable def Ym:Ty→String
 | .int=>"int" | .str=>"str" | .bool=>"bool" | .list=>"list" | .tuple=>"tuple" | .dict=>"dict" | .valueError=>"ValueError"
set_option genInjectivity false in
mutual
inductive E where
 | var (i:Nat) | int (i:Int) | bl (b:Bool) | non | str (x:Str) | ty (x:Ty) | glb (k:Nat)
 | bin (op:Op) (a b:E) | neg (a:E) | not (a:E) | cmp (op:Cm) (a b:E) | bop (isAnd:Bool) (es:Es)
 | lst (es:Es) | tup (es:Es) | ix (a b:E) | sl (a:E) (lo hi:Eo)
 | call (f:Nat) (es:Es) | bf (b:Bf) (es:Es) | mt (m:Mt) (o:E) (es:Es)
 | comp (N':List Str) (js:List (Option Nat)) (tg:List Nat) (it:It) (cd:Eo) (e:E)
 | lrev (a:E) | anyf (a:E) | allf (a:E) | fstr (es:Es) | setf (b:Bool) (a:E) | slW (a:E) (lo hi:Eo)
inductive Es where
 | nil | cons (e:E) (r:Es)
inductive Eo where
 | no | yes (e:E)
inductive It where
 | seq (e:E) | rng1 (a:E) | zip (es:Es)
end
set_option genInjectivity false in
mutual
inductive S where
 | never | ret (e:E) | expr (e:E)
 | set (tg:List Nat) (e:E) | setL (tg:List Nat) (e:E)
 | aug (op:Op) (j:Nat) (e:E)
 | put (o i v:E)
 | ite (c:E) (a b:Ss) | for_ (tg:List Nat) (it:It) (b:Ss) | while_ (c:E) (b:Ss)
inductive Ss where
 | nil | cons (s:S) (r:Ss)
end
noncomputable def Za(M:Z2)(n:Nat):Option (List D):=match M[n]? with
 | some (.lst xs)=>some xs
 | some (.frz xs)=>some xs
 | _=>none
noncomputable def Z3(M:Z2)(n:Nat):Option (List D):=match M[n]? with
 | some (.lst xs)=>some xs
 | _=>none
noncomputable def Sf(M:Z2)(n:Nat):Option (List (Key×D)):=match M[n]? with
 | some (.dct xs)=>some xs
 | _=>none
noncomputable def Zz4(M:Z2)(n:Nat):Option (List (Key×D)):=match M[n]? with
 | some (.dct xs)=>some xs
 | some (.fdc xs)=>some xs
 | _=>none
noncomputable def valD(kvs:List (Key×D))(k:Key):Option D:=(kvs.find? fun kv=>decide (kv.1=k)).map (·.2)
noncomputable def putD(kvs:List (Key×D))(k:Key)(v:D):List (Key×D):=
 if (kvs.any fun kv=>decide (kv.1=k))=true then kvs.map (fun kv=>if kv.1=k then(kv.1,v) else kv) else kvs++[(k,v)]
noncomputable def keyD:D→Option Key
 | .int i=>some (.inl i)
 | .str x=>some (.inr x)
 | _=>none
noncomputable def kD:Key→D
 | .inl i=> .int i
 | .inr x=> .str x
noncomputable def qdiv(i j:Int):Int:=if 0<j then i / j else i.fdiv j
noncomputable def qmod(i j:Int):Int:=if 0<j then i % j else i.fmod j
theorem Y67(i j:Int):i.fdiv j=qdiv i j:=by
 unfold qdiv
 split
 ·exact Int.fdiv_eq_ediv_of_nonneg _ (by omega)
 ·rfl
theorem Zz8(i j:Int):i.fmod j=qmod i j:=by
 unfold qmod
 split
 ·exact Int.fmod_eq_emod_of_nonneg _ (by omega)
 ·rfl
theorem Zo4{i j:Int}(h:0<j):qdiv i j=i / j:=if_pos h
theorem Zo2{i j:Int}(h:0<j):qmod i j=i % j:=if_pos h
def Cd(x:D)(F:Int→Prop):Prop:=match x with
 | .int i=>F i
 | _=>False
def Rr(x:D)(F:Nat→Prop):Prop:=match x with
 | .ref n=>F n
 | _=>False
def Zc6(x:D)(F:Str→Prop):Prop:=match x with
 | .str i=>F i
 | _=>False
def onSR(x:D)(F:Str→Prop)(G:Nat→Prop):Prop:=match x with
 | .str i=>F i
 | .ref n=>G n
 | _=>False
theorem Tw{x:D}(h:Zc6 x F):∃i,x= .str i∧F i:=by
 cases x with
 | str i=>exact⟨i,rfl,h⟩
 | _=>exact Di h
theorem Z14{x:D}(h:onSR x F G):(∃i,x= .str i∧F i)∨∃n,x= .ref n∧G n:=by
 cases x with
 | str i=>exact .inl ⟨i,rfl,h⟩
 | ref n=>exact .inr ⟨n,rfl,h⟩
 | _=>exact Di h
noncomputable def J9(x:Str):List D:=x.cps.toList.map fun c=> .str ⟨#[c]⟩
def onIS(x:D)(F:Int→Prop)(G:Str→Prop):Prop:=match x with
 | .int i=>F i
 | .str i=>G i
 | _=>False
theorem By{x:D}(h:onIS x F G):(∃i,x= .int i∧F i)∨∃i,x= .str i∧G i:=by
 cases x with
 | int i=>exact .inl ⟨i,rfl,h⟩
 | str i=>exact .inr ⟨i,rfl,h⟩
 | _=>exact Di h
def onBS(x:D)(F:Bool→Prop)(G:Str→Prop):Prop:=match x with
 | .bl i=>F i
 | .str i=>G i
 | _=>False
theorem Zu0{x:D}(h:onBS x F G):(∃i,x= .bl i∧F i)∨∃i,x= .str i∧G i:=by
 cases x with
 | bl i=>exact .inl ⟨i,rfl,h⟩
 | str i=>exact .inr ⟨i,rfl,h⟩
 | _=>exact Di h
def Z87(x:D)(F:List D→Prop):Prop:=match x with
 | .tup l=>F l
 | _=>False
def O5(x y:D)(F:Int→Int→Prop):Prop:=Cd x fun i=>Cd y fun j=>F i j
def at0(l:List D)(P:Prop):Prop:=match l with
 | []=>P
 | _::_=>False
def at1(l:List D)(F:D→Prop):Prop:=match l with
 | []=>False
 | a::r=>at0 r (F a)
def at2(l:List D)(F:D→D→Prop):Prop:=match l with
 | []=>False
 | a::r=>at1 r (F a)
theorem Xj{x:D}(h:Cd x F):∃i,x= .int i∧F i:=by
 cases x with
 | int i=>exact⟨i,rfl,h⟩
 | _=>exact Di h
theorem Zy{x:D}(h:Rr x F):∃n,x= .ref n∧F n:=by
 cases x with
 | ref n=>exact⟨n,rfl,h⟩
 | _=>exact Di h
theorem Q8{x:D}(h:Z87 x F):∃l,x= .tup l∧F l:=by
 cases x with
 | tup l=>exact⟨l,rfl,h⟩
 | _=>exact Di h
theorem Yd{x y:D}(h:O5 x y F):∃i j,x= .int i∧y= .int j∧F i j:=by
 obtain⟨i,rfl,h1⟩:=Xj h
 obtain⟨j,rfl,h2⟩:=Xj h1
 exact⟨i,j,rfl,rfl,h2⟩
theorem Zb4(h:at0 l P):l=[]∧P:=by
 cases l with
 | nil=>exact⟨rfl,h⟩
 | cons _ _=>exact Di h
theorem Yi(h:at1 l F):∃a,l=[a]∧F a:=by
 cases l with
 | nil=>exact Di h
 | cons a r=>obtain⟨rfl,h1⟩:=Zb4 h;exact⟨a,rfl,h1⟩
theorem Qf(h:at2 l F):∃a b,l=[a,b]∧F a b:=by
 cases l with
 | nil=>exact Di h
 | cons a r=>obtain⟨b,rfl,h1⟩:=Yi h;exact⟨a,b,rfl,h1⟩
def addD(x y:D)(M:Z2)(Q:DK):Prop:=match x with
 | .int i=>Cd y fun j=>Q (.int (i+j)) M
 | .str a=>match y with
  | .str b=>a.length+b.length≤sizeLine∧Q (.str (a++b)) M
  | _=>False
 | .tup a=>Z87 y fun b=>a≠[]∧a.length+b.length≤sizeLine∧Q (.tup (a++b)) M
 | .ref a=>Rr y fun b=>∃xs ys,Z3 M a=some xs∧Z3 M b=some ys∧xs.length+ys.length≤sizeLine∧Q (.ref M.length) (M++[.lst (xs++ys)])
 | _=>False
def mulD(x y:D)(M:Z2)(Q:DK):Prop:=match x with
 | .str a=>Cd y fun k=>MulOk a k∧Q (.str (Me a k)) M
 | .int i=>Cd y fun j=>IntMulOk i j∧Q (.int (i * j)) M
 | .ref a=>Cd y fun k=>∃xs,Z3 M a=some xs∧0≤k∧k<2 ^ 62∧xs.length * k.toNat≤sizeLine∧Q (.ref M.length) (M++[.lst (Df k.toNat xs).flatten])
 | _=>False
def opD(op:Op)(x y:D)(M:Z2)(Q:DK):Prop:=match op with
 | .add=>addD x y M Q
 | .mul=>mulD x y M Q
 | .sub=>O5 x y fun i j=>Q (.int (i - j)) M
 | .fdiv=>O5 x y fun i j=>Z84 i j∧Q (.int (qdiv i j)) M
 | .mod=>O5 x y fun i j=>j≠0∧Q (.int (qmod i j)) M
 | .pow=>O5 x y fun i j=>CPow i j∧Q (.int (i ^ j.toNat)) M
mutual
def PD(M:Z2):PyData→D→Prop
 | .none,d=>d= .non
 | .bool b,d=>d= .bl b
 | .int i,d=>d= .int i
 | .str x,d=>d= .str x
 | .list xs,d=>∃n ds,d= .ref n∧Za M n=some ds∧PDs M xs ds
 | .tuple xs,d=>∃ds,(d= .tup ds∨d= .gtup ds)∧PDs M xs ds
 | .dict _,_=>False
def PDs(M:Z2):List PyData→List D→Prop
 | [],ds=>ds=[]
 | x::xs,ds=>∃d r,ds=d::r∧PD M x d∧PDs M xs r
end
noncomputable def Zs:D→Bool
 | .non | .bl _ | .int _ | .str _=>true
 | _=>false
noncomputable def eqF:D→D→Bool
 | .non,.non=>true
 | .bl a,.bl b=>a==b
 | .bl a,.int b=>(if a then 1 else 0)==b
 | .int a,.bl b=>a==(if b then 1 else 0)
 | .int a,.int b=>a==b
 | .str a,.str b=>a==b
 | _,_=>false
noncomputable def eqFs(xs ys:List D):Bool:=(Hi (min xs.length ys.length)).all (fun j=>eqF (xs.getD j .non) (ys.getD j .non))&&xs.length==ys.length
noncomputable def inD(x:D)(xs:List D):Bool:=xs.any fun y=>eqF y x
noncomputable def eqKV(a b:List (Key×D)):Bool:=a.length==b.length&&a.all fun kv=>match valD b kv.1 with
 | some y=>eqF kv.2 y
 | none=>false
noncomputable def eqS(x y:D):Option Bool:=match x with
 | .int i=>match y with
  | .int j=>some (decide (i=j))
  | .str _=>some false
  | .non=>some false
  | _=>none
 | .str i=>match y with
  | .str j=>some (decide (i=j))
  | .int _=>some false
  | .non=>some false
  | .bl _=>some false
  | _=>none
 | .bl i=>match y with
  | .bl j=>some (decide (i=j))
  | .non=>some false
  | .str _=>some false
  | _=>none
 | .non=>match y with
  | .non=>some true
  | .int _=>some false
  | .bl _=>some false
  | .str _=>some false
  | _=>none
 | _=>none
def eqD(M:Z2)(x y:D)(Q:Bool→Prop):Prop:=match eqS x y with
 | some b=>Q b
 | none=>(∃da db,PD M da x∧PD M db y∧da.canLay0=true∧db.canLay0=true∧min da.depth db.depth≤60∧Q (PyData.eqv da db))∨
   (∃m n a b,x= .ref m∧y= .ref n∧Sf M m=some a∧Sf M n=some b∧(a.all fun kv=>Zs kv.2)=true∧(b.all fun kv=>Zs kv.2)=true∧Q (eqKV a b))∨(∃m n xs,x= .ref m∧y= .ref n∧Za M m=some xs∧Za M n=some []∧Q xs.isEmpty)∨(∃xs ys,(x= .tup xs∨x= .gtup xs)∧(y= .tup ys∨y= .gtup ys)∧xs.all Zs=true∧ys.all Zs=true∧Q (eqFs xs ys))
def inQ(M:Z2):D→D→(Bool→Prop)→Prop
 | .str a,.str b,Q=>Q (!(Lg b a 0 b.length 1).isEmpty)
 | x,.ref n,Q=>(∃xs,Za M n=some xs∧Zs x=true∧xs.all Zs=true∧Q (inD x xs))∨(∃kvs k,Sf M n=some kvs∧keyD x=some k∧Q (valD kvs k).isSome)∨(∃(ys:List D) (xs:List (List D)),x= .tup ys∧Za M n=some (xs.map .tup)∧ys.all Zs=true∧(xs.all fun zs=>zs.all Zs)=true∧Q (xs.any fun zs=>eqFs zs ys))
 | x,.tup xs,Q=>Zs x=true∧xs.all Zs=true∧Q (inD x xs)
 | x,.gtup xs,Q=>Zs x=true∧xs.all Zs=true∧Q (inD x xs)
 | _,_,_=>False
def nonD(x y:D)(Q:Bool→Prop):Prop:=match y with
 | .non=>match x with
  | .non=>Q true
  | .bl _=>Q false
  | .int _=>Q false
  | .str _=>Q false
  | .tup _=>Q false
  | .ref _=>Q false
  | .exn _ _ _ _=>Q false
  | _=>False
 | _=>False
def inTD(M:Z2)(x y:D)(Q:Bool→Prop):Prop:=∃(d:PyData) (ds:List PyData),PD M d x∧PD M (.tuple ds) y∧d.canLay0=true∧Kb ds=true∧min (Ly ds) d.depth≤60∧Q (ds.any fun e=>PyData.eqv e d)
def cmD(M:Z2)(op:Cm)(x y:D)(Q:Bool→Prop):Prop:=match op with
 | .lt=>O5 x y fun i j=>Q (decide (i<j))
 | .gt=>O5 x y fun i j=>Q (decide (j<i))
 | .ge=>O5 x y fun i j=>Q (decide (j≤i))
 | .eq=>eqD M x y Q
 | .ne=>eqD M x y fun b=>Q (!b)
 | .is=>nonD x y Q
 | .isin=>inQ M x y Q
 | .inT=>inTD M x y Q
 | .notin=>inQ M x y fun b=>Q (!b)
def truD(M:Z2):D→(Bool→Prop)→Prop
 | .non,Q=>Q false
 | .bl b,Q=>Q b
 | .int i,Q=>Q (i !=0)
 | .str x,Q=>x.length≤sizeLine∧Q ((x.length:Int) !=0)
 | .tup xs,Q=>Q (!xs.isEmpty)
 | .ref n,Q=>(∃xs,Za M n=some xs∧Q (!xs.isEmpty))∨(∃xs,Sf M n=some xs∧Q (!xs.isEmpty))
 | _,_=>False
def ixD(M:Z2):D→D→(D→Prop)→Prop
 | .ref n,k,Q=>(∃xs i d,k= .int i∧Za M n=some xs∧atI xs i=some d∧Q d)∨(∃kvs y d,Zz4 M n=some kvs∧keyD k=some y∧valD kvs y=some d∧Q d)
 | .tup xs,.int i,Q=>∃d,atI xs i=some d∧Q d
 | .gtup xs,.int i,Q=>∃d,atI xs i=some d∧Q d
 | .str z,.int i,Q=>z.length≤sizeLine∧∃c,atI z.cps.toList i=some c∧Q (.str ⟨#[c]⟩)
 | _,_,_=>False
noncomputable def cutD{α:Type}(xs:List α)(lo hi:Option Int):List α:=(xs.drop (HT.sIx xs.length 0 lo)).take (HT.sIx xs.length xs.length hi - HT.sIx xs.length 0 lo)
def slD:D→Option Int→Option Int→Z2→DK→Prop
 | .str z,lo,hi,M,Q=>z.length≤sizeLine∧Q (.str (Ic z lo hi)) M
 | .ref n,lo,hi,M,Q=>∃xs,Za M n=some xs∧Q (.ref M.length) (M++[.lst (cutD xs lo hi)])
 | .tup xs,lo,hi,M,Q=>¬(HT.sIx xs.length 0 lo=0∧HT.sIx xs.length xs.length hi=xs.length)∧Q (.tup (cutD xs lo hi)) M
 | _,_,_,_,_=>False
noncomputable def tyD(M:Z2):D→Option String
 | .non=>some "NoneType"
 | .bl _=>some "bool"
 | .int _=>some "int"
 | .str _=>some "str"
 | .tup _=>some "tuple"
 | .ref n=>match M[n]? with
  | some (.lst _)=>some "list"
  | some (.frz _)=>none
  | some (.dct _)=>some "dict"
  | some (.fdc _)=>none
  | none=>none
 | _=>none
def isD(K:Ad)(M:Z2):D→D→(Bool→Prop)→Prop
 | .exn _ C _ _,.cls c,Q=>∃b,ExcIs K C∧Ke K (.ref C) (.ref c)=some b∧Q b
 | .exn _ C _ _,.ty c,Q=>∃b,ExcIs K C∧Ke K (.ref C) (.type c)=some b∧Q b
 | .exn _ C _ _,.tup cs,Q=>∃(as:List Addr) (b:Bool),cs=as.map D.cls∧ExcIs K C∧PySem.W.kitAny K (.ref C) (as.map Au)=some b∧Q b
 | d,.ty c,Q=>∃t b,tyD M d=some t∧Ke K (.type t) (.type c)=some b∧Q b
 | _,_,_=>False
def lenD(x:D)(M:Z2)(Q:DK):Prop:=match x with
 | .ref n=>(∃xs,Za M n=some xs∧Q (.int xs.length) M)∨(∃xs,Sf M n=some xs∧Q (.int xs.length) M)
 | .tup xs=>Q (.int xs.length) M
 | .gtup xs=>Q (.int xs.length) M
 | .str x=>x.length≤sizeLine∧Q (.int x.length) M
 | _=>False
def bfD(K:Ad)(b:Bf)(l:List D)(M:Z2)(Q:DK):Prop:=match b with
 | .len=>at1 l fun x=>lenD x M Q
 | .isinst=>at2 l fun d c=>isD K M d c fun b=>Q (.bl b) M
 | .min2=>at2 l fun x y=>O5 x y fun i j=>Q (.int (if j<i then j else i)) M
 | .max2=>at2 l fun x y=>O5 x y fun i j=>Q (.int (if j >i then j else i)) M
 | .tuple1=>at1 l fun x=>Rr x fun n=>∃xs,Za M n=some xs∧Q (.tup xs) M
 | .str1=>at1 l fun x=>onIS x (fun i=>i.natAbs.log2<1920∧Q (.str (toString i)) M) fun y=>Q (.str y) M
 | .int1=>at1 l fun x=>onBS x (fun b=>Q (.int (if b then 1 else 0)) M) fun y=>∃n,intText? y=some n∧y.length≤640∧Q (.int n) M
def setD(b:Bool)(n:Nat)(M:Z2)(Q:DK):Prop:=match b with
 | true=>False
 | false=>∃ks:List Key,Za M n=some (ks.map kD)∧ks.length+1<scanBound∧∀ks':List Key,ks'.Nodup→(∀k,k∈ks'↔k∈ks)→Q (.int ks'.length) M
def mtS(m:Mt)(x:Str)(l:List D)(M:Z2)(Q:DK):Prop:=match m with
 | .split=>at1 l fun y=>Zc6 y fun y=>(y.length==0)=false∧x.length+2≤sizeLine∧Q (.ref M.length) (M++[.lst ((Km x y).map .str)])
 | .join=>at1 l fun y=>Rr y fun n=>∃ys:List Str,Za M n=some (ys.map .str)∧JoinOk x ys=true∧Q (.str (Dx x ys)) M
 | .starts=>at1 l fun y=>Zc6 y fun y=>Q (.bl (Txt.startswith x y)) M
 | .lstrip=>at1 l fun y=>Zc6 y fun y=>x.length≤sizeLine∧Q (.str (Ll x y)) M
 | .ends=>at1 l fun y=>Zc6 y fun y=>Q (.bl (Txt.endswith x y)) M
 | _=>False
def mtD(m:Mt)(o:D)(l:List D)(M:Z2)(Q:DK):Prop:=onSR o (fun x=>mtS m x l M Q) fun n=>match m with
 | .split=>False
 | .join=>False
 | .starts=>False
 | .lstrip=>False
 | .ends=>False
 | .popi=>at1 l fun k=>∃xs d,∃j:Nat,k= .int j∧Z3 M n=some xs∧xs[j]?=some d∧Q d (M.set n (.lst (xs.eraseIdx j)))
 | .insi=>at2 l fun k d=>∃xs,∃j:Nat,k= .int j∧Z3 M n=some xs∧j≤xs.length∧xs.length<sizeLine∧Q .non (M.set n (.lst (xs.take j++d::xs.drop j)))
 | .append=>at1 l fun d=>∃xs,Z3 M n=some xs∧xs.length<sizeLine∧Q .non (M.set n (.lst (xs++[d])))
 | .pop0=>at0 l (∃xs d,Z3 M n=some xs∧xs[xs.length - 1]?=some d∧Q d (M.set n (.lst xs.dropLast)))
 | .extend=>at1 l fun t=>Rr t fun m=>∃xs ys,Z3 M n=some xs∧Z3 M m=some ys∧xs.length+ys.length≤sizeLine∧Q .non (M.set n (.lst (xs++ys)))
noncomputable def isTx(m:Mt):Bool:=match m with
 | .split | .join | .starts | .ends | .lstrip=>true
 | _=>false
def mtK(m:Mt)(o:D)(M:Z2):Prop:=onSR o (fun _=>isTx m=true) fun n=>match m with
 | .split=>False
 | .join=>False
 | .starts=>False
 | .lstrip=>False
 | .ends=>False
 | _=>(Za M n).isSome=true
def tgD:List Nat→D→DEnv→(DEnv→Prop)→Prop
 | [i],d,σ,Q=>Q (σ.set i (some d))
 | is,.tup ds,σ,Q=>ds.length=is.length∧Q ((is.zip ds).foldl (fun σ p=>σ.set p.1 (some p.2)) σ)
 | _,_,_,_=>False
inductive Own where
 | no | lst (n:Nat) | enm (n:Nat) | dct (n:Nat) | two (n m:Nat)
noncomputable def Yp1(kvs:List (Key×D)):List D:=kvs.map fun p=>kD p.1
noncomputable def Yo3(xs:List D):List D:=xs.mapIdx fun i d=> .tup [.int i,d]
noncomputable def zipT(ys zs:List D):List D:=(ys.zip zs).map fun p=>D.tup [p.1,p.2]
def zip2(M:Z2)(a b:D)(Q:Own→List D→Prop):Prop:=match a with
 | .ref n=>Rr b fun m=>∃ys zs,Za M n=some ys∧Za M m=some zs∧Q (.two n m) (zipT ys zs)
 | .tup ys=>Z87 b fun zs=>Q .no (zipT ys zs)
 | _=>False
def itD(M:Z2):D→(Own→List D→Prop)→Prop
 | .ref n,R=>∃xs,Za M n=some xs∧R (.lst n) xs
 | .tup xs,R=>R .no xs
 | .gtup xs,R=>R .no xs
 | .str x,R=>R .no (J9 x)
 | _,_=>False
noncomputable def Jb(lo:Int)(n:Nat):List D:=(Hi n).map fun(k:Nat)=>D.int (lo+(k:Int))
def O4(own:Own)(xs:List D)(M:Z2):Prop:=match own with
 | .lst n=>Za M n=some xs
 | .enm n=>∃ys,Za M n=some ys∧xs=Yo3 ys
 | .dct n=>∃kvs,M[n]?=some (.fdc kvs)∧xs=Yp1 kvs
 | .two n m=>∃ys zs,Za M n=some ys∧Za M m=some zs∧xs=zipT ys zs
 | .no=>True
def forD(own:Own)(xs:List D)(tg:List Nat)(body:DS):List D→DEnds→DEnv→Z2→Prop
 | [],R,σ,M=>O4 own xs M∧R.nx σ M
 | d::r,R,σ,M=>O4 own xs M∧tgD tg d σ fun σ'=>body {nx:=fun σ2 M2=>forD own xs tg body r R σ2 M2,rt:=R.rt,bk:=R.nx,ct:=fun σ2 M2=>forD own xs tg body r R σ2 M2} σ' M
def Pb(own:Own)(xs:List D)(tg:List Nat)(cd:DT)(el:DE)(z:Nat):List D→DEnv→Z2→(Z2→Prop)→Prop
 | [],_,M,Q=>O4 own xs M∧Q M
 | d::r,σ,M,Q=>O4 own xs M∧tgD tg d σ fun σ'=>cd σ' M fun b M1=>if b=true then
   el σ' M1 fun y M2=>∃acc,Z3 M2 z=some acc∧acc.length<sizeLine∧Pb own xs tg cd el z r σ' (M2.set z (.lst (acc++[y]))) Q
   else Pb own xs tg cd el z r σ' M1 Q
noncomputable def capD(js:List (Option Nat))(σ:DEnv):DEnv:=js.map fun o=>o.bind fun j=>(σ[j]?).join
abbrev noX:DX:=fun _ _ _=>False
structure Cfg where
 K:Ad
 Γ:List DSp
 G:List D
mutual
def te(c:Cfg)(X:DX):E→DE
 | .var i,σ,M,Q=>match σ[i]? with
  | some (some d)=>Q d M
  | _=>False
 | .int i,_,M,Q=>Q (.int i) M
 | .bl b,_,M,Q=>Q (.bl b) M
 | .non,_,M,Q=>Q .non M
 | .str x,_,M,Q=>Q (.str x) M
 | .ty n,_,M,Q=>Q (.ty (Ym n)) M
 | .glb k,_,M,Q=>match c.G[k]? with
  | some d=>Q d M
  | none=>False
 | .bin op a b,σ,M,Q=>te c X a σ M fun x M1=>te c X b σ M1 fun y M2=>opD op x y M2 Q
 | .neg a,σ,M,Q=>te c X a σ M fun x M1=>match x with
  | .int i=>Q (.int (-i)) M1
  | _=>False
 | .not a,σ,M,Q=>te c X a σ M fun x M1=>truD M1 x fun b=>Q (.bl (!b)) M1
 | .cmp op a b,σ,M,Q=>te c X a σ M fun x M1=>te c X b σ M1 fun y M2=>cmD M2 op x y fun r=>Q (.bl r) M2
 | .bop k es,σ,M,Q=>tbop c X k es σ M Q
 | .lst es,σ,M,Q=>tes c X es σ M fun ds M1=>ds.length≤sizeLine∧Q (.ref M1.length) (M1++[.lst ds])
 | .tup es,σ,M,Q=>tes c X es σ M fun ds M1=>ds.length≤sizeLine∧Q (.tup ds) M1
 | .ix a b,σ,M,Q=>te c X a σ M fun x M1=>te c X b σ M1 fun y M2=>ixD M2 x y fun d=>Q d M2
 | .sl a lo hi,σ,M,Q=>te c X a σ M fun x M1=>teo c X lo σ M1 fun l M2=>teo c X hi σ M2 fun h M3=>slD x l h M3 Q
 | .call f es,σ,M,Q=>tes c X es σ M fun ds M1=>match c.Γ[f]? with
  | some sp=>sp ds M1 Q X
  | none=>False
 | .bf b es,σ,M,Q=>tes c X es σ M fun ds M1=>bfD c.K b ds M1 Q
 | .slW a lo hi,σ,M,Q=>te c X a σ M fun x M1=>teo c X lo σ M1 fun l M2=>teo c X hi σ M2 fun h M3=>Z87 x fun xs=>Q (.tup (cutD xs l h)) M3
 | .setf b a,σ,M,Q=>te c X a σ M fun x M1=>Rr x fun n=>setD b n M1 Q
 | .lrev a,σ,M,Q=>te c X a σ M fun x M1=>Rr x fun n=>∃xs,Za M1 n=some xs∧Q (.ref M1.length) (M1++[.lst xs.reverse])
 | .fstr es,σ,M,Q=>tfs c X es Str.empty σ M fun x M1=>Q (.str x) M1
 | .allf a,σ,M,Q=>te c X a σ M fun x M1=>Rr x fun n=>∃bs:List Bool,Za M1 n=some (bs.map .bl)∧Q (.bl (bs.all id)) M1
 | .anyf a,σ,M,Q=>te c X a σ M fun x M1=>Rr x fun n=>∃bs:List Bool,Za M1 n=some (bs.map .bl)∧Q (.bl (bs.any id)) M1
 | .mt m o es,σ,M,Q=>te c X o σ M fun x M1=>mtK m x M1∧tes c X es σ M1 fun ds M2=>mtD m x ds M2 Q
 | .comp _ js tg it cd e,σ,M,Q=>tit c X it σ M fun own xs M1=>Pb own xs tg (tcd c noX cd) (te c noX e) M1.length xs (capD js σ) (M1++[.lst []]) fun M2=>Q (.ref M1.length) M2
def tbop(c:Cfg)(X:DX)(k:Bool):Es→DE
 | .nil,_,_,_=>False
 | .cons e .nil,σ,M,Q=>te c X e σ M Q
 | .cons e (.cons e2 r),σ,M,Q=>te c X e σ M fun x M1=>truD M1 x fun b=>if b=k then tbop c X k (.cons e2 r) σ M1 Q else Q x M1
def tfs(c:Cfg)(X:DX):Es→Str→DEnv→Z2→(Str→Z2→Prop)→Prop
 | .nil,o,_,M,Q=>o.length≤sizeLine∧Q o M
 | .cons e r,o,σ,M,Q=>te c X e σ M fun d M1=>onIS d (fun i=>i.natAbs.log2<1920∧(o++(toString i:String):Str).length≤sizeLine∧tfs c X r (o++(toString i:String)) σ M1 Q) fun y=>y.length≤sizeLine∧(o++y).length≤sizeLine∧tfs c X r (o++y) σ M1 Q
def tes(c:Cfg)(X:DX):Es→DA
 | .nil,_,M,Q=>Q [] M
 | .cons e r,σ,M,Q=>te c X e σ M fun d M1=>tes c X r σ M1 fun ds M2=>Q (d::ds) M2
def teo(c:Cfg)(X:DX):Eo→DEnv→Z2→(Option Int→Z2→Prop)→Prop
 | .no,_,M,Q=>Q none M
 | .yes e,σ,M,Q=>te c X e σ M fun d M1=>match d with
  | .int i=>Q (some i) M1
  | _=>False
def tcd(c:Cfg)(X:DX):Eo→DT
 | .no,_,M,Q=>Q true M
 | .yes e,σ,M,Q=>te c X e σ M fun x M1=>truD M1 x fun b=>Q b M1
def tit(c:Cfg)(X:DX):It→DEnv→Z2→(Own→List D→Z2→Prop)→Prop
 | .seq e,σ,M,Q=>te c X e σ M fun d M1=>itD M1 d fun own xs=>Q own xs M1
 | .rng1 a,σ,M,Q=>te c X a σ M fun d M1=>match d with
  | .int j=> -(2 ^ 62)≤j∧j<2 ^ 62∧Q .no (Jb 0 j.toNat) M1
  | _=>False
 | .zip es,σ,M,Q=>tes c X es σ M fun ds M1=>at2 ds fun a b=>zip2 M1 a b fun o xs=>Q o xs M1
end
theorem evar9{c X i σ M Q}:te c X (.var i) σ M Q=(match σ[i]? with|some (some d)=>Q d M|_=>False):=rfl
theorem eint9{c X i u1 M Q}:te c X (.int i) u1 M Q=(Q (.int i) M):=rfl
theorem ebl9{c X b u1 M Q}:te c X (.bl b) u1 M Q=(Q (.bl b) M):=rfl
theorem enon9{c X u1 M Q}:te c X .non u1 M Q=(Q .non M):=rfl
theorem estr9{c X x u1 M Q}:te c X (.str x) u1 M Q=(Q (.str x) M):=rfl
theorem ety9{c X n u1 M Q}:te c X (.ty n) u1 M Q=(Q (.ty (Ym n)) M):=rfl
theorem eglb9{c X k u1 M Q}:te c X (.glb k) u1 M Q=(match c.G[k]? with|some d=>Q d M|none=>False):=rfl
theorem ebin9{c X op a b σ M Q}:te c X (.bin op a b) σ M Q=(te c X a σ M fun x M1=>te c X b σ M1 fun y M2=>opD op x y M2 Q):=rfl
theorem eneg9{c X a σ M Q}:te c X (.neg a) σ M Q=(te c X a σ M fun x M1=>match x with|.int i=>Q (.int (-i)) M1|_=>False):=rfl
theorem enot9{c X a σ M Q}:te c X (.not a) σ M Q=(te c X a σ M fun x M1=>truD M1 x fun b=>Q (.bl (!b)) M1):=rfl
theorem ecmp9{c X op a b σ M Q}:te c X (.cmp op a b) σ M Q=(te c X a σ M fun x M1=>te c X b σ M1 fun y M2=>cmD M2 op x y fun r=>Q (.bl r) M2):=rfl
theorem ebop9{c X k es σ M Q}:te c X (.bop k es) σ M Q=(tbop c X k es σ M Q):=rfl
theorem elst9{c X es σ M Q}:te c X (.lst es) σ M Q=(tes c X es σ M fun ds M1=>ds.length≤sizeLine∧Q (.ref M1.length) (M1++[.lst ds])):=rfl
theorem etup9{c X es σ M Q}:te c X (.tup es) σ M Q=(tes c X es σ M fun ds M1=>ds.length≤sizeLine∧Q (.tup ds) M1):=rfl
theorem eix9{c X a b σ M Q}:te c X (.ix a b) σ M Q=(te c X a σ M fun x M1=>te c X b σ M1 fun y M2=>ixD M2 x y fun d=>Q d M2):=rfl
theorem esl9{c X a lo hi σ M Q}:te c X (.sl a lo hi) σ M Q=(te c X a σ M fun x M1=>teo c X lo σ M1 fun l M2=>teo c X hi σ M2 fun h M3=>slD x l h M3 Q):=rfl
theorem ecall9{c X f es σ M Q}:te c X (.call f es) σ M Q=(tes c X es σ M fun ds M1=>match c.Γ[f]? with|some sp=>sp ds M1 Q X|none=>False):=rfl
theorem ebf9{c X b es σ M Q}:te c X (.bf b es) σ M Q=(tes c X es σ M fun ds M1=>bfD c.K b ds M1 Q):=rfl
theorem eslW9{c X a lo hi σ M Q}:te c X (.slW a lo hi) σ M Q=(te c X a σ M fun x M1=>teo c X lo σ M1 fun l M2=>teo c X hi σ M2 fun h M3=>Z87 x fun xs=>Q (.tup (cutD xs l h)) M3):=rfl
theorem esetf9{c X b a σ M Q}:te c X (.setf b a) σ M Q=(te c X a σ M fun x M1=>Rr x fun n=>setD b n M1 Q):=rfl
theorem elrev9{c X a σ M Q}:te c X (.lrev a) σ M Q=(te c X a σ M fun x M1=>Rr x fun n=>∃xs,Za M1 n=some xs∧Q (.ref M1.length) (M1++[.lst xs.reverse])):=rfl
theorem efstr9{c X es σ M Q}:te c X (.fstr es) σ M Q=(tfs c X es Str.empty σ M fun x M1=>Q (.str x) M1):=rfl
theorem eallf9{c X a σ M Q}:te c X (.allf a) σ M Q=(te c X a σ M fun x M1=>Rr x fun n=>∃bs:List Bool,Za M1 n=some (bs.map .bl)∧Q (.bl (bs.all id)) M1):=rfl
theorem eanyf9{c X a σ M Q}:te c X (.anyf a) σ M Q=(te c X a σ M fun x M1=>Rr x fun n=>∃bs:List Bool,Za M1 n=some (bs.map .bl)∧Q (.bl (bs.any id)) M1):=rfl
theorem emt9{c X m o es σ M Q}:te c X (.mt m o es) σ M Q=(te c X o σ M fun x M1=>mtK m x M1∧tes c X es σ M1 fun ds M2=>mtD m x ds M2 Q):=rfl
theorem ecomp9{c X u1 js tg it cd e σ M Q}:te c X (.comp u1 js tg it cd e) σ M Q=(tit c X it σ M fun own xs M1=>Pb own xs tg (tcd c noX cd) (te c noX e) M1.length xs (capD js σ) (M1++[.lst []]) fun M2=>Q (.ref M1.length) M2):=rfl
def augD:Op→D→D→(D→Prop)→Prop
 | .add,.int i,.int j,Q=>Q (.int (i+j))
 | .sub,.int i,.int j,Q=>Q (.int (i - j))
 | _,_,_,_=>False
def tt(c:Cfg)(X:DX)(e:E):DT:=fun σ M Q=>te c X e σ M fun x M1=>truD M1 x fun b=>Q b M1
mutual
def ts(c:Cfg)(X:DX):S→DS
 | .never,_,_,_=>False
 | .ret e,R,σ,M=>te c X e σ M R.rt
 | .expr e,R,σ,M=>te c X e σ M fun _ M1=>R.nx σ M1
 | .setL tg e,R,σ,M=>te c X e σ M fun d M1=>Rr d fun n=>∃ds,Za M1 n=some ds∧ds.length=tg.length∧R.nx ((tg.zip ds).foldl (fun σ p=>σ.set p.1 (some p.2)) σ) M1
 | .set tg e,R,σ,M=>te c X e σ M fun d M1=>tgD tg d σ fun σ'=>R.nx σ' M1
 | .aug op j e,R,σ,M=>match σ[j]? with
  | some (some x)=>te c X e σ M fun y M1=>augD op x y fun z=>R.nx (σ.set j (some z)) M1
  | _=>False
 | .put o i v,R,σ,M=>te c X v σ M fun d M1=>te c X o σ M1 fun x M2=>te c X i σ M2 fun y M3=>match x with
  | .ref n=>(∃xs k j,y= .int k∧Z3 M3 n=some xs∧ixN xs.length k=some j∧R.nx σ (M3.set n (.lst (xs.set j d))))∨
    (∃kvs k,Sf M3 n=some kvs∧keyD y=some k∧kvs.length<sizeLine∧R.nx σ (M3.set n (.dct (putD kvs k d))))
  | _=>False
 | .ite t a b,R,σ,M=>tt c X t σ M fun r M1=>if r=true then tss c X a R σ M1 else tss c X b R σ M1
 | .for_ tg it b,R,σ,M=>tit c X it σ M fun own xs M1=>forD own xs tg (tss c X b) xs R σ M1
 | .while_ t b,R,σ,M=>∃W:Nat→DEnv→Z2→Prop,(∃m,W m σ M)∧∀m σ M,W m σ M→tt c X t σ M fun r M1=>if r=true then
   tss c X b {nx:=fun σ2 M2=>∃m',m'<m∧W m' σ2 M2,rt:=R.rt,bk:=R.nx,ct:=fun σ2 M2=>∃m',m'<m∧W m' σ2 M2} σ M1 else R.nx σ M1
def tss(c:Cfg)(X:DX):Ss→DS
 | .nil,R,σ,M=>R.nx σ M
 | .cons s r,R,σ,M=>ts c X s {R with nx:=fun σ' M'=>tss c X r R σ' M'} σ M
end
def REnv(w:Vw)(σD:DEnv)(σ:L2.St):Prop:=σD.length=σ.length∧∀(i:Nat) d,σD[i]?=some (some d)→∃v,σ[i]?=some (some v)∧RD w d v
theorem REnv.ext(h:REnv w σD σ)(x:Ext w w'):REnv w' σD σ:=
 ⟨h.1,fun i d e=>by obtain⟨v,q,r⟩:=h.2 i d e;exact⟨v,q,r.ext x⟩⟩
theorem REnv.set{d:D}{v:V}(h:REnv w σD σ)(i:Nat)(r:RD w d v):REnv w (σD.set i (some d)) (σ.set i (some v)):=by
 refine⟨by simp[h.1],fun j d' e=>?_⟩
 by_cases hj:i=j
 ·subst hj
  by_cases hl:i<σD.length
  ·rw[Hz hl] at e
   cases e
   exact⟨v,by rw[Hz (by rw[←h.1];exact hl)],r⟩
  ·rw[Ko (by simp;omega)] at e
   cases e
 ·rw[Dt hj] at e
  rw[Dt hj]
  exact h.2 j d' e
structure StOk(w0 w:Vw)(σD:DEnv)(M:Z2)(σ:L2.St)(H:Hp):Prop where
 heap:w.H=H
 ext:Ext w0 w
 rs:RS w M
 env:REnv w σD σ
theorem StOk.next{H:Hp}(s:StOk w0 w σD M σ H)(x:Ext w w')(r:RS w' M'):StOk w0 w' σD M' σ w'.H:=
 ⟨rfl,s.ext.trans x,r,s.env.ext x⟩
def Aft(w:Vw)(QD:DK)(Q:VK):Prop:=∀v w' d M',Ext w w'→RS w' M'→RD w' d v→QD d M'→Q v w'.H
def tF(w0:Vw)(f:DE):TE:=fun σ H Q=>∃w σD M QD,StOk w0 w σD M σ H∧f σD M QD∧Aft w QD Q
def tFA(w0:Vw)(f:DA):TA:=fun σ H Q=>∃w σD M QD,StOk w0 w σD M σ H∧f σD M QD∧∀vs w' ds M',Ext w w'→RS w' M'→RDs w' ds vs→QD ds M'→Q vs w'.H
def tFT(w0:Vw)(f:DT):TT:=fun σ H Q=>∃w σD M QD,StOk w0 w σD M σ H∧f σD M QD∧∀b w' M',Ext w w'→RS w' M'→QD b M'→Q b w'.H
def tFO(w0:Vw)(f:DEnv→Z2→(Option Int→Z2→Prop)→Prop):TO:=fun σ H Q=>∃w σD M QD,StOk w0 w σD M σ H∧f σD M QD∧∀b w' M',Ext w w'→RS w' M'→QD b M'→Q b w'.H
def tFS(w0:Vw)(f:DS):TS:=fun R σ H=>∃w σD M RD',StOk w0 w σD M σ H∧f RD' σD M∧
 (∀σ' w' σD' M',Ext w w'→RS w' M'→REnv w' σD' σ'→RD'.nx σD' M'→R.nx σ' w'.H)∧Aft w RD'.rt R.rt∧
 (∀σ' w' σD' M',Ext w w'→RS w' M'→REnv w' σD' σ'→RD'.bk σD' M'→R.bk σ' w'.H)∧
 (∀σ' w' σD' M',Ext w w'→RS w' M'→REnv w' σD' σ'→RD'.ct σD' M'→R.ct σ' w'.H)
def xkOf(w:Vw)(Z:DX):XK:=fun cls dd H'=>∃C dx r w' row M',cls= .ref C∧dd=some dx∧w'.H=H'∧Ext w w'∧RS w' M'∧H' dx=some (.xd [("row",r)])∧RD w' row r∧Z C row M'
def spF(K:Ad)(sp:DSp):Sp:=fun vs H Q E=>∃w ds M QD Z,w.K=K∧w.H=H∧RS w M∧RDs w ds vs∧sp ds M QD Z∧Aft w QD Q∧∀cls dd H',xkOf w Z cls dd H'→E cls dd H'
theorem Aft.ext(h:Aft w QD Q)(x:Ext w w'):Aft w' QD Q:=fun v w2 d M y r q p=>h v w2 d M (x.trans y) r q p
section
variable{X:Cx}{e:Expr}{w0:Vw}
theorem PE.imp{t t':TE}(h:PE X e t)(k:∀σ H Q,t' σ H Q→t σ H Q):PE X e t':=fun pins s σ H Q I q=>h pins s σ H Q I (k σ H Q q)
theorem PT.imp{t t':TT}(h:PT X e t)(k:∀σ H Q,t' σ H Q→t σ H Q):PT X e t':=fun pins s σ H Q I q=>h pins s σ H Q I (k σ H Q q)
theorem PA.imp{t t':TA}(h:PA X es t)(k:∀σ H Q,t' σ H Q→t σ H Q):PA X es t':=fun pos pins s σ H Q I q=>h pos pins s σ H Q I (k σ H Q q)
theorem PS.imp{st:Stmt}{t t':TS}(h:PS X st t)(k:∀R σ H,t' R σ H→t R σ H):PS X st t':=fun pins s σ H R I q=>h pins s σ H R I (k R σ H q)
theorem PSs.imp{st:List Stmt}{t t':TS}(h:PSs X st t)(k:∀R σ H,t' R σ H→t R σ H):PSs X st t':=fun pins s σ H R I q=>h pins s σ H R I (k R σ H q)
end
def rF(w0:Vw)(g:D→D→Z2→DK→Prop):R2:=fun x y H Q=>∃w M dx dy QD,w.H=H∧Ext w0 w∧RS w M∧RD w dx x∧RD w dy y∧g dx dy M QD∧Aft w QD Q
theorem Zg{i:Int}{v:V}:RD w (.int i) v↔v= .int i:=by unfold RD;exact Mf
theorem Zc{i:Str}{v:V}:RD w (.str i) v↔v= .str i:=by unfold RD;exact Mf
theorem Yj{i:Bool}{v:V}:RD w (.bl i) v↔v= .bl i:=by unfold RD;exact Mf
theorem Zx{v:V}:RD w .non v↔v= .non:=by unfold RD;exact Mf
theorem Y87{n:String}{v:V}:RD w (.ty n) v↔v= .ty n:=by unfold RD;exact Mf
theorem Zy0{n:Addr}{v:V}:RD w (.cls n) v↔v= .ref n:=by unfold RD;exact Mf
theorem Zj{i:Nat}{v:V}:RD w (.ref i) v↔i<w.n∧v= .ref (w.μ i):=by unfold RD;exact Mf
theorem Yb{v:V}:RD w (.tup ds) v↔∃a vs,v= .ref a∧w.H a=some (.tup vs)∧RDs w ds vs:=by unfold RD;exact Mf
theorem Yo{v:V}:RD w (.gtup ds) v↔∃a vs,v= .ref a∧SqT w.K w.H a vs∧RDs w ds vs:=by unfold RD;exact Mf
theorem Bg{v:V}:RD w (.exn e C dx row) v↔v= .ref e∧w.H e=some (XO e (.ref C) (some dx))∧∃r,w.H dx=some (.xd [("row",r)])∧RD w row r:=Iff.of_eq (by rw[RD])
theorem RDs.empty(h:RDs w ds []):ds=[]:=by
 have:=h.length
 exact List.length_eq_zero_iff.mp this.symm
theorem Y83{n:Nat}(h:Z3 M n=some xs):Za M n=some xs:=by
 unfold Z3 at h
 unfold Za
 split at h
 ·rename_i e;rw[e];exact h
 ·cases h
theorem Nz{n:Nat}(h:Z3 M n=some xs):M[n]?=some (.lst xs):=by
 unfold Z3 at h
 split at h
 ·rename_i e;rw[e];cases h;rfl
 ·cases h
theorem Bc{n:Nat}(h:Sf M n=some xs):M[n]?=some (.dct xs):=by
 unfold Sf at h
 split at h
 ·rename_i e;rw[e];cases h;rfl
 ·cases h
theorem RS.list{n:Nat}(R:RS w M)(h:Z3 M n=some xs):M[n]?=some (.lst xs)∧∃vs,w.H (w.μ n)=some (.lst vs)∧RDs w xs vs:=
 ⟨Nz h,R.cell n _ (Nz h)⟩
theorem RS.listL{n:Nat}(R:RS w M)(h:Za M n=some xs):n<w.n∧∃vs,SqL w.K w.H (w.μ n) vs∧RDs w xs vs∧True:=by
 unfold Za at h
 split at h
 ·rename_i ys e
  cases h
  obtain⟨vs,q,r⟩:=R.cell n _ e
  exact⟨by rw[R.len];exact(Af.mp e).1,vs,.inl (.inl q),r,trivial⟩
 ·rename_i ys e
  cases h
  obtain⟨vs,q,r⟩:=R.cell n _ e
  exact⟨by rw[R.len];exact(Af.mp e).1,vs,q.sq,r,trivial⟩
 ·cases h
theorem RS.dictF{n:Nat}(R:RS w M)(h:Zz4 M n=some xs):∃vs,Rd w.H (w.μ n) (.dK vs)∧RKV w xs vs:=by
 unfold Zz4 at h
 split at h
 ·rename_i ys e
  cases h
  obtain⟨vs,q1,q2⟩:=R.cell n _ e
  exact⟨vs,.inl q1,q2⟩
 ·rename_i ys e
  cases h
  obtain⟨o,vs,q1,q2⟩:=R.cell n _ e
  exact⟨vs,.inr ⟨o,q1⟩,q2⟩
 ·cases h
theorem RS.dict{n:Nat}(R:RS w M)(h:Sf M n=some xs):M[n]?=some (.dct xs)∧∃vs,w.H (w.μ n)=some (.dK vs)∧RKV w xs vs:=
 ⟨Bc h,R.cell n _ (Bc h)⟩
theorem Xm{p:Addr}(R:RS w M)(hp:w.H p=none)(r:RDs w xs vs):Ext w (w.push p (.lst vs))∧RS (w.push p (.lst vs)) (M++[.lst xs])∧RD (w.push p (.lst vs)) (.ref M.length) (.ref p):=by
 refine⟨Ny hp,R.push hp ⟨vs,Yt,r.ext (Ny hp)⟩,Zj.mpr ⟨?_,?_⟩⟩
 ·show M.length<w.n+1
  rw[R.len];omega
 ·show V.ref p=V.ref (if M.length=w.n then p else w.μ M.length)
  rw[if_pos R.len.symm]
theorem Vm{p:Addr}(R:RS w M)(hp:w.H p=none)(r:RDs w xs vs):Ext w (w.alloc p (.tup vs))∧RS (w.alloc p (.tup vs)) M∧RD (w.alloc p (.tup vs)) (.tup xs) (.ref p):=
 ⟨Tu hp,R.alloc hp,Yb.mpr ⟨p,vs,rfl,Yt,r.ext (Tu hp)⟩⟩
theorem Yl{n:Nat}(R:RS w M)(hn:M[n]?=some (.lst ys))(h:w.H (w.μ n)=some (.lst us))(r:RDs w xs vs):Ext w (w.alloc (w.μ n) (.lst vs))∧RS (w.alloc (w.μ n) (.lst vs)) (M.set n (.lst xs)):=
 ⟨Xz h rfl,R.write hn rfl rfl h rfl ⟨vs,Yt,r.ext (Xz h rfl)⟩⟩
theorem Z50{n:Nat}(R:RS w M)(hn:M[n]?=some (.dct ys))(h:w.H (w.μ n)=some (.dK us))(r:RKV w xs vs):Ext w (w.alloc (w.μ n) (.dK vs))∧RS (w.alloc (w.μ n) (.dK vs)) (M.set n (.dct xs)):=
 ⟨Xz h rfl,R.write hn rfl rfl h rfl ⟨vs,Yt,r.ext (Xz h rfl)⟩⟩
section
variable{X:Cx}{w0:Vw}
theorem Sv{f:Value→Value→Sem Value}{g:Int→Int→V}{o:D→D→Z2→DK→Prop}{C:Int→Int→Prop}{k:Int→Int→D}(h:OpR X f (rI C g))(hk:∀w i j,RD w (k i j) (g i j))
  {pins:List (Addr×Obj)} {s:Shared} {σ:L2.St} {x y:V} {v u:Value} {Q:VK} {w:Vw} {M:Z2} {QD:DK} {i j:Int} (I:Inv X pins σ w.H s) (rx:RelV x v) (ry:RelV y u) (R:RS w M) (hx:RD w (.int i) x) (hy:RD w (.int j) y)
  (hc:C i j) (q:QD (k i j) M) (a:Aft w QD Q):wpAny (model X.prog X.w) X.A (f v u) (EP X pins σ Q) X.xe s:=by
 cases Zg.mp hx
 cases Zg.mp hy
 exact h pins s σ w.H _ _ v u Q I rx ry ⟨i,j,rfl,rfl,hc,a _ w _ M (Ext.refl w) R (hk w i j) q⟩
noncomputable def opOf:Op→Operator
 | .add=> .Add | .sub=> .Sub | .mul=> .Mult | .fdiv=> .FloorDiv | .mod=> .Mod | .pow=> .Pow
theorem Yc0(h:OpR X f (rI0 g)):OpR X f (rI (fun _ _=>True) g):=fun pins s σ H x y v u Q I rx ry zz63=>by obtain⟨i,j,e1,e2,_,q⟩:=zz63;exact h pins s σ H x y v u Q I rx ry ⟨i,j,e1,e2,q⟩
theorem RDs.rep(h:RDs w xs vs):∀n:Nat,RDs w (Df n xs).flatten (Df n vs).flatten
 | 0=>RDs.nil w
 | n+1=>by
  rw[Ie,Ie,Kr,Kr]
  exact h.append (RDs.rep h n)
theorem Zt7(op:Op):OpR X (binaryOp (opOf op)) (rF w0 (opD op)):=by
 intro pins s σ H x y v u Q I rx ry h
 obtain⟨w,M,dx,dy,QD,rfl,e0,R,hx,hy,g,a⟩:=h
 have ri:∀w (i:Int),RD w (.int i) (.int i):=fun w i=>Zg.mpr rfl
 cases op with
 | add=>
  cases dx with
  | int i=>
   obtain⟨j,rfl,g2⟩:=Xj g;clear g;have g:=g2
   exact Sv (o:=opD .add) (C:=fun _ _=>True) (k:=fun i j=> .int (i+j)) (Yc0 Yd6) (fun w i j=>ri w _) I rx ry R hx hy trivial g a
  | str z=>
   cases dy with
   | str z2=>
    cases Zc.mp hx;cases Zc.mp hy
    exact Z34 pins s σ w.H _ _ v u Q I rx ry ⟨_,_,rfl,rfl,g.1,a _ w _ M (Ext.refl w) R (Zc.mpr rfl) g.2⟩
   | _=>exact Di g
  | tup l=>
   obtain⟨l2,rfl,g2⟩:=Q8 g;clear g;have g:=g2
   obtain⟨a1,vs1,rfl,h1,r1⟩:=Yb.mp hx
   obtain⟨a2,vs2,rfl,h2,r2⟩:=Yb.mp hy
   obtain⟨g1,g2,g3⟩:=g
   refine Y94 pins s σ w.H _ _ v u Q I rx ry ⟨a1,a2,vs1,vs2,rfl,rfl,.of h1,.of h2,?_,by rw[r1.length,r2.length];exact g2,fun z=>?_,fun _ p hp=>?_⟩
   ·intro z;subst z;have:=r1.length;simp at this;exact g1 (List.length_eq_zero_iff.mp this.symm)
   ·subst z
    cases r2.empty
    rw[Db] at g3
    exact a _ w _ M (Ext.refl w) R hx g3
   ·obtain⟨x1,x2,x3⟩:=Vm R hp (r1.append r2)
    exact a _ _ _ M x1 x2 x3 g3
  | ref n=>
   obtain⟨n2,rfl,g2⟩:=Zy g;clear g;have g:=g2
   obtain⟨h1,rfl⟩:=Zj.mp hx
   obtain⟨h2,rfl⟩:=Zj.mp hy
   obtain⟨xs,ys,g1,g2,g3,g4⟩:=g
   obtain⟨_,vs1,q1,r1⟩:=R.list g1
   obtain⟨_,vs2,q2,r2⟩:=R.list g2
   refine Yh8 pins s σ w.H _ _ v u Q I rx ry ⟨_,_,vs1,vs2,rfl,rfl,q1,q2,by rw[r1.length,r2.length];exact g3,fun p hp=>?_⟩
   obtain⟨x1,x2,x3⟩:=Xm R hp (r1.append r2)
   exact a _ _ _ _ x1 x2 x3 g4
  | _=>exact Di g
 | mul=>
  cases dx with
  | str z=>
   obtain⟨k,rfl,g2⟩:=Xj g;clear g;have g:=g2
   cases Zc.mp hx
   cases Zg.mp hy
   exact Y18 I rx ry g.1 (a _ w _ M (Ext.refl w) R (Zc.mpr rfl) g.2)
  | int i=>
   obtain⟨j,rfl,g2⟩:=Xj g;clear g;have g:=g2
   exact Sv (o:=opD .add) (C:=IntMulOk) (k:=fun i j=> .int (i * j)) Y11 (fun w i j=>ri w _) I rx ry R hx hy g.1 g.2 a
  | ref n=>
   obtain⟨k,rfl,g2⟩:=Xj g;clear g;have g:=g2
   obtain⟨h1,rfl⟩:=Zj.mp hx
   cases Zg.mp hy
   obtain⟨xs,g1,g2,g3,g4,g5⟩:=g
   obtain⟨_,vs1,q1,r1⟩:=R.list g1
   refine Yd9 pins s σ w.H _ _ v u Q I rx ry ⟨_,_,vs1,rfl,rfl,q1,by omega,by omega,by rw[r1.length];exact g4,fun p hp=>?_⟩
   obtain⟨x1,x2,x3⟩:=Xm R hp (r1.rep _)
   exact a _ _ _ _ x1 x2 x3 g5
  | _=>exact Di g
 | sub=>
  obtain⟨i,j,rfl,rfl,g2⟩:=Yd g;clear g;have g:=g2
  exact Sv (o:=opD .add) (C:=fun _ _=>True) (k:=fun i j=> .int (i - j)) (Yc0 Yh1) (fun w i j=>ri w _) I rx ry R hx hy trivial g a
 | fdiv=>
  obtain⟨i,j,rfl,rfl,g2⟩:=Yd g;clear g;have g:=g2
  exact Sv (o:=opD .add) (C:=Z84) (k:=fun i j=> .int (qdiv i j)) Zs4 (fun w i j=>by rw[Y67];exact ri w _) I rx ry R hx hy g.1 g.2 a
 | mod=>
  obtain⟨i,j,rfl,rfl,g2⟩:=Yd g;clear g;have g:=g2
  exact Sv (o:=opD .add) (C:=fun _ j=>j≠0) (k:=fun i j=> .int (qmod i j)) Zz7 (fun w i j=>by rw[Zz8];exact ri w _) I rx ry R hx hy g.1 g.2 a
 | pow=>
  obtain⟨i,j,rfl,rfl,g2⟩:=Yd g;clear g;have g:=g2
  exact Sv (o:=opD .add) (C:=CPow) (k:=fun i j=> .int (i ^ j.toNat)) Yc7 (fun w i j=>ri w _) I rx ry R hx hy g.1 g.2 a
end
def rB(w0:Vw)(g:Z2→D→D→(Bool→Prop)→Prop):R2:=fun x y H Q=>∃w M dx dy QD,w.H=H∧w.K=w0.K∧RS w M∧RD w dx x∧RD w dy y∧g M dx dy QD∧∀b,QD b→Q (.bl b) H
mutual
theorem Jx(R:RS w M):∀(da:PyData) {d:D} {v:V},PD M da d→RD w d v→Rep w.K w.H da v
 | .none,d,v,h,r=>by unfold PD at h;subst h;unfold Rep;exact Zx.mp r
 | .bool b,d,v,h,r=>by unfold PD at h;subst h;unfold Rep;exact Yj.mp r
 | .int b,d,v,h,r=>by unfold PD at h;subst h;unfold Rep;exact Zg.mp r
 | .str b,d,v,h,r=>by unfold PD at h;subst h;unfold Rep;exact Zc.mp r
 | .list xs,d,v,h,r=>by
  unfold PD at h
  obtain⟨n,ds,rfl,h1,h2⟩:=h
  obtain⟨_,rfl⟩:=Zj.mp r
  obtain⟨_,vs,q1,q2,_⟩:=R.listL h1
  unfold Rep
  exact⟨_,vs,rfl,q1,Vz R xs h2 q2⟩
 | .tuple xs,d,v,h,r=>by
  unfold PD at h
  obtain⟨ds,h0,h2⟩:=h
  unfold Rep
  rcases h0 with rfl | rfl
  ·obtain⟨a,vs,rfl,q1,q2⟩:=Yb.mp r
   exact⟨_,vs,rfl,.of q1,Vz R xs h2 q2⟩
  ·obtain⟨a,vs,rfl,q1,q2⟩:=Yo.mp r
   exact⟨_,vs,rfl,q1,Vz R xs h2 q2⟩
 | .dict _,d,v,h,r=>by unfold PD at h;exact h.elim
theorem Vz(R:RS w M):∀(xs:List PyData) {ds:List D} {vs:List V},PDs M xs ds→RDs w ds vs→Xe w.K w.H xs vs
 | [],ds,vs,h,r=>by unfold PDs at h;subst h;unfold RDs at r;unfold Xe;exact r
 | x::xs,ds,vs,h,r=>by
  unfold PDs at h
  obtain⟨d,r',rfl,h1,h2⟩:=h
  unfold RDs at r
  obtain⟨v,r2,rfl,q1,q2⟩:=r
  unfold Xe
  exact⟨v,r2,rfl,Jx R x h1 q1,Vz R xs h2 q2⟩
end
theorem V1{d:D}{v:V}(f:Zs d=true)(r:RD w d v):X7 v=true:=by
 cases d<;>simp[Zs] at f
 ·cases Zx.mp r;rfl
 ·cases Yj.mp r;rfl
 ·cases Zg.mp r;rfl
 ·cases Zc.mp r;rfl
theorem Ey{d e:D}{v u:V}(f:Zs d=true)(g:Zs e=true)(r:RD w d v)(q:RD w e u):eqV v u=eqF d e:=by
 cases d<;>simp[Zs] at f
 all_goals (cases e<;>simp[Zs] at g)
 all_goals first
  |(first | cases Zx.mp r | cases Yj.mp r | cases Zg.mp r | cases Zc.mp r)
 all_goals first
  |(first | cases Zx.mp q | cases Yj.mp q | cases Zg.mp q | cases Zc.mp q)
 all_goals rfl
theorem Zy2{x:D}{v:V}(f:Zs x=true)(r:RD w x v):∀{ds:List D} {vs:List V},ds.all Zs=true→RDs w ds vs→inV v vs=inD x ds∧vs.all X7=true
 | [],vs,_,h=>by unfold RDs at h;subst h;exact⟨rfl,rfl⟩
 | d::ds,vs,g,h=>by
  unfold RDs at h
  obtain⟨v1,r1,rfl,h1,h2⟩:=h
  simp only[Ho,Bz9] at g
  obtain⟨i1,i2⟩:=Zy2 f r g.2 h2
  refine⟨?_,by simp only[Ho,Bz9];exact⟨V1 g.1 h1,i2⟩⟩
  unfold inV inD at *
  rw[Iu,Iu,Ey g.1 f h1 r,i1]
theorem RKV.val:∀{ds:List (Key×D)} {vs:List (Key×V)} (k:Key),RKV w ds vs→(valD ds k=none∧valV vs k=none)∨∃d v,valD ds k=some d∧valV vs k=some v∧RD w d v
 | [],vs,k,h=>by unfold RKV at h;subst h;exact .inl ⟨rfl,rfl⟩
 |(k',d)::ds,vs,k,h=>by
  unfold RKV at h
  obtain⟨v,r,rfl,h1,h2⟩:=h
  by_cases e:k'=k
  ·exact .inr ⟨d,v,by simp[valD,Iq,e],by simp[valV,Iq,e],h1⟩
  ·have:=RKV.val k h2
   simpa[valD,valV,Iq,e] using this
theorem RKV.length:∀{ds:List (Key×D)} {vs:List (Key×V)},RKV w ds vs→vs.length=ds.length
 | [],vs,h=>by unfold RKV at h;subst h;rfl
 |(k',d)::ds,vs,h=>by
  unfold RKV at h
  obtain⟨v,r,rfl,h1,h2⟩:=h
  simp[RKV.length h2]
theorem RKV.any(k:Key):∀{ds:List (Key×D)} {vs:List (Key×V)},RKV w ds vs→(vs.any fun kv=>decide (kv.1=k))=(ds.any fun kv=>decide (kv.1=k))
 | [],vs,h=>by unfold RKV at h;subst h;rfl
 |(k',d)::ds,vs,h=>by
  unfold RKV at h
  obtain⟨v,r,rfl,h1,h2⟩:=h
  simp[RKV.any k h2]
theorem RKV.repl{k:Key}{d:D}{v:V}(q:RD w d v):∀{ds:List (Key×D)} {vs:List (Key×V)},RKV w ds vs→RKV w (ds.map fun kv=>if kv.1=k then(kv.1,d) else kv) (vs.map fun kv=>if kv.1=k then(kv.1,v) else kv)
 | [],vs,h=>by unfold RKV at h;subst h;unfold RKV;rfl
 |(k',d')::ds,vs,h=>by
  unfold RKV at h
  obtain⟨v',r,rfl,h1,h2⟩:=h
  simp only[De]
  by_cases e:k'=k
  ·rw[if_pos e,if_pos e]
   unfold RKV
   exact⟨v,_,rfl,q,RKV.repl q h2⟩
  ·rw[if_neg e,if_neg e]
   unfold RKV
   exact⟨v',_,rfl,h1,RKV.repl q h2⟩
theorem RKV.snoc{k:Key}{d:D}{v:V}(q:RD w d v):∀{ds:List (Key×D)} {vs:List (Key×V)},RKV w ds vs→RKV w (ds++[(k,d)]) (vs++[(k,v)])
 | [],vs,h=>by unfold RKV at h;subst h;unfold RKV;exact⟨v,[],rfl,q,by unfold RKV;rfl⟩
 |(k',d')::ds,vs,h=>by
  unfold RKV at h
  obtain⟨v',r,rfl,h1,h2⟩:=h
  show RKV w ((k',d')::(ds++[(k,d)])) _
  unfold RKV
  exact⟨v',_,rfl,h1,RKV.snoc q h2⟩
theorem RKV.put{k:Key}{d:D}{v:V}(q:RD w d v)(h:RKV w ds vs):RKV w (putD ds k d) (putK vs k v):=by
 unfold putD putK
 rw[h.any k]
 split
 ·exact h.repl q
 ·exact h.snoc q
theorem Eg{d:D}{k:Key}{v:V}(h:keyD d=some k)(r:RD w d v):v=kV k:=by
 cases d<;>simp[keyD] at h
 ·subst h;exact Zg.mp r
 ·subst h;exact Zc.mp r
section
variable{X:Cx}{w0:Vw}
noncomputable def cmOf:Cm→CmpOp
 | .lt=> .Lt | .gt=> .Gt | .ge=> .GtE | .eq=> .Eq | .ne=> .NotEq | .is=> .Is | .isin=> .In | .inT=> .In | .notin=> .NotIn
theorem Yh2(hu:X.A.units+64<cLine):OpR X (compareOp .NotEq) (rEqD X.K true):=by
 intro pins s σ H x y v u Q I rx ry h
 obtain⟨da,db,h1,h2,h3,h4,h5,q⟩:=h
 obtain⟨as,q1⟩:=Rep.reads I da x v h1 rx
 obtain⟨bs,q2⟩:=Rep.reads I db y u h2 ry
 exact PySem.SeqAt.compareNe_reads q1 q2 h3 h4 (by omega) ⟨.bl _,H,I,rfl,q⟩
theorem Gx{w:Vw}{pins:List (Addr×Obj)}{σ:L2.St}{s:Shared}{A:Around}{b:List (Key×D)}{vb:List (Key×V)}{ub:List (Key×Value)}(rb:RKV w b vb)(kb:KV vb ub)(fb:(b.all fun kv=>Zs kv.2)=true):
  ∀{a:List (Key×D)} {va:List (Key×V)} {ua:List (Key×Value)},(a.all fun kv=>Zs kv.2)=true→RKV w a va→KV va ua→PySem.W.KeqHits A s ub ua (a.all fun kv=>match valD b kv.1 with
   | some y=>eqF kv.2 y
   | none=>false)
 | [],va,ua,_,h,k=>by
  unfold RKV at h;subst h
  cases k
  exact .nil
 |(k0,d)::a,va,ua,f,h,k=>by
  unfold RKV at h
  obtain⟨v,r,rfl,h1,h2⟩:=h
  simp only[Ho,Bz9] at f
  cases k with
  | @cons _ q _ ur hk kr=>
   obtain⟨k1,u⟩:=q
   obtain⟨e1,e2⟩:=hk
   dsimp only at e1 e2
   subst e1
   have ih:=Gx (A:=A) (s:=s) (pins:=pins) (σ:=σ) rb kb fb f.2 h2 kr
   rw[Ho]
   rcases rb.val k0 with⟨n1,n2⟩ | ⟨y,vy,n1,n2,n3⟩
   ·have hz:=kb.val k0
    rw[n2] at hz
    have hz':valueAt ub k0=none:=RelO.none_of hz
    simp only[n1,Bool.false_and]
    exact .miss hz'
   ·have hz:=kb.val k0
    rw[n2] at hz
    obtain⟨uy,ey,ry⟩:=hz.some_of
    have fy:Zs y=true:=by
     have hm:(k0,y)∈b:=by
      unfold valD at n1
      obtain⟨p,hp,e⟩:=Ia.mp n1
      have:=List.find?_some hp
      have hk:p.1=k0:=of_decide_eq_true this
      have:=List.mem_of_find?_eq_some hp
      rw[←e,←hk];exact this
     exact(Dj.mp fb) _ hm
    simp only[n1]
    refine .hit ey ?_ ih
    rw[←Ey f.1 fy h1 n3]
    exact Bt e2 ry (V1 f.1 h1) (V1 fy n3)
theorem W7:∀{ds:List D} {vs:List V},ds.all Zs=true→RDs w ds vs→vs.all X7=true
 | [],vs,_,r=>by unfold RDs at r;subst r;rfl
 | d::ds,vs,f,r=>by
  unfold RDs at r
  obtain⟨v,vr,rfl,h1,h2⟩:=r
  rw[Ho,Bz9] at f
  rw[Ho,V1 f.1 h1,W7 f.2 h2]
  rfl
theorem Bu(f:xs.all Zs=true)(g:ys.all Zs=true)(r:RDs w xs vs)(q:RDs w ys us):eqVs vs us=eqFs xs ys:=by
 unfold eqVs eqFs
 rw[r.length,q.length]
 congr 1
 have:∀j∈Hi (min xs.length ys.length),eqV (vs.getD j .non) (us.getD j .non)=eqF (xs.getD j .non) (ys.getD j .non):=by
  intro j hj
  rw[Hr] at hj
  have j1:j<xs.length:=by omega
  have j2:j<ys.length:=by omega
  obtain⟨v,e1,r1⟩:=r.get (Ae j1)
  obtain⟨u,e2,r2⟩:=q.get (Ae j2)
  rw[Dj] at f g
  simp only[Dk,e1,e2,Ae j1,Ae j2,Option.getD_some]
  exact Ey (f _ (Hg j1)) (g _ (Hg j2)) r1 r2
 rw[Bool.eq_iff_iff,Dj,Dj]
 constructor
 ·intro h j hj;rw[←this j hj];exact h j hj
 ·intro h j hj;rw[this j hj];exact h j hj
theorem Z20(hK:X.K=w0.K)(hu:X.A.units+64<cLine)(neg:Bool):OpR X (compareOp (if neg then .NotEq else .Eq)) (rB w0 fun M x y Q=>eqD M x y fun b=>Q (if neg then !b else b)):=by
 intro pins s σ H x y v u Q I rx ry h
 obtain⟨w,M,dx,dy,QD,rfl,e0,R,hx,hy,g,a⟩:=h
 have key:∀b:Bool,(scal x y=true∧decide (x=y)=b)→QD (if neg then !b else b)→wpAny (model X.prog X.w) X.A (compareOp (if neg then .NotEq else .Eq) v u) (EP X pins σ Q) X.xe s:=by
  rintro b ⟨h1,h2⟩ hq
  cases neg with
  | true=>exact Yn5 pins s σ w.H x y v u Q I rx ry ⟨h1,by rw[h2];exact a _ hq⟩
  | false=>exact Yk5 pins s σ w.H x y v u Q I rx ry ⟨h1,by rw[h2];exact a _ hq⟩
 have hs:∀b,eqS dx dy=some b→scal x y=true∧decide (x=y)=b:=by
  intro b h
  cases dx with
  | int i=>
   cases Zg.mp hx
   cases dy with
   | int j=>cases Zg.mp hy;cases h;exact⟨rfl,by simp⟩
   | str j=>cases Zc.mp hy;cases h;exact⟨rfl,by simp⟩
   | non=>cases Zx.mp hy;cases h;exact⟨rfl,by simp⟩
   | _=>cases h
  | str i=>
   cases Zc.mp hx
   cases dy with
   | str j=>cases Zc.mp hy;cases h;exact⟨rfl,by simp⟩
   | int j=>cases Zg.mp hy;cases h;exact⟨rfl,by simp⟩
   | non=>cases Zx.mp hy;cases h;exact⟨rfl,by simp⟩
   | bl j=>cases Yj.mp hy;cases h;exact⟨rfl,by simp⟩
   | _=>cases h
  | bl i=>
   cases Yj.mp hx
   cases dy with
   | bl j=>cases Yj.mp hy;cases h;exact⟨rfl,by simp⟩
   | non=>cases Zx.mp hy;cases h;exact⟨rfl,by simp⟩
   | str j=>cases Zc.mp hy;cases h;exact⟨rfl,by simp⟩
   | _=>cases h
  | non=>
   cases Zx.mp hx
   cases dy with
   | non=>cases Zx.mp hy;cases h;exact⟨rfl,by simp⟩
   | int j=>cases Zg.mp hy;cases h;exact⟨rfl,by simp⟩
   | bl j=>cases Yj.mp hy;cases h;exact⟨rfl,by simp⟩
   | str j=>cases Zc.mp hy;cases h;exact⟨rfl,by simp⟩
   | _=>cases h
  | _=>cases h
 unfold eqD at g
 cases hb:eqS dx dy with
 | some b=>
  rw[hb] at g
  exact key b (hs b hb) g
 | none=>
  rw[hb] at g
  rcases g with⟨da,db,p1,p2,p3,p4,p5,g⟩ | ⟨m,n,ka,kb,rfl,rfl,p1,p2,f1,f2,g⟩ | ⟨m,n,xs,rfl,rfl,p1,p2,g⟩ | ⟨xs,ys,ex,ey,f1,f2,g⟩
  ·have q1:=Jx R da p1 hx
   have q2:=Jx R db p2 hy
   rw[e0,←hK] at q1 q2
   cases neg with
   | true=>exact Yh2 hu pins s σ w.H x y v u Q I rx ry ⟨da,db,q1,q2,p3,p4,p5,a _ g⟩
   | false=>exact Yh4 hu pins s σ w.H x y v u Q I rx ry ⟨da,db,q1,q2,p3,p4,p5,a _ g⟩
  ·obtain⟨_,rfl⟩:=Zj.mp hx
   obtain⟨_,rfl⟩:=Zj.mp hy
   obtain⟨_,va,ha,ra⟩:=R.dict p1
   obtain⟨_,vb,hb,rb⟩:=R.dict p2
   cases (show v=Au (w.μ m) from rx)
   cases (show u=Au (w.μ n) from ry)
   obtain⟨_,s1,ua,k1,d1⟩:=Y40 I.hok ha
   obtain⟨_,s2,ub,k2,d2⟩:=Y40 I.hok hb
   have hits:=Gx (A:=X.A.in1) (s:=s) (pins:=pins) (σ:=σ) rb k2 f2 f1 ra k1
   have hl:(ua.length==ub.length&&(ka.all fun kv=>match valD kb kv.1 with
    | some y=>eqF kv.2 y
    | none=>false))=eqKV ka kb:=by
    unfold eqKV
    rw[←k1.length,←k2.length,ra.length,rb.length]
    all_goals rfl
   cases neg with
   | true=>exact PySem.W.keq_ne s1 s2 d1 d2 (by omega) (fun _=>hits) ⟨.bl _,w.H,I,rfl,by rw[hl];exact a _ g⟩
   | false=>exact PySem.W.keq_eq s1 s2 d1 d2 (by omega) (fun _=>hits) ⟨.bl _,w.H,I,rfl,by rw[hl];exact a _ g⟩
  ·obtain⟨_,rfl⟩:=Zj.mp hx
   obtain⟨_,rfl⟩:=Zj.mp hy
   obtain⟨_,va,ha,ra,_⟩:=R.listL p1
   obtain⟨_,vb,hb,rb,_⟩:=R.listL p2
   rw[e0,←hK] at ha hb
   unfold RDs at rb
   subst rb
   cases (show v=Au (w.μ m) from rx)
   cases (show u=Au (w.μ n) from ry)
   have he:va.isEmpty=xs.isEmpty:=by have:=ra.length;cases va<;>cases xs<;>simp_all
   exact Zm5 I hu neg ha hb (by rw[he];exact a _ g)
  ·have tp:∀{d:D} {zs:List D} {x:V},(d= .tup zs∨d= .gtup zs)→RD w d x→∃p vs,x= .ref p∧SqT X.K w.H p vs∧RDs w zs vs:=by
    rintro d zs x (rfl | rfl) r
    ·obtain⟨p,vs,e,q1,q2⟩:=Yb.mp r
     exact⟨p,vs,e,.of q1,q2⟩
    ·obtain⟨p,vs,e,q1,q2⟩:=Yo.mp r
     rw[e0,←hK] at q1
     exact⟨p,vs,e,q1,q2⟩
   obtain⟨p,va,rfl,ha,ra⟩:=tp ex hx
   obtain⟨p2,vb,rfl,hb,rb⟩:=tp ey hy
   cases (show v=Au p from rx)
   cases (show u=Au p2 from ry)
   exact Y07 I hu neg ha hb (W7 f1 ra) (W7 f2 rb) (by rw[Bu f1 f2 ra rb];exact a _ g)
theorem F3:∀{xs:List (List D)} {vs:List V},RDs w (xs.map .tup) vs→(xs.all fun zs=>zs.all Zs)=true→∃ts:List (List V),ts.length=vs.length∧(∀(j:Nat) u,vs[j]?=some u→∃a us,u= .ref a∧w.H a=some (.tup us)∧ts[j]?=some us∧us.all X7=true)∧∀(ys:List D) (t:List V),ys.all Zs=true→RDs w ys t→(ts.any fun us=>eqVs us t)=xs.any fun zs=>eqFs zs ys
 | [],vs,h,_=>by
  rw[Lz] at h
  unfold RDs at h
  subst h
  exact⟨[],rfl,fun j u e=>by simp at e,fun _ _ _ _=>rfl⟩
 | z::zs,vs,h,f=>by
  rw[De] at h
  unfold RDs at h
  obtain⟨v,r,rfl,h1,h2⟩:=h
  rw[Ho,Bz9] at f
  obtain⟨a,us,rfl,k1,k2⟩:=Yb.mp h1
  obtain⟨ts,t1,t2,t3⟩:=F3 h2 f.2
  refine⟨us::ts,by rw[Aj,Aj,t1],fun j u e=>?_,fun ys t fy ry=>by rw[Iu,Iu,t3 ys t fy ry,Bu f.1 fy k2 ry]⟩
  cases j with
  | zero=>cases e;exact⟨a,us,rfl,k1,rfl,W7 f.1 k2⟩
  | succ j=>
   obtain⟨a',us',e1,e2,e3,e4⟩:=t2 j u (by simpa using e)
   exact⟨a',us',e1,e2,by simpa using e3,e4⟩
theorem Yp2{H:Hp}(I:Inv X pins σ H s)(hu:X.A.units+64<cLine)(neg:Bool){p b:Addr}{ts:List (List V)}{t:List V}(hx:SqL X.K H p xs)(hl:xs.length=ts.length)(ht:∀(j:Nat) u,xs[j]?=some u→∃a us,u= .ref a∧H a=some (.tup us)∧ts[j]?=some us∧us.all X7=true)(hb:H b=some (.tup t))(ft:t.all X7=true)
  (q:Q (.bl (if neg then !(ts.any fun us=>eqVs us t) else ts.any fun us=>eqVs us t)) H):
  wpAny (model X.prog X.w) X.A (compareOp (if neg then .NotIn else .In) (.ref b) (.ref p)) (EP X pins σ Q) X.xe s:=by
 obtain⟨its,r,pl,hz⟩:=I.list hx
 have at':∀(j:Nat) w,its[j]?=some w→∃a us,w= .ref a∧H a=some (.tup us)∧ts[j]?=some us∧us.all X7=true:=by
  intro j w hw
  have hj:j<xs.length:=by rw[r.length];exact(Af.mp hw).1
  obtain⟨a,us,e1,e2,e3,e4⟩:=ht j xs[j] (Ae hj)
  obtain⟨w',w1,w2⟩:=r.get (Ae hj)
  rw[hw] at w1
  cases w1
  rw[e1] at w2
  cases w2
  exact⟨a,us,rfl,e2,e3,e4⟩
 have ev:∀(a:Addr) (us:List V),H a=some (.tup us)→eqUT H t (.ref a)=eqVs us t:=by
  intro a us e
  show(match H a with | some (.tup vs)=>eqVs vs t | _=>false)=_
  rw[e]
 have he:∀w∈its.toArray,Dq X.A.in1 s w (.ref b) (eqUT H t w):=by
  intro w hw
  obtain⟨j,hj⟩:=List.getElem?_of_mem (show w∈its by simpa using hw)
  obtain⟨a,us,rfl,e2,e3,e4⟩:=at' j w hj
  rw[ev a _ e2]
  exact Ye4 I (by show X.A.units+1+2<cLine;omega) e2 hb e4 ft
 have any:its.toArray.any (eqUT H t)=ts.any fun us=>eqVs us t:=by
  rw[show its.toArray.any (eqUT H t)=its.any (eqUT H t) by simp]
  have:its.map (eqUT H t)=ts.map fun us=>eqVs us t:=by
   refine List.ext_getElem? fun j=>?_
   rw[As,As]
   cases hw:its[j]? with
   | none=>
    rw[Ko (by rw[←hl,r.length];exact List.getElem?_eq_none_iff.mp hw)]
    rfl
   | some w=>
    obtain⟨a,us,rfl,e2,e3,e4⟩:=at' j w hw
    rw[e3]
    show some _=some _
    rw[ev a _ e2]
  have e1:its.any (eqUT H t)=(its.map (eqUT H t)).any id:=by rw[Lv];rfl
  have e2:(ts.any fun us=>eqVs us t)=(ts.map fun us=>eqVs us t).any id:=by rw[Lv];rfl
  rw[e1,e2,this]
 cases neg with
 | true=>exact SeqAt.notIn_listAt (eqUT H t) pl.isList he ⟨.bl _,H,I,rfl,by rw[any];exact q⟩
 | false=>exact SeqAt.in_listAt (eqUT H t) pl.isList he ⟨.bl _,H,I,rfl,by rw[any];exact q⟩
theorem B6(hK:X.K=w0.K)(hu:X.A.units+64<cLine)(neg:Bool):OpR X (compareOp (if neg then .NotIn else .In)) (rB w0 fun M x y Q=>inQ M x y fun b=>Q (if neg then !b else b)):=by
 intro pins s σ H x y v u Q I rx ry h
 obtain⟨w,M,dx,dy,QD,rfl,e0,R,hx,hy,g,a⟩:=h
 have seq:∀{p:Addr} {vs:List V} {xs:List D},y= .ref p→(SqL X.K w.H p vs∨SqT X.K w.H p vs)→RDs w xs vs→Zs dx=true→xs.all Zs=true→QD (if neg then !inD dx xs else inD dx xs)→
   wpAny (model X.prog X.w) X.A (compareOp (if neg then .NotIn else .In) v u) (EP X pins σ Q) X.xe s:=by
  intro p vs xs ey q1 q2 g2 g3 g4
  obtain⟨i1,i2⟩:=Zy2 g2 hx g3 q2
  cases neg with
  | true=>exact Gh pins s σ w.H _ _ v u Q I rx ry ⟨p,vs,ey,q1,V1 g2 hx,i2,by rw[i1];exact a _ g4⟩
  | false=>exact Zg1 pins s σ w.H _ _ v u Q I rx ry ⟨p,vs,ey,q1,V1 g2 hx,i2,by rw[i1];exact a _ g4⟩
 unfold inQ at g
 split at g
 ·cases Zc.mp hx;cases Zc.mp hy
  cases neg with
  | true=>exact G9 pins s σ w.H _ _ v u Q I rx ry ⟨_,_,rfl,rfl,a _ g⟩
  | false=>exact Zb7 pins s σ w.H _ _ v u Q I rx ry ⟨_,_,rfl,rfl,a _ g⟩
 ·obtain⟨_,rfl⟩:=Zj.mp hy
  rcases g with⟨xs,g1,g2,g3,g4⟩ | ⟨kvs,k,g1,g2,g3⟩ | ⟨ys,xs,rfl,g1,g2,g3,g4⟩
  ·obtain⟨_,vs,q1,q2,_⟩:=R.listL g1
   rw[e0,←hK] at q1
   exact seq rfl (.inl q1) q2 g2 g3 g4
  ·obtain⟨_,vs,q1,q2⟩:=R.dict g1
   cases Eg g2 hx
   cases (show u=Au _ from ry)
   have hv:valV vs k=none∧valD kvs k=none∨∃d v',valD kvs k=some d∧valV vs k=some v':=by
    rcases q2.val k with⟨n1,n2⟩ | ⟨d,v',n1,n2,_⟩
    ·exact .inl ⟨n2,n1⟩
    ·exact .inr ⟨d,v',n1,n2⟩
   have hb:(valV vs k).isSome=(valD kvs k).isSome:=by
    rcases hv with⟨n1,n2⟩ | ⟨d,v',n1,n2⟩
    ·rw[n1,n2];rfl
    ·rw[n1,n2];rfl
   have hu1:X.A.units+1<cLine:=by omega
   cases neg with
   | true=>exact Y01 hu1 I (DGet.k (k:=k) q1) rx fun s' I'=>⟨.bl (!(valV vs k).isSome),w.H,I',rfl,by rw[hb];exact a _ g3⟩
   | false=>exact d_in hu1 I (DGet.k (k:=k) q1) rx fun s' I'=>⟨.bl (valV vs k).isSome,w.H,I',rfl,by rw[hb];exact a _ g3⟩
  ·obtain⟨_,vs,q1,q2,_⟩:=R.listL g1
   rw[e0,←hK] at q1
   obtain⟨b,us,rfl,hb,rb⟩:=Yb.mp hx
   cases (show v=Au b from rx)
   cases (show u=Au _ from ry)
   obtain⟨ts,h1,h2,h3⟩:=F3 q2 g3
   refine Yp2 I hu neg q1 h1.symm h2 hb (W7 g2 rb) ?_
   rw[h3 _ _ g2 rb]
   exact a _ g4
 ·obtain⟨p,vs,e,q1,q2⟩:=Yb.mp hy
  exact seq e (.inr (.of q1)) q2 g.1 g.2.1 g.2.2
 ·obtain⟨p,vs,e,q1,q2⟩:=Yo.mp hy
  rw[e0,←hK] at q1
  exact seq e (.inr q1) q2 g.1 g.2.1 g.2.2
 ·exact g.elim
theorem Z05(hK:X.K=w0.K)(hu:X.A.units+64<cLine)(op:Cm):OpR X (compareOp (cmOf op)) (rB w0 fun M=>cmD M op):=by
 intro pins s σ H x y v u Q I rx ry h
 obtain⟨w,M,dx,dy,QD,rfl,e0,R,hx,hy,g,a⟩:=h
 cases op with
 | lt=>
  obtain⟨i,j,rfl,rfl,g2⟩:=Yd g;clear g;have g:=g2
  cases Zg.mp hx;cases Zg.mp hy
  exact Yl5 pins s σ w.H _ _ v u Q I rx ry ⟨_,_,rfl,rfl,a _ g⟩
 | gt=>
  obtain⟨i,j,rfl,rfl,g2⟩:=Yd g;clear g;have g:=g2
  cases Zg.mp hx;cases Zg.mp hy
  exact Yn9 pins s σ w.H _ _ v u Q I rx ry ⟨_,_,rfl,rfl,a _ g⟩
 | ge=>
  obtain⟨i,j,rfl,rfl,g2⟩:=Yd g;clear g;have g:=g2
  cases Zg.mp hx;cases Zg.mp hy
  exact Yo4 pins s σ w.H _ _ v u Q I rx ry ⟨_,_,rfl,rfl,a _ g⟩
 | eq=>
  exact Z20 hK hu false pins s σ w.H x y v u Q I rx ry ⟨w,M,_,_,QD,rfl,e0,R,hx,hy,g,a⟩
 | ne=>
  exact Z20 hK hu true pins s σ w.H x y v u Q I rx ry ⟨w,M,_,_,QD,rfl,e0,R,hx,hy,g,a⟩
 | is=>
  cases dy with
  | non=>
   cases dx with
   | non=>
    cases Zx.mp hx;cases Zx.mp hy
    exact Pa pins s σ w.H _ _ v u Q I rx ry ⟨rfl,a _ g⟩
   | bl b=>
    cases Yj.mp hx;cases Zx.mp hy
    exact Pa pins s σ w.H _ _ v u Q I rx ry ⟨rfl,a _ g⟩
   | int i=>
    cases Zg.mp hx;cases Zx.mp hy
    exact Pa pins s σ w.H _ _ v u Q I rx ry ⟨rfl,a _ g⟩
   | str z=>
    cases Zc.mp hx;cases Zx.mp hy
    exact Pa pins s σ w.H _ _ v u Q I rx ry ⟨rfl,a _ g⟩
   | tup l=>
    obtain⟨_,_,rfl,_⟩:=Yb.mp hx;cases Zx.mp hy
    exact Pa pins s σ w.H _ _ v u Q I rx ry ⟨rfl,a _ g⟩
   | ref n=>
    obtain⟨_,rfl⟩:=Zj.mp hx;cases Zx.mp hy
    exact Pa pins s σ w.H _ _ v u Q I rx ry ⟨rfl,a _ g⟩
   | exn e C d q=>
    obtain⟨rfl,_⟩:=Bg.mp hx;cases Zx.mp hy
    exact Pa pins s σ w.H _ _ v u Q I rx ry ⟨rfl,a _ g⟩
   | _=>exact Di g
  | _=>exact Di g
 | inT=>
  obtain⟨d,ds,p1,p2,p3,p4,p5,g⟩:=g
  have q1:=Jx R d p1 hx
  have q2:=Jx R (.tuple ds) p2 hy
  rw[e0,←hK] at q1 q2
  exact Yb5 hu I rx ry q1 q2 p3 p4 p5 (a _ g)
 | isin=>
  exact B6 hK hu false pins s σ w.H x y v u Q I rx ry ⟨w,M,_,_,QD,rfl,e0,R,hx,hy,g,a⟩
 | notin=>
  exact B6 hK hu true pins s σ w.H x y v u Q I rx ry ⟨w,M,_,_,QD,rfl,e0,R,hx,hy,g,a⟩
end
theorem RKV.isEmpty(h:RKV w ds vs):vs.isEmpty=ds.isEmpty:=by
 cases ds with
 | nil=>unfold RKV at h;subst h;rfl
 | cons p ds=>obtain⟨k,d⟩:=p;unfold RKV at h;obtain⟨v,r,rfl,_⟩:=h;rfl
theorem RDs.isEmpty(h:RDs w ds vs):vs.isEmpty=ds.isEmpty:=by
 cases ds with
 | nil=>unfold RDs at h;subst h;rfl
 | cons d ds=>unfold RDs at h;obtain⟨v,r,rfl,_⟩:=h;rfl
theorem Tv{K:Ad}{d:D}{x:V}(hK:w.K=K)(R:RS w M)(r:RD w d x)(g:truD M d QD):∃k,TruV K x w.H k∧QD k:=by
 unfold truD at g
 split at g
 ·cases Zx.mp r;exact⟨_,rfl,g⟩
 ·cases Yj.mp r;exact⟨_,rfl,g⟩
 ·cases Zg.mp r;exact⟨_,rfl,g⟩
 ·cases Zc.mp r;exact⟨_,⟨g.1,rfl⟩,g.2⟩
 ·obtain⟨a,vs,rfl,q1,q2⟩:=Yb.mp r
  exact⟨_,.inr (.inl ⟨vs,.of q1,rfl⟩),by rw[q2.isEmpty];exact g⟩
 ·obtain⟨_,rfl⟩:=Zj.mp r
  rcases g with⟨xs,g1,g2⟩ | ⟨xs,g1,g2⟩
  ·obtain⟨_,vs,q1,q2,_⟩:=R.listL g1
   rw[hK] at q1
   exact⟨_,.inl ⟨vs,q1,rfl⟩,by rw[q2.isEmpty];exact g2⟩
  ·obtain⟨_,vs,q1,q2⟩:=R.dict g1
   exact⟨_,.inr (.inr ⟨vs,q1,rfl⟩),by rw[q2.isEmpty];exact g2⟩
 ·exact g.elim
theorem Cc{i:Int}{d:D}(r:RDs w xs vs)(h:atI xs i=some d):∃v,atI vs i=some v∧RD w d v:=by
 unfold atI at *
 rw[r.length]
 obtain⟨j,h1,h2⟩:=Option.bind_eq_some_iff.mp h
 obtain⟨v,q1,q2⟩:=r.get h2
 exact⟨v,by rw[h1];exact q1,q2⟩
theorem Ew{w:Vw}{xs:List D}{vs:List V}{lo hi:Option Int}(r:RDs w xs vs):RDs w (cutD xs lo hi) (cutV vs lo hi):=by
 unfold cutD cutV
 rw[r.length]
 exact(r.drop _).take _
section
variable{X:Cx}{w0:Vw}
theorem Y68(hu:X.A.units+1<cLine):IxR X (fun x y H Q=>∃a v,x= .ref a∧DGet H a y (some v)∧Q v H):=by
 intro value slice pins s σ H x y v u Q I rx ry h hs
 obtain⟨a,vv,rfl,g,q⟩:=h
 cases rx
 have hT:=Ek I g
 have h₂:wpAny (model X.prog X.w) X.A (getItem (.ref a) u) (EP X pins σ Q) X.xe s:=Zd6 hu I g ry fun w' s3 I3 rw'=>⟨vv,H,I3,rw',q⟩
 unfold subscriptTail
 refine Aa ?_
 rw[getitemInPython_of_ne hT.not_modules]
 refine Aa (wpAny_specialOf hT PySem.F.slot_dict_getitem.lookup ?_)
 have fin:wpAny (model X.prog X.w) X.A (subscripted slice false (.ref a) u) (fun r s₃=>wpAny (model X.prog X.w) X.A (letTemporaryGo value (.ref a) r >>=fun _=>pure r) (EP X pins σ Q) X.xe s₃) X.xe s:=by
  rw[hs]
  exact wpAny_operating (Hl h₂ (fun r s₃ h₃=>Aa (wpAny_letTemporaryGo (Ai h₃))) fun _ _ x=>x)
 first
  | exact Ai (Aa fin)
  | exact Aa (Ai (Aa fin))
  | exact Aa fin
def rX(w0:Vw):R2:=fun x y H Q=>∃w M dx dy QD,w.H=H∧w.K=w0.K∧RS w M∧RD w dx x∧RD w dy y∧ixD M dx dy QD∧∀d v,QD d→RD w d v→Q v H
theorem Zr2(hK:X.K=w0.K)(hu:X.A.units+64<cLine):IxR X (rX w0):=by
 intro value slice pins s σ H x y v u Q I rx ry h hs
 obtain⟨w,M,dx,dy,QD,rfl,e0,R,hx,hy,g,a⟩:=h
 unfold ixD at g
 split at g
 ·obtain⟨_,rfl⟩:=Zj.mp hx
  rcases g with⟨xs,i,d,rfl,g1,g2,g3⟩ | ⟨kvs,k,d,g1,g2,g3,g4⟩
  ·cases Zg.mp hy
   obtain⟨_,vs,q1,q2,_⟩:=R.listL g1
   rw[e0,←hK] at q1
   obtain⟨vv,z1,z2⟩:=Cc q2 g2
   exact Y33 value slice pins s σ w.H _ _ v u Q I rx ry ⟨_,vs,i,vv,rfl,rfl,q1,z1,a _ _ g3 z2⟩ hs
  ·obtain⟨vs,q1,q2⟩:=R.dictF g1
   cases Eg g2 hy
   rcases q2.val k with⟨n1,n2⟩ | ⟨d',v',n1,n2,n3⟩
   ·rw[n1] at g3;cases g3
   ·rw[n1] at g3;cases g3
    refine Y68 (by omega) value slice pins s σ w.H _ _ v u Q I rx ry ⟨_,v',rfl,?_,a _ _ g4 n3⟩ hs
    have:DGet w.H (w.μ _) (kV k) (valV vs k):= .inl ⟨vs,k,q1,rfl,rfl⟩
    rw[n2] at this
    exact this
 ·cases Zg.mp hy
  obtain⟨p,vs,rfl,q1,q2⟩:=Yb.mp hx
  obtain⟨d,g1,g2⟩:=g
  obtain⟨vv,z1,z2⟩:=Cc q2 g1
  exact Zw8 value slice pins s σ w.H _ _ v u Q I rx ry ⟨_,vs,_,vv,rfl,rfl,.of q1,z1,a _ _ g2 z2⟩ hs
 ·cases Zg.mp hy
  obtain⟨p,vs,rfl,q1,q2⟩:=Yo.mp hx
  rw[e0,←hK] at q1
  obtain⟨d,g1,g2⟩:=g
  obtain⟨vv,z1,z2⟩:=Cc q2 g1
  exact Zw8 value slice pins s σ w.H _ _ v u Q I rx ry ⟨_,vs,_,vv,rfl,rfl,q1,z1,a _ _ g2 z2⟩ hs
 ·cases Zg.mp hy;cases Zc.mp hx
  obtain⟨g0,c,g1,g2⟩:=g
  exact Yf1 value slice pins s σ w.H _ _ v u Q I rx ry ⟨_,_,c,rfl,rfl,g0,g1,a _ _ g2 (Zc.mpr rfl)⟩ hs
 ·exact g.elim
theorem Yh5:SlR X (fun x lo hi H Q=>∃z,x= .str z∧z.length≤sizeLine∧Q (.str (Ic z lo hi)) H):=by
 intro pins s σ H x v vl vu lo hi sl Q I rx hs pl pu h
 obtain⟨z,rfl,hz,q⟩:=h
 obtain⟨t,rfl⟩:=rx
 have key:∀l u:Option (Int×Tok),l.map (·.1)=lo→u.map (·.1)=hi→vl=partValue l→vu=partValue u→wpAny (model X.prog X.w) X.A (getItem (.str z t) (.ref sl)) (EP X pins σ Q) X.xe s:=by
  intro l u e1 e2 e3 e4
  subst e1 e2 e3 e4
  refine wpAny_getItem_str_slice (l:=l) (u:=u) (st:=none) hs rfl ?_
  exact post_val_or_str ⟨Nat.le_trans (Txt.slice_le z _ _) hz,fun t' k=>⟨.str (Ic z _ _),H,I.tok _,⟨_,rfl⟩,q⟩⟩
 refine⟨"str",_,PySem.F.slot_str_getitem.lookup,typeIs_str _ _ _,?_⟩
 cases pl with
 | none=>
  cases pu with
  | none=>exact key none none rfl rfl rfl rfl
  | int j tj=>exact key none (some (j,tj)) rfl rfl rfl rfl
 | int i ti=>
  cases pu with
  | none=>exact key (some (i,ti)) none rfl rfl rfl rfl
  | int j tj=>exact key (some (i,ti)) (some (j,tj)) rfl rfl rfl rfl
def rSl(w0:Vw):V→Option Int→Option Int→Hp→VK→Prop:=fun x lo hi H Q=>∃w M dx QD,w.H=H∧w.K=w0.K∧RS w M∧RD w dx x∧slD dx lo hi M QD∧Aft w QD Q
theorem Zp9(hK:X.K=w0.K):SlR X (rSl w0):=by
 intro pins s σ H x v vl vu lo hi sl Q I rx hs pl pu h
 obtain⟨w,M,dx,QD,rfl,e0,R,hx,g,a⟩:=h
 unfold slD at g
 split at g
 ·cases Zc.mp hx
  exact Yh5 pins s σ w.H _ v vl vu _ _ sl Q I rx hs pl pu ⟨_,rfl,g.1,a _ w _ M (Ext.refl w) R (Zc.mpr rfl) g.2⟩
 ·obtain⟨_,rfl⟩:=Zj.mp hx
  obtain⟨xs,g1,g2⟩:=g
  obtain⟨_,vs,q1,q2,_⟩:=R.listL g1
  rw[e0,←hK] at q1
  refine Y74 pins s σ w.H _ v vl vu _ _ sl Q I rx hs pl pu ⟨_,vs,rfl,q1,fun p hp=>?_⟩
  obtain⟨x1,x2,x3⟩:=Xm R hp (Ew (lo:=lo) (hi:=hi) q2)
  exact a _ _ _ _ x1 x2 x3 g2
 ·obtain⟨p,vs,rfl,q1,q2⟩:=Yb.mp hx
  refine Zy5 pins s σ w.H _ v vl vu _ _ sl Q I rx hs pl pu ⟨_,vs,rfl,.of q1,by rw[q2.length];exact g.1,fun p hp=>?_⟩
  obtain⟨x1,x2,x3⟩:=Vm R hp (Ew (lo:=lo) (hi:=hi) q2)
  exact a _ _ _ _ x1 x2 x3 g.2
 ·exact g.elim
def rC(w0:Vw)(g:List D→Z2→DK→Prop):List V→Hp→VK→Prop:=fun xs H Q=>∃w M ds QD,w.H=H∧w.K=w0.K∧RS w M∧RDs w ds xs∧g ds M QD∧Aft w QD Q
noncomputable def bfOf:Bf→Str×Value
 | .len=>("len",.builtin "len") | .isinst=>("isinstance",.builtin "isinstance") | .min2=>("min",.builtin "min") | .max2=>("max",.builtin "max")
 | .tuple1=>("tuple",.type "tuple") | .str1=>("str",.type "str") | .int1=>("int",.type "int")
theorem rds1{d:D}(h:RDs w [d] xs):∃v,xs=[v]∧RD w d v:=by
 unfold RDs at h
 obtain⟨v,r,rfl,h1,h2⟩:=h
 unfold RDs at h2
 subst h2
 exact⟨v,rfl,h1⟩
theorem rds2{d e:D}(h:RDs w [d,e] xs):∃v u,xs=[v,u]∧RD w d v∧RD w e u:=by
 unfold RDs at h
 obtain⟨v,r,rfl,h1,h2⟩:=h
 obtain⟨u,rfl,h3⟩:=rds1 h2
 exact⟨v,u,rfl,h1,h3⟩
theorem rds0(h:RDs w [] xs):xs=[]:=by unfold RDs at h;exact h
theorem Zk4:∀{as:List Addr} {vs:List V},RDs w (as.map D.cls) vs→vs=as.map V.ref
 | [],vs,h=>rds0 h
 | a::r,vs,h=>by
  rw[De] at h
  unfold RDs at h
  obtain⟨v,vs',rfl,h1,h2⟩:=h
  rw[Zy0.mp h1,Zk4 h2]
  rfl
def Yl9(K:Ad):List V→Hp→VK→Prop:=fun xs H Q=>∃(e C dx:Addr) (fs:List (Str×V)) (p:Addr) (as:List Addr) (b:Bool),xs=[.ref e,.ref p]∧H e=some (XO e (.ref C) (some dx))∧H dx=some (.xd fs)∧ExcIs K C∧H p=some (.tup (as.map V.ref))∧PySem.W.kitAny K (.ref C) (as.map Au)=some b∧Q (.bl b) H
theorem Vy:∀{as:List Addr} {us:List Value},Vals (as.map V.ref) us→us=as.map Au
 | [],us,h=>by cases h;rfl
 | a::r,us,h=>by
  cases h with
  | cons h1 h2=>
   obtain rfl:_=Au a:=h1
   rw[Vy h2]
   rfl
theorem Z93:X1 X (.builtin "isinstance") (Yl9 X.K):=by
 intro pins s σ H xs us Q I r h
 obtain⟨e,C,dx,fs,p,as,b,rfl,he,hd,S,hp,k,q⟩:=h
 obtain⟨u,v,rfl,ru,rv⟩:=Ej r
 obtain rfl:u=Au e:=ru
 obtain rfl:v=Au p:=rv
 obtain⟨oe,od,mA,J,_⟩:=Z08 I he hd
 obtain⟨its,r',⟨⟨oc,odd,dat,sl⟩,g1,g2,n,g3⟩,hz⟩:=I.tuple (.of hp)
 cases Vy r'
 dsimp only at g2 g3
 subst g2 g3
 exact PySem.W.kia_tup (Bz S) I.kIn J g1 k (fun z=>nomatch z) fun tk=>⟨.bl b,H,I.tok tk,rfl,q⟩
theorem Yi0{K:Ad}{d:D}{x:V}{t:String}(R:RS w M)(r:RD w d x)(h:tyD M d=some t):TyOf K w.H x (.type t):=by
 unfold tyD at h
 split at h
 ·cases h;cases Zx.mp r;exact .non
 ·cases h;cases Yj.mp r;exact .bl _
 ·cases h;cases Zg.mp r;exact .int _
 ·cases h;cases Zc.mp r;exact .str _
 ·cases h;obtain⟨a,vs,rfl,q,_⟩:=Yb.mp r;exact .tup q
 ·obtain⟨_,rfl⟩:=Zj.mp r
  split at h
  ·rename_i e;cases h;obtain⟨vs,q,_⟩:=R.cell _ _ e;exact .lst q
  ·cases h
  ·rename_i e;cases h;obtain⟨vs,q,_⟩:=R.cell _ _ e;exact .dK q
  ·cases h
  ·cases h
 ·cases h
noncomputable def Qp:Bf→Bool
 | .min2 | .max2=>false
 | _=>true
theorem Zc8:X1 X (.type "int") (fun xs H Q=>∃b,xs=[.bl b]∧Q (.int (if b then 1 else 0)) H):=by
 intro pins s σ H xs us Q I r h
 obtain⟨b,rfl,q⟩:=h
 obtain⟨u,rfl,e⟩:=Tn r
 cases e
 exact call_int_bool ⟨.int _,H,I.tok _,⟨_,rfl⟩,q⟩
theorem Z01:∀{ks:List Key} {vs:List V},RDs w (ks.map kD) vs→vs=ks.map kV
 | [],vs,h=>rds0 h
 | k::ks,vs,h=>by
  rw[De] at h
  unfold RDs at h
  obtain⟨v,r,rfl,h1,h2⟩:=h
  rw[Z01 h2]
  cases k with
  | inl i=>cases Zg.mp h1;rfl
  | inr x=>cases Zc.mp h1;rfl
theorem Zp3(hK:X.K=w0.K)(b:Bf)(hc:X.calm=true∨Qp b=true):X1 X (bfOf b).2 (rC w0 (bfD w0.K b)):=by
 intro pins s σ H xs us Q I r h
 obtain⟨w,M,ds,QD,rfl,e0,R,hx,g,a⟩:=h
 cases b with
 | len=>
  obtain⟨x,rfl,g2⟩:=Yi g;clear g;have g:=g2
  cases x with
  | ref n=>
   obtain⟨v,rfl,r1⟩:=rds1 hx
   obtain⟨_,rfl⟩:=Zj.mp r1
   rcases g with⟨xs,g1,g2⟩ | ⟨xs,g1,g2⟩
   ·obtain⟨_,vs,q1,q2,_⟩:=R.listL g1
    rw[e0,←hK] at q1
    exact W9 pins s σ w.H _ us Q I r ⟨_,vs,rfl,.inl q1,a _ w _ M (Ext.refl w) R (Zg.mpr (by rw[q2.length])) g2⟩
   ·obtain⟨_,vs,q1,q2⟩:=R.dict g1
    exact Zl6 pins s σ w.H _ us Q I r ⟨_,vs,rfl,q1,a _ w _ M (Ext.refl w) R (Zg.mpr (by rw[q2.length])) g2⟩
  | tup l=>
   obtain⟨v,rfl,r1⟩:=rds1 hx
   obtain⟨p,vs,rfl,q1,q2⟩:=Yb.mp r1
   exact W9 pins s σ w.H _ us Q I r ⟨_,vs,rfl,.inr (.of q1),a _ w _ M (Ext.refl w) R (Zg.mpr (by rw[q2.length])) g⟩
  | gtup l=>
   obtain⟨v,rfl,r1⟩:=rds1 hx
   obtain⟨p,vs,rfl,q1,q2⟩:=Yo.mp r1
   rw[e0,←hK] at q1
   exact W9 pins s σ w.H _ us Q I r ⟨_,vs,rfl,.inr q1,a _ w _ M (Ext.refl w) R (Zg.mpr (by rw[q2.length])) g⟩
  | str z=>
   obtain⟨v,rfl,r1⟩:=rds1 hx
   cases Zc.mp r1
   exact Fp pins s σ w.H _ us Q I r ⟨_,rfl,g.1,a _ w _ M (Ext.refl w) R (Zg.mpr rfl) g.2⟩
  | _=>exact Di g
 | isinst=>
  obtain⟨x,y,rfl,g2⟩:=Qf g;clear g;have g:=g2
  obtain⟨v,u,rfl,r1,r2⟩:=rds2 hx
  unfold isD at g
  split at g
  ·obtain⟨b,g1,g2,g3⟩:=g
   obtain⟨rfl,q1,row,q2,q3⟩:=Bg.mp r1
   cases Zy0.mp r2
   rw[←hK] at g1 g2
   exact Bv pins s σ w.H _ us Q I r ⟨_,_,_,_,_,_,b,rfl,q1,q2,g1,fun u hu=>hu,g2,a _ w _ M (Ext.refl w) R (Yj.mpr rfl) g3⟩
  ·obtain⟨b,g1,g2,g3⟩:=g
   obtain⟨rfl,q1,row,q2,q3⟩:=Bg.mp r1
   cases Y87.mp r2
   rw[←hK] at g1 g2
   exact Bv pins s σ w.H _ us Q I r ⟨_,_,_,_,_,_,b,rfl,q1,q2,g1,fun u hu=>hu,g2,a _ w _ M (Ext.refl w) R (Yj.mpr rfl) g3⟩
  ·obtain⟨as,b,rfl,g1,g2,g3⟩:=g
   obtain⟨rfl,q1,row,q2,q3⟩:=Bg.mp r1
   obtain⟨p,vs,rfl,q4,q5⟩:=Yb.mp r2
   cases Zk4 q5
   rw[←hK] at g1 g2
   exact Z93 pins s σ w.H _ us Q I r ⟨_,_,_,_,_,_,b,rfl,q1,q2,g1,q4,g2,a _ w _ M (Ext.refl w) R (Yj.mpr rfl) g3⟩
  ·obtain⟨t,b,g1,g2,g3⟩:=g
   cases Y87.mp r2
   rw[←hK] at g2
   exact Zt5 pins s σ w.H _ us Q I r ⟨_,_,_,b,rfl,Yi0 R r1 g1,g2,a _ w _ M (Ext.refl w) R (Yj.mpr rfl) g3⟩
  ·exact g.elim
 | min2=>
  obtain⟨x,y,rfl,g2⟩:=Qf g;clear g;have g:=g2
  obtain⟨i,j,rfl,rfl,g2⟩:=Yd g;clear g;have g:=g2
  obtain⟨v,u,rfl,r1,r2⟩:=rds2 hx
  cases Zg.mp r1;cases Zg.mp r2
  exact Zh8 (hc.resolve_right (by simp[Qp])) pins s σ w.H _ us Q I r ⟨_,_,rfl,a _ w _ M (Ext.refl w) R (Zg.mpr rfl) g⟩
 | max2=>
  obtain⟨x,y,rfl,g2⟩:=Qf g;clear g;have g:=g2
  obtain⟨i,j,rfl,rfl,g2⟩:=Yd g;clear g;have g:=g2
  obtain⟨v,u,rfl,r1,r2⟩:=rds2 hx
  cases Zg.mp r1;cases Zg.mp r2
  exact Zk9 (hc.resolve_right (by simp[Qp])) pins s σ w.H _ us Q I r ⟨_,_,rfl,a _ w _ M (Ext.refl w) R (Zg.mpr rfl) g⟩
 | tuple1=>
  obtain⟨x,rfl,g2⟩:=Yi g;clear g;have g:=g2
  obtain⟨n,rfl,g2⟩:=Zy g;clear g;have g:=g2
  obtain⟨v,rfl,r1⟩:=rds1 hx
  obtain⟨_,rfl⟩:=Zj.mp r1
  obtain⟨xs,g1,g2⟩:=g
  obtain⟨_,vs,q1,q2,_⟩:=R.listL g1
  rw[e0,←hK] at q1
  refine Jg pins s σ w.H _ us Q I r ⟨_,vs,rfl,.inl ⟨q1,fun l hl=>?_⟩⟩
  obtain⟨x1,x2,x3⟩:=Vm R hl q2
  exact a _ _ _ _ x1 x2 x3 g2
 | str1=>
  obtain⟨x,rfl,g2⟩:=Yi g;clear g;have g:=g2
  obtain⟨v,rfl,r1⟩:=rds1 hx
  rcases By g with⟨i,rfl,g⟩ | ⟨i,rfl,g⟩
  ·cases Zg.mp r1
   exact Fg pins s σ w.H _ us Q I r ⟨_,rfl,g.1,a _ w _ M (Ext.refl w) R (Zc.mpr rfl) g.2⟩
  ·cases Zc.mp r1
   exact Zc9 pins s σ w.H _ us Q I r ⟨_,rfl,a _ w _ M (Ext.refl w) R (Zc.mpr rfl) g⟩
 | int1=>
  obtain⟨x,rfl,g2⟩:=Yi g;clear g;have g:=g2
  obtain⟨v,rfl,r1⟩:=rds1 hx
  rcases Zu0 g with⟨i,rfl,g⟩ | ⟨i,rfl,n,g1,g2,g3⟩
  ·cases Yj.mp r1
   exact Zc8 pins s σ w.H _ us Q I r ⟨_,rfl,a _ w _ M (Ext.refl w) R (Zg.mpr rfl) g⟩
  ·cases Zc.mp r1
   exact Zk1 pins s σ w.H _ us Q I r ⟨_,n,rfl,g1,g2,a _ w _ M (Ext.refl w) R (Zg.mpr rfl) g3⟩
end
noncomputable def mtT:Mt→String
 | .append | .pop0 | .extend | .popi | .insi=>"list"
 | .split | .join | .starts | .ends | .lstrip=>"str"
noncomputable def mtN:Mt→Str
 | .append=>"append" | .pop0=>"pop" | .extend=>"extend" | .popi=>"pop" | .insi=>"insert" | .split=>"split" | .join=>"join" | .starts=>"startswith" | .lstrip=>"lstrip" | .ends=>"endswith"
noncomputable def mtI:Mt→String
 | .split=>"str.split" | .join=>"str.join" | .starts=>"str.startswith" | .lstrip=>"str.lstrip" | .ends=>"str.endswith" | .popi=>"list.pop" | .insi=>"list.insert" | .append=>"list.append" | .pop0=>"list.pop" | .extend=>"list.extend"
theorem Yh7:∀m:Mt,PlainAttrs (mtT m)
 | .append | .pop0 | .extend | .popi | .insi=>PySem.F.plainAttrs_list
 | .split | .join | .starts | .ends | .lstrip=>PySem.F.plainAttrs_str
theorem Ze1:∀m:Mt,Slot (mtT m) (mtN m) (mtI m)
 | .split=>PySem.F.slot_str_split | .join=>PySem.F.slot_str_join | .starts=>PySem.F.slot_str_startswith | .lstrip=>PySem.F.slot_str_lstrip | .ends=>PySem.F.slot_str_endswith | .popi=>PySem.F.slot_list_pop | .insi=>PySem.F.slot_list_insert | .append=>PySem.F.slot_list_append | .pop0=>PySem.F.slot_list_pop | .extend=>PySem.F.slot_list_extend
theorem Ya6:∀m:Mt,typeOf (.builtin (mtI m))=pure (.type "method_descriptor")
 | .split=>PySem.F.type_str_split | .join=>PySem.F.type_str_join | .starts=>PySem.F.type_str_startswith | .lstrip=>PySem.F.type_str_lstrip | .ends=>PySem.F.type_str_endswith | .popi=>PySem.F.type_list_pop | .insi=>PySem.F.type_list_insert | .append=>PySem.F.type_list_append | .pop0=>PySem.F.type_list_pop | .extend=>PySem.F.type_list_extend
def rM(w0:Vw)(m:Mt):V→List V→Hp→VK→Prop:=fun x xs H Q=>∃w M dx ds QD,w.H=H∧w.K=w0.K∧RS w M∧RD w dx x∧RDs w ds xs∧mtD m dx ds M QD∧Aft w QD Q
theorem Zv9{d:D}{x:V}(R:RS w M)(r:RD w d x)(h:mtK m d M):tyV w.K (mtT m) x w.H:=by
 have L:∀{n:Nat},RD w (.ref n) x→(Za M n).isSome=true→tyV w.K "list" x w.H:=by
  intro n r h
  obtain⟨_,rfl⟩:=Zj.mp r
  obtain⟨xs,e⟩:=Option.isSome_iff_exists.mp h
  obtain⟨_,vs,q1,_⟩:=R.listL e
  exact .inl ⟨rfl,vs,q1⟩
 have K:∀{n:Nat},RD w (.ref n) x→(Sf M n).isSome=true→tyV w.K "dict" x w.H:=by
  intro n r h
  obtain⟨_,rfl⟩:=Zj.mp r
  obtain⟨xs,e⟩:=Option.isSome_iff_exists.mp h
  obtain⟨_,vs,q1,_⟩:=R.dict e
  exact .inr (.inr (.inl ⟨rfl,.inl ⟨vs,q1⟩⟩))
 rcases Z14 h with⟨z,rfl,h⟩ | ⟨n,rfl,h⟩
 ·cases Zc.mp r
  cases m with
  | split=>exact rfl
  | join=>exact rfl
  | starts=>exact rfl
  | lstrip=>exact rfl
  | ends=>exact rfl
  | _=>exact absurd h Bf9
 cases m with
 | split=>exact h.elim
 | join=>exact h.elim
 | starts=>exact h.elim
 | lstrip=>exact h.elim
 | ends=>exact h.elim
 | _=>exact L r h
theorem Zb2{j n:Nat}(h:j<n):seqIndex? (j:Int) n=some j:=by
 unfold seqIndex?
 simp only[show ¬((j:Int)<0) by omega,if_false]
 simp
 omega
theorem RDs.eraseIdx(r:RDs w xs vs)(j:Nat):RDs w (xs.eraseIdx j) (vs.eraseIdx j):=by
 rw[List.eraseIdx_eq_take_drop_succ,List.eraseIdx_eq_take_drop_succ]
 exact(r.take _).append (r.drop _)
theorem RDs.dropLast(r:RDs w xs vs):RDs w xs.dropLast vs.dropLast:=by
 rw[List.dropLast_eq_take,List.dropLast_eq_take,r.length]
 exact r.take _
section
variable{X:Cx}{w0:Vw}
theorem Bo:∀{ys:List Str} {vs:List V},RDs w (ys.map .str) vs→vs=ys.map V.str
 | [],vs,h=>rds0 h
 | y::ys,vs,h=>by
  rw[De] at h
  unfold RDs at h
  obtain⟨v,r,rfl,h1,h2⟩:=h
  rw[Bo h2,Zc.mp h1]
  rfl
theorem Bi:∀ys:List Str,RDs w (ys.map .str) (ys.map V.str)
 | []=>RDs.nil w
 | y::ys=>RDs.cons (Zc.mpr rfl) (Bi ys)
theorem Zd0(hK:X.K=w0.K)(m:Mt)(pins:List (Addr×Obj))(s:Shared)(σ:L2.St)(H:Hp)(x:V)(xs:List V)(v:Value)(us:List Value)(Q:VK){z:Str}(I:Inv X pins σ w.H s)(rx:RelV x v)(r:Vals xs us)(e0:w.K=w0.K)(R:RS w M)(hx:RD w (.str z) x)(hs:RDs w ds xs)(g:mtS m z ds M QD)(a:Aft w QD Q):wpAny (model X.prog X.w) X.A (call (.builtin (mtI m)) (v::us)) (EP X pins σ Q) X.xe s:=by
 cases Zc.mp hx
 cases m with
 | split=>
  obtain⟨y,rfl,g⟩:=Yi g
  obtain⟨y,rfl,g1,g2,g3⟩:=Tw g
  obtain⟨u,rfl,ry⟩:=rds1 hs
  cases Zc.mp ry
  refine Zq9 pins s σ w.H _ _ v us Q I rx r ⟨_,_,rfl,rfl,g1,g2,fun l hl=>?_⟩
  obtain⟨x1,x2,x3⟩:=Xm R hl (Bi (w:=w) (Km z y))
  exact a _ _ _ _ x1 x2 x3 g3
 | join=>
  obtain⟨y,rfl,g⟩:=Yi g
  obtain⟨n,rfl,ys,g1,g2,g3⟩:=Zy g
  obtain⟨u,rfl,ry⟩:=rds1 hs
  obtain⟨_,rfl⟩:=Zj.mp ry
  obtain⟨_,vs,q1,q2,_⟩:=R.listL g1
  rw[e0,←hK,Bo q2] at q1
  exact Y79 pins s σ w.H _ _ v us Q I rx r ⟨_,_,ys,rfl,rfl,q1,g2,a _ w _ M (Ext.refl w) R (Zc.mpr rfl) g3⟩
 | lstrip=>
  obtain⟨y,rfl,g⟩:=Yi g
  obtain⟨y,rfl,g⟩:=Tw g
  obtain⟨u,rfl,ry⟩:=rds1 hs
  cases Zc.mp ry
  exact Zk0 pins s σ w.H _ _ v us Q I rx r ⟨_,_,rfl,rfl,g.1,a _ w _ M (Ext.refl w) R (Zc.mpr rfl) g.2⟩
 | starts=>
  obtain⟨y,rfl,g⟩:=Yi g
  obtain⟨y,rfl,g⟩:=Tw g
  obtain⟨u,rfl,ry⟩:=rds1 hs
  cases Zc.mp ry
  exact Zf2 pins s σ w.H _ _ v us Q I rx r ⟨_,_,rfl,rfl,a _ w _ M (Ext.refl w) R (Yj.mpr rfl) g⟩
 | ends=>
  obtain⟨y,rfl,g⟩:=Yi g
  obtain⟨y,rfl,g⟩:=Tw g
  obtain⟨u,rfl,ry⟩:=rds1 hs
  cases Zc.mp ry
  exact Y85 pins s σ w.H _ _ v us Q I rx r ⟨_,_,rfl,rfl,a _ w _ M (Ext.refl w) R (Yj.mpr rfl) g⟩
 | _=>exact g.elim
theorem Zp6(hK:X.K=w0.K)(hu:X.A.units+64<cLine)(m:Mt):MtR X (mtI m) (rM w0 m):=by
 intro pins s σ H x xs v us Q I rx r h
 obtain⟨w,M,dx,ds,QD,rfl,e0,R,hx,hs,g,a⟩:=h
 rcases Z14 g with⟨z,rfl,g2⟩ | ⟨n,rfl,g2⟩
 ·clear g;have g:=g2
  exact Zd0 hK m pins s σ w.H x xs v us Q I rx r e0 R hx hs g a
 clear g;have g:=g2
 cases m with
 | split=>exact g.elim
 | join=>exact g.elim
 | starts=>exact g.elim
 | lstrip=>exact g.elim
 | ends=>exact g.elim
 | popi=>
  obtain⟨x,rfl,g2⟩:=Yi g;clear g;have g:=g2
  obtain⟨_,rfl⟩:=Zj.mp hx
  obtain⟨y,rfl,ry⟩:=rds1 hs
  obtain⟨ds,d,j,rfl,g1,g2,g3⟩:=g
  cases Zg.mp ry
  obtain⟨hn,vs,q1,q2⟩:=R.list g1
  obtain⟨z,z1,z2⟩:=q2.get g2
  have hj:j<vs.length:=(Af.mp z1).1
  have hz:=(I.hok _ _ q1).1
  have hb:((j:Nat):Int)<2 ^ 62:=by
   have:=Ka
   omega
  obtain⟨x1,x2⟩:=Yl R hn q1 (q2.eraseIdx j)
  exact Zs1 pins s σ w.H _ _ v us Q I rx r ⟨_,vs,_,j,z,rfl,rfl,q1,by omega,by omega,Zb2 hj,z1,a _ _ _ _ x1 x2 (z2.ext x1) g3⟩
 | insi=>
  obtain⟨x0,x,rfl,g2⟩:=Qf g;clear g;have g:=g2
  obtain⟨_,rfl⟩:=Zj.mp hx
  obtain⟨y0,y,rfl,ry0,ry⟩:=rds2 hs
  obtain⟨ds,j,rfl,g1,gj,gz,g3⟩:=g
  cases Zg.mp ry0
  obtain⟨hn,vs,q1,q2⟩:=R.list g1
  obtain⟨x1,x2⟩:=Yl R hn q1 ((q2.take j).append (RDs.cons ry (q2.drop j)))
  exact Cp pins s σ w.H _ _ v us Q I rx r ⟨_,vs,j,y,rfl,rfl,q1,by rw[q2.length];exact gj,by rw[q2.length];exact gz,a _ _ _ _ x1 x2 (Zx.mpr rfl) g3⟩
 | append=>
  obtain⟨x,rfl,g2⟩:=Yi g;clear g;have g:=g2
  obtain⟨_,rfl⟩:=Zj.mp hx
  obtain⟨y,rfl,ry⟩:=rds1 hs
  obtain⟨ds,g1,g2,g3⟩:=g
  obtain⟨hn,vs,q1,q2⟩:=R.list g1
  obtain⟨x1,x2⟩:=Yl R hn q1 (q2.append (RDs.cons ry (RDs.nil w)))
  exact Pc pins s σ w.H _ _ v us Q I rx r ⟨_,vs,y,rfl,rfl,q1,by rw[q2.length];exact g2,a _ _ _ _ x1 x2 (Zx.mpr rfl) g3⟩
 | pop0=>
  obtain⟨rfl,g2⟩:=Zb4 g;clear g;have g:=g2
  obtain⟨_,rfl⟩:=Zj.mp hx
  cases rds0 hs
  obtain⟨ds,d,g1,g2,g3⟩:=g
  obtain⟨hn,vs,q1,q2⟩:=R.list g1
  obtain⟨y,z1,z2⟩:=q2.get g2
  obtain⟨x1,x2⟩:=Yl R hn q1 q2.dropLast
  exact Yc6 pins s σ w.H _ _ v us Q I rx r ⟨_,vs,y,rfl,rfl,q1,by rw[q2.length];exact z1,a _ _ _ _ x1 x2 (z2.ext x1) g3⟩
 | extend=>
  obtain⟨x,rfl,g2⟩:=Yi g;clear g;have g:=g2
  obtain⟨m2,rfl,g2⟩:=Zy g;clear g;have g:=g2
  obtain⟨_,rfl⟩:=Zj.mp hx
  obtain⟨y,rfl,ry⟩:=rds1 hs
  obtain⟨_,rfl⟩:=Zj.mp ry
  obtain⟨ds,es,g1,g2,g4,g3⟩:=g
  obtain⟨hn,vs,q1,q2⟩:=R.list g1
  obtain⟨hn',vs',q1',q2'⟩:=R.list g2
  obtain⟨x1,x2⟩:=Yl R hn q1 (q2.append q2')
  exact Za3 pins s σ w.H _ _ v us Q I rx r ⟨_,_,vs,vs',rfl,rfl,q1,q1',by rw[q2.length,q2'.length];exact g4,a _ _ _ _ x1 x2 (Zx.mpr rfl) g3⟩
end
noncomputable def gF(w0:Vw)(tg:List Nat):TG:=fun v σ H Q=>∃w σD M d QD,StOk w0 w σD M σ H∧RD w d v∧tgD tg d σD QD∧∀σ' σD',REnv w σD' σ'→QD σD'→Q σ' H
noncomputable def gAll:List Nat→TGs
 | []=>gNil
 | i::is=>Ye8 (Za2 i) (gAll is)
theorem Jp{w:Vw}{H:Hp}{Q:L2.St→Hp→Prop}{QD:DEnv→Prop}(k:∀σ' σD',REnv w σD' σ'→QD σD'→Q σ' H):∀(is:List Nat) {ds:List D} {vs:List V} {σ:L2.St} {σD:DEnv},RDs w ds vs→ds.length=is.length→REnv w σD σ→
  QD ((is.zip ds).foldl (fun σ p=>σ.set p.1 (some p.2)) σD)→gAll is vs σ H Q
 | [],ds,vs,σ,σD,r,hl,e,q=>by
  cases List.length_eq_zero_iff.mp hl
  cases rds0 r
  exact⟨rfl,k _ _ e q⟩
 | i::is,ds,vs,σ,σD,r,hl,e,q=>by
  cases ds with
  | nil=>simp at hl
  | cons d ds=>
   unfold RDs at r
   obtain⟨v,vr,rfl,h1,h2⟩:=r
   refine⟨v,vr,rfl,?_⟩
   show gAll is vr (σ.set i (some v)) H Q
   exact Jp k is h2 (by simpa using hl) (e.set i h1) q
section
variable{X:Cx}{w0:Vw}
theorem PG.imp{t t':TG}(h:PG X e t)(k:∀v σ H Q,t' v σ H Q→t v σ H Q):PG X e t':=fun pins s σ H v u Q I r q=>h pins s σ H v u Q I r (k v σ H Q q)
theorem Ye7{i:Nat}(h:PG X e (Za2 i)):PG X e (gF w0 [i]):=PG.imp h fun v σ H Q zz64=>by obtain⟨w,σD,M,d,QD,S,r,g,k⟩:=zz64;exact k _ _ (S.env.set i r) g
theorem Zc1{is:List Nat}(h:PG X e (gLst X.K is.length (gAll is))):PG X e (fun v σ H Q=>∃w σD M n ds,∃QD:DEnv→Prop,StOk w0 w σD M σ H∧X.K=w.K∧RD w (.ref n) v∧Za M n=some ds∧ds.length=is.length∧QD ((is.zip ds).foldl (fun σ p=>σ.set p.1 (some p.2)) σD)∧∀σ' σD',REnv w σD' σ'→QD σD'→Q σ' H):=PG.imp h fun v σ H Q ⟨w,σD,M,n,ds,QD,S,hK,r,e1,g1,g2,k⟩=>by
 obtain⟨_,rfl⟩:=Zj.mp r
 obtain⟨_,vs,q1,q2,_⟩:=S.rs.listL e1
 rw[S.heap,←hK] at q1
 exact⟨_,vs,rfl,.inr q1,by rw[q2.length];exact g1,Jp k is q2 g1 S.env g2⟩
theorem Y82{is:List Nat}(hl:2≤is.length)(h:PG X e (gTup X.K is.length (gAll is))):PG X e (gF w0 is):=PG.imp h fun v σ H Q ⟨w,σD,M,d,QD,S,r,g,k⟩=>by
 unfold tgD at g
 split at g
 ·simp at hl
 ·obtain⟨a,vs,rfl,q1,q2⟩:=Yb.mp r
  obtain⟨g1,g2⟩:=g
  rw[S.heap] at q1
  exact⟨a,vs,rfl,.of q1,by rw[q2.length];exact g1,Jp k is q2 g1 S.env g2⟩
 ·exact g.elim
end
structure Ck where
 N:List Str
 sc:Scope
 FN:List Str
 GN:List Str
 BN:List Str
 loops:Bool
 calm:Bool
 tries:Bool
 raises:List Nat
 cells:Bool
 own:List Str
noncomputable def El(scope:Scope):List Str:=(scope.names.filter fun y=>y.2== .cell).map (·.1)
noncomputable def Ck.vis(k:Ck)(x:Str):Bool:=(k.sc.names.lookup x==some .local || k.sc.names.lookup x==some .cell || k.sc.names.lookup x==some .free)&&!(x==("__debug__":Str))&&!(x==("__classdict__":Str))
noncomputable def Ck.glob(k:Ck)(x:Str):Bool:=k.sc.names.lookup x==some .globalImplicit&&!(x==("__debug__":Str))&&!(x==("__name__":Str))
noncomputable def Ck.loc(k:Ck)(x:Str):Bool:=k.sc.names.lookup x==some .local
noncomputable def Ck.locC(k:Ck)(x:Str):Bool:=k.loc x || ((k.cells || k.own.contains x)&&k.sc.names.lookup x==some .cell)
noncomputable def Zi3:Expr→Bool
 | .Call (.Name x _) [] [] _=>x !=("super":Str)
 | _=>true
noncomputable def Ce:Expr→Bool
 | .Slice ..=>false
 | _=>true
noncomputable def Zk7:Expr→Bool
 | .Set ..=>false
 | _=>true
noncomputable def Yz:Expr→Bool
 | .Starred ..=>false
 | _=>true
noncomputable def isIn:Cm→Bool
 | .isin | .notin | .inT=>true
 | _=>false
noncomputable def Zh2(k:Ck):List Nat→List Expr→Bool
 | [],[]=>true
 | i::is,.Name x _::es=>k.N[i]?==some x&&k.locC x&&Zh2 k is es
 | _,_=>false
noncomputable def Gj(k:Ck)(is:List Nat):Expr→Bool
 | .Name x _=>match is with
  | [i]=>k.N[i]?==some x&&k.locC x
  | _=>false
 | .Tuple es _ _=>k.calm&&decide (2≤is.length)&&Zh2 k is es
 | _=>false
noncomputable def itTg:It→Expr→Bool
 | .zip _,.Tuple ..=>true
 | .zip _,_=>false
 | _,_=>true
noncomputable def isS:E→Str→Bool
 | .str y,z=>y==z
 | _,_=>false
theorem Y1{c:Prop}[Decidable c]{F:c→Bool}(h:(if q:c then F q else false)=true):∃q:c,F q=true:=by
 by_cases q:c
 ·rw[dif_pos q] at h;exact⟨q,h⟩
 ·rw[dif_neg q] at h;exact absurd h Bf9
noncomputable def R9(zz:Expr)(F:Str→Bool):Bool:=if q:zz.ctorIdx=23 then Expr.Name.elim (motive_1:=fun _=>Bool) zz q (fun x _=>F x) else false
theorem Yk{zz:Expr}{F:Str→Bool}(h:R9 zz F=true):∃x p,zz= .Name x p∧F x=true:=by
 obtain⟨q,h⟩:=Y1 h
 exact Expr.Name.elim (motive_1:=fun zz=>∀q:zz.ctorIdx=23,Expr.Name.elim (motive_1:=fun _=>Bool) zz q (fun x _=>F x)=true→∃x p,zz= .Name x p∧F x=true) zz q (fun x p _ h=>⟨x,p,rfl,h⟩) q h
noncomputable def Qi(zz:Expr)(F:Const→Bool):Bool:=if q:zz.ctorIdx=19 then Expr.Constant.elim (motive_1:=fun _=>Bool) zz q (fun v _ _=>F v) else false
theorem Xo{zz:Expr}{F:Const→Bool}(h:Qi zz F=true):∃v j p,zz= .Constant v j p∧F v=true:=by
 obtain⟨q,h⟩:=Y1 h
 exact Expr.Constant.elim (motive_1:=fun zz=>∀q:zz.ctorIdx=19,Expr.Constant.elim (motive_1:=fun _=>Bool) zz q (fun v _ _=>F v)=true→∃v j p,zz= .Constant v j p∧F v=true) zz q (fun v j p _ h=>⟨v,j,p,rfl,h⟩) q h
noncomputable def Ya0(zz:Expr)(F:Expr→Operator→Expr→Bool):Bool:=if q:zz.ctorIdx=2 then Expr.BinOp.elim (motive_1:=fun _=>Bool) zz q (fun l o r _=>F l o r) else false
theorem Z88{zz:Expr}{F:Expr→Operator→Expr→Bool}(h:Ya0 zz F=true):∃l o r p,zz= .BinOp l o r p∧F l o r=true:=by
 obtain⟨q,h⟩:=Y1 h
 exact Expr.BinOp.elim (motive_1:=fun zz=>∀q:zz.ctorIdx=2,Expr.BinOp.elim (motive_1:=fun _=>Bool) zz q (fun l o r _=>F l o r)=true→∃l o r p,zz= .BinOp l o r p∧F l o r=true) zz q (fun l o r p _ h=>⟨l,o,r,p,rfl,h⟩) q h
noncomputable def onUn(zz:Expr)(F:UnaryOp→Expr→Bool):Bool:=if q:zz.ctorIdx=3 then Expr.UnaryOp.elim (motive_1:=fun _=>Bool) zz q (fun o l _=>F o l) else false
theorem Z11{zz:Expr}{F:UnaryOp→Expr→Bool}(h:onUn zz F=true):∃o l p,zz= .UnaryOp o l p∧F o l=true:=by
 obtain⟨q,h⟩:=Y1 h
 exact Expr.UnaryOp.elim (motive_1:=fun zz=>∀q:zz.ctorIdx=3,Expr.UnaryOp.elim (motive_1:=fun _=>Bool) zz q (fun o l _=>F o l)=true→∃o l p,zz= .UnaryOp o l p∧F o l=true) zz q (fun o l p _ h=>⟨o,l,p,rfl,h⟩) q h
noncomputable def Yf4(zz:Expr)(F:Expr→(List CmpOp)→(List Expr)→Bool):Bool:=if q:zz.ctorIdx=15 then Expr.Compare.elim (motive_1:=fun _=>Bool) zz q (fun l os rs _=>F l os rs) else false
theorem Zh9{zz:Expr}{F:Expr→(List CmpOp)→(List Expr)→Bool}(h:Yf4 zz F=true):∃l os rs p,zz= .Compare l os rs p∧F l os rs=true:=by
 obtain⟨q,h⟩:=Y1 h
 exact Expr.Compare.elim (motive_1:=fun zz=>∀q:zz.ctorIdx=15,Expr.Compare.elim (motive_1:=fun _=>Bool) zz q (fun l os rs _=>F l os rs)=true→∃l os rs p,zz= .Compare l os rs p∧F l os rs=true) zz q (fun l os rs p _ h=>⟨l,os,rs,p,rfl,h⟩) q h
noncomputable def Zw1(zz:Expr)(F:BoolOp→(List Expr)→Bool):Bool:=if q:zz.ctorIdx=0 then Expr.BoolOp.elim (motive_1:=fun _=>Bool) zz q (fun o ls _=>F o ls) else false
theorem Z60{zz:Expr}{F:BoolOp→(List Expr)→Bool}(h:Zw1 zz F=true):∃o ls p,zz= .BoolOp o ls p∧F o ls=true:=by
 obtain⟨q,h⟩:=Y1 h
 exact Expr.BoolOp.elim (motive_1:=fun zz=>∀q:zz.ctorIdx=0,Expr.BoolOp.elim (motive_1:=fun _=>Bool) zz q (fun o ls _=>F o ls)=true→∃o ls p,zz= .BoolOp o ls p∧F o ls=true) zz q (fun o ls p _ h=>⟨o,ls,p,rfl,h⟩) q h
noncomputable def Yb9(zz:Expr)(F:(List Expr)→Bool):Bool:=if q:zz.ctorIdx=24 then Expr.List.elim (motive_1:=fun _=>Bool) zz q (fun ls _=>F ls) else false
theorem Zg9{zz:Expr}{F:(List Expr)→Bool}(h:Yb9 zz F=true):∃ls p,zz= .List ls p∧F ls=true:=by
 obtain⟨q,h⟩:=Y1 h
 exact Expr.List.elim (motive_1:=fun zz=>∀q:zz.ctorIdx=24,Expr.List.elim (motive_1:=fun _=>Bool) zz q (fun ls _=>F ls)=true→∃ls p,zz= .List ls p∧F ls=true) zz q (fun ls p _ h=>⟨ls,p,rfl,h⟩) q h
noncomputable def Yg2(zz:Expr)(F:(List Expr)→Bool):Bool:=if q:zz.ctorIdx=25 then Expr.Tuple.elim (motive_1:=fun _=>Bool) zz q (fun ls _ _=>F ls) else false
theorem Zi9{zz:Expr}{F:(List Expr)→Bool}(h:Yg2 zz F=true):∃ls j p,zz= .Tuple ls j p∧F ls=true:=by
 obtain⟨q,h⟩:=Y1 h
 exact Expr.Tuple.elim (motive_1:=fun zz=>∀q:zz.ctorIdx=25,Expr.Tuple.elim (motive_1:=fun _=>Bool) zz q (fun ls _ _=>F ls)=true→∃ls j p,zz= .Tuple ls j p∧F ls=true) zz q (fun ls j p _ h=>⟨ls,j,p,rfl,h⟩) q h
noncomputable def Y10(zz:Expr)(F:Expr→Expr→Bool):Bool:=if q:zz.ctorIdx=21 then Expr.Subscript.elim (motive_1:=fun _=>Bool) zz q (fun l r _=>F l r) else false
theorem F7{zz:Expr}{F:Expr→Expr→Bool}(h:Y10 zz F=true):∃l r p,zz= .Subscript l r p∧F l r=true:=by
 obtain⟨q,h⟩:=Y1 h
 exact Expr.Subscript.elim (motive_1:=fun zz=>∀q:zz.ctorIdx=21,Expr.Subscript.elim (motive_1:=fun _=>Bool) zz q (fun l r _=>F l r)=true→∃l r p,zz= .Subscript l r p∧F l r=true) zz q (fun l r p _ h=>⟨l,r,p,rfl,h⟩) q h
noncomputable def Y95(zz:Expr)(F:(Option Expr)→(Option Expr)→(Option Expr)→Bool):Bool:=if q:zz.ctorIdx=26 then Expr.Slice.elim (motive_1:=fun _=>Bool) zz q (fun x y z _=>F x y z) else false
theorem Zh7{zz:Expr}{F:(Option Expr)→(Option Expr)→(Option Expr)→Bool}(h:Y95 zz F=true):∃x y z p,zz= .Slice x y z p∧F x y z=true:=by
 obtain⟨q,h⟩:=Y1 h
 exact Expr.Slice.elim (motive_1:=fun zz=>∀q:zz.ctorIdx=26,Expr.Slice.elim (motive_1:=fun _=>Bool) zz q (fun x y z _=>F x y z)=true→∃x y z p,zz= .Slice x y z p∧F x y z=true) zz q (fun x y z p _ h=>⟨x,y,z,p,rfl,h⟩) q h
noncomputable def N9(zz:Expr)(F:Expr→(List Expr)→(List Keyword)→Pos→Bool):Bool:=if q:zz.ctorIdx=16 then Expr.Call.elim (motive_1:=fun _=>Bool) zz q (fun fn ls kws p=>F fn ls kws p) else false
theorem Xi{zz:Expr}{F:Expr→(List Expr)→(List Keyword)→Pos→Bool}(h:N9 zz F=true):∃fn ls kws p,zz= .Call fn ls kws p∧F fn ls kws p=true:=by
 obtain⟨q,h⟩:=Y1 h
 exact Expr.Call.elim (motive_1:=fun zz=>∀q:zz.ctorIdx=16,Expr.Call.elim (motive_1:=fun _=>Bool) zz q (fun fn ls kws p=>F fn ls kws p)=true→∃fn ls kws p,zz= .Call fn ls kws p∧F fn ls kws p=true) zz q (fun fn ls kws p _ h=>⟨fn,ls,kws,p,rfl,h⟩) q h
noncomputable def Zw9(zz:Expr)(F:Expr→Str→Pos→Bool):Bool:=if q:zz.ctorIdx=20 then Expr.Attribute.elim (motive_1:=fun _=>Bool) zz q (fun l g p=>F l g p) else false
theorem Z41{zz:Expr}{F:Expr→Str→Pos→Bool}(h:Zw9 zz F=true):∃l g p,zz= .Attribute l g p∧F l g p=true:=by
 obtain⟨q,h⟩:=Y1 h
 exact Expr.Attribute.elim (motive_1:=fun zz=>∀q:zz.ctorIdx=20,Expr.Attribute.elim (motive_1:=fun _=>Bool) zz q (fun l g p=>F l g p)=true→∃l g p,zz= .Attribute l g p∧F l g p=true) zz q (fun l g p _ h=>⟨l,g,p,rfl,h⟩) q h
noncomputable def onLC(zz:Expr)(F:Expr→(List Comprehension)→Scope→Bool):Bool:=if q:zz.ctorIdx=8 then Expr.ListComp.elim (motive_1:=fun _=>Bool) zz q (fun el gens scope _=>F el gens scope) else false
theorem B5{zz:Expr}{F:Expr→(List Comprehension)→Scope→Bool}(h:onLC zz F=true):∃el gens scope p,zz= .ListComp el gens scope p∧F el gens scope=true:=by
 obtain⟨q,h⟩:=Y1 h
 exact Expr.ListComp.elim (motive_1:=fun zz=>∀q:zz.ctorIdx=8,Expr.ListComp.elim (motive_1:=fun _=>Bool) zz q (fun el gens scope _=>F el gens scope)=true→∃el gens scope p,zz= .ListComp el gens scope p∧F el gens scope=true) zz q (fun el gens scope p _ h=>⟨el,gens,scope,p,rfl,h⟩) q h
noncomputable def on0{α:Type}(l:List α)(b:Bool):Bool:=match l with
 | []=>b
 | _::_=>false
noncomputable def on1{α:Type}(l:List α)(F:α→Bool):Bool:=match l with
 | []=>false
 | x::r=>on0 r (F x)
noncomputable def onC{α:Type}(l:List α)(F:α→List α→Bool):Bool:=match l with
 | []=>false
 | x::r=>F x r
theorem S9{α:Type}{l:List α}{b:Bool}(h:on0 l b=true):l=[]∧b=true:=by
 cases l with
 | nil=>exact⟨rfl,h⟩
 | cons _ _=>exact absurd h Bf9
theorem Q6{α:Type}{l:List α}{F:α→Bool}(h:on1 l F=true):∃x,l=[x]∧F x=true:=by
 cases l with
 | nil=>exact absurd h Bf9
 | cons x r=>obtain⟨rfl,h⟩:=S9 h;exact⟨x,rfl,h⟩
theorem Zh6{α:Type}{l:List α}{F:α→List α→Bool}(h:onC l F=true):∃x r,l=x::r∧F x r=true:=by
 cases l with
 | nil=>exact absurd h Bf9
 | cons x r=>exact⟨x,r,rfl,h⟩
noncomputable def noO{α:Type}(o:Option α)(b:Bool):Bool:=match o with
 | none=>b
 | some _=>false
theorem Y66{α:Type}{o:Option α}{b:Bool}(h:noO o b=true):o=none∧b=true:=by
 cases o with
 | none=>exact⟨rfl,h⟩
 | some _=>exact absurd h Bf9
noncomputable def onZ(i:Int)(b:Bool):Bool:=match i with
 | .ofNat 0=>b
 | _=>false
theorem Zl8{i:Int}{b:Bool}(h:onZ i b=true):i=0∧b=true:=by
 rcases i with(_ | n) | n
 ·exact⟨rfl,h⟩
 ·exact absurd h Bf9
 ·exact absurd h Bf9
mutual
noncomputable def chkE(k:Ck):E→Expr→Bool
 | .var i,ex=>R9 ex fun x=>k.N[i]?==some x&&k.vis x
 | .int i,ex=>Qi ex fun v=>match v with
  | .int j=>i==j
  | _=>false
 | .bl b,ex=>Qi ex fun v=>match v with
  | .bool c=>b==c
  | _=>false
 | .non,ex=>Qi ex fun v=>match v with
  | .none=>true
  | _=>false
 | .str x,ex=>Qi ex fun v=>match v with
  | .str y=>x==y
  | _=>false
 | .ty t,ex=>R9 ex fun x=>x==Str.ofString (Ym t)&&k.glob x&&k.BN.contains x
 | .glb g,ex=>R9 ex fun x=>k.GN[g]?==some x&&k.glob x
 | .bin op a b,ex=>Ya0 ex fun l o r=>o==opOf op&&chkE k a l&&chkE k b r
 | .neg a,ex=>onUn ex fun o l=>o== .USub&&chkE k a l
 | .not a,ex=>onUn ex fun o l=>o== .Not&&chkE k a l
 | .cmp op a b,ex=>Yf4 ex fun l os rs=>on1 os fun o=>on1 rs fun r=>o==cmOf op&&(!isIn op || Zk7 r)&&chkE k a l&&chkE k b r
 | .bop b es,ex=>Zw1 ex fun o ls=>o==(if b then .And else .Or)&&V2 k es ls
 | .lst es,ex=>Yb9 ex fun ls=>V2 k es ls
 | .tup es,ex=>Yg2 ex fun ls=>V2 k es ls
 | .ix a b,ex=>Y10 ex fun l r=>Ce r&&chkE k a l&&chkE k b r
 | .sl a lo hi,ex=>Y10 ex fun l r=>Y95 r fun x y z=>noO z (chkE k a l&&chkO k lo x&&chkO k hi y)
 | .slW a lo hi,.Subscript l (.Slice x y none _) _=>chkE k a l&&chkO k lo x&&chkO k hi y
 | .setf b a,.Call (.Name x _) [.Call (.Name y _) [l] [] _] [] _=>k.calm&&x==("len":Str)&&y==("set":Str)&&k.glob x&&k.glob y&&k.BN.contains x&&k.BN.contains y&&Yz l&&chkE k a l
 | .lrev a,.Call (.Name x _) [.Call (.Name y _) [l] [] _] [] _=>k.calm&&x==("list":Str)&&y==("reversed":Str)&&k.glob x&&k.glob y&&k.BN.contains x&&k.BN.contains y&&Yz l&&chkE k a l
 | .fstr es,.JoinedStr vs _=>decide (2≤vs.length)&&Gk k es vs
 | .allf a,.Call (.Name x _) [l] [] _=>k.calm&&x==("all":Str)&&k.glob x&&k.BN.contains x&&Yz l&&chkE k a l
 | .anyf a,.Call (.Name x _) [l] [] _=>k.calm&&x==("any":Str)&&k.glob x&&k.BN.contains x&&Yz l&&chkE k a l
 | .call f es,ex=>N9 ex fun fn ls kws _=>R9 fn fun x=>on0 kws (k.calm&&k.FN[f]?==some x&&k.glob x&&V2 k es ls)
 | .bf b es,ex=>N9 ex fun fn ls kws _=>R9 fn fun x=>on0 kws (onC ls fun l ls=>(k.calm || Qp b)&&x==(bfOf b).1&&k.glob x&&k.BN.contains x&&V2 k es (l::ls))
 | .mt m o es,ex=>N9 ex fun fn ls kws cp=>Zw9 fn fun l nm ap=>on0 kws (nm==mtN m&&Zi3 l&&ap.endLine==cp.line&&decide (ls.length<30)&&chkE k o l&&V2 k es ls)
 | .comp N' js tg it cd e,ex=>onLC ex fun el gens scope=>on1 gens fun g=>match g with
  | ⟨t,iter,ifs,as⟩=>onZ as (k.calm&&Vv k.sc k.N N' js scope&&Zk7 iter&&Zm9 k it iter&&decide N'.Nodup&&
   Gj {k with N:=N',sc:=Xq scope k.sc,cells:=false,own:=El scope,tries:=false,raises:=[]} tg t&&chkC {k with N:=N',sc:=Xq scope k.sc,cells:=false,own:=El scope,tries:=false,raises:=[]} cd ifs&&chkE {k with N:=N',sc:=Xq scope k.sc,cells:=false,own:=El scope,tries:=false,raises:=[]} e el&&itTg it t)
 | _,_=>false
noncomputable def Gk(k:Ck):Es→List Expr→Bool
 | .nil,vs=>vs.isEmpty
 | .cons e r,vs=>match vs with
  | []=>false
  | x::xs=>(match x with
   | .FormattedValue v cv none _=>cv==(-1)&&chkE k e v
   | .Constant (.str z) _ _=>isS e z
   | _=>false)&&Gk k r xs
noncomputable def V2(k:Ck):Es→List Expr→Bool
 | .nil,[]=>true
 | .cons e r,x::xs=>chkE k e x&&Yz x&&V2 k r xs
 | _,_=>false
noncomputable def chkO(k:Ck):Eo→Option Expr→Bool
 | .no,none=>true
 | .yes e,some x=>chkE k e x
 | _,_=>false
noncomputable def chkC(k:Ck):Eo→List Expr→Bool
 | .no,[]=>true
 | .yes e,[x]=>chkE k e x&&noIf e
 | _,_=>false
noncomputable def Zm9(k:Ck):It→Expr→Bool
 | .seq e,x=>chkE k e x
 | .rng1 a,ex=>N9 ex fun fn ls kws _=>R9 fn fun x=>on0 kws (on1 ls fun l=>x==("range":Str)&&k.glob x&&k.BN.contains x&&Yz l&&chkE k a l)
 | .zip es,ex=>N9 ex fun fn ls kws _=>R9 fn fun x=>on0 kws (onC ls fun l ls=>x==("zip":Str)&&k.glob x&&k.BN.contains x&&V2 k es (l::ls))
noncomputable def noIf:E→Bool
 | .not a=>noIf a
 | .bop _ es=>Z38 es
 | _=>true
noncomputable def Z38:Es→Bool
 | .nil=>true
 | .cons e r=>noIf e&&Z38 r
end
def Zt2(X:Cx)(x:Str)(sp:DSp):Prop:=
 ∃(kk:Nat) (f:Addr) (fd:FuncData) (ps:List Str) (ds:List Value) (dvs:List V) (dD:List D) (sp0:DSp),FnOk X.prog X.w X.K X.mg X.base (CX1 X.prog X.w) kk f fd ps (spF X.K sp0)∧Room kk X.A∧X.mg x=some (.ref f)∧Ha X.K (.ref f)=true∧
  Pl X.K fd ps ds∧Vals dvs ds∧(∀w:Vw,w.K=X.K→RDs w dD dvs)∧∀as M Q Z,sp as M Q Z→sp0 (as++dD) M Q Z
structure Good(c:Cfg)(k:Ck)(Z:DX)(w0:Vw)(X:Cx):Prop where
 hK:X.K=c.K
 wK:w0.K=c.K
 N:X.N=k.N
 nd:X.N.Nodup
 sc:X.env.scope=k.sc
 calm:k.calm=true→X.calm=true
 units:X.A.units+64<cLine
 fns:k.calm=true→∀(f:Nat) (x:Str) (sp:DSp),k.FN[f]?=some x→c.Γ[f]?=some sp→Zt2 X x sp
 flen:k.FN.length=c.Γ.length
 glb:∀(g:Nat) (x:Str) (d:D),k.GN[g]?=some x→c.G[g]?=some d→∃v u,X.mg x=some u∧RelV v u∧∀w:Vw,w.K=X.K→RD w d v
 blt:∀x,x∈k.BN→X.mg x=none
 exc:∃E,Z00 (CX1 X.prog X.w) X E∧∀cls dd H',xkOf w0 Z cls dd H'→E cls dd H'
 stk:k.tries=true→X.stack=X.env::X.outer∧X.env.frame=some X.env.locals
 po:k.loops=true→PassesOwn (model X.prog X.w) X.A X.env X.xe
 fnc:k.cells=true→∀x,X.fn x=true
 fno:∀x,x∈k.own→X.fn x=true
theorem Za0(x:Ext w w')(h:xkOf w' Z cls dd H'):xkOf w Z cls dd H':=by
 obtain⟨C,dx,r,w2,row,M,e1,e2,e3,e4,h5⟩:=h
 exact⟨C,dx,r,w2,row,M,e1,e2,e3,x.trans e4,h5⟩
def ttD(f:DE):DT:=fun σ M Q=>f σ M fun x M1=>truD M1 x fun b=>Q b M1
section
variable{c:Cfg}{k:Ck}{Z:DX}{w0:Vw}{X:Cx}
theorem Good.gl(G:Good c k Z w0 X){x:Str}(h:k.glob x=true):Gl X x∧(x==("__debug__":Str))=false∧x≠"__name__":=by
 unfold Ck.glob at h
 simp only[Bz9,beq_iff_eq,Bool.not_eq_true',beq_eq_false_iff_ne] at h
 refine⟨?_,by simpa using h.1.2,h.2⟩
 unfold Gl Env.kindOf
 rw[G.sc];exact h.1.1
theorem Good.vis(G:Good c k Z w0 X){x:Str}(h:k.vis x=true):Vis X.env.scope x∧(x==("__debug__":Str))=false∧(x==("__classdict__":Str))=false:=by
 unfold Ck.vis at h
 simp only[Bz9,beq_iff_eq,Bool.not_eq_true',Bool.or_eq_true] at h
 refine⟨?_,h.1.2,h.2⟩
 unfold Vis
 rw[G.sc]
 rcases h.1.1 with(q | q) | q
 ·exact .inl q
 ·exact .inr (.inl q)
 ·exact .inr (.inr q)
theorem Good.locC(G:Good c k Z w0 X){x:Str}(h:k.locC x=true):Loc X.env.scope x∧(X.fn x=true∨X.env.scope.names.lookup x=some .local):=by
 unfold Ck.locC Ck.loc at h
 rw[Bool.or_eq_true,Bz9] at h
 rcases h with h | ⟨h1,h2⟩
 ·have hl:X.env.scope.names.lookup x=some .local:=by rw[G.sc];exact Kc h
  exact⟨.inl hl,.inr hl⟩
 ·refine⟨.inr (by rw[G.sc];exact Kc h2),.inl ?_⟩
  rw[Bool.or_eq_true,Dw] at h1
  rcases h1 with z | z
  ·exact G.fnc z x
  ·exact G.fno x z
theorem Good.eK(G:Good c k Z w0 X):X.K=w0.K:=G.hK.trans G.wK.symm
theorem StOk.K{w w0:Vw}{σD:DEnv}{M:Z2}{σ:L2.St}{H:Hp}(S:StOk w0 w σD M σ H):w.K=w0.K:=S.ext.K
theorem Zu{H:Hp}(S:StOk w0 w σD M σ H)(h:f σD M QD)(a:Aft w QD Q):tF w0 f σ H Q:=⟨w,σD,M,QD,S,h,a⟩
theorem Gs(h:Zi3 l=true):attributeBase l nm env (eval l env)=eval l env:=by
 unfold attributeBase
 split
 ·rename_i id np pos
  have:(id !="super" || nm=="__class__" || env.kindOf "super" !=some .globalImplicit || env.kindOf "__class__" !=some .free)=true:=by
   have:(id !=("super":Str))=true:=h
   rw[this];rfl
  simp only[this,if_true]
 ·rfl
theorem Zn{x:Expr}(h:Yz x=true):starEach (x::xs) env=(false,eval x env)::starEach xs env:=by
 cases x<;>first | rfl | cases h
theorem Xf{k:Ck}:∀(es:Es) (xs:List Expr),V2 k es xs=true→(starEach xs env).all (fun p=> !p.1)=true
 | .nil,[],_=>rfl
 | .nil,_::_,h=>absurd h Bf9
 | .cons e r,[],h=>absurd h Bf9
 | .cons e r,x::xs,h=>by
  simp only[V2,Bz9] at h
  rw[Zn h.1.2]
  simp only[Ho,Bool.not_false,Bool.true_and]
  exact Xf r xs h.2
theorem Ry(h:l.all (fun p=> !p.1)=true):(backTo pos l).any (·.1)=false:=by
 induction l with
 | nil=>rfl
 | cons p r ih=>
  simp only[Ho,Bz9,Bool.not_eq_true'] at h
  show(p.1 || (backTo pos r).any (·.1))=false
  rw[h.1,ih h.2];rfl
theorem Zu9(h:l.all (fun p=> !p.1)=true):(backTo pos l).all (fun x=> !x.1)=true:=by
 induction l with
 | nil=>rfl
 | cons p r ih=>
  simp only[Ho,Bz9] at h
  show((!p.1)&&(backTo pos r).all (fun x=> !x.1))=true
  rw[h.1,ih h.2];rfl
theorem Yk6(G:Good c k Z w0 X)(h:PE X ex (tF w0 f))(he:∀whole,isTrue ex X.env whole=(do let v ←whole;standAt ex.pos;holding [v] (truthy v))):PT X ex (tFT w0 (ttD f)):=by
 refine PT.imp (Zn1 h he) fun σ H Q zz67=>?_
 obtain⟨w,σD,M,QD,S,g,a⟩:=zz67
 refine Zu S g fun v w' d M' x r rd q=>?_
 obtain⟨b,t1,t2⟩:=Tv (K:=X.K) (by rw[x.K,S.K,G.eK]) r rd q
 exact⟨b,t1,a b w' M' x r t2⟩
theorem Zz6(h:PT X ex (Y96 (tF w0 f)))(hb:∀σD M QD,f σD M QD→f σD M fun d M'=>(∃b,d= .bl b)∧QD d M'):PT X ex (tFT w0 (ttD f)):=by
 refine PT.imp h fun σ H Q zz68=>?_
 obtain⟨w,σD,M,QD,S,g,a⟩:=zz68
 refine Zu S (hb _ _ _ g) fun v w' d M' x r rd q=>?_
 obtain⟨⟨b,rfl⟩,q⟩:=q
 cases Yj.mp rd
 exact⟨b,rfl,a b w' M' x r q⟩
theorem Zh5{H:Hp}(h:tF w0 (fun σD M QD=>fa σD M fun x M1=>fb σD M1 fun y M2=>g x y M2 QD) σ H Q):tOp (rF w0 g) (tF w0 fa) (tF w0 fb) σ H Q:=by
 obtain⟨w,σD,M,QD,S,g0,a⟩:=h
 refine Zu S g0 fun x w1 dx M1 x1 r1 rx q1=>?_
 refine Zu (S.next x1 r1) q1 fun y w2 dy M2 x2 r2 ry q2=>?_
 exact⟨w2,M2,dx,dy,QD,rfl,(S.ext.trans x1).trans x2,r2,rx.ext x2,ry,q2,a.ext (x1.trans x2)⟩
theorem Gr{H:Hp}(h:tF w0 (fun σD M QD=>fa σD M fun x M1=>fb σD M1 fun y M2=>g M2 x y fun b=>QD (.bl b) M2) σ H Q):tOp (rB w0 g) (tF w0 fa) (tF w0 fb) σ H Q:=by
 obtain⟨w,σD,M,QD,S,g0,a⟩:=h
 refine Zu S g0 fun x w1 dx M1 x1 r1 rx q1=>?_
 refine Zu (S.next x1 r1) q1 fun y w2 dy M2 x2 r2 ry q2=>?_
 exact⟨w2,M2,dx,dy,_,rfl,((S.ext.trans x1).trans x2).K,r2,rx.ext x2,ry,q2,fun b hb=>a _ w2 _ M2 (x1.trans x2) r2 (Yj.mpr rfl) hb⟩
theorem Y41{a:Expr}(ha:PE X a ta):PE X (.UnaryOp .Not a pos) (fun σ H Q=>ta σ H fun x H1=>∃b,TruV X.K x H1 b∧Q (.bl (!b)) H1):=by
 intro pins s σ H Q I h
 refine UnaryOp_ (thn (ha pins s σ H _ I h) fun v s1 zz69=>?_)
 obtain⟨x,H1,I1,r1,q1⟩:=zz69
 refine not_of (thn (Bl pins s1 σ H1 x v (fun b H2=>Q (.bl (!b)) H2) I1 r1 q1) fun b s2 zz70=>by obtain⟨H2,I2,q2⟩:=zz70;exact⟨.bl (!b),H2,I2,rfl,q2⟩)
theorem Y23(t:Ty):bootBuiltins (Str.ofString (Ym t))=some (.type (Ym t)):=by
 cases t
 ·exact boot_int
 ·exact boot_str
 ·exact boot_bool
 ·exact boot_list
 ·exact boot_tuple
 ·exact boot_dict
 ·show bootBuiltins "ValueError"=some (.type "ValueError")
  decide+kernel
theorem En:bootBuiltins "sorted"=some (.builtin "sorted"):=by decide+kernel
theorem Zq3:bootBuiltins "set"=some (.type "set"):=by decide+kernel
theorem Nu:bootBuiltins "reversed"=some (.type "reversed"):=by decide+kernel
theorem Zo0:bootBuiltins "all"=some (.builtin "all"):=by decide+kernel
theorem Zs3:bootBuiltins "any"=some (.builtin "any"):=by decide+kernel
theorem Y81(b:Bf):bootBuiltins (bfOf b).1=some (bfOf b).2:=by
 cases b<;>first | exact PySem.boot_len | exact boot_isinstance | exact PyProof.Rows.boot_min | exact PyProof.Rows.boot_max | exact boot_list | exact boot_tuple | exact boot_dict | exact boot_str | exact En | exact boot_int
end
def JOk(w1:Vw)(J:L2.It)(own:Own)(xs:List D):Prop:=∀w M,Ext w1 w→RS w M→O4 own xs M→∀i:Nat,
 (∀d,xs[i]?=some d→J.go i w.H∧∀x H',J.yld i w.H x H'→∃w',w'.H=H'∧Ext w w'∧RS w' M∧RD w' d x)∧(xs.length≤i→J.stop i w.H)
def iF(w0:Vw)(f:DEnv→Z2→(Own→List D→Z2→Prop)→Prop):TI:=fun σ H R=>∃w σD M QD,StOk w0 w σD M σ H∧f σD M QD∧
 ∀J w' own xs M',Ext w w'→RS w' M'→JOk w' J own xs→QD own xs M'→R J w'.H
section
variable{c:Cfg}{k:Ck}{Z:DX}{w0:Vw}{X:Cx}
theorem PI.imp{t t':TI}(h:PI X tg it t)(q:∀σ H R,t' σ H R→t σ H R):PI X tg it t':=fun pins s σ H R I z=>h pins s σ H R I (q σ H R z)
theorem Yc2(hl:PE X l tl):PI X tg l (fun σ H R=>tl σ H fun x H1=>(∃a,x= .ref a∧(∃xs,SqL X.K H1 a xs)∧R (Itl X.K a) H1)∨(∃a,x= .ref a∧(∃xs,SqT X.K H1 a xs)∧R (Itt X.K a) H1)∨∃z,x= .str z∧R (Its z) H1):=by
 intro pins s σ H R I h
 refine thn (hl pins s σ H _ I h) fun v s1 zz71=>?_
 obtain⟨x,H1,I1,r1,q1⟩:=zz71
 have fp:∀b∈[s1.heap.objs.size],FpOk X pins H1 b:=fun b hb=>by
  have e:b=s1.heap.objs.size:=by simpa using hb
  subst e
  exact I1.fpOk (Nat.le_refl _) (I1.hok.fresh (Nat.le_refl _))
 rcases q1 with⟨a,e,⟨xs,hq⟩,q⟩ | ⟨a,e,⟨xs,hq⟩,q⟩ | ⟨z,e,q⟩
 rotate_left 2
 ·subst e
  obtain⟨t,rfl⟩:=r1
  exact Zn7 I1 q
 ·subst e
  cases r1
  obtain⟨its,rv,p,hz⟩:=I1.list hq
  refine Lr p.isList ?_
  exact⟨s1.heap.objs.size,[s1.heap.objs.size],_,_,H1,rfl,I1.kept (t':=s1.toks) fun b o e=>Ak _ e,Za8 a _,⟨_,Aw _ rfl,rfl,rfl⟩,fp,q⟩
 ·subst e
  cases r1
  obtain⟨its,rv,p,hz⟩:=I1.tuple hq
  refine wpAny_pyIter_tuple (show s1.heap.IsTuple a its.toArray from p) ?_
  exact⟨s1.heap.objs.size,[s1.heap.objs.size],_,_,H1,rfl,I1.kept (t':=s1.toks) fun b o e=>Ak _ e,Z49 a _,⟨_,Aw _ rfl,rfl,rfl⟩,fp,q⟩
theorem Zr4{n:Nat}(hK:X.K=w1.K)(hn:n<w1.n):JOk w1 (Itl X.K (w1.μ n)) (.lst n) xs:=by
 intro w M x R st i
 obtain⟨_,vs,q1,q2,_⟩:=R.listL st
 rw[x.μ n hn,x.K,←hK] at q1
 refine⟨fun d e=>?_,fun hl=>⟨vs,q1,by rw[q2.length];exact hl⟩⟩
 obtain⟨v,z1,z2⟩:=q2.get e
 refine⟨⟨vs,v,q1,z1⟩,fun y H' ⟨e1,e2⟩=>⟨w,e1.symm,Ext.refl w,R,?_⟩⟩
 have:=e2 vs q1
 rw[z1] at this
 cases this
 exact z2
theorem Zc2(h1:RDs w ys us)(h2:RDs w zs vs){i:Nat}{d:D}(e:(zipT ys zs)[i]?=some d):∃x y u v,d= .tup [x,y]∧us[i]?=some u∧vs[i]?=some v∧RD w x u∧RD w y v:=by
 unfold zipT at e
 rw[As,Ia] at e
 obtain⟨p,e,rfl⟩:=e
 rw[List.getElem?_zip_eq_some] at e
 obtain⟨u,a1,a2⟩:=h1.get e.1
 obtain⟨v,b1,b2⟩:=h2.get e.2
 exact⟨_,_,u,v,rfl,a1,b1,a2,b2⟩
theorem Y78{n m:Nat}(hK:X.K=w1.K)(hn:n<w1.n)(hm:m<w1.n):JOk w1 (Itz X.K (w1.μ n) (w1.μ m)) (.two n m) xs:=by
 intro w M x R st i
 obtain⟨ys,zs,st,st2,rfl⟩:=st
 obtain⟨_,us,q1,q2,_⟩:=R.listL st
 obtain⟨_,vs,p1,p2,_⟩:=R.listL st2
 rw[x.μ n hn,x.K,←hK] at q1
 rw[x.μ m hm,x.K,←hK] at p1
 refine⟨fun d e=>?_,fun hl=>⟨us,vs,q1,p1,?_⟩⟩
 ·obtain⟨dx,dy,u,v,rfl,a1,a2,a3,a4⟩:=Zc2 q2 p2 e
  refine⟨⟨us,vs,u,v,q1,p1,a1,a2⟩,fun y H' zz73=>?_⟩
  obtain⟨p,u',v',hp,e1,e2,e3,e4⟩:=zz73
  have h3:=e3 us q1
  have h4:=e4 vs p1
  rw[a1] at h3
  rw[a2] at h4
  cases h3
  cases h4
  subst e1 e2
  obtain⟨b1,b2,b3⟩:=Vm R hp (RDs.cons a3 (RDs.cons a4 (RDs.nil w)))
  exact⟨_,rfl,b1,b2,b3⟩
 ·have l1:=q2.length
  have l2:=p2.length
  unfold zipT at hl
  rw[Ac,List.length_zip] at hl
  omega
theorem Zu5{a b:D}(h:zip2 M a b Q):(∃n m ys zs,a= .ref n∧b= .ref m∧Za M n=some ys∧Za M m=some zs∧Q (.two n m) (zipT ys zs))∨(∃ys zs,a= .tup ys∧b= .tup zs∧Q .no (zipT ys zs)):=by
 cases a with
 | ref n=>
  obtain⟨m,rfl,ys,zs,h1,h2,h3⟩:=Zy h
  exact .inl ⟨n,m,ys,zs,rfl,rfl,h1,h2,h3⟩
 | tup ys=>
  obtain⟨zs,rfl,h1⟩:=Q8 h
  exact .inr ⟨ys,zs,rfl,rfl,h1⟩
 | _=>exact Di h
theorem Zn6{a b:Addr}(ha:w1.H a=some (.tup us))(hb:w1.H b=some (.tup vs))(hr:RDs w1 ys us)(hs:RDs w1 zs vs):JOk w1 (Itzt X.K a b us vs) .no (zipT ys zs):=by
 intro w M x R st i
 have q1:SqT X.K w.H a us:= .of (x.imm _ _ ha rfl)
 have p1:SqT X.K w.H b vs:= .of (x.imm _ _ hb rfl)
 have q2:=hr.ext x
 have p2:=hs.ext x
 refine⟨fun d e=>?_,fun hl=>⟨q1,p1,?_⟩⟩
 ·obtain⟨dx,dy,u,v,rfl,a1,a2,a3,a4⟩:=Zc2 q2 p2 e
  refine⟨⟨u,v,q1,p1,a1,a2⟩,fun y H' zz74=>?_⟩
  obtain⟨p,u',v',hp,e1,e2,e3,e4⟩:=zz74
  rw[a1] at e3
  rw[a2] at e4
  cases e3
  cases e4
  subst e1 e2
  obtain⟨b1,b2,b3⟩:=Vm R hp (RDs.cons a3 (RDs.cons a4 (RDs.nil w)))
  exact⟨_,rfl,b1,b2,b3⟩
 ·have l1:=q2.length
  have l2:=p2.length
  unfold zipT at hl
  rw[Ac,List.length_zip] at hl
  omega
theorem Y35{z:Str}:JOk w1 (Its z) .no (J9 z):=by
 intro w M x R st i
 have hl:(J9 z).length=z.length:=by unfold J9;rw[Ac];simp[Str.length]
 refine⟨fun d e=>⟨?_,fun y H' ⟨e1,c,e2,e3⟩=>?_⟩,fun h=>by rw[hl] at h;exact h⟩
 ·have:=(Af.mp e).1
  rw[hl] at this
  exact this
 ·unfold J9 at e
  rw[As,e2] at e
  cases e
  exact⟨w,e1.symm,Ext.refl w,R,by rw[e3];exact Zc.mpr rfl⟩
theorem Zb3{a:Addr}(hK:X.K=w1.K)(h:SqT w1.K w1.H a vs)(r:RDs w1 xs vs):JOk w1 (Itt X.K a) .no xs:=by
 intro w M x R st i
 have q1:=x.sqT h
 rw[x.K,←hK] at q1
 have q2:=r.ext x
 refine⟨fun d e=>?_,fun hl=>⟨vs,q1,by rw[q2.length];exact hl⟩⟩
 obtain⟨v,z1,z2⟩:=q2.get e
 refine⟨⟨vs,v,q1,z1⟩,fun y H' ⟨e1,e2⟩=>⟨w,e1.symm,Ext.refl w,R,?_⟩⟩
 have:=e2 vs q1
 rw[z1] at this
 cases this
 exact z2
theorem Y71{w1:Vw}{lo:Int}{n:Nat}:JOk w1 (Itr lo n) .no (Jb lo n):=by
 intro w M x R st i
 unfold Jb
 refine⟨fun d e=>?_,fun hl=>?_⟩
 ·rw[As,Ia] at e
  obtain⟨j,h1,rfl⟩:=e
  obtain⟨h2,h3⟩:=Af.mp h1
  have hj:j=i:=by simpa using h3.symm
  subst hj
  have h4:j<n:=by simpa using h2
  exact⟨h4,fun y H' zz77=>by obtain⟨e1,e2⟩:=zz77;exact⟨w,e1.symm,Ext.refl w,R,by rw[e2];exact Zg.mpr rfl⟩⟩
 ·have:n≤i:=by simpa using hl
  exact this
theorem Zj1{H:Hp}:(cxC X N' scope cl C fp pins s H).env.scope=Xq scope X.env.scope:=rfl
theorem Good.block(G:Good c k Z w0 X)(hc:k.calm=true)(hn:N'.Nodup)(cl:List (Str×Addr))(C:Addr)(fp:List Addr)(pins:List (Addr×Obj))(s:Shared)(H:Hp):
  Good c {k with N:=N',sc:=Xq scope k.sc,cells:=false,own:=El scope,tries:=false,raises:=[]} noX w0 (cxC X N' scope cl C fp pins s H) where
 hK:=G.hK
 wK:=G.wK
 N:=rfl
 nd:=hn
 sc:=by rw[Zj1,G.sc]
 calm:=fun _=>G.calm hc
 units:=G.units
 fns:=fun _ f x sp h1 h2=>by
  obtain⟨kk,f,fd,ps,ds,dvs,dD,sp0,h⟩:=G.fns hc f x sp h1 h2
  exact⟨kk,f,fd,ps,ds,dvs,dD,sp0,h⟩
 flen:=G.flen
 glb:=G.glb
 blt:=G.blt
 exc:=⟨E0,fun _ _ _ _ _ _ _ h=>by
  obtain⟨_,_,_,_,_,_,_,_,_,_,_,_,_,_,_,h⟩:=h
  exact h.elim,fun cls dd H' h=>by
  obtain⟨_,_,_,_,_,_,_,_,_,_,_,_,_,h⟩:=h
  exact h.elim⟩
 stk:=fun h=>by cases h
 po:=fun _=>PassesOwn.never
 fnc:=fun h=>by cases h
 fno:=fun x hx=>by
  show(scope.names.any fun y=>y.1==x&&y.2==Hb)=true
  have hx:x∈(scope.names.filter fun y=>y.2==Hb).map (·.1):=hx
  obtain⟨y,hy,rfl⟩:=Hf.mp hx
  obtain⟨h1,h2⟩:=Lw.mp hy
  rw[Lb]
  exact⟨y,h1,by rw[beq_self_eq_true,Bool.true_and];exact h2⟩
theorem Good.tgs(G:Good c k Z w0 X):∀(is:List Nat) (es:List Expr),Zh2 k is es=true→PGs X es (gAll is)∧(assignEach es X.env).length=is.length∧(assignEach es X.env).findIdx? (·.1)=none:=by
 have one:∀(i:Nat) (x:Str) (pos:Pos),k.N[i]?=some x→k.locC x=true→PG X (.Name x pos) (Za2 i):=fun i x pos h1 h2=>by
  obtain⟨l1,l2⟩:=G.locC h2
  exact Zk5 G.nd (by rw[G.N];exact h1) l1 l2
 intro is
 induction is with
 | nil=>
  intro es h
  cases es with
  | nil=>exact⟨Y70,rfl,rfl⟩
  | cons e es=>exact absurd h Bf9
 | cons i is ih=>
  intro es h
  cases es with
  | nil=>exact absurd h Bf9
  | cons e es=>
   cases e with
   | Name x pos=>
    change (_&&_)=true at h
    simp only[Bz9,beq_iff_eq] at h
    obtain⟨h1,h2,h3⟩:=ih es h.2
    refine⟨Zn4 (one i x pos h.1.1 h.1.2) h1 rfl,?_,?_⟩
    ·show(assignEach es X.env).length+1=is.length+1
     rw[h2]
    ·show((false,_)::assignEach es X.env).findIdx? (·.1)=none
     rw[List.findIdx?_cons,h3]
     rfl
   | _=>exact absurd h Bf9
theorem Good.tgt(G:Good c k Z w0 X):∀(is:List Nat) (ex:Expr),Gj k is ex=true→PG X ex (gF w0 is):=by
 have one:∀(i:Nat) (x:Str) (pos:Pos),k.N[i]?=some x→k.locC x=true→PG X (.Name x pos) (Za2 i):=fun i x pos h1 h2=>by
  obtain⟨l1,l2⟩:=G.locC h2
  exact Zk5 G.nd (by rw[G.N];exact h1) l1 l2
 have many:=G.tgs
 intro is ex h
 cases ex with
 | Name x pos=>
  match is,h with
  | [i],h=>
   change (_&&_)=true at h
   simp only[Bz9,beq_iff_eq] at h
   exact Ye7 (one _ x pos h.1 h.2)
  | [],h=>exact absurd h Bf9
  | _::_::_,h=>exact absurd h Bf9
 | Tuple es kk pos=>
  change (_&&_)=true at h
  simp only[Bz9,decide_eq_true_eq] at h
  obtain⟨h1,h2,h3⟩:=many is es h.2
  exact Y82 h.1.2 (Zw4 (G.calm h.1.1) h1 h2 h3)
 | _=>exact absurd h Bf9
theorem Y32(h:REnv w σD σ):REnv w (capD js σD) (Si js σ):=by
 refine⟨by unfold capD Si;simp,fun i d e=>?_⟩
 unfold capD at e
 unfold Si
 rw[As] at e ⊢
 cases hj:js[i]? with
 | none=>rw[hj] at e;cases e
 | some o=>
  rw[hj] at e
  simp only[Option.map_some,Option.some.injEq] at e ⊢
  cases o with
  | none=>cases e
  | some j=>
   simp only[Option.bind_some] at e ⊢
   cases hz:σD[j]? with
   | none=>rw[hz] at e;cases e
   | some z=>
    rw[hz] at e
    have e':z=some d:=e
    subst e'
    obtain⟨v,q1,q2⟩:=h.2 j d hz
    exact⟨v,by rw[q1];rfl,q2⟩
theorem Zv1{own:Own}{M1:Z2}(e0:Ext w0 w1)(hH:w1.H=H1)(R1:RS w1 M1)(env:REnv w1 σD σ)(jk:JOk w1 J own xs)
  (h:Pb own xs tg cd el M1.length xs σD (M1++[.lst []]) QD) (a:Aft w1 (fun d M=>d= .ref M1.length∧QD M) Q):∀p,H1 p=none→∃W:Nat→Nat→L2.St→Hp→Prop,(∃m,W 0 m σ (upd H1 p (.lst [])))∧
   ∀i m σc Hc,W i m σc Hc→(J.stop i Hc∧Q (.ref p) Hc)∨(J.go i Hc∧∀x H',J.yld i Hc x H'→gF w0 tg x σc H' fun σ2 H2=>tFT w0 cd σ2 H2 fun b H3=>if b=true then tF w0 el σ2 H3 fun y H4=>∃acc,H4 p=some (.lst acc)∧acc.length<sizeLine∧
    ∃m',m'<m∧W (i+1) m' σ2 (upd H4 p (.lst (acc++[y]))) else ∃m',m'<m∧W (i+1) m' σ2 H3):=by
 intro p hp
 subst hH
 obtain⟨x1,R2,rz⟩:=Xm (xs:=[]) R1 hp (RDs.nil w1)
 have hz:M1.length< (w1.push p (.lst [])).n∧p=(w1.push p (.lst [])).μ M1.length:=by
  obtain⟨z1,z2⟩:=Zj.mp rz
  exact⟨z1,by injection z2⟩
 refine⟨fun i m σc Hc=>∃w σE M,StOk w0 w σE M σc Hc∧Ext (w1.push p (.lst [])) w∧i≤xs.length∧m=xs.length - i∧Pb own xs tg cd el M1.length (xs.drop i) σE M QD,⟨xs.length,w1.push p (.lst []),σD,_,⟨rfl,e0.trans x1,R2,env.ext x1⟩,Ext.refl _,Nat.zero_le _,rfl,h⟩,?_⟩
 rintro i m σc Hc ⟨w,σE,M,S,x2,hi,rfl,hc⟩
 have x12:Ext w1 w:=x1.trans x2
 have hp':w.μ M1.length=p:=(x2.μ _ hz.1).trans hz.2.symm
 have hlt:M1.length<w.n:=Nat.lt_of_lt_of_le hz.1 x2.n
 have stp:∀st:O4 own xs M,_:=fun st=>jk w M x12 S.rs st i
 rw[S.heap] at stp
 by_cases hil:i<xs.length
 ·rw[Dl hil] at hc
  obtain⟨st,hc⟩:=hc
  obtain⟨j1,j2⟩:=(stp st).1 xs[i] (Ae hil)
  refine .inr ⟨j1,fun x H' hy=>?_⟩
  obtain⟨w3,rfl,x3,R3,rd3⟩:=j2 x H' hy
  refine⟨w3,σE,M,xs[i],_,⟨rfl,S.ext.trans x3,R3,S.env.ext x3⟩,rd3,hc,fun σ2 σE2 env2 q2=>?_⟩
  refine⟨w3,σE2,M,_,⟨rfl,S.ext.trans x3,R3,env2⟩,q2,fun b w4 M4 x4 R4 q4=>?_⟩
  cases b with
  | true=>
   rw[if_pos rfl] at q4 ⊢
   refine Zu ⟨rfl,(S.ext.trans x3).trans x4,R4,env2.ext x4⟩ q4 fun y w5 dy M5 x5 R5 rd5 q5=>?_
   obtain⟨acc,g1,g2,g3⟩:=q5
   obtain⟨hn,vs,z1,z2⟩:=R5.list g1
   have x35:Ext w w5:=(x3.trans x4).trans x5
   have hp5:w5.μ M1.length=p:=(x35.μ _ hlt).trans hp'
   obtain⟨y1,y2⟩:=Yl R5 hn z1 (z2.append (RDs.cons rd5 (RDs.nil w5)))
   rw[hp5] at z1 y1 y2
   refine⟨vs,z1,by rw[z2.length];exact g2,xs.length - (i+1),by omega,w5.alloc p (.lst (vs++[y])),σE2,_,⟨rfl,(S.ext.trans x35).trans y1,y2,(env2.ext (x4.trans x5)).ext y1⟩,(x2.trans x35).trans y1,hil,rfl,g3⟩
  | false=>
   rw[if_neg Bf9] at q4 ⊢
   exact⟨xs.length - (i+1),by omega,w4,σE2,M4,⟨rfl,(S.ext.trans x3).trans x4,R4,env2.ext x4⟩,(x2.trans x3).trans x4,hil,rfl,q4⟩
 ·rw[Ib (by omega)] at hc
  obtain⟨st,hq⟩:=hc
  refine .inl ⟨(stp st).2 (by omega),?_⟩
  have:=a (.ref p) w (.ref M1.length) M x12 S.rs (Zj.mpr ⟨hlt,by rw[hp']⟩) ⟨rfl,hq⟩
  rw[S.heap] at this
  exact this
end
def Zx8(c:Cfg)(e:E):Prop:=∀(k:Ck) (Z:DX) (w0:Vw) (X:Cx) (ex:Expr),Good c k Z w0 X→chkE k e ex=true→PE X ex (tF w0 (te c Z e))∧(noIf e=true→PT X ex (tFT w0 (ttD (te c Z e))))
def Y73(c:Cfg)(es:Es):Prop:=∀(k:Ck) (Z:DX) (w0:Vw) (X:Cx) (ls:List Expr),Good c k Z w0 X→V2 k es ls=true→PA X ls (tFA w0 (tes c Z es))∧
 ∀(b:Bool) (pos:Pos),PE X (.BoolOp (if b then .And else .Or) ls pos) (tF w0 (tbop c Z b es))∧(Z38 es=true→PW X (.BoolOp (if b then .And else .Or) ls pos) (tFT w0 (ttD (tbop c Z b es))))
def Zv7(c:Cfg)(eo:Eo):Prop:=(∀(k:Ck) (Z:DX) (w0:Vw) (X:Cx) (lo:Option Expr),Good c k Z w0 X→chkO k eo lo=true→PO X lo (tFO w0 (teo c Z eo)))∧
 ∀(k:Ck) (Z:DX) (w0:Vw) (X:Cx) (ls:List Expr),Good c k Z w0 X→chkC k eo ls=true→(∃x,ls=[x]∧PT X x (tFT w0 (tcd c Z eo)))∨(ls=[]∧eo= .no)
def Yg7(c:Cfg)(it:It):Prop:=∀(k:Ck) (Z:DX) (w0:Vw) (X:Cx) (tg ex:Expr),Good c k Z w0 X→Zm9 k it ex=true→itTg it tg=true→PI X tg ex (iF w0 (tit c Z it))
section
variable{c:Cfg}{k:Ck}{Z:DX}{w0:Vw}{X:Cx}
theorem Nb{d:D}{v:V}{H:Hp}(hv:∀w:Vw,w.K=w0.K→RD w d v)(h:tF w0 (fun _ M Q=>Q d M) σ H Q):tC v σ H Q:=by
 obtain⟨w,σD,M,QD,S,g,a⟩:=h
 have:=a v w d M (Ext.refl w) S.rs (hv w S.K) g
 rw[S.heap] at this
 exact this
def tFF(w0:Vw)(f:Str→DEnv→Z2→(Str→Z2→Prop)→Prop):Str→L2.St→Hp→(Str→Hp→Prop)→Prop:=fun o σ H Q=>∃w σD M QD,StOk w0 w σD M σ H∧f o σD M QD∧∀x w' M',Ext w w'→RS w' M'→QD x M'→Q x w'.H
def Y16(c:Cfg)(es:Es):Prop:=∀(k:Ck) (Z:DX) (w0:Vw) (X:Cx) (vs:List Expr),Good c k Z w0 X→Gk k es vs=true→PFs X vs (tFF w0 (tfs c Z es))
theorem PFs.imp{t t':Str→L2.St→Hp→(Str→Hp→Prop)→Prop}(h:PFs X vs t)(q:∀o σ H Q,t' o σ H Q→t o σ H Q):PFs X vs t':=fun pins s σ H o Q I z=>h pins s σ H o Q I (q o σ H Q z)
theorem Yi4{k:Ck}(h:Gk k .nil vs=true):vs=[]:=by
 cases vs with
 | nil=>rfl
 | cons v vs=>exact absurd h Bf9
theorem Y62{z:Str}(h:isS e z=true):e= .str z:=by
 cases e with
 | str y=>exact congrArg E.str (Kc h)
 | _=>exact absurd h Bf9
theorem Y88{k:Ck}(h:Gk k (.cons e r) vs=true):(∃y j p xs,e= .str y∧vs= .Constant (.str y) j p::xs∧Gk k r xs=true)∨∃v p xs,vs= .FormattedValue v (-1) none p::xs∧chkE k e v=true∧Gk k r xs=true:=by
 cases vs with
 | nil=>exact absurd h Bf9
 | cons x xs=>
  change (_&&_)=true at h
  rw[Bz9] at h
  obtain⟨h1,h2⟩:=h
  cases x with
  | Constant cst j p=>
   cases cst with
   | str z=>exact .inl ⟨z,j,p,xs,Y62 h1,rfl,h2⟩
   | _=>exact absurd h1 Bf9
  | FormattedValue v cv sp p=>
   cases sp with
   | none=>
    change (_&&_)=true at h1
    rw[Bz9,beq_iff_eq] at h1
    obtain⟨rfl,h1⟩:=h1
    exact .inr ⟨v,p,xs,rfl,h1,h2⟩
   | some _=>exact absurd h1 Bf9
  | _=>exact absurd h1 Bf9
theorem Z59{k:Ck}(h:chkE k (.fstr es) ex=true):∃v1 v2 vs pos,ex= .JoinedStr (v1::v2::vs) pos∧Gk k es (v1::v2::vs)=true:=by
 cases ex with
 | JoinedStr vs pos=>
  change (_&&_)=true at h
  rw[Bz9,decide_eq_true_eq] at h
  match vs,h with
  | v1::v2::vs,h=>exact⟨v1,v2,vs,pos,rfl,h.2⟩
 | _=>exact absurd h Bf9
theorem Z80(ih:PFs X (v1::v2::vs) (tFF w0 (tfs c Z es))):PE X (.JoinedStr (v1::v2::vs) pos) (tF w0 (te c Z (.fstr es))):=
 PE.imp (Zz5 ih) fun σ H Q zz78=>by obtain⟨w,σD,M,QD,S,g,aq⟩:=zz78;exact⟨w,σD,M,_,S,g,fun x w' M' x1 r1 q=>aq _ w' _ M' x1 r1 (Zc.mpr rfl) q⟩
theorem both(G:Good c k Z w0 X)(h:PE X ex (tF w0 f))(he:∀whole,isTrue ex X.env whole=(do let v ←whole;standAt ex.pos;holding [v] (truthy v))):
  PE X ex (tF w0 f)∧(b=true→PT X ex (tFT w0 (ttD f))):=⟨h,fun _=>Yk6 G h he⟩
theorem Z28{x:Str}(G:Good c k Z w0 X)(hc:k.calm=true)(hf:k.FN[f]?=some x)(hg:k.glob x=true)(hs:V2 k es ls=true)(ih:PA X ls (tFA w0 (tes c Z es))):
  PE X (.Call (.Name x np) ls [] pos) (tF w0 (te c Z (.call f es))):=by
 obtain⟨g1,g2,g3⟩:=G.gl hg
 obtain⟨E,ps,xk⟩:=G.exc
 cases hsp:c.Γ[f]? with
 | none=>
  have h1:=(Af.mp hf).1
  have h2:=List.getElem?_eq_none_iff.mp hsp
  rw[G.flen] at h1
  omega
 | some sp=>
  obtain⟨kk,fa,fd,pr,ds,dvs,dD,sp0,F,hr,hm,hk,hb,hd,hD,hsp0⟩:=G.fns hc f x sp hf hsp
  have key:∀σ H Q,tF w0 (te c Z (.call f es)) σ H Q→tFA w0 (tes c Z es) σ H fun vs H1=>spF X.K sp0 (vs++dvs) H1 Q E:=by
   rintro σ H Q ⟨w,σD,M,QD,S,g,a⟩
   refine⟨w,σD,M,_,S,g,fun vs w' ds' M' x' r' rd' q'=>?_⟩
   have q':sp ds' M' QD Z:=by
    have:=q'
    simp only[hsp] at this
    exact this
   have hKw:w'.K=X.K:=by rw[x'.K,S.K,G.eK]
   exact⟨w',ds'++dD,M',QD,Z,hKw,rfl,r',rd'.append (hD w' hKw),hsp0 _ _ _ _ q',a.ext x',fun cls dd H' hx=>xk cls dd H' (Za0 (S.ext.trans x') hx)⟩
  cases ls with
  | nil=>
   refine PE.imp (Zu7 F hr g1 hm hk hb hd ps g2) fun σ H Q h=>?_
   have h2:=key σ H Q h
   obtain⟨w,σD,M,QD,S,g,a⟩:=h2
   cases es with
   | nil=>
    have:=a [] w [] M (Ext.refl w) S.rs (RDs.nil w) g
    rw[S.heap] at this
    exact this
   | cons e r=>exact absurd hs Bf9
  | cons l ls=>
   cases es with
   | nil=>exact absurd hs Bf9
   | cons e r=>
    change (_&&_)=true at hs
    simp only[Bz9] at hs
    exact PE.imp (Y37 F hr g1 hm hk hb hd ps ih g2 (Zn hs.1.2) (Ry (Xf r ls hs.2))) key
theorem te_var{i:Nat}:te c Z (.var i) σ M Q=(match σ[i]? with | some (some d)=>Q d M | _=>False):=rfl
theorem te_glb:te c Z (.glb g) σ M Q=(match c.G[g]? with | some d=>Q d M | none=>False):=rfl
theorem Zd2{i:Nat}{x:Str}(G:Good c k Z w0 X)(h1:k.N[i]?=some x)(h2:k.vis x=true):PE X (.Name x pos) (tF w0 (te c Z (.var i))):=by
 obtain⟨v1,v2,v3⟩:=G.vis h2
 refine PE.imp (Yd7 (i:=i) (by rw[G.N];exact h1) v1 v2 v3) fun σ H Q zz79=>?_
 obtain⟨w,σD,M,QD,S,g,a⟩:=zz79
 rw[te_var] at g
 split at g
 ·rename_i d e
  obtain⟨v,q1,q2⟩:=S.env.2 i d e
  have:=a v w d M (Ext.refl w) S.rs q2 g
  rw[S.heap] at this
  exact⟨v,q1,this⟩
 ·exact g.elim
theorem Zf6{x:Str}(G:Good c k Z w0 X)(h1:k.GN[g]?=some x)(h2:k.glob x=true):PE X (.Name x pos) (tF w0 (te c Z (.glb g))):=by
 obtain⟨g1,g2,g3⟩:=G.gl h2
 cases hd:c.G[g]? with
 | none=>
  refine PE.imp (t:=fun _ _ _=>False) (fun _ _ _ _ _ _ h=>h.elim) fun σ H Q zz80=>?_
  obtain⟨w,σD,M,QD,S,q,a⟩:=zz80
  rw[te_glb] at q
  rw[hd] at q
  exact q
 | some d=>
  obtain⟨v,u,q1,q2,q3⟩:=G.glb g x d h1 hd
  refine PE.imp (Y31 g1 q1 q2 g2) fun σ H Q h=>Nb (d:=d) (fun w hw=>q3 w (by rw[hw,G.eK])) ?_
  obtain⟨w,σD,M,QD,S,q,a⟩:=h
  rw[te_glb] at q
  rw[hd] at q
  exact⟨w,σD,M,QD,S,q,a⟩
theorem Yl4(hs:V2 k es (l::ls)=true):starEach (l::ls) X.env=(false,eval l X.env)::starEach ls X.env∧(backTo pos (starEach ls X.env)).any (·.1)=false:=by
 cases es with
 | nil=>exact absurd hs Bf9
 | cons e r=>
  change (_&&_)=true at hs
  simp only[Bz9] at hs
  exact⟨Zn hs.1.2,Ry (Xf r ls hs.2)⟩
theorem Zt0{x:Str}(G:Good c k Z w0 X)(hc:k.calm=true∨Qp b=true)(hx:x=(bfOf b).1)(hg:k.glob x=true)(hB:x∈k.BN)(hs:V2 k es (l::ls)=true)(ih:PA X (l::ls) (tFA w0 (tes c Z es))):
  PE X (.Call (.Name x np) (l::ls) [] pos) (tF w0 (te c Z (.bf b es))):=by
 obtain⟨g1,g2,g3⟩:=G.gl hg
 have hm:=G.blt x hB
 have hb:bootBuiltins x=some (bfOf b).2:=by rw[hx];exact Y81 b
 have snd:=Zp3 (w0:=w0) G.eK b (hc.imp G.calm id)
 have st:starEach (l::ls) X.env=(false,eval l X.env)::starEach ls X.env∧(backTo pos (starEach ls X.env)).any (·.1)=false:=by
  cases es with
  | nil=>exact absurd hs Bf9
  | cons e r=>
   change (_&&_)=true at hs
   simp only[Bz9] at hs
   exact⟨Zn hs.1.2,Ry (Xf r ls hs.2)⟩
 have key:∀σ H Q,tF w0 (te c Z (.bf b es)) σ H Q→tCB (rC w0 (bfD w0.K b)) (tFA w0 (tes c Z es)) σ H Q:=by
  rintro σ H Q ⟨w,σD,M,QD,S,g,a⟩
  refine⟨w,σD,M,_,S,g,fun vs w' ds M' x' r' rd' q'=>?_⟩
  rw[←G.wK] at q'
  exact⟨w',M',ds,QD,rfl,by rw[x'.K,S.K],r',rd',q',a.ext x'⟩
 cases hv:(bfOf b).2 with
 | builtin id=>
  rw[hv] at hb snd
  exact PE.imp (Tg snd g1 hm hb ih g3 g2 st.1 st.2) key
 | type T=>
  rw[hv] at hb snd
  exact PE.imp (Tq snd g1 hm hb ih g3 g2 st.1 st.2) key
 | _=>cases b<;>cases hv
theorem Zs8(G:Good c k Z w0 X)(hb:Zi3 l=true)(hl:(ap.endLine==cp.line)=true)(hn:ls.length<30)(hs:V2 k es ls=true)(ho:PE X l (tF w0 (te c Z o)))(ih:PA X ls (tFA w0 (tes c Z es))):
  PE X (.Call (.Attribute l (mtN m) ap) ls [] cp) (tF w0 (te c Z (.mt m o es))):=by
 have snd:=Zp6 (w0:=w0) G.eK G.units m
 cases ls with
 | nil=>
  refine PE.imp (Yg1 (Yh7 m) (Ze1 m) (Ya6 m) snd ho (Gs hb) hl) fun σ H Q zz81=>?_
  obtain⟨w,σD,M,QD,S,g,a⟩:=zz81
  refine Zu S g fun x w1 dx M1 x1 r1 rx q1=>?_
  have ty:=Zv9 r1 rx q1.1
  rw[x1.K,S.K,←G.eK] at ty
  refine⟨ty,?_⟩
  cases es with
  | nil=>exact⟨w1,M1,dx,[],QD,rfl,by rw[x1.K,S.K],r1,rx,RDs.nil w1,q1.2,a.ext x1⟩
  | cons e r=>exact absurd hs Bf9
 | cons l' ls=>
  cases es with
  | nil=>exact absurd hs Bf9
  | cons e r=>
   have hs':=hs
   change (_&&_)=true at hs'
   simp only[Bz9] at hs'
   have few:((backTo cp (starEach (l'::ls) X.env)).all (fun x=> !x.1)&&(backToKw cp (keywordEach [] X.env)).all (fun x=>x.1.isSome)
     &&decide ((l'::ls).length+([]:List Keyword).length+(if ([]:List Keyword).isEmpty then 0 else 1)<30))=true:=by
    rw[Zu9 (Xf _ _ hs)]
    show(true&&true&&decide ((l'::ls).length+0+0<30))=true
    simpa using hn
   refine PE.imp (Yn6 (Yh7 m) (Ze1 m) (Ya6 m) snd ho ih (Gs hb) few hl (Zn hs'.1.2) (Ry (Xf r ls hs'.2))) fun σ H Q zz82=>?_
   obtain⟨w,σD,M,QD,S,g,a⟩:=zz82
   refine Zu S g fun x w1 dx M1 x1 r1 rx q1=>?_
   have ty:=Zv9 r1 rx q1.1
   rw[x1.K,S.K,←G.eK] at ty
   refine⟨ty,w1,σD,M1,_,S.next x1 r1,q1.2,fun vs w2 ds M2 x2 r2 rd2 q2=>?_⟩
   exact⟨w2,M2,dx,ds,QD,rfl,by rw[x2.K,x1.K,S.K],r2,rx.ext x2,rd2,q2,a.ext (x1.trans x2)⟩
theorem Zq7{a:E}{lo hi:Eo}{l:Expr}{x y:Option Expr}{p2 pos:Pos}(G:Good c k Z w0 X)(ha:PE X l (tF w0 (te c Z a)))(h1:PO X x (tFO w0 (teo c Z lo)))(h2:PO X y (tFO w0 (teo c Z hi))):
  PE X (.Subscript l (.Slice x y none p2) pos) (tF w0 (te c Z (.sl a lo hi))):=by
 refine PE.imp (Z10 (Zp9 (w0:=w0) G.eK) ha h1 h2) fun σ H Q zz83=>?_
 obtain⟨w,σD,M,QD,S,g,aq⟩:=zz83
 refine Zu S g fun x w1 dx M1 x1 r1 rx q1=>?_
 refine⟨w1,σD,M1,_,S.next x1 r1,q1,fun l w2 M2 x2 r2 q2=>?_⟩
 refine⟨w2,σD,M2,_,(S.next x1 r1).next x2 r2,q2,fun h w3 M3 x3 r3 q3=>?_⟩
 exact⟨w3,M3,dx,QD,rfl,by rw[x3.K,x2.K,x1.K,S.K],r3,rx.ext (x2.trans x3),q3,aq.ext ((x1.trans x2).trans x3)⟩
theorem sl_W:SlR X (fun x lo hi H Q=>∃a xs,x= .ref a∧SqT X.K H a xs∧((HT.sIx xs.length 0 lo=0∧HT.sIx xs.length xs.length hi=xs.length)→Q x H)∧∀p,H p=none→Q (.ref p) (upd H p (.tup (cutV xs lo hi)))):=by
 intro pins s σ H x v vl vu lo hi sl Q I rx hs pl pu h
 obtain⟨a,xs,rfl,hx,h1,h2⟩:=h
 by_cases hw:HT.sIx xs.length 0 lo=0∧HT.sIx xs.length xs.length hi=xs.length
 ·exact Y46 pins s σ H _ v vl vu lo hi sl Q I rx hs pl pu ⟨a,xs,rfl,hx,hw,h1 hw⟩
 ·exact Zy5 pins s σ H _ v vl vu lo hi sl Q I rx hs pl pu ⟨a,xs,rfl,hx,hw,h2⟩
theorem Z94{a:E}{lo hi:Eo}{l:Expr}{x y:Option Expr}{p2 pos:Pos}(G:Good c k Z w0 X)(ha:PE X l (tF w0 (te c Z a)))(h1:PO X x (tFO w0 (teo c Z lo)))(h2:PO X y (tFO w0 (teo c Z hi))):
  PE X (.Subscript l (.Slice x y none p2) pos) (tF w0 (te c Z (.slW a lo hi))):=by
 refine PE.imp (Z10 sl_W ha h1 h2) fun σ H Q zz84=>?_
 obtain⟨w,σD,M,QD,S,g,aq⟩:=zz84
 refine Zu S g fun x w1 dx M1 x1 r1 rx q1=>?_
 have S1:=S.next x1 r1
 refine⟨w1,σD,M1,_,S1,q1,fun l1 w2 M2 x2 r2 q2=>?_⟩
 have S2:=S1.next x2 r2
 refine⟨w2,σD,M2,_,S2,q2,fun h1 w3 M3 x3 r3 q3=>?_⟩
 obtain⟨xs,rfl,q4⟩:=Q8 q3
 have rx3:=(rx.ext x2).ext x3
 obtain⟨p,vs,rfl,e1,e2⟩:=Yb.mp rx3
 refine⟨p,vs,rfl,.of e1,fun hw=>?_,fun q hq=>?_⟩
 ·have e:cutD xs l1 h1=xs:=by
   unfold cutD
   rw[←e2.length,hw.1,hw.2,List.drop_zero,Nat.sub_zero,e2.length,List.take_length]
  rw[e] at q4
  exact aq _ _ _ _ ((x1.trans x2).trans x3) r3 rx3 q4
 ·obtain⟨y1,y2,y3⟩:=Vm r3 hq (Ew (lo:=l1) (hi:=h1) e2)
  exact aq _ _ _ _ (((x1.trans x2).trans x3).trans y1) y2 y3 q4
theorem Z55{b:Bool}{a:E}{x y:Str}{p1 p2 q1 q2:Pos}{l:Expr}(G:Good c k Z w0 X)(hc:k.calm=true)(hx:x=("len":Str))(hy:y=("set":Str))(hg:k.glob x=true)(hg':k.glob y=true)(hB:x∈k.BN)(hB':y∈k.BN)(hl:Yz l=true)(ih:PE X l (tF w0 (te c Z a))):
  PE X (.Call (.Name x p1) [.Call (.Name y p2) [l] [] q2] [] q1) (tF w0 (te c Z (.setf b a))):=by
 obtain⟨g1,g2,g3⟩:=G.gl hg
 obtain⟨g1',g2',g3'⟩:=G.gl hg'
 have hset:=Tq (p:=p2) (pos:=q2) (Zf9 (X:=X) (G.calm hc)) g1' (G.blt _ hB') (by rw[hy];exact Zq3) (Xp ih S6 (Zn hl)) g3' g2' (Zn hl) rfl
 have key:∀(w1:Vw) (M1:Z2) (n:Nat) (ks:List Key) (R:List V→Hp→VK→Prop) (Q:VK),RS w1 M1→w1.K=X.K→Za M1 n=some (ks.map kD)→ks.length+1<scanBound→n<w1.n→
   (∀p ks',w1.H p=none→ks'.Nodup→ks'.length≤ks.length→(∀k,k∈ks'↔k∈ks)→R [V.ref p] (w1.alloc p (.ext (Td X.prog X.w p ks'))).H Q)→∃(a:Addr) (ks:List Key),[V.ref (w1.μ n)]=[V.ref a]∧SqL X.K w1.H a (ks.map kV)∧ks.length+1<scanBound∧∀p ks',w1.H p=none→ks'.Nodup→ks'.length≤ks.length→(∀k,k∈ks'↔k∈ks)→R [V.ref p] (upd w1.H p (.ext (Td X.prog X.w p ks'))) Q:=by
  intro w1 M1 n ks R Q r1 hK e1 hz hn h
  obtain⟨_,vs,z1,z2,_⟩:=r1.listL e1
  rw[hK] at z1
  rw[Z01 z2] at z1
  exact⟨_,ks,rfl,z1,hz,h⟩
 cases b with
 | true=>
  refine PE.imp (Tg (Fe (X:=X)) g1 (G.blt _ hB) (by rw[hx];exact PySem.boot_len) (Xp hset S6 rfl) g3 g2 rfl rfl) fun σ H Q zz85=>?_
  obtain⟨w,σD,M,QD,S,g,aq⟩:=zz85
  refine Zu S g fun x w1 dx M1 x1 r1 rx q1=>?_
  obtain⟨n,rfl,q1⟩:=Zy q1
  exact Di q1
 | false=>
  refine PE.imp (Tg (Fe (X:=X)) g1 (G.blt _ hB) (by rw[hx];exact PySem.boot_len) (Xp hset S6 rfl) g3 g2 rfl rfl) fun σ H Q zz86=>?_
  obtain⟨w,σD,M,QD,S,g,aq⟩:=zz86
  refine Zu S g fun x w1 dx M1 x1 r1 rx q1=>?_
  obtain⟨n,rfl,q1⟩:=Zy q1
  obtain⟨hn,rfl⟩:=Zj.mp rx
  obtain⟨ks,e1,hz,q⟩:=q1
  have hK:w1.K=X.K:=by rw[x1.K,S.K,G.eK]
  refine key w1 M1 n ks (Ya9 X.prog X.w) Q r1 hK e1 hz hn fun p ks' hp nd hlk hm=>?_
  have ra:=r1.alloc (o:= .ext (Td X.prog X.w p ks')) hp
  exact⟨p,ks',rfl,Yt,aq _ _ _ _ (x1.trans (Tu hp)) ra (Zg.mpr rfl) (q ks' nd hm)⟩
theorem Z29{a:E}{x y:Str}(G:Good c k Z w0 X)(hc:k.calm=true)(hx:x=("list":Str))(hy:y=("reversed":Str))(hg:k.glob x=true)(hg':k.glob y=true)(hB:x∈k.BN)(hB':y∈k.BN)(hl:Yz l=true)(ih:PE X l (tF w0 (te c Z a))):
  PE X (.Call (.Name x p1) [.Call (.Name y p2) [l] [] q2] [] q1) (tF w0 (te c Z (.lrev a))):=by
 obtain⟨g1,g2,g3⟩:=G.gl hg
 obtain⟨g1',g2',g3'⟩:=G.gl hg'
 have hset:=Tq (p:=p2) (pos:=q2) (Zu6 (X:=X)) g1' (G.blt _ hB') (by rw[hy];exact Nu) (Xp ih S6 (Zn hl)) g3' g2' (Zn hl) rfl
 refine PE.imp (Tq (Z47 (X:=X) (G.calm hc)) g1 (G.blt _ hB) (by rw[hx];exact boot_list) (Xp hset S6 rfl) g3 g2 rfl rfl) fun σ H Q zz87=>?_
 obtain⟨w,σD,M,QD,S,g,aq⟩:=zz87
 refine Zu S g fun x w1 dx M1 x1 r1 rx q1=>?_
 obtain⟨n,rfl,q1⟩:=Zy q1
 obtain⟨hn,rfl⟩:=Zj.mp rx
 obtain⟨xs,e1,q⟩:=q1
 have hK:w1.K=X.K:=by rw[x1.K,S.K,G.eK]
 obtain⟨_,vs,z1,z2,_⟩:=r1.listL e1
 rw[hK] at z1
 refine⟨_,vs,rfl,z1,fun p hp hlp=>?_⟩
 refine⟨p,w1.μ n,vs,rfl,Yt,?_,fun t ht=>?_⟩
 ·rcases z1 with(z1 | ⟨o,z1⟩) | z1
  ·exact .inl (.inl (by rw[Zo hlp];exact z1))
  ·exact .inl (.inr ⟨o,by rw[Zo hlp];exact z1⟩)
  ·exact .inr z1
 ·have hd:del (upd w1.H p (.ext (Z07 X.s₀.heap.objs.size p (w1.μ n) vs.length))) p=w1.H:=by
   funext b
   unfold del
   split
   ·rename_i e;rw[e];exact hp.symm
   ·rename_i e;exact Zo e
  have ht':w1.H t=none:=by
   by_cases e:t=p
   ·rw[e];exact hp
   ·rw[Zo e] at ht;exact ht
  rw[hd]
  obtain⟨y1,y2,y3⟩:=Xm r1 ht' z2.reverse
  exact aq _ _ _ _ (x1.trans y1) y2 y3 q
theorem Z57{a:E}{x:Str}(G:Good c k Z w0 X)(hc:k.calm=true)(hx:x=("all":Str))(hg:k.glob x=true)(hB:x∈k.BN)(hl:Yz l=true)(ih:PE X l (tF w0 (te c Z a))):
  PE X (.Call (.Name x p1) [l] [] q1) (tF w0 (te c Z (.allf a))):=by
 obtain⟨g1,g2,g3⟩:=G.gl hg
 refine PE.imp (Tg (Zr5 (X:=X) (G.calm hc)) g1 (G.blt _ hB) (by rw[hx];exact Zo0) (Xp ih S6 (Zn hl)) g3 g2 (Zn hl) rfl) fun σ H Q zz88=>?_
 obtain⟨w,σD,M,QD,S,g,aq⟩:=zz88
 refine Zu S g fun x w1 dx M1 x1 r1 rx q1=>?_
 obtain⟨n,rfl,q1⟩:=Zy q1
 obtain⟨hn,rfl⟩:=Zj.mp rx
 obtain⟨bs,e1,q⟩:=q1
 have hK:w1.K=X.K:=by rw[x1.K,S.K,G.eK]
 obtain⟨_,vs,z1,z2,_⟩:=r1.listL e1
 rw[hK] at z1
 have ev:∀{bs:List Bool} {vs:List V},RDs w1 (bs.map .bl) vs→vs=bs.map V.bl:=by
  intro bs
  induction bs with
  | nil=>intro vs h;exact rds0 h
  | cons b bs ih=>
   intro vs h
   rw[De] at h
   unfold RDs at h
   obtain⟨v,r,rfl,h1,h2⟩:=h
   rw[ih h2,Yj.mp h1]
   rfl
 rw[ev z2] at z1
 exact⟨_,bs,rfl,z1,aq _ _ _ _ x1 r1 (Yj.mpr rfl) q⟩
theorem Z69{a:E}{x:Str}(G:Good c k Z w0 X)(hc:k.calm=true)(hx:x=("any":Str))(hg:k.glob x=true)(hB:x∈k.BN)(hl:Yz l=true)(ih:PE X l (tF w0 (te c Z a))):
  PE X (.Call (.Name x p1) [l] [] q1) (tF w0 (te c Z (.anyf a))):=by
 obtain⟨g1,g2,g3⟩:=G.gl hg
 refine PE.imp (Tg (Zl9 (X:=X) (G.calm hc)) g1 (G.blt _ hB) (by rw[hx];exact Zs3) (Xp ih S6 (Zn hl)) g3 g2 (Zn hl) rfl) fun σ H Q zz89=>?_
 obtain⟨w,σD,M,QD,S,g,aq⟩:=zz89
 refine Zu S g fun x w1 dx M1 x1 r1 rx q1=>?_
 obtain⟨n,rfl,q1⟩:=Zy q1
 obtain⟨hn,rfl⟩:=Zj.mp rx
 obtain⟨bs,e1,q⟩:=q1
 have hK:w1.K=X.K:=by rw[x1.K,S.K,G.eK]
 obtain⟨_,vs,z1,z2,_⟩:=r1.listL e1
 rw[hK] at z1
 have ev:∀{bs:List Bool} {vs:List V},RDs w1 (bs.map .bl) vs→vs=bs.map V.bl:=by
  intro bs
  induction bs with
  | nil=>intro vs h;exact rds0 h
  | cons b bs ih=>
   intro vs h
   rw[De] at h
   unfold RDs at h
   obtain⟨v,r,rfl,h1,h2⟩:=h
   rw[ih h2,Yj.mp h1]
   rfl
 rw[ev z2] at z1
 exact⟨_,bs,rfl,z1,aq _ _ _ _ x1 r1 (Yj.mpr rfl) q⟩
theorem Zp5{a b:E}(G:Good c k Z w0 X)(hn:Ce r=true)(ha:PE X l (tF w0 (te c Z a)))(hb:PE X r (tF w0 (te c Z b))):PE X (.Subscript l r pos) (tF w0 (te c Z (.ix a b))):=by
 have pl:Zb5 r:=by
  intro o i
  cases r<;>first | rfl | cases hn
 refine PE.imp (Yl6 (Zr2 (w0:=w0) G.eK G.units) ha hb pl) fun σ H Q zz90=>?_
 obtain⟨w,σD,M,QD,S,g,aq⟩:=zz90
 refine Zu S g fun x w1 dx M1 x1 r1 rx q1=>?_
 refine Zu (S.next x1 r1) q1 fun y w2 dy M2 x2 r2 ry q2=>?_
 exact⟨w2,M2,dx,dy,_,rfl,by rw[x2.K,x1.K,S.K],r2,rx.ext x2,ry,q2,fun d v hq hr=>aq v w2 d M2 (x1.trans x2) r2 hr hq⟩
theorem Nk{el t iter:Expr}(G:Good c k Z w0 X)(hc:k.calm=true)(ho:Vv k.sc k.N N' js scope=true)(hns:Zk7 iter=true)(hn:N'.Nodup)
  (hi:PI X t iter (iF w0 (tit c Z it))) (ht:Gj {k with N:=N',sc:=Xq scope k.sc,cells:=false,own:=El scope,tries:=false,raises:=[]} tg t=true) (hd:chkC {k with N:=N',sc:=Xq scope k.sc,cells:=false,own:=El scope,tries:=false,raises:=[]} cd ifs=true) (he:chkE {k with N:=N',sc:=Xq scope k.sc,cells:=false,own:=El scope,tries:=false,raises:=[]} e el=true) (ihe:Zx8 c e) (ihd:Zv7 c cd):
  PE X (.ListComp el [⟨t,iter,ifs,0⟩] scope pos) (tF w0 (te c Z (.comp N' js tg it cd e)))∧
  ∀(i:Nat) (x:Str) (px spos:Pos),X.N[i]?=some x→X.env.scope.names.lookup x=some .local→swapsWith (.ListComp el [⟨t,iter,ifs,0⟩] scope pos) (some (.Name x px)) spos.line X.env=pure true→
   PS X (.Assign [.Name x px] (.ListComp el [⟨t,iter,ifs,0⟩] scope pos) spos) (fun R σ H=>tF w0 (te c Z (.comp N' js tg it cd e)) σ H fun v H1=>R.nx (σ.set i (some v)) H1):=by
 have ho':Vv X.env.scope X.N N' js scope=true:=by rw[G.sc,G.N];exact ho
 have hf:∀x,foldedSetIterable iter X.env x=pure x:=by
  intro x
  cases iter<;>first | rfl | cases hns
 have hg:=fun cl C fp pins s H=>(Good.block G hc (scope:=scope) hn cl C fp pins s H).tgt tg t ht
 have hel:=fun cl C fp pins s H=>(ihe _ _ _ _ el (Good.block G hc (scope:=scope) hn cl C fp pins s H) he).1
 have key:∀σ H Q,tF w0 (te c Z (.comp N' js tg it cd e)) σ H Q→iF w0 (tit c Z it) σ H fun J H1=>∀p,H1 p=none→∃W:Nat→Nat→L2.St→Hp→Prop,(∃m,W 0 m (Si js σ) (upd H1 p (.lst [])))∧
   ∀i m σc Hc,W i m σc Hc→(J.stop i Hc∧Q (.ref p) Hc)∨(J.go i Hc∧∀x H',J.yld i Hc x H'→gF w0 tg x σc H' fun σ2 H2=>tFT w0 (tcd c noX cd) σ2 H2 fun b H3=>if b=true then tF w0 (te c noX e) σ2 H3 fun y H4=>∃acc,H4 p=some (.lst acc)∧acc.length<sizeLine∧
    ∃m',m'<m∧W (i+1) m' σ2 (upd H4 p (.lst (acc++[y]))) else ∃m',m'<m∧W (i+1) m' σ2 H3):=by
  rintro σ H Q ⟨w,σD,M,QD,S,g,a⟩
  refine⟨w,σD,M,_,S,g,fun J w1 own xs M1 x1 R1 jk q1=>?_⟩
  exact Zv1 (S.ext.trans x1) rfl R1 (Y32 (S.env.ext x1)) jk q1 fun v w2 d M2 x2 r2 rd2 zz91=>by obtain⟨e2,q2⟩:=zz91;exact a v w2 d M2 (x1.trans x2) r2 rd2 (by rw[e2];exact q2)
 have nocd:∀{σ:L2.St} {H:Hp} {P:Bool→Hp→Prop},cd= .no→tFT w0 (tcd c noX cd) σ H P→P true H:=by
  intro σ H P e h
  subst e
  obtain⟨w,σD,M,QD,S,g,a⟩:=h
  have:=a true w M (Ext.refl w) S.rs g
  rw[S.heap] at this
  exact this
 cases ifs with
 | nil=>
  have hcd:cd= .no:=by
   cases cd with
   | no=>rfl
   | yes e'=>exact absurd hd Bf9
  have key0:∀σ H Q,tF w0 (te c Z (.comp N' js tg it cd e)) σ H Q→Z92 js (iF w0 (tit c Z it)) (gF w0 tg) (tF w0 (te c noX e)) σ H Q:=by
   intro σ H Q h
   obtain⟨w,σD,M,QD,S,g,a⟩:=key σ H Q h
   refine⟨w,σD,M,QD,S,g,fun J w' own xs M' x' r' jk q p hp=>?_⟩
   obtain⟨W,w1,w2⟩:=a J w' own xs M' x' r' jk q p hp
   refine⟨W,w1,fun i m σc Hc hW=>(w2 i m σc Hc hW).imp id fun⟨z1,z2⟩=>⟨z1,fun x H' hy=>?_⟩⟩
   obtain⟨v1,v2,v3,v4,v5,v6,v7,v8,v9⟩:=z2 x H' hy
   refine⟨v1,v2,v3,v4,v5,v6,v7,v8,fun σ' σD' en q'=>?_⟩
   have:=nocd hcd (v9 σ' σD' en q')
   rw[if_pos rfl] at this
   exact this
  exact⟨PE.imp (Zm7 (G.calm hc) ho' hi hg hel hf) key0,fun i x px spos h1 h2 h3=>PS.imp (Zp4 (G.calm hc) ho' G.nd h1 h2 hi hg hel h3 hf) fun R σ H h=>key0 σ H _ h⟩
 | cons x0 ifs=>
  have hq:∀cl C fp pins s H,∃x,x0::ifs=[x]∧PT (cxC X N' scope cl C fp pins s H) x (tFT w0 (tcd c noX cd)):=fun cl C fp pins s H=>by
   rcases ihd.2 _ _ _ _ (x0::ifs) (Good.block G hc (scope:=scope) hn cl C fp pins s H) hd with h | ⟨h,_⟩
   ·exact h
   ·cases h
  have e0:ifs=[]:=by
   cases cd with
   | no=>exact absurd hd Bf9
   | yes e'=>
    cases ifs with
    | nil=>rfl
    | cons _ _=>exact absurd hd Bf9
  subst e0
  have hq':∀cl C fp pins s H,PT (cxC X N' scope cl C fp pins s H) x0 (tFT w0 (tcd c noX cd)):=fun cl C fp pins s H=>by
   obtain⟨x,h1,h2⟩:=hq cl C fp pins s H
   cases h1
   exact h2
  exact⟨PE.imp (Zp2 (G.calm hc) ho' hi hg hq' hel hf) key,fun i x px spos h1 h2 h3=>PS.imp (Zr1 (G.calm hc) ho' G.nd h1 h2 hi hg hq' hel h3 hf) fun R σ H h=>key σ H _ h⟩
end
section
variable{c:Cfg}{k:Ck}{Z:DX}{w0:Vw}{X:Cx}
theorem te_cmp_bl{a b:E}(σD:DEnv)(M:Z2)(QD:DK)(h:te c Z (.cmp op a b) σD M QD):te c Z (.cmp op a b) σD M fun d M'=>(∃b,d= .bl b)∧QD d M':=by
 have e:(fun(d:D) (M':Z2)=>QD d M')=QD:=rfl
 show te c Z a σD M fun x M1=>te c Z b σD M1 fun y M2=>cmD M2 op x y fun r=>(∃b,D.bl r= .bl b)∧QD (.bl r) M2
 have h:te c Z a σD M (fun x M1=>te c Z b σD M1 fun y M2=>cmD M2 op x y fun r=>QD (.bl r) M2):=h
 have:(fun(x:D) (M1:Z2)=>te c Z b σD M1 fun y M2=>cmD M2 op x y fun r=>QD (.bl r) M2)=fun x M1=>te c Z b σD M1 fun y M2=>cmD M2 op x y fun r=>(∃b,D.bl r= .bl b)∧QD (.bl r) M2:=by
  funext x M1
  congr 1
  funext y M2
  congr 1
  funext r
  exact propext ⟨fun h=>⟨⟨r,rfl⟩,h⟩,fun h=>h.2⟩
 rw[this] at h
 exact h
theorem Y08{a b:Expr}{rest:List Expr}(ha:PE X a ta)(hb:PE X (.BoolOp .And (b::rest) pos) tb):PE X (.BoolOp .And (a::b::rest) pos) (fun σ H Q=>ta σ H fun x H1=>∃z,TruV X.K x H1 z∧if z=true then tb σ H1 Q else Q x H1):=by
 intro pins s σ H Q I h
 refine BoolOp_and (thn (ha pins s σ H _ I h) fun v s1 zz93=>?_)
 obtain⟨x,H1,I1,r1,q1⟩:=zz93
 refine thn (Bl pins s1 σ H1 x v (fun z H2=>if z=true then tb σ H2 Q else Q x H2) I1 r1 q1) fun z s2 zz94=>?_
 obtain⟨H2,I2,q2⟩:=zz94
 cases z with
 | true=>exact hb pins s2 σ H2 Q I2 (by rw[if_pos rfl] at q2;exact q2)
 | false=>exact⟨x,H2,I2,r1,by rw[if_neg Bf9] at q2;exact q2⟩
theorem Ye3{a b:Expr}{rest:List Expr}(ha:PE X a ta)(hb:PE X (.BoolOp .Or (b::rest) pos) tb):PE X (.BoolOp .Or (a::b::rest) pos) (fun σ H Q=>ta σ H fun x H1=>∃z,TruV X.K x H1 z∧if z=true then Q x H1 else tb σ H1 Q):=by
 intro pins s σ H Q I h
 refine BoolOp_or (thn (ha pins s σ H _ I h) fun v s1 zz95=>?_)
 obtain⟨x,H1,I1,r1,q1⟩:=zz95
 refine thn (Bl pins s1 σ H1 x v (fun z H2=>if z=true then Q x H2 else tb σ H2 Q) I1 r1 q1) fun z s2 zz96=>?_
 obtain⟨H2,I2,q2⟩:=zz96
 cases z with
 | false=>exact hb pins s2 σ H2 Q I2 (by rw[if_neg Bf9] at q2;exact q2)
 | true=>exact⟨x,H2,I2,r1,by rw[if_pos rfl] at q2;exact q2⟩
theorem E3{n:Nat}(h1:Za M n=some xs)(h2:Sf M n=some ys):False:=by
 unfold Za at h1
 unfold Sf at h2
 cases h:M[n]? with
 | none=>rw[h] at h2;cases h2
 | some c=>rw[h] at h1 h2;cases c<;>simp at h1 h2
theorem Z24{x:D}{k:Bool}:truD M x (fun b=>if b=k then A else truD M x P)=truD M x (fun b=>if b=k then A else P b):=by
 cases x with
 | str y=>
  apply propext
  show(y.length≤sizeLine∧if ((y.length:Int) !=0)=k then A else(y.length≤sizeLine∧P ((y.length:Int) !=0)))↔(y.length≤sizeLine∧if ((y.length:Int) !=0)=k then A else P ((y.length:Int) !=0))
  split<;>simp (config:={contextual:=true})
 | ref n=>
  apply propext
  have key:∀Q:Bool→Prop,truD M (.ref n) Q↔(∃xs,Za M n=some xs∧Q (!xs.isEmpty))∨(∃xs,Sf M n=some xs∧Q (!xs.isEmpty)):=fun Q=>Mf
  constructor
  ·intro h
   rcases(key _).mp h with⟨xs,h1,h2⟩ | ⟨xs,h1,h2⟩
   ·refine(key _).mpr (.inl ⟨xs,h1,?_⟩)
    split at h2
    ·rename_i e;rw[if_pos e];exact h2
    ·rename_i e
     rw[if_neg e]
     rcases(key _).mp h2 with⟨ys,g1,g2⟩ | ⟨ys,g1,g2⟩
     ·rw[h1] at g1;cases g1;exact g2
     ·exact(E3 h1 g1).elim
   ·refine(key _).mpr (.inr ⟨xs,h1,?_⟩)
    split at h2
    ·rename_i e;rw[if_pos e];exact h2
    ·rename_i e
     rw[if_neg e]
     rcases(key _).mp h2 with⟨ys,g1,g2⟩ | ⟨ys,g1,g2⟩
     ·exact(E3 g1 h1).elim
     ·rw[h1] at g1;cases g1;exact g2
  ·intro h
   rcases(key _).mp h with⟨xs,h1,h2⟩ | ⟨xs,h1,h2⟩
   ·refine(key _).mpr (.inl ⟨xs,h1,?_⟩)
    split at h2
    ·rename_i e;rw[if_pos e];exact h2
    ·rename_i e;rw[if_neg e];exact(key _).mpr (.inl ⟨xs,h1,h2⟩)
   ·refine(key _).mpr (.inr ⟨xs,h1,?_⟩)
    split at h2
    ·rename_i e;rw[if_pos e];exact h2
    ·rename_i e;rw[if_neg e];exact(key _).mpr (.inr ⟨xs,h1,h2⟩)
 | non=>rfl
 | bl b=>rfl
 | int i=>rfl
 | tup xs=>rfl
 | _=>rfl
theorem te_bop_tt(h:ttD (tbop c Z true (.cons e (.cons e2 r))) σD M QD):
  ttD (te c Z e) σD M fun z M1=>if z=true then ttD (tbop c Z true (.cons e2 r)) σD M1 QD else QD false M1:=by
 have hh:(fun(x:D) (M1:Z2)=>truD M1 x fun b=>if b=true then ttD (tbop c Z true (.cons e2 r)) σD M1 QD else truD M1 x fun b=>QD b M1)=
   fun x M1=>truD M1 x fun z=>if z=true then ttD (tbop c Z true (.cons e2 r)) σD M1 QD else QD false M1:=by
  funext x M1
  rw[Z24]
  congr 1
  funext b
  cases b<;>rfl
 have h':te c Z e σD M fun(x:D) (M1:Z2)=>truD M1 x fun b=>if b=true then ttD (tbop c Z true (.cons e2 r)) σD M1 QD else truD M1 x fun b=>QD b M1:=h
 rw[hh] at h'
 exact h'
theorem te_bop_ff(h:ttD (tbop c Z false (.cons e (.cons e2 r))) σD M QD):
  ttD (te c Z e) σD M fun z M1=>if z=true then QD true M1 else ttD (tbop c Z false (.cons e2 r)) σD M1 QD:=by
 have hh:(fun(x:D) (M1:Z2)=>truD M1 x fun b=>if b=false then ttD (tbop c Z false (.cons e2 r)) σD M1 QD else truD M1 x fun b=>QD b M1)=
   fun x M1=>truD M1 x fun z=>if z=true then QD true M1 else ttD (tbop c Z false (.cons e2 r)) σD M1 QD:=by
  funext x M1
  rw[Z24]
  congr 1
  funext b
  cases b<;>rfl
 have h':te c Z e σD M fun(x:D) (M1:Z2)=>truD M1 x fun b=>if b=false then ttD (tbop c Z false (.cons e2 r)) σD M1 QD else truD M1 x fun b=>QD b M1:=h
 rw[hh] at h'
 exact h'
end
theorem Z40{k:Ck}{a:E}(h:chkE k (.lrev a) ex=true):∃x y l p1 p2 q1 q2,ex= .Call (.Name x p1) [.Call (.Name y p2) [l] [] q2] [] q1∧
  (k.calm&&x==("list":Str)&&y==("reversed":Str)&&k.glob x&&k.glob y&&k.BN.contains x&&k.BN.contains y&&Yz l&&chkE k a l)=true:=by
 cases ex with
 | Call fn as kws q1=>
  cases fn with
  | Name x p1=>
   cases as with
   | nil=>exact absurd h Bf9
   | cons a0 as=>
   cases a0 with
   | Call fn2 as2 kws2 q2=>
    cases fn2 with
    | Name y p2=>
     cases as2 with
     | nil=>exact absurd h Bf9
     | cons l ls=>
     cases ls with
     | cons _ _=>exact absurd h Bf9
     | nil=>
     cases kws2 with
     | cons _ _=>exact absurd h Bf9
     | nil=>
     cases as with
     | cons _ _=>exact absurd h Bf9
     | nil=>
     cases kws with
     | cons _ _=>exact absurd h Bf9
     | nil=>exact⟨x,y,l,p1,p2,q1,q2,rfl,h⟩
    | _=>exact absurd h Bf9
   | _=>exact absurd h Bf9
  | _=>exact absurd h Bf9
 | _=>exact absurd h Bf9
theorem Z43{k:Ck}{a:E}(h:chkE k (.setf b a) ex=true):∃x y l p1 p2 q1 q2,ex= .Call (.Name x p1) [.Call (.Name y p2) [l] [] q2] [] q1∧
  (k.calm&&x==("len":Str)&&y==("set":Str)&&k.glob x&&k.glob y&&k.BN.contains x&&k.BN.contains y&&Yz l&&chkE k a l)=true:=by
 cases ex with
 | Call fn as kws q1=>
  cases fn with
  | Name x p1=>
   cases as with
   | nil=>exact absurd h Bf9
   | cons a0 as=>
   cases a0 with
   | Call fn2 as2 kws2 q2=>
    cases fn2 with
    | Name y p2=>
     cases as2 with
     | nil=>exact absurd h Bf9
     | cons l ls=>
     cases ls with
     | cons _ _=>exact absurd h Bf9
     | nil=>
     cases kws2 with
     | cons _ _=>exact absurd h Bf9
     | nil=>
     cases as with
     | cons _ _=>exact absurd h Bf9
     | nil=>
     cases kws with
     | cons _ _=>exact absurd h Bf9
     | nil=>exact⟨x,y,l,p1,p2,q1,q2,rfl,h⟩
    | _=>exact absurd h Bf9
   | _=>exact absurd h Bf9
  | _=>exact absurd h Bf9
 | _=>exact absurd h Bf9
theorem Z73{k:Ck}{a:E}(h:chkE k (.allf a) ex=true):∃x l p1 q1,ex= .Call (.Name x p1) [l] [] q1∧(k.calm&&x==("all":Str)&&k.glob x&&k.BN.contains x&&Yz l&&chkE k a l)=true:=by
 cases ex with
 | Call fn ls kws pos=>
  cases fn with
  | Name x np=>
   match ls,kws,h with
   | [l],[],h=>exact⟨x,l,np,pos,rfl,h⟩
  | _=>exact absurd h Bf9
 | _=>exact absurd h Bf9
theorem Z76{k:Ck}{a:E}(h:chkE k (.anyf a) ex=true):∃x l p1 q1,ex= .Call (.Name x p1) [l] [] q1∧(k.calm&&x==("any":Str)&&k.glob x&&k.BN.contains x&&Yz l&&chkE k a l)=true:=by
 cases ex with
 | Call fn ls kws pos=>
  cases fn with
  | Name x np=>
   match ls,kws,h with
   | [l],[],h=>exact⟨x,l,np,pos,rfl,h⟩
  | _=>exact absurd h Bf9
 | _=>exact absurd h Bf9
theorem Zb0{k:Ck}(h:Zm9 k (.zip es) ex=true):∃l ls p q,ex= .Call (.Name "zip" p) (l::ls) [] q∧(k.glob "zip"&&k.BN.contains "zip"&&V2 k es (l::ls))=true:=by
 obtain⟨fn,ls,kws,pos,rfl,h⟩:=Xi h
 obtain⟨x,np,rfl,h⟩:=Yk h
 obtain⟨rfl,h⟩:=S9 h
 obtain⟨l,ls,rfl,h⟩:=Zh6 h
 change (_&&_)=true at h
 simp only[Bz9,beq_iff_eq] at h
 obtain⟨⟨⟨rfl,h1⟩,h2⟩,h3⟩:=h
 refine⟨l,ls,_,_,rfl,?_⟩
 simp only[Bz9]
 exact⟨⟨h1,h2⟩,h3⟩
mutual
theorem Zl(c:Cfg):∀e:E,Zx8 c e
 | .var i,k,Z,w0,X,ex,G,h=>by
  obtain⟨x,pos,rfl,h⟩:=Yk h
  change (_&&_)=true at h
  simp only[Bz9,beq_iff_eq] at h
  exact both G (Zd2 G h.1 h.2) fun _=>rfl
 | .int i,k,Z,w0,X,ex,G,h=>by
  obtain⟨v,j,pos,rfl,h⟩:=Xo h
  cases v with
  | int m=>
   have h:(i==m)=true:=h
   simp only[beq_iff_eq] at h
   subst h
   exact both G (PE.imp Yj3 fun σ H Q q=>Nb (fun _ _=>Zg.mpr rfl) q) fun _=>rfl
  | _=>exact absurd h Bf9
 | .bl i,k,Z,w0,X,ex,G,h=>by
  obtain⟨v,j,pos,rfl,h⟩:=Xo h
  cases v with
  | bool m=>
   have h:(i==m)=true:=h
   simp only[beq_iff_eq] at h
   subst h
   exact both G (PE.imp Ym3 fun σ H Q q=>Nb (fun _ _=>Yj.mpr rfl) q) fun _=>rfl
  | _=>exact absurd h Bf9
 | .non,k,Z,w0,X,ex,G,h=>by
  obtain⟨v,j,pos,rfl,h⟩:=Xo h
  cases v with
  | none=>exact both G (PE.imp Y99 fun σ H Q q=>Nb (fun _ _=>Zx.mpr rfl) q) fun _=>rfl
  | _=>exact absurd h Bf9
 | .str i,k,Z,w0,X,ex,G,h=>by
  obtain⟨v,j,pos,rfl,h⟩:=Xo h
  cases v with
  | str m=>
   have h:(i==m)=true:=h
   simp only[beq_iff_eq] at h
   subst h
   exact both G (PE.imp Zx9 fun σ H Q q=>Nb (fun _ _=>Zc.mpr rfl) q) fun _=>rfl
  | _=>exact absurd h Bf9
 | .ty t,k,Z,w0,X,ex,G,h=>by
  obtain⟨x,pos,rfl,h⟩:=Yk h
  change (_&&_)=true at h
  simp only[Bz9,beq_iff_eq,Dw] at h
  obtain⟨g1,g2,g3⟩:=G.gl h.1.2
  exact both G (PE.imp (Y19 (v:= .ty (Ym t)) g1 (G.blt x h.2) (by rw[h.1.1];exact Y23 t) rfl g3 g2) fun σ H Q q=>Nb (fun _ _=>Y87.mpr rfl) q) fun _=>rfl
 | .glb g,k,Z,w0,X,ex,G,h=>by
  obtain⟨x,pos,rfl,h⟩:=Yk h
  change (_&&_)=true at h
  simp only[Bz9,beq_iff_eq] at h
  exact both G (Zf6 G h.1 h.2) fun _=>rfl
 | .bin op a b,k,Z,w0,X,ex,G,h=>by
  obtain⟨l,o,r,pos,rfl,h⟩:=Z88 h
  change (_&&_)=true at h
  simp only[Bz9,beq_iff_eq] at h
  obtain⟨⟨rfl,h1⟩,h2⟩:=h
  exact both G (PE.imp (Yn7 (Zt7 (w0:=w0) op) (Zl c a k Z w0 X l G h1).1 (Zl c b k Z w0 X r G h2).1) fun σ H Q q=>Zh5 q) fun _=>rfl
 | .neg a,k,Z,w0,X,ex,G,h=>by
  obtain⟨o,l,pos,rfl,h⟩:=Z11 h
  change (_&&_)=true at h
  simp only[Bz9,beq_iff_eq] at h
  obtain⟨rfl,h1⟩:=h
  refine both G (PE.imp (Yn2 Yd5 (Zl c a k Z w0 X l G h1).1) fun σ H Q zz97=>?_) fun _=>rfl
  obtain⟨w,σD,M,QD,S,g,aq⟩:=zz97
  refine Zu S g fun x w1 dx M1 x1 r1 rx q1=>?_
  split at q1
  ·cases Zg.mp rx
   exact⟨_,rfl,aq _ w1 _ M1 x1 r1 (Zg.mpr rfl) q1⟩
  ·exact q1.elim
 | .not a,k,Z,w0,X,ex,G,h=>by
  obtain⟨o,l,pos,rfl,h⟩:=Z11 h
  change (_&&_)=true at h
  simp only[Bz9,beq_iff_eq] at h
  obtain⟨rfl,h1⟩:=h
  obtain⟨i1,i2⟩:=Zl c a k Z w0 X l G h1
  refine⟨PE.imp (Y41 i1) fun σ H Q ⟨w,σD,M,QD,S,g,aq⟩=>?_,fun hn=>PT.imp (Yd0 (i2 hn)) fun σ H Q ⟨w,σD,M,QD,S,g,aq⟩=>?_⟩
  ·refine Zu S g fun x w1 dx M1 x1 r1 rx q1=>?_
   obtain⟨b,t1,t2⟩:=Tv (K:=X.K) (by rw[x1.K,S.K,G.eK]) r1 rx q1
   exact⟨b,t1,aq _ w1 _ M1 x1 r1 (Yj.mpr rfl) t2⟩
  ·exact⟨w,σD,M,fun b M1=>QD (!b) M1,S,g,fun b w' M' x' r' q'=>aq _ w' M' x' r' q'⟩
 | .cmp op a b,k,Z,w0,X,ex,G,h=>by
  obtain⟨l,os,rs,pos,rfl,h⟩:=Zh9 h
  obtain⟨o,rfl,h⟩:=Q6 h
  obtain⟨r,rfl,h⟩:=Q6 h
  change (_&&_)=true at h
  simp only[Bz9,beq_iff_eq] at h
  obtain⟨⟨⟨rfl,h0⟩,h1⟩,h2⟩:=h
  have hm:behindInMarks (cmOf op) r=false:=by
   cases r with
   | Set es kk p=>cases op<;>first | (simp[isIn,Zk7] at h0;done) | (simp[behindInMarks,cmOf])
   | _=>rfl
  have ia:=(Zl c a k Z w0 X l G h1).1
  have ib:=(Zl c b k Z w0 X r G h2).1
  refine⟨PE.imp (Y22 (Z05 (w0:=w0) G.eK G.units op) ia ib hm) fun σ H Q q=>Gr q,fun _=>Zz6 (PT.imp (Y72 (Z05 (w0:=w0) G.eK G.units op) ia ib hm) fun σ H Q q=>Gr q) te_cmp_bl⟩
 | .bop b es,k,Z,w0,X,ex,G,h=>by
  obtain⟨o,ls,pos,rfl,h⟩:=Z60 h
  change (_&&_)=true at h
  simp only[Bz9,beq_iff_eq] at h
  obtain⟨rfl,h⟩:=h
  cases b with
  | true=>
   obtain⟨i1,i2⟩:=(Xk c es k Z w0 X ls G h).2 true pos
   exact⟨i1,fun hn=>(i2 hn).pt⟩
  | false=>
   obtain⟨i1,i2⟩:=(Xk c es k Z w0 X ls G h).2 false pos
   exact⟨i1,fun hn=>(i2 hn).pt⟩
 | .lst es,k,Z,w0,X,ex,G,h=>by
  obtain⟨ls,pos,rfl,h⟩:=Zg9 h
  refine both G (PE.imp (Yb4 (Xk c es k Z w0 X ls G h).1) fun σ H Q zz100=>?_) fun _=>rfl
  obtain⟨w,σD,M,QD,S,g,aq⟩:=zz100
  refine⟨w,σD,M,_,S,g,fun vs w1 ds M1 x1 r1 rd1 q1=>⟨by rw[rd1.length];exact q1.1,fun p hp=>?_⟩⟩
  obtain⟨y1,y2,y3⟩:=Xm r1 hp rd1
  exact aq _ _ _ _ (x1.trans y1) y2 y3 q1.2
 | .tup es,k,Z,w0,X,ex,G,h=>by
  obtain⟨ls,kk,pos,rfl,h⟩:=Zi9 h
  refine both G (PE.imp (Ya3 (Xk c es k Z w0 X ls G h).1) fun σ H Q zz101=>?_) fun _=>rfl
  obtain⟨w,σD,M,QD,S,g,aq⟩:=zz101
  refine⟨w,σD,M,_,S,g,fun vs w1 ds M1 x1 r1 rd1 q1=>⟨by rw[rd1.length];exact q1.1,fun p hp=>?_⟩⟩
  obtain⟨y1,y2,y3⟩:=Vm r1 hp rd1
  exact aq _ _ _ _ (x1.trans y1) y2 y3 q1.2
 | .ix a b,k,Z,w0,X,ex,G,h=>by
  obtain⟨l,r,pos,rfl,h⟩:=F7 h
  change (_&&_)=true at h
  simp only[Bz9] at h
  exact both G (Zp5 G h.1.1 (Zl c a k Z w0 X l G h.1.2).1 (Zl c b k Z w0 X r G h.2).1) fun _=>rfl
 | .sl a lo hi,k,Z,w0,X,ex,G,h=>by
  obtain⟨l,r,pos,rfl,h⟩:=F7 h
  obtain⟨x,y,z,p2,rfl,h⟩:=Zh7 h
  obtain⟨rfl,h⟩:=Y66 h
  change (_&&_)=true at h
  simp only[Bz9] at h
  exact both G (Zq7 G (Zl c a k Z w0 X l G h.1.1).1 ((Nm c lo).1 k Z w0 X x G h.1.2) ((Nm c hi).1 k Z w0 X y G h.2)) fun _=>rfl
 | .slW a lo hi,k,Z,w0,X,ex,G,h=>by
  cases ex with
  | Subscript l r pos=>
   cases r with
   | Slice x y z p2=>
    cases z with
    | none=>
     change (_&&_)=true at h
     simp only[Bz9] at h
     exact both G (Z94 G (Zl c a k Z w0 X l G h.1.1).1 ((Nm c lo).1 k Z w0 X x G h.1.2) ((Nm c hi).1 k Z w0 X y G h.2)) fun _=>rfl
    | some _=>exact absurd h Bf9
   | _=>exact absurd h Bf9
  | _=>exact absurd h Bf9
 | .setf b a,k,Z,w0,X,ex,G,h=>by
  obtain⟨x,y,l,p1,p2,q1,q2,rfl,hs⟩:=Z43 h
  simp only[Bz9,beq_iff_eq,Dw] at hs
  obtain⟨⟨⟨⟨⟨⟨⟨⟨h1,h2⟩,h3⟩,h4⟩,h5⟩,h6⟩,h7⟩,h8⟩,h9⟩:=hs
  exact both G (Z55 G h1 h2 h3 h4 h5 h6 h7 h8 (Zl c a k Z w0 X l G h9).1) fun _=>rfl
 | .lrev a,k,Z,w0,X,ex,G,h=>by
  obtain⟨x,y,l,p1,p2,q1,q2,rfl,hs⟩:=Z40 h
  simp only[Bz9,beq_iff_eq,Dw] at hs
  obtain⟨⟨⟨⟨⟨⟨⟨⟨h1,h2⟩,h3⟩,h4⟩,h5⟩,h6⟩,h7⟩,h8⟩,h9⟩:=hs
  exact both G (Z29 G h1 h2 h3 h4 h5 h6 h7 h8 (Zl c a k Z w0 X l G h9).1) fun _=>rfl
 | .fstr es,k,Z,w0,X,ex,G,h=>by
  obtain⟨v1,v2,vs,pos,rfl,hs⟩:=Z59 h
  exact both G (Z80 (C7 c es k Z w0 X _ G hs)) fun _=>rfl
 | .allf a,k,Z,w0,X,ex,G,h=>by
  obtain⟨x,l,p1,q1,rfl,hs⟩:=Z73 h
  simp only[Bz9,beq_iff_eq,Dw] at hs
  obtain⟨⟨⟨⟨⟨h1,h2⟩,h3⟩,h4⟩,h5⟩,h6⟩:=hs
  exact both G (Z57 G h1 h2 h3 h4 h5 (Zl c a k Z w0 X l G h6).1) fun _=>rfl
 | .anyf a,k,Z,w0,X,ex,G,h=>by
  obtain⟨x,l,p1,q1,rfl,hs⟩:=Z76 h
  simp only[Bz9,beq_iff_eq,Dw] at hs
  obtain⟨⟨⟨⟨⟨h1,h2⟩,h3⟩,h4⟩,h5⟩,h6⟩:=hs
  exact both G (Z69 G h1 h2 h3 h4 h5 (Zl c a k Z w0 X l G h6).1) fun _=>rfl
 | .call f es,k,Z,w0,X,ex,G,h=>by
  obtain⟨fn,ls,kws,pos,rfl,h⟩:=Xi h
  obtain⟨x,np,rfl,h⟩:=Yk h
  obtain⟨rfl,h⟩:=S9 h
  change (_&&_)=true at h
  simp only[Bz9,beq_iff_eq] at h
  exact both G (Z28 G h.1.1.1 h.1.1.2 h.1.2 h.2 (Xk c es k Z w0 X ls G h.2).1) fun _=>rfl
 | .bf b es,k,Z,w0,X,ex,G,h=>by
  obtain⟨fn,ls,kws,pos,rfl,h⟩:=Xi h
  obtain⟨x,np,rfl,h⟩:=Yk h
  obtain⟨rfl,h⟩:=S9 h
  obtain⟨l,ls,rfl,h⟩:=Zh6 h
  change (_&&_)=true at h
  simp only[Bz9,beq_iff_eq,Bool.or_eq_true,Dw] at h
  exact both G (Zt0 G h.1.1.1.1 h.1.1.1.2 h.1.1.2 h.1.2 h.2 (Xk c es k Z w0 X (l::ls) G h.2).1) fun _=>rfl
 | .mt m o es,k,Z,w0,X,ex,G,h=>by
  obtain⟨fn,ls,kws,pos,rfl,h⟩:=Xi h
  obtain⟨l,nm,ap,rfl,h⟩:=Z41 h
  obtain⟨rfl,h⟩:=S9 h
  change (_&&_)=true at h
  simp only[Bz9,beq_iff_eq,decide_eq_true_eq] at h
  obtain⟨⟨⟨⟨⟨rfl,h1⟩,h2⟩,h3⟩,h4⟩,h5⟩:=h
  exact both G (Zs8 G h1 (by rw[h2];simp) h3 h5 (Zl c o k Z w0 X l G h4).1 (Xk c es k Z w0 X ls G h5).1) fun _=>rfl
 | .comp N' js tg it cd e,k,Z,w0,X,ex,G,h=>by
  obtain⟨el,gens,scope,pos,rfl,h⟩:=B5 h
  obtain⟨g,rfl,h⟩:=Q6 h
  obtain⟨t,iter,ifs,as⟩:=g
  obtain⟨rfl,h⟩:=Zl8 h
  change (_&&_)=true at h
  simp only[Bz9,decide_eq_true_eq] at h
  obtain⟨⟨⟨⟨⟨⟨⟨⟨h1,h2⟩,h3⟩,h4⟩,h5⟩,h6⟩,h7⟩,h8⟩,h9⟩:=h
  exact both G (Nk G h1 h2 h3 h5 (Zb9 c it k Z w0 X t iter G h4 h9) h6 h7 h8 (Zl c e) (Nm c cd)).1 fun _=>rfl
theorem C7(c:Cfg):∀es:Es,Y16 c es
 | .nil,k,Z,w0,X,vs,G,h=>by
  cases Yi4 h
  refine PFs.imp Yg3 fun o σ H Q ⟨w,σD,M,QD,S,g,aq⟩=>⟨g.1,?_⟩
  have:=aq o w M (Ext.refl w) S.rs g.2
  rw[S.heap] at this
  exact this
 | .cons e r,k,Z,w0,X,vs,G,h=>by
  rcases Y88 h with⟨y,j,p,xs,rfl,rfl,h1⟩ | ⟨v,p,xs,rfl,h1,h2⟩
  ·refine PFs.imp (Yb8 (C7 c r k Z w0 X xs G h1)) fun o σ H Q zz103=>?_
   obtain⟨w,σD,M,QD,S,g,aq⟩:=zz103
   obtain⟨g1,g2,g3⟩:y.length≤sizeLine∧(o++y).length≤sizeLine∧tfs c Z r (o++y) σD M QD:=g
   exact⟨g2,w,σD,M,QD,S,g3,aq⟩
  ·refine PFs.imp (Yf3 (Zl c e k Z w0 X v G h1).1 (C7 c r k Z w0 X xs G h2)) fun o σ H Q zz104=>?_
   obtain⟨w,σD,M,QD,S,g,aq⟩:=zz104
   refine Zu S g fun u w1 d M1 x1 r1 rd1 q1=>?_
   rcases By q1 with⟨i,rfl,a1,a2,a3⟩ | ⟨y,rfl,a1,a2,a3⟩
   ·cases Zg.mp rd1
    exact .inl ⟨i,rfl,a1,a2,w1,σD,M1,QD,S.next x1 r1,a3,fun x w' M' x2 r2 q=>aq x w' M' (x1.trans x2) r2 q⟩
   ·cases Zc.mp rd1
    exact .inr ⟨y,rfl,a1,a2,w1,σD,M1,QD,S.next x1 r1,a3,fun x w' M' x2 r2 q=>aq x w' M' (x1.trans x2) r2 q⟩
theorem Xk(c:Cfg):∀es:Es,Y73 c es
 | .nil,k,Z,w0,X,ls,G,h=>by
  cases ls with
  | nil=>
   refine⟨PA.imp S6 fun σ H Q zz105=>?_,fun b pos=>⟨PE.imp (t:=fun _ _ _=>False) (fun _ _ _ _ _ _ h=>h.elim) fun σ H Q zz106=>by obtain⟨w,σD,M,QD,S,g,aq⟩:=zz106;exact g,fun _ whole pins s σ H Q I zz107=>by obtain⟨w,σD,M,QD,S,g,aq⟩:=zz107;exact g.elim⟩⟩
   obtain⟨w,σD,M,QD,S,g,aq⟩:=zz105
   have:=aq [] w [] M (Ext.refl w) S.rs (RDs.nil w) g
   rw[S.heap] at this
   exact this
  | cons l ls=>exact absurd h Bf9
 | .cons e r,k,Z,w0,X,ls,G,h=>by
  cases ls with
  | nil=>exact absurd h Bf9
  | cons l ls=>
   change (_&&_)=true at h
   simp only[Bz9] at h
   obtain⟨ie,it⟩:=Zl c e k Z w0 X l G h.1.1
   obtain⟨ir,ib⟩:=Xk c r k Z w0 X ls G h.2
   refine⟨PA.imp (Xp ie ir (Zn h.1.2)) fun σ H Q ⟨w,σD,M,QD,S,g,aq⟩=>?_,fun b pos=>?_⟩
   ·refine Zu S g fun v w1 d M1 x1 r1 rd1 q1=>?_
    refine⟨w1,σD,M1,_,S.next x1 r1,q1,fun vs w2 ds M2 x2 r2 rd2 q2=>?_⟩
    exact aq _ w2 _ M2 (x1.trans x2) r2 (RDs.cons (rd1.ext x2) rd2) q2
   ·cases r with
    | nil=>
     cases ls with
     | cons _ _=>exact absurd h.2 Bf9
     | nil=>
      refine⟨PE.imp (Ye0 ie) fun σ H Q q=>q,fun hn=>?_⟩
      have hn':noIf e=true:=by simpa[Z38] using hn
      cases b with
      | true=>exact fun whole pins s σ H Q I q=>Y02 (it hn') whole pins s σ H Q I q
      | false=>exact fun whole pins s σ H Q I q=>Ya4 (it hn') whole pins s σ H Q I q
    | cons e2 r2=>
     cases ls with
     | nil=>exact absurd h.2 Bf9
     | cons l2 ls=>
      obtain⟨jb,jw⟩:=ib b pos
      constructor
      ·cases b with
       | true=>
        refine PE.imp (Y08 ie jb) fun σ H Q zz109=>?_
        obtain⟨w,σD,M,QD,S,g,aq⟩:=zz109
        refine Zu S g fun v w1 d M1 x1 r1 rd1 q1=>?_
        obtain⟨z,t1,t2⟩:=Tv (K:=X.K) (by rw[x1.K,S.K,G.eK]) r1 rd1 q1
        refine⟨z,t1,?_⟩
        cases z with
        | true=>rw[if_pos rfl] at t2 ⊢;exact Zu (S.next x1 r1) t2 (aq.ext x1)
        | false=>rw[if_neg Bf9] at t2 ⊢;exact aq _ w1 _ M1 x1 r1 rd1 t2
       | false=>
        refine PE.imp (Ye3 ie jb) fun σ H Q zz110=>?_
        obtain⟨w,σD,M,QD,S,g,aq⟩:=zz110
        refine Zu S g fun v w1 d M1 x1 r1 rd1 q1=>?_
        obtain⟨z,t1,t2⟩:=Tv (K:=X.K) (by rw[x1.K,S.K,G.eK]) r1 rd1 q1
        refine⟨z,t1,?_⟩
        cases z with
        | false=>rw[if_pos rfl] at t2;rw[if_neg Bf9];exact Zu (S.next x1 r1) t2 (aq.ext x1)
        | true=>rw[if_neg (by decide)] at t2;rw[if_pos rfl];exact aq _ w1 _ M1 x1 r1 rd1 t2
      ·intro hn
       have hn':noIf e=true∧Z38 (.cons e2 r2)=true:=by
        have:(noIf e&&Z38 (.cons e2 r2))=true:=hn
        simpa using this
       have jw':=jw hn'.2
       cases b with
       | true=>
        rintro whole pins s σ H Q I ⟨w,σD,M,QD,S,g,aq⟩
        refine Yb3 (it hn'.1) jw' whole pins s σ H Q I ?_
        refine⟨w,σD,M,fun z M1=>if z=true then ttD (tbop c Z true (.cons e2 r2)) σD M1 QD else QD false M1,S,?_,fun z w1 M1 x1 r1 q1=>?_⟩
        ·exact te_bop_tt g
        ·cases z with
         | true=>rw[if_pos rfl] at q1 ⊢;exact⟨w1,σD,M1,QD,S.next x1 r1,q1,fun z w2 M2 x2 r2 q2=>aq z w2 M2 (x1.trans x2) r2 q2⟩
         | false=>rw[if_neg Bf9] at q1 ⊢;exact aq _ w1 M1 x1 r1 q1
       | false=>
        rintro whole pins s σ H Q I ⟨w,σD,M,QD,S,g,aq⟩
        refine Yo6 (it hn'.1) jw' whole pins s σ H Q I ?_
        refine⟨w,σD,M,fun z M1=>if z=true then QD true M1 else ttD (tbop c Z false (.cons e2 r2)) σD M1 QD,S,?_,fun z w1 M1 x1 r1 q1=>?_⟩
        ·exact te_bop_ff g
        ·cases z with
         | true=>rw[if_pos rfl] at q1 ⊢;exact aq _ w1 M1 x1 r1 q1
         | false=>rw[if_neg Bf9] at q1 ⊢;exact⟨w1,σD,M1,QD,S.next x1 r1,q1,fun z w2 M2 x2 r2 q2=>aq z w2 M2 (x1.trans x2) r2 q2⟩
theorem Nm(c:Cfg):∀eo:Eo,Zv7 c eo
 | .no=>⟨fun k Z w0 X lo G h=>by
   cases lo with
   | none=>
    rintro pins s σ H Q I ⟨w,σD,M,QD,S,g,aq⟩
    refine Y27 pins s σ H Q I ?_
    have:=aq none w M (Ext.refl w) S.rs g
    rw[S.heap] at this
    exact this
   | some _=>exact absurd h Bf9,fun k Z w0 X ls G h=>by
   cases ls with
   | nil=>exact .inr ⟨rfl,rfl⟩
   | cons _ _=>exact absurd h Bf9⟩
 | .yes e=>⟨fun k Z w0 X lo G h=>by
   cases lo with
   | none=>exact absurd h Bf9
   | some x=>
    rintro pins s σ H Q I ⟨w,σD,M,QD,S,g,aq⟩
    refine Y84 (Zl c e k Z w0 X x G h).1 pins s σ H Q I ?_
    refine Zu S g fun v w1 d M1 x1 r1 rd1 q1=>?_
    split at q1
    ·cases Zg.mp rd1
     exact⟨_,rfl,aq _ w1 M1 x1 r1 q1⟩
    ·exact q1.elim,fun k Z w0 X ls G h=>by
   match ls,h with
   | [x],h=>
    change (_&&_)=true at h
    simp only[Bz9] at h
    exact .inl ⟨x,rfl,(Zl c e k Z w0 X x G h.1).2 h.2⟩
   | [],h=>exact absurd h Bf9
   | _::_::_,h=>exact absurd h Bf9⟩
theorem Zb9(c:Cfg):∀it:It,Yg7 c it
 | .seq e,k,Z,w0,X,tg,ex,G,h,_=>by
  refine PI.imp (Yc2 (Zl c e k Z w0 X ex G h).1) fun σ H R zz111=>?_
  obtain⟨w,σD,M,QD,S,g,aq⟩:=zz111
  refine Zu S g fun v w1 d M1 x1 r1 rd1 q1=>?_
  have hK:X.K=w1.K:=by rw[x1.K,S.K,G.eK]
  unfold itD at q1
  split at q1
  ·obtain⟨hn,rfl⟩:=Zj.mp rd1
   obtain⟨xs,z1,z2⟩:=q1
   obtain⟨_,vs,y1,y2,_⟩:=r1.listL z1
   rw[←hK] at y1
   exact .inl ⟨_,rfl,⟨vs,y1⟩,aq _ w1 _ _ M1 x1 r1 (Zr4 hK hn) z2⟩
  ·obtain⟨a,vs,rfl,y1,y2⟩:=Yb.mp rd1
   exact .inr (.inl ⟨a,rfl,⟨vs,.of y1⟩,aq _ w1 _ _ M1 x1 r1 (Zb3 hK (.of y1) y2) q1⟩)
  ·obtain⟨a,vs,rfl,y1,y2⟩:=Yo.mp rd1
   exact .inr (.inl ⟨a,rfl,⟨vs,by rw[hK];exact y1⟩,aq _ w1 _ _ M1 x1 r1 (Zb3 hK y1 y2) q1⟩)
  ·cases Zc.mp rd1
   exact .inr (.inr ⟨_,rfl,aq _ w1 _ _ M1 x1 r1 Y35 q1⟩)
  ·exact q1.elim
 | .rng1 a,k,Z,w0,X,tg,ex,G,h,_=>by
  obtain⟨fn,ls,kws,pos,rfl,h⟩:=Xi h
  obtain⟨x,np,rfl,h⟩:=Yk h
  obtain⟨rfl,h⟩:=S9 h
  obtain⟨l,rfl,h⟩:=Q6 h
  change (_&&_)=true at h
  simp only[Bz9,beq_iff_eq,Dw] at h
  obtain⟨⟨⟨⟨rfl,h1⟩,h2⟩,h3⟩,h4⟩:=h
  obtain⟨g1,g2,g3⟩:=G.gl h1
  refine PI.imp (Zh0 g1 (G.blt _ h2) (Xp (Zl c a k Z w0 X l G h4).1 S6 (Zn h3)) (Zn h3)) fun σ H R zz112=>?_
  obtain⟨w,σD,M,QD,S,g,aq⟩:=zz112
  refine Zu S g fun v w1 d M1 x1 r1 rd1 q1=>?_
  split at q1
  ·cases Zg.mp rd1
   exact⟨_,rfl,q1.1,q1.2.1,aq _ w1 _ _ M1 x1 r1 Y71 q1.2.2⟩
  ·exact q1.elim
 | .zip es,k,Z,w0,X,tg,ex,G,h,ht=>by
  cases tg with
  | Tuple elts ctx tp=>
   obtain⟨l,ls,p,q,rfl,h2⟩:=Zb0 h
   simp only[Bz9,Dw] at h2
   obtain⟨⟨h3,h4⟩,h5⟩:=h2
   obtain⟨g1,g2,g3⟩:=G.gl h3
   obtain⟨s1,s2⟩:=Yl4 h5
   refine PI.imp (Y75 g1 (G.blt _ h4) (Xk c es k Z w0 X (l::ls) G h5).1 s1 s2) fun σ H R zz113=>?_
   obtain⟨w,σD,M,QD,S,g,aq⟩:=zz113
   refine⟨w,σD,M,_,S,g,fun vs w1 ds M1 x1 r1 rd1 q1=>?_⟩
   obtain⟨da,db,rfl,q2⟩:=Qf q1
   have hK:X.K=w1.K:=by rw[x1.K,S.K,G.eK]
   obtain⟨v1,v2,rfl,a1,a2⟩:=rds2 rd1
   rcases Zu5 q2 with⟨n,m,ys,zs,rfl,rfl,z1,z2,z3⟩ | ⟨ys,zs,rfl,rfl,z3⟩
   ·obtain⟨hn,rfl⟩:=Zj.mp a1
    obtain⟨hm,rfl⟩:=Zj.mp a2
    obtain⟨_,us,y1,_,_⟩:=r1.listL z1
    obtain⟨_,vs,y2,_,_⟩:=r1.listL z2
    rw[←hK] at y1 y2
    exact .inl ⟨_,_,rfl,⟨us,y1⟩,⟨vs,y2⟩,aq _ w1 _ _ M1 x1 r1 (Y78 hK hn hm) z3⟩
   ·obtain⟨p1,us,rfl,y1,y2⟩:=Yb.mp a1
    obtain⟨p2,vs,rfl,y3,y4⟩:=Yb.mp a2
    exact .inr ⟨_,_,us,vs,rfl,.of y1,.of y3,aq _ w1 _ _ M1 x1 r1 (Zn6 y1 y3 y2 y4) z3⟩
  | _=>exact absurd ht Bf9
end
noncomputable def Om:Expr→Bool
 | .ListComp .. | .SetComp .. | .DictComp ..=>false
 | _=>true
noncomputable def Jt:Expr→Bool
 | .Tuple ..=>false
 | _=>true
noncomputable def Zy1:Expr→Bool
 | .Name ..=>true
 | _=>false
noncomputable def Y92(k:Ck)(t x:Expr):Bool:=match t,x with
 | .Name n pos,.ListComp _ _ scope p=>k.sc.kind== .function&&k.loc n&&pos.line==p.line&&!(scope.names.any fun(m,j)=>m==n&&(j== .local || j== .cell))
 | _,_=>false
noncomputable def Yf0(k:Ck)(t x:Expr):Bool:=match t,x with
 | .Name n _,.ListComp ..=>k.sc.names.lookup n==some .cell
 | _,_=>false
noncomputable def Yk1:Op→Bool
 | .add | .sub=>true
 | _=>false
mutual
noncomputable def chkS(k:Ck):S→Stmt→Bool
 | .never,_=>true
 | .ret e,.Return (some x) _=>chkE k e x
 | .expr e,.Expr x _=>Om x&&chkE k e x
 | .setL tg e,.Assign [.Tuple es _ _] x _=>k.calm&&Zh2 k tg es&&chkE k e x&&Om x&&Jt x
 | .set tg e,.Assign [t] x _=>Gj k tg t&&chkE k e x&&((Om x&&(Zy1 t || Jt x)) || (Y92 k t x&&decide (tg.length=1)) || Yf0 k t x)
 | .aug op j e,.AugAssign (.Name x _) o y _=>o==opOf op&&Yk1 op&&k.N[j]?==some x&&k.locC x&&chkE k e y
 | .put o i v,.Assign [.Subscript l r _] x _=>Ce r&&Om x&&chkE k v x&&chkE k o l&&chkE k i r
 | .ite t a b,.If x ls rs _=>chkE k t x&&noIf t&&Nr k a ls&&Nr k b rs
 | .for_ tg it b,.For t x ls [] _=>k.calm&&k.loops&&Zk7 x&&Gj k tg t&&Zm9 k it x&&Nr k b ls&&itTg it t
 | .while_ t b,.While x ls [] _=>k.loops&&chkE k t x&&noIf t&&Nr k b ls
 | _,_=>false
noncomputable def Nr(k:Ck):Ss→List Stmt→Bool
 | .nil,[]=>true
 | .cons s r,x::xs=>chkS k s x&&Nr k r xs
 | _,_=>false
end
section
variable{c:Cfg}{k:Ck}{Z:DX}{w0:Vw}{X:Cx}
theorem J0{x:Expr}{t:Option Expr}(h:Om x=true):swapsWith x t line env=pure false:=by
 cases x<;>first | rfl | cases h
theorem Gi{H:Hp}(S:StOk w0 w σD M σ H)(h:f RR σD M)
  (h1:∀σ' w' σD' M',Ext w w'→RS w' M'→REnv w' σD' σ'→RR.nx σD' M'→R.nx σ' w'.H) (h2:Aft w RR.rt R.rt)
  (h3:∀σ' w' σD' M',Ext w w'→RS w' M'→REnv w' σD' σ'→RR.bk σD' M'→R.bk σ' w'.H)
  (h4:∀σ' w' σD' M',Ext w w'→RS w' M'→REnv w' σD' σ'→RR.ct σD' M'→R.ct σ' w'.H):tFS w0 f R σ H:=⟨w,σD,M,RR,S,h,h1,h2,h3,h4⟩
theorem Y45{w1:Vw}{J:L2.It}{own:Own}{xs:List D}{tg:List Nat}{body:DS}{M1:Z2}{H1:Hp}{σD:DEnv}{σ:L2.St}{RR:DEnds}{R:Ends}(S:StOk w0 w1 σD M1 σ H1)(jk:JOk w1 J own xs)
  (h:forD own xs tg body xs RR σD M1)
  (h1:∀σ' w' σD' M',Ext w1 w'→RS w' M'→REnv w' σD' σ'→RR.nx σD' M'→R.nx σ' w'.H) (h2:Aft w1 RR.rt R.rt):
  ∃W:Nat→Nat→L2.St→Hp→Prop,(∃m,W 0 m σ H1)∧∀i m σ H,W i m σ H→
   (J.stop i H∧R.nx σ H)∨(J.go i H∧∃N:L2.St→Hp→Prop,(∀σ' H',N σ' H'→∃m',m'<m∧W (i+1) m' σ' H')∧∀x H',J.yld i H x H'→gF w0 tg x σ H' fun σ2 H2=>tFS w0 body {R with nx:=N,ct:=N,bk:=R.nx} σ2 H2):=by
 refine⟨fun i m σ H=>∃w σE M,StOk w0 w σE M σ H∧Ext w1 w∧i≤xs.length∧m=xs.length - i∧forD own xs tg body (xs.drop i) RR σE M,⟨xs.length,w1,σD,M1,S,Ext.refl _,Nat.zero_le _,rfl,h⟩,?_⟩
 rintro i m σc Hc ⟨w,σE,M,S1,x1,hi,rfl,hc⟩
 have stp:∀st:O4 own xs M,_:=fun st=>jk w M x1 S1.rs st i
 rw[S1.heap] at stp
 by_cases hil:i<xs.length
 ·rw[Dl hil] at hc
  obtain⟨st,hc⟩:=hc
  obtain⟨j1,j2⟩:=(stp st).1 xs[i] (Ae hil)
  refine .inr ⟨j1,fun σ' H'=>∃w σE M,StOk w0 w σE M σ' H'∧Ext w1 w∧i+1≤xs.length∧forD own xs tg body (xs.drop (i+1)) RR σE M,?_,fun x H' hy=>?_⟩
  ·rintro σ' H' ⟨w2,σ2,M2,S2,x2,l2,f2⟩
   exact⟨xs.length - (i+1),by omega,w2,σ2,M2,S2,x2,l2,rfl,f2⟩
  ·obtain⟨w3,rfl,x3,R3,rd3⟩:=j2 x H' hy
   refine⟨w3,σE,M,xs[i],_,⟨rfl,S1.ext.trans x3,R3,S1.env.ext x3⟩,rd3,hc,fun σ2 σE2 env2 q2=>?_⟩
   have nxt:∀σ' w' σD' M',Ext w3 w'→RS w' M'→REnv w' σD' σ'→forD own xs tg body (xs.drop (i+1)) RR σD' M'→
     ∃w σE M,StOk w0 w σE M σ' w'.H∧Ext w1 w∧i+1≤xs.length∧forD own xs tg body (xs.drop (i+1)) RR σE M:=
    fun σ' w' σD' M' x' r' e' q'=>⟨w',σD',M',⟨rfl,(S1.ext.trans x3).trans x',r',e'⟩,(x1.trans x3).trans x',hil,q'⟩
   exact Gi ⟨rfl,S1.ext.trans x3,R3,env2⟩ q2 nxt (fun v w' d M' x' r' rd' q'=>h2 v w' d M' ((x1.trans x3).trans x') r' rd' q')
    (fun σ' w' σD' M' x' r' e' q'=>h1 σ' w' σD' M' ((x1.trans x3).trans x') r' e' q') nxt
 ·rw[Ib (by omega)] at hc
  obtain⟨st,hq⟩:=hc
  refine .inl ⟨(stp st).2 (by omega),?_⟩
  have:=h1 σc w σE M x1 S1.rs S1.env hq
  rw[S1.heap] at this
  exact this
theorem Yj5{o i value:Expr}{td ty tv:TE}(hu:X.A.units+1<cLine)(ho:PE X o td)(hi:PE X i ty)(hv:PE X value tv)(hs:swapsWith value (some (.Subscript o i pos')) pos.line X.env=pure false):
  PS X (.Assign [.Subscript o i pos'] value pos) (fun R σ H=>tv σ H fun v H1=>td σ H1 fun x H2=>ty σ H2 fun y H3=>Yk2 x y v H3 (fun H4=>R.nx σ H4)∨∃a H4,x= .ref a∧DPut H3 a y v H4∧R.nx σ H4):=by
 intro pins s σ H D I h
 refine wpAny_Assign_Subscript (thn (hv pins s σ H _ I h) fun r s1 ⟨v,H1,I1,rv,q1⟩=>thn (ho pins s1 σ H1 _ I1 q1) fun u s2 ⟨x,H2,I2,rx,q2⟩=>thn (hi pins s2 σ H2 _ I2 q2) fun iv s3 zz116=>?_) hs
 obtain⟨y,H3,I3,ry,q3⟩:=zz116
 rcases q3 with q3 | ⟨a,H4,ex,g,q3⟩
 ·exact thn (Zq0 pins s3 σ H3 x y v u iv r (fun H4=>D.nx σ H4) I3 rx ry rv q3) fun _ s4 zz117=>by obtain⟨H4,I4,q4⟩:=zz117;exact⟨σ,H4,I4,q4⟩
 ·subst ex
  obtain rfl:u=Au a:=rx
  exact Zi5 hu I3 g ry rv fun s4 I4=>⟨σ,H4,I4,q3⟩
end
def Fw(c:Cfg)(s:S):Prop:=∀(k:Ck) (Z:DX) (w0:Vw) (X:Cx) (st:Stmt),Good c k Z w0 X→chkS k s st=true→PS X st (tFS w0 (ts c Z s))
def Y52(c:Cfg)(s:Ss):Prop:=∀(k:Ck) (Z:DX) (w0:Vw) (X:Cx) (st:List Stmt),Good c k Z w0 X→Nr k s st=true→PSs X st (tFS w0 (tss c Z s))
theorem Z51{k:Ck}{t x:Expr}(h:Y92 k t x=true):∃n np el gens scope p,t= .Name n np∧x= .ListComp el gens scope p:=by
 cases t with
 | Name n np=>
  cases x with
  | ListComp el gens scope p=>exact⟨_,_,_,_,_,_,rfl,rfl⟩
  | _=>exact absurd h Bf9
 | _=>exact absurd h Bf9
theorem Z52{k:Ck}{t x:Expr}(h:Yf0 k t x=true):∃n np el gens scope p,t= .Name n np∧x= .ListComp el gens scope p∧k.sc.names.lookup n=some .cell:=by
 cases t with
 | Name n np=>
  cases x with
  | ListComp el gens scope p=>exact⟨_,_,_,_,_,_,rfl,rfl,Kc h⟩
  | _=>exact absurd h Bf9
 | _=>exact absurd h Bf9
theorem Z30{k:Ck}{p:Pos}(h:chkE k e (.ListComp el gens scope p)=true):
  ∃N' js tg it cd e' t iter ifs,e= .comp N' js tg it cd e'∧gens=[⟨t,iter,ifs,0⟩]:=by
 cases e with
 | comp N' js tg it cd e'=>
  obtain⟨_,_,_,_,he,h⟩:=B5 h
  cases he
  obtain⟨g,rfl,h⟩:=Q6 h
  obtain⟨t,iter,ifs,as⟩:=g
  obtain⟨rfl,_⟩:=Zl8 h
  exact⟨_,_,_,_,_,_,_,_,_,rfl,rfl⟩
 | _=>exact absurd h Bf9
theorem Z62{k:Ck}{tg:List Nat}{e:E}{st:Stmt}(h:chkS k (.setL tg e) st=true):∃es kk p x pos,st= .Assign [.Tuple es kk p] x pos∧(k.calm&&Zh2 k tg es&&chkE k e x&&Om x&&Jt x)=true:=by
 cases st with
 | Assign ts' x pos=>
  cases ts' with
  | nil=>exact absurd h Bf9
  | cons t r=>
   cases t with
   | Tuple es kk p=>
    cases r with
    | nil=>exact⟨es,kk,p,x,pos,rfl,h⟩
    | cons _ _=>exact absurd h Bf9
   | _=>exact absurd h Bf9
 | _=>exact absurd h Bf9
theorem Z63(c:Cfg)(tg:List Nat)(e:E):Fw c (.setL tg e):=by
 intro k Z w0 X st G h
 obtain⟨es,kk,p,x,pos,rfl,hs⟩:=Z62 h
 simp only[Bz9] at hs
 obtain⟨⟨⟨⟨hc,ht⟩,he⟩,hn⟩,hu⟩:=hs
 have h1:∀t:Expr,swapsWithSole [t] x pos.line X.env=pure false:=fun t=>J0 hn
 have h2:swappedStores [.Tuple es kk p] x X.env=pure none:=by
  cases x<;>first | rfl | cases hu
 obtain⟨i1,i2,i3⟩:=G.tgs tg es ht
 refine PS.imp (Zg3 (Zl c e k Z w0 X x G he).1 (Zc1 (w0:=w0) (Yg0 (G.calm hc) i1 i2 i3)) (h1 _) h2 rfl) fun R σ H zz118=>?_
 obtain⟨w,σD,M,RR,S,q,q1,q2,q3,q4⟩:=zz118
 refine Zu S q fun v w' d M' x' r' rd' q'=>?_
 obtain⟨n,rfl,ds,e1,e2,e3⟩:=Zy q'
 exact⟨w',σD,M',n,ds,_,S.next x' r',by rw[x'.K,S.K,G.eK],rd',e1,e2,e3,fun σ' σD' e' z=>q1 σ' w' σD' M' x' r' e' z⟩
theorem Z98(c:Cfg)(tg:List Nat)(e:E):Fw c (.set tg e):=by
  intro k Z w0 X st G h
  cases st with
  | Assign ts' x pos=>
   match ts',h with
   | [t],h=>
    change (_&&_)=true at h
    simp only[Bz9,Bool.or_eq_true,decide_eq_true_eq] at h
    obtain⟨⟨ht,he⟩,h⟩:=h
    rcases h with(⟨hc,hs⟩ | ⟨hs,hl⟩) | hs
    rotate_left 2
    ·obtain⟨n,np,el,gens,scope,p,rfl,rfl,hcell⟩:=Z52 hs
     have h1:swapsWithSole [.Name n np] (.ListComp el gens scope p) pos.line X.env=pure false:=by
      have hk:X.env.kindOf n=some .cell:=by
       unfold Env.kindOf
       rw[G.sc];exact hcell
      have hk':(X.env.kindOf n==some NameKind.local)=false:=by rw[hk];rfl
      unfold swapsWithSole swapsWith
      simp only[hk',Bool.and_false,Bool.false_and]
     refine PS.imp (Zg3 (Zl c e k Z w0 X _ G he).1 (G.tgt tg _ ht) h1 rfl rfl) fun R σ H zz119=>?_
     obtain⟨w,σD,M,RR,S,q,q1,q2,q3,q4⟩:=zz119
     refine Zu S q fun v w' d M' x' r' rd' q'=>?_
     exact⟨w',σD,M',d,_,S.next x' r',rd',q',fun σ' σD' e' z=>q1 σ' w' σD' M' x' r' e' z⟩
    ·have h1:swapsWithSole [t] x pos.line X.env=pure false:=J0 hc
     have h2:swappedStores [t] x X.env=pure none:=by
      cases t with
      | Name n p=>cases x<;>rfl
      | Tuple es kk p=>
       have:Jt x=true:=hs.resolve_left (by simp[Zy1])
       cases x<;>first | rfl | cases this
      | _=>exact absurd ht Bf9
     have h3:(assignEach [t] X.env).map (·.2)=[assign t X.env]:=by
      cases t with
      | Name n p=>rfl
      | Tuple es kk p=>rfl
      | _=>exact absurd ht Bf9
     refine PS.imp (Zg3 (Zl c e k Z w0 X x G he).1 (G.tgt tg t ht) h1 h2 h3) fun R σ H zz120=>?_
     obtain⟨w,σD,M,RR,S,q,q1,q2,q3,q4⟩:=zz120
     refine Zu S q fun v w' d M' x' r' rd' q'=>?_
     exact⟨w',σD,M',d,_,S.next x' r',rd',q',fun σ' σD' e' z=>q1 σ' w' σD' M' x' r' e' z⟩
    ·match tg,hl,ht with
     | [i],_,ht=>
      obtain⟨n,np,el,gens,scope,p,rfl,rfl⟩:=Z51 hs
      obtain⟨N',js,tg,it,cd,e,t2,iter,ifs,rfl,rfl⟩:=Z30 he
      change (_&&_)=true at he
      simp only[Bz9,decide_eq_true_eq] at he
      obtain⟨⟨⟨⟨⟨⟨⟨⟨h1,h2⟩,h3⟩,h4⟩,h5⟩,h6⟩,h7⟩,h8⟩,h9⟩:=he
      change (_&&_)=true at ht
      simp only[Bz9,beq_iff_eq] at ht
      simp only[Y92,Bz9,beq_iff_eq,Bool.not_eq_true'] at hs
      obtain⟨⟨⟨s1,s2⟩,s3⟩,s4⟩:=hs
      have hl':X.env.scope.names.lookup n=some .local:=by
       unfold Ck.loc at s2
       rw[G.sc];exact Kc s2
      have hsw:swapsWith (.ListComp el [⟨t2,iter,ifs,0⟩] scope p) (some (.Name n np)) pos.line X.env=pure true:=by
       unfold swapsWith
       have hb:(X.env.blockKind==ScopeKind.function)=true:=by
        unfold Env.blockKind
        rw[G.sc,s1];rfl
       have hk:(X.env.kindOf n==some NameKind.local)=true:=by
        unfold Env.kindOf
        rw[hl'];rfl
       have hp:(np.line==(Expr.ListComp el [⟨t2,iter,ifs,0⟩] scope p).pos.line)=true:=by
        show(np.line==p.line)=true
        rw[s3];simp
       simp only[hb,hk,hp,s4,Bool.not_false,Bool.and_self]
      refine PS.imp ((Nk G h1 h2 h3 h5 (Zb9 c it k Z w0 X t2 iter G h4 h9) h6 h7 h8 (Zl c e) (Nm c cd)).2 i n np pos (by rw[G.N];exact ht.1) hl' hsw) fun R σ H zz121=>?_
      obtain⟨w,σD,M,RR,S,q,q1,q2,q3,q4⟩:=zz121
      have q:te c Z (.comp N' js tg it cd e) σD M fun d M1=>RR.nx (σD.set i (some d)) M1:=q
      refine Zu S q fun v w' d M' x' r' rd' q'=>?_
      exact q1 _ w' _ M' x' r' ((S.env.ext x').set i rd') q'
     | [],hl,_=>simp at hl
     | _::_::_,hl,_=>simp at hl
   | [],h=>exact absurd h Bf9
   | _::_::_,h=>exact absurd h Bf9
  | _=>exact absurd h Bf9
theorem Ze0{k:Ck}{op:Op}{j:Nat}{e:E}{st:Stmt}(h:chkS k (.aug op j e) st=true):∃x p o y pos,st= .AugAssign (.Name x p) o y pos∧(o==opOf op&&Yk1 op&&k.N[j]?==some x&&k.locC x&&chkE k e y)=true:=by
 cases st with
 | AugAssign t o y pos=>
  cases t with
  | Name x p=>exact⟨_,_,_,_,_,rfl,h⟩
  | _=>exact absurd h Bf9
 | _=>exact absurd h Bf9
theorem Yc9:ts c Z (.aug op j e) R σ M=(match σ[j]? with
  | some (some x)=>te c Z e σ M fun y M1=>augD op x y fun z=>R.nx (σ.set j (some z)) M1
  | _=>False):=rfl
theorem Zf4(c:Cfg)(op:Op)(j:Nat)(e:E):Fw c (.aug op j e):=by
 intro k Z w0 X st G h
 obtain⟨x,p,o,y,pos,rfl,hh⟩:=Ze0 h
 simp only[Bz9,beq_iff_eq] at hh
 obtain⟨⟨⟨⟨rfl,h1⟩,h2⟩,h3⟩,h4⟩:=hh
 obtain⟨l1,l2⟩:=G.locC h3
 have hi:X.N[j]?=some x:=by rw[G.N];exact h2
 have ip:∀f:Int→Int→Int,PIp X (opOf op) (ipI f)→(∀a b Q,augD op a b Q→∃m n,a= .int m∧b= .int n∧Q (.int (f m n)))→PS X (.AugAssign (.Name x p) (opOf op) y pos) (tFS w0 (ts c Z (.aug op j e))):=by
  intro f hf ha
  refine PS.imp (Yf9 G.nd hi l1 (Zl c e k Z w0 X y G h4).1 hf l2) fun R σ H zz122=>?_
  obtain⟨w,σD,M,RR,S,q,q1,q2,q3,q4⟩:=zz122
  rw[Yc9] at q
  split at q
  ·rename_i d hd
   obtain⟨v,e1,rv⟩:=S.env.2 j d hd
   refine⟨v,e1,Zu S q fun u w1 d2 M1 x1 r1 rd1 z=>?_⟩
   obtain⟨m,n,rfl,rfl,zz⟩:=ha _ _ _ z
   cases Zg.mp rv
   cases Zg.mp rd1
   refine⟨_,_,rfl,rfl,q1 _ w1 _ M1 x1 r1 ((S.env.ext x1).set j (Zg.mpr rfl)) zz⟩
  ·exact q.elim
 cases op with
 | add=>
  refine ip _ Yk3 fun a b Q g=>?_
  unfold augD at g
  split at g
  ·exact⟨_,_,rfl,rfl,g⟩
  ·contradiction
  ·exact g.elim
 | sub=>
  refine ip _ Yh6 fun a b Q g=>?_
  unfold augD at g
  split at g
  ·contradiction
  ·exact⟨_,_,rfl,rfl,g⟩
  ·exact g.elim
 | _=>exact absurd h1 Bf9
theorem Za6(c:Cfg)(o i v:E):Fw c (.put o i v):=by
  intro k Z w0 X st G h
  cases st with
  | Assign ts' x pos=>
   match ts',h with
   | [t],h=>
    cases t with
    | Subscript l r p=>
     change (_&&_)=true at h
     simp only[Bz9] at h
     obtain⟨⟨⟨⟨h1,h2⟩,h3⟩,h4⟩,h5⟩:=h
     refine PS.imp (Yj5 (by have:=G.units;omega) (Zl c o k Z w0 X l G h4).1 (Zl c i k Z w0 X r G h5).1 (Zl c v k Z w0 X x G h3).1 (J0 h2)) fun R σ H zz123=>?_
     obtain⟨w,σD,M,RR,S,q,q1,q2,q3,q4⟩:=zz123
     refine Zu S q fun vv w1 dv M1 x1 r1 rd1 z1=>?_
     refine Zu (S.next x1 r1) z1 fun vo w2 dob M2 x2 r2 rd2 z2=>?_
     refine Zu ((S.next x1 r1).next x2 r2) z2 fun vi w3 di M3 x3 r3 rd3 z3=>?_
     split at z3
     ·obtain⟨hn,rfl⟩:=Zj.mp (rd2.ext x3)
      rcases z3 with⟨xs,kk,j,rfl,y1,y2,y3⟩ | ⟨kvs,kk,y1,y2,y3,y4⟩
      ·cases Zg.mp rd3
       obtain⟨hn,vs,u1,u2⟩:=r3.list y1
       obtain⟨t1,t2⟩:=Yl r3 hn u1 (u2.set (rd1.ext (x2.trans x3)) j)
       exact .inl ⟨_,vs,kk,j,rfl,rfl,u1,by rw[u2.length];exact y2,q1 σ _ σD _ (((x1.trans x2).trans x3).trans t1) t2 (S.env.ext (((x1.trans x2).trans x3).trans t1)) y3⟩
      ·obtain⟨hn,vs,u1,u2⟩:=r3.dict y1
       cases Eg y2 rd3
       obtain⟨t1,t2⟩:=Z50 r3 hn u1 (u2.put (k:=kk) (rd1.ext (x2.trans x3)))
       exact .inr ⟨_,_,rfl,DPut.k (k:=kk) u1 (by rw[u2.length];exact y3),q1 σ _ σD _ (((x1.trans x2).trans x3).trans t1) t2 (S.env.ext (((x1.trans x2).trans x3).trans t1)) y4⟩
     ·exact z3.elim
    | _=>exact absurd h Bf9
   | [],h=>exact absurd h Bf9
   | a::b::r,h=>cases a<;>exact absurd h Bf9
  | _=>exact absurd h Bf9
mutual
theorem Yj1(c:Cfg):∀s:S,Fw c s
 | .never,k,Z,w0,X,st,G,h=>PS.imp Zv2 fun R σ H zz124=>by obtain⟨w,σD,M,RR,S,q,_⟩:=zz124;exact q
 | .ret e,k,Z,w0,X,st,G,h=>by
  cases st with
  | Return v pos=>
   cases v with
   | some x=>exact PS.imp (Ye2 (Zl c e k Z w0 X x G h).1) fun R σ H zz125=>by obtain⟨w,σD,M,RR,S,q,h1,h2,h3,h4⟩:=zz125;exact Zu S q h2
   | none=>exact absurd h Bf9
  | _=>exact absurd h Bf9
 | .expr e,k,Z,w0,X,st,G,h=>by
  cases st with
  | Expr x pos=>
   change (_&&_)=true at h
   simp only[Bz9] at h
   exact PS.imp (Y60 (Zl c e k Z w0 X x G h.2).1 (J0 h.1)) fun R σ H zz126=>by obtain⟨w,σD,M,RR,S,q,h1,h2,h3,h4⟩:=zz126;exact Zu S q fun v w' d M' x' r' rd' q'=>h1 σ w' σD M' x' r' (S.env.ext x') q'
  | _=>exact absurd h Bf9
 | .setL tg e,k,Z,w0,X,st,G,h=>Z63 c tg e k Z w0 X st G h
 | .set tg e,k,Z,w0,X,st,G,h=>Z98 c tg e k Z w0 X st G h
 | .aug op j e,k,Z,w0,X,st,G,h=>Zf4 c op j e k Z w0 X st G h
 | .put o i v,k,Z,w0,X,st,G,h=>Za6 c o i v k Z w0 X st G h
 | .ite t a b,k,Z,w0,X,st,G,h=>by
  cases st with
  | If x ls rs pos=>
   change (_&&_)=true at h
   simp only[Bz9] at h
   obtain⟨⟨⟨h1,h2⟩,h3⟩,h4⟩:=h
   refine PS.imp (Ym2 ((Zl c t k Z w0 X x G h1).2 h2) (Sx c a k Z w0 X ls G h3) (Sx c b k Z w0 X rs G h4)) fun R σ H zz127=>?_
   obtain⟨w,σD,M,RR,S,q,q1,q2,q3,q4⟩:=zz127
   refine⟨w,σD,M,_,S,q,fun z w1 M1 x1 r1 y1=>?_⟩
   have fin:∀{f:DS},f RR σD M1→tFS w0 f R σ w1.H:=fun hf=>Gi (S.next x1 r1) hf (fun σ' w' σD' M' x' r' e' z=>q1 σ' w' σD' M' (x1.trans x') r' e' z) (q2.ext x1)
    (fun σ' w' σD' M' x' r' e' z=>q3 σ' w' σD' M' (x1.trans x') r' e' z) (fun σ' w' σD' M' x' r' e' z=>q4 σ' w' σD' M' (x1.trans x') r' e' z)
   cases z with
   | true=>
    rw[if_pos rfl] at y1
    show if (true:Bool)=true then _ else _
    rw[if_pos rfl];exact fin y1
   | false=>
    rw[if_neg Bf9] at y1
    show if (false:Bool)=true then _ else _
    rw[if_neg Bf9];exact fin y1
  | _=>exact absurd h Bf9
 | .for_ tg it b,k,Z,w0,X,st,G,h=>by
  cases st with
  | For t x ls els pos=>
   cases els with
   | nil=>
    change (_&&_)=true at h
    simp only[Bz9] at h
    obtain⟨⟨⟨⟨⟨⟨h1,h2⟩,h3⟩,h4⟩,h5⟩,h6⟩,h7⟩:=h
    have hf:∀v,foldedSetIterable x X.env v=pure v:=by
     intro v
     cases x<;>first | rfl | cases h3
    refine PS.imp (Yd3 (G.po h2) (G.calm h1) (Zb9 c it k Z w0 X t x G h5 h7) (G.tgt tg t h4) (Sx c b k Z w0 X ls G h6) hf) fun R σ H zz128=>?_
    obtain⟨w,σD,M,RR,S,q,q1,q2,q3,q4⟩:=zz128
    refine⟨w,σD,M,_,S,q,fun J w1 own xs M1 x1 r1 jk z=>?_⟩
    exact Y45 (S.next x1 r1) jk z (fun σ' w' σD' M' x' r' e' z=>q1 σ' w' σD' M' (x1.trans x') r' e' z) (q2.ext x1)
   | cons _ _=>exact absurd h Bf9
  | _=>exact absurd h Bf9
 | .while_ t b,k,Z,w0,X,st,G,h=>by
  cases st with
  | While x ls els pos=>
   cases els with
   | nil=>
    change (_&&_)=true at h
    simp only[Bz9] at h
    obtain⟨⟨⟨h1,h2⟩,h3⟩,h4⟩:=h
    refine PS.imp (Zn2 (G.po h1) ((Zl c t k Z w0 X x G h2).2 h3) (Sx c b k Z w0 X ls G h4)) fun R σ H zz129=>?_
    obtain⟨w,σD,M,RR,S,q,q1,q2,q3,q4⟩:=zz129
    obtain⟨W,⟨m0,hm0⟩,step⟩:=q
    refine⟨fun m σ H=>∃w2 σE M2,StOk w0 w2 σE M2 σ H∧Ext w w2∧W m σE M2,⟨m0,w,σD,M,S,Ext.refl w,hm0⟩,?_⟩
    rintro m σ2 H2 ⟨w2,σE,M2,S2,x2,hW⟩
    refine⟨w2,σE,M2,_,S2,step m σE M2 hW,fun z w3 M3 x3 r3 y3=>?_⟩
    cases z with
    | false=>
     rw[if_neg Bf9] at y3 ⊢
     exact q1 σ2 w3 σE M3 (x2.trans x3) r3 (S2.env.ext x3) y3
    | true=>
     rw[if_pos rfl] at y3 ⊢
     have nxt:∀σ' w' σD' M',Ext w3 w'→RS w' M'→REnv w' σD' σ'→(∃m',m'<m∧W m' σD' M')→∃m',m'<m∧∃w2 σE M2,StOk w0 w2 σE M2 σ' w'.H∧Ext w w2∧W m' σE M2:=
      fun σ' w' σD' M' x' r' e' zz130=>by obtain⟨m',l',z'⟩:=zz130;exact⟨m',l',w',σD',M',⟨rfl,(S2.ext.trans x3).trans x',r',e'⟩,(x2.trans x3).trans x',z'⟩
     refine⟨fun σ' H'=>∃m',m'<m∧∃w2 σE M2,StOk w0 w2 σE M2 σ' H'∧Ext w w2∧W m' σE M2,fun σ' H' z=>z,?_⟩
     exact Gi (S2.next x3 r3) y3 nxt (fun v w' d M' x' r' rd' z'=>q2 v w' d M' ((x2.trans x3).trans x') r' rd' z') (fun σ' w' σD' M' x' r' e' z'=>q1 σ' w' σD' M' ((x2.trans x3).trans x') r' e' z') nxt
   | cons _ _=>exact absurd h Bf9
  | _=>exact absurd h Bf9
theorem Sx(c:Cfg):∀s:Ss,Y52 c s
 | .nil,k,Z,w0,X,st,G,h=>by
  cases st with
  | nil=>
   refine PSs.imp Y50 fun R σ H zz131=>?_
   obtain⟨w,σD,M,RR,S,q,h1,_⟩:=zz131
   have:=h1 σ w σD M (Ext.refl w) S.rs S.env q
   rw[S.heap] at this
   exact this
  | cons _ _=>exact absurd h Bf9
 | .cons s r,k,Z,w0,X,st,G,h=>by
  cases st with
  | nil=>exact absurd h Bf9
  | cons x xs=>
   change (_&&_)=true at h
   simp only[Bz9] at h
   refine PSs.imp (Zu3 (Yj1 c s k Z w0 X x G h.1) (Sx c r k Z w0 X xs G h.2)) fun R σ H zz132=>?_
   obtain⟨w,σD,M,RR,S,q,h1,h2,h3,h4⟩:=zz132
   refine Gi S q ?_ h2 h3 h4
   intro σ' w' σD' M' x' r' e' q'
   exact Gi ⟨rfl,S.ext.trans x',r',e'⟩ q' (fun σ2 w2 σD2 M2 x2 r2 e2 z=>h1 σ2 w2 σD2 M2 (x'.trans x2) r2 e2 z) (h2.ext x') (fun σ2 w2 σD2 M2 x2 r2 e2 z=>h3 σ2 w2 σD2 M2 (x'.trans x2) r2 e2 z) (fun σ2 w2 σD2 M2 x2 r2 e2 z=>h4 σ2 w2 σD2 M2 (x'.trans x2) r2 e2 z)
end
theorem FnOk.cx{K:Ad}{k:Nat}(F:FnOk P w K mg base CX0 k f fd ps sp):FnOk P w K mg base CX k f fd ps sp:=
 ⟨F.len,fun A outer s H args us vs Q E hr he hb hv hs=>Lu (F.run A outer s H args us vs Q E hr he hb hv hs) fun r s' h=>by
  cases r with
  | error e=>exact Di h
  | ok fl=>cases fl<;>exact h⟩
structure Prg(P:Program)(w:World)(K:Ad)(mg:Str→Option Value)(base:Heap)(c:Cfg)(FN GN BN:List Str)(lv:Nat):Prop where
 hK:c.K=K
 fns:∀(f:Nat) (x:Str) (sp:DSp),FN[f]?=some x→c.Γ[f]?=some sp→∃(kk:Nat) (f:Addr) (fd:FuncData) (ps:List Str) (ds:List Value) (dvs:List V) (dD:List D) (sp0:DSp),FnOk P w K mg base (CX1 P w) kk f fd ps (spF K sp0)∧kk≤lv∧mg x=some (.ref f)∧Ha K (.ref f)=true∧
  Pl K fd ps ds∧Vals dvs ds∧(∀w:Vw,w.K=K→RDs w dD dvs)∧∀as M Q Z,sp as M Q Z→sp0 (as++dD) M Q Z
 flen:FN.length=c.Γ.length
 glb:∀(g:Nat) (x:Str) (d:D),GN[g]?=some x→c.G[g]?=some d→∃v u,mg x=some u∧RelV v u∧∀w:Vw,w.K=K→RD w d v
 blt:∀x,x∈BN→mg x=none
noncomputable def start0(N:List Str)(ds:List D):DEnv:=ds.map some++Df (N.length - ds.length) none
theorem Zd9(r:RDs w ds vs):REnv w (start0 N ds) (L2.start N vs):=by
 refine⟨by unfold start0 L2.start;simp[r.length],fun i d e=>?_⟩
 unfold start0 at e
 unfold L2.start
 by_cases hi:i<ds.length
 ·rw[Ex (by simpa using hi),As] at e
  rw[Ex (by rw[Ac,r.length];exact hi),As]
  cases hd:ds[i]? with
  | none=>rw[hd] at e;cases e
  | some d'=>
   rw[hd] at e
   have e':d'=d:=by simpa using e
   subst e'
   obtain⟨v,q1,q2⟩:=r.get hd
   exact⟨v,by rw[q1];rfl,q2⟩
 ·rw[Kq (by simpa using hi)] at e
  have:=Af.mp e
  simp at this
section
variable{P:Program}{w:World}{K:Ad}{mg:Str→Option Value}{base:Heap}{c:Cfg}{FN GN BN:List Str}{lv:Nat}{x qual:Str}{st:Stmt}{f:Addr}{fd:FuncData}{N ps:List Str}
noncomputable abbrev ck0(N:List Str)(st:Stmt)(FN GN BN:List Str):Ck:=⟨N,Zt st,FN,GN,BN,true,true,true,[],true,[]⟩
theorem fn0(Pr:Prg P w K mg base c FN GN BN lv)(F:Fun K x qual st f fd)(S:FnScope N ps (Zt st)){body:Ss}(hc:Nr (ck0 N st FN GN BN) body (X0 st)=true){sp:DSp}(hl:∀ds M Q Z,sp ds M Q Z→ds.length=ps.length)
  (hb:∀ds M Q Z,sp ds M Q Z→tss c noX body {nx:=fun _ M=>Q .non M,rt:=Q} (start0 N ds) M):FnOk P w K mg base (CX1 P w) (lv+1) f fd ps (spF K sp):=by
 refine FnOk.cx (F.ok S (fun vs H Q E h=>?_) fun cdv A outer s H vs Q E hr h=>?_)
 ·obtain⟨w,ds,M,QD,Z,_,_,_,r,h,_⟩:=h
  rw[r.length];exact hl _ _ _ _ h
 obtain⟨w',ds,M,QD,Z,hK',rfl,R,r,h,a,xk⟩:=h
 have G:Good c (ck0 N st FN GN BN) noX w' (cxOf CX0 P w K mg base N qual (Zt st) f cdv A outer s w'.H E).nox:=
  {hK:=Pr.hK.symm
   wK:=hK'.trans Pr.hK.symm
   N:=rfl
   nd:=S.nd
   sc:=rfl
   calm:=fun _=>rfl
   units:=hr.units
   fns:=fun _ f x sp h1 h2=>by
    obtain⟨kk,f,fd,ps,ds,dvs,dD,sp0,F,hk,h⟩:=Pr.fns f x sp h1 h2
    exact⟨kk,f,fd,ps,ds,dvs,dD,sp0,F,hr.mono hk,h⟩
   flen:=Pr.flen
   glb:=Pr.glb
   blt:=Pr.blt
   exc:=⟨E0,fun _ _ _ _ _ _ _ h=>by
    obtain⟨_,_,_,_,_,_,_,_,_,_,_,_,_,_,_,h⟩:=h
    exact h.elim,fun cls dd H' h=>by
    obtain⟨_,_,_,_,_,_,_,_,_,_,_,_,_,h⟩:=h
    exact h.elim⟩
   stk:=fun _=>⟨rfl,rfl⟩
   po:=fun _=>PassesOwn.never
   fnc:=fun _ _=>rfl
   fno:=fun _ h=>by cases h}
 refine⟨_,Sx c body _ _ w' _ _ G hc,w',start0 N ds,M,{nx:=fun _ M=>QD .non M,rt:=QD},⟨rfl,Ext.refl w',R,Zd9 r⟩,hb _ _ _ _ h,?_,a,?_,?_⟩
 ·exact fun σ' w2 σD' M' x' r' e' q'=>a .non w2 .non M' x' r' (Zx.mpr rfl) q'
 ·exact fun σ' w2 σD' M' x' r' e' q'=>q'.elim
 ·exact fun σ' w2 σD' M' x' r' e' q'=>q'.elim
end
def Z66:DSp:=fun ds M Q _=>∃ns:List Int,ds=[.ref 0]∧M=[.frz (ns.map .int)]∧ns.length≤63∧(∀i∈ns,Bits bigN i)∧∀M',Q (.bl true) M'
theorem Z21(w:Vw):∀ns:List Int,RDs w (ns.map .int) (ns.map V.int)
 | []=>RDs.nil w
 | _::r=>RDs.cons (Zg.mpr rfl) (Z21 w r)
theorem Zr3{l:PySem.W.OpenLaw}{k:Nat}{q:Program}{loose:List Str}{XP:(Str→Option Value)→Heap→Prop}{YP:World→Heap→Prop}{d:DefRec}{K:Params→Ad}{x:Str}(hn:l.most=some 63)(hdf:d.params.defaults=[])(hr:Room k callerA)
  (hY:∀(w:World) (h:Heap),YP w h→(K w.params).In h)
  (F:∀(w:World) (mg:Str→Option Value) (fa:Addr) (h:Heap),(K w.params).In h→h.Ns mainGlobals mg→mg d.name=some (.ref fa)→
   ∃fd:FuncData,(∀(s:Shared) (u:Value),BindsTo s fd ⟨[u],[]⟩ [(x,u)])∧∀base:Heap,(K w.params).In base→base.Ns mainGlobals mg→FnOk l.prog w (K w.params) mg base (CX1 l.prog w) k fa fd [x] (spF (K w.params) Z66)):
  PySem.W.WalkO q loose XP YP l.row.toRowW d [] (fun f vs=>PySem.call f vs):=by
 refine Ye6 (n:=63) (k:=k) (x:=x) (CX:=fun w=>CX1 l.prog w) (sp:=fun w=>spF (K w.params) Z66) hn (by decide) hdf hr hY F (fun w H a ns hl hb hO hS=>?_) fun w H s e s' h=>?_
 ·have hF:SqF (K w.params) H a (ns.map V.int):=by
   rcases hS with(h | ⟨o,h⟩) | h
   ·rcases hO a with z | ⟨o,xs,z⟩
    ·rw[z] at h;cases h
    ·rw[z] at h;cases h
   ·exact .inl ⟨o,h⟩
   ·exact .inr (.inr h)
  refine⟨⟨K w.params,H,fun _=>a,1⟩,[.ref 0],[.frz (ns.map .int)],fun d _=>d= .bl true,noX,rfl,rfl,⟨rfl,fun i j ci cj ei ej mi mj _=>?_,fun i c' e=>?_⟩,RDs.cons (Zj.mpr ⟨Nat.one_pos,rfl⟩) (RDs.nil _),⟨ns,rfl,rfl,hl,hb,fun _=>rfl⟩,fun v w' d M' _ _ rd e=>?_,fun cls dd H' h=>?_⟩
  ·have h1:=(Af.mp ei).1
   have h2:=(Af.mp ej).1
   simp at h1 h2
   omega
  ·have h1:=(Af.mp e).1
   have hi:i=0:=by simp at h1;exact h1
   subst hi
   simp at e
   subst e
   exact⟨_,hF,Z21 _ ns⟩
  ·subst e
   exact Yj.mp rd
  ·obtain⟨_,_,_,_,_,_,_,_,_,_,_,_,_,h⟩:=h
   exact h.elim
 ·obtain⟨_,_,_,_,_,_,_,_,_,_,_,_,_,_,_,h⟩:=h
  exact h.elim
def bot:DSp:=fun _ _ _ _=>False
def Ent(K:Ad)(mg:Str→Option Value)(x:Str):Prop:=∃(f:Addr) (fd:FuncData) (ps:List Str),mg x=some (.ref f)∧Ha K (.ref f)=true∧Pl K fd ps []
section
variable{P:Program}{w:World}{K:Ad}{mg:Str→Option Value}{base:Heap}{Γ:List DSp}{G:List D}{FN GN BN:List Str}{lv:Nat}
theorem Prg.zero(hF:∀x∈FN,Ent K mg x)(hl:FN.length=Γ.length)(hb:∀sp∈Γ,sp=bot)(hg:∀(g:Nat) (x:Str) (d:D),GN[g]?=some x→G[g]?=some d→∃v u,mg x=some u∧RelV v u∧∀w:Vw,w.K=K→RD w d v)(hB:∀x∈BN,mg x=none):
  Prg P w K mg base ⟨K,Γ,G⟩ FN GN BN 0 where
 hK:=rfl
 fns:=fun f x sp h1 h2=>by
  obtain⟨fa,fd,ps,e1,e2,e3⟩:=hF x (Hx h1)
  have hs:sp=bot:=hb sp (Hx h2)
  subst hs
  have no:∀vs H Q E,¬spF K bot vs H Q E:=fun vs H Q E zz133=>by obtain⟨_,_,_,_,_,_,_,_,_,h,_⟩:=zz133;exact h
  exact⟨0,fa,fd,ps,[],[],[],bot,⟨fun vs H Q E h=>absurd h (no vs H Q E),fun A outer s H args us vs Q E _ _ _ _ h=>absurd h (no vs H Q E)⟩,Nat.le_refl _,e1,e2,e3,.nil,fun w _=>RDs.nil w,fun _ _ _ _ h=>h.elim⟩
 flen:=hl
 glb:=hg
 blt:=hB
theorem Prg.add(Pr:Prg P w K mg base ⟨K,Γ,G⟩ FN GN BN lv)(n:Nat){x:Str}(hx:FN[n]?=some x)(F:FnOk P w K mg base (CX1 P w) kk f fd ps (spF K sp))(h1:kk≤lv')(h2:lv≤lv')(hm:mg x=some (.ref f))(hk:Ha K (.ref f)=true)(hb:Pl K fd ps []):
  Prg P w K mg base ⟨K,Γ.set n sp,G⟩ FN GN BN lv' where
 hK:=rfl
 fns:=fun m y sp' e1 e2=>by
  by_cases hmn:n=m
  ·subst hmn
   rw[hx] at e1
   cases e1
   have hl:n<Γ.length:=by rw[←Pr.flen];exact(Af.mp hx).1
   have e2:(Γ.set n sp)[n]?=some sp':=e2
   rw[Hz hl] at e2
   cases e2
   exact⟨kk,f,fd,ps,[],[],[],sp,F,h1,hm,hk,hb,.nil,fun w _=>RDs.nil w,fun as M Q Z h=>by rw[Db];exact h⟩
  ·have e2:(Γ.set n sp)[m]?=some sp':=e2
   rw[Dt hmn] at e2
   obtain⟨kk,f,fd,ps,ds,dvs,dD,sp0,F,hk,h⟩:=Pr.fns m y sp' e1 e2
   exact⟨kk,f,fd,ps,ds,dvs,dD,sp0,F,Nat.le_trans hk h2,h⟩
 flen:=by rw[Pr.flen];simp
 glb:=Pr.glb
 blt:=Pr.blt
end
theorem Zd{a:Nat}(h:Za M a=some xs):Za (M++N) a=some xs:=by
 unfold Za at *
 have ha:a<M.length:=by
  cases e:M[a]? with
  | none=>rw[e] at h;cases h
  | some c=>exact(Af.mp e).1
 rw[Ex ha];exact h
theorem Z7{a:Nat}(h:Z3 M a=some xs):Z3 (M++N) a=some xs:=by
 unfold Z3 at *
 have ha:a<M.length:=by
  cases e:M[a]? with
  | none=>rw[e] at h;cases h
  | some c=>exact(Af.mp e).1
 rw[Ex ha];exact h
theorem Zy3(M:Z2)(c:Cell)(N:Z2):(M++c::N)[M.length]?=some c:=by simp
theorem Y63(M N:Z2)(k:Nat):(M++N)[M.length+k]?=N[k]?:=by rw[Kq (by omega)];congr 1;omega
theorem Ze(M:Z2)(xs:List D)(N:Z2):Za (M++ .lst xs::N) M.length=some xs:=by unfold Za;rw[Zy3]
theorem Z5(M:Z2)(xs:List D)(N:Z2):Z3 (M++ .lst xs::N) M.length=some xs:=by unfold Z3;rw[Zy3]
theorem Zp(M N:Z2)(k:Nat):Z3 (M++N) (M.length+k)=Z3 N k:=by unfold Z3;rw[Y63]
theorem Z1{n:Nat}(h:Z3 M n=some xs):Za M n=some xs:=Y83 h
theorem W0{a b:Nat}(h:b≠a):Za (M.set b c) a=Za M a:=by unfold Za;rw[Dt h]
theorem Zf{a b:Nat}(h:b≠a):Z3 (M.set b c) a=Z3 M a:=by unfold Z3;rw[Dt h]
theorem Gy{lo:Int}{n i:Nat}(h:i<n):(Jb lo n)[i]?=some (.int (lo+i)):=by
 unfold Jb;rw[As,List.getElem?_range h];rfl
theorem X3(lo:Int)(n:Nat):(Jb lo n).length=n:=by unfold Jb;simp
theorem Wb{own:Own}{xs:List D}{tg:List Nat}{body:DS}{R:DEnds}{σ:DEnv}{M:Z2}(I:Nat→DEnv→Z2→Prop)(h0:I 0 σ M)(hs:∀i σ M,i≤xs.length→I i σ M→O4 own xs M)
  (step:∀(i:Nat) (d:D) σ M (C:DEnv→Z2→Prop),xs[i]?=some d→I i σ M→(∀σ2 M2,I (i+1) σ2 M2→C σ2 M2)→tgD tg d σ fun σ'=>body {nx:=C,rt:=R.rt,bk:=R.nx,ct:=C} σ' M)
  (fin:∀σ M,I xs.length σ M→R.nx σ M):forD own xs tg body xs R σ M:=by
 have key:∀(j:Nat) σ M,j≤xs.length→I (xs.length - j) σ M→forD own xs tg body (xs.drop (xs.length - j)) R σ M:=by
  intro j
  induction j with
  | zero=>
   intro σ M _ h
   rw[Nat.sub_zero] at h ⊢
   rw[List.drop_length]
   exact⟨hs _ σ M (Nat.le_refl _) h,fin σ M h⟩
  | succ j ih=>
   intro σ M hj h
   have hi:xs.length - (j+1)<xs.length:=by omega
   have e:xs.length - (j+1)+1=xs.length - j:=by omega
   rw[Dl hi]
   refine⟨hs _ σ M (by omega) h,step _ _ σ M _ (Ae hi) h fun σ2 M2 h2=>?_⟩
   rw[e] at h2 ⊢
   exact ih σ2 M2 (by omega) h2
 have:=key xs.length σ M (Nat.le_refl _) (by rw[Nat.sub_self];exact h0)
 rw[Nat.sub_self] at this
 exact this
theorem Tm{lo:Int}{n:Nat}{tg:List Nat}{body:DS}{R:DEnds}{σ:DEnv}{M:Z2}(I:Nat→DEnv→Z2→Prop)(h0:I 0 σ M)
  (step:∀(i:Nat) σ M (C:DEnv→Z2→Prop),i<n→I i σ M→(∀σ2 M2,I (i+1) σ2 M2→C σ2 M2)→tgD tg (.int (lo+i)) σ fun σ'=>body {nx:=C,rt:=R.rt,bk:=R.nx,ct:=C} σ' M)
  (fin:∀σ M,I n σ M→R.nx σ M):forD .no (Jb lo n) tg body (Jb lo n) R σ M:=by
 refine Wb I h0 (fun _ _ _ _ _=>trivial) (fun i d σ M C hd hI hC=>?_) (fun σ M h=>fin σ M (by rw[X3] at h;exact h))
 have hi:i<n:=by
  have:=(Af.mp hd).1
  rwa[X3] at this
 rw[Gy hi] at hd
 cases hd
 exact step i σ M C hi hI hC
theorem X2{own:Own}{z:Nat}(I:Nat→DEnv→Z2→Prop)(h0:I 0 σ M)(hs:∀i σ M,i≤xs.length→I i σ M→O4 own xs M)
  (step:∀(i:Nat) (d:D) σ M (C:DEnv→Z2→Prop),xs[i]?=some d→I i σ M→(∀σ2 M2,I (i+1) σ2 M2→C σ2 M2)→tgD tg d σ fun σ'=>cd σ' M fun b M1=>if b=true then
   el σ' M1 fun y M2=>∃acc,Z3 M2 z=some acc∧acc.length<sizeLine∧C σ' (M2.set z (.lst (acc++[y]))) else C σ' M1)
  (fin:∀σ M,I xs.length σ M→Q M):Pb own xs tg cd el z xs σ M Q:=by
 have key:∀(j:Nat) σ M,j≤xs.length→I (xs.length - j) σ M→Pb own xs tg cd el z (xs.drop (xs.length - j)) σ M Q:=by
  intro j
  induction j with
  | zero=>
   intro σ M _ h
   rw[Nat.sub_zero] at h ⊢
   rw[List.drop_length]
   exact⟨hs _ σ M (Nat.le_refl _) h,fin σ M h⟩
  | succ j ih=>
   intro σ M hj h
   have hi:xs.length - (j+1)<xs.length:=by omega
   have e:xs.length - (j+1)+1=xs.length - j:=by omega
   rw[Dl hi]
   refine⟨hs _ σ M (by omega) h,step _ _ σ M (fun σ2 M2=>Pb own xs tg cd el z (xs.drop (xs.length - (j+1)+1)) σ2 M2 Q) (Ae hi) h fun σ2 M2 h2=>?_⟩
   rw[e] at h2 ⊢
   exact ih σ2 M2 (by omega) h2
 have:=key xs.length σ M (Nat.le_refl _) (by rw[Nat.sub_self];exact h0)
 rw[Nat.sub_self] at this
 exact this
theorem Jv{c:Cfg}{X:DX}{t:E}{b:Ss}{R:DEnds}{σ:DEnv}{M:Z2}(I:DEnv→Z2→Prop)(μ:DEnv→Z2→Nat)(h0:I σ M)
  (step:∀σ M,I σ M→tt c X t σ M fun r M1=>if r=true then tss c X b {nx:=fun σ2 M2=>I σ2 M2∧μ σ2 M2<μ σ M,rt:=R.rt,bk:=R.nx,ct:=fun σ2 M2=>I σ2 M2∧μ σ2 M2<μ σ M} σ M1 else R.nx σ M1):
  ts c X (.while_ t b) R σ M:=by
 refine⟨fun m σ M=>m=μ σ M∧I σ M∧True,⟨_,rfl,h0,trivial⟩,?_⟩
 rintro m σ M ⟨rfl,hI,_⟩
 have e:∀σ0 M0,(fun(σ2:DEnv) (M2:Z2)=>∃m',m'<μ σ0 M0∧m'=μ σ2 M2∧I σ2 M2∧True)=fun σ2 M2=>I σ2 M2∧μ σ2 M2<μ σ0 M0:=by
  intro σ0 M0
  funext σ2 M2
  apply propext
  constructor
  ·rintro⟨m',h1,rfl,h2,_⟩;exact⟨h2,h1⟩
  ·rintro⟨h1,h2⟩;exact⟨_,h2,rfl,h1,trivial⟩
 rw[e σ M]
 exact step σ M hI
theorem mulR{i j:Int}(h1:-(2 ^ 64)<j)(h2:j<2 ^ 64):IntMulOk i j:=CMul.ok (.inr ⟨h1,h2⟩)
theorem mulL{i j:Int}(h1:-(2 ^ 64)<i)(h2:i<2 ^ 64):IntMulOk i j:=CMul.ok (.inl ⟨h1,h2⟩)
theorem Zi{i j:Int}(h1:0<j)(h2:j<2 ^ 64):Z84 i j:=by
 refine⟨by omega,?_⟩
 have h3:j.natAbs<2 ^ 64:=by omega
 exact Nat.lt_trans (Xd h3 (by decide)) (by decide)
theorem Z0{n:Nat}(h:n≤16000000):n≤sizeLine:=by rw[Ka];omega
theorem Z6{n:Nat}(h:n≤16000000):n<sizeLine:=by rw[Ka];omega
section
variable{M:Z2}{Q:DK}{B:Bool→Prop}{i j:Int}{a b:Str}{p q:Bool}{xs ys:List D}{n m:Nat}{K:Ad}
theorem op_add_i:opD .add (.int i) (.int j) M Q=Q (.int (i+j)) M:=rfl
theorem op_add_s:opD .add (.str a) (.str b) M Q=(a.length+b.length≤sizeLine∧Q (.str (a++b)) M):=rfl
theorem op_add_t:opD .add (.tup xs) (.tup ys) M Q=(xs≠[]∧xs.length+ys.length≤sizeLine∧Q (.tup (xs++ys)) M):=rfl
theorem op_add_l:opD .add (.ref n) (.ref m) M Q=∃xs ys,Z3 M n=some xs∧Z3 M m=some ys∧xs.length+ys.length≤sizeLine∧Q (.ref M.length) (M++[.lst (xs++ys)]):=rfl
theorem op_sub_i:opD .sub (.int i) (.int j) M Q=Q (.int (i - j)) M:=rfl
theorem op_mul_i:opD .mul (.int i) (.int j) M Q=(IntMulOk i j∧Q (.int (i * j)) M):=rfl
theorem op_mul_l:opD .mul (.ref n) (.int i) M Q=∃xs,Z3 M n=some xs∧0≤i∧i<2 ^ 62∧xs.length * i.toNat≤sizeLine∧Q (.ref M.length) (M++[.lst (Df i.toNat xs).flatten]):=rfl
theorem op_fdiv_i:opD .fdiv (.int i) (.int j) M Q=(Z84 i j∧Q (.int (qdiv i j)) M):=rfl
theorem op_mod_i:opD .mod (.int i) (.int j) M Q=(j≠0∧Q (.int (qmod i j)) M):=rfl
theorem op_pow_i:opD .pow (.int i) (.int j) M Q=(CPow i j∧Q (.int (i ^ j.toNat)) M):=rfl
theorem cm_lt_i:cmD M .lt (.int i) (.int j) B=B (decide (i<j)):=rfl
theorem cm_gt_i:cmD M .gt (.int i) (.int j) B=B (decide (j<i)):=rfl
theorem cm_ge_i:cmD M .ge (.int i) (.int j) B=B (decide (j≤i)):=rfl
theorem cm_eq{x y:D}:cmD M .eq x y B=eqD M x y B:=rfl
theorem cm_ne{x y:D}:cmD M .ne x y B=eqD M x y fun b=>B (!b):=rfl
theorem cm_in{x y:D}:cmD M .isin x y B=inQ M x y B:=rfl
theorem cm_notin{x y:D}:cmD M .notin x y B=inQ M x y fun b=>B (!b):=rfl
theorem cm_is_n:cmD M .is .non .non B=B true:=rfl
theorem cm_is_i:cmD M .is (.int i) .non B=B false:=rfl
theorem cm_is_s:cmD M .is (.str a) .non B=B false:=rfl
theorem cm_is_b:cmD M .is (.bl p) .non B=B false:=rfl
theorem cm_is_t:cmD M .is (.tup xs) .non B=B false:=rfl
theorem cm_is_r:cmD M .is (.ref n) .non B=B false:=rfl
theorem eq_i:eqD M (.int i) (.int j) B=B (decide (i=j)):=rfl
theorem eq_s:eqD M (.str a) (.str b) B=B (decide (a=b)):=rfl
theorem eq_b:eqD M (.bl p) (.bl q) B=B (decide (p=q)):=rfl
theorem eq_nn:eqD M .non .non B=B true:=rfl
theorem eq_is:eqD M (.int i) (.str b) B=B false:=rfl
theorem eq_si:eqD M (.str b) (.int i) B=B false:=rfl
theorem tru_b:truD M (.bl p) B=B p:=rfl
theorem tru_i:truD M (.int i) B=B (i !=0):=rfl
theorem tru_n:truD M .non B=B false:=rfl
theorem tru_t:truD M (.tup xs) B=B (!xs.isEmpty):=rfl
theorem ix_t:ixD M (.tup xs) (.int i) F=∃d,atI xs i=some d∧F d:=rfl
theorem ix_g:ixD M (.gtup xs) (.int i) F=∃d,atI xs i=some d∧F d:=rfl
theorem ix_s:ixD M (.str a) (.int i) F=(a.length≤sizeLine∧∃c,atI a.cps.toList i=some c∧F (.str ⟨#[c]⟩)):=rfl
theorem ix_l{k:Nat}(h:Za M n=some xs){d:D}(hd:xs[k]?=some d)(hF:F d):ixD M (.ref n) (.int k) F:= .inl ⟨xs,k,d,rfl,h,Wd hd,hF⟩
theorem X9(h:Za M n=some xs){d:D}(hd:atI xs i=some d)(hF:F d):ixD M (.ref n) (.int i) F:= .inl ⟨xs,i,d,rfl,h,hd,hF⟩
theorem sl_s{lo hi:Option Int}:slD (.str a) lo hi M Q=(a.length≤sizeLine∧Q (.str (Ic a lo hi)) M):=rfl
theorem sl_t{lo hi:Option Int}:slD (.tup xs) lo hi M Q=(¬(HT.sIx xs.length 0 lo=0∧HT.sIx xs.length xs.length hi=xs.length)∧Q (.tup (cutD xs lo hi)) M):=rfl
theorem sl_l{lo hi:Option Int}:slD (.ref n) lo hi M Q=∃xs,Za M n=some xs∧Q (.ref M.length) (M++[.lst (cutD xs lo hi)]):=rfl
noncomputable def tyNon:Ty→Bool:=fun _=>false
noncomputable def tyBl:Ty→Bool
 | .bool=>true | .int=>true | _=>false
noncomputable def tyInt:Ty→Bool
 | .int=>true | _=>false
noncomputable def tyStr:Ty→Bool
 | .str=>true | _=>false
noncomputable def tyTup:Ty→Bool
 | .tuple=>true | _=>false
noncomputable def tyLst:Ty→Bool
 | .list=>true | _=>false
noncomputable def tyDct:Ty→Bool
 | .dict=>true | _=>false
theorem N6{d:D}{t:Ty}{v:Bool}(hd:∀e C dx r,d≠ .exn e C dx r)(h1:tyD M d=some s)(h2:Ke K (.type s) (.type (Ym t))=some v):isD K M d (.ty (Ym t)) B=B v:=by
 have:isD K M d (.ty (Ym t)) B=∃t' b,tyD M d=some t'∧Ke K (.type t') (.type (Ym t))=some b∧B b:=by
  cases d<;>first | rfl | exact absurd rfl (hd _ _ _ _)
 rw[this]
 apply propext
 constructor
 ·rintro⟨t',b,e1,e2,h⟩
  rw[h1] at e1
  cases e1
  rw[h2] at e2
  cases e2
  exact h
 ·intro h;exact⟨s,v,h1,h2,h⟩
theorem is_non{t:Ty}:isD K M .non (.ty (Ym t)) B=B (tyNon t):=N6 (fun _ _ _ _ h=>nomatch h) rfl (by cases t<;>rfl)
theorem is_bl{t:Ty}:isD K M (.bl p) (.ty (Ym t)) B=B (tyBl t):=N6 (fun _ _ _ _ h=>nomatch h) rfl (by cases t<;>rfl)
theorem is_int{t:Ty}:isD K M (.int i) (.ty (Ym t)) B=B (tyInt t):=N6 (fun _ _ _ _ h=>nomatch h) rfl (by cases t<;>rfl)
theorem is_str{t:Ty}:isD K M (.str a) (.ty (Ym t)) B=B (tyStr t):=N6 (fun _ _ _ _ h=>nomatch h) rfl (by cases t<;>rfl)
theorem is_tup{t:Ty}:isD K M (.tup xs) (.ty (Ym t)) B=B (tyTup t):=N6 (fun _ _ _ _ h=>nomatch h) rfl (by cases t<;>rfl)
theorem Zv6{t:Ty}(h:Z3 M n=some xs):isD K M (.ref n) (.ty (Ym t)) B=B (tyLst t):=N6 (s:="list") (fun _ _ _ _ h=>nomatch h) (by simp only[tyD,Nz h]) (by cases t<;>rfl)
theorem Zk(h:Za M n=some xs)(hq:Q (.int xs.length) M):bfD K .len [.ref n] M Q:= .inl ⟨xs,h,hq⟩
theorem bf_len_t:bfD K .len [.tup xs] M Q=Q (.int xs.length) M:=rfl
theorem bf_len_s:bfD K .len [.str a] M Q=(a.length≤sizeLine∧Q (.int a.length) M):=rfl
theorem bf_is{d c:D}:bfD K .isinst [d,c] M Q=isD K M d c fun b=>Q (.bl b) M:=rfl
theorem bf_min:bfD K .min2 [.int i,.int j] M Q=Q (.int (if j<i then j else i)) M:=rfl
theorem bf_max:bfD K .max2 [.int i,.int j] M Q=Q (.int (if j >i then j else i)) M:=rfl
theorem bf_tuple:bfD K .tuple1 [.ref n] M Q=∃xs,Za M n=some xs∧Q (.tup xs) M:=rfl
theorem bf_int:bfD K .int1 [.bl p] M Q=Q (.int (if p then 1 else 0)) M:=rfl
theorem Ye9{x y:D}:at2 [x,y] F=F x y:=rfl
theorem on_ref:Rr (.ref n) F=F n:=rfl
theorem set_f:setD false n M Q=∃ks:List Key,Za M n=some (ks.map kD)∧ks.length+1<scanBound∧∀ks':List Key,ks'.Nodup→(∀k,k∈ks'↔k∈ks)→Q (.int ks'.length) M:=rfl
theorem bf_strS{x:Str}:bfD K .str1 [.str x] M Q=Q (.str x) M:=rfl
theorem bf_intT{x:Str}:bfD K .int1 [.str x] M Q=∃n,intText? x=some n∧x.length≤640∧Q (.int n) M:=rfl
theorem mt_split_s{x y:Str}:mtD .split (.str x) [.str y] M Q=((y.length==0)=false∧x.length+2≤sizeLine∧Q (.ref M.length) (M++[.lst ((Km x y).map .str)])):=rfl
theorem mt_join_s{x:Str}:mtD .join (.str x) [.ref n] M Q=∃ys:List Str,Za M n=some (ys.map .str)∧JoinOk x ys=true∧Q (.str (Dx x ys)) M:=rfl
theorem mt_lstrip_s{x y:Str}:mtD .lstrip (.str x) [.str y] M Q=(x.length≤sizeLine∧Q (.str (Ll x y)) M):=rfl
theorem mk_lstrip{x:Str}:mtK .lstrip (.str x) M=(true=true):=rfl
theorem op_mul_s{x:Str}:opD .mul (.str x) (.int i) M Q=(MulOk x i∧Q (.str (Me x i)) M):=rfl
theorem cm_inT{x y:D}:cmD M .inT x y B=inTD M x y B:=rfl
theorem ati3{α:Type}{x y z u:α}{l:List α}:atI (x::y::z::u::l) 3=some u:=Wd (j:=3) rfl
theorem ati4{α:Type}{x y z u v:α}{l:List α}:atI (x::y::z::u::v::l) 4=some v:=Wd (j:=4) rfl
theorem bf_len_g:bfD K .len [.gtup xs] M Q=Q (.int xs.length) M:=rfl
theorem mt_starts_s{x y:Str}:mtD .starts (.str x) [.str y] M Q=Q (.bl (Txt.startswith x y)) M:=rfl
theorem mt_ends_s{x y:Str}:mtD .ends (.str x) [.str y] M Q=Q (.bl (Txt.endswith x y)) M:=rfl
theorem mk_split{x:Str}:mtK .split (.str x) M=(true=true):=rfl
theorem mk_join{x:Str}:mtK .join (.str x) M=(true=true):=rfl
theorem mk_starts{x:Str}:mtK .starts (.str x) M=(true=true):=rfl
theorem mk_ends{x:Str}:mtK .ends (.str x) M=(true=true):=rfl
theorem it_str{x:Str}:itD M (.str x) R=R .no (J9 x):=rfl
theorem bf_str:bfD K .str1 [.int i] M Q=(i.natAbs.log2<1920∧Q (.str (toString i)) M):=rfl
theorem mt_popi_r{k:D}:mtD .popi (.ref n) [k] M Q=∃xs d,∃j:Nat,k= .int j∧Z3 M n=some xs∧xs[j]?=some d∧Q d (M.set n (.lst (xs.eraseIdx j))):=rfl
theorem mt_insi_r{k d:D}:mtD .insi (.ref n) [k,d] M Q=∃xs,∃j:Nat,k= .int j∧Z3 M n=some xs∧j≤xs.length∧xs.length<sizeLine∧Q .non (M.set n (.lst (xs.take j++d::xs.drop j))):=rfl
theorem mk_popi:mtK .popi (.ref n) M=((Za M n).isSome=true):=rfl
theorem mk_insi:mtK .insi (.ref n) M=((Za M n).isSome=true):=rfl
theorem ati0{α:Type}{x:α}{l:List α}:atI (x::l) 0=some x:=Wd (j:=0) rfl
theorem ati1{α:Type}{x y:α}{l:List α}:atI (x::y::l) 1=some y:=Wd (j:=1) rfl
theorem ati2{α:Type}{x y z:α}{l:List α}:atI (x::y::z::l) 2=some z:=Wd (j:=2) rfl
theorem ofS_inj{a b:String}:(Str.ofString a=Str.ofString b)=(a=b):=by
 apply propext
 constructor
 ·intro h
  rw[Str.ofString_eq_toList,Str.ofString_eq_toList] at h
  have h1:=congrArg (fun s:Str=>s.cps.toList) h
  simp only at h1
  have inj:∀{l m:List Char},l.map Char.toNat=m.map Char.toNat→l=m:=by
   intro l
   induction l with
   | nil=>intro m h;cases m<;>simp_all
   | cons c l ih=>
    intro m h
    cases m with
    | nil=>simp at h
    | cons e m=>
     rw[De,De,Lx] at h
     rw[ih h.2,Char.toNat_inj.mp h.1]
  exact String.toList_inj.mp (inj h1)
 ·intro h;rw[h]
theorem mt_append_r{d:D}:mtD .append (.ref n) [d] M Q=∃xs,Z3 M n=some xs∧xs.length<sizeLine∧Q .non (M.set n (.lst (xs++[d]))):=rfl
theorem mt_pop_r:mtD .pop0 (.ref n) [] M Q=∃xs d,Z3 M n=some xs∧xs[xs.length - 1]?=some d∧Q d (M.set n (.lst xs.dropLast)):=rfl
theorem mt_extend_r:mtD .extend (.ref n) [.ref m] M Q=∃xs ys,Z3 M n=some xs∧Z3 M m=some ys∧xs.length+ys.length≤sizeLine∧Q .non (M.set n (.lst (xs++ys))):=rfl
theorem mk_extend:mtK .extend (.ref n) M=((Za M n).isSome=true):=rfl
theorem aug_add{B:D→Prop}:augD .add (.int i) (.int j) B=B (.int (i+j)):=rfl
theorem aug_sub{B:D→Prop}:augD .sub (.int i) (.int j) B=B (.int (i - j)):=rfl
theorem mk_append:mtK .append (.ref n) M=((Za M n).isSome=true):=rfl
theorem mk_pop:mtK .pop0 (.ref n) M=((Za M n).isSome=true):=rfl
theorem tg_one{k:Nat}{d:D}:tgD [k] d σ F=F (σ.set k (some d)):=by cases d<;>rfl
theorem tg_two{k l:Nat}{d e:D}:tgD [k,l] (.tup [d,e]) σ F=F ((σ.set k (some d)).set l (some e)):=by
 show([d,e].length=[k,l].length∧F _)=_
 simp
theorem it_r:itD M (.ref n) R=∃xs,Za M n=some xs∧R (.lst n) xs:=rfl
theorem it_t:itD M (.tup xs) R=R .no xs:=rfl
theorem it_g:itD M (.gtup xs) R=R .no xs:=rfl
theorem key_i:keyD (.int i)=some (.inl i):=rfl
theorem key_s:keyD (.str a)=some (.inr a):=rfl
theorem in_ss:inQ M (.str a) (.str b) B=B (!(Lg b a 0 b.length 1).isEmpty):=rfl
end
theorem Zb{α:Type}{o:Option α}{x:α}(h:o=some x):o.isSome=true:=by rw[h];rfl
theorem Prg.up{K:Ad}(Pr:Prg P w K mg base c FN GN BN lv)(h:lv≤lv'):Prg P w K mg base c FN GN BN lv' where
 hK:=Pr.hK
 fns:=fun m y sp e1 e2=>by
  obtain⟨kk,f,fd,ps,ds,dvs,dD,sp0,F,hk,r⟩:=Pr.fns m y sp e1 e2
  exact⟨kk,f,fd,ps,ds,dvs,dD,sp0,F,Nat.le_trans hk h,r⟩
 flen:=Pr.flen
 glb:=Pr.glb
 blt:=Pr.blt
theorem Zw6{α:Type}{P:List α→Prop}(h:P [])(l:List α)(e:l.length=0):P l:=by
 cases l with
 | nil=>exact h
 | cons _ _=>cases e
theorem B4{α:Type}{n:Nat}{P:List α→Prop}(h:∀a l,l.length=n→P (a::l))(l:List α)(e:l.length=n+1):P l:=by
 cases l with
 | nil=>cases e
 | cons a r=>exact h a r (Nat.succ.inj e)
theorem Zy7{α:Type}{P:List α→Prop}(h:∀a,P [a]):∀l:List α,l.length=1→P l:=B4 fun a=>Zw6 (h a)
theorem Zx3{α:Type}{P:List α→Prop}(h:∀a b,P [a,b]):∀l:List α,l.length=2→P l:=B4 fun a=>Zy7 (P:=fun l=>P (a::l)) (h a)
theorem Zy4{α:Type}{P:List α→Prop}(h:∀a b c,P [a,b,c]):∀l:List α,l.length=3→P l:=B4 fun a=>Zx3 (P:=fun l=>P (a::l)) (h a)
theorem Yg8{α:Type}{P:List α→Prop}(h:∀a b c d,P [a,b,c,d]):∀l:List α,l.length=4→P l:=B4 fun a=>Zy4 (P:=fun l=>P (a::l)) (h a)
theorem all_nil{α:Type}{P:α→Prop}:∀x∈([]:List α),P x:=fun _ h=>absurd h Dc
theorem all_cons{α:Type}{P:α→Prop}{a:α}{l:List α}(h:P a)(t:∀x∈l,P x):∀x∈a::l,P x:=fun x hx=>(Ag.mp hx).elim (fun e=>e ▸ h) (t x)
end U
namespace GT
inductive Av (g:Nat→List Nat) (a:Nat):Nat→Prop
 | zero:a≠0→Av g a 0
 | step {x y:Nat}:Av g a x→y∈g x→y≠a→Av g a y
structure Num(g:Nat→List Nat)(n:Nat):Prop where
 pos:0<n
 cl:∀x,x<n→∀y∈g x,y<n
 up:∀k,k<n→k≠0→∃p,p<k∧k∈g p
structure Must(g:Nat→List Nat)(k m:Nat):Prop where
 ne:m≠k
 dom:¬Av g m k
 last:∀d,d≠k→¬Av g d k→d≤m
structure Wk(g:Nat→List Nat)(n:Nat)(B:List Nat)(T:List (Nat×Nat))(F:List Nat):Prop where
 bn:B.Nodup
 bl:∀x∈B,x<n
 z:0∈B
 mem:∀x,x∈B↔(∃s,(x,s)∈T)∨x∈F
 nd:(T.map (·.1)++F).Nodup
 first:∀p,T[0]?=some p→p.1=0
 chain:∀(i:Nat) p q,T[i]?=some p→T[i+1]?=some q→q.1∈g p.1
 steps:∀a s,(a,s)∈T→s≤(g a).length∧∀j y,j<s→(g a)[j]?=some y→y∈B
 fin:∀d∈F,∀y∈g d,y∈B
 par:∀(i:Nat) x,F[i]?=some x→x≠0→∃p,x∈g p∧p∈B∧p∉F.take (i+1)
structure Ord(g:Nat→List Nat)(n:Nat)(O:List Nat):Prop where
 nd:O.Nodup
 lt:∀x∈O,x<n
 z:O[0]?=some 0
 cl:∀x∈O,∀y∈g x,y∈O
 up:∀(k:Nat) x,O[k]?=some x→k≠0→∃(j:Nat) (p:Nat),j<k∧O[j]?=some p∧x∈g p
structure Fd(g:Nat→List Nat)(n a:Nat)(L:List Nat)(t:Nat):Prop where
 nd:L.Nodup
 z:L[0]?=some 0
 av:∀x∈L,Av g a x
 done:∀(i:Nat) x,i<t→L[i]?=some x→∀y∈g x,y=a∨y∈L
 le:t≤L.length
end GT
namespace K55
open PySem PySem.Spec PyProof.Rows L2 L3 U
abbrev Rd(K:Ad)(Γ:List DSp)(G:List D)(sp:DSp)(b:Ss)(N:List Str):Prop:=∀ds M Q Z,sp ds M Q Z→tss ⟨K,Γ,G⟩ noX b {nx:=fun _ M=>Q .non M,rt:=Q} (start0 N ds) M
noncomputable def top(i:Nat):Stmt:=PySem.Challenge.pw_unjump_k55_form_written.main.body.getD i (.Pass ⟨0,0,0,0⟩)
noncomputable def FN:List Str:="line_of"::"told_within"::"lines_of"::"is_within"::"keep_within"::"sound"::"lists_in"::"form_of"::"is_made_of"::"is_name"::"are_figures"::"read_number"::"read_below_nought"::"read_whole"::"read_operand"::"read_asked"::"read_sum"::"read_test"::"written_sum"::"written_test"::"led_by"::"read_numbered"::"read_line"::"has_place"::"read_lines"::"read_form"::"written_line"::"written_form"::"_law_raw"::"_law_mix"::"_law_kept"::"_law_sign"::"_law_word"::"_law_names"::"_law_operand"::"_law_begins"::"_law_deed"::"_law_goes"::"_law_first"::"_law_close"::"_law_step"::"_law_lines"::"_law_nested"::"_law_alike"::"_law_depth"::"_law_wrapped"::"_law_words"::"_law_due_text"::"_law_due_of"::"law"::[]
noncomputable def GN:List Str:=["ELSE","DONE","OPENERS","MOST_NUMBER","LETTERS","FIGURES","KEPT","MOST_SIGNS_OF_NAME","MOST_FIGURES_OF_NUMBER","MOST_FIGURES_OF_OPERAND","SIGNS_OF_SUMS","SIGNS_OF_TESTS","MOST_LINES","MOST_LISTS"]
noncomputable def BN:List Str:=["list","reversed","any","len","set","tuple","all","int","range","zip","isinstance","str","bool","max","min"]
noncomputable abbrev Zj7:Stmt:=top 13
noncomputable def G3:List Str:=["statement"]
noncomputable def Vj:Ss:=
 (.cons (.ret (.var 0))
 .nil)
noncomputable def Yw:Ss:=
 (.cons (.ite (.cmp .isin (.ix (.var 0) (.int 0)) (.tup (.cons (.str "round") (.cons (.str "part") .nil)))) (.cons (.ret (.slW (.var 0) .no (.yes (.int 2))))
 .nil) .nil)
 Vj)
noncomputable def G6:Ss:=
 (.cons (.ite (.cmp .eq (.ix (.var 0) (.int 0)) (.str "choice")) (.cons (.ret (.sl (.var 0) .no (.yes (.int 4))))
 .nil) .nil)
 Yw)
noncomputable abbrev Jo:Stmt:=top 14
noncomputable def Y2:List Str:=["statement","yes","no"]
noncomputable def Wi:Ss:=
 (.cons (.ret (.bin .add (.bin .add (.bin .add (.var 1) (.lst (.cons (.glb 0) .nil))) (.var 2)) (.lst (.cons (.glb 1) .nil))))
 .nil)
noncomputable def W4:Ss:=
 (.cons (.set [1,2] (.sl (.var 0) (.yes (.int 4)) .no))
 (.cons (.ite (.cmp .eq (.var 2) (.lst .nil)) (.cons (.ret (.bin .add (.var 1) (.lst (.cons (.glb 1) .nil))))
 .nil) .nil)
 Wi))
noncomputable def Yc:Ss:=
 (.cons (.ite (.cmp .ne (.ix (.var 0) (.int 0)) (.str "choice")) (.cons (.ret (.lst .nil))
 .nil) .nil)
 W4)
noncomputable def Y0:Ss:=
 (.cons (.ite (.cmp .isin (.ix (.var 0) (.int 0)) (.tup (.cons (.str "round") (.cons (.str "part") .nil)))) (.cons (.ret (.bin .add (.ix (.var 0) (.int 2)) (.lst (.cons (.glb 1) .nil))))
 .nil) .nil)
 Yc)
noncomputable abbrev Z36:Stmt:=top 12
noncomputable def Ot:List Str:=["form","told","left","statement"]
noncomputable def Rl:Ss:=
 (.cons (.ret (.var 1))
 .nil)
noncomputable def Rj:Ss:=
 (.cons (.set [3] (.mt .pop0 (.var 2) .nil))
 (.cons (.expr (.mt .append (.var 1) (.cons (.call 0 (.cons (.var 3) .nil)) .nil)))
 (.cons (.expr (.mt .extend (.var 2) (.cons (.lrev (.call 1 (.cons (.var 3) .nil))) .nil)))
 .nil)))
noncomputable def Nl:Ss:=
 (.cons (.set [1] (.lst .nil))
 (.cons (.set [2] (.lrev (.var 0)))
 (.cons (.while_ (.cmp .ne (.var 2) (.lst .nil)) Rj)
 Rl)))
noncomputable abbrev B2:Stmt:=top 11
noncomputable def Pw:List Str:=["line","opened"]
noncomputable def Xl:Ss:=
 (.cons (.ret (.bop true (.cons (.cmp .eq (.ix (.var 0) (.int 0)) (.str "leave")) (.cons (.cmp .isin (.tup (.cons (.str "part") (.cons (.ix (.var 0) (.int 1)) .nil))) (.var 1)) .nil))))
 .nil)
noncomputable def Q9:Ss:=
 (.cons (.ite (.cmp .isin (.tup (.cons (.str "round") (.cons (.ix (.var 0) (.int 1)) .nil))) (.var 1)) (.cons (.ret (.bl true))
 .nil) .nil)
 Xl)
noncomputable abbrev Js:Stmt:=top 10
noncomputable def Te:List Str:=["lines","opened","line"]
noncomputable def Wg:Ss:=
 (.cons (.ret (.bl true))
 .nil)
noncomputable def W3:Ss:=
 (.cons (.ite (.cmp .isin (.ix (.var 2) (.int 0)) (.glb 2)) (.cons (.expr (.mt .append (.var 1) (.cons (.slW (.var 2) .no (.yes (.int 2))) .nil)))
 .nil) (.cons (.ite (.cmp .eq (.var 2) (.glb 1)) (.cons (.expr (.mt .pop0 (.var 1) .nil))
 .nil) (.cons (.ite (.bop true (.cons (.cmp .isin (.ix (.var 2) (.int 0)) (.tup (.cons (.str "leave") (.cons (.str "again") .nil)))) (.cons (.not (.call 3 (.cons (.var 2) (.cons (.var 1) .nil)))) .nil))) (.cons (.ret (.bl false))
 .nil) .nil)
 .nil))
 .nil))
 .nil)
noncomputable def Vr:Ss:=
 (.cons (.set [1] (.lst .nil))
 (.cons (.for_ [2] (.seq (.var 0)) W3)
 Wg))
noncomputable abbrev Y42:Stmt:=top 9
noncomputable def Zl4:List Str:=["form","lines","numbers"]
noncomputable def Fk:Ss:=
 (.cons (.ret (.call 4 (.cons (.var 1) .nil)))
 .nil)
noncomputable def G4:Ss:=
 (.cons (.ite (.anyf (.comp ["number"] [none] [0] (.seq (.var 2)) .no (.bop false (.cons (.cmp .lt (.var 0) (.int 0)) (.cons (.cmp .gt (.var 0) (.glb 3)) .nil))))) (.cons (.ret (.bl false))
 .nil) .nil)
 Fk)
noncomputable def Zg2:Ss:=
 (.cons (.set [1] (.call 2 (.cons (.var 0) .nil)))
 (.cons (.set [2] (.comp ["line"] [none] [0] (.seq (.var 1)) (.yes (.cmp .isin (.ix (.var 0) (.int 0)) (.tup (.cons (.str "round") (.cons (.str "part") .nil))))) (.ix (.var 0) (.int 1))))
 (.cons (.ite (.cmp .lt (.setf false (.var 2)) (.bf .len (.cons (.var 2) .nil))) (.cons (.ret (.bl false))
 .nil) .nil)
 G4)))
noncomputable abbrev Z67:Stmt:=top 16
noncomputable def Oq:List Str:=["line"]
noncomputable def Rm:Ss:=
 (.cons (.ret (.lst .nil))
 .nil)
noncomputable def R0:Ss:=
 (.cons (.ite (.cmp .isin (.ix (.var 0) (.int 0)) (.tup (.cons (.str "round") (.cons (.str "part") .nil)))) (.cons (.ret (.lst (.cons (.lst .nil) .nil)))
 .nil) .nil)
 Rm)
noncomputable def Nq:Ss:=
 (.cons (.ite (.cmp .eq (.ix (.var 0) (.int 0)) (.str "choice")) (.cons (.ret (.lst (.cons (.lst .nil) (.cons (.lst .nil) .nil))))
 .nil) .nil)
 R0)
noncomputable abbrev Zc7:Stmt:=top 15
noncomputable def G2:List Str:=["lines","form","opened","line","lists"]
noncomputable def Q5:Ss:=
 (.cons (.ret (.var 1))
 .nil)
noncomputable def Qv:Ss:=
 (.cons (.ite (.cmp .eq (.var 3) (.glb 1)) (.cons (.expr (.mt .pop0 (.var 2) .nil))
 .nil) (.cons (.ite (.cmp .eq (.var 3) (.glb 0)) (.cons (.expr (.mt .popi (.ix (.var 2) (.neg (.int 1))) (.cons (.int 0) .nil)))
 .nil) (.cons (.set [4] (.call 6 (.cons (.var 3) .nil)))
 (.cons (.expr (.mt .append (.ix (.ix (.var 2) (.neg (.int 1))) (.int 0)) (.cons (.bin .add (.var 3) (.bf .tuple1 (.cons (.var 4) .nil))) .nil)))
 (.cons (.ite (.cmp .ne (.var 4) (.lst .nil)) (.cons (.expr (.mt .append (.var 2) (.cons (.var 4) .nil)))
 .nil) .nil)
 .nil))))
 .nil))
 .nil)
noncomputable def Fv:Ss:=
 (.cons (.set [1] (.lst .nil))
 (.cons (.set [2] (.lst (.cons (.lst (.cons (.var 1) .nil)) .nil)))
 (.cons (.for_ [3] (.seq (.var 0)) Qv)
 Q5)))
noncomputable abbrev Fn:Stmt:=top 32
noncomputable def R8:List Str:=["word","signs"]
noncomputable def Ri:Ss:=
 (.cons (.ret (.allf (.comp ["sign","signs"] [none,(some 1)] [0] (.seq (.var 0)) .no (.cmp .isin (.var 0) (.var 1)))))
 .nil)
noncomputable abbrev Ze2:Stmt:=top 26
noncomputable def Jz:List Str:=["word"]
noncomputable def Q7:Ss:=
 (.cons (.ret (.bop true (.cons (.cmp .isin (.ix (.var 0) (.int 0)) (.glb 4)) (.cons (.call 8 (.cons (.var 0) (.cons (.bin .add (.glb 4) (.glb 5)) .nil))) .nil))))
 .nil)
noncomputable def Qj:Ss:=
 (.cons (.ite (.cmp .isin (.var 0) (.glb 6)) (.cons (.ret (.bl false))
 .nil) .nil)
 Q7)
noncomputable def Fq:Ss:=
 (.cons (.ite (.bop false (.cons (.cmp .eq (.var 0) (.str "")) (.cons (.cmp .gt (.bf .len (.cons (.var 0) .nil)) (.glb 7)) .nil))) (.cons (.ret (.bl false))
 .nil) .nil)
 Qj)
noncomputable abbrev Nw:Stmt:=top 31
noncomputable def Tb:List Str:=["word","most"]
noncomputable def Yy:Ss:=
 (.cons (.ret (.call 8 (.cons (.var 0) (.cons (.glb 5) .nil))))
 .nil)
noncomputable def W6:Ss:=
 (.cons (.ite (.bop true (.cons (.cmp .eq (.ix (.var 0) (.int 0)) (.str "0")) (.cons (.cmp .gt (.bf .len (.cons (.var 0) .nil)) (.int 1)) .nil))) (.cons (.ret (.bl false))
 .nil) .nil)
 Yy)
noncomputable def Vt:Ss:=
 (.cons (.ite (.bop false (.cons (.cmp .eq (.var 0) (.str "")) (.cons (.cmp .gt (.bf .len (.cons (.var 0) .nil)) (.var 1)) .nil))) (.cons (.ret (.bl false))
 .nil) .nil)
 W6)
noncomputable abbrev Nv:Stmt:=top 27
noncomputable def To:List Str:=["word"]
noncomputable def Pe:Ss:=
 (.cons (.ret .non)
 .nil)
noncomputable def Tj:Ss:=
 (.cons (.ite (.call 10 (.cons (.var 0) (.cons (.glb 8) .nil))) (.cons (.ret (.bf .int1 (.cons (.var 0) .nil)))
 .nil) .nil)
 Pe)
noncomputable abbrev Vl:Stmt:=top 30
noncomputable def Yu:List Str:=["figures"]
noncomputable def Wa:Ss:=
 (.cons (.ret .non)
 .nil)
noncomputable def Yv:Ss:=
 (.cons (.ite (.call 10 (.cons (.var 0) (.cons (.glb 9) .nil))) (.cons (.ret (.neg (.bf .int1 (.cons (.var 0) .nil))))
 .nil) .nil)
 Wa)
noncomputable abbrev Gn:Stmt:=top 29
noncomputable def Re:List Str:=["word"]
noncomputable def Pz:Ss:=
 (.cons (.ret .non)
 .nil)
noncomputable def V7:Ss:=
 (.cons (.ite (.call 10 (.cons (.var 0) (.cons (.glb 9) .nil))) (.cons (.ret (.bf .int1 (.cons (.var 0) .nil)))
 .nil) .nil)
 Pz)
noncomputable def X8:Ss:=
 (.cons (.ite (.mt .starts (.var 0) (.cons (.str "-") .nil)) (.cons (.ret (.call 12 (.cons (.sl (.var 0) (.yes (.int 1)) .no) .nil)))
 .nil) .nil)
 V7)
noncomputable def Rq:Ss:=
 (.cons (.ite (.cmp .eq (.var 0) (.str "-0")) (.cons (.ret .non)
 .nil) .nil)
 X8)
noncomputable abbrev O1:Stmt:=top 28
noncomputable def Vd:List Str:=["word"]
noncomputable def Xu:Ss:=
 (.cons (.ret (.call 13 (.cons (.var 0) .nil)))
 .nil)
noncomputable def Vg:Ss:=
 (.cons (.ite (.call 9 (.cons (.var 0) .nil)) (.cons (.ret (.var 0))
 .nil) .nil)
 Xu)
noncomputable abbrev Gc:Stmt:=top 35
noncomputable def Sz:List Str:=["words","signs","one","other"]
noncomputable def V9:Ss:=
 (.cons (.ret (.tup (.cons (.var 2) (.cons (.ix (.var 0) (.int 1)) (.cons (.var 3) .nil)))))
 .nil)
noncomputable def Rp:Ss:=
 (.cons (.set [2] (.call 14 (.cons (.ix (.var 0) (.int 0)) .nil)))
 (.cons (.set [3] (.call 14 (.cons (.ix (.var 0) (.int 2)) .nil)))
 (.cons (.ite (.bop false (.cons (.cmp .is (.var 2) .non) (.cons (.cmp .is (.var 3) .non) (.cons (.cmp .notin (.ix (.var 0) (.int 1)) (.var 1)) .nil)))) (.cons (.ret .non)
 .nil) .nil)
 V9)))
noncomputable abbrev Z77:Stmt:=top 33
noncomputable def Oo:List Str:=["words","asked"]
noncomputable def R6:Ss:=
 (.cons (.ret (.bin .add (.tup (.cons (.ix (.var 0) (.int 0)) .nil)) (.var 1)))
 .nil)
noncomputable def R7:Ss:=
 (.cons (.set [1] (.call 15 (.cons (.sl (.var 0) (.yes (.int 2)) .no) (.cons (.glb 10) .nil))))
 (.cons (.ite (.cmp .is (.var 1) .non) (.cons (.ret .non)
 .nil) .nil)
 R6))
noncomputable def Nc:Ss:=
 (.cons (.ite (.bop false (.cons (.cmp .ne (.bf .len (.cons (.var 0) .nil)) (.int 5)) (.cons (.cmp .ne (.ix (.var 0) (.int 1)) (.str "=")) (.cons (.not (.call 9 (.cons (.ix (.var 0) (.int 0)) .nil))) .nil)))) (.cons (.ret .non)
 .nil) .nil)
 R7)
noncomputable abbrev B1:Stmt:=top 34
noncomputable def Po:List Str:=["words"]
noncomputable def S3:Ss:=
 (.cons (.ret (.call 15 (.cons (.var 0) (.cons (.glb 11) .nil))))
 .nil)
noncomputable def Py:Ss:=
 (.cons (.ite (.cmp .ne (.bf .len (.cons (.var 0) .nil)) (.int 3)) (.cons (.ret .non)
 .nil) .nil)
 S3)
noncomputable abbrev J1:Stmt:=top 36
noncomputable def Vq:List Str:=["name","one","sign","other"]
noncomputable def Vu:Ss:=
 (.cons (.ret (.fstr (.cons (.var 0) (.cons (.str " = ") (.cons (.var 1) (.cons (.str " ") (.cons (.var 2) (.cons (.str " ") (.cons (.var 3) .nil)))))))))
 .nil)
noncomputable abbrev O2:Stmt:=top 37
noncomputable def Vb:List Str:=["one","sign","other"]
noncomputable def V6:Ss:=
 (.cons (.ret (.fstr (.cons (.str "if ") (.cons (.var 0) (.cons (.str " ") (.cons (.var 1) (.cons (.str " ") (.cons (.var 2) .nil))))))))
 .nil)
noncomputable abbrev Zo1:Stmt:=top 46
noncomputable def Bw:List Str:=["kind","asked"]
noncomputable def Nn:Ss:=
 (.cons (.ret (.bin .add (.tup (.cons (.var 0) .nil)) (.var 1)))
 .nil)
noncomputable def Z19:Ss:=
 (.cons (.ite (.cmp .is (.var 1) .non) (.cons (.ret .non)
 .nil) .nil)
 Nn)
noncomputable abbrev Ps:Stmt:=top 45
noncomputable def Xy:List Str:=["words","number"]
noncomputable def Xc:Ss:=
 (.cons (.ret (.tup (.cons (.ix (.var 0) (.int 0)) (.cons (.var 1) .nil))))
 .nil)
noncomputable def Xg:Ss:=
 (.cons (.set [1] (.call 11 (.cons (.ix (.var 0) (.int 1)) .nil)))
 (.cons (.ite (.cmp .is (.var 1) .non) (.cons (.ret .non)
 .nil) .nil)
 Xc))
noncomputable def W2:Ss:=
 (.cons (.ite (.cmp .ne (.bf .len (.cons (.var 0) .nil)) (.int 2)) (.cons (.ret .non)
 .nil) .nil)
 Xg)
noncomputable abbrev C1:Stmt:=top 44
noncomputable def Qw:List Str:=["words"]
noncomputable def Tk:Ss:=
 (.cons (.ret (.call 20 (.cons (.str "sum") (.cons (.call 16 (.cons (.var 0) .nil)) .nil))))
 .nil)
noncomputable def Yq:Ss:=
 (.cons (.ite (.cmp .eq (.ix (.var 0) (.int 0)) (.str "if")) (.cons (.ret (.call 20 (.cons (.str "choice") (.cons (.call 17 (.cons (.sl (.var 0) (.yes (.int 1)) .no) .nil)) .nil))))
 .nil) .nil)
 Tk)
noncomputable def Yg:Ss:=
 (.cons (.ite (.cmp .isin (.ix (.var 0) (.int 0)) (.tup (.cons (.str "round") (.cons (.str "part") (.cons (.str "leave") (.cons (.str "again") .nil)))))) (.cons (.ret (.call 21 (.cons (.var 0) .nil)))
 .nil) .nil)
 Yq)
noncomputable def Qb:Ss:=
 (.cons (.ite (.cmp .inT (.var 0) (.tup (.cons (.lst (.cons (.str "end") .nil)) (.cons (.lst (.cons (.str "else") .nil)) (.cons (.lst (.cons (.str "done") .nil)) .nil))))) (.cons (.ret (.tup (.cons (.ix (.var 0) (.int 0)) .nil)))
 .nil) .nil)
 Yg)
noncomputable abbrev Cj:Stmt:=top 43
noncomputable def Pp:List Str:=["line","opened"]
noncomputable def Ti:Ss:=
 (.cons (.ret (.bl true))
 .nil)
noncomputable def Ys:Ss:=
 (.cons (.ite (.cmp .eq (.var 0) (.glb 1)) (.cons (.ret (.cmp .gt (.bf .len (.cons (.var 1) .nil)) (.int 1)))
 .nil) .nil)
 Ti)
noncomputable def Qo:Ss:=
 (.cons (.ite (.cmp .eq (.var 0) (.glb 0)) (.cons (.ret (.cmp .eq (.ix (.var 1) (.neg (.int 1))) (.str "choice")))
 .nil) .nil)
 Ys)
noncomputable abbrev Gm:Stmt:=top 42
noncomputable def Rb:List Str:=["texts","lines","opened","text","line"]
noncomputable def Ve:Ss:=
 (.cons (.ret (.var 1))
 .nil)
noncomputable def V5:Ss:=
 (.cons (.ite (.cmp .gt (.bf .len (.cons (.var 2) .nil)) (.int 1)) (.cons .never
 .nil) .nil)
 Ve)
noncomputable def Y4:Ss:=
 (.cons (.ite (.bop false (.cons (.cmp .eq (.var 4) (.glb 0)) (.cons (.cmp .isin (.ix (.var 4) (.int 0)) (.glb 2)) .nil))) (.cons (.expr (.mt .append (.var 2) (.cons (.ix (.var 4) (.int 0)) .nil)))
 .nil) .nil)
 .nil)
noncomputable def X6:Ss:=
 (.cons (.expr (.mt .append (.var 1) (.cons (.var 4) .nil)))
 (.cons (.ite (.cmp .inT (.var 4) (.tup (.cons (.glb 0) (.cons (.glb 1) .nil)))) (.cons (.expr (.mt .pop0 (.var 2) .nil))
 .nil) .nil)
 Y4))
noncomputable def V8:Ss:=
 (.cons (.ite (.bop true (.cons (.cmp .isin (.ix (.var 4) (.int 0)) (.glb 2)) (.cons (.cmp .eq (.bf .len (.cons (.var 2) .nil)) (.glb 13)) .nil))) (.cons .never
 .nil) .nil)
 X6)
noncomputable def Vf:Ss:=
 (.cons (.set [4] (.call 22 (.cons (.mt .split (.var 3) (.cons (.str " ") .nil)) .nil)))
 (.cons (.ite (.bop false (.cons (.cmp .is (.var 4) .non) (.cons (.not (.call 23 (.cons (.var 4) (.cons (.var 2) .nil)))) .nil))) (.cons .never
 .nil) .nil)
 V8))
noncomputable def Ra:Ss:=
 (.cons (.set [1] (.lst .nil))
 (.cons (.set [2] (.lst (.cons (.str "form") .nil)))
 (.cons (.for_ [3] (.seq (.var 0)) Vf)
 V5)))
noncomputable abbrev Ec:Stmt:=top 41
noncomputable def Qk:List Str:=["text","texts","form"]
noncomputable def S5:Ss:=
 (.cons (.ret (.var 2))
 .nil)
noncomputable def Tz:Ss:=
 (.cons (.set [2] (.call 7 (.cons (.call 24 (.cons (.var 1) .nil)) .nil)))
 (.cons (.ite (.not (.call 5 (.cons (.var 2) .nil))) (.cons .never
 .nil) .nil)
 S5))
noncomputable def Px:Ss:=
 (.cons (.set [1] (.comp ["line"] [none] [0] (.seq (.mt .split (.var 0) (.cons (.str "\n") .nil))) .no (.mt .lstrip (.var 0) (.cons (.str " ") .nil))))
 (.cons (.set [1] (.comp ["line"] [none] [0] (.seq (.var 1)) (.yes (.cmp .ne (.var 0) (.str ""))) (.var 0)))
 (.cons (.ite (.cmp .gt (.bf .len (.cons (.var 1) .nil)) (.glb 12)) (.cons .never
 .nil) .nil)
 Tz)))
noncomputable abbrev O6:Stmt:=top 48
noncomputable def Zv:List Str:=["line","kind","number"]
noncomputable def Xw:Ss:=
 (.cons (.set [1,2] (.var 0))
 (.cons (.ret (.fstr (.cons (.var 1) (.cons (.str " ") (.cons (.var 2) .nil)))))
 .nil))
noncomputable def Yp:Ss:=
 (.cons (.ite (.cmp .eq (.bf .len (.cons (.var 0) .nil)) (.int 1)) (.cons (.ret (.ix (.var 0) (.int 0)))
 .nil) .nil)
 Xw)
noncomputable def Y7:Ss:=
 (.cons (.ite (.cmp .eq (.ix (.var 0) (.int 0)) (.str "choice")) (.cons (.ret (.call 19 (.cons (.ix (.var 0) (.int 1)) (.cons (.ix (.var 0) (.int 2)) (.cons (.ix (.var 0) (.int 3)) .nil)))))
 .nil) .nil)
 Yp)
noncomputable def Zw:Ss:=
 (.cons (.ite (.cmp .eq (.ix (.var 0) (.int 0)) (.str "sum")) (.cons (.ret (.call 18 (.cons (.ix (.var 0) (.int 1)) (.cons (.ix (.var 0) (.int 2)) (.cons (.ix (.var 0) (.int 3)) (.cons (.ix (.var 0) (.int 4)) .nil))))))
 .nil) .nil)
 Y7)
noncomputable abbrev O9:Stmt:=top 47
noncomputable def V3:List Str:=["form","texts","depth","line"]
noncomputable def Xv:Ss:=
 (.cons (.ret (.mt .join (.str "\n") (.cons (.var 1) .nil)))
 .nil)
noncomputable def Yn:Ss:=
 (.cons (.expr (.mt .append (.var 1) (.cons (.bin .add (.bin .mul (.str "  ") (.var 2)) (.call 26 (.cons (.var 3) .nil))) .nil)))
 (.cons (.ite (.bop false (.cons (.cmp .eq (.var 3) (.glb 0)) (.cons (.cmp .isin (.ix (.var 3) (.int 0)) (.glb 2)) .nil))) (.cons (.aug .add 2 (.int 1))
 .nil) .nil)
 .nil))
noncomputable def Xs:Ss:=
 (.cons (.ite (.cmp .inT (.var 3) (.tup (.cons (.glb 0) (.cons (.glb 1) .nil)))) (.cons (.aug .sub 2 (.int 1))
 .nil) .nil)
 Yn)
noncomputable def V4:Ss:=
 (.cons (.set [1] (.lst .nil))
 (.cons (.set [2] (.int 0))
 (.cons (.for_ [3] (.seq (.call 2 (.cons (.var 0) .nil))) Xs)
 Xv)))
noncomputable abbrev Yg5:Stmt:=top 50
noncomputable def Zw2:List Str:=["_law_script","_law_k"]
noncomputable def Br:Ss:=
 (.cons (.ret (.ix (.var 0) (.bin .mod (.var 1) (.bf .len (.cons (.var 0) .nil)))))
 .nil)
noncomputable def Zv4:Ss:=
 (.cons (.ite (.cmp .eq (.bf .len (.cons (.var 0) .nil)) (.int 0)) (.cons (.ret (.var 1))
 .nil) .nil)
 Br)
noncomputable abbrev Yh3:Stmt:=top 51
noncomputable def Zy6:List Str:=["_law_script","_law_k","_law_turn"]
noncomputable def Bm:Ss:=
 (.cons (.set [2] (.bin .fdiv (.var 1) (.bf .len (.cons (.var 0) .nil))))
 (.cons (.ret (.bin .mod (.bin .mul (.bin .add (.bin .mod (.call 28 (.cons (.var 0) (.cons (.var 1) .nil))) (.int 2147483629)) (.int 2)) (.bin .add (.int 48271) (.bin .mul (.bin .mul (.int 7) (.var 2)) (.var 2)))) (.int 2147483647)))
 .nil))
noncomputable def Zx5:Ss:=
 (.cons (.ite (.cmp .eq (.bf .len (.cons (.var 0) .nil)) (.int 0)) (.cons (.ret (.bin .mod (.bin .mul (.bin .add (.bin .mul (.var 1) (.var 1)) (.int 3)) (.int 48271)) (.int 2147483647)))
 .nil) .nil)
 Bm)
noncomputable abbrev Y53:Stmt:=top 52
noncomputable def Zj2:List Str:=[]
noncomputable def Zj9:Ss:=
 (.cons (.ret (.lst (.cons (.str "if") (.cons (.str "jump") (.cons (.str "end") (.cons (.str "rest") (.cons (.str "round") (.cons (.str "part") (.cons (.str "leave") (.cons (.str "again") (.cons (.str "else") (.cons (.str "done") .nil))))))))))))
 .nil)
noncomputable abbrev Y80:Stmt:=top 53
noncomputable def Zd5:List Str:=["_law_number","_law_first_here"]
noncomputable def Fl:Ss:=
 (.cons (.ret (.ix (.str "abcdefghijklmnopqrstuvwxyz0123456789") (.bin .mod (.var 0) (.int 36))))
 .nil)
noncomputable def Za4:Ss:=
 (.cons (.ite (.var 1) (.cons (.ret (.ix (.str "abcdefghijklmnopqrstuvwxyz") (.bin .mod (.var 0) (.int 26))))
 .nil) .nil)
 Fl)
noncomputable abbrev Y34:Stmt:=top 54
noncomputable def Ze8:List Str:=["_law_number","_law_size","_law_word_here","_law_k"]
noncomputable def Fx:Ss:=
 (.cons (.ret (.var 2))
 .nil)
noncomputable def Fh:Ss:=
 (.cons (.set [0] (.bin .mod (.bin .mul (.bin .add (.var 0) (.int 2)) (.int 69621)) (.int 2147483629)))
 (.cons (.set [2] (.bin .add (.var 2) (.call 31 (.cons (.bin .fdiv (.var 0) (.int 64)) (.cons (.cmp .eq (.var 3) (.int 0)) .nil)))))
 .nil))
noncomputable def Zb6:Ss:=
 (.cons (.set [2] (.str ""))
 (.cons (.for_ [3] (.rng1 (.var 1)) Fh)
 Fx))
noncomputable abbrev Zo7:Stmt:=top 55
noncomputable def Z17:List Str:=["_law_script","_law_first_here","_law_stem","_law_at","_law_names_here","_law_k","_law_number","_law_word_here"]
noncomputable def N0:Ss:=
 (.cons (.ret (.var 4))
 .nil)
noncomputable def So:Ss:=
 (.cons (.expr (.mt .append (.var 4) (.cons (.var 7) .nil)))
 .nil)
noncomputable def Sd:Ss:=
 (.cons (.ite (.cmp .isin (.var 7) (.call 30 .nil)) (.cons (.set [7] (.bin .add (.str "q") (.sl (.var 7) (.yes (.int 1)) .no)))
 .nil) .nil)
 So)
noncomputable def Sm:Ss:=
 (.cons (.ite (.bop true (.cons (.cmp .eq (.var 5) (.int 4)) (.cons (.cmp .eq (.bin .mod (.var 6) (.int 4)) (.int 1)) .nil))) (.cons (.set [7] (.bin .add (.ix (.call 30 .nil) (.bin .mod (.bin .fdiv (.var 6) (.int 4)) (.int 10))) (.call 31 (.cons (.bin .fdiv (.var 6) (.int 64)) (.cons (.bl false) .nil)))))
 .nil) .nil)
 Sd)
noncomputable def Og:Ss:=
 (.cons (.set [6] (.call 29 (.cons (.var 0) (.cons (.bin .add (.int 902) (.var 5)) .nil))))
 (.cons (.set [7] (.bin .add (.bin .add (.sl (.var 2) .no (.yes (.var 3))) (.call 31 (.cons (.bin .add (.bin .fdiv (.var 1) (.int 512)) (.bin .mul (.int 7) (.var 5))) (.cons (.cmp .eq (.var 3) (.int 0)) .nil)))) (.sl (.var 2) (.yes (.bin .add (.var 3) (.int 1))) .no)))
 (.cons (.ite (.cmp .eq (.bin .mod (.var 1) (.int 2)) (.int 0)) (.cons (.set [7] (.call 32 (.cons (.var 6) (.cons (.bin .add (.int 1) (.bin .mod (.bin .fdiv (.var 6) (.int 8)) (.int 8))) .nil))))
 .nil) .nil)
 Sm)))
noncomputable def Bd:Ss:=
 (.cons (.set [1] (.call 29 (.cons (.var 0) (.cons (.int 901) .nil))))
 (.cons (.set [2] (.call 32 (.cons (.var 1) (.cons (.bin .add (.int 1) (.bin .mod (.bin .fdiv (.var 1) (.int 8)) (.int 8))) .nil))))
 (.cons (.set [3] (.bin .mod (.bin .fdiv (.var 1) (.int 64)) (.bf .len (.cons (.var 2) .nil))))
 (.cons (.set [4] (.lst .nil))
 (.cons (.for_ [5] (.rng1 (.int 5)) Og)
 N0)))))
noncomputable abbrev Z35:Stmt:=top 56
noncomputable def N4:List Str:=["_law_script","_law_k","_law_names_here","_law_number","_law_big"]
noncomputable def Rn:Ss:=
 (.cons (.ret (.var 4))
 .nil)
noncomputable def We:Ss:=
 (.cons (.ite (.cmp .eq (.bin .mod (.bin .fdiv (.var 3) (.int 12)) (.int 2)) (.int 0)) (.cons (.ret (.bin .sub (.int 0) (.var 4)))
 .nil) .nil)
 Rn)
noncomputable def Rh:Ss:=
 (.cons (.set [4] (.bin .mod (.bin .mul (.bin .mod (.call 28 (.cons (.var 0) (.cons (.var 1) .nil))) (.bin .pow (.int 10) (.int 18))) (.bin .add (.int 1) (.bin .mod (.bin .fdiv (.var 3) (.int 24)) (.int 1000)))) (.bin .pow (.int 10) (.int 18))))
 (.cons (.ite (.cmp .eq (.bin .mod (.bin .fdiv (.var 3) (.int 3)) (.int 4)) (.int 0)) (.cons (.set [4] (.bin .sub (.bin .sub (.bin .pow (.int 10) (.int 18)) (.int 1)) (.bin .mod (.bin .fdiv (.var 3) (.int 24)) (.int 3))))
 .nil) .nil)
 We))
noncomputable def Rf:Ss:=
 (.cons (.ite (.cmp .eq (.bin .mod (.var 3) (.int 3)) (.int 1)) (.cons (.ret (.bin .sub (.bin .mod (.bin .fdiv (.var 3) (.int 3)) (.int 41)) (.int 20)))
 .nil) .nil)
 Rh)
noncomputable def Oh:Ss:=
 (.cons (.ite (.cmp .eq (.bin .mod (.var 3) (.int 3)) (.int 0)) (.cons (.ret (.ix (.var 2) (.bin .mod (.bin .fdiv (.var 3) (.int 3)) (.int 5))))
 .nil) .nil)
 Rf)
noncomputable abbrev Z91:Stmt:=top 57
noncomputable def Gu:List Str:=["_law_line"]
noncomputable def Fc:Ss:=
 (.cons (.ret (.bop false (.cons (.cmp .eq (.ix (.var 0) (.int 0)) (.str "if")) (.cons (.cmp .eq (.ix (.var 0) (.int 0)) (.str "round")) (.cons (.cmp .eq (.ix (.var 0) (.int 0)) (.str "part")) .nil)))))
 .nil)
noncomputable abbrev Y30:Stmt:=top 58
noncomputable def Z97:List Str:=["_law_script","_law_k","_law_names_here","_law_number","_law_one","_law_other","_law_sign_here","_law_goes_here"]
noncomputable def Ga:Ss:=
 (.cons (.set [6] (.ix (.lst (.cons (.str "+") (.cons (.str "-") (.cons (.str "/") (.cons (.str "rest") (.cons (.str "&") (.cons (.str "^") .nil))))))) (.bin .mod (.bin .fdiv (.var 3) (.int 24)) (.int 6))))
 (.cons (.set [7] (.ix (.var 2) (.bin .mod (.bin .fdiv (.var 3) (.int 144)) (.int 5))))
 (.cons (.ret (.tup (.cons (.str "sum") (.cons (.var 7) (.cons (.var 4) (.cons (.var 6) (.cons (.var 5) .nil)))))))
 .nil)))
noncomputable def Zc4:Ss:=
 (.cons (.set [4] (.call 34 (.cons (.var 0) (.cons (.var 1) (.cons (.var 2) (.cons (.bin .fdiv (.bin .mod (.bin .mul (.var 3) (.int 16807)) (.int 2147483563)) (.int 8)) .nil))))))
 (.cons (.set [5] (.call 34 (.cons (.var 0) (.cons (.bin .add (.var 1) (.int 1)) (.cons (.var 2) (.cons (.bin .fdiv (.bin .mod (.bin .mul (.var 3) (.int 39373)) (.int 2147483543)) (.int 8)) .nil))))))
 (.cons (.ite (.cmp .lt (.bin .mod (.var 3) (.int 24)) (.int 4)) (.cons (.set [6] (.ix (.lst (.cons (.str "<") (.cons (.str "=") .nil))) (.bin .mod (.bin .fdiv (.var 3) (.int 24)) (.int 2))))
 (.cons (.ret (.tup (.cons (.str "if") (.cons (.var 4) (.cons (.var 6) (.cons (.var 5) .nil))))))
 .nil)) .nil)
 Ga)))
noncomputable abbrev Y04:Stmt:=top 59
noncomputable def Zg7:List Str:=["_law_stack","_law_number","_law_homes","_law_rounds"]
noncomputable def Ff:Ss:=
 (.cons (.ret (.tup (.cons (.str "leave") (.cons (.ix (.var 2) (.bin .mod (.bin .fdiv (.var 1) (.int 24)) (.bf .len (.cons (.var 2) .nil)))) .nil))))
 .nil)
noncomputable def Qq:Ss:=
 (.cons (.ite (.cmp .eq (.var 2) (.lst .nil)) (.cons (.ret .non)
 .nil) .nil)
 Ff)
noncomputable def Zk2:Ss:=
 (.cons (.set [2] (.comp ["_law_one"] [none] [0] (.seq (.var 0)) (.yes (.cmp .ge (.ix (.var 0) (.int 1)) (.int 0))) (.ix (.var 0) (.int 1))))
 (.cons (.set [3] (.comp ["_law_one"] [none] [0] (.seq (.var 0)) (.yes (.cmp .eq (.ix (.var 0) (.int 0)) (.str "round"))) (.ix (.var 0) (.int 1))))
 (.cons (.ite (.bop true (.cons (.cmp .eq (.bin .mod (.var 1) (.int 24)) (.int 16)) (.cons (.cmp .ne (.var 3) (.lst .nil)) .nil))) (.cons (.ret (.tup (.cons (.str "again") (.cons (.ix (.var 3) (.bin .mod (.bin .fdiv (.var 1) (.int 24)) (.bf .len (.cons (.var 3) .nil)))) .nil))))
 .nil) .nil)
 Qq)))
noncomputable abbrev Zq1:Stmt:=top 60
noncomputable def Z02:List Str:=["_law_script","_law_number"]
noncomputable def Z25:Ss:=
 (.cons (.set [1] (.call 29 (.cons (.var 0) (.cons (.int 911) .nil))))
 (.cons (.ret (.ix (.lst (.cons (.bin .mod (.bin .fdiv (.var 1) (.int 8)) (.int 10000)) (.cons (.int 0) (.cons (.int 9999) .nil)))) (.bin .mod (.var 1) (.int 3))))
 .nil))
noncomputable abbrev Zu1:Stmt:=top 61
noncomputable def Z13:List Str:=["_law_stack","_law_number","_law_top"]
noncomputable def Sl:Ss:=
 (.cons (.ret (.tup (.cons (.str "done") .nil)))
 .nil)
noncomputable def Bx:Ss:=
 (.cons (.set [2] (.mt .pop0 (.var 0) .nil))
 (.cons (.ite (.bop true (.cons (.cmp .eq (.ix (.var 2) (.int 0)) (.str "if")) (.cons (.cmp .gt (.bin .mod (.bin .fdiv (.var 1) (.int 24)) (.int 3)) (.int 0)) .nil))) (.cons (.expr (.mt .append (.var 0) (.cons (.tup (.cons (.str "else") (.cons (.neg (.int 1)) .nil))) .nil)))
 (.cons (.ret (.tup (.cons (.str "else") .nil)))
 .nil)) .nil)
 Sl))
noncomputable abbrev Y26:Stmt:=top 62
noncomputable def Zh3:List Str:=["_law_script","_law_k","_law_names_here","_law_stack","_law_number","_law_way","_law_line"]
noncomputable def Wn:Ss:=
 (.cons (.ret (.var 6))
 .nil)
noncomputable def Qt:Ss:=
 (.cons (.ite (.call 35 (.cons (.var 6) .nil)) (.cons (.expr (.mt .append (.var 3) (.cons (.tup (.cons (.ix (.var 6) (.int 0)) (.cons (.ix (.lst (.cons (.ix (.var 6) (.int 1)) (.cons (.neg (.int 1)) .nil))) (.bf .int1 (.cons (.cmp .eq (.ix (.var 6) (.int 0)) (.str "if")) .nil))) .nil))) .nil)))
 .nil) .nil)
 Wn)
noncomputable def Tf:Ss:=
 (.cons (.ite (.cmp .is (.var 6) .non) (.cons (.set [6] (.call 36 (.cons (.var 0) (.cons (.var 1) (.cons (.var 2) (.cons (.bin .add (.bin .mul (.bin .fdiv (.var 4) (.int 24)) (.int 24)) (.int 18)) .nil))))))
 .nil) .nil)
 Qt)
noncomputable def Wh:Ss:=
 (.cons (.ite (.bop true (.cons (.cmp .eq (.var 5) (.int 17)) (.cons (.cmp .ne (.var 3) (.lst .nil)) (.cons (.cmp .isin (.ix (.ix (.var 3) (.neg (.int 1))) (.int 0)) (.lst (.cons (.str "if") (.cons (.str "else") .nil)))) .nil)))) (.cons (.set [6] (.tup (.cons (.str "end") .nil)))
 .nil) .nil)
 Tf)
noncomputable def Wl:Ss:=
 (.cons (.ite (.bop true (.cons (.cmp .gt (.var 5) (.int 13)) (.cons (.cmp .lt (.var 5) (.int 17)) .nil))) (.cons (.set [6] (.call 37 (.cons (.var 3) (.cons (.var 4) .nil))))
 .nil) .nil)
 Wh)
noncomputable def W1:Ss:=
 (.cons (.ite (.bop true (.cons (.cmp .gt (.var 5) (.int 8)) (.cons (.cmp .lt (.var 5) (.int 14)) (.cons (.cmp .ne (.var 3) (.lst .nil)) .nil)))) (.cons (.ret (.call 39 (.cons (.var 3) (.cons (.var 4) .nil))))
 .nil) .nil)
 Wl)
noncomputable def Ta:Ss:=
 (.cons (.ite (.bop true (.cons (.cmp .gt (.var 5) (.int 3)) (.cons (.cmp .lt (.var 5) (.int 9)) (.cons (.cmp .lt (.bf .len (.cons (.var 3) .nil)) (.int 60)) .nil)))) (.cons (.set [6] (.tup (.cons (.ix (.lst (.cons (.str "round") (.cons (.str "part") .nil))) (.bf .int1 (.cons (.cmp .gt (.var 5) (.int 6)) .nil))) (.cons (.bin .mod (.bin .add (.call 38 (.cons (.var 0) .nil)) (.bin .mul (.int 97) (.var 1))) (.int 10000)) .nil))))
 .nil) .nil)
 W1)
noncomputable def Zd7:Ss:=
 (.cons (.set [4] (.call 29 (.cons (.var 0) (.cons (.var 1) .nil))))
 (.cons (.set [5] (.bin .mod (.var 4) (.int 24)))
 (.cons (.set [6] .non)
 (.cons (.ite (.bop true (.cons (.cmp .lt (.var 5) (.int 4)) (.cons (.cmp .lt (.bf .len (.cons (.var 3) .nil)) (.int 60)) .nil))) (.cons (.set [6] (.call 36 (.cons (.var 0) (.cons (.var 1) (.cons (.var 2) (.cons (.var 4) .nil))))))
 .nil) .nil)
 Ta))))
noncomputable abbrev Zn5:Stmt:=top 63
noncomputable def Z09:List Str:=["_law_script","_law_many","_law_names_here","_law_lines_here","_law_stack","_law_k"]
noncomputable def Nf:Ss:=
 (.cons (.ret (.var 3))
 .nil)
noncomputable def Ow:Ss:=
 (.cons (.expr (.mt .pop0 (.var 4) .nil))
 (.cons (.expr (.mt .append (.var 3) (.cons (.tup (.cons (.str "done") .nil)) .nil)))
 .nil))
noncomputable def Ov:Ss:=
 (.cons (.while_ (.cmp .ne (.var 4) (.lst .nil)) Ow)
 Nf)
noncomputable def Oj:Ss:=
 (.cons (.expr (.mt .append (.var 3) (.cons (.call 40 (.cons (.var 0) (.cons (.var 5) (.cons (.var 2) (.cons (.var 4) .nil))))) .nil)))
 .nil)
noncomputable def B7:Ss:=
 (.cons (.set [2] (.call 33 (.cons (.var 0) .nil)))
 (.cons (.set [3] (.lst .nil))
 (.cons (.set [4] (.lst .nil))
 (.cons (.for_ [5] (.rng1 (.var 1)) Oj)
 Ov))))
noncomputable abbrev Zl7:Stmt:=top 64
noncomputable def G8:List Str:=["_law_lines_here","_law_opened","_law_line","_law_head","_law_yes","_law_now"]
noncomputable def Pq:Ss:=
 (.cons (.ret (.ix (.ix (.var 1) (.int 0)) (.int 2)))
 .nil)
noncomputable def Qr:Ss:=
 (.cons (.ite (.call 35 (.cons (.var 2) .nil)) (.cons (.expr (.mt .append (.var 1) (.cons (.lst (.cons (.var 2) (.cons .non (.cons (.lst .nil) .nil)))) .nil)))
 .nil) (.cons (.ite (.cmp .eq (.ix (.var 2) (.int 0)) (.str "else")) (.cons (.put (.ix (.var 1) (.neg (.int 1))) (.int 1) (.ix (.ix (.var 1) (.neg (.int 1))) (.int 2)))
 (.cons (.put (.ix (.var 1) (.neg (.int 1))) (.int 2) (.lst .nil))
 .nil)) (.cons (.ite (.cmp .eq (.ix (.var 2) (.int 0)) (.str "done")) (.cons (.setL [3,4,5] (.mt .pop0 (.var 1) .nil))
 (.cons (.ite (.cmp .ne (.ix (.var 3) (.int 0)) (.str "if")) (.cons (.expr (.mt .append (.ix (.ix (.var 1) (.neg (.int 1))) (.int 2)) (.cons (.bin .add (.var 3) (.tup (.cons (.var 5) .nil))) .nil)))
 .nil) (.cons (.ite (.cmp .is (.var 4) .non) (.cons (.expr (.mt .append (.ix (.ix (.var 1) (.neg (.int 1))) (.int 2)) (.cons (.bin .add (.bin .add (.tup (.cons (.str "choice") .nil)) (.sl (.var 3) (.yes (.int 1)) .no)) (.tup (.cons (.var 5) (.cons (.lst .nil) .nil)))) .nil)))
 .nil) (.cons (.expr (.mt .append (.ix (.ix (.var 1) (.neg (.int 1))) (.int 2)) (.cons (.bin .add (.bin .add (.tup (.cons (.str "choice") .nil)) (.sl (.var 3) (.yes (.int 1)) .no)) (.tup (.cons (.var 4) (.cons (.var 5) .nil)))) .nil)))
 .nil))
 .nil))
 .nil)) (.cons (.expr (.mt .append (.ix (.ix (.var 1) (.neg (.int 1))) (.int 2)) (.cons (.var 2) .nil)))
 .nil))
 .nil))
 .nil))
 .nil)
noncomputable def Fb:Ss:=
 (.cons (.set [1] (.lst (.cons (.lst (.cons (.tup (.cons (.str "form") .nil)) (.cons .non (.cons (.lst .nil) .nil)))) .nil)))
 (.cons (.for_ [2] (.seq (.var 0)) Qr)
 Pq))
noncomputable abbrev Zn3:Stmt:=top 65
noncomputable def Wq:List Str:=["_law_found","_law_due","_law_one","_law_other"]
noncomputable def Os:Ss:=
 (.cons (.ret (.bl true))
 .nil)
noncomputable def N5:Ss:=
 (.cons (.ite (.not (.call 43 (.cons (.var 2) (.cons (.var 3) .nil)))) (.cons (.ret (.bl false))
 .nil) .nil)
 .nil)
noncomputable def Oy:Ss:=
 (.cons (.for_ [2,3] (.zip (.cons (.var 0) (.cons (.var 1) .nil))) N5)
 Os)
noncomputable def Sb:Ss:=
 (.cons (.ite (.cmp .ne (.bf .len (.cons (.var 0) .nil)) (.bf .len (.cons (.var 1) .nil))) (.cons (.ret (.bl false))
 .nil) .nil)
 Oy)
noncomputable def Sk:Ss:=
 (.cons (.ite (.bop true (.cons (.bf .isinst (.cons (.var 1) (.cons (.ty .tuple) .nil))) (.cons (.not (.bf .isinst (.cons (.var 0) (.cons (.ty .tuple) .nil)))) .nil))) (.cons (.ret (.bl false))
 .nil) .nil)
 Sb)
noncomputable def Sj:Ss:=
 (.cons (.ite (.bop true (.cons (.bf .isinst (.cons (.var 1) (.cons (.ty .list) .nil))) (.cons (.not (.bf .isinst (.cons (.var 0) (.cons (.ty .list) .nil)))) .nil))) (.cons (.ret (.bl false))
 .nil) .nil)
 Sk)
noncomputable def Wy:Ss:=
 (.cons (.ite (.bf .isinst (.cons (.var 1) (.cons (.ty .str) .nil))) (.cons (.ret (.bop true (.cons (.bf .isinst (.cons (.var 0) (.cons (.ty .str) .nil))) (.cons (.cmp .eq (.var 0) (.var 1)) .nil))))
 .nil) .nil)
 Sj)
noncomputable def Xh:Ss:=
 (.cons (.ite (.bf .isinst (.cons (.var 1) (.cons (.ty .int) .nil))) (.cons (.ret (.bop true (.cons (.bf .isinst (.cons (.var 0) (.cons (.ty .int) .nil))) (.cons (.not (.bf .isinst (.cons (.var 0) (.cons (.ty .bool) .nil)))) (.cons (.cmp .eq (.var 0) (.var 1)) .nil)))))
 .nil) .nil)
 Wy)
noncomputable def Wo:Ss:=
 (.cons (.ite (.bf .isinst (.cons (.var 1) (.cons (.ty .bool) .nil))) (.cons (.ret (.bop true (.cons (.bf .isinst (.cons (.var 0) (.cons (.ty .bool) .nil))) (.cons (.cmp .eq (.var 0) (.var 1)) .nil))))
 .nil) .nil)
 Xh)
noncomputable abbrev Zs2:Stmt:=top 66
noncomputable def Z03:List Str:=["_law_lines_here","_law_now","_law_most","_law_line"]
noncomputable def Nj:Ss:=
 (.cons (.ret (.var 2))
 .nil)
noncomputable def Oi:Ss:=
 (.cons (.set [1] (.bin .sub (.bin .add (.var 1) (.bf .int1 (.cons (.call 35 (.cons (.var 3) .nil)) .nil))) (.bf .int1 (.cons (.cmp .eq (.ix (.var 3) (.int 0)) (.str "done")) .nil))))
 (.cons (.set [2] (.bf .max2 (.cons (.var 2) (.cons (.var 1) .nil))))
 .nil))
noncomputable def Bb:Ss:=
 (.cons (.set [1] (.int 1))
 (.cons (.set [2] (.int 1))
 (.cons (.for_ [3] (.seq (.var 0)) Oi)
 Nj)))
noncomputable abbrev Z42:Stmt:=top 67
noncomputable def Na:List Str:=["_law_lines_here","_law_number","_law_many","_law_used","_law_free","_law_k","_law_word_here","_law_head"]
noncomputable def Rg:Ss:=
 (.cons (.ret (.var 0))
 .nil)
noncomputable def W8:Ss:=
 (.cons (.set [0] (.bin .add (.bin .add (.lst (.cons (.var 7) .nil)) (.var 0)) (.lst (.cons (.tup (.cons (.str "done") .nil)) .nil))))
 .nil)
noncomputable def Rk:Ss:=
 (.cons (.set [6] (.ix (.lst (.cons (.str "part") (.cons (.str "if") (.cons (.str "round") .nil)))) (.bin .mod (.bin .fdiv (.var 1) (.bin .add (.int 1) (.bin .mul (.var 5) (.var 5)))) (.int 3))))
 (.cons (.set [7] (.tup (.cons (.var 6) (.cons (.ix (.var 4) (.var 5)) .nil))))
 (.cons (.ite (.cmp .eq (.var 6) (.str "if")) (.cons (.set [7] (.tup (.cons (.str "if") (.cons (.var 5) (.cons (.str "=") (.cons (.str "x") .nil))))))
 .nil) .nil)
 W8)))
noncomputable def Of:Ss:=
 (.cons (.set [3] (.comp ["_law_line"] [none] [0] (.seq (.var 0)) (.yes (.bop false (.cons (.cmp .eq (.ix (.var 0) (.int 0)) (.str "round")) (.cons (.cmp .eq (.ix (.var 0) (.int 0)) (.str "part")) .nil)))) (.ix (.var 0) (.int 1))))
 (.cons (.set [4] (.comp ["_law_k","_law_used"] [none,(some 3)] [0] (.rng1 (.bin .add (.bin .add (.int 100) (.var 2)) (.bf .len (.cons (.var 3) .nil)))) (.yes (.cmp .notin (.var 0) (.var 1))) (.var 0)))
 (.cons (.for_ [5] (.rng1 (.var 2)) Rk)
 Rg)))
noncomputable abbrev Zo8:Stmt:=top 68
noncomputable def Wr:List Str:=["_law_line","_law_words_here"]
noncomputable def Sr:Ss:=
 (.cons (.ret (.mt .join (.str " ") (.cons (.comp ["_law_part"] [none] [0] (.seq (.var 0)) .no (.bf .str1 (.cons (.var 0) .nil))) .nil)))
 .nil)
noncomputable def Wx:Ss:=
 (.cons (.ite (.cmp .eq (.ix (.var 0) (.int 0)) (.str "sum")) (.cons (.set [1] (.lst (.cons (.ix (.var 0) (.int 1)) (.cons (.str "=") (.cons (.bf .str1 (.cons (.ix (.var 0) (.int 2)) .nil)) (.cons (.ix (.var 0) (.int 3)) (.cons (.bf .str1 (.cons (.ix (.var 0) (.int 4)) .nil)) .nil)))))))
 (.cons (.ret (.mt .join (.str " ") (.cons (.var 1) .nil)))
 .nil)) .nil)
 Sr)
noncomputable def Wz:Ss:=
 (.cons (.ite (.cmp .eq (.ix (.var 0) (.int 0)) (.str "if")) (.cons (.ret (.bin .add (.bin .add (.bin .add (.bin .add (.bin .add (.str "if ") (.bf .str1 (.cons (.ix (.var 0) (.int 1)) .nil))) (.str " ")) (.ix (.var 0) (.int 2))) (.str " ")) (.bf .str1 (.cons (.ix (.var 0) (.int 3)) .nil))))
 .nil) .nil)
 Wx)
noncomputable abbrev Cs:Stmt:=top 69
noncomputable def Qn:List Str:=["_law_lines_here","_law_rows","_law_ahead","_law_k","_law_word_here"]
noncomputable def S7:Ss:=
 (.cons (.ret (.mt .join (.str "\n") (.cons (.var 1) .nil)))
 .nil)
noncomputable def Yr:Ss:=
 (.cons (.ite (.bop false (.cons (.cmp .eq (.var 4) (.str "else")) (.cons (.call 35 (.cons (.ix (.var 0) (.var 3)) .nil)) .nil))) (.cons (.set [2] (.bin .add (.var 2) (.int 1)))
 .nil) .nil)
 .nil)
noncomputable def Xn:Ss:=
 (.cons (.ite (.bop false (.cons (.cmp .ne (.var 4) (.str "else")) (.cons (.cmp .ne (.ix (.ix (.var 0) (.bin .add (.var 3) (.int 1))) (.int 0)) (.str "done")) .nil))) (.cons (.expr (.mt .append (.var 1) (.cons (.bin .add (.bin .mul (.str "  ") (.var 2)) (.call 46 (.cons (.ix (.var 0) (.var 3)) .nil))) .nil)))
 .nil) .nil)
 Yr)
noncomputable def S4:Ss:=
 (.cons (.set [4] (.ix (.ix (.var 0) (.var 3)) (.int 0)))
 (.cons (.ite (.bop false (.cons (.cmp .eq (.var 4) (.str "done")) (.cons (.cmp .eq (.var 4) (.str "else")) .nil))) (.cons (.set [2] (.bin .sub (.var 2) (.int 1)))
 .nil) .nil)
 Xn))
noncomputable def Ph:Ss:=
 (.cons (.set [1] (.lst .nil))
 (.cons (.set [2] (.int 0))
 (.cons (.for_ [3] (.rng1 (.bf .len (.cons (.var 0) .nil))) S4)
 S7)))
noncomputable abbrev Zg5:Stmt:=top 70
noncomputable def Gp:List Str:=["_law_found","_law_due"]
noncomputable def G7:Ss:=
 (.cons (.ret (.bop true (.cons (.bf .isinst (.cons (.var 0) (.cons (.ty .str) .nil))) (.cons (.cmp .eq (.var 0) (.var 1)) .nil))))
 .nil)
noncomputable abbrev C3:Stmt:=top 71
noncomputable def Zt9:List Str:=["_law_script","_law_lines_here","_law_form","_law_due","_law_found","_law_cell","_law_more"]
theorem Yg9:FnScope Zt9 ["_law_script"] (Zt C3):=⟨rfl,rfl,rfl,by decide+kernel,rfl,by decide+kernel,by decide+kernel⟩
noncomputable def Em:Ss:=
 (.cons (.expr (.mt .popi (.var 2) (.cons (.int 0) .nil)))
 (.cons (.ret (.bop true (.cons (.call 48 (.cons (.call 27 (.cons (.var 2) .nil)) (.cons (.var 3) .nil))) (.cons (.call 48 (.cons (.call 27 (.cons (.lst .nil) .nil)) (.cons (.str "") .nil))) .nil))))
 .nil))
noncomputable def Ca:Ss:=
 (.cons (.set [5] (.bin .mod (.call 28 (.cons (.var 0) (.cons (.int 5) .nil))) (.bin .pow (.int 10) (.int 18))))
 (.cons (.expr (.mt .insi (.var 2) (.cons (.int 0) (.cons (.tup (.cons (.str "choice") (.cons (.str "x") (.cons (.str "=") (.cons (.bin .sub (.int 0) (.var 5)) (.cons (.lst .nil) (.cons (.lst (.cons (.tup (.cons (.str "sum") (.cons (.str "x") (.cons (.var 5) (.cons (.str "rest") (.cons (.str "y2") .nil)))))) .nil)) .nil))))))) .nil))))
 (.cons (.set [6] (.bin .add (.bin .add (.bin .add (.bin .add (.str "if x = ") (.bf .str1 (.cons (.bin .sub (.int 0) (.var 5)) .nil))) (.str "\nelse\n  x = ")) (.bf .str1 (.cons (.var 5) .nil))) (.str " rest y2\ndone")))
 (.cons (.ite (.not (.call 48 (.cons (.call 27 (.cons (.var 2) .nil)) (.cons (.bin .add (.bin .add (.var 6) (.str "\n")) (.var 3)) .nil)))) (.cons (.ret (.bl false))
 .nil) .nil)
 Em))))
noncomputable def Zh1:Ss:=
 (.cons (.ite (.not (.call 43 (.cons (.call 25 (.cons (.var 4) .nil)) (.cons (.var 2) .nil)))) (.cons (.ret (.bl false))
 .nil) .nil)
 Ca)
noncomputable def E9:Ss:=
 (.cons (.set [2] (.call 42 (.cons (.var 1) .nil)))
 (.cons (.set [3] (.call 47 (.cons (.var 1) .nil)))
 (.cons (.set [4] (.call 27 (.cons (.var 2) .nil)))
 (.cons (.ite (.bop false (.cons (.not (.call 48 (.cons (.var 4) (.cons (.var 3) .nil)))) (.cons (.not (.call 43 (.cons (.var 2) (.cons (.call 42 (.cons (.var 1) .nil)) .nil)))) .nil))) (.cons (.ret (.bl false))
 .nil) .nil)
 Zh1))))
noncomputable def Y44:Ss:=
 (.cons (.set [1] (.call 41 (.cons (.var 0) (.cons (.bf .max2 (.cons (.int 1) (.cons (.bf .min2 (.cons (.bf .len (.cons (.var 0) .nil)) (.cons (.int 60) .nil))) .nil))) .nil))))
 (.cons (.ite (.cmp .eq (.bin .mod (.bin .fdiv (.call 29 (.cons (.var 0) (.cons (.int 951) .nil))) (.int 8)) (.int 8)) (.int 1)) (.cons (.set [1] (.call 45 (.cons (.var 1) (.cons (.call 29 (.cons (.var 0) (.cons (.int 952) .nil))) (.cons (.bin .sub (.int 90) (.call 44 (.cons (.var 1) .nil))) .nil)))))
 .nil) .nil)
 E9))
theorem Yn3:Nr (ck0 Zt9 C3 FN GN BN) Y44 (X0 C3)=true:=by decide+kernel
structure DW(K:Ad)(mg:Str→Option Value)(n:Str)(st:Stmt)(ps:List Str) where
 mk::
 a:Addr
 d:FuncData
 F:Fun K n n st a d
 g:mg n=some (.ref a)
 k:Ha K (.ref a)=true
 b:Pl K d ps []
noncomputable def DW.of{K:Ad}{h:Heap}{mg:Str→Option Value}{n:Str}{st:Stmt}{ps:List Str}{f:Addr}{oc kV dc pm cd ct:Value}{od an:Option Addr}{sl:Array (Option Value)}(X:K.In h)(G:h.Ns mainGlobals mg)(a:Dz K mainGlobals n=some (some (.ref f)))
  (l:K.lookup f=some ⟨oc,od,.func (Kk n n (Vh st) (X0 st) (Zt st) .none kV dc pm an cd ct),sl⟩) (c:Mc K cd n=true) (k:Ha K (.ref f)=true) (b:∀kV dc pm an cd ct,Pl K (Kk n n (Vh st) (X0 st) (Zt st) .none kV dc pm an cd ct) ps []:=by exact fun _ _ _ _ _ _=> .all (by first | exact U.Zy7 fun _=>rfl | exact U.Zx3 fun _ _=>rfl | exact U.Zy4 fun _ _ _=>rfl | exact U.Yg8 fun _ _ _ _=>rfl | exact U.Zw6 rfl)):DW K mg n st ps:=
 ⟨f,_,Yj8 (st:=st) l c k,Dy X G a,k,b _ _ _ _ _ _⟩
set_option hygiene false
local macro_rules | `(tactic| walk_at "ev")=>do
 let ids:=("tss ts evar9 eint9 ebl9 enon9 estr9 ety9 eglb9 ebin9 eneg9 enot9 ecmp9 ebop9 elst9 etup9 eix9 esl9 ecall9 ebf9 eslW9 esetf9 elrev9 efstr9 eallf9 eanyf9 emt9 ecomp9 tes teo tit tcd tbop tt op_add_i op_add_s op_add_t op_add_l op_sub_i op_mul_i op_mul_l op_fdiv_i op_mod_i op_pow_i cm_lt_i cm_gt_i cm_ge_i cm_eq cm_ne cm_in cm_notin cm_is_n cm_is_i cm_is_s cm_is_b cm_is_t cm_is_r eq_i eq_s eq_b eq_nn eq_is eq_si tru_b tru_i tru_n tru_t ix_t ix_g ix_s sl_s sl_t sl_l is_non is_bl is_int is_str is_tup tyNon tyBl tyInt tyStr tyTup tyLst tyDct bf_len_t bf_len_s bf_is bf_min bf_max bf_tuple bf_int on_ref set_f mt_popi_r mk_popi mt_insi_r mk_insi ati0 ati1 ati2 Option.some.injEq exists_eq_left' ofS_inj String.reduceEq bf_strS bf_intT mt_split_s mt_join_s mt_starts_s mt_ends_s mk_split mk_join mk_starts mk_ends it_str mt_lstrip_s mk_lstrip op_mul_s cm_inT ati3 ati4 bf_len_g bf_str mt_append_r mt_pop_r mt_extend_r mk_append mk_pop mk_extend tg_one tg_two it_r it_t it_g key_i key_s in_ss aug_add aug_sub start0 List.map_cons List.map_nil List.length_cons List.length_nil List.cons_append List.nil_append List.append_nil List.replicate List.set_cons_zero List.set_cons_succ List.getElem?_cons_zero List.getElem?_cons_succ Nat.reduceAdd Nat.reduceSub Nat.sub_self Nat.zero_add decide_eq_true_eq ne_eq Int.reduceEq not_false_eq_true true_and Bool.not_eq_true' decide_eq_false_iff_not Bool.false_eq_true if_true if_false Bool.not_true Bool.not_false".splitOn " ").toArray.map fun s=>Lean.mkIdent s.toName
 `(tactic| first | (dsimp only[$[$ids:ident],*];try simp only[$[$ids:ident],*]) | simp only[$[$ids:ident],*])
structure Ks(F:Nat→Prop)(M M':Z2):Prop where
 at':∀a,¬F a→a<M.length→M'[a]?=M[a]?
 len:M.length≤M'.length
abbrev Kp:Z2→Z2→Prop:=Ks fun _=>False
theorem Ks.refl{F:Nat→Prop}(M:Z2):Ks F M M:=⟨fun _ _ _=>rfl,Nat.le_refl _⟩
theorem Ks.trans{F:Nat→Prop}{M M' M2:Z2}(h:Ks F M M')(g:Ks F M' M2):Ks F M M2:=⟨fun a n l=>(g.at' a n (Nat.lt_of_lt_of_le l h.len)).trans (h.at' a n l),Nat.le_trans h.len g.len⟩
theorem Ks.mono{F G:Nat→Prop}{M M':Z2}(h:Ks F M M')(k:∀a,a<M.length→F a→G a):Ks G M M':=⟨fun a n l=>h.at' a (fun z=>n (k a l z)) l,h.len⟩
theorem Ks.app{F:Nat→Prop}{M M':Z2}(h:Ks F M M')(N:Z2):Ks F M (M'++N):=⟨fun a n l=>by rw[Ex (Nat.lt_of_lt_of_le l h.len)];exact h.at' a n l,Nat.le_trans h.len (by rw[Ab];omega)⟩
theorem Ks.new{F:Nat→Prop}(M N:Z2):Ks F M (M++N):=(Ks.refl M).app N
theorem Ks.set{F:Nat→Prop}{M M':Z2}(h:Ks F M M'){a:Nat}{c:Cell}(ha:F a∨M.length≤a):Ks F M (M'.set a c):=⟨fun b n l=>by
 have:a≠b:=by
  rintro rfl
  rcases ha with z | z
  ·exact n z
  ·omega
 rw[Dt this];exact h.at' b n l,by rw[Az];exact h.len⟩
theorem Z9{M:Z2}{n:Nat}{xs:List D}(h:Za M n=some xs):n<M.length:=by
 unfold Za at h
 rcases Nat.lt_or_ge n M.length with l | l
 ·exact l
 ·rw[Ko l] at h
  cases h
theorem Ks.L{F:Nat→Prop}{M M':Z2}{a:Nat}{xs:List D}(h:Ks F M M')(n:¬F a)(e:Za M a=some xs):Za M' a=some xs:=by
 unfold Za at e ⊢
 rw[h.at' a n (Z9 (M:=M) (xs:=xs) e)];exact e
theorem Ks.W{F:Nat→Prop}{M M':Z2}{a:Nat}{xs:List D}(h:Ks F M M')(n:¬F a)(e:Z3 M a=some xs):Z3 M' a=some xs:=by
 have l:=Z9 (Z1 e)
 unfold Z3 at e ⊢
 rw[h.at' a n l];exact e
theorem Ks.pL{M M':Z2}{a:Nat}{xs:List D}(h:Kp M M')(e:Za M a=some xs):Za M' a=some xs:=h.L (fun z=>z) e
theorem Ks.pW{M M':Z2}{a:Nat}{xs:List D}(h:Kp M M')(e:Z3 M a=some xs):Z3 M' a=some xs:=h.W (fun z=>z) e
theorem Z8{M:Z2}{n:Nat}{xs:List D}(h:n<M.length):Z3 (M.set n (.lst xs)) n=some xs:=by
 unfold Z3
 rw[Hz h]
theorem qm{i j:Int}(h:0<j):qmod i j=i % j:=Zo2 h
theorem qd{i j:Int}(h:0<j):qdiv i j=i / j:=Zo4 h
theorem Yi8{xs:List D}{i:Int}{d:D}(h0:0≤i)(h:xs[i.toNat]?=some d):atI xs i=some d:=by
 have:=Wd h
 rwa[Lf h0] at this
theorem Yk9{xs:List D}{i:Int}(h0:0≤i)(h:i<xs.length):∃d,atI xs i=some d∧d∈xs:=by
 have hl:i.toNat<xs.length:=by omega
 exact⟨xs[i.toNat],Yi8 h0 (Ae hl),Hg hl⟩
theorem ix_m{M:Z2}{n:Nat}{xs:List D}{i m:Int}{F:D→Prop}(h:Za M n=some xs)(hm:m=xs.length)(h0:0<xs.length)(q:∀d,d∈xs→F d):ixD M (.ref n) (.int (qmod i m)) F:=by
 subst hm
 rw[qm (by omega)]
 obtain⟨d,e1,e2⟩:=Yk9 (xs:=xs) (Ir i (b:=(xs.length:Int)) (by omega)) (Iy i (by omega))
 exact X9 h e1 (q d e2)
theorem Yj6{z:Str}{i m:Int}{F:D→Prop}(hm:m=z.length)(h0:0<z.length)(hz:z.length≤1000)(q:∀c∈Tt.L z,F (.str ⟨#[c]⟩)):z.length≤sizeLine∧∃c,atI z.cps.toList (qmod i m)=some c∧F (.str ⟨#[c]⟩):=by
 subst hm
 rw[qm (by omega)]
 have h1:=Ir i (b:=(z.length:Int)) (by omega)
 have h2:=Iy i (b:=(z.length:Int)) (by omega)
 have hl:(i % (z.length:Int)).toNat<z.cps.toList.length:=by rw[Dn];show _<z.length;omega
 refine⟨Z0 (by omega),z.cps.toList[(i % (z.length:Int)).toNat],?_,q _ (Hg hl)⟩
 have:=Wd (Ae hl)
 rwa[Lf h1] at this
theorem Z4(a b:Str):(a++b).length=a.length+b.length:=by
 show(a.cps++b.cps).size=_
 rw[Array.size_append];rfl
def Scr(M:Z2)(a:Nat):Prop:=∃ns:List Int,Za M a=some (ns.map .int)∧ns.length≤63
theorem Scr.ks{F:Nat→Prop}{M M':Z2}{a:Nat}(h:Scr M a)(k:Ks F M M')(n:¬F a):Scr M' a:=by obtain⟨ns,e,l⟩:=h;exact⟨ns,k.L n e,l⟩
noncomputable def rawI(ns:List Int)(k:Nat):Int:=if ns.length=0 then k else ns.getD (k % ns.length) 0
noncomputable def mixI(ns:List Int)(k:Nat):Int:=if ns.length=0 then((k:Int) * k+3) * 48271 % 2147483647 else(rawI ns k % 2147483629+2) * (48271+7 * ((k:Int) / (ns.length:Int)) * ((k:Int) / (ns.length:Int))) % 2147483647
def C9:DSp:=fun ds M Q _=>∃(a k:Nat),ds=[.ref a,.int k]∧Scr M a∧∀v,(∀ns,Za M a=some (ns.map .int)→v=rawI ns k)→Q (.int v) M
def Z53:DSp:=fun ds M Q _=>∃(a k:Nat),ds=[.ref a,.int k]∧Scr M a∧k≤1000∧∀v:Nat,v<2147483647→(∀ns,Za M a=some (ns.map .int)→(v:Int)=mixI ns k)→Q (.int v) M
theorem Bq{ns ms:List Int}(h:ns.map D.int=ms.map D.int):ns=ms:=by
 have:=congrArg (List.map fun d=>match d with | D.int i=>i | _=>0) h
 rw[Ma,Ma] at this
 simpa[Function.comp_def] using this
noncomputable def kept:List Str:=["if","jump","end","rest","round","part","leave","again","else","done"]
def Gg:DSp:=fun ds M Q _=>ds=[]∧Q (.ref M.length) (M++[.lst (kept.map D.str)])
def Lc(c:Nat):Prop:=97≤c∧c≤122
def Wc(c:Nat):Prop:=Lc c∨(48≤c∧c≤57)
noncomputable instance(c:Nat):Decidable (Lc c):=inferInstanceAs (Decidable (_∧_))
noncomputable instance(c:Nat):Decidable (Wc c):=inferInstanceAs (Decidable (_∨_))
def Wrd(x:Str):Prop:=(∀c∈Tt.L x,Wc c)∧∀c,(Tt.L x).head?=some c→Lc c
def Nam(x:Str):Prop:=Wrd x∧1≤x.length∧x.length≤8∧x∉kept
theorem L1(c:Nat):Tt.L ⟨#[c]⟩=[c]:=rfl
theorem Wrd.app{x y:Str}(h:Wrd x)(hl:0<x.length)(hy:∀c∈Tt.L y,Wc c):Wrd (x++y):=by
 have e:=Tt.L_app x y
 have hl':=Tt.L_len x
 cases hx:Tt.L x with
 | nil=>rw[hx] at hl';simp at hl';omega
 | cons a r=>
  refine⟨fun c hc=>?_,fun c hc=>?_⟩
  ·rw[e,Bk] at hc
   exact hc.elim (h.1 c) (hy c)
  ·rw[e,hx] at hc
   exact h.2 c (by rw[hx];exact hc)
theorem Wrd.one{c:Nat}(h:Lc c):Wrd ⟨#[c]⟩:=⟨fun d hd=>by rw[L1,An] at hd;rw[hd];exact .inl h,fun d hd=>by rw[L1] at hd;cases hd;exact h⟩
theorem Wrd.nil:Wrd ("":Str):=⟨fun c hc=>by(have e:Tt.L ("":Str)=[]:=rfl);rw[e] at hc;simp at hc,fun c hc=>by(have e:Tt.L ("":Str)=[]:=rfl);rw[e] at hc;simp at hc⟩
def Gz:DSp:=fun ds M Q _=>∃(n:Int) (b:Bool),ds=[.int n,.bl b]∧∀c:Nat,Wc c→(b=true→Lc c)→Q (.str ⟨#[c]⟩) M
def Zd3:DSp:=fun ds M Q _=>∃(n:Int) (s:Nat),ds=[.int n,.int s]∧s≤8∧∀x:Str,x.length=s→Wrd x→Q (.str x) M
def Et:DSp:=fun ds M Q _=>∃a:Nat,ds=[.ref a]∧Scr M a∧∀(l:List Str) M' r,l.length=5→(∀x∈l,Nam x)→Kp M M'→Za M' r=some (l.map D.str)→Q (.ref r) M'
inductive Opd where
 | nm (x:Str) | no (i:Int)
noncomputable def Opd.d:Opd→D
 | .nm x=> .str x
 | .no i=> .int i
noncomputable def Opd.t:Opd→Str
 | .nm x=>x
 | .no i=>Str.ofString (toString i)
def Opd.ok:Opd→Prop
 | .nm x=>Nam x
 | .no i=> -1000000000000000000<i∧i<1000000000000000000
def Nms(M:Z2)(r:Nat):Prop:=∃l:List Str,l.length=5∧(∀x∈l,Nam x)∧Za M r=some (l.map D.str)
theorem Nms.ks{F:Nat→Prop}{M M':Z2}{a:Nat}(h:Nms M a)(k:Ks F M M')(n:¬F a):Nms M' a:=by obtain⟨ns,l,o,e⟩:=h;exact⟨ns,l,o,k.L n e⟩
def Pn:DSp:=fun ds M Q _=>∃(a k r n:Nat),ds=[.ref a,.int k,.ref r,.int n]∧Scr M a∧Nms M r∧∀o:Opd,o.ok→Q o.d M
section
variable{K:Ad}
theorem Yb1{Γ G}:Rd K Γ G C9 Zv4 Zw2:=by
 rintro ds M Q Z ⟨a,k,rfl,⟨ns,hm,hl⟩,q⟩
 have q':Q (.int (rawI ns k)) M:=q _ fun ms e=>by rw[hm] at e;rw[Bq (Dd e)]
 unfold rawI at q'
 delta Zv4 Zw2
 walk_at "ev"
 refine Zk hm ?_
 walk_at "ev"
 split
 ·rename_i h
  rw[if_pos (by simpa using h)] at q'
  exact q'
 ·rename_i h
  have h0:¬ns.length=0:=by simpa using h
  rw[if_neg h0] at q'
  delta Br
  walk_at "ev"
  refine Zk hm ⟨by omega,?_⟩
  rw[qm (by omega),Ac,show(k:Int) % (ns.length:Int)=((k % ns.length:Nat):Int) by omega]
  have hk:k % ns.length<ns.length:=Nat.mod_lt _ (by omega)
  refine ix_l hm (by rw[As,Ae hk];rfl) ?_
  rw[Dk,Ae hk] at q'
  exact q'
theorem mixR{M:Z2}{Q:DK}{v w:Int}(e:v % 2147483647=w)(q:∀v:Nat,v<2147483647→(v:Int)=w→Q (.int v) M):Q (.int (qmod v 2147483647)) M:=by
 rw[qm (by decide)]
 have h1:=Ir v (show(2147483647:Int)≠0 by decide)
 have h2:=Iy v (show(0:Int)<2147483647 by decide)
 have:=q (v % 2147483647).toNat (by omega) (by omega)
 rwa[Lf h1] at this
theorem Yj2{Γ G}(g:Γ[28]?=some C9):Rd K Γ G Z53 Zx5 Zy6:=by
 rintro ds M Q Z ⟨a,k,rfl,hs,hk,q⟩
 obtain⟨ns,hm,hl⟩:=id hs
 have q':∀v:Nat,v<2147483647→(v:Int)=mixI ns k→Q (.int v) M:=fun v h1 h2=>q v h1 fun ms e=>by rw[hm] at e;rw[←Bq (Dd e)];exact h2
 delta Zx5 Zy6
 walk_at "ev"
 refine Zk hm ?_
 walk_at "ev"
 split
 ·rename_i h
  refine⟨mulR (by omega) (by omega),mulR (by decide) (by decide),mixR ?_ q'⟩
  unfold mixI
  rw[if_pos (by simpa using h)]
 ·rename_i h
  delta Bm
  walk_at "ev"
  have hp:(0:Int)< (ns.map D.int).length:=by omega
  refine Zk hm ⟨Zi hp (by rw[Ac];omega),?_⟩
  rw[qd hp]
  have d1:0≤(k:Int) / (ns.map D.int).length:=Int.ediv_nonneg (by omega) (by omega)
  have d2:(k:Int) / (ns.map D.int).length≤k:=Int.ediv_le_self _ (by omega)
  simp only[g]
  refine⟨a,k,rfl,hs,fun v hv=>?_⟩
  walk_at "ev"
  refine⟨mulL (by decide) (by decide),mulR (by omega) (by omega),mulR ?_ ?_,mixR ?_ q'⟩
  ·have:0≤7 * ((k:Int) / (ns.map D.int).length) * ((k:Int) / (ns.map D.int).length):=Int.mul_nonneg (by omega) d1
   omega
  ·have:7 * ((k:Int) / (ns.map D.int).length) * ((k:Int) / (ns.map D.int).length)≤7000 * 1000:=Int.mul_le_mul (by omega) (by omega) d1 (by decide)
   omega
  ·unfold mixI
   rw[if_neg (by simpa using h),hv ns hm,qm (by decide),Ac]
theorem Y13{Γ G}:Rd K Γ G Gg Zj9 Zj2:=by
 rintro ds M Q Z ⟨rfl,q⟩
 delta Zj9 Zj2
 walk_at "ev"
 exact⟨Z0 (by decide),q⟩
theorem Y64{Γ G}:Rd K Γ G Gz Za4 Zd5:=by
 rintro ds M Q Z ⟨n,b,rfl,q⟩
 delta Za4 Zd5
 walk_at "ev"
 split
 ·have h:∀c∈Tt.L "abcdefghijklmnopqrstuvwxyz",Lc c:=by decide+kernel
  refine Yj6 (F:=fun d=>Q d M) (z:="abcdefghijklmnopqrstuvwxyz") ?_ ?_ ?_ (fun c hc=>q c (.inl (h c hc)) fun _=>h c hc)<;>decide+kernel
 ·rename_i hb
  delta Fl
  walk_at "ev"
  have h:∀c∈Tt.L "abcdefghijklmnopqrstuvwxyz0123456789",Wc c:=by decide+kernel
  refine Yj6 (F:=fun d=>Q d M) (z:="abcdefghijklmnopqrstuvwxyz0123456789") ?_ ?_ ?_ (fun c hc=>q c (h c hc) fun e=>absurd e hb)<;>decide+kernel
theorem Y28{Γ G}(g:Γ[31]?=some Gz):Rd K Γ G Zd3 Zb6 Ze8:=by
 rintro ds M Q Z ⟨n,s,rfl,hs,q⟩
 delta Zb6 Ze8
 walk_at "ev"
 refine⟨by omega,by omega,?_⟩
 rw[Kt]
 refine Tm (fun i σ M'=>∃(n:Int) (x:Str) (d:Option D),σ=[some (.int n),some (.int s),some (.str x),d]∧M'=M∧x.length=i∧Wrd x) ⟨n,_,none,rfl,rfl,rfl,Wrd.nil⟩ ?_ ?_
 ·rintro i σ M' C hi ⟨n,x,d,rfl,rfl,hx,hw⟩ hC
  delta Fh
  walk_at "ev"
  refine⟨mulR (by decide) (by decide),Zi (by decide) (by decide),?_⟩
  simp only[g]
  refine⟨_,_,rfl,fun c hc h0=>?_⟩
  walk_at "ev"
  have l1:(⟨#[c]⟩:Str).length=1:=rfl
  refine⟨Z0 (by omega),hC _ _ ⟨_,_,_,rfl,rfl,by rw[Z4,hx,l1],?_⟩⟩
  rcases Nat.eq_zero_or_pos i with z | z
  ·have e:x++⟨#[c]⟩=(⟨#[c]⟩:Str):=Tt.L_ext (by rw[Tt.L_app,show Tt.L x=[] from List.eq_nil_of_length_eq_zero (by rw[Tt.L_len];omega)];rfl)
   rw[e]
   exact Wrd.one (h0 (by simp;omega))
  ·exact hw.app (by omega) fun d hd=>by rw[L1,An] at hd;rw[hd];exact hc
 ·rintro σ M' ⟨n,x,d,rfl,rfl,hx,hw⟩
  delta Fx
  walk_at "ev"
  exact q x hx hw
end
section
variable{K:Ad}
theorem Zl1(x:Str){i:Int}(h:0≤i):(Ic x (some i) none).length≤x.length:=by
 rcases Int.lt_or_le i x.length with l | l
 ·have:=(fact_slice_sn x i).1 h (by omega)
  omega
 ·have:=(fact_slice_sn x i).2 l
  omega
theorem Yp3(x:Str){i:Int}(h:0≤i):(Ic x none (some i)).length≤x.length:=by
 rcases Int.lt_or_le i x.length with l | l
 ·have:=(fact_slice_ns x i).1 h (by omega)
  omega
 ·have:=(fact_slice_ns x i).2 l
  omega
theorem Qh(l:List Str):(l.map D.str).all Zs=true:=by
 rw[Dj]
 intro d h
 obtain⟨x,_,rfl⟩:=Hf.mp h
 rfl
theorem Ju(x:Str)(l:List Str):inD (.str x) (l.map D.str)=true↔x∈l:=by
 unfold inD
 rw[Lv,Lb]
 constructor
 ·rintro⟨y,hy,e⟩
  have:y=x:=by simpa[eqF] using e
  rwa[←this]
 ·intro h
  exact⟨x,h,by simp[eqF]⟩
theorem Yn1{x:Str}(h:Wrd x)(h1:1≤x.length)(h8:x.length≤8):Nam (("q":Str)++Ic x (some ((1:Nat):Int)) none):=by
 have e:Tt.L (("q":Str)++Ic x (some ((1:Nat):Int)) none)=113::(Tt.L x).drop 1:=by
  rw[Tt.L_app,Tt.L_from x h1];rfl
 refine⟨⟨fun c hc=>?_,fun c hc=>?_⟩,?_,?_,fun hk=>?_⟩
 ·rw[e,Ag] at hc
  exact hc.elim (fun z=>by rw[z];decide) fun z=>h.1 c (List.mem_of_mem_drop z)
 ·rw[e] at hc;cases hc;decide
 ·rw[←Tt.L_len,e];simp
 ·rw[←Tt.L_len,e,Aj,Kf,Tt.L_len];omega
 ·have:∀y∈kept,(Tt.L y).head?≠some 113:=by decide+kernel
  exact this _ hk (by rw[e];rfl)
theorem Y76{x:Str}{t c:Nat}(h:Wrd x)(ht:t<x.length)(hc:Wc c)(h0:t=0→Lc c):Wrd (Ic x none (some (t:Int))++⟨#[c]⟩++Ic x (some ((t+1:Nat):Int)) none)∧(Ic x none (some (t:Int))++⟨#[c]⟩++Ic x (some ((t+1:Nat):Int)) none).length=x.length:=by
 have e:Tt.L (Ic x none (some (t:Int))++⟨#[c]⟩++Ic x (some ((t+1:Nat):Int)) none)=(Tt.L x).take t++c::(Tt.L x).drop (t+1):=by
  rw[Tt.L_app,Tt.L_app,Tt.L_to x (by omega),Tt.L_from x (by omega),Ay];rfl
 have hl:=Tt.L_len x
 refine⟨⟨fun d hd=>?_,fun d hd=>?_⟩,?_⟩
 ·rw[e,Bk,Ag] at hd
  rcases hd with z | z | z
  ·exact h.1 d (List.mem_of_mem_take z)
  ·rw[z];exact hc
  ·exact h.1 d (List.mem_of_mem_drop z)
 ·rw[e] at hd
  cases t with
  | zero=>cases hd;exact h0 rfl
  | succ t=>
   cases hx:Tt.L x with
   | nil=>rw[hx] at hl;simp at hl;omega
   | cons a r=>rw[hx] at hd;exact h.2 d (by rw[hx];exact hd)
 ·rw[←Tt.L_len,e,Ab,Aj,He,Kf,hl];omega
def NmI(a:Nat)(M:Z2)(f:Nat)(stem:Str)(t:Nat)(i:Nat)(w:Option D)(σ:DEnv)(M':Z2):Prop:=∃(l:List Str) (d5 d6:Option D),σ=[some (.ref a),some (.int f),some (.str stem),some (.int t),some (.ref M.length),d5,d6,w]∧Kp M M'∧Z3 M' M.length=some (l.map D.str)∧l.length=i∧∀x∈l,Nam x
theorem nm_2{Γ G}{P:DEnds}{a f t i:Nat}{M M':Z2}{stem x:Str}{l:List Str}{d5 d6:Option D}(hx:Nam x)(k:Kp M M')(e:Z3 M' M.length=some (l.map D.str))(hl:l.length=i)(hn:∀x∈l,Nam x)(hi:i<5)
  (h:∀σ M2,(∃w,NmI a M f stem t (i+1) w σ M2)→P.nx σ M2):tss ⟨K,Γ,G⟩ noX So P [some (.ref a),some (.int f),some (.str stem),some (.int t),some (.ref M.length),d5,d6,some (.str x)] M':=by
 delta So
 walk_at "ev"
 refine⟨Zb (Z1 e),_,e,Z6 (by rw[Ac];omega),h _ _ ⟨_,l++[x],_,_,rfl,k.set (.inr (Nat.le_refl _)),?_,by rw[Ab,hl];rfl,fun y hy=>(Bk.mp hy).elim (hn y) fun z=>by rw[An.mp z];exact hx⟩⟩
 rw[Z8 (Z9 (Z1 e)),Am]
 rfl
theorem nm_3{Γ G}(g:Γ[30]?=some Gg){P:DEnds}{a f t i:Nat}{M M':Z2}{stem x:Str}{l:List Str}{d5 d6:Option D}(hw:Wrd x)(h1:1≤x.length)(h8:x.length≤8)(k:Kp M M')(e:Z3 M' M.length=some (l.map D.str))(hl:l.length=i)(hn:∀x∈l,Nam x)(hi:i<5)
  (h:∀σ M2,(∃w,NmI a M f stem t (i+1) w σ M2)→P.nx σ M2):tss ⟨K,Γ,G⟩ noX Sd P [some (.ref a),some (.int f),some (.str stem),some (.int t),some (.ref M.length),d5,d6,some (.str x)] M':=by
 delta Sd
 walk_at "ev"
 simp only[g]
 refine⟨rfl,.inl ⟨_,Ze _ _ [],rfl,Qh _,?_⟩⟩
 walk_at "ev"
 have k2:Kp M (M'++[.lst (kept.map D.str)]):=k.app _
 have e2:=Z7 (N:=[.lst (kept.map D.str)]) e
 split
 ·refine⟨Z0 (by omega),?_⟩
  have:=Zl1 x (show(0:Int)≤1 by decide)
  have l1:("q":Str).length=1:=by decide+kernel
  exact⟨Z0 (by omega),nm_2 (Yn1 hw h1 h8) k2 e2 hl hn hi h⟩
 ·rename_i hk
  exact nm_2 ⟨hw,h1,h8,fun z=>hk ((Ju _ _).mpr z)⟩ k2 e2 hl hn hi h
theorem nm_4{Γ G}(g:Γ[30]?=some Gg)(gs:Γ[31]?=some Gz){P:DEnds}{a f t i v:Nat}{M M':Z2}{stem x:Str}{l:List Str}(hw:Wrd x)(h1:1≤x.length)(h8:x.length≤8)(k:Kp M M')(e:Z3 M' M.length=some (l.map D.str))(hl:l.length=i)(hn:∀x∈l,Nam x)(hi:i<5)
  (h:∀σ M2,(∃w,NmI a M f stem t (i+1) w σ M2)→P.nx σ M2):tss ⟨K,Γ,G⟩ noX Sm P [some (.ref a),some (.int f),some (.str stem),some (.int t),some (.ref M.length),some (.int i),some (.int v),some (.str x)] M':=by
 delta Sm
 walk_at "ev"
 have fin:=nm_3 (G:=G) (P:=P) (a:=a) (f:=f) (t:=t) (stem:=stem) (d5:=some (.int i)) (d6:=some (.int v)) (K:=K) g (x:=x) hw h1 h8 k e hl hn hi h
 have hy9:∀y∈kept,y.length≤5∧1≤y.length∧(∀c∈Tt.L y,Wc c)∧Lc ((Tt.L y).headD 0):=by decide+kernel
 split
 ·split
  ·simp only[g]
   refine⟨rfl,Zi (by decide) (by decide),ix_m (Ze _ _ []) rfl (by decide) fun d hd=>?_⟩
   obtain⟨y,hy,rfl⟩:=Hf.mp hd
   refine⟨Zi (by decide) (by decide),?_⟩
   simp only[gs]
   refine⟨_,_,rfl,fun z hz _=>?_⟩
   obtain⟨y5,y1,yw,yl⟩:=hy9 y hy
   have l1:(⟨#[z]⟩:Str).length=1:=rfl
   have wy:Wrd y:=⟨yw,fun c hc=>by cases hy:Tt.L y<;>rw[hy] at hc yl<;>cases hc;exact yl⟩
   walk_at "ev"
   exact⟨Z0 (by omega),nm_3 g (wy.app (by omega) fun d hd=>by rw[L1,An] at hd;rw[hd];exact hz) (by rw[Z4];omega) (by rw[Z4];omega) (k.app _) (Z7 e) hl hn hi h⟩
  ·exact fin
 ·exact fin
theorem Zu2{Γ G}(gm:Γ[29]?=some Z53)(gk:Γ[30]?=some Gg)(gs:Γ[31]?=some Gz)(gw:Γ[32]?=some Zd3):Rd K Γ G Et Bd Z17:=by
 rintro ds M Q Z ⟨a,rfl,hs,q⟩
 have m8:∀v:Nat,∃s:Nat,s<8∧qmod (qdiv (v:Int) 8) 8=s:=by
  intro v
  rw[qm (by decide),qd (by decide)]
  have h1:=Ir ((v:Int) / 8) (show(8:Int)≠0 by decide)
  have h2:=Iy ((v:Int) / 8) (show(0:Int)<8 by decide)
  exact⟨((v:Int) / 8 % 8).toNat,by omega,by omega⟩
 delta Bd Z17
 walk_at "ev"
 simp only[gm]
 refine⟨a,901,rfl,hs,by decide,fun f hf _=>?_⟩
 walk_at "ev"
 refine⟨Zi (by decide) (by decide),?_⟩
 simp only[gw]
 obtain⟨s8,hs8,e8⟩:=m8 f
 rw[e8]
 refine⟨_,s8+1,by rw[show(1:Int)+s8=((s8+1:Nat):Int) by omega],by omega,fun stem hst hsw=>?_⟩
 walk_at "ev"
 refine⟨Zi (by decide) (by decide),Z0 (by omega),by omega,Z0 (by decide),by decide,by decide,?_⟩
 rw[qm (show(0:Int)<stem.length by omega)]
 have t1:=Ir (qdiv (f:Int) 64) (show(stem.length:Int)≠0 by omega)
 have t2:=Iy (qdiv (f:Int) 64) (show(0:Int)<stem.length by omega)
 obtain⟨t,ht,et⟩:∃t:Nat,t<stem.length∧qdiv (f:Int) 64 % stem.length=t:=⟨(qdiv (f:Int) 64 % stem.length).toNat,by omega,by omega⟩
 rw[et]
 refine Tm (fun i σ M'=>∃w,NmI a M f stem t i w σ M') ⟨none,[],none,none,rfl,Ks.new _ _,Z5 _ _ [],rfl,fun x hx=>by cases hx⟩ ?_ ?_
 ·rintro i σ M' C hi ⟨w,l,d5,d6,rfl,k,e,hl,hn⟩ hC
  have i5:i<5:=hi
  (delta Og;simp only[Int.zero_add])
  walk_at "ev"
  simp only[gm]
  refine⟨a,902+i,by rw[show(902:Int)+i=((902+i:Nat):Int) by omega],hs.ks k (fun z=>z),by omega,fun v hv _=>?_⟩
  walk_at "ev"
  refine⟨Z0 (by omega),Zi (by decide) (by decide),mulL (by decide) (by decide),?_⟩
  simp only[gs]
  refine⟨_,_,rfl,fun z hz hz0=>?_⟩
  walk_at "ev"
  have lz:(⟨#[z]⟩:Str).length=1:=rfl
  have l1:=Yp3 stem (show(0:Int)≤t by omega)
  have l2:=Zl1 stem (show(0:Int)≤t+1 by omega)
  refine⟨Z0 (by omega),Z0 (by omega),Z0 (by rw[Z4];omega),?_⟩
  split
  ·refine⟨Zi (by decide) (by decide),?_⟩
   simp only[gw]
   obtain⟨v8,hv8,ev8⟩:=m8 v
   rw[ev8]
   exact⟨_,v8+1,by rw[show(1:Int)+v8=((v8+1:Nat):Int) by omega],by omega,fun x hx hw=>nm_4 gk gs hw (by omega) (by omega) k e hl hn i5 hC⟩
  ·obtain⟨w1,w2⟩:=Y76 hsw ht hz fun z=>hz0 (by simp;omega)
   rw[show((t+1:Nat):Int)=(t:Int)+1 by omega] at w1 w2
   exact nm_4 gk gs w1 (by rw[w2];omega) (by rw[w2];omega) k e hl hn i5 hC
 ·rintro σ M' ⟨w,l,d5,d6,rfl,k,e,hl,hn⟩
  delta N0
  walk_at "ev"
  exact q l _ _ hl hn k (Z1 e)
theorem Z65{Γ G}(g:Γ[28]?=some C9):Rd K Γ G Pn Oh N4:=by
 rintro ds M Q Z ⟨a,k,r,n,rfl,hs,⟨l,hl,hn,hr⟩,q⟩
 have qi:∀i:Int,-1000000000000000000<i→i<1000000000000000000→Q (.int i) M:=fun i h1 h2=>q (.no i) ⟨h1,h2⟩
 delta Oh N4
 walk_at "ev"
 split
 ·refine⟨Zi (by decide) (by decide),ix_m hr (by rw[Ac,hl];rfl) (by rw[Ac];omega) fun d hd=>?_⟩
  obtain⟨x,hx,rfl⟩:=Hf.mp hd
  exact q (.nm x) (hn x hx)
 ·delta Rf
  walk_at "ev"
  split
  ·rw[qm (by decide)]
   exact⟨Zi (by decide) (by decide),qi _ (by omega) (by omega)⟩
  ·delta Rh
   walk_at "ev"
   simp only[g]
   have p18:CPow 10 18:=⟨by decide,by decide,by decide⟩
   have e18:(10:Int) ^ (18:Int).toNat=1000000000000000000:=by decide
   have r1:=Ir (qdiv (n:Int) 24) (show(1000:Int)≠0 by decide)
   have r2:=Iy (qdiv (n:Int) 24) (show(0:Int)<1000 by decide)
   refine⟨a,k,rfl,hs,fun v _=>?_⟩
   walk_at "ev"
   refine⟨p18,by decide,Zi (by decide) (by decide),mulR (by rw[qm (by decide)];omega) (by rw[qm (by decide)];omega),p18,by decide,Zi (by decide) (by decide),?_⟩
   have fin:∀b:Int,0≤b→b<1000000000000000000→tss ⟨K,Γ,G⟩ noX We {nx:=fun _ M=>Q .non M,rt:=Q} [some (.ref a),some (.int k),some (.ref r),some (.int n),some (.int b)] M:=by
    intro b hb0 hb
    delta We
    walk_at "ev"
    refine⟨Zi (by decide) (by decide),?_⟩
    split
    ·exact qi _ (by omega) (by omega)
    ·delta Rn
     walk_at "ev"
     exact qi _ (by omega) (by omega)
   split
   ·refine⟨p18,Zi (by decide) (by decide),fin _ ?_ ?_⟩<;>(rw[e18,qm (by decide)];omega)
   ·refine fin _ ?_ ?_<;>(rw[e18,qm (by decide)];omega)
end
inductive Ln where
 | cond (a:Opd) (s:Str) (b:Opd) | sum (x:Str) (a:Opd) (s:Str) (b:Opd) | rnd (n:Int) | prt (n:Int) | lve (n:Int) | agn (n:Int) | els | don | fin
noncomputable def Ln.d:Ln→D
 | .cond a s b=> .tup [.str "if",a.d,.str s,b.d]
 | .sum x a s b=> .tup [.str "sum",.str x,a.d,.str s,b.d]
 | .rnd n=> .tup [.str "round",.int n]
 | .prt n=> .tup [.str "part",.int n]
 | .lve n=> .tup [.str "leave",.int n]
 | .agn n=> .tup [.str "again",.int n]
 | .els=> .tup [.str "else"]
 | .don=> .tup [.str "done"]
 | .fin=> .tup [.str "end"]
noncomputable def Ln.beg:Ln→Bool
 | .cond _ _ _ | .rnd _ | .prt _=>true
 | _=>false
noncomputable def Ln.pl:Ln→Bool
 | .els | .don=>false
 | _=>true
inductive Tp where
 | cif | cel | crd | cpt
noncomputable def Tp.s:Tp→Str
 | .cif=>"if" | .cel=>"else" | .crd=>"round" | .cpt=>"part"
noncomputable def seD(x:Tp×Int):D:= .tup [.str x.1.s,.int x.2]
noncomputable def stp:List Tp→Ln→Option (List Tp)
 | st,.cond _ _ _=>some (.cif::st)
 | st,.rnd _=>some (.crd::st)
 | st,.prt _=>some (.cpt::st)
 | .cif::st,.els=>some (.cel::st)
 | _,.els=>none
 | _::st,.don=>some st
 | [],.don=>none
 | st,_=>some st
noncomputable def run:List Tp→List Ln→Option (List Tp)
 | st,[]=>some st
 | st,l::ls=>(stp st l).bind fun t=>run t ls
theorem Eu(ls ms:List Ln)(st:List Tp):run st (ls++ms)=(run st ls).bind fun t=>run t ms:=by
 induction ls generalizing st with
 | nil=>rfl
 | cons l ls ih=>
  show(stp st l).bind _=((stp st l).bind _).bind _
  cases stp st l with
  | none=>rfl
  | some t=>exact ih t
noncomputable def tps(ss:List (Tp×Int)):List Tp:=(ss.map (·.1)).reverse
theorem Wv(ss:List (Tp×Int))(x:Tp×Int):tps (ss++[x])=x.1::tps ss:=by unfold tps;simp
noncomputable def six:List Str:=["+","-","/","rest","&","^"]
noncomputable def two:List Str:=["<","="]
noncomputable def hm(f k:Nat):Int:=(((f+97 * k) % 10000:Nat):Int)
def Ln.ok(f k:Nat)(ss:List (Tp×Int)):Ln→Prop
 | .cond a s b=>a.ok∧s∈two∧b.ok
 | .sum x a s b=>Nam x∧a.ok∧s∈six∧b.ok
 | .rnd n=>n=hm f k
 | .prt n=>n=hm f k
 | .lve n=>∃t,(t,n)∈ss∧0≤n
 | .agn n=>(Tp.crd,n)∈ss
 | _=>True
def nxt(ss:List (Tp×Int)):Ln→List (Tp×Int)→Prop
 | .cond _ _ _,ss'=>ss'=ss++[(.cif,-1)]
 | .rnd n,ss'=>ss'=ss++[(.crd,n)]
 | .prt n,ss'=>ss'=ss++[(.cpt,n)]
 | .els,ss'=>∃tl n,ss=tl++[(.cif,n)]∧ss'=tl++[(.cel,-1)]
 | .don,ss'=>∃x,ss=ss'++[x]
 | _,ss'=>ss'=ss
theorem Y48{ss ss':List (Tp×Int)}{l:Ln}(h:nxt ss l ss'):stp (tps ss) l=some (tps ss'):=by
 cases l with
 | cond a s b=>rw[show ss'=_ from h,Wv];rfl
 | rnd n=>rw[show ss'=_ from h,Wv];rfl
 | prt n=>rw[show ss'=_ from h,Wv];rfl
 | els=>obtain⟨tl,n,rfl,rfl⟩:=h;rw[Wv,Wv];rfl
 | don=>obtain⟨x,rfl⟩:=h;rw[Wv];rfl
 | _=>rw[show ss'=_ from h];rfl
def Dr(f:Nat):Nat→List (Tp×Int)→List Ln→List (Tp×Int)→Prop
 | _,ss,[],ss'=>ss'=ss
 | k,ss,l::ls,ss'=>l.ok f k ss∧∃s1,nxt ss l s1∧s1.length≤60∧Dr f (k+1) s1 ls ss'
theorem Dr.snoc{f:Nat}:∀{ls:List Ln} {k:Nat} {ss s1 s2:List (Tp×Int)} {l:Ln},Dr f k ss ls s1→l.ok f (k+ls.length) s1→nxt s1 l s2→s2.length≤60→Dr f k ss (ls++[l]) s2
 | [],k,ss,s1,s2,l,h,h1,h2,h3=>by cases h;exact⟨h1,s2,h2,h3,rfl⟩
 | m::ls,k,ss,s1,s2,l,⟨a,t,b,b',c⟩,h1,h2,h3=>⟨a,t,b,b',Dr.snoc c (by rw[show k+1+ls.length=k+(m::ls).length by rw[Aj];omega];exact h1) h2 h3⟩
noncomputable def Xx(ns:List Int):Nat:=([mixI ns 911 / 8 % 10000,0,9999].getD (mixI ns 911 % 3).toNat 0).toNat
def Y5:DSp:=fun ds M Q _=>∃l:Ln,ds=[l.d]∧Q (.bl l.beg) M
noncomputable def isDd:Ln→Bool
 | .cond _ _ _ | .sum _ _ _ _=>true
 | _=>false
def Sy:DSp:=fun ds M Q _=>∃(a k r v:Nat),ds=[.ref a,.int k,.ref r,.int v]∧Scr M a∧Nms M r∧∀(l:Ln) M',(∀f k ss,l.ok f k ss)→isDd l=true→(l.beg=true→v % 24<4)→Kp M M'→Q l.d M'
def Qe:DSp:=fun ds M Q _=>∃(r v:Nat) (ss:List (Tp×Int)),ds=[.ref r,.int v]∧Za M r=some (ss.map seD)∧ss.length≤1000∧∀M',Kp M M'→Q .non M'∧∀l:Ln,(∀f k,l.ok f k ss)→l.pl=true→l.beg=false→Q l.d M'
def Qa:DSp:=fun ds M Q _=>∃(a:Nat) (ns:List Int),ds=[.ref a]∧Za M a=some (ns.map .int)∧ns.length≤63∧∀M',Kp M M'→Q (.int (Xx ns)) M'
def Sh:DSp:=fun ds M Q _=>∃(r v:Nat) (ss:List (Tp×Int)) (x:Tp×Int),ds=[.ref r,.int v]∧Z3 M r=some ((ss++[x]).map seD)∧ss.length≤1000∧
 ∀(l:Ln) (ss':List (Tp×Int)) M',(∀f k ss,l.ok f k ss)→nxt (ss++[x]) l ss'→ss'.length≤ss.length+1→Ks (·=r) M M'→Z3 M' r=some (ss'.map seD)→Q l.d M'
def Zf1:DSp:=fun ds M Q _=>∃(a k nm r:Nat) (ss:List (Tp×Int)) (ns:List Int),ds=[.ref a,.int k,.ref nm,.ref r]∧Za M a=some (ns.map .int)∧ns.length≤63∧Nms M nm∧a≠r∧nm≠r∧k≤100∧Z3 M r=some (ss.map seD)∧ss.length≤60∧
 ∀(l:Ln) (ss':List (Tp×Int)) M',l.ok (Xx ns) k ss→nxt ss l ss'→ss'.length≤60→Ks (·=r) M M'→Z3 M' r=some (ss'.map seD)→Q l.d M'
theorem S0{M:Z2}{m n:Nat}{xs:List D}{B:Bool→Prop}(h1:Za M m=some xs)(h2:Za M n=some [])(q:B xs.isEmpty):eqD M (.ref m) (.ref n) B:= .inr (.inr (.inl ⟨m,n,xs,rfl,rfl,h1,h2,q⟩))
section
variable{K:Ad}
theorem Zj8{Γ G}:Rd K Γ G Y5 Fc Gu:=by
 rintro ds M Q Z ⟨l,rfl,q⟩
 delta Fc Gu
 cases l<;>simp only[Ln.d]<;>walk_at "ev" <;>exact q
theorem Y56{Γ G}(g:Γ[34]?=some Pn):Rd K Γ G Sy Zc4 Z97:=by
 rintro ds M Q Z ⟨a,k,r,v,rfl,hs,hn,q⟩
 obtain⟨nl,hl,hna,hr⟩:=id hn
 delta Zc4 Z97
 walk_at "ev"
 have nz:∀c m:Int,0<m→∃n:Nat,qdiv (qmod c m) 8=n:=by
  intro c m hm
  rw[qm hm,qd (by decide)]
  exact⟨(c % m / 8).toNat,by have:=Int.ediv_nonneg (Ir c (show m≠0 by omega)) (show(0:Int)≤8 by decide);omega⟩
 obtain⟨n1,e1⟩:=nz (v * 16807) 2147483563 (by decide)
 obtain⟨n2,e2⟩:=nz (v * 39373) 2147483543 (by decide)
 simp only[g]
 refine⟨mulR (by decide) (by decide),Zi (by decide) (by decide),a,k,r,n1,by rw[e1],hs,hn,fun o1 h1=>?_⟩
 refine⟨mulR (by decide) (by decide),Zi (by decide) (by decide),a,k+1,r,n2,by rw[e2];rfl,hs,hn,fun o2 h2=>?_⟩
 split
 ·rename_i h4
  refine⟨Z0 (by decide),Zi (by decide) (by decide),ix_m (Ze _ _ []) rfl (by decide) fun d hd=>?_⟩
  have:∃s:Str,d= .str s∧s∈two:=by
   simp only[Ag,Dc,or_false] at hd
   rcases hd with rfl | rfl<;>exact⟨_,rfl,by decide+kernel⟩
  obtain⟨s,rfl,hs2⟩:=this
  exact⟨Z0 (by decide),q (.cond o1 s o2) _ (fun _ _ _=>⟨h1,hs2,h2⟩) rfl (fun _=>by rw[qm (by decide)] at h4;omega) (Ks.new _ _)⟩
 ·delta Ga
  walk_at "ev"
  refine⟨Z0 (by decide),Zi (by decide) (by decide),ix_m (Ze _ _ []) rfl (by decide) fun d hd=>?_⟩
  have:∃s:Str,d= .str s∧s∈six:=by
   simp only[Ag,Dc,or_false] at hd
   rcases hd with rfl | rfl | rfl | rfl | rfl | rfl<;>exact⟨_,rfl,by decide+kernel⟩
  obtain⟨s,rfl,hs6⟩:=this
  refine⟨Zi (by decide) (by decide),ix_m (Zd hr) (by rw[Ac,hl];rfl) (by rw[Ac];omega) fun d hd=>?_⟩
  obtain⟨x,hx,rfl⟩:=Hf.mp hd
  exact⟨Z0 (by decide),q (.sum x o1 s o2) _ (fun _ _ _=>⟨hna x hx,h1,hs6,h2⟩) rfl (fun z=>by cases z) (Ks.new _ _)⟩
end
section
variable{K:Ad}
theorem Zo9{Γ G}(g:Γ[29]?=some Z53):Rd K Γ G Qa Z25 Z02:=by
 rintro ds M Q Z ⟨a,ns,rfl,hr,hl,q⟩
 delta Z25 Z02
 walk_at "ev"
 simp only[g]
 refine⟨a,911,rfl,⟨ns,hr,hl⟩,by decide,fun v hv ev=>?_⟩
 have ev:=ev ns hr
 walk_at "ev"
 rw[qd (by decide),qm (by decide),qm (by decide),ev]
 have q0:=q (M++[.lst [.int (mixI ns 911 / 8 % 10000),.int 0,.int 9999]]) (Ks.new _ _)
 unfold Xx at q0
 have m0:0≤mixI ns 911:=by omega
 have m1:=Ir (mixI ns 911) (show(3:Int)≠0 by decide)
 have m2:=Iy (mixI ns 911) (show(0:Int)<3 by decide)
 have m3:0≤mixI ns 911 / 8 % 10000:=Ir _ (by decide)
 generalize mixI ns 911 / 8 % 10000=x at q0 m3 ⊢
 refine⟨Zi (by decide) (by decide),Z0 (by decide),?_⟩
 generalize mixI ns 911 % 3=y at q0 m1 m2 ⊢
 obtain rfl | rfl | rfl:y=0∨y=1∨y=2:=by omega
 ·refine ix_l (k:=0) (Ze _ _ []) rfl ?_
  have e:((([x,0,9999].getD (0:Int).toNat 0).toNat:Nat):Int)=x:=by show((x.toNat:Nat):Int)=x;omega
  rw[e] at q0
  exact q0
 ·exact ix_l (k:=1) (Ze _ _ []) rfl q0
 ·exact ix_l (k:=2) (Ze _ _ []) rfl q0
theorem Yi3{ss:List (Tp×Int)}{i:Nat}{d:D}(h:(ss.map seD)[i]?=some d):∃x:Tp×Int,x∈ss∧d=seD x:=by
 rw[As] at h
 cases e:ss[i]? with
 | none=>rw[e] at h;cases h
 | some x=>rw[e] at h;cases h;exact⟨x,Hx e,rfl⟩
theorem Yg6{t:Tp}(h:t.s="round"):t= .crd:=by
 cases t with
 | crd=>rfl
 | _=>exact absurd h (by decide+kernel)
theorem Y61{Γ G}:Rd K Γ G Qe Zk2 Zg7:=by
 rintro ds M Q Z ⟨r,v,ss,rfl,hr,hl,q⟩
 have comp:∀(M0:Z2) (cd:DT) (p:Tp×Int→Bool) (F:Z2→Prop),Za M0 r=some (ss.map seD)→(∀M1 (x:Tp×Int) (B:Bool→Z2→Prop),B (p x) M1→cd [some (seD x)] M1 B)→
   (∀(ns:List Int) M',Kp M0 M'→Z3 M' M0.length=some (ns.map .int)→ns.length≤1000→(∀n∈ns,∃x∈ss,p x=true∧x.2=n)→F M')→Pb (.lst r) (ss.map seD) [0] cd (te ⟨K,Γ,G⟩ noX (.ix (.var 0) (.int 1))) M0.length (ss.map seD) [none] (M0++[.lst []]) F:=by
  intro M0 cd p F h0 hcd fin
  refine X2 (fun i σ M'=>∃(d:Option D) (ns:List Int),σ=[d]∧Kp M0 M'∧Z3 M' M0.length=some (ns.map .int)∧ns.length≤i∧∀n∈ns,∃x∈ss,p x=true∧x.2=n) ⟨none,[],rfl,Ks.new _ _,Z5 _ _ [],Nat.le_refl _,fun n hn=>by cases hn⟩ ?_ ?_ ?_
  ·rintro i σ M' _ ⟨d,ns,rfl,k,e,l⟩
   exact k.pL h0
  ·rintro i d σ M' C hd ⟨d0,ns,rfl,k,e,l,lm⟩ hC
   obtain⟨x,hxm,rfl⟩:=Yi3 hd
   rw[tg_one]
   refine hcd _ _ _ ?_
   cases hb:p x with
   | false=>exact hC _ _ ⟨_,ns,rfl,k,e,by omega,lm⟩
   | true=>
    have hi:=(Af.mp hd).1
    rw[Ac] at hi
    rw[if_pos rfl]
    simp only[seD]
    walk_at "ev"
    refine⟨_,e,Z6 (by rw[Ac];omega),hC _ _ ⟨_,ns++[x.2],rfl,k.set (.inr (Nat.le_refl _)),?_,by rw[Ab,Aq];omega,fun n hn=>?_⟩⟩
    ·rw[Z8 (Z9 (Z1 e)),Am]
     rfl
    ·rcases Bk.mp hn with hn | hn
     ·exact lm n hn
     ·rw[An] at hn
      exact⟨x,hxm,hb,hn.symm⟩
  ·rintro σ M' ⟨d,ns,rfl,k,e,l,lm⟩
   rw[Ac] at l
   exact fin ns M' k e (by omega) lm
 delta Zk2 Zg7
 walk_at "ev"
 refine⟨_,hr,comp M _ (fun x=>decide (0≤x.2)) _ hr ?_ fun ns M1 k1 e1 l1 m1=>?_⟩
 ·intro M1 x B hB
  simp only[seD]
  walk_at "ev"
  exact hB
 try walk_at "ev"
 have hr1:=k1.pL hr
 refine⟨_,hr1,comp M1 _ (fun x=>decide (x.1.s="round")) _ hr1 ?_ fun ms M2 k2 e2 l2 m2=>?_⟩
 ·intro M1 x B hB
  simp only[seD]
  walk_at "ev"
  exact hB
 have k12:Kp M M2:=k1.trans k2
 have e1':=k2.pW e1
 have fin:∀M3,Kp M M3→Z3 M3 M.length=some (ns.map .int)→tss ⟨K,Γ,G⟩ noX Qq {nx:=fun _ M=>Q .non M,rt:=Q} [some (.ref r),some (.int v),some (.ref M.length),some (.ref M1.length)] M3:=by
  intro M3 k3 e3
  delta Qq
  walk_at "ev"
  refine⟨Z0 (by decide),S0 (Zd (Z1 e3)) (Ze _ _ []) ?_⟩
  try walk_at "ev"
  have k4:Kp M (M3++[.lst []]):=k3.app _
  cases ns with
  | nil=>exact(q _ k4).1
  | cons n ns=>
   simp only[Ff,De,List.isEmpty_cons]
   walk_at "ev"
   refine⟨Zi (by decide) (by decide),Zk (Zd (Z1 e3)) ?_⟩
   walk_at "ev"
   refine⟨by simp only[Ac,Aj];omega,ix_m (Zd (Z1 e3)) (by simp) (Nat.succ_pos _) fun d hd=>?_⟩
   obtain⟨i,hi,rfl⟩:=Hf.mp hd
   obtain⟨x,hx1,hx2,hx3⟩:=m1 i hi
   exact⟨Z0 (by decide),(q _ k4).2 (.lve i) (fun _ _=>⟨x.1,by rw[←hx3];exact hx1,by rw[←hx3];exact of_decide_eq_true hx2⟩) rfl rfl⟩
 try walk_at "ev"
 split
 ·refine⟨Z0 (by decide),S0 (Zd (Z1 e2)) (Ze _ _ []) ?_⟩
  have k4:Kp M (M2++[.lst []]):=k12.app _
  cases ms with
  | nil=>exact fin _ k4 (Z7 e1')
  | cons n ms=>
   simp only[De,List.isEmpty_cons]
   try walk_at "ev"
   refine⟨Zi (by decide) (by decide),Zk (Zd (Z1 e2)) ?_⟩
   walk_at "ev"
   refine⟨by simp only[Ac,Aj];omega,ix_m (Zd (Z1 e2)) (by simp) (Nat.succ_pos _) fun d hd=>?_⟩
   obtain⟨i,hi,rfl⟩:=Hf.mp hd
   obtain⟨⟨t,x⟩,hx1,hx2,hx3⟩:=m2 i hi
   have ht:t= .crd:=Yg6 (of_decide_eq_true hx2)
   subst ht
   exact⟨Z0 (by decide),(q _ k4).2 (.agn i) (fun _ _=>by rw[←hx3];exact hx1) rfl rfl⟩
 ·exact fin _ k12 e1'
theorem Zm8{Γ G}:Rd K Γ G Sh Bx Z13:=by
 rintro ds M Q Z ⟨r,v,ss,x,rfl,hr,hl,q⟩
 have lt:=Z9 (Z1 hr)
 delta Bx Z13
 walk_at "ev"
 have el:((ss++[x]).map seD)[((ss++[x]).map seD).length - 1]?=some (seD x):=by
  rw[Am,Ab]
  simp
 refine⟨Zb (Z1 hr),_,_,hr,el,?_⟩
 have dl:((ss++[x]).map seD).dropLast=ss.map seD:=by rw[Am];simp
 rw[dl]
 have e1:Z3 (M.set r (.lst (ss.map seD))) r=some (ss.map seD):=Z8 lt
 have k1:Ks (·=r) M (M.set r (.lst (ss.map seD))):=(Ks.refl M).set (.inl rfl)
 have don:tss ⟨K,Γ,G⟩ noX Sl {nx:=fun _ M=>Q .non M,rt:=Q} [some (.ref r),some (.int v),some (seD x)] (M.set r (.lst (ss.map seD))):=by
  delta Sl
  walk_at "ev"
  exact⟨Z0 (by decide),q .don ss _ (fun _ _ _=>trivial) ⟨x,rfl⟩ (by omega) k1 e1⟩
 obtain⟨t,n⟩:=x
 cases t with
 | cif=>
  simp only[seD,Tp.s]
  walk_at "ev"
  refine⟨Zi (by decide) (by decide),?_⟩
  split
  ·refine⟨Zb (Z1 e1),Z0 (by decide),_,e1,Z6 (by rw[Ac];omega),Z0 (by decide),q .els (ss++[(.cel,-1)]) _ (fun _ _ _=>trivial) ⟨ss,n,rfl,rfl⟩ (by simp) (k1.set (.inl rfl)) ?_⟩
   rw[Z8 (Z9 (Z1 e1)),Am]
   rfl
  ·exact don
 | _=>
  simp only[seD,Tp.s]
  walk_at "ev"
  exact don
end
section
variable{K:Ad}{Γ:List DSp}{G:List D}{a k nm r v w:Nat}{ss:List (Tp×Int)}{ns:List Int}{M0:Z2}{Q:DK}
theorem Cq{α:Type}(xs:List α)(x:α):atI (xs++[x]) (-1)=some x:=by
 unfold atI ixN
 rw[if_neg (by decide),if_pos (by rw[Ab,Aq];omega)]
 show(xs++[x])[_]?=some x
 rw[show(-1+((xs++[x]).length:Int)).toNat=xs.length by rw[Ab,Aq];omega]
 simp
def Sw(ns:List Int)(k r:Nat)(ss:List (Tp×Int))(M0:Z2)(Q:DK):Prop:=∀(l:Ln) (ss':List (Tp×Int)) M',l.ok (Xx ns) k ss→nxt ss l ss'→ss'.length≤60→Ks (·=r) M0 M'→Z3 M' r=some (ss'.map seD)→Q l.d M'
structure Sa(ns:List Int)(a nm r:Nat)(ss:List (Tp×Int))(M0 M:Z2):Prop where
 k:Kp M0 M
 s:Za M a=some (ns.map .int)
 ln:ns.length≤63
 n:Nms M nm
 e:Z3 M r=some (ss.map seD)
 l:ss.length≤60
theorem Sa.mv{M M':Z2}(h:Sa ns a nm r ss M0 M)(k:Kp M M'):Sa ns a nm r ss M0 M':=⟨h.k.trans k,k.pL h.s,h.ln,h.n.ks k fun z=>z,k.pW h.e,h.l⟩
noncomputable abbrev Se6(a k nm r v w:Nat)(d:D):DEnv:=[some (.ref a),some (.int k),some (.ref nm),some (.ref r),some (.int v),some (.int w),some d]
theorem Zk8{l:Ln}(h:isDd l=true):l.pl=true:=by cases l<;>first | rfl | cases h
theorem st_2(g:Γ[35]?=some Y5){l:Ln}{M:Z2}(hl:l.pl=true)(ho:l.ok (Xx ns) k ss)(hb:l.beg=true→ss.length<60)(S:Sa ns a nm r ss M0 M)(q:Sw ns k r ss M0 Q):tss ⟨K,Γ,G⟩ noX Qt {nx:=fun _ M=>Q .non M,rt:=Q} (Se6 a k nm r v w l.d) M:=by
 have kr:Ks (·=r) M0 M:=S.k.mono fun _ _ z=>z.elim
 have put:∀(M1:Z2) (l:Ln) (x:Tp×Int),Kp M M1→l.ok (Xx ns) k ss→ss.length<60→nxt ss l (ss++[x])→tss ⟨K,Γ,G⟩ noX Wn {nx:=fun _ M=>Q .non M,rt:=Q} (Se6 a k nm r v w l.d) (M1.set r (.lst (ss.map seD++[seD x]))):=by
  intro M1 l x k1 e1 e2 e3
  delta Wn
  walk_at "ev"
  refine q l (ss++[x]) _ e1 e3 (by rw[Ab,Aq];omega) ((S.k.trans k1).mono (fun _ _ z=>z.elim) |>.set (.inl rfl)) ?_
  rw[Z8 (Z9 (Z1 (k1.pW S.e))),Am]
  rfl
 have stay:nxt ss l ss→tss ⟨K,Γ,G⟩ noX Wn {nx:=fun _ M=>Q .non M,rt:=Q} (Se6 a k nm r v w l.d) M:=by
  intro e1
  delta Wn
  walk_at "ev"
  exact q l ss _ ho e1 S.l kr S.e
 delta Qt
 walk_at "ev"
 simp only[g]
 refine⟨l,rfl,?_⟩
 walk_at "ev"
 have hz:=S.l
 cases l with
 | cond x s y=>
  simp only[Ln.beg,Ln.d]
  walk_at "ev"
  refine⟨Zb (Z1 S.e),Z0 (by decide),?_⟩
  refine ix_l (k:=1) (xs:=[x.d,.int (-1)]) (Ze _ _ []) rfl ⟨Z0 (by decide),_,Z7 S.e,Z6 (by rw[Ac];omega),?_⟩
  exact put (M++[.lst [x.d,.int (-1)]]) (.cond x s y) (.cif,-1) (Ks.new _ _) ho (hb rfl) rfl
 | rnd n=>
  simp only[Ln.beg,Ln.d]
  walk_at "ev"
  refine⟨Zb (Z1 S.e),Z0 (by decide),?_⟩
  refine ix_l (k:=0) (xs:=[.int n,.int (-1)]) (Ze _ _ []) rfl ⟨Z0 (by decide),_,Z7 S.e,Z6 (by rw[Ac];omega),?_⟩
  exact put (M++[.lst [.int n,.int (-1)]]) (.rnd n) (.crd,n) (Ks.new _ _) ho (hb rfl) rfl
 | prt n=>
  simp only[Ln.beg,Ln.d]
  walk_at "ev"
  refine⟨Zb (Z1 S.e),Z0 (by decide),?_⟩
  refine ix_l (k:=0) (xs:=[.int n,.int (-1)]) (Ze _ _ []) rfl ⟨Z0 (by decide),_,Z7 S.e,Z6 (by rw[Ac];omega),?_⟩
  exact put (M++[.lst [.int n,.int (-1)]]) (.prt n) (.cpt,n) (Ks.new _ _) ho (hb rfl) rfl
 | els=>cases hl
 | don=>cases hl
 | _=>exact stay rfl
def Lo(ns:List Int)(k:Nat)(ss:List (Tp×Int))(d:D):Prop:=d= .non∨∃l:Ln,l.pl=true∧l.ok (Xx ns) k ss∧(l.beg=true→ss.length<60)∧d=l.d
theorem st_3(g:Γ[35]?=some Y5)(gd:Γ[36]?=some Sy){d:D}{M:Z2}(hd:Lo ns k ss d)(S:Sa ns a nm r ss M0 M)(q:Sw ns k r ss M0 Q):tss ⟨K,Γ,G⟩ noX Tf {nx:=fun _ M=>Q .non M,rt:=Q} (Se6 a k nm r v w d) M:=by
 delta Tf
 rcases hd with rfl | ⟨l,hl,ho,hb,rfl⟩
 ·walk_at "ev"
  simp only[gd]
  obtain⟨u,hu,hu2⟩:∃u:Nat,qdiv (v:Int) 24 * 24+18=u∧u % 24=18:=by
   rw[qd (by decide)]
   exact⟨((v:Int) / 24 * 24+18).toNat,by omega,by omega⟩
  refine⟨Zi (by decide) (by decide),mulR (by decide) (by decide),a,k,nm,u,by rw[hu],⟨ns,S.s,S.ln⟩,S.n,fun l M' hl hd hb k'=>?_⟩
  try walk_at "ev"
  exact st_2 g (Zk8 hd) (hl _ _ _) (fun z=>absurd (hb z) (by omega)) (S.mv k') q
 ·have key:=st_2 (K:=K) (G:=G) (k:=k) (v:=v) (w:=w) g hl ho hb S q
  cases l<;>simp only[Ln.d] at key ⊢ <;>walk_at "ev" <;>exact key
theorem st_4(g:Γ[35]?=some Y5)(gd:Γ[36]?=some Sy){d:D}{M:Z2}(hd:Lo ns k ss d)(S:Sa ns a nm r ss M0 M)(q:Sw ns k r ss M0 Q):tss ⟨K,Γ,G⟩ noX Wh {nx:=fun _ M=>Q .non M,rt:=Q} (Se6 a k nm r v w d) M:=by
 have nx:∀{d:D} {M:Z2},Lo ns k ss d→Sa ns a nm r ss M0 M→tss ⟨K,Γ,G⟩ noX Tf {nx:=fun _ M=>Q .non M,rt:=Q} (Se6 a k nm r v w d) M:=fun hd S=>st_3 g gd hd S q
 delta Wh
 walk_at "ev"
 split
 ·refine⟨Z0 (by decide),S0 (Zd (Z1 S.e)) (Ze _ _ []) ?_⟩
  have S1:Sa ns a nm r ss M0 (M++[.lst []]):=S.mv (Ks.new _ _)
  rcases Ij ss with rfl | ⟨tl,x,rfl⟩
  ·exact nx hd S1
  ·have e1:((tl.concat x).map seD).isEmpty=false:=by simp
   rw[e1,if_pos rfl]
   refine X9 (Z1 S1.e) (show atI ((tl.concat x).map seD) (-1)=some (seD x) by rw[Ht,Am];exact Cq _ _) ?_
   simp only[seD]
   walk_at "ev"
   refine⟨Z0 (by decide),.inl ⟨_,Ze _ _ [],rfl,rfl,?_⟩⟩
   have S2:=S1.mv (Ks.new (M++[.lst []]) [.lst [.str "if",.str "else"]])
   dsimp only
   split
   ·exact⟨Z0 (by decide),nx (d:=(Ln.fin).d) (.inr ⟨.fin,rfl,trivial,(fun z=>by cases z),rfl⟩) S2⟩
   ·exact nx hd S2
 ·exact nx hd S
theorem st_5(g:Γ[35]?=some Y5)(gd:Γ[36]?=some Sy)(gg:Γ[37]?=some Qe){d:D}{M:Z2}(hd:Lo ns k ss d)(S:Sa ns a nm r ss M0 M)(q:Sw ns k r ss M0 Q):tss ⟨K,Γ,G⟩ noX Wl {nx:=fun _ M=>Q .non M,rt:=Q} (Se6 a k nm r v w d) M:=by
 have nx:∀{d:D} {M:Z2},Lo ns k ss d→Sa ns a nm r ss M0 M→tss ⟨K,Γ,G⟩ noX Wh {nx:=fun _ M=>Q .non M,rt:=Q} (Se6 a k nm r v w d) M:=fun hd S=>st_4 g gd hd S q
 delta Wl
 walk_at "ev"
 simp only[gg]
 have hz:=S.l
 have go:Qe [.ref r,.int v] M (fun d' M'=>tss ⟨K,Γ,G⟩ noX Wh {nx:=fun _ M=>Q .non M,rt:=Q} (Se6 a k nm r v w d') M') noX:=
  ⟨r,v,ss,rfl,Z1 S.e,by omega,fun M' k'=>⟨nx (.inl rfl) (S.mv k'),fun l ho hl hb=>nx (.inr ⟨l,hl,ho _ _,(fun z=>by rw[hb] at z;cases z),rfl⟩) (S.mv k')⟩⟩
 split
 ·split
  ·exact go
  ·exact nx hd S
 ·exact nx hd S
theorem st_6(g:Γ[35]?=some Y5)(gd:Γ[36]?=some Sy)(gg:Γ[37]?=some Qe)(gc:Γ[39]?=some Sh){d:D}{M:Z2}(hd:Lo ns k ss d)(S:Sa ns a nm r ss M0 M)(q:Sw ns k r ss M0 Q):tss ⟨K,Γ,G⟩ noX W1 {nx:=fun _ M=>Q .non M,rt:=Q} (Se6 a k nm r v w d) M:=by
 have nx:∀{d:D} {M:Z2},Lo ns k ss d→Sa ns a nm r ss M0 M→tss ⟨K,Γ,G⟩ noX Wl {nx:=fun _ M=>Q .non M,rt:=Q} (Se6 a k nm r v w d) M:=fun hd S=>st_5 g gd gg hd S q
 delta W1
 walk_at "ev"
 simp only[gc]
 have hz:=S.l
 have cl:sizeLine ≥ 0∧eqD (M++[.lst []]) (.ref r) (.ref M.length) fun b=>if b=false then Sh [.ref r,.int v] (M++[.lst []]) Q noX else tss ⟨K,Γ,G⟩ noX Wl {nx:=fun _ M=>Q .non M,rt:=Q} (Se6 a k nm r v w d) (M++[.lst []]):=by
  refine⟨Nat.zero_le _,S0 (Zd (Z1 S.e)) (Ze _ _ []) ?_⟩
  have S1:Sa ns a nm r ss M0 (M++[.lst []]):=S.mv (Ks.new _ _)
  rcases Ij ss with rfl | ⟨tl,x,rfl⟩
  ·exact nx hd S1
  ·have e1:((tl.concat x).map seD).isEmpty=false:=by simp
   rw[e1,if_pos rfl]
   rw[Ht] at S1 q hz
   refine⟨r,v,tl,x,rfl,S1.e,by rw[Ab] at hz;omega,fun l ss' M' h0 h1 h2 h3 h4=>q l ss' M' (h0 _ _ _) h1 (by rw[Ab,Aq] at hz;omega) ?_ h4⟩
   exact(S1.k.mono fun _ _ z=>z.elim).trans h3
 split
 ·split
  ·exact cl
  ·exact nx hd S
 ·exact nx hd S
theorem st_7(g:Γ[35]?=some Y5)(gd:Γ[36]?=some Sy)(gg:Γ[37]?=some Qe)(gc:Γ[39]?=some Sh)(gf:Γ[38]?=some Qa){d:D}{M:Z2}(hd:Lo ns k ss d)(S:Sa ns a nm r ss M0 M)(q:Sw ns k r ss M0 Q):tss ⟨K,Γ,G⟩ noX Ta {nx:=fun _ M=>Q .non M,rt:=Q} (Se6 a k nm r v w d) M:=by
 have nx:∀{d:D} {M:Z2},Lo ns k ss d→Sa ns a nm r ss M0 M→tss ⟨K,Γ,G⟩ noX W1 {nx:=fun _ M=>Q .non M,rt:=Q} (Se6 a k nm r v w d) M:=fun hd S=>st_6 g gd gg gc hd S q
 delta Ta
 walk_at "ev"
 simp only[gf]
 split
 ·split
  ·refine Zk (Z1 S.e) ?_
   walk_at "ev"
   split
   ·refine⟨Z0 (by decide),?_⟩
    have hlen:=Ac (as:=ss) seD
    have fin:∀(i:Nat) (c:Int→Ln),(∀n,(c n).pl=true)→(∀n,n=hm (Xx ns) k→(c n).ok (Xx ns) k ss)→(∀n:Int,(c n).d= .tup [[D.str "round",D.str "part"].getD i .non,.int n])→i<2→ixD (M++[.lst [.str "round",.str "part"]]) (.ref M.length) (.int (i:Nat)) fun d=>Qa [.ref a] (M++[.lst [.str "round",.str "part"]]) (fun x M1=>IntMulOk 97 (k:Int)∧opD .add x (.int (97 * (k:Int))) M1 fun x M1=>opD .mod x (.int 10000) M1 fun d1 M1=>2≤sizeLine∧tss ⟨K,Γ,G⟩ noX W1 {nx:=fun _ M=>Q .non M,rt:=Q} [some (.ref a),some (.int k),some (.ref nm),some (.ref r),some (.int v),some (.int w),some (.tup [d,d1])] M1) noX:=by
     intro i c h1 h0 h2 hi
     refine ix_l (k:=i) (d:=[D.str "round",D.str "part"].getD i .non) (Ze _ _ []) ?_ ?_
     ·rw[Dk,Ae (by simpa using hi)]
      rfl
     have S1:Sa ns a nm r ss M0 (M++[.lst [.str "round",.str "part"]]):=S.mv (Ks.new _ _)
     refine⟨a,ns,rfl,S1.s,S1.ln,fun M' k'=>⟨mulL (by decide) (by decide),?_⟩⟩
     walk_at "ev"
     refine⟨Z0 (by decide),?_⟩
     rw[←h2]
     exact nx (.inr ⟨_,h1 _,h0 _ (by unfold hm;rw[qm (by decide)];omega),(fun _=>by omega),rfl⟩) (S1.mv k')
    split
    ·exact fin 1 .prt (fun _=>rfl) (fun _ h=>h) (fun _=>rfl) (by decide)
    ·exact fin 0 .rnd (fun _=>rfl) (fun _ h=>h) (fun _=>rfl) (by decide)
   ·exact nx hd S
  ·exact nx hd S
 ·exact nx hd S
theorem Y86(gm:Γ[29]?=some Z53)(g:Γ[35]?=some Y5)(gd:Γ[36]?=some Sy)(gg:Γ[37]?=some Qe)(gc:Γ[39]?=some Sh)(gf:Γ[38]?=some Qa):Rd K Γ G Zf1 Zd7 Zh3:=by
 rintro ds M Q Z ⟨a,k,nm,r,ss,ns,rfl,hs,hln,hn,_,_,hk,he,hl,q⟩
 have S:Sa ns a nm r ss M M:=⟨Ks.refl M,hs,hln,hn,he,hl⟩
 delta Zd7 Zh3
 walk_at "ev"
 simp only[gm]
 refine⟨a,k,rfl,⟨ns,hs,hln⟩,by omega,fun v hv _=>?_⟩
 walk_at "ev"
 rw[qm (by decide)]
 obtain⟨w,hw⟩:∃w:Nat,(v:Int) % 24=w:=⟨((v:Int) % 24).toNat,by omega⟩
 rw[hw]
 have nx:∀{d:D} {M':Z2},Lo ns k ss d→Sa ns a nm r ss M M'→tss ⟨K,Γ,G⟩ noX Ta {nx:=fun _ M=>Q .non M,rt:=Q} (Se6 a k nm r v w d) M':=fun hd S=>st_7 g gd gg gc gf hd S q
 split
 ·refine Zk (Z1 S.e) ?_
  walk_at "ev"
  split
  ·simp only[gd]
   have hlen:=Ac (as:=ss) seD
   exact⟨a,k,nm,v,rfl,⟨ns,hs,hln⟩,hn,fun l M' hl hd hb k'=>nx (.inr ⟨l,Zk8 hd,hl _ _ _,(fun _=>by omega),rfl⟩) (S.mv k')⟩
  ·exact nx (.inl rfl) S
 ·exact nx (.inl rfl) S
end
def Ea:DSp:=fun ds M Q _=>∃(a many:Nat) (ns:List Int),ds=[.ref a,.int many]∧Za M a=some (ns.map .int)∧ns.length≤63∧many≤60∧∀(ls:List Ln) M' r,Dr (Xx ns) 0 [] ls []→ls.length≤120→many≤ls.length→Kp M M'→Z3 M' r=some (ls.map Ln.d)→M.length≤r→Q (.ref r) M'
section
variable{K:Ad}{Γ:List DSp}{G:List D}
theorem Zr0(gn:Γ[33]?=some Et)(gs:Γ[40]?=some Zf1):Rd K Γ G Ea B7 Z09:=by
 rintro ds M Q Z ⟨a,many,ns,rfl,hs,hln,hm,q⟩
 have ha:a<M.length:=Z9 hs
 delta B7 Z09
 walk_at "ev"
 simp only[gn]
 refine⟨a,rfl,⟨ns,hs,hln⟩,fun nl M1 nm hl hnm0 k1 en=>?_⟩
 walk_at "ev"
 refine⟨Z0 (by decide),Z0 (by decide),by omega,by omega,?_⟩
 rw[Kt,Ay]
 have hnm:=Z9 en
 refine Tm (fun i σ M'=>∃(d:Option D) (ls:List Ln) (ss:List (Tp×Int)),σ=[some (.ref a),some (.int many),some (.ref nm),some (.ref M1.length),some (.ref (M1.length+1)),d]∧Kp M1 M'∧Z3 M' M1.length=some (ls.map Ln.d)∧Z3 M' (M1.length+1)=some (ss.map seD)∧Dr (Xx ns) 0 [] ls ss∧ls.length=i∧ss.length≤60)
  ⟨none,[],[],by simp,Ks.new _ _,Z5 _ _ _,Zp _ _ 1,rfl,rfl,Nat.zero_le _⟩ ?_ ?_
 ·rintro i σ M' C hi ⟨d,ls,ss,rfl,k,e1,e2,er,l1,l2⟩ hC
  (delta Oj;simp only[Int.zero_add])
  walk_at "ev"
  simp only[gs]
  refine⟨Zb (Z1 e1),a,i,nm,M1.length+1,ss,ns,rfl,(k1.trans k).pL hs,hln,⟨nl,hl,hnm0,k.pL en⟩,by have:=k1.len;omega,by omega,by omega,e2,l2,fun l ss' M2 h0 h1 h2 h3 h4=>?_⟩
  have e1':Z3 M2 M1.length=some (ls.map Ln.d):=h3.W (by omega) e1
  walk_at "ev"
  refine⟨_,e1',Z6 (by rw[Ac];omega),hC _ _ ⟨_,ls++[l],ss',rfl,?_,?_,?_,?_,by simp;omega,h2⟩⟩
  ·exact⟨fun b n hb=>by
    rw[Dt (by omega),h3.at' b (by omega) (Nat.lt_of_lt_of_le hb k.len)]
    exact k.at' b n hb,by rw[Az];exact Nat.le_trans k.len h3.len⟩
  ·rw[Z8 (Z9 (Z1 e1')),Am]
   rfl
  ·rw[Zf (by omega)]
   exact h4
  ·exact er.snoc (by rw[l1,Nat.zero_add];exact h0) h1 h2
 ·rintro σ M' ⟨d,ls,ss,rfl,k,e1,e2,er,l1,l2⟩
  delta Ov
  refine U.Jv (c:=⟨K,Γ,G⟩) (X:=noX) (fun σ M'=>∃(ls:List Ln) (ss:List (Tp×Int)),σ=[some (.ref a),some (.int many),some (.ref nm),some (.ref M1.length),some (.ref (M1.length+1)),d]∧Kp M1 M'∧Z3 M' M1.length=some (ls.map Ln.d)∧Z3 M' (M1.length+1)=some (ss.map seD)∧Dr (Xx ns) 0 [] ls ss∧ls.length+ss.length≤120∧many≤ls.length∧ss.length≤60) (fun σ M'=>((Z3 M' (M1.length+1)).getD []).length) ⟨ls,ss,rfl,k,e1,e2,er,by omega,by omega,l2⟩ ?_
  rintro σ M' ⟨ls,ss,rfl,k,e1,e2,er,l1,l0,l2⟩
  walk_at "ev"
  refine⟨Z0 (by decide),S0 (Zd (Z1 e2)) (Ze _ _ []) ?_⟩
  try walk_at "ev"
  have k':Kp M1 (M'++[.lst []]):=k.app _
  have e1':=Z7 (N:=[.lst []]) e1
  have e2':=Z7 (N:=[.lst []]) e2
  rcases Ij ss with rfl | ⟨tl,x,rfl⟩
  ·simp only[Nf,Lz,List.isEmpty_nil]
   walk_at "ev"
   exact q ls _ _ er (by simp at l1;omega) l0 (k1.trans k') e1' k1.len
  ·rw[Ht] at e2' er l1 l2 e2 ⊢
   have en1:((tl++[x]).map seD).isEmpty=false:=by simp
   rw[en1]
   delta Ow
   walk_at "ev"
   have el:((tl++[x]).map seD)[((tl++[x]).map seD).length - 1]?=some (seD x):=by rw[Am,Ab];simp
   have dl:((tl++[x]).map seD).dropLast=tl.map seD:=by rw[Am];simp
   have lt2:=Z9 (Z1 e2')
   refine⟨Zb (Z1 e2'),_,_,e2',el,?_⟩
   rw[dl]
   have e3:Z3 (Hy (M'++[Cell.lst []]) (M1.length+1) (Cell.lst (tl.map seD))) M1.length=some (ls.map Ln.d):=by rw[Zf (by omega)];exact e1'
   simp only[Ab,Aq] at l1 l2
   refine⟨Zb (Z1 e3),Z0 (by decide),_,e3,Z6 (by rw[Ac];omega),⟨ls++[.don],tl,(k'.set (.inr (by omega))).set (.inr (Nat.le_refl _)),?_,?_,?_,by simp;omega,by simp;omega,by omega⟩,?_⟩
   ·rw[Z8 (Z9 (Z1 e3)),Am]
    rfl
   ·rw[Zf (by omega)]
    exact Z8 lt2
   ·exact er.snoc trivial ⟨x,rfl⟩ (by omega)
   ·rw[Zf (by omega),Z8 lt2,e2]
    simp
end
inductive T where
 | leaf (l:Ln) | home (r:Bool) (n:Int) (b:List T) | cho (a:Opd) (s:Str) (b:Opd) (y n:List T)
structure Fr where
 h:Option Ln
 y:Option (List T)
 n:List T
noncomputable def Fr.mk'(f:Fr):T:=match f.h with
 | some (.rnd k)=> .home true k f.n
 | some (.prt k)=> .home false k f.n
 | some (.cond a s b)=>match f.y with
  | none=> .cho a s b f.n []
  | some y=> .cho a s b y f.n
 | _=> .leaf .fin
noncomputable def nst(fs:List Fr)(l:Ln):List Fr:=match l with
 | .cond a s b=>⟨some (.cond a s b),none,[]⟩::fs
 | .rnd n=>⟨some (.rnd n),none,[]⟩::fs
 | .prt n=>⟨some (.prt n),none,[]⟩::fs
 | .els=>match fs with
  | f::r=>⟨f.h,some f.n,[]⟩::r
  | []=>[]
 | .don=>match fs with
  | f::g::r=>⟨g.h,g.y,g.n++[f.mk']⟩::r
  | r=>r
 | l=>match fs with
  | f::r=>⟨f.h,f.y,f.n++[.leaf l]⟩::r
  | []=>[]
noncomputable def fr0:Fr:=⟨none,none,[]⟩
noncomputable def nest(ls:List Ln):List T:=match ls.foldl nst [fr0] with
 | [f]=>f.n
 | _=>[]
def Fr.is(f:Fr):Tp→Prop
 | .cif=>f.y=none∧∃a s b,f.h=some (.cond a s b)
 | .cel=>f.y.isSome=true∧∃a s b,f.h=some (.cond a s b)
 | .crd=>f.y=none∧∃n,f.h=some (.rnd n)
 | .cpt=>f.y=none∧∃n,f.h=some (.prt n)
def Fss:List Tp→List Fr→Prop
 | [],fs=>∃n,fs=[⟨none,none,n⟩]
 | t::ts,fs=>∃f r,fs=f::r∧f.is t∧Fss ts r
theorem Fss.top{ts:List Tp}{fs:List Fr}(h:Fss ts fs):∃f r,fs=f::r∧∀n,Fss ts (⟨f.h,f.y,n⟩::r):=by
 cases ts with
 | nil=>obtain⟨n,rfl⟩:=h;exact⟨_,_,rfl,fun n=>⟨n,rfl⟩⟩
 | cons t ts=>obtain⟨f,r,rfl,h1,h2⟩:=h;exact⟨f,r,rfl,fun n=>⟨_,_,rfl,by cases t<;>exact h1,h2⟩⟩
theorem Pd{ts ts':List Tp}(h:stp ts .els=some ts'):∃r,ts= .cif::r∧ts'= .cel::r:=by
 match ts,h with
 | .cif::ts,h=>cases h;exact⟨ts,rfl,rfl⟩
theorem Ql{ts ts':List Tp}(h:stp ts .don=some ts'):∃t,ts=t::ts':=by
 match ts,h with
 | t::ts,h=>cases h;exact⟨t,rfl⟩
theorem Fss.step{fs:List Fr}{ts ts':List Tp}{l:Ln}(h:Fss ts fs)(e:stp ts l=some ts'):Fss ts' (nst fs l):=by
 cases l with
 | cond a s b=>cases e;exact⟨_,_,rfl,⟨rfl,a,s,b,rfl⟩,h⟩
 | rnd n=>cases e;exact⟨_,_,rfl,⟨rfl,n,rfl⟩,h⟩
 | prt n=>cases e;exact⟨_,_,rfl,⟨rfl,n,rfl⟩,h⟩
 | els=>
  obtain⟨r,rfl,rfl⟩:=Pd e
  obtain⟨f,fr,rfl,h1,h2⟩:=h
  exact⟨_,_,rfl,⟨rfl,h1.2⟩,h2⟩
 | don=>
  obtain⟨t,rfl⟩:=Ql e
  obtain⟨f,fr,rfl,h1,h2⟩:=h
  obtain⟨g,r,rfl,h3⟩:=h2.top
  exact h3 _
 | _=>
  cases e
  obtain⟨g,r,rfl,h3⟩:=h.top
  exact h3 _
theorem Fss.run{ls:List Ln}:∀{fs:List Fr} {ts ts':List Tp},Fss ts fs→run ts ls=some ts'→Fss ts' (ls.foldl nst fs):=by
 induction ls with
 | nil=>intro fs ts ts' h e;cases e;exact h
 | cons l ls ih=>
  intro fs ts ts' h e
  change (stp ts l).bind _=_ at e
  cases e1:stp ts l with
  | none=>rw[e1] at e;cases e
  | some t=>rw[e1] at e;exact ih (h.step e1) e
theorem S8{ls:List Ln}(h:run [] ls=some []):ls.foldl nst [fr0]=[⟨none,none,nest ls⟩]:=by
 obtain⟨n,h1⟩:=Fss.run (fs:=[fr0]) (ts:=[]) ⟨[],rfl⟩ h
 unfold nest
 rw[h1]
mutual
noncomputable def fl:T→List Ln
 | .leaf l=>[l]
 | .home r n b=>(if r then .rnd n else .prt n)::(fls b++[.don])
 | .cho a s b y n=> .cond a s b::(fls y++((match n with | []=>[] | t::ts=> .els::(fl t++fls ts))++[.don]))
noncomputable def fls:List T→List Ln
 | []=>[]
 | t::ts=>fl t++fls ts
end
theorem X5(xs ys:List T):fls (xs++ys)=fls xs++fls ys:=by
 induction xs with
 | nil=>rw[Dv];unfold fls;rfl
 | cons x xs ih=>rw[Dp];show fl x++fls (xs++ys)=(fl x++fls xs)++fls ys;rw[ih,Ay]
theorem Ye:fls []=[]:=rfl
theorem Y6(t:T)(ts:List T):fls (t::ts)=fl t++fls ts:=rfl
theorem Qs(l:Ln):fl (.leaf l)=[l]:=rfl
theorem W5(r:Bool)(n:Int)(b:List T):fl (.home r n b)=(if r then .rnd n else .prt n)::(fls b++[.don]):=rfl
theorem Wf(a:Opd)(s:Str)(b:Opd)(y:List T):fl (.cho a s b y [])= .cond a s b::(fls y++[.don]):=rfl
theorem Se(a:Opd)(s:Str)(b:Opd)(y:List T)(t:T)(ts:List T):fl (.cho a s b y (t::ts))= .cond a s b::(fls y++(.els::fls (t::ts)++[.don])):=rfl
noncomputable def notE:Ln→Bool
 | .els=>false
 | _=>true
noncomputable def noE(ls:List Ln):List Ln:=ls.filter notE
theorem Cw(a b:List Ln):noE (a++b)=noE a++noE b:=List.filter_append ..
noncomputable def ffl(f:Fr):List Ln:=(match f.h with | some l=>[l] | none=>[])++noE (match f.y with | some y=>fls y | none=>[])++noE (fls f.n)
noncomputable def fsl:List Fr→List Ln
 | []=>[]
 | f::fs=>fsl fs++ffl f
theorem Yd2{f:Fr}{t:Tp}(h:f.is t):noE (fl f.mk')=ffl f++[.don]:=by
 obtain⟨h',y,n⟩:=f
 cases t with
 | cif=>
  obtain⟨rfl,a,s,b,rfl⟩:=h
  show noE (fl (.cho a s b n []))=_
  rw[Wf]
  show noE (Ln.cond a s b::_)=_
  unfold ffl noE
  simp[notE,Dg]
 | cel=>
  obtain⟨hy,a,s,b,rfl⟩:=h
  cases y with
  | none=>cases hy
  | some y=>
   show noE (fl (.cho a s b y n))=_
   cases n with
   | nil=>
    rw[Wf]
    unfold ffl noE
    simp[notE,Ye,Dg]
   | cons t ts=>
    rw[Se]
    unfold ffl noE
    simp[notE,Dg]
 | crd=>
  obtain⟨rfl,k,rfl⟩:=h
  show noE (fl (.home true k n))=_
  rw[W5]
  unfold ffl noE
  simp[notE,Dg]
 | cpt=>
  obtain⟨rfl,k,rfl⟩:=h
  show noE (fl (.home false k n))=_
  rw[W5]
  unfold ffl noE
  simp[notE,Dg]
theorem Zm6{fs:List Fr}{ts ts':List Tp}{l:Ln}(h:Fss ts fs)(e:stp ts l=some ts'):fsl (nst fs l)=fsl fs++noE [l]:=by
 cases l with
 | cond a s b=>simp[nst,fsl,ffl,noE,notE,Ye,Dg]
 | rnd n=>simp[nst,fsl,ffl,noE,notE,Ye,Dg]
 | prt n=>simp[nst,fsl,ffl,noE,notE,Ye,Dg]
 | els=>
  obtain⟨r,rfl,rfl⟩:=Pd e
  obtain⟨f,fr,rfl,⟨h1,_⟩,h2⟩:=h
  simp[nst,fsl,ffl,noE,notE,Ye,h1,Dg]
 | don=>
  obtain⟨t,rfl⟩:=Ql e
  obtain⟨f,fr,rfl,h1,h2⟩:=h
  obtain⟨g,fs,rfl,h3⟩:=h2.top
  show fsl fs++ffl _=(fsl fs++ffl g)++ffl f++_
  have:ffl ⟨g.h,g.y,g.n++[f.mk']⟩=ffl g++noE (fl f.mk'):=by
   unfold ffl
   rw[X5,Cw,Y6,Ye,Db]
   simp
  rw[this,Yd2 h1]
  simp[noE,notE,Dg]
 | _=>
  obtain⟨g,fs,rfl,h3⟩:=h.top
  simp[nst,fsl,ffl,noE,notE,X5,Y6,Ye,Qs,Dg]
theorem Y77{ls:List Ln}:∀{fs:List Fr} {ts ts':List Tp},Fss ts fs→run ts ls=some ts'→fsl (ls.foldl nst fs)=fsl fs++noE ls:=by
 induction ls with
 | nil=>intro fs ts ts' h e;simp[noE]
 | cons l ls ih=>
  intro fs ts ts' h e
  change (stp ts l).bind _=_ at e
  cases e1:stp ts l with
  | none=>rw[e1] at e;cases e
  | some t=>
   rw[e1] at e
   show fsl (ls.foldl nst (nst fs l))=_
   rw[ih (h.step e1) e,Zm6 h e1,Ay,←Cw]
   rfl
theorem Nh{ls:List Ln}(h:run [] ls=some []):noE (fls (nest ls))=noE ls:=by
 have h1:=Y77 (fs:=[fr0]) (ts:=[]) ⟨[],rfl⟩ h
 rw[S8 h] at h1
 simpa[fsl,ffl,fr0,Ye,noE] using h1
mutual
def RT(C:Nat→Prop)(M:Z2):T→D→Prop
 | .leaf l,d=>d=l.d∧l.pl=true∧l.beg=false
 | .home r n b,d=>∃c ds,d= .tup [.str (if r then "round" else "part"),.int n,.ref c]∧C c∧Z3 M c=some ds∧RTs C M b ds
 | .cho a s b y n,d=>∃c1 c2 d1 d2,d= .tup [.str "choice",a.d,.str s,b.d,.ref c1,.ref c2]∧C c1∧C c2∧Z3 M c1=some d1∧RTs C M y d1∧Z3 M c2=some d2∧RTs C M n d2
def RTs(C:Nat→Prop)(M:Z2):List T→List D→Prop
 | [],ds=>ds=[]
 | t::ts,ds=>∃d r,ds=d::r∧RT C M t d∧RTs C M ts r
end
theorem Zh{M M':Z2}{a:Nat}(h:M'[a]?=M[a]?):Z3 M' a=Z3 M a:=by unfold Z3;rw[h]
mutual
theorem RT.keep{C C':Nat→Prop}{M M':Z2}(hC:∀c,C c→C' c)(k:∀c,C c→M'[c]?=M[c]?):∀{t:T} {d:D},RT C M t d→RT C' M' t d
 | .leaf l,d,h=>h
 | .home r n b,d,⟨c,ds,e,h1,h2,h3⟩=>⟨c,ds,e,hC c h1,by rw[Zh (k c h1)];exact h2,RTs.keep hC k h3⟩
 | .cho a s b y n,d,⟨c1,c2,d1,d2,e,h1,h2,h3,h4,h5,h6⟩=>⟨c1,c2,d1,d2,e,hC c1 h1,hC c2 h2,by rw[Zh (k c1 h1)];exact h3,RTs.keep hC k h4,by rw[Zh (k c2 h2)];exact h5,RTs.keep hC k h6⟩
theorem RTs.keep{C C':Nat→Prop}{M M':Z2}(hC:∀c,C c→C' c)(k:∀c,C c→M'[c]?=M[c]?):∀{ts:List T} {ds:List D},RTs C M ts ds→RTs C' M' ts ds
 | [],ds,h=>h
 | t::ts,ds,⟨d,r,e,h1,h2⟩=>⟨d,r,e,RT.keep hC k h1,RTs.keep hC k h2⟩
end
theorem RTs.len{C:Nat→Prop}{M:Z2}:∀{ts:List T} {ds:List D},RTs C M ts ds→ds.length=ts.length
 | [],ds,h=>by cases h;rfl
 | t::ts,ds,⟨d,r,e,h1,h2⟩=>by rw[e,Aj,Aj,RTs.len h2]
theorem RTs.app{C:Nat→Prop}{M:Z2}:∀{ts us:List T} {ds es:List D},RTs C M ts ds→RTs C M us es→RTs C M (ts++us) (ds++es)
 | [],us,ds,es,h,g=>by cases h;exact g
 | t::ts,us,ds,es,⟨d,r,e,h1,h2⟩,g=>by rw[e];exact⟨d,r++es,rfl,h1,RTs.app h2 g⟩
theorem RTs.one{C:Nat→Prop}{M:Z2}{t:T}{d:D}(h:RT C M t d):RTs C M [t] [d]:=⟨d,[],rfl,h,rfl⟩
structure CF where
 q:Nat
 n:Nat
 h:Option Ln
 y:Option (Nat×List T)
 t:List T
noncomputable def CF.hd(f:CF):D:=match f.h with
 | none=> .tup [.str "form"]
 | some l=>l.d
noncomputable def CF.yd(f:CF):D:=match f.y with
 | none=> .non
 | some (c,_)=> .ref c
noncomputable def CF.abs(f:CF):Fr:=⟨f.h,f.y.map (·.2),f.t⟩
structure CFok(C:Nat→Prop)(M:Z2)(f:CF):Prop where
 q:Z3 M f.q=some [f.hd,f.yd,.ref f.n]
 n:∃ds,Z3 M f.n=some ds∧RTs C M f.t ds
 y:∀c ts,f.y=some (c,ts)→C c∧∃ds,Z3 M c=some ds∧RTs C M ts ds
theorem CFok.keep{C C':Nat→Prop}{M M':Z2}{f:CF}(h:CFok C M f)(hC:∀c,C c→C' c)(k:∀c,C c→M'[c]?=M[c]?)(kq:M'[f.q]?=M[f.q]?)(kn:M'[f.n]?=M[f.n]?):CFok C' M' f:=by
 obtain⟨h1,⟨ds,h2,h3⟩,h4⟩:=h
 refine⟨by rw[Zh kq];exact h1,⟨ds,by rw[Zh kn];exact h2,h3.keep hC k⟩,fun c ts e=>?_⟩
 obtain⟨g1,ds,g2,g3⟩:=h4 c ts e
 exact⟨hC c g1,ds,by rw[Zh (k c g1)];exact g2,g3.keep hC k⟩
structure NI(M0:Z2)(p:Nat)(cfs:List CF)(C:Nat→Prop)(M:Z2):Prop where
 k:Kp M0 M
 o:Z3 M p=some (cfs.map fun f=> .ref f.q)
 ok:∀f∈cfs,CFok C M f
 d0:¬C p∧M0.length≤p
 d1:∀f∈cfs,f.q≠p∧f.n≠p∧f.q≠f.n∧¬C f.q∧¬C f.n∧M0.length≤f.q∧M0.length≤f.n
 d2:cfs.Pairwise fun f g=>f.q≠g.q∧f.q≠g.n∧f.n≠g.q∧f.n≠g.n
 cl:∀c,C c→M0.length≤c∧c<M.length
theorem CFok.lt{C:Nat→Prop}{M:Z2}{f:CF}(h:CFok C M f):f.q<M.length∧f.n<M.length:=by
 obtain⟨ds,h2,_⟩:=h.n
 exact⟨Z9 (Z1 h.q),Z9 (Z1 h2)⟩
theorem Y8{M:Z2}{a b:Nat}{c:Cell}(h:a≠b):(M.set a c)[b]?=M[b]?:=Dt h
theorem Wj{M N:Z2}{b:Nat}(h:b<M.length):(M++N)[b]?=M[b]?:=Ex h
section
variable{M0 M:Z2}{p:Nat}{cfs init:List CF}{C:Nat→Prop}{f g:CF}
theorem NI.plt(I:NI M0 p cfs C M):p<M.length:=Z9 (Z1 I.o)
theorem NI.push(I:NI M0 p cfs C M)(l:Ln):NI M0 p (cfs++[⟨M.length+1,M.length,some l,none,[]⟩]) C (Hy (M++[Cell.lst []]++[Cell.lst [l.d,.non,.ref M.length]]) p (.lst ((cfs.map fun f=> .ref f.q)++[.ref (M.length+1)]))):=by
 have hp:=I.plt
 have at':∀b,b≠p→b<M.length→(Hy (M++[Cell.lst []]++[Cell.lst [l.d,.non,.ref M.length]]) p (.lst ((cfs.map fun f=> .ref f.q)++[.ref (M.length+1)])))[b]?=M[b]?:=fun b h1 h2=>by
  rw[Y8 (Bs h1),Ay,Wj h2]
 have nc:∀c,C c→c≠p:=fun c h z=>I.d0.1 (z ▸ h)
 have lc:∀c,C c→c<M.length:=fun c h=>(I.cl c h).2
 refine⟨((I.k.app _).app _).set (.inr I.d0.2),?_,?_,I.d0,?_,?_,fun c h=>⟨(I.cl c h).1,?_⟩⟩
 ·rw[Z8 (by rw[Ab,Ab];omega),Am]
  rfl
 ·intro f hf
  rcases Bk.mp hf with hf | hf
  ·obtain⟨h1,h2,_⟩:=I.d1 f hf
   have h3:=(I.ok f hf).lt
   exact(I.ok f hf).keep (fun _ h=>h) (fun c h=>at' c (nc c h) (lc c h)) (at' _ h1 h3.1) (at' _ h2 h3.2)
  ·cases An.mp hf
   refine⟨?_,⟨[],?_,rfl⟩,fun c ts e=>by cases e⟩
   ·show Z3 _ (M.length+1)=some [l.d,.non,.ref M.length]
    rw[Zf (by omega),Ay,Zp]
    rfl
   ·show Z3 _ M.length=some []
    rw[Zf (by omega),Ay]
    exact Z5 _ _ _
 ·intro f hf
  rcases Bk.mp hf with hf | hf
  ·exact I.d1 f hf
  ·cases An.mp hf
   have:=I.k.len
   exact⟨by show M.length+1≠p;omega,by show M.length≠p;omega,by show M.length+1≠M.length;omega,fun h=>by have:=lc _ h;simp only at this;omega,fun h=>by have:=lc _ h;simp only at this;omega,by show _≤M.length+1;omega,this⟩
 ·rw[Kx]
  refine⟨I.d2,Kd _ _,fun f hf g hg=>?_⟩
  cases An.mp hg
  have h3:=(I.ok f hf).lt
  exact⟨by show f.q≠M.length+1;omega,by show f.q≠M.length;omega,by show f.n≠M.length+1;omega,by show f.n≠M.length;omega⟩
 ·have:=lc c h
  rw[Az,Ab,Ab]
  omega
theorem NI.last(I:NI M0 p (init++[f]) C M):CFok C M f∧(∀g∈init,CFok C M g∧g.q≠f.q∧g.q≠f.n∧g.n≠f.q∧g.n≠f.n)∧f.q≠p∧f.n≠p∧f.q≠f.n∧¬C f.q∧¬C f.n∧M0.length≤f.q∧M0.length≤f.n:=by
 have h2:=I.d2
 rw[Kx] at h2
 exact⟨I.ok f (by simp),fun g hg=>⟨I.ok g (by simp[hg]),h2.2.2 g hg f (by simp)⟩,I.d1 f (by simp)⟩
theorem NI.grow{C':Nat→Prop}{M':Z2}{ds:List D}{t:T}{d:D}(I:NI M0 p (init++[f]) C M)(e:Z3 M f.n=some ds)(rt:RTs C M f.t ds)(hC:∀c,C c→C' c)
  (hN:∀c,C' c→M0.length≤c∧c<M'.length) (nC:¬C' p∧∀g∈init++[f],¬C' g.q∧¬C' g.n) (k:∀b,b<M.length→M'[b]?=M[b]?) (kl:M.length≤M'.length) (h:RT C' M' t d):NI M0 p (init++[{f with t:=f.t++[t]}]) C' (M'.set f.n (.lst (ds++[d]))):=by
 obtain⟨hf,hi,a1,a2,a3,a4,a5,a6,a7⟩:=I.last
 have lt:=hf.lt
 have hp:=I.plt
 have nf:¬C' f.n:=(nC.2 f (by simp)).2
 have at':∀b,b≠f.n→b<M.length→(M'.set f.n (.lst (ds++[d])))[b]?=M[b]?:=fun b h1 h2=>by rw[Y8 (Bs h1),k b h2]
 have atC:∀c,C c→(M'.set f.n (.lst (ds++[d])))[c]?=M[c]?:=fun c h=>at' c (fun z=>nf (z ▸ hC c h)) (I.cl c h).2
 refine⟨⟨fun b n l=>(at' b (by omega) (Nat.lt_of_lt_of_le l I.k.len)).trans (I.k.at' b n l),?_⟩,?_,?_,⟨nC.1,I.d0.2⟩,?_,?_,fun c h=>⟨(hN c h).1,by rw[Az];exact(hN c h).2⟩⟩
 ·rw[Az]
  exact Nat.le_trans I.k.len kl
 ·rw[Zh (at' p (Bs a2) hp),I.o]
  simp
 ·intro g hg
  rcases Bk.mp hg with hg | hg
  ·obtain⟨g1,g2,g3,g4,g5⟩:=hi g hg
   have:=g1.lt
   exact g1.keep hC atC (at' _ g3 this.1) (at' _ g5 this.2)
  ·cases An.mp hg
   refine⟨?_,⟨ds++[d],Z8 (by omega),?_⟩,fun c ts e=>?_⟩
   ·show Z3 _ f.q=some [f.hd,f.yd,.ref f.n]
    rw[Zh (at' _ a3 lt.1)]
    exact hf.q
   ·exact(rt.keep hC atC).app (.one (h.keep (fun _ h=>h) fun c hc=>Y8 (a:=f.n) fun z=>nf (by rw[z];exact hc)))
   ·obtain⟨g1,es,g2,g3⟩:=hf.y c ts e
    exact⟨hC c g1,es,by rw[Zh (atC c g1)];exact g2,g3.keep hC atC⟩
 ·intro g hg
  rcases Bk.mp hg with hg | hg
  ·obtain⟨b1,b2,b3,_,_,b6,b7⟩:=I.d1 g (by simp[hg])
   obtain⟨c1,c2⟩:=nC.2 g (by simp[hg])
   exact⟨b1,b2,b3,c1,c2,b6,b7⟩
  ·cases An.mp hg
   exact⟨a1,a2,a3,(nC.2 f (by simp)).1,nf,a6,a7⟩
 ·have h2:=I.d2
  rw[Kx] at h2 ⊢
  refine⟨h2.1,Kd _ _,fun g hg g' hg'=>?_⟩
  cases An.mp hg'
  exact h2.2.2 g hg f (by simp)
theorem NI.els(I:NI M0 p (init++[f]) C M):NI M0 p (init++[⟨f.q,M.length,f.h,some (f.n,f.t),[]⟩]) (fun c=>C c∨c=f.n) (Hy (Hy M f.q (.lst [f.hd,.ref f.n,.ref f.n])++[Cell.lst []]) f.q (.lst [f.hd,.ref f.n,.ref M.length])):=by
 obtain⟨hf,hi,a1,a2,a3,a4,a5,a6,a7⟩:=I.last
 have lt:=hf.lt
 have hp:=I.plt
 have at':∀b,b≠f.q→b<M.length→(Hy (Hy M f.q (.lst [f.hd,.ref f.n,.ref f.n])++[Cell.lst []]) f.q (.lst [f.hd,.ref f.n,.ref M.length]))[b]?=M[b]?:=fun b h1 h2=>by
  rw[Y8 (Bs h1),Wj (by rw[Az];exact h2),Y8 (Bs h1)]
 have atC:∀c,C c→(Hy (Hy M f.q (.lst [f.hd,.ref f.n,.ref f.n])++[Cell.lst []]) f.q (.lst [f.hd,.ref f.n,.ref M.length]))[c]?=M[c]?:=fun c h=>at' c (fun z=>a4 (z ▸ h)) (I.cl c h).2
 have hM:(Hy M f.q (.lst [f.hd,.ref f.n,.ref f.n])).length=M.length:=Az ..
 have lcl:∀c,C c→c<M.length:=fun c h=>(I.cl c h).2
 refine⟨⟨fun b n l=>(at' b (by omega) (Nat.lt_of_lt_of_le l I.k.len)).trans (I.k.at' b n l),?_⟩,?_,?_,⟨fun h=>h.elim I.d0.1 fun z=>a2 z.symm,I.d0.2⟩,?_,?_,fun c h=>?_⟩
 ·rw[Az,Ab,hM]
  have:=I.k.len
  omega
 ·rw[Zh (at' p (Bs a1) hp),I.o]
  simp
 ·intro g hg
  rcases Bk.mp hg with hg | hg
  ·obtain⟨g1,g2,g3,g4,g5⟩:=hi g hg
   have:=g1.lt
   exact g1.keep (fun _ h=> .inl h) atC (at' _ g2 this.1) (at' _ g4 this.2)
  ·cases An.mp hg
   refine⟨Z8 (by rw[Ab,hM];omega),⟨[],?_,rfl⟩,fun c ts e=>?_⟩
   ·show Z3 _ M.length=some []
    rw[Zf (by omega),←hM]
    exact Z5 _ _ _
   ·cases e
    obtain⟨ds,h2,h3⟩:=hf.n
    exact⟨.inr rfl,ds,by rw[Zh (at' _ (Bs a3) lt.2)];exact h2,h3.keep (fun _ h=> .inl h) atC⟩
 ·intro g hg
  rcases Bk.mp hg with hg | hg
  ·obtain⟨b1,b2,b3,b4,b5,b6,b7⟩:=I.d1 g (by simp[hg])
   obtain⟨g1,g2,g3,g4,g5⟩:=hi g hg
   exact⟨b1,b2,b3,fun h=>h.elim b4 g3,fun h=>h.elim b5 g5,b6,b7⟩
  ·cases An.mp hg
   have:=I.k.len
   exact⟨a1,by show M.length≠p;omega,by show f.q≠M.length;omega,fun h=>h.elim a4 a3,fun h=>h.elim (fun z=>by have:=lcl _ z;simp only at this;omega) (fun z=>by simp only at z;omega),a6,this⟩
 ·have h2:=I.d2
  rw[Kx] at h2 ⊢
  refine⟨h2.1,Kd _ _,fun g hg g' hg'=>?_⟩
  cases An.mp hg'
  obtain⟨g1,g2,g3,g4,g5⟩:=hi g hg
  have:=g1.lt
  exact⟨g2,by show g.q≠M.length;omega,g4,by show g.n≠M.length;omega⟩
 ·rw[Az,Ab,hM]
  rcases h with h | h
  ·have:=I.cl c h
   exact⟨this.1,by omega⟩
  ·rw[h]
   exact⟨a7,by omega⟩
theorem NI.pop(I:NI M0 p (init++[f]) C M):NI M0 p init C (M.set p (.lst (init.map fun f=> .ref f.q))):=by
 obtain⟨hf,hi,a1,a2,a3,a4,a5,a6,a7⟩:=I.last
 have hp:=I.plt
 have atC:∀c,C c→(M.set p (.lst (init.map fun f=> .ref f.q)))[c]?=M[c]?:=fun c h=>Y8 fun z=>I.d0.1 (z ▸ h)
 have h2:=I.d2
 rw[Kx] at h2
 refine⟨I.k.set (.inr I.d0.2),Z8 hp,fun g hg=>?_,I.d0,fun g hg=>I.d1 g (by simp[hg]),h2.1,fun c h=>by rw[Az];exact I.cl c h⟩
 obtain⟨b1,b2,_⟩:=I.d1 g (by simp[hg])
 exact(I.ok g (by simp[hg])).keep (fun _ h=>h) atC (Y8 (Bs b1)) (Y8 (Bs b2))
def Cn(C:Nat→Prop)(f:CF)(M N:Z2)(c:Nat):Prop:=C c∨c=f.n∨(M.length≤c∧c<M.length+N.length)
theorem NI.done(I:NI M0 p ((init++[g])++[f]) C M){N:Z2}{ds:List D}{t:T}{d:D}(e:Z3 M g.n=some ds)(rt:RTs C M g.t ds)
  (h:RT (Cn C f M N) (M.set p (.lst ((init++[g]).map fun f=> .ref f.q))++N) t d):NI M0 p (init++[{g with t:=g.t++[t]}]) (Cn C f M N) (Hy (M.set p (.lst ((init++[g]).map fun f=> .ref f.q))++N) g.n (.lst (ds++[d]))):=by
 obtain⟨hf,hi,a1,a2,a3,a4,a5,a6,a7⟩:=I.last
 have lt:=hf.lt
 have hp:=I.plt
 have hm:=I.k.len
 have I1:=I.pop
 have hM:(M.set p (.lst ((init++[g]).map fun f=> .ref f.q))).length=M.length:=Az ..
 obtain⟨b1,b2,_⟩:=I.d1 g (by simp)
 have hg:=(hi g (by simp)).1.lt
 have atC:∀c,C c→(M.set p (.lst ((init++[g]).map fun f=> .ref f.q)))[c]?=M[c]?:=fun c h=>Y8 fun z=>I.d0.1 (z ▸ h)
 refine I1.grow (M':=M.set p (.lst ((init++[g]).map fun f=> .ref f.q))++N) (ds:=ds) (by rw[Zf (Bs b2)];exact e) (rt.keep (fun _ h=>h) atC) (fun c h=> .inl h) (fun c h=>?_) ⟨fun h=>?_,fun g' hg'=>⟨fun h=>?_,fun h=>?_⟩⟩ (fun b hb=>Wj hb) (by rw[Ab];omega) h
 ·rw[Ab,hM]
  rcases h with h | h | h
  ·have:=I.cl c h
   exact⟨this.1,by omega⟩
  ·rw[h]
   exact⟨a7,by omega⟩
  ·exact⟨by omega,by omega⟩
 ·rcases h with h | h | h
  ·exact I.d0.1 h
  ·exact a2 h.symm
  ·omega
 ·have hx:=hi g' hg'
  obtain⟨_,_,_,c4,c5,_⟩:=I.d1 g' (Hw _ hg')
  have:=hx.1.lt
  rcases h with h | h | h
  ·exact c4 h
  ·exact hx.2.2.1 h
  ·omega
 ·have hx:=hi g' hg'
  obtain⟨_,_,_,c4,c5,_⟩:=I.d1 g' (Hw _ hg')
  have:=hx.1.lt
  rcases h with h | h | h
  ·exact c5 h
  ·exact hx.2.2.2.2 h
  ·omega
theorem NI.doneK(I:NI M0 p (init++[f]) C M){N:Z2}{x:Cell}{ds:List D}{us:List T}(rt:RTs C M us ds):RTs (Cn C f M N) (M.set p x++N) us ds:=
 rt.keep (fun c h=> .inl h) fun c h=>by rw[Wj (by rw[Az];exact(I.cl c h).2)];exact Y8 (a:=p) fun z=>I.d0.1 (by rw[z];exact h)
end
structure Fm(C:Nat→Prop)(M:Z2)(m:Nat)(ts:List T)(r:Nat):Prop where
 e:∃ds,Z3 M r=some ds∧RTs C M ts ds
 c:∀c,C c→m≤c∧c<M.length
 n:¬C r∧m≤r
def Rx:DSp:=fun ds M Q _=>∃(a:Nat) (ls:List Ln),ds=[.ref a]∧Za M a=some (ls.map Ln.d)∧ls.length≤400∧run [] ls=some []∧∀C M' r,Kp M M'→Fm C M' M.length (nest ls) r→Q (.ref r) M'
section
variable{K:Ad}{Γ:List DSp}{G:List D}
theorem Je{ls:List Ln}{st x:List Tp}(h:run st ls=some x)(i:Nat):∃t,run st (ls.take i)=some t:=by
 rw[←List.take_append_drop i ls,Eu] at h
 cases e:run st (ls.take i) with
 | none=>rw[e] at h;cases h
 | some t=>exact⟨t,rfl⟩
theorem Zq{α:Type}{ls:List α}{i:Nat}{l:α}(h:ls[i]?=some l):ls.take (i+1)=ls.take i++[l]:=by
 obtain⟨hi,rfl⟩:=Af.mp h
 rw[List.take_succ,Ae hi]
 rfl
structure NA(M:Z2)(a:Nat)(ls:List Ln)(i:Nat)(cfs:List CF)(C:Nat→Prop)(M':Z2):Prop where
 I:NI M (M.length+2) cfs C M'
 A:(cfs.map CF.abs).reverse=(ls.take i).foldl nst [fr0]
 t:∀f∈cfs,f.t.length≤i
 l:cfs.length≤i+1
noncomputable abbrev Ne6(a p:Nat)(d2 d3 d4 d5:Option D):DEnv:=[some (.ref a),some (.ref p),d2,d3,d4,d5]
theorem Ln.nst_beg{l:Ln}(h:l.beg=true)(fs:List Fr):nst fs l=⟨some l,none,[]⟩::fs:=by
 cases l<;>first | rfl | cases h
theorem Zz(init:List CF)(f:CF):((init++[f]).map CF.abs).reverse=f.abs::(init.map CF.abs).reverse:=by simp
theorem Ze3(g:Γ[35]?=some Y5):Rd K Γ G Rx Fb G8:=by
 rintro ds M Q Z ⟨a,ls,rfl,hr,hl,hrun,q⟩
 delta Fb G8
 walk_at "ev"
 simp only[Ay,Dp,Dv,Ab,Aj,Ig]
 refine⟨Z0 (by decide),Z0 (by decide),Z0 (by decide),Z0 (by decide),_,Zd hr,?_⟩
 refine Wb (fun i σ M'=>∃cfs C d2 d3 d4 d5,σ=Ne6 a (M.length+2) d2 d3 d4 d5∧NA M a ls i cfs C M') ⟨[⟨M.length+1,M.length,none,none,[]⟩],fun _=>False,none,none,none,none,rfl,?_⟩ ?_ ?_ ?_
 ·refine⟨⟨Ks.new _ _,?_,?_,⟨fun z=>z,by omega⟩,?_,Kd _ _,fun c h=>h.elim⟩,rfl,?_,Nat.le_refl _⟩
  ·rw[Zp]
   rfl
  ·intro f hf
   cases An.mp hf
   refine⟨?_,⟨[],Z5 _ _ _,rfl⟩,fun c ts e=>by cases e⟩
   show Z3 _ (M.length+1)=_
   rw[Zp]
   rfl
  ·intro f hf
   cases An.mp hf
   exact⟨by show M.length+1≠M.length+2;omega,by show M.length≠M.length+2;omega,by show M.length+1≠M.length;omega,fun z=>z,fun z=>z,by show _≤M.length+1;omega,Nat.le_refl _⟩
  ·intro f hf
   cases An.mp hf
   exact Nat.le_refl _
 ·rintro i σ M' _ ⟨cfs,C,d2,d3,d4,d5,rfl,N⟩
  exact N.I.k.pL hr
 ·rintro i d σ M' P hd ⟨cfs,C,d2,d3,d4,d5,rfl,N⟩ hP
  obtain⟨l,hl1,rfl⟩:∃l,ls[i]?=some l∧d=l.d:=by
   rw[As] at hd
   cases e:ls[i]? with
   | none=>rw[e] at hd;cases hd
   | some l=>rw[e] at hd;cases hd;exact⟨l,rfl,rfl⟩
  have hi:i<400:=by have:=(Af.mp hl1).1;omega
  obtain⟨us,e1⟩:=Je hrun i
  obtain⟨us',e2⟩:=Je hrun (i+1)
  rw[Zq hl1,Eu,e1] at e2
  replace e2:stp us l=some us':=by
   have:(stp us l).bind (fun t=>run t [])=some us':=e2
   cases h:stp us l with
   | none=>rw[h] at this;cases this
   | some t=>rw[h] at this;exact this
  have F:=Fss.run (fs:=[fr0]) (ts:=[]) ⟨[],rfl⟩ e1
  rw[←N.A] at F
  have A':∀{cfs':List CF},(cfs'.map CF.abs).reverse=nst (cfs.map CF.abs).reverse l→(cfs'.map CF.abs).reverse=(ls.take (i+1)).foldl nst [fr0]:=by
   intro cfs' h
   rw[h,N.A,Zq hl1,List.foldl_append]
   rfl
  rw[tg_one]
  delta Qr
  generalize hB:(Ss.cons (S.ite (E.cmp Cm.eq (E.ix (E.var 2) (E.int 0)) (E.str "else")) _ _) Ss.nil)=B
  walk_at "ev"
  simp only[g]
  refine⟨l,rfl,?_⟩
  walk_at "ev"
  have hz:=N.l
  cases hb:l.beg with
  | true=>
   walk_at "ev"
   refine⟨Zb (Z1 N.I.o),Z0 (by decide),Z0 (by decide),_,Z7 (Z7 N.I.o),Z6 (by rw[Ac];omega),hP _ _ ⟨cfs++[⟨M'.length+1,M'.length,some l,none,[]⟩],C,_,_,_,_,rfl,?_,?_,?_,?_⟩⟩
   ·have:=N.I.push l
    rw[show(M'++[Cell.lst []]).length=M'.length+1 by simp]
    exact this
   ·refine A' ?_
    rw[Zz,Ln.nst_beg hb]
    rfl
   ·intro f hf
    rcases Bk.mp hf with hf | hf
    ·have:=N.t f hf
     omega
    ·cases An.mp hf
     exact Nat.zero_le _
   ·rw[Ab,Aq]
    omega
  | false=>
   obtain⟨f0,fr,eA,_⟩:=F.top
   rcases Ij cfs with rfl | ⟨init,f,rfl⟩
   ·cases eA
   rw[Ht] at N F A' eA hz
   obtain⟨hf,hi',a1,a2,a3,a4,a5,a6,a7⟩:=N.I.last
   obtain⟨ds,hn,rt⟩:=hf.n
   have hz2:init.length≤i:=by rw[Ab,Aq] at hz;omega
   have ft:=N.t f (by simp)
   have dl:=rt.len
   have lst:atI ((init++[f]).map fun f=>D.ref f.q) (-1)=some (.ref f.q):=by rw[Am];exact Cq _ _
   have plain:l.pl=true→l.beg=false→nst (((init++[f]).map CF.abs).reverse) l=⟨f.h,f.y.map (·.2),f.t++[.leaf l]⟩::(init.map CF.abs).reverse→P (Ne6 a (M.length+2) (some l.d) d3 d4 d5) (M'.set f.n (.lst (ds++[l.d]))):=by
    intro h1 h2 h3
    refine hP _ _ ⟨init++[{f with t:=f.t++[.leaf l]}],C,_,_,_,_,rfl,N.I.grow hn rt (fun _ h=>h) N.I.cl ⟨N.I.d0.1,fun g hg=>?_⟩ (fun _ _=>rfl) (Nat.le_refl _) (show RT C M' (.leaf l) l.d from⟨rfl,h1,h2⟩),A' ?_,?_,?_⟩
    ·obtain⟨_,_,_,b4,b5,_⟩:=N.I.d1 g hg
     exact⟨b4,b5⟩
    ·rw[Zz,h3]
     rfl
    ·intro g hg
     rcases Bk.mp hg with hg | hg
     ·have:=N.t g (by simp[hg])
      omega
     ·cases An.mp hg
      show(f.t++[_]).length≤_
      rw[Ab,Aq]
      omega
    ·rw[Ab,Aq]
     omega
   have put:∀P':DK,(∀Y,P' Y (M'.set f.n (.lst (ds++[l.d]))))→ixD M' (.ref (M.length+2)) (.int (-1)) fun d=>ixD M' d (.int 2) fun d'=>mtK .append d' M'∧mtD .append d' [l.d] M' P':=by
    intro P' h
    refine X9 (Z1 N.I.o) lst (ix_l (k:=2) (Z1 hf.q) rfl ⟨Zb (Z1 hn),?_⟩)
    walk_at "ev"
    exact⟨_,hn,Z6 (by omega),h _⟩
   cases l with
   | cond _ _ _=>cases hb
   | rnd _=>cases hb
   | prt _=>cases hb
   | sum x o1 s o2=>
    simp only[Ln.d] at *
    walk_at "ev"
    subst hB
    generalize hB:(Ss.cons (S.setL [3,4,5] _) _)=B
    walk_at "ev"
    exact put _ fun _=>plain rfl rfl (by rw[Zz];rfl)
   | lve n=>
    simp only[Ln.d] at *
    walk_at "ev"
    subst hB
    generalize hB:(Ss.cons (S.setL [3,4,5] _) _)=B
    walk_at "ev"
    exact put _ fun _=>plain rfl rfl (by rw[Zz];rfl)
   | agn n=>
    simp only[Ln.d] at *
    walk_at "ev"
    subst hB
    generalize hB:(Ss.cons (S.setL [3,4,5] _) _)=B
    walk_at "ev"
    exact put _ fun _=>plain rfl rfl (by rw[Zz];rfl)
   | fin=>
    simp only[Ln.d] at *
    walk_at "ev"
    subst hB
    generalize hB:(Ss.cons (S.setL [3,4,5] _) _)=B
    walk_at "ev"
    exact put _ fun _=>plain rfl rfl (by rw[Zz];rfl)
   | els=>
    clear plain put
    simp only[Ln.d]
    walk_at "ev"
    subst hB
    generalize hB:(Ss.cons (S.setL [3,4,5] _) _)=B
    walk_at "ev"
    refine X9 (Z1 N.I.o) lst (ix_l (k:=2) (Z1 hf.q) rfl (X9 (Z1 N.I.o) lst (.inl ⟨_,1,1,rfl,hf.q,rfl,Z0 (by decide),?_⟩)))
    refine X9 (Zd (by rw[W0 a1];exact Z1 N.I.o)) lst (.inl ⟨_,2,2,rfl,Z7 (Z8 hf.lt.1),rfl,?_⟩)
    rw[Az]
    refine hP _ _ ⟨init++[⟨f.q,M'.length,f.h,some (f.n,f.t),[]⟩],_,_,_,_,_,rfl,N.I.els,A' (by rw[Zz,Zz];rfl),?_,?_⟩
    ·intro g hg
     rcases Bk.mp hg with hg | hg
     ·have:=N.t g (by simp[hg])
      omega
     ·cases An.mp hg
      exact Nat.zero_le _
    ·rw[Ab,Aq]
     omega
   | don=>
    clear plain put
    obtain⟨t,rfl⟩:=Ql e2
    rw[Zz] at F
    obtain⟨f1,fr1,ef,ht,F2⟩:=F
    cases ef
    obtain⟨g0,gr,eg,_⟩:=F2.top
    rcases Ij init with rfl | ⟨init',gg,rfl⟩
    ·cases eg
    rw[Ht] at *
    have xl:((init'++[gg]++[f]).map fun f=>D.ref f.q)[((init'++[gg]++[f]).map fun f=>D.ref f.q).length - 1]?=some (.ref f.q):=by rw[Am,Ab];simp
    have xd:((init'++[gg]++[f]).map fun f=>D.ref f.q).dropLast=(init'++[gg]).map fun f=>D.ref f.q:=by rw[Am];simp
    have hg:=hi' gg (by simp)
    obtain⟨dg,hgn,rg⟩:=hg.1.n
    obtain⟨b1,b2,_⟩:=N.I.d1 gg (by simp)
    have gt:=N.t gg (by simp)
    have gl:=rg.len
    simp only[Ln.d]
    walk_at "ev"
    subst hB
    generalize hB:(Ss.cons (S.ite (E.cmp Cm.ne (E.ix (E.var 3) (E.int 0)) (E.str "if")) _ _) Ss.nil)=B
    walk_at "ev"
    refine⟨Zb (Z1 N.I.o),_,_,N.I.o,xl,?_⟩
    rw[xd]
    walk_at "ev"
    refine⟨[f.hd,f.yd,.ref f.n],by rw[W0 (Bs a1)];exact Z1 hf.q,rfl,?_⟩
    simp only[List.zip_cons_cons,List.zip_nil_right,List.foldl_cons,List.foldl_nil,List.set_cons_succ,List.set_cons_zero]
    try walk_at "ev"
    have glst:atI ((init'++[gg]).map fun f=>D.ref f.q) (-1)=some (.ref gg.q):=by rw[Am];exact Cq _ _
    have hpl:=N.I.plt
    have o1:Za (M'.set (M.length+2) (.lst ((init'++[gg]).map fun f=> .ref f.q))) (M.length+2)=some ((init'++[gg]).map fun f=> .ref f.q):=Z1 (Z8 hpl)
    have o2:Za (M'.set (M.length+2) (.lst ((init'++[gg]).map fun f=> .ref f.q))) gg.q=some [gg.hd,gg.yd,.ref gg.n]:=by rw[W0 (Bs b1)];exact Z1 hg.1.q
    have o3:Z3 (M'.set (M.length+2) (.lst ((init'++[gg]).map fun f=> .ref f.q))) gg.n=some dg:=by rw[Zf (Bs b2)];exact hgn
    have hn':∀N':Z2,Z3 (M'.set (M.length+2) (.lst ((init'++[gg]).map fun f=> .ref f.q))++N') f.n=some ds:=fun N'=>Z7 (by rw[Zf (Bs a2)];exact hn)
    have hM:(M'.set (M.length+2) (.lst ((init'++[gg]).map fun f=> .ref f.q))).length=M'.length:=Az ..
    have fin:∀(N':Z2) (d:D) (d3 d4 d5:Option D),RT (Cn C f M' N') (M'.set (M.length+2) (.lst ((init'++[gg]).map fun f=> .ref f.q))++N') f.abs.mk' d→P (Ne6 a (M.length+2) (some (Ln.don).d) d3 d4 d5) (Hy (M'.set (M.length+2) (.lst ((init'++[gg]).map fun f=> .ref f.q))++N') gg.n (.lst (dg++[d]))):=by
     intro N' d d3 d4 d5 h
     refine hP _ _ ⟨init'++[{gg with t:=gg.t++[f.abs.mk']}],_,_,_,_,_,rfl,N.I.done hgn rg h,A' (by rw[Zz,Zz,Zz];rfl),?_,?_⟩
     ·intro g hg
      rcases Bk.mp hg with hg | hg
      ·have:=N.t g (by simp[hg])
       omega
      ·cases An.mp hg
       show(gg.t++[_]).length≤_
       rw[Ab,Aq]
       omega
     ·simp only[Ab,Aq] at hz ⊢
      omega
    have put:∀(N':Z2) (d:D) (d3 d4 d5:Option D),RT (Cn C f M' N') (M'.set (M.length+2) (.lst ((init'++[gg]).map fun f=> .ref f.q))++N') f.abs.mk' d→mtD .append (.ref gg.n) [d] (M'.set (M.length+2) (.lst ((init'++[gg]).map fun f=> .ref f.q))++N') fun _ M1=>P (Ne6 a (M.length+2) (some (Ln.don).d) d3 d4 d5) M1:=by
     intro N' d d3 d4 d5 h
     exact⟨_,Z7 o3,Z6 (by omega),fin N' d d3 d4 d5 h⟩
    obtain⟨fq,fn,fh,fy,ft'⟩:=f
    cases t with
    | crd=>
     obtain⟨hy,n,hh⟩:=ht
     cases hh
     simp only[CF.hd,CF.yd,Ln.d]
     subst hB
     generalize hB:(Ss.cons (S.ite (E.cmp Cm.is (E.var 4) E.non) _ _) Ss.nil)=B
     walk_at "ev"
     refine X9 o1 glst (ix_l (k:=2) o2 rfl ⟨Zb (Z1 o3),Z0 (by decide),by simp,Z0 (by decide),?_⟩)
     have:=put [] (.tup [.str "round",.int n,.ref fn]) (some (.tup [.str "round",.int n])) (some (match fy with | none=> .non | some (c,_)=> .ref c)) (some (.ref fn)) (show RT _ _ (.home true n ft') _ from⟨fn,ds,rfl,.inr (.inl rfl),hn' [],N.I.doneK rt⟩)
     rw[Db] at this
     exact this
    | cpt=>
     obtain⟨hy,n,hh⟩:=ht
     cases hh
     simp only[CF.hd,CF.yd,Ln.d]
     subst hB
     generalize hB:(Ss.cons (S.ite (E.cmp Cm.is (E.var 4) E.non) _ _) Ss.nil)=B
     walk_at "ev"
     refine X9 o1 glst (ix_l (k:=2) o2 rfl ⟨Zb (Z1 o3),Z0 (by decide),by simp,Z0 (by decide),?_⟩)
     have:=put [] (.tup [.str "part",.int n,.ref fn]) (some (.tup [.str "part",.int n])) (some (match fy with | none=> .non | some (c,_)=> .ref c)) (some (.ref fn)) (show RT _ _ (.home false n ft') _ from⟨fn,ds,rfl,.inr (.inl rfl),hn' [],N.I.doneK rt⟩)
     rw[Db] at this
     exact this
    | cif=>
     obtain⟨hy,x,s,y,hh⟩:=ht
     cases hh
     cases fy with
     | some z=>cases hy
     | none=>
      simp only[CF.hd,CF.yd,Ln.d]
      subst hB
      walk_at "ev"
      refine X9 o1 glst (ix_l (k:=2) o2 rfl ⟨Zb (Z1 o3),?_⟩)
      rw[show cutD [D.str "if",x.d,D.str s,y.d] (some 1) none=[x.d,D.str s,y.d] from rfl]
      refine⟨Z0 (by decide),by decide,by simp,Z0 (Nat.le_of_ble_eq_true rfl),Z0 (by decide),Z0 (by decide),by simp,Z0 (Nat.le_of_ble_eq_true rfl),?_⟩
      exact put [.lst []] (.tup [.str "choice",x.d,.str s,y.d,.ref fn,.ref (M'.set (M.length+2) (.lst ((init'++[gg]).map fun f=> .ref f.q))).length]) _ _ _ (show RT _ _ (.cho x s y ft' []) _ from⟨fn,_,ds,[],rfl,.inr (.inl rfl),.inr (.inr (by rw[hM];exact⟨Nat.le_refl _,Nat.lt_succ_self _⟩)),hn' _,N.I.doneK rt,Z5 _ _ _,rfl⟩)
    | cel=>
     obtain⟨hy,x,s,y,hh⟩:=ht
     cases hh
     cases fy with
     | none=>cases hy
     | some z=>
      obtain⟨c,us⟩:=z
      simp only[CF.hd,CF.yd,Ln.d]
      subst hB
      walk_at "ev"
      refine X9 o1 glst (ix_l (k:=2) o2 rfl ⟨Zb (Z1 o3),?_⟩)
      rw[show cutD [D.str "if",x.d,D.str s,y.d] (some 1) none=[x.d,D.str s,y.d] from rfl]
      refine⟨Z0 (by decide),by decide,by simp,Z0 (Nat.le_of_ble_eq_true rfl),Z0 (by decide),by simp,Z0 (Nat.le_of_ble_eq_true rfl),?_⟩
      obtain⟨y1,dy,y2,y3⟩:=hf.y c us rfl
      have:=put [] (.tup [.str "choice",x.d,.str s,y.d,.ref c,.ref fn]) (some (.tup [.str "if",x.d,.str s,y.d])) (some (.ref c)) (some (.ref fn)) (show RT _ _ (.cho x s y us ft') _ from⟨c,fn,dy,ds,rfl,.inl y1,.inr (.inl rfl),Z7 (by rw[Zf (fun z=>N.I.d0.1 (by rw[z];exact y1))];exact y2),N.I.doneK y3,hn' _,N.I.doneK rt⟩)
      rw[Db] at this
      exact this
 ·rintro σ M' ⟨cfs,C,d2,d3,d4,d5,rfl,N⟩
  have A:=N.A
  rw[Ac,List.take_length,S8 hrun] at A
  delta Pq
  walk_at "ev"
  rcases Ij cfs with rfl | ⟨init,f,rfl⟩
  ·cases A
  rw[Ht] at N A
  rw[Zz] at A
  obtain⟨q1,q2⟩:=Mg.inj A
  have:init=[]:=by cases init<;>simp_all
  subst this
  rw[Dv] at N
  obtain⟨hf,hi',a1,a2,a3,a4,a5,a6,a7⟩:=(show NI M (M.length+2) ([]++[f]) C M' from N.I).last
  refine ix_l (k:=0) (Z1 N.I.o) rfl (ix_l (k:=2) (Z1 hf.q) rfl (q C M' f.n N.I.k ⟨?_,N.I.cl,a5,a7⟩))
  have e:f.t=nest ls:=congrArg Fr.n q1
  rw[←e]
  exact hf.n
end
noncomputable def Ln.g:Ln→D
 | .cond a s b=> .tup [.str "choice",a.d,.str s,b.d]
 | .els=> .gtup [.str "else"]
 | .don=> .gtup [.str "done"]
 | l=>l.d
noncomputable def hdL:T→Ln
 | .leaf l=>l
 | .home r n _=>if r then .rnd n else .prt n
 | .cho a s b _ _=> .cond a s b
noncomputable def sub':T→List T
 | .leaf _=>[]
 | .home _ _ b=>b++[.leaf .don]
 | .cho _ _ _ y []=>y++[.leaf .don]
 | .cho _ _ _ y (t::ts)=>(y++[.leaf .els])++(t::ts)++[.leaf .don]
theorem Zm4(t:T):fl t=hdL t::fls (sub' t):=by
 cases t with
 | leaf l=>rfl
 | home r n b=>rw[W5];show _=_::fls (b++[.leaf .don]);rw[X5];rfl
 | cho a s b y n=>
  cases n with
  | nil=>rw[Wf];show _=_::fls (y++[.leaf .don]);rw[X5];rfl
  | cons t ts=>
   rw[Se]
   show _=_::fls ((y++[.leaf .els])++(t::ts)++[.leaf .don])
   rw[X5,X5,X5]
   simp[Y6,Ye,Qs,hdL]
theorem Sg(ts:List T):ts.length≤(fls ts).length:=by
 induction ts with
 | nil=>exact Nat.zero_le _
 | cons t ts ih=>rw[Y6,Zm4,Ab,Aj,Aj];omega
def RG(C:Nat→Prop)(M:Z2)(t:T)(d:D):Prop:=RT C M t d∨(t= .leaf .don∧d= .gtup [.str "done"])∨(t= .leaf .els∧d= .gtup [.str "else"])
def RGs(C:Nat→Prop)(M:Z2):List T→List D→Prop
 | [],ds=>ds=[]
 | t::ts,ds=>∃d r,ds=d::r∧RG C M t d∧RGs C M ts r
theorem RG.keep{C:Nat→Prop}{M M':Z2}(k:∀c,C c→M'[c]?=M[c]?){t:T}{d:D}(h:RG C M t d):RG C M' t d:=h.imp (fun z=>z.keep (fun _ h=>h) k) fun z=>z
theorem RGs.keep{C:Nat→Prop}{M M':Z2}(k:∀c,C c→M'[c]?=M[c]?):∀{ts:List T} {ds:List D},RGs C M ts ds→RGs C M' ts ds
 | [],ds,h=>h
 | t::ts,ds,⟨d,r,e,h1,h2⟩=>⟨d,r,e,h1.keep k,RGs.keep k h2⟩
theorem RTs.rg{C:Nat→Prop}{M:Z2}:∀{ts:List T} {ds:List D},RTs C M ts ds→RGs C M ts ds
 | [],ds,h=>h
 | t::ts,ds,⟨d,r,e,h1,h2⟩=>⟨d,r,e,.inl h1,RTs.rg h2⟩
theorem RGs.len{C:Nat→Prop}{M:Z2}:∀{ts:List T} {ds:List D},RGs C M ts ds→ds.length=ts.length
 | [],ds,h=>by cases h;rfl
 | t::ts,ds,⟨d,r,e,h1,h2⟩=>by rw[e,Aj,Aj,RGs.len h2]
theorem RGs.app{C:Nat→Prop}{M:Z2}:∀{ts us:List T} {ds es:List D},RGs C M ts ds→RGs C M us es→RGs C M (ts++us) (ds++es)
 | [],us,ds,es,h,g=>by cases h;exact g
 | t::ts,us,ds,es,⟨d,r,e,h1,h2⟩,g=>by rw[e];exact⟨d,r++es,rfl,h1,RGs.app h2 g⟩
theorem Cr{C:Nat→Prop}{M:Z2}:RGs C M [.leaf .don] [.gtup [.str "done"]]:=⟨_,_,rfl,.inr (.inl ⟨rfl,rfl⟩),rfl⟩
theorem Y25{C:Nat→Prop}{M:Z2}:RGs C M [.leaf .els] [.gtup [.str "else"]]:=⟨_,_,rfl,.inr (.inr ⟨rfl,rfl⟩),rfl⟩
def Jr:DSp:=fun ds M Q _=>∃C t d,ds=[d]∧RG C M t d∧Q (hdL t).g M
def Zb8:DSp:=fun ds M Q _=>∃C t d,ds=[d]∧RG C M t d∧(∀c,C c→c<M.length)∧(fl t).length≤1000∧∀M' r ds',Kp M M'→RGs C M' (sub' t) ds'→Z3 M' r=some ds'→M.length≤r→Q (.ref r) M'
def Vs:DSp:=fun ds M Q _=>∃C ts r ds',ds=[.ref r]∧Z3 M r=some ds'∧RTs C M ts ds'∧(∀c,C c→c<M.length)∧(fls ts).length≤1000∧∀M' r',Kp M M'→Z3 M' r'=some ((fls ts).map Ln.g)→M.length≤r'→Q (.ref r') M'
theorem Ks.cl{M M':Z2}{C:Nat→Prop}(k:Kp M M')(h:∀c,C c→c<M.length):∀c,C c→M'[c]?=M[c]?:=fun c hc=>k.at' c (fun z=>z) (h c hc)
section
variable{K:Ad}{Γ:List DSp}{G:List D}
noncomputable abbrev rp:List D:=[.str "round",.str "part"]
theorem Y14{M:Z2}{Q:DK}{h:Str}{d:D}{xs:List D}(hd:d= .tup (.str h::xs)∨d= .gtup (.str h::xs))(hh:inD (.str h) rp=false)(q:Q d M):tss ⟨K,Γ,G⟩ noX Yw {nx:=fun _ M=>Q .non M,rt:=Q} [some d] M:=by
 delta Yw
 rcases hd with rfl | rfl
 ·walk_at "ev"
  refine⟨Z0 (by decide),rfl,rfl,?_⟩
  dsimp only
  rw[hh,if_neg Bf9]
  delta Vj
  walk_at "ev"
  exact q
 ·walk_at "ev"
  refine⟨Z0 (by decide),rfl,rfl,?_⟩
  dsimp only
  rw[hh,if_neg Bf9]
  delta Vj
  walk_at "ev"
  exact q
theorem Zz0{M:Z2}{Q:DK}{h:Str}{n:Int}{c:Nat}(hh:inD (.str h) rp=true)(q:Q (.tup [.str h,.int n]) M):tss ⟨K,Γ,G⟩ noX Yw {nx:=fun _ M=>Q .non M,rt:=Q} [some (.tup [.str h,.int n,.ref c])] M:=by
 delta Yw
 walk_at "ev"
 refine⟨Z0 (by decide),rfl,rfl,?_⟩
 dsimp only
 rw[hh,if_pos rfl]
 exact q
theorem Zk6:Rd K Γ G Jr G6 G3:=by
 rintro ds M Q Z ⟨C,t,d,rfl,h,q⟩
 delta G6 G3
 rcases h with h | ⟨rfl,rfl⟩ | ⟨rfl,rfl⟩
 ·cases t with
  | leaf l=>
   obtain⟨rfl,h1,h2⟩:=h
   cases l with
   | cond=>cases h2
   | rnd=>cases h2
   | prt=>cases h2
   | els=>cases h1
   | don=>cases h1
   | _=>
    simp only[Ln.d]
    walk_at "ev"
    exact Y14 (.inl rfl) (by decide+kernel) q
  | home r n b=>
   obtain⟨c,ds,rfl,_⟩:=h
   cases r with
   | true=>
    simp only[if_true]
    walk_at "ev"
    exact Zz0 (by decide+kernel) q
   | false=>
    simp only[Bool.false_eq_true,if_false]
    walk_at "ev"
    exact Zz0 (by decide+kernel) q
  | cho a s b y n=>
   obtain⟨c1,c2,d1,d2,rfl,_⟩:=h
   walk_at "ev"
   exact⟨by decide,q⟩
 ·walk_at "ev"
  exact Y14 (.inr rfl) (by decide+kernel) q
 ·walk_at "ev"
  exact Y14 (.inr rfl) (by decide+kernel) q
theorem Zz3{M:Z2}{Q:DK}{h:Str}{d:D}{xs:List D}(hd:d= .tup (.str h::xs)∨d= .gtup (.str h::xs))(hh:inD (.str h) rp=false)(hc:¬h="choice")(q:Q (.ref M.length) (M++[.lst []])):tss ⟨K,Γ,G⟩ noX Y0 {nx:=fun _ M=>Q .non M,rt:=Q} (start0 Y2 [d]) M:=by
 delta Y0 Y2
 rcases hd with rfl | rfl
 ·walk_at "ev"
  refine⟨Z0 (by decide),rfl,rfl,?_⟩
  dsimp only
  rw[hh,if_neg Bf9]
  delta Yc
  walk_at "ev"
  rw[if_pos hc]
  exact⟨Z0 (by decide),q⟩
 ·walk_at "ev"
  refine⟨Z0 (by decide),rfl,rfl,?_⟩
  dsimp only
  rw[hh,if_neg Bf9]
  delta Yc
  walk_at "ev"
  rw[if_pos hc]
  exact⟨Z0 (by decide),q⟩
theorem Z89(e1:G[1]?=some (.gtup [.str "done"])){M:Z2}{Q:DK}{h:Str}{n:Int}{c:Nat}{ds:List D}(hh:inD (.str h) rp=true)(hc:Z3 M c=some ds)(hl:ds.length≤1000)(q:Q (.ref (M++[Cell.lst [D.gtup [.str "done"]]]).length) (M++[Cell.lst [D.gtup [.str "done"]]]++[.lst (ds++[.gtup [.str "done"]])])):tss ⟨K,Γ,G⟩ noX Y0 {nx:=fun _ M=>Q .non M,rt:=Q} (start0 Y2 [.tup [.str h,.int n,.ref c]]) M:=by
 delta Y0 Y2
 walk_at "ev"
 refine⟨Z0 (by decide),rfl,rfl,?_⟩
 dsimp only
 rw[hh,if_pos rfl]
 simp only[e1]
 try walk_at "ev"
 exact⟨Z0 (by decide),_,_,Z7 hc,Z5 _ _ [],Z0 (by rw[Aq];omega),q⟩
theorem Jn(e0:G[0]?=some (.gtup [.str "else"]))(e1:G[1]?=some (.gtup [.str "done"])):Rd K Γ G Zb8 Y0 Y2:=by
 rintro ds M Q Z ⟨C,t,d,rfl,h,hC,hz,q⟩
 have q0:∀l,sub' (.leaf l)=[]:=fun _=>rfl
 have em:sub' t=[]→Q (.ref M.length) (M++[.lst []]):=fun e=>q _ _ [] (Ks.new _ _) (by rw[e];rfl) (Z5 _ _ _) (Nat.le_refl _)
 rcases h with h | ⟨rfl,rfl⟩ | ⟨rfl,rfl⟩
 ·cases t with
  | leaf l=>
   obtain⟨rfl,h1,h2⟩:=h
   cases l with
   | cond=>cases h2
   | rnd=>cases h2
   | prt=>cases h2
   | els=>cases h1
   | don=>cases h1
   | _=>exact Zz3 (.inl rfl) (by decide+kernel) (by decide+kernel) (em rfl)
  | home r n b=>
   obtain⟨c,ds,rfl,hc,hr,rt⟩:=h
   have hl:ds.length≤1000:=by
    have:=Sg b
    rw[W5,Aj,Ab] at hz
    rw[rt.len]
    omega
   have fin:=q (M++[Cell.lst [D.gtup [.str "done"]]]++[.lst (ds++[.gtup [.str "done"]])]) _ _ ((Ks.new _ _).app _) ((rt.rg.keep (((Ks.new M _).app _).cl hC)).app Cr) (Z5 _ _ _) (by rw[Ab];omega)
   cases r with
   | true=>exact Z89 e1 (by decide+kernel) hr hl fin
   | false=>exact Z89 e1 (by decide+kernel) hr hl fin
  | cho a s b y n=>
   obtain⟨c1,c2,d1,d2,rfl,h1,h2,h3,h4,h5,h6⟩:=h
   delta Y0 Y2
   walk_at "ev"
   refine⟨Z0 (by decide),rfl,rfl,?_⟩
   dsimp only
   rw[show inD (.str "choice") [.str "round",.str "part"]=false by decide+kernel,if_neg Bf9]
   delta Yc
   walk_at "ev"
   delta W4
   walk_at "ev"
   rw[if_neg (by simp),show cutD [D.str "choice",a.d,D.str s,b.d,D.ref c1,D.ref c2] (some 4) none=[.ref c1,.ref c2] from rfl]
   refine⟨by decide,?_⟩
   walk_at "ev"
   have l1:=h4.len
   have l2:=h6.len
   have f1:=Sg y
   have f2:=Sg n
   have k1:Kp M (M++[.lst []]):=Ks.new _ _
   refine⟨Z0 (by decide),S0 (Zd (Z1 h5)) (Ze _ _ []) ?_⟩
   cases n with
   | nil=>
    cases h6
    simp only[List.isEmpty_nil,e1]
    walk_at "ev"
    rw[Wf,Aj,Ab] at hz
    refine⟨Z0 (by decide),_,_,Z7 (Z7 h3),Z5 _ _ [],Z0 (by rw[Aq];omega),?_⟩
    refine q _ _ _ ((k1.app _).app _) ((h4.rg.keep (((k1.app _).app _).cl hC)).app Cr) (Z5 _ _ _) ?_
    simp only[Ab]
    omega
   | cons t us=>
    rw[Se] at hz
    simp only[Aj,Ab] at hz l2 f2
    have ne:d2.isEmpty=false:=by cases d2<;>simp_all
    rw[ne,if_neg Bf9]
    delta Wi
    walk_at "ev"
    simp only[e0,e1]
    refine⟨Z0 (by decide),_,_,Z7 (Z7 h3),Z5 _ _ [],Z0 (by rw[Aq];omega),?_⟩
    try walk_at "ev"
    refine⟨_,_,Z5 _ _ [],Z7 (Z7 (Z7 h5)),Z0 (by simp only[Ab,Aq];omega),?_⟩
    refine⟨Z0 (by decide),_,_,Z7 (Z5 _ _ []),Z5 _ _ [],Z0 (by simp only[Ab,Aq];omega),?_⟩
    have kk:=(((((k1.app [Cell.lst [D.gtup [.str "else"]]]).app [Cell.lst (d1++[D.gtup [.str "else"]])]).app [Cell.lst (d1++[D.gtup [.str "else"]]++d2)]).app [Cell.lst [D.gtup [.str "done"]]]).app [Cell.lst (d1++[D.gtup [.str "else"]]++d2++[D.gtup [.str "done"]])])
    refine q _ _ _ kk ((((h4.rg.keep (kk.cl hC)).app Y25).app (h6.rg.keep (kk.cl hC))).app Cr) (Z5 _ _ _) ?_
    simp only[Ab]
    omega
 ·exact Zz3 (.inr rfl) (by decide+kernel) (by decide+kernel) (em rfl)
 ·exact Zz3 (.inr rfl) (by decide+kernel) (by decide+kernel) (em rfl)
theorem Z74(gl:Γ[0]?=some Jr)(gt:Γ[1]?=some Zb8):Rd K Γ G Vs Nl Ot:=by
 rintro ds M Q Z ⟨C,us,r,ds',rfl,hr,rt,hC,hz,q⟩
 delta Nl Ot
 generalize hw:S.while_ _ _=w
 walk_at "ev"
 refine⟨Z0 (by decide),_,Zd (Z1 hr),?_⟩
 rw[Ay]
 subst hw
 refine U.Jv (c:=⟨K,Γ,G⟩) (X:=noX) (fun σ M'=>∃(d:Option D) (dn:List Ln) (its:List T) (es:List D),σ=[some (.ref r),some (.ref M.length),some (.ref (M.length+1)),d]∧Kp M M'∧Z3 M' M.length=some (dn.map Ln.g)∧Z3 M' (M.length+1)=some es.reverse∧RGs C M' its es∧dn++fls its=fls us) (fun σ M'=>1000 - ((Z3 M' M.length).getD []).length)
  ?_ ?_
 ·exact⟨none,[],us,ds',by simp,Ks.new _ _,Z5 _ _ _,Zp _ _ 1,rt.rg.keep ((Ks.new M _).cl hC),rfl⟩
 rintro σ M' ⟨d,dn,its,es,rfl,k,e1,e2,rg,ef⟩
 walk_at "ev"
 refine⟨Z0 (by decide),S0 (Zd (Z1 e2)) (Ze _ _ []) ?_⟩
 have k1:Kp M (M'++[.lst []]):=k.app _
 have e1':=Z7 (N:=[.lst []]) e1
 have e2':=Z7 (N:=[.lst []]) e2
 have kc:∀c,C c→(M'++[Cell.lst []])[c]?=M'[c]?:=fun c h=>Wj (Nat.lt_of_lt_of_le (hC c h) k.len)
 have rg':=rg.keep kc
 cases its with
 | nil=>
  cases rg
  rw[Ye,Db] at ef
  subst ef
  simp only[List.reverse_nil,List.isEmpty_nil]
  try walk_at "ev"
  delta Rl
  walk_at "ev"
  exact q _ _ k1 e1' (Nat.le_refl _)
 | cons t its=>
  obtain⟨d,es,rfl,h1,h2⟩:=rg'
  have en:((d::es).reverse).isEmpty=false:=by simp
  rw[en]
  delta Rj
  walk_at "ev"
  have fz:dn.length+((fl t).length+(fls its).length)≤1000:=by
   rw[←Ab,←Y6,←Ab,ef]
   exact hz
  have ft:1≤(fl t).length:=by rw[Zm4,Aj];omega
  have hes:es.length≤1000:=by rw[h2.len];have:=Sg its;omega
  refine⟨Zb (Z1 e2'),_,d,e2',by simp,?_⟩
  rw[show(d::es).reverse.dropLast=es.reverse by simp]
  have lt2:=Z9 (Z1 e2')
  have e3:Z3 (Hy (M'++[Cell.lst []]) (M.length+1) (.lst es.reverse)) M.length=some (dn.map Ln.g):=by rw[Zf (by omega)];exact e1'
  have kc2:∀c,C c→(Hy (M'++[Cell.lst []]) (M.length+1) (.lst es.reverse))[c]?=(M'++[Cell.lst []])[c]?:=fun c h=>Y8 (a:=M.length+1) (by have:=hC c h;omega)
  refine⟨Zb (Z1 e3),?_⟩
  simp only[gl]
  refine⟨C,t,d,rfl,h1.keep kc2,?_⟩
  try walk_at "ev"
  refine⟨_,e3,Z6 (by rw[Ac];omega),?_⟩
  have M4e:∀c,C c→((Hy (M'++[Cell.lst []]) (M.length+1) (.lst es.reverse)).set M.length (.lst (dn.map Ln.g++[(hdL t).g])))[c]?=(M'++[Cell.lst []])[c]?:=fun c h=>by
   rw[Y8 (a:=M.length) (by have:=hC c h;omega)]
   exact kc2 c h
  have k4:Kp M ((Hy (M'++[Cell.lst []]) (M.length+1) (.lst es.reverse)).set M.length (.lst (dn.map Ln.g++[(hdL t).g]))):=(k1.set (.inr (by omega))).set (.inr (Nat.le_refl _))
  have f1:Z3 ((Hy (M'++[Cell.lst []]) (M.length+1) (.lst es.reverse)).set M.length (.lst (dn.map Ln.g++[(hdL t).g]))) M.length=some ((dn++[hdL t]).map Ln.g):=by
   rw[Z8 (Z9 (Z1 e3)),Am]
   rfl
  have f2:Z3 ((Hy (M'++[Cell.lst []]) (M.length+1) (.lst es.reverse)).set M.length (.lst (dn.map Ln.g++[(hdL t).g]))) (M.length+1)=some es.reverse:=by
   rw[Zf (by omega),Z8 lt2]
  generalize (Hy (M'++[Cell.lst []]) (M.length+1) (.lst es.reverse)).set M.length (.lst (dn.map Ln.g++[(hdL t).g]))=M4 at M4e k4 f1 f2 ⊢
  refine⟨Zb (Z1 f2),?_⟩
  simp only[gt]
  have hC4:∀c,C c→c<M4.length:=fun c h=>Nat.lt_of_lt_of_le (hC c h) k4.len
  refine⟨C,t,d,rfl,h1.keep M4e,hC4,by omega,fun M5 r5 d5 k5 g5 e5 l5=>?_⟩
  have l5':=k4.len
  have f2':=k5.pW f2
  have d5l:d5.length≤1000:=by
   rw[g5.len]
   have:=Sg (sub' t)
   rw[Zm4,Aj] at fz
   omega
  refine⟨_,Z1 e5,_,_,Z7 f2',Z5 _ _ _,Z0 (by rw[List.length_reverse,List.length_reverse];omega),⟨_,dn++[hdL t],sub' t++its,d5++es,rfl,((k4.trans k5).app _).set (.inr (by omega)),?_,?_,?_,?_⟩,?_⟩
  ·rw[Zf (by omega)]
   exact Z7 (k5.pW f1)
  ·rw[Z8 (Z9 (Z1 (Z7 f2'))),List.reverse_append]
  ·have kk:∀c,C c→(Hy (M5++[Cell.lst d5.reverse]) (M.length+1) (.lst (es.reverse++d5.reverse)))[c]?=M5[c]?:=fun c h=>by
    rw[Y8 (a:=M.length+1) (by have:=hC c h;omega)]
    exact Wj (Nat.lt_of_lt_of_le (hC4 c h) k5.len)
   exact(g5.keep kk).app ((h2.keep M4e).keep (fun c h=>(kk c h).trans (k5.cl hC4 c h)))
  ·rw[←ef,Y6,Zm4,X5]
   simp
  ·rw[Zf (by omega),Z7 (k5.pW f1),e1]
   simp
   omega
end
noncomputable def isR(n:Int):Ln→Bool
 | .rnd m=>m==n
 | _=>false
noncomputable def isP(n:Int):Ln→Bool
 | .prt m=>m==n
 | _=>false
noncomputable def kp:List Ln→List Ln→Bool
 | _,[]=>true
 | st,.cond a s b::ls=>kp (st++[.cond a s b]) ls
 | st,.rnd n::ls=>kp (st++[.rnd n]) ls
 | st,.prt n::ls=>kp (st++[.prt n]) ls
 | st,.don::ls=>kp st.dropLast ls
 | st,.lve n::ls=>(st.any (isR n) || st.any (isP n))&&kp st ls
 | st,.agn n::ls=>st.any (isR n)&&kp st ls
 | st,.sum _ _ _ _::ls=>kp st ls
 | st,.els::ls=>kp st ls
 | st,.fin::ls=>kp st ls
noncomputable def nums:List Ln→List Int
 | []=>[]
 | .rnd n::ls=>n::nums ls
 | .prt n::ls=>n::nums ls
 | _::ls=>nums ls
theorem Q2(ls:List Ln):(nums ls).length≤ls.length:=by
 induction ls with
 | nil=>exact Nat.le_refl _
 | cons l ls ih=>cases l<;>simp only[nums,Aj]<;>omega
theorem V0(a b:List Ln):nums (a++b)=nums a++nums b:=by
 induction a with
 | nil=>rfl
 | cons l a ih=>cases l<;>simp only[nums,Dp,ih]
noncomputable def far(i:Int):Bool:=decide (i<0) || decide (9999<i)
noncomputable def snd(ls:List Ln):Bool:=decide (nums ls).Nodup&&!(nums ls).any far&&kp [] ls
noncomputable def dp:Nat→List Ln→Option Nat
 | n,[]=>some n
 | n,.cond _ _ _::ls=>dp (n+1) ls
 | n,.rnd _::ls=>dp (n+1) ls
 | n,.prt _::ls=>dp (n+1) ls
 | n+1,.don::ls=>dp n ls
 | 0,.don::_=>none
 | n,.sum _ _ _ _::ls=>dp n ls
 | n,.lve _::ls=>dp n ls
 | n,.agn _::ls=>dp n ls
 | n,.els::ls=>dp n ls
 | n,.fin::ls=>dp n ls
theorem Ou(a b:List Ln)(n:Nat):dp n (a++b)=(dp n a).bind fun m=>dp m b:=by
 induction a generalizing n with
 | nil=>rfl
 | cons l a ih=>
  cases l with
  | don=>cases n<;>simp only[dp,Dp,ih,Option.bind_none]
  | _=>simp only[dp,Dp,ih]
mutual
noncomputable def okT:T→Bool
 | .leaf l=>l.pl&&!l.beg
 | .home _ _ b=>okTs b
 | .cho _ _ _ y n=>okTs y&&okTs n
noncomputable def okTs:List T→Bool
 | []=>true
 | t::ts=>okT t&&okTs ts
end
mutual
theorem Yb7:∀(t:T) (n:Nat),okT t=true→dp n (fl t)=some n
 | .leaf l,n,h=>by
  rw[Qs]
  cases l<;>first | rfl | (exact absurd h (by decide)) | cases h
 | .home r k b,n,h=>by
  rw[W5]
  cases r<;>(show dp (n+1) _=_;rw[Ou,Ol b (n+1) h];rfl)
 | .cho a s b y [],n,h=>by
  rw[Wf]
  have h1:okTs y=true:=(Bool.and_eq_true_iff.mp h).1
  show dp (n+1) _=_
  rw[Ou,Ol y (n+1) h1]
  rfl
 | .cho a s b y (t::us),n,h=>by
  rw[Se]
  obtain⟨h1,h2⟩:=Bool.and_eq_true_iff.mp h
  obtain⟨h3,h4⟩:=Bool.and_eq_true_iff.mp h2
  show dp (n+1) _=_
  rw[Ou,Ol y (n+1) h1]
  show dp (n+1) (fls (t::us)++[.don])=_
  rw[Y6,Ay,Ou,Yb7 t (n+1) h3]
  show dp (n+1) (fls us++[.don])=_
  rw[Ou,Ol us (n+1) h4]
  rfl
theorem Ol:∀(us:List T) (n:Nat),okTs us=true→dp n (fls us)=some n
 | [],n,_=>rfl
 | t::us,n,h=>by
  obtain⟨h1,h2⟩:=Bool.and_eq_true_iff.mp h
  rw[Y6,Ou,Yb7 t n h1]
  exact Ol us n h2
end
mutual
theorem RT.ok{C:Nat→Prop}{M:Z2}:∀{t:T} {d:D},RT C M t d→okT t=true
 | .leaf l,d,h=>by
  obtain⟨_,h1,h2⟩:=h
  show(l.pl&&!l.beg)=true
  rw[h1,h2];rfl
 | .home _ _ b,d,h=>by obtain⟨c,ds,_,_,_,h⟩:=h;exact RTs.ok h
 | .cho _ _ _ y n,d,h=>by
  obtain⟨_,_,_,_,_,_,_,_,h1,_,h2⟩:=h
  show(okTs y&&okTs n)=true
  rw[RTs.ok h1,RTs.ok h2];rfl
theorem RTs.ok{C:Nat→Prop}{M:Z2}:∀{us:List T} {ds:List D},RTs C M us ds→okTs us=true
 | [],ds,_=>rfl
 | t::us,ds,h=>by
  obtain⟨d,r,_,h1,h2⟩:=h
  show(okT t&&okTs us)=true
  rw[RT.ok h1,RTs.ok h2];rfl
end
noncomputable def oL(c:Str):Ln→List D
 | .cond a _ _=>[.str c,a.d]
 | .rnd n=>[.str "round",.int n]
 | .prt n=>[.str "part",.int n]
 | _=>[]
theorem Opd.flat(o:Opd):Zs o.d=true:=by cases o<;>rfl
theorem Zh4(c:Str)(l:Ln):(oL c l).all Zs=true:=by
 cases l with
 | cond a s b=>show(Zs (.str c)&&(Zs a.d&&true))=true;rw[a.flat];rfl
 | _=>rfl
theorem Ws(a b:Str)(x:D)(n:Int):eqFs [.str a,x] [.str b,.int n]=(decide (a=b)&&eqF x (.int n)):=by
 show((eqF (.str a) (.str b)&&(eqF x (.int n)&&true))&&true)=_
 rw[Bool.and_true,Bool.and_true]
 show((a==b)&&_)=_
 congr 1
theorem Ym7{c:Str}(hc:¬c="round")(st:List Ln)(n:Int):(st.map (oL c)).any (fun zs=>eqFs zs [.str "round",.int n])=st.any (isR n):=by
 rw[Lv]
 congr 1
 funext l
 show eqFs (oL c l) _=isR n l
 cases l with
 | cond a s b=>show eqFs [.str c,a.d] _=false;rw[Ws,decide_eq_false hc];rfl
 | rnd m=>show eqFs [.str "round",.int m] _=(m==n);rw[Ws,decide_eq_true rfl];rfl
 | prt m=>show eqFs [.str "part",.int m] _=false;rw[Ws,decide_eq_false (by decide+kernel)];rfl
 | _=>rfl
theorem Yl3{c:Str}(hc:¬c="part")(st:List Ln)(n:Int):(st.map (oL c)).any (fun zs=>eqFs zs [.str "part",.int n])=st.any (isP n):=by
 rw[Lv]
 congr 1
 funext l
 show eqFs (oL c l) _=isP n l
 cases l with
 | cond a s b=>show eqFs [.str c,a.d] _=false;rw[Ws,decide_eq_false hc];rfl
 | prt m=>show eqFs [.str "part",.int m] _=(m==n);rw[Ws,decide_eq_true rfl];rfl
 | rnd m=>show eqFs [.str "round",.int m] _=false;rw[Ws,decide_eq_false (by decide+kernel)];rfl
 | _=>rfl
theorem in_R{c:Str}(hc:¬c="round"){M:Z2}{o:Nat}{st:List Ln}{n:Int}{B:Bool→Prop}(h:Za M o=some ((st.map (oL c)).map .tup))(q:B (st.any (isR n))):inQ M (.tup [.str "round",.int n]) (.ref o) B:=
 .inr (.inr ⟨_,_,rfl,h,rfl,by rw[List.all_map];exact Dj.mpr fun l _=>Zh4 c l,by rw[Ym7 hc];exact q⟩)
theorem in_P{c:Str}(hc:¬c="part"){M:Z2}{o:Nat}{st:List Ln}{n:Int}{B:Bool→Prop}(h:Za M o=some ((st.map (oL c)).map .tup))(q:B (st.any (isP n))):inQ M (.tup [.str "part",.int n]) (.ref o) B:=
 .inr (.inr ⟨_,_,rfl,h,rfl,by rw[List.all_map];exact Dj.mpr fun l _=>Zh4 c l,by rw[Yl3 hc];exact q⟩)
noncomputable def wi(st:List Ln):Ln→Bool
 | .lve n=>st.any (isR n) || st.any (isP n)
 | .agn n=>st.any (isR n)
 | _=>false
noncomputable def goes:Ln→Bool
 | .lve _ | .agn _=>true
 | _=>false
def Q0:DSp:=fun ds M Q _=>∃(l:Ln) (o:Nat) (st:List Ln),ds=[l.g,.ref o]∧goes l=true∧Za M o=some ((st.map (oL "choice")).map .tup)∧Q (.bl (wi st l)) M
def Zd8:DSp:=fun ds M Q _=>∃(r:Nat) (ls:List Ln),ds=[.ref r]∧Za M r=some (ls.map Ln.g)∧ls.length≤2000∧(dp 0 ls).isSome=true∧∀M',Kp M M'→Q (.bl (kp [] ls)) M'
section
variable{K:Ad}{Γ:List DSp}{G:List D}
theorem E8:Rd K Γ G Q0 Q9 Pw:=by
 rintro ds M Q Z ⟨l,o,st,rfl,hl,ho,q⟩
 delta Q9 Pw
 cases l with
 | lve n=>
  simp only[Ln.g,Ln.d]
  walk_at "ev"
  refine⟨Z0 (by decide),in_R (by decide+kernel) ho ?_⟩
  simp only[wi] at q
  cases h1:st.any (isR n) with
  | true=>
   rw[h1] at q
   walk_at "ev"
   exact q
  | false=>
   rw[h1] at q
   delta Xl
   walk_at "ev"
   refine⟨Z0 (by decide),in_P (by decide+kernel) ho ?_⟩
   rw[Bool.false_or] at q
   exact q
 | agn n=>
  simp only[Ln.g,Ln.d]
  walk_at "ev"
  refine⟨Z0 (by decide),in_R (by decide+kernel) ho ?_⟩
  simp only[wi] at q
  cases h1:st.any (isR n) with
  | true=>
   rw[h1] at q
   walk_at "ev"
   exact q
  | false=>
   rw[h1] at q
   delta Xl
   walk_at "ev"
   exact q
 | _=>cases hl
end
theorem X4(h k:Str)(xs:List D)(hk:¬h=k):eqFs (.str h::xs) [.str k]=false:=by
 unfold eqFs
 rw[show min (D.str h::xs).length [D.str k].length=1 by simp]
 show((eqF (.str h) (.str k)&&true)&&_)=false
 have:eqF (.str h) (.str k)=false:=by show(h==k)=false;simpa using hk
 rw[this]
 rfl
theorem J7{M:Z2}{x:D}{xs ys:List D}{B:Bool→Prop}(hx:x= .tup xs∨x= .gtup xs)(f1:xs.all Zs=true)(f2:ys.all Zs=true)(q:B (eqFs xs ys)):eqD M x (.gtup ys) B:=by
 rcases hx with rfl | rfl
 ·exact .inr (.inr (.inr ⟨xs,ys,.inl rfl,.inr rfl,f1,f2,q⟩))
 ·exact .inr (.inr (.inr ⟨xs,ys,.inr rfl,.inr rfl,f1,f2,q⟩))
theorem Eh{l:List D}{F:List D→Prop}:Z87 (.tup l) F=F l:=rfl
section
variable{K:Ad}{Γ:List DSp}{G:List D}
theorem Zz9(c:Str)(st:List Ln)(l:Ln):((st++[l]).map (oL c)).map D.tup=(st.map (oL c)).map .tup++[.tup (oL c l)]:=by simp
theorem Y89{α:Type}{f:Ln→α}{st:List Ln}(h:st≠[]):∃d,(st.map f)[(st.map f).length - 1]?=some d∧(st.map f).dropLast=st.dropLast.map f:=by
 rcases Ij st with rfl | ⟨tl,x,rfl⟩
 ·exact absurd rfl h
 ·exact⟨f x,by rw[Ht,Am,Ab];simp,by rw[Ht,Am];simp⟩
theorem J8(e1:G[1]?=some (.gtup [.str "done"]))(e2:G[2]?=some (.gtup [.str "choice",.str "round",.str "part"]))(gw:Γ[3]?=some Q0):Rd K Γ G Zd8 Vr Te:=by
 rintro ds M Q Z ⟨r,ls,rfl,hr,hl,hd,q⟩
 delta Vr Te
 walk_at "ev"
 refine⟨Z0 (by decide),_,Zd hr,?_⟩
 refine Wb (fun i σ M'=>∃(d:Option D) (st:List Ln),σ=[some (.ref r),some (.ref M.length),d]∧Kp M M'∧Z3 M' M.length=some ((st.map (oL "choice")).map .tup)∧kp [] ls=kp st (ls.drop i)∧(dp st.length (ls.drop i)).isSome=true∧st.length≤i) ⟨none,[],rfl,Ks.new _ _,Z5 _ _ _,rfl,hd,Nat.le_refl _⟩ ?_ ?_ ?_
 ·rintro i σ M' _ ⟨d,st,rfl,k,_⟩
  exact k.pL hr
 ·rintro i d σ M' P hdi ⟨d0,st,rfl,k,eo,ek,ed,el⟩ hP
  obtain⟨l,hl1,rfl⟩:∃l,ls[i]?=some l∧d=l.g:=by
   rw[As] at hdi
   cases e:ls[i]? with
   | none=>rw[e] at hdi;cases hdi
   | some l=>rw[e] at hdi;cases hdi;exact⟨l,rfl,rfl⟩
  obtain⟨hi,hli⟩:=Af.mp hl1
  rw[Dl hi,hli] at ek ed
  have lt:=Z9 (Z1 eo)
  rw[tg_one]
  delta W3
  have push:∀d1:Option D,kp [] ls=kp (st++[l]) (ls.drop (i+1))→(dp (st.length+1) (ls.drop (i+1))).isSome=true→P [some (.ref r),some (.ref M.length),d1] (M'.set M.length (.lst ((st.map (oL "choice")).map .tup++[.tup (oL "choice" l)]))):=by
   intro d1 h1 h2
   refine hP _ _ ⟨d1,st++[l],rfl,k.set (.inr (Nat.le_refl _)),?_,h1,by rw[Ab];exact h2,by rw[Ab,Aq];omega⟩
   rw[Z8 lt,Zz9]
  have stay:∀d1:Option D,kp [] ls=kp st (ls.drop (i+1))→(dp st.length (ls.drop (i+1))).isSome=true→P [some (.ref r),some (.ref M.length),d1] M':=fun d1 h1 h2=>hP _ _ ⟨d1,st,rfl,k,eo,h1,h2,by omega⟩
  have sz:((st.map (oL "choice")).map D.tup).length<sizeLine:=Z6 (by rw[Ac,Ac];omega)
  have go:∀(h:Str) (n:Int) (d1:Option D),inD (.str h) [.str "leave",.str "again"]=true→l.g= .tup [.str h,.int n]→goes l=true→kp [] ls=(wi st l&&kp st (ls.drop (i+1)))→(dp st.length (ls.drop (i+1))).isSome=true→
    inQ M' (.str h) (.tup [.str "leave",.str "again"]) fun r1=>if r1=true then Q0 [.tup [.str h,.int n],.ref M.length] M' (fun x M1=>truD M1 x fun b=>if b=false then Q (.bl false) M1 else P [some (.ref r),some (.ref M.length),d1] M1) noX else if r1=true then Q (.bl false) M' else P [some (.ref r),some (.ref M.length),d1] M':=by
   intro h n d1 h1 h2 h3 h4 h5
   refine⟨rfl,rfl,?_⟩
   dsimp only
   rw[h1,if_pos rfl,←h2]
   refine⟨l,M.length,st,rfl,h3,Z1 eo,?_⟩
   dsimp only
   rw[tru_b]
   cases hw:wi st l with
   | false=>
    rw[if_pos rfl]
    have:=q M' k
    rw[h4,hw] at this
    exact this
   | true=>
    rw[if_neg (by decide)]
    exact stay d1 (by rw[h4,hw];rfl) h5
  cases l with
  | cond a s b=>
   simp only[Ln.g]
   generalize (Ss.cons (S.ite (E.cmp Cm.eq (E.var 2) (E.glb 1)) _ _) Ss.nil)=B
   walk_at "ev"
   simp only[e2]
   refine⟨rfl,rfl,?_⟩
   dsimp only
   rw[show inD (.str "choice") [.str "choice",.str "round",.str "part"]=true by decide+kernel,if_pos rfl,Eh]
   exact⟨Zb (Z1 eo),_,eo,sz,push _ ek ed⟩
  | rnd n=>
   simp only[Ln.g,Ln.d]
   generalize (Ss.cons (S.ite (E.cmp Cm.eq (E.var 2) (E.glb 1)) _ _) Ss.nil)=B
   walk_at "ev"
   simp only[e2]
   refine⟨rfl,rfl,?_⟩
   dsimp only
   rw[show inD (.str "round") [.str "choice",.str "round",.str "part"]=true by decide+kernel,if_pos rfl,Eh]
   exact⟨Zb (Z1 eo),_,eo,sz,push _ ek ed⟩
  | prt n=>
   simp only[Ln.g,Ln.d]
   generalize (Ss.cons (S.ite (E.cmp Cm.eq (E.var 2) (E.glb 1)) _ _) Ss.nil)=B
   walk_at "ev"
   simp only[e2]
   refine⟨rfl,rfl,?_⟩
   dsimp only
   rw[show inD (.str "part") [.str "choice",.str "round",.str "part"]=true by decide+kernel,if_pos rfl,Eh]
   exact⟨Zb (Z1 eo),_,eo,sz,push _ ek ed⟩
  | don=>
   simp only[Ln.g]
   generalize (Ss.cons (S.ite (E.bop true _) _ _) Ss.nil)=B
   walk_at "ev"
   simp only[e1,e2]
   refine⟨rfl,rfl,?_⟩
   dsimp only
   rw[show inD (.str "done") [.str "choice",.str "round",.str "part"]=false by decide+kernel,if_neg Bf9]
   refine J7 (.inr rfl) rfl rfl ?_
   rw[show eqFs [.str "done"] [.str "done"]=true by decide+kernel,if_pos rfl]
   have hne:st≠[]:=by
    rintro rfl
    cases ed
   obtain⟨d,h1,h2⟩:=Y89 (f:=fun l=>D.tup (oL "choice" l)) hne
   have eo':Z3 M' M.length=some (st.map fun l=>D.tup (oL "choice" l)):=by rw[eo,Ma];rfl
   refine⟨Zb (Z1 eo),_,d,eo',h1,hP _ _ ⟨_,st.dropLast,rfl,k.set (.inr (Nat.le_refl _)),?_,ek,?_,by rw[List.length_dropLast];omega⟩⟩
   ·rw[Z8 lt,h2,Ma]
    rfl
   ·rw[List.length_dropLast]
    have:st.length=(st.length - 1)+1:=by have:=List.length_pos_iff.mpr hne;omega
    rw[this] at ed
    exact ed
  | lve n=>
   simp only[Ln.g,Ln.d]
   walk_at "ev"
   simp only[e1,e2,gw]
   refine⟨rfl,rfl,?_⟩
   dsimp only
   rw[show inD (.str "leave") [.str "choice",.str "round",.str "part"]=false by decide+kernel,if_neg Bf9]
   refine J7 (.inl rfl) rfl rfl ?_
   rw[X4 _ _ _ (by decide+kernel),if_neg Bf9]
   exact⟨Z0 (by decide),go "leave" n _ (by decide+kernel) rfl rfl ek ed⟩
  | agn n=>
   simp only[Ln.g,Ln.d]
   walk_at "ev"
   simp only[e1,e2,gw]
   refine⟨rfl,rfl,?_⟩
   dsimp only
   rw[show inD (.str "again") [.str "choice",.str "round",.str "part"]=false by decide+kernel,if_neg Bf9]
   refine J7 (.inl rfl) rfl rfl ?_
   rw[X4 _ _ _ (by decide+kernel),if_neg Bf9]
   exact⟨Z0 (by decide),go "again" n _ (by decide+kernel) rfl rfl ek ed⟩
  | sum x a s b=>
   simp only[Ln.g,Ln.d]
   walk_at "ev"
   simp only[e1,e2]
   refine⟨rfl,rfl,?_⟩
   dsimp only
   rw[show inD (.str "sum") [.str "choice",.str "round",.str "part"]=false by decide+kernel,if_neg Bf9]
   refine J7 (.inl rfl) (by show(true&&(true&&(Zs a.d&&(true&&(Zs b.d&&true)))))=true;rw[a.flat,b.flat];rfl) rfl ?_
   rw[X4 _ _ _ (by decide+kernel),if_neg Bf9]
   refine⟨Z0 (by decide),rfl,rfl,?_⟩
   dsimp only
   rw[show inD (.str "sum") [.str "leave",.str "again"]=false by decide+kernel,if_neg Bf9,if_neg Bf9]
   exact stay _ ek ed
  | els=>
   simp only[Ln.g]
   walk_at "ev"
   simp only[e1,e2]
   refine⟨rfl,rfl,?_⟩
   dsimp only
   rw[show inD (.str "else") [.str "choice",.str "round",.str "part"]=false by decide+kernel,if_neg Bf9]
   refine J7 (.inr rfl) rfl rfl ?_
   rw[X4 _ _ _ (by decide+kernel),if_neg Bf9]
   refine⟨Z0 (by decide),rfl,rfl,?_⟩
   dsimp only
   rw[show inD (.str "else") [.str "leave",.str "again"]=false by decide+kernel,if_neg Bf9,if_neg Bf9]
   exact stay _ ek ed
  | fin=>
   simp only[Ln.g,Ln.d]
   walk_at "ev"
   simp only[e1,e2]
   refine⟨rfl,rfl,?_⟩
   dsimp only
   rw[show inD (.str "end") [.str "choice",.str "round",.str "part"]=false by decide+kernel,if_neg Bf9]
   refine J7 (.inl rfl) rfl rfl ?_
   rw[X4 _ _ _ (by decide+kernel),if_neg Bf9]
   refine⟨Z0 (by decide),rfl,rfl,?_⟩
   dsimp only
   rw[show inD (.str "end") [.str "leave",.str "again"]=false by decide+kernel,if_neg Bf9,if_neg Bf9]
   exact stay _ ek ed
 ·rintro σ M' ⟨d,st,rfl,k,eo,ek,ed,el⟩
  rw[Ac,List.drop_length] at ek
  delta Wg
  walk_at "ev"
  have:=q M' k
  rw[ek] at this
  exact this
end
theorem Wm{α:Type}[DecidableEq α]:∀{a b:List α},a.Nodup→(∀x∈a,x∈b)→a.length≤b.length
 | [],_,_,_=>Nat.zero_le _
 | x::r,b,nd,h=>by
  have nd:=Ip.mp nd
  have hx:=h x Ao
  have ih:=Wm (b:=b.erase x) nd.2 fun y hy=>by
   have:y≠x:=fun z=>nd.1 (z ▸ hy)
   exact(List.mem_erase_of_ne this).mpr (h y (Ar _ hy))
  rw[List.length_erase_of_mem hx] at ih
  have:0<b.length:=List.length_pos_of_mem hx
  rw[Aj]
  omega
theorem Zs0{α:Type}[DecidableEq α]{a b:List α}(na:a.Nodup)(m:∀x,x∈a↔x∈b):decide (a.length<b.length)= !decide b.Nodup:=by
 by_cases nb:b.Nodup
 ·have h1:=Wm na fun x hx=>(m x).mp hx
  have h2:=Wm nb fun x hx=>(m x).mpr hx
  rw[decide_eq_false (by omega),decide_eq_true nb]
  rfl
 ·rw[decide_eq_false nb,Bool.not_false,decide_eq_true_eq]
  have:∃c:List α,c.length<b.length∧∀x∈b,x∈c:=by
   clear na m
   induction b with
   | nil=>exact absurd List.nodup_nil nb
   | cons x b ih=>
    by_cases hx:x∈b
    ·exact⟨b,by simp,fun y hy=>(Ag.mp hy).elim (fun z=>z ▸ hx) fun z=>z⟩
    ·obtain⟨c,h1,h2⟩:=ih fun z=>nb (Ip.mpr ⟨hx,z⟩)
     exact⟨x::c,by simp;omega,fun y hy=>(Ag.mp hy).elim (fun z=>by rw[z];exact Ao) fun z=>Ar _ (h2 y z)⟩
  obtain⟨c,h1,h2⟩:=this
  have:=Wm na fun x hx=>h2 x ((m x).mp hx)
  omega
theorem Z27{ns:List Int}:decide (ns.map (Li:Int→Key)).Nodup=decide ns.Nodup:=by
 congr 1
 rw[eq_iff_iff]
 constructor
 ·intro h
  exact List.Pairwise.of_map Li (fun a b h z=>h (by rw[z])) h
 ·intro h
  exact List.Pairwise.map Li (fun a b h z=>h (Li.inj z)) h
def C6:DSp:=fun ds M Q _=>∃C us r ds',ds=[.ref r]∧Z3 M r=some ds'∧RTs C M us ds'∧(∀c,C c→c<M.length)∧(fls us).length≤1000∧∀M',Kp M M'→Q (.bl (snd (fls us))) M'
section
variable{K:Ad}{Γ:List DSp}{G:List D}
theorem Y49(e3:G[3]?=some (.int 9999))(gl:Γ[2]?=some Vs)(gk:Γ[4]?=some Zd8):Rd K Γ G C6 Zg2 Zl4:=by
 rintro ds M Q Z ⟨C,us,r,ds',rfl,hr,rt,hC,hz,q⟩
 delta Zg2 Zl4
 walk_at "ev"
 simp only[gl]
 refine⟨C,us,r,ds',rfl,hr,rt,hC,hz,fun M1 r1 k1 e1 l1=>?_⟩
 have hdp:=Ol us 0 rt.ok
 generalize fls us=ls at *
 walk_at "ev"
 refine⟨_,Z1 e1,?_⟩
 simp only[capD,De,Lz,Option.bind_none]
 refine X2 (fun i σ M'=>∃d,σ=[d]∧Kp M1 M'∧Z3 M' M1.length=some ((nums (ls.take i)).map .int)) ⟨none,rfl,Ks.new _ _,Z5 _ _ _⟩ ?_ ?_ ?_
 ·rintro i σ M' _ ⟨d,rfl,k,_⟩
  exact k.pL (Z1 e1)
 ·rintro i d σ M' P hd ⟨d0,rfl,k,e⟩ hP
  obtain⟨l,hl1,rfl⟩:∃l,ls[i]?=some l∧d=l.g:=by
   rw[As] at hd
   cases e:ls[i]? with
   | none=>rw[e] at hd;cases hd
   | some l=>rw[e] at hd;cases hd;exact⟨l,rfl,rfl⟩
  have hi:=(Af.mp hl1).1
  have lt:=Z9 (Z1 e)
  have hn:(nums (ls.take i)).length≤1000:=by
   have:=Q2 (ls.take i)
   rw[He] at this
   omega
  have no:nums [l]=[]→∀d1:Option D,P [d1] M':=fun h d1=>hP _ _ ⟨d1,rfl,k,by rw[Zq hl1,V0,h,Db];exact e⟩
  have yes:∀n:Int,nums [l]=[n]→∀d1:Option D,∃acc,Z3 M' M1.length=some acc∧acc.length<sizeLine∧P [d1] (M'.set M1.length (.lst (acc++[.int n]))):=fun n h d1=>
   ⟨_,e,Z6 (by rw[Ac];omega),hP _ _ ⟨d1,rfl,k.set (.inr (Nat.le_refl _)),by rw[Z8 lt,Zq hl1,V0,h,Am];rfl⟩⟩
  rw[tg_one]
  cases l with
  | rnd n=>
   simp only[Ln.g,Ln.d]
   walk_at "ev"
   refine⟨Z0 (by decide),rfl,rfl,?_⟩
   dsimp only
   rw[show inD (.str "round") [.str "round",.str "part"]=true by decide+kernel,if_pos rfl]
   exact yes n rfl _
  | prt n=>
   simp only[Ln.g,Ln.d]
   walk_at "ev"
   refine⟨Z0 (by decide),rfl,rfl,?_⟩
   dsimp only
   rw[show inD (.str "part") [.str "round",.str "part"]=true by decide+kernel,if_pos rfl]
   exact yes n rfl _
  | _=>
   simp only[Ln.g,Ln.d]
   walk_at "ev"
   refine⟨Z0 (by decide),rfl,rfl,?_⟩
   dsimp only
   first
   | rw[show inD (.str "choice") [.str "round",.str "part"]=false by decide+kernel,if_neg Bf9]
   | rw[show inD (.str "sum") [.str "round",.str "part"]=false by decide+kernel,if_neg Bf9]
   | rw[show inD (.str "leave") [.str "round",.str "part"]=false by decide+kernel,if_neg Bf9]
   | rw[show inD (.str "again") [.str "round",.str "part"]=false by decide+kernel,if_neg Bf9]
   | rw[show inD (.str "else") [.str "round",.str "part"]=false by decide+kernel,if_neg Bf9]
   | rw[show inD (.str "done") [.str "round",.str "part"]=false by decide+kernel,if_neg Bf9]
   | rw[show inD (.str "end") [.str "round",.str "part"]=false by decide+kernel,if_neg Bf9]
   exact no rfl _
 rintro σ M2 ⟨d,rfl,k2,e2⟩
 rw[Ac,List.take_length] at e2
 have hn:=Q2 ls
 try walk_at "ev"
 have sb:(1002:Nat)<scanBound:=by decide
 refine⟨(nums ls).map Li,by rw[Ma];exact Z1 e2,by rw[Ac];omega,fun ks' nd hm=>Zk (Z1 e2) ?_⟩
 have nl:=Zs0 nd hm
 rw[Z27,Ac] at nl
 walk_at "ev"
 rw[Ac]
 have k12:Kp M M2:=k1.trans k2
 by_cases hnd:(nums ls).Nodup
 case neg=>
  rw[decide_eq_false hnd,Bool.not_false,decide_eq_true_eq] at nl
  rw[if_pos (by omega)]
  have:=q M2 k12
  unfold snd at this
  rw[decide_eq_false hnd] at this
  exact this
 rw[decide_eq_true hnd,Bool.not_true,decide_eq_false_iff_not] at nl
 rw[if_neg (by omega)]
 have q':∀M',Kp M M'→Q (.bl (!(nums ls).any far&&kp [] ls)) M':=fun M' k=>by
  have:=q M' k
  unfold snd at this
  rw[decide_eq_true hnd,Bool.true_and] at this
  exact this
 delta G4
 walk_at "ev"
 refine⟨_,Z1 e2,?_⟩
 simp only[capD,De,Lz,Option.bind_none]
 refine X2 (fun i σ M'=>∃d,σ=[d]∧Kp M2 M'∧Z3 M' M2.length=some ((((nums ls).take i).map far).map .bl)) ⟨none,rfl,Ks.new _ _,Z5 _ _ _⟩ ?_ ?_ ?_
 ·rintro i σ M' _ ⟨d,rfl,k,_⟩
  exact k.pL (Z1 e2)
 ·rintro i d σ M' P hd ⟨d0,rfl,k,e⟩ hP
  obtain⟨n,hn1,rfl⟩:∃n,(nums ls)[i]?=some n∧d= .int n:=by
   rw[As] at hd
   cases e:(nums ls)[i]? with
   | none=>rw[e] at hd;cases hd
   | some l=>rw[e] at hd;cases hd;exact⟨l,rfl,rfl⟩
  have lt:=Z9 (Z1 e)
  have put:∀(b:Bool) (d1:Option D),b=far n→∃acc,Z3 M' M2.length=some acc∧acc.length<sizeLine∧P [d1] (M'.set M2.length (.lst (acc++[.bl b]))):=by
   rintro b d1 rfl
   refine⟨_,e,Z6 (by rw[Ac,Ac,He];omega),hP _ _ ⟨d1,rfl,k.set (.inr (Nat.le_refl _)),?_⟩⟩
   rw[Z8 lt,Zq hn1,Am,Am]
   rfl
  rw[tg_one]
  walk_at "ev"
  simp only[e3]
  by_cases h1:n<0
  ·rw[if_neg (fun z=>z h1)]
   exact put _ _ (by unfold far;rw[decide_eq_true h1];rfl)
  ·rw[if_pos h1]
   try walk_at "ev"
   exact put _ _ (by unfold far;rw[decide_eq_false h1];rfl)
 rintro σ M3 ⟨d,rfl,k3,e3'⟩
 rw[Ac,List.take_length] at e3'
 try walk_at "ev"
 have k13:Kp M M3:=k12.trans k3
 refine⟨_,Z1 e3',?_⟩
 have ea:((nums ls).map far).any id=(nums ls).any far:=by rw[Lv];rfl
 rw[ea]
 try walk_at "ev"
 have q'':=q' M3 k13
 cases hf:(nums ls).any far with
 | true=>
  rw[hf] at q''
  exact q''
 | false=>
  delta Fk
  walk_at "ev"
  simp only[gk]
  refine⟨r1,ls,rfl,k3.pL (k2.pL (Z1 e1)),by omega,by rw[hdp];rfl,fun M4 k4=>?_⟩
  have:=q' M4 (k13.trans k4)
  rw[hf] at this
  exact this
end
section
variable{K:Ad}
noncomputable def fN:D→Bool
 | .bl _ | .int _ | .str _=>true
 | _=>false
def AL(M:Z2):Nat→D→D→Prop
 | 0,x,y=>x=y∧fN x=true
 | n+1,x,y=>(x=y∧fN x=true)∨(∃xs ys,x= .tup xs∧y= .tup ys∧xs.length=ys.length∧∀(i:Nat) a b,xs[i]?=some a→ys[i]?=some b→AL M n a b)∨
   ∃m k xs ys,x= .ref m∧y= .ref k∧Z3 M m=some xs∧Z3 M k=some ys∧xs.length=ys.length∧∀(i:Nat) a b,xs[i]?=some a→ys[i]?=some b→AL M n a b
def Vk(n:Nat):DSp:=fun ds M Q _=>∃x y,ds=[x,y]∧AL M n x y∧Q (.bl true) M
theorem AL.flat{M:Z2}{n:Nat}{x:D}(h:fN x=true):AL M n x x:=by
 cases n with
 | zero=>exact⟨rfl,h⟩
 | succ n=>exact .inl ⟨rfl,h⟩
theorem AL.up{M:Z2}:∀{n m:Nat} {x y:D},AL M n x y→n≤m→AL M m x y
 | 0,m,x,y,h,_=>by obtain⟨rfl,h⟩:=h;exact AL.flat h
 | n+1,0,x,y,h,l=>absurd l (Nat.not_succ_le_zero _)
 | n+1,m+1,x,y,h,l=>by
  rcases h with h | ⟨xs,ys,h1,h2,h3,h4⟩ | ⟨a,b,xs,ys,h1,h2,h3,h4,h5,h6⟩
  ·exact .inl h
  ·exact .inr (.inl ⟨xs,ys,h1,h2,h3,fun i x y e1 e2=>(h4 i x y e1 e2).up (Nat.le_of_succ_le_succ l)⟩)
  ·exact .inr (.inr ⟨a,b,xs,ys,h1,h2,h3,h4,h5,fun i x y e1 e2=>(h6 i x y e1 e2).up (Nat.le_of_succ_le_succ l)⟩)
theorem Ni{Γ G}{M:Z2}{Q:DK}{x:D}(h:fN x=true)(q:Q (.bl true) M):tss ⟨K,Γ,G⟩ noX Wo {nx:=fun _ M=>Q .non M,rt:=Q} (start0 Wq [x,x]) M:=by
 delta Wo Wq
 cases x with
 | bl b=>
  walk_at "ev"
  simpa using q
 | int i=>
  walk_at "ev"
  delta Xh
  walk_at "ev"
  simpa using q
 | str z=>
  walk_at "ev"
  delta Xh
  walk_at "ev"
  delta Wy
  walk_at "ev"
  simpa using q
 | _=>exact absurd h Bf9
theorem Ya8{xs ys:List D}{i:Nat}{d:D}(h:(zipT xs ys)[i]?=some d):∃a b,xs[i]?=some a∧ys[i]?=some b∧d= .tup [a,b]:=by
 unfold zipT at h
 rw[As,Ia] at h
 obtain⟨p,e,rfl⟩:=h
 rw[List.getElem?_zip_eq_some] at e
 exact⟨_,_,e.1,e.2,rfl⟩
theorem E4{Γ G}{n:Nat}(g:Γ[43]?=some (Vk n)){M:Z2}{Q:DK}{x y:D}{xs ys:List D}{own:Own}(hl:xs.length=ys.length)(h:∀(i:Nat) a b,xs[i]?=some a→ys[i]?=some b→AL M n a b)
  (lx:∀F:DK,F (.int xs.length) M→bfD K .len [x] M F) (ly:∀F:DK,F (.int ys.length) M→bfD K .len [y] M F) (hz:∀F:Own→List D→Prop,F own (zipT xs ys)→zip2 M x y F) (st:O4 own (zipT xs ys) M) (q:Q (.bl true) M):
  tss ⟨K,Γ,G⟩ noX Sb {nx:=fun _ M=>Q .non M,rt:=Q} [some x,some y,none,none] M:=by
 delta Sb
 walk_at "ev"
 refine lx _ (ly _ ?_)
 walk_at "ev"
 rw[if_neg (by rw[hl];simp)]
 delta Oy
 walk_at "ev"
 rw[Ye9]
 refine hz _ ?_
 refine Wb (fun i σ M'=>∃d2 d3,σ=[some x,some y,d2,d3]∧M'=M) ⟨none,none,rfl,rfl⟩ ?_ ?_ ?_
 ·rintro i σ M' _ ⟨d2,d3,rfl,rfl⟩
  exact st
 ·rintro i d σ M' C hd ⟨d2,d3,rfl,rfl⟩ hC
  obtain⟨a,b,ea,eb,rfl⟩:=Ya8 hd
  rw[tg_two]
  delta N5
  walk_at "ev"
  simp only[g]
  refine⟨_,_,rfl,h i a b ea eb,?_⟩
  try walk_at "ev"
  exact hC _ _ ⟨_,_,rfl,rfl⟩
 ·rintro σ M' ⟨d2,d3,rfl,rfl⟩
  delta Os
  walk_at "ev"
  exact q
theorem Ze6{Γ G}:Rd K Γ G (Vk 0) Wo Wq:=by
 rintro ds M Q Z ⟨x,y,rfl,⟨rfl,h⟩,q⟩
 exact Ni h q
theorem Zd4{Γ G}{n:Nat}(g:Γ[43]?=some (Vk n)):Rd K Γ G (Vk (n+1)) Wo Wq:=by
 rintro ds M Q Z ⟨x,y,rfl,h | ⟨xs,ys,rfl,rfl,hl,h⟩ | ⟨m,k,xs,ys,rfl,rfl,h1,h2,hl,h⟩,q⟩
 ·obtain⟨rfl,h⟩:=h
  exact Ni h q
 ·delta Wo Wq
  walk_at "ev"
  delta Xh
  walk_at "ev"
  delta Wy
  walk_at "ev"
  delta Sj
  walk_at "ev"
  delta Sk
  walk_at "ev"
  exact E4 (own:= .no) g hl h (fun F f=>f) (fun F f=>f) (fun F f=>f) trivial q
 ·have i1:∀{t:Ty} {B:Bool→Prop},isD K M (.ref m) (.ty (Ym t)) B=B (tyLst t):=fun{t B}=>Zv6 h1
  have i2:∀{t:Ty} {B:Bool→Prop},isD K M (.ref k) (.ty (Ym t)) B=B (tyLst t):=fun{t B}=>Zv6 h2
  delta Wo Wq
  walk_at "ev"
  simp only[i2]
  walk_at "ev"
  delta Xh
  walk_at "ev"
  simp only[i2]
  walk_at "ev"
  delta Wy
  walk_at "ev"
  simp only[i2]
  walk_at "ev"
  delta Sj
  walk_at "ev"
  simp only[i1,i2]
  walk_at "ev"
  delta Sk
  walk_at "ev"
  simp only[i1,i2]
  walk_at "ev"
  exact E4 (own:= .two m k) g hl h (fun F f=>Zk (Z1 h1) f) (fun F f=>Zk (Z1 h2) f) (fun F f=>⟨xs,ys,Z1 h1,Z1 h2,f⟩) ⟨xs,ys,Z1 h1,Z1 h2,rfl⟩ q
end
mutual
noncomputable def dT:T→Nat
 | .leaf _=>1
 | .home _ _ b=>dTs b+2
 | .cho _ _ _ y n=>max (dTs y) (dTs n)+2
noncomputable def dTs:List T→Nat
 | []=>0
 | t::us=>max (dT t) (dTs us)
end
theorem Opd.fN(o:Opd):fN o.d=true:=by cases o<;>rfl
theorem Y91{M:Z2}(l:Ln):AL M 1 l.d l.d:=by
 have key:∀xs:List D,(∀x∈xs,fN x=true)→AL M 1 (.tup xs) (.tup xs):=fun xs h=> .inr (.inl ⟨xs,xs,rfl,rfl,rfl,fun i a b e1 e2=>by
  rw[e1] at e2
  cases e2
  exact⟨rfl,h a (Hx e1)⟩⟩)
 cases l with
 | cond a s b=>exact key _ (by intro x hx;simp only[Ag,Dc,or_false] at hx;rcases hx with rfl | rfl | rfl | rfl<;>first | rfl | exact Opd.fN _)
 | sum x a s b=>exact key _ (by intro x hx;simp only[Ag,Dc,or_false] at hx;rcases hx with rfl | rfl | rfl | rfl | rfl<;>first | rfl | exact Opd.fN _)
 | _=>exact key _ (by intro x hx;simp only[Ag,Dc,or_false] at hx;rcases hx with rfl | rfl<;>rfl)
mutual
theorem al_T{C C':Nat→Prop}{M:Z2}:∀{t:T} {d e:D},RT C M t d→RT C' M t e→AL M (dT t) d e
 | .leaf l,d,e,h,g=>by
  obtain⟨rfl,_⟩:=h
  obtain⟨rfl,_⟩:=g
  exact Y91 l
 | .home r n b,d,e,h,g=>by
  obtain⟨c,ds,rfl,_,h1,h2⟩:=h
  obtain⟨c',es,rfl,_,g1,g2⟩:=g
  have hb:AL M (dTs b+1) (.ref c) (.ref c'):= .inr (.inr ⟨c,c',ds,es,rfl,rfl,h1,g1,h2.len.trans g2.len.symm,Zc0 h2 g2⟩)
  refine .inr (.inl ⟨_,_,rfl,rfl,rfl,fun i a b e1 e2=>?_⟩)
  match i,e1,e2 with
  | 0,e1,e2=>cases e1;cases e2;exact AL.flat rfl
  | 1,e1,e2=>cases e1;cases e2;exact AL.flat rfl
  | 2,e1,e2=>cases e1;cases e2;exact hb
  | n+3,e1,_=>cases e1
 | .cho x s z y n,d,e,h,g=>by
  obtain⟨c1,c2,d1,d2,rfl,_,_,h1,h2,h3,h4⟩:=h
  obtain⟨c1',c2',d1',d2',rfl,_,_,g1,g2,g3,g4⟩:=g
  have hy:AL M (max (dTs y) (dTs n)+1) (.ref c1) (.ref c1'):= .inr (.inr ⟨c1,c1',d1,d1',rfl,rfl,h1,g1,h2.len.trans g2.len.symm,fun i a b e1 e2=>(Zc0 h2 g2 i a b e1 e2).up (Nat.le_max_left _ _)⟩)
  have hn:AL M (max (dTs y) (dTs n)+1) (.ref c2) (.ref c2'):= .inr (.inr ⟨c2,c2',d2,d2',rfl,rfl,h3,g3,h4.len.trans g4.len.symm,fun i a b e1 e2=>(Zc0 h4 g4 i a b e1 e2).up (Nat.le_max_right _ _)⟩)
  refine .inr (.inl ⟨_,_,rfl,rfl,rfl,fun i a b e1 e2=>?_⟩)
  match i,e1,e2 with
  | 0,e1,e2=>cases e1;cases e2;exact AL.flat rfl
  | 1,e1,e2=>cases e1;cases e2;exact AL.flat (Opd.fN _)
  | 2,e1,e2=>cases e1;cases e2;exact AL.flat rfl
  | 3,e1,e2=>cases e1;cases e2;exact AL.flat (Opd.fN _)
  | 4,e1,e2=>cases e1;cases e2;exact hy
  | 5,e1,e2=>cases e1;cases e2;exact hn
  | n+6,e1,_=>cases e1
theorem Zc0{C C':Nat→Prop}{M:Z2}:∀{us:List T} {ds es:List D},RTs C M us ds→RTs C' M us es→∀(i:Nat) a b,ds[i]?=some a→es[i]?=some b→AL M (dTs us) a b
 | [],ds,es,h,g,i,a,b,e1,e2=>by cases h;cases e1
 | t::us,ds,es,h,g,i,a,b,e1,e2=>by
  obtain⟨d,r,rfl,h1,h2⟩:=h
  obtain⟨e,r',rfl,g1,g2⟩:=g
  match i,e1,e2 with
  | 0,e1,e2=>cases e1;cases e2;exact(al_T h1 g1).up (Nat.le_max_left _ _)
  | i+1,e1,e2=>exact(Zc0 h2 g2 i a b (by simpa using e1) (by simpa using e2)).up (Nat.le_max_right _ _)
end
mutual
theorem Ym5:∀t:T,okT t=true→dT t≤(noE (fl t)).length∧(fl t).length≤2 * (noE (fl t)).length
 | .leaf l,h=>by
  rw[Qs]
  cases l<;>first | (show 1≤1∧1≤2;omega) | cases h
 | .home r n b,h=>by
  obtain⟨h1,h2⟩:=N7 b h
  rw[W5]
  have:noE ((if r then Ln.rnd n else .prt n)::(fls b++[.don]))=(if r then Ln.rnd n else .prt n)::(noE (fls b)++[.don]):=by
   unfold noE
   cases r<;>simp[notE,Dg]
  rw[this]
  simp only[Aj,Ab,Ig]
  show dTs b+2≤_∧_
  omega
 | .cho a s b y [],h=>by
  obtain⟨h1,h2⟩:=N7 y (Bool.and_eq_true_iff.mp h).1
  rw[Wf]
  have:noE (Ln.cond a s b::(fls y++[.don]))=Ln.cond a s b::(noE (fls y)++[.don]):=by
   unfold noE
   simp[notE,Dg]
  rw[this]
  simp only[Aj,Ab,Ig]
  show max (dTs y) 0+2≤_∧_
  omega
 | .cho a s b y (t::us),h=>by
  obtain⟨h0,h0'⟩:=Bool.and_eq_true_iff.mp h
  obtain⟨h1,h2⟩:=N7 y h0
  obtain⟨h3,h4⟩:=N7 (t::us) h0'
  rw[Se]
  have:noE (Ln.cond a s b::(fls y++(.els::fls (t::us)++[.don])))=Ln.cond a s b::(noE (fls y)++(noE (fls (t::us))++[.don])):=by
   unfold noE
   simp[notE,Dg]
  rw[this]
  simp only[Aj,Ab,Ig]
  show max (dTs y) (dTs (t::us))+2≤_∧_
  omega
theorem N7:∀us:List T,okTs us=true→dTs us≤(noE (fls us)).length∧(fls us).length≤2 * (noE (fls us)).length
 | [],_=>⟨Nat.le_refl _,Nat.le_refl _⟩
 | t::us,h=>by
  obtain⟨h0,h0'⟩:=Bool.and_eq_true_iff.mp h
  obtain⟨h1,h2⟩:=Ym5 t h0
  obtain⟨h3,h4⟩:=N7 us h0'
  rw[Y6,Cw,Ab,Ab]
  show max (dT t) (dTs us)≤_∧_
  omega
end
def Ln.wf:Ln→Prop
 | .cond a s b=>a.ok∧s∈two∧b.ok
 | .sum x a s b=>Nam x∧a.ok∧s∈six∧b.ok
 | .rnd n=>0≤n∧n≤9999
 | .prt n=>0≤n∧n≤9999
 | .lve n=>0≤n∧n≤9999
 | .agn n=>0≤n∧n≤9999
 | _=>True
def Ln.inn(ss:List (Tp×Int)):Ln→Prop
 | .lve n=>(Tp.crd,n)∈ss∨(Tp.cpt,n)∈ss
 | .agn n=>(Tp.crd,n)∈ss
 | _=>True
def Wk(m:Nat):List (Tp×Int)→List Ln→List (Tp×Int)→Prop
 | ss,[],ss'=>ss'=ss
 | ss,l::ls,ss'=>l.wf∧l.inn ss∧∃s1,nxt ss l s1∧s1.length≤m∧Wk m s1 ls ss'
theorem Wk.app{m:Nat}:∀{ls ms:List Ln} {ss s1 s2:List (Tp×Int)},Wk m ss ls s1→Wk m s1 ms s2→Wk m ss (ls++ms) s2
 | [],ms,ss,s1,s2,h,g=>by cases h;exact g
 | l::ls,ms,ss,s1,s2,⟨a,b,t,c,d,e⟩,g=>⟨a,b,t,c,d,e.app g⟩
theorem Wk.mono{m m':Nat}(hm:m≤m'):∀{ls:List Ln} {ss s1:List (Tp×Int)},Wk m ss ls s1→Wk m' ss ls s1
 | [],ss,s1,h=>h
 | l::ls,ss,s1,⟨a,b,t,c,d,e⟩=>⟨a,b,t,c,Nat.le_trans d hm,e.mono hm⟩
theorem Wk.run{m:Nat}:∀{ls:List Ln} {ss s1:List (Tp×Int)},Wk m ss ls s1→K55.run (tps ss) ls=some (tps s1)
 | [],ss,s1,h=>by cases h;rfl
 | l::ls,ss,s1,⟨a,b,t,c,d,e⟩=>by
  show(stp (tps ss) l).bind _=_
  rw[Y48 c]
  exact e.run
theorem Wk.all{m:Nat}:∀{ls:List Ln} {ss s1:List (Tp×Int)},Wk m ss ls s1→∀l∈ls,l.wf
 | [],ss,s1,h,l,hl=>by cases hl
 | m::ls,ss,s1,⟨a,b,t,c,d,e⟩,l,hl=>by
  rcases Ag.mp hl with rfl | hl
  ·exact a
  ·exact e.all l hl
theorem Y57{x:Tp×Int}{ss s1:List (Tp×Int)}{l:Ln}(h:nxt ss l s1):nxt (x::ss) l (x::s1):=by
 cases l with
 | els=>obtain⟨tl,n,rfl,rfl⟩:=h;exact⟨x::tl,n,rfl,rfl⟩
 | don=>obtain⟨y,rfl⟩:=h;exact⟨y,rfl⟩
 | _=>rw[show s1=_ from h];rfl
theorem Y38{x:Tp×Int}{ss:List (Tp×Int)}{l:Ln}(h:l.inn ss):l.inn (x::ss):=by
 cases l with
 | lve n=>exact h.imp (Ar _) (Ar _)
 | agn n=>exact Ar _ h
 | _=>trivial
theorem Wk.pre{m:Nat}{x:Tp×Int}:∀{ls:List Ln} {ss s1:List (Tp×Int)},Wk m ss ls s1→Wk (m+1) (x::ss) ls (x::s1)
 | [],ss,s1,h=>by cases h;rfl
 | l::ls,ss,s1,⟨a,b,t,c,d,e⟩=>⟨a,Y38 b,x::t,Y57 c,by rw[Aj];omega,e.pre⟩
theorem Wk.wrap{m:Nat}{x:Tp×Int}{l:Ln}{ls:List Ln}(h:Wk m [] ls [])(hl:l.wf)(hi:l.inn [])(hn:nxt [] l [x]):Wk (m+1) [] (l::(ls++[.don])) []:=
 ⟨hl,hi,[x],hn,by rw[Aq];omega,(h.pre (x:=x)).app ⟨trivial,trivial,[],⟨x,rfl⟩,Nat.zero_le _,rfl⟩⟩
noncomputable def kyL:Ln→Option (Bool×Int)
 | .rnd n=>some (true,n)
 | .prt n=>some (false,n)
 | _=>none
noncomputable def kyT:Tp×Int→Option (Bool×Int)
 |(.crd,n)=>some (true,n)
 |(.cpt,n)=>some (false,n)
 | _=>none
theorem Zi7{st:List Ln}{ss:List (Tp×Int)}(e:st.map kyL=ss.map kyT){n:Int}:((Tp.crd,n)∈ss→st.any (isR n)=true)∧((Tp.cpt,n)∈ss→st.any (isP n)=true):=by
 constructor<;>intro h<;>rw[Lb]
 ·have:=List.mem_map_of_mem (f:=kyT) h
  rw[←e] at this
  obtain⟨l,h1,h2⟩:=Hf.mp this
  refine⟨l,h1,?_⟩
  cases l<;>cases h2
  simp[isR]
 ·have:=List.mem_map_of_mem (f:=kyT) h
  rw[←e] at this
  obtain⟨l,h1,h2⟩:=Hf.mp this
  refine⟨l,h1,?_⟩
  cases l<;>cases h2
  simp[isP]
theorem Wk.kp{m:Nat}:∀{ls:List Ln} {ss s1:List (Tp×Int)} {st:List Ln},Wk m ss ls s1→st.map kyL=ss.map kyT→K55.kp st ls=true
 | [],ss,s1,st,h,e=>rfl
 | l::ls,ss,s1,st,⟨a,b,t,c,d,w⟩,e=>by
  cases l with
  | cond x s y=>cases (show t=_ from c);exact w.kp (by rw[Am,Am,e];rfl)
  | rnd n=>cases (show t=_ from c);exact w.kp (by rw[Am,Am,e];rfl)
  | prt n=>cases (show t=_ from c);exact w.kp (by rw[Am,Am,e];rfl)
  | don=>
   obtain⟨x,rfl⟩:=c
   refine w.kp (st:=st.dropLast) ?_
   rw[List.map_dropLast,e,Am]
   simp
  | els=>
   obtain⟨tl,n,rfl,rfl⟩:=c
   refine w.kp (st:=st) ?_
   rw[e,Am,Am]
   rfl
  | lve n=>
   cases (show t=_ from c)
   show((st.any (isR n) || st.any (isP n))&&K55.kp st ls)=true
   rw[w.kp e,Bool.and_true,Bool.or_eq_true]
   exact b.imp (Zi7 e).1 (Zi7 e).2
  | agn n=>
   cases (show t=_ from c)
   show(st.any (isR n)&&K55.kp st ls)=true
   rw[w.kp e,(Zi7 e).1 b]
   rfl
  | sum x a s b=>cases (show t=_ from c);exact w.kp e
  | fin=>cases (show t=_ from c);exact w.kp e
theorem Z95:∀{ls:List Ln},(∀l∈ls,l.wf)→∀n∈nums ls,0≤n∧n≤9999
 | [],h,n,hn=>by cases hn
 | l::ls,h,n,hn=>by
  have ih:=Z95 (fun l hl=>h l (Ar _ hl)) n
  have h0:=h l Ao
  cases l with
  | rnd k=>rcases Ag.mp hn with rfl | hn;exact h0;exact ih hn
  | prt k=>rcases Ag.mp hn with rfl | hn;exact h0;exact ih hn
  | _=>exact ih hn
theorem Zm0(ls:List Ln):nums (noE ls)=nums ls:=by
 induction ls with
 | nil=>rfl
 | cons l ls ih=>
  unfold noE at ih ⊢
  cases l<;>simp[notE,Dg,nums,ih]
theorem Yc4(ls:List Ln):∀st,kp st (noE ls)=kp st ls:=by
 induction ls with
 | nil=>intro st;rfl
 | cons l ls ih=>
  intro st
  unfold noE at ih ⊢
  cases l<;>simp[notE,Dg,kp,ih]
theorem Zi4(ls:List Ln):snd (noE ls)=snd ls:=by unfold snd;rw[Zm0,Yc4]
theorem Zn0{ls:List Ln}(h:run [] ls=some []):snd (fls (nest ls))=snd ls:=by rw[←Zi4,Nh h,Zi4]
structure Gd(m:Nat)(ls:List Ln):Prop where
 w:Wk m [] ls []
 n:(nums ls).Nodup
theorem Gd.snd{m:Nat}{ls:List Ln}(h:Gd m ls):K55.snd (fls (nest ls))=true:=by
 rw[Zn0 (h.w.run)]
 unfold K55.snd
 rw[h.w.kp rfl,decide_eq_true h.n,Bool.true_and,Bool.and_true,Bool.not_eq_true',List.any_eq_false]
 intro n hn
 have:=Z95 h.w.all n hn
 unfold far
 simp
 omega
def Iv(ss:List (Tp×Int)):Prop:=∀x∈ss,(x.1= .crd∨x.1= .cpt)∧0≤x.2∧x.2≤9999∨x.2= -1∧¬x.1= .crd
theorem Zm3(f k:Nat):0≤hm f k∧hm f k≤9999:=by unfold hm;omega
theorem Iv.snoc{ss:List (Tp×Int)}{x:Tp×Int}(h:Iv ss)(hx:(x.1= .crd∨x.1= .cpt)∧0≤x.2∧x.2≤9999∨x.2= -1∧¬x.1= .crd):Iv (ss++[x]):=by
 intro y hy
 rcases Bk.mp hy with hy | hy
 ·exact h y hy
 ·rw[An] at hy;rw[hy];exact hx
theorem Iv.init{ss:List (Tp×Int)}{x:Tp×Int}(h:Iv (ss++[x])):Iv ss:=fun y hy=>h y (Hw _ hy)
theorem Dr.wk{f:Nat}:∀{ls:List Ln} {k:Nat} {ss s1:List (Tp×Int)},Iv ss→Dr f k ss ls s1→Wk 60 ss ls s1
 | [],k,ss,s1,i,h=>h
 | l::ls,k,ss,s1,i,⟨a,t,c,d,w⟩=>by
  cases l with
  | cond x s y=>cases (show t=_ from c);exact⟨a,trivial,_,rfl,d,w.wk (i.snoc (.inr ⟨rfl,by simp⟩))⟩
  | rnd n=>cases (show t=_ from c);cases (show n=_ from a);exact⟨Zm3 f k,trivial,_,rfl,d,w.wk (i.snoc (.inl ⟨.inl rfl,Zm3 f k⟩))⟩
  | prt n=>cases (show t=_ from c);cases (show n=_ from a);exact⟨Zm3 f k,trivial,_,rfl,d,w.wk (i.snoc (.inl ⟨.inr rfl,Zm3 f k⟩))⟩
  | don=>obtain⟨x,rfl⟩:=c;exact⟨trivial,trivial,t,⟨x,rfl⟩,d,w.wk i.init⟩
  | els=>obtain⟨tl,n,rfl,rfl⟩:=c;exact⟨trivial,trivial,_,⟨tl,n,rfl,rfl⟩,d,w.wk (i.init.snoc (.inr ⟨rfl,by simp⟩))⟩
  | lve n=>
   cases (show t=_ from c)
   obtain⟨tp,h1,h2⟩:=a
   rcases i _ h1 with⟨h3,h4⟩ | ⟨h3,_⟩
   ·refine⟨h4,?_,_,rfl,d,w.wk i⟩
    rcases h3 with rfl | rfl
    ·exact .inl h1
    ·exact .inr h1
   ·exact absurd h2 (by rw[show n= -1 from h3];decide)
  | agn n=>
   cases (show t=_ from c)
   rcases i _ a with⟨_,h4⟩ | ⟨_,h4⟩
   ·exact⟨h4,a,_,rfl,d,w.wk i⟩
   ·exact absurd rfl h4
  | sum x y s z=>cases (show t=_ from c);exact⟨a,trivial,_,rfl,d,w.wk i⟩
  | fin=>cases (show t=_ from c);exact⟨trivial,trivial,_,rfl,d,w.wk i⟩
theorem Yi6{f i j:Nat}(hi:i<200)(hj:j<200)(h:hm f i=hm f j):i=j:=by unfold hm at h;omega
theorem Dr.nd{f:Nat}:∀{ls:List Ln} {k:Nat} {ss s1:List (Tp×Int)},Dr f k ss ls s1→k+ls.length≤200→(nums ls).Nodup∧∀n∈nums ls,∃j,k≤j∧j<200∧n=hm f j
 | [],k,ss,s1,h,hk=>⟨List.nodup_nil,fun n hn=>by cases hn⟩
 | l::ls,k,ss,s1,⟨a,t,c,d,w⟩,hk=>by
  rw[Aj] at hk
  obtain⟨h1,h2⟩:=w.nd (by omega)
  have pas:(nums ls).Nodup∧∀n∈nums ls,∃j,k≤j∧j<200∧n=hm f j:=⟨h1,fun n hn=>by obtain⟨j,g1,g2,g3⟩:=h2 n hn;exact⟨j,by omega,g2,g3⟩⟩
  have new:(hm f k::nums ls).Nodup∧∀n∈hm f k::nums ls,∃j,k≤j∧j<200∧n=hm f j:=by
   refine⟨Ip.mpr ⟨fun hn=>?_,h1⟩,fun n hn=>?_⟩
   ·obtain⟨j,g1,g2,g3⟩:=h2 _ hn
    have:=Yi6 (by omega) g2 g3
    omega
   ·rcases Ag.mp hn with rfl | hn
    ·exact⟨k,Nat.le_refl _,by omega,rfl⟩
    ·exact pas.2 n hn
  cases l with
  | rnd n=>cases (show n=_ from a);exact new
  | prt n=>cases (show n=_ from a);exact new
  | _=>exact pas
theorem Dr.gd{f:Nat}{ls:List Ln}(h:Dr f 0 [] ls [])(hl:ls.length≤120):Gd 60 ls:=⟨h.wk (fun x hx=>by cases hx),(h.nd (by omega)).1⟩
theorem sp32:(" ":Str)=⟨#[32]⟩:=rfl
theorem nl10:("\n":Str)=⟨#[10]⟩:=rfl
def free(x:Str):Prop:=∀c∈Tt.L x,c≠32∧c≠10∧c<128
theorem Opd.no_L{i:Int}:(∃n:Nat,i=n∧Str.ofString (toString i)=Tt.fig n)∨∃n:Nat,0<n∧i= -(n:Int)∧Tt.L (Str.ofString (toString i))=45::Tt.L (Tt.fig n):=by
 rcases Int.lt_or_le i 0 with h | h
 ·refine .inr ⟨i.natAbs,by omega,by omega,?_⟩
  have:=Tt.L_neg (n:=i.natAbs) (by omega)
  rwa[show -((i.natAbs:Nat):Int)=i by omega] at this
 ·exact .inl ⟨i.toNat,by omega,by unfold Tt.fig;rw[Lf h]⟩
theorem Zo6{n:Nat}(h:n<1000000000000000000):(Tt.fig n).length≤18:=by
 have:=Tt.fig_len 17 n h
 rwa[Tt.L_len] at this
theorem Z23{n:Nat}(h:n≤9999):(Tt.fig n).length≤4:=by
 have:=Tt.fig_len 3 n (by omega)
 rwa[Tt.L_len] at this
theorem Jl(n:Nat):free (Tt.fig n):=fun c hc=>by have:=Tt.fig_digits hc;omega
theorem Nam.free{x:Str}(h:Nam x):free x:=fun c hc=>by
 have:=h.1.1 c hc
 unfold Wc Lc at this
 omega
theorem Opd.len{o:Opd}(h:o.ok):o.t.length≤19:=by
 cases o with
 | nm x=>have:=h.2.2.1;show x.length≤19;omega
 | no i=>
  obtain⟨h1,h2⟩:-1000000000000000000<i∧i<1000000000000000000:=h
  show(Str.ofString (toString i)).length≤19
  rcases Opd.no_L (i:=i) with⟨n,e1,e2⟩ | ⟨n,e0,e1,e2⟩
  ·rw[e2];have:=Zo6 (n:=n) (by omega);omega
  ·rw[←Tt.L_len,e2,Aj,Tt.L_len]
   have:=Zo6 (n:=n) (by omega);omega
theorem Opd.free{o:Opd}(h:o.ok):free o.t:=by
 cases o with
 | nm x=>exact Nam.free h
 | no i=>
  show K55.free (Str.ofString (toString i))
  rcases Opd.no_L (i:=i) with⟨n,e1,e2⟩ | ⟨n,e0,e1,e2⟩
  ·rw[e2];exact Jl n
  ·intro c hc
   rw[e2,Ag] at hc
   exact hc.elim (fun z=>by omega) (Jl n c)
theorem tj(sep:Str)(l:List Str):Dx sep l=Str.join sep l:=StrLaws.glued_eq_join sep l
theorem jn{x y:Str}{r:List Str}:Dx " " (x::y::r)=x++" "++Dx " " (y::r):=by rw[tj,tj];rfl
theorem Er(sep:Str)(h1:sep.length≤1){l:List Str}{B:Nat}(h:∀x∈l,x.length≤B):(Dx sep l).length≤l.length * (B+1):=by
 rw[tj]
 have a:=StrLaws.join_length_le sep l
 have b:=StrLaws.sumLen_le l h
 have c:=Nat.mul_le_mul_left l.length h1
 rw[Nat.mul_add]
 omega
theorem Gq{sep:Str}(h1:sep.length≤1){l:List Str}{B:Nat}(h:∀x∈l,x.length≤B)(hl:l.length * (B+1)≤16000000):JoinOk sep l=true:=by
 unfold JoinOk
 rw[StrLaws.joinFits h ?_]
 ·rfl
 ·have c:=Nat.mul_le_mul_left l.length h1
  rw[Nat.mul_add] at hl
  omega
theorem B9{K:Ad}{o:Opd}{M:Z2}{Q:DK}(h:o.ok)(q:Q (.str o.t) M):bfD K .str1 [o.d] M Q:=by
 cases o with
 | nm x=>exact q
 | no i=>
  obtain⟨h1,h2⟩:-1000000000000000000<i∧i<1000000000000000000:=h
  refine⟨?_,q⟩
  have:i.natAbs<2 ^ 64:=by omega
  exact Nat.lt_trans (Xd this (by decide)) (by decide)
theorem Yj0{K:Ad}{n:Nat}{M:Z2}{Q:DK}(h:n≤9999)(q:Q (.str (Tt.fig n)) M):bfD K .str1 [.int (n:Nat)] M Q:=by
 refine⟨?_,q⟩
 have:((n:Nat):Int).natAbs<2 ^ 64:=by omega
 exact Nat.lt_trans (Xd this (by decide)) (by decide)
noncomputable def lets:Str:="abcdefghijklmnopqrstuvwxyz"
noncomputable def figs:Str:="0123456789"
theorem Q1{c:Nat}:c∈Tt.L lets↔Lc c:=by
 rw[show Tt.L lets=(Hi 26).map (97+·) by decide+kernel,Hf]
 unfold Lc
 constructor
 ·rintro⟨a,h,rfl⟩
  rw[Hr] at h
  omega
 ·intro h
  exact⟨c - 97,Hr.mpr (by omega),by omega⟩
theorem B8{c:Nat}:c∈Tt.L figs↔48≤c∧c≤57:=by
 rw[show Tt.L figs=(Hi 10).map (48+·) by decide+kernel,Hf]
 constructor
 ·rintro⟨a,h,rfl⟩
  rw[Hr] at h
  omega
 ·intro h
  exact⟨c - 48,Hr.mpr (by omega),by omega⟩
def Z06:DSp:=fun ds M Q _=>∃x z:Str,ds=[.str x,.str z]∧x.length≤1000∧∀M',Kp M M'→Q (.bl ((Tt.L x).all fun c=>decide (c∈Tt.L z))) M'
def Ru:DSp:=fun ds M Q _=>∃(x:Str) (b:Bool),ds=[.str x]∧(if b=true then Nam x else ∃c r,Tt.L x=c::r∧¬Lc c∧x.length≤1000)∧∀M',Kp M M'→Q (.bl b) M'
def Tc:DSp:=fun ds M Q _=>∃n m:Nat,ds=[.str (Tt.fig n),.int m]∧(Tt.fig n).length≤m∧m≤100∧∀M',Kp M M'→Q (.bl true) M'
def Qm:DSp:=fun ds M Q _=>∃n:Nat,ds=[.str (Tt.fig n)]∧n≤9999∧∀M',Kp M M'→Q (.int (n:Nat)) M'
def Cy:DSp:=fun ds M Q _=>∃n:Nat,ds=[.str (Tt.fig n)]∧n<1000000000000000000∧∀M',Kp M M'→Q (.int (-(n:Int))) M'
def Ei:DSp:=fun ds M Q _=>∃i:Int,ds=[.str (Opd.no i).t]∧(Opd.no i).ok∧∀M',Kp M M'→Q (.int i) M'
def Qc:DSp:=fun ds M Q _=>∃o:Opd,ds=[.str o.t]∧o.ok∧∀M',Kp M M'→Q o.d M'
section
variable{K:Ad}
theorem Ge{Γ G}:Rd K Γ G Z06 Ri R8:=by
 rintro ds M Q Z ⟨x,z,rfl,hx,q⟩
 delta Ri R8
 walk_at "ev"
 have hl:(J9 x).length=x.length:=by unfold J9;rw[Ac];exact Tt.L_len x
 refine X2 (fun i σ M'=>∃(d:Option D),σ=[d,some (.str z)]∧Kp M M'∧Z3 M' M.length=some ((((Tt.L x).take i).map fun c=>decide (c∈Tt.L z)).map D.bl)) ⟨none,rfl,Ks.new _ _,Z5 _ _ []⟩ (fun _ _ _ _ _=>trivial) ?_ ?_
 ·rintro i d σ M' C hd ⟨d0,rfl,k,e⟩ hC
  have hi:i< (Tt.L x).length:=by
   have:=(Af.mp hd).1
   rw[hl] at this
   rwa[Tt.L_len]
  have hdi:d= .str ⟨#[(Tt.L x)[i]]⟩:=by
   unfold J9 at hd
   rw[As,Ae hi] at hd
   simpa using hd.symm
  subst hdi
  walk_at "ev"
  rw[Tt.in_one]
  refine⟨_,e,Z6 (by rw[Ac,Ac,He,Tt.L_len];omega),hC _ _ ⟨_,rfl,k.set (.inr (Nat.le_refl _)),?_⟩⟩
  rw[Z8 (Z9 (Z1 e)),List.take_succ,Ae hi,Am,Am]
  rfl
 ·rintro σ M' ⟨d0,rfl,k,e⟩
  rw[hl,Ds (by rw[Tt.L_len];exact Nat.le_refl _)] at e
  refine⟨_,Z1 e,?_⟩
  rw[List.all_map]
  exact q _ k
theorem Zd1{Γ G}(e0:G[4]?=some (.str lets))(e1:G[5]?=some (.str figs))(e2:G[6]?=some (.gtup (kept.map D.str)))(e3:G[7]?=some (.int 8))(g:Γ[8]?=some Z06):Rd K Γ G Ru Fq Jz:=by
 rintro ds M Q Z ⟨x,b,rfl,hx,q⟩
 delta Fq Jz
 walk_at "ev"
 simp only[e0,e1,e2,e3]
 obtain⟨c,tl,ex,hx8⟩:∃c tl,Tt.L x=c::tl∧x.length≤1000:=by
  cases b with
  | true=>
   obtain⟨_,h1,h8,_⟩:Nam x:=by simpa using hx
   cases h:Tt.L x with
   | nil=>have:=Tt.L_len x;rw[h] at this;simp at this;omega
   | cons c tl=>exact⟨c,tl,rfl,by omega⟩
  | false=>
   obtain⟨c,tl,h1,_,h2⟩:∃c r,Tt.L x=c::r∧¬Lc c∧x.length≤1000:=by simpa using hx
   exact⟨c,tl,h1,h2⟩
 have hne:¬x=("":Str):=fun z=>by rw[z] at ex;cases ex
 rw[if_pos hne]
 refine⟨Z0 (by omega),?_⟩
 walk_at "ev"
 split
 ·rename_i h8
  cases b with
  | true=>exact absurd (show Nam x by simpa using hx).2.2.1 (by omega)
  | false=>exact q _ (Ks.refl _)
 ·rename_i h8
  delta Qj
  walk_at "ev"
  simp only[e0,e1,e2,e3]
  refine⟨rfl,Qh _,?_⟩
  walk_at "ev"
  split
  ·rename_i hk
   cases b with
   | true=>exact absurd ((Ju _ _).mp hk) (show Nam x by simpa using hx).2.2.2
   | false=>exact q _ (Ks.refl _)
  ·delta Q7
   walk_at "ev"
   simp only[e0,e1,e2,e3]
   refine⟨Z0 (by omega),c,by rw[show x.cps.toList=c::tl from ex];exact ati0,?_⟩
   walk_at "ev"
   rw[Tt.in_one]
   split
   ·rename_i hc
    refine⟨Z0 (by decide+kernel),?_⟩
    simp only[g]
    refine⟨x,lets++figs,rfl,by omega,fun M' k'=>?_⟩
    have hb:b=true:=by
     cases b with
     | true=>rfl
     | false=>
      obtain⟨c',tl',h1,h2,_⟩:∃c r,Tt.L x=c::r∧¬Lc c∧x.length≤1000:=by simpa using hx
      rw[ex] at h1
      cases h1
      have hio:=Tt.in_one lets c
      rw[hc] at hio
      exact absurd (Q1.mp (of_decide_eq_true (hio.symm.trans rfl))) h2
    have:((Tt.L x).all fun c=>decide (c∈Tt.L (lets++figs)))=b:=by
     rw[hb,Dj]
     intro d hd
     have hN:Nam x:=by rw[hb] at hx;simpa using hx
     have:=hN.1.1 d hd
     rw[Tt.L_app]
     simp only[Bk,decide_eq_true_eq]
     rcases this with z | z
     ·exact .inl (Q1.mpr z)
     ·exact .inr (B8.mpr z)
    rw[this]
    exact q _ k'
   ·rename_i hc
    cases b with
    | true=>
     have hN:Nam x:=by simpa using hx
     have hio:=Tt.in_one lets c
     rw[decide_eq_true (Q1.mpr (hN.1.2 c (by rw[ex];rfl)))] at hio
     exact absurd ((Bool.not_eq_true' _).mp hio) hc
    | false=>
     obtain⟨c',tl',h1,h2,_⟩:∃c r,Tt.L x=c::r∧¬Lc c∧x.length≤1000:=by simpa using hx
     rw[ex] at h1
     cases h1
     rw[decide_eq_false fun z=>h2 (Q1.mp z)]
     exact q _ (Ks.refl _)
theorem Jd{Γ G}(e1:G[5]?=some (.str figs))(g:Γ[8]?=some Z06):Rd K Γ G Tc Vt Tb:=by
 rintro ds M Q Z ⟨n,m,rfl,hl,hm,q⟩
 obtain⟨c,tl,ex,h0⟩:=Tt.fig_head n
 have hne:¬Tt.fig n=("":Str):=fun z=>by rw[z] at ex;cases ex
 delta Vt Tb
 walk_at "ev"
 rw[if_pos hne]
 refine⟨Z0 (by omega),?_⟩
 rw[if_neg (by omega)]
 delta W6
 walk_at "ev"
 have fin:tss ⟨K,Γ,G⟩ noX Yy {nx:=fun _ M=>Q .non M,rt:=Q} [some (.str (Tt.fig n)),some (.int m)] M:=by
  delta Yy
  walk_at "ev"
  simp only[e1,g]
  refine⟨_,_,rfl,by omega,fun M' k'=>?_⟩
  have:((Tt.L (Tt.fig n)).all fun c=>decide (c∈Tt.L figs))=true:=by
   rw[Dj]
   intro d hd
   simpa using B8.mpr (Tt.fig_digits hd)
  rw[this]
  exact q _ k'
 refine⟨Z0 (by omega),c,by rw[show(Tt.fig n).cps.toList=c::tl from ex];exact ati0,?_⟩
 by_cases hc:(⟨#[c]⟩:Str)="0"
 ·rw[if_pos hc]
  have c48:c=48:=by
   have:=congrArg Tt.L hc
   rw[L1,show Tt.L ("0":Str)=[48] from rfl] at this
   simpa using this
  have hl1:(Tt.fig n).length=1:=by rw[←Tt.L_len,ex,h0 c48];rfl
  refine⟨Z0 (by omega),?_⟩
  rw[if_neg (by omega)]
  exact fin
 ·rw[if_neg hc,if_neg hc]
  exact fin
theorem Jf{Γ G}(e4:G[8]?=some (.int 4))(g:Γ[10]?=some Tc):Rd K Γ G Qm Tj To:=by
 rintro ds M Q Z ⟨n,rfl,hn,q⟩
 have hl:=Z23 hn
 delta Tj To
 walk_at "ev"
 simp only[e4,g]
 refine⟨n,4,rfl,hl,by decide,fun M' k'=>?_⟩
 walk_at "ev"
 exact⟨_,Tt.fig_reads (by omega),by omega,q _ k'⟩
theorem E2{Γ G}(e5:G[9]?=some (.int 18))(g:Γ[10]?=some Tc):Rd K Γ G Cy Yv Yu:=by
 rintro ds M Q Z ⟨n,rfl,hn,q⟩
 have hl:=Zo6 hn
 delta Yv Yu
 walk_at "ev"
 simp only[e5,g]
 refine⟨n,18,rfl,hl,by decide,fun M' k'=>?_⟩
 walk_at "ev"
 exact⟨_,Tt.fig_reads (by omega),by omega,q _ k'⟩
theorem Fy{Γ G}(e5:G[9]?=some (.int 18))(g:Γ[10]?=some Tc)(gb:Γ[12]?=some Cy):Rd K Γ G Ei Rq Re:=by
 rintro ds M Q Z ⟨i,rfl,hi,q⟩
 obtain⟨h1,h2⟩:-1000000000000000000<i∧i<1000000000000000000:=id hi
 have h19:=Opd.len hi
 have d45:(("-":Str))=⟨#[45]⟩:=rfl
 delta Rq Re
 walk_at "ev"
 have hT:(Opd.no i).t=Str.ofString (toString i):=rfl
 rcases Opd.no_L (i:=i) with⟨n,e1,e2⟩ | ⟨n,e0,e1,e2⟩
 ·obtain⟨c,tl,ex,_⟩:=Tt.fig_head n
  rw[hT,e2]
  have hc:48≤c∧c≤57:=Tt.fig_digits (n:=n) (by rw[ex];exact Ao ..)
  rw[if_neg (fun z=>by rw[z] at ex;rw[show Tt.L ("-0":Str)=[45,48] from rfl] at ex;cases ex;omega)]
  delta X8
  walk_at "ev"
  rw[d45,Tt.starts_c,ex]
  rw[if_neg (by simp;omega)]
  delta V7
  walk_at "ev"
  simp only[e5,g]
  refine⟨n,18,rfl,Zo6 (by omega),by decide,fun M' k'=>?_⟩
  walk_at "ev"
  exact⟨_,Tt.fig_reads (by omega),by rw[hT,e2] at h19;omega,by rw[←e1];exact q _ k'⟩
 ·rw[hT]
  have hl:(Str.ofString (toString i)).length≤19:=h19
  rw[if_neg (fun z=>by
   rw[z,show Tt.L ("-0":Str)=[45,48] from rfl] at e2
   have e3:Tt.L (Tt.fig n)=[48]:=by simpa using e2.symm
   have:Tt.fig n=Tt.fig 0:=Tt.L_ext (by rw[e3];exact(Tt.fig_one (n:=0) (by decide)).symm)
   have h3:=Tt.fig_reads (n:=n) (by omega)
   rw[this,Tt.fig_reads (by decide)] at h3
   simp at h3
   omega)]
  delta X8
  walk_at "ev"
  rw[d45,Tt.starts_c,e2]
  rw[if_pos (by simp)]
  refine⟨Z0 (by omega),?_⟩
  simp only[gb]
  have hs:Ic (Str.ofString (toString i)) (some 1) none=Tt.fig n:=Tt.L_ext (by
   have:=Tt.L_from (Str.ofString (toString i)) (i:=1) (by rw[←Tt.L_len,e2];simp)
   rw[e2] at this
   exact this)
  rw[hs]
  exact⟨n,rfl,by omega,fun M' k'=>by rw[←e1];exact q _ k'⟩
theorem Oa{Γ G}(gn:Γ[9]?=some Ru)(gw:Γ[13]?=some Ei):Rd K Γ G Qc Vg Vd:=by
 rintro ds M Q Z ⟨o,rfl,ho,q⟩
 delta Vg Vd
 walk_at "ev"
 simp only[gn]
 cases o with
 | nm x=>
  refine⟨x,true,rfl,by rw[if_pos rfl];exact ho,fun M' k'=>?_⟩
  walk_at "ev"
  exact q _ k'
 | no i=>
  refine⟨_,false,rfl,?_,fun M' k'=>?_⟩
  ·have h19:=Opd.len ho
   rw[if_neg (by decide)]
   rcases Opd.no_L (i:=i) with⟨n,e1,e2⟩ | ⟨n,e0,e1,e2⟩
   ·obtain⟨c,tl,ex,_⟩:=Tt.fig_head n
    have hc:48≤c∧c≤57:=Tt.fig_digits (n:=n) (by rw[ex];exact Ao ..)
    exact⟨c,tl,by show Tt.L (Str.ofString (toString i))=_;rw[e2,ex],fun z=>by unfold Lc at z;omega,by omega⟩
   ·exact⟨45,_,e2,by decide,by omega⟩
  ·walk_at "ev"
   delta Xu
   walk_at "ev"
   simp only[gw]
   exact⟨i,rfl,ho,fun M2 k2=>q _ (k'.trans k2)⟩
end
def Jk:DSp:=fun ds M Q _=>∃(r:Nat) (a b:Opd) (s:Str) (sg:List Str),ds=[.ref r,.gtup (sg.map D.str)]∧Za M r=some [.str a.t,.str s,.str b.t]∧a.ok∧b.ok∧s∈sg∧∀M',Kp M M'→Q (.tup [a.d,.str s,b.d]) M'
def Y51:DSp:=fun ds M Q _=>∃(r:Nat) (g:Str) (a b:Opd) (s:Str),ds=[.ref r]∧Za M r=some [.str g,.str "=",.str a.t,.str s,.str b.t]∧Nam g∧a.ok∧b.ok∧s∈six∧∀M',Kp M M'→Q (.tup [.str g,a.d,.str s,b.d]) M'
def Zl0:DSp:=fun ds M Q _=>∃(r:Nat) (a b:Opd) (s:Str),ds=[.ref r]∧Za M r=some [.str a.t,.str s,.str b.t]∧a.ok∧b.ok∧s∈two∧∀M',Kp M M'→Q (.tup [a.d,.str s,b.d]) M'
theorem Zw7{M:Z2}{o:Opd}{F:Bool→Prop}(h:F false):cmD M .is o.d .non F:=by cases o<;>exact h
theorem J2(M:Z2):∀xs:List Str,PDs M (xs.map Ih) (xs.map D.str)
 | []=>rfl
 | x::xs=>⟨_,_,rfl,rfl,J2 M xs⟩
theorem Rv:∀{xs:List Str},(∀x∈xs,free x)→Kb (xs.map Ih)=true
 | [],_=>rfl
 | x::xs,h=>by
  show(PySem.PyData.strOk x&&Kb (xs.map Ih))=true
  rw[Rv fun y hy=>h y (Ar _ hy),Bool.and_true]
  unfold PySem.PyData.strOk
  rw[←Array.all_toList,Dj]
  intro c hc
  have:=(h x (Ao ..) c hc).2.2
  simp only[decide_eq_true_eq]
  omega
theorem Z15:∀xs:List Str,Ly (xs.map Ih)=0
 | []=>rfl
 | x::xs=>by
  show max 0 (Ly (xs.map Ih))=0
  rw[Z15 xs]
  rfl
theorem Rt:∀xs ys:List Str,Hq (xs.map Ih) (ys.map Ih)=decide (xs=ys)
 | [],[]=>rfl
 | [],_::_=>by simp[Hq]
 | _::_,[]=>by simp[Hq]
 | x::xs,y::ys=>by
  show((x==y)&&Hq (xs.map Ih) (ys.map Ih))=_
  rw[Rt xs ys,Bool.eq_iff_iff]
  simp
section
variable{K:Ad}
theorem Fz{Γ G}(g:Γ[14]?=some Qc):Rd K Γ G Jk Rp Sz:=by
 rintro ds M Q Z ⟨r,a,b,s,sg,rfl,hr,ha,hb,hs,q⟩
 delta Rp Sz
 walk_at "ev"
 simp only[g]
 refine X9 hr ati0 ⟨a,rfl,ha,fun M1 k1=>X9 (k1.pL hr) ati2 ⟨b,rfl,hb,fun M2 k2=>?_⟩⟩
 walk_at "ev"
 have hr2:=k2.pL (k1.pL hr)
 refine Zw7 ?_
 rw[if_pos rfl]
 refine Zw7 ?_
 rw[if_pos rfl]
 refine X9 hr2 ati1 ⟨rfl,Qh _,?_⟩
 rw[(Ju _ _).mpr hs]
 walk_at "ev"
 delta V9
 walk_at "ev"
 exact X9 hr2 ati1 ⟨Z0 (by simp),q _ (k1.trans k2)⟩
theorem Z82{Γ G}(e6:G[10]?=some (.gtup (six.map D.str)))(gn:Γ[9]?=some Ru)(g:Γ[15]?=some Jk):Rd K Γ G Y51 Nc Oo:=by
 rintro ds M Q Z ⟨r,x,a,b,s,rfl,hr,hx,ha,hb,hs,q⟩
 delta Nc Oo
 walk_at "ev"
 refine Zk hr ?_
 walk_at "ev"
 refine X9 hr ati1 ?_
 walk_at "ev"
 refine X9 hr ati0 ?_
 simp only[gn]
 refine⟨x,true,rfl,by rw[if_pos rfl];exact hx,fun M1 k1=>?_⟩
 walk_at "ev"
 delta R7
 walk_at "ev"
 simp only[e6,g]
 refine⟨_,k1.pL hr,M1.length,a,b,s,six,rfl,Ze _ _ [],ha,hb,hs,fun M2 k2=>?_⟩
 walk_at "ev"
 delta R6
 walk_at "ev"
 have kk:=k1.trans ((Ks.new (F:=fun _=>False) _ _).trans k2)
 exact X9 (kk.pL hr) ati0 ⟨Z0 (by decide),by simp,Z0 (by decide),q _ kk⟩
theorem Cz{Γ G}(e7:G[11]?=some (.gtup (two.map D.str)))(g:Γ[15]?=some Jk):Rd K Γ G Zl0 Py Po:=by
 rintro ds M Q Z ⟨r,a,b,s,rfl,hr,ha,hb,hs,q⟩
 delta Py Po
 walk_at "ev"
 refine Zk hr ?_
 walk_at "ev"
 delta S3
 walk_at "ev"
 simp only[e7,g]
 exact⟨r,a,b,s,two,rfl,hr,ha,hb,hs,q⟩
end
theorem Zr6(x:Str):Tt.L (Ll x " ")=(Tt.L x).dropWhile (·==32):=by
 unfold Ll
 rw[stripBy_eq]
 have e:(fun c=>(" ":Str).cps.contains c)=(·==32):=by
  funext c
  show(#[32]:Array Nat).contains c=_
  simp[Array.contains,eq_comm]
 show(x.cps.extract _ _).toList=_
 have h1:stripHi (fun c=>(" ":Str).cps.contains c) false x (stripLo (fun c=>(" ":Str).cps.contains c) true x)=x.cps.size:=rfl
 have h2:stripLo (fun c=>(" ":Str).cps.contains c) true x=((Tt.L x).takeWhile (·==32)).length:=by rw[←e];rfl
 rw[h1,h2,Array.toList_extract]
 show List.extract (Tt.L x) _ _=_
 rw[List.extract_eq_drop_take,Ds (by rw[Kf];exact Nat.le_refl _)]
 have:∀l:List Nat,l.drop (l.takeWhile (·==32)).length=l.dropWhile (·==32):=by
  intro l
  induction l with
  | nil=>rfl
  | cons a l ih=>
   rw[List.takeWhile_cons,List.dropWhile_cons]
   split
   ·rw[Aj,List.drop_succ_cons,ih]
   ·rfl
 exact this _
theorem Yj9(k:Nat)(l:List Nat):(Df k 32++l).dropWhile (·==32)=l.dropWhile (·==32):=by
 induction k with
 | zero=>rfl
 | succ k ih=>rw[Ie,Dp,List.dropWhile_cons,if_pos (show(32==32)=true from rfl),ih]
noncomputable def nt(n:Int):Str:=Tt.fig n.toNat
noncomputable def Ln.ws:Ln→List Str
 | .cond a s b=>["if",a.t,s,b.t]
 | .sum x a s b=>[x,"=",a.t,s,b.t]
 | .rnd n=>["round",nt n]
 | .prt n=>["part",nt n]
 | .lve n=>["leave",nt n]
 | .agn n=>["again",nt n]
 | .els=>["else"]
 | .don=>["done"]
 | .fin=>["end"]
noncomputable def Ln.line(l:Ln):Str:=Dx " " l.ws
theorem Zb1:∀s∈six++two,s.length≤19∧∀c∈Tt.L s,c≠32∧c≠10∧c<128:=by decide+kernel
theorem Ya5:∀s∈(["=","if","round","part","leave","again","else","done","end"]:List Str),s.length≤19∧∀c∈Tt.L s,c≠32∧c≠10∧c<128:=by decide+kernel
theorem Yn8{n:Int}(h:0≤n∧n≤9999):(nt n).length≤19∧free (nt n):=⟨Nat.le_trans (Z23 (by omega)) (by decide),Jl _⟩
theorem Ln.wok{l:Ln}(h:l.wf):∀x∈l.ws,x.length≤19∧free x:=by
 have lit:∀s∈(["=","if","round","part","leave","again","else","done","end"]:List Str),s.length≤19∧free s:=Ya5
 have opd:∀o:Opd,o.ok→o.t.length≤19∧free o.t:=fun o h=>⟨o.len h,o.free h⟩
 intro x hx
 cases l<;>simp only[Ln.ws,Ag,Dc,or_false] at hx
 case cond a s b=>
  obtain⟨h1,h2,h3⟩:=h
  rcases hx with rfl | rfl | rfl | rfl
  ·exact lit _ (by simp)
  ·exact opd _ h1
  ·exact Zb1 _ (Ax _ h2)
  ·exact opd _ h3
 case sum y a s b=>
  obtain⟨h0,h1,h2,h3⟩:=h
  rcases hx with rfl | rfl | rfl | rfl | rfl
  ·exact⟨Nat.le_trans h0.2.2.1 (by decide),h0.free⟩
  ·exact lit _ (by simp)
  ·exact opd _ h1
  ·exact Zb1 _ (Hw _ h2)
  ·exact opd _ h3
 case els=>rw[hx];exact lit _ (by simp)
 case don=>rw[hx];exact lit _ (by simp)
 case fin=>rw[hx];exact lit _ (by simp)
 all_goals
  rcases hx with rfl | rfl
  ·exact lit _ (by simp)
  ·exact Yn8 h
theorem Ln.wlen(l:Ln):l.ws.length≤5∧l.ws≠[]:=by cases l<;>simp[Ln.ws]
theorem Ln.len{l:Ln}(h:l.wf):l.line.length≤100:=by
 have h1:=Er " " (by decide) (l:=l.ws) (B:=19) fun x hx=>(Ln.wok h x hx).1
 have h2:=Nat.mul_le_mul_right 20 (Ln.wlen l).1
 unfold Ln.line
 omega
theorem Be(c:Nat):∀(xs:List Str) (d:Nat),d∈Tt.L (Str.join ⟨#[c]⟩ xs)→d=c∨∃x∈xs,d∈Tt.L x
 | [],d,h=>by cases h
 | [x],d,h=> .inr ⟨x,An.mpr rfl,h⟩
 | x::y::r,d,h=>by
  rw[Tt.L_join,Bk,Ag] at h
  rcases h with z | z | z
  ·exact .inr ⟨x,Ao ..,z⟩
  ·exact .inl z
  ·rcases Be c (y::r) d z with z | ⟨w,h1,h2⟩
   ·exact .inl z
   ·exact .inr ⟨w,Ar _ h1,h2⟩
theorem Ln.no10{l:Ln}(h:l.wf):10∉Tt.L l.line:=by
 intro z
 unfold Ln.line at z
 rw[tj,sp32] at z
 rcases Be 32 _ _ z with e | ⟨x,h1,h2⟩
 ·cases e
 ·exact((Ln.wok h x h1).2 10 h2).2.1 rfl
theorem Ln.split{l:Ln}(h:l.wf):Km l.line " "=l.ws:=by
 unfold Ln.line
 rw[sp32]
 exact Tt.split_join (Ln.wlen l).2 fun x hx hc=>((Ln.wok h x hx).2 32 hc).1 rfl
theorem Ln.first{l:Ln}(h:l.wf):∃x r,l.ws=x::r∧∃c t,Tt.L x=c::t:=by
 cases l with
 | sum x a s b=>
  refine⟨x,_,rfl,?_⟩
  have:=h.1.2.1
  cases e:Tt.L x with
  | nil=>exact absurd (show x.length=0 by show x.cps.size=0;rw[←Dn];exact congrArg List.length e) (by omega)
  | cons c t=>exact⟨c,t,rfl⟩
 | _=>exact⟨_,_,rfl,_,_,rfl⟩
theorem Ln.begins{l:Ln}(h:l.wf):∃c t,Tt.L l.line=c::t∧c≠32:=by
 obtain⟨x,r,e,c,t,ec⟩:=Ln.first h
 have h32:c≠32:=((Ln.wok h x (by rw[e];exact Ao)).2 c (by rw[ec];exact Ao)).1
 unfold Ln.line
 rw[e]
 cases r with
 | nil=>rw[tj];exact⟨c,t,ec,h32⟩
 | cons y r=>rw[jn,Tt.L_app,Tt.L_app,ec];exact⟨c,_,rfl,h32⟩
theorem Ln.ne{l:Ln}(h:l.wf):l.line≠"":=by
 obtain⟨c,t,e,_⟩:=Ln.begins h
 intro z
 rw[z] at e
 cases e
noncomputable def O7(x:Str):Str:=Ll x " "
theorem Zq5{x:Str}{k:Nat}{l:Ln}(hl:l.wf)(h:Tt.L x=Df k 32++Tt.L l.line):O7 x=l.line:=Tt.L_ext (by
 unfold O7
 obtain⟨c,t,e,hc⟩:=Ln.begins hl
 rw[Zr6,h,Yj9,e,List.dropWhile_cons,if_neg (by simpa using hc)])
def Za1:DSp:=fun ds M Q _=>∃(r:Nat) (ls:List Ln),ds=[.ref r]∧Za M r=some (ls.map Ln.d)∧Wk 60 [] ls []∧∀d:Nat,1≤d→d≤61→Wk (d - 1) [] ls []→Q (.int (d:Nat)) M
def E7:DSp:=fun ds M Q _=>∃l:Ln,ds=[l.d]∧l.wf∧∀M',Kp M M'→Q (.str l.line) M'
noncomputable def Ln.clo:Ln→Int
 | .don=>1
 | _=>0
theorem Zi0{ss s1:List (Tp×Int)}{l:Ln}(h:nxt ss l s1):(s1.length:Int)=ss.length+(if l.beg then 1 else 0) - l.clo:=by
 cases l with
 | els=>obtain⟨tl,n,rfl,rfl⟩:=h;simp[Ln.beg,Ln.clo]
 | don=>obtain⟨y,rfl⟩:=h;simp[Ln.beg,Ln.clo]
 | _=>rw[show s1=_ from h];simp[Ln.beg,Ln.clo]
section
variable{K:Ad}{Γ:List DSp}{G:List D}
theorem Zx7{ls:List Ln}{i:Nat}{d:D}(hd:(ls.map Ln.d)[i]?=some d):∃l,ls[i]?=some l∧d=l.d:=by
 rw[As] at hd
 cases e:ls[i]? with
 | none=>rw[e] at hd;cases hd
 | some l=>rw[e] at hd;cases hd;exact⟨l,rfl,rfl⟩
theorem Zm1(g:Γ[35]?=some Y5):Rd K Γ G Za1 Bb Z03:=by
 rintro ds M Q Z ⟨r,ls,rfl,hr,hw,q⟩
 delta Bb Z03
 walk_at "ev"
 refine⟨_,hr,?_⟩
 refine Wb (fun i σ M'=>∃(now most:Nat) (d:Option D) (ss:List (Tp×Int)),σ=[some (.ref r),some (.int (now:Nat)),some (.int (most:Nat)),d]∧M'=M∧now=1+ss.length∧now≤most∧most≤61∧Wk (most - 1) [] (ls.take i) ss∧Wk 60 ss (ls.drop i) []) ⟨1,1,none,[],rfl,rfl,rfl,Nat.le_refl _,by decide,rfl,hw⟩ ?_ ?_ ?_
 ·rintro i σ M' _ ⟨now,most,d,ss,rfl,rfl,_⟩
  exact hr
 ·rintro i d σ M' C hd ⟨now,most,d0,ss,rfl,rfl,hn,h1,h2,w1,w2⟩ hC
  obtain⟨l,hl,rfl⟩:=Zx7 hd
  rw[tg_one]
  delta Oi
  walk_at "ev"
  simp only[g]
  refine⟨l,rfl,?_⟩
  have hi:=(Af.mp hl).1
  have e0:ls.drop i=l::ls.drop (i+1):=by rw[Dl hi];congr 1;rw[Ae hi] at hl;exact Dd hl
  rw[e0] at w2
  obtain⟨wf,inn,s1,nx,hs1,w3⟩:=w2
  have nl:=Zi0 nx
  have go:∀now':Nat,now'=1+s1.length→∃(now most':Nat) (d:Option D) (ss:List (Tp×Int)),[some (D.ref r),some (D.int (now':Nat)),some (D.int (max (most:Nat) now':Nat)),some l.d]=[some (.ref r),some (.int (now:Nat)),some (.int (most':Nat)),d]∧M'=M'∧now=1+ss.length∧now≤most'∧most'≤61∧Wk (most' - 1) [] (ls.take (i+1)) ss∧Wk 60 ss (ls.drop (i+1)) []:=by
   intro now' hn'
   refine⟨now',max most now',_,s1,rfl,rfl,hn',by omega,by omega,?_,w3⟩
   rw[Zq hl]
   exact(w1.mono (by omega)).app ⟨wf,inn,s1,nx,by omega,rfl⟩
  have hh:∃w xs,l.d= .tup (.str w::xs)∧(if w="done" then(1:Int) else 0)=l.clo:=by cases l<;>exact⟨_,_,rfl,by first | rfl | exact if_neg (by decide+kernel)⟩
  obtain⟨w,xs,ed,ec⟩:=hh
  rw[ed] at go ⊢
  walk_at "ev"
  have e1:(((now:Int)+if l.beg=true then 1 else 0) - if w="done" then 1 else 0)=((1+s1.length:Nat):Int):=by rw[ec];omega
  rw[e1]
  refine hC _ _ ?_
  have e2:(if ((1+s1.length:Nat):Int) >most then((1+s1.length:Nat):Int) else(most:Int))=((max most (1+s1.length):Nat):Int):=by split<;>omega
  rw[e2]
  exact go _ rfl
 ·rintro σ M' ⟨now,most,d,ss,rfl,rfl,hn,h1,h2,w1,w2⟩
  rw[Ac,Ib (Nat.le_refl _)] at w2
  rw[Ac,Ds (Nat.le_refl _)] at w1
  cases (show []=ss from w2)
  delta Nj
  walk_at "ev"
  exact q most (by omega) h2 w1
theorem Zo5:Rd K Γ G E7 Wz Wr:=by
 rintro ds M Q Z ⟨l,rfl,h,q⟩
 delta Wz Wr
 have one:∀w:Str,l.d= .tup [.str w]→l.ws=[w]→¬w="if"→¬w="sum"→w.length≤19→tss ⟨K,Γ,G⟩ noX Wz {nx:=fun _ M=>Q .non M,rt:=Q} (start0 Wr [l.d]) M:=by
  intro w e1 e2 n1 n2 hl
  rw[e1]
  delta Wz Wr
  walk_at "ev"
  rw[if_neg n1]
  delta Wx
  walk_at "ev"
  rw[if_neg n2]
  delta Sr
  walk_at "ev"
  simp only[Pb]
  walk_at "ev"
  refine⟨trivial,?_⟩
  show bfD K .str1 [.str w] _ _
  walk_at "ev"
  refine⟨[],Z5 _ _ [],Z6 (by decide),trivial,[w],?_,Gq (B:=19) (by decide) (fun x hx=>by rw[An] at hx;rw[hx];exact hl) (by simp),?_⟩
  ·exact Z1 (Z8 (by simp))
  ·unfold Ln.line at q
   rw[e2] at q
   exact q _ ((Ks.new _ _).set (.inr (Nat.le_refl _)))
 have two':∀(w:Str) (n:Int),l.d= .tup [.str w,.int n]→l.ws=[w,nt n]→¬w="if"→¬w="sum"→w.length≤19→0≤n∧n≤9999→tss ⟨K,Γ,G⟩ noX Wz {nx:=fun _ M=>Q .non M,rt:=Q} (start0 Wr [l.d]) M:=by
  intro w n e1 e2 n1 n2 hl hn
  rw[e1]
  delta Wz Wr
  walk_at "ev"
  rw[if_neg n1]
  delta Wx
  walk_at "ev"
  rw[if_neg n2]
  delta Sr
  walk_at "ev"
  obtain⟨k,rfl⟩:∃k:Nat,n=k:=⟨n.toNat,by omega⟩
  have hk:k≤9999:=by omega
  simp only[Pb]
  walk_at "ev"
  refine⟨trivial,?_⟩
  show bfD K .str1 [.str w] _ _
  walk_at "ev"
  refine⟨[],Z5 _ _ [],Z6 (by decide),trivial,?_⟩
  show bfD K .str1 [.int (k:Nat)] _ _
  refine Yj0 hk ?_
  have hlt:M.length< (M++[Cell.lst []]).length:=by simp
  refine⟨[.str w],Z8 hlt,Z6 (by simp),trivial,[w,Tt.fig k],?_,Gq (B:=19) (by decide) (fun x hx=>?_) (by simp),?_⟩
  ·exact Z1 (Z8 (by rw[Az];exact hlt))
  ·simp only[Ag,Dc,or_false] at hx
   rcases hx with rfl | rfl
   ·exact hl
   ·exact Nat.le_trans (Z23 hk) (by decide)
  ·unfold Ln.line at q
   rw[e2] at q
   exact q _ (((Ks.new _ _).set (.inr (Nat.le_refl _))).set (.inr (Nat.le_refl _)))
 cases l with
 | cond a s b=>
  obtain⟨h1,h2,h3⟩:=id h
  have hx:=Ln.wok h
  have la:=(hx a.t (by simp[Ln.ws])).1
  have ls:=(hx s (by simp[Ln.ws])).1
  have lb:=(hx b.t (by simp[Ln.ws])).1
  have l3:("if ":Str).length=3:=rfl
  have l1:(" ":Str).length=1:=rfl
  simp only[Ln.d]
  walk_at "ev"
  refine B9 h1 ?_
  walk_at "ev"
  refine⟨Z0 (by first | omega | (simp only[Z4];omega)),Z0 (by first | omega | (simp only[Z4];omega)),Z0 (by first | omega | (simp only[Z4];omega)),Z0 (by first | omega | (simp only[Z4];omega)),B9 h3 ?_⟩
  walk_at "ev"
  refine⟨Z0 (by first | omega | (simp only[Z4];omega)),?_⟩
  have:=q _ (Ks.refl M)
  unfold Ln.line Ln.ws at this
  rw[jn,jn,jn,tj] at this
  have e:("if ":Str)++a.t++(" ":Str)++s++(" ":Str)++b.t="if"++" "++(a.t++" "++(s++" "++b.t)):=Tt.L_ext (by
   rw[show("if ":Str)="if"++" " by decide+kernel]
   simp only[Tt.L_app,Ay])
  rw[e]
  exact this
 | sum x a s b=>
  obtain⟨h0,h1,h2,h3⟩:=id h
  have hx:=Ln.wok h
  simp only[Ln.d]
  walk_at "ev"
  delta Wx
  walk_at "ev"
  refine B9 h1 ?_
  try walk_at "ev"
  refine B9 h3 ⟨Z0 (by decide),[x,"=",a.t,s,b.t],Ze _ _ [],?_⟩
  exact⟨Gq (by decide) (fun x z=>(hx x z).1) (by simp[Ln.ws]),q _ (Ks.new _ _)⟩
 | els=>exact one "else" rfl rfl (by decide) (by decide) (by decide)
 | don=>exact one "done" rfl rfl (by decide) (by decide) (by decide)
 | fin=>exact one "end" rfl rfl (by decide) (by decide) (by decide)
 | rnd n=>exact two' "round" n rfl rfl (by decide) (by decide) (by decide) h
 | prt n=>exact two' "part" n rfl rfl (by decide) (by decide) (by decide) h
 | lve n=>exact two' "leave" n rfl rfl (by decide) (by decide) (by decide) h
 | agn n=>exact two' "again" n rfl rfl (by decide) (by decide) (by decide) h
end
noncomputable def frs(ns:List Int)(N:Nat):List Nat:=(Hi N).filter fun k:Nat=>decide (¬(k:Int)∈ns)
theorem Y59(ns:List Int)(N:Nat):N≤(frs ns N).length+ns.length:=by
 have h:((Hi N).filter fun k:Nat=>decide ((k:Int)∈ns)).length≤ns.length:=by
  have:=Wm (a:=((Hi N).filter fun k:Nat=>decide ((k:Int)∈ns)).map (fun k:Nat=>(k:Int))) (b:=ns) ?_ ?_
  ·rw[Ac] at this;exact this
  ·rw[List.Nodup,List.pairwise_map]
   exact(List.nodup_range.filter _).imp fun h z=>h (Int.ofNat.inj z)
  ·intro x hx
   obtain⟨k,hk,rfl⟩:=Hf.mp hx
   exact of_decide_eq_true (Lw.mp hk).2
 have e:∀l:List Nat,(l.filter fun k:Nat=>decide ((k:Int)∈ns)).length+(l.filter fun k:Nat=>decide (¬(k:Int)∈ns)).length=l.length:=by
  intro l
  induction l with
  | nil=>rfl
  | cons a l ih=>rw[Dg,Dg];by_cases ha:(a:Int)∈ns<;>simp[ha] at ih ⊢ <;>omega
 have:=e (Hi N)
 rw[List.length_range] at this
 unfold frs
 omega
theorem Yf2(ns:List Int)(N:Nat):(frs ns N).Nodup:=List.nodup_range.filter _
theorem Zv3{ns:List Int}{N i n:Nat}(h:(frs ns N)[i]?=some n):n<N∧¬(n:Int)∈ns:=by
 have:=Lw.mp (Hx h)
 exact⟨Hr.mp this.1,of_decide_eq_true this.2⟩
structure Wp(ls:List Ln)(d N i:Nat)(ms:List Ln):Prop where
 w:Wk (d+i) [] ms []
 n:(nums ms).Nodup
 m:∀x∈nums ms,x∈nums ls∨∃j,j<i∧∃k,(frs (nums ls) N)[j]?=some k∧x=(k:Int)
 l:ms.length=ls.length+2 * i
theorem Wp.add{ls ms:List Ln}{d N i k:Nat}(h:Wp ls d N i ms)(hN:N≤9999)(e:(frs (nums ls) N)[i]?=some k){l:Ln}{x:Tp×Int}(hl:l.wf)(hi:l.inn [])(hn:nxt [] l [x])(hh:nums [l]=[]∨nums [l]=[(k:Int)]):Wp ls d N (i+1) (l::(ms++[.don])):=by
 have en:nums (l::(ms++[.don]))=nums [l]++nums ms:=by
  rw[show l::(ms++[.don])=[l]++(ms++[.don]) from rfl,V0,V0]
  show _++(_++[])=_
  rw[Db]
 have fr:¬(k:Int)∈nums ms:=by
  intro z
  rcases h.m _ z with z | ⟨j,hj,k',ek,z⟩
  ·exact(Zv3 e).2 z
  ·cases (Int.ofNat.inj z:k=k')
   have:=(List.getElem?_inj (Af.mp ek).1 (Yf2 _ _)).mp (ek.trans e.symm)
   omega
 refine⟨h.w.wrap hl hi hn,?_,?_,?_⟩
 ·rw[en]
  rcases hh with hh | hh<;>rw[hh]
  ·exact h.n
  ·exact Ip.mpr ⟨fr,h.n⟩
 ·intro y hy
  rw[en] at hy
  rcases Bk.mp hy with hy | hy
  ·rcases hh with hh | hh<;>rw[hh] at hy
   ·cases hy
   ·exact .inr ⟨i,Nat.lt_succ_self _,k,e,An.mp hy⟩
  ·rcases h.m y hy with z | ⟨j,hj,z⟩
   ·exact .inl z
   ·exact .inr ⟨j,by omega,z⟩
 ·rw[Aj,Ab,Aq,h.l]
  omega
theorem Zt3(n:Int)(ns:List Int):inD (.int n) (ns.map .int)=decide (n∈ns):=by
 unfold inD
 rw[Lv]
 induction ns with
 | nil=>rfl
 | cons m ns ih=>
  rw[Iu,ih]
  show((m==n) || decide (n∈ns))=_
  by_cases h:m=n
  ·subst h;simp
  ·have h2:¬n=m:=fun z=>h z.symm
   simp[h,h2]
theorem Ze7(ns:List Int):(ns.map D.int).all Zs=true:=by
 rw[Dj]
 intro d h
 obtain⟨x,_,rfl⟩:=Hf.mp h
 rfl
theorem Y54:Nam "x":=⟨Wrd.one (c:=120) ⟨by decide,by decide⟩,by decide,by decide,by decide+kernel⟩
def Gb:DSp:=fun ds M Q _=>∃(r v m d:Nat) (ls:List Ln),ds=[.ref r,.int (v:Nat),.int (m:Nat)]∧Z3 M r=some (ls.map Ln.d)∧Gd d ls∧ls.length≤120∧d+m=89∧
 ∀(ms:List Ln) M' r',Gd 89 ms→ms.length≤300→ls.length≤ms.length→Kp M M'→Z3 M' r'=some (ms.map Ln.d)→Q (.ref r') M'
section
variable{K:Ad}{Γ:List DSp}{G:List D}
theorem Z68:Rd K Γ G Gb Of Na:=by
 rintro ds M Q Z ⟨r,v,m,d,ls,rfl,hr,hg,hl,hd,q⟩
 delta Of Na
 walk_at "ev"
 refine⟨_,Z1 hr,?_⟩
 refine X2 (fun i σ M'=>∃(d0:Option D),σ=[d0]∧Kp M M'∧Z3 M' M.length=some ((nums (ls.take i)).map .int)) ⟨none,rfl,Ks.new _ _,Z5 _ _ []⟩ ?_ ?_ ?_
 ·rintro i σ M' _ ⟨d0,rfl,k,e⟩
  exact k.pL (Z1 hr)
 ·rintro i d' σ M' C hd' ⟨d0,rfl,k,e⟩ hC
  obtain⟨l,hl',rfl⟩:=Zx7 hd'
  have hi:=(Af.mp hl').1
  have hnl:(nums (ls.take i)).length≤120:=by have:=Q2 (ls.take i);rw[He] at this;omega
  rw[tg_one]
  have go:∀b:Bool,nums [l]=[]→C [some l.d] M':=fun b hn=>hC _ _ ⟨_,rfl,k,by rw[Zq hl',V0,hn,Db];exact e⟩
  have go2:∀n:Int,nums [l]=[n]→C [some l.d] (M'.set M.length (.lst ((nums (ls.take i)).map .int++[.int n]))):=fun n hn=>hC _ _ ⟨_,rfl,k.set (.inr (Nat.le_refl _)),by rw[Zq hl',V0,hn,Am];exact Z8 (Z9 (Z1 e))⟩
  cases l<;>simp only[Ln.d] at go go2 ⊢ <;>walk_at "ev"
  case rnd n=>exact⟨_,e,Z6 (by rw[Ac];omega),go2 n rfl⟩
  case prt n=>exact⟨_,e,Z6 (by rw[Ac];omega),go2 n rfl⟩
  all_goals exact go true rfl
 rintro σ M1 ⟨d0,rfl,k1,e1⟩
 rw[Ac,Ds (Nat.le_refl _)] at e1
 refine Zk (Z1 e1) ?_
 walk_at "ev"
 have hnl:=Q2 ls
 have hd9:m≤89:=by omega
 have eN:(100+(m:Int)+((nums ls).map D.int).length).toNat=100+m+(nums ls).length:=by rw[Ac];omega
 refine⟨by rw[Ac];omega,by rw[Ac];omega,?_⟩
 rw[eN]
 generalize hN:100+m+(nums ls).length=N
 have hN9:N≤400:=by omega
 refine X2 (fun i σ M'=>∃(d0:Option D),σ=[d0,some (.ref M.length)]∧Kp M1 M'∧Z3 M' M1.length=some ((frs (nums ls) i).map fun k:Nat=>D.int k)) ⟨none,rfl,Ks.new _ _,Z5 _ _ []⟩ (fun _ _ _ _ _=>trivial) ?_ ?_
 ·rintro i d' σ M' C hd' ⟨d0,rfl,k,e⟩ hC
  have hi:i<N:=by have:=(Af.mp hd').1;rw[X3] at this;exact this
  rw[Gy hi] at hd'
  cases hd'
  have e2:=k.pW e1
  have hfl:(frs (nums ls) i).length≤400:=by
   have:=List.length_filter_le (fun k:Nat=>decide (¬(k:Int)∈nums ls)) (Hi i)
   rw[List.length_range] at this
   unfold frs
   omega
  have fs:frs (nums ls) (i+1)=frs (nums ls) i++(if ¬(i:Int)∈nums ls then [i] else []):=by
   unfold frs
   rw[List.range_succ,List.filter_append]
   congr 1
   by_cases hm:(i:Int)∈nums ls<;>simp[Dg,hm]
  rw[tg_one]
  walk_at "ev"
  refine .inl ⟨_,Z1 e2,rfl,Ze7 _,?_⟩
  rw[Int.zero_add,Zt3]
  by_cases hm:(i:Int)∈nums ls
  ·rw[decide_eq_true hm]
   refine hC _ _ ⟨_,rfl,k,?_⟩
   rw[fs,if_neg (fun z=>z hm),Db]
   exact e
  ·rw[decide_eq_false hm]
   refine⟨_,e,Z6 (by rw[Ac];omega),hC _ _ ⟨_,rfl,k.set (.inr (Nat.le_refl _)),?_⟩⟩
   rw[Z8 (Z9 (Z1 e)),fs,if_pos hm,Am]
   rfl
 rintro σ M2 ⟨d1,rfl,k2,e2⟩
 rw[X3] at e2
 try walk_at "ev"
 have k12:Kp M M2:=k1.trans k2
 refine⟨by omega,by omega,?_⟩
 rw[Kt]
 refine Tm (fun i σ M'=>∃(c:Nat) (ms:List Ln) (d5 d6 d7:Option D),σ=[some (.ref c),some (.int v),some (.int m),some (.ref M.length),some (.ref M1.length),d5,d6,d7]∧Kp M2 M'∧Z3 M' c=some (ms.map Ln.d)∧Wp ls d N i ms) ⟨r,ls,none,none,none,rfl,Ks.refl _,k12.pW hr,hg.w,hg.n,fun x hx=> .inl hx,rfl⟩ ?_ ?_
 ·rintro i σ M' C hi ⟨c,ms,d5,d6,d7,rfl,k,e,W⟩ hC
  obtain⟨k0,ek⟩:∃k0,(frs (nums ls) N)[i]?=some k0:=⟨_,Ae (by have:=Y59 (nums ls) N;omega)⟩
  have hk0:=(Zv3 ek).1
  have hml:=W.l
  rw[tg_one,Int.zero_add]
  delta Rk
  walk_at "ev"
  have sq:i * i≤89 * 89:=Nat.mul_le_mul (by omega) (by omega)
  have sq':(i:Int) * (i:Int)=((i * i:Nat):Int):=(Int.natCast_mul i i).symm
  obtain⟨S,hS⟩:∃S:Z2,S=M'++[Cell.lst [D.str "part",D.str "if",D.str "round"]]:=⟨_,rfl⟩
  have kS:Kp M' S:=by rw[hS];exact Ks.new _ _
  have put:∀(l:Ln) (x:Tp×Int) (d6:Option D) (B:DEnv→Z2→Prop),l.wf→l.inn []→nxt [] l [x]→(nums [l]=[]∨nums [l]=[(k0:Int)])→tss ⟨K,Γ,G⟩ noX W8 {nx:=C,rt:=Q,bk:=B,ct:=C} [some (.ref c),some (.int v),some (.int m),some (.ref M.length),some (.ref M1.length),some (.int i),d6,some l.d] S:=by
   intro l x d6 B h1 h2 h3 h4
   delta W8
   walk_at "ev"
   refine⟨Z0 (by decide),_,_,Z5 _ _ [],Z7 (kS.pW e),Z0 (by rw[Aq,Ac];omega),Z0 (by decide),Z0 (by decide),_,_,Z7 (Z5 _ _ []),Z5 _ _ [],Z0 (by simp;omega),hC _ _ ⟨_,l::(ms++[.don]),_,_,_,rfl,?_,?_,W.add (by omega) ek h1 h2 h3 h4⟩⟩
   ·exact((((k.trans kS).app _).app _).app _).app _
   ·rw[Z5]
    simp[Ln.d]
  rw[←hS]
  refine⟨Z0 (by decide),mulL (by omega) (by omega),Zi (by omega) (by omega),?_⟩
  have hSr:Za S M'.length=some [D.str "part",D.str "if",D.str "round"]:=by rw[hS];exact Ze _ _ []
  have hF:Za S M1.length=some ((frs (nums ls) N).map fun k:Nat=>D.int k):=Z1 ((k.trans kS).pW e2)
  refine ix_m hSr rfl (by decide) fun d' hd'=>?_
  refine ix_l (k:=i) (d:= .int (k0:Nat)) hF (by rw[As,ek];rfl) ?_
  refine⟨Z0 (by decide),?_⟩
  simp only[Ag,Dc,or_false] at hd'
  rcases hd' with rfl | rfl | rfl
  ·walk_at "ev"
   exact put (.prt (k0:Nat)) (.cpt,k0) _ _ (show 0≤_∧_ from by omega) trivial rfl (.inr rfl)
  ·walk_at "ev"
   exact⟨Z0 (by decide),put (.cond (.no i) "=" (.nm "x")) (.cif,-1) _ _ ⟨show _<_∧_<_ from by omega,by decide+kernel,Y54⟩ trivial rfl (.inl rfl)⟩
  ·walk_at "ev"
   exact put (.rnd (k0:Nat)) (.crd,k0) _ _ (show 0≤_∧_ from by omega) trivial rfl (.inr rfl)
 ·rintro σ M' ⟨c,ms,d5,d6,d7,rfl,k,e,W⟩
  delta Rg
  walk_at "ev"
  have:=W.l
  exact q ms _ _ ⟨by have:=W.w;rw[hd] at this;exact this,W.n⟩ (by omega) (by omega) (k12.trans k) e
end
noncomputable def nz(x:Str):Bool:=decide (x≠("":Str))
structure Rw(ls:List Ln)(rows:List Str):Prop where
 x:∀x∈rows,x.length≤300∧10∉Tt.L x
 f:(rows.map O7).filter nz=ls.map Ln.line
noncomputable def Ln.h:Ln→D
 | .cond a s b=> .tup [.str "choice",a.d,.str s,b.d]
 | l=>l.d
noncomputable def hw:Ln→Str
 | .cond _ _ _=>"choice" | .sum _ _ _ _=>"sum" | .rnd _=>"round" | .prt _=>"part" | .lve _=>"leave" | .agn _=>"again" | .els=>"else" | .don=>"done" | .fin=>"end"
noncomputable def tlD:Ln→List D
 | .cond a s b=>[a.d,.str s,b.d]
 | .sum x a s b=>[.str x,a.d,.str s,b.d]
 | .rnd n=>[.int n]
 | .prt n=>[.int n]
 | .lve n=>[.int n]
 | .agn n=>[.int n]
 | _=>[]
theorem Ln.h_eq(l:Ln):l.h= .tup (.str (hw l)::tlD l):=by cases l<;>rfl
theorem Co(l:Ln):(tlD l).all Zs=true:=by
 cases l<;>first | rfl | simp only[tlD,Ho,Opd.flat,List.all_nil]<;>rfl
noncomputable def isDn:Ln→Bool
 | .don=>true
 | _=>false
theorem Y00{l:Ln}:(notE l=true→¬hw l="else")∧(isDn l=false→¬hw l="done"):=by
 cases l<;>refine⟨fun z=>?_,fun z=>?_⟩<;>first | (simp only[hw];decide+kernel) | cases z
theorem Ef{M:Z2}{l:Ln}{B:Bool→Prop}(q:B (!notE l)):eqD M l.h (.gtup [.str "else"]) B:=by
 refine J7 (.inl l.h_eq) (by show(true&&_)=true;rw[Co];rfl) rfl ?_
 cases l with
 | els=>exact q
 | _=>rw[X4 _ _ _ (Y00.1 rfl)];exact q
theorem Ep{M:Z2}{l:Ln}{B:Bool→Prop}(q:B (isDn l)):eqD M l.h (.gtup [.str "done"]) B:=by
 refine J7 (.inl l.h_eq) (by show(true&&_)=true;rw[Co];rfl) rfl ?_
 cases l with
 | don=>exact q
 | _=>rw[X4 _ _ _ (Y00.2 rfl)];exact q
theorem Zq4{M:Z2}{r x1 x2 x3:Nat}{ws:List Str}{F:Bool→Prop}(h:Za M r=some (ws.map D.str))(f:∀x∈ws,free x)(h1:Za M x1=some [.str "end"])(h2:Za M x2=some [.str "else"])(h3:Za M x3=some [.str "done"])(q:F (decide ((["end"]:List Str)=ws) || (decide ((["else"]:List Str)=ws) || decide ((["done"]:List Str)=ws)))):inTD M (.ref r) (.tup [.ref x1,.ref x2,.ref x3]) F:=by
 have fr:∀s∈(["end","else","done"]:List Str),free s:=by unfold free;decide+kernel
 have one:∀(s:Str) (x:Nat),Za M x=some [.str s]→PD M (.list ([s].map Ih)) (.ref x):=fun s x e=>⟨x,_,rfl,e,J2 M [s]⟩
 have lay:∀s∈(["end","else","done"]:List Str),Kg (.list ([s].map Ih))=true:=fun s hs=>Rv fun x hx=>by rw[An.mp hx];exact fr s hs
 refine⟨.list (ws.map Ih),[.list ((["end"]:List Str).map Ih),.list ((["else"]:List Str).map Ih),.list ((["done"]:List Str).map Ih)],⟨r,_,rfl,h,J2 M ws⟩,⟨_,.inl rfl,_,_,rfl,one _ _ h1,_,_,rfl,one _ _ h2,_,_,rfl,one _ _ h3,rfl⟩,Rv f,?_,?_,?_⟩
 ·show(Kg _&&(Kg _&&(Kg _&&true)))=true
  rw[lay "end" (by simp),lay "else" (by simp),lay "done" (by simp)]
  rfl
 ·refine Nat.le_trans (Nat.min_le_right _ _) ?_
  show Ly _+1≤60
  rw[Z15]
  decide
 ·show F (Hq _ _ || (Hq _ _ || (Hq _ _ || false)))
  rw[Rt,Rt,Rt,Bool.or_false]
  exact q
def Y65:DSp:=fun ds M Q _=>∃(k:Str) (xs:List D),ds=[.str k,.tup xs]∧xs.length≤100∧Q (.tup (.str k::xs)) M
def Sq:DSp:=fun ds M Q _=>∃(r:Nat) (w:Str) (n:Int),ds=[.ref r]∧Za M r=some [.str w,.str (nt n)]∧0≤n∧n≤9999∧∀M',Kp M M'→Q (.tup [.str w,.int n]) M'
def Sn:DSp:=fun ds M Q _=>∃(r:Nat) (l:Ln),ds=[.ref r]∧Za M r=some (l.ws.map D.str)∧l.wf∧∀M',Kp M M'→Q l.h M'
noncomputable def kn:Tp→Str
 | .cif=>"choice" | .cel=>"else" | .crd=>"round" | .cpt=>"part"
noncomputable def opL(ss:List (Tp×Int)):List D:= .str "form"::ss.map fun x=> .str (kn x.1)
def Cf:DSp:=fun ds M Q _=>∃(l:Ln) (o:Nat) (ss s1:List (Tp×Int)),ds=[l.h,.ref o]∧Za M o=some (opL ss)∧nxt ss l s1∧Q (.bl true) M
section
variable{K:Ad}{Γ:List DSp}{G:List D}
theorem Zp8:Rd K Γ G Y65 Z19 Bw:=by
 rintro ds M Q Z ⟨k,xs,rfl,hl,q⟩
 delta Z19 Bw
 walk_at "ev"
 delta Nn
 walk_at "ev"
 refine⟨Z0 (by decide),?_⟩
 exact⟨by simp,Z0 (by omega),q⟩
theorem Qx(g:Γ[11]?=some Qm):Rd K Γ G Sq W2 Xy:=by
 rintro ds M Q Z ⟨r,w,n,rfl,hr,h0,h9,q⟩
 delta W2 Xy
 walk_at "ev"
 refine Zk hr ?_
 walk_at "ev"
 delta Xg
 walk_at "ev"
 simp only[g]
 refine ix_l (k:=1) hr rfl ⟨n.toNat,rfl,by omega,fun M' k'=>?_⟩
 rw[show((n.toNat:Nat):Int)=n by omega]
 walk_at "ev"
 delta Xc
 walk_at "ev"
 exact ix_l (k:=0) (k'.pL hr) rfl ⟨Z0 (by decide),q _ k'⟩
theorem Cu(e0:G[0]?=some (.gtup [.str "else"]))(e1:G[1]?=some (.gtup [.str "done"])):Rd K Γ G Cf Qo Pp:=by
 rintro ds M Q Z ⟨l,o,ss,s1,rfl,ho,hn,q⟩
 delta Qo Pp
 walk_at "ev"
 simp only[e0]
 refine Ef ?_
 have rest:notE l=true→isDn l=false→tss ⟨K,Γ,G⟩ noX Ys {nx:=fun _ M=>Q .non M,rt:=Q} [some l.h,some (.ref o)] M:=by
  intro h1 h2
  delta Ys
  walk_at "ev"
  simp only[e1]
  refine Ep ?_
  rw[h2]
  delta Ti
  walk_at "ev"
  exact q
 cases l with
 | els=>
  obtain⟨tl,n,rfl,rfl⟩:=hn
  rw[if_pos (show(!notE Ln.els)=true from rfl)]
  have e:opL (tl++[(.cif,n)])=opL tl++[.str "choice"]:=by unfold opL;rw[Am];rfl
  rw[e] at ho
  refine X9 ho (Cq _ _) ?_
  walk_at "ev"
  exact q
 | don=>
  obtain⟨x,rfl⟩:=hn
  rw[if_neg (by decide)]
  delta Ys
  walk_at "ev"
  simp only[e1]
  refine Ep ?_
  rw[show isDn .don=true from rfl]
  walk_at "ev"
  refine Zk ho ?_
  walk_at "ev"
  have:decide (((opL (s1++[x])).length:Int) >1)=true:=decide_eq_true (by unfold opL;rw[Aj,Ac,Ab,Aq];omega)
  first | (rw[this];exact q) | (simp only[this];exact q)
 | _=>exact rest rfl rfl
theorem C8(gl:Γ[20]?=some Y65)(gs:Γ[16]?=some Y51)(gt:Γ[17]?=some Zl0)(gn:Γ[21]?=some Sq):Rd K Γ G Sn Qb Qw:=by
 rintro ds M Q Z ⟨r,l,rfl,hr,hl,q⟩
 have hx:=Ln.wok hl
 delta Qb Qw
 walk_at "ev"
 obtain⟨S,hS⟩:∃S:Z2,S=M++[Cell.lst [.str "end"]]++[Cell.lst [.str "else"]]++[Cell.lst [.str "done"]]:=⟨_,rfl⟩
 have kS:Kp M S:=by rw[hS];exact((Ks.new _ _).app _).app _
 refine⟨Z0 (by decide),Z0 (by decide),Z0 (by decide),Z0 (by decide),Zq4 (Zd (Zd (Zd hr))) (fun x z=>(hx x z).2) (Zd (Zd (Ze _ _ []))) (Zd (Ze _ _ [])) (Ze _ _ []) ?_⟩
 rw[←hS]
 have hr':=kS.pL hr
 have num:∀(w:Str) (n:Int),l.ws=[w,nt n]→l.h= .tup [.str w,.int n]→inD (.str w) [.str "round",.str "part",.str "leave",.str "again"]=true→0≤n∧n≤9999→tss ⟨K,Γ,G⟩ noX Yg {nx:=fun _ M=>Q .non M,rt:=Q} [some (.ref r)] S:=by
  intro w n e1 e2 e3 hn
  rw[e1] at hr'
  delta Yg
  walk_at "ev"
  refine ix_l (k:=0) hr' rfl ⟨Z0 (by decide),rfl,rfl,?_⟩
  rw[e3]
  simp only[gn]
  exact⟨r,w,n,rfl,hr',hn.1,hn.2,fun M' k'=>by rw[←e2];exact q _ (kS.trans k')⟩
 have oth:∀(w:Str) (ws:List Str),l.ws=w::ws→inD (.str w) [.str "round",.str "part",.str "leave",.str "again"]=false→tss ⟨K,Γ,G⟩ noX Yq {nx:=fun _ M=>Q .non M,rt:=Q} [some (.ref r)] S→tss ⟨K,Γ,G⟩ noX Yg {nx:=fun _ M=>Q .non M,rt:=Q} [some (.ref r)] S:=by
  intro w ws e1 e3 h
  rw[e1] at hr'
  delta Yg
  walk_at "ev"
  refine ix_l (k:=0) hr' rfl ⟨Z0 (by decide),rfl,rfl,?_⟩
  rw[e3]
  exact h
 cases l with
 | els=>rw[if_pos (by decide+kernel)];exact ix_l (k:=0) hr' rfl ⟨Z0 (by decide),q _ kS⟩
 | don=>rw[if_pos (by decide+kernel)];exact ix_l (k:=0) hr' rfl ⟨Z0 (by decide),q _ kS⟩
 | fin=>rw[if_pos (by decide+kernel)];exact ix_l (k:=0) hr' rfl ⟨Z0 (by decide),q _ kS⟩
 | rnd n=>rw[if_neg (by simp[Ln.ws])];exact num "round" n rfl rfl (by decide+kernel) hl
 | prt n=>rw[if_neg (by simp[Ln.ws])];exact num "part" n rfl rfl (by decide+kernel) hl
 | lve n=>rw[if_neg (by simp[Ln.ws])];exact num "leave" n rfl rfl (by decide+kernel) hl
 | agn n=>rw[if_neg (by simp[Ln.ws])];exact num "again" n rfl rfl (by decide+kernel) hl
 | cond a s b=>
  obtain⟨h1,h2,h3⟩:=id hl
  rw[if_neg (by simp[Ln.ws])]
  refine oth "if" _ rfl (by decide+kernel) ?_
  delta Yq
  walk_at "ev"
  refine ix_l (k:=0) hr' rfl ?_
  walk_at "ev"
  simp only[gt,gl]
  refine⟨_,hr',S.length,a,b,s,rfl,Ze _ _ [],h1,h3,h2,fun M' k'=>⟨"choice",[a.d,.str s,b.d],rfl,by simp,q _ (kS.trans ((Ks.new S _).trans k'))⟩⟩
 | sum x a s b=>
  obtain⟨h0,h1,h2,h3⟩:=id hl
  rw[if_neg (by simp[Ln.ws])]
  have nk:∀s∈kept,¬x=s:=fun s hs e=>h0.2.2.2 (by rw[e];exact hs)
  refine oth x _ rfl ?_ ?_
  ·cases e:inD (.str x) [.str "round",.str "part",.str "leave",.str "again"] with
   | false=>rfl
   | true=>
    have:=(Ju x ["round","part","leave","again"]).mp e
    simp only[Ag,Dc,or_false] at this
    rcases this with z | z | z | z<;>exact absurd z (nk _ (by decide+kernel))
  delta Yq
  walk_at "ev"
  refine ix_l (k:=0) hr' rfl ?_
  walk_at "ev"
  rw[if_neg (nk "if" (by decide+kernel))]
  delta Tk
  walk_at "ev"
  simp only[gs,gl]
  exact⟨r,x,a,b,s,rfl,hr',h0,h1,h3,h2,fun M' k'=>⟨"sum",[.str x,a.d,.str s,b.d],rfl,by simp,q _ (kS.trans k')⟩⟩
end
structure CG where
 b:Nat
 h:Option Ln
 y:Option (List T)
 t:List T
noncomputable def CG.abs(f:CG):Fr:=⟨f.h,f.y,f.t⟩
noncomputable def isC:Option Ln→Bool
 | some (.cond _ _ _)=>true
 | _=>false
noncomputable def CG.cur(f:CG):Nat:=if f.y.isSome then f.b+1 else f.b
noncomputable def CG.q(f:CG):Nat:=if isC f.h then f.b+2 else f.b+1
noncomputable def CG.qL(f:CG):List D:=if f.y.isSome then [.ref (f.b+1)] else if isC f.h then [.ref f.b,.ref (f.b+1)] else [.ref f.b]
noncomputable def CG.tp(f:CG):D:=match f.h with
 | some (.rnd n)=> .tup [.str "round",.int n,.ref f.b]
 | some (.prt n)=> .tup [.str "part",.int n,.ref f.b]
 | some (.cond a s b)=> .tup [.str "choice",a.d,.str s,b.d,.ref f.b,.ref (f.b+1)]
 | _=> .non
structure CGok(C:Nat→Prop)(M:Z2)(f:CG)(nx:List D):Prop where
 q:Z3 M f.q=some f.qL
 c:∃ds,Z3 M f.cur=some (ds++nx)∧RTs C M f.t ds
 z:isC f.h=true→f.y=none→Z3 M (f.b+1)=some []
 y:∀ys,f.y=some ys→isC f.h=true∧∃ds,Z3 M f.b=some ds∧RTs C M ys ds
def CG.own(f:CG)(x:Nat):Prop:=x=f.b∨(x=f.b+1)∨x=f.q
theorem CGok.keep{C C':Nat→Prop}{M M':Z2}{f:CG}{nx:List D}(h:CGok C M f nx)(hC:∀c,C c→C' c)(k:∀c,C c→M'[c]?=M[c]?)(ko:∀x,f.own x→M'[x]?=M[x]?):CGok C' M' f nx:=by
 obtain⟨ds,h1,h2⟩:=h.c
 have kb:=ko f.b (.inl rfl)
 have kb1:=ko (f.b+1) (.inr (.inl rfl))
 refine⟨?_,⟨ds,?_,h2.keep hC k⟩,fun e1 e2=>?_,fun ys e=>?_⟩
 ·rw[Zh (ko f.q (.inr (.inr rfl)))];exact h.q
 ·rw[Zh (M:=M)]
  ·exact h1
  ·unfold CG.cur;split
   ·exact kb1
   ·exact kb
 ·rw[Zh kb1];exact h.z e1 e2
 ·obtain⟨e0,ds,g1,g2⟩:=h.y ys e
  exact⟨e0,ds,by rw[Zh kb];exact g1,g2.keep hC k⟩
def Ch(C:Nat→Prop)(M:Z2):List D→List CG→Prop
 | _,[]=>True
 | nx,f::r=>CGok C M f nx∧Ch C M [f.tp] r
theorem Ch.keep{C C':Nat→Prop}{M M':Z2}(hC:∀c,C c→C' c)(k:∀c,C c→M'[c]?=M[c]?):∀{fs:List CG} {nx:List D},(∀f∈fs,∀x,f.own x→M'[x]?=M[x]?)→Ch C M nx fs→Ch C' M' nx fs
 | [],nx,ko,h=>trivial
 | f::r,nx,ko,⟨h1,h2⟩=>⟨h1.keep hC k (ko f Ao),Ch.keep hC k (fun g hg=>ko g (Ar _ hg)) h2⟩
structure GI(M0:Z2)(p:Nat)(fs:List CG)(C:Nat→Prop)(M:Z2):Prop where
 k:Kp M0 M
 o:Z3 M p=some (fs.reverse.map fun f=> .ref f.q)
 c:Ch C M [] fs
 d:fs.Pairwise fun f g=>g.b+3≤f.b
 l:∀f∈fs,f.b+3≤M.length∧M0.length≤f.b
 pq:∀f∈fs,p<f.b∨f.h=none∧p=f.b+2
 cl:∀c,C c→M0.length≤c∧c<M.length∧c≠p∧∀f∈fs,c<f.b∨f.b+3≤c
 pl:M0.length≤p
theorem CG.own_lt{f:CG}{x:Nat}(h:f.own x):f.b≤x∧x<f.b+3:=by
 rcases h with h | h | h
 ·omega
 ·omega
 ·unfold CG.q at h;split at h<;>omega
theorem Zn8{f:CG}{p x:Nat}(hp:p<f.b∨f.h=none∧p=f.b+2)(h:f.own x):x≠p:=by
 have:=CG.own_lt h
 rcases hp with hp | ⟨h1,h2⟩
 ·omega
 ·rcases h with h | h | h
  ·omega
  ·omega
  ·unfold CG.q at h;rw[h1] at h;simp[isC] at h;omega
section
variable{M0 M:Z2}{p:Nat}{f g:CG}{r:List CG}{C:Nat→Prop}
theorem GI.top(I:GI M0 p (f::r) C M):CGok C M f []∧(∀g∈r,∀x,g.own x→x<f.b)∧(∀c,C c→∀x,f.own x→c≠x)∧(∀x,f.own x→x≠p∧x<M.length∧M0.length≤x)∧f.cur<M.length:=by
 have hd:=Du.mp I.d
 refine⟨I.c.1,fun g hg x hx=>?_,fun c hc x hx=>?_,fun x hx=>?_,?_⟩
 ·have:=hd.1 g hg
  have:=CG.own_lt hx
  omega
 ·have:=(I.cl c hc).2.2.2 f Ao
  have:=CG.own_lt hx
  omega
 ·have h1:=I.l f Ao
  have h2:=CG.own_lt hx
  exact⟨Zn8 (I.pq f Ao) hx,by omega,by omega⟩
 ·have h1:=I.l f Ao
  unfold CG.cur
  split<;>omega
theorem Xa(f:CG):f.own f.cur:=by unfold CG.own CG.cur;split<;>simp
theorem CG.cur_q(f:CG)(h:f.y.isSome=true→isC f.h=true):f.cur≠f.q:=by
 unfold CG.cur CG.q
 split
 ·rename_i h1;rw[if_pos (h h1)];omega
 ·split<;>omega
theorem GI.put(I:GI M0 p (f::r) C M){N:Z2}{t:T}{d:D}{ds:List D}(e:Z3 M f.cur=some ds)(rt:RTs C M f.t ds)(hd:RT C M t d):
  GI M0 p ({f with t:=f.t++[t]}::r) C ((M++N).set f.cur (.lst (ds++[d]))):=by
 obtain⟨h1,h2,h3,h4,h5⟩:=I.top
 have at':∀x,x≠f.cur→x<M.length→((M++N).set f.cur (.lst (ds++[d])))[x]?=M[x]?:=fun x hx hl=>by rw[Y8 (Bs hx),Wj hl]
 have kC:∀c,C c→((M++N).set f.cur (.lst (ds++[d])))[c]?=M[c]?:=fun c hc=>at' c (h3 c hc _ (Xa f)) (I.cl c hc).2.1
 have hy:f.y.isSome=true→isC f.h=true:=fun z=>by
  cases ey:f.y with
  | none=>rw[ey] at z;cases z
  | some ys=>exact(h1.y ys ey).1
 refine⟨(I.k.app N).set (.inr (h4 _ (Xa f)).2.2),?_,⟨⟨?_,⟨ds++[d],?_,?_⟩,fun e1 e2=>?_,fun ys ey=>?_⟩,?_⟩,?_,fun g hg=>?_,fun g hg=>?_,fun c hc=>?_,I.pl⟩
 ·rw[Zh (at' p (Bs (h4 _ (Xa f)).1) (Z9 (Z1 I.o)))]
  rw[I.o]
  simp[CG.q]
 ·show Z3 _ f.q=some f.qL
  rw[Zh (at' f.q (Bs (f.cur_q hy)) (h4 _ (.inr (.inr rfl))).2.1)]
  exact h1.q
 ·rw[Db]
  exact Z8 (by rw[Ab];omega)
 ·exact(rt.keep (fun _ h=>h) kC).app (.one (hd.keep (fun _ h=>h) kC))
 ·show Z3 _ (f.b+1)=some []
  rw[Zh (at' (f.b+1) (by unfold CG.cur;rw[show f.y=none from e2];simp) (h4 _ (.inr (.inl rfl))).2.1)]
  exact h1.z e1 e2
 ·obtain⟨e0,es,g1,g2⟩:=h1.y ys ey
  refine⟨e0,es,?_,g2.keep (fun _ h=>h) kC⟩
  show Z3 _ f.b=some es
  rw[Zh (at' f.b (by unfold CG.cur;rw[show f.y=some ys from ey];simp) (h4 _ (.inl rfl)).2.1)]
  exact g1
 ·exact Ch.keep (fun _ h=>h) kC (fun g hg x hx=>at' x (by have:=h2 g hg x hx;have:=(CG.own_lt (Xa f)).1;omega) (by have:=h2 g hg x hx;have:=(CG.own_lt (Xa f)).1;omega)) I.c.2
 ·exact Du.mpr ⟨(Du.mp I.d).1,(Du.mp I.d).2⟩
 ·rw[Az,Ab]
  rcases Ag.mp hg with rfl | hg
  ·have:=I.l f Ao;exact⟨by show f.b+3≤_;omega,this.2⟩
  ·have:=I.l g (Ar _ hg);omega
 ·rcases Ag.mp hg with rfl | hg
  ·exact I.pq f Ao
  ·exact I.pq g (Ar _ hg)
 ·obtain⟨c1,c2,c3,c4⟩:=I.cl c hc
  refine⟨c1,by rw[Az,Ab];omega,c3,fun g hg=>?_⟩
  rcases Ag.mp hg with rfl | hg
  ·exact c4 f Ao
  ·exact c4 g (Ar _ hg)
end
section
variable{M0 M:Z2}{p:Nat}{f g:CG}{r:List CG}{C:Nat→Prop}
theorem GI.yC(I:GI M0 p (f::r) C M):f.y.isSome=true→isC f.h=true:=fun z=>by
 cases ey:f.y with
 | none=>rw[ey] at z;cases z
 | some ys=>exact(I.c.1.y ys ey).1
theorem GI.open(I:GI M0 p (f::r) C M){M':Z2}{l:Ln}{ds:List D}(rt:RTs C M f.t ds)(hg:g=⟨M.length,some l,none,[]⟩)(at':∀x,x<M.length→x≠f.cur→x≠p→M'[x]?=M[x]?)
  (e1:Z3 M' f.cur=some (ds++[g.tp])) (e2:Z3 M' p=some ((g::f::r).reverse.map fun f=> .ref f.q)) (e3:Z3 M' g.q=some g.qL) (e4:Z3 M' g.b=some []) (e5:isC g.h=true→Z3 M' (g.b+1)=some []) (hm:M.length+3≤M'.length):GI M0 p (g::f::r) C M':=by
 obtain⟨h1,h2,h3,h4,h5⟩:=I.top
 have kC:∀c,C c→M'[c]?=M[c]?:=fun c hc=>at' c (I.cl c hc).2.1 (h3 c hc _ (Xa f)) (I.cl c hc).2.2.1
 have gb:g.b=M.length:=by rw[hg]
 have gy:g.y=none:=by rw[hg]
 have gt:g.t=[]:=by rw[hg]
 have hp:p<M.length:=Z9 (Z1 I.o)
 refine⟨⟨fun a n la=>?_,Nat.le_trans I.k.len (by omega)⟩,e2,⟨⟨e3,⟨[],?_,?_⟩,fun z _=>e5 z,fun ys ey=>?_⟩,⟨?_,⟨ds,e1,rt.keep (fun _ h=>h) kC⟩,fun z1 z2=>?_,fun ys ey=>?_⟩,?_⟩,?_,fun x hx=>?_,fun x hx=>?_,fun c hc=>?_,I.pl⟩
 ·rw[at' a (Nat.lt_of_lt_of_le la I.k.len) (by have:=(h4 _ (Xa f)).2.2;omega) (by have:=I.pl;omega)]
  exact I.k.at' a n la
 ·unfold CG.cur;rw[gy];exact e4
 ·rw[gt];rfl
 ·rw[gy] at ey;cases ey
 ·rw[Zh (at' f.q (h4 _ (.inr (.inr rfl))).2.1 (Bs (f.cur_q I.yC)) (h4 _ (.inr (.inr rfl))).1)]
  exact h1.q
 ·rw[Zh (at' (f.b+1) (h4 _ (.inr (.inl rfl))).2.1 (by unfold CG.cur;rw[z2];simp) (h4 _ (.inr (.inl rfl))).1)]
  exact h1.z z1 z2
 ·obtain⟨z0,es,g1,g2⟩:=h1.y ys ey
  refine⟨z0,es,?_,g2.keep (fun _ h=>h) kC⟩
  rw[Zh (at' f.b (h4 _ (.inl rfl)).2.1 (by unfold CG.cur;rw[ey];simp) (h4 _ (.inl rfl)).1)]
  exact g1
 ·refine Ch.keep (fun _ h=>h) kC (fun g' hg' x hx=>?_) I.c.2
  have q1:=h2 g' hg' x hx
  have q2:=(CG.own_lt (Xa f)).1
  exact at' x (by omega) (by omega) (Zn8 (I.pq g' (Ar _ hg')) hx)
 ·refine Du.mpr ⟨fun x hx=>?_,I.d⟩
  have:=(I.l x hx).1
  omega
 ·rcases Ag.mp hx with rfl | hx
  ·exact⟨by omega,by rw[gb];exact I.k.len⟩
  ·have:=I.l x hx;omega
 ·rcases Ag.mp hx with rfl | hx
  ·exact .inl (by omega)
  ·exact I.pq x hx
 ·obtain⟨c1,c2,c3,c4⟩:=I.cl c hc
  refine⟨c1,by omega,c3,fun x hx=>?_⟩
  rcases Ag.mp hx with rfl | hx
  ·exact .inl (by omega)
  ·exact c4 x hx
theorem GI.els(I:GI M0 p (f::r) C M)(hc:isC f.h=true)(hy:f.y=none):GI M0 p ({f with y:=some f.t,t:=[]}::r) C (M.set f.q (.lst [.ref (f.b+1)])):=by
 obtain⟨h1,h2,h3,h4,h5⟩:=I.top
 obtain⟨ds,c1,c2⟩:=h1.c
 rw[Db] at c1
 have eq:f.q=f.b+2:=by unfold CG.q;rw[if_pos hc]
 have cur:f.cur=f.b:=by unfold CG.cur;rw[hy];rfl
 have at':∀x,x≠f.q→(M.set f.q (.lst [.ref (f.b+1)]))[x]?=M[x]?:=fun x hx=>Y8 (Bs hx)
 have kC:∀c,C c→(M.set f.q (.lst [.ref (f.b+1)]))[c]?=M[c]?:=fun c hc=>at' c (h3 c hc _ (.inr (.inr rfl)))
 have oq:=h4 f.q (.inr (.inr rfl))
 refine⟨I.k.set (.inr oq.2.2),?_,⟨⟨?_,⟨[],?_,rfl⟩,(fun _ z=>by cases z),fun ys ey=>?_⟩,?_⟩,?_,fun x hx=>?_,fun x hx=>?_,fun c hc'=>?_,I.pl⟩
 ·rw[Zh (at' p (Bs oq.1)),I.o]
  simp[CG.q]
 ·show Z3 _ f.q=some _
  rw[Z8 oq.2.1]
  simp[CG.qL]
 ·show Z3 _ (f.b+1)=_
  rw[Zh (at' _ (by omega))]
  exact h1.z hc hy
 ·cases ey
  refine⟨hc,ds,?_,c2.keep (fun _ h=>h) kC⟩
  show Z3 _ f.b=_
  rw[Zh (at' _ (by omega)),←cur]
  exact c1
 ·refine Ch.keep (fun _ h=>h) kC (fun g' hg' x hx=>at' x ?_) I.c.2
  have q1:=h2 g' hg' x hx
  omega
 ·exact Du.mpr ⟨(Du.mp I.d).1,(Du.mp I.d).2⟩
 ·rw[Az]
  rcases Ag.mp hx with rfl | hx
  ·exact I.l f Ao
  ·exact I.l x (Ar _ hx)
 ·rcases Ag.mp hx with rfl | hx
  ·exact I.pq f Ao
  ·exact I.pq x (Ar _ hx)
 ·obtain⟨z1,z2,z3,z4⟩:=I.cl c hc'
  refine⟨z1,by rw[Az];exact z2,z3,fun x hx=>?_⟩
  rcases Ag.mp hx with rfl | hx
  ·exact z4 f Ao
  ·exact z4 x (Ar _ hx)
theorem GI.done(I:GI M0 p (f::g::r) C M){t:Tp}(ht:f.abs.is t):GI M0 p ({g with t:=g.t++[f.abs.mk']}::r) (fun c=>C c∨c=f.b∨c=f.b+1) (M.set p (.lst ((g::r).reverse.map fun f=> .ref f.q))):=by
 obtain⟨h1,h2,h3,h4,h5⟩:=I.top
 obtain⟨ds,c1,c2⟩:=h1.c
 rw[Db] at c1
 obtain⟨gs,g1,g2⟩:=I.c.2.1.c
 have hpl:p<M.length:=Z9 (Z1 I.o)
 have at':∀x,x≠p→(M.set p (.lst ((g::r).reverse.map fun f=> .ref f.q)))[x]?=M[x]?:=fun x hx=>Y8 (Bs hx)
 have kC:∀c,C c→(M.set p (.lst ((g::r).reverse.map fun f=> .ref f.q)))[c]?=M[c]?:=fun c hc=>at' c (I.cl c hc).2.2.1
 have hC:∀c,C c→C c∨c=f.b∨c=f.b+1:=fun c h=> .inl h
 have rf:∀{ts:List T} {es:List D},RTs C M ts es→RTs (fun c=>C c∨c=f.b∨c=f.b+1) (M.set p (.lst ((g::r).reverse.map fun f=> .ref f.q))) ts es:=fun h=>h.keep hC kC
 have rb:∀{x:Nat} {es:List D},f.own x→Z3 M x=some es→Z3 (M.set p (.lst ((g::r).reverse.map fun f=> .ref f.q))) x=some es:=fun hx h=>by rw[Zh (at' _ (h4 _ hx).1)];exact h
 have RTf:RT (fun c=>C c∨c=f.b∨c=f.b+1) (M.set p (.lst ((g::r).reverse.map fun f=> .ref f.q))) f.abs.mk' f.tp:=by
  obtain⟨b,h,y,ts⟩:=f
  cases t with
  | cif=>
   obtain⟨e1,a,s,b',e2⟩:=ht
   cases (show y=none from e1)
   cases (show h=_ from e2)
   exact⟨_,_,ds,[],rfl,.inr (.inl rfl),.inr (.inr rfl),rb (.inl rfl) c1,rf c2,rb (.inr (.inl rfl)) (h1.z rfl rfl),rfl⟩
  | cel=>
   obtain⟨e1,a,s,b',e2⟩:=ht
   cases (show h=_ from e2)
   cases y with
   | none=>cases e1
   | some ys=>
    obtain⟨_,es,y1,y2⟩:=h1.y ys rfl
    exact⟨_,_,es,ds,rfl,.inr (.inl rfl),.inr (.inr rfl),rb (.inl rfl) y1,rf y2,rb (.inr (.inl rfl)) c1,rf c2⟩
  | crd=>
   obtain⟨e1,n,e2⟩:=ht
   cases (show y=none from e1)
   cases (show h=_ from e2)
   exact⟨_,ds,rfl,.inr (.inl rfl),rb (.inl rfl) c1,rf c2⟩
  | cpt=>
   obtain⟨e1,n,e2⟩:=ht
   cases (show y=none from e1)
   cases (show h=_ from e2)
   exact⟨_,ds,rfl,.inr (.inl rfl),rb (.inl rfl) c1,rf c2⟩
 have og:∀x,g.own x→x≠p:=fun x hx=>Zn8 (I.pq g (by simp)) hx
 have gk:=I.c.2.1
 refine⟨I.k.set (.inr I.pl),?_,⟨⟨?_,⟨gs++[f.tp],?_,(rf g2).app (.one RTf)⟩,fun z1 z2=>?_,fun ys ey=>?_⟩,?_⟩,?_,fun x hx=>?_,fun x hx=>?_,fun c hc'=>?_,I.pl⟩
 ·rw[Z8 hpl]
  simp[CG.q]
 ·show Z3 _ g.q=some g.qL
  rw[Zh (at' _ (og _ (.inr (.inr rfl))))]
  exact gk.q
 ·rw[Db]
  show Z3 _ g.cur=_
  rw[Zh (at' _ (og _ (Xa g)))]
  exact g1
 ·show Z3 _ (g.b+1)=_
  rw[Zh (at' _ (og _ (.inr (.inl rfl))))]
  exact gk.z z1 z2
 ·obtain⟨e0,es,y1,y2⟩:=gk.y ys ey
  refine⟨e0,es,?_,rf y2⟩
  show Z3 _ g.b=_
  rw[Zh (at' _ (og _ (.inl rfl)))]
  exact y1
 ·exact Ch.keep hC kC (fun g' hg' x hx=>at' x (Zn8 (I.pq g' (by simp[hg'])) hx)) I.c.2.2
 ·have:=(Du.mp I.d).2
  exact Du.mpr ⟨(Du.mp this).1,(Du.mp this).2⟩
 ·rw[Az]
  rcases Ag.mp hx with rfl | hx
  ·exact I.l g (by simp)
  ·exact I.l x (by simp[hx])
 ·rcases Ag.mp hx with rfl | hx
  ·exact I.pq g (by simp)
  ·exact I.pq x (by simp[hx])
 ·rw[Az]
  have fl:=I.l f Ao
  have fd:=(Du.mp I.d).1
  have fp:p≠f.b∧p≠f.b+1:=⟨Bs (h4 _ (.inl rfl)).1,Bs (h4 _ (.inr (.inl rfl))).1⟩
  have new:∀c,c=f.b∨c=f.b+1→M0.length≤c∧c<M.length∧c≠p∧∀x∈({g with t:=g.t++[f.abs.mk']}::r),c<x.b∨x.b+3≤c:=by
   intro c hc
   refine⟨by omega,by omega,by omega,fun x hx=> .inr ?_⟩
   rcases Ag.mp hx with rfl | hx
   ·have:g.b+3≤f.b:=fd g (by simp)
    show g.b+3≤c
    omega
   ·have:=fd x (by simp[hx])
    omega
  rcases hc' with hc' | hc'
  ·obtain⟨z1,z2,z3,z4⟩:=I.cl c hc'
   refine⟨z1,z2,z3,fun x hx=>?_⟩
   rcases Ag.mp hx with rfl | hx
   ·exact z4 g (by simp)
   ·exact z4 x (by simp[hx])
  ·exact new c hc'
end
noncomputable def lsD:Ln→Nat→D×Z2
 | .cond _ _ _,n=>(.ref (n+2),[.lst [],.lst [],.lst [.ref n,.ref (n+1)]])
 | .rnd _,n=>(.ref (n+1),[.lst [],.lst [.ref n]])
 | .prt _,n=>(.ref (n+1),[.lst [],.lst [.ref n]])
 | _,n=>(.ref n,[.lst []])
def E5:DSp:=fun ds M Q _=>∃l:Ln,ds=[l.h]∧Q (lsD l M.length).1 (M++(lsD l M.length).2)
def Ji:DSp:=fun ds M Q _=>∃(a:Nat) (ls:List Ln),ds=[.ref a]∧Za M a=some (ls.map Ln.h)∧ls.length≤400∧run [] ls=some []∧∀C M' r,Kp M M'→Fm C M' M.length (nest ls) r→Q (.ref r) M'
structure NG(M:Z2)(ls:List Ln)(i:Nat)(fs:List CG)(C:Nat→Prop)(M':Z2):Prop where
 I:GI M (M.length+2) fs C M'
 A:fs.map CG.abs=(ls.take i).foldl nst [fr0]
 t:∀f∈fs,f.t.length≤i
 l:fs.length≤i+1
 z:(fs.getLast?).map CG.b=some M.length
theorem Yl1{ls:List Ln}{i:Nat}{d:D}(hd:(ls.map Ln.h)[i]?=some d):∃l,ls[i]?=some l∧d=l.h:=by
 rw[As] at hd
 cases e:ls[i]? with
 | none=>rw[e] at hd;cases hd
 | some l=>rw[e] at hd;cases hd;exact⟨l,rfl,rfl⟩
theorem Yo9(f:CG):∃t,f.qL= .ref f.cur::t:=by
 unfold CG.qL CG.cur
 split
 ·exact⟨_,rfl⟩
 ·split<;>exact⟨_,rfl⟩
theorem GI.app{M0 M:Z2}{p:Nat}{fs:List CG}{C:Nat→Prop}(I:GI M0 p fs C M)(N:Z2):GI M0 p fs C (M++N):=by
 refine⟨I.k.app N,Z7 I.o,Ch.keep (fun _ h=>h) (fun c hc=>Wj (I.cl c hc).2.1) (fun f hf x hx=>Wj ?_) I.c,I.d,fun f hf=>?_,I.pq,fun c hc=>?_,I.pl⟩
 ·have:=I.l f hf
  have:=CG.own_lt hx
  omega
 ·have:=I.l f hf
  rw[Ab]
  omega
 ·obtain⟨c1,c2,c3⟩:=I.cl c hc
  exact⟨c1,by rw[Ab];omega,c3⟩
structure Mk(l:Ln)(n lr:Nat)(N1:Z2)(xs ys:List D):Prop where
 e:lsD l n=(.ref lr,N1)
 h:l.h= .tup ys
 y:ys≠[]∧ys.length≤10
 x:xs.length≤2∧xs.isEmpty=false
 t:D.tup (ys++xs)=(CG.mk n (some l) none []).tp
 q:(CG.mk n (some l) none []).q=lr∧(CG.mk n (some l) none []).qL=xs
 ml:n<lr∧2≤N1.length
 r:∀M:Z2,M.length=n→Z3 (M++N1) lr=some xs∧Z3 (M++N1) n=some []∧(isC (some l)=true→Z3 (M++N1) (n+1)=some []∧n+1<lr)
theorem Yl7{l:Ln}(hb:l.beg=true)(n:Nat):∃lr N1 xs ys,Mk l n lr N1 xs ys:=by
 cases l with
 | cond a s b=>exact⟨_,_,[.ref n,.ref (n+1)],_,rfl,rfl,by simp,by simp,rfl,⟨rfl,rfl⟩,by simp,fun M e=>by subst e;exact⟨by rw[Zp];rfl,by rw[Z5],fun _=>⟨by rw[Zp];rfl,by omega⟩⟩⟩
 | rnd k=>exact⟨_,_,[.ref n],_,rfl,rfl,by simp,by simp,rfl,⟨rfl,rfl⟩,by simp,fun M e=>by subst e;exact⟨by rw[Zp];rfl,by rw[Z5],fun z=>by cases z⟩⟩
 | prt k=>exact⟨_,_,[.ref n],_,rfl,rfl,by simp,by simp,rfl,⟨rfl,rfl⟩,by simp,fun M e=>by subst e;exact⟨by rw[Zp];rfl,by rw[Z5],fun z=>by cases z⟩⟩
 | _=>cases hb
theorem Y47{l:Ln}(hb:l.beg=false)(n:Nat):lsD l n=(.ref n,[.lst []])∧l.h=l.d:=by cases l<;>first | exact⟨rfl,rfl⟩ | cases hb
theorem Zg4{f f':CG}{r:List CG}(h:f'.b=f.b):((f'::r).getLast?).map CG.b=((f::r).getLast?).map CG.b:=by
 cases r with
 | nil=>simp[h]
 | cons x r=>rw[Lh,Lh]
section
variable{K:Ad}{Γ:List DSp}{G:List D}
theorem Z48:Rd K Γ G E5 Nq Oq:=by
 rintro ds M Q Z ⟨l,rfl,q⟩
 delta Nq Oq
 cases l<;>simp only[Ln.h,Ln.d,lsD] at q ⊢ <;>walk_at "ev"
 all_goals try delta R0
 all_goals try walk_at "ev"
 case cond=>
  simp only[Ay,Dp,Dv,Ab,Aj,Ig]
  exact⟨Nat.zero_le _,Nat.zero_le _,Z0 (by decide),q⟩
 case rnd=>
  refine⟨Z0 (by decide),rfl,rfl,?_⟩
  dsimp only
  rw[if_pos (by decide+kernel)]
  simp only[Ay,Dp,Dv,Ab,Aj,Ig]
  exact⟨Nat.zero_le _,Z0 (by decide),q⟩
 case prt=>
  refine⟨Z0 (by decide),rfl,rfl,?_⟩
  dsimp only
  rw[if_pos (by decide+kernel)]
  simp only[Ay,Dp,Dv,Ab,Aj,Ig]
  exact⟨Nat.zero_le _,Z0 (by decide),q⟩
 all_goals
  refine⟨Z0 (by decide),rfl,rfl,?_⟩
  dsimp only
  rw[if_neg (by decide+kernel)]
  delta Rm
  walk_at "ev"
  exact⟨Nat.zero_le _,q⟩
theorem Za9(e0:G[0]?=some (.gtup [.str "else"]))(e1:G[1]?=some (.gtup [.str "done"]))(g:Γ[6]?=some E5):Rd K Γ G Ji Fv G2:=by
 rintro ds M Q Z ⟨a,ls,rfl,hr,hl,hrun,q⟩
 delta Fv G2
 walk_at "ev"
 simp only[Ay,Dp,Dv,Ab,Aj,Ig]
 refine⟨Z0 (by decide),Z0 (by decide),Z0 (by decide),_,Zd hr,?_⟩
 refine Wb (fun i σ M'=>∃fs C d3 d4,σ=[some (.ref a),some (.ref M.length),some (.ref (M.length+2)),d3,d4]∧NG M ls i fs C M') ⟨[⟨M.length,none,none,[]⟩],fun _=>False,none,none,rfl,?_⟩ ?_ ?_ ?_
 ·refine⟨⟨Ks.new _ _,?_,⟨⟨?_,⟨[],?_,rfl⟩,(fun z _=>by cases z),(fun ys e=>by cases e)⟩,trivial⟩,Kd _ _,fun f hf=>?_,fun f hf=>?_,fun c h=>h.elim,by omega⟩,rfl,fun f hf=>?_,Nat.le_refl _,rfl⟩
  ·rw[Zp];rfl
  ·show Z3 _ (M.length+1)=_
   rw[Zp];rfl
  ·exact Z5 _ _ _
  ·cases An.mp hf
   exact⟨by simp,Nat.le_refl _⟩
  ·cases An.mp hf
   exact .inr ⟨rfl,rfl⟩
  ·cases An.mp hf
   exact Nat.le_refl _
 ·rintro i σ M' _ ⟨fs,C,d3,d4,rfl,N⟩
  exact N.I.k.pL hr
 ·rintro i d σ M' P hd ⟨fs,C,d3,d4,rfl,N⟩ hP
  obtain⟨l,hl1,rfl⟩:=Yl1 hd
  have hi:i<400:=by have:=(Af.mp hl1).1;omega
  obtain⟨us,e1'⟩:=Je hrun i
  obtain⟨us',e2⟩:=Je hrun (i+1)
  rw[Zq hl1,Eu,e1'] at e2
  replace e2:stp us l=some us':=by
   have:(stp us l).bind (fun t=>run t [])=some us':=e2
   cases h:stp us l with
   | none=>rw[h] at this;cases this
   | some t=>rw[h] at this;exact this
  have F:=Fss.run (fs:=[fr0]) (ts:=[]) ⟨[],rfl⟩ e1'
  rw[←N.A] at F
  have A':∀{fs':List CG},fs'.map CG.abs=nst (fs.map CG.abs) l→fs'.map CG.abs=(ls.take (i+1)).foldl nst [fr0]:=by
   intro fs' h
   rw[h,N.A,Zq hl1,List.foldl_append]
   rfl
  obtain⟨f0,fr,eA,_⟩:=F.top
  cases fs with
  | nil=>cases eA
  | cons f r=>
  have hf:=N.I.c.1
  obtain⟨ds,hc,rt⟩:=hf.c
  rw[Db] at hc
  have ft:=N.t f Ao
  have dl:=rt.len
  have hlr:r.length≤i:=by have:=N.l;rw[Aj] at this;omega
  have zz:=N.z
  rw[tg_one]
  delta Qv
  generalize hB:(Ss.cons (S.ite (E.cmp Cm.eq (E.var 3) (E.glb 0)) _ _) Ss.nil)=B
  walk_at "ev"
  simp only[e1]
  refine Ep ?_
  have rv:(f::r).reverse.map (fun f=>D.ref f.q)=r.reverse.map (fun f=>D.ref f.q)++[.ref f.q]:=by rw[Lp,Am];rfl
  have oI:=N.I.o
  rw[rv] at oI
  cases hdn:isDn l with
  | true=>
   cases l<;>cases hdn
   obtain⟨t,rfl⟩:=Ql e2
   obtain⟨f',r',ef,his,hF⟩:=F
   obtain⟨rfl,rfl⟩:=Mg.inj ef
   obtain⟨g',r'',eg,_⟩:=hF.top
   cases r with
   | nil=>cases eg
   | cons g0 r=>
   walk_at "ev"
   refine⟨Zb (Z1 oI),_,.ref f.q,oI,by simp,?_⟩
   rw[List.dropLast_concat]
   refine hP _ _ ⟨_,_,_,_,rfl,N.I.done his,A' rfl,fun x hx=>?_,?_,?_⟩
   ·rcases Ag.mp hx with rfl | hx
    ·have:=N.t g0 (by simp);rw[show({g0 with t:=g0.t++[f.abs.mk']}:CG).t=g0.t++[f.abs.mk'] from rfl,Ab,Aq];omega
    ·have:=N.t x (by simp[hx]);omega
   ·simp only[Aj] at hlr ⊢
    omega
   ·rw[Lh] at zz
    refine Eq.trans (Zg4 (f:=g0) ?_) zz;rfl
  | false=>
   walk_at "ev"
   subst hB
   generalize hB:(Ss.cons (S.set [4] _) _)=B
   walk_at "ev"
   simp only[e0]
   refine Ef ?_
   cases hel:notE l with
   | false=>
    cases l<;>cases hel
    obtain⟨rr,rfl,rfl⟩:=Pd e2
    obtain⟨f',r',ef,⟨his1,a',s',b',his2⟩,hF⟩:=F
    obtain⟨rfl,rfl⟩:=Mg.inj ef
    walk_at "ev"
    have hh:isC f.h=true:=by rw[show f.h=_ from his2];rfl
    have hy:f.y=none:=his1
    have fq:=hf.q
    have qe:f.qL=[.ref f.b,.ref (f.b+1)]:=by unfold CG.qL;rw[hy,hh];rfl
    rw[qe] at fq
    refine X9 (Z1 oI) (Cq _ _) ?_
    walk_at "ev"
    refine⟨Zb (Z1 fq),_,_,0,rfl,fq,rfl,?_⟩
    refine hP _ _ ⟨_,_,_,_,rfl,N.I.els hh hy,A' rfl,fun x hx=>?_,?_,?_⟩
    ·rcases Ag.mp hx with rfl | hx
     ·exact Nat.zero_le _
     ·have:=N.t x (by simp[hx]);omega
    ·simp only[Aj] at hlr ⊢
     omega
    ·refine Eq.trans (Zg4 (f:=f) ?_) zz;rfl
   | true=>
    walk_at "ev"
    subst hB
    walk_at "ev"
    simp only[g]
    refine⟨l,rfl,?_⟩
    walk_at "ev"
    obtain⟨qt,qe⟩:=Yo9 f
    have fq:=hf.q
    rw[qe] at fq
    obtain⟨h1,h2,h3,h4,h5⟩:=N.I.top
    have pM:=Z9 (Z1 oI)
    have cp:f.cur≠M.length+2:=(h4 _ (Xa f)).1
    cases hb:l.beg with
    | false=>
     obtain⟨el,eh⟩:=Y47 hb M'.length
     have hpl:l.pl=true:=by cases l<;>first | rfl | (cases hdn;done) | (cases hel;done)
     rw[el]
     refine X9 (Zd (Z1 oI)) (Cq _ _) (ix_l (k:=0) (Zd (Z1 fq)) rfl ?_)
     walk_at "ev"
     refine⟨Zb (Zd (Z1 hc)),[],Ze _ _ [],?_⟩
     rw[l.h_eq]
     walk_at "ev"
     refine⟨by simp,Z0 (by have:(tlD l).length≤4:=(by cases l<;>simp[tlD]);simp;omega),_,Z7 hc,Z6 (by omega),Nat.zero_le _,?_⟩
     rw[←l.h_eq,eh]
     have hn:Za ((M'++[Cell.lst []]).set f.cur (.lst (ds++[l.d]))) M'.length=some []:=Z1 (by rw[Zf (by omega)];exact Z5 _ _ [])
     refine S0 (Zd hn) (Ze _ _ []) ?_
     refine hP _ _ ⟨_,_,_,_,rfl,(N.I.put (N:=[.lst []]) hc rt (show RT C M' (.leaf l) l.d from⟨rfl,hpl,hb⟩)).app _,A' ?_,fun x hx=>?_,?_,?_⟩
     ·cases l<;>first | rfl | (cases hb;done) | (cases hdn;done) | (cases hel;done)
     ·rcases Ag.mp hx with rfl | hx
      ·rw[show({f with t:=f.t++[T.leaf l]}:CG).t=f.t++[T.leaf l] from rfl,Ab,Aq];omega
      ·have:=N.t x (by simp[hx]);omega
     ·simp only[Aj] at hlr ⊢
      omega
     ·refine Eq.trans (Zg4 (f:=f) ?_) zz;rfl
    | true=>
     obtain⟨lr,N1,xs,ys,mk⟩:=Yl7 hb M'.length
     obtain⟨r1,r2,r3⟩:=mk.r M' rfl
     have ml:=mk.ml
     rw[mk.e]
     refine X9 (Zd (Z1 oI)) (Cq _ _) (ix_l (k:=0) (Zd (Z1 fq)) rfl ?_)
     walk_at "ev"
     refine⟨Zb (Zd (Z1 hc)),xs,Z1 r1,?_⟩
     rw[mk.h]
     walk_at "ev"
     refine⟨mk.y.1,Z0 (by have:=mk.y.2;have:=mk.x.1;omega),_,Z7 hc,Z6 (by omega),Nat.zero_le _,?_⟩
     rw[mk.t,←mk.h]
     obtain⟨gf,hgf⟩:∃gf:CG,gf=⟨M'.length,some l,none,[]⟩:=⟨_,rfl⟩
     rw[←hgf]
     have gq:gf.q=lr∧gf.qL=xs:=by rw[hgf];exact mk.q
     have gb:gf.b=M'.length:=by rw[hgf]
     obtain⟨S2,hS2⟩:∃S2:Z2,S2=(M'++N1).set f.cur (.lst (ds++[gf.tp])):=⟨_,rfl⟩
     rw[←hS2]
     have l2:S2.length=M'.length+N1.length:=by rw[hS2,Az,Ab]
     have at2:∀x es,x≠f.cur→Z3 (M'++N1) x=some es→Z3 S2 x=some es:=fun x es hx e=>by rw[hS2,Zf (Bs hx)];exact e
     have q2:=at2 lr xs (by omega) r1
     have o2:=at2 _ _ (Bs cp) (Z7 oI)
     refine S0 (Zd (Z1 q2)) (Ze _ _ []) ?_
     rw[mk.x.2,if_pos rfl]
     refine⟨Zb (Z1 (Z7 o2)),_,Z7 o2,Z6 (by rw[Ab,Ac,List.length_reverse,Aq];omega),?_⟩
     have lt3:M.length+2< (S2++[Cell.lst []]).length:=by rw[Ab];omega
     have at4:∀x es,x≠M.length+2→Z3 S2 x=some es→Z3 ((S2++[Cell.lst []]).set (M.length+2) (.lst (r.reverse.map (fun f=>D.ref f.q)++[.ref f.q]++[.ref lr]))) x=some es:=fun x es hx e=>by rw[Zf (Bs hx)];exact Z7 e
     refine hP _ _ ⟨gf::f::r,C,_,_,rfl,N.I.open (l:=l) rt hgf (fun x hx x1 x2=>?_) ?_ ?_ ?_ ?_ ?_ ?_,A' ?_,fun x hx=>?_,?_,?_⟩
     ·rw[Y8 (Bs x2),Wj (by omega),hS2,Y8 (Bs x1),Wj hx]
     ·refine at4 _ _ cp ?_
      rw[hS2]
      exact Z8 (by rw[Ab];omega)
     ·rw[Z8 lt3,Lp,Am,rv,←gq.1]
      rfl
     ·rw[gq.1,gq.2]
      exact at4 _ _ (by omega) q2
     ·rw[gb]
      exact at4 _ _ (by omega) (at2 _ _ (by omega) r2)
     ·intro z
      rw[gb]
      obtain⟨r4,r5⟩:=r3 (by rw[hgf] at z;exact z)
      exact at4 _ _ (by omega) (at2 _ _ (by omega) r4)
     ·rw[Az,Ab,l2,Aq]
      omega
     ·rw[hgf,Ln.nst_beg hb]
      rfl
     ·rcases Ag.mp hx with rfl | hx
      ·rw[hgf];exact Nat.zero_le _
      ·have:=N.t x hx;omega
     ·simp only[Aj] at hlr ⊢
      omega
     ·rw[Lh]
      exact zz
 ·rintro σ M' ⟨fs,C,d3,d4,rfl,N⟩
  have A:=N.A
  rw[Ac,Ds (Nat.le_refl _),S8 hrun] at A
  delta Q5
  walk_at "ev"
  obtain⟨f,rfl⟩:∃f,fs=[f]:=List.length_eq_one_iff.mp (by have:=congrArg List.length A;simpa using this)
  ·have ea:f.abs=⟨none,none,nest ls⟩:=(Mg.inj A).1
   obtain⟨b,h,y,t⟩:=f
   have e1:h=none:=congrArg Fr.h ea
   have e2:y=none:=congrArg Fr.y ea
   have e3:t=nest ls:=congrArg Fr.n ea
   subst e1 e2 e3
   have zb:b=M.length:=Dd N.z
   subst zb
   obtain⟨ds,hc,rt⟩:=N.I.c.1.c
   rw[Db] at hc
   refine q C M' _ N.I.k ⟨⟨ds,hc,rt⟩,fun c h=>⟨(N.I.cl c h).1,(N.I.cl c h).2.1⟩,fun h=>?_,Nat.le_refl _⟩
   have:=(N.I.cl _ h).2.2.2 _ Ao
   simp at this
   omega
end
noncomputable def Opd.p:Opd→PyData
 | .nm x=> .str x
 | .no i=> .int i
noncomputable def Ln.p:Ln→List PyData
 | .cond a s b=>[a.p,.str s,b.p]
 | .sum x a s b=>[.str x,a.p,.str s,b.p]
 | .rnd n=>[.int n]
 | .prt n=>[.int n]
 | .lve n=>[.int n]
 | .agn n=>[.int n]
 | _=>[]
theorem Opd.pd(M:Z2)(o:Opd):PD M o.p o.d:=by cases o<;>rfl
theorem Ln.pd(M:Z2)(l:Ln):PDs M l.p (tlD l):=by
 cases l<;>first | rfl | exact⟨_,_,rfl,rfl,rfl⟩ | exact⟨_,_,rfl,Opd.pd M _,_,_,rfl,rfl,_,_,rfl,Opd.pd M _,rfl⟩ | exact⟨_,_,rfl,rfl,_,_,rfl,Opd.pd M _,_,_,rfl,rfl,_,_,rfl,Opd.pd M _,rfl⟩
theorem Z61{x:Str}(h:free x):Kg (.str x)=true:=by
 have:=Rv (xs:=[x]) fun y hy=>by rw[An.mp hy];exact h
 change (Kg (.str x)&&true)=true at this
 rwa[Bool.and_true] at this
theorem Opd.lay{o:Opd}(h:o.ok):o.p.canLay0=true:=by
 cases o with
 | nm x=>exact Z61 (Nam.free h)
 | no i=>rfl
theorem Z26{s:Str}(h:s∈six++two):free s:=(Zb1 s h).2
theorem Ln.lay{l:Ln}(h:l.wf):Kb l.p=true:=by
 cases l with
 | cond a s b=>
  show(_&&(_&&(_&&true)))=true
  rw[Opd.lay h.1,Z61 (Z26 (Ax _ h.2.1)),Opd.lay h.2.2]
  rfl
 | sum x a s b=>
  show(_&&(_&&(_&&(_&&true))))=true
  rw[Z61 (Nam.free h.1),Opd.lay h.2.1,Z61 (Z26 (Hw _ h.2.2.1)),Opd.lay h.2.2.2]
  rfl
 | _=>rfl
theorem Zc5(l:Ln):free (hw l):=by
 have:∀s∈(["choice","sum","round","part","leave","again","else","done","end"]:List Str),free s:=by unfold free;decide+kernel
 cases l<;>exact this _ (by simp[hw])
theorem Zf3(h k:Str)(xs:List PyData):Hq [.str k] (.str h::xs)=(decide (k=h)&&xs.isEmpty):=by
 show((k==h)&&Hq [] xs)=_
 cases xs with
 | nil=>rw[Bool.eq_iff_iff];simp[Hq]
 | cons x xs=>rw[Bool.eq_iff_iff];simp[Hq]
theorem Ya1(l:Ln):([PyData.tuple [.str "else"],.tuple [.str "done"]].any fun e=>PyData.eqv e (.tuple (.str (hw l)::l.p)))=(!notE l || isDn l):=by
 show(Hq [.str "else"] (.str (hw l)::l.p) || (Hq [.str "done"] (.str (hw l)::l.p) || false))=_
 rw[Zf3,Zf3,Bool.or_false]
 have e1:(decide (("else":Str)=hw l)&&l.p.isEmpty)= !notE l:=by cases l<;>first | rfl | (rw[decide_eq_false (by simp only[hw];decide+kernel)];rfl)
 have e2:(decide (("done":Str)=hw l)&&l.p.isEmpty)=isDn l:=by cases l<;>first | rfl | (rw[decide_eq_false (by simp only[hw];decide+kernel)];rfl)
 rw[e1,e2]
theorem Yo8{M:Z2}{l:Ln}{F:Bool→Prop}(h:l.wf)(q:F (!notE l || isDn l)):inTD M l.h (.tup [.gtup [.str "else"],.gtup [.str "done"]]) F:=by
 refine⟨.tuple (.str (hw l)::l.p),[.tuple [.str "else"],.tuple [.str "done"]],?_,⟨_,.inl rfl,_,_,rfl,⟨_,.inr rfl,_,_,rfl,rfl,rfl⟩,_,_,rfl,⟨_,.inr rfl,_,_,rfl,rfl,rfl⟩,rfl⟩,?_,by decide+kernel,?_,?_⟩
 ·rw[l.h_eq]
  exact⟨_,.inl rfl,_,_,rfl,rfl,l.pd M⟩
 ·show(Kg (.str (hw l))&&Kb l.p)=true
  rw[Z61 (Zc5 l),Ln.lay h]
  rfl
 ·exact Nat.le_trans (Nat.min_le_left _ _) (by decide)
 ·rw[Ya1];exact q
theorem Y29(l:Ln):inD (.str (hw l)) [.str "choice",.str "round",.str "part"]=l.beg:=by
 cases l<;>simp only[hw,Ln.beg]<;>decide+kernel
theorem Yo7{M:Z2}{l:Ln}{F:Bool→Prop}(h:F false):cmD M .is l.h .non F:=by rw[l.h_eq];exact h
theorem ix_h{M:Z2}{l:Ln}{F:D→Prop}(q:F (.str (hw l))):ixD M l.h (.int 0) F:=by rw[l.h_eq];exact⟨_,ati0,q⟩
def Vi:DSp:=fun ds M Q _=>∃(r:Nat) (ls:List Ln),ds=[.ref r]∧Za M r=some ((ls.map Ln.line).map D.str)∧Wk 89 [] ls []∧ls.length≤400∧∀M' r',Kp M M'→M.length≤r'→Z3 M' r'=some (ls.map Ln.h)→Q (.ref r') M'
section
variable{K:Ad}{Γ:List DSp}{G:List D}
theorem Fo(e0:G[0]?=some (.gtup [.str "else"]))(e1:G[1]?=some (.gtup [.str "done"]))(eo:G[2]?=some (.gtup [.str "choice",.str "round",.str "part"]))(em:G[13]?=some (.int 90))(gl:Γ[22]?=some Sn)(gp:Γ[23]?=some Cf):Rd K Γ G Vi Ra Rb:=by
 rintro ds M Q Z ⟨r,ls,rfl,hr,hwk,hl,q⟩
 delta Ra Rb
 walk_at "ev"
 simp only[Ay,Dp,Dv,Ab,Aj,Ig]
 refine⟨Z0 (by decide),Z0 (by decide),_,Zd hr,?_⟩
 refine Wb (fun i σ M'=>∃(d3 d4:Option D) (ss:List (Tp×Int)),σ=[some (.ref r),some (.ref M.length),some (.ref (M.length+1)),d3,d4]∧Kp M M'∧Z3 M' M.length=some ((ls.take i).map Ln.h)∧Z3 M' (M.length+1)=some (opL ss)∧Wk 89 ss (ls.drop i) []∧ss.length≤89) ⟨none,none,[],rfl,Ks.new _ _,Z5 _ _ _,Zp _ _ 1,hwk,Nat.zero_le _⟩ ?_ ?_ ?_
 ·rintro i σ M' _ ⟨d3,d4,ss,rfl,k,_⟩
  exact k.pL hr
 ·rintro i d σ M' C hd ⟨d3,d4,ss,rfl,k,eL,eO,w2,hss⟩ hC
  obtain⟨l,hl1,rfl⟩:∃l,ls[i]?=some l∧d= .str l.line:=by
   rw[As,As] at hd
   cases e:ls[i]? with
   | none=>rw[e] at hd;cases hd
   | some l=>rw[e] at hd;cases hd;exact⟨l,rfl,rfl⟩
  have hi:=(Af.mp hl1).1
  have e3:ls.drop i=l::ls.drop (i+1):=by rw[Dl hi];congr 1;rw[Ae hi] at hl1;exact Dd hl1
  rw[e3] at w2
  obtain⟨wf,inn,s1,nx,hs1,w3⟩:=w2
  rw[tg_one]
  delta Vf
  walk_at "ev"
  rw[Ln.split wf]
  simp only[gl,gp]
  refine⟨rfl,Z0 (by have:=Ln.len wf;omega),M'.length,l,rfl,Ze _ _ [],wf,fun M1 k1=>Yo7 ?_⟩
  rw[if_pos rfl]
  have k01:Kp M' M1:=(Ks.new _ _).trans k1
  have eL1:=k01.pW eL
  have eO1:=k01.pW eO
  have ltO:=Z9 (Z1 eO1)
  have ltL:=Z9 (Z1 eL1)
  refine⟨l,_,ss,s1,rfl,Z1 eO1,nx,?_⟩
  walk_at "ev"
  delta V8
  walk_at "ev"
  simp only[eo,em]
  refine ix_h ?_
  refine⟨rfl,rfl,?_⟩
  rw[Y29]
  have nl:=Zi0 nx
  have tkl:((ls.take i).map Ln.h).length≤400:=by rw[Ac,He];omega
  have ol:(opL ss).length=ss.length+1:=by unfold opL;rw[Aj,Ac]
  have fin:∀M2:Z2,Ks (fun a=>M.length≤a) M1 M2→Z3 M2 M.length=some ((ls.take i).map Ln.h++[l.h])→Z3 M2 (M.length+1)=some (opL s1)→C [some (.ref r),some (.ref M.length),some (.ref (M.length+1)),some (.str l.line),some l.h] M2:=by
   intro M2 k2 g1 g2
   refine hC _ _ ⟨_,_,s1,rfl,?_,?_,g2,w3,hs1⟩
   ·exact(((k.trans k01).mono (fun _ _ z=>z.elim)).trans k2).mono fun a hlt hh=>absurd hlt (Nat.not_lt.mpr hh)
   ·rw[g1,Zq hl1,Am]
    rfl
  have last:∀(B:DEnv→Z2→Prop) (S:Z2) (s2:List (Tp×Int)),Ks (fun a=>M.length≤a) M1 S→Z3 S M.length=some ((ls.take i).map Ln.h++[l.h])→Z3 S (M.length+1)=some (opL s2)→s2.length≤100→((!notE l || l.beg)=true→opL s2++[.str (hw l)]=opL s1)→((!notE l || l.beg)=false→opL s2=opL s1)→tss ⟨K,Γ,G⟩ noX Y4 {nx:=C,rt:=Q,bk:=B,ct:=C} [some (.ref r),some (.ref M.length),some (.ref (M.length+1)),some (.str l.line),some l.h] S:=by
   intro B S s2 kS g1 g2 hl2 h1 h2
   have ol2:(opL s2).length=s2.length+1:=by unfold opL;rw[Aj,Ac]
   have ltS:=Z9 (Z1 g2)
   have put:(!notE l || l.beg)=true→(Za S (M.length+1)).isSome=true∧ixD S l.h (.int 0) fun d=>∃xs,Z3 S (M.length+1)=some xs∧xs.length<sizeLine∧C [some (.ref r),some (.ref M.length),some (.ref (M.length+1)),some (.str l.line),some l.h] (S.set (M.length+1) (.lst (xs++[d]))):=by
    intro hh
    refine⟨Zb (Z1 g2),ix_h ⟨_,g2,Z6 (by omega),?_⟩⟩
    rw[h1 hh]
    refine fin _ (kS.set (.inl (by omega))) ?_ (Z8 ltS)
    rw[Zf (by omega)]
    exact g1
   delta Y4
   walk_at "ev"
   simp only[e0,eo]
   refine Ef ?_
   cases hE:notE l with
   | false=>
    walk_at "ev"
    exact put (by rw[hE];rfl)
   | true=>
    walk_at "ev"
    refine ix_h ⟨rfl,rfl,?_⟩
    rw[Y29]
    cases hB:l.beg with
    | true=>
     walk_at "ev"
     exact put (by rw[hE,hB];rfl)
    | false=>
     walk_at "ev"
     exact fin _ kS g1 (by rw[g2,h2 (by rw[hE,hB];rfl)])
  have main:∀B:DEnv→Z2→Prop,tss ⟨K,Γ,G⟩ noX X6 {nx:=C,rt:=Q,bk:=B,ct:=C} [some (.ref r),some (.ref M.length),some (.ref (M.length+1)),some (.str l.line),some l.h] M1:=by
   intro B
   delta X6
   walk_at "ev"
   simp only[e0,e1]
   have g1:Z3 (M1.set M.length (.lst ((ls.take i).map Ln.h++[l.h]))) M.length=some ((ls.take i).map Ln.h++[l.h]):=Z8 ltL
   have g2:Z3 (M1.set M.length (.lst ((ls.take i).map Ln.h++[l.h]))) (M.length+1)=some (opL ss):=by rw[Zf (by omega)];exact eO1
   have kS:Ks (fun a=>M.length≤a) M1 (M1.set M.length (.lst ((ls.take i).map Ln.h++[l.h]))):=(Ks.refl M1).set (.inl (Nat.le_refl _))
   have pop:∀tl x,ss=tl++[x]→opL ss=opL tl++[.str (kn x.1)]:=fun tl x e=>by rw[e];unfold opL;rw[Am];rfl
   refine⟨Zb (Z1 eL1),_,eL1,Z6 (by omega),Z0 (by decide),Yo8 wf ?_⟩
   have popd:∀tl x,ss=tl++[x]→((!notE l || l.beg)=true→opL tl++[.str (hw l)]=opL s1)→((!notE l || l.beg)=false→opL tl=opL s1)→(Za (M1.set M.length (.lst ((ls.take i).map Ln.h++[l.h]))) (M.length+1)).isSome=true∧∃xs d,Z3 (M1.set M.length (.lst ((ls.take i).map Ln.h++[l.h]))) (M.length+1)=some xs∧xs[xs.length - 1]?=some d∧tss ⟨K,Γ,G⟩ noX Y4 {nx:=C,rt:=Q,bk:=B,ct:=C} [some (.ref r),some (.ref M.length),some (.ref (M.length+1)),some (.str l.line),some l.h] ((M1.set M.length (.lst ((ls.take i).map Ln.h++[l.h]))).set (M.length+1) (.lst xs.dropLast)):=by
    intro tl x e a1 a2
    refine⟨Zb (Z1 g2),_,.str (kn x.1),g2,?_,?_⟩
    ·rw[pop tl x e];simp
    ·refine last B _ tl (kS.set (.inl (by omega))) ?_ ?_ (by rw[e,Ab] at hss;omega) a1 a2
     ·rw[Zf (by omega)];exact g1
     ·rw[Z8 (by rw[Az];exact ltO),pop tl x e,List.dropLast_concat]
   have stay:((!notE l || l.beg)=true→opL ss++[.str (hw l)]=opL s1)→((!notE l || l.beg)=false→opL ss=opL s1)→tss ⟨K,Γ,G⟩ noX Y4 {nx:=C,rt:=Q,bk:=B,ct:=C} [some (.ref r),some (.ref M.length),some (.ref (M.length+1)),some (.str l.line),some l.h] (M1.set M.length (.lst ((ls.take i).map Ln.h++[l.h]))):=fun a1 a2=>last B _ ss kS g1 g2 (by omega) a1 a2
   have snoc:∀tl x,opL (tl++[x])=opL tl++[.str (kn x.1)]:=fun tl x=>by unfold opL;rw[Am];rfl
   cases l with
   | els=>obtain⟨tl,n,e4,e5⟩:=nx;exact popd tl _ e4 (fun _=>by rw[e5,snoc];rfl) (fun z=>by cases z)
   | don=>obtain⟨x,e4⟩:=nx;exact popd s1 _ e4 (fun z=>by cases z) (fun _=>rfl)
   | cond a s b=>exact stay (fun _=>by rw[show s1=_ from nx,snoc];rfl) (fun z=>by cases z)
   | rnd n=>exact stay (fun _=>by rw[show s1=_ from nx,snoc];rfl) (fun z=>by cases z)
   | prt n=>exact stay (fun _=>by rw[show s1=_ from nx,snoc];rfl) (fun z=>by cases z)
   | _=>exact stay (fun z=>by cases z) (fun _=>by rw[show s1=_ from nx])
  dsimp only
  cases hb:l.beg with
  | false=>exact main _
  | true=>
   rw[if_pos rfl]
   refine Zk (Z1 eO1) ?_
   walk_at "ev"
   rw[if_neg (by
    have hc:l.clo=0:=by cases l<;>first | rfl | cases hb
    rw[hb,hc,if_pos rfl] at nl
    omega)]
   exact main _
 ·rintro σ M' ⟨d3,d4,ss,rfl,k,eL,eO,w2,hss⟩
  rw[Ac,Ac,Ib (Nat.le_refl _)] at w2
  rw[Ac,Ac,Ds (Nat.le_refl _)] at eL
  cases (show []=ss from w2)
  delta V5
  walk_at "ev"
  refine Zk (Z1 eO) ?_
  walk_at "ev"
  delta Ve
  walk_at "ev"
  rw[if_neg (by decide)]
  exact q _ _ k (Nat.le_refl _) eL
end
theorem Fm.keep{C:Nat→Prop}{M M':Z2}{m r:Nat}{us:List T}(F:Fm C M m us r)(k:Kp M M'):Fm C M' m us r:=by
 obtain⟨ds,h1,h2⟩:=F.e
 exact⟨⟨ds,k.pW h1,h2.keep (fun _ h=>h) (k.cl fun c hc=>(F.c c hc).2)⟩,fun c hc=>⟨(F.c c hc).1,Nat.lt_of_lt_of_le (F.c c hc).2 k.len⟩,F.n⟩
theorem Fm.mono{C:Nat→Prop}{M:Z2}{m m' r:Nat}{us:List T}(F:Fm C M m us r)(h:m'≤m):Fm C M m' us r:=⟨F.e,fun c hc=>⟨Nat.le_trans h (F.c c hc).1,(F.c c hc).2⟩,F.n.1,Nat.le_trans h F.n.2⟩
theorem Z56{C:Nat→Prop}{M:Z2}{m r:Nat}{ls:List Ln}(F:Fm C M m (nest ls) r)(hr:run [] ls=some [])(hl:ls.length≤400):(fls (nest ls)).length≤1000∧dTs (nest ls)≤400:=by
 obtain⟨ds,h1,h2⟩:=F.e
 have:=N7 (nest ls) h2.ok
 rw[Nh hr] at this
 have h3:(noE ls).length≤ls.length:=List.length_filter_le _ _
 omega
def Wu:DSp:=fun ds M Q _=>∃(rows:List Str) (ls:List Ln),ds=[.str (Dx "\n" rows)]∧Rw ls rows∧rows≠[]∧rows.length≤1000∧Gd 89 ls∧ls.length≤400∧∀C M' r,Kp M M'→Fm C M' M.length (nest ls) r→Q (.ref r) M'
section
variable{K:Ad}{Γ:List DSp}{G:List D}
theorem Ed(em:G[12]?=some (.int 400))(gl:Γ[24]?=some Vi)(gf:Γ[7]?=some Ji)(gs:Γ[5]?=some C6):Rd K Γ G Wu Px Qk:=by
 rintro ds M Q Z ⟨rows,ls,rfl,R,hne,hrl,hg,hl,q⟩
 have hsp:Km (Dx "\n" rows) "\n"=rows:=by
  rw[nl10]
  exact Tt.split_join hne fun x hx hc=>(R.x x hx).2 hc
 have hjl:=Er "\n" (by decide) (B:=300) fun x hx=>(R.x x hx).1
 have hjl2:=Nat.mul_le_mul_right 301 hrl
 delta Px Qk
 walk_at "ev"
 rw[hsp]
 refine⟨rfl,Z0 (by omega),_,Ze _ _ [],?_⟩
 obtain⟨S,hS⟩:∃S:Z2,S=M++[.lst (rows.map D.str)]:=⟨_,rfl⟩
 have hSr:Za S M.length=some (rows.map D.str):=by rw[hS];exact Ze _ _ []
 have kS:Kp M S:=by rw[hS];exact Ks.new _ _
 rw[←hS]
 refine X2 (fun i σ M'=>∃(d0:Option D),σ=[d0]∧Kp S M'∧Z3 M' S.length=some (((rows.take i).map O7).map D.str)) ⟨none,rfl,Ks.new _ _,Z5 _ _ []⟩ ?_ ?_ ?_
 ·rintro i σ M' _ ⟨d0,rfl,k,e⟩
  exact k.pL hSr
 ·rintro i d σ M' C hd ⟨d0,rfl,k,e⟩ hC
  obtain⟨x,hx,rfl⟩:∃x,rows[i]?=some x∧d= .str x:=by
   rw[As] at hd
   cases h:rows[i]? with
   | none=>rw[h] at hd;cases hd
   | some x=>rw[h] at hd;cases hd;exact⟨x,rfl,rfl⟩
  have hxl:=(R.x x (Hx hx)).1
  rw[tg_one]
  walk_at "ev"
  refine⟨Z0 (by omega),_,e,Z6 (by rw[Ac,Ac,He];omega),hC _ _ ⟨_,rfl,k.set (.inr (Nat.le_refl _)),?_⟩⟩
  rw[Z8 (Z9 (Z1 e)),Zq hx,Am,Am]
  rfl
 rintro σ M1 ⟨d0,rfl,k1,e1⟩
 rw[Ac,Ds (Nat.le_refl _)] at e1
 try walk_at "ev"
 refine⟨_,Z1 e1,?_⟩
 refine X2 (fun i σ M'=>∃(d0:Option D),σ=[d0]∧Kp M1 M'∧Z3 M' M1.length=some ((((rows.map O7).take i).filter nz).map D.str)) ⟨none,rfl,Ks.new _ _,Z5 _ _ []⟩ ?_ ?_ ?_
 ·rintro i σ M' _ ⟨d0,rfl,k,e⟩
  exact k.pL (Z1 e1)
 ·rintro i d σ M' C hd ⟨d0,rfl,k,e⟩ hC
  obtain⟨x,hx,rfl⟩:∃x,(rows.map O7)[i]?=some x∧d= .str x:=by
   rw[As] at hd
   cases h:(rows.map O7)[i]? with
   | none=>rw[h] at hd;cases hd
   | some x=>rw[h] at hd;cases hd;exact⟨x,rfl,rfl⟩
  have hfl:(((rows.map O7).take i).filter nz).length≤1000:=by
   have h1:=List.length_filter_le nz ((rows.map O7).take i)
   rw[He,Ac] at h1
   omega
  rw[tg_one]
  walk_at "ev"
  by_cases h0:x=("":Str)
  ·rw[if_neg (fun z=>z h0)]
   refine hC _ _ ⟨_,rfl,k,?_⟩
   rw[Zq hx,List.filter_append,List.filter_cons_of_neg (by unfold nz;simp[h0]),List.filter_nil,Db]
   exact e
  ·rw[if_pos h0]
   refine⟨_,e,Z6 (by rw[Ac];omega),hC _ _ ⟨_,rfl,k.set (.inr (Nat.le_refl _)),?_⟩⟩
   rw[Z8 (Z9 (Z1 e)),Zq hx,List.filter_append,List.filter_cons_of_pos (by unfold nz;simp[h0]),List.filter_nil,Am]
   rfl
 rintro σ M2 ⟨d1,rfl,k2,e2⟩
 rw[Ac,Ds (Nat.le_refl _),R.f] at e2
 have k02:Kp M M2:=kS.trans (k1.trans k2)
 refine Zk (Z1 e2) ?_
 simp only[em]
 walk_at "ev"
 rw[if_neg (by rw[Ac,Ac];omega)]
 delta Tz
 walk_at "ev"
 simp only[gl,gf,gs]
 refine⟨M1.length,ls,rfl,Z1 e2,hg.w,hl,fun M3 r3 k3 h3 e3=>⟨r3,ls,rfl,Z1 e3,hl,hg.w.run,fun C M4 r4 k4 F=>?_⟩⟩
 obtain⟨ds,f1,f2⟩:=F.e
 refine⟨C,nest ls,r4,ds,rfl,f1,f2,fun c hc=>(F.c c hc).2,(Z56 F hg.w.run hl).1,fun M5 k5=>?_⟩
 rw[hg.snd]
 try walk_at "ev"
 delta S5
 walk_at "ev"
 exact q C _ _ (((k02.trans k3).trans k4).trans k5) ((F.keep k5).mono (Nat.le_trans k02.len k3.len))
end
theorem Zk3(xs ys:List T):dTs (xs++ys)=max (dTs xs) (dTs ys):=by
 induction xs with
 | nil=>rw[Dv];show _=max 0 _;omega
 | cons x xs ih=>rw[Dp];show max (dT x) (dTs (xs++ys))=max (max (dT x) (dTs xs)) _;rw[ih];omega
noncomputable def yD(f:Fr):Nat:=match f.y with
 | some y=>dTs y
 | none=>0
def FB(m:Nat):List Fr→Prop
 | []=>True
 | f::r=>dTs f.n≤2 * (m - r.length)+1∧yD f≤2 * (m - r.length)+1∧FB m r
theorem mk_d(f:Fr):dT f.mk'≤max (dTs f.n) (yD f)+2:=by
 obtain⟨h,y,n⟩:=f
 have hc:∀a s b,dT (Fr.mk (some (.cond a s b)) y n).mk'≤max (dTs n) (yD (Fr.mk h y n))+2:=by
  intro a s b
  cases y with
  | none=>show max (dTs n) (dTs [])+2≤_;show max (dTs n) 0+2≤_;omega
  | some y=>show max (dTs y) (dTs n)+2≤max (dTs n) (dTs y)+2;omega
 cases h with
 | none=>show 1≤_;omega
 | some l=>
  cases l with
  | cond a s b=>exact hc a s b
  | rnd k=>show dTs n+2≤max (dTs n) _+2;omega
  | prt k=>show dTs n+2≤max (dTs n) _+2;omega
  | _=>show 1≤_;omega
theorem Yi7{m:Nat}{ss s1:List (Tp×Int)}{fs:List Fr}{l:Ln}(hn:nxt ss l s1)(hl:fs.length=ss.length+1)(hs:ss.length≤m)(h:FB m fs):FB m (nst fs l)∧(nst fs l).length=s1.length+1:=by
 match fs,hl,h with
 | f::r,hl,⟨h1,h2,h3⟩=>
  rw[Aj] at hl
  have leaf:∀l:Ln,FB m (⟨f.h,f.y,f.n++[.leaf l]⟩::r):=fun l=>⟨by rw[Zk3];show max _ (max 1 0)≤_;omega,h2,h3⟩
  have opn:∀l:Ln,FB m (⟨some l,none,[]⟩::f::r):=fun l=>⟨Nat.zero_le _,Nat.zero_le _,h1,h2,h3⟩
  cases l with
  | cond a s b=>exact⟨opn _,by cases (show s1=_ from hn);simp[nst];omega⟩
  | rnd n=>exact⟨opn _,by cases (show s1=_ from hn);simp[nst];omega⟩
  | prt n=>exact⟨opn _,by cases (show s1=_ from hn);simp[nst];omega⟩
  | els=>
   obtain⟨tl,n,rfl,rfl⟩:=hn
   exact⟨⟨Nat.zero_le _,h1,h3⟩,by simp[nst] at hl ⊢;omega⟩
  | don=>
   obtain⟨x,rfl⟩:=hn
   rw[Ab,Aq] at hl hs
   match r,hl,h3,h1,h2 with
   | g::r,hl,⟨g1,g2,g3⟩,h1,h2=>
    rw[Aj] at hl h1 h2
    refine⟨⟨?_,g2,g3⟩,by show r.length+1=_;omega⟩
    show dTs (g.n++[f.mk'])≤_
    rw[Zk3]
    have:=mk_d f
    show max _ (max (dT f.mk') 0)≤_
    omega
  | sum x a s b=>cases (show s1=_ from hn);exact⟨leaf _,hl⟩
  | lve n=>cases (show s1=_ from hn);exact⟨leaf _,hl⟩
  | agn n=>cases (show s1=_ from hn);exact⟨leaf _,hl⟩
  | fin=>cases (show s1=_ from hn);exact⟨leaf _,hl⟩
theorem Wk.FB{m:Nat}:∀{ls:List Ln} {ss s1:List (Tp×Int)} {fs:List Fr},Wk m ss ls s1→fs.length=ss.length+1→ss.length≤m→K55.FB m fs→K55.FB m (ls.foldl nst fs)
 | [],ss,s1,fs,h,hl,hs,hf=>hf
 | l::ls,ss,s1,fs,⟨a,b,t,c,d,e⟩,hl,hs,hf=>by
  obtain⟨q1,q2⟩:=Yi7 c hl hs hf
  exact e.FB q2 d q1
theorem Yd1{m:Nat}{ls:List Ln}(h:Wk m [] ls []):dTs (nest ls)≤2 * m+1:=by
 have:=h.FB (fs:=[fr0]) rfl (Nat.zero_le _) ⟨Nat.zero_le _,Nat.zero_le _,trivial⟩
 rw[S8 h.run] at this
 exact this.1
theorem Zl2{C C':Nat→Prop}{M:Z2}{m m' r r':Nat}{ls:List Ln}(hw:Wk 89 [] ls [])(F:Fm C M m (nest ls) r)(F':Fm C' M m' (nest ls) r'):AL M 180 (.ref r) (.ref r'):=by
 obtain⟨ds,e1,rt1⟩:=F.e
 obtain⟨es,e2,rt2⟩:=F'.e
 exact AL.up (n:=dTs (nest ls)+1) (.inr (.inr ⟨r,r',ds,es,rfl,rfl,e1,e2,rt1.len.trans rt2.len.symm,Zc0 rt1 rt2⟩)) (by have:=Yd1 hw;omega)
noncomputable def oth(n:Nat):List Ln:=[.rnd (n:Nat),.agn (n:Nat),.don]
noncomputable def skp:Ln→List Ln→Bool
 | .els,.don::_=>true
 | _,_=>false
noncomputable def cl:List Ln→List Ln
 | []=>[]
 | l::ls=>if skp l ls then cl ls else l::cl ls
noncomputable def stc(x:List Ln×Bool)(l:Ln):List Ln×Bool:=
 match l with
 | .els=>(if x.2 then x.1++[.els] else x.1,true)
 | .don=>(x.1++[.don],false)
 | l=>((if x.2 then x.1++[.els] else x.1)++[l],false)
theorem Zy9:∀(ls:List Ln) (o:List Ln) (p:Bool),(ls.foldl stc (o,p)).2=false→(ls.foldl stc (o,p)).1=o++cl (if p then .els::ls else ls)
 | [],o,p,h=>by
  cases (show p=false from h)
  show o=o++[]
  rw[Db]
 | l::ls,o,p,h=>by
  have ih:=Zy9 ls (stc (o,p) l).1 (stc (o,p) l).2 h
  show(ls.foldl stc (stc (o,p) l)).1=_
  rw[show stc (o,p) l=((stc (o,p) l).1,(stc (o,p) l).2) from rfl,ih]
  cases p<;>cases l<;>simp[stc,cl,skp]
theorem Zt4{l:Ln}(h:l.pl=true)(hb:l.beg=false)(x:List Ln×Bool):stc x l=((if x.2 then x.1++[.els] else x.1)++[l],false):=by cases l<;>first | rfl | (cases h;done) | (cases hb;done)
noncomputable def hdF(f:Fr):List Ln:=match f.h with
 | some l=>[l]
 | none=>[]
noncomputable def f0(f:Fr):List Ln:=hdF f++match f.y,f.n with
 | none,n=>fls n
 | some y,[]=>fls y
 | some y,t::ts=>fls y++ .els::fls (t::ts)
noncomputable def f1(f:Fr):List Ln:=hdF f++match f.y with
 | none=>fls f.n
 | some y=>fls y++ .els::fls f.n
noncomputable def fb:List Fr→List Ln
 | []=>[]
 | f::r=>fb r++f1 f
noncomputable def fa:List Fr→List Ln
 | []=>[]
 | f::r=>fb r++f0 f
noncomputable def pnd:List Fr→Bool
 | []=>false
 | f::_=>f.y.isSome&&f.n.isEmpty
theorem Ym8(f:Fr):f1 f=if (f.y.isSome&&f.n.isEmpty)=true then f0 f++[.els] else f0 f:=by
 obtain⟨h,y,n⟩:=f
 cases y with
 | none=>rfl
 | some y=>
  cases n with
  | nil=>show hdF _++(fls y++ .els::fls [])=(hdF _++fls y)++[.els];rw[Ye,Ay]
  | cons t ts=>rfl
theorem Zi6(h:Option Ln)(y:Option (List T))(n:List T)(t:T):f0 ⟨h,y,n++[t]⟩=f1 ⟨h,y,n⟩++fl t:=by
 cases y with
 | none=>
  show hdF _++fls (n++[t])=(hdF _++fls n)++fl t
  rw[X5,Y6,Ye,Db,Ay]
  rfl
 | some y=>
  have e:f0 ⟨h,some y,n++[t]⟩=hdF ⟨h,some y,n⟩++(fls y++ .els::fls (n++[t])):=by cases n<;>rfl
  rw[e]
  show _=(hdF _++(fls y++ .els::fls n))++fl t
  rw[X5,Y6,Ye,Db]
  simp
theorem Yk8{f:Fr}{t:Tp}(h:f.is t):fl f.mk'=f0 f++[.don]:=by
 obtain⟨h',y,n⟩:=f
 cases t with
 | cif=>
  obtain⟨rfl,a,s,b,rfl⟩:=h
  show fl (.cho a s b n [])=_
  rw[Wf]
  rfl
 | cel=>
  obtain⟨hy,a,s,b,rfl⟩:=h
  cases y with
  | none=>cases hy
  | some y=>
   show fl (.cho a s b y n)=_
   cases n with
   | nil=>rw[Wf];rfl
   | cons t ts=>
    rw[Se]
    show _=(.cond a s b::(fls y++ .els::fls (t::ts)))++[.don]
    simp
 | crd=>
  obtain⟨rfl,k,rfl⟩:=h
  show fl (.home true k n)=_
  rw[W5]
  rfl
 | cpt=>
  obtain⟨rfl,k,rfl⟩:=h
  show fl (.home false k n)=_
  rw[W5]
  rfl
theorem Zv0{fs:List Fr}{ts ts':List Tp}{l:Ln}(h:Fss ts fs)(e:stp ts l=some ts'):stc (fa fs,pnd fs) l=(fa (nst fs l),pnd (nst fs l)):=by
 have out:∀f r,fs=f::r→(if pnd fs then fa fs++[.els] else fa fs)=fb r++f1 f:=by
  intro f r e
  rw[e,Ym8]
  show(if (f.y.isSome&&f.n.isEmpty)=true then(fb r++f0 f)++[.els] else fb r++f0 f)=_
  split<;>simp
 obtain⟨f,r,ef,_⟩:=h.top
 have opn:∀l:Ln,l.beg=true→stc (fa fs,pnd fs) l=(fa (nst fs l),pnd (nst fs l)):=by
  intro l hb
  have e1:stc (fa fs,pnd fs) l=((if pnd fs then fa fs++[.els] else fa fs)++[l],false):=by cases l<;>first | rfl | cases hb
  rw[e1,out f r ef,Ln.nst_beg hb,ef]
  show _=((fb r++f1 f)++([l]++fls []),false)
  rw[Ye]
  simp
 have leaf:l.pl=true→l.beg=false→stc (fa fs,pnd fs) l=(fa (nst fs l),pnd (nst fs l)):=by
  intro h1 h2
  have e2:nst fs l=⟨f.h,f.y,f.n++[.leaf l]⟩::r:=by rw[ef];cases l<;>first | rfl | (cases h1;done) | (cases h2;done)
  rw[Zt4 h1 h2,e2]
  show((if pnd fs then fa fs++[.els] else fa fs)++[l],false)=(fb r++f0 ⟨f.h,f.y,f.n++[.leaf l]⟩,f.y.isSome&&(f.n++[T.leaf l]).isEmpty)
  rw[out f r ef,Zi6,Qs]
  simp
 cases l with
 | cond a s b=>exact opn _ rfl
 | rnd n=>exact opn _ rfl
 | prt n=>exact opn _ rfl
 | els=>
  obtain⟨rr,rfl,rfl⟩:=Pd e
  obtain⟨f',r',rfl,⟨hy,_⟩,_⟩:=h
  obtain⟨h',y,n⟩:=f'
  cases (show y=none from hy)
  rfl
 | don=>
  obtain⟨t,rfl⟩:=Ql e
  obtain⟨f',r',rfl,his,hF⟩:=h
  obtain⟨g,r2,rfl,_⟩:=hF.top
  show((fb r2++f1 g)++f0 f'++[.don],false)=(fb r2++f0 ⟨g.h,g.y,g.n++[f'.mk']⟩,g.y.isSome&&(g.n++[f'.mk']).isEmpty)
  rw[Zi6,Yk8 his]
  simp
 | _=>exact leaf rfl rfl
theorem Y17{ls:List Ln}:∀{fs:List Fr} {ts ts':List Tp},Fss ts fs→run ts ls=some ts'→ls.foldl stc (fa fs,pnd fs)=(fa (ls.foldl nst fs),pnd (ls.foldl nst fs)):=by
 induction ls with
 | nil=>intro fs ts ts' h e;rfl
 | cons l ls ih=>
  intro fs ts ts' h e
  change (stp ts l).bind _=_ at e
  cases e1:stp ts l with
  | none=>rw[e1] at e;cases e
  | some t=>
   rw[e1] at e
   show ls.foldl stc (stc (fa fs,pnd fs) l)=_
   rw[Zv0 h e1]
   exact ih (h.step e1) e
theorem B0{ls:List Ln}(h:run [] ls=some []):fls (nest ls)=cl ls:=by
 have h1:=Y17 (fs:=[fr0]) (ts:=[]) ⟨[],rfl⟩ h
 rw[S8 h] at h1
 have h2:=Zy9 ls [] false (by rw[show(([]:List Ln),false)=(fa [fr0],pnd [fr0]) from rfl,h1];rfl)
 rw[show(([]:List Ln),false)=(fa [fr0],pnd [fr0]) from rfl,h1] at h2
 exact h2
theorem Zw5:∀{ls:List Ln} {fs:List Fr} {ts ts':List Tp},Fss ts fs→run ts ls=some ts'→(cl ls).foldl nst fs=ls.foldl nst fs
 | [],fs,ts,ts',h,e=>rfl
 | l::ls,fs,ts,ts',h,e=>by
  change (stp ts l).bind _=_ at e
  cases e1:stp ts l with
  | none=>rw[e1] at e;cases e
  | some t=>
   rw[e1] at e
   have ih:=Zw5 (h.step e1) e
   unfold cl
   split
   ·rename_i hk
    match l,ls,hk with
    | .els,.don::ls,_=>
     obtain⟨rr,rfl,rfl⟩:=Pd e1
     obtain⟨f',r',rfl,⟨hy,a,s,b,hh⟩,hF⟩:=h
     obtain⟨g,r2,rfl,_⟩:=hF.top
     obtain⟨h',y,n⟩:=f'
     cases (show y=none from hy)
     cases (show h'=_ from hh)
     have e3:cl (Ln.don::ls)= .don::cl ls:=rfl
     rw[e3] at ih ⊢
     exact ih
   ·exact ih
noncomputable def bk:Ln→Nat
 | .don=>1
 | .els=>1
 | _=>0
noncomputable def fw:Ln→Nat
 | .els=>1
 | l=>if l.beg then 1 else 0
noncomputable def bl(k:Nat):Str:=Me "  " (k:Nat)
noncomputable def inR:Nat→List Ln→List Str
 | _,[]=>[]
 | d,l::ls=>(bl (d - bk l)++l.line)::inR (d - bk l+fw l) ls
theorem bl_L:∀k:Nat,k<91→Tt.L (Me "  " (k:Nat))=Df (2 * k) 32:=by decide+kernel
theorem Yh0:∀k:Nat,k<91→MulOk "  " (k:Nat):=by unfold MulOk;decide+kernel
theorem Zc3{ss s1:List (Tp×Int)}{l:Ln}(h:nxt ss l s1):ss.length - bk l+fw l=s1.length∧bk l≤ss.length:=by
 cases l with
 | els=>obtain⟨tl,n,rfl,rfl⟩:=h;simp[bk,fw]
 | don=>obtain⟨y,rfl⟩:=h;simp[bk,fw,Ln.beg]
 | _=>rw[show s1=_ from h];simp[bk,fw,Ln.beg]
theorem Ci:∀(ls:List Ln) (d:Nat),(inR d ls).length=ls.length
 | [],d=>rfl
 | l::ls,d=>by show(inR _ ls).length+1=_;rw[Ci ls];rfl
theorem Za7{k:Nat}(h:k<91):(bl k).length≤180:=by
 show(Me "  " (k:Nat)).cps.size≤_
 rw[←Dn]
 show(Tt.L _).length≤_
 rw[bl_L k h,List.length_replicate]
 omega
theorem Ya7{o:Opd}{out:Str}{R:Str→Prop}(h:o.ok)(hl:out.length≤1000)(q:R (out++o.t)):onIS o.d (fun i=>i.natAbs.log2<1920∧(out++(toString i:String):Str).length≤sizeLine∧R (out++(toString i:String))) fun y=>y.length≤sizeLine∧(out++y).length≤sizeLine∧R (out++y):=by
 have h19:=Opd.len h
 cases o with
 | nm x=>exact⟨Z0 (by have:x.length≤19:=h19;omega),Z0 (by rw[Z4];have:x.length≤19:=h19;omega),q⟩
 | no i=>
  obtain⟨h1,h2⟩:-1000000000000000000<i∧i<1000000000000000000:=h
  have:i.natAbs<2 ^ 64:=by omega
  exact⟨Nat.lt_trans (Xd this (by decide)) (by decide),Z0 (by rw[Z4];have:(Str.ofString (toString i)).length≤19:=h19;omega),q⟩
theorem Yb6{x out:Str}{R:Str→Prop}(hx:x.length≤1000)(hl:out.length≤1000)(q:R (out++x)):x.length≤sizeLine∧(out++x).length≤sizeLine∧R (out++x):=⟨Z0 (by omega),Z0 (by rw[Z4];omega),q⟩
theorem emp(x:Str):Str.empty++x=x:=Tt.L_ext (by rw[Tt.L_app];rfl)
def Zi1:DSp:=fun ds M Q _=>∃(g s:Str) (a b:Opd),ds=[.str g,a.d,.str s,b.d]∧g.length≤8∧a.ok∧s.length≤4∧b.ok∧Q (.str (Dx " " [g,"=",a.t,s,b.t])) M
def C2:DSp:=fun ds M Q _=>∃(s:Str) (a b:Opd),ds=[a.d,.str s,b.d]∧a.ok∧s.length≤4∧b.ok∧Q (.str (Dx " " ["if",a.t,s,b.t])) M
def Cv:DSp:=fun ds M Q _=>∃l:Ln,ds=[l.g]∧l.wf∧Q (.str l.line) M
def Vn:DSp:=fun ds M Q _=>∃C us r ds',ds=[.ref r]∧Z3 M r=some ds'∧RTs C M us ds'∧(∀c,C c→c<M.length)∧(fls us).length≤1000∧Wk 89 [] (fls us) []∧∀M',Kp M M'→Q (.str (Dx "\n" (inR 0 (fls us)))) M'
section
variable{K:Ad}{Γ:List DSp}{G:List D}
theorem Qz{Γ:List DSp}{G:List D}{e:E}{r:Es}{out:Str}{σ:DEnv}{M:Z2}{Q:Str→Z2→Prop}{o:Opd}(he:∀F:DK,F o.d M→te ⟨K,Γ,G⟩ noX e σ M F)(h:o.ok)(hl:out.length≤1000)(q:tfs ⟨K,Γ,G⟩ noX r (out++o.t) σ M Q):tfs ⟨K,Γ,G⟩ noX (.cons e r) out σ M Q:=he _ (Ya7 (R:=fun x=>tfs ⟨K,Γ,G⟩ noX r x σ M Q) h hl q)
theorem Yx{Γ:List DSp}{G:List D}{e:E}{r:Es}{out x:Str}{σ:DEnv}{M:Z2}{Q:Str→Z2→Prop}(he:∀F:DK,F (.str x) M→te ⟨K,Γ,G⟩ noX e σ M F)(hx:x.length≤1000)(hl:out.length≤1000)(q:tfs ⟨K,Γ,G⟩ noX r (out++x) σ M Q):tfs ⟨K,Γ,G⟩ noX (.cons e r) out σ M Q:=he _ (Yb6 (R:=fun x=>tfs ⟨K,Γ,G⟩ noX r x σ M Q) hx hl q)
theorem Ee{Γ:List DSp}{G:List D}{out:Str}{σ:DEnv}{M:Z2}{Q:Str→Z2→Prop}(hl:out.length≤1000)(q:Q out M):tfs ⟨K,Γ,G⟩ noX .nil out σ M Q:=⟨Z0 (by omega),q⟩
theorem e0l:Str.empty.length=0:=rfl
theorem J6{Γ G}:Rd K Γ G Zi1 Vu Vq:=by
 rintro ds M Q Z ⟨g,s,a,b,rfl,hg,ha,hs,hb,q⟩
 have ha9:=Opd.len ha
 have hb9:=Opd.len hb
 have l3:(" = ":Str).length=3:=rfl
 have l1:(" ":Str).length=1:=rfl
 have e0:=e0l
 delta Vu Vq
 walk_at "ev"
 refine Yx (x:=g) (fun F f=>f) (by omega) (by omega) (Yx (x:=" = ") (fun F f=>f) (by omega) (by simp only[Z4];omega) (Qz (o:=a) (fun F f=>f) ha (by simp only[Z4];omega) (Yx (x:=" ") (fun F f=>f) (by omega) (by simp only[Z4];omega) (Yx (x:=s) (fun F f=>f) (by omega) (by simp only[Z4];omega) (Yx (x:=" ") (fun F f=>f) (by omega) (by simp only[Z4];omega) (Qz (o:=b) (fun F f=>f) hb (by simp only[Z4];omega) (Ee (by simp only[Z4];omega) ?_)))))))
 have e:Str.empty++g++(" = ":Str)++a.t++(" ":Str)++s++(" ":Str)++b.t=Dx " " [g,"=",a.t,s,b.t]:=by
  rw[jn,jn,jn,jn,tj,emp,show(" = ":Str)=" "++"="++" " by decide+kernel]
  refine Tt.L_ext ?_
  show _=Tt.L (g++" "++("="++" "++(a.t++" "++(s++" "++b.t))))
  simp only[Tt.L_app,Ay]
 rw[e]
 exact q
theorem O0{Γ G}:Rd K Γ G C2 V6 Vb:=by
 rintro ds M Q Z ⟨s,a,b,rfl,ha,hs,hb,q⟩
 have ha9:=Opd.len ha
 have hb9:=Opd.len hb
 have l3:("if ":Str).length=3:=rfl
 have l1:(" ":Str).length=1:=rfl
 have e0:=e0l
 delta V6 Vb
 walk_at "ev"
 refine Yx (x:="if ") (fun F f=>f) (by omega) (by omega) (Qz (o:=a) (fun F f=>f) ha (by simp only[Z4];omega) (Yx (x:=" ") (fun F f=>f) (by omega) (by simp only[Z4];omega) (Yx (x:=s) (fun F f=>f) (by omega) (by simp only[Z4];omega) (Yx (x:=" ") (fun F f=>f) (by omega) (by simp only[Z4];omega) (Qz (o:=b) (fun F f=>f) hb (by simp only[Z4];omega) (Ee (by simp only[Z4];omega) ?_))))))
 have e:Str.empty++("if ":Str)++a.t++(" ":Str)++s++(" ":Str)++b.t=Dx " " ["if",a.t,s,b.t]:=by
  rw[jn,jn,jn,tj,emp,show("if ":Str)="if"++" " by decide+kernel]
  refine Tt.L_ext ?_
  show _=Tt.L ("if"++" "++(a.t++" "++(s++" "++b.t)))
  simp only[Tt.L_app,Ay]
 rw[e]
 exact q
theorem Zz2{Γ:List DSp}{G:List D}{e:E}{r:Es}{out:Str}{σ:DEnv}{M:Z2}{Q:Str→Z2→Prop}{n:Nat}(he:∀F:DK,F (.int (n:Nat)) M→te ⟨K,Γ,G⟩ noX e σ M F)(h:n≤9999)(hl:out.length≤1000)(q:tfs ⟨K,Γ,G⟩ noX r (out++Tt.fig n) σ M Q):tfs ⟨K,Γ,G⟩ noX (.cons e r) out σ M Q:=Qz (o:= .no (n:Nat)) he ⟨by omega,by omega⟩ hl q
theorem Yk0:∀s∈six++two,s.length≤4:=by decide+kernel
theorem g_eq(l:Ln):l.g= .tup (.str (hw l)::tlD l)∨l.g= .gtup (.str (hw l)::tlD l):=by cases l<;>first | exact .inl rfl | exact .inr rfl
theorem O3(gs:Γ[18]?=some Zi1)(gt:Γ[19]?=some C2):Rd K Γ G Cv Zw Zv:=by
 rintro ds M Q Z ⟨l,rfl,h,q⟩
 have one:∀w:Str,(l.g= .tup [.str w]∨l.g= .gtup [.str w])→l.ws=[w]→¬w="sum"→¬w="choice"→tss ⟨K,Γ,G⟩ noX Zw {nx:=fun _ M=>Q .non M,rt:=Q} (start0 Zv [l.g]) M:=by
  intro w e1 e2 n1 n2
  have ql:Q (.str w) M:=by
   have:=q
   unfold Ln.line at this
   rw[e2,tj] at this
   exact this
  rcases e1 with e1 | e1<;>rw[e1]<;>delta Zw Zv<;>walk_at "ev" <;>rw[if_neg n1]<;>delta Y7<;>walk_at "ev" <;>rw[if_neg n2]<;>delta Yp<;>walk_at "ev" <;>exact ql
 have num:∀(w:Str) (n:Int),l.g= .tup [.str w,.int n]→l.ws=[w,nt n]→w.length≤19→¬w="sum"→¬w="choice"→0≤n∧n≤9999→tss ⟨K,Γ,G⟩ noX Zw {nx:=fun _ M=>Q .non M,rt:=Q} (start0 Zv [l.g]) M:=by
  intro w n e1 e2 hl n1 n2 hn
  obtain⟨k,rfl⟩:∃k:Nat,n=k:=⟨n.toNat,by omega⟩
  have hk:k≤9999:=by omega
  have fl:=Z23 hk
  have l1:(" ":Str).length=1:=rfl
  have e0:=e0l
  rw[e1]
  delta Zw Zv
  walk_at "ev"
  rw[if_neg n1]
  delta Y7
  walk_at "ev"
  rw[if_neg n2]
  delta Yp
  walk_at "ev"
  rw[if_neg (by decide)]
  delta Xw
  walk_at "ev"
  refine Yx (x:=w) (fun F f=>f) (by omega) (by omega) (Yx (x:=" ") (fun F f=>f) (by omega) (by simp only[Z4];omega) (Zz2 (n:=k) (fun F f=>f) hk (by simp only[Z4];omega) (Ee (by simp only[Z4];omega) ?_)))
  have e:Str.empty++w++(" ":Str)++Tt.fig k=l.line:=by
   unfold Ln.line
   rw[e2,jn,tj,emp]
   rfl
  rw[e]
  exact q
 delta Zw Zv
 cases l with
 | sum x a s b=>
  obtain⟨h0,h1,h2,h3⟩:=id h
  simp only[Ln.g,Ln.d]
  walk_at "ev"
  simp only[gs]
  exact⟨x,s,a,b,rfl,h0.2.2.1,h1,Yk0 s (Hw _ h2),h3,q⟩
 | cond a s b=>
  obtain⟨h1,h2,h3⟩:=id h
  simp only[Ln.g,Ln.d]
  walk_at "ev"
  delta Y7
  walk_at "ev"
  simp only[gt]
  exact⟨s,a,b,rfl,h1,Yk0 s (Ax _ h2),h3,q⟩
 | rnd n=>exact num "round" n rfl rfl (by decide) (by decide+kernel) (by decide+kernel) h
 | prt n=>exact num "part" n rfl rfl (by decide) (by decide+kernel) (by decide+kernel) h
 | lve n=>exact num "leave" n rfl rfl (by decide) (by decide+kernel) (by decide+kernel) h
 | agn n=>exact num "again" n rfl rfl (by decide) (by decide+kernel) (by decide+kernel) h
 | els=>exact one "else" (.inr rfl) rfl (by decide+kernel) (by decide+kernel)
 | don=>exact one "done" (.inr rfl) rfl (by decide+kernel) (by decide+kernel)
 | fin=>exact one "end" (.inl rfl) rfl (by decide+kernel) (by decide+kernel)
theorem Yb0{M:Z2}{l:Ln}{F:Bool→Prop}(h:l.wf)(q:F (!notE l || isDn l)):inTD M l.g (.tup [.gtup [.str "else"],.gtup [.str "done"]]) F:=by
 refine⟨.tuple (.str (hw l)::l.p),[.tuple [.str "else"],.tuple [.str "done"]],?_,⟨_,.inl rfl,_,_,rfl,⟨_,.inr rfl,_,_,rfl,rfl,rfl⟩,_,_,rfl,⟨_,.inr rfl,_,_,rfl,rfl,rfl⟩,rfl⟩,?_,by decide+kernel,?_,?_⟩
 ·rcases g_eq l with e | e
  ·rw[e];exact⟨_,.inl rfl,_,_,rfl,rfl,l.pd M⟩
  ·rw[e];exact⟨_,.inr rfl,_,_,rfl,rfl,l.pd M⟩
 ·show(Kg (.str (hw l))&&Kb l.p)=true
  rw[Z61 (Zc5 l),Ln.lay h]
  rfl
 ·exact Nat.le_trans (Nat.min_le_left _ _) (by decide)
 ·rw[Ya1];exact q
theorem Zr8{M:Z2}{l:Ln}{B:Bool→Prop}(q:B (!notE l)):eqD M l.g (.gtup [.str "else"]) B:=by
 refine J7 (g_eq l) (by show(true&&_)=true;rw[Co];rfl) rfl ?_
 cases l with
 | els=>exact q
 | _=>rw[X4 _ _ _ (Y00.1 rfl)];exact q
theorem ix_g{M:Z2}{l:Ln}{F:D→Prop}(q:F (.str (hw l))):ixD M l.g (.int 0) F:=by
 rcases g_eq l with e | e<;>rw[e]<;>exact⟨_,ati0,q⟩
theorem Yh9(l:Ln):fw l=if (!notE l || l.beg)=true then 1 else 0:=by cases l<;>rfl
theorem Yf7(l:Ln):bk l=if (!notE l || isDn l)=true then 1 else 0:=by cases l<;>rfl
theorem O8(e0:G[0]?=some (.gtup [.str "else"]))(e1:G[1]?=some (.gtup [.str "done"]))(eo:G[2]?=some (.gtup [.str "choice",.str "round",.str "part"]))(gl:Γ[2]?=some Vs)(gw:Γ[26]?=some Cv):Rd K Γ G Vn V4 V3:=by
 rintro ds M Q Z ⟨C,us,r,ds',rfl,hr,rt,hC,hz,hwk,q⟩
 delta V4 V3
 walk_at "ev"
 simp only[gl]
 have kn:Kp M (M++[.lst []]):=Ks.new _ _
 refine⟨Z0 (by decide),C,us,r,ds',rfl,Z7 hr,rt.keep (fun _ h=>h) (kn.cl hC),fun c hc=>by rw[Ab];have:=hC c hc;omega,hz,fun M1 r1 k1 er l1=>?_⟩
 walk_at "ev"
 refine⟨_,Z1 er,?_⟩
 generalize fls us=ls at *
 have lM:M.length+1≤r1:=by simpa using l1
 have tx0:Z3 M1 M.length=some (([]:List Str).map D.str):=k1.pW (Z5 _ _ [])
 refine Wb (fun i σ M'=>∃(d3:Option D) (rows:List Str) (ss:List (Tp×Int)),σ=[some (.ref r),some (.ref M.length),some (.int (ss.length:Nat)),d3]∧Ks (·=M.length) M1 M'∧Z3 M' M.length=some (rows.map D.str)∧rows.length=i∧rows++inR ss.length (ls.drop i)=inR 0 ls∧Wk 89 ss (ls.drop i) []∧ss.length≤89∧∀x∈rows,x.length≤300) ⟨none,[],[],rfl,Ks.refl _,tx0,rfl,rfl,hwk,Nat.zero_le _,fun x hx=>by cases hx⟩ ?_ ?_ ?_
 ·rintro i σ M' _ ⟨d3,rows,ss,rfl,k,_⟩
  exact k.L (by omega) (Z1 er)
 ·rintro i d σ M' P hd ⟨d3,rows,ss,rfl,k,e,hi',hR,w2,hss,hx⟩ hP
  obtain⟨l,hl1,rfl⟩:∃l,ls[i]?=some l∧d=l.g:=by
   rw[As] at hd
   cases e:ls[i]? with
   | none=>rw[e] at hd;cases hd
   | some l=>rw[e] at hd;cases hd;exact⟨l,rfl,rfl⟩
  have hi:=(Af.mp hl1).1
  have e3:ls.drop i=l::ls.drop (i+1):=by rw[Dl hi];congr 1;rw[Ae hi] at hl1;exact Dd hl1
  rw[e3] at w2 hR
  obtain⟨wf,inn,s1,nx,hs1,w3⟩:=w2
  obtain⟨n1,n2⟩:=Zc3 nx
  have ll:=Ln.len wf
  have lb:=Za7 (k:=ss.length - bk l) (by omega)
  have ltM:=Z9 (Z1 e)
  have nx2:∀B:DEnv→Z2→Prop,tss ⟨K,Γ,G⟩ noX Yn {nx:=P,rt:=Q,bk:=B,ct:=P} [some (.ref r),some (.ref M.length),some (.int ((ss.length - bk l:Nat):Int)),some l.g] M':=by
   intro B
   delta Yn
   walk_at "ev"
   simp only[gw,e0,eo]
   refine⟨Zb (Z1 e),Yh0 _ (by omega),l,rfl,wf,?_⟩
   walk_at "ev"
   have lb':(Me "  " ((ss.length - bk l:Nat):Int)).length≤180:=lb
   refine⟨Z0 (by omega),_,e,Z6 (by rw[Ac];omega),Zr8 ?_⟩
   have go:P [some (.ref r),some (.ref M.length),some (.int ((ss.length - bk l+fw l:Nat):Int)),some l.g] (M'.set M.length (.lst (rows.map D.str++[.str (Me "  " ((ss.length - bk l:Nat):Int)++l.line)]))):=by
    refine hP _ _ ⟨_,rows++[bl (ss.length - bk l)++l.line],s1,by rw[n1],k.set (.inl rfl),?_,by rw[Ab,hi'];rfl,?_,w3,hs1,fun x hx'=>?_⟩
    ·rw[Z8 ltM,Am]
     rfl
    ·rw[Ay,←n1]
     exact hR
    ·rcases Bk.mp hx' with hx' | hx'
     ·exact hx x hx'
     ·rw[An.mp hx',Z4]
      omega
   have fq:=Yh9 l
   cases hE:notE l with
   | false=>
    rw[hE] at fq
    rw[show fw l=1 from fq] at go
    rw[if_neg (by decide)]
    exact go
   | true=>
    rw[if_pos (by decide)]
    refine ix_g ⟨rfl,rfl,?_⟩
    rw[Y29]
    dsimp only
    cases hB:l.beg with
    | true=>
     rw[hE,hB] at fq
     rw[show fw l=1 from fq] at go
     rw[if_pos rfl]
     exact go
    | false=>
     rw[hE,hB] at fq
     rw[show fw l=0 from fq] at go
     rw[if_neg (by decide)]
     exact go
  rw[tg_one]
  delta Xs
  walk_at "ev"
  simp only[e0,e1]
  refine⟨Z0 (by decide),Yb0 wf ?_⟩
  have bq:=Yf7 l
  cases hh:(!notE l || isDn l) with
  | true=>
   rw[hh,if_pos rfl] at bq
   rw[if_pos rfl,show((ss.length:Nat):Int) - 1=((ss.length - bk l:Nat):Int) by omega]
   exact nx2 _
  | false=>
   rw[hh,if_neg (by decide)] at bq
   have:=nx2
   rw[bq,Nat.sub_zero] at this
   exact this _
 ·rintro σ M' ⟨d3,rows,ss,rfl,k,e,hi',hR,w2,hss,hx⟩
  rw[Ac,Ib (Nat.le_refl _)] at w2 hR
  cases (show []=ss from w2)
  rw[show inR ([]:List (Tp×Int)).length []=[] from rfl,Db] at hR
  rw[Ac] at hi'
  delta Xv
  walk_at "ev"
  refine⟨_,Z1 e,Gq (by decide) hx (by have:=Nat.mul_le_mul_right 301 (show rows.length≤1000 by omega);omega),?_⟩
  rw[hR]
  exact q _ (((kn.trans k1).mono (fun _ _ z=>z.elim)).trans k |>.mono fun a hlt hh=>by omega)
end
def Qy:DSp:=fun ds M Q _=>∃(r:Nat) (ls:List Ln),ds=[.ref r]∧Z3 M r=some (ls.map Ln.d)∧Wk 89 [] ls []∧ls.length≤400∧∀M',Kp M M'→Q (.str (Dx "\n" (inR 0 (cl ls)))) M'
def Qd:DSp:=fun ds M Q _=>∃x y:Str,ds=[.str x,.str y]∧Q (.bl (decide (x=y))) M
noncomputable def wd:Ln→Str
 | .cond _ _ _=>"if"
 | l=>hw l
theorem d_eq(l:Ln):l.d= .tup (.str (wd l)::tlD l):=by cases l<;>rfl
theorem Zx2(l:Ln):decide (wd l="done")=isDn l:=by cases l<;>first | exact decide_eq_true rfl | exact decide_eq_false (by simp only[wd,hw];decide+kernel)
theorem Zf5(l:Ln):decide (wd l="else")= !notE l:=by cases l<;>first | exact decide_eq_true rfl | exact decide_eq_false (by simp only[wd,hw];decide+kernel)
section
variable{K:Ad}{Γ:List DSp}{G:List D}
theorem Zj3:Rd K Γ G Qd G7 Gp:=by
 rintro ds M Q Z ⟨x,y,rfl,q⟩
 delta G7 Gp
 walk_at "ev"
 exact q
theorem E6(gb:Γ[35]?=some Y5)(gw:Γ[46]?=some E7):Rd K Γ G Qy Ph Qn:=by
 rintro ds M Q Z ⟨r,ls,rfl,hr,hwk,hl,q⟩
 delta Ph Qn
 walk_at "ev"
 refine⟨Z0 (by decide),Zk (Zd (Z1 hr)) ⟨by omega,by rw[Ac];omega,?_⟩⟩
 rw[Kt,Ac]
 refine Tm (fun i σ M'=>∃(d3 d4:Option D) (rows:List Str) (ss:List (Tp×Int)),σ=[some (.ref r),some (.ref M.length),some (.int (ss.length:Nat)),d3,d4]∧Kp M M'∧Z3 M' M.length=some (rows.map D.str)∧rows.length≤i∧rows++inR ss.length (cl (ls.drop i))=inR 0 (cl ls)∧Wk 89 ss (ls.drop i) []∧ss.length≤89∧∀x∈rows,x.length≤300) ⟨none,none,[],[],rfl,Ks.new _ _,Z5 _ _ [],Nat.le_refl _,rfl,hwk,Nat.zero_le _,fun x hx=>by cases hx⟩ ?_ ?_
 ·rintro i σ M' P hi ⟨d3,d4,rows,ss,rfl,k,e,hi',hR,w2,hss,hx⟩ hP
  obtain⟨l,hl1⟩:∃l,ls[i]?=some l:=⟨_,Ae hi⟩
  have e3:ls.drop i=l::ls.drop (i+1):=by rw[Dl hi];congr 1;rw[Ae hi] at hl1;exact Dd hl1
  rw[e3] at w2 hR
  obtain⟨wf,inn,s1,nx,hs1,w3⟩:=w2
  obtain⟨n1,n2⟩:=Zc3 nx
  have ll:=Ln.len wf
  have lb:=Za7 (k:=ss.length - bk l) (by omega)
  have ltM:=Z9 (Z1 e)
  have hr':=k.pL (Z1 hr)
  have at':(ls.map Ln.d)[i]?=some l.d:=by rw[As,hl1];rfl
  have nx2:∀(B:DEnv→Z2→Prop) (rows':List Str) (M2:Z2),Kp M M2→Z3 M2 M.length=some (rows'.map D.str)→rows'.length≤i+1→rows'++inR s1.length (cl (ls.drop (i+1)))=inR 0 (cl ls)→(∀x∈rows',x.length≤300)→tss ⟨K,Γ,G⟩ noX Yr {nx:=P,rt:=Q,bk:=B,ct:=P} [some (.ref r),some (.ref M.length),some (.int ((ss.length - bk l:Nat):Int)),some (.int i),some (.str (wd l))] M2:=by
   intro B rows' M2 k2 g1 g2 g3 g4
   have go:P [some (.ref r),some (.ref M.length),some (.int ((ss.length - bk l+fw l:Nat):Int)),some (.int i),some (.str (wd l))] M2:=by
    refine hP _ _ ⟨_,_,rows',s1,by rw[n1],k2,g1,g2,g3,w3,hs1,g4⟩
   have fq:=Yh9 l
   have we:=Zf5 l
   delta Yr
   walk_at "ev"
   simp only[gb]
   by_cases h:wd l="else"
   ·rw[decide_eq_true h] at we
    rw[show fw l=1 by rw[fq,←we];rfl] at go
    rw[if_neg (fun z=>z h),if_pos h]
    exact go
   ·rw[decide_eq_false h] at we
    rw[if_pos h]
    refine ix_l (k:=i) (k2.pL (Z1 hr)) at' ⟨l,rfl,?_⟩
    walk_at "ev"
    cases hB:l.beg with
    | true=>
     rw[show fw l=1 by rw[fq,←we,hB];rfl] at go
     exact go
    | false=>
     rw[show fw l=0 by rw[fq,←we,hB];rfl] at go
     exact go
  have nx3:∀B:DEnv→Z2→Prop,tss ⟨K,Γ,G⟩ noX Xn {nx:=P,rt:=Q,bk:=B,ct:=P} [some (.ref r),some (.ref M.length),some (.int ((ss.length - bk l:Nat):Int)),some (.int i),some (.str (wd l))] M':=by
   intro B
   have put:skp l (ls.drop (i+1))=false→((Za M' M.length).isSome=true∧MulOk "  " ((ss.length - bk l:Nat):Int)∧ixD M' (.ref r) (.int (i:Nat)) fun d=>E7 [d] M' (fun y M2=>opD .add (.str (Me "  " ((ss.length - bk l:Nat):Int))) y M2 fun d M1=>∃xs,Z3 M1 M.length=some xs∧xs.length<sizeLine∧tss ⟨K,Γ,G⟩ noX Yr {nx:=P,rt:=Q,bk:=B,ct:=P} [some (.ref r),some (.ref M.length),some (.int ((ss.length - bk l:Nat):Int)),some (.int i),some (.str (wd l))] (M1.set M.length (.lst (xs++[d])))) noX):=by
    intro hk
    refine⟨Zb (Z1 e),Yh0 _ (by omega),ix_l (k:=i) hr' at' ⟨l,rfl,wf,fun M2 k2=>?_⟩⟩
    walk_at "ev"
    have lb':(Me "  " ((ss.length - bk l:Nat):Int)).length≤180:=lb
    have e2:=k2.pW e
    refine⟨Z0 (by omega),_,e2,Z6 (by rw[Ac];omega),nx2 _ (rows++[bl (ss.length - bk l)++l.line]) _ ((k.trans k2).set (.inr (Nat.le_refl _))) ?_ (by rw[Ab,Aq];omega) ?_ fun x hx'=>?_⟩
    ·rw[Z8 (Z9 (Z1 e2)),Am]
     rfl
    ·have hR':=hR
     rw[show cl (l::ls.drop (i+1))=l::cl (ls.drop (i+1)) by rw[cl,hk];rfl] at hR'
     rw[Ay,←n1]
     exact hR'
    ·rcases Bk.mp hx' with hx' | hx'
     ·exact hx x hx'
     ·rw[An.mp hx',Z4]
      omega
   have we:=Zf5 l
   delta Xn
   walk_at "ev"
   simp only[gw]
   by_cases h:wd l="else"
   ·rw[decide_eq_true h] at we ⊢
    rw[if_pos (by decide)]
    obtain⟨l2,hl2⟩:∃l2,ls[i+1]?=some l2:=by
     cases e4:ls[i+1]? with
     | some l2=>exact⟨l2,rfl⟩
     | none=>
      rw[Ib (List.getElem?_eq_none_iff.mp e4)] at w3
      cases (show []=s1 from w3)
      cases l with
      | els=>obtain⟨tl,n,_,z⟩:=nx;simp at z
      | _=>cases we
    have e5:ls.drop (i+1)=l2::ls.drop (i+1+1):=by have hi2:=(Af.mp hl2).1;rw[Dl hi2];congr 1;rw[Ae hi2] at hl2;exact Dd hl2
    refine ix_l (k:=i+1) (d:=l2.d) hr' (by rw[As,hl2];rfl) ?_
    rw[d_eq l2]
    walk_at "ev"
    have w2:=Zx2 l2
    have le:l= .els:=by cases l<;>first | rfl | (cases we;done)
    by_cases h2:wd l2="done"
    ·rw[decide_eq_true h2] at w2
     have l2d:l2= .don:=by cases l2<;>first | rfl | (cases w2;done)
     rw[if_neg (fun z=>z h2)]
     refine nx2 _ rows _ k e (by omega) ?_ hx
     rw[show cl (l::ls.drop (i+1))=cl (ls.drop (i+1)) by rw[le,e5,l2d,cl];rfl] at hR
     rw[←n1,le]
     rw[le] at n2
     rw[show ss.length - bk .els+fw .els=ss.length by have:bk Ln.els=1:=rfl;have:fw Ln.els=1:=rfl;omega]
     exact hR
    ·rw[decide_eq_false h2] at w2
     rw[if_pos h2]
     exact put (by rw[le,e5];cases l2<;>first | rfl | (cases w2;done))
   ·rw[decide_eq_false h] at we ⊢
    rw[if_neg (by decide),if_pos h]
    exact put (by cases l<;>first | rfl | (cases we;done))
  rw[tg_one,Int.zero_add]
  delta S4
  walk_at "ev"
  refine ix_l (k:=i) hr' at' ?_
  rw[d_eq]
  walk_at "ev"
  have bq:=Yf7 l
  rw[←Zf5,←Zx2] at bq
  by_cases h1:wd l="done"
  ·rw[if_neg (fun z=>z h1),if_pos h1,show((ss.length:Nat):Int) - 1=((ss.length - bk l:Nat):Int) by rw[decide_eq_true h1,Bool.or_true,if_pos rfl] at bq;omega]
   exact nx3 _
  ·rw[if_pos h1]
   by_cases h2:wd l="else"
   ·rw[if_pos h2,show((ss.length:Nat):Int) - 1=((ss.length - bk l:Nat):Int) by rw[decide_eq_true h2,Bool.true_or,if_pos rfl] at bq;omega]
    exact nx3 _
   ·rw[if_neg h2]
    rw[decide_eq_false h1,decide_eq_false h2] at bq
    have:=nx3
    rw[show bk l=0 from bq,Nat.sub_zero] at this
    exact this _
 ·rintro σ M' ⟨d3,d4,rows,ss,rfl,k,e,hi',hR,w2,hss,hx⟩
  rw[Ib (Nat.le_refl _)] at w2 hR
  cases (show []=ss from w2)
  rw[show inR ([]:List (Tp×Int)).length (cl [])=[] from rfl,Db] at hR
  delta S7
  walk_at "ev"
  refine⟨_,Z1 e,Gq (by decide) hx (by have:=Nat.mul_le_mul_right 301 (show rows.length≤400 by omega);omega),?_⟩
  rw[hR]
  exact q _ k
end
theorem Wk.cl{m:Nat}:∀{ls:List Ln} {ss s1:List (Tp×Int)},Wk m ss ls s1→Wk m ss (K55.cl ls) s1
 | [],ss,s1,h=>h
 | l::ls,ss,s1,⟨a,b,t,c,d,e⟩=>by
  have ih:=Wk.cl e
  unfold K55.cl
  split
  ·rename_i hk
   match l,ls,hk with
   | .els,.don::ls,_=>
    obtain⟨tl,n,rfl,rfl⟩:=c
    obtain⟨a',b',t2,⟨x,hx⟩,d',e'⟩:=ih
    have ht:t2=tl:=(List.append_inj_left' hx rfl).symm
    subst ht
    exact⟨trivial,trivial,t2,⟨_,rfl⟩,d',e'⟩
  ·exact⟨a,b,t,c,d,ih⟩
theorem Zj6:∀ls:List Ln,nums (cl ls)=nums ls
 | []=>rfl
 | l::ls=>by
  have ih:=Zj6 ls
  unfold cl
  split
  ·rename_i hk
   match l,ls,hk with
   | .els,.don::ls,_=>exact ih
  ·cases l<;>simp only[nums,ih]
theorem Gd.cl{m:Nat}{ls:List Ln}(h:Gd m ls):Gd m (K55.cl ls):=⟨h.w.cl,by rw[Zj6];exact h.n⟩
theorem Zg6{m:Nat}{ls:List Ln}(h:Wk m [] ls []):nest (cl ls)=nest ls:=by
 unfold nest
 rw[Zw5 (fs:=[fr0]) (ts:=[]) ⟨[],rfl⟩ h.run]
theorem Zy8:∀{ls:List Ln} {ss s1:List (Tp×Int)},Wk 89 ss ls s1→ss.length≤89→(∀x∈inR ss.length ls,x.length≤300∧10∉Tt.L x)∧((inR ss.length ls).map O7).filter nz=ls.map Ln.line
 | [],ss,s1,h,hs=>⟨fun x hx=>(by cases hx),rfl⟩
 | l::ls,ss,s1,⟨a,b,t,c,d,e⟩,hs=>by
  obtain⟨n1,n2⟩:=Zc3 c
  obtain⟨i1,i2⟩:=Zy8 e d
  have ll:=Ln.len a
  have lb:=Za7 (k:=ss.length - bk l) (by omega)
  have eL:Tt.L (bl (ss.length - bk l)++l.line)=Df (2 * (ss.length - bk l)) 32++Tt.L l.line:=by rw[Tt.L_app];congr 1;exact bl_L _ (by omega)
  have e1:inR ss.length (l::ls)=(bl (ss.length - bk l)++l.line)::inR t.length ls:=by rw[←n1];rfl
  rw[e1]
  refine⟨fun x hx=>?_,?_⟩
  ·rcases Ag.mp hx with rfl | hx
   ·refine⟨by rw[Z4];omega,fun z=>?_⟩
    rw[eL] at z
    rcases Bk.mp z with z | z
    ·exact absurd (List.mem_replicate.mp z).2 (by decide)
    ·exact Ln.no10 a z
   ·exact i1 x hx
  ·rw[De,Zq5 a eL,List.filter_cons_of_pos (by unfold nz;simpa using Ln.ne a),i2]
   rfl
theorem Bj:∀ls:List Ln,(cl ls).length≤ls.length
 | []=>Nat.le_refl _
 | l::ls=>by
  have:=Bj ls
  unfold cl
  split
  ·rw[Aj];omega
  ·rw[Aj,Aj];omega
theorem Yd8:∀{ls:List Ln},0<ls.length→0< (cl ls).length
 | l::ls,_=>by
  unfold cl
  split
  ·rename_i hk
   match l,ls,hk with
   | .els,.don::ls,_=>exact Nat.succ_pos _
  ·exact Nat.succ_pos _
theorem Rw.cl{ls:List Ln}(h:Gd 89 ls):Rw (K55.cl ls) (inR 0 (K55.cl ls)):=by
 obtain⟨h1,h2⟩:=Zy8 h.cl.w (Nat.zero_le _)
 exact⟨h1,h2⟩
noncomputable def mT(c:Int):T:= .cho (.nm "x") "=" (.no (0 - c)) [] [.leaf (.sum "x" (.no c) "rest" (.nm "y2"))]
noncomputable def mL(c:Int):List Ln:=[.cond (.nm "x") "=" (.no (0 - c)),.els,.sum "x" (.no c) "rest" (.nm "y2"),.don]
theorem m_fl(c:Int):fl (mT c)=mL c:=rfl
theorem Yf5:Nam "y2":=by
 refine⟨⟨?_,?_⟩,by decide+kernel,by decide+kernel,by decide+kernel⟩
 ·have e:Tt.L ("y2":Str)=[121,50]:=by decide+kernel
  rw[e]
  intro c hc
  simp only[Ag,Dc,or_false] at hc
  rcases hc with rfl | rfl
  ·exact .inl ⟨by decide,by decide⟩
  ·exact .inr ⟨by decide,by decide⟩
 ·have e:Tt.L ("y2":Str)=[121,50]:=by decide+kernel
  rw[e]
  intro c hc
  cases hc
  exact⟨by decide,by decide⟩
theorem Ym1{c:Int}(h0:0≤c)(h:c<1000000000000000000):Wk 89 [] (mL c) []:=
 ⟨⟨Y54,by decide+kernel,show _<_∧_<_ from by omega⟩,trivial,[(.cif,-1)],rfl,by decide,trivial,trivial,[(.cel,-1)],⟨[],_,rfl,rfl⟩,by decide,⟨Y54,show _<_∧_<_ from by omega,by decide+kernel,Yf5⟩,trivial,[(.cel,-1)],rfl,by decide,trivial,trivial,[],⟨_,rfl⟩,by decide,rfl⟩
theorem Yl2(c:Int){rs:List Str}(h:rs≠[]):(("if x = ":Str)++(Opd.no (0 - c)).t++("\nelse\n  x = ":Str)++(Opd.no c).t++(" rest y2\ndone":Str))++("\n":Str)++Dx "\n" rs=Dx "\n" ((bl 0++(Ln.cond (.nm "x") "=" (.no (0 - c))).line)::(bl 0++Ln.els.line)::(bl 1++(Ln.sum "x" (.no c) "rest" (.nm "y2")).line)::(bl 0++Ln.don.line)::rs):=by
 have jl:∀(x y:Str) (r:List Str),Dx "\n" (x::y::r)=x++"\n"++Dx "\n" (y::r):=fun x y r=>by rw[tj,tj];rfl
 have jk:∀(x:Str) (r:List Str),r≠[]→Dx "\n" (x::r)=x++"\n"++Dx "\n" r:=fun x r h=>by cases r with | nil=>exact absurd rfl h | cons y r=>exact jl x y r
 rw[jl,jl,jl,jk _ _ h]
 unfold Ln.line Ln.ws
 rw[jn,jn,jn,jn,jn,jn,jn,tj,tj,tj,tj]
 rw[show bl 0="" from by decide+kernel,show bl 1="  " from by decide+kernel,show("if x = ":Str)="if"++" "++("x"++" "++("="++" ")) by decide+kernel,show("\nelse\n  x = ":Str)="\n"++"else"++"\n"++"  "++"x"++" "++"="++" " by decide+kernel,show(" rest y2\ndone":Str)=" "++"rest"++" "++"y2"++"\n"++"done" by decide+kernel]
 refine Tt.L_ext ?_
 simp only[Tt.L_app,Ay]
 rfl
section
variable{K:Ad}{Γ:List DSp}{G:List D}
theorem Zx1{C:Nat→Prop}{M:Z2}{m r:Nat}{ls:List Ln}{Q:DK}{Z:DX}(F:Fm C M m (nest ls) r)(hg:Gd 89 ls)(hl:ls.length≤400)(q:∀M',Kp M M'→Q (.str (Dx "\n" (inR 0 (cl ls)))) M'):Vn [.ref r] M Q Z:=by
 obtain⟨ds,e,rt⟩:=F.e
 have ec:=B0 hg.w.run
 refine⟨C,nest ls,r,ds,rfl,e,rt,fun c hc=>(F.c c hc).2,?_,?_,?_⟩
 ·rw[ec];have:=Bj ls;omega
 ·rw[ec];exact hg.w.cl
 ·rw[ec];exact q
theorem Yn0(gw:Γ[27]?=some Vn)(gd:Γ[48]?=some Qd){C:Nat→Prop}{ls:List Ln}{M:Z2}{m r:Nat}{x:D}{ds:List D}{v0 v1 v4 v5 v6:Option D}{Q:DK}(e:Z3 M r=some (x::ds))(F:Fm C (M.set r (.lst ds)) m (nest ls) r)(hl:ls.length≤400)(hg:Gd 89 ls)(q:∀M',Q (.bl true) M'):
  tss ⟨K,Γ,G⟩ noX Em {nx:=fun _ M=>Q .non M,rt:=Q} [v0,v1,some (.ref r),some (.str (Dx "\n" (inR 0 (cl ls)))),v4,v5,v6] M:=by
 delta Em
 walk_at "ev"
 simp only[gw,gd]
 refine⟨Zb (Z1 e),_,x,0,rfl,e,rfl,Zx1 F hg hl fun M1 k1=>⟨_,_,rfl,?_⟩⟩
 rw[decide_eq_true rfl]
 refine⟨Z0 (by decide),fun _=>False,[],_,[],rfl,Z5 _ _ [],rfl,fun c hc=>hc.elim,Nat.zero_le _,rfl,fun M2 k2=>⟨_,_,rfl,?_⟩⟩
 rw[decide_eq_true (by decide+kernel)]
 exact q _
theorem Yk7(gr:Γ[28]?=some C9)(gw:Γ[27]?=some Vn)(gd:Γ[48]?=some Qd){C:Nat→Prop}{ls:List Ln}{M:Z2}{m r a:Nat}{v1 v4:Option D}{Q:DK}(hs:Scr M a)(F:Fm C M m (nest ls) r)(h0:0<ls.length)(hl:ls.length≤400)(hg:Gd 89 ls)(q:∀M',Q (.bl true) M'):
  tss ⟨K,Γ,G⟩ noX Ca {nx:=fun _ M=>Q .non M,rt:=Q} [some (.ref a),v1,some (.ref r),some (.str (Dx "\n" (inR 0 (cl ls)))),v4,none,none] M:=by
 delta Ca
 walk_at "ev"
 simp only[gr,gw,gd]
 refine⟨a,5,rfl,hs,fun v _=>?_⟩
 try walk_at "ev"
 have p18:CPow 10 18:=⟨by decide,by decide,by decide⟩
 obtain⟨c,hc,c0,c1⟩:∃c,qmod v (10 ^ Int.toNat 18)=c∧0≤c∧c<1000000000000000000:=⟨_,rfl,by rw[show(10:Int) ^ Int.toNat 18=1000000000000000000 by decide,qm (by decide)];omega,by rw[show(10:Int) ^ Int.toNat 18=1000000000000000000 by decide,qm (by decide)];omega⟩
 rw[hc]
 obtain⟨ds,e,rt⟩:=F.e
 have rl:=Z9 (Z1 e)
 have hdl:=rt.len
 have okc:(Opd.no c).ok:=⟨by omega,by omega⟩
 have okn:(Opd.no (0 - c)).ok:=⟨by omega,by omega⟩
 have t1:Str.ofString (toString c)=(Opd.no c).t:=rfl
 have t2:Str.ofString (toString (0 - c))=(Opd.no (0 - c)).t:=rfl
 have s1:=Opd.len okc
 have s2:=Opd.len okn
 rw[t1,t2]
 have lg:∀i:Int,(Opd.no i).ok→i.natAbs.log2<1920:=fun i h=>by
  obtain⟨h1,h2⟩:-1000000000000000000<i∧i<1000000000000000000:=h
  exact Nat.lt_trans (Xd (show i.natAbs<2 ^ 64 by omega) (by decide)) (by decide)
 have z1:("if x = ":Str).length=7:=rfl
 have z2:("\nelse\n  x = ":Str).length=12:=rfl
 have z3:(" rest y2\ndone":Str).length=13:=rfl
 have z4:("\n":Str).length=1:=rfl
 have R:=Rw.cl hg
 have jl:=Er "\n" (by decide) (B:=300) fun x hx=>(R.x x hx).1
 have il:(inR 0 (cl ls)).length=(cl ls).length:=Ci _ _
 have cll:=Bj ls
 have jl2:=Nat.mul_le_mul_right 301 (show(inR 0 (cl ls)).length≤400 by omega)
 have cne:inR 0 (cl ls)≠[]:=fun z=>by have:=Yd8 h0;rw[z] at il;simp at il;omega
 have nl:(nest ls).length≤400:=by have:=Sg (nest ls);rw[B0 hg.w.run] at this;omega
 refine⟨p18,by decide,Zb (Z1 e),Z0 (by decide),Z0 (by decide),Z0 (by decide),Z0 (by decide),ds,0,rfl,Z7 (Z7 e),Nat.zero_le _,Z6 (by omega),lg _ okn,Z0 (by omega),Z0 (by simp only[Z4];omega),lg _ okc,Z0 (by simp only[Z4];omega),Z0 (by simp only[Z4];omega),?_⟩
 obtain⟨X,hX⟩:∃X:D,X= .tup [.str "choice",.str "x",.str "=",.int (0 - c),.ref M.length,.ref (M.length+1)]:=⟨_,rfl⟩
 obtain⟨S,hS⟩:∃S:Z2,S=M++[Cell.lst []]++[Cell.lst [D.tup [.str "sum",.str "x",.int c,.str "rest",.str "y2"]]]:=⟨_,rfl⟩
 have lS:S.length=M.length+2:=by rw[hS];simp
 have kS:Kp M S:=by rw[hS];exact(Ks.new _ _).app _
 have r1:Z3 S M.length=some []:=by rw[hS];exact Z7 (Z5 _ _ [])
 have r2:Z3 S (M.length+1)=some [.tup [.str "sum",.str "x",.int c,.str "rest",.str "y2"]]:=by
  have:(M++[Cell.lst []]).length=M.length+1:=by simp
  rw[hS,←this]
  exact Z5 _ _ []
 rw[show(M++[Cell.lst []]).length=M.length+1 by simp,List.take_zero,List.drop_zero,Dv,←hX,←hS]
 obtain⟨T',hT⟩:∃T':Z2,T'=S.set r (.lst (X::ds)):=⟨_,rfl⟩
 rw[←hT]
 have eT:Z3 T' r=some (X::ds):=by rw[hT];exact Z8 (by omega)
 have kT:∀b,b≠r→T'[b]?=S[b]?:=fun b hb=>by rw[hT];exact Y8 (fun z=>hb z.symm)
 have lT:T'.length=M.length+2:=by rw[hT,Az,lS]
 have nC:∀b,C b→b≠r:=fun b hb z=>F.n.1 (z ▸ hb)
 have lC:∀b,C b→b<M.length:=fun b hb=>(F.c b hb).2
 have rtT:RTs C T' (nest ls) ds:=rt.keep (fun _ h=>h) fun b hb=>(kT b (nC b hb)).trans (kS.at' b (fun z=>z) (lC b hb))
 have RT':RTs (fun b=>C b∨b=M.length∨b=M.length+1) T' (mT c::nest ls) (X::ds):=
  ⟨X,ds,rfl,⟨M.length,M.length+1,[],_,hX,.inr (.inl rfl),.inr (.inr rfl),by rw[Zh (kT _ (by omega))];exact r1,rfl,by rw[Zh (kT _ (by omega))];exact r2,_,[],rfl,⟨rfl,rfl,rfl⟩,rfl⟩,rtT.keep (fun _ h=> .inl h) fun _ _=>rfl⟩
 have eL:fls (mT c::nest ls)=mL c++cl ls:=by rw[Y6,m_fl,B0 hg.w.run]
 refine⟨_,mT c::nest ls,r,X::ds,rfl,eT,RT',fun b hb=>?_,?_,?_,fun M1 k1=>?_⟩
 ·rw[lT]
  rcases hb with hb | hb | hb
  ·have:=lC b hb;omega
  ·omega
  ·omega
 ·rw[eL,Ab];show 4+_≤_;omega
 ·rw[eL];exact(Ym1 c0 c1).app hg.w.cl
 ·refine⟨Z0 (by simp only[Z4];omega),Z0 (by simp only[Z4];omega),_,_,rfl,?_⟩
  rw[Yl2 c cne,eL]
  have eI:inR 0 (mL c++cl ls)=(bl 0++(Ln.cond (.nm "x") "=" (.no (0 - c))).line)::(bl 0++Ln.els.line)::(bl 1++(Ln.sum "x" (.no c) "rest" (.nm "y2")).line)::(bl 0++Ln.don.line)::inR 0 (cl ls):=rfl
  rw[eI,decide_eq_true rfl]
  try walk_at "ev"
  refine Yn0 (C:=C) (m:=m) gw gd (k1.pW eT) ⟨⟨ds,Z8 (Nat.lt_of_lt_of_le (by omega) k1.len),rtT.keep (fun _ h=>h) fun b hb=>?_⟩,fun b hb=>⟨(F.c b hb).1,?_⟩,F.n⟩ hl hg q
  ·rw[Y8 (fun z=>nC b hb z.symm)]
   exact k1.at' b (fun z=>z) (by have:=lC b hb;omega)
  ·rw[Az]
   have:=lC b hb
   have:=k1.len
   omega
theorem Yc3(gr:Γ[28]?=some C9)(gw:Γ[27]?=some Vn)(gd:Γ[48]?=some Qd)(gt:Γ[47]?=some Qy)(gn:Γ[42]?=some Rx)(gf:Γ[25]?=some Wu)(ga:Γ[43]?=some (Vk 180)){ls:List Ln}{M:Z2}{a lr:Nat}{Q:DK}(hs:Scr M a)(hr:Z3 M lr=some (ls.map Ln.d))(h0:0<ls.length)(hl:ls.length≤400)(hg:Gd 89 ls)(q:∀M',Q (.bl true) M'):
  tss ⟨K,Γ,G⟩ noX E9 {nx:=fun _ M=>Q .non M,rt:=Q} [some (.ref a),some (.ref lr),none,none,none,none,none] M:=by
 delta E9
 walk_at "ev"
 simp only[gn,gt,gw,gd,ga]
 refine⟨lr,ls,rfl,Z1 hr,hl,hg.w.run,fun C M1 r k1 F1=>?_⟩
 try walk_at "ev"
 refine⟨lr,ls,rfl,k1.pW hr,hg.w,hl,fun M2 k2=>?_⟩
 try walk_at "ev"
 refine Zx1 (F1.keep k2) hg hl fun M3 k3=>?_
 try walk_at "ev"
 refine⟨_,_,rfl,?_⟩
 rw[decide_eq_true rfl]
 try walk_at "ev"
 have k13:=(k1.trans k2).trans k3
 refine⟨lr,ls,rfl,Z1 (k13.pW hr),hl,hg.w.run,fun C4 M4 r4 k4 F4=>?_⟩
 try walk_at "ev"
 have F1':=((F1.keep k2).keep k3).keep k4
 refine⟨_,_,rfl,Zl2 hg.w F1' F4,?_⟩
 try walk_at "ev"
 delta Zh1
 walk_at "ev"
 simp only[gf,ga]
 have R:=Rw.cl hg
 have il:(inR 0 (cl ls)).length=(cl ls).length:=Ci _ _
 have cll:=Bj ls
 have cne:inR 0 (cl ls)≠[]:=fun z=>by have:=Yd8 h0;rw[z] at il;simp at il;omega
 refine⟨inR 0 (cl ls),cl ls,rfl,R,cne,by omega,hg.cl,by omega,fun C5 M5 r5 k5 F5=>?_⟩
 try walk_at "ev"
 rw[Zg6 hg.w] at F5
 have F6:=F1'.keep k5
 refine⟨_,_,rfl,Zl2 hg.w F5 F6,?_⟩
 try walk_at "ev"
 exact Yk7 gr gw gd (hs.ks ((k13.trans k4).trans k5) fun z=>z) F6 h0 hl hg q
theorem Yl0(gr:Γ[28]?=some C9)(gm:Γ[29]?=some Z53)(gl:Γ[41]?=some Ea)(gp:Γ[44]?=some Za1)(gv:Γ[45]?=some Gb)(gw:Γ[27]?=some Vn)(gd:Γ[48]?=some Qd)(gt:Γ[47]?=some Qy)(gn:Γ[42]?=some Rx)(gf:Γ[25]?=some Wu)(ga:Γ[43]?=some (Vk 180)):Rd K Γ G Z66 Y44 Zt9:=by
 rintro ds M Q Z ⟨ns,rfl,rfl,hn,_,q⟩
 have hm:Za [.frz (ns.map .int)] 0=some (ns.map .int):=rfl
 generalize [Cell.frz (ns.map .int)]=M at hm ⊢
 have hs:Scr M 0:=⟨ns,hm,hn⟩
 delta Y44 Zt9
 walk_at "ev"
 refine Zk hm ?_
 walk_at "ev"
 simp only[gl]
 rw[Ac]
 obtain⟨many,h1,h60,em⟩:∃many:Nat,1≤many∧many≤60∧(if (if (60:Int)< (ns.length:Int) then(60:Int) else(ns.length:Int)) >1 then(if (60:Int)< (ns.length:Int) then(60:Int) else(ns.length:Int)) else 1)=many:=by
  refine⟨(if (if (60:Int)< (ns.length:Int) then(60:Int) else(ns.length:Int)) >1 then(if (60:Int)< (ns.length:Int) then(60:Int) else(ns.length:Int)) else 1).toNat,?_,?_,?_⟩
  ·split<;>split at * <;>omega
  ·split<;>split at * <;>omega
  ·rw[Lf]
   split<;>split at * <;>omega
 rw[em]
 refine⟨0,many,ns,rfl,hm,hn,h60,fun ls M1 r1 dr hl hml k1 e1 m1=>?_⟩
 have G0:=dr.gd hl
 try walk_at "ev"
 simp only[gm,gv,gp]
 have hs1:Scr M1 0:=hs.ks k1 fun z=>z
 refine⟨0,951,rfl,hs1,by decide,fun v hv _=>?_⟩
 walk_at "ev"
 refine⟨Zi (by decide) (by decide),?_⟩
 have G1:Gd 89 ls:=⟨G0.w.mono (by decide),G0.n⟩
 split
 ·refine⟨0,952,rfl,hs1,by decide,fun u hu _=>?_⟩
  try walk_at "ev"
  refine⟨r1,ls,rfl,Z1 e1,G0.w,fun d d1 d61 wd=>?_⟩
  try walk_at "ev"
  refine⟨r1,u,90 - d,d - 1,ls,by rw[show(90:Int) - d=((90 - d:Nat):Int) by omega],e1,⟨wd,G0.n⟩,hl,by omega,fun ms M2 r2 g2 l2 l2' k2 e2=>?_⟩
  exact Yc3 gr gw gd gt gn gf ga (hs1.ks k2 fun z=>z) e2 (by omega) (by omega) g2 q
 ·exact Yc3 gr gw gd gt gn gf ga hs1 e1 (by omega) (by omega) G1 q
end
theorem ad{P:Program}{w:World}{K:Ad}{mg:Str→Option Value}{base:Heap}{Γ:List DSp}{G:List D}{FN GN BN:List Str}{lv:Nat}{x:Str}{st:Stmt}{ps N:List Str}{b:Ss}{sp:DSp}(Pr:Prg P w K mg base ⟨K,Γ,G⟩ FN GN BN lv)(n:Nat)(T:DW K mg x st ps)(r:Rd K Γ G sp b N)(S:FnScope N ps (Zt st):=by exact⟨rfl,rfl,rfl,by decide+kernel,rfl,by decide+kernel,by decide+kernel⟩)(hc:Nr (ck0 N st FN GN BN) b (X0 st)=true:=by decide+kernel)
  (hl:∀ds M Q Z,sp ds M Q Z→ds.length=ps.length:=by(rintro _ _ _ _ h;first | (obtain⟨_,rfl,_⟩:=h;rfl) | (obtain⟨_,_,rfl,_⟩:=h;rfl) | (obtain⟨_,_,_,rfl,_⟩:=h;rfl) | (obtain⟨_,_,_,_,rfl,_⟩:=h;rfl) | (obtain⟨_,_,_,_,_,rfl,_⟩:=h;rfl) | (obtain⟨_,_,_,_,_,_,rfl,_⟩:=h;rfl) | (obtain⟨rfl,_⟩:=h;rfl) | (obtain⟨_,_,_,_,_,_,_,rfl,_⟩:=h;rfl) | (obtain⟨_,_,_,_,_,_,_,_,rfl,_⟩:=h;rfl))) (hx:FN[n]?=some x:=by rfl):Prg P w K mg base ⟨K,Γ.set n sp,G⟩ FN GN BN (lv+1):=Pr.add n hx (fn0 Pr T.F S hc hl r) (Nat.le_refl _) (Nat.le_succ _) T.g T.k T.b
section
variable{K:Ad}{mg:Str→Option Value}(T0:DW K mg "line_of" Zj7 ["statement"])(T1:DW K mg "told_within" Jo ["statement"])(T2:DW K mg "lines_of" Z36 ["form"])(T3:DW K mg "is_within" B2 ["line","opened"])(T4:DW K mg "keep_within" Js ["lines"])(T5:DW K mg "sound" Y42 ["form"])(T6:DW K mg "lists_in" Z67 ["line"])(T7:DW K mg "form_of" Zc7 ["lines"])(T8:DW K mg "is_made_of" Fn ["word","signs"])(T9:DW K mg "is_name" Ze2 ["word"])(T10:DW K mg "are_figures" Nw ["word","most"])(T11:DW K mg "read_number" Nv ["word"])(T12:DW K mg "read_below_nought" Vl ["figures"])(T13:DW K mg "read_whole" Gn ["word"])(T14:DW K mg "read_operand" O1 ["word"])(T15:DW K mg "read_asked" Gc ["words","signs"])(T16:DW K mg "read_sum" Z77 ["words"])(T17:DW K mg "read_test" B1 ["words"])(T18:DW K mg "written_sum" J1 ["name","one","sign","other"])(T19:DW K mg "written_test" O2 ["one","sign","other"])(T20:DW K mg "led_by" Zo1 ["kind","asked"])(T21:DW K mg "read_numbered" Ps ["words"])(T22:DW K mg "read_line" C1 ["words"])(T23:DW K mg "has_place" Cj ["line","opened"])(T24:DW K mg "read_lines" Gm ["texts"])(T25:DW K mg "read_form" Ec ["text"])(T26:DW K mg "written_line" O6 ["line"])(T27:DW K mg "written_form" O9 ["form"])(T28:DW K mg "_law_raw" Yg5 ["_law_script","_law_k"])(T29:DW K mg "_law_mix" Yh3 ["_law_script","_law_k"])(T30:DW K mg "_law_kept" Y53 [])(T31:DW K mg "_law_sign" Y80 ["_law_number","_law_first_here"])(T32:DW K mg "_law_word" Y34 ["_law_number","_law_size"])(T33:DW K mg "_law_names" Zo7 ["_law_script"])(T34:DW K mg "_law_operand" Z35 ["_law_script","_law_k","_law_names_here","_law_number"])(T35:DW K mg "_law_begins" Z91 ["_law_line"])(T36:DW K mg "_law_deed" Y30 ["_law_script","_law_k","_law_names_here","_law_number"])(T37:DW K mg "_law_goes" Y04 ["_law_stack","_law_number"])(T38:DW K mg "_law_first" Zq1 ["_law_script"])(T39:DW K mg "_law_close" Zu1 ["_law_stack","_law_number"])(T40:DW K mg "_law_step" Y26 ["_law_script","_law_k","_law_names_here","_law_stack"])(T41:DW K mg "_law_lines" Zn5 ["_law_script","_law_many"])(T42:DW K mg "_law_nested" Zl7 ["_law_lines_here"])(T43:DW K mg "_law_alike" Zn3 ["_law_found","_law_due"])(T44:DW K mg "_law_depth" Zs2 ["_law_lines_here"])(T45:DW K mg "_law_wrapped" Z42 ["_law_lines_here","_law_number","_law_many"])(T46:DW K mg "_law_words" Zo8 ["_law_line"])(T47:DW K mg "_law_due_text" Cs ["_law_lines_here"])(T48:DW K mg "_law_due_of" Zg5 ["_law_found","_law_due"])
include T0 T1 T2 T3 T4 T5 T6 T7 T8 T9 T10 T11 T12 T13 T14 T15 T16 T17 T18 T19 T20 T21 T22 T23 T24 T25 T26 T27 T28 T29 T30 T31 T32 T33 T34 T35 T36 T37 T38 T39 T40 T41 T42 T43 T44 T45 T46 T47 T48
set_option maxHeartbeats 0 in
theorem Yf8{P:Program}{w:World}{base:Heap}(T49:DW K mg "law" C3 ["_law_script"])(Q_ELSE:∃a,mg "ELSE"=some (.ref a)∧∃(o:Obj) (its:Array Value) (n:Nat),K.lookup a=some o∧o.cls= .type "tuple"∧o.data= .seq its n∧its.size≤sizeLine∧Vals [.str "else"] its.toList)(Q_DONE:∃a,mg "DONE"=some (.ref a)∧∃(o:Obj) (its:Array Value) (n:Nat),K.lookup a=some o∧o.cls= .type "tuple"∧o.data= .seq its n∧its.size≤sizeLine∧Vals [.str "done"] its.toList)(Q_OPENERS:∃a,mg "OPENERS"=some (.ref a)∧∃(o:Obj) (its:Array Value) (n:Nat),K.lookup a=some o∧o.cls= .type "tuple"∧o.data= .seq its n∧its.size≤sizeLine∧Vals [.str "choice",.str "round",.str "part"] its.toList)(Q_KEPT:∃a,mg "KEPT"=some (.ref a)∧∃(o:Obj) (its:Array Value) (n:Nat),K.lookup a=some o∧o.cls= .type "tuple"∧o.data= .seq its n∧its.size≤sizeLine∧Vals [.str "if",.str "jump",.str "end",.str "rest",.str "round",.str "part",.str "leave",.str "again",.str "else",.str "done"] its.toList)(Q_SIGNS_OF_SUMS:∃a,mg "SIGNS_OF_SUMS"=some (.ref a)∧∃(o:Obj) (its:Array Value) (n:Nat),K.lookup a=some o∧o.cls= .type "tuple"∧o.data= .seq its n∧its.size≤sizeLine∧Vals [.str "+",.str "-",.str "/",.str "rest",.str "&",.str "^"] its.toList)(Q_SIGNS_OF_TESTS:∃a,mg "SIGNS_OF_TESTS"=some (.ref a)∧∃(o:Obj) (its:Array Value) (n:Nat),K.lookup a=some o∧o.cls= .type "tuple"∧o.data= .seq its n∧its.size≤sizeLine∧Vals [.str "<",.str "="] its.toList)(Q_MOST_NUMBER:∃tk,mg "MOST_NUMBER"=some (.int 9999 tk))(Q_MOST_SIGNS_OF_NAME:∃tk,mg "MOST_SIGNS_OF_NAME"=some (.int 8 tk))(Q_MOST_FIGURES_OF_NUMBER:∃tk,mg "MOST_FIGURES_OF_NUMBER"=some (.int 4 tk))(Q_MOST_FIGURES_OF_OPERAND:∃tk,mg "MOST_FIGURES_OF_OPERAND"=some (.int 18 tk))(Q_MOST_LINES:∃tk,mg "MOST_LINES"=some (.int 400 tk))(Q_MOST_LISTS:∃tk,mg "MOST_LISTS"=some (.int 90 tk))(Q_LETTERS:∃tk,mg "LETTERS"=some (.str "abcdefghijklmnopqrstuvwxyz" tk))(Q_FIGURES:∃tk,mg "FIGURES"=some (.str "0123456789" tk))(hz:∀x∈BN,mg x=none):FnOk P w K mg base (CX1 P w) 230 T49.a T49.d ["_law_script"] (spF K Z66):=by
 have PZ:Prg P w K mg base ⟨K,[bot,bot,bot,bot,bot,bot,bot,bot,bot,bot,bot,bot,bot,bot,bot,bot,bot,bot,bot,bot,bot,bot,bot,bot,bot,bot,bot,bot,bot,bot,bot,bot,bot,bot,bot,bot,bot,bot,bot,bot,bot,bot,bot,bot,bot,bot,bot,bot,bot,bot],[.gtup [.str "else"],.gtup [.str "done"],.gtup [.str "choice",.str "round",.str "part"],.int 9999,.str "abcdefghijklmnopqrstuvwxyz",.str "0123456789",.gtup [.str "if",.str "jump",.str "end",.str "rest",.str "round",.str "part",.str "leave",.str "again",.str "else",.str "done"],.int 8,.int 4,.int 18,.gtup [.str "+",.str "-",.str "/",.str "rest",.str "&",.str "^"],.gtup [.str "<",.str "="],.int 400,.int 90]⟩ FN GN BN 0:=Prg.zero (all_cons ⟨_,_,_,T0.g,T0.k,T0.b⟩ (all_cons ⟨_,_,_,T1.g,T1.k,T1.b⟩ (all_cons ⟨_,_,_,T2.g,T2.k,T2.b⟩ (all_cons ⟨_,_,_,T3.g,T3.k,T3.b⟩ (all_cons ⟨_,_,_,T4.g,T4.k,T4.b⟩ (all_cons ⟨_,_,_,T5.g,T5.k,T5.b⟩ (all_cons ⟨_,_,_,T6.g,T6.k,T6.b⟩ (all_cons ⟨_,_,_,T7.g,T7.k,T7.b⟩ (all_cons ⟨_,_,_,T8.g,T8.k,T8.b⟩ (all_cons ⟨_,_,_,T9.g,T9.k,T9.b⟩ (all_cons ⟨_,_,_,T10.g,T10.k,T10.b⟩ (all_cons ⟨_,_,_,T11.g,T11.k,T11.b⟩ (all_cons ⟨_,_,_,T12.g,T12.k,T12.b⟩ (all_cons ⟨_,_,_,T13.g,T13.k,T13.b⟩ (all_cons ⟨_,_,_,T14.g,T14.k,T14.b⟩ (all_cons ⟨_,_,_,T15.g,T15.k,T15.b⟩ (all_cons ⟨_,_,_,T16.g,T16.k,T16.b⟩ (all_cons ⟨_,_,_,T17.g,T17.k,T17.b⟩ (all_cons ⟨_,_,_,T18.g,T18.k,T18.b⟩ (all_cons ⟨_,_,_,T19.g,T19.k,T19.b⟩ (all_cons ⟨_,_,_,T20.g,T20.k,T20.b⟩ (all_cons ⟨_,_,_,T21.g,T21.k,T21.b⟩ (all_cons ⟨_,_,_,T22.g,T22.k,T22.b⟩ (all_cons ⟨_,_,_,T23.g,T23.k,T23.b⟩ (all_cons ⟨_,_,_,T24.g,T24.k,T24.b⟩ (all_cons ⟨_,_,_,T25.g,T25.k,T25.b⟩ (all_cons ⟨_,_,_,T26.g,T26.k,T26.b⟩ (all_cons ⟨_,_,_,T27.g,T27.k,T27.b⟩ (all_cons ⟨_,_,_,T28.g,T28.k,T28.b⟩ (all_cons ⟨_,_,_,T29.g,T29.k,T29.b⟩ (all_cons ⟨_,_,_,T30.g,T30.k,T30.b⟩ (all_cons ⟨_,_,_,T31.g,T31.k,T31.b⟩ (all_cons ⟨_,_,_,T32.g,T32.k,T32.b⟩ (all_cons ⟨_,_,_,T33.g,T33.k,T33.b⟩ (all_cons ⟨_,_,_,T34.g,T34.k,T34.b⟩ (all_cons ⟨_,_,_,T35.g,T35.k,T35.b⟩ (all_cons ⟨_,_,_,T36.g,T36.k,T36.b⟩ (all_cons ⟨_,_,_,T37.g,T37.k,T37.b⟩ (all_cons ⟨_,_,_,T38.g,T38.k,T38.b⟩ (all_cons ⟨_,_,_,T39.g,T39.k,T39.b⟩ (all_cons ⟨_,_,_,T40.g,T40.k,T40.b⟩ (all_cons ⟨_,_,_,T41.g,T41.k,T41.b⟩ (all_cons ⟨_,_,_,T42.g,T42.k,T42.b⟩ (all_cons ⟨_,_,_,T43.g,T43.k,T43.b⟩ (all_cons ⟨_,_,_,T44.g,T44.k,T44.b⟩ (all_cons ⟨_,_,_,T45.g,T45.k,T45.b⟩ (all_cons ⟨_,_,_,T46.g,T46.k,T46.b⟩ (all_cons ⟨_,_,_,T47.g,T47.k,T47.b⟩ (all_cons ⟨_,_,_,T48.g,T48.k,T48.b⟩ (all_cons ⟨_,_,_,T49.g,T49.k,T49.b⟩ (all_nil))))))))))))))))))))))))))))))))))))))))))))))))))) rfl (by intro sp h;simp only[Ag,Dc,or_false,or_self] at h;exact h) (fun g x d h1 h2=>match g,h1,h2 with | 0,h1,h2=>by cases h1;cases h2;obtain⟨a,e,r⟩:=Q_ELSE;exact⟨.ref a,_,e,rfl,fun w hw=>Yo.mpr ⟨a,_,rfl,.inr (by rw[hw];exact r),(RDs.cons (Zc.mpr rfl) (RDs.nil w))⟩⟩ | 1,h1,h2=>by cases h1;cases h2;obtain⟨a,e,r⟩:=Q_DONE;exact⟨.ref a,_,e,rfl,fun w hw=>Yo.mpr ⟨a,_,rfl,.inr (by rw[hw];exact r),(RDs.cons (Zc.mpr rfl) (RDs.nil w))⟩⟩ | 2,h1,h2=>by cases h1;cases h2;obtain⟨a,e,r⟩:=Q_OPENERS;exact⟨.ref a,_,e,rfl,fun w hw=>Yo.mpr ⟨a,_,rfl,.inr (by rw[hw];exact r),(RDs.cons (Zc.mpr rfl) (RDs.cons (Zc.mpr rfl) (RDs.cons (Zc.mpr rfl) (RDs.nil w))))⟩⟩ | 3,h1,h2=>by cases h1;cases h2;obtain⟨tk,e⟩:=Q_MOST_NUMBER;exact⟨.int 9999,_,e,⟨tk,rfl⟩,fun w _=>Zg.mpr rfl⟩ | 4,h1,h2=>by cases h1;cases h2;obtain⟨tk,e⟩:=Q_LETTERS;exact⟨.str _,_,e,⟨tk,rfl⟩,fun w _=>Zc.mpr rfl⟩ | 5,h1,h2=>by cases h1;cases h2;obtain⟨tk,e⟩:=Q_FIGURES;exact⟨.str _,_,e,⟨tk,rfl⟩,fun w _=>Zc.mpr rfl⟩ | 6,h1,h2=>by cases h1;cases h2;obtain⟨a,e,r⟩:=Q_KEPT;exact⟨.ref a,_,e,rfl,fun w hw=>Yo.mpr ⟨a,_,rfl,.inr (by rw[hw];exact r),(RDs.cons (Zc.mpr rfl) (RDs.cons (Zc.mpr rfl) (RDs.cons (Zc.mpr rfl) (RDs.cons (Zc.mpr rfl) (RDs.cons (Zc.mpr rfl) (RDs.cons (Zc.mpr rfl) (RDs.cons (Zc.mpr rfl) (RDs.cons (Zc.mpr rfl) (RDs.cons (Zc.mpr rfl) (RDs.cons (Zc.mpr rfl) (RDs.nil w)))))))))))⟩⟩ | 7,h1,h2=>by cases h1;cases h2;obtain⟨tk,e⟩:=Q_MOST_SIGNS_OF_NAME;exact⟨.int 8,_,e,⟨tk,rfl⟩,fun w _=>Zg.mpr rfl⟩ | 8,h1,h2=>by cases h1;cases h2;obtain⟨tk,e⟩:=Q_MOST_FIGURES_OF_NUMBER;exact⟨.int 4,_,e,⟨tk,rfl⟩,fun w _=>Zg.mpr rfl⟩ | 9,h1,h2=>by cases h1;cases h2;obtain⟨tk,e⟩:=Q_MOST_FIGURES_OF_OPERAND;exact⟨.int 18,_,e,⟨tk,rfl⟩,fun w _=>Zg.mpr rfl⟩ | 10,h1,h2=>by cases h1;cases h2;obtain⟨a,e,r⟩:=Q_SIGNS_OF_SUMS;exact⟨.ref a,_,e,rfl,fun w hw=>Yo.mpr ⟨a,_,rfl,.inr (by rw[hw];exact r),(RDs.cons (Zc.mpr rfl) (RDs.cons (Zc.mpr rfl) (RDs.cons (Zc.mpr rfl) (RDs.cons (Zc.mpr rfl) (RDs.cons (Zc.mpr rfl) (RDs.cons (Zc.mpr rfl) (RDs.nil w)))))))⟩⟩ | 11,h1,h2=>by cases h1;cases h2;obtain⟨a,e,r⟩:=Q_SIGNS_OF_TESTS;exact⟨.ref a,_,e,rfl,fun w hw=>Yo.mpr ⟨a,_,rfl,.inr (by rw[hw];exact r),(RDs.cons (Zc.mpr rfl) (RDs.cons (Zc.mpr rfl) (RDs.nil w)))⟩⟩ | 12,h1,h2=>by cases h1;cases h2;obtain⟨tk,e⟩:=Q_MOST_LINES;exact⟨.int 400,_,e,⟨tk,rfl⟩,fun w _=>Zg.mpr rfl⟩ | 13,h1,h2=>by cases h1;cases h2;obtain⟨tk,e⟩:=Q_MOST_LISTS;exact⟨.int 90,_,e,⟨tk,rfl⟩,fun w _=>Zg.mpr rfl⟩ | n+14,h1,h2=>by cases h2) hz
 have P0:=PZ.up (show 0≤0 by decide)
 have P1:=ad P0 0 T0 Zk6
 have P2:=ad P1 1 T1 (Jn rfl rfl)
 have P3:=ad P2 2 T2 (Z74 rfl rfl)
 have P4:=ad P3 3 T3 E8
 have P5:=ad P4 4 T4 (J8 rfl rfl rfl)
 have P6:=ad P5 5 T5 (Y49 rfl rfl rfl)
 have P7:=ad P6 6 T6 Z48
 have P8:=ad P7 7 T7 (Za9 rfl rfl rfl)
 have P9:=ad P8 8 T8 Ge
 have P10:=ad P9 9 T9 (Zd1 rfl rfl rfl rfl rfl)
 have P11:=ad P10 10 T10 (Jd rfl rfl)
 have P12:=ad P11 11 T11 (Jf rfl rfl)
 have P13:=ad P12 12 T12 (E2 rfl rfl)
 have P14:=ad P13 13 T13 (Fy rfl rfl rfl)
 have P15:=ad P14 14 T14 (Oa rfl rfl)
 have P16:=ad P15 15 T15 (Fz rfl)
 have P17:=ad P16 16 T16 (Z82 rfl rfl rfl)
 have P18:=ad P17 17 T17 (Cz rfl rfl)
 have P19:=ad P18 18 T18 J6
 have P20:=ad P19 19 T19 O0
 have P21:=ad P20 20 T20 Zp8
 have P22:=ad P21 21 T21 (Qx rfl)
 have P23:=ad P22 22 T22 (C8 rfl rfl rfl rfl)
 have P24:=ad P23 23 T23 (Cu rfl rfl)
 have P25:=ad P24 24 T24 (Fo rfl rfl rfl rfl rfl rfl)
 have P26:=ad P25 25 T25 (Ed rfl rfl rfl rfl)
 have P27:=ad P26 26 T26 (O3 rfl rfl)
 have P28:=ad P27 27 T27 (O8 rfl rfl rfl rfl rfl)
 have P29:=ad P28 28 T28 Yb1
 have P30:=ad P29 29 T29 (Yj2 rfl)
 have P31:=ad P30 30 T30 Y13
 have P32:=ad P31 31 T31 Y64
 have P33:=ad P32 32 T32 (Y28 rfl)
 have P34:=ad P33 33 T33 (Zu2 rfl rfl rfl rfl)
 have P35:=ad P34 34 T34 (Z65 rfl)
 have P36:=ad P35 35 T35 Zj8
 have P37:=ad P36 36 T36 (Y56 rfl)
 have P38:=ad P37 37 T37 Y61
 have P39:=ad P38 38 T38 (Zo9 rfl)
 have P40:=ad P39 39 T39 Zm8
 have P41:=ad P40 40 T40 (Y86 rfl rfl rfl rfl rfl rfl)
 have P42:=ad P41 41 T41 (Zr0 rfl rfl)
 have P43:=ad P42 42 T42 (Ze3 rfl)
 have A43:∀n:Nat,Prg P w K mg base ⟨K,[Jr,Zb8,Vs,Q0,Zd8,C6,E5,Ji,Z06,Ru,Tc,Qm,Cy,Ei,Qc,Jk,Y51,Zl0,Zi1,C2,Y65,Sq,Sn,Cf,Vi,Wu,Cv,Vn,C9,Z53,Gg,Gz,Zd3,Et,Pn,Y5,Sy,Qe,Qa,Sh,Zf1,Ea,Rx,(Vk n),bot,bot,bot,bot,bot,bot],[.gtup [.str "else"],.gtup [.str "done"],.gtup [.str "choice",.str "round",.str "part"],.int 9999,.str "abcdefghijklmnopqrstuvwxyz",.str "0123456789",.gtup [.str "if",.str "jump",.str "end",.str "rest",.str "round",.str "part",.str "leave",.str "again",.str "else",.str "done"],.int 8,.int 4,.int 18,.gtup [.str "+",.str "-",.str "/",.str "rest",.str "&",.str "^"],.gtup [.str "<",.str "="],.int 400,.int 90]⟩ FN GN BN (43+n+1):=by
  intro n
  induction n with
  | zero=>exact ad P43 43 T43 Ze6
  | succ n ih=>exact ad ih 43 T43 (Zd4 rfl)
 have P44:=A43 180
 have P45:=ad P44 44 T44 (Zm1 rfl)
 have P46:=ad P45 45 T45 Z68
 have P47:=ad P46 46 T46 Zo5
 have P48:=ad P47 47 T47 (E6 rfl rfl)
 have P49:=ad P48 48 T48 Zj3
 have F49:=fn0 P49 T49.F Yg9 Yn3 (sp:=Z66) (by rintro _ _ _ _ ⟨_,rfl,_⟩;rfl) (Yl0 rfl rfl rfl rfl rfl rfl rfl rfl rfl rfl rfl)
 exact F49
theorem Y90{l:PySem.W.OpenLaw}{w:World}{fa f:Addr}{h:Heap}{oc kV dc pm cd ct:Value}{od an:Option Addr}{sl:Array (Option Value)}(hfa:mg "law"=some (.ref fa))(X:K.In h)(G:h.Ns mainGlobals mg) 
  (a:Dz K mainGlobals "law"=some (some (.ref f))) (l0:K.lookup f=some ⟨oc,od,.func (Kk "law" "law" (Vh C3) (X0 C3) (Zt C3) .none kV dc pm an cd ct),sl⟩) (c:Mc K cd "law"=true) (k:Ha K (.ref f)=true) {ta0:Addr} {tn0:Nat} {tt0_0:Tok} {to0:Option Addr} {tl0:Array (Option Value)} (u0:Dz K mainGlobals "ELSE"=some (some (.ref ta0))) (v0:K.lookup ta0=some ⟨.type "tuple",to0,.seq #[.str "else" tt0_0] tn0,tl0⟩) {ta1:Addr} {tn1:Nat} {tt1_0:Tok} {to1:Option Addr} {tl1:Array (Option Value)} (u1:Dz K mainGlobals "DONE"=some (some (.ref ta1))) (v1:K.lookup ta1=some ⟨.type "tuple",to1,.seq #[.str "done" tt1_0] tn1,tl1⟩) {ta2:Addr} {tn2:Nat} {tt2_0 tt2_1 tt2_2:Tok} {to2:Option Addr} {tl2:Array (Option Value)} (u2:Dz K mainGlobals "OPENERS"=some (some (.ref ta2))) (v2:K.lookup ta2=some ⟨.type "tuple",to2,.seq #[.str "choice" tt2_0,.str "round" tt2_1,.str "part" tt2_2] tn2,tl2⟩) {ta3:Addr} {tn3:Nat} {tt3_0 tt3_1 tt3_2 tt3_3 tt3_4 tt3_5 tt3_6 tt3_7 tt3_8 tt3_9:Tok} {to3:Option Addr} {tl3:Array (Option Value)} (u3:Dz K mainGlobals "KEPT"=some (some (.ref ta3))) (v3:K.lookup ta3=some ⟨.type "tuple",to3,.seq #[.str "if" tt3_0,.str "jump" tt3_1,.str "end" tt3_2,.str "rest" tt3_3,.str "round" tt3_4,.str "part" tt3_5,.str "leave" tt3_6,.str "again" tt3_7,.str "else" tt3_8,.str "done" tt3_9] tn3,tl3⟩) {ta4:Addr} {tn4:Nat} {tt4_0 tt4_1 tt4_2 tt4_3 tt4_4 tt4_5:Tok} {to4:Option Addr} {tl4:Array (Option Value)} (u4:Dz K mainGlobals "SIGNS_OF_SUMS"=some (some (.ref ta4))) (v4:K.lookup ta4=some ⟨.type "tuple",to4,.seq #[.str "+" tt4_0,.str "-" tt4_1,.str "/" tt4_2,.str "rest" tt4_3,.str "&" tt4_4,.str "^" tt4_5] tn4,tl4⟩) {ta5:Addr} {tn5:Nat} {tt5_0 tt5_1:Tok} {to5:Option Addr} {tl5:Array (Option Value)} (u5:Dz K mainGlobals "SIGNS_OF_TESTS"=some (some (.ref ta5))) (v5:K.lookup ta5=some ⟨.type "tuple",to5,.seq #[.str "<" tt5_0,.str "=" tt5_1] tn5,tl5⟩) {tq0:Tok} (q0:Dz K mainGlobals "MOST_NUMBER"=some (some (.int 9999 tq0))) {tq1:Tok} (q1:Dz K mainGlobals "MOST_SIGNS_OF_NAME"=some (some (.int 8 tq1))) {tq2:Tok} (q2:Dz K mainGlobals "MOST_FIGURES_OF_NUMBER"=some (some (.int 4 tq2))) {tq3:Tok} (q3:Dz K mainGlobals "MOST_FIGURES_OF_OPERAND"=some (some (.int 18 tq3))) {tq4:Tok} (q4:Dz K mainGlobals "MOST_LINES"=some (some (.int 400 tq4))) {tq5:Tok} (q5:Dz K mainGlobals "MOST_LISTS"=some (some (.int 90 tq5))) {ts0:Tok} (qs0:Dz K mainGlobals "LETTERS"=some (some (.str "abcdefghijklmnopqrstuvwxyz" ts0))) {ts1:Tok} (qs1:Dz K mainGlobals "FIGURES"=some (some (.str "0123456789" ts1))) (hz:∀x∈BN,Dz K mainGlobals x=some none)
  :∃fd:FuncData,(∀(s:Shared) (v:Value),BindsTo s fd ⟨[v],[]⟩ [("_law_script",v)])∧∀base:Heap,K.In base→base.Ns mainGlobals mg→FnOk l.prog w K mg base (CX1 l.prog w) 230 fa fd ["_law_script"] (spF K Z66):=by
 have e2:=hfa.symm.trans (Dy X G a)
 cases e2
 exact⟨_,fun s v=> .of_eq rfl,fun base _ _=>Yf8 T0 T1 T2 T3 T4 T5 T6 T7 T8 T9 T10 T11 T12 T13 T14 T15 T16 T17 T18 T19 T20 T21 T22 T23 T24 T25 T26 T27 T28 T29 T30 T31 T32 T33 T34 T35 T36 T37 T38 T39 T40 T41 T42 T43 T44 T45 T46 T47 T48 (DW.of X G a l0 c k) ⟨_,Dy X G u0,_,_,_,v0,rfl,rfl,show 1≤sizeLine by decide,.cons ⟨_,rfl⟩ (.nil)⟩ ⟨_,Dy X G u1,_,_,_,v1,rfl,rfl,show 1≤sizeLine by decide,.cons ⟨_,rfl⟩ (.nil)⟩ ⟨_,Dy X G u2,_,_,_,v2,rfl,rfl,show 3≤sizeLine by decide,.cons ⟨_,rfl⟩ (.cons ⟨_,rfl⟩ (.cons ⟨_,rfl⟩ (.nil)))⟩ ⟨_,Dy X G u3,_,_,_,v3,rfl,rfl,show 10≤sizeLine by decide,.cons ⟨_,rfl⟩ (.cons ⟨_,rfl⟩ (.cons ⟨_,rfl⟩ (.cons ⟨_,rfl⟩ (.cons ⟨_,rfl⟩ (.cons ⟨_,rfl⟩ (.cons ⟨_,rfl⟩ (.cons ⟨_,rfl⟩ (.cons ⟨_,rfl⟩ (.cons ⟨_,rfl⟩ (.nil))))))))))⟩ ⟨_,Dy X G u4,_,_,_,v4,rfl,rfl,show 6≤sizeLine by decide,.cons ⟨_,rfl⟩ (.cons ⟨_,rfl⟩ (.cons ⟨_,rfl⟩ (.cons ⟨_,rfl⟩ (.cons ⟨_,rfl⟩ (.cons ⟨_,rfl⟩ (.nil))))))⟩ ⟨_,Dy X G u5,_,_,_,v5,rfl,rfl,show 2≤sizeLine by decide,.cons ⟨_,rfl⟩ (.cons ⟨_,rfl⟩ (.nil))⟩ ⟨_,Dy X G q0⟩ ⟨_,Dy X G q1⟩ ⟨_,Dy X G q2⟩ ⟨_,Dy X G q3⟩ ⟨_,Dy X G q4⟩ ⟨_,Dy X G q5⟩ ⟨_,Dy X G qs0⟩ ⟨_,Dy X G qs1⟩ fun x hx=>PySem.W.mg_none_of X G (hz x hx)⟩
end
end K55
namespace Hand
open PySem PySem.Spec PyProof.Rows L2 L3 U K55
noncomputable def kf(n:Str)(i:Nat)(dV kV dc pm:Value)(an:Option Addr)(cd ct:Value):Obj:=⟨.type "function",none,.func (Kk n n (Vh (top i)) (X0 (top i)) (Zt (top i)) dV kV dc pm an cd ct),#[]⟩
noncomputable def kg(n:Str)(i:Nat)(m:Str)(t c:Nat):Obj:=kf n i .none .none .none (.str m t) none (.ref c) .none
noncomputable def kc(n:Str)(t:Nat)(l a:Int)(r:Nat)(x y:Int)(z:Nat):Obj:=⟨.type "code",none,.fields #[.str n t,.str n (t+1),.str "/claim/cut.py" (t+2),.int l 0,.int a 0,.int 0 0,.int 0 0,.int 3 0,.ref r,.bool true,.int x 0,.ref (r+1),.none,.ref (r+2),.ref (r+3),.ref (r+4),.int y 0,.int l 0,.str "/claim/cut.py" z],#[]⟩
noncomputable def ke(P:Params)(x:Str)(t:Nat)(v:Value):DictEntry:=⟨PyData.keyHash P x,.str x t,v⟩
noncomputable abbrev kd:Value:= .type "dict"
noncomputable abbrev kR(a:Nat):Value:= .ref a
noncomputable abbrev kS(x:Str)(t:Nat):Value:= .str x t
noncomputable def KH(P:Params):Ad:=(nat_lit 2,⟨.none,none,.dict #[] 0,#[]⟩)::(nat_lit 3,⟨kd,none,.dict #[ke P "__name__" 165 (kS "law_unjump_k55_form_written" 526),ke P "__doc__" 166 .none,ke P "__package__" 167 .none,ke P "__loader__" 168 (.builtin "__main__.__loader__#opaque"),ke P "__spec__" 169 .none,ke P "__annotations__" 170 (kR 6),ke P "__builtins__" 171 (kR 4),ke P "__file__" 173 (kS "/claim/cut.py" 172),ke P "__cached__" 174 .none,ke P "JumpError" 215 (kR 32),ke P "TooGreat" 231 (kR 45),ke P "NoForm" 247 (kR 57),ke P "ELSE" 251 (kR 60),ke P "DONE" 253 (kR 61),ke P "OPENERS" 257 (kR 62),ke P "MOST_NUMBER" 259 (.int 9999 258),ke P "sound" 265 (kR 67),ke P "keep_within" 274 (kR 74),ke P "is_within" 282 (kR 81),ke P "lines_of" 292 (kR 88),ke P "line_of" 299 (kR 95),ke P "told_within" 308 (kR 102),ke P "form_of" 319 (kR 109),ke P "lists_in" 326 (kR 116),ke P "LETTERS" 330 (kS "abcdefghijklmnopqrstuvwxyz" 329),ke P "FIGURES" 332 (kS "0123456789" 331),ke P "KEPT" 343 (kR 117),ke P "MOST_SIGNS_OF_NAME" 345 (.int 8 344),ke P "MOST_FIGURES_OF_NUMBER" 347 (.int 4 346),ke P "MOST_FIGURES_OF_OPERAND" 349 (.int 18 348),ke P "SIGNS_OF_SUMS" 356 (kR 118),ke P "SIGNS_OF_TESTS" 359 (kR 119),ke P "is_name" 366 (kR 126),ke P "read_number" 373 (kR 133),ke P "read_operand" 380 (kR 140),ke P "read_whole" 387 (kR 147),ke P "read_below_nought" 394 (kR 154),ke P "are_figures" 402 (kR 161),ke P "is_made_of" 408 (kR 166),ke P "read_sum" 416 (kR 173),ke P "read_test" 423 (kR 180),ke P "read_asked" 433 (kR 187),ke P "written_sum" 443 (kR 194),ke P "written_test" 452 (kR 201),ke P "MOST_LINES" 456 (.int 400 455),ke P "MOST_LISTS" 458 (.int 90 457),ke P "read_form" 464 (kR 206),ke P "read_lines" 475 (kR 213),ke P "has_place" 483 (kR 220),ke P "read_line" 490 (kR 227),ke P "read_numbered" 498 (kR 234),ke P "led_by" 506 (kR 241),ke P "written_form" 516 (kR 248),ke P "written_line" 525 (kR 255),ke P "_law_raw" 535 (kR 262),ke P "_law_mix" 544 (kR 269),ke P "_law_kept" 550 (kR 276),ke P "_law_sign" 558 (kR 283),ke P "_law_word" 568 (kR 290),ke P "_law_names" 582 (kR 297),ke P "_law_operand" 593 (kR 304),ke P "_law_begins" 600 (kR 311),ke P "_law_deed" 614 (kR 318),ke P "_law_goes" 620 (kR 323),ke P "_law_first" 628 (kR 330),ke P "_law_close" 637 (kR 337),ke P "_law_step" 650 (kR 344),ke P "_law_lines" 662 (kR 351),ke P "_law_nested" 674 (kR 358),ke P "_law_alike" 684 (kR 365),ke P "_law_depth" 694 (kR 372),ke P "_law_wrapped" 700 (kR 377),ke P "_law_words" 706 (kR 382),ke P "_law_due_text" 717 (kR 389),ke P "_law_due_of" 725 (kR 396),ke P "law" 738 (kR 403)] 76,#[]⟩)::(nat_lit 22,⟨(.type "tuple"),none,.seq #[.none] 0,#[]⟩)::(nat_lit 28,⟨(.type "code"),none,.fields #[(.str "__init__" 201),(.str "JumpError.__init__" 202),(.str "/claim/cut.py" 203),(.int 4 0),(.int 2 0),(.int 0 0),(.int 0 0),(.int 3 0),(.ref 23),(.bool true),(.int 181 0),(.ref 24),.none,(.ref 25),(.ref 26),(.ref 27),(.int 206 0),(.int 4 0),(.str "/claim/cut.py" 207)],#[]⟩)::(nat_lit 29,{cls:=Dm "function",data:=Data.func {name:=Str.ofString "__init__",qualname:=Str.ofString "JumpError.__init__",params:={posonlyargs:=[],args:=[{arg:=Str.ofString "self",annotation:=none,pos:={line:=4,col:=17,endLine:=4,endCol:=21}},{arg:=Str.ofString "row",annotation:=none,pos:={line:=4,col:=23,endLine:=4,endCol:=26}}],vararg:=none,kwonlyargs:=[],kw_defaults:=[],kwarg:=none,defaults:=[Expr.Constant Const.none 0 {line:=4,col:=27,endLine:=4,endCol:=31}]},body:=FuncBody.stmts [Stmt.Assign [(Expr.Name (Str.ofString "self") {line:=5,col:=8,endLine:=5,endCol:=12}).Attribute (Str.ofString "row") {line:=5,col:=8,endLine:=5,endCol:=16}] (Expr.Name (Str.ofString "row") {line:=5,col:=19,endLine:=5,endCol:=22}) {line:=5,col:=8,endLine:=5,endCol:=22}],scope:={kind:=ScopeKind.function,names:=[(Str.ofString "self",NameKind.local),(Str.ofString "row",NameKind.local)],isGenerator:=false,isCoroutine:=false},globals:=3,closure:=[],defaults:=Au 22,kwdefaults:=Ku,pyModule:=Kj (Str.ofString "unjump.errors") 187,code:=Au 28}})::(nat_lit 30,⟨(.type "tuple"),none,.seq #[(.str "row" 209)] 0,#[]⟩)::(nat_lit 31,⟨kd,none,.dict #[ke P "__module__" 196 (kS "unjump.errors" 187),ke P "__firstlineno__" 200 (.int 2 199),ke P "__init__" 208 (kR 29),ke P "__static_attributes__" 210 (kR 30),ke P "__weakref__" 212 (kR 33),ke P "__doc__" 213 .none] 3,#[]⟩)::(nat_lit 32,{cls:=Dm "type",data:=Data.cls {name:=Str.ofString "JumpError",bases:=[Dm "ValueError"],mro:=[Au 32,Dm "ValueError",Dm "Exception",Dm "BaseException",Dm "object"],ns:=31,qualname:=Str.ofString "JumpError",subclasses:=[Au 45,Au 57]},slots:=#[some (Au 15),none,some (Kj (Str.ofString "JumpError") 189),some (Kj (Str.ofString "JumpError") 197),some (Value.builtin "ValueError.__new__"),some (Mb true)]})::(nat_lit 43,⟨(.type "tuple"),none,.seq #[] 0,#[]⟩)::(nat_lit 44,⟨kd,none,.dict #[ke P "__module__" 223 (kS "unjump.errors" 187),ke P "__firstlineno__" 227 (.int 6 226),ke P "__static_attributes__" 228 (kR 43),ke P "__doc__" 229 .none] 2,#[]⟩)::(nat_lit 45,{cls:=Dm "type",data:=Data.cls {name:=Str.ofString "TooGreat",bases:=[Au 32],mro:=[Au 45,Au 32,Dm "ValueError",Dm "Exception",Dm "BaseException",Dm "object"],ns:=44,qualname:=Str.ofString "TooGreat"},slots:=#[some (Au 36),none,some (Kj (Str.ofString "TooGreat") 216),some (Kj (Str.ofString "TooGreat") 224),some (Value.builtin "ValueError.__new__"),some (Mb true)]})::(nat_lit 55,⟨(.type "tuple"),none,.seq #[] 0,#[]⟩)::(nat_lit 56,⟨kd,none,.dict #[ke P "__module__" 239 (kS "unjump.errors" 187),ke P "__firstlineno__" 243 (.int 8 242),ke P "__static_attributes__" 244 (kR 55),ke P "__doc__" 245 .none] 2,#[]⟩)::(nat_lit 57,{cls:=Dm "type",data:=Data.cls {name:=Str.ofString "NoForm",bases:=[Au 32],mro:=[Au 57,Au 32,Dm "ValueError",Dm "Exception",Dm "BaseException",Dm "object"],ns:=56,qualname:=Str.ofString "NoForm"},slots:=#[some (Au 48),none,some (Kj (Str.ofString "NoForm") 232),some (Kj (Str.ofString "NoForm") 240),some (Value.builtin "ValueError.__new__"),some (Mb true)]})::(nat_lit 60,⟨(.type "tuple"),none,.seq #[(.str "else" 250)] 0,#[]⟩)::(nat_lit 61,⟨(.type "tuple"),none,.seq #[(.str "done" 252)] 0,#[]⟩)::(nat_lit 62,⟨(.type "tuple"),none,.seq #[(.str "choice" 254),(.str "round" 255),(.str "part" 256)] 0,#[]⟩)::(nat_lit 66,⟨(.type "code"),none,.fields #[(.str "sound" 260),(.str "sound" 261),(.str "/claim/cut.py" 262),(.int 15 0),(.int 1 0),(.int 0 0),(.int 0 0),(.int 3 0),(.ref 63),(.bool true),(.int 181 0),(.ref 64),.none,.none,.none,(.ref 65),(.int 263 0),(.int 15 0),(.str "/claim/cut.py" 264)],#[]⟩)::(nat_lit 67,kg "sound" 9 "unjump.forms" 248 66)::(nat_lit 73,kc "keep_within" 266 23 1 68 181 272 273)::(nat_lit 74,kg "keep_within" 10 "unjump.forms" 248 73)::(nat_lit 80,kc "is_within" 275 33 2 75 181 280 281)::(nat_lit 81,kg "is_within" 11 "unjump.forms" 248 80)::(nat_lit 87,kc "lines_of" 283 37 1 82 181 290 291)::(nat_lit 88,kg "lines_of" 12 "unjump.forms" 248 87)::(nat_lit 94,kc "line_of" 293 45 1 89 181 297 298)::(nat_lit 95,kg "line_of" 13 "unjump.forms" 248 94)::(nat_lit 101,kc "told_within" 300 51 1 96 181 306 307)::(nat_lit 102,kg "told_within" 14 "unjump.forms" 248 101)::(nat_lit 108,kc "form_of" 309 60 1 103 181 317 318)::(nat_lit 109,kg "form_of" 15 "unjump.forms" 248 108)::(nat_lit 115,kc "lists_in" 320 74 1 110 181 324 325)::(nat_lit 116,kg "lists_in" 16 "unjump.forms" 248 115)::(nat_lit 117,⟨(.type "tuple"),none,.seq #[(.str "if" 333),(.str "jump" 334),(.str "end" 335),(.str "rest" 336),(.str "round" 337),(.str "part" 338),(.str "leave" 339),(.str "again" 340),(.str "else" 341),(.str "done" 342)] 0,#[]⟩)::(nat_lit 118,⟨(.type "tuple"),none,.seq #[(.str "+" 350),(.str "-" 351),(.str "/" 352),(.str "rest" 353),(.str "&" 354),(.str "^" 355)] 0,#[]⟩)::(nat_lit 119,⟨(.type "tuple"),none,.seq #[(.str "<" 357),(.str "=" 358)] 0,#[]⟩)::(nat_lit 125,kc "is_name" 360 89 1 120 181 364 365)::(nat_lit 126,kg "is_name" 26 "unjump.words" 327 125)::(nat_lit 132,kc "read_number" 367 95 1 127 181 371 372)::(nat_lit 133,kg "read_number" 27 "unjump.words" 327 132)::(nat_lit 139,kc "read_operand" 374 99 1 134 181 378 379)::(nat_lit 140,kg "read_operand" 28 "unjump.words" 327 139)::(nat_lit 146,kc "read_whole" 381 103 1 141 181 385 386)::(nat_lit 147,kg "read_whole" 29 "unjump.words" 327 146)::(nat_lit 153,kc "read_below_nought" 388 111 1 148 181 392 393)::(nat_lit 154,kg "read_below_nought" 30 "unjump.words" 327 153)::(nat_lit 160,kc "are_figures" 395 115 2 155 181 400 401)::(nat_lit 161,kg "are_figures" 31 "unjump.words" 327 160)::(nat_lit 165,⟨(.type "code"),none,.fields #[(.str "is_made_of" 403),(.str "is_made_of" 404),(.str "/claim/cut.py" 405),(.int 121 0),(.int 2 0),(.int 0 0),(.int 0 0),(.int 3 0),(.ref 162),(.bool true),(.int 181 0),(.ref 163),.none,.none,.none,(.ref 164),(.int 406 0),(.int 121 0),(.str "/claim/cut.py" 407)],#[]⟩)::(nat_lit 166,kg "is_made_of" 32 "unjump.words" 327 165)::(nat_lit 172,kc "read_sum" 409 123 1 167 181 414 415)::(nat_lit 173,kg "read_sum" 33 "unjump.words" 327 172)::(nat_lit 179,kc "read_test" 417 130 1 174 181 421 422)::(nat_lit 180,kg "read_test" 34 "unjump.words" 327 179)::(nat_lit 186,kc "read_asked" 424 134 2 181 181 431 432)::(nat_lit 187,kg "read_asked" 35 "unjump.words" 327 186)::(nat_lit 193,kc "written_sum" 434 140 4 188 181 441 442)::(nat_lit 194,kg "written_sum" 36 "unjump.words" 327 193)::(nat_lit 200,kc "written_test" 444 142 3 195 181 450 451)::(nat_lit 201,kg "written_test" 37 "unjump.words" 327 200)::(nat_lit 205,⟨(.type "code"),none,.fields #[(.str "read_form" 459),(.str "read_form" 460),(.str "/claim/cut.py" 461),(.int 147 0),(.int 1 0),(.int 0 0),(.int 0 0),(.int 3 0),(.ref 202),(.bool true),(.int 181 0),(.ref 203),.none,.none,.none,(.ref 204),(.int 462 0),(.int 147 0),(.str "/claim/cut.py" 463)],#[]⟩)::(nat_lit 206,kg "read_form" 41 "unjump.formtexts" 453 205)::(nat_lit 212,kc "read_lines" 465 156 1 207 181 473 474)::(nat_lit 213,kg "read_lines" 42 "unjump.formtexts" 453 212)::(nat_lit 219,kc "has_place" 476 173 2 214 181 481 482)::(nat_lit 220,kg "has_place" 43 "unjump.formtexts" 453 219)::(nat_lit 226,kc "read_line" 484 179 1 221 181 488 489)::(nat_lit 227,kg "read_line" 44 "unjump.formtexts" 453 226)::(nat_lit 233,kc "read_numbered" 491 187 1 228 181 496 497)::(nat_lit 234,kg "read_numbered" 45 "unjump.formtexts" 453 233)::(nat_lit 240,kc "led_by" 499 194 2 235 181 504 505)::(nat_lit 241,kg "led_by" 46 "unjump.formtexts" 453 240)::(nat_lit 247,kc "written_form" 507 198 1 242 181 514 515)::(nat_lit 248,kg "written_form" 47 "unjump.formtexts" 453 247)::(nat_lit 254,kc "written_line" 517 208 1 249 181 523 524)::(nat_lit 255,kg "written_line" 48 "unjump.formtexts" 453 254)::(nat_lit 261,kc "_law_raw" 528 218 2 256 181 533 534)::(nat_lit 262,kg "_law_raw" 50 "law_unjump_k55_form_written" 526 261)::(nat_lit 268,kc "_law_mix" 536 222 2 263 181 542 543)::(nat_lit 269,kg "_law_mix" 51 "law_unjump_k55_form_written" 526 268)::(nat_lit 275,kc "_law_kept" 545 227 0 270 181 548 549)::(nat_lit 276,kg "_law_kept" 52 "law_unjump_k55_form_written" 526 275)::(nat_lit 282,kc "_law_sign" 551 229 2 277 181 556 557)::(nat_lit 283,kg "_law_sign" 53 "law_unjump_k55_form_written" 526 282)::(nat_lit 289,kc "_law_word" 559 233 2 284 181 566 567)::(nat_lit 290,kg "_law_word" 54 "law_unjump_k55_form_written" 526 289)::(nat_lit 296,kc "_law_names" 569 239 1 291 181 580 581)::(nat_lit 297,kg "_law_names" 55 "law_unjump_k55_form_written" 526 296)::(nat_lit 303,kc "_law_operand" 583 255 4 298 181 591 592)::(nat_lit 304,kg "_law_operand" 56 "law_unjump_k55_form_written" 526 303)::(nat_lit 310,kc "_law_begins" 594 266 1 305 181 598 599)::(nat_lit 311,kg "_law_begins" 57 "law_unjump_k55_form_written" 526 310)::(nat_lit 317,kc "_law_deed" 601 268 4 312 181 612 613)::(nat_lit 318,kg "_law_deed" 58 "law_unjump_k55_form_written" 526 317)::(nat_lit 322,⟨(.type "code"),none,.fields #[(.str "_law_goes" 615),(.str "_law_goes" 616),(.str "/claim/cut.py" 617),(.int 277 0),(.int 2 0),(.int 0 0),(.int 0 0),(.int 3 0),(.ref 319),(.bool true),(.int 181 0),(.ref 320),.none,.none,.none,(.ref 321),(.int 618 0),(.int 277 0),(.str "/claim/cut.py" 619)],#[]⟩)::(nat_lit 323,kg "_law_goes" 59 "law_unjump_k55_form_written" 526 322)::(nat_lit 329,kc "_law_first" 621 285 1 324 181 626 627)::(nat_lit 330,kg "_law_first" 60 "law_unjump_k55_form_written" 526 329)::(nat_lit 336,kc "_law_close" 629 288 2 331 181 635 636)::(nat_lit 337,kg "_law_close" 61 "law_unjump_k55_form_written" 526 336)::(nat_lit 343,kc "_law_step" 638 294 4 338 181 648 649)::(nat_lit 344,kg "_law_step" 62 "law_unjump_k55_form_written" 526 343)::(nat_lit 350,kc "_law_lines" 651 313 2 345 181 660 661)::(nat_lit 351,kg "_law_lines" 63 "law_unjump_k55_form_written" 526 350)::(nat_lit 357,kc "_law_nested" 663 323 1 352 181 672 673)::(nat_lit 358,kg "_law_nested" 64 "law_unjump_k55_form_written" 526 357)::(nat_lit 364,kc "_law_alike" 675 342 2 359 181 682 683)::(nat_lit 365,kg "_law_alike" 65 "law_unjump_k55_form_written" 526 364)::(nat_lit 371,kc "_law_depth" 685 359 1 366 181 692 693)::(nat_lit 372,kg "_law_depth" 66 "law_unjump_k55_form_written" 526 371)::(nat_lit 376,⟨(.type "code"),none,.fields #[(.str "_law_wrapped" 695),(.str "_law_wrapped" 696),(.str "/claim/cut.py" 697),(.int 366 0),(.int 3 0),(.int 0 0),(.int 0 0),(.int 3 0),(.ref 373),(.bool true),(.int 181 0),(.ref 374),.none,.none,.none,(.ref 375),(.int 698 0),(.int 366 0),(.str "/claim/cut.py" 699)],#[]⟩)::(nat_lit 377,kg "_law_wrapped" 67 "law_unjump_k55_form_written" 526 376)::(nat_lit 381,⟨(.type "code"),none,.fields #[(.str "_law_words" 701),(.str "_law_words" 702),(.str "/claim/cut.py" 703),(.int 376 0),(.int 1 0),(.int 0 0),(.int 0 0),(.int 3 0),(.ref 378),(.bool true),(.int 181 0),(.ref 379),.none,.none,.none,(.ref 380),(.int 704 0),(.int 376 0),(.str "/claim/cut.py" 705)],#[]⟩)::(nat_lit 382,kg "_law_words" 68 "law_unjump_k55_form_written" 526 381)::(nat_lit 388,kc "_law_due_text" 707 383 1 383 181 715 716)::(nat_lit 389,kg "_law_due_text" 69 "law_unjump_k55_form_written" 526 388)::(nat_lit 395,kc "_law_due_of" 718 395 2 390 181 723 724)::(nat_lit 396,kg "_law_due_of" 70 "law_unjump_k55_form_written" 526 395)::(nat_lit 402,kc "law" 726 397 1 397 181 736 737)::(nat_lit 403,kg "law" 71 "law_unjump_k55_form_written" 526 402)::[]
noncomputable def qH:Program:={PySem.Challenge.pw_unjump_k55_form_written with main:={PySem.Challenge.pw_unjump_k55_form_written.main with body:=[top 71]}}
noncomputable def lH:List Str:="JumpError"::"TooGreat"::"NoForm"::"ELSE"::"DONE"::"OPENERS"::"MOST_NUMBER"::"sound"::"keep_within"::"is_within"::"lines_of"::"line_of"::"told_within"::"form_of"::"lists_in"::"LETTERS"::"FIGURES"::"KEPT"::"MOST_SIGNS_OF_NAME"::"MOST_FIGURES_OF_NUMBER"::"MOST_FIGURES_OF_OPERAND"::"SIGNS_OF_SUMS"::"SIGNS_OF_TESTS"::"is_name"::"read_number"::"read_operand"::"read_whole"::"read_below_nought"::"are_figures"::"is_made_of"::"read_sum"::"read_test"::"read_asked"::"written_sum"::"written_test"::"MOST_LINES"::"MOST_LISTS"::"read_form"::"read_lines"::"has_place"::"read_line"::"read_numbered"::"led_by"::"written_form"::"written_line"::"_law_raw"::"_law_mix"::"_law_kept"::"_law_sign"::"_law_word"::"_law_names"::"_law_operand"::"_law_begins"::"_law_deed"::"_law_goes"::"_law_first"::"_law_close"::"_law_step"::"_law_lines"::"_law_nested"::"_law_alike"::"_law_depth"::"_law_wrapped"::"_law_words"::"_law_due_text"::"_law_due_of"::[]
noncomputable def aH:List Addr:=2::3::22::28::29::30::31::32::43::44::45::55::56::57::60::61::62::66::67::73::74::80::81::87::88::94::95::101::102::108::109::115::116::117::118::119::125::126::132::133::139::140::146::147::153::154::160::161::165::166::172::173::179::180::186::187::193::194::200::201::205::206::212::213::219::220::226::227::233::234::240::241::247::248::254::255::261::262::268::269::275::276::282::283::289::290::296::297::303::304::310::311::317::318::322::323::329::330::336::337::343::344::350::351::357::358::364::365::371::372::376::377::381::382::388::389::395::396::402::403::[]
theorem eH(P:Params):aH=(KH P).map (·.1):=by kernel_rfl
set_option maxHeartbeats 0 in
theorem wS:PySem.Challenge.rw_unjump_k55_form_written.wellSaid=true:=by kernel_rfl
set_option maxHeartbeats 0 in
theorem hlH:PySem.W.LeftO PySem.Challenge.pw_unjump_k55_form_written qH lH (fun s=>PySem.W.xlAt qH [] s&&PySem.W.recOk [] s) (PySem.W.Hook.obs (PySem.W.kHook KH aH eH)) (PySem.W.Hook.val (PySem.W.kHook KH aH eH)) 4868:=by intro w;kernel_rfl
end Hand
open PySem PySem.W PyProof.Rows
set_option maxRecDepth 100000 in
set_option maxHeartbeats 0 in
theorem PySem.Challenge.cw_unjump_k55_form_written_holds : PySem.Challenge.rw_unjump_k55_form_written.Holds := by
 w_on;refine holds_law Hand.wS fun said=>?_;refine holds_open (q:=Hand.qH) (loose:=Hand.lH) (Xt:=fun s=>xlAt Hand.qH [] s&&recOk [] s) (XP:=XL Hand.qH []) (Yf:=Hook.obs (kHook Hand.KH Hand.aH Hand.eH)) (Ya:=Hook.val (kHook Hand.KH Hand.aH Hand.eH)) (YP:=Hook.says (kHook Hand.KH Hand.aH Hand.eH)) (N:=4868) Hand.hlH (Hook.of _) (Hook.keeps _) (fun s e=>xl_of s (Bool.and_eq_true_iff.mp e).1) XL.keeps (by rfl) (by rfl) (by rfl) (fun s e=>recFacts_of (Bool.and_eq_true_iff.mp e).2) (by rfl) (by first | assumption | decide+kernel) (by decide+kernel) ⟨rfl,rfl,rfl,rfl,rfl,by decide+kernel⟩ ?hw ?hc;(case hw=>w_witness2)
 k_fill
 refine U.Zr3 (l:=PySem.Challenge.rw_unjump_k55_form_written) (k:=230) (x:="_law_script") rfl rfl ⟨rfl,by decide,by decide⟩ (fun w h Y=>PySem.W.kIn_of Y) ?F
 case F=>
  intro w mg fa h KX G hmg
  refine' K55.Y90 (.of KX G ?a0 ?l0 ?c0 ?k0) (.of KX G ?a1 ?l1 ?c1 ?k1) (.of KX G ?a2 ?l2 ?c2 ?k2) (.of KX G ?a3 ?l3 ?c3 ?k3) (.of KX G ?a4 ?l4 ?c4 ?k4) (.of KX G ?a5 ?l5 ?c5 ?k5) (.of KX G ?a6 ?l6 ?c6 ?k6) (.of KX G ?a7 ?l7 ?c7 ?k7) (.of KX G ?a8 ?l8 ?c8 ?k8) (.of KX G ?a9 ?l9 ?c9 ?k9) (.of KX G ?a10 ?l10 ?c10 ?k10) (.of KX G ?a11 ?l11 ?c11 ?k11) (.of KX G ?a12 ?l12 ?c12 ?k12) (.of KX G ?a13 ?l13 ?c13 ?k13) (.of KX G ?a14 ?l14 ?c14 ?k14) (.of KX G ?a15 ?l15 ?c15 ?k15) (.of KX G ?a16 ?l16 ?c16 ?k16) (.of KX G ?a17 ?l17 ?c17 ?k17) (.of KX G ?a18 ?l18 ?c18 ?k18) (.of KX G ?a19 ?l19 ?c19 ?k19) (.of KX G ?a20 ?l20 ?c20 ?k20) (.of KX G ?a21 ?l21 ?c21 ?k21) (.of KX G ?a22 ?l22 ?c22 ?k22) (.of KX G ?a23 ?l23 ?c23 ?k23) (.of KX G ?a24 ?l24 ?c24 ?k24) (.of KX G ?a25 ?l25 ?c25 ?k25) (.of KX G ?a26 ?l26 ?c26 ?k26) (.of KX G ?a27 ?l27 ?c27 ?k27) (.of KX G ?a28 ?l28 ?c28 ?k28) (.of KX G ?a29 ?l29 ?c29 ?k29) (.of KX G ?a30 ?l30 ?c30 ?k30) (.of KX G ?a31 ?l31 ?c31 ?k31) (.of KX G ?a32 ?l32 ?c32 ?k32) (.of KX G ?a33 ?l33 ?c33 ?k33) (.of KX G ?a34 ?l34 ?c34 ?k34) (.of KX G ?a35 ?l35 ?c35 ?k35) (.of KX G ?a36 ?l36 ?c36 ?k36) (.of KX G ?a37 ?l37 ?c37 ?k37) (.of KX G ?a38 ?l38 ?c38 ?k38) (.of KX G ?a39 ?l39 ?c39 ?k39) (.of KX G ?a40 ?l40 ?c40 ?k40) (.of KX G ?a41 ?l41 ?c41 ?k41) (.of KX G ?a42 ?l42 ?c42 ?k42) (.of KX G ?a43 ?l43 ?c43 ?k43) (.of KX G ?a44 ?l44 ?c44 ?k44) (.of KX G ?a45 ?l45 ?c45 ?k45) (.of KX G ?a46 ?l46 ?c46 ?k46) (.of KX G ?a47 ?l47 ?c47 ?k47) (.of KX G ?a48 ?l48 ?c48 ?k48) hmg KX G ?a49 ?l49 ?c49 ?k49 ?u0 ?v0 ?u1 ?v1 ?u2 ?v2 ?u3 ?v3 ?u4 ?v4 ?u5 ?v5 ?q0 ?q1 ?q2 ?q3 ?q4 ?q5 ?qs0 ?qs1 (U.all_cons ?z0 (U.all_cons ?z1 (U.all_cons ?z2 (U.all_cons ?z3 (U.all_cons ?z4 (U.all_cons ?z5 (U.all_cons ?z6 (U.all_cons ?z7 (U.all_cons ?z8 (U.all_cons ?z9 (U.all_cons ?z10 (U.all_cons ?z11 (U.all_cons ?z12 (U.all_cons ?z13 (U.all_cons ?z14 (U.all_nil))))))))))))))))
  all_goals (try k_is)
