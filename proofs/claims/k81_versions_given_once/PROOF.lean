import PyProof.Rows.All
import Wide.All
import OpenK.AllK
import Wide.FinOn
import Lean
import PyProof.EqAt
import PyProof.EqKinds
import PyProof.TupleCall
import PyProof.CompFree
import PyProof.StationsW
import PyProof.ExcClass3
import PyProof.Commute
import OpenK.KGet
import OpenK.KMeth
import PyProof.ExcArgs
import PyProof.ZipIter
import PyProof.ListNew
import PyProof.EnumMake
import PyProof.EnumStmt
import KE.KRevSl
import PyProof.WalkInts
import PyProof.Rows.MinMaxN
import PyProof.AttrMissHeap
import PyProof.DictList
import PyProof.DictUpdate
import KE.KDictOf
import PyProof.DictWalks
import PyProof.Conv_int_bool
import PyProof.Rows.SetFrom
import PyProof.SetRoads
import PyProof.ForAny
import KE.KDictSum
import PyProof.Rows.SortStr
import PyProof.AutoListH
import PyProof.TupleKey
import PyProof.IsRules
import PySem.Challenge.RW_unjump_k81_versions_given_once
open Bool renaming false_ne_true→Bf9, and_eq_true→Bz9
open List renaming getElem?_eq_getElem→Aa, getElem?_eq_some_iff→Ac, length_map→Ad, length_append→Ah, size_toArray→Ai, getElem?_map→Aj, not_mem_nil→Ak, mem_of_getElem?→Al, mem_singleton→Am, mem_cons→Ao, mem_append→Ap, map_append→Aq, map_cons→As, length_cons→Au, getD_eq_getElem?_getD→Aw, mem_append_left→Ay, mem_append_right→Bs, replicate→Db, mem_map→Dc, mem_cons_of_mem→Dd, mem_cons_self→De, append_assoc→Dg, length_singleton→Dh, range→Dj, getElem?_eq_none→Dn, append_nil→Dq, getElem?_cons_succ→Dr, contains_iff_mem→Du, getElem?_append_left→Dv, getElem?_set_ne→Dx, take_length→Dz, getElem?_set_self→Ha, map_nil→Hb, mem_range→He, all_eq_true→Hk, cons_append→Hl, getElem?_cons_zero→Hq, find?_cons→Hs, lookup_cons→Hu, getElem_mem→Hv, replicate_succ→Hx, range_succ→Ie, length_eq_zero_iff→Ih, length_take→Ii, nodup_cons→Im, length_nil→Io, length_range→Ir, foldl_cons→Iu, getElem?_append_right→Iy, mem_filterMap→Kb, getElem?_toArray→Kc, drop_eq_getElem_cons→Ke, nil_append→Kg, flatten_cons→Kh, any_cons→Kk, map_map→Ks, idxOf_lt_length_of_mem→Kt, mem_filter→Ku, nodup_append→Ky, foldl_append→Kz, any_eq_true→Lf, filterMap_cons→Ll, all_cons→Lq, set_cons_succ→Lu, take_of_length_le→Lv, pairwise_map→Lw, filterMap_append→Lz, nodup_nil→Mf, Perm→Mg
open PySem renaming wpAny_bind→Ab, wpAny_pure→Ae, wpAny_holding→Ex, Spec→Hd, wpAny_setState_of→Hh, wpAny_mono→Hm, wpAny_newObj_type→Hn, sizeLine_eq→Ib, codeAny_builtin→Ic, wpAny_call_entry→Ij, wpAny_callSpecial?_slot→Iq, codeAny_mono→Kf, wpAny_setField_rec→Kr, wpAny_passesOwn→Kv, plainId_quiet→Kw, wpAny_typeOf→Ld, wpAny_comprehension_free→Lg, wpAny_askSetting→Lh, mem_of_lookup→Lm, wpAny_setEntries_of→Lo, tupleKind_room_in1→Lr, call_meets→Ma, wpAny_attempt→Mb
open PySem.W renaming Frag→Af, keepIn→Hi, kia_one→Hr, kitOne→Kl, fnOf→Kq, findIn→Lx, codeIn→Me
open PySem.Heap renaming get?_push_of_some→Ag, lt_size→An, get?_push_size→Ar, size_push→Hz, SameBut→Ik, get?_update_self→Ip, get?_update_other→Ix
open PySem.Value renaming ref→Ax, type→La, none→Md
open Array renaming getD_eq_getD_getElem?→Az, getElem?_eq_getElem→Bk, length_toList→Df, getElem?_toList→Dt
open Option renaming map_eq_some_iff→Di, isSome_iff_exists→Dy, bind_some→Ka, getD_some→Li, bind_none→Lj, join_some→Lk
open PySem.NameKind renaming free→Dl, cell→Hj
open Option.some renaming inj→Dm
open False renaming elim→Dp
open Sum renaming inl→Ds, inr→Il
open PySem.SeqAt renaming EqAt→Dw
open PySem.SetTable renaming grown→Go, below→Hf, insertAt→Hg, bits→Hy, Probe→Ia, runEnd→Iw, sizeAbove→Kd, turns→Km, layClean→Kx, probe→Mh
open PyProof.Rows renaming slot_tuple_getitem→Ho, callWith_type1→Ko
open PySem.Around renaming under_plainId→Ht
open Ne renaming symm→Hw
open PySem.Builtin.List renaming listExtendWith→Ig
open PySem.SetTable.probe renaming go→Ki
open LawfulBEq renaming eq_of_beq→Kj
open True renaming intro→Kn
open PySem.Builtin.Slice renaming slicePlaces→Lb
open PySem.Obj renaming mapSeq→Lc, putSet→Ls
open PySem.Builtin.Tuple renaming tupleExact→Le
open PySem.Heap.SameBut renaming update→Ln
open PySem.Builtin.Str renaming occurrences→Lp
open List.Perm renaming refl→Ly
open Iff renaming rfl→Mc
set_option bootstrap.genMatcherCode false
set_option Elab.async false
set_option linter.all false
set_option maxRecDepth 100000
set_option genSizeOf false
set_option compiler.extract_closed false
namespace L2
open PySem PySem.Spec PyProof.Rows
noncomputable abbrev Key:=Sum Int Str
noncomputable def G5:Key→Value→Bool
 | .inl k,v=>Value.isInt k v
 | .inr x,v=>Value.isStrOf x v
noncomputable def keyH(w:World):Key→Int
 | .inl k=>hashInt k
 | .inr x=>hashStr w x
theorem Zm:∀{k:Key} {v:Value},G5 k v=true→(∃i t,k=Ds i∧v=Value.int i t)∨(∃x t,k=Il x∧v=Value.str x t)
 | .inl i,v,h=>by
  obtain⟨t,e⟩:=Value.isInt_shape (k:=i) (v:=v) h
  exact .inl ⟨i,t,rfl,e⟩
 | .inr x,v,h=>by
  obtain⟨t,e⟩:=Value.isStrOf_shape (x:=x) (v:=v) h
  exact .inr ⟨x,t,rfl,e⟩
theorem Zl5(i:Int)(t:Tok):G5 (.inl i) (.int i t)=true:=by simp[G5,Value.isInt]
theorem Zh8(x:Str)(t:Tok):G5 (.inr x) (.str x t)=true:=by simp[G5,Value.isStrOf]
theorem Ys2(a b:Int):decide ((Ds a:Key)=Ds b)=(a==b):=by
 by_cases e:a=b
 ·subst e;simp
 ·have h:¬(Ds a:Key)=Ds b:=fun q=>e (Ds.inj q)
  rw[decide_eq_false h]
  exact(beq_eq_false_iff_ne.mpr e).symm
theorem Ys4(a b:Str):decide ((Il a:Key)=Il b)=decide (a=b):=by
 by_cases e:a=b
 ·subst e;simp
 ·have h:¬(Il a:Key)=Il b:=fun q=>e (Il.inj q)
  rw[decide_eq_false h,decide_eq_false e]
theorem Yr0(a:Int)(b:Str):decide ((Ds a:Key)=Il b)=false:=decide_eq_false (fun q=>nomatch q)
theorem Yp4(a:Str)(b:Int):decide ((Il a:Key)=Ds b)=false:=decide_eq_false (fun q=>nomatch q)
noncomputable def Zj(prog:Program)(w:World):PySem.KeyKind prog w Key where
 is:=G5
 hash:=keyH w
 inj:=fun v a b ha hb=>by
  rcases Zm ha with⟨i,t,rfl,rfl⟩ | ⟨x,t,rfl,rfl⟩
  ·rcases Zm hb with⟨j,u,rfl,e⟩ | ⟨y,u,rfl,e⟩
   ·injection e with e1 _;rw[e1]
   ·exact nomatch e
  ·rcases Zm hb with⟨j,u,rfl,e⟩ | ⟨y,u,rfl,e⟩
   ·exact nomatch e
   ·injection e with e1 _;rw[e1]
 byValue:=fun k v h=>by
  rcases Zm h with⟨i,t,rfl,rfl⟩ | ⟨x,t,rfl,rfl⟩<;>rfl
 pyHash:=fun hv h=>by
  rcases Zm hv with⟨i,t,rfl,rfl⟩ | ⟨x,t,rfl,rfl⟩
  ·exact wpAny_pyHash_int h
  ·exact wpAny_pyHash_str h
 eqBool:=fun hu hv h=>by
  rcases Zm hu with⟨i,t,rfl,rfl⟩ | ⟨x,t,rfl,rfl⟩
  ·rcases Zm hv with⟨j,u,rfl,rfl⟩ | ⟨y,u,rfl,rfl⟩
   ·rw[Ys2] at h;exact wpAny_eqBool_int h
   ·rw[Yr0] at h;exact Dw.int_str i t y u _ _ _ _ h
  ·rcases Zm hv with⟨j,u,rfl,rfl⟩ | ⟨y,u,rfl,rfl⟩
   ·rw[Yp4] at h;exact Dw.str_int x t j u _ _ _ _ h
   ·rw[Ys4] at h;exact wpAny_eqBool_str h
 «strs»:=fun k x t v h=>by
  rcases Zm h with⟨i,u,rfl,e⟩ | ⟨y,u,rfl,e⟩
  ·exact nomatch e
  ·injection e with e1 _
   subst e1
   cases v<;>rfl
theorem Zc2(prog:Program)(w:World)(k:Key)(v:Value):(Zj prog w).is k v=G5 k v:=rfl
theorem Cs(prog:Program)(w:World)(i:Int)(t:Tok):(Zj prog w).is (.inl i) (.int i t)=true:=Zl5 i t
theorem Bx(prog:Program)(w:World)(x:Str)(t:Tok):(Zj prog w).is (.inr x) (.str x t)=true:=Zh8 x t
inductive V where
 | non | bl (b:Bool) | int (i:Int) | str (x:Str) | byt (b:Array UInt8) | flt (b:UInt64) | ref (a:Addr) | ty (n:String)
 deriving DecidableEq
def RelV:V→Value→Prop
 | .non,u=>u=Md
 | .bl b,u=>u=Value.bool b
 | .int i,u=>∃t,u=Value.int i t
 | .str x,u=>∃t,u=Value.str x t
 | .byt b,u=>∃t,u=Value.bytes b t
 | .flt b,u=>∃t,u=Value.float b t
 | .ref a,u=>u=Ax a
 | .ty n,u=>u=La n
abbrev Vals:List V→List Value→Prop:=Paired RelV
theorem Vals.length{xs:List V}{us:List Value}(r:Vals xs us):xs.length=us.length:=Paired.length r
theorem Vals.get:∀{xs:List V} {us:List Value} {i:Nat} {x:V},Vals xs us→xs[i]?=some x→∃u,us[i]?=some u∧RelV x u
 | _,_,_,_,.nil,e=>by simp at e
 | _,_,0,_,.cons r _,e=>by simp at e;subst e;exact⟨_,rfl,r⟩
 | _,_,i+1,x,.cons _ t,e=>by
  obtain⟨u,h1,h2⟩:=Vals.get (i:=i) (x:=x) t (by simpa using e)
  exact⟨u,by simpa using h1,h2⟩
theorem Vals.set{x:V}{u:Value}(r:RelV x u):∀{xs:List V} {us:List Value} (i:Nat),Vals xs us→Vals (xs.set i x) (us.set i u)
 | _,_,_,.nil=> .nil
 | _,_,0,.cons _ t=> .cons r t
 | _,_,i+1,.cons q t=> .cons q (Vals.set r i t)
theorem Vals.append:∀{xs ys:List V} {us ws:List Value},Vals xs us→Vals ys ws→Vals (xs++ys) (us++ws)
 | _,_,_,_,.nil,s=>s
 | _,_,_,_,.cons r t,s=> .cons r (Vals.append t s)
theorem Vals.take:∀{xs:List V} {us:List Value} (n:Nat),Vals xs us→Vals (xs.take n) (us.take n)
 | _,_,0,_=> .nil
 | _,_,_+1,.nil=> .nil
 | _,_,n+1,.cons r t=> .cons r (Vals.take n t)
theorem Vals.drop:∀{xs:List V} {us:List Value} (n:Nat),Vals xs us→Vals (xs.drop n) (us.drop n)
 | _,_,0,r=>r
 | _,_,_+1,.nil=> .nil
 | _,_,n+1,.cons _ t=>Vals.drop n t
def RelO:Option V→Option Value→Prop
 | some v,some u=>RelV v u
 | none,none=>True
 | _,_=>False
def KV{κ:Type}:List (κ×V)→List (κ×Value)→Prop:=Paired fun(p:κ×V) (q:κ×Value)=>p.1=q.1∧RelV p.2 q.2
noncomputable def kV:Key→V
 | .inl i=> .int i
 | .inr x=> .str x
inductive HO where
 | lst (xs:List V)
 | tup (xs:List V)
 | dK (kvs:List (Key×V)) | dT (kvs:List (List Key×V))
 | set (S:Int→Bool) (n:Nat)
 | ins (C dx:Addr) (fs:List (Str×V))
 | own (x:Addr)
 | xd (fs:List (Str×V))
 | met (f x:Addr)
 | rng (lo hi:Int)
 | frz (o:Obj) (u:HO)
 | tbl (ps:Array Value)
 | ext (φ:Heap→Prop)
noncomputable abbrev Hp:=Addr→Option HO
noncomputable def upd(H:Hp)(a:Addr)(o:HO):Hp:=fun b=>if b=a then some o else H b
theorem Yv{H:Hp}{a:Addr}{o:HO}:upd H a o a=some o:=by unfold upd;rw[if_pos rfl]
theorem Y5{H:Hp}{a b:Addr}{o:HO}(h:b≠a):upd H a o b=H b:=by unfold upd;rw[if_neg h]
theorem Yv5{H:Hp}{a b:Addr}{o u:HO}(h:H a=some o)(h':H b=some u)(d:o≠u):a≠b:=by
 intro e;subst e;rw[h] at h';exact d (Dm h')
theorem W5{H:Hp}{a b:Addr}{o:HO}(h:H a=some o)(h':H b=none):a≠b:=by
 intro e;subst e;rw[h] at h';cases h'
section
variable(P:Program)(w:World)
def Yo(H:Hp)(h:Heap)(a:Addr):HO→Prop
 | .lst xs=>xs.length≤sizeLine∧∃(its:List Value) (n:Nat),Vals xs its∧h.get? a=some {cls:= .type "list",data:= .seq its.toArray n}
 | .tup xs=>xs.length≤sizeLine∧∃its:List Value,Vals xs its∧IsTup h a its.toArray
 | .dK kvs=>kvs.length≤sizeLine∧(a==sysModules)=false∧∃vs,KV kvs vs∧h.DictOf (Zj P w) a vs
 | .dT kvs=>kvs.length≤sizeLine∧(a==sysModules)=false∧∃xs:List (List Key×Addr×Value),
   Paired (fun(p:List Key×V) (q:List Key×Addr×Value)=>p.1=q.1∧H q.2.1=some (.tup (p.1.map kV))∧RelV p.2 q.2.2) kvs xs∧
   ∃o es ep,h.get? a=some o∧o.ExactDict∧o.data= .dict es ep∧es.toList=xs.map (entryOfKey (tupleKind (Zj P w)))∧(xs.map (·.1)).Nodup
 | .set S n=>h.SetOf (intKind P w) a S n
 | .ins C dx fs=>H dx=some (.own a)∧fs.length≤1000∧dx≠a∧h.get? a=some (PySem.W.instObj C dx)∧
   ∃mA,h.Ns1 dx mA∧(∀f,RelO (fs.lookup f) (mA f))∧PySem.Within mA (fs.map (·.1))
 | .own _=>∃o,h.get? a=some o
 | .xd fs=>∃mA,h.Ns1 a mA∧∀f,RelO (fs.lookup f) (mA f)
 | .rng lo hi=>∃t u v,h.get? a=some {cls:= .type "range",data:= .fields #[.int lo t,.int hi u,.int 1 v]}
 | .frz o u=>h.get? a=some o∧Yo H h a u
 | .tbl ps=>h.get? a=some {cls:= .none,data:= .fields ps}
 | .met f x=>h.get? a=some (PySem.W.methodObj (.ref f) (.ref x))
 | .ext φ=>φ h∧(∃o,h.get? a=some o)∧∀h1 h2:Heap,φ h1→(∀o,h1.get? a=some o→h2.get? a=some o)→φ h2
def HOk(H:Hp)(h:Heap):Prop:=∀a o,H a=some o→Yo P w H h a o
end
section
variable{P:Program}{w:World}{H H':Hp}{h h':Heap}{a:Addr}{o:HO}
theorem Yo.lt(x:Yo P w H h a o):a<h.objs.size:=by
 cases o with
 | lst xs=>obtain⟨_,_,_,_,e⟩:=x;exact An e
 | tup xs=>obtain⟨_,_,_,p⟩:=x;exact p.lt
 | dK kvs=>obtain⟨_,_,_,_,o,_,_,e,_⟩:=x;exact An e
 | dT kvs=>obtain⟨_,_,_,_,o,_,_,e,_⟩:=x;exact An e
 | set S n=>obtain⟨o,_,_,_,e,_⟩:=x;exact An e
 | ins C dx fs=>obtain⟨_,_,_,e,_⟩:=x;exact An e
 | own y=>obtain⟨_,e⟩:=x;exact An e
 | xd fs=>obtain⟨_,⟨_,_,_,e,_⟩,_⟩:=x;exact An e
 | rng lo hi=>obtain⟨_,_,_,e⟩:=x;exact An e
 | frz ob u=>obtain⟨e,_⟩:=x;exact An e
 | tbl ps=>exact An (show h.get? a=some _ from x)
 | met f y=>exact An (show h.get? a=some _ from x)
 | ext φ=>obtain⟨_,⟨_,e⟩,_⟩:=x;exact An e
theorem Paired.mapP{α β:Type}{F G:α→β→Prop}:∀{l₁:List α} {l₂:List β},Paired F l₁ l₂→(∀a b,F a b→G a b)→Paired G l₁ l₂
 | _,_,.nil,_=> .nil
 | _,_,.cons r t,f=> .cons (f _ _ r) (Paired.mapP t f)
theorem Yo.stay(x:Yo P w H h a o)(k:∀b u,(b=a∨H b=some (.own a))→h.get? b=some u→h'.get? b=some u)
  (ho:∀b,H b=some (.own a)→H' b=some (.own a)) (ht:∀b xs,H b=some (.tup xs)→H' b=some (.tup xs)):Yo P w H' h' a o:=by
 induction o with
 | lst xs=>obtain⟨z,its,n,r,e⟩:=x;exact⟨z,its,n,r,k _ _ (.inl rfl) e⟩
 | tup xs=>obtain⟨z,its,r,ob,e,c⟩:=x;exact⟨z,its,r,ob,k _ _ (.inl rfl) e,c⟩
 | dK kvs=>obtain⟨z,y,vs,r,ob,es,ep,e,c⟩:=x;exact⟨z,y,vs,r,ob,es,ep,k _ _ (.inl rfl) e,c⟩
 | dT kvs=>
  obtain⟨z,y,xs,r,ob,es,ep,e,c⟩:=x
  exact⟨z,y,xs,Paired.mapP r fun p q z=>⟨z.1,ht _ _ z.2.1,z.2.2⟩,ob,es,ep,k _ _ (.inl rfl) e,c⟩
 | set S n=>obtain⟨ob,es,ep,t,e,c⟩:=x;exact⟨ob,es,ep,t,k _ _ (.inl rfl) e,c⟩
 | ins C dx fs=>
  obtain⟨d,z,ne,e,mA,⟨od,es,ep,e2,c⟩,r⟩:=x
  exact⟨ho _ d,z,ne,k _ _ (.inl rfl) e,mA,⟨od,es,ep,k _ _ (.inr d) e2,c⟩,r⟩
 | own y=>obtain⟨ob,e⟩:=x;exact⟨ob,k _ _ (.inl rfl) e⟩
 | xd fs=>obtain⟨mA,⟨od,es,ep,e,c⟩,r⟩:=x;exact⟨mA,⟨od,es,ep,k _ _ (.inl rfl) e,c⟩,r⟩
 | rng lo hi=>obtain⟨t,u,v,e⟩:=x;exact⟨t,u,v,k _ _ (.inl rfl) e⟩
 | frz ob u ih=>obtain⟨e,q⟩:=x;exact⟨k _ _ (.inl rfl) e,ih q⟩
 | tbl ps=>
  have e:h.get? a=some {cls:= .none,data:= .fields ps}:=x
  show h'.get? a=some {cls:= .none,data:= .fields ps}
  exact k a _ (.inl rfl) e
 | met f y=>
  have e:h.get? a=some (PySem.W.methodObj (.ref f) (.ref y)):=x
  show h'.get? a=some (PySem.W.methodObj (.ref f) (.ref y))
  exact k a _ (.inl rfl) e
 | ext φ=>obtain⟨p,⟨o,e⟩,st⟩:=x;exact⟨st _ _ p fun o q=>k _ _ (.inl rfl) q,⟨o,k _ _ (.inl rfl) e⟩,st⟩
theorem HOk.lt(x:HOk P w H h)(e:H a=some o):a<h.objs.size:=(x a o e).lt
theorem HOk.fresh(x:HOk P w H h)(e:h.objs.size≤a):H a=none:=by
 cases q:H a with
 | none=>rfl
 | some u=>exact absurd (Nat.lt_of_lt_of_le (x.lt q) e) (Nat.lt_irrefl _)
theorem HOk.kept(x:HOk P w H h)(k:∀b u,h.get? b=some u→h'.get? b=some u):HOk P w H h':=fun a o e=>
 (x a o e).stay (fun b u _ q=>k b u q) (fun _ q=>q) fun _ _ q=>q
theorem HOk.laid(x:HOk P w H h)(k:∀b u,h.get? b=some u→h'.get? b=some u)(hp:h.objs.size≤a)(new:Yo P w (upd H a o) h' a o):HOk P w (upd H a o) h':=fun b u e=>by
 have hn:=x.fresh hp
 by_cases hb:b=a
 ·subst hb;rw[Yv] at e;cases e;exact new
 ·rw[Y5 hb] at e
  exact(x b u e).stay (fun c v _ q=>k c v q) (fun c q=>by rw[Y5 (W5 q hn)];exact q) fun c xs q=>by rw[Y5 (W5 q hn)];exact q
end
def Rd(H:Hp)(a:Addr)(u:HO):Prop:=H a=some u∨∃o,H a=some (.frz o u)
theorem Rd.ok{P:Program}{w:World}{H:Hp}{h:Heap}{a:Addr}{u:HO}(r:Rd H a u)(x:HOk P w H h):Yo P w H h a u:=by
 rcases r with r | ⟨o,r⟩
 ·exact x a u r
 ·obtain⟨_,q⟩:=x a _ r
  exact q
def Mut:Option HO→Prop
 | some (.lst _)=>True
 | some (.dK _)=>True
 | some (.dT _)=>True
 | some (.set _ _)=>True
 | some (.ins _ _ _)=>True
 | some (.ext _)=>True
 | _=>False
section
variable{P:Program}{w:World}{H:Hp}{h h':Heap}{x e:Addr}{o':HO}
theorem HOk.write(ok:HOk P w H h)(mu:Mut (H x))(he:e=x∨H e=some (.own x))(k:∀b u,b≠e→h.get? b=some u→h'.get? b=some u)(heo:∃u,h'.get? e=some u)
  (new:Yo P w (upd H x o') h' x o'):HOk P w (upd H x o') h':=fun b u q=>by
 have nown:∀c y,H c=some (.own y)→c≠x:=fun c y r z=>by subst z;rw[r] at mu;exact mu
 have ntup:∀c xs,H c=some (.tup xs)→c≠x:=fun c xs r z=>by subst z;rw[r] at mu;exact mu
 by_cases hb:b=x
 ·subst hb;rw[Yv] at q;cases q;exact new
 ·rw[Y5 hb] at q
  by_cases hbe:b=e
  ·have q':H b=some (.own x):=by
    rcases he with z | z
    ·exact absurd (hbe.trans z) hb
    ·rw[hbe];exact z
   rw[q] at q';cases q'
   obtain⟨v,hv⟩:=heo
   exact⟨v,by rw[hbe];exact hv⟩
  ·refine(ok b u q).stay (fun c v hc r=>k c v ?_ r) (fun c r=>by rw[Y5 (nown c b r)];exact r) fun c xs r=>by rw[Y5 (ntup c xs r)];exact r
   rcases hc with rfl | hc
   ·exact hbe
   ·rintro rfl
    rcases he with z | z
    ·exact nown c b hc z
    ·rw[hc] at z;cases z;exact hb rfl
end
structure Un(fs ex:List Addr)(H H':Hp)(h h':Heap):Prop where
 keep:∀b o,h.get? b=some o→H b=none→b∉fs→b∉ex→h'.get? b=some o
 slot:∀b o,h.get? b=some o→H b=none→b∈fs→b∉ex→∃sl,h'.get? b=some {o with slots:=sl}
 free:∀b o,h.get? b=some o→H b=none→b∉ex→H' b=none
 there:∀b o,h.get? b=some o→b∉ex→∃o',h'.get? b=some o'
 tups:∀b xs,H b=some (.tup xs)→H' b=some (.tup xs)
 frzs:∀b o u,H b=some (.frz o u)→H' b=some (.frz o u)
 tbls:∀b ps,H b=some (.tbl ps)→∃more,H' b=some (.tbl (ps++more))
section
variable{fs fs' ex ex':List Addr}{H H1 H2:Hp}{h h1 h2 h':Heap}{a x e:Addr}{o:HO}
theorem Un.any(u:Un fs ex H H1 h h1){b:Addr}{ob:Obj}(q:h.get? b=some ob)(n:H b=none)(hx:b∉ex):∃sl,h1.get? b=some {ob with slots:=sl}:=by
 by_cases hb:b∈fs
 ·exact u.slot b ob q n hb hx
 ·exact⟨ob.slots,u.keep b ob q n hb hx⟩
theorem Un.kept(k:∀b u,h.get? b=some u→h'.get? b=some u):Un fs ex H H h h':=
 ⟨fun b ob q _ _ _=>k b ob q,fun b ob q _ _ _=>⟨ob.slots,k b ob q⟩,fun _ _ _ n _=>n,fun b ob q _=>⟨ob,k b ob q⟩,fun _ _ q=>q,fun _ _ _ q=>q,fun _ ps q=>⟨#[],by rw[q];simp⟩⟩
theorem Un.refl:Un fs ex H H h h:=Un.kept fun _ _ q=>q
theorem Un.laid(k:∀b u,h.get? b=some u→h'.get? b=some u)(hp:h.objs.size≤a)(hn:H a=none):Un fs ex H (upd H a o) h h' where
 keep:=fun b u q _ _ _=>k b u q
 slot:=fun b u q _ _ _=>⟨u.slots,k b u q⟩
 free:=fun b u q n _=>by rw[Y5 (Nat.ne_of_lt (Nat.lt_of_lt_of_le (An q) hp))];exact n
 there:=fun b u q _=>⟨u,k b u q⟩
 tups:=fun b xs q=>by rw[Y5 (W5 q hn)];exact q
 frzs:=fun b u xs q=>by rw[Y5 (W5 q hn)];exact q
 tbls:=fun b ps q=>⟨#[],by rw[Y5 (W5 q hn),q];simp⟩
theorem Un.write(mu:Mut (H x))(he:e=x∨H e=some (.own x))(k:∀b u,b≠e→h.get? b=some u→h'.get? b=some u)(heo:∃u,h'.get? e=some u):Un fs ex H (upd H x o) h h':=by
 have hx:∀b,H b=none→b≠x:=fun b n z=>by subst z;rw[n] at mu;exact mu
 have hb:∀b,H b=none→b≠e:=fun b n z=>by
  subst z
  rcases he with r | r
  ·exact hx b n r
  ·rw[n] at r;cases r
 have hm:∀b u,H b=some u→¬Mut (some u)→b≠x:=fun b u q nm z=>by subst z;rw[q] at mu;exact nm mu
 refine⟨fun b u q n _ _=>k b u (hb b n) q,fun b u q n _ _=>⟨u.slots,k b u (hb b n) q⟩,fun b u q n _=>by rw[Y5 (hx b n)];exact n,fun b u q _=>?_,
  fun b xs q=>by rw[Y5 (hm b _ q fun z=>z)];exact q,fun b u xs q=>by rw[Y5 (hm b _ q fun z=>z)];exact q,fun b ps q=>⟨#[],by rw[Y5 (hm b _ q fun z=>z),q];simp⟩⟩
 by_cases hbe:b=e
 ·subst hbe;exact heo
 ·exact⟨u,k b u hbe q⟩
end
noncomputable def trk(h:Heap)(H:Hp):List Addr:=(Dj h.objs.size).filter fun a=>(H a).isSome
noncomputable def hidT(h:Heap)(H:Hp):Heap:=PySem.W.hideAll h (trk h H)
theorem Zn1(h:Heap)(H:Hp):(hidT h H).objs.size=h.objs.size:=PySem.W.hideAll_size _ _
theorem Y38{h:Heap}{H:Hp}{b:Addr}{o:Obj}(e:h.get? b=some o)(n:H b=none):(hidT h H).get? b=some o:=
 PySem.W.hideAll_get _ e fun hm=>by
  have q:(H b).isSome=true:=(Ku.mp hm).2
  rw[n] at q;simp at q
theorem Yi5{h:Heap}{H:Hp}{b:Addr}{o:Obj}(e:(hidT h H).get? b=some o):h.get? b=some o∧H b=none:=by
 have e':h.get? b=some o:=PySem.W.of_hideAll (trk h H) e
 refine⟨e',?_⟩
 cases q:H b with
 | none=>rfl
 | some x=>
  have hm:b∈trk h H:=Ku.mpr ⟨He.mpr (An e'),by simp[q]⟩
  have z:(hidT h H).get? b=none:=PySem.W.hideAll_none (trk h H) hm
  rw[z] at e;cases e
noncomputable def Yf4(g h:Heap)(L:Addr):List (Addr×Obj):=(Dj h.objs.size).filterMap fun a=>if a=L∨(g.get? a).isSome=true then none else(h.get? a).map fun o=>(a,o)
noncomputable def rest(g h:Heap)(L d:Addr):List (Addr×Obj):=(Yf4 g h L).filter fun p=>decide (p.1≠d)
structure Mod(K:Af)(mg:Str→Option Value)(base:Heap):Prop where
 kin:K.In base
 glob:base.Ns mainGlobals mg
 blt:∃mb,base.Ns builtinsNs mb∧∀x:Str,x≠"__name__"→mb x=bootBuiltins x
 nolimit:base.NoLimit
structure Cx where
 prog:Program
 w:World
 K:Af
 mg:Str→Option Value
 base:Heap
 A:Around
 N:List Str
 s₀:Shared
 H₀:Hp
 env:Env
 outer:List Env
 stack:List Env
 ex:List Addr
 fn:Str→Bool
 calm:Bool
 pn:List (Addr×Obj)
 xe:Value→Shared→Prop
noncomputable def frs(l:List Env):List Addr:=l.filterMap (·.frame)
noncomputable abbrev Cx.fs(X:Cx):List Addr:=frs X.outer
def Vis(sc:Scope)(x:Str):Prop:=sc.names.lookup x=some .local∨sc.names.lookup x=some .cell∨sc.names.lookup x=some .free
def Loc(sc:Scope)(x:Str):Prop:=sc.names.lookup x=some .local∨sc.names.lookup x=some .cell
def Look(env:Env)(h:Heap)(m:Str→Option Value)(x:Str)(u:Value):Prop:=
 (env.kindOf x=some .local∧m x=some u)∨((env.kindOf x=some .cell∨env.kindOf x=some .free)∧∃c,env.cells.lookup x=some c∧h.IsCell c (some u))
structure Cx.Ok(X:Cx):Prop where
 mod:Mod X.K X.mg X.base
 kind:X.env.scope.kind= .function
 glob:X.env.globals=mainGlobals
 blt:X.env.builtins=builtinsNs
 above:X.s₀.heap.objs.size≤X.env.locals
 inj:∀x y c,X.env.cells.lookup x=some c→X.env.cells.lookup y=some c→x=y
 has:∀x,(X.env.kindOf x=some .cell∨X.env.kindOf x=some .free)→∃c,X.env.cells.lookup x=some c
 cab:∀x c,X.fn x=true→X.env.cells.lookup x=some c→X.s₀.heap.objs.size≤c
 hd:X.calm=true→X.A.handled=none
 frames:X.A.frames=some X.stack
 stk:X.stack=X.outer∨(X.stack=X.env::X.outer∧X.env.frame=some X.env.locals)
 exf:∀b∈X.ex,b≠X.env.locals∧∀x c,X.env.cells.lookup x=some c→c≠b
 bs:∀b o,X.base.get? b=some o→X.s₀.heap.get? b=some o∧X.H₀ b=none
 bsz:X.base.objs.size≤X.s₀.heap.objs.size
 noex:∀b o,X.base.get? b=some o→b∉X.ex
 exfs:∀b∈X.ex,b∉X.fs
 funs:X.s₀.heap.FunFrames X.base X.outer
 frf:∀b∈X.fs,X.H₀ b=none
structure Inv(X:Cx)(pins:List (Addr×Obj))(σ:List (Option V))(H:Hp)(s:Shared):Prop where
 ok:X.Ok
 os:s.os=X.s₀.os
 bare:AllBare s.gens
 base:Un X.fs X.ex X.H₀ H X.s₀.heap s.heap
 loc:∃m,s.heap.Ns X.env.locals m∧∀(i:Nat) (x:Str) (v:V),X.N[i]?=some x→σ[i]?=some (some v)→Vis X.env.scope x→∃u,RelV v u∧Look X.env s.heap m x u
 cell:∀x c,X.env.cells.lookup x=some c→∃v,s.heap.IsCell c v
 free:H X.env.locals=none
 freeC:∀x c,X.env.cells.lookup x=some c→H c=none
 pin:∀p∈X.pn++pins,s.heap.get? p.1=some p.2∧H p.1=none∧p.1≠X.env.locals∧p.1∉X.fs∧∀v,p.2.data≠ .cell v
 hok:HOk X.prog X.w H s.heap
 len:σ.length=X.N.length
section
variable{X:Cx}{pins:List (Addr×Obj)}{σ:List (Option V)}{H H':Hp}{s:Shared}{h':Heap}
theorem Cx.Ok.nofr(ok:X.Ok){b:Addr}{o:Obj}(e:X.base.get? b=some o):b∉X.fs:=fun hb=>by
 have:=(ok.funs.mem hb).1
 rw[e] at this;cases this
theorem Inv.bs(I:Inv X pins σ H s):∀b o,X.base.get? b=some o→s.heap.get? b=some o∧H b=none:=fun b o e=>
 ⟨I.base.keep b o (I.ok.bs b o e).1 (I.ok.bs b o e).2 (I.ok.nofr e) (I.ok.noex b o e),I.base.free b o (I.ok.bs b o e).1 (I.ok.bs b o e).2 (I.ok.noex b o e)⟩
theorem Inv.bk(I:Inv X pins σ H s):∀b o,X.base.get? b=some o→s.heap.get? b=some o:=fun b o e=>(I.bs b o e).1
theorem Inv.mod(I:Inv X pins σ H s):Mod X.K X.mg X.base:=I.ok.mod
theorem Inv.kIn(I:Inv X pins σ H s):X.K.In s.heap:=I.ok.mod.kin.keeps I.bk
theorem Inv.lt(I:Inv X pins σ H s):X.env.locals<s.heap.objs.size:=by obtain⟨_,hn,_⟩:=I.loc;exact hn.lt
theorem Inv.sz(I:Inv X pins σ H s):X.s₀.heap.objs.size≤s.heap.objs.size:=Nat.le_trans I.ok.above (Nat.le_of_lt I.lt)
theorem Inv.nofs(I:Inv X pins σ H s){a:Addr}(h:s.heap.objs.size≤a):a∉X.fs:=fun hb=>by
 obtain⟨_,o,ho,_⟩:=I.ok.funs.mem hb
 exact absurd (Nat.lt_of_lt_of_le (An ho) (Nat.le_trans I.sz h)) (Nat.lt_irrefl _)
theorem Inv.cne(I:Inv X pins σ H s):∀x c,X.env.cells.lookup x=some c→c≠X.env.locals:=fun x c e z=>by
 obtain⟨v,o,ho,hd⟩:=I.cell x c e
 obtain⟨m,⟨o',es,ep,ho',hd',_⟩,_⟩:=I.loc
 rw[z,ho'] at ho;cases ho;rw[hd'] at hd;cases hd
theorem Inv.funs(I:Inv X pins σ H s):s.heap.FunFrames X.base X.outer:=by
 have all:∀(l:List Env),(∀b∈frs l,b∈X.fs)→X.s₀.heap.FunFrames X.base l→s.heap.FunFrames X.base l:=by
  intro l
  induction l with
  | nil=>intro _ _;trivial
  | cons env r ih=>
   intro hs hl
   obtain⟨hk,⟨L,o,hf,hn,ho,hd⟩,hr⟩:=hl
   have hL:L∈X.fs:=hs L (by unfold frs;rw[Ll,hf];exact De)
   obtain⟨sl,e⟩:=I.base.slot L o ho (I.ok.frf L hL) hL fun z=>I.ok.exfs L z hL
   exact⟨hk,⟨L,_,hf,hn,e,hd⟩,ih (fun b hb=>hs b (by unfold frs;rw[Ll,hf];exact Dd _ hb)) hr⟩
 exact all X.outer (fun _ hb=>hb) I.ok.funs
theorem Inv.stack(I:Inv X pins σ H s):s.heap.FunFrames X.base X.stack:=by
 rcases I.ok.stk with e | ⟨e,hf⟩
 ·rw[e];exact I.funs
 ·rw[e]
  obtain⟨m,hn,_⟩:=I.loc
  refine .cons (by rw[I.ok.kind];decide) hf hn ?_ I.funs
  exact Heap.get?_none_of_le (Nat.le_trans I.ok.bsz I.ok.above)
theorem Inv.stkSub(I:Inv X pins σ H s):∀b∈frs X.stack,b∈X.env.locals::X.fs:=fun b hb=>by
 rcases I.ok.stk with e | ⟨e,hf⟩
 ·rw[e] at hb;exact Dd _ hb
 ·rw[e] at hb
  unfold frs at hb
  rw[Ll,hf] at hb
  exact hb
theorem Inv.stkFree(I:Inv X pins σ H s):∀b∈frs X.stack,H b=none:=fun b hb=>by
 rcases Ao.mp (I.stkSub b hb) with e | hb
 ·rw[e];exact I.free
 ·obtain⟨_,o,ho,_⟩:=I.ok.funs.mem hb
  exact I.base.free b o ho (I.ok.frf b hb) fun z=>I.ok.exfs b z hb
theorem Inv.step{g':Array GenState}{t':Nat}{d':Drawn}{ch:List Addr}(I:Inv X pins σ H s)
  (hch:∀b∈ch,(b∈X.ex∨X.s₀.heap.objs.size≤b)∧b≠X.env.locals∧(∀x c,X.env.cells.lookup x=some c→c≠b)∧∀p∈X.pn++pins,p.1≠b)
  (keep:∀b o,b≠X.env.locals→b∉X.fs→b∉ch→s.heap.get? b=some o→H b=none→h'.get? b=some o)
  (slot:∀b o,b≠X.env.locals→b∈X.fs→b∉ch→s.heap.get? b=some o→H b=none→∃sl,h'.get? b=some {o with slots:=sl}) (free:∀b o,b∉ch→s.heap.get? b=some o→H b=none→H' b=none)
  (there:∀b o,b∉ch→s.heap.get? b=some o→∃o',h'.get? b=some o')
  (tups:∀b xs,H b=some (.tup xs)→H' b=some (.tup xs)) (frzs:∀b o u,H b=some (.frz o u)→H' b=some (.frz o u)) (tbls:∀b ps,H b=some (.tbl ps)→∃more,H' b=some (.tbl (ps++more)))
  (ns:∀m,s.heap.Ns X.env.locals m→h'.Ns X.env.locals m) (hok:HOk X.prog X.w H' h') (hg:AllBare g'):
  Inv X pins σ H' {s with heap:=h',gens:=g',drawn:=d',toks:=t'}:=by
 have neL:∀b o,X.s₀.heap.get? b=some o→b≠X.env.locals:=fun b o e=>Nat.ne_of_lt (Nat.lt_of_lt_of_le (An e) I.ok.above)
 have neC:∀b o,X.s₀.heap.get? b=some o→b∉X.ex→b∉ch:=fun b o e hx hb=>by
  rcases(hch b hb).1 with z | z
  ·exact hx z
  ·exact absurd (Nat.lt_of_lt_of_le (An e) z) (Nat.lt_irrefl _)
 have cellK:∀x c,X.env.cells.lookup x=some c→∀v,s.heap.IsCell c v→h'.IsCell c v:=fun x c e v ⟨o,ho,hd⟩=>by
  have nch:c∉ch:=fun z=>(hch c z).2.2.1 x c e rfl
  by_cases hc:c∈X.fs
  ·obtain⟨sl,q⟩:=slot c o (I.cne x c e) hc nch ho (I.freeC x c e)
   exact⟨_,q,hd⟩
  ·exact⟨o,keep c o (I.cne x c e) hc nch ho (I.freeC x c e),hd⟩
 refine⟨I.ok,I.os,hg,⟨fun b o e n hb hx=>?_,fun b o e n hb hx=>?_,fun b o e n hx=>?_,fun b o e hx=>?_,fun b xs e=>tups b xs (I.base.tups b xs e),fun b o xs e=>frzs b o xs (I.base.frzs b o xs e),fun b ps e=>?_⟩,?_,fun x c e=>?_,?_,fun x c e=>?_,fun p hp=>?_,hok,I.len⟩
 ·exact keep b o (neL b o e) hb (neC b o e hx) (I.base.keep b o e n hb hx) (I.base.free b o e n hx)
 ·obtain⟨sl,e1⟩:=I.base.slot b o e n hb hx
  obtain⟨sl',e2⟩:=slot b _ (neL b o e) hb (neC b o e hx) e1 (I.base.free b o e n hx)
  exact⟨sl',e2⟩
 ·obtain⟨o',e1⟩:=I.base.there b o e hx
  exact free b o' (neC b o e hx) e1 (I.base.free b o e n hx)
 ·obtain⟨o',e1⟩:=I.base.there b o e hx
  exact there b o' (neC b o e hx) e1
 ·obtain⟨m1,e1⟩:=I.base.tbls b ps e
  obtain⟨m2,e2⟩:=tbls b _ e1
  exact⟨m1++m2,by rw[e2,Array.append_assoc]⟩
 ·obtain⟨m,hn,hl⟩:=I.loc
  refine⟨m,ns m hn,fun i x v e1 e2 e3=>?_⟩
  obtain⟨u,r,l⟩:=hl i x v e1 e2 e3
  refine⟨u,r,?_⟩
  rcases l with l | ⟨k,c,e,z⟩
  ·exact .inl l
  ·exact .inr ⟨k,c,e,cellK x c e _ z⟩
 ·obtain⟨v,z⟩:=I.cell x c e
  exact⟨v,cellK x c e v z⟩
 ·obtain⟨m,⟨o,_,_,ho,_⟩,_⟩:=I.loc
  exact free _ o (fun z=>(hch _ z).2.1 rfl) ho I.free
 ·obtain⟨v,o,ho,hd⟩:=I.cell x c e
  exact free c o (fun z=>(hch c z).2.2.1 x c e rfl) ho (I.freeC x c e)
 ·obtain⟨e,n,ne,nf,d⟩:=I.pin p hp
  have nch:p.1∉ch:=fun z=>(hch p.1 z).2.2.2 p hp rfl
  exact⟨keep p.1 p.2 ne nf nch e n,free p.1 p.2 nch e n,ne,nf,d⟩
theorem Inv.un{t':Nat}(I:Inv X pins σ H s)(u:Un X.fs [] H H' s.heap h')(hok:HOk X.prog X.w H' h'):Inv X pins σ H' {s with heap:=h',toks:=t'}:=by
 obtain⟨m,⟨o,es,ep,ho,r⟩,_⟩:=id I.loc
 obtain⟨sl,hL⟩:=u.any ho I.free (by simp)
 exact I.step (g':=s.gens) (d':=s.drawn) (ch:=[]) (fun _ z=>nomatch z) (fun b o _ hb _ e n=>u.keep b o e n hb (by simp)) (fun b o _ hb _ e n=>u.slot b o e n hb (by simp)) (fun b o _ e n=>u.free b o e n (by simp)) (fun b o _ e=>u.there b o e (by simp)) u.tups u.frzs u.tbls (fun m' hm=>by
  obtain⟨o',es',ep',ho',r'⟩:=hm
  rw[ho] at ho';cases ho'
  exact⟨_,es',ep',hL,r'⟩) hok I.bare
theorem Inv.call{g':Array GenState}{t':Nat}{d':Drawn}{ch:List Addr}(I:Inv X pins σ H s)(u:Un (frs X.stack) ch H H' s.heap h')(hok:HOk X.prog X.w H' h')(hg:AllBare g')
  (hch:∀b∈ch,(b∈X.ex∨X.s₀.heap.objs.size≤b)∧b≠X.env.locals∧(∀x c,X.env.cells.lookup x=some c→c≠b)∧∀p∈X.pn++pins,p.1≠b):
  Inv X pins σ H' {s with heap:=h',gens:=g',drawn:=d',toks:=t'}:=by
 obtain⟨m,⟨o,es,ep,ho,r⟩,_⟩:=id I.loc
 obtain⟨sl,hL⟩:=u.any ho I.free fun z=>(hch _ z).2.1 rfl
 exact I.step (ch:=ch) hch (fun b o hL hb hc e n=>u.keep b o e n (fun z=>(Ao.mp (I.stkSub b z)).elim hL hb) hc) (fun b o _ _ hc e n=>u.any e n hc) (fun b o hc e n=>u.free b o e n hc) (fun b o hc e=>u.there b o e hc) u.tups u.frzs u.tbls (fun m' hm=>by
  obtain⟨o',es',ep',ho',r'⟩:=hm
  rw[ho] at ho';cases ho'
  exact⟨_,es',ep',hL,r'⟩) hok hg
theorem Inv.turned{t':Nat}{it:Addr}(I:Inv X pins σ H s)(k:∀b o,b≠it→s.heap.get? b=some o→h'.get? b=some o)(hn:H it=none)(hL:it≠X.env.locals)
  (h1:it∈X.ex∨X.s₀.heap.objs.size≤it) (h2:∀x c,X.env.cells.lookup x=some c→c≠it) (h3:∀p∈X.pn++pins,p.1≠it):Inv X pins σ H {s with heap:=h',toks:=t'}:=by
 have nit:∀b u,H b=some u→b≠it:=fun b u e z=>by rw[z,hn] at e;cases e
 refine I.step (g':=s.gens) (d':=s.drawn) (ch:=[it]) (fun b hb=>?_) (fun b o _ _ hc e _=>k b o (fun z=>hc (by simp[z])) e) (fun b o _ _ hc e _=>⟨o.slots,k b o (fun z=>hc (by simp[z])) e⟩) (fun _ _ _ _ n=>n)
  (fun b o hc e=>⟨o,k b o (fun z=>hc (by simp[z])) e⟩) (fun _ _ e=>e) (fun _ _ _ e=>e) (fun b ps e=>⟨#[],by rw[e];simp⟩) (fun m hm=>?_) (fun b u e=>?_) I.bare
 ·have e:b=it:=by simpa using hb
  subst e
  exact⟨h1,hL,h2,h3⟩
 ·obtain⟨o,es,ep,ho,r⟩:=hm
  exact⟨o,es,ep,k _ o (Hw hL) ho,r⟩
 ·refine(I.hok b u e).stay (fun c v hc q=>k c v ?_ q) (fun _ q=>q) fun _ _ q=>q
  rcases hc with z | z
  ·rw[z];exact nit b u e
  ·exact nit c _ z
theorem Inv.tok(I:Inv X pins σ H s)(t:Nat):Inv X pins σ H {s with toks:=t}:=I.un (h':=s.heap) (t':=t) Un.refl I.hok
theorem Inv.kept{t':Nat}(I:Inv X pins σ H s)(k:∀b u,s.heap.get? b=some u→h'.get? b=some u):Inv X pins σ H {s with heap:=h',toks:=t'}:=I.un (Un.kept k) (I.hok.kept k)
theorem Inv.laid{a:Addr}{o:HO}{t':Nat}(I:Inv X pins σ H s)(k:∀b u,s.heap.get? b=some u→h'.get? b=some u)(hp:s.heap.objs.size≤a)(new:Yo X.prog X.w (upd H a o) h' a o):
  Inv X pins σ (upd H a o) {s with heap:=h',toks:=t'}:=I.un (Un.laid k hp (I.hok.fresh hp)) (I.hok.laid k hp new)
theorem Inv.write{x e:Addr}{o:HO}{t':Nat}(I:Inv X pins σ H s)(mu:Mut (H x))(he:e=x∨H e=some (.own x))(k:∀b u,b≠e→s.heap.get? b=some u→h'.get? b=some u)(heo:∃u,h'.get? e=some u)
  (new:Yo X.prog X.w (upd H x o) h' x o):Inv X pins σ (upd H x o) {s with heap:=h',toks:=t'}:=I.un (Un.write mu he k heo) (I.hok.write mu he k heo new)
theorem Inv.pins_of{pins':List (Addr×Obj)}(I:Inv X pins σ H s)(h:∀p∈pins',s.heap.get? p.1=some p.2∧H p.1=none∧p.1≠X.env.locals∧p.1∉X.fs∧∀v,p.2.data≠ .cell v):Inv X pins' σ H s:=
 ⟨I.ok,I.os,I.bare,I.base,I.loc,I.cell,I.free,I.freeC,fun p hp=>(Ap.mp hp).elim (fun z=>I.pin p (Ay _ z)) (h p),I.hok,I.len⟩
theorem Z31{N:List Str}(hN:N.Nodup){i j:Nat}{x:Str}(a:N[i]?=some x)(b:N[j]?=some x):i=j:=by
 obtain⟨h1,e1⟩:=Ac.mp a
 obtain⟨h2,e2⟩:=Ac.mp b
 exact(List.getElem_inj hN).mp (e1.trans e2.symm)
theorem Qx{M:Model}{A:Around}{E:Value→Shared→Prop}{i:Nat}{x:Str}{v:V}{u:Value}{Q:Unit→Shared→Prop}(I:Inv X pins σ H s)(hN:X.N.Nodup)(hi:X.N[i]?=some x)(hx:Loc X.env.scope x)(r:RelV v u)
  (h:∀s',Inv X pins (σ.set i (some v)) H s'→(∃a,Ik a s.heap s'.heap∧(a=X.env.locals∨X.env.cells.lookup x=some a))→Q () s') (hf:X.fn x=true∨X.env.scope.names.lookup x=some .local:=by first | exact .inl rfl | exact .inr rfl | assumption):wpAny M A (storeName X.env x u) Q E s:=by
 obtain⟨m,hn,hl⟩:=id I.loc
 have hcls:(X.env.scope.kind== .class || (X.env.scope.kind== .module&&X.env.locals !=X.env.globals))=false:=by rw[I.ok.kind];rfl
 have hiσ:i<σ.length:=by rw[I.len];exact(Ac.mp hi).1
 have cne:=I.cne
 have tracked:∀{a:Addr} {h':Heap},(∃o,s.heap.get? a=some o∧H a=none)→Ik a s.heap h'→HOk X.prog X.w H h':=fun{a h'} ha hs b ob e=>by
  obtain⟨_,_,hfree⟩:=ha
  refine(I.hok b ob e).stay (fun c w' hc q=>(hs.2 c ?_).trans q) (fun _ q=>q) fun _ _ q=>q
  rintro rfl
  rcases hc with rfl | hc
  ·rw[hfree] at e;cases e
  ·rw[hfree] at hc;cases hc
 rcases hx with hk | hk
 ·refine wpAny_storeName_local hk hn (fun h' hn' hs=>?_) hcls
  obtain⟨oL,_,_,hoL,_⟩:=id hn
  refine h _ ⟨I.ok,I.os,I.bare,⟨fun b o e n hb hx=>?_,fun b o e n hb hx=>?_,I.base.free,fun b o e hx=>?_,I.base.tups,I.base.frzs,I.base.tbls⟩,⟨_,hn',fun j y v' e1 e2 e3=>?_⟩,fun y c e=>?_,I.free,I.freeC,fun p hp=>?_,tracked ⟨oL,hoL,I.free⟩ hs,by simpa using I.len⟩ ⟨_,hs,.inl rfl⟩
  ·exact(hs.2 b (Nat.ne_of_lt (Nat.lt_of_lt_of_le (An e) I.ok.above))).trans (I.base.keep b o e n hb hx)
  ·obtain⟨sl,e1⟩:=I.base.slot b o e n hb hx
   exact⟨sl,(hs.2 b (Nat.ne_of_lt (Nat.lt_of_lt_of_le (An e) I.ok.above))).trans e1⟩
  ·obtain⟨o',e1⟩:=I.base.there b o e hx
   exact⟨o',(hs.2 b (Nat.ne_of_lt (Nat.lt_of_lt_of_le (An e) I.ok.above))).trans e1⟩
  ·by_cases hj:j=i
   ·subst hj
    rw[hi] at e1;cases e1
    rw[Ha hiσ] at e2
    cases e2
    exact⟨u,r,.inl ⟨hk,by simp⟩⟩
   ·rw[Dx (Hw hj)] at e2
    obtain⟨u',r',q⟩:=hl j y v' e1 e2 e3
    refine⟨u',r',?_⟩
    rcases q with⟨k,e⟩ | ⟨k,c,e,z⟩
    ·refine .inl ⟨k,?_⟩
     have:y≠x:=fun e=>hj (Z31 hN e1 (e ▸ hi))
     simp[this,e]
    ·exact .inr ⟨k,c,e,z.sameBut hs (cne y c e)⟩
  ·obtain⟨w',z⟩:=I.cell y c e
   exact⟨w',z.sameBut hs (cne y c e)⟩
  ·obtain⟨e,n,ne,nf,d⟩:=I.pin p hp
   exact⟨(hs.2 p.1 ne).trans e,n,ne,nf,d⟩
 ·have hfn:X.fn x=true:=by
   rcases hf with z | z
   ·exact z
   ·rw[z] at hk;cases hk
  obtain⟨c,hc⟩:=I.ok.has x (.inl hk)
  obtain⟨w',z⟩:=I.cell x c hc
  refine wpAny_storeName_cell I.ok.kind hk hc z (fun h' hc' hs=>?_)
  obtain⟨oc,hoc,hocd⟩:=id z
  refine h {s with heap:=h'} ⟨I.ok,I.os,I.bare,⟨fun b o e n hb hx=>?_,fun b o e n hb hx=>?_,I.base.free,fun b o e hx=>?_,I.base.tups,I.base.frzs,I.base.tbls⟩,⟨m,hn.sameBut hs (Hw (cne x c hc)),fun j y v' e1 e2 e3=>?_⟩,fun y c' e=>?_,I.free,I.freeC,fun p hp=>?_,tracked ⟨oc,hoc,I.freeC x c hc⟩ hs,by simpa using I.len⟩ ⟨c,hs,.inr hc⟩
  ·exact(hs.2 b (Nat.ne_of_lt (Nat.lt_of_lt_of_le (An e) (I.ok.cab x c hfn hc)))).trans (I.base.keep b o e n hb hx)
  ·obtain⟨sl,e1⟩:=I.base.slot b o e n hb hx
   exact⟨sl,(hs.2 b (Nat.ne_of_lt (Nat.lt_of_lt_of_le (An e) (I.ok.cab x c hfn hc)))).trans e1⟩
  ·obtain⟨o',e1⟩:=I.base.there b o e hx
   exact⟨o',(hs.2 b (Nat.ne_of_lt (Nat.lt_of_lt_of_le (An e) (I.ok.cab x c hfn hc)))).trans e1⟩
  ·by_cases hj:j=i
   ·subst hj
    rw[hi] at e1;cases e1
    rw[Ha hiσ] at e2
    cases e2
    exact⟨u,r,.inr ⟨.inl hk,c,hc,hc'⟩⟩
   ·rw[Dx (Hw hj)] at e2
    obtain⟨u',r',q⟩:=hl j y v' e1 e2 e3
    refine⟨u',r',?_⟩
    rcases q with q | ⟨k,c',e,z'⟩
    ·exact .inl q
    ·refine .inr ⟨k,c',e,z'.sameBut hs ?_⟩
     rintro rfl
     exact hj (Z31 hN e1 (I.ok.inj _ _ _ e hc ▸ hi))
  ·by_cases hcc:c'=c
   ·subst hcc;exact⟨_,hc'⟩
   ·obtain⟨w2,z2⟩:=I.cell y c' e
    exact⟨w2,z2.sameBut hs hcc⟩
  ·obtain⟨e,n,ne,nf,d⟩:=I.pin p hp
   refine⟨(hs.2 p.1 ?_).trans e,n,ne,nf,d⟩
   intro q
   rw[q,hoc] at e
   have q':oc=p.2:=Dm e
   exact d w' (by rw[←q'];exact hocd)
theorem Zu8{M:Model}{A:Around}{E:Value→Shared→Prop}{i:Nat}{x:Str}{v:V}{u:Value}{Q:Unit→Shared→Prop}(I:Inv X pins σ H s)(hN:X.N.Nodup)(hi:X.N[i]?=some x)(hx:Loc X.env.scope x)(r:RelV v u)
  (h:∀s',Inv X pins (σ.set i (some v)) H s'→Q () s') (hf:X.fn x=true∨X.env.scope.names.lookup x=some .local:=by first | exact .inl rfl | exact .inr rfl | assumption):wpAny M A (storeName X.env x u) Q E s:=
 Qx I hN hi hx r (fun s' I' _=>h s' I') hf
theorem Inv.call'{s':Shared}{ch:List Addr}(I:Inv X pins σ H s)(ho:s'.os=s.os)(u:Un (frs X.stack) ch H H' s.heap s'.heap)(hok:HOk X.prog X.w H' s'.heap)(hg:AllBare s'.gens)
  (hch:∀b∈ch,(b∈X.ex∨X.s₀.heap.objs.size≤b)∧b≠X.env.locals∧(∀x c,X.env.cells.lookup x=some c→c≠b)∧∀p∈X.pn++pins,p.1≠b):Inv X pins σ H' s':=by
 obtain⟨h',g',d',t',o'⟩:=s'
 have e:o'=s.os:=ho
 subst e
 exact I.call (g':=g') (t':=t') (d':=d') u hok hg hch
end
abbrev XK:=Value→Option Addr→Hp→Prop
noncomputable abbrev St:=List (Option V)
abbrev VK:=V→Hp→Prop
abbrev TE:=St→Hp→VK→Prop
abbrev TT:=St→Hp→(Bool→Hp→Prop)→Prop
abbrev TA:=St→Hp→(List V→Hp→Prop)→Prop
structure Ends where
 nx:St→Hp→Prop
 rt:VK
 bk:St→Hp→Prop:=fun _ _=>False
 ct:St→Hp→Prop:=fun _ _=>False
abbrev TS:=Ends→St→Hp→Prop
def EP(X:Cx)(pins:List (Addr×Obj))(σ:St)(Q:VK)(u:Value)(s':Shared):Prop:=∃v H',Inv X pins σ H' s'∧RelV v u∧Q v H'
def TP(X:Cx)(pins:List (Addr×Obj))(σ:St)(Q:Bool→Hp→Prop)(b:Bool)(s':Shared):Prop:=∃H',Inv X pins σ H' s'∧Q b H'
def AP(X:Cx)(pins:List (Addr×Obj))(σ:St)(Q:List V→Hp→Prop)(us:List Value)(s':Shared):Prop:=∃vs H',Inv X pins σ H' s'∧Vals vs us∧Q vs H'
def SP(X:Cx)(pins:List (Addr×Obj))(D:Ends)(f:Flow)(s':Shared):Prop:=
 match f with
 | .next=>∃σ' H',Inv X pins σ' H' s'∧D.nx σ' H'
 | .brk=>∃σ' H',Inv X pins σ' H' s'∧D.bk σ' H'
 | .cont=>∃σ' H',Inv X pins σ' H' s'∧D.ct σ' H'
 | .ret u=>∃v σ' H',Inv X pins σ' H' s'∧RelV v u∧D.rt v H'
def PE(X:Cx)(e:Expr)(t:TE):Prop:=
 ∀(pins:List (Addr×Obj)) (s:Shared) (σ:St) (H:Hp) (Q:VK),Inv X pins σ H s→t σ H Q→wpAny (model X.prog X.w) X.A (eval e X.env) (EP X pins σ Q) X.xe s
def PT(X:Cx)(e:Expr)(t:TT):Prop:=
 ∀(pins:List (Addr×Obj)) (s:Shared) (σ:St) (H:Hp) (Q:Bool→Hp→Prop),Inv X pins σ H s→t σ H Q→wpAny (model X.prog X.w) X.A (isTrue e X.env (eval e X.env)) (TP X pins σ Q) X.xe s
def PW(X:Cx)(e:Expr)(t:TT):Prop:=
 ∀(whole:Sem Value) (pins:List (Addr×Obj)) (s:Shared) (σ:St) (H:Hp) (Q:Bool→Hp→Prop),Inv X pins σ H s→t σ H Q→wpAny (model X.prog X.w) X.A (isTrue e X.env whole) (TP X pins σ Q) X.xe s
theorem PW.pt{X:Cx}{e:Expr}{t:TT}(h:PW X e t):PT X e t:=h _
def PA(X:Cx)(es:List Expr)(t:TA):Prop:=
 ∀(pos:Pos) (pins:List (Addr×Obj)) (s:Shared) (σ:St) (H:Hp) (Q:List V→Hp→Prop),Inv X pins σ H s→t σ H Q→wpAny (model X.prog X.w) X.A (spliced (backTo pos (starEach es X.env))) (AP X pins σ Q) X.xe s
def PS(X:Cx)(st:Stmt)(t:TS):Prop:=
 ∀(pins:List (Addr×Obj)) (s:Shared) (σ:St) (H:Hp) (D:Ends),Inv X pins σ H s→t D σ H→wpAny (model X.prog X.w) X.A (exec st X.env) (SP X pins D) X.xe s
def PSs(X:Cx)(st:List Stmt)(t:TS):Prop:=
 ∀(pins:List (Addr×Obj)) (s:Shared) (σ:St) (H:Hp) (D:Ends),Inv X pins σ H s→t D σ H→wpAny (model X.prog X.w) X.A (execs st X.env) (SP X pins D) X.xe s
theorem thn{α:Type}{t:Sem α}{Q Q':α→Shared→Prop}{M:Model}{A:Around}{E:Value→Shared→Prop}{s:Shared}(h:wpAny M A t Q E s)(hQ:∀a s,Q a s→Q' a s):wpAny M A t Q' E s:=Hm h hQ fun _ _ x=>x
section
variable{X:Cx}
theorem bin{a b:Expr}{ta tb:TE}(ha:PE X a ta)(hb:PE X b tb){pins:List (Addr×Obj)}{s:Shared}{σ:St}{H:Hp}{R:V→V→Hp→Prop}(I:Inv X pins σ H s)(h:ta σ H fun x H1=>tb σ H1 fun y H2=>R x y H2)
  {α:Type} {Q:α→Shared→Prop} {f:Value→Value→Sem α}
  (hf:∀v u s2 x y H2,Inv X pins σ H2 s2→RelV x v→RelV y u→R x y H2→wpAny (model X.prog X.w) X.A (f v u) Q X.xe s2):
  wpAny (model X.prog X.w) X.A (eval a X.env) (fun v s₁=>wpAny (model X.prog X.w) X.A (eval b X.env) (fun u s₂=>wpAny (model X.prog X.w) X.A (f v u) Q X.xe s₂) X.xe s₁) X.xe s:=by
 refine thn (ha pins s σ H _ I h) fun v s1 zz2=>?_
 obtain⟨x,H1,I1,r1,q1⟩:=zz2
 refine thn (hb pins s1 σ H1 _ I1 q1) fun u s2 zz3=>?_
 obtain⟨y,H2,I2,r2,q2⟩:=zz3
 exact hf v u s2 x y H2 I2 r1 r2 q2
def tVar(i:Nat):TE:=fun σ H Q=>∃v,σ[i]?=some (some v)∧Q v H
def tC(v:V):TE:=fun _ H Q=>Q v H
theorem Yn5{i:Nat}{x:Str}{pos:Pos}(hN:X.N[i]?=some x)(hv:Vis X.env.scope x)(hd:(x==("__debug__":Str))=false:=by decide)(hcd:(x==("__classdict__":Str))=false:=by decide):PE X (.Name x pos) (tVar i):=by
 intro pins s σ H Q I h
 obtain⟨v,e,h⟩:=h
 obtain⟨m,hn,hl⟩:=I.loc
 obtain⟨u,r,l⟩:=hl i x v hN e hv
 have fin:EP X pins σ Q u s:=⟨v,H,I,r,h⟩
 rcases l with⟨hk,hm⟩ | ⟨hk,c,hc,hcell⟩
 ·exact wpAny_Name (wpAny_loadName_local I.ok.kind hk hn hm fin) hd
 ·rcases hk with hk | hk
  ·exact wpAny_Name (wpAny_loadName_cell I.ok.kind hk hc hcell fin) hd
  ·exact wpAny_Name (wpAny_loadName_free I.ok.kind hk hc hcell fin hcd) hd
theorem Y55{i j pos}:PE X (.Constant (.int i) j pos) (tC (.int i)):=fun _ _ _ H _ I h=>wpAny_Constant_int ⟨.int i,H,I.tok _,⟨_,rfl⟩,h⟩
theorem Yw4{b j pos}:PE X (.Constant (.bool b) j pos) (tC (.bl b)):=fun _ _ _ H _ I h=>Constant_bool ⟨.bl b,H,I,rfl,h⟩
theorem Ys1{j pos}:PE X (.Constant .none j pos) (tC .non):=fun _ _ _ H _ I h=>Constant_none ⟨.non,H,I,rfl,h⟩
theorem Yj3{x j pos}:PE X (.Constant (.str x) j pos) (tC (.str x)):=fun _ _ _ H _ I h=>Calls.Constant_str ⟨.str x,H,I.tok _,⟨_,rfl⟩,h⟩
def Gl(X:Cx)(x:Str):Prop:=X.env.kindOf x=some .globalImplicit
theorem B4{E:Value→Shared→Prop}{pins:List (Addr×Obj)}{s:Shared}{σ:St}{H:Hp}{x:Str}{u:Value}{pos:Pos}{Q:Value→Shared→Prop}(I:Inv X pins σ H s)(hg:Gl X x)(hm:X.mg x=some u)(h:Q u s)
  (hd:(x==("__debug__":Str))=false:=by decide):wpAny (model X.prog X.w) X.A (eval (.Name x pos) X.env) Q E s:=
 Calls.Name_function_global I.ok.kind hg (Calls.loadGlobal_global (by rw[I.ok.glob];exact I.mod.glob.keeps I.bk) hm h) hd
theorem Ni{E:Value→Shared→Prop}{pins:List (Addr×Obj)}{s:Shared}{σ:St}{H:Hp}{x:Str}{u:Value}{pos:Pos}{Q:Value→Shared→Prop}(I:Inv X pins σ H s)(hg:Gl X x)(hm:X.mg x=none)(hv:bootBuiltins x=some u)(h:Q u s)
  (hn:x≠"__name__":=by decide) (hd:(x==("__debug__":Str))=false:=by decide):wpAny (model X.prog X.w) X.A (eval (.Name x pos) X.env) Q E s:=by
 obtain⟨mb,h1,h2⟩:=I.mod.blt
 exact Calls.Name_function_global I.ok.kind hg (Calls.loadGlobal_builtin (by rw[I.ok.glob];exact I.mod.glob.keeps I.bk) hm (by rw[I.ok.blt];exact h1.keeps I.bk) ((h2 x hn).trans hv) h) hd
theorem Yd6{x:Str}{v:V}{u:Value}{pos:Pos}(hg:Gl X x)(hm:X.mg x=some u)(r:RelV v u)(hd:(x==("__debug__":Str))=false:=by decide):PE X (.Name x pos) (tC v):=
 fun _ _ _ H _ I h=>B4 I hg hm ⟨v,H,I,r,h⟩ hd
theorem Yd2{x:Str}{v:V}{u:Value}{pos:Pos}(hg:Gl X x)(hm:X.mg x=none)(hv:bootBuiltins x=some u)(r:RelV v u)(hn:x≠"__name__":=by decide)(hd:(x==("__debug__":Str))=false:=by decide):PE X (.Name x pos) (tC v):=
 fun _ _ _ H _ I h=>Ni I hg hm hv ⟨v,H,I,r,h⟩ hn hd
variable{a b:Expr}{ta tb:TE}{pos:Pos}
variable{tA tB':TT}{rest:List Expr}
def tAnd(t u:TT):TT:=fun σ H Q=>t σ H fun c H1=>if c=true then u σ H1 Q else Q false H1
def tOr(t u:TT):TT:=fun σ H Q=>t σ H fun c H1=>if c=true then Q true H1 else u σ H1 Q
def tNot(t:TT):TT:=fun σ H Q=>t σ H fun c H1=>Q (!c) H1
theorem Yb4(ha:PT X a tA):PW X (.BoolOp .And [a] pos) tA:=by
 intro wh pins s σ H Q I h
 refine isTrue_and (thn (ha pins s σ H Q I h) fun c s1 e=>?_)
 cases c with
 | true=>exact isTrue_and_nil e
 | false=>exact e
theorem Yp1(ha:PT X a tA):PW X (.BoolOp .Or [a] pos) tA:=by
 intro wh pins s σ H Q I h
 refine isTrue_or (thn (ha pins s σ H Q I h) fun c s1 e=>?_)
 cases c with
 | false=>exact isTrue_or_nil e
 | true=>exact e
theorem Yp8(ha:PT X a tA)(hb:PW X (.BoolOp .And (b::rest) pos) tB'):PW X (.BoolOp .And (a::b::rest) pos) (tAnd tA tB'):=by
 intro wh pins s σ H Q I h
 refine isTrue_and (thn (ha pins s σ H _ I h) fun c s1 zz4=>?_)
 obtain⟨H1,I1,q1⟩:=zz4
 cases c with
 | true=>exact hb wh pins s1 σ H1 Q I1 q1
 | false=>exact⟨H1,I1,q1⟩
theorem Yv9(ha:PT X a tA)(hb:PW X (.BoolOp .Or (b::rest) pos) tB'):PW X (.BoolOp .Or (a::b::rest) pos) (tOr tA tB'):=by
 intro wh pins s σ H Q I h
 refine isTrue_or (thn (ha pins s σ H _ I h) fun c s1 zz5=>?_)
 obtain⟨H1,I1,q1⟩:=zz5
 cases c with
 | true=>exact⟨H1,I1,q1⟩
 | false=>exact hb wh pins s1 σ H1 Q I1 q1
theorem Yq0(ha:PT X a tA):PT X (.UnaryOp .Not a pos) (tNot tA):=by
 intro pins s σ H Q I h
 exact isTrue_not (ha pins s σ H (fun c H1=>Q (!c) H1) I h)
theorem Yj2{op}{t:TE}(h:PE X a t):PE X (.BoolOp op [a] pos) t:=fun pins s σ H Q I hw=>BoolOp_one (h pins s σ H Q I hw)
def tIf(t:TT)(ta tb:TE):TE:=fun σ H Q=>t σ H fun c H1=>if c=true then ta σ H1 Q else tb σ H1 Q
theorem Zs6{c:Expr}(hc:PT X c tA)(ha:PE X a ta)(hb:PE X b tb):PE X (.IfExp c a b pos) (tIf tA ta tb):=by
 intro pins s σ H Q I h
 refine wpAny_IfExp (thn (hc pins s σ H _ I h) fun d s1 zz6=>?_)
 obtain⟨H1,I1,q1⟩:=zz6
 cases d with
 | true=>exact ha pins s1 σ H1 Q I1 q1
 | false=>exact hb pins s1 σ H1 Q I1 q1
end
def SqL(K:Af)(H:Hp)(a:Addr)(xs:List V):Prop:=
 Rd H a (.lst xs)∨
  ∃(o:Obj) (its:Array Value) (n:Nat),K.lookup a=some o∧o.cls= .type "list"∧o.dict=none∧o.data= .seq its n∧its.size≤sizeLine∧Vals xs its.toList
def SqT(K:Af)(H:Hp)(a:Addr)(xs:List V):Prop:=
 Rd H a (.tup xs)∨
  ∃(o:Obj) (its:Array Value) (n:Nat),K.lookup a=some o∧o.cls= .type "tuple"∧o.data= .seq its n∧its.size≤sizeLine∧Vals xs its.toList
noncomputable def absV:Value→Option V
 | .none=>some .non
 | .bool b=>some (.bl b)
 | .int i _=>some (.int i)
 | .str x _=>some (.str x)
 | .bytes b _=>some (.byt b)
 | .float b _=>some (.flt b)
 | .ref a=>some (.ref a)
 | .type n=>some (.ty n)
 | _=>none
theorem RelV.abs{x:V}{u:Value}(r:RelV x u):absV u=some x:=by
 cases x with
 | non=>cases r;rfl
 | bl _=>cases r;rfl
 | int _=>obtain⟨t,rfl⟩:=r;rfl
 | str _=>obtain⟨t,rfl⟩:=r;rfl
 | byt _=>obtain⟨t,rfl⟩:=r;rfl
 | flt _=>obtain⟨t,rfl⟩:=r;rfl
 | ref _=>cases r;rfl
 | ty _=>cases r;rfl
theorem RelV.inj{x y:V}{u:Value}(r:RelV x u)(q:RelV y u):x=y:=Dm (r.abs.symm.trans q.abs)
theorem Vals.inj:∀{xs ys:List V} {us:List Value},Vals xs us→Vals ys us→xs=ys
 | _,_,_,.nil,.nil=>rfl
 | _,_,_,.cons r t,.cons r' t'=>by rw[r.inj r',Vals.inj t t']
section
variable{X:Cx}{pins:List (Addr×Obj)}{σ:St}{H:Hp}{s:Shared}{a:Addr}{xs ys:List V}
theorem SqT.of{K:Af}(h:H a=some (.tup xs)):SqT K H a xs:= .inl (.inl h)
theorem Inv.list(I:Inv X pins σ H s)(h:SqL X.K H a xs):∃its:List Value,Vals xs its∧PlainL s.heap a its.toArray∧xs.length≤sizeLine:=by
 rcases h with h | ⟨o,its,n,hk,hc,hd,hs,hz,r⟩
 ·obtain⟨z,its,n,r,e⟩:=h.ok I.hok
  exact⟨its,r,⟨_,n,e,rfl,rfl,rfl⟩,z⟩
 ·refine⟨its.toList,r,⟨o,n,I.kIn a o hk,hc,hd,by simpa using hs⟩,?_⟩
  have e:=r.length
  simp only[Df] at e
  omega
theorem Inv.tuple(I:Inv X pins σ H s)(h:SqT X.K H a xs):∃its:List Value,Vals xs its∧IsTup s.heap a its.toArray∧xs.length≤sizeLine:=by
 rcases h with h | ⟨o,its,n,hk,hc,hs,hz,r⟩
 ·obtain⟨z,its,r,p⟩:=h.ok I.hok
  exact⟨its,r,p,z⟩
 ·refine⟨its.toList,r,⟨o,I.kIn a o hk,hc,n,by simpa using hs⟩,?_⟩
  have e:=r.length
  simp only[Df] at e
  omega
theorem Inv.list_inj(I:Inv X pins σ H s)(h:SqL X.K H a xs)(h':SqL X.K H a ys):xs=ys:=by
 obtain⟨its,r,⟨o,n,e,_,_,d⟩,_⟩:=I.list h
 obtain⟨its',r',⟨o',n',e',_,_,d'⟩,_⟩:=I.list h'
 rw[e] at e';cases e'
 rw[d] at d'
 injection d' with d1 _
 have:its=its':=by simpa using congrArg Array.toList d1
 subst this
 exact r.inj r'
theorem Inv.tuple_inj(I:Inv X pins σ H s)(h:SqT X.K H a xs)(h':SqT X.K H a ys):xs=ys:=by
 obtain⟨its,r,⟨o,e,_,n,d⟩,_⟩:=I.tuple h
 obtain⟨its',r',⟨o',e',_,n',d'⟩,_⟩:=I.tuple h'
 rw[e] at e';cases e'
 rw[d] at d'
 injection d' with d1 _
 have:its=its':=by simpa using congrArg Array.toList d1
 subst this
 exact r.inj r'
end
abbrev Cx.wish(X:Cx)(E:Value→Shared→Prop):Cx:={X with xe:=E}
noncomputable abbrev Cx.nox(X:Cx):Cx:=X.wish fun _ _=>False
theorem Cx.Ok.wish{X:Cx}(ok:X.Ok)(E:Value→Shared→Prop):(X.wish E).Ok:=
 ⟨ok.mod,ok.kind,ok.glob,ok.blt,ok.above,ok.inj,ok.has,ok.cab,ok.hd,ok.frames,ok.stk,ok.exf,ok.bs,ok.bsz,ok.noex,ok.exfs,ok.funs,ok.frf⟩
theorem Cx.Ok.unwish{X:Cx}{E:Value→Shared→Prop}(ok:(X.wish E).Ok):X.Ok:=
 ⟨ok.mod,ok.kind,ok.glob,ok.blt,ok.above,ok.inj,ok.has,ok.cab,ok.hd,ok.frames,ok.stk,ok.exf,ok.bs,ok.bsz,ok.noex,ok.exfs,ok.funs,ok.frf⟩
section
variable{X:Cx}{pins:List (Addr×Obj)}{σ:St}{H:Hp}{s:Shared}{E:Value→Shared→Prop}
theorem Inv.wish(I:Inv X pins σ H s)(E:Value→Shared→Prop):Inv (X.wish E) pins σ H s:=⟨I.ok.wish E,I.os,I.bare,I.base,I.loc,I.cell,I.free,I.freeC,I.pin,I.hok,I.len⟩
theorem Inv.unwish(I:Inv (X.wish E) pins σ H s):Inv X pins σ H s:=⟨I.ok.unwish,I.os,I.bare,I.base,I.loc,I.cell,I.free,I.freeC,I.pin,I.hok,I.len⟩
theorem SP.unwish{D:Ends}{f:Flow}{s':Shared}(h:SP (X.wish E) pins D f s'):SP X pins D f s':=by
 cases f with
 | next=>obtain⟨σ',H',I,q⟩:=h;exact⟨σ',H',I.unwish,q⟩
 | brk=>obtain⟨σ',H',I,q⟩:=h;exact⟨σ',H',I.unwish,q⟩
 | cont=>obtain⟨σ',H',I,q⟩:=h;exact⟨σ',H',I.unwish,q⟩
 | ret u=>obtain⟨v,σ',H',I,r,q⟩:=h;exact⟨v,σ',H',I.unwish,r,q⟩
theorem PSs.nox{st:List Stmt}{t:TS}(h:PSs X.nox st t):PSs X st t:=fun pins s σ H D I hw=>
 Hm (h pins s σ H D (I.wish _) hw) (fun _ _ q=>q.unwish) fun _ _ z=>Dp z
end
section
variable{X:Cx}{st:Stmt}{rest:List Stmt}{t u:TS}{e:Expr}{te:TE}{pos:Pos}
def Yv6:TS:=fun D σ H=>D.nx σ H
def tSeq(t u:TS):TS:=fun D σ H=>t {D with nx:=u D} σ H
theorem Ya0:PSs X [] Yv6:=fun _ _ σ H _ I h=>wpAny_execs_nil ⟨σ,H,I,h⟩
theorem Y39(h1:PS X st t)(h2:PSs X rest u):PSs X (st::rest) (tSeq t u):=by
 intro pins s σ H D I h
 refine wpAny_execs_cons (thn (h1 pins s σ H {D with nx:=u D} I h) fun f s1 q=>?_)
 cases f with
 | next=>
  obtain⟨σ',H',I',q⟩:=q
  exact h2 pins s1 σ' H' D I' q
 | ret v=>exact q
 | brk=>exact q
 | cont=>exact q
theorem Inv.quiet{pins:List (Addr×Obj)}{σ:St}{H:Hp}{s:Shared}(I:Inv X pins σ H s):interactive X.env=false:=by simp[interactive,I.ok.kind]
def Yv2(te:TE):TS:=fun D σ H=>te σ H fun _ H1=>D.nx σ H1
theorem Yf8(he:PE X e te)(hs:swapsWith e none pos.line X.env=pure false:=by rfl):PS X (.Expr e pos) (Yv2 te):=by
 intro pins s σ H D I h
 exact wpAny_Expr_any (thn (he pins s σ H _ I h) fun v s1 zz7=>by obtain⟨x,H1,I1,r1,q1⟩:=zz7;exact⟨σ,H1,I1,q1⟩) I.quiet hs
def tRet(te:TE):TS:=fun D σ H=>te σ H D.rt
theorem Ys6(he:PE X e te):PS X (.Return (some e) pos) (tRet te):=by
 intro pins s σ H D I h
 exact wpAny_Return_some (thn (he pins s σ H _ I h) fun v s1 zz8=>by obtain⟨x,H1,I1,r1,q1⟩:=zz8;exact⟨x,σ,H1,I1,r1,q1⟩)
def tIfS(c:TT)(t u:TS):TS:=fun D σ H=>c σ H fun b H1=>if b=true then t D σ H1 else u D σ H1
theorem Yv1{c:Expr}{a b:List Stmt}{tc:TT}(hc:PT X c tc)(ha:PSs X a t)(hb:PSs X b u):PS X (.If c a b pos) (tIfS tc t u):=by
 intro pins s σ H D I h
 refine wpAny_If (thn (hc pins s σ H _ I h) fun d s1 zz9=>?_)
 obtain⟨H1,I1,q1⟩:=zz9
 cases d with
 | true=>exact ha pins s1 σ H1 D I1 q1
 | false=>exact hb pins s1 σ H1 D I1 q1
end
abbrev TG:=V→St→Hp→(St→Hp→Prop)→Prop
abbrev TGs:=List V→St→Hp→(St→Hp→Prop)→Prop
def PG(X:Cx)(target:Expr)(t:TG):Prop:=
 ∀(pins:List (Addr×Obj)) (s:Shared) (σ:St) (H:Hp) (v:V) (u:Value) (Q:St→Hp→Prop),Inv X pins σ H s→RelV v u→t v σ H Q→
  wpAny (model X.prog X.w) X.A (assign target X.env u) (fun _ s'=>∃σ' H',Inv X pins σ' H' s'∧Q σ' H') X.xe s
def PGs(X:Cx)(ts:List Expr)(t:TGs):Prop:=
 ∀(pins:List (Addr×Obj)) (s:Shared) (σ:St) (H:Hp) (vs:List V) (us:List Value) (Q:St→Hp→Prop),Inv X pins σ H s→Vals vs us→t vs σ H Q→
  wpAny (model X.prog X.w) X.A (assignInOrder ((assignEach ts X.env).map (·.2)) us) (fun _ s'=>∃σ' H',Inv X pins σ' H' s'∧Q σ' H') X.xe s
abbrev TSet:=V→V→V→Hp→(Hp→Prop)→Prop
def PSet(X:Cx)(t:TSet):Prop:=
 ∀(pins:List (Addr×Obj)) (s:Shared) (σ:St) (H:Hp) (o i v:V) (ov iv u:Value) (Q:Hp→Prop),Inv X pins σ H s→RelV o ov→RelV i iv→RelV v u→t o i v H Q→
  wpAny (model X.prog X.w) X.A (setItem ov iv u) (fun _ s'=>∃H',Inv X pins σ H' s'∧Q H') X.xe s
section
variable{X:Cx}{pos:Pos}
noncomputable def Zx1(i:Nat):TG:=fun v σ H Q=>Q (σ.set i (some v)) H
theorem Yi4{i:Nat}{x:Str}(hN:X.N.Nodup)(hi:X.N[i]?=some x)(hx:Loc X.env.scope x)(hf:X.fn x=true∨X.env.scope.names.lookup x=some .local:=by first | exact .inl rfl | exact .inr rfl | assumption):PG X (.Name x pos) (Zx1 i):=by
 intro pins s σ H v u Q I r h
 exact wpAny_assign_Name (Zu8 I hN hi hx r (fun s' I'=>⟨_,H,I',h⟩) hf)
noncomputable def gNil:TGs:=fun vs σ H Q=>vs=[]∧Q σ H
noncomputable def Yj8(t:TG)(u:TGs):TGs:=fun vs σ H Q=>∃v r,vs=v::r∧t v σ H fun σ' H'=>u r σ' H' Q
theorem Yi8:PGs X [] gNil:=by
 intro pins s σ H vs us Q I r h
 obtain⟨e,h⟩:=h
 subst e
 cases r
 exact assignInOrder_nil ⟨σ,H,I,h⟩
theorem Zv7{e:Expr}{es:List Expr}{t:TG}{u:TGs}(h1:PG X e t)(h2:PGs X es u)
  (hs:(assignEach (e::es) X.env).map (·.2)=assign e X.env::(assignEach es X.env).map (·.2):=by rfl):PGs X (e::es) (Yj8 t u):=by
 intro pins s σ H vs us Q I r h
 obtain⟨v,vr,e1,h⟩:=h
 subst e1
 cases r with
 | cons r rr=>
  rw[hs]
  refine assignInOrder_cons (thn (h1 pins s σ H _ _ _ I r h) fun _ s1 zz10=>?_)
  obtain⟨σ1,H1,I1,q1⟩:=zz10
  exact h2 pins s1 σ1 H1 _ _ Q I1 rr q1
noncomputable def gTup(K:Af)(n:Nat)(t:TGs):TG:=fun v σ H Q=>∃a xs,v= .ref a∧SqT K H a xs∧xs.length=n∧t xs σ H Q
theorem Ym6{es:List Expr}{k:Nat}{t:TGs}{n:Nat}(hc:X.calm=true)(h:PGs X es t)
  (hn:(assignEach es X.env).length=n:=by rfl) (hst:(assignEach es X.env).findIdx? (·.1)=none:=by rfl):PG X (.Tuple es k pos) (gTup X.K n t):=by
 intro pins s σ H v u Q I r hw
 obtain⟨a,xs,e1,hq,hl,hw⟩:=hw
 subst e1
 cases r
 obtain⟨its,rv,ht,hz⟩:=I.tuple hq
 refine assign_Tuple_tuple (I.ok.hd hc) ht (by simp[hn,←hl,rv.length]) hst fun h' hx=>?_
 have I1:Inv X pins σ H {s with heap:=h'}:=I.kept (t':=s.toks) fun b o e=>hx b o (Nat.ne_of_lt (An e)) e
 exact h pins _ σ H xs _ Q I1 (by simpa using rv) hw
def tAsg(te:TE)(g:TG):TS:=fun D σ H=>te σ H fun x H1=>g x σ H1 D.nx
theorem Y68{tg e:Expr}{te:TE}{g:TG}(he:PE X e te)(hg:PG X tg g)(hs:swapsWithSole [tg] e pos.line X.env=pure false:=by rfl)(hw:swappedStores [tg] e X.env=pure none:=by rfl)
  (h1:(assignEach [tg] X.env).map (·.2)=[assign tg X.env]:=by rfl):PS X (.Assign [tg] e pos) (tAsg te g):=by
 intro pins s σ H D I h
 refine wpAny_Assign_stores (thn (he pins s σ H _ I h) fun v s1 zz11=>?_) hs hw
 obtain⟨x,H1,I1,r1,q1⟩:=zz11
 rw[h1]
 exact thn (hg pins s1 σ H1 x v _ I1 r1 q1) fun _ s2 q=>q
end
section
variable{X:Cx}{pos:Pos}
def Yq2(c:TT)(tb:TS):TS:=fun D σ H=>∃W:Nat→St→Hp→Prop,(∃m,W m σ H)∧∀m σ H,W m σ H→
 c σ H fun b H1=>if b=true then ∃N:St→Hp→Prop,(∀σ' H',N σ' H'→∃m',m'<m∧W m' σ' H')∧tb {D with nx:=N,ct:=N,bk:=D.nx} σ H1 else D.nx σ H1
theorem Y10{c:Expr}{body:List Stmt}{tc:TT}{tb:TS}(hp:PassesOwn (model X.prog X.w) X.A X.env X.xe)(hc:PT X c tc)(hb:PSs X body tb):PS X (.While c body [] pos) (Yq2 tc tb):=by
 intro pins s σ H D I h
 obtain⟨W,⟨m0,w0⟩,turn⟩:=h
 refine wpAny_While (codeAny_whileLoop (fun n s'=>∃σ' H',Inv X pins σ' H' s'∧W n σ' H') ?_ m0 ⟨σ,H,I,w0⟩)
 rintro n s1 ⟨σ1,H1,I1,w1⟩
 refine Kv hp (thn (hc pins s1 σ1 H1 _ I1 (turn n σ1 H1 w1)) fun b s2 zz12=>?_)
 obtain⟨H2,I2,q2⟩:=zz12
 cases b with
 | true=>
  obtain⟨N,hN,q2⟩:=q2
  rw[if_pos rfl]
  refine Kv hp (thn (hb pins s2 σ1 H2 _ I2 q2) fun f s3 q3=>?_)
  cases f with
  | next=>
   obtain⟨σ3,H3,I3,n3⟩:=q3
   obtain⟨m',hm,w3⟩:=hN σ3 H3 n3
   exact⟨m',hm,σ3,H3,I3,w3⟩
  | cont=>
   obtain⟨σ3,H3,I3,n3⟩:=q3
   obtain⟨m',hm,w3⟩:=hN σ3 H3 n3
   exact⟨m',hm,σ3,H3,I3,w3⟩
  | brk=>exact q3
  | ret v=>exact q3
 | false=>
  rw[if_neg Bf9]
  exact wpAny_execs_nil ⟨σ1,H2,I2,q2⟩
end
structure It where
 go:Nat→Hp→Prop
 yld:Nat→Hp→V→Hp→Prop
 stop:Nat→Hp→Prop
def FpOk(X:Cx)(pins:List (Addr×Obj))(H:Hp)(b:Addr):Prop:=
 H b=none∧b≠X.env.locals∧b∉X.fs∧(b∈X.ex∨X.s₀.heap.objs.size≤b)∧(∀x c,X.env.cells.lookup x=some c→c≠b)∧∀p∈X.pn++pins,p.1≠b
theorem Inv.fpOk{X:Cx}{pins:List (Addr×Obj)}{σ:St}{H H':Hp}{s:Shared}{b:Addr}(I:Inv X pins σ H s)(hb:s.heap.objs.size≤b)(hn:H' b=none):FpOk X pins H' b:=by
 refine⟨hn,Nat.ne_of_gt (Nat.lt_of_lt_of_le I.lt hb),I.nofs hb,.inr (Nat.le_trans I.sz hb),fun x c e z=>?_,fun p hp z=>?_⟩
 ·obtain⟨v,q⟩:=I.cell x c e
  exact absurd (Nat.lt_of_lt_of_le q.lt (by rw[z];exact hb)) (Nat.lt_irrefl _)
 ·exact absurd (Nat.lt_of_lt_of_le (An (I.pin p hp).1) (by rw[z];exact hb)) (Nat.lt_irrefl _)
structure Turn(P:Program)(w:World)(K:Af)(tg:Expr)(J:It)(fp:List Addr)(it:Addr)(tn:Nat→Heap→Prop):Prop where
 mem:it∈fp
 obj:∀i h,tn i h→∀b∈fp,∃o,h.get? b=some o∧∀v,o.data≠ .cell v
 keep:∀i h h',tn i h→(∀b∈fp,∀o,h.get? b=some o→h'.get? b=some o)→tn i h'
 item:∀(X:Cx),X.prog=P→X.w=w→X.K=K→X.calm=true→∀(i:Nat) (pins:List (Addr×Obj)) (s:Shared) (σ:St) (H:Hp) (E:Value→Shared→Prop),Inv X pins σ H s→(∀b∈fp,FpOk X pins H b)→tn i s.heap→J.go i H→
  wpAny (model P w) X.A (pyNext (.ref it)) (fun r s1=>∃u,r=some u∧
   wpAny (model P w) X.A (letOwnedTupleGo tg (.ref it) u) (fun _ s2=>∃x H',Inv X pins σ H' s2∧RelV x u∧J.yld i H x H'∧tn (i+1) s2.heap∧∀b∈fp,H' b=none) E s1) E s
 done:∀(X:Cx),X.prog=P→X.w=w→X.K=K→X.calm=true→∀(i:Nat) (pins:List (Addr×Obj)) (s:Shared) (σ:St) (H:Hp) (E:Value→Shared→Prop),Inv X pins σ H s→(∀b∈fp,FpOk X pins H b)→tn i s.heap→J.stop i H→
  wpAny (model P w) X.A (pyNext (.ref it)) (fun r s1=>r=none∧Inv X pins σ H s1) E s
 self:∀(A:Around) (i:Nat) (s:Shared) (Q:Value→Shared→Prop) (E:Value→Shared→Prop),tn i s.heap→Q (.ref it) s→wpAny (model P w) A (pyIter (.ref it)) Q E s
abbrev TI:=St→Hp→(It→Hp→Prop)→Prop
def PIE(X:Cx)(pins:List (Addr×Obj))(σ:St)(tg:Expr)(R:It→Hp→Prop)(itv:Value)(s2:Shared):Prop:=
 ∃(it:Addr) (fp:List Addr) (tn:Nat→Heap→Prop) (J:It) (H':Hp),itv= .ref it∧Inv X pins σ H' s2∧Turn X.prog X.w X.K tg J fp it tn∧tn 0 s2.heap∧(∀b∈fp,FpOk X pins H' b)∧R J H'
def PI(X:Cx)(tg iter:Expr)(wi:TI):Prop:=
 ∀(pins:List (Addr×Obj)) (s:Shared) (σ:St) (H:Hp) (R:It→Hp→Prop),Inv X pins σ H s→wi σ H R→
  wpAny (model X.prog X.w) X.A (eval iter X.env) (fun v s1=>wpAny (model X.prog X.w) X.A (pyIter v) (PIE X pins σ tg R) X.xe s1) X.xe s
theorem Yh4{M:Model}{A:Around}{E:Value→Shared→Prop}{s:Shared}{tg:Expr}{it:Addr}{u:Value}{o:Obj}{n:String}{vs:Array Value}{Q:Unit→Shared→Prop}(ho:s.heap.get? it=some o)(hc:o.cls= .type n)(hd:o.data= .fields vs)
  (hn:["enumerate","zip","dict_itemiterator","dict_reverseitemiterator","odict_iterator","itertools.zip_longest","itertools.pairwise"].contains n=false) (hQ:Q () s):wpAny M A (letOwnedTupleGo tg (.ref it) u) Q E s:=by
 unfold letOwnedTupleGo
 cases tg<;>first
  | exact Ae hQ
  |(cases u<;>first
    | exact Ae hQ
    |(refine Ab (wpAny_load ho ?_)
      rw[hc,hd]
      show wpAny M A (if (["enumerate","zip","dict_itemiterator","dict_reverseitemiterator","odict_iterator","itertools.zip_longest","itertools.pairwise"].contains n&&vs[0]?==some (rawInt _))=true then _ else _) Q E s
      rw[if_neg (by intro h;rw[hn,Bool.false_and] at h;cases h)]
      exact Ae hQ))
noncomputable def Itl(K:Af)(a:Addr):It:=
 ⟨fun i H=>∃xs x,SqL K H a xs∧xs[i]?=some x,fun i H x H'=>H'=H∧∀xs,SqL K H a xs→xs[i]?=some x,fun i H=>∃xs,SqL K H a xs∧xs.length≤i⟩
noncomputable def Itt(K:Af)(a:Addr):It:=
 ⟨fun i H=>∃xs x,SqT K H a xs∧xs[i]?=some x,fun i H x H'=>H'=H∧∀xs,SqT K H a xs→xs[i]?=some x,fun i H=>∃xs,SqT K H a xs∧xs.length≤i⟩
noncomputable def Itr(lo:Int)(n:Nat):It:=⟨fun i _=>i<n,fun i H x H'=>H'=H∧x= .int (lo+i),fun i _=>n≤i⟩
theorem Zj4{P:Program}{w:World}{K:Af}{tg:Expr}(a it:Addr):Turn P w K tg (Itl K a) [it] it (fun i h=>h.IsListIter it a i) where
 mem:=by simp
 obj:=fun i h st b hb=>by
  have e:b=it:=by simpa using hb
  subst e
  obtain⟨o,e,c,d⟩:=st
  exact⟨o,e,fun v z=>by rw[d] at z;cases z⟩
 keep:=fun i h h' st k=>st.at fun o e=>k it (by simp) o e
 item:=by
  intro X hP hw hK hc i pins s σ H E I hf st hg
  subst hP hw hK
  obtain⟨xs,x,hq,hx⟩:=hg
  obtain⟨its,rv,p,hz⟩:=I.list hq
  obtain⟨u,hu,ru⟩:=rv.get hx
  obtain⟨f0,f1,f2,f3,f4,f5⟩:=hf it (by simp)
  refine wpAny_pyNext_list_item st p.isList (x:=u) (by simpa using hu) fun h' st' sb=>?_
  have I1:Inv X pins σ H {s with heap:=h'}:=I.turned (t':=s.toks) (fun b o hb e=>(sb.2 b hb).trans e) f0 f1 f3 f4 f5
  obtain⟨o,e,c,d⟩:=id st'
  exact⟨u,rfl,Yh4 (s:={s with heap:=h'}) e c d (by decide) ⟨x,H,I1,ru,⟨rfl,fun ys hy=>by rw[I.list_inj hy hq];exact hx⟩,st',fun b hb=>(hf b hb).1⟩⟩
 done:=by
  intro X hP hw hK hc i pins s σ H E I hf st hg
  subst hP hw hK
  obtain⟨xs,hq,hx⟩:=hg
  obtain⟨its,rv,p,hz⟩:=I.list hq
  obtain⟨f0,f1,f2,f3,f4,f5⟩:=hf it (by simp)
  have hl:=rv.length
  exact wpAny_pyNext_list_end (I.ok.hd hc) st p.isList (by simp;omega) fun h' eb=>⟨rfl,I.turned (t':=s.toks) (fun b o hb e=>eb b o hb e) f0 f1 f3 f4 f5⟩
 self:=fun _ _ _ _ _ st h=>wpAny_pyIter_listiter st h
theorem Z90{P:Program}{w:World}{K:Af}{tg:Expr}(a it:Addr):Turn P w K tg (Itt K a) [it] it (fun i h=>h.IsTupleIter it a i) where
 mem:=by simp
 obj:=fun i h st b hb=>by
  have e:b=it:=by simpa using hb
  subst e
  obtain⟨o,e,c,d⟩:=st
  exact⟨o,e,fun v z=>by rw[d] at z;cases z⟩
 keep:=fun i h h' st k=>st.at fun o e=>k it (by simp) o e
 item:=by
  intro X hP hw hK hc i pins s σ H E I hf st hg
  subst hP hw hK
  obtain⟨xs,x,hq,hx⟩:=hg
  obtain⟨its,rv,p,hz⟩:=I.tuple hq
  obtain⟨u,hu,ru⟩:=rv.get hx
  obtain⟨f0,f1,f2,f3,f4,f5⟩:=hf it (by simp)
  refine wpAny_pyNext_tuple_item st (show s.heap.IsTuple a its.toArray from p) (x:=u) (by simpa using hu) fun h' st' sb=>?_
  have I1:Inv X pins σ H {s with heap:=h'}:=I.turned (t':=s.toks) (fun b o hb e=>(sb.2 b hb).trans e) f0 f1 f3 f4 f5
  obtain⟨o,e,c,d⟩:=id st'
  exact⟨u,rfl,Yh4 (s:={s with heap:=h'}) e c d (by decide) ⟨x,H,I1,ru,⟨rfl,fun ys hy=>by rw[I.tuple_inj hy hq];exact hx⟩,st',fun b hb=>(hf b hb).1⟩⟩
 done:=by
  intro X hP hw hK hc i pins s σ H E I hf st hg
  subst hP hw hK
  obtain⟨xs,hq,hx⟩:=hg
  obtain⟨its,rv,p,hz⟩:=I.tuple hq
  obtain⟨f0,f1,f2,f3,f4,f5⟩:=hf it (by simp)
  have hl:=rv.length
  exact wpAny_pyNext_tuple_end (I.ok.hd hc) st (show s.heap.IsTuple a its.toArray from p) (by simp;omega) fun h' eb=>⟨rfl,I.turned (t':=s.toks) (fun b o hb e=>eb b o hb e) f0 f1 f3 f4 f5⟩
 self:=fun _ _ _ _ _ st h=>wpAny_pyIter_tupleiter st h
theorem Zb7{P:Program}{w:World}{K:Af}{tg:Expr}(it:Addr)(lo:Int)(n:Nat):Turn P w K tg (Itr lo n) [it] it (fun i h=>IsRangeIter h it (lo+(i:Nat) * 1) ((n:Int) - (i:Nat)) 1) where
 mem:=by simp
 obj:=fun i h st b hb=>by
  have e:b=it:=by simpa using hb
  subst e
  exact⟨_,st,fun v z=>by
   have z':Data.fields _=Data.cell v:=z
   cases z'⟩
 keep:=fun i h h' st k=>k it (by simp) _ st
 item:=by
  intro X hP hw hK hc i pins s σ H E I hf st hg
  subst hP hw hK
  obtain⟨f0,f1,f2,f3,f4,f5⟩:=hf it (by simp)
  have W:=Walks.range (prog:=X.prog) (w:=X.w) (I.ok.hd hc) it lo 1 n
  refine W.item i s _ _ hg st fun v h' tk hv st' kk=>?_
  obtain⟨t,rfl⟩:=hv
  have I1:Inv X pins σ H {s with heap:=h',toks:=tk}:=I.turned (fun b o hb e=>kk b o (by simpa using hb) e) f0 f1 f3 f4 f5
  refine⟨_,rfl,Yh4 (s:={s with heap:=h',toks:=tk}) (n:="range_iterator") st' rfl rfl (by decide) ⟨.int (lo+i),H,I1,⟨t,?_⟩,⟨rfl,rfl⟩,st',fun b hb=>(hf b hb).1⟩⟩
  rw[Int.mul_one]
 done:=by
  intro X hP hw hK hc i pins s σ H E I hf st hg
  subst hP hw hK
  obtain⟨f0,f1,f2,f3,f4,f5⟩:=hf it (by simp)
  exact wpAny_pyNext_range_end (I.ok.hd hc) st (by have:n≤i:=hg;omega) fun h' eb=>⟨rfl,I.turned (t':=s.toks) (fun b o hb e=>eb b o hb e) f0 f1 f3 f4 f5⟩
 self:=fun _ _ _ _ _ st h=>wpAny_pyIter_rangeiter st h
section
variable{X:Cx}{tg:Expr}
theorem Z19{pins:List (Addr×Obj)}{σ:St}{H:Hp}{s:Shared}{R:It→Hp→Prop}{E:Value→Shared→Prop}{lo hi:Int}{t u v:Tok}{tk:Nat}(I:Inv X pins σ H s)(h1:-(2 ^ 62)≤lo)(h2:lo<2 ^ 62)(h3:-(2 ^ 62)≤hi)(h4:hi<2 ^ 62)
  (q:R (Itr lo (hi - lo).toNat) H):wpAny (model X.prog X.w) X.A (pyIter (.ref s.heap.objs.size)) (PIE X pins σ tg R) E {s with heap:=s.heap.push {cls:= .type "range",data:= .fields #[.int lo t,.int hi u,.int 1 v]},toks:=tk}:=by
 refine wpAny_pyIter_range (IsRange.new ..) (small_one h1 h2 h3 h4) ?_
 have I1:Inv X pins σ H {s with heap:=s.heap.push {cls:= .type "range",data:= .fields #[.int lo t,.int hi u,.int 1 v]},toks:=tk}:=I.kept fun b o e=>Ag _ e
 refine⟨(s.heap.push {cls:= .type "range",data:= .fields #[.int lo t,.int hi u,.int 1 v]}).objs.size,[(s.heap.push {cls:= .type "range",data:= .fields #[.int lo t,.int hi u,.int 1 v]}).objs.size],_,_,H,rfl,
  I1.kept (t':=tk) fun b o e=>Ag _ e,Zb7 _ lo (hi - lo).toNat,?_,fun b hb=>?_,q⟩
 ·have e1:lo+((0:Nat):Int) * 1=lo:=by simp
  have e2:(((hi - lo).toNat:Nat):Int) - ((0:Nat):Int)=Builtin.Range.rangeSize lo hi 1:=by rw[rangeSize_one];split<;>omega
  show IsRangeIter _ _ (lo+((0:Nat):Int) * 1) ((((hi - lo).toNat:Nat):Int) - ((0:Nat):Int)) 1
  rw[e1,e2]
  exact Ar _ rfl
 ·have e:b=(s.heap.push {cls:= .type "range",data:= .fields #[.int lo t,.int hi u,.int 1 v]}).objs.size:=by simpa using hb
  subst e
  exact I1.fpOk (Nat.le_refl _) (I1.hok.fresh (Nat.le_refl _))
def Yv4(ta:TA):TI:=fun σ H R=>ta σ H fun vs H1=>∃j:Int,vs=[.int j]∧ -(2 ^ 62)≤j∧j<2 ^ 62∧R (Itr 0 j.toNat) H1
def Yu4(ta:TA):TI:=fun σ H R=>ta σ H fun vs H1=>∃i j:Int,vs=[.int i,.int j]∧(-(2 ^ 62)≤i∧i<2 ^ 62∧ -(2 ^ 62)≤j∧j<2 ^ 62)∧R (Itr i (j - i).toNat) H1
theorem Zn4{a:Expr}{ta:TA}{p pos:Pos}(hg:Gl X "range")(hm:X.mg "range"=none)(ha:PA X [a] ta)(hs:starEach [a] X.env=[(false,eval a X.env)]:=by rfl):PI X tg (.Call (.Name "range" p) [a] [] pos) (Yv4 ta):=by
 intro pins s σ H R I h
 refine Call_ (Ni I hg hm boot_range (Ko (thn (ha pos pins s σ H _ I h) fun us s1 zz13=>?_) hs rfl))
 obtain⟨vs,H1,I1,r1,q1⟩:=zz13
 obtain⟨j,e,q1,q2,q⟩:=q1
 subst e
 cases r1 with
 | cons r rr=>
  cases rr
  obtain⟨t,rfl⟩:=r
  exact call_range_1 (Z19 I1 (by omega) (by omega) q1 q2 (by simpa using q))
theorem Zk1{a b:Expr}{ta:TA}{p pos:Pos}(hg:Gl X "range")(hm:X.mg "range"=none)(ha:PA X [a,b] ta)(hs:starEach [a,b] X.env=[(false,eval a X.env),(false,eval b X.env)]:=by rfl)(hs2:starEach [b] X.env=[(false,eval b X.env)]:=by rfl):
  PI X tg (.Call (.Name "range" p) [a,b] [] pos) (Yu4 ta):=by
 intro pins s σ H R I h
 refine Call_ (Ni I hg hm boot_range (Ko (thn (ha pos pins s σ H _ I h) fun us s1 zz14=>?_) (by rw[hs,hs2]) (by rw[hs2];rfl)))
 obtain⟨vs,H1,I1,r1,q1⟩:=zz14
 obtain⟨i,j,e,⟨q1,q2,q3,q4⟩,q⟩:=q1
 subst e
 cases r1 with
 | cons r rr=>
  cases rr with
  | cons r' rr=>
   cases rr
   obtain⟨t,rfl⟩:=r
   obtain⟨t',rfl⟩:=r'
   exact call_range_2 (Z19 I1 q1 q2 q3 q4 q)
def tFor(wi:TI)(g:TG)(tb:TS):TS:=fun D σ H=>wi σ H fun J H1=>∃W:Nat→Nat→St→Hp→Prop,(∃m,W 0 m σ H1)∧∀i m σ H,W i m σ H→
 (J.stop i H∧D.nx σ H)∨(J.go i H∧∃N:St→Hp→Prop,(∀σ' H',N σ' H'→∃m',m'<m∧W (i+1) m' σ' H')∧∀x H',J.yld i H x H'→g x σ H' fun σ2 H2=>tb {D with nx:=N,ct:=N,bk:=D.nx} σ2 H2)
noncomputable def Z56(fp:List Addr)(h:Heap):List (Addr×Obj):=fp.filterMap fun b=>(h.get? b).map fun o=>(b,o)
theorem Yi{fp:List Addr}{h:Heap}{b:Addr}{o:Obj}(hb:b∈fp)(e:h.get? b=some o):(b,o)∈Z56 fp h:=Kb.mpr ⟨b,hb,by rw[e];rfl⟩
theorem Zn3{fp:List Addr}{h:Heap}{p:Addr×Obj}(hp:p∈Z56 fp h):p.1∈fp∧h.get? p.1=some p.2:=by
 obtain⟨b,hb,e⟩:=Kb.mp hp
 cases q:h.get? b with
 | none=>rw[q] at e;cases e
 | some o=>
  rw[q] at e
  have e':(b,o)=p:=Dm e
  subst e'
  exact⟨hb,q⟩
theorem Inv.pinned{pins:List (Addr×Obj)}{σ:St}{H:Hp}{s:Shared}{fp:List Addr}(I:Inv X pins σ H s)(hf:∀b∈fp,FpOk X pins H b)(ho:∀b∈fp,∃o,s.heap.get? b=some o∧∀v,o.data≠ .cell v):Inv X (pins++Z56 fp s.heap) σ H s:=
 I.pins_of fun p hp=>(Ap.mp hp).elim (fun z=>I.pin p (Bs _ z)) fun z=>by
  obtain⟨hb,e⟩:=Zn3 z
  obtain⟨f0,f1,f2,_⟩:=hf p.1 hb
  obtain⟨o,e',d⟩:=ho p.1 hb
  rw[e] at e';cases e'
  exact⟨e,f0,f1,f2,d⟩
theorem Inv.unpinned{pins pl:List (Addr×Obj)}{σ:St}{H:Hp}{s:Shared}(I:Inv X (pins++pl) σ H s):Inv X pins σ H s:=I.pins_of fun p hp=>I.pin p (Bs _ (Ay _ hp))
theorem Yl0{iter:Expr}{body:List Stmt}{wi:TI}{g:TG}{tb:TS}{pos:Pos}(hp:PassesOwn (model X.prog X.w) X.A X.env X.xe)(hc:X.calm=true)(hi:PI X tg iter wi)(hg:PG X tg g)(hb:PSs X body tb)
  (hs:∀x,foldedSetIterable iter X.env x=pure x:=by intro _;rfl):PS X (.For tg iter body [] pos) (tFor wi g tb):=by
 intro pins s σ H D I h
 refine wpAny_For (thn (hi pins s σ H _ I h) fun v s1 h1=>thn h1 fun itv s2 h2=>?_) hs
 obtain⟨it,fp,tn,J,H2,e,I2,T,st2,f2,W,⟨m0,w0⟩,turn⟩:=h2
 subst e
 have stat:∀{H':Hp},(∀b∈fp,H' b=none)→∀b∈fp,FpOk X pins H' b:=fun hn b hb=>⟨hn b hb,(f2 b hb).2⟩
 refine codeAny_forLoop_any (fun n s'=>∃i σ' H',Inv X pins σ' H' s'∧tn i s'.heap∧(∀b∈fp,H' b=none)∧W i n σ' H') ?_ m0 ⟨0,σ,H2,I2,st2,fun b hb=>(f2 b hb).1,w0⟩
 rintro n s3 ⟨i,σ3,H3,I3,st3,fr3,w3⟩
 rcases turn i n σ3 H3 w3 with⟨stop,qn⟩ | ⟨go,N,hN,step⟩
 ·refine Kv hp (thn (T.done X rfl rfl rfl hc i pins s3 σ3 H3 X.xe I3 (stat fr3) st3 stop) fun r s4 zz15=>?_)
  obtain⟨hr,I4⟩:=zz15
  subst hr
  exact wpAny_execs_nil ⟨σ3,H3,I4,qn⟩
 ·refine Kv hp (thn (T.item X rfl rfl rfl hc i pins s3 σ3 H3 X.xe I3 (stat fr3) st3 go) fun r s4 zz16=>?_)
  obtain⟨u,hr,h4⟩:=zz16
  subst hr
  refine Kv hp (thn h4 fun _ s5 zz17=>?_)
  obtain⟨x,H5,I5,r5,y5,st5,fr5⟩:=zz17
  have I5':=I5.pinned (stat fr5) (T.obj _ _ st5)
  refine Kv hp (thn (hg _ s5 σ3 H5 x u _ I5' r5 (step x H5 y5)) fun _ s6 zz18=>?_)
  obtain⟨σ6,H6,I6,q6⟩:=zz18
  refine Kv hp (thn (hb _ s6 σ6 H6 _ I6 q6) fun f s7 q7=>?_)
  have again:∀{σ7:St} {H7:Hp},Inv X (pins++Z56 fp s5.heap) σ7 H7 s7→N σ7 H7→∃m,m<n∧∃i σ' H',Inv X pins σ' H' s7∧tn i s7.heap∧(∀b∈fp,H' b=none)∧W i m σ' H':=fun{σ7 H7} I7 n7=>by
   obtain⟨m',hm,w7⟩:=hN σ7 H7 n7
   refine⟨m',hm,i+1,σ7,H7,I7.unpinned,T.keep _ _ _ st5 fun b hb o e=>(I7.pin (b,o) (Bs _ (Bs _ (Yi hb e)))).1,fun b hb=>?_,w7⟩
   obtain⟨o,e,d⟩:=T.obj _ _ st5 b hb
   exact(I7.pin (b,o) (Bs _ (Bs _ (Yi hb e)))).2.1
  cases f with
  | next=>obtain⟨σ7,H7,I7,n7⟩:=q7;exact again I7 n7
  | cont=>obtain⟨σ7,H7,I7,n7⟩:=q7;exact again I7 n7
  | brk=>obtain⟨σ7,H7,I7,q7⟩:=q7;exact⟨σ7,H7,I7.unpinned,q7⟩
  | ret v=>obtain⟨x7,σ7,H7,I7,r7,q7⟩:=q7;exact⟨x7,σ7,H7,I7.unpinned,r7,q7⟩
end
abbrev R2:=V→V→Hp→VK→Prop
def OpR(X:Cx)(f:Value→Value→Sem Value)(r:R2):Prop:=
 ∀(pins:List (Addr×Obj)) (s:Shared) (σ:St) (H:Hp) (x y:V) (v u:Value) (Q:VK),Inv X pins σ H s→RelV x v→RelV y u→r x y H Q→
  wpAny (model X.prog X.w) X.A (f v u) (EP X pins σ Q) X.xe s
def UnR(X:Cx)(f:Value→Sem Value)(r:V→Hp→VK→Prop):Prop:=
 ∀(pins:List (Addr×Obj)) (s:Shared) (σ:St) (H:Hp) (x:V) (v:Value) (Q:VK),Inv X pins σ H s→RelV x v→r x H Q→
  wpAny (model X.prog X.w) X.A (f v) (EP X pins σ Q) X.xe s
def Xk(X:Cx)(f:Value)(r:List V→Hp→VK→Prop):Prop:=
 ∀(pins:List (Addr×Obj)) (s:Shared) (σ:St) (H:Hp) (xs:List V) (us:List Value) (Q:VK),Inv X pins σ H s→Vals xs us→r xs H Q→
  wpAny (model X.prog X.w) X.A (call f us) (EP X pins σ Q) X.xe s
def TruR(X:Cx)(r:V→Hp→(Bool→Hp→Prop)→Prop):Prop:=
 ∀(pins:List (Addr×Obj)) (s:Shared) (σ:St) (H:Hp) (x:V) (v:Value) (Q:Bool→Hp→Prop),Inv X pins σ H s→RelV x v→r x H Q→
  wpAny (model X.prog X.w) X.A (truthy v) (TP X pins σ Q) X.xe s
def tOp(r:R2)(ta tb:TE):TE:=fun σ H Q=>ta σ H fun x H1=>tb σ H1 fun y H2=>r x y H2 Q
def tUn(r:V→Hp→VK→Prop)(ta:TE):TE:=fun σ H Q=>ta σ H fun x H1=>r x H1 Q
def rI(C:Int→Int→Prop)(g:Int→Int→V):R2:=fun x y H Q=>∃i j,x= .int i∧y= .int j∧C i j∧Q (g i j) H
def rI0(g:Int→Int→V):R2:=fun x y H Q=>∃i j,x= .int i∧y= .int j∧Q (g i j) H
def rU(g:Int→V):V→Hp→VK→Prop:=fun x H Q=>∃i,x= .int i∧Q (g i) H
section
variable{X:Cx}{a b c:Expr}{ta tb tc:TE}{pos:Pos}
theorem binT(ha:PE X a ta)(hb:PE X b tb){pins:List (Addr×Obj)}{s:Shared}{σ:St}{H:Hp}{R:V→V→Hp→Prop}(I:Inv X pins σ H s)
  (h:ta σ H fun x H1=>tb σ H1 fun y H2=>R x y H2) {Q:Value→Shared→Prop} {f:Value→Value→Sem Value}
  (hf:∀v u s2 x y H2,Inv X pins σ H2 s2→RelV x v→RelV y u→R x y H2→wpAny (model X.prog X.w) X.A (f v u) Q X.xe s2):
  wpAny (model X.prog X.w) X.A (eval a X.env) (fun v s₁=>wpAny (model X.prog X.w) X.A (eval b X.env) (fun u s₂=>wpAny (model X.prog X.w) X.A (f v u) Q X.xe s₂) X.xe s₁) X.xe s:=by
 refine thn (ha pins s σ H _ I h) fun v s1 zz19=>?_
 obtain⟨x,H1,I1,r1,q1⟩:=zz19
 refine thn (hb pins s1 σ H1 _ I1 q1) fun u s2 zz20=>?_
 obtain⟨y,H2,I2,r2,q2⟩:=zz20
 exact hf v u s2 x y H2 I2 r1 r2 q2
theorem Yu7{op:Operator}{r:R2}(ho:OpR X (binaryOp op) r)(ha:PE X a ta)(hb:PE X b tb):PE X (.BinOp a op b pos) (tOp r ta tb):=by
 intro pins s σ H Q I h
 exact wpAny_BinOp (binT ha hb I h fun v u s2 x y H2 I2 rx ry q=>ho pins s2 σ H2 x y v u Q I2 rx ry q)
theorem Yl7{op:UnaryOp}{r:V→Hp→VK→Prop}(ho:UnR X (unaryOp op) r)(ha:PE X a ta):PE X (.UnaryOp op a pos) (tUn r ta):=by
 intro pins s σ H Q I h
 exact UnaryOp_ (thn (ha pins s σ H _ I h) fun v s1 zz21=>by obtain⟨x,H1,I1,r1,q1⟩:=zz21;exact ho pins s1 σ H1 x v Q I1 r1 q1)
theorem opI{f:Value→Value→Sem Value}{C:Int→Int→Prop}{g:Int→Int→Int}
  (rule:∀(i j:Int) (t u:Tok) (s:Shared) (Q:Value→Shared→Prop) (E:Value→Shared→Prop),C i j→Q (.int (g i j) s.toks) {s with toks:=s.toks+1}→wpAny (model X.prog X.w) X.A (f (.int i t) (.int j u)) Q E s):
  OpR X f (rI C fun i j=> .int (g i j)):=by
 intro pins s σ H x y v u Q I rx ry h
 obtain⟨i,j,rfl,rfl,hc,q⟩:=h
 obtain⟨t,rfl⟩:=rx
 obtain⟨t',rfl⟩:=ry
 exact rule i j t t' s _ _ hc ⟨.int (g i j),H,I.tok _,⟨_,rfl⟩,q⟩
theorem opI0{f:Value→Value→Sem Value}{g:Int→Int→Int}
  (rule:∀(i j:Int) (t u:Tok) (s:Shared) (Q:Value→Shared→Prop) (E:Value→Shared→Prop),Q (.int (g i j) s.toks) {s with toks:=s.toks+1}→wpAny (model X.prog X.w) X.A (f (.int i t) (.int j u)) Q E s):
  OpR X f (rI0 fun i j=> .int (g i j)):=by
 intro pins s σ H x y v u Q I rx ry h
 obtain⟨i,j,rfl,rfl,q⟩:=h
 obtain⟨t,rfl⟩:=rx
 obtain⟨t',rfl⟩:=ry
 exact rule i j t t' s _ _ ⟨.int (g i j),H,I.tok _,⟨_,rfl⟩,q⟩
theorem opB0{f:Value→Value→Sem Value}{g:Int→Int→Bool}
  (rule:∀(i j:Int) (t u:Tok) (s:Shared) (Q:Value→Shared→Prop) (E:Value→Shared→Prop),Q (.bool (g i j)) s→wpAny (model X.prog X.w) X.A (f (.int i t) (.int j u)) Q E s):
  OpR X f (rI0 fun i j=> .bl (g i j)):=by
 intro pins s σ H x y v u Q I rx ry h
 obtain⟨i,j,rfl,rfl,q⟩:=h
 obtain⟨t,rfl⟩:=rx
 obtain⟨t',rfl⟩:=ry
 exact rule i j t t' s _ _ ⟨.bl (g i j),H,I,rfl,q⟩
def CPow(i j:Int):Prop:=0≤j∧j≤1000000∧i.natAbs<2 ^ 64
def CMul(i j:Int):Prop:=(-(2 ^ 64)<i∧i<2 ^ 64)∨(-(2 ^ 64)<j∧j<2 ^ 64)
theorem CMul.ok{i j:Int}(h:CMul i j):IntMulOk i j:=by
 rcases h with⟨h1,h2⟩ | ⟨h1,h2⟩
 ·exact .of_left (intBits_le_64 h1 h2)
 ·exact .of_right (intBits_le_64 h1 h2)
theorem Yn3:OpR X (binaryOp .Add) (rI0 fun i j=> .int (i+j)):=opI0 fun _ _ _ _ _ _ _ q=>add_int q
theorem Yp5:OpR X (binaryOp .Sub) (rI0 fun i j=> .int (i - j)):=opI0 fun _ _ _ _ _ _ _ q=>sub_int q
theorem Yd1:OpR X (binaryOp .Mod) (rI (fun _ j=>j≠0) fun i j=> .int (i.fmod j)):=opI fun _ _ _ _ _ _ _ hc q=>mod_int' hc q
theorem Yr5:OpR X (binaryOp .Pow) (rI CPow fun i j=> .int (i ^ j.toNat)):=opI fun _ _ _ _ _ _ _ hc q=>pow_int_small hc.1 hc.2.1 hc.2.2 q
theorem unI{f:Value→Sem Value}{g:Int→Int}
  (rule:∀(i:Int) (t:Tok) (s:Shared) (Q:Value→Shared→Prop) (E:Value→Shared→Prop),Q (.int (g i) s.toks) {s with toks:=s.toks+1}→wpAny (model X.prog X.w) X.A (f (.int i t)) Q E s):
  UnR X f (rU fun i=> .int (g i)):=by
 intro pins s σ H x v Q I rx h
 obtain⟨i,rfl,q⟩:=h
 obtain⟨t,rfl⟩:=rx
 exact rule i t s _ _ ⟨.int (g i),H,I.tok _,⟨_,rfl⟩,q⟩
theorem Y65:UnR X (unaryOp .USub) (rU fun i=> .int (-i)):=unI fun _ _ _ _ _ q=>neg_int q
end
noncomputable def scal:V→V→Bool
 | .non,.non=>true | .non,.int _=>true | .int _,.non=>true | .non,.bl _=>true | .bl _,.non=>true | .non,.str _=>true | .str _,.non=>true
 | .int _,.int _=>true | .bl _,.bl _=>true | .str _,.str _=>true | .byt _,.byt _=>true
 | .int _,.str _=>true | .str _,.int _=>true | .bl _,.str _=>true | .str _,.bl _=>true
 | _,_=>false
def rEq:R2:=fun x y H Q=>scal x y=true∧Q (.bl (decide (x=y))) H
def rNe:R2:=fun x y H Q=>scal x y=true∧Q (.bl (!decide (x=y))) H
theorem Zh4{i j:Int}:decide (V.int i=V.int j)=(i==j):=by
 rw[Bool.eq_iff_iff]
 simp
theorem Y41{i j:Bool}:decide (V.bl i=V.bl j)=(i==j):=by
 rw[Bool.eq_iff_iff]
 simp
theorem Zf4{i j:Str}:decide (V.str i=V.str j)=(i==j):=by
 rw[Bool.eq_iff_iff]
 simp
theorem Zf1{i j:Array UInt8}:decide (V.byt i=V.byt j)=(i.toList==j.toList):=by
 rw[Bool.eq_iff_iff]
 cases i
 cases j
 simp
section
variable{X:Cx}{a b c:Expr}{ta tb tc:TE}{pos:Pos}
theorem Zq{pins:List (Addr×Obj)}{σ:St}{H:Hp}{s:Shared}{Q:VK}{k k':Bool}(I:Inv X pins σ H s)(q:Q (.bl k) H)(e:k=k'):EP X pins σ Q (.bool k') s:=by
 subst e
 exact⟨.bl k,H,I,rfl,q⟩
theorem Yt8:OpR X (compareOp .Eq) rEq:=by
 intro pins s σ H x y v u Q I rx ry h
 obtain⟨hs,q⟩:=h
 cases x with
 | non=>
  cases rx
  cases y with
  | non=>cases ry;exact PySem.EqNone.eq_none_none (Zq I q (by simp))
  | bl j=>cases ry;exact PySem.EqNone.eq_none_bool (Zq I q (by simp))
  | int j=>obtain⟨t',rfl⟩:=ry;exact PySem.EqNone.eq_none_int (Zq I q (by simp))
  | str j=>obtain⟨t',rfl⟩:=ry;exact PySem.EqNone.eq_none_str (Zq I q (by simp))
  | _=>exact absurd (show false=true from hs) Bf9
 | bl i=>
  cases rx
  cases y with
  | non=>cases ry;exact PySem.EqNone.eq_bool_none (Zq I q (by simp))
  | bl j=>cases ry;exact eq_bool (Zq I q Y41)
  | str j=>obtain⟨t',rfl⟩:=ry;exact PySem.EqMixed.eq_bool_str (Zq I q (by simp))
  | _=>exact absurd (show false=true from hs) Bf9
 | int i=>
  obtain⟨t,rfl⟩:=rx
  cases y with
  | non=>cases ry;exact PySem.EqNone.eq_int_none (Zq I q (by simp))
  | int j=>obtain⟨t',rfl⟩:=ry;exact eq_int (Zq I q Zh4)
  | str j=>obtain⟨t',rfl⟩:=ry;exact PySem.EqMixed.eq_int_str (Zq I q (by simp))
  | _=>exact absurd (show false=true from hs) Bf9
 | str i=>
  obtain⟨t,rfl⟩:=rx
  cases y with
  | non=>cases ry;exact PySem.EqNone.eq_str_none (Zq I q (by simp))
  | bl j=>cases ry;exact PySem.EqMixed.eq_str_bool (Zq I q (by simp))
  | int j=>obtain⟨t',rfl⟩:=ry;exact PySem.EqMixed.eq_str_int (Zq I q (by simp))
  | str j=>obtain⟨t',rfl⟩:=ry;exact eq_str (Zq I q Zf4)
  | _=>exact absurd (show false=true from hs) Bf9
 | byt i=>
  obtain⟨t,rfl⟩:=rx
  cases y with
  | byt j=>obtain⟨t',rfl⟩:=ry;exact PySem.W.eq_bytes (Zq I q Zf1)
  | _=>exact absurd (show false=true from hs) Bf9
 | _=>cases y<;>exact absurd (show false=true from hs) Bf9
theorem Yv0:OpR X (compareOp .NotEq) rNe:=by
 intro pins s σ H x y v u Q I rx ry h
 obtain⟨hs,q⟩:=h
 cases x with
 | non=>
  cases rx
  cases y with
  | non=>cases ry;exact PySem.EqNone.ne_none_none (Zq I q (by simp))
  | bl j=>cases ry;exact PySem.EqNone.ne_none_bool (Zq I q (by simp))
  | int j=>obtain⟨t',rfl⟩:=ry;exact PySem.EqNone.ne_none_int (Zq I q (by simp))
  | str j=>obtain⟨t',rfl⟩:=ry;exact PySem.EqNone.ne_none_str (Zq I q (by simp))
  | _=>exact absurd (show false=true from hs) Bf9
 | bl i=>
  cases rx
  cases y with
  | non=>cases ry;exact PySem.EqNone.ne_bool_none (Zq I q (by simp))
  | bl j=>cases ry;exact ne_bool (Zq I q (congrArg not Y41))
  | str j=>obtain⟨t',rfl⟩:=ry;exact PySem.EqMixed.ne_bool_str (Zq I q (by simp))
  | _=>exact absurd (show false=true from hs) Bf9
 | int i=>
  obtain⟨t,rfl⟩:=rx
  cases y with
  | non=>cases ry;exact PySem.EqNone.ne_int_none (Zq I q (by simp))
  | int j=>obtain⟨t',rfl⟩:=ry;exact ne_int (Zq I q (congrArg not Zh4))
  | str j=>obtain⟨t',rfl⟩:=ry;exact PySem.EqMixed.ne_int_str (Zq I q (by simp))
  | _=>exact absurd (show false=true from hs) Bf9
 | str i=>
  obtain⟨t,rfl⟩:=rx
  cases y with
  | non=>cases ry;exact PySem.EqNone.ne_str_none (Zq I q (by simp))
  | bl j=>cases ry;exact PySem.EqMixed.ne_str_bool (Zq I q (by simp))
  | int j=>obtain⟨t',rfl⟩:=ry;exact PySem.EqMixed.ne_str_int (Zq I q (by simp))
  | str j=>obtain⟨t',rfl⟩:=ry;exact ne_str (Zq I q (congrArg not Zf4))
  | _=>exact absurd (show false=true from hs) Bf9
 | byt i=>
  obtain⟨t,rfl⟩:=rx
  cases y with
  | byt j=>obtain⟨t',rfl⟩:=ry;exact PySem.W.ne_bytes (Zq I q (congrArg not Zf1))
  | _=>exact absurd (show false=true from hs) Bf9
 | _=>cases y<;>exact absurd (show false=true from hs) Bf9
theorem Yu0:OpR X (compareOp .Lt) (rI0 fun i j=> .bl (decide (i<j))):=opB0 fun _ _ _ _ _ _ _ q=>lt_int q
theorem Yw1:OpR X (compareOp .GtE) (rI0 fun i j=> .bl (decide (j≤i))):=opB0 fun _ _ _ _ _ _ _ q=>ge_int q
theorem Zi9:OpR X (compareOp .In) (fun x y H Q=>∃i j,x= .str i∧y= .str j∧Q (.bl (!(Lp j i 0 j.length 1).isEmpty)) H):=by
 intro pins s σ H x y v u Q I rx ry h
 obtain⟨i,j,rfl,rfl,q⟩:=h
 obtain⟨t,rfl⟩:=rx
 obtain⟨t',rfl⟩:=ry
 exact in_str (Zq I q rfl)
theorem Pz:OpR X (compareOp .Is) (fun x y H Q=>y= .non∧Q (.bl (decide (x= .non))) H):=by
 intro pins s σ H x y v u Q I rx ry h
 obtain⟨rfl,q⟩:=h
 cases ry
 refine is_none_gen (Zq I q ?_)
 cases x<;>first
  |(cases rx;rfl)
  |(obtain⟨t,rfl⟩:=rx;rfl)
theorem Tk:OpR X (compareOp .IsNot) (fun x y H Q=>y= .non∧Q (.bl (!decide (x= .non))) H):=by
 intro pins s σ H x y v u Q I rx ry h
 obtain⟨rfl,q⟩:=h
 cases ry
 refine isnot_none_gen (Zq I q ?_)
 cases x<;>first
  |(cases rx;rfl)
  |(obtain⟨t,rfl⟩:=rx;rfl)
theorem Gy:OpR X (compareOp .NotIn) (fun x y H Q=>∃i j,x= .str i∧y= .str j∧Q (.bl (!(!(Lp j i 0 j.length 1).isEmpty))) H):=by
 intro pins s σ H x y v u Q I rx ry h
 obtain⟨i,j,rfl,rfl,q⟩:=h
 obtain⟨t,rfl⟩:=rx
 obtain⟨t',rfl⟩:=ry
 exact notIn_str (Zq I q rfl)
theorem Yd4{op:CmpOp}{r:R2}(ho:OpR X (compareOp op) r)(ha:PE X a ta)(hb:PE X b tb)(hm:behindInMarks op b=false):PE X (.Compare a [op] [b] pos) (tOp r ta tb):=by
 intro pins s σ H Q I h
 exact wpAny_Compare1 (binT ha hb I h fun v u s2 x y H2 I2 rx ry q=>ho pins s2 σ H2 x y v u Q I2 rx ry q) hm
def Yr8(t:TE):TT:=fun σ H Q=>t σ H fun x H'=>∃k,x= .bl k∧Q k H'
theorem Yf5{op:CmpOp}{r:R2}(ho:OpR X (compareOp op) r)(ha:PE X a ta)(hb:PE X b tb)(hm:behindInMarks op b=false):PT X (.Compare a [op] [b] pos) (Yr8 (tOp r ta tb)):=by
 intro pins s σ H Q I h
 refine wpAny_isTrue_Compare1 (thn (ha pins s σ H _ I h) fun v s1 ⟨x,H1,I1,r1,q1⟩=>thn (hb pins s1 σ H1 _ I1 q1) fun u s2 ⟨y,H2,I2,r2,q2⟩=>
  thn (ho pins s2 σ H2 x y v u _ I2 r1 r2 q2) fun c s3 ⟨z,H3,I3,r3,k,e,q3⟩=>?_) hm
 subst e
 cases r3
 exact wpAny_truthy_bool ⟨H3,I3,q3⟩
def TruV(K:Af)(x:V)(H:Hp)(k:Bool):Prop:=
 match x with
 | .non=>k=false
 | .bl b=>k=b
 | .int i=>k=(i !=0)
 | .str y=>y.length≤sizeLine∧k=((y.length:Int) !=0)
 | .byt y=>y.size≤sizeLine∧k=((y.size:Int) !=0)
 | .ref p=>(∃xs,SqL K H p xs∧k= !xs.isEmpty)∨(∃xs,SqT K H p xs∧k= !xs.isEmpty)∨∃kvs,H p=some (.dK kvs)∧k= !kvs.isEmpty
 | _=>False
theorem Z91{κ:Type}{kvs:List (κ×V)}{vs:List (κ×Value)}(r:KV kvs vs):(!vs.isEmpty)= !kvs.isEmpty:=by
 cases r<;>rfl
theorem Nl{xs:List V}{its:List Value}(r:Vals xs its):(!its.toArray.isEmpty)= !xs.isEmpty:=by
 cases r<;>simp
theorem Rx:(sizeLine:Nat)<2 ^ 63:=by rw[Ib];decide
theorem Z20:TruR X (fun x H Q=>∃k,TruV X.K x H k∧Q k H):=by
 intro pins s σ H x v Q I rx h
 obtain⟨k,e,q⟩:=h
 have hl:=Rx
 have hs:sizeLine=16777216:=Ib
 cases x with
 | non=>
  cases rx
  have e':k=false:=e
  subst e'
  exact truthy_none ⟨H,I,q⟩
 | bl b=>
  cases rx
  have e':k=b:=e
  subst e'
  exact wpAny_truthy_bool ⟨H,I,q⟩
 | int i=>
  obtain⟨t,rfl⟩:=rx
  have e':k=(i !=0):=e
  subst e'
  exact PySem.P.truthy_int ⟨H,I,q⟩
 | str y=>
  obtain⟨t,rfl⟩:=rx
  obtain⟨hy,e'⟩:y.length≤sizeLine∧k=((y.length:Int) !=0):=e
  subst e'
  exact PySem.P.truthy_str (by omega) ⟨H,I.tok _,q⟩
 | byt y=>
  obtain⟨t,rfl⟩:=rx
  obtain⟨hy,e'⟩:y.size≤sizeLine∧k=((y.size:Int) !=0):=e
  subst e'
  exact PySem.W.truthy_bytes (by omega) ⟨H,I.tok _,q⟩
 | ref p=>
  cases rx
  have e':(∃xs,SqL X.K H p xs∧k= !xs.isEmpty)∨(∃xs,SqT X.K H p xs∧k= !xs.isEmpty)∨∃kvs,H p=some (.dK kvs)∧k= !kvs.isEmpty:=e
  rcases e' with⟨xs,hx,e'⟩ | ⟨xs,hx,e'⟩ | ⟨kvs,hx,e'⟩
  ·subst e'
   obtain⟨its,r,pl,hz⟩:=I.list hx
   have hlen:=r.length
   exact wpAny_truthy_list pl.isList (by simp only[Ai];omega) ⟨H,I.tok _,by rw[Nl r];exact q⟩
  ·subst e'
   obtain⟨its,r,pl,hz⟩:=I.tuple hx
   have hlen:=r.length
   exact truthy_tuple pl (by simp only[Ai];omega) ⟨H,I.tok _,by rw[Nl r];exact q⟩
  ·subst e'
   obtain⟨hz,hS,vs,r,m⟩:kvs.length≤sizeLine∧(p==sysModules)=false∧∃vs,KV kvs vs∧s.heap.DictOf (Zj X.prog X.w) p vs:=I.hok p _ hx
   have hlen:kvs.length=vs.length:=Paired.length r
   exact wpAny_truthy_dict hS m (by omega) ⟨H,I.tok _,by rw[Z91 r];exact q⟩
 | _=>exact(show False from e).elim
theorem Zw8(ha:PE X a ta)(he:∀whole,isTrue a X.env whole=(do let v ←whole;standAt a.pos;holding [v] (truthy v))):
  PT X a (fun σ H Q=>ta σ H fun x H'=>∃k,TruV X.K x H' k∧Q k H'):=by
 intro pins s σ H Q I h
 exact isTrue_plain (thn (ha pins s σ H _ I h) fun v s1 zz23=>by obtain⟨x,H1,I1,r1,q1⟩:=zz23;exact Z20 pins s1 σ H1 x v Q I1 r1 q1) (he _)
theorem Z76:OpR X (binaryOp .Add) (fun x y H Q=>∃i j,x= .str i∧y= .str j∧i.length+j.length≤sizeLine∧Q (.str (i++j)) H):=by
 intro pins s σ H x y v u Q I rx ry h
 obtain⟨i,j,rfl,rfl,hz,q⟩:=h
 obtain⟨t,rfl⟩:=rx
 obtain⟨t',rfl⟩:=ry
 exact add_str (fun t' tk=>⟨.str (i++j),H,I.tok _,⟨_,rfl⟩,q⟩) hz
theorem Tj{x:V}{us:List Value}(r:Vals [x] us):∃u,us=[u]∧RelV x u:=by
 cases r with
 | cons r1 r2=>cases r2;exact⟨_,rfl,r1⟩
theorem Z01{x y:V}{us:List Value}(r:Vals [x,y] us):∃u w',us=[u,w']∧RelV x u∧RelV y w':=by
 cases r with
 | cons r1 r2=>
  cases r2 with
  | cons r3 r4=>cases r4;exact⟨_,_,rfl,r1,r3⟩
theorem Zr5(hc:X.calm=true):Xk X (.builtin "max") (fun xs H Q=>∃i j,xs=[.int i,.int j]∧Q (.int (if j >i then j else i)) H):=by
 intro pins s σ H xs us Q I r h
 obtain⟨i,j,rfl,q⟩:=h
 obtain⟨u,w',rfl,⟨t,rfl⟩,⟨t',rfl⟩⟩:=Z01 r
 refine max_two_ints (I.ok.hd hc) fun h' tk k=>⟨_,H,I.kept k,?_,q⟩
 by_cases hj:j >i
 ·rw[if_pos hj,if_pos hj];exact⟨_,rfl⟩
 ·rw[if_neg hj,if_neg hj];exact⟨_,rfl⟩
theorem Zd2(hc:X.calm=true):Xk X (.builtin "min") (fun xs H Q=>∃i j,xs=[.int i,.int j]∧Q (.int (if j<i then j else i)) H):=by
 intro pins s σ H xs us Q I r h
 obtain⟨i,j,rfl,q⟩:=h
 obtain⟨u,w',rfl,⟨t,rfl⟩,⟨t',rfl⟩⟩:=Z01 r
 refine min_two_ints (I.ok.hd hc) fun h' tk k=>⟨_,H,I.kept k,?_,q⟩
 by_cases hj:j<i
 ·rw[if_pos hj,if_pos hj];exact⟨_,rfl⟩
 ·rw[if_neg hj,if_neg hj];exact⟨_,rfl⟩
end
structure ObjM(h:Heap)(x dx C:Addr)(mA:Str→Option Value):Prop where
 obj:h.get? x=some (PySem.W.instObj C dx)
 ns:h.Ns1 dx mA
 ne:dx≠x
theorem Fg{h:Heap}{dx:Addr}{mA:Str→Option Value}(n:h.Ns1 dx mA):∃od,h.get? dx=some od∧∀name,PySem.W.lookIn name od=some (mA name):=by
 obtain⟨o,es,ep,ho,hd,hk,_,hm⟩:=n
 refine⟨o,ho,fun name=>?_⟩
 have e:=hm name
 unfold nsFind findBy at e
 rw[←Array.find?_toList] at e
 unfold PySem.W.lookIn
 rw[hd]
 dsimp only
 split
 ·rename_i y q
  rw[q] at e
  exact congrArg some e
 ·rename_i q
  rw[q] at e
  have a:es.toList.any (·.refKey)=false:=by
   rw[List.any_eq_false]
   intro y hy
   obtain⟨z,t,hkey⟩:=hk y (Array.mem_toList_iff.mp hy)
   simp[DictEntry.refKey,hkey]
  have a':¬es.toList.any (·.refKey)=true:=by rw[a];exact Bf9
  rw[if_neg a']
  exact congrArg some e
theorem ObjM.look{h:Heap}{x dx C:Addr}{mA:Str→Option Value}(I:ObjM h x dx C mA):∃od,PySem.W.InstAt h x (PySem.W.instObj C dx) C (some od)∧∀name,PySem.W.lookIn name od=some (mA name):=
 let ⟨od,ho,hl⟩:=Fg I.ns
 ⟨od,⟨I.obj,rfl,rfl,ho⟩,hl⟩
noncomputable def putF(f:Str)(v:V):List (Str×V)→List (Str×V)
 | []=>[(f,v)]
 |(g,x)::r=>if g=f then(g,v)::r else(g,x)::putF f v r
theorem RelO.some_of{v:V}{o:Option Value}(r:RelO (some v) o):∃u,o=some u∧RelV v u:=by
 cases o with
 | none=>exact(show False from r).elim
 | some u=>exact⟨u,rfl,r⟩
section
variable{P:Program}{w:World}{H H':Hp}{h h':Heap}{a C dx:Addr}{fs fs':List (Str×V)}
theorem Yc7(hok:HOk P w H h)(e:H a=some (.ins C dx fs)):∃mA,ObjM h a dx C mA∧(∀f,RelO (fs.lookup f) (mA f))∧PySem.Within mA (fs.map (·.1))∧fs.length≤1000∧H dx=some (.own a):=by
 obtain⟨d,z,ne,ob,mA,n,r,q⟩:=(show Yo P w H h a (.ins C dx fs) from hok a _ e)
 exact⟨mA,⟨ob,n,ne⟩,r,q,z,d⟩
end
structure Cls(K:Af)(C:Addr):Prop where
 pg:PySem.W.plainGet K C Str.empty=true
 hd:PySem.W.hasDictIn K C=true
 po:PySem.W.plainOver K C=true
 sa:Lx K (.ref C) "__setattr__"=some (some (.builtin "object.__setattr__"))
theorem Cls.get{K:Af}{C:Addr}(c:Cls K C)(f:Str):PySem.W.plainGet K C f=true:=c.pg
structure Con(K:Af)(C:Addr)(f:Str)(v:V)(u:Value):Prop where
 at_:Lx K (.ref C) f=some (some u)
 rel:RelV v u
 get:PySem.W.specialIn K u "__get__"=some none
 cp:PySem.W.copiedNames.contains f=false
structure Meth(K:Af)(C:Addr)(m:Str)(f:Addr):Prop where
 at_:Lx K (.ref C) m=some (some (.ref f))
 fn:PySem.W.isFn K (.ref f)=true
 kp:Hi K (.ref f)=true
section
variable{X:Cx}{pins:List (Addr×Obj)}{σ:St}{H:Hp}{s:Shared}{A:Around}{E:Value→Shared→Prop}{Q:Value→Shared→Prop}{c:Value}{b:Bool}
inductive TyOf (K:Af) (H:Hp):V→Value→Prop where
 | non:TyOf K H .non (.type "NoneType")
 | bl (x:Bool):TyOf K H (.bl x) (.type "bool")
 | int (i:Int):TyOf K H (.int i) (.type "int")
 | str (x:Str):TyOf K H (.str x) (.type "str")
 | flt (x:UInt64):TyOf K H (.flt x) (.type "float")
 | lst {a:Addr} {xs:List V} (e:H a=some (.lst xs)):TyOf K H (.ref a) (.type "list")
 | frz {a:Addr} {o:Obj} {xs:List V} (e:H a=some (.frz o (.lst xs))):TyOf K H (.ref a) (.type "list")
 | tup {a:Addr} {xs:List V} (e:H a=some (.tup xs)):TyOf K H (.ref a) (.type "tuple")
 | dK {a:Addr} {kvs:List (Key×V)} (e:H a=some (.dK kvs)):TyOf K H (.ref a) (.type "dict")
 | dT {a:Addr} {kvs:List (List Key×V)} (e:H a=some (.dT kvs)):TyOf K H (.ref a) (.type "dict")
 | ins {a C dx:Addr} {fs:List (Str×V)} (e:H a=some (.ins C dx fs)) (cl:Cls K C) (ha:Lx K (.ref C) "__class__"=some (some (.builtin "object.__class__")))
   (hn:PySem.W.specialIn K (.builtin "object.__class__") "__get__"=some (some (.builtin "getset_descriptor.__get__"))) (htk:PySem.W.takesIn K (.builtin "object.__class__")=some true)
   (hm:PySem.W.mroIn K C (.type "object")=some true):TyOf K H (.ref a) (.ref C)
theorem Zd3{x:V}{u t:Value}(I:Inv X pins σ H s)(rx:RelV x u)(ty:TyOf X.K H x t)(e:Kl X.K t c=some b)(h:∀tk,Q (.bool b) {s with toks:=tk}):
  wpAny (model X.prog X.w) A (call (.builtin "isinstance") [u,c]) Q E s:=by
 cases ty with
 | non=>cases (show u=Md from rx);exact Hr PySem.W.kitx_none I.kIn Kn e (fun z=>nomatch z) h
 | bl y=>cases (show u=Value.bool y from rx);exact Hr PySem.W.kitx_bool I.kIn Kn e (fun z=>nomatch z) h
 | int i=>obtain⟨t,q⟩:=(show ∃t,u=Value.int i t from rx);cases q;exact Hr PySem.W.kitx_int I.kIn Kn e (fun z=>nomatch z) h
 | str y=>obtain⟨t,q⟩:=(show ∃t,u=Value.str y t from rx);cases q;exact Hr PySem.W.kitx_str I.kIn Kn e (fun z=>nomatch z) h
 | flt y=>obtain⟨t,q⟩:=(show ∃t,u=Value.float y t from rx);cases q;exact Hr PySem.W.kitx_float I.kIn Kn e (fun z=>nomatch z) h
 | @lst a xs ea=>
  cases (show u=Ax a from rx)
  obtain⟨_,_,n,_,h1⟩:=(show Yo X.prog X.w H s.heap a (.lst xs) from I.hok a _ ea)
  exact Hr PySem.W.kitx_list I.kIn ⟨_,h1,rfl⟩ e (fun z=>nomatch z) h
 | @frz a ob xs ea=>
  cases (show u=Ax a from rx)
  obtain⟨_,_,_,n,_,h1⟩:=(show Yo X.prog X.w H s.heap a (.frz ob (.lst xs)) from I.hok a _ ea)
  exact Hr PySem.W.kitx_list I.kIn ⟨_,h1,rfl⟩ e (fun z=>nomatch z) h
 | @tup a xs ea=>
  cases (show u=Ax a from rx)
  obtain⟨_,_,_,p⟩:=(show Yo X.prog X.w H s.heap a (.tup xs) from I.hok a _ ea)
  obtain⟨o,h1,h2,_⟩:=p
  exact Hr PySem.W.kitx_tuple I.kIn ⟨o,h1,h2⟩ e (fun z=>nomatch z) h
 | @dK a kvs ea=>
  cases (show u=Ax a from rx)
  obtain⟨_,_,vs,_,p⟩:=(show Yo X.prog X.w H s.heap a (.dK kvs) from I.hok a _ ea)
  obtain⟨o,es,ep,h1,h2,_⟩:=p
  exact Hr PySem.W.kitx_dict I.kIn ⟨o,h1,h2.1⟩ e (fun z=>nomatch z) h
 | @dT a kvs ea=>
  cases (show u=Ax a from rx)
  obtain⟨_,_,xs,_,o,es,ep,h1,h2,_⟩:=(show Yo X.prog X.w H s.heap a (.dT kvs) from I.hok a _ ea)
  exact Hr PySem.W.kitx_dict I.kIn ⟨o,h1,h2.1⟩ e (fun z=>nomatch z) h
 | @ins a C dx fs ea cl ha hn htk hm=>
  cases (show u=Ax a from rx)
  obtain⟨mA,O,_⟩:=Yc7 I.hok ea
  obtain⟨od,J,_⟩:=O.look
  exact Hr (PySem.W.kitx_own (cl.get _) cl.hd ha hn htk hm) I.kIn J e (fun z=>nomatch z) h
end
structure Room(k:Nat)(A:Around):Prop where
 hd:A.handled=none
 dp:A.depth+3 * k+5<recursionLimit
 un:A.units+16 * k+200<cLine
theorem Room.mono{j k:Nat}{A:Around}(r:Room k A)(h:j≤k):Room j A:=⟨r.hd,by have:=r.dp;omega,by have:=r.un;omega⟩
theorem Room.deeper{k:Nat}{A:Around}(r:Room (k+1) A)(env:Env):Room k (A.deeper env):=
 ⟨r.hd,by have:=r.dp;show A.depth+1+3 * k+5<_;omega,by have:=r.un;show A.units+3+16 * k+200<_;omega⟩
theorem Room.depth{k:Nat}{A:Around}(r:Room k A):A.depth<recursionLimit:=by have:=r.dp;omega
theorem Room.units{k:Nat}{A:Around}(r:Room k A):A.units+64<cLine:=by have:=r.un;omega
def tNil:TA:=fun _ H Q=>Q [] H
def Yt5(ta:TE)(tr:TA):TA:=fun σ H Q=>ta σ H fun x H1=>tr σ H1 fun xs H2=>Q (x::xs) H2
section
variable{X:Cx}{e:Expr}{es:List Expr}{te:TE}{t:TA}{pos:Pos}
theorem Vy:PA X [] tNil:=fun _ _ _ _ H Q I h=>Calls.spliced_nil ⟨[],H,I,.nil,h⟩
theorem Xh(ha:PE X e te)(hr:PA X es t)(hs:starEach (e::es) X.env=(false,eval e X.env)::starEach es X.env:=by rfl):PA X (e::es) (Yt5 te t):=by
 intro pos pins s σ H Q I h
 rw[hs]
 show wpAny _ _ (spliced ((false,eval e X.env)::backTo pos (starEach es X.env))) _ _ s
 refine Calls.spliced_cons (thn (ha pins s σ H _ I h) fun u s1 zz24=>?_)
 obtain⟨x,H1,I1,r1,q1⟩:=zz24
 exact thn (hr pos pins s1 σ H1 _ I1 q1) fun us s2 zz25=>by obtain⟨xs,H2,I2,r2,q2⟩:=zz25;exact⟨x::xs,H2,I2,.cons r1 r2,q2⟩
def tTup(t:TA):TE:=fun σ H Q=>t σ H fun xs H1=>xs.length≤sizeLine∧∀p,H1 p=none→Q (.ref p) (upd H1 p (.tup xs))
def tLst(t:TA):TE:=fun σ H Q=>t σ H fun xs H1=>xs.length≤sizeLine∧∀p,H1 p=none→Q (.ref p) (upd H1 p (.lst xs))
theorem Yq6{x1}(h:PA X es t):PE X (.Tuple es x1 pos) (tTup t):=by
 intro pins s σ H Q I hq
 refine wpAny_Tuple_spliced (thn (h pos pins s σ H _ I hq) fun us s1 ⟨xs,H1,I1,r,z,q⟩=>⟨by rw[←r.length];exact z,?_⟩)
 have hf:H1 s1.heap.objs.size=none:=I1.hok.fresh (Nat.le_refl _)
 refine⟨.ref s1.heap.objs.size,upd H1 s1.heap.objs.size (.tup xs),I1.laid (t':=s1.toks) (fun b u e=>Ag _ e) (Nat.le_refl _) ?_,rfl,q _ hf⟩
 exact⟨z,us,r,⟨_,Ar _ rfl,rfl,_,rfl⟩⟩
theorem Yl3(h:PA X es t):PE X (.List es pos) (tLst t):=by
 intro pins s σ H Q I hq
 refine wpAny_List_spliced (thn (h pos pins s σ H _ I hq) fun us s1 ⟨xs,H1,I1,r,z,q⟩=>⟨by rw[←r.length];exact z,?_⟩)
 have hf:H1 s1.heap.objs.size=none:=I1.hok.fresh (Nat.le_refl _)
 refine⟨.ref s1.heap.objs.size,upd H1 s1.heap.objs.size (.lst xs),I1.laid (t':=s1.toks) (fun b u e=>Ag _ e) (Nat.le_refl _) ?_,rfl,q _ hf⟩
 exact⟨z,us,0,r,Ar _ rfl⟩
end
abbrev Sp:=List V→Hp→VK→XK→Prop
abbrev CXT:=List Env→Hp→Shared→XK→Value→Shared→Prop
structure Env0(P:Program)(w:World)(K:Af)(mg:Str→Option Value)(base:Heap)(A:Around)(outer:List Env)(s:Shared)(H:Hp):Prop where
 frames:A.frames=some outer
 mod:Mod K mg base
 bs:∀b o,base.get? b=some o→s.heap.get? b=some o∧H b=none
 bsz:base.objs.size≤s.heap.objs.size
 funs:s.heap.FunFrames base outer
 frf:∀b∈frs outer,H b=none
 hok:HOk P w H s.heap
 bare:AllBare s.gens
def CE(outer:List Env)(P:Program)(w:World)(H:Hp)(s:Shared)(Q:VK)(u:Value)(s':Shared):Prop:=
 ∃v H',s'.os=s.os∧AllBare s'.gens∧Un (frs outer) [] H H' s.heap s'.heap∧HOk P w H' s'.heap∧RelV v u∧Q v H'
def CR(CX:CXT)(outer:List Env)(P:Program)(w:World)(H:Hp)(s:Shared)(Q:VK)(E:XK)(r:Result)(s':Shared):Prop:=
 match r with
 | .ok (.ret u)=>CE outer P w H s Q u s'
 | .ok _=>False
 | .error e=>CX outer H s E e s'
structure FnOk(P:Program)(w:World)(K:Af)(mg:Str→Option Value)(base:Heap)(CX:CXT)(k:Nat)(f:Addr)(fd:FuncData)(ps:List Str)(sp:Sp):Prop where
 len:∀vs H Q E,sp vs H Q E→vs.length=ps.length
 run:∀(A:Around) (outer:List Env) (s:Shared) (H:Hp) (args:Args) (us:List Value) (vs:List V) (Q:VK) (E:XK),Room k A→Env0 P w K mg base A outer s H→BindsTo s fd args (ps.zip us)→Vals vs us→sp vs H Q E→
  codeAny (model P w) A (.call (.ref f) args) (CR CX outer P w H s Q E) s
section
variable{X:Cx}{pins:List (Addr×Obj)}{σ:St}{H:Hp}{s s':Shared}
theorem Inv.env0(I:Inv X pins σ H s):Env0 X.prog X.w X.K X.mg X.base X.A X.stack s H:=
 ⟨I.ok.frames,I.ok.mod,I.bs,Nat.le_trans I.ok.bsz I.sz,I.stack,I.stkFree,I.hok,I.bare⟩
theorem Inv.after{Q:VK}{u:Value}(I:Inv X pins σ H s)(h:CE X.stack X.prog X.w H s Q u s'):EP X pins σ Q u s':=by
 obtain⟨v,H',os,bare,un,hok,r,q⟩:=h
 obtain⟨hh,g,d,t,os'⟩:=s'
 obtain rfl:os'=s.os:=os
 exact⟨v,H',I.call (h':=hh) (g':=g) (d':=d) (t':=t) (ch:=[]) un hok bare (fun b z=>absurd z (by simp)),r,q⟩
end
def Yo7(sp:Sp)(dvs:List V)(E:XK)(t:TA):TE:=fun σ H Q=>t σ H fun vs H1=>sp (vs++dvs) H1 Q E
def Od(K:Af)(fd:FuncData)(ps:List Str)(ds:List Value):Prop:=
 ∀(s:Shared) (us:List Value),K.In s.heap→(us++ds).length=ps.length→BindsTo s fd ⟨us,[]⟩ (ps.zip (us++ds))
theorem Od.all{K:Af}{fd:FuncData}{ps:List Str}(h:∀us:List Value,us.length=ps.length→bindArgs fd ⟨us,[]⟩=pure (ps.zip us)):Od K fd ps []:=fun s us _ hl=>by
 rw[Dq] at hl ⊢
 exact .of_eq (h us hl)
def Z17(CX:CXT)(X:Cx)(E:XK):Prop:=∀(pins:List (Addr×Obj)) (σ:St) (H:Hp) (s:Shared) (e:Value) (s':Shared),Inv X pins σ H s→CX X.stack H s E e s'→X.xe e s'
section
variable{X:Cx}{CX:CXT}{k:Nat}{f C:Addr}{fd:FuncData}{ps:List Str}{sp:Sp}{dvs:List V}{ds:List Value}{E:XK}{x m:Str}{p pos apos:Pos}{e o:Expr}{es:List Expr}{ta:TE}{t:TA}
theorem Y67{pins:List (Addr×Obj)}{σ:St}{H:Hp}{s:Shared}{Q:VK}{us:List Value}{vs:List V}(F:FnOk X.prog X.w X.K X.mg X.base CX k f fd ps sp)(hr:Room k X.A)(hb:Od X.K fd ps ds)(hd:Vals dvs ds)(hx:Z17 CX X E)
  (I:Inv X pins σ H s) (r:Vals vs us) (h:sp (vs++dvs) H Q E):wpAny (model X.prog X.w) X.A (call (.ref f) us) (EP X pins σ Q) X.xe s:=by
 have r2:Vals (vs++dvs) (us++ds):=r.append hd
 have hl:(us++ds).length=ps.length:=by rw[←r2.length];exact F.len _ _ _ _ h
 refine wpAny_call (Kf (F.run X.A X.stack s H ⟨us,[]⟩ (us++ds) (vs++dvs) Q E hr I.env0 (hb s us I.kIn hl) r2 h) fun r s' hq=>?_)
 cases r with
 | error e=>exact hx pins σ H s e s' I hq
 | ok fl=>
  cases fl with
  | ret u=>exact I.after hq
  | next=>exact Dp hq
  | brk=>exact Dp hq
  | cont=>exact Dp hq
theorem Y95(F:FnOk X.prog X.w X.K X.mg X.base CX k f fd ps sp)(hr:Room k X.A)(hg:Gl X x)(hm:X.mg x=some (.ref f))(hk:Hi X.K (.ref f)=true)(hb:Od X.K fd ps ds)(hd:Vals dvs ds)(hx:Z17 CX X E)
  (ha:PA X (e::es) t) (hdb:(x==("__debug__":Str))=false:=by decide) (he:starEach (e::es) X.env=(false,eval e X.env)::starEach es X.env:=by rfl) (hpl:(backTo pos (starEach es X.env)).any (·.1)=false:=by rfl):
  PE X (.Call (.Name x p) (e::es) [] pos) (Yo7 sp dvs E t):=by
 intro pins s σ H Q I h
 refine wpAny_Call_Name_kw (B4 I hg hm ?_ hdb)
 refine PySem.W.callWith_K (h₀:=X.base) I.ok.mod.kin hk (thn (ha pos pins s σ H _ I h) fun us s1 ⟨vs,H1,I1,r,q⟩=>⟨I1.kIn,?_⟩) he hpl
 exact Y67 F hr hb hd hx I1 r q
theorem Zy8(F:FnOk X.prog X.w X.K X.mg X.base CX k f fd ps sp)(hr:Room k X.A)(hg:Gl X x)(hm:X.mg x=some (.ref f))(hk:Hi X.K (.ref f)=true)(hb:Od X.K fd ps ds)(hd:Vals dvs ds)(hx:Z17 CX X E)
  (hdb:(x==("__debug__":Str))=false:=by decide):PE X (.Call (.Name x p) [] [] pos) (Yo7 sp dvs E tNil):=by
 intro pins s σ H Q I h
 refine wpAny_Call_Name_kw (B4 I hg hm ?_ hdb)
 exact PySem.W.callWith_K0 I.kIn hk (Y67 (us:=[]) F hr hb hd hx I .nil h)
structure Mk(K:Af)(C f:Addr):Prop where
 makes:PySem.W.makesIn K C=true
 init:Lx K (.ref C) "__init__"=some (some (.ref f))
 fn:PySem.W.isFn K (.ref f)=true
 kp:Hi K (.ref C)=true
end
section
variable{X:Cx}{CX:CXT}{k:Nat}{f C:Addr}{fd:FuncData}{ps ks:List Str}{sp:Sp}{E:XK}{x m:Str}{p pos apos kpos:Pos}{e o:Expr}{es:List Expr}{kws:List Keyword}{te ta:TE}{t tk:TA}{nm:Option Str}
structure KBinds(K:Af)(fd:FuncData)(ps ks:List Str)(g:List Value→List Value→List Value)(gV:List V→List V→List V):Prop where
 to:∀(s:Shared) (us ws:List Value),K.In s.heap→(g us ws).length=ps.length→BindsTo s fd ⟨us,ks.zip ws⟩ (ps.zip (g us ws))
 rel:∀{vs:List V} {us:List Value} {zs:List V} {ws:List Value},Vals vs us→Vals zs ws→Vals (gV vs zs) (g us ws)
variable{g:List Value→List Value→List Value}{gV:List V→List V→List V}
end
structure FnScope(N P:List Str)(sc:Scope):Prop where
 kind:sc.kind= .function
 co:sc.isCoroutine=false
 gen:sc.isGenerator=false
 nd:N.Nodup
 pre:N.take P.length=P
 par:∀x∈P,sc.names.lookup x=some .local∨sc.names.lookup x=some .cell
 nofree:∀y∈sc.names,y.2≠ .free
theorem Fl{kindOf:Str→Option NameKind}{x:Str}:∀{binds:List (Str×Value)} {m:Str→Option Value},(∀v,(x,v)∉binds)→bindL kindOf binds m x=m x
 | [],_,_=>rfl
 |(n,v)::r,m,h=>by
  unfold bindL
  rw[Fl fun w hw=>h w (Dd _ hw)]
  split
  ·have:x≠n:=by rintro rfl;exact h v De
   simp[this]
  ·rfl
theorem Ek{kindOf:Str→Option NameKind}{x:Str}:∀{binds:List (Str×Value)} {m:Str→Option Value},(∀v,(x,v)∉binds)→bindC kindOf binds m x=m x
 | [],_,_=>rfl
 |(n,v)::r,m,h=>by
  unfold bindC
  rw[Ek fun w hw=>h w (Dd _ hw)]
  split
  ·rfl
  ·have:x≠n:=by rintro rfl;exact h v De
   simp[this]
theorem Gp{kindOf:Str→Option NameKind}{x:Str}{v:Value}:∀{P:List Str} {vs:List Value} {i:Nat} {m:Str→Option Value},P.Nodup→P[i]?=some x→vs[i]?=some v→kindOf x=some .local→
  bindL kindOf (P.zip vs) m x=some v
 | [],_,_,_,_,h,_,_=>by simp at h
 | _::_,[],_,_,_,_,h,_=>by simp at h
 | p::P,w::vs,0,m,nd,h1,h2,hk=>by
  simp at h1 h2;subst h1;subst h2
  show bindL kindOf ((p,w)::P.zip vs) m p=_
  unfold bindL
  rw[Fl fun v hv=>(Im.mp nd).1 (List.of_mem_zip hv).1,if_pos hk]
  simp
 | p::P,w::vs,i+1,m,nd,h1,h2,hk=>by
  show bindL kindOf ((p,w)::P.zip vs) m x=_
  unfold bindL
  exact Gp (i:=i) (Im.mp nd).2 (by simpa using h1) (by simpa using h2) hk
theorem Gw{kindOf:Str→Option NameKind}{x:Str}{v:Value}:∀{P:List Str} {vs:List Value} {i:Nat} {m:Str→Option Value},P.Nodup→P[i]?=some x→vs[i]?=some v→kindOf x≠some .local→
  bindC kindOf (P.zip vs) m x=some v
 | [],_,_,_,_,h,_,_=>by simp at h
 | _::_,[],_,_,_,_,h,_=>by simp at h
 | p::P,w::vs,0,m,nd,h1,h2,hk=>by
  simp at h1 h2;subst h1;subst h2
  show bindC kindOf ((p,w)::P.zip vs) m p=_
  unfold bindC
  rw[Ek fun v hv=>(Im.mp nd).1 (List.of_mem_zip hv).1,if_neg hk]
  simp
 | p::P,w::vs,i+1,m,nd,h1,h2,hk=>by
  show bindC kindOf ((p,w)::P.zip vs) m x=_
  unfold bindC
  exact Gw (i:=i) (Im.mp nd).2 (by simpa using h1) (by simpa using h2) hk
noncomputable def start(N:List Str)(vs:List V):St:=vs.map some++Db (N.length - vs.length) none
def cxOf(CX:CXT)(P:Program)(w:World)(K:Af)(mg:Str→Option Value)(base:Heap)(N:List Str)(qual:Str)(scope:Scope)(f:Addr)(cd:Value)(A:Around)(outer:List Env)(s:Shared)(H:Hp)(E:XK):Cx where
 prog:=P
 w:=w
 K:=K
 mg:=mg
 base:=base
 A:=A.deeper (envOfC qual scope s.heap.objs.size f cd)
 N:=N
 s₀:=s
 H₀:=H
 env:=envOfC qual scope s.heap.objs.size f cd
 outer:=outer
 stack:=envOfC qual scope s.heap.objs.size f cd::outer
 ex:=[]
 calm:=true
 fn:=fun _=>true
 pn:=[]
 xe:=fun e s'=>wpAny (model P w) (A.deeper (envOfC qual scope s.heap.objs.size f cd)) (leaving (envOfC qual scope s.heap.objs.size f cd) e) (fun _ s''=>CX outer H s E e s'') (fun e' s''=>CX outer H s E e' s'') s'
theorem Z64{sc:Scope}{n:Nat}{x:Str}(h:sc.names.lookup x=some .cell):∃c,(cellsFrom n sc.names []).lookup x=some c:=by
 have q:=PySem.W.cellsFrom_some sc.names n [] (.inl h)
 exact Dy.mp q
theorem Zo7{CX:CXT}{P:Program}{w:World}{K:Af}{mg:Str→Option Value}{base:Heap}{N ps:List Str}{qual:Str}{scope:Scope}{f:Addr}{cd:Value}{A:Around}{outer:List Env}{s s1:Shared}{H:Hp}{E:XK}{us:List Value}{vs:List V}
  (S:FnScope N ps scope) (hd:A.handled=none) (e0:Env0 P w K mg base A outer s H) (hl:vs.length=ps.length) (r:Vals vs us)
  (x:InCallC s s.heap.objs.size (bindL (envOfC qual scope s.heap.objs.size f cd).kindOf (ps.zip us) fun _=>none) (cellsFrom (s.heap.objs.size+1) scope.names []) (bindC (envOfC qual scope s.heap.objs.size f cd).kindOf (ps.zip us) fun _=>none) s1):
  Inv (cxOf CX P w K mg base N qual scope f cd A outer s H E) [] (start N vs) H s1:=by
 have hpl:ps.length≤N.length:=by have:=congrArg List.length S.pre;rw[Ii] at this;omega
 obtain⟨h1,tk,rfl,hk⟩:=x.done
 have noA:∀b:Addr,b∉(cxOf CX P w K mg base N qual scope f cd A outer s H E).ex:=fun b z=>absurd (show b∈([]:List Addr) from z) (by simp)
 refine⟨⟨e0.mod,S.kind,rfl,rfl,Nat.le_refl _,fun y z c h1 h2=>?_,fun y hy=>?_,fun y c _ h=>?_,fun _=>hd,Around.frames_deeper e0.frames,.inr ⟨rfl,rfl⟩,fun b z=>absurd z (noA b),e0.bs,e0.bsz,fun b _ _=>noA b,fun b z=>absurd z (noA b),e0.funs,e0.frf⟩,
  rfl,e0.bare,Un.kept hk,⟨_,x.toInCall.ns,fun i y v h1 h2 h3=>?_⟩,fun y c h=>⟨_,x.cell y c h⟩,e0.hok.fresh (Nat.le_refl _),fun y c h=>?_,fun p hp=>absurd (show p∈([]:List (Addr×Obj)) from hp) (by simp),e0.hok.kept hk,?_⟩
 ·exact name_of_addr x.apart (Lm h1) (Lm h2)
 ·have hy:scope.names.lookup y=some .cell∨scope.names.lookup y=some .free:=hy
  rcases hy with hy | hy
  ·exact Z64 hy
  ·exact absurd rfl (S.nofree _ (Lm hy))
 ·exact Nat.le_of_lt (x.above y c (Lm h))
 ·have hi:i<vs.length:=by
   unfold start at h2
   by_cases hi:i<vs.length
   ·exact hi
   ·rw[Iy (by simpa using hi)] at h2
    rw[List.getElem?_replicate] at h2
    split at h2<;>cases h2
  have ha:vs[i]?=some v:=by
   unfold start at h2
   rw[Dv (by simpa using hi),Aj] at h2
   cases e:vs[i]? with
   | none=>rw[e] at h2;cases h2
   | some a=>rw[e] at h2;cases h2;rfl
  obtain⟨u,hu,rv⟩:=r.get ha
  have hp:ps[i]?=some y:=by
   rw[←S.pre,List.getElem?_take_of_lt (by omega)];exact h1
  have ndP:ps.Nodup:=by rw[←S.pre];exact S.nd.sublist (List.take_sublist _ _)
  refine⟨u,rv,?_⟩
  rcases S.par y (Al hp) with k | k
  ·exact .inl ⟨k,Gp ndP hp hu k⟩
  ·obtain⟨c,e⟩:=Z64 (n:=s.heap.objs.size+1) k
   refine .inr ⟨.inl k,c,e,?_⟩
   have q:=x.cell y c e
   rw[Gw ndP hp hu (by show scope.names.lookup y≠_;rw[k];decide)] at q
   exact q
 ·exact e0.hok.fresh (Nat.le_of_lt (x.above y c (Lm h)))
 ·unfold start
  show _=N.length
  rw[Ah,Ad,List.length_replicate]
  omega
theorem Yu3{CX:CXT}{P:Program}{w:World}{K:Af}{mg:Str→Option Value}{base:Heap}{k:Nat}{f:Addr}{name qual:Str}{params:Arguments}{body:List Stmt}{scope:Scope}{dV kV doc pm cdv ct oc:Value}{an od:Option Addr}
  {osl:Array (Option Value)} {N ps:List Str} {sp:Sp} (lk:K.lookup f=some ⟨oc,od,.func (Kq name qual params body scope dV kV doc pm an cdv ct),osl⟩) (hcd:Me K cdv qual=true) (S:FnScope N ps scope)
  (len:∀vs H Q E,sp vs H Q E→vs.length=ps.length)
  (hbody:∀(A:Around) (outer:List Env) (s:Shared) (H:Hp) (vs:List V) (Q:VK) (E:XK),Room k (A.deeper (envOfC qual scope s.heap.objs.size f cdv))→sp vs H Q E→
   ∃t,PSs (cxOf CX P w K mg base N qual scope f cdv A outer s H E) body t∧t {nx:=fun _ H'=>Q .non H',rt:=Q} (start N vs) H):
  FnOk P w K mg base CX (k+1) f (Kq name qual params body scope dV kV doc pm an cdv ct) ps sp:=by
 refine⟨len,fun A outer s H args us vs Q E hr e0 hb r hsp=>?_⟩
 have hl:=len _ _ _ _ hsp
 have KX:K.In s.heap:=e0.mod.kin.keeps fun b o e=>(e0.bs b o e).1
 have lim:s.heap.NoLimit:=e0.mod.nolimit.keeps fun b o e=>(e0.bs b o e).1
 have hkind:∀y∈ps.zip us,scope.names.lookup y.1=some .local∨(scope.names.lookup y.1=some .cell∧((cellsFrom (s.heap.objs.size+1) scope.names []).lookup y.1).isSome=true):=fun⟨n,v⟩ hy=>by
  rcases S.par n (List.of_mem_zip hy).1 with q | q
  ·exact .inl q
  ·exact .inr ⟨q,PySem.W.cellsFrom_some _ _ _ (.inl q)⟩
 refine codeAny_call_function hr.depth (KX _ _ lk) rfl S.co S.gen rfl (PySem.W.codeRec_of KX hcd) (hb _ _ _ _ ?_)
 refine wpAny_newFunctionEnv_cells S.kind hkind fun env he s1 x=>?_
 subst he
 refine⟨lim.keeps x.toInCall.keep,codeAny_func ?_⟩
 obtain⟨t,ht,hq⟩:=hbody A outer s H vs Q E (hr.deeper _) hsp
 have I:Inv (cxOf CX P w K mg base N qual scope f cdv A outer s H E) [] (start N vs) H s1:=Zo7 S hr.hd e0 hl r x
 refine Hm (ht [] s1 (start N vs) H _ I hq) (fun fl s' hs=>?_) fun e s' hs=>hs
 have fin:∀{σ':St} {H':Hp} {v:V} {u:Value},Inv (cxOf CX P w K mg base N qual scope f cdv A outer s H E) [] σ' H' s'→RelV v u→Q v H'→CE outer P w H s Q u s':=
  fun{σ' H' v u} J rv q=>⟨v,H',J.os,J.bare,J.base,J.hok,rv,q⟩
 cases fl with
 | ret u=>
  obtain⟨v,σ',H',J,rv,q⟩:=hs
  exact fin J rv q
 | next=>
  obtain⟨σ',H',J,q⟩:=hs
  exact fin (v:=V.non) (u:=Md) J rfl q
 | brk=>
  obtain⟨_,_,_,q⟩:=hs
  exact Dp q
 | cont=>
  obtain⟨_,_,_,q⟩:=hs
  exact Dp q
section
variable{X:Cx}{x:Str}{p pos:Pos}{e:Expr}{es:List Expr}{t:TA}{id T:String}{r:List V→Hp→VK→Prop}
def tCB(r:List V→Hp→VK→Prop)(t:TA):TE:=fun σ H Q=>t σ H fun vs H1=>r vs H1 Q
theorem Q8(hc:Xk X (.builtin id) r)(hg:Gl X x)(hm:X.mg x=none)(hv:bootBuiltins x=some (.builtin id))(ha:PA X (e::es) t)(hn:x≠"__name__":=by decide)(hdb:(x==("__debug__":Str))=false:=by decide)
  (he:starEach (e::es) X.env=(false,eval e X.env)::starEach es X.env:=by rfl) (hpl:(backTo pos (starEach es X.env)).any (·.1)=false:=by rfl):PE X (.Call (.Name x p) (e::es) [] pos) (tCB r t):=by
 intro pins s σ H Q I h
 refine wpAny_Call_Name_kw (Ni I hg hm hv ?_ hn hdb)
 exact PyProof.Rows.callWith_builtin1 (thn (ha pos pins s σ H _ I h) fun us s1 zz30=>by obtain⟨vs,H1,I1,r1,q1⟩:=zz30;exact hc pins s1 σ H1 vs us Q I1 r1 q1) he hpl
theorem Tp(hc:Xk X (.type T) r)(hg:Gl X x)(hm:X.mg x=none)(hv:bootBuiltins x=some (.type T))(ha:PA X (e::es) t)(hn:x≠"__name__":=by decide)(hdb:(x==("__debug__":Str))=false:=by decide)
  (he:starEach (e::es) X.env=(false,eval e X.env)::starEach es X.env:=by rfl) (hpl:(backTo pos (starEach es X.env)).any (·.1)=false:=by rfl):PE X (.Call (.Name x p) (e::es) [] pos) (tCB r t):=by
 intro pins s σ H Q I h
 refine wpAny_Call_Name_kw (Ni I hg hm hv ?_ hn hdb)
 exact Ko (thn (ha pos pins s σ H _ I h) fun us s1 zz31=>by obtain⟨vs,H1,I1,r1,q1⟩:=zz31;exact hc pins s1 σ H1 vs us Q I1 r1 q1) he hpl
end
end L2
namespace HT
open PySem PyProof.Rows
section
open PySem.SeqAt
open PySem.AutoSeq1 (wpAny_loadPart')
open PySem.MeetsSeq PySem.MeetsSeq2 PySem.MeetsSeq3
end
section
variable{prog:Program}{w:World}{A:Around}{E:Value→Shared→Prop}{s:Shared}
theorem Y99{t b:Addr}{vs ws:List Value}{Q:Value→Shared→Prop}(ht:IsTup s.heap t vs.toArray)(hb:IsTup s.heap b ws.toArray)(hv:vs≠[])
  (h1:ws=[]→Q (.ref t) s) (h2:ws≠[]→Q (.ref s.heap.objs.size) {s with heap:=s.heap.push {cls:= .type "tuple",data:= .seq (vs++ws).toArray}})
  (hsz:vs.length+ws.length≤sizeLine):wpAny (model prog w) A (binaryOp .Add (.ref t) (.ref b)) Q E s:=by
 obtain⟨⟨cls,dd,data,sl⟩,ho,hc,n,hd⟩:=id ht
 obtain⟨⟨cls2,dd2,data2,sl2⟩,ho2,hc2,n2,hd2⟩:=id hb
 simp only at hc hd hc2 hd2
 subst hc hd hc2 hd2
 have e:vs.toArray++ws.toArray=(vs++ws).toArray:=by simp
 by_cases hw:ws=[]
 ·exact concat_meets ⟨_,ho,rfl⟩ ⟨_,ho2,rfl⟩ noFill_tuple_add seq_tuple_add PySem.F.slot_tuple_add PySem.F.entry_tuple_add (PySem.F.args_tuple_add_2 _ _)
   (tuple_addW1 t b vs.toArray ws.toArray n n2 dd dd2 sl sl2 (by simpa using hv) (by simp[hw])) ⟨ho,ho2,h1 hw⟩
 ·refine concat_meets ⟨_,ho,rfl⟩ ⟨_,ho2,rfl⟩ noFill_tuple_add seq_tuple_add PySem.F.slot_tuple_add PySem.F.entry_tuple_add (PySem.F.args_tuple_add_2 _ _)
   (tuple_addW2 t b vs.toArray ws.toArray n n2 dd dd2 sl sl2 (by simpa using hv) (by simpa using hw) (by rw[Ai,Ai];exact hsz)) ⟨ho,ho2,?_⟩
  rw[e]
  exact h2 hw
noncomputable def sIx(n d:Nat):Option Int→Nat
 | none=>d
 | some v=>if v<0 then(v+(n:Int)).toNat else min v.toNat n
theorem Yh6(n d k:Nat):sIx n d (some (k:Int))=min k n:=by
 show(if (k:Int)<0 then((k:Int)+(n:Int)).toNat else min (k:Int).toNat n)=min k n
 rw[if_neg (by omega),Int.toNat_natCast]
theorem Yn9(n d:Nat)(hd:d≤n)(o:Option Int):sIx n d o≤n:=by
 cases o with
 | none=>exact hd
 | some v=>
  show(if v<0 then(v+(n:Int)).toNat else min v.toNat n)≤n
  by_cases hv:v<0
  ·rw[if_pos hv];omega
  ·rw[if_neg hv];exact Nat.min_le_right _ _
theorem Zd4(v:Int)(n d:Nat):(if v<0 then max (v+(n:Int)) 0 else min v (n:Int))=((sIx n d (some v):Nat):Int):=by
 show(if v<0 then max (v+(n:Int)) 0 else min v (n:Int))=(((if v<0 then(v+(n:Int)).toNat else min v.toNat n):Nat):Int)
 by_cases hv:v<0
 ·simp only[if_pos hv];omega
 ·simp only[if_neg hv];omega
theorem Z79(lo hi:Option Int)(n:Nat):Builtin.Slice.sliceAdjust lo hi 1 (n:Int)=(((sIx n 0 lo:Nat):Int),((sIx n n hi:Nat):Int)):=by
 have h1:¬((1:Int)<0):=by omega
 unfold Builtin.Slice.sliceAdjust
 simp only[h1,if_false]
 refine Prod.ext ?_ ?_
 ·cases lo with
  | none=>rfl
  | some v=>exact Zd4 v n 0
 ·cases hi with
  | none=>rfl
  | some v=>exact Zd4 v n n
theorem Za9(i j:Nat):Lb (i:Int) (j:Int) 1=j - i:=by
 unfold Lb
 have h1:(1:Int) >0:=by omega
 simp only[h1,if_true,Int.ediv_one]
 split<;>omega
theorem N4{v:Value}{o:Option Int}{Q:Option Int→Shared→Prop}(p:IsPart v o)(h:Q o s):wpAny (model prog w) A (Builtin.Slice.slicePartIndex v) Q E s:=by
 cases p with
 | none=>exact slicePart_none h
 | int i t=>exact slicePart_int h
theorem Ww{sl:Addr}{vl vu:Value}{lo hi:Option Int}{n:Nat}{Q:Int×Int×Nat→Shared→Prop}(hs:s.heap.IsSliceOf sl vl vu .none)(pl:IsPart vl lo)(pu:IsPart vu hi)
  (h:Q (((sIx n 0 lo:Nat):Int),1,sIx n n hi - sIx n 0 lo) s):wpAny (model prog w) A (Builtin.Slice.sliceApplied (.ref sl) (pure (n:Int))) Q E s:=by
 obtain⟨os,hos,hcs,hds⟩:=id hs
 unfold Builtin.Slice.sliceApplied Builtin.Slice.sliceFields
 refine Ab (Ab (wpAny_field hos hds (x:=vl) rfl (Ab (wpAny_field hos hds (x:=vu) rfl (Ab (wpAny_field hos hds (x:= .none) rfl (Ae ?_)))))))
 refine Ab (slicePart_none ?_)
 show wpAny _ _ (if ((1:Int)==0)=true then _ else _) _ _ s
 rw[if_neg (by decide)]
 refine Ab (N4 pl (Ab (N4 pu (Ab (Ae ?_)))))
 show wpAny _ _ (match Builtin.Slice.sliceAdjust lo hi 1 (n:Int) with | (lo,hi)=>pure (lo,(1:Int),Lb lo hi 1)) _ _ s
 rw[Z79 lo hi n]
 show wpAny _ _ (pure (((sIx n 0 lo:Nat):Int),(1:Int),Lb ((sIx n 0 lo:Nat):Int) ((sIx n n hi:Nat):Int) 1)) _ _ s
 rw[Za9]
 exact Ae h
theorem Zx8(xs:Array Value)(i k:Nat):((Dj k).filterMap fun(m:Nat)=>xs[((i:Int)+(m:Int) * 1).toNat]?).toArray=((xs.toList.drop i).take k).toArray:=by
 have e:(fun(m:Nat)=>xs[((i:Int)+(m:Int) * 1).toNat]?)=fun m=>xs[i+m]?:=by
  funext m
  have:((i:Int)+(m:Int) * 1).toNat=i+m:=by omega
  rw[this]
 rw[e]
 have:=pick_run xs i k
 rw[List.filterMap_map] at this
 have e2:((fun x=>xs[x]?) ∘ fun x=>i+x)=fun m=>xs[i+m]?:=rfl
 rw[e2] at this
 rw[this]
theorem Sz{t sl:Addr}{items:Array Value}{vl vu:Value}{lo hi:Option Int}{Q:Value→Shared→Prop}(ht:IsTup s.heap t items)(hs:s.heap.IsSliceOf sl vl vu .none)(pl:IsPart vl lo)(pu:IsPart vu hi)
  (hw:¬(sIx items.size 0 lo=0∧sIx items.size items.size hi=items.size))
  (h:Q (.ref s.heap.objs.size) {s with heap:=s.heap.push {cls:= .type "tuple",data:= .seq ((items.toList.drop (sIx items.size 0 lo)).take (sIx items.size items.size hi - sIx items.size 0 lo)).toArray}})
  (hsz:items.size≤sizeLine):wpAny (model prog w) A (getItem (.ref t) (.ref sl)) Q E s:=by
 have htake:sizeOk (.seq ((items.toList.drop (sIx items.size 0 lo)).take (sIx items.size items.size hi - sIx items.size 0 lo)).toArray):=by
  show((items.toList.drop (sIx items.size 0 lo)).take (sIx items.size items.size hi - sIx items.size 0 lo)).toArray.size≤sizeLine
  rw[Ai,Ii,List.length_drop,Df]
  omega
 have hj:sIx items.size items.size hi≤items.size:=Yn9 _ _ (Nat.le_refl _) hi
 obtain⟨os,hos,hcs,hds⟩:=id hs
 have hTs:s.TypeIs (.ref sl) "slice":=⟨os,hos,hcs⟩
 unfold getItem
 try with_reducible refine Ex ?_
 first | refine Ab (Ae ?_) | skip
 refine Ab (wpAny_sequenceKey ht.typeIs (by decide) ?_)
 refine Ab (Iq (name:=Str.ofString "__getitem__") ht.typeIs Ho
  (Ij Ho ht.typeIs entry_tuple_getitem ?_ (args_tuple_getitem _ _)))
 show wpAny _ _ (Builtin.Tuple.tupleItemsOf (.ref t) >>=_) _ _ s
 refine Ab (tupleItemsOf_ ht ?_)
 refine Ab (Ld hTs ?_)
 rw[if_pos (by decide)]
 refine Ab (Ww hs pl pu ?_)
 have hno:¬((((sIx items.size 0 lo:Nat):Int)==0&&(1:Int)==1&&(sIx items.size items.size hi - sIx items.size 0 lo)==items.size)=true):=by
  intro q
  rw[Bz9,Bz9] at q
  have q1:((sIx items.size 0 lo:Nat):Int)=0:=Kj q.1.1
  have q2:sIx items.size items.size hi - sIx items.size 0 lo=items.size:=Kj q.2
  exact hw ⟨by omega,by omega⟩
 show wpAny _ _ (if (((sIx items.size 0 lo:Nat):Int)==0&&(1:Int)==1&&(sIx items.size items.size hi - sIx items.size 0 lo)==items.size)=true then _ else _) _ _ s
 rw[if_neg hno,Zx8]
 first
  | exact Ab (m:=Le _) (Hn (Ae ⟨_,rfl,Ae h⟩) htake)
  | exact Ab (m:=Le _) (Hn (Ab (Ae (Ae ⟨_,rfl,Ae h⟩))) htake)
  | exact Ab (Ab (m:=Le _) (Hn (Ae (Ae ⟨_,rfl,Ae h⟩)) htake))
  | exact Ab (Ab (m:=Le _) (Hn (Ae ⟨_,rfl,Ae h⟩) htake))
end
end HT
namespace L2
open PySem PySem.Spec PyProof.Rows
abbrev TO:=St→Hp→(Option Int→Hp→Prop)→Prop
def PO(X:Cx)(e:Option Expr)(t:TO):Prop:=
 ∀(pins:List (Addr×Obj)) (s:Shared) (σ:St) (H:Hp) (Q:Option Int→Hp→Prop),Inv X pins σ H s→t σ H Q→
  wpAny (model X.prog X.w) X.A (evalPart e X.env) (fun u s'=>∃o H',Inv X pins σ H' s'∧IsPart u o∧Q o H') X.xe s
def Y96:TO:=fun _ H Q=>Q none H
def Yu5(t:TE):TO:=fun σ H Q=>t σ H fun x H1=>∃i,x= .int i∧Q (some i) H1
section
variable{X:Cx}{e:Expr}{te:TE}{lo hi:Option Expr}{tl th:TO}{pos p2:Pos}
theorem Ya5:PO X none Y96:=by
 intro pins s σ H Q I h
 rw[evalPart_none]
 exact Ae ⟨none,H,I,.none,h⟩
theorem Zj9(h:PE X e te):PO X (some e) (Yu5 te):=by
 intro pins s σ H Q I hw
 rw[evalPart_some]
 refine thn (h pins s σ H _ I hw) fun u s1 zz32=>?_
 obtain⟨x,H1,I1,r1,q1⟩:=zz32
 obtain⟨i,rfl,q⟩:=q1
 obtain⟨t,rfl⟩:=r1
 exact⟨some i,H1,I1,.int i t,q⟩
def SlR(X:Cx)(r:V→Option Int→Option Int→Hp→VK→Prop):Prop:=
 ∀(pins:List (Addr×Obj)) (s:Shared) (σ:St) (H:Hp) (x:V) (v vl vu:Value) (lo hi:Option Int) (sl:Addr) (Q:VK),Inv X pins σ H s→RelV x v→s.heap.IsSliceOf sl vl vu .none→IsPart vl lo→IsPart vu hi→r x lo hi H Q→
  ∃T id,typeLookup (.type T) "__getitem__"=pure (some (.builtin id))∧s.TypeIs v T∧wpAny (model X.prog X.w) X.A (getItem v (.ref sl)) (EP X pins σ Q) X.xe s
def tSl(r:V→Option Int→Option Int→Hp→VK→Prop)(te:TE)(tl th:TO):TE:=fun σ H Q=>te σ H fun x H1=>tl σ H1 fun l H2=>th σ H2 fun u H3=>r x l u H3 Q
theorem Z69{r:V→Option Int→Option Int→Hp→VK→Prop}(hr:SlR X r)(he:PE X e te)(hl:PO X lo tl)(hu:PO X hi th):PE X (.Subscript e (.Slice lo hi none p2) pos) (tSl r te tl th):=by
 intro pins s σ H Q I h
 refine Subscript_ (thn (he pins s σ H _ I h) fun v s1 zz33=>?_)
 obtain⟨x,H1,I1,r1,q1⟩:=zz33
 refine wpAny_Slice (thn (hl pins s1 σ H1 _ I1 q1) fun vl s2 ⟨l,H2,I2,pl,q2⟩=>thn (hu pins s2 σ H2 _ I2 q2) fun vu s3 zz35=>?_)
 obtain⟨u,H3,I3,pu,q3⟩:=zz35
 rw[evalPart_none]
 refine Ae ?_
 have I4:Inv X pins σ H3 {s3 with heap:=s3.heap.push {cls:= .type "slice",data:= .fields #[vl,vu,.none]}}:=I3.kept (t':=s3.toks) fun b ob q=>Ag _ q
 obtain⟨T,id,hT,ht,hg⟩:=hr pins {s3 with heap:=s3.heap.push {cls:= .type "slice",data:= .fields #[vl,vu,.none]}} σ H3 x v vl vu l u s3.heap.objs.size Q I4 r1 (Heap.IsSliceOf.new ..) pl pu q3
 show wpAny (model X.prog X.w) X.A (subscriptTail e (.Slice lo hi none p2) v (.ref s3.heap.objs.size)) (EP X pins σ Q) X.xe {s3 with heap:=s3.heap.push {cls:= .type "slice",data:= .fields #[vl,vu,.none]}}
 exact tail_any (ops:=[.ref s3.heap.objs.size,v]) ht hT hg (by with_unfolding_all rfl)
noncomputable def cutV(xs:List V)(lo hi:Option Int):List V:=(xs.drop (HT.sIx xs.length 0 lo)).take (HT.sIx xs.length xs.length hi - HT.sIx xs.length 0 lo)
theorem Pq(xs:List V)(lo hi:Option Int):(cutV xs lo hi).length≤xs.length:=by
 unfold cutV
 rw[Ii,List.length_drop]
 omega
def rSlT(K:Af):V→Option Int→Option Int→Hp→VK→Prop:=fun x lo hi H Q=>∃a xs,x= .ref a∧SqT K H a xs∧
 ¬(HT.sIx xs.length 0 lo=0∧HT.sIx xs.length xs.length hi=xs.length)∧∀p,H p=none→Q (.ref p) (upd H p (.tup (cutV xs lo hi)))
theorem Y50:SlR X (rSlT X.K):=by
 intro pins s σ H x v vl vu lo hi sl Q I rx hs pl pu h
 obtain⟨a,xs,rfl,hx,hw,q⟩:=h
 cases rx
 obtain⟨its,r,ht,hz⟩:=I.tuple hx
 have hlen:its.toArray.size=xs.length:=by rw[Ai];exact r.length.symm
 refine⟨"tuple",_,Ho.lookup,ht.typeIs,?_⟩
 refine HT.Sz ht hs pl pu (by rw[hlen];exact hw) ?_ (by rw[hlen];exact hz)
 rw[hlen]
 refine⟨.ref s.heap.objs.size,_,I.laid (t':=s.toks) (o:= .tup (cutV xs lo hi)) (fun b ob q=>Ag _ q) (Nat.le_refl _) ?_,rfl,q _ (I.hok.fresh (Nat.le_refl _))⟩
 exact⟨Nat.le_trans (Pq xs lo hi) hz,_,(r.drop (HT.sIx xs.length 0 lo)).take (HT.sIx xs.length xs.length hi - HT.sIx xs.length 0 lo),IsTup.new _ _⟩
def Yw0(K:Af):R2:=fun x y H Q=>∃a b xs ys,x= .ref a∧y= .ref b∧SqT K H a xs∧SqT K H b ys∧xs≠[]∧xs.length+ys.length≤sizeLine∧
 (ys=[]→Q (.ref a) H)∧(ys≠[]→∀p,H p=none→Q (.ref p) (upd H p (.tup (xs++ys))))
theorem Vals.nil_iff{xs:List V}{us:List Value}(r:Vals xs us):us=[]↔xs=[]:=by
 cases r with
 | nil=>simp
 | cons _ _=>simp
theorem Yd0:OpR X (binaryOp .Add) (Yw0 X.K):=by
 intro pins s σ H x y v u Q I rx ry h
 obtain⟨a,b,xs,ys,rfl,rfl,ha,hb,hx,hz,q1,q2⟩:=h
 cases rx
 cases ry
 obtain⟨its,r1,p1,_⟩:=I.tuple ha
 obtain⟨its2,r2,p2,_⟩:=I.tuple hb
 refine HT.Y99 p1 p2 (fun z=>hx (r1.nil_iff.mp z)) (fun z=>⟨.ref a,H,I,rfl,q1 (r2.nil_iff.mp z)⟩) (fun z=>?_) (by rw[←r1.length,←r2.length];exact hz)
 refine⟨.ref s.heap.objs.size,_,I.laid (t':=s.toks) (o:= .tup (xs++ys)) (fun b ob q=>Ag _ q) (Nat.le_refl _) ?_,rfl,q2 (fun w=>z (r2.nil_iff.mpr w)) _ (I.hok.fresh (Nat.le_refl _))⟩
 exact⟨by rw[Ah];exact hz,_,r1.append r2,IsTup.new _ _⟩
end
noncomputable def ixN(n:Nat)(i:Int):Option Nat:=if 0≤i then(if i<n then some i.toNat else none) else if -(n:Int)≤i then some (i+n).toNat else none
noncomputable def atI{α:Type}(xs:List α)(i:Int):Option α:=(ixN xs.length i).bind fun j=>xs[j]?
theorem Zn6{n:Nat}{i:Int}{j:Nat}(h:ixN n i=some j):seqIndex? i n=some j∧j<n∧ -(n:Int)≤i∧i<n:=by
 unfold ixN at h
 by_cases h0:0≤i
 ·rw[if_pos h0] at h
  by_cases h1:i<n
  ·rw[if_pos h1] at h
   have e:i.toNat=j:=Dm h
   exact⟨by rw[seqIndex_of h0 h1,e],by omega,by omega,h1⟩
  ·rw[if_neg h1] at h;cases h
 ·rw[if_neg h0] at h
  by_cases h1:-(n:Int)≤i
  ·rw[if_pos h1] at h
   have e:(i+n).toNat=j:=Dm h
   exact⟨by rw[seqIndex_neg (by omega) h1,e],by omega,h1,by omega⟩
  ·rw[if_neg h1] at h;cases h
theorem B8{α:Type}{xs:List α}{i:Int}{v:α}(h:atI xs i=some v):∃j,seqIndex? i xs.length=some j∧xs[j]?=some v∧j<xs.length∧ -(xs.length:Int)≤i∧i<xs.length:=by
 unfold atI at h
 cases e:ixN xs.length i with
 | none=>rw[e] at h;cases h
 | some j=>
  rw[e] at h
  obtain⟨h1,h2,h3,h4⟩:=Zn6 e
  exact⟨j,h1,h,h2,h3,h4⟩
theorem Sy{α:Type}{xs:List α}{j:Nat}{v:α}(h:xs[j]?=some v):atI xs (j:Int)=some v:=by
 have hj:j<xs.length:=(Ac.mp h).1
 have e:ixN xs.length (j:Int)=some j:=by
  unfold ixN
  rw[if_pos (by omega),if_pos (by omega)];simp
 unfold atI;rw[e];exact h
def Zr6(b:Expr):Prop:=∀o i,subscripted b false o i=operate [o,i] (getItem o i)
def IxR(X:Cx)(r:R2):Prop:=
 ∀(value slice:Expr) (pins:List (Addr×Obj)) (s:Shared) (σ:St) (H:Hp) (x y:V) (v u:Value) (Q:VK),Inv X pins σ H s→RelV x v→RelV y u→r x y H Q→
  subscripted slice false v u=operate [v,u] (getItem v u)→wpAny (model X.prog X.w) X.A (subscriptTail value slice v u) (EP X pins σ Q) X.xe s
def MtR(X:Cx)(id:String)(r:V→List V→Hp→VK→Prop):Prop:=
 ∀(pins:List (Addr×Obj)) (s:Shared) (σ:St) (H:Hp) (x:V) (xs:List V) (v:Value) (us:List Value) (Q:VK),Inv X pins σ H s→RelV x v→Vals xs us→r x xs H Q→
  wpAny (model X.prog X.w) X.A (call (.builtin id) (v::us)) (EP X pins σ Q) X.xe s
section
variable{X:Cx}{a b:Expr}{ta tb:TE}{pos:Pos}
theorem Yv3{r:R2}(hr:IxR X r)(ha:PE X a ta)(hb:PE X b tb)(hs:Zr6 b):PE X (.Subscript a b pos) (tOp r ta tb):=by
 intro pins s σ H Q I h
 exact Subscript_ (binT ha hb I h fun v u s2 x y H2 I2 rx ry q=>hr a b pins s2 σ H2 x y v u Q I2 rx ry q (hs _ _))
def rIxL(K:Af):R2:=fun x y H Q=>∃p xs i v,x= .ref p∧y= .int i∧SqL K H p xs∧atI xs i=some v∧Q v H
def rIxT(K:Af):R2:=fun x y H Q=>∃p xs i v,x= .ref p∧y= .int i∧SqT K H p xs∧atI xs i=some v∧Q v H
def rIxS:R2:=fun x y H Q=>∃z i c,x= .str z∧y= .int i∧z.length≤sizeLine∧atI z.cps.toList i=some c∧Q (.str ⟨#[c]⟩) H
theorem Yb2:IxR X (rIxL X.K):=by
 intro value slice pins s σ H x y v u Q I rx ry h hs
 obtain⟨p,xs,i,z,rfl,rfl,hq,he,q⟩:=h
 cases rx
 obtain⟨t,rfl⟩:=ry
 obtain⟨its,r,pl,hz⟩:=I.list hq
 obtain⟨j,h1,h2,h3,h4,h5⟩:=B8 he
 obtain⟨w,ew,rw'⟩:=r.get h2
 have hl:=r.length
 have hn:=Rx
 have fin:EP X pins σ Q w s:=⟨z,H,I,rw',q⟩
 by_cases h0:0≤i
 ·have hj:i.toNat=j:=by
   rw[seqIndex_of h0 h5] at h1
   exact Dm h1
  exact item_listR pl.isList h0 (by omega) (by rw[hj];simpa using ew) fin hs
 ·have hj:(i+(its.toArray.size:Int)).toNat=j:=by
   rw[seqIndex_neg (by omega) h4] at h1
   rw[Ai,←hl]
   exact Dm h1
  exact subscriptTail_builtinR (x:=w) pl.isList.typeIs slot_list_getitem.lookup
   (wpAny_getItem_list_neg (Q:=fun r s'=>r=w∧EP X pins σ Q r s') pl.isList (by omega) (by rw[Ai]<;>omega) (by omega) (by rw[hj];simpa using ew) ⟨rfl,fin⟩) hs
theorem Y45:IxR X (rIxT X.K):=by
 intro value slice pins s σ H x y v u Q I rx ry h hs
 obtain⟨p,xs,i,z,rfl,rfl,hq,he,q⟩:=h
 cases rx
 obtain⟨t,rfl⟩:=ry
 obtain⟨its,r,pl,hz⟩:=I.tuple hq
 obtain⟨j,h1,h2,h3,h4,h5⟩:=B8 he
 obtain⟨w,ew,rw'⟩:=r.get h2
 have hl:=r.length
 have hn:=Rx
 have fin:EP X pins σ Q w s:=⟨z,H,I,rw',q⟩
 exact subscriptTail_builtinR (x:=w) pl.typeIs slot_tuple_getitem.lookup
  (getItem_tuple (j:=j) (Q:=fun r s'=>r=w∧EP X pins σ Q r s') pl (by omega) (by omega) (by rw[Ai,←hl];exact h1) (by simpa using ew) ⟨rfl,fin⟩) hs
theorem Yn4:IxR X rIxS:=by
 intro value slice pins s σ H x y v u Q I rx ry h hs
 obtain⟨z,i,c,rfl,rfl,hz,he,q⟩:=h
 obtain⟨t,rfl⟩:=rx
 obtain⟨t',rfl⟩:=ry
 obtain⟨j,h1,h2,h3,h4,h5⟩:=B8 he
 have hl:z.cps.toList.length=z.length:=by simp[Str.length]
 rw[hl] at h1 h4 h5
 have hn:=Rx
 exact tail_any (typeIs_str s z t) slot_str_getitem.lookup (getItem_str (c:=c) (by
  have e1:decide (i< -(2 ^ 63:Int))=false:=decide_eq_false (by omega)
  have e2:decide (i ≥ 2 ^ 63)=false:=decide_eq_false (by omega)
  rw[e1,e2,Bool.or_false]) (by rw[h1];simpa using h2) ⟨.str ⟨#[c]⟩,H,I.tok _,⟨_,rfl⟩,q⟩) hs
theorem Zb3(its:List Value)(n j:Nat)(u:Value):Lc (·.setIfInBounds j u) {cls:= .type "list",data:= .seq its.toArray n}={cls:= .type "list",data:= .seq (its.set j u).toArray n}:=by
 simp[Lc]
theorem Inv.lst{pins:List (Addr×Obj)}{σ:St}{H:Hp}{s:Shared}{p:Addr}{xs:List V}(I:Inv X pins σ H s)(h:H p=some (.lst xs)):
  ∃(its:List Value) (n:Nat),Vals xs its∧s.heap.get? p=some {cls:= .type "list",data:= .seq its.toArray n}∧xs.length≤sizeLine:=by
 obtain⟨z,its,n,r,e⟩:=I.hok p _ h
 exact⟨its,n,r,e,z⟩
theorem Inv.lstUpd{pins:List (Addr×Obj)}{σ:St}{H:Hp}{s:Shared}{p:Addr}{xs ys:List V}{its its':List Value}{n n':Nat}{f:Obj→Obj}(I:Inv X pins σ H s)(h:H p=some (.lst xs))
  (ho:s.heap.get? p=some {cls:= .type "list",data:= .seq its.toArray n}) (hf:f {cls:= .type "list",data:= .seq its.toArray n}={cls:= .type "list",data:= .seq its'.toArray n'}) (r:Vals ys its') (hz:ys.length≤sizeLine) (t:Nat):
  Inv X pins σ (upd H p (.lst ys)) {s with heap:=s.heap.update p f,toks:=t}:=by
 have e:(s.heap.update p f).get? p=some {cls:= .type "list",data:= .seq its'.toArray n'}:=by
  rw[Ip f ho (by rw[hf]<;>rfl),hf]
 refine I.write (x:=p) (e:=p) (by rw[h];trivial) (.inl rfl) (fun b u hb q=>(Ix _ _ (Hw hb)).trans q) ⟨_,e⟩ ?_
 exact⟨hz,its',n',r,e⟩
def Ys9:V→V→V→Hp→(Hp→Prop)→Prop:=fun o i v H Q=>∃p xs k j,o= .ref p∧i= .int k∧H p=some (.lst xs)∧ixN xs.length k=some j∧Q (upd H p (.lst (xs.set j v)))
theorem Zu7:PSet X Ys9:=by
 intro pins s σ H o i v ov iv u Q I ro ri rv h
 obtain⟨p,xs,k,j,rfl,rfl,hp,hj,q⟩:=h
 cases ro
 obtain⟨t,rfl⟩:=ri
 obtain⟨its,n,r,ho,hz⟩:=I.lst hp
 obtain⟨h1,h2,h3,h4⟩:=Zn6 hj
 have hl:=r.length
 have hn:=Rx
 have I':Inv X pins σ (upd H p (.lst (xs.set j v))) {s with heap:=s.heap.update p (Lc (·.setIfInBounds j u))}:=
  I.lstUpd hp ho (Zb3 its n j u) (r.set rv j) (by rw[List.length_set];exact hz) s.toks
 by_cases h0:0≤k
 ·have hk:k.toNat=j:=by
   rw[seqIndex_of h0 h4] at h1
   exact Dm h1
  exact PySem.W.ki_setAt ho h0 (by omega) (by rw[Ai,←hl];exact h4) (by rw[hk];exact⟨_,I',q⟩)
 ·have hk:(k+(its.toArray.size:Int)).toNat=j:=by
   rw[seqIndex_neg (by omega) h3] at h1
   rw[Ai,←hl]
   exact Dm h1
  exact PySem.W.ki_setBack ho (by omega) (by rw[Ai,←hl];exact h3) (by omega) (by rw[hk];exact⟨_,I',q⟩)
theorem Fz(lo hi:Option Int)(n:Nat):(sliceBounds lo hi none n).1=((HT.sIx n 0 lo:Nat):Int)∧(sliceBounds lo hi none n).2.1=((HT.sIx n n hi:Nat):Int)∧(sliceBounds lo hi none n).2.2=1:=by
 refine⟨?_,?_,rfl⟩
 ·cases lo with
  | none=>simp[sliceBounds,HT.sIx]
  | some i=>
   simp only[sliceBounds,HT.sIx,Option.getD_none,show(1:Int) >0 by decide,if_true]
   by_cases h:i<0
   ·simp only[h,if_true]<;>omega
   ·simp only[h,if_false]<;>omega
 ·cases hi with
  | none=>simp[sliceBounds,HT.sIx]
  | some i=>
   simp only[sliceBounds,HT.sIx,Option.getD_none,show(1:Int) >0 by decide,if_true]
   by_cases h:i<0
   ·simp only[h,if_true]<;>omega
   ·simp only[h,if_false]<;>omega
theorem Gf(its:List Value)(lo hi:Option Int):slicePick its.toArray lo hi none=((its.drop (HT.sIx its.length 0 lo)).take (HT.sIx its.length its.length hi - HT.sIx its.length 0 lo)).toArray:=by
 obtain⟨h1,h2,h3⟩:=Fz lo hi its.toArray.size
 unfold slicePick
 rw[h1,h2,h3]
 simp only[sliceRange_one,pick_run,Ai]<;>rfl
def rSlL(K:Af):V→Option Int→Option Int→Hp→VK→Prop:=fun x lo hi H Q=>∃a xs,x= .ref a∧SqL K H a xs∧∀p,H p=none→Q (.ref p) (upd H p (.lst (cutV xs lo hi)))
theorem Y82:SlR X (rSlL X.K):=by
 intro pins s σ H x v vl vu lo hi sl Q I rx hs pl pu h
 obtain⟨a,xs,rfl,hx,q⟩:=h
 cases rx
 obtain⟨its,r,ht,hz⟩:=I.list hx
 have hlen:=r.length
 refine⟨"list",_,slot_list_getitem.lookup,ht.isList.typeIs,?_⟩
 refine wpAny_getItem_list_slice ht.isList hs pl pu .none (by simp) ?_ (by rw[Ai]<;>omega)
 rw[Gf,←hlen]
 refine⟨.ref s.heap.objs.size,_,I.laid (t':=s.toks) (o:= .lst (cutV xs lo hi)) (fun b ob q=>Ag _ q) (Nat.le_refl _) ?_,rfl,q _ (I.hok.fresh (Nat.le_refl _))⟩
 exact⟨Nat.le_trans (Pq xs lo hi) hz,_,0,(r.drop (HT.sIx xs.length 0 lo)).take (HT.sIx xs.length xs.length hi - HT.sIx xs.length 0 lo),Ar _ rfl⟩
noncomputable def Wx:V→Bool
 | .non=>true
 | .bl _=>true
 | .int _=>true
 | .str _=>true
 | _=>false
noncomputable def eqV:V→V→Bool
 | .non,.non=>true
 | .bl a,.bl b=>a==b
 | .bl a,.int b=>(if a then 1 else 0)==b
 | .int a,.bl b=>a==(if b then 1 else 0)
 | .int a,.int b=>a==b
 | .str a,.str b=>a==b
 | _,_=>false
theorem Y56{A:Around}{s:Shared}{y x:V}{u v:Value}(ry:RelV y u)(rx:RelV x v)(fy:Wx y=true)(fx:Wx x=true):Dw A s u v (eqV y x):=by
 cases y with
 | non=>
  cases ry
  cases x with
  | non=>cases rx;exact Dw.same _
  | bl b=>cases rx;exact Dw.none_bool b
  | int b=>obtain⟨t,rfl⟩:=rx;exact Dw.none_int b t
  | str b=>obtain⟨t,rfl⟩:=rx;exact Dw.none_str b t
  | _=>exact absurd (show false=true from fx) Bf9
 | bl a=>
  cases ry
  cases x with
  | non=>cases rx;exact Dw.bool_none a
  | bl b=>cases rx;exact Dw.bool_bool a b
  | int b=>obtain⟨t,rfl⟩:=rx;exact Dw.bool_int a b t
  | str b=>obtain⟨t,rfl⟩:=rx;exact Dw.bool_str a b t
  | _=>exact absurd (show false=true from fx) Bf9
 | int a=>
  obtain⟨t',rfl⟩:=ry
  cases x with
  | non=>cases rx;exact Dw.int_none a t'
  | bl b=>cases rx;exact Dw.int_bool a t' b
  | int b=>obtain⟨t,rfl⟩:=rx;exact Dw.int_int a t' b t
  | str b=>obtain⟨t,rfl⟩:=rx;exact Dw.int_str a t' b t
  | _=>exact absurd (show false=true from fx) Bf9
 | str a=>
  obtain⟨t',rfl⟩:=ry
  cases x with
  | non=>cases rx;exact Dw.str_none a t'
  | bl b=>cases rx;exact Dw.str_bool a t' b
  | int b=>obtain⟨t,rfl⟩:=rx;exact Dw.str_int a t' b t
  | str b=>obtain⟨t,rfl⟩:=rx;exact Dw.str_str a t' b t
  | _=>exact absurd (show false=true from fx) Bf9
 | _=>exact absurd (show false=true from fy) Bf9
noncomputable def eqU(x:V)(u:Value):Bool:=match u with
 | .none=>eqV .non x
 | .bool b=>eqV (.bl b) x
 | .int i _=>eqV (.int i) x
 | .str z _=>eqV (.str z) x
 | _=>false
theorem Zd8{x y:V}{u:Value}(r:RelV y u)(f:Wx y=true):eqU x u=eqV y x:=by
 cases y with
 | non=>cases r;rfl
 | bl b=>cases r;rfl
 | int i=>obtain⟨t,rfl⟩:=r;rfl
 | str z=>obtain⟨t,rfl⟩:=r;rfl
 | _=>exact absurd (show false=true from f) Bf9
theorem Pd{x:V}:∀{xs:List V} {us:List Value},Vals xs us→xs.all Wx=true→us.any (eqU x)=xs.any fun y=>eqV y x
 | _,_,.nil,_=>rfl
 | y::xs,u::us,.cons r t,f=>by
  rw[Lq,Bz9] at f
  rw[Kk,Kk,Zd8 r f.1,Pd t f.2]
theorem Vs{A:Around}{s:Shared}{x:V}{v:Value}(rx:RelV x v)(fx:Wx x=true):∀{xs:List V} {us:List Value},Vals xs us→xs.all Wx=true→∀u∈us,Dw A s u v (eqU x u)
 | _,_,.nil,_=>fun u hu=>by cases hu
 | y::xs,u::us,.cons r t,f=>fun u' hu=>by
  rw[Lq,Bz9] at f
  rcases Ao.mp hu with rfl | hu
  ·rw[Zd8 r f.1];exact Y56 r rx f.1 fx
  ·exact Vs rx fx t f.2 u' hu
noncomputable def inV(x:V)(xs:List V):Bool:=xs.any fun y=>eqV y x
def rIn(K:Af)(neg:Bool):R2:=fun x y H Q=>∃p xs,y= .ref p∧(SqL K H p xs∨SqT K H p xs)∧Wx x=true∧xs.all Wx=true∧Q (.bl (if neg then !inV x xs else inV x xs)) H
theorem Zk5:OpR X (compareOp .In) (rIn X.K false):=by
 intro pins s σ H x y v u Q I rx ry h
 obtain⟨p,xs,rfl,hq,fx,fs,q⟩:=h
 cases ry
 rcases hq with hq | hq
 ·obtain⟨its,r,pl,hz⟩:=I.list hq
  refine SeqAt.in_listAt (eqU x) pl.isList (fun w hw=>Vs rx fx r fs w (by simpa using hw)) ⟨.bl _,H,I,rfl,?_⟩
  rw[show its.toArray.any (eqU x)=its.any (eqU x) by simp,Pd r fs]
  exact q
 ·obtain⟨its,r,pl,hz⟩:=I.tuple hq
  refine SeqAt.in_tupleAt (eqU x) pl (fun w hw=>Vs rx fx r fs w (by simpa using hw)) ⟨.bl _,H,I,rfl,?_⟩
  rw[show its.toArray.any (eqU x)=its.any (eqU x) by simp,Pd r fs]
  exact q
theorem C7:OpR X (compareOp .NotIn) (rIn X.K true):=by
 intro pins s σ H x y v u Q I rx ry h
 obtain⟨p,xs,rfl,hq,fx,fs,q⟩:=h
 cases ry
 rcases hq with hq | hq
 ·obtain⟨its,r,pl,hz⟩:=I.list hq
  refine SeqAt.notIn_listAt (eqU x) pl.isList (fun w hw=>Vs rx fx r fs w (by simpa using hw)) ⟨.bl _,H,I,rfl,?_⟩
  rw[show its.toArray.any (eqU x)=its.any (eqU x) by simp,Pd r fs]
  exact q
 ·obtain⟨its,r,pl,hz⟩:=I.tuple hq
  refine SeqAt.notIn_tupleAt (eqU x) pl (fun w hw=>Vs rx fx r fs w (by simpa using hw)) ⟨.bl _,H,I,rfl,?_⟩
  rw[show its.toArray.any (eqU x)=its.any (eqU x) by simp,Pd r fs]
  exact q
theorem Rp:Xk X (.builtin "len") (fun xs H Q=>∃p ys,xs=[.ref p]∧(SqL X.K H p ys∨SqT X.K H p ys)∧Q (.int ys.length) H):=by
 intro pins s σ H xs us Q I r h
 obtain⟨p,ys,rfl,hq,q⟩:=h
 obtain⟨u,rfl,rx⟩:=Tj r
 cases rx
 have hn:=Rx
 rcases hq with hq | hq
 ·obtain⟨its,r',pl,hz⟩:=I.list hq
  have hlen:=r'.length
  exact Calls.call_len_list pl.isList (by simp only[Ai]<;>omega) ⟨.int ys.length,H,I.tok _,⟨s.toks+1,by rw[Ai,hlen]⟩,q⟩
 ·obtain⟨its,r',pl,hz⟩:=I.tuple hq
  have hlen:=r'.length
  exact len_tuple pl (by simp only[Ai]<;>omega) ⟨.int ys.length,H,I.tok _,⟨s.toks+1,by rw[Ai,hlen]⟩,q⟩
theorem Gq:Xk X (.builtin "len") (fun xs H Q=>∃z,xs=[.str z]∧z.length≤sizeLine∧Q (.int z.length) H):=by
 intro pins s σ H xs us Q I r h
 obtain⟨z,rfl,hz,q⟩:=h
 obtain⟨u,rfl,t,rfl⟩:=Tj r
 have hn:=Rx
 exact len_str (by omega) ⟨.int z.length,H,I.tok _,⟨_,rfl⟩,q⟩
theorem E7:Xk X (.type "list") (fun xs H Q=>∃p ys,xs=[.ref p]∧(SqL X.K H p ys∨SqT X.K H p ys)∧∀l,H l=none→Q (.ref l) (upd H l (.lst ys))):=by
 intro pins s σ H xs us Q I r h
 obtain⟨p,ys,rfl,hq,q⟩:=h
 obtain⟨u,rfl,rx⟩:=Tj r
 cases rx
 have fin:∀(its:List Value),Vals ys its→ys.length≤sizeLine→∀(h':Heap) (c':Nat),(∀b o',s.heap.get? b=some o'→h'.get? b=some o')→
   h'.get? s.heap.objs.size=some {cls:= .type "list",dict:=none,data:= .seq its.toArray c',slots:=#[]}→EP X pins σ Q (.ref s.heap.objs.size) {s with heap:=h'}:=fun its r' hz h' c' kp e=>
  ⟨.ref s.heap.objs.size,_,I.laid (t':=s.toks) kp (Nat.le_refl _) (show Yo X.prog X.w _ h' _ (.lst ys) from⟨hz,its,c',r',e⟩),rfl,q _ (I.hok.fresh (Nat.le_refl _))⟩
 rcases hq with hq | hq
 ·obtain⟨its,r',pl,hz⟩:=I.list hq
  have hlen:=r'.length
  obtain⟨o,ho,hc,n,hd⟩:=pl.isList
  exact call_list_seq p (.inl rfl) ho hc hd (fun h' c' kp e=>fin its r' hz h' c' kp e) (by simp only[Ai]<;>omega)
 ·obtain⟨its,r',pl,hz⟩:=I.tuple hq
  have hlen:=r'.length
  obtain⟨o,ho,hc,n,hd⟩:=pl
  exact call_list_seq p (.inr rfl) ho hc hd (fun h' c' kp e=>fin its r' hz h' c' kp e) (by simp only[Ai]<;>omega)
def tyV(K:Af)(T:String)(x:V)(H:Hp):Prop:=match x with
 | .str _=>T="str"
 | .int _=>T="int"
 | .ref p=>(T="list"∧∃xs,SqL K H p xs)∨(T="tuple"∧∃o,K.lookup p=some o∧o.cls= .type "tuple"∧o.dict=none)∨
   (T="dict"∧((∃kvs,H p=some (.dK kvs))∨∃kvs,H p=some (.dT kvs)))∨(T="set"∧∃S n,H p=some (.set S n))
 | _=>False
theorem Y42{pins:List (Addr×Obj)}{σ:St}{H:Hp}{s:Shared}{T:String}{x:V}{v:Value}(I:Inv X pins σ H s)(r:RelV x v)(ty:tyV X.K T x H):
  s.TypeIs v T∧∀a,v= .ref a→∃ob,s.heap.get? a=some ob∧ob.dict=none:=by
 cases x with
 | str z=>
  obtain⟨t,rfl⟩:=r
  cases (show T="str" from ty)
  exact⟨typeIs_str s z t,fun _ e=>nomatch e⟩
 | int i=>
  obtain⟨t,rfl⟩:=r
  cases (show T="int" from ty)
  exact⟨typeIs_int s i t,fun _ e=>nomatch e⟩
 | ref p=>
  cases r
  rcases ty with⟨rfl,xs,hq⟩ | ⟨rfl,o,hk,hc,hd⟩ | ⟨rfl,hk⟩ | ⟨rfl,S,n,hk⟩
  ·obtain⟨its,_,pl,_⟩:=I.list hq
   refine⟨pl.isList.typeIs,fun a e=>?_⟩
   cases e
   obtain⟨o,n,e,c,hd,_⟩:=pl
   exact⟨o,e,hd⟩
  ·refine⟨⟨o,I.kIn p o hk,hc⟩,fun a e=>?_⟩
   cases e
   exact⟨o,I.kIn _ o hk,hd⟩
  ·have z:∃o,s.heap.get? p=some o∧o.ExactDict:=by
    rcases hk with⟨kvs,hk⟩ | ⟨kvs,hk⟩
    ·obtain⟨_,_,_,_,o,_,_,e,ex,_⟩:=I.hok p _ hk
     exact⟨o,e,ex⟩
    ·obtain⟨_,_,_,_,o,_,_,e,ex,_⟩:=I.hok p _ hk
     exact⟨o,e,ex⟩
   obtain⟨o,e,ex⟩:=z
   refine⟨⟨o,e,ex.1⟩,fun a e2=>?_⟩
   cases e2
   exact⟨o,e,ex.2.1⟩
  ·obtain⟨o,_,_,_,e,ex,_⟩:=I.hok p _ hk
   refine⟨⟨o,e,ex.1⟩,fun a e2=>?_⟩
   cases e2
   exact⟨o,e,ex.2.1⟩
 | _=>exact Dp ty
def tBM0(K:Af)(T:String)(r:V→List V→Hp→VK→Prop)(to:TE):TE:=fun σ H Q=>to σ H fun x H1=>tyV K T x H1∧r x [] H1 Q
def tBM(K:Af)(T:String)(r:V→List V→Hp→VK→Prop)(to:TE)(t:TA):TE:=fun σ H Q=>to σ H fun x H1=>tyV K T x H1∧t σ H1 fun xs H2=>r x xs H2 Q
variable{o e:Expr}{es:List Expr}{to:TE}{t:TA}{name:Str}{apos cpos:Pos}{T id:String}{r:V→List V→Hp→VK→Prop}
theorem Yo6(pa:PlainAttrs T)(slot:Slot T name id)(hty:typeOf (.builtin id)=pure (.type "method_descriptor"))(hm:MtR X id r)(ho:PE X o to)
  (hbase:attributeBase o name X.env (eval o X.env)=eval o X.env:=by rfl) (hline:(apos.endLine==cpos.line)=true:=by rfl):PE X (.Call (.Attribute o name apos) [] [] cpos) (tBM0 X.K T r to):=by
 intro pins s σ H Q I h
 refine wpAny_Call_method0_late hbase hline (thn (ho pins s σ H _ I h) fun v s1 zz36=>?_)
 obtain⟨x,H1,I1,r1,ty,q1⟩:=zz36
 obtain⟨h1,h2⟩:=Y42 I1 r1 ty
 exact⟨T,id,pa,slot,hty,h1,h2,Calls.callWith_builtin rfl (PySem.evalArgs_none (hm pins s1 σ H1 x [] v [] Q I1 r1 .nil q1))⟩
theorem Yt7(pa:PlainAttrs T)(slot:Slot T name id)(hty:typeOf (.builtin id)=pure (.type "method_descriptor"))(hm:MtR X id r)(ho:PE X o to)(ha:PA X (e::es) t)
  (hbase:attributeBase o name X.env (eval o X.env)=eval o X.env:=by rfl)
  (hfew:((backTo cpos (starEach (e::es) X.env)).all (fun x=> !x.1)&&(backToKw cpos (keywordEach [] X.env)).all (fun x=>x.1.isSome)
   &&decide ((e::es).length+([]:List Keyword).length+(if ([]:List Keyword).isEmpty then 0 else 1)<30))=true:=by rfl)
  (hline:(apos.endLine==cpos.line)=true:=by rfl) (hs:starEach (e::es) X.env=(false,eval e X.env)::starEach es X.env:=by rfl) (hplain:(backTo cpos (starEach es X.env)).any (·.1)=false:=by rfl):
  PE X (.Call (.Attribute o name apos) (e::es) [] cpos) (tBM X.K T r to t):=by
 intro pins s σ H Q I h
 refine wpAny_Call_method_late hbase hfew hline rfl (thn (ho pins s σ H _ I h) fun v s1 zz37=>?_)
 obtain⟨x,H1,I1,r1,ty,q1⟩:=zz37
 obtain⟨h1,h2⟩:=Y42 I1 r1 ty
 refine⟨T,id,pa,slot,hty,h1,h2,?_⟩
 have hA:=ha cpos pins s1 σ H1 _ I1 q1
 rw[hs] at hA ⊢
 refine Calls.callWith_builtin (by show(false || (backTo cpos (starEach es X.env)).any (·.1))=false;rw[hplain]<;>rfl) (Calls.evalArgs_plain ?_)
 exact thn hA fun us s2 zz38=>by obtain⟨vs,H2,I2,r2,q2⟩:=zz38;exact hm pins s2 σ H2 x vs v us Q I2 r1 r2 q2
end
def MtM(X:Cx)(id:String)(r:V→List V→Hp→VK→Prop):Prop:=
 ∀(pins:List (Addr×Obj)) (s:Shared) (σ:St) (H:Hp) (x:V) (xs:List V) (v:Value) (us:List Value) (Q:VK),Inv X pins σ H s→RelV x v→Vals xs us→r x xs H Q→
  wpAny (model X.prog X.w) X.A (call (.builtin id) (v::us)) (EP X pins σ Q) X.xe s
theorem Vals.one:∀{x:V} {us:List Value},Vals [x] us→∃u,us=[u]∧RelV x u
 | _,_,.cons r .nil=>⟨_,rfl,r⟩
theorem Vals.two:∀{x y:V} {us:List Value},Vals [x,y] us→∃u v,us=[u,v]∧RelV x u∧RelV y v
 | _,_,_,.cons r (.cons q .nil)=>⟨_,_,rfl,r,q⟩
theorem Vals.zero:∀{us:List Value},Vals [] us→us=[]
 | _,.nil=>rfl
theorem Vals.dropLast{xs:List V}{us:List Value}(h:Vals xs us):Vals xs.dropLast us.dropLast:=by
 induction h with
 | nil=>exact .nil
 | cons r t ih=>
  cases t with
  | nil=>exact .nil
  | cons q t'=>exact .cons r ih
theorem Vals.reverse{xs:List V}{us:List Value}(h:Vals xs us):Vals xs.reverse us.reverse:=by
 induction h with
 | nil=>exact .nil
 | cons r t ih=>rw[List.reverse_cons,List.reverse_cons];exact Vals.append ih (.cons r .nil)
theorem Vals.rep{xs:List V}{us:List Value}(h:Vals xs us):∀k:Nat,Vals (Db k xs).flatten (Db k us).flatten
 | 0=> .nil
 | k+1=>by
  rw[Hx,Hx,Kh,Kh]
  exact Vals.append h (Vals.rep h k)
theorem Z83{α:Type}(l:List α):l.eraseIdx (l.length - 1)=l.dropLast:=by
 induction l with
 | nil=>rfl
 | cons a r ih=>
  cases r with
  | nil=>rfl
  | cons b r=>
   have e:(a::b::r).length - 1=((b::r).length - 1)+1:=by
    have h1:(a::b::r).length=r.length+2:=rfl
    have h2:(b::r).length=r.length+1:=rfl
    omega
   rw[e,List.eraseIdx_cons_succ,ih]
   all_goals rfl
theorem Er(its:List Value):∀(k:Nat) (acc:List Value),
  List.foldl (fun x1 x2=>x1++x2) acc.toArray (Db k its.toArray)=(acc++(Db k its).flatten).toArray
 | 0,acc=>by simp
 | k+1,acc=>by
  have e:acc.toArray++its.toArray=(acc++its).toArray:=by simp
  have e2:(acc++its)++(Db k its).flatten=acc++(Db (k+1) its).flatten:=by
   rw[Hx,Kh,Dg]
  rw[←e2,←Er its k (acc++its),←e,Hx,Iu]
section
variable{X:Cx}{pins:List (Addr×Obj)}{σ:St}{H:Hp}{s:Shared}{l b:Addr}{xs ys zs:List V}
theorem Inv.lset{its its':List Value}{n:Nat}{f:Array Value→Array Value}{t':Nat}(I:Inv X pins σ H s)(hH:H l=some (.lst xs))
  (e:s.heap.get? l=some {cls:= .type "list",data:= .seq its.toArray n}) (hf:f its.toArray=its'.toArray) (hv:Vals ys its') (hz:ys.length≤sizeLine):
  Inv X pins σ (upd H l (.lst ys)) {s with heap:=s.heap.update l (Lc f),toks:=t'}:=by
 have q:=PySem.IsL.update e f
 rw[hf] at q
 refine I.write (x:=l) (e:=l) (by rw[hH];exact trivial) (.inl rfl) (fun b' u hb hu=>(Ix s.heap (Lc f) (Hw hb)).trans hu) ⟨_,q⟩ ?_
 exact⟨hz,its',_,hv,q⟩
theorem Inv.lnew{its:List Value}{t':Nat}(I:Inv X pins σ H s)(hv:Vals ys its)(hz:ys.length≤sizeLine):
  Inv X pins σ (upd H s.heap.objs.size (.lst ys)) {s with heap:=s.heap.push {cls:= .type "list",data:= .seq its.toArray},toks:=t'}:=
 I.laid (fun _ _ q=>Ag _ q) (Nat.le_refl _) ⟨hz,its,0,hv,Ar _ rfl⟩
theorem Inv.fresh(I:Inv X pins σ H s):H s.heap.objs.size=none:=I.hok.fresh (Nat.le_refl _)
theorem Inv.lstM(I:Inv X pins σ H s)(hH:H l=some (.lst xs)):xs.length≤sizeLine∧∃(its:List Value) (n:Nat),Vals xs its∧xs.length=its.length∧s.heap.get? l=some {cls:= .type "list",data:= .seq its.toArray n}:=by
 obtain⟨z,its,n,r,e⟩:=I.hok l _ hH
 exact⟨z,its,n,r,r.length,e⟩
theorem Zz9{n:Nat}(h:n≤sizeLine):Builtin.List.listTooLong n=false:=by
 unfold Builtin.List.listTooLong
 exact decide_eq_false (by omega)
end
section
variable{X:Cx}
def Yc4:V→List V→Hp→VK→Prop:=fun x vs H Q=>∃l xs y,x= .ref l∧vs=[y]∧H l=some (.lst xs)∧xs.length<sizeLine∧Q .non (upd H l (.lst (xs++[y])))
theorem O9:MtM X "list.append" Yc4:=by
 intro pins s σ H x vs v us Q I rx rv h
 obtain⟨l,xs,y,rfl,rfl,hH,hz,q⟩:=h
 cases rx
 obtain⟨u,rfl,ru⟩:=rv.one
 obtain⟨z,its,n,r,hl,e⟩:=I.lstM hH
 refine Ma F.slot_list_append ⟨_,e,rfl⟩ F.entry_list_append (F.args_list_append_2 _ _) (PySem.list_append l its.toArray n u (by rw[Ai];omega)) ⟨e,?_⟩
 refine⟨.non,_,I.lset (its':=its++[u]) hH e (by simp) (r.append (.cons ru .nil)) ?_,rfl,q⟩
 rw[Ah,Dh]
 omega
def rPop:V→List V→Hp→VK→Prop:=fun x vs H Q=>∃l xs y,x= .ref l∧vs=[]∧H l=some (.lst xs)∧xs[xs.length - 1]?=some y∧Q y (upd H l (.lst xs.dropLast))
theorem Yi9:MtM X "list.pop" rPop:=by
 intro pins s σ H x vs v us Q I rx rv h
 obtain⟨l,xs,y,rfl,rfl,hH,hy,q⟩:=h
 cases rx
 have hus:=rv.zero
 subst hus
 obtain⟨z,its,n,r,hl,e⟩:=I.lstM hH
 obtain⟨u,hu,ru⟩:=r.get hy
 have hy':its.toArray[its.toArray.size - 1]?=some u:=by
  show its.toArray[its.length - 1]?=some u
  rw[←Dt,←hl]
  exact hu
 refine Ma F.slot_list_pop ⟨_,e,rfl⟩ F.entry_list_pop (F.args_list_pop_1 _) (MeetsSeq.list_pop_last l its.toArray n u hy' (by rw[Ai];omega)) ⟨e,?_⟩
 refine⟨y,_,I.lset (its':=its.dropLast) hH e ?_ r.dropLast ?_,ru,q⟩
 ·show its.toArray.eraseIdxIfInBounds (its.toArray.size - 1)=its.dropLast.toArray
  rw[Ai,List.eraseIdxIfInBounds_toArray,Z83]
 ·rw[List.length_dropLast]
  omega
def Yt1:V→List V→Hp→VK→Prop:=fun x vs H Q=>∃l xs,x= .ref l∧vs=[]∧H l=some (.lst xs)∧Q .non (upd H l (.lst []))
theorem Y02:MtM X "list.clear" Yt1:=by
 intro pins s σ H x vs v us Q I rx rv h
 obtain⟨l,xs,rfl,rfl,hH,q⟩:=h
 cases rx
 have hus:=rv.zero
 subst hus
 obtain⟨z,its,n,r,hl,e⟩:=I.lstM hH
 refine Ma F.slot_list_clear ⟨_,e,rfl⟩ F.entry_list_clear (F.args_list_clear_1 _) (AutoSeq1.list_clear_list_0 l its.toArray n (by rw[Ai];omega)) ⟨e,?_⟩
 exact⟨.non,_,I.lset (its':=[]) (ys:=[]) hH e rfl .nil (Nat.zero_le _),rfl,q⟩
def rCat:R2:=fun x y H Q=>∃l b xs zs,x= .ref l∧y= .ref b∧H l=some (.lst xs)∧H b=some (.lst zs)∧xs.length+zs.length≤sizeLine∧∀p,H p=none→Q (.ref p) (upd H p (.lst (xs++zs)))
theorem Yk0:OpR X (binaryOp .Add) rCat:=by
 intro pins s σ H x y v u Q I rx ry h
 obtain⟨l,b,xs,zs,rfl,rfl,hH,hB,hz,q⟩:=h
 cases rx
 cases ry
 obtain⟨z,its,n,r,hl,e⟩:=I.lstM hH
 obtain⟨z2,its2,n2,r2,hl2,e2⟩:=I.lstM hB
 refine PySem.P.add_list e e2 ?_ (by rw[Ai,Ai];omega)
 have ea:its.toArray++its2.toArray=(its++its2).toArray:=by simp
 rw[ea]
 exact⟨.ref _,_,I.lnew (t':=s.toks) (r.append r2) (by rw[Ah];omega),rfl,q _ I.fresh⟩
def rRep:R2:=fun x y H Q=>∃l k xs,x= .ref l∧y= .int k∧H l=some (.lst xs)∧ -(2 ^ 63)≤k∧k<2 ^ 63∧xs.length * k.toNat≤sizeLine∧
 ∀p,H p=none→Q (.ref p) (upd H p (.lst (Db k.toNat xs).flatten))
theorem Ye1{α:Type}(xs:List α)(k:Nat):(Db k xs).flatten.length=k * xs.length:=by
 induction k with
 | zero=>simp
 | succ k ih=>rw[Hx,Kh,Ah,ih,Nat.succ_mul,Nat.add_comm]
theorem Ys5:OpR X (binaryOp .Mult) rRep:=by
 intro pins s σ H x y v u Q I rx ry h
 obtain⟨l,k,xs,rfl,rfl,hH,h1,h2,hz,q⟩:=h
 cases rx
 obtain⟨t,rfl⟩:=ry
 obtain⟨z,its,n,r,hl,e⟩:=I.lstM hH
 have hlen:its.toArray.size * k.toNat≤sizeLine:=by rw[Ai,←hl];exact hz
 have hcap:¬its.toArray.size * k.toNat >(2 ^ 63 - 1) / 8:=by
  have:(sizeLine:Nat)≤(2 ^ 63 - 1) / 8:=by decide
  omega
 have hfit:¬(!Builtin.List.listFitsIndex k)=true:=by
  rw[fitsIndex_both h1 h2]
  exact Bf9
 have hlong:¬Builtin.List.listTooLong (its.toArray.size * k.toNat)=true:=by
  rw[Zz9 hlen]
  exact Bf9
 have hnew:List.foldl (fun x1 x2=>x1++x2) #[] (Db (if its.toArray.isEmpty=true then 0 else k.toNat) its.toArray)=(Db k.toNat its).flatten.toArray:=by
  have f0:∀m:Nat,List.foldl (fun x1 x2=>x1++x2) #[] (Db m its.toArray)=(Db m its).flatten.toArray:=fun m=>by
   have:=Er its m []
   rw[Kg] at this
   exact this
  rw[f0]
  cases its with
  | nil=>simp
  | cons a r'=>rw[if_neg (by simp)]
 refine wpAny_binaryOp_repeat_ref (T:="list") (U:="int") (by decide) ⟨_,e,rfl⟩ (fun s'=>typeIs_int s' k t) noFill_list_mul F.fills_int_mul F.slot_int_rmul repeat_list F.slot_int_index.lookup
  (Ma F.slot_int_rmul (typeIs_int s k t) F.entry_int_rmul (F.args_int_rmul_2 _ _) (int___rmul___int_list k t l its.toArray n)
   ⟨e,rfl,⟨_,e,rfl⟩,Ma F.slot_list_mul ⟨_,e,rfl⟩ F.entry_list_mul (F.args_list_mul_2 _ _) (AutoListH.list___mul___list_int_3 l its.toArray n k t hfit hcap hlong) ⟨e,?_⟩⟩)
 rw[hnew]
 exact⟨.ref _,_,I.lnew (t':=s.toks) (r.rep k.toNat) (by rw[Ye1,Nat.mul_comm];exact hz),rfl,q _ I.fresh⟩
end
section
variable{prog:Program}{w:World}{A:Around}{E:Value→Shared→Prop}{s:Shared}
set_option maxRecDepth 100000 in
end
section
variable{κ:Type}[DecidableEq κ]
noncomputable def valV(kvs:List (κ×V))(k:κ):Option V:=(kvs.find? fun kv=>decide (kv.1=k)).map (·.2)
noncomputable def putK(kvs:List (κ×V))(k:κ)(v:V):List (κ×V):=
 if (kvs.any fun kv=>decide (kv.1=k))=true then kvs.map (fun kv=>if kv.1=k then(kv.1,v) else kv) else kvs++[(k,v)]
theorem Gj{p:κ×V}{r:List (κ×V)}{k:κ}(e:p.1=k):valV (p::r) k=some p.2:=by simp[valV,Hs,e]
theorem J8{p:κ×V}{r:List (κ×V)}{k:κ}(e:¬p.1=k):valV (p::r) k=valV r k:=by simp[valV,Hs,e]
theorem Z53(k:κ):∀kvs:List (κ×V),(kvs.any fun kv=>decide (kv.1=k))=(valV kvs k).isSome
 | []=>rfl
 | p::r=>by
  rw[Kk]
  by_cases e:p.1=k
  ·simp only[Gj e,decide_eq_true e,Bool.true_or,Option.isSome_some]
  ·rw[J8 e,decide_eq_false e,Bool.false_or];exact Z53 k r
theorem Wf(kvs:List (κ×V))(k:κ)(v:V):(putK kvs k v).length≤kvs.length+1:=by
 unfold putK
 split
 ·rw[Ad];omega
 ·rw[Ah,Au,Io];omega
theorem RelO.isSome_eq{o:Option V}{u:Option Value}(r:RelO o u):o.isSome=u.isSome:=by
 cases o with
 | none=>cases u with
  | none=>rfl
  | some _=>exact(show False from r).elim
 | some _=>cases u with
  | none=>exact(show False from r).elim
  | some _=>rfl
theorem RelO.getD{o:Option V}{u:Option Value}{d:V}{d':Value}(r:RelO o u)(rd:RelV d d'):RelV (o.getD d) (u.getD d'):=by
 cases o with
 | none=>cases u with
  | none=>exact rd
  | some _=>exact(show False from r).elim
 | some _=>cases u with
  | none=>exact(show False from r).elim
  | some _=>exact r
theorem KV.val{kvs:List (κ×V)}{vs:List (κ×Value)}(r:KV kvs vs)(k:κ):RelO (valV kvs k) (valueAt vs k):=by
 unfold KV at r
 induction r with
 | nil=>exact Kn
 | @cons p q ps qs h t ih=>
  obtain⟨h1,h2⟩:=h
  by_cases e:p.1=k
  ·have e':q.1=k:=h1.symm.trans e
   have b:valueAt (q::qs) k=some q.2:=by simp[valueAt,Hs,e']
   rw[Gj e,b];exact h2
  ·have e':¬q.1=k:=fun z=>e (h1.trans z)
   have b:valueAt (q::qs) k=valueAt qs k:=by simp[valueAt,Hs,e']
   rw[J8 e,b];exact ih
theorem KV.any{kvs:List (κ×V)}{vs:List (κ×Value)}(r:KV kvs vs)(k:κ):(kvs.any fun kv=>decide (kv.1=k))=vs.any fun kv=>decide (kv.1=k):=by
 unfold KV at r
 induction r with
 | nil=>rfl
 | cons h t ih=>rw[Kk,Kk,ih,h.1]
theorem KV.repl{kvs:List (κ×V)}{vs:List (κ×Value)}(r:KV kvs vs)(k:κ){y:V}{u:Value}(ry:RelV y u):
  KV (kvs.map fun kv=>if kv.1=k then(kv.1,y) else kv) (vs.map fun kv=>if kv.1=k then(kv.1,u) else kv):=by
 unfold KV at r ⊢
 induction r with
 | nil=>exact .nil
 | @cons p q ps qs h t ih=>
  rw[As,As]
  refine .cons ?_ ih
  obtain⟨h1,h2⟩:=h
  by_cases e:p.1=k
  ·rw[if_pos e,if_pos (h1.symm.trans e)];exact⟨h1,ry⟩
  ·rw[if_neg e,if_neg (fun z=>e (h1.trans z))];exact⟨h1,h2⟩
theorem KV.put{kvs:List (κ×V)}{vs:List (κ×Value)}(r:KV kvs vs)(k:κ){y:V}{u:Value}(ry:RelV y u):KV (putK kvs k y) (stored vs k u):=by
 unfold putK stored
 rw[r.any k]
 by_cases e:(vs.any fun kv=>decide (kv.1=k))=true
 ·rw[if_pos e,if_pos e];exact r.repl k ry
 ·rw[if_neg e,if_neg e];exact Paired.snoc r ⟨rfl,ry⟩
theorem KV.length{kvs:List (κ×V)}{vs:List (κ×Value)}(r:KV kvs vs):kvs.length=vs.length:=Paired.length r
end
theorem Nz{P:Program}{w:World}{k:Key}{u:Value}(r:RelV (kV k) u):(Zj P w).is k u=true:=by
 cases k with
 | inl i=>obtain⟨t,e⟩:=(show ∃t,u=Value.int i t from r);subst e;exact Cs P w i t
 | inr x=>obtain⟨t,e⟩:=(show ∃t,u=Value.str x t from r);subst e;exact Bx P w x t
theorem Ez{P:Program}{w:World}:∀{ks:List Key} {us:List Value},Vals (ks.map kV) us→ItemsAre (Zj P w) ks us
 | [],_,r=>by rw[Hb] at r;cases r;exact .nil
 | k::ks,_,r=>by
  rw[As] at r
  cases r with
  | cons h t=>exact .cons (Nz h) (Ez t)
abbrev KT(H:Hp):List (List Key×V)→List (List Key×Addr×Value)→Prop:=Paired fun p q=>p.1=q.1∧H q.2.1=some (.tup (p.1.map kV))∧RelV p.2 q.2.2
theorem KT.val{H:Hp}{kvs:List (List Key×V)}{xs:List (List Key×Addr×Value)}(r:KT H kvs xs)(k:List Key):RelO (valV kvs k) ((atKey xs k).map (·.2)):=by
 induction r with
 | nil=>exact Kn
 | @cons p q ps qs h t ih=>
  obtain⟨h1,_,h2⟩:=h
  by_cases e:p.1=k
  ·have e':q.1=k:=h1.symm.trans e
   have b:atKey (q::qs) k=some q.2:=by simp[atKey,Hs,e']
   rw[Gj e,b];exact h2
  ·have e':¬q.1=k:=fun z=>e (h1.trans z)
   have b:atKey (q::qs) k=atKey qs k:=by simp[atKey,Hs,e']
   rw[J8 e,b];exact ih
theorem KT.repl{H:Hp}{kvs:List (List Key×V)}{xs:List (List Key×Addr×Value)}(r:KT H kvs xs)(k:List Key){y:V}{u:Value}(ry:RelV y u):
  KT H (kvs.map fun kv=>if kv.1=k then(kv.1,y) else kv) (xs.map (putAt k u)):=by
 induction r with
 | nil=>exact .nil
 | @cons p q ps qs h t ih=>
  rw[As,As]
  refine .cons ?_ ih
  obtain⟨h1,h2,h3⟩:=h
  unfold putAt
  by_cases e:p.1=k
  ·rw[if_pos e,if_pos (h1.symm.trans e)];exact⟨h1,h2,ry⟩
  ·rw[if_neg e,if_neg (fun z=>e (h1.trans z))];exact⟨h1,h2,h3⟩
theorem KT.put{H:Hp}{kvs:List (List Key×V)}{xs:List (List Key×Addr×Value)}(r:KT H kvs xs)(k:List Key){b:Addr}{y:V}{u:Value}(hb:H b=some (.tup (k.map kV)))(ry:RelV y u):
  KT H (putK kvs k y) (storedH xs k b u):=by
 have e:(kvs.any fun kv=>decide (kv.1=k))=(atKey xs k).isSome:=by
  rw[Z53,(r.val k).isSome_eq,Option.isSome_map]
 unfold putK storedH
 rw[e]
 by_cases q:(atKey xs k).isSome=true
 ·rw[if_pos q,if_pos q];exact r.repl k ry
 ·rw[if_neg q,if_neg q];exact Paired.snoc r ⟨rfl,hb,ry⟩
theorem KT.keeps{H H':Hp}{kvs:List (List Key×V)}{xs:List (List Key×Addr×Value)}(r:KT H kvs xs)(ht:∀b ys,H b=some (.tup ys)→H' b=some (.tup ys)):KT H' kvs xs:=
 Paired.mapP r fun _ _ z=>⟨z.1,ht _ _ z.2.1,z.2.2⟩
section
variable{P:Program}{w:World}{H:Hp}{h:Heap}{a:Addr}
theorem Yr1{u:HO}(ok:HOk P w H h)(e:Rd H a u):Yo P w H h a u:=e.ok ok
theorem Fq{kvs:List (Key×V)}(ok:HOk P w H h)(e:Rd H a (.dK kvs)):kvs.length≤sizeLine∧(a==sysModules)=false∧∃vs,KV kvs vs∧h.DictOf (Zj P w) a vs:=
 show Yo P w H h a (.dK kvs) from Yr1 ok e
theorem Yq8{kvs:List (Key×V)}(ok:HOk P w H h)(e:H a=some (.dK kvs)):kvs.length≤sizeLine∧(a==sysModules)=false∧∃vs,KV kvs vs∧h.DictOf (Zj P w) a vs:=Fq ok (.inl e)
theorem Pu{ks:List Key}(ok:HOk P w H h)(e:H a=some (.tup (ks.map kV))):(tupleKind (Zj P w)).is h ks a:=by
 obtain⟨_,its,r,o,h1,h2,n,h3⟩:=(show Yo P w H h a (.tup (ks.map kV)) from ok a _ e)
 exact⟨o,its.toArray,n,h1,h2,h3,by simpa using Ez r⟩
theorem Zb2{kvs:List (List Key×V)}(ok:HOk P w H h)(e:Rd H a (.dT kvs)):kvs.length≤sizeLine∧(a==sysModules)=false∧
  ∃xs,KT H kvs xs∧h.DictOfH (tupleKind (Zj P w)) a xs:=by
 obtain⟨z,y,xs,r,o,es,ep,h1,h2,h3,h4,h5⟩:=(show Yo P w H h a (.dT kvs) from Yr1 ok e)
 refine⟨z,y,xs,r,o,es,ep,h1,h2,h3,h4,fun x hx=>?_,h5⟩
 have all:∀{l:List (List Key×V)} {m:List (List Key×Addr×Value)},KT H l m→∀x∈m,(tupleKind (Zj P w)).is h x.1 x.2.1:=by
  intro l m q
  induction q with
  | nil=>intro x hx;exact nomatch hx
  | @cons p q ps qs hq t ih=>
   intro x hx
   rcases Ao.mp hx with e | hx
   ·subst e
    exact Pu ok (by rw[←hq.1];exact hq.2.1)
   ·exact ih x hx
 exact all r x hx
theorem Yw5{kvs:List (List Key×V)}(ok:HOk P w H h)(e:H a=some (.dT kvs)):kvs.length≤sizeLine∧(a==sysModules)=false∧
  ∃xs,KT H kvs xs∧h.DictOfH (tupleKind (Zj P w)) a xs:=Zb2 ok (.inl e)
end
def DGet(H:Hp)(a:Addr)(y:V)(r:Option V):Prop:=
 (∃kvs k,Rd H a (.dK kvs)∧y=kV k∧r=valV kvs k)∨∃kvs k b,Rd H a (.dT kvs)∧y= .ref b∧H b=some (.tup (k.map kV))∧r=valV kvs k
def DPut(H:Hp)(a:Addr)(y v:V)(H':Hp):Prop:=
 (∃kvs k,H a=some (.dK kvs)∧y=kV k∧kvs.length<sizeLine∧H'=upd H a (.dK (putK kvs k v)))∨
 ∃kvs k b,H a=some (.dT kvs)∧y= .ref b∧H b=some (.tup (k.map kV))∧kvs.length<sizeLine∧H'=upd H a (.dT (putK kvs k v))
theorem DGet.k{H:Hp}{a:Addr}{kvs:List (Key×V)}{k:Key}(e:H a=some (.dK kvs)):DGet H a (kV k) (valV kvs k):= .inl ⟨kvs,k,.inl e,rfl,rfl⟩
theorem DPut.k{H:Hp}{a:Addr}{kvs:List (Key×V)}{k:Key}{v:V}(e:H a=some (.dK kvs))(hl:kvs.length<sizeLine):DPut H a (kV k) v (upd H a (.dK (putK kvs k v))):= .inl ⟨kvs,k,e,rfl,hl,rfl⟩
section
variable{X:Cx}{pins:List (Addr×Obj)}{σ:St}{H:Hp}{s:Shared}{a:Addr}{y v:V}{u r:Value}{o:Option V}{A:Around}{E:Value→Shared→Prop}
theorem Inv.big(I:Inv X pins σ H s):sysModules<s.heap.objs.size:=by
 have h:mainGlobals<s.heap.objs.size:=(I.mod.glob.keeps I.bk).lt
 exact Nat.lt_trans (by decide) h
theorem Zl4{Q:Value→Shared→Prop}(hu:A.units+1<cLine)(I:Inv X pins σ H s)(g:DGet H a y (some v))(ry:RelV y u)(h:∀w' s',Inv X pins σ H s'→RelV v w'→Q w' s'):
  wpAny (model X.prog X.w) A (getItem (.ref a) u) Q E s:=by
 rcases g with⟨kvs,k,e,ey,l⟩ | ⟨kvs,k,b,e,ey,eb,l⟩
 ·subst ey
  obtain⟨z,hd,vs,rel,dd⟩:=Fq I.hok e
  obtain⟨w',hw,rw'⟩:=RelO.some_of (v:=v) (o:=valueAt vs k) (by rw[l];exact rel.val k)
  exact wpAny_getItem_of (Nz ry) dd.mapOf hw (h w' _ (I.tok _) rw')
 ·subst ey
  cases (show u=Ax b from ry)
  obtain⟨z,hd,xs,rel,dd⟩:=Zb2 I.hok e
  obtain⟨w',hw,rw'⟩:=RelO.some_of (v:=v) (o:=(atKey xs k).map (·.2)) (by rw[l];exact rel.val k)
  obtain⟨p,hp,hp2⟩:=Di.mp hw
  refine wpAny_getItem_heap (Lr hu) (Pu I.hok eb) dd hp ?_
  rw[hp2]
  exact h w' _ (I.tok _) rw'
theorem d_in{Q:Value→Shared→Prop}(hu:A.units+1<cLine)(I:Inv X pins σ H s)(g:DGet H a y o)(ry:RelV y u)(h:∀s',Inv X pins σ H s'→Q (.bool o.isSome) s'):
  wpAny (model X.prog X.w) A (compareOp .In u (.ref a)) Q E s:=by
 rcases g with⟨kvs,k,e,ey,l⟩ | ⟨kvs,k,b,e,ey,eb,l⟩
 ·subst ey
  obtain⟨z,hd,vs,rel,dd⟩:=Fq I.hok e
  refine wpAny_in_of (Nz ry) hd dd.mapOf ?_
  rw[←(rel.val k).isSome_eq,←l]
  exact h _ (I.tok _)
 ·subst ey
  cases (show u=Ax b from ry)
  obtain⟨z,hd,xs,rel,dd⟩:=Zb2 I.hok e
  refine wpAny_in_heap (Lr hu) (Pu I.hok eb) hd dd ?_
  have q:=(rel.val k).isSome_eq
  rw[Option.isSome_map] at q
  rw[←q,←l]
  exact h _ (I.tok _)
theorem Y74{Q:Value→Shared→Prop}(hu:A.units+1<cLine)(I:Inv X pins σ H s)(g:DGet H a y o)(ry:RelV y u)(h:∀s',Inv X pins σ H s'→Q (.bool (!o.isSome)) s'):
  wpAny (model X.prog X.w) A (compareOp .NotIn u (.ref a)) Q E s:=by
 rcases g with⟨kvs,k,e,ey,l⟩ | ⟨kvs,k,b,e,ey,eb,l⟩
 ·subst ey
  obtain⟨z,hd,vs,rel,dd⟩:=Fq I.hok e
  refine wpAny_notIn_of (Nz ry) hd dd.mapOf ?_
  rw[←(rel.val k).isSome_eq,←l]
  exact h _ (I.tok _)
 ·subst ey
  cases (show u=Ax b from ry)
  obtain⟨z,hd,xs,rel,dd⟩:=Zb2 I.hok e
  refine wpAny_notIn_heap (Lr hu) (Pu I.hok eb) hd dd ?_
  have q:=(rel.val k).isSome_eq
  rw[Option.isSome_map] at q
  rw[←q,←l]
  exact h _ (I.tok _)
theorem Co{h':Heap}{t':Nat}{ob:HO}(I:Inv X pins σ H s)(mu:Mut (H a))(hs:Ik a s.heap h')(he:∃q,h'.get? a=some q)(new:Yo X.prog X.w (upd H a ob) h' a ob):
  Inv X pins σ (upd H a ob) {s with heap:=h',toks:=t'}:=
 I.write (x:=a) (e:=a) mu (.inl rfl) (fun b q hb z=>(hs.2 b hb).trans z) he new
theorem Z22{P:Program}{w:World}{H':Hp}{h':Heap}{kvs:List (Key×V)}{vs:List (Key×Value)}(z:kvs.length≤sizeLine)(hd:(a==sysModules)=false)(rel:KV kvs vs)(dd:h'.DictOf (Zj P w) a vs):
  Yo P w H' h' a (.dK kvs):=⟨z,hd,vs,rel,dd⟩
theorem Zn5{H':Hp}{Q:Unit→Shared→Prop}(hu:A.units+1<cLine)(I:Inv X pins σ H s)(g:DPut H a y v H')(ry:RelV y u)(rv:RelV v r)(h:∀s',Inv X pins σ H' s'→Q () s'):
  wpAny (model X.prog X.w) A (setItem (.ref a) u r) Q E s:=by
 rcases g with⟨kvs,k,e,ey,l,eH⟩ | ⟨kvs,k,b,e,ey,eb,l,eH⟩
 ·subst ey eH
  obtain⟨z,hd,vs,rel,dd⟩:=Yq8 I.hok e
  have hz:vs.length≤sizeLine:=by rw[←rel.length];exact z
  have hl:(putK kvs k v).length≤sizeLine:=by have:=Wf kvs k v;omega
  refine wpAny_setItem_pairs (hsz:=hz) (Nz ry) dd fun h' dd' hs=>h _ ?_
  have he:∃q,h'.get? a=some q:=by obtain⟨q,_,_,hq,_⟩:=dd';exact⟨q,hq⟩
  exact Co I (by rw[e];exact Kn) hs he (Z22 hl hd (rel.put k rv) dd')
 ·subst ey eH
  cases (show u=Ax b from ry)
  obtain⟨z,hd,xs,rel,dd⟩:=Yw5 I.hok e
  have hz:xs.length≤sizeLine:=by rw[←Paired.length rel];exact z
  have hl:(putK kvs k v).length≤sizeLine:=by have:=Wf kvs k v;omega
  refine wpAny_setItem_heap (hsz:=hz) (Lr hu) (Pu I.hok eb) dd fun h' dd' hs=>h _ ?_
  obtain⟨q,es,ep,hq,h2,h3,h4,_,h5⟩:=dd'
  refine Co I (by rw[e];exact Kn) hs ⟨q,hq⟩ ⟨hl,hd,_,(rel.put k eb rv).keeps fun c ys ec=>?_,q,es,ep,hq,h2,h3,h4,h5⟩
  rw[Y5 (Yv5 ec e (fun z=>nomatch z))]
  exact ec
end
section
variable{X:Cx}{pins:List (Addr×Obj)}{σ:St}{H:Hp}{s:Shared}{a:Addr}{kvs:List (Key×V)}{k:Key}{u:Value}{A:Around}{E:Value→Shared→Prop}
theorem Yu8{Q:Value→Shared→Prop}(I:Inv X pins σ H s)(e:Rd H a (.dK kvs))(h:∀t s',Inv X pins σ H s'→Q (.int kvs.length t) s'):wpAny (model X.prog X.w) A (call (.builtin "len") [.ref a]) Q E s:=by
 obtain⟨z,hd,vs,rel,dd⟩:=Fq I.hok e
 refine call_len_dict hd dd (by rw[←rel.length];rw[Ib] at z;omega) ?_
 rw[←rel.length]
 exact h _ _ (I.tok _)
end
theorem Bt{X:Cx}{pins:List (Addr×Obj)}{σ:St}{H:Hp}{s:Shared}{a:Addr}{y:V}{o:Option V}(I:Inv X pins σ H s)(g:DGet H a y o):s.TypeIs (.ref a) "dict":=by
 rcases g with⟨kvs,k,e,_,_⟩ | ⟨kvs,k,b,e,_,_,_⟩
 ·obtain⟨_,_,vs,_,dd⟩:=Fq I.hok e
  exact dd.typeIs
 ·obtain⟨_,_,xs,_,dd⟩:=Zb2 I.hok e
  exact dd.typeIs
theorem Z33{P:Program}{w:World}{H:Hp}(h:Heap)(hb:sysModules<h.objs.size):Yo P w H (h.push {cls:= .type "dict",data:= .dict #[]}) h.objs.size (.dK []):=
 ⟨Nat.zero_le _,beq_eq_false_iff_ne.mpr (Hw (Nat.ne_of_lt hb)),[],.nil,Heap.DictOf.new h⟩
def Yn2:TE:=fun _ H Q=>∀p,H p=none→Q (.ref p) (upd H p (.dK []))
section
variable{X:Cx}{pos:Pos}
theorem Zt9:PE X (.Dict [] [] pos) Yn2:=fun pins s σ H Q I h=>
 wpAny_Dict_empty ⟨.ref s.heap.objs.size,_,I.laid (a:=s.heap.objs.size) (o:= .dK []) (t':=s.toks) (fun _ _ q=>Ag _ q) (Nat.le_refl _) (Z33 s.heap I.big),rfl,h _ (I.hok.fresh (Nat.le_refl _))⟩
end
def Zf9:List (TE×TE)→St→Hp→(List (V×V)→Hp→Prop)→Prop
 | [],_,H,Q=>Q [] H
 |(tk,tv)::r,σ,H,Q=>tk σ H fun x H1=>tv σ H1 fun y H2=>Zf9 r σ H2 fun ps H3=>Q ((x,y)::ps) H3
abbrev VV:List (V×V)→List (Value×Value)→Prop:=Paired fun p q=>RelV p.1 q.1∧RelV p.2 q.2
def PPs(X:Cx)(pos:Pos)(keys:List (Option Expr))(values:List Expr)(trs:List (TE×TE)):Prop:=
 ∀(pins:List (Addr×Obj)) (s:Shared) (σ:St) (H:Hp) (Q:List (V×V)→Hp→Prop),Inv X pins σ H s→Zf9 trs σ H Q→
  wpAny (model X.prog X.w) X.A (evalPairs (pairTrees keys values X.env pos)) (fun vs s'=>∃ps H',Inv X pins σ H' s'∧VV ps vs∧Q ps H') X.xe s
theorem Yb1{X:Cx}{pos:Pos}:PPs X pos [] [] []:=fun pins s σ H Q I h=>pairTrees_nil_walk ⟨[],H,I,.nil,h⟩
theorem Zt7{X:Cx}{pos:Pos}{k v:Expr}{ks:List (Option Expr)}{vs:List Expr}{tk tv:TE}{trs:List (TE×TE)}(hk:PE X k tk)(hv:PE X v tv)(hr:PPs X pos ks vs trs):
  PPs X pos (some k::ks) (v::vs) ((tk,tv)::trs):=fun pins s σ H Q I h=>
 pairTrees_cons_walk (thn (hk pins s σ H _ I h) fun u s1 ⟨x,H1,I1,rx,q1⟩=>thn (hv pins s1 σ H1 _ I1 q1) fun w2 s2 ⟨y,H2,I2,ry,q2⟩=>
  thn (hr pins s2 σ H2 _ I2 q2) fun ws s3 zz39=>by obtain⟨ps,H3,I3,rel,q3⟩:=zz39;exact⟨(x,y)::ps,H3,I3,.cons ⟨rx,ry⟩ rel,q3⟩)
noncomputable def Nu(kvs more:List (Key×V)):List (Key×V):=more.foldl (fun acc kv=>putK acc kv.1 kv.2) kvs
theorem KV.merge:∀{more:List (Key×V)} {rs:List (Key×Value)} {kvs:List (Key×V)} {vs:List (Key×Value)},KV more rs→KV kvs vs→KV (Nu kvs more) (merged vs rs):=by
 intro more rs kvs vs r
 unfold KV at r
 induction r generalizing kvs vs with
 | nil=>intro q;exact q
 | @cons p q ps qs h t ih=>
  intro r0
  have e:KV (putK kvs p.1 p.2) (stored vs q.1 q.2):=by
   have:=r0.put p.1 h.2
   rw[←h.1];exact this
  exact ih e
theorem S9:∀(more kvs:List (Key×V)),(Nu kvs more).length≤kvs.length+more.length
 | [],kvs=>by show kvs.length≤kvs.length+0;omega
 | p::r,kvs=>by
  have h1:=S9 r (putK kvs p.1 p.2)
  have h2:=Wf kvs p.1 p.2
  show(Nu (putK kvs p.1 p.2) r).length≤_
  rw[Au];omega
theorem Nk{P:Program}{w:World}:∀{kvs:List (Key×V)} {ws:List (Value×Value)},VV (kvs.map fun kv=>(kV kv.1,kv.2)) ws→∃rs,Carries (Zj P w) ws rs∧KV kvs rs
 | [],_,r=>by rw[Hb] at r;cases r;exact⟨[],Kn,.nil⟩
 | p::kvs,_,r=>by
  rw[As] at r
  cases r with
  | @cons a b as bs h t=>
   obtain⟨rs,c,q⟩:=Nk (P:=P) (w:=w) t
   obtain⟨b1,b2⟩:=b
   exact⟨(p.1,b2)::rs,⟨Nz h.1,rfl,c⟩,.cons ⟨rfl,h.2⟩ q⟩
def Yv8(trs:List (TE×TE)):TE:=fun σ H Q=>∀p,H p=none→Zf9 trs σ (upd H p (.dK [])) fun ps H2=>H2 p=some (.dK [])∧∃kvs:List (Key×V),ps=kvs.map (fun kv=>(kV kv.1,kv.2))∧kvs.length≤15∧Q (.ref p) (upd H2 p (.dK (Nu [] kvs)))
theorem Y75{X:Cx}{pos:Pos}{keys:List (Option Expr)}{values:List Expr}{trs:List (TE×TE)}(h:PPs X pos keys values trs)(hall:keys.all (·.isSome)=true)(hl:keys.length=values.length)(h0:keys≠[])
  (h15:keys.length≤15):PE X (.Dict keys values pos) (Yv8 trs):=by
 intro pins s σ H Q I q
 have hn:=I.hok.fresh (Nat.le_refl s.heap.objs.size)
 have I1:=I.laid (a:=s.heap.objs.size) (o:= .dK []) (h':=s.heap.push {cls:= .type "dict",data:= .dict #[]}) (t':=s.toks) (fun _ _ q=>Ag _ q) (Nat.le_refl _) (Z33 s.heap I.big)
 refine wpAny_Dict_walk (knd:=Zj X.prog X.w) hall hl h0 h15 (thn (h pins _ σ _ _ I1 (q _ hn)) fun ws s2 zz40=>?_)
 obtain⟨ps,H2,I2,rel,e,kvs,ep,lk,q2⟩:=zz40
 subst ep
 obtain⟨rs,c,rk⟩:=Nk (P:=X.prog) (w:=X.w) rel
 obtain⟨z,hd,vs0,r0,dd⟩:=Yq8 I2.hok e
 cases r0
 refine⟨rs,c,dd,fun h' dd' hs=>⟨.ref s.heap.objs.size,_,?_,rfl,q2⟩⟩
 have hz:(Nu [] kvs).length≤sizeLine:=by
  have h1:=S9 kvs []
  rw[Io] at h1
  rw[Ib];omega
 have he:∃q,h'.get? s.heap.objs.size=some q:=by obtain⟨q,_,_,hq,_⟩:=dd';exact⟨q,hq⟩
 exact Co I2 (by rw[e];exact Kn) hs he (Z22 hz hd (rk.merge .nil) dd')
structure M1(X:Cx)(o:Expr)(m:Str)(apos:Pos)(e:Expr)(cpos:Pos):Prop where
 base:attributeBase o m X.env (eval o X.env)=eval o X.env
 few:((backTo cpos (starEach [e] X.env)).all (fun x=> !x.1)&&(backToKw cpos (keywordEach [] X.env)).all (fun x=>x.1.isSome)
  &&decide (([e]:List Expr).length+([]:List Keyword).length+(if ([]:List Keyword).isEmpty then 0 else 1)<30))=true
 line:(apos.endLine==cpos.line)=true
 trees:backTo cpos (starEach [e] X.env)=[(false,eval e X.env)]
structure M2(X:Cx)(o:Expr)(m:Str)(apos:Pos)(e f:Expr)(cpos:Pos):Prop where
 base:attributeBase o m X.env (eval o X.env)=eval o X.env
 few:((backTo cpos (starEach [e,f] X.env)).all (fun x=> !x.1)&&(backToKw cpos (keywordEach [] X.env)).all (fun x=>x.1.isSome)
  &&decide (([e,f]:List Expr).length+([]:List Keyword).length+(if ([]:List Keyword).isEmpty then 0 else 1)<30))=true
 line:(apos.endLine==cpos.line)=true
 trees:backTo cpos (starEach [e,f] X.env)=[(false,eval e X.env),(false,eval f X.env)]
section
variable{X:Cx}{pins:List (Addr×Obj)}{σ:St}{H:Hp}{s:Shared}{a:Addr}{y d:V}{u r:Value}{o:Option V}{A:Around}{E:Value→Shared→Prop}
theorem Yp6{Q:Value→Shared→Prop}(hu:A.units+1<cLine)(I:Inv X pins σ H s)(g:DGet H a y o)(ry:RelV y u)(rd:RelV d r)(h:∀w' s',Inv X pins σ H s'→RelV (o.getD d) w'→Q w' s'):
  wpAny (model X.prog X.w) A (call (.builtin "dict.get") [.ref a,u,r]) Q E s:=by
 rcases g with⟨kvs,k,e,ey,l⟩ | ⟨kvs,k,b,e,ey,eb,l⟩
 ·subst ey
  obtain⟨z,hd,vs,rel,dd⟩:=Fq I.hok e
  refine call_meetsIn PySem.F.slot_dict_get dd.typeIs PySem.F.entry_dict_get (PySem.F.args_dict_get_3 _ _ _) (meets_dict_get_default (Zj X.prog X.w) a (Nz ry) hd r) ⟨_,dd.mapOf,h _ _ (I.tok _) ?_⟩
  rw[l]
  exact(rel.val k).getD rd
 ·subst ey
  cases (show u=Ax b from ry)
  obtain⟨z,hd,xs,rel,dd⟩:=Zb2 I.hok e
  refine call_meetsIn PySem.F.slot_dict_get dd.typeIs PySem.F.entry_dict_get (PySem.F.args_dict_get_3 _ _ _) (meetsH_dict_get_default (tupleKind (Zj X.prog X.w)) a b hd r) ⟨Lr hu,k,xs,Pu I.hok eb,dd,h _ _ (I.tok _) ?_⟩
  rw[l]
  exact(rel.val k).getD rd
end
section
variable{X:Cx}{pins:List (Addr×Obj)}{σ:St}{H:Hp}{s:Shared}{a:Addr}{kvs:List (Key×V)}{A:Around}{E:Value→Shared→Prop}
theorem Zx9{Q:Value→Shared→Prop}(I:Inv X pins σ H s)(e:Rd H a (.dK kvs))(h:∀p s',H p=none→Inv X pins σ (upd H p (.dK kvs)) s'→Q (.ref p) s'):wpAny (model X.prog X.w) A (call (.type "dict") [.ref a]) Q E s:=by
 obtain⟨z,hd,vs,rel,dd⟩:=Fq I.hok e
 refine kt_call_dict hd dd (by rw[←rel.length];exact z) fun h' dd' hs=>?_
 refine h _ _ (I.hok.fresh (Nat.le_refl _)) (I.laid (a:=s.heap.objs.size) (o:= .dK kvs) (t':=s.toks) (fun b q hq=>?_) (Nat.le_refl _) (Z22 z (beq_eq_false_iff_ne.mpr (Hw (Nat.ne_of_lt I.big))) rel dd'))
 exact(hs.2 b (Nat.ne_of_lt (An hq))).trans (Ag _ hq)
end
end L2
namespace Att
open PySem PySem.W PySem.Calls PyProof.Rows
theorem Ob{P:Params}{h:Heap}:∀(ns:List Int) (vs:List Value),WellAll P h vs (ns.map WData.int)→IntsAre vs ns:=by
 intro ns
 induction ns with
 | nil=>
  intro vs w
  rw[Hb] at w
  cases w
  exact .nil
 | cons n ns ih=>
  intro vs w
  rw[As] at w
  cases w with
  | cons a b=>
   cases a
   exact .cons _ _ (ih _ b)
theorem script_of{l:OpenLaw}{n:Nat}(hn:l.most=some n){P:Params}{h:Heap}{args:List WData}{vals:List Value}
  (hpre:l.row.toRowW.claim.pre args=true) (hwl:WellAll P h vals args):
  ∃a vs ns,vals=[Ax a]∧args=[WData.list (ns.map WData.int)]∧h.get? a=some {cls:= .type "list",data:= .seq vs.toArray}∧IntsAre vs ns∧ns.length≤n:=by
 have hsh:WShape.hasAll [] args [.list .int]=true:=(pre_splitW hpre).1
 have hc:l.pre.holds [] {args:=args}=true:=(pre_splitW hpre).2
 obtain⟨d,r,rfl,h1,h2⟩:=hasAllW_cons hsh
 obtain rfl:=hasAllW_nil h2
 obtain⟨xs,rfl,h3⟩:=hasW_list h1
 obtain⟨ns,rfl⟩:=items_int h3
 have hlen:ns.length≤n:=by
  unfold OpenLaw.pre at hc
  have h4:(WTm.not (.lt (.lit (.int (n:Int))) (.len (.arg 0)))).holds [] {args:=[.list (ns.map .int)]}=true:=by
   have h4:=(holds_andW hc).1
   rw[hn] at h4
   exact h4
  have h5:=condW_of h4 (w_not (w_lt w_lit (w_len_list (w_arg rfl))))
  rw[Ad] at h5
  refine Nat.le_of_not_lt fun q=>?_
  have q':(n:Int)< ((ns.length:Nat):Int):=by omega
  first
   |(rw[decide_eq_true q'] at h5;exact absurd h5 (by decide))
   |(simp at h5;omega)
 cases hwl with
 | cons w1 w2=>
  cases w2
  cases w1 with
  | list ho hall=>exact⟨_,_,ns,rfl,rfl,ho,Ob ns _ hall,hlen⟩
theorem post_true(l:OpenLaw)(args:List WData):l.row.toRowW.claim.post args (.bool true) args=true:=
 postW_of (r:=l.row.toRowW) (X:=(true==true))
  (show WShape.has [] (.bool true) .bool=true by first | rfl | decide | simp[WShape.has,WShape.arms,WShape.armsAll])
  (show(WTm.eq .res (.lit (.bool true))).value [] {args:=args,res:=some (.bool true),after:=args}=some (.bool (true==true)) from w_eq_bool (w_res rfl) w_lit) rfl
end Att
namespace L2
open PySem PySem.Spec PyProof.Rows
theorem Vd:∀{vs:List Value} {ns:List Int},IntsAre vs ns→Vals (ns.map V.int) vs
 | _,_,.nil=> .nil
 | _,_,.cons n t h=> .cons ⟨t,rfl⟩ (Vd h)
def Only(H:Hp):Prop:=∀b,H b=none∨∃o xs,H b=some (.frz o (.lst xs))
theorem Y17{P:Program}{w:World}{K:Af}{mg mb:Str→Option Value}{CX:CXT}{k:Nat}{fa a:Addr}{fd:FuncData}{x:Str}{sp:Sp}{s₁:Shared}{vs:List Value}{ns:List Int}
  (KX:K.In s₁.heap) (hns:s₁.heap.Ns mainGlobals mg) (hb:s₁.heap.Ns builtinsNs mb) (hbb:∀x:Str,x≠"__name__"→mb x=bootBuiltins x) (hlim:s₁.heap.NoLimit) (hg:s₁.gens=#[])
  (ha:s₁.heap.get? a=some {cls:= .type "list",data:= .seq vs.toArray}) (hi:IntsAre vs ns) (hl:ns.length≤sizeLine) (hr:Room k callerA)
  (F:∀base:Heap,K.In base→base.Ns mainGlobals mg→FnOk P w K mg base CX k fa fd [x] sp) (hbind:∀(s:Shared) (u:Value),BindsTo s fd ⟨[u],[]⟩ [(x,u)])
  (hsp:∀H:Hp,Only H→SqL K H a (ns.map V.int)→sp [.ref a] H (fun v _=>v= .bl true) fun _ _ _=>False)
  (hCX:∀H e s',CX [] H s₁ (fun _ _ _=>False) e s'→False):
  codeAny (model P w) callerA (.call (.ref fa) ⟨[.ref a],[]⟩) (fun r s'=>r= .ok (.ret (.bool true))∧OldK s₁.heap s'.heap∧s'.os=s₁.os∧AllBare s'.gens) s₁:=by
 have rv:=Vd hi
 have lenV:=hi.length
 have core:∀H:Hp,Only H→SqL K H a (ns.map V.int)→HOk P w H s₁.heap→(∀b,H b≠none→b=a)→(H a≠none→K.lookup a=none)→
   codeAny (model P w) callerA (.call (.ref fa) ⟨[.ref a],[]⟩) (fun r s'=>r= .ok (.ret (.bool true))∧OldK s₁.heap s'.heap∧s'.os=s₁.os∧AllBare s'.gens) s₁:=by
  intro H hO hS hok hA hK
  have base_of:∀{b:Addr} {o:Obj},s₁.heap.get? b=some o→H b=none→(hidT s₁.heap H).get? b=some o:=fun e n=>Y38 e n
  have noA:∀{b:Addr} {o:Obj} {es:Array DictEntry} {ep:Nat},s₁.heap.get? b=some o→o.data= .dict es ep→H b=none:=fun{b o es ep} e d=>by
   cases q:H b with
   | none=>rfl
   | some u=>
    have e':b=a:=hA b (by rw[q];simp)
    subst e'
    rw[ha] at e;cases e
    have d':Data.seq vs.toArray _=Data.dict es ep:=d
    cases d'
  have nsK:∀{b:Addr} {m:Str→Option Value},s₁.heap.Ns b m→(hidT s₁.heap H).Ns b m:=fun{b m} zz41=>by obtain⟨o,es,ep,e,d,r⟩:=zz41;exact⟨o,es,ep,base_of e (noA e d),d,r⟩
  have hKb:K.In (hidT s₁.heap H):=fun b o e=>base_of (KX b o e) (by
   cases q:H b with
   | none=>rfl
   | some u=>
    have e':b=a:=hA b (by rw[q];simp)
    subst e'
    rw[hK (by rw[q];simp)] at e;cases e)
  have hM:Mod K mg (hidT s₁.heap H):=⟨hKb,nsK hns,⟨mb,nsK hb,hbb⟩,let ⟨mc,h1,h2⟩:=hlim;⟨mc,nsK h1,h2⟩⟩
  have e0:Env0 P w K mg (hidT s₁.heap H) callerA [] s₁ H:=⟨rfl,hM,fun b o e=>Yi5 e,Nat.le_of_eq (Zn1 _ _),trivial,fun b hb=>absurd (show b∈([]:List Addr) from hb) (by simp),hok,.of_eq hg⟩
  refine Kf ((F _ hKb (nsK hns)).run callerA [] s₁ H ⟨[.ref a],[]⟩ [.ref a] [.ref a] _ _ hr e0 (hbind s₁ (.ref a)) (.cons rfl .nil) (hsp H hO hS)) fun r s' h=>?_
  cases r with
  | error e=>exact(hCX H e s' h).elim
  | ok fl=>
   cases fl with
   | next=>exact Dp h
   | brk=>exact Dp h
   | cont=>exact Dp h
   | ret u=>
    obtain⟨v,H',os,bare,un,hok',r',q⟩:=h
    have q':v= .bl true:=q
    subst q'
    obtain rfl:u=Value.bool true:=r'
    refine⟨rfl,OldK.of_keep fun b o e=>?_,os,bare⟩
    cases q:H b with
    | none=>exact un.keep b o e q (by intro z;exact absurd (show b∈([]:List Addr) from z) (by simp)) (by simp)
    | some u=>
     rcases hO b with z | ⟨ob,xs,z⟩
     ·rw[q] at z;cases z
     ·have z2:=un.frzs b ob _ z
      obtain⟨e1,_⟩:=hok b _ z
      obtain⟨e2,_⟩:=hok' b _ z2
      rw[e] at e1;cases e1
      exact e2
 cases hk:K.lookup a with
 | some o=>
  have e:=KX a o hk
  rw[ha] at e
  cases e
  refine core (fun _=>none) (fun _=> .inl rfl) (.inr ⟨_,vs.toArray,_,hk,rfl,rfl,rfl,by rw[Ai,lenV];exact hl,by simpa using rv⟩) (fun b u z=>by have z':(none:Option HO)=some u:=z;cases z') (fun b z=>absurd rfl z) fun z=>absurd rfl z
 | none=>
  refine core (fun b=>if b=a then some (.frz {cls:= .type "list",data:= .seq vs.toArray} (.lst (ns.map V.int))) else none) (fun b=>?_) (.inl (.inr ⟨{cls:= .type "list",data:= .seq vs.toArray},if_pos rfl⟩)) (fun b u z=>?_) (fun b z=>?_) fun _=>hk
  ·by_cases hb:b=a
   ·exact .inr ⟨_,_,if_pos hb⟩
   ·exact .inl (if_neg hb)
  ·by_cases hb:b=a
   ·have z':=(if_pos hb).symm.trans z
    cases z'
    subst hb
    exact⟨ha,by rw[Ad];exact hl,vs,_,rv,ha⟩
   ·have z':=(if_neg hb).symm.trans z
    cases z'
  ·by_cases hb:b=a
   ·exact hb
   ·exact absurd (if_neg hb) z
end L2
/- THE LAST THEOREM (shape;LID,My.* are yours):
  My.Adr:a structure of the addresses that your layer names (classes,functions);My.Txt K t:a structure (Prop) of the equations over K;
  My.txt_mk:{K} {implicit addresses ..} (e1:nsIn K mainGlobals "law"=some (some (.ref f))) (e2:K.lookup f=some ⟨oc,od,.func (fnOf "law" "law" params body scope dV kV doc pm an cdv ct),sl⟩) (e3:codeIn K cdv "law"=true) ..:∃t,My.Txt K t
set_option maxRecDepth 100000 in
set_option maxHeartbeats 0 in
theorem PySem.Challenge.cw_LID_holds : PySem.Challenge.rw_LID.Holds := by
 w_on;o_law;k_head;(case hw=>w_witness2)
 k_fill
 refine L2.walk_of (l:=PySem.Challenge.rw_LID) (n:=63) (k:=40) (x:="script") (CX:=fun w=> ..) (sp:=fun _=>My.sp_law) rfl (by decide) rfl ⟨rfl,by decide,by decide⟩ (fun w h Y=>PySem.W.kIn_of Y) ?F ?S ?C
 case F=>
  intro w mg fa h KX G hmg
  have T:∃t,My.Txt (L2.KOf KX) t:=by
   dsimp only[L2.KOf] -- K must stand as «<heap const>w.params» for k_is
   refine' My.txt_mk ?e1 ?e2 ?e3 ..
   (case e1=>PySem.W.k_is) -- in the order:a name ->its address ->its object ->its parts
   (case e2=>PySem.W.k_is)
   ..
  obtain⟨t,T⟩:=T
  have e0:=hmg.symm.trans (PySem.W.mg_of KX G T.law)
  cases e0 -- fa is the law's own address
  exact⟨_,fun s u=> .of_eq rfl,fun base kb nb=>My.law_fn T kb nb⟩ -- if «.of_eq rfl» comes too early:refine' ⟨_,?b,fun base kb nb=>My.law_fn T kb nb⟩;exact fun s u=> .of_eq rfl
 case S=>exact fun w H a ns hl hO hS=> ..
 case C=>exact ..
(the tactic k_is has no namespace:write k_is) -/
namespace L2
open PySem PySem.Spec PyProof.Rows
noncomputable def Tg(s:Stmt):Arguments:=match s with
 | .FunctionDef _ a _ _ _ _ _ _ _ _=>a
 | _=>{posonlyargs:=[],args:=[],vararg:=none,kwonlyargs:=[],kw_defaults:=[],kwarg:=none,defaults:=[]}
noncomputable def Zb(s:Stmt):List Stmt:=match s with
 | .FunctionDef _ _ b _ _ _ _ _ _ _=>b
 | _=>[]
noncomputable def Z5(s:Stmt):Scope:=match s with
 | .FunctionDef _ _ _ _ _ _ sc _ _ _=>sc
 | _=>{kind:= .function,names:=[],isGenerator:=false,isCoroutine:=false}
noncomputable abbrev CX0:CXT:=fun _ _ _ _ _ _=>False
abbrev E0:XK:=fun _ _ _=>False
structure Fun(K:Af)(x qual:Str)(st:Stmt)(f:Addr)(fd:FuncData):Prop where
 ex:∃(oc:Value) (od:Option Addr) (dV kV doc pm:Value) (an:Option Addr) (cdv ct:Value) (osl:Array (Option Value)),
  fd=Kq x qual (Tg st) (Zb st) (Z5 st) dV kV doc pm an cdv ct∧K.lookup f=some ⟨oc,od,.func fd,osl⟩∧Me K cdv qual=true
 kp:Hi K (.ref f)=true
section
variable{P:Program}{w:World}{K:Af}{mg:Str→Option Value}{base:Heap}
theorem Fun.ok{x qual:Str}{st:Stmt}{f:Addr}{fd:FuncData}{N ps:List Str}{k:Nat}{sp:Sp}(F:Fun K x qual st f fd)(S:FnScope N ps (Z5 st))(len:∀vs H Q E,sp vs H Q E→vs.length=ps.length)
  (hbody:∀(cdv:Value) (A:Around) (outer:List Env) (s:Shared) (H:Hp) (vs:List V) (Q:VK) (E:XK),Room k (A.deeper (envOfC qual (Z5 st) s.heap.objs.size f cdv))→sp vs H Q E→
   ∃t,PSs (cxOf CX0 P w K mg base N qual (Z5 st) f cdv A outer s H E).nox (Zb st) t∧t {nx:=fun _ H'=>Q .non H',rt:=Q} (start N vs) H):FnOk P w K mg base CX0 (k+1) f fd ps sp:=by
 obtain⟨oc,od,dV,kV,doc,pm,an,cdv,ct,osl,rfl,lk,hcd⟩:=F.ex
 refine Yu3 lk hcd S len fun A outer s H vs Q E hr hsp=>?_
 obtain⟨t,h,q⟩:=hbody cdv A outer s H vs Q E hr hsp
 exact⟨t,h.nox,q⟩
theorem Ys7{x qual:Str}{st:Stmt}{f:Addr}{oc:Value}{od an:Option Addr}{osl:Array (Option Value)}{dV kV doc pm cdv ct:Value}(l:K.lookup f=some ⟨oc,od,.func (Kq x qual (Tg st) (Zb st) (Z5 st) dV kV doc pm an cdv ct),osl⟩)
  (c:Me K cdv qual=true) (k:Hi K (.ref f)=true):Fun K x qual st f (Kq x qual (Tg st) (Zb st) (Z5 st) dV kV doc pm an cdv ct):=⟨⟨oc,od,dV,kV,doc,pm,an,cdv,ct,osl,rfl,l,c⟩,k⟩
end
section
variable{X:Cx}
theorem Zi6:Xk X (.builtin "len") (fun xs H Q=>∃a kvs,xs=[V.ref a]∧H a=some (.dK kvs)∧Q (.int kvs.length) H):=by
 intro pins s σ H xs us Q I r h
 obtain⟨a,kvs,rfl,ha,q⟩:=h
 obtain⟨u,rfl,ru⟩:=Tj r
 cases ru
 exact Yu8 I (.inl ha) fun t s' I'=>⟨.int kvs.length,H,I',⟨t,rfl⟩,q⟩
end
end L2
namespace L3
open PySem PySem.Spec PyProof.Rows L2
def Bits(n:Nat)(x:Int):Prop:=x.natAbs<2 ^ n
theorem Za4{m n:Nat}(h:m<2 ^ n)(hn:0<n):m.log2<n:=by
 rcases Nat.eq_zero_or_pos m with h0 | h0
 ·rw[h0];exact hn
 ·exact(Nat.log2_lt (Nat.ne_of_gt h0)).mpr h
theorem Nb{n:Nat}{x:Int}(h:Bits n x):Builtin.Int.intBits x≤n:=by
 unfold Builtin.Int.intBits
 split
 ·exact Nat.zero_le _
 ·rename_i h0
  have h1:x≠0:=by simpa using h0
  have h2:x.natAbs≠0:=by omega
  exact(Nat.log2_lt h2).mpr h
theorem Bits.mono{n m:Nat}{x:Int}(h:Bits n x)(k:n≤m):Bits m x:=Nat.lt_of_lt_of_le h (Nat.pow_le_pow_right (by decide) k)
theorem Bits.add{n:Nat}{x y:Int}(hx:Bits n x)(hy:Bits n y):Bits (n+1) (x+y):=by
 unfold Bits at *
 rw[Nat.pow_succ]
 omega
theorem Y36{n m:Nat}{a b:Int}(ha:Bits n a)(hb:Bits m b)(h:n+m≤134217728):IntMulOk a b:=by
 unfold IntMulOk
 intro z
 have h1:=Nb ha
 have h2:=Nb hb
 rw[Bz9] at z
 have z2:=z.2
 unfold Builtin.Int.intTooBig at z2
 have z3:=of_decide_eq_true z2
 rw[bitsLine_eq] at z3
 omega
section
variable{X:Cx}
def Zc7(_ j:Int):Prop:=j≠0∧j.natAbs.log2<9000
theorem Y16:OpR X (binaryOp .FloorDiv) (rI Zc7 fun i j=> .int (i.fdiv j)):=opI fun _ _ _ _ _ _ _ hc q=>floordiv_int hc.1 q (.inl (PyProof.noPylong_of_log2 hc.2))
theorem Y97:OpR X (binaryOp .Mult) (rI IntMulOk fun i j=> .int (i * j)):=opI fun _ _ _ _ _ _ _ hc q=>mul_int q hc
def rIsB(K:Af):List V→Hp→VK→Prop:=fun xs H Q=>∃x n t b,xs=[x,.ty n]∧TyOf K H x t∧Kl K t (.type n)=some b∧Q (.bl b) H
theorem Zw3:Xk X (.builtin "isinstance") (rIsB X.K):=by
 intro pins s σ H xs us Q I r h
 obtain⟨x,n,t,b,rfl,ty,e,q⟩:=h
 obtain⟨u,v,rfl,ru,rv⟩:=Z01 r
 obtain rfl:v=La n:=rv
 exact Zd3 I ru ty e fun tk=>⟨.bl b,H,I.tok tk,rfl,q⟩
end
mutual
def Rep(K:Af)(H:Hp):PyData→V→Prop
 | .none,v=>v= .non
 | .bool b,v=>v= .bl b
 | .int i,v=>v= .int i
 | .str x,v=>v= .str x
 | .list ds,v=>∃a xs,v= .ref a∧SqL K H a xs∧W8 K H ds xs
 | .tuple ds,v=>∃a xs,v= .ref a∧SqT K H a xs∧W8 K H ds xs
 | .dict _,_=>False
def W8(K:Af)(H:Hp):List PyData→List V→Prop
 | [],xs=>xs=[]
 | d::ds,xs=>∃v vs,xs=v::vs∧Rep K H d v∧W8 K H ds vs
end
section
variable{X:Cx}{pins:List (Addr×Obj)}{σ:L2.St}{H:Hp}{s:Shared}
mutual
theorem Rep.reads(I:Inv X pins σ H s):∀(d:PyData) (v:V) (u:Value),Rep X.K H d v→RelV v u→∃as,Reads s.heap u d as
 | .none,v,u,h,r=>by
  unfold Rep at h;subst h
  cases (show u=Md from r)
  exact⟨[],.none⟩
 | .bool b,v,u,h,r=>by
  unfold Rep at h;subst h
  cases (show u=Value.bool b from r)
  exact⟨[],.bool b⟩
 | .int i,v,u,h,r=>by
  unfold Rep at h;subst h
  obtain⟨t,rfl⟩:=(show ∃t,u=Value.int i t from r)
  exact⟨[],.int i t⟩
 | .str x,v,u,h,r=>by
  unfold Rep at h;subst h
  obtain⟨t,rfl⟩:=(show ∃t,u=Value.str x t from r)
  exact⟨[],.str x t⟩
 | .list ds,v,u,h,r=>by
  unfold Rep at h
  obtain⟨a,xs,rfl,hq,ha⟩:=h
  cases (show u=Ax a from r)
  obtain⟨its,rv,⟨o,n,h1,h2,_,h4⟩,_⟩:=I.list hq
  obtain⟨as,hr⟩:=W8.reads I ds xs its ha rv
  exact⟨_,.list h1 h2 h4 hr⟩
 | .tuple ds,v,u,h,r=>by
  unfold Rep at h
  obtain⟨a,xs,rfl,hq,ha⟩:=h
  cases (show u=Ax a from r)
  obtain⟨its,rv,⟨o,h1,h2,n,h4⟩,_⟩:=I.tuple hq
  obtain⟨as,hr⟩:=W8.reads I ds xs its ha rv
  exact⟨_,.tuple h1 h2 h4 hr⟩
 | .dict kvs,v,u,h,r=>by
  unfold Rep at h
  exact h.elim
theorem W8.reads(I:Inv X pins σ H s):∀(ds:List PyData) (xs:List V) (us:List Value),W8 X.K H ds xs→Vals xs us→∃as,ReadsAll s.heap us ds as
 | [],xs,us,h,r=>by
  unfold W8 at h;subst h
  cases r
  exact⟨[],.nil⟩
 | d::ds,xs,us,h,r=>by
  unfold W8 at h
  obtain⟨v,vs,rfl,h1,h2⟩:=h
  cases r with
  | cons r1 r2=>
   obtain⟨as,q1⟩:=Rep.reads I d v _ h1 r1
   obtain⟨bs,q2⟩:=W8.reads I ds vs _ h2 r2
   exact⟨_,.cons q1 q2⟩
end
end
section
variable{X:Cx}
def rEqD(K:Af)(neg:Bool):R2:=fun x y H Q=>∃da db,Rep K H da x∧Rep K H db y∧da.canLay0=true∧db.canLay0=true∧min da.depth db.depth≤60∧Q (.bl (if neg then !PyData.eqv da db else PyData.eqv da db)) H
theorem Yr3(hu:X.A.units+64<cLine):OpR X (compareOp .Eq) (rEqD X.K false):=by
 intro pins s σ H x y v u Q I rx ry h
 obtain⟨da,db,h1,h2,h3,h4,h5,q⟩:=h
 obtain⟨as,q1⟩:=Rep.reads I da x v h1 rx
 obtain⟨bs,q2⟩:=Rep.reads I db y u h2 ry
 exact PySem.SeqAt.compareEq_reads q1 q2 h3 h4 (by omega) ⟨.bl _,H,I,rfl,q⟩
end
end L3
namespace L3
open PySem PySem.W PySem.Calls PyProof.Rows L2
noncomputable def bigN:Nat:=1048576
theorem O1:∀(ns:List Int) (i:Int),i∈ns→WData.weight (.int i)≤WData.weightAll (ns.map WData.int)
 | [],_,h=>nomatch h
 | n::r,i,h=>by
  rw[As]
  have e:WData.weightAll (WData.int n::r.map WData.int)=WData.weight (.int n)+1+WData.weightAll (r.map WData.int):=by simp[WData.weightAll]
  rw[e]
  rcases Ao.mp h with q | q
  ·subst q;omega
  ·have:=O1 r i q;omega
theorem O7{ns:List Int}(h:WData.layableAll [WData.list (ns.map WData.int)]=true):∀i∈ns,Bits bigN i:=by
 intro i hi
 have h1:WData.layable (WData.list (ns.map WData.int))=true:=by simpa[WData.layableAll] using h
 unfold WData.layable at h1
 rw[Bz9] at h1
 have h2:WData.weight (WData.list (ns.map WData.int))≤2 ^ 20:=of_decide_eq_true h1.2
 have h3:WData.weight (WData.list (ns.map WData.int))=WData.weightAll (ns.map WData.int):=by simp[WData.weight]
 have h4:=O1 ns i hi
 have h5:WData.weight (.int i)=if i==0 then 0 else i.natAbs.log2+1:=by simp[WData.weight]
 unfold Bits bigN
 by_cases h0:i=0
 ·subst h0;exact Nat.two_pow_pos _
 ·have hb:(i==0)=false:=by simpa using h0
  rw[hb] at h5
  have h6:i.natAbs.log2<1048576:=by
   have:(2:Nat) ^ 20=1048576:=by decide
   simp only[Bool.false_eq_true,if_false] at h5
   omega
  exact(Nat.log2_lt (by omega)).mp h6
theorem Fm{l:OpenLaw}{n:Nat}{q:Program}{loose:List Str}{XP:(Str→Option Value)→Heap→Prop}{YP:World→Heap→Prop}{d:DefRec}(hn:l.most=some n)(hdf:d.params.defaults=[])
  (call:∀(w:World) (s₀ s₁:Shared) (mg mb:Str→Option Value) (fa:Addr) (o:Obj) (pm cd doc:Value) (a:Addr) (vs:List Value) (ns:List Int),
   Ground q loose [] XP w s₀ mg mb s₁.heap→YP w s₁.heap→mg d.name=some (.ref fa)→
   s₁.heap.get? a=some {cls:= .type "list",data:= .seq vs.toArray}→IntsAre vs ns→ns.length≤n→(∀i∈ns,Bits bigN i)→s₁.gens=#[]→
   codeAny (model l.prog w) callerA (.call (.ref fa) ⟨[.ref a],[]⟩) (fun r s'=>r= .ok (.ret (.bool true))∧OldK s₁.heap s'.heap∧s'.os=s₁.os∧AllBare s'.gens) s₁):
  WalkO q loose XP YP l.row.toRowW d [] (fun f vs=>PySem.call f vs):=by
 intro w s₀ s₁ mg mb G Y fa o pm cd doc dV kV ho hd hcd hD hmg hg args vals as hpre hlay hrd hwl hlo
 obtain⟨a,vs,ns,rfl,rfl,hobj,hints,hlen⟩:=Att.script_of hn hpre hwl
 refine enter_call (Kf (call w s₀ s₁ mg mb fa o pm cd doc a vs ns G Y hmg hobj hints hlen (O7 hlay) hg) fun r s' hq=>?_)
 obtain⟨rfl,h2,h3,h4⟩:=hq
 exact⟨.inl ⟨.bool true,.bool true,[],rfl,fun _=>rfl,.bool true,Att.post_true l _,fun _=>⟨List.Pairwise.nil,fun _ hm=>(nomatch hm)⟩⟩,h2,h3,h4⟩
theorem Yr6{l:PySem.W.OpenLaw}{n k:Nat}{q:Program}{loose:List Str}{XP:(Str→Option Value)→Heap→Prop}{YP:World→Heap→Prop}{d:DefRec}{K:Params→Af}{CX:World→CXT}{sp:World→Sp}{x:Str}
  (hn:l.most=some n) (hn2:n≤sizeLine) (hdf:d.params.defaults=[]) (hr:Room k callerA) (hY:∀(w:World) (h:Heap),YP w h→(K w.params).In h)
  (F:∀(w:World) (mg:Str→Option Value) (fa:Addr) (h:Heap),(K w.params).In h→h.Ns mainGlobals mg→mg d.name=some (.ref fa)→
   ∃fd:FuncData,(∀(s:Shared) (u:Value),BindsTo s fd ⟨[u],[]⟩ [(x,u)])∧∀base:Heap,(K w.params).In base→base.Ns mainGlobals mg→FnOk l.prog w (K w.params) mg base (CX w) k fa fd [x] (sp w))
  (hsp:∀(w:World) (H:Hp) (a:Addr) (ns:List Int),ns.length≤n→(∀i∈ns,Bits bigN i)→Only H→SqL (K w.params) H a (ns.map V.int)→sp w [.ref a] H (fun v _=>v= .bl true) fun _ _ _=>False)
  (hCX:∀(w:World) (H:Hp) (s:Shared) (e:Value) (s':Shared),CX w [] H s (fun _ _ _=>False) e s'→False):
  PySem.W.WalkO q loose XP YP l.row.toRowW d [] (fun f vs=>PySem.call f vs):=by
 refine Fm hn hdf fun w s₀ s₁ mg mb fa o pm cd doc a vs ns G Y hmg hobj hints hlen hbits hg=>?_
 have KX:=hY w _ Y
 obtain⟨fd,hb,hF⟩:=F w mg fa _ KX G.T.g hmg
 exact Y17 KX G.T.g G.T.b G.T.builtins G.T.nolimit hg hobj hints (Nat.le_trans hlen hn2) hr hF hb (fun H hO hS=>hsp w H a ns hlen hbits hO hS) fun H e s'=>hCX w H s₁ e s'
end L3
namespace L3
open PySem
section
variable{P:Program}{w:World}{A:Around}{R:Result→Shared→Prop}{s:Shared}{elt tg iter c:Expr}{scope:Scope}{pos:Pos}{it acc:Value}{env:Env}
abbrev noE:Value→Shared→Prop:=fun _ _=>False
theorem Zc1(I:Nat→Shared→Prop)
  (turn:∀n s,I n s→wpAny (model P w) A (pyNext it) (fun r s1=>match r with
   | none=>R (.ok .next) s1
   | some v=>wpAny (model P w) A (letOwnedTupleGo tg it v) (fun _ s2=>wpAny (model P w) A (assign tg env v) (fun _ s3=>wpAny (model P w) A (eval elt env) (fun x s4=>
     wpAny (model P w) A (call (.builtin "list.append") [acc,x]) (fun _ s5=>∃m,m<n∧I m s5) noE s4) noE s3) noE s2) noE s1) noE s)
  (n:Nat) (h:I n s):codeAny (model P w) A (.compLoop (.ListComp elt [⟨tg,iter,[],0⟩] scope pos) 0 it acc env) R s:=by
 refine codeAny_loop rfl I (fun m z hI=>?_) n h
 show wpAny _ A ((compTurn (.ListComp elt [⟨tg,iter,[],0⟩] scope pos) 0 it acc env).onRaise fun x=>do noteFrame x env;theTreesLotGoes x) _ _ z
 refine wpAny_noted ?_
 rw[compTurn_list1]
 refine Ab (wpAny_standAt (Ab (Hm (turn m z hI) (fun r s1 h1=>?_) fun _ _ f=>f.elim)))
 cases r with
 | none=>exact Ae h1
 | some v=>
  refine Ab (Hm h1 (fun _ s2 h2=>?_) fun _ _ f=>f.elim)
  refine Ab (Hm h2 (fun _ s3 h3=>?_) fun _ _ f=>f.elim)
  refine Ab (Ab (Hm h3 (fun x s4 h4=>?_) fun _ _ f=>f.elim))
  exact Ab (Hm h4 (fun _ s5 h5=>Ae (Ae ⟨rfl,h5⟩)) fun _ _ f=>f.elim)
theorem Z73(I:Nat→Shared→Prop)
  (turn:∀n s,I n s→wpAny (model P w) A (pyNext it) (fun r s1=>match r with
   | none=>R (.ok .next) s1
   | some v=>wpAny (model P w) A (letOwnedTupleGo tg it v) (fun _ s2=>wpAny (model P w) A (assign tg env v) (fun _ s3=>wpAny (model P w) A (isTrue c env (eval c env)) (fun ok s4=>
     if ok=true then wpAny (model P w) A (eval elt env) (fun x s5=>wpAny (model P w) A (call (.builtin "list.append") [acc,x]) (fun _ s6=>∃m,m<n∧I m s6) noE s5) noE s4
     else ∃m,m<n∧I m s4) noE s3) noE s2) noE s1) noE s)
  (n:Nat) (h:I n s):codeAny (model P w) A (.compLoop (.ListComp elt [⟨tg,iter,[c],0⟩] scope pos) 0 it acc env) R s:=by
 refine codeAny_loop rfl I (fun m z hI=>?_) n h
 show wpAny _ A ((compTurn (.ListComp elt [⟨tg,iter,[c],0⟩] scope pos) 0 it acc env).onRaise fun x=>do noteFrame x env;theTreesLotGoes x) _ _ z
 refine wpAny_noted ?_
 rw[compTurn_list]
 refine Ab (wpAny_standAt (Ab (Hm (turn m z hI) (fun r s1 h1=>?_) fun _ _ f=>f.elim)))
 cases r with
 | none=>exact Ae h1
 | some v=>
  refine Ab (Hm h1 (fun _ s2 h2=>?_) fun _ _ f=>f.elim)
  refine Ab (Hm h2 (fun _ s3 h3=>?_) fun _ _ f=>f.elim)
  refine Ab (wpAny_tests_one (Hm h3 (fun ok s4 h4=>?_) fun _ _ f=>f.elim))
  cases ok with
  | false=>exact Ae ⟨rfl,h4⟩
  | true=>
   refine Ab (Ab (Hm h4 (fun x s5 h5=>?_) fun _ _ f=>f.elim))
   exact Ab (Hm h5 (fun _ s6 h6=>Ae (Ae ⟨rfl,h6⟩)) fun _ _ f=>f.elim)
end
theorem Re{env:Env}:∀(names:List (Str×NameKind)) (acc:List (Str×Addr)),(∀n,(n,Dl)∈names→∃c,env.cells.lookup n=some c)→
  (∀x c,acc.lookup x=some c→env.cells.lookup x=some c)→
  ∃cl,(forIn names acc fun(x:Str×NameKind) (cs:List (Str×Addr))=>match x with
   |(name,kind)=>if (kind==Dl)=true then do let c ←cellOf env name;pure (ForInStep.yield ((name,c)::cs)) else pure (ForInStep.yield cs):Sem (List (Str×Addr)))=pure cl∧
   (∀x c,cl.lookup x=some c→env.cells.lookup x=some c)∧(∀n,(n,Dl)∈names→∃c,cl.lookup n=some c)∧∀x c,acc.lookup x=some c→∃c',cl.lookup x=some c'
 | [],acc,_,ha=>⟨acc,rfl,ha,(fun _ h=>nomatch h),fun x c e=>⟨c,e⟩⟩
 |(n,k)::r,acc,hn,ha=>by
  by_cases hk:k= .free
  ·subst hk
   obtain⟨c,hc⟩:=hn n De
   obtain⟨cl,e,h1,h2,h3⟩:=Re r ((n,c)::acc) (fun m hm=>hn m (Dd _ hm)) (fun x d hx=>by
    rw[Hu] at hx
    cases q:x==n with
    | true=>rw[q] at hx;cases hx;rw[Kj q];exact hc
    | false=>rw[q] at hx;exact ha x d hx)
   refine⟨cl,?_,h1,fun m hm=>?_,fun x d hx=>?_⟩
   ·rw[List.forIn_cons]
    show(bind (bind (cellOf env n) _) _:Sem _)=_
    unfold cellOf
    rw[hc]
    exact e
   ·rcases Ao.mp hm with q | q
    ·cases q;exact h3 n c (by simp[Hu])
    ·exact h2 m q
   ·cases q:x==n with
    | true=>exact h3 x c (by rw[Hu,q])
    | false=>exact h3 x d (by rw[Hu,q];exact hx)
  ·have hb:(k==Dl)=false:=by simpa using hk
   obtain⟨cl,e,h1,h2,h3⟩:=Re r acc (fun m hm=>hn m (Dd _ hm)) ha
   refine⟨cl,?_,h1,fun m hm=>?_,h3⟩
   ·rw[List.forIn_cons]
    show(bind (if (k==Dl)=true then _ else _) _:Sem _)=_
    rw[hb]
    exact e
   ·rcases Ao.mp hm with q | q
    ·cases q;exact absurd rfl hk
    ·exact h2 m q
theorem Vn{env:Env}{scope:Scope}(hn:∀n,(n,Dl)∈scope.names→∃c,env.cells.lookup n=some c):
  ∃cl,closureFor scope env=pure cl∧(∀x c,cl.lookup x=some c→env.cells.lookup x=some c)∧∀n,(n,Dl)∈scope.names→∃c,cl.lookup n=some c:=by
 obtain⟨cl,e,h1,h2,_⟩:=Re scope.names [] hn (fun x c h=>by cases h)
 refine⟨cl,?_,h1,h2⟩
 exact(congrArg (fun t:Sem (List (Str×Addr))=>bind t fun z=>pure z) e).trans rfl
end L3
namespace L3
open PySem PySem.Spec PyProof.Rows L2
noncomputable def cxC(X:Cx)(N':List Str)(scope:Scope)(cl:List (Str×Addr))(C:Addr)(fp:List Addr)(pins:List (Addr×Obj))(s:Shared)(H:Hp):Cx where
 prog:=X.prog
 w:=X.w
 K:=X.K
 mg:=X.mg
 base:=X.base
 A:=X.A
 N:=N'
 s₀:=s
 H₀:=H
 env:=compEnvC scope cl C X.env
 outer:=X.stack
 stack:=X.stack
 ex:=fp
 fn:=fun x=>scope.names.any fun y=>y.1==x&&y.2== .cell
 calm:=X.calm
 pn:=X.pn++pins
 xe:=noE
noncomputable def Wr(scope dsc:Scope):Scope:=
 {scope with names:=scope.names.map fun(n,k)=>if (k== .free&&dsc.kind== .function&&dsc.names.lookup n==some .cell) then(n,.cell) else(n,k)}
noncomputable def Sw(js:List (Option Nat))(σ:L2.St):L2.St:=js.map fun o=>o.bind fun j=>(σ[j]?).join
structure CompScope(dsc:Scope)(dN N':List Str)(js:List (Option Nat))(scope:Scope):Prop where
 kind:scope.kind= .function
 nd:(scope.names.map (·.1)).Nodup
 loc:∀y∈scope.names,y.2= .local→scope.names.lookup y.1=some .local
 len:js.length=N'.length
 cap:∀(i:Nat) (x:Str) (j:Nat),N'[i]?=some x→js[i]?=some (some j)→dN[j]?=some x∧(x,Dl)∈scope.names
 free:∀n,(n,Dl)∈scope.names→dsc.names.lookup n=some .cell∨dsc.names.lookup n=some .free
 seen:∀n,(n,Dl)∈scope.names→(Wr scope dsc).names.lookup n=some .cell∨(Wr scope dsc).names.lookup n=some .free
noncomputable def Tv(dsc:Scope)(dN N':List Str)(js:List (Option Nat))(scope:Scope):Bool:=
 scope.kind== .function&&decide ((scope.names.map (·.1)).Nodup)&&scope.names.all (fun y=>y.2 != .local || scope.names.lookup y.1==some .local)&&js.length==N'.length&&
 (N'.zip js).all (fun p=>match p.2 with | some j=>dN[j]?==some p.1&&scope.names.contains (p.1,Dl) | none=>true)&&
 scope.names.all (fun y=>y.2 != .free || ((dsc.names.lookup y.1==some .cell || dsc.names.lookup y.1==some .free)&&((Wr scope dsc).names.lookup y.1==some .cell || (Wr scope dsc).names.lookup y.1==some .free)))
theorem CompScope.of{dsc:Scope}{dN N':List Str}{js:List (Option Nat)}{scope:Scope}(h:Tv dsc dN N' js scope=true):CompScope dsc dN N' js scope:=by
 unfold Tv at h
 simp only[Bz9,Hk,beq_iff_eq,bne_iff_ne,Bool.or_eq_true,decide_eq_true_eq] at h
 obtain⟨⟨⟨⟨⟨h1,h2⟩,h3⟩,h4⟩,h5⟩,h6⟩:=h
 refine⟨h1,h2,fun y hy hl=>(h3 y hy).resolve_left fun z=>z hl,h4,fun i x j e1 e2=>?_,fun n hn=>?_,fun n hn=>?_⟩
 ·have hm:(x,some j)∈N'.zip js:=Al (i:=i) (by rw[List.getElem?_zip_eq_some];exact⟨e1,e2⟩)
  have q:=h5 _ hm
  simp only[Bz9,beq_iff_eq,Du] at q
  exact q
 ·exact((h6 _ hn).resolve_left fun z=>z rfl).1
 ·exact((h6 _ hn).resolve_left fun z=>z rfl).2
theorem Th{env:Env}{x:Str}{k:NameKind}:∀{names:List (Str×NameKind)},
  (names.map fun(n,k)=>if (k==Dl&&env.scope.kind== .function&&env.kindOf n==some .cell) then(n,Hj) else(n,k)).lookup x=some k→(k= .cell∨k= .free)→(x,Dl)∈names∨(x,Hj)∈names
 | [],h,_=>by simp at h
 |(n,q)::r,h,hk=>by
  rw[As] at h
  by_cases hx:x=n
  ·subst hx
   have hq:q= .free∨q= .cell:=by
    by_cases c:(q==Dl&&env.scope.kind== .function&&env.kindOf x==some .cell)=true
    ·rw[Bz9,Bz9] at c
     exact .inl (Kj c.1.1)
    ·simp only[if_neg c] at h
     rw[Hu,beq_self_eq_true] at h
     have e:q=k:=Dm h
     rcases hk with z | z
     ·exact .inr (e.trans z)
     ·exact .inl (e.trans z)
   rcases hq with rfl | rfl
   ·exact .inl De
   ·exact .inr De
  ·have hb:(x==n)=false:=by simpa using hx
   have rest:(r.map fun(n,k)=>if (k==Dl&&env.scope.kind== .function&&env.kindOf n==some .cell) then(n,Hj) else(n,k)).lookup x=some k:=by
    by_cases c:(q==Dl&&env.scope.kind== .function&&env.kindOf n==some .cell)=true
    ·simp only[if_pos c] at h
     rw[Hu,hb] at h
     exact h
    ·simp only[if_neg c] at h
     rw[Hu,hb] at h
     exact h
   exact(Th (env:=env) rest hk).imp (Dd _) (Dd _)
structure BlockCells(X:Cx)(scope:Scope)(cl:List (Str×Addr))(sz:Nat)(h1:Heap):Prop where
 each:∀x c,cl.lookup x=some c→X.env.cells.lookup x=some c∨(sz<c∧h1.IsCell c none)
 free:∀n,(n,Dl)∈scope.names→∃c,cl.lookup n=some c∧X.env.cells.lookup n=some c
 own:∀n,(n,Hj)∈scope.names→∃c,cl.lookup n=some c∧sz<c
 inj:∀x y c,cl.lookup x=some c→cl.lookup y=some c→sz<c→x=y
theorem Tq{x:Str}:∀(names:List (Str×NameKind)) (n:Nat) (acc:List (Str×Addr)),(x,Hj)∉names→(cellsFrom n names acc).lookup x=acc.lookup x
 | [],_,_,_=>rfl
 |(y,k)::r,n,acc,h=>by
  have hr:(x,Hj)∉r:=fun z=>h (Dd _ z)
  unfold cellsFrom
  split
  ·rename_i hk
   have hxy:(x==y)=false:=by
    rw[beq_eq_false_iff_ne]
    intro e
    apply h
    rw[e,←Kj hk]
    exact De
   rw[Tq r _ _ hr,Hu,hxy]
  ·exact Tq r n acc hr
theorem O5{x:Str}:∀(names:List (Str×NameKind)) (n:Nat) (acc:List (Str×Addr)),(x,Hj)∈names→∃c,(cellsFrom n names acc).lookup x=some c∧n≤c
 | [],_,_,h=>by cases h
 |(y,k)::r,n,acc,h=>by
  unfold cellsFrom
  by_cases hr:(x,Hj)∈r
  ·split
   ·obtain⟨c,e,l⟩:=O5 r (n+1) ((y,n)::acc) hr
    exact⟨c,e,by omega⟩
   ·exact O5 r n acc hr
  ·rcases Ao.mp h with e | e
   ·cases e
    rw[if_pos (by rfl),Tq r _ _ hr,Hu,beq_self_eq_true]
    exact⟨n,rfl,Nat.le_refl _⟩
   ·exact absurd e hr
theorem Tf:∀(names:List (Str×NameKind)) (n:Nat) (acc cl:List (Str×Addr)),∃own,cellsFrom n names (acc++cl)=own++cl∧cellsFrom n names acc=own
 | [],n,acc,cl=>⟨acc,rfl,rfl⟩
 |(y,k)::r,n,acc,cl=>by
  unfold cellsFrom
  split
  ·exact Tf r (n+1) ((y,n)::acc) cl
  ·exact Tf r n acc cl
theorem Vp{x:Str}{c:Addr}:∀{a b:List (Str×Addr)},(a++b).lookup x=some c→a.lookup x=some c∨b.lookup x=some c
 | [],b,h=> .inr h
 |(y,d)::a,b,h=>by
  rw[Hl,Hu] at h
  rw[Hu]
  cases e:x==y with
  | true=>rw[e] at h;exact .inl h
  | false=>rw[e] at h;exact Vp h
theorem Nj{X:Cx}{pins:List (Addr×Obj)}{σ:L2.St}{H:Hp}{s:Shared}{scope:Scope}{cl:List (Str×Addr)}(nd:(scope.names.map (·.1)).Nodup)(I:Inv X pins σ H s)(o:Obj)
  (c1:∀x c,cl.lookup x=some c→X.env.cells.lookup x=some c) (c2:∀n,(n,Dl)∈scope.names→∃c,cl.lookup n=some c):
  BlockCells X scope (cellsFrom (s.heap.objs.size+1) scope.names cl) s.heap.objs.size (pushCells (s.heap.push o) scope.names):=by
 obtain⟨own,e1,e2⟩:=Tf scope.names (s.heap.objs.size+1) [] cl
 rw[Kg] at e1
 have ok:=cellsFrom_ok scope.names (s.heap.push o) (s.heap.objs.size+1) [] ⟨fun _ _ hm=>(nomatch hm),List.Pairwise.nil⟩ (by rw[Hz];exact Nat.le_refl _)
 rw[Hz,e2] at ok
 have old:∀x c,cl.lookup x=some c→c<s.heap.objs.size:=by
  intro x c e
  obtain⟨v,q⟩:=I.cell x c (c1 x c e)
  exact q.lt
 have one:∀{n:Str},(n,Dl)∈scope.names→(n,Hj)∉scope.names:=by
  intro n h1 h2
  have key:∀(l:List (Str×NameKind)),(l.map (·.1)).Nodup→(n,Dl)∈l→(n,Hj)∈l→False:=by
   intro l
   induction l with
   | nil=>intro _ h;cases h
   | cons y r ih=>
    intro hn a b
    rw[As,Im] at hn
    rcases Ao.mp a with e1 | a2
    ·rcases Ao.mp b with e2 | b2
     ·rw[←e1] at e2;cases e2
     ·exact hn.1 (Dc.mpr ⟨_,b2,by rw[←e1]⟩)
    ·rcases Ao.mp b with e2 | b2
     ·exact hn.1 (Dc.mpr ⟨_,a2,by rw[←e2]⟩)
     ·exact ih hn.2 a2 b2
  exact key _ nd h1 h2
 refine⟨fun x c e=>?_,fun n hn=>?_,fun n hn=>?_,fun x y c hx hy hc=>?_⟩
 ·rw[e1] at e
  rcases Vp e with z | z
  ·obtain⟨a,b⟩:=ok.empty x c (mem_of_lookup z)
   exact .inr ⟨b,a⟩
  ·exact .inl (c1 x c z)
 ·obtain⟨c,hc⟩:=c2 n hn
  refine⟨c,?_,c1 n c hc⟩
  rw[Tq _ _ _ (one hn)]
  exact hc
 ·obtain⟨c,a,b⟩:=O5 scope.names (s.heap.objs.size+1) cl hn
  exact⟨c,a,b⟩
 ·rw[e1] at hx hy
  rcases Vp hx with z | z
  ·rcases Vp hy with z2 | z2
   ·exact name_of_addr ok.apart (mem_of_lookup z) (mem_of_lookup z2)
   ·exact absurd (old y c z2) (Nat.lt_asymm hc)
  ·exact absurd (old x c z) (Nat.lt_asymm hc)
theorem Ou{M:Model}{A:Around}{E:Value→Shared→Prop}{s:Shared}{scope:Scope}{globals:Addr}{cl:List (Str×Addr)}{qual:Str}{o:Env}{Q:Env→Shared→Prop}
  (hQ:Q {scope:=scope,locals:=s.heap.objs.size,globals:=globals,cells:=cellsFrom (s.heap.objs.size+1) scope.names cl,qual:=qual,func:=none,code:=o.code,frame:=o.frame,builtins:=o.builtins} {s with heap:=pushCells (s.heap.push {cls:= .type "dict",data:= .dict #[]}) scope.names}):
  wpAny M A (newFunctionEnv scope globals cl [] qual none .none (some o)) Q E s:=by
 simp only[newFunctionEnv,Option.isSome_some,if_true]
 refine Ab (wpAny_alloc ?_)
 refine Ab (wpAny_layCells _ (fun name kind cells=>by cases hkc:kind==Hj<;>simp[hkc]) _ _ _ _ ?_)
 rw[show({s with heap:=s.heap.push {cls:= .type "dict",data:= .dict #[]}}:Shared).heap.objs.size=s.heap.objs.size+1 from Hz ..]
 rw[List.forIn_nil]
 exact Ab (Ae (Ae hQ))
section
variable{X:Cx}{elt tg iter c:Expr}{scope:Scope}{pos:Pos}{N':List Str}{js:List (Option Nat)}{wi:TI}{g:TG}{te:TE}{tc:TT}
theorem N6{N':List Str}{js:List (Option Nat)}{pins:List (Addr×Obj)}{σ:L2.St}{H:Hp}{s:Shared}{cl:List (Str×Addr)}{fp:List Addr}{h1:Heap}{tk:Nat}(S:CompScope X.env.scope X.N N' js scope)(I:Inv X pins σ H s)
  (bc:BlockCells X scope cl s.heap.objs.size h1) (hf:∀b∈fp,FpOk X pins H b) (hlt:∀b∈fp,b<s.heap.objs.size)
  {m:Str→Option Value} (hn:h1.Ns s.heap.objs.size m) (hk:∀b o,s.heap.get? b=some o→h1.get? b=some o):
  Inv (cxC X N' scope cl s.heap.objs.size fp pins s H) [] (Sw js σ) H {s with heap:=h1,toks:=tk}:=by
 have ok:(cxC X N' scope cl s.heap.objs.size fp pins s H).Ok:=by
  refine⟨I.ok.mod,S.kind,I.ok.glob,I.ok.blt,Nat.le_refl _,fun x y c h1 h2=>?_,fun x hx=>?_,fun x c hx e=>?_,I.ok.hd,I.ok.frames,.inl rfl,fun b hb=>⟨Nat.ne_of_lt (hlt b hb),fun x c e=>?_⟩,
   I.bs,Nat.le_trans I.ok.bsz I.sz,fun b o e hb=>?_,fun b hb hx=>?_,I.stack,I.stkFree⟩
  ·rcases bc.each x c h1 with z | z
   ·rcases bc.each y c h2 with z2 | z2
    ·exact I.ok.inj x y c z z2
    ·exact bc.inj x y c h1 h2 z2.1
   ·exact bc.inj x y c h1 h2 z.1
  ·have hx':(relabel scope X.env).names.lookup x=some .cell∨(relabel scope X.env).names.lookup x=some .free:=hx
   have hm:(x,Dl)∈scope.names∨(x,Hj)∈scope.names:=by
    rcases hx' with z | z
    ·exact Th z (.inl rfl)
    ·exact Th z (.inr rfl)
   rcases hm with z | z
   ·obtain⟨c,e,_⟩:=bc.free x z;exact⟨c,e⟩
   ·obtain⟨c,e,_⟩:=bc.own x z;exact⟨c,e⟩
  ·have hx':(scope.names.any fun y=>y.1==x&&y.2==Hj)=true:=hx
   rw[Lf] at hx'
   obtain⟨⟨y,k⟩,hm,hy⟩:=hx'
   rw[Bz9] at hy
   have e1:y=x:=Kj hy.1
   have e2:k= .cell:=Kj hy.2
   subst e1 e2
   obtain⟨c',e',l⟩:=bc.own _ hm
   have:c'=c:=Dm (e'.symm.trans e)
   subst this
   exact Nat.le_of_lt l
  ·rcases bc.each x c e with z | z
   ·exact(hf b hb).2.2.2.2.1 x c z
   ·exact fun q=>absurd z.1 (Nat.lt_asymm (by rw[q];exact hlt b hb))
  ·obtain⟨_,_,_,f3,_⟩:=hf b hb
   rcases f3 with z | z
   ·exact I.ok.noex b o e z
   ·exact absurd (Nat.lt_of_lt_of_le (An e) (Nat.le_trans I.ok.bsz z)) (Nat.lt_irrefl _)
  ·obtain⟨_,f1,f2,_⟩:=hf b hb
   rcases Ao.mp (I.stkSub b hx) with z | z
   ·exact f1 z
   ·exact f2 z
 refine⟨ok,rfl,I.bare,Un.kept hk,⟨m,hn,fun i x v e1 e2 e3=>?_⟩,fun x c e=>?_,I.hok.fresh (Nat.le_refl _),fun x c e=>(bc.each x c e).elim (fun z=>I.freeC x c z) (fun z=>I.hok.fresh (Nat.le_of_lt z.1)),fun p hp=>?_,I.hok.kept hk,?_⟩
 ·have e2':(Sw js σ)[i]?=some (some v):=e2
  unfold Sw at e2'
  rw[Aj] at e2'
  cases q:js[i]? with
  | none=>rw[q] at e2';cases e2'
  | some o=>
   rw[q] at e2'
   cases o with
   | none=>cases e2'
   | some j=>
    have e4:(σ[j]?).join=some v:=Dm e2'
    obtain⟨hN,hm⟩:=S.cap i x j e1 q
    have hσ:σ[j]?=some (some v):=by
     cases z:σ[j]? with
     | none=>rw[z] at e4;cases e4
     | some o=>rw[z] at e4;exact congrArg some e4
    obtain⟨m0,hn0,hl⟩:=I.loc
    obtain⟨c,hc,hc0⟩:=bc.free x hm
    have hv:Vis X.env.scope x:=(S.free x hm).elim (fun z=> .inr (.inl z)) fun z=> .inr (.inr z)
    obtain⟨u,r,l⟩:=hl j x v hN hσ hv
    refine⟨u,r,.inr ⟨?_,c,hc,?_⟩⟩
    ·exact S.seen x hm
    ·rcases l with⟨kl,_⟩ | ⟨_,c',hc',cell⟩
     ·rcases S.free x hm with y | y<;>(have z:=y.symm.trans (show X.env.scope.names.lookup x=some .local from kl);cases z)
     ·rw[hc0] at hc'
      cases hc'
      obtain⟨o,ho,hd⟩:=cell
      exact⟨o,hk _ _ ho,hd⟩
 ·rcases bc.each x c e with z | z
  ·obtain⟨v,o,ho,hd⟩:=I.cell x c z
   exact⟨v,o,hk _ _ ho,hd⟩
  ·exact⟨none,z.2⟩
 ·have hp':p∈X.pn++pins:=(Ap.mp hp).elim (fun z=>z) fun z=>absurd z (by simp)
  obtain⟨e,n,ne,nf,d⟩:=I.pin p hp'
  refine⟨hk _ _ e,n,Nat.ne_of_lt (An e),fun z=>?_,d⟩
  rcases Ao.mp (I.stkSub p.1 z) with y | y
  ·exact ne y
  ·exact nf y
 ·show(Sw js σ).length=N'.length
  unfold Sw
  rw[Ad];exact S.len
end
section
variable{X:Cx}{elt tg iter c:Expr}{scope:Scope}{pos:Pos}{N':List Str}{js:List (Option Nat)}{wi:TI}{g:TG}{te:TE}{tc:TT}
def Zp4(js:List (Option Nat))(wi:TI)(g:TG)(te:TE):TE:=fun σ H Q=>wi σ H fun J H1=>∀D,H1 D=none→∃W:Nat→Nat→L2.St→Hp→Prop,(∃m,W 0 m (Sw js σ) (upd H1 D (.lst [])))∧
 ∀i m σc Hc,W i m σc Hc→(J.stop i Hc∧Q (.ref D) Hc)∨(J.go i Hc∧∀x H',J.yld i Hc x H'→g x σc H' fun σ2 H2=>te σ2 H2 fun y H4=>∃acc,H4 D=some (.lst acc)∧acc.length<sizeLine∧
  ∃m',m'<m∧W (i+1) m' σ2 (upd H4 D (.lst (acc++[y]))))
def Y58(js:List (Option Nat))(wi:TI)(g:TG)(tc:TT)(te:TE):TE:=fun σ H Q=>wi σ H fun J H1=>∀D,H1 D=none→∃W:Nat→Nat→L2.St→Hp→Prop,(∃m,W 0 m (Sw js σ) (upd H1 D (.lst [])))∧
 ∀i m σc Hc,W i m σc Hc→(J.stop i Hc∧Q (.ref D) Hc)∨(J.go i Hc∧∀x H',J.yld i Hc x H'→g x σc H' fun σ2 H2=>tc σ2 H2 fun b H3=>if b=true then te σ2 H3 fun y H4=>∃acc,H4 D=some (.lst acc)∧acc.length<sizeLine∧
  ∃m',m'<m∧W (i+1) m' σ2 (upd H4 D (.lst (acc++[y]))) else ∃m',m'<m∧W (i+1) m' σ2 H3)
theorem O2{pins:List (Addr×Obj)}{σ:L2.St}{H2:Hp}{s2:Shared}{cl:List (Str×Addr)}{it:Addr}{fp:List Addr}{tn:Nat→Heap→Prop}{J:It}{QD:Addr→Hp→Prop}{R:Value→Addr→Result→Shared→Prop}{E:Value→Shared→Prop}
  (hc:X.calm=true) (S:CompScope X.env.scope X.N N' js scope) (c1:∀x c,cl.lookup x=some c→X.env.cells.lookup x=some c) (c2:∀n,(n,Dl)∈scope.names→∃c,cl.lookup n=some c)
  (hg:∀cl C fp pins s H,PG (cxC X N' scope cl C fp pins s H) tg g) (he:∀cl C fp pins s H,PE (cxC X N' scope cl C fp pins s H) elt te)
  (I2:Inv X pins σ H2 s2) (T:Turn X.prog X.w X.K tg J fp it tn) (st2:tn 0 s2.heap) (f2:∀b∈fp,FpOk X pins H2 b)
  (q:∀D,H2 D=none→∃W:Nat→Nat→L2.St→Hp→Prop,(∃m,W 0 m (Sw js σ) (upd H2 D (.lst [])))∧
   ∀i m σc Hc,W i m σc Hc→(J.stop i Hc∧QD D Hc)∨(J.go i Hc∧∀x H',J.yld i Hc x H'→g x σc H' fun σ2 H2=>te σ2 H2 fun y H4=>∃acc,H4 D=some (.lst acc)∧acc.length<sizeLine∧
    ∃m',m'<m∧W (i+1) m' σ2 (upd H4 D (.lst (acc++[y])))))
  (back:∀(D C:Addr) (Hc:Hp) (s4:Shared),(∃m,s4.heap.Ns C m)→Inv X pins σ Hc s4→Hc C=none→C≠X.env.locals→X.s₀.heap.objs.size≤C→(∀x c,X.env.cells.lookup x=some c→c≠C)→(∀p∈X.pn++pins,p.1≠C)→QD D Hc→R (.ref D) C (.ok .next) s4):
  wpAny (model X.prog X.w) X.A (newList []) (fun acc s3=>wpAny (model X.prog X.w) X.A (newFunctionEnv scope X.env.globals cl [] X.env.qual none .none (some X.env)) (fun cenv s4=>
   codeAny (model X.prog X.w) X.A (.compStart (.ListComp elt [⟨tg,iter,[],0⟩] scope pos) 0 (.ref it) acc {cenv with scope:=relabel scope X.env}) (R acc cenv.locals) s4) E s3) E s2:=by
 refine Hn (Ou ?_)
 dsimp only
 have I3:Inv X pins σ (upd H2 s2.heap.objs.size (.lst [])) {s2 with heap:=s2.heap.push {cls:= .type "list",data:= .seq ([]:List Value).toArray}}:=I2.lnew (its:=[]) (t':=s2.toks) .nil (Nat.zero_le _)
 obtain⟨W,⟨m0,w0⟩,turn⟩:=q s2.heap.objs.size I2.fresh
 have hob:=T.obj 0 _ st2
 have f3:∀b∈fp,FpOk X pins (upd H2 s2.heap.objs.size (.lst [])) b:=fun b hb=>by
  obtain⟨o,e,_⟩:=hob b hb
  exact⟨by rw[Y5 (Nat.ne_of_lt (An e))];exact(f2 b hb).1,(f2 b hb).2⟩
 generalize hS3:(s2.heap.push {cls:= .type "list",data:= .seq ([]:List Value).toArray}:Heap)=h3 at *
 have k23:∀b o,s2.heap.get? b=some o→h3.get? b=some o:=fun b o e=>by rw[←hS3];exact Ag _ e
 have hlt:∀b∈fp,b<h3.objs.size:=fun b hb=>by
  obtain⟨o,e,_⟩:=hob b hb
  exact An (k23 b o e)
 have bc:=Nj S.nd I3 {cls:= .type "dict",data:= .dict #[]} c1 c2
 have hns:(pushCells (h3.push {cls:= .type "dict",data:= .dict #[]}) scope.names).Ns h3.objs.size (fun _=>none):=(Heap.Ns.new h3 (.type "dict")).keeps (pushCells_keeps _ _)
 have k31:∀b o,h3.get? b=some o→(pushCells (h3.push {cls:= .type "dict",data:= .dict #[]}) scope.names).get? b=some o:=fun b o e=>pushCells_keeps _ _ b o (Ag _ e)
 dsimp only at bc
 generalize cellsFrom (h3.objs.size+1) scope.names cl=cl' at bc ⊢
 generalize pushCells (h3.push {cls:= .type "dict",data:= .dict #[]}) scope.names=h1 at bc hns k31 ⊢
 have I4:=N6 (tk:=s2.toks) S I3 bc f3 hlt hns k31
 have st4:tn 0 h1:=T.keep 0 _ h1 st2 fun b hb o e=>k31 b o (k23 b o e)
 have nofs:∀b∈fp,b∉(cxC X N' scope cl' h3.objs.size fp pins {s2 with heap:=h3} (upd H2 s2.heap.objs.size (.lst []))).fs:=I4.ok.exfs
 have stat:∀{H':Hp},(∀b∈fp,H' b=none)→∀b∈fp,FpOk (cxC X N' scope cl' h3.objs.size fp pins {s2 with heap:=h3} (upd H2 s2.heap.objs.size (.lst []))) [] H' b:=fun{H'} hn b hb=>
  ⟨hn b hb,Nat.ne_of_lt (hlt b hb),nofs b hb,.inl hb,fun x c e=>(bc.each x c e).elim (fun z=>(f3 b hb).2.2.2.2.1 x c z) (fun z q=>absurd z.1 (Nat.lt_asymm (by rw[q];exact hlt b hb))),fun p hp=>(f3 b hb).2.2.2.2.2 p (by simpa[cxC] using hp)⟩
 have loop:codeAny (model X.prog X.w) X.A (.compLoop (.ListComp elt [⟨tg,iter,[],0⟩] scope pos) 0 (.ref it) (.ref s2.heap.objs.size) (compEnvC scope cl' h3.objs.size X.env))
   (R (.ref s2.heap.objs.size) h3.objs.size) {s2 with heap:=h1,toks:=s2.toks}:=by
  refine Zc1 (fun n s'=>∃i σc Hc,Inv (cxC X N' scope cl' h3.objs.size fp pins {s2 with heap:=h3} (upd H2 s2.heap.objs.size (.lst []))) [] σc Hc s'∧tn i s'.heap∧(∀b∈fp,Hc b=none)∧W i n σc Hc) ?_ m0
   ⟨0,_,_,I4,st4,fun b hb=>(f3 b hb).1,w0⟩
  rintro n z ⟨i,σc,Hc,Iz,stz,frz,wz⟩
  rcases turn i n σc Hc wz with⟨stop,qd⟩ | ⟨go,step⟩
  ·refine thn (T.done (cxC X N' scope cl' h3.objs.size fp pins {s2 with heap:=h3} (upd H2 s2.heap.objs.size (.lst []))) rfl rfl rfl hc i [] z σc Hc noE Iz (stat frz) stz stop) fun r s4 zz42=>?_
   obtain⟨hr,I5⟩:=zz42
   subst hr
   have J5:Inv X pins σ Hc s4:=I3.call' (s':=s4) I5.os I5.base I5.hok I5.bare fun b hb=>⟨(f3 b hb).2.2.2.1,(f3 b hb).2.1,(f3 b hb).2.2.2.2.1,(f3 b hb).2.2.2.2.2⟩
   obtain⟨m,hm,_⟩:=I5.loc
   refine back _ _ Hc s4 ⟨m,hm⟩ J5 I5.free (Nat.ne_of_gt I3.lt) (Nat.le_trans I3.ok.above (Nat.le_of_lt I3.lt)) (fun x c e z=>?_) (fun p hp z=>?_) qd
   ·obtain⟨v,q⟩:=I3.cell x c e
    exact absurd q.lt (by rw[z];exact Nat.lt_irrefl _)
   ·exact absurd (An (I3.pin p hp).1) (by rw[z];exact Nat.lt_irrefl _)
  ·refine thn (T.item (cxC X N' scope cl' h3.objs.size fp pins {s2 with heap:=h3} (upd H2 s2.heap.objs.size (.lst []))) rfl rfl rfl hc i [] z σc Hc noE Iz (stat frz) stz go) fun r s4 zz43=>?_
   obtain⟨u,hr,h4⟩:=zz43
   subst hr
   refine thn h4 fun _ s5 zz44=>?_
   obtain⟨x,H5,I5,r5,y5,st5,fr5⟩:=zz44
   have I5':=I5.pinned (stat fr5) (T.obj _ _ st5)
   refine thn (hg _ _ _ _ _ _ _ s5 σc H5 x u _ I5' r5 (step x H5 y5)) fun _ s6 zz45=>?_
   obtain⟨σ6,H6,I6,q6⟩:=zz45
   refine thn (he _ _ _ _ _ _ _ s6 σ6 H6 _ I6 q6) fun v s7 zz46=>?_
   obtain⟨y,H7,I7,r7,acc,hD,hlen,m',hm,w7⟩:=zz46
   refine thn (O9 _ s7 σ6 H7 (.ref s2.heap.objs.size) [y] (.ref s2.heap.objs.size) [v] (fun _ H8=>H8=upd H7 s2.heap.objs.size (.lst (acc++[y]))) I7 rfl (.cons r7 .nil) ⟨_,acc,y,rfl,rfl,hD,hlen,rfl⟩) fun _ s8 zz47=>?_
   obtain⟨_,H8,I8,_,e8⟩:=zz47
   subst e8
   refine⟨m',hm,i+1,σ6,_,I8.unpinned,T.keep _ _ _ st5 fun b hb o e=>(I8.pin (b,o) (Bs _ (Bs _ (Yi hb e)))).1,fun b hb=>?_,w7⟩
   obtain⟨o,e,d⟩:=T.obj _ _ st5 b hb
   exact(I8.pin (b,o) (Bs _ (Bs _ (Yi hb e)))).2.1
 exact codeAny_compStart_list loop (T.self _ 0 _ _ _ st4 loop)
theorem Zz6(hc:X.calm=true)(ho:Tv X.env.scope X.N N' js scope=true)(hi:PI X tg iter wi)(hg:∀cl C fp pins s H,PG (cxC X N' scope cl C fp pins s H) tg g)(he:∀cl C fp pins s H,PE (cxC X N' scope cl C fp pins s H) elt te)
  (hs:∀x,foldedSetIterable iter X.env x=pure x:=by intro _;rfl):PE X (.ListComp elt [⟨tg,iter,[],0⟩] scope pos) (Zp4 js wi g te):=by
 intro pins s σ H Q I h
 have S:=CompScope.of ho
 obtain⟨cl,hcl,c1,c2⟩:=Vn (scope:=scope) (env:=X.env) fun n hn=>I.ok.has n (S.free n hn)
 rw[eval_ListComp]
 refine Lg (use:=none) rfl hs hcl S.kind S.loc (thn (hi pins s σ H _ I h) fun v s1 h1=>thn h1 fun itv s2 h2=>?_)
 obtain⟨it,fp,tn,J,H2,e,I2,T,st2,f2,q2⟩:=h2
 subst e
 refine O2 (QD:=fun D Hc=>Q (.ref D) Hc) (R:=fun acc C=>compPost (model X.prog X.w) X.A X.xe none (EP X pins σ Q) acc C) hc S c1 c2 hg he I2 T st2 f2 q2 ?_
 rintro D C Hc s4 ⟨m,hm⟩ J4 fC nL sC cC pC qd
 refine⟨m,hm,fun h' hs'=>⟨.ref D,Hc,?_,rfl,qd⟩⟩
 exact J4.turned (t':=s4.toks) (fun b o hb e=>(hs'.2 b hb).trans e) fC nL (.inr sC) cC pC
def Yl9(i:Nat)(js:List (Option Nat))(wi:TI)(g:TG)(te:TE):TS:=fun D σ H=>Zp4 js wi g te σ H fun v H1=>D.nx (σ.set i (some v)) H1
theorem Zv6{i:Nat}{x:Str}{px spos:Pos}(hc:X.calm=true)(ho:Tv X.env.scope X.N N' js scope=true)(hN:X.N.Nodup)(hx:X.N[i]?=some x)(hl:X.env.scope.names.lookup x=some .local)(hi:PI X tg iter wi)
  (hg:∀cl C fp pins s H,PG (cxC X N' scope cl C fp pins s H) tg g) (he:∀cl C fp pins s H,PE (cxC X N' scope cl C fp pins s H) elt te)
  (hsw:swapsWith (.ListComp elt [⟨tg,iter,[],0⟩] scope pos) (some (.Name x px)) spos.line X.env=pure true)
  (hs:∀x,foldedSetIterable iter X.env x=pure x:=by intro _;rfl):PS X (.Assign [.Name x px] (.ListComp elt [⟨tg,iter,[],0⟩] scope pos) spos) (Yl9 i js wi g te):=by
 intro pins s σ H D I h
 have S:=CompScope.of ho
 obtain⟨cl,hcl,c1,c2⟩:=Vn (scope:=scope) (env:=X.env) fun n hn=>I.ok.has n (S.free n hn)
 rw[exec_Assign_Name_used _ _ _ _ hsw]
 refine Ab (wpAny_standAt (Ab ?_))
 show wpAny _ _ (do let _ ←comprehension (.ListComp elt [⟨tg,iter,[],0⟩] scope pos) scope X.env _ (newList []) false (eval iter X.env) (some (assign (.Name x px) X.env))) _ _ s
 refine Ab (Hm (Lg (use:=some (assign (.Name x px) X.env)) (Q:=fun _ s'=>SP X pins D .next s') rfl hs hcl S.kind S.loc (thn (hi pins s σ H _ I h) fun v s1 h1=>thn h1 fun itv s2 h2=>?_)) (fun _ s' hq=>Ae (Ae hq)) fun _ _ e=>e)
 obtain⟨it,fp,tn,J,H2,e,I2,T,st2,f2,q2⟩:=h2
 subst e
 refine O2 (QD:=fun E' Hc=>D.nx (σ.set i (some (.ref E'))) Hc) (R:=fun acc C=>compPost (model X.prog X.w) X.A X.xe (some (assign (.Name x px) X.env)) (fun _ s'=>SP X pins D .next s') acc C) hc S c1 c2 hg he I2 T st2 f2 q2 ?_
 rintro E' C Hc s4 ⟨m,hm⟩ J4 fC nL sC cC pC qd
 show wpAny _ _ (assign (.Name x px) X.env (.ref E')) _ _ s4
 refine wpAny_assign_Name (Qx J4 hN hx (.inl hl) (v:= .ref E') rfl (fun s5 J5 zz48=>?_) (.inr hl))
 obtain⟨a,sb,ha⟩:=zz48
 have hCa:C≠a:=by
  rcases ha with z | z
  ·rw[z];exact nL
  ·exact(cC x a z).symm
 refine⟨m,hm.sameBut sb hCa,fun h' hs'=>⟨σ.set i (some (.ref E')),Hc,?_,qd⟩⟩
 exact J5.turned (t':=s5.toks) (fun b o hb e=>(hs'.2 b hb).trans e) fC nL (.inr sC) cC pC
theorem Pj{pins:List (Addr×Obj)}{σ:L2.St}{H2:Hp}{s2:Shared}{cl:List (Str×Addr)}{it:Addr}{fp:List Addr}{tn:Nat→Heap→Prop}{J:It}{QD:Addr→Hp→Prop}{R:Value→Addr→Result→Shared→Prop}{E:Value→Shared→Prop}
  (hc:X.calm=true) (S:CompScope X.env.scope X.N N' js scope) (c1:∀x c,cl.lookup x=some c→X.env.cells.lookup x=some c) (c2:∀n,(n,Dl)∈scope.names→∃c,cl.lookup n=some c)
  (hg:∀cl C fp pins s H,PG (cxC X N' scope cl C fp pins s H) tg g) (hq:∀cl C fp pins s H,PT (cxC X N' scope cl C fp pins s H) c tc) (he:∀cl C fp pins s H,PE (cxC X N' scope cl C fp pins s H) elt te)
  (I2:Inv X pins σ H2 s2) (T:Turn X.prog X.w X.K tg J fp it tn) (st2:tn 0 s2.heap) (f2:∀b∈fp,FpOk X pins H2 b)
  (q:∀D,H2 D=none→∃W:Nat→Nat→L2.St→Hp→Prop,(∃m,W 0 m (Sw js σ) (upd H2 D (.lst [])))∧
   ∀i m σc Hc,W i m σc Hc→(J.stop i Hc∧QD D Hc)∨(J.go i Hc∧∀x H',J.yld i Hc x H'→g x σc H' fun σ2 H2=>tc σ2 H2 fun b H3=>if b=true then te σ2 H3 fun y H4=>∃acc,H4 D=some (.lst acc)∧acc.length<sizeLine∧
    ∃m',m'<m∧W (i+1) m' σ2 (upd H4 D (.lst (acc++[y]))) else ∃m',m'<m∧W (i+1) m' σ2 H3))
  (back:∀(D C:Addr) (Hc:Hp) (s4:Shared),(∃m,s4.heap.Ns C m)→Inv X pins σ Hc s4→Hc C=none→C≠X.env.locals→X.s₀.heap.objs.size≤C→(∀x c,X.env.cells.lookup x=some c→c≠C)→(∀p∈X.pn++pins,p.1≠C)→QD D Hc→R (.ref D) C (.ok .next) s4):
  wpAny (model X.prog X.w) X.A (newList []) (fun acc s3=>wpAny (model X.prog X.w) X.A (newFunctionEnv scope X.env.globals cl [] X.env.qual none .none (some X.env)) (fun cenv s4=>
   codeAny (model X.prog X.w) X.A (.compStart (.ListComp elt [⟨tg,iter,[c],0⟩] scope pos) 0 (.ref it) acc {cenv with scope:=relabel scope X.env}) (R acc cenv.locals) s4) E s3) E s2:=by
 refine Hn (Ou ?_)
 dsimp only
 have I3:Inv X pins σ (upd H2 s2.heap.objs.size (.lst [])) {s2 with heap:=s2.heap.push {cls:= .type "list",data:= .seq ([]:List Value).toArray}}:=I2.lnew (its:=[]) (t':=s2.toks) .nil (Nat.zero_le _)
 obtain⟨W,⟨m0,w0⟩,turn⟩:=q s2.heap.objs.size I2.fresh
 have hob:=T.obj 0 _ st2
 have f3:∀b∈fp,FpOk X pins (upd H2 s2.heap.objs.size (.lst [])) b:=fun b hb=>by
  obtain⟨o,e,_⟩:=hob b hb
  exact⟨by rw[Y5 (Nat.ne_of_lt (An e))];exact(f2 b hb).1,(f2 b hb).2⟩
 generalize hS3:(s2.heap.push {cls:= .type "list",data:= .seq ([]:List Value).toArray}:Heap)=h3 at *
 have k23:∀b o,s2.heap.get? b=some o→h3.get? b=some o:=fun b o e=>by rw[←hS3];exact Ag _ e
 have hlt:∀b∈fp,b<h3.objs.size:=fun b hb=>by
  obtain⟨o,e,_⟩:=hob b hb
  exact An (k23 b o e)
 have bc:=Nj S.nd I3 {cls:= .type "dict",data:= .dict #[]} c1 c2
 have hns:(pushCells (h3.push {cls:= .type "dict",data:= .dict #[]}) scope.names).Ns h3.objs.size (fun _=>none):=(Heap.Ns.new h3 (.type "dict")).keeps (pushCells_keeps _ _)
 have k31:∀b o,h3.get? b=some o→(pushCells (h3.push {cls:= .type "dict",data:= .dict #[]}) scope.names).get? b=some o:=fun b o e=>pushCells_keeps _ _ b o (Ag _ e)
 dsimp only at bc
 generalize cellsFrom (h3.objs.size+1) scope.names cl=cl' at bc ⊢
 generalize pushCells (h3.push {cls:= .type "dict",data:= .dict #[]}) scope.names=h1 at bc hns k31 ⊢
 have I4:=N6 (tk:=s2.toks) S I3 bc f3 hlt hns k31
 have st4:tn 0 h1:=T.keep 0 _ h1 st2 fun b hb o e=>k31 b o (k23 b o e)
 have nofs:∀b∈fp,b∉(cxC X N' scope cl' h3.objs.size fp pins {s2 with heap:=h3} (upd H2 s2.heap.objs.size (.lst []))).fs:=I4.ok.exfs
 have stat:∀{H':Hp},(∀b∈fp,H' b=none)→∀b∈fp,FpOk (cxC X N' scope cl' h3.objs.size fp pins {s2 with heap:=h3} (upd H2 s2.heap.objs.size (.lst []))) [] H' b:=fun{H'} hn b hb=>
  ⟨hn b hb,Nat.ne_of_lt (hlt b hb),nofs b hb,.inl hb,fun x c e=>(bc.each x c e).elim (fun z=>(f3 b hb).2.2.2.2.1 x c z) (fun z q=>absurd z.1 (Nat.lt_asymm (by rw[q];exact hlt b hb))),fun p hp=>(f3 b hb).2.2.2.2.2 p (by simpa[cxC] using hp)⟩
 have loop:codeAny (model X.prog X.w) X.A (.compLoop (.ListComp elt [⟨tg,iter,[c],0⟩] scope pos) 0 (.ref it) (.ref s2.heap.objs.size) (compEnvC scope cl' h3.objs.size X.env))
   (R (.ref s2.heap.objs.size) h3.objs.size) {s2 with heap:=h1,toks:=s2.toks}:=by
  refine Z73 (fun n s'=>∃i σc Hc,Inv (cxC X N' scope cl' h3.objs.size fp pins {s2 with heap:=h3} (upd H2 s2.heap.objs.size (.lst []))) [] σc Hc s'∧tn i s'.heap∧(∀b∈fp,Hc b=none)∧W i n σc Hc) ?_ m0
   ⟨0,_,_,I4,st4,fun b hb=>(f3 b hb).1,w0⟩
  rintro n z ⟨i,σc,Hc,Iz,stz,frz,wz⟩
  rcases turn i n σc Hc wz with⟨stop,qd⟩ | ⟨go,step⟩
  ·refine thn (T.done (cxC X N' scope cl' h3.objs.size fp pins {s2 with heap:=h3} (upd H2 s2.heap.objs.size (.lst []))) rfl rfl rfl hc i [] z σc Hc noE Iz (stat frz) stz stop) fun r s4 zz49=>?_
   obtain⟨hr,I5⟩:=zz49
   subst hr
   have J5:Inv X pins σ Hc s4:=I3.call' (s':=s4) I5.os I5.base I5.hok I5.bare fun b hb=>⟨(f3 b hb).2.2.2.1,(f3 b hb).2.1,(f3 b hb).2.2.2.2.1,(f3 b hb).2.2.2.2.2⟩
   obtain⟨m,hm,_⟩:=I5.loc
   refine back _ _ Hc s4 ⟨m,hm⟩ J5 I5.free (Nat.ne_of_gt I3.lt) (Nat.le_trans I3.ok.above (Nat.le_of_lt I3.lt)) (fun x c e z=>?_) (fun p hp z=>?_) qd
   ·obtain⟨v,q⟩:=I3.cell x c e
    exact absurd q.lt (by rw[z];exact Nat.lt_irrefl _)
   ·exact absurd (An (I3.pin p hp).1) (by rw[z];exact Nat.lt_irrefl _)
  ·refine thn (T.item (cxC X N' scope cl' h3.objs.size fp pins {s2 with heap:=h3} (upd H2 s2.heap.objs.size (.lst []))) rfl rfl rfl hc i [] z σc Hc noE Iz (stat frz) stz go) fun r s4 zz50=>?_
   obtain⟨u,hr,h4⟩:=zz50
   subst hr
   refine thn h4 fun _ s5 zz51=>?_
   obtain⟨x,H5,I5,r5,y5,st5,fr5⟩:=zz51
   have I5':=I5.pinned (stat fr5) (T.obj _ _ st5)
   refine thn (hg _ _ _ _ _ _ _ s5 σc H5 x u _ I5' r5 (step x H5 y5)) fun _ s6 zz52=>?_
   obtain⟨σ6,H6,I6,q6⟩:=zz52
   refine thn (hq _ _ _ _ _ _ _ s6 σ6 H6 _ I6 q6) fun ok s6' zz53=>?_
   obtain⟨H6',I6',q6'⟩:=zz53
   cases ok with
   | false=>
    rw[if_neg Bf9] at q6' ⊢
    obtain⟨m',hm,w7⟩:=q6'
    refine⟨m',hm,i+1,σ6,_,I6'.unpinned,T.keep _ _ _ st5 fun b hb o e=>(I6'.pin (b,o) (Bs _ (Bs _ (Yi hb e)))).1,fun b hb=>?_,w7⟩
    obtain⟨o,e,d⟩:=T.obj _ _ st5 b hb
    exact(I6'.pin (b,o) (Bs _ (Bs _ (Yi hb e)))).2.1
   | true=>
   rw[if_pos rfl] at q6' ⊢
   refine thn (he _ _ _ _ _ _ _ s6' σ6 H6' _ I6' q6') fun v s7 zz54=>?_
   obtain⟨y,H7,I7,r7,acc,hD,hlen,m',hm,w7⟩:=zz54
   refine thn (O9 _ s7 σ6 H7 (.ref s2.heap.objs.size) [y] (.ref s2.heap.objs.size) [v] (fun _ H8=>H8=upd H7 s2.heap.objs.size (.lst (acc++[y]))) I7 rfl (.cons r7 .nil) ⟨_,acc,y,rfl,rfl,hD,hlen,rfl⟩) fun _ s8 zz55=>?_
   obtain⟨_,H8,I8,_,e8⟩:=zz55
   subst e8
   refine⟨m',hm,i+1,σ6,_,I8.unpinned,T.keep _ _ _ st5 fun b hb o e=>(I8.pin (b,o) (Bs _ (Bs _ (Yi hb e)))).1,fun b hb=>?_,w7⟩
   obtain⟨o,e,d⟩:=T.obj _ _ st5 b hb
   exact(I8.pin (b,o) (Bs _ (Bs _ (Yi hb e)))).2.1
 exact codeAny_compStart_list loop (T.self _ 0 _ _ _ st4 loop)
theorem Y30(hc:X.calm=true)(ho:Tv X.env.scope X.N N' js scope=true)(hi:PI X tg iter wi)(hg:∀cl C fp pins s H,PG (cxC X N' scope cl C fp pins s H) tg g)(hq:∀cl C fp pins s H,PT (cxC X N' scope cl C fp pins s H) c tc)(he:∀cl C fp pins s H,PE (cxC X N' scope cl C fp pins s H) elt te)
  (hs:∀x,foldedSetIterable iter X.env x=pure x:=by intro _;rfl):PE X (.ListComp elt [⟨tg,iter,[c],0⟩] scope pos) (Y58 js wi g tc te):=by
 intro pins s σ H Q I h
 have S:=CompScope.of ho
 obtain⟨cl,hcl,c1,c2⟩:=Vn (scope:=scope) (env:=X.env) fun n hn=>I.ok.has n (S.free n hn)
 rw[eval_ListComp]
 refine Lg (use:=none) rfl hs hcl S.kind S.loc (thn (hi pins s σ H _ I h) fun v s1 h1=>thn h1 fun itv s2 h2=>?_)
 obtain⟨it,fp,tn,J,H2,e,I2,T,st2,f2,q2⟩:=h2
 subst e
 refine Pj (QD:=fun D Hc=>Q (.ref D) Hc) (R:=fun acc C=>compPost (model X.prog X.w) X.A X.xe none (EP X pins σ Q) acc C) hc S c1 c2 hg hq he I2 T st2 f2 q2 ?_
 rintro D C Hc s4 ⟨m,hm⟩ J4 fC nL sC cC pC qd
 refine⟨m,hm,fun h' hs'=>⟨.ref D,Hc,?_,rfl,qd⟩⟩
 exact J4.turned (t':=s4.toks) (fun b o hb e=>(hs'.2 b hb).trans e) fC nL (.inr sC) cC pC
def Yn6(i:Nat)(js:List (Option Nat))(wi:TI)(g:TG)(tc:TT)(te:TE):TS:=fun D σ H=>Y58 js wi g tc te σ H fun v H1=>D.nx (σ.set i (some v)) H1
theorem Zv3{i:Nat}{x:Str}{px spos:Pos}(hc:X.calm=true)(ho:Tv X.env.scope X.N N' js scope=true)(hN:X.N.Nodup)(hx:X.N[i]?=some x)(hl:X.env.scope.names.lookup x=some .local)(hi:PI X tg iter wi)
  (hg:∀cl C fp pins s H,PG (cxC X N' scope cl C fp pins s H) tg g) (hq:∀cl C fp pins s H,PT (cxC X N' scope cl C fp pins s H) c tc) (he:∀cl C fp pins s H,PE (cxC X N' scope cl C fp pins s H) elt te)
  (hsw:swapsWith (.ListComp elt [⟨tg,iter,[c],0⟩] scope pos) (some (.Name x px)) spos.line X.env=pure true)
  (hs:∀x,foldedSetIterable iter X.env x=pure x:=by intro _;rfl):PS X (.Assign [.Name x px] (.ListComp elt [⟨tg,iter,[c],0⟩] scope pos) spos) (Yn6 i js wi g tc te):=by
 intro pins s σ H D I h
 have S:=CompScope.of ho
 obtain⟨cl,hcl,c1,c2⟩:=Vn (scope:=scope) (env:=X.env) fun n hn=>I.ok.has n (S.free n hn)
 rw[exec_Assign_Name_used _ _ _ _ hsw]
 refine Ab (wpAny_standAt (Ab ?_))
 show wpAny _ _ (do let _ ←comprehension (.ListComp elt [⟨tg,iter,[c],0⟩] scope pos) scope X.env _ (newList []) false (eval iter X.env) (some (assign (.Name x px) X.env))) _ _ s
 refine Ab (Hm (Lg (use:=some (assign (.Name x px) X.env)) (Q:=fun _ s'=>SP X pins D .next s') rfl hs hcl S.kind S.loc (thn (hi pins s σ H _ I h) fun v s1 h1=>thn h1 fun itv s2 h2=>?_)) (fun _ s' hq=>Ae (Ae hq)) fun _ _ e=>e)
 obtain⟨it,fp,tn,J,H2,e,I2,T,st2,f2,q2⟩:=h2
 subst e
 refine Pj (QD:=fun E' Hc=>D.nx (σ.set i (some (.ref E'))) Hc) (R:=fun acc C=>compPost (model X.prog X.w) X.A X.xe (some (assign (.Name x px) X.env)) (fun _ s'=>SP X pins D .next s') acc C) hc S c1 c2 hg hq he I2 T st2 f2 q2 ?_
 rintro E' C Hc s4 ⟨m,hm⟩ J4 fC nL sC cC pC qd
 show wpAny _ _ (assign (.Name x px) X.env (.ref E')) _ _ s4
 refine wpAny_assign_Name (Qx J4 hN hx (.inl hl) (v:= .ref E') rfl (fun s5 J5 zz56=>?_) (.inr hl))
 obtain⟨a,sb,ha⟩:=zz56
 have hCa:C≠a:=by
  rcases ha with z | z
  ·rw[z];exact nL
  ·exact(cC x a z).symm
 refine⟨m,hm.sameBut sb hCa,fun h' hs'=>⟨σ.set i (some (.ref E')),Hc,?_,qd⟩⟩
 exact J5.turned (t':=s5.toks) (fun b o hb e=>(hs'.2 b hb).trans e) fC nL (.inr sC) cC pC
end
end L3
namespace L3
open PySem
def ExAt(h:Heap)(e:Addr)(cls:Value)(dd:Option Addr)(tb:Value):Prop:=∃oe vs,h.get? e=some oe∧(oe.cls=cls∧oe.dict=dd)∧oe.data= .fields vs∧vs[1]?=some tb
def TbAt(h:Heap)(T:Addr)(fl:Value):Prop:=∃oT ts,h.get? T=some oT∧oT.data= .fields ts∧ts[3]?=some fl
structure Flown(fs xs:List Addr)(h h':Heap):Prop where
 keep:∀b o,h.get? b=some o→b∉fs→b∉xs→h'.get? b=some o
 slot:∀b o,h.get? b=some o→b∈fs→b∉xs→∃sl,h'.get? b=some {o with slots:=sl}
 there:∀b o,h.get? b=some o→∃o',h'.get? b=some o'
end L3
namespace L3
open PySem PySem.W
section
variable{prog:Program}{w:World}{A:Around}{h:Heap}{g:Array GenState}{d:Drawn}{t:Nat}{os:OsState}
variable{nm q:Str}{C N f:Addr}{bs bm:List Value}{hdct:Bool}{sn:List Str}{sub:List Value}{ab:Bool}{col:Option Bool}{dd:Option Addr}{k0 k1 k2 k3 k5:Option Value}{Bn newId inN:String}{bmN:List Value}
structure ExcCls(h:Heap)(C:Addr)(nm q:Str)(N:Addr)(bs bm:List Value)(hdct:Bool)(sn:List Str)(sub:List Value)(ab:Bool)(col:Option Bool)(dd:Option Addr)(k0 k1 k2 k3 k5:Option Value)(Bn newId:String):Prop where
 obj:h.get? C=some (excClassObj nm q C N bs bm hdct sn sub ab col dd k0 k1 k2 k3 k5 newId)
 hB:(Ax C::bm).contains (.type Bn)=true
 hA:(Ax C::bm).contains (.type "AttributeError")=false
 hN:(Ax C::bm).contains (.type "NameError")=false
 hE:(Ax C::bm).contains (.type "BaseException")=true
end
end L3
namespace L3
open PySem PySem.W PySem.Calls PyProof.Rows Builtin Builtin.ObjectAttr
structure ExcSet(K:Frag)(C:Addr)(name:Str):Prop where
 cls:∃cd own,clsIn K C=some cd∧cd.hasDict=true∧cd.mro=own++[.type "ValueError",.type "Exception",.type "BaseException",.type "object"]∧∀v∈own,∃a,v=Ax a
 no:findIn K (.ref C) name=some none
 set:findIn K (.ref C) "__setattr__"=some (some (.builtin "object.__setattr__"))
section
variable{prog:Program}{w:World}{A:Around}{K:Frag}{C e:Addr}{s:Shared}{name:Str}{R:Result→Shared→Prop}
structure ExcGet(K:Frag)(C:Addr)(name:Str):Prop where
 cls:∃cd,clsIn K C=some cd∧cd.hasDict=true
 no:findIn K (.ref C) name=some none
 ga:findIn K (.ref C) "__getattribute__"=some (some (.builtin "BaseException.__getattribute__"))
 gh:findIn K (.ref C) "__getattr__"=some none
 base:mroIn K C (.type "BaseException")=some true
theorem Y71(self:Value):bindSpecial (.builtin "BaseException.__getattribute__") self=pure (.builtin "BaseException.__getattribute__",[self]):=by kernel_rfl
theorem Yc6:builtinKind "BaseException.__getattribute__"=some .slot:=by decide+kernel
theorem Zt0:splitId "BaseException.__getattribute__"=some ("BaseException","__getattribute__"):=by decide+kernel
theorem Zu6:plainId "BaseException.__getattribute__"=true:=by decide+kernel
theorem Yc9(a b:Value):argsOk "BaseException.__getattribute__" ⟨[a,b],[]⟩:=by unfold argsOk;kernel_rfl
end
end L3
namespace L3
open PySem PySem.Spec PyProof.Rows L2
noncomputable def XO(e:Addr)(cls:Value)(dd:Option Addr):HO:= .ext fun h=>∃oe vs tb,h.get? e=some oe∧(oe.cls=cls∧oe.dict=dd)∧oe.data= .fields vs∧vs[1]?=some tb
theorem XO.at{P:Program}{w:World}{H:Hp}{h:Heap}{e:Addr}{cls:Value}{dd:Option Addr}(x:Yo P w H h e (XO e cls dd)):∃tb,ExAt h e cls dd tb:=by
 obtain⟨⟨oe,vs,tb,q1,q2,q3,q4⟩,_⟩:=x
 exact⟨tb,oe,vs,q1,q2,q3,q4⟩
noncomputable def CX1(P:Program)(w:World):CXT:=fun outer H s E e s'=>∃(ea T:Addr) (cls:Value) (dd:Option Addr) (H':Hp),e= .ref ea∧s'.os=s.os∧AllBare s'.gens∧Un (frs outer) [] H H' s.heap s'.heap∧HOk P w H' s'.heap∧
 (s.heap.objs.size≤ea∧s.heap.objs.size≤T)∧H' ea=some (XO ea cls dd)∧(H' T=none∧T≠ea)∧ExAt s'.heap ea cls dd (.ref T)∧TbAt s'.heap T .none∧E cls dd H'
structure Leaves(X:Cx)(E:XK):Prop where
 stk:X.stack=X.env::X.outer
 fr:X.env.frame=some X.env.locals
 ex:X.ex=[]
 xe:∀e s',wpAny (model X.prog X.w) X.A (leaving X.env e) (fun _ s''=>CX1 X.prog X.w X.outer X.H₀ X.s₀ E e s'') (fun e' s''=>CX1 X.prog X.w X.outer X.H₀ X.s₀ E e' s'') s'→X.xe e s'
structure ExcMk(K:Af)(C f:Addr):Prop where
 cls:∃nm q N bs bm hdct sn sub ab col dd k0 k1 k2 k3 k5,K.lookup C=some (excClassObj nm q C N bs bm hdct sn sub ab col dd k0 k1 k2 k3 k5 "ValueError.__new__")∧(Ax C::bm).contains (.type "ValueError")=true∧
  (Ax C::bm).contains (.type "AttributeError")=false∧(Ax C::bm).contains (.type "NameError")=false∧(Ax C::bm).contains (.type "BaseException")=true
 init:Lx K (.ref C) "__init__"=some (some (.ref f))
 fn:PySem.W.isFn K (.ref f)=true
 kp:Hi K (.ref C)=true
end L3
namespace L3
open PySem PySem.W PySem.Calls PyProof.Rows Builtin Builtin.ObjectAttr
section
variable{prog:Program}{w:World}{A:Around}{E:Value→Shared→Prop}{K:Frag}{C D e:Addr}{s:Shared}
structure ExcIs(K:Frag)(C:Addr):Prop where
 cls:∃cd,clsIn K C=some cd∧cd.hasDict=true
 ga:findIn K (.ref C) "__getattribute__"=some (some (.builtin "BaseException.__getattribute__"))
 gh:findIn K (.ref C) "__getattr__"=some none
 base:mroIn K C (.type "BaseException")=some true
 own:findIn K (.ref C) "__class__"=some (some (.builtin "object.__class__"))
 ds:specialIn K (.builtin "object.__class__") "__get__"=some (some (.builtin "getset_descriptor.__get__"))
 tk:takesIn K (.builtin "object.__class__")=some true
 obj:mroIn K C (.type "object")=some true
theorem Zn2{oe:Obj}{od:Obj}{Q:Option Value→Shared→Prop}(X:K.In s.heap)(S:ExcIs K C)(J:InstAt s.heap e oe C (some od))(h:Q (some (.ref C)) {s with toks:=s.toks+1}):
  wpAny (model prog w) A (getAttr? (.ref e) "__class__") Q E s:=by
 obtain⟨⟨cd,hcd,hdict⟩,hga,hgh,hbase,hown,hds,htk,hobj⟩:=S
 obtain⟨hp,g,d,t,os⟩:=s
 have hf:findObj K C (some od) "__class__"=some (.bind (.builtin "getset_descriptor.__get__") (.builtin "object.__class__")):=findObj_data (by rw[hcd];rfl) hown hds htk
 have L0:=J.type (M:=model prog w)
 have L1:=looks_findIn (M:=model prog w) X hga
 have L2:=looks_findIn (M:=model prog w) X hgh
 have L3':=looks_find (M:=model prog w) X J hf
 have sub:Looks (model prog w) hp (isInstance (.ref e) (.type "BaseException")) true:=L0.andThen (looks_mroIn X hbase)
 unfold getAttr? getAttrBy? getAttrBy
 refine Ab (wpAny_mkText (Ab (Mb (Ex (Ab (L0.at (Ab (L1.at ?_))))))))
 show wpAny _ _ (getAttrByItsOwn _ _ _ _ _ _) _ _ _
 unfold getAttrByItsOwn
 refine Ab (L2.at (Ab (Mb (Ex ?_))))
 unfold callGetattribute
 rw[if_neg (by decide)]
 unfold boundAndCalled
 rw[Y71]
 refine Ab (Ae (wpAny_call ?_))
 refine codeAny_call_builtin Zu6 F.entry_bexc_ga (@check_slot (model prog w) _ _ _ "BaseException.__getattribute__" "BaseException" "__getattribute__" (.ref e) [.str "__class__" t] [] _ Yc6 Zt0 sub (Yc9 (.ref e) (.str "__class__" t)) ?_)
 show wpAny _ _ (typeOf (.ref e) >>=fun tp=>find (.ref e) tp "__class__" >>=_) _ _ _
 refine Ab (L0.at (Ab (L3'.at ?_)))
 have hcall:=class_get (prog:=prog) (w:=w) (A:=A.in1) (s:=⟨hp,g,d,t+1,os⟩) (tp:= .ref C) (R:=fun r s'=>r= .ok (.ret (.ref C))∧s'=⟨hp,g,d,t+1,os⟩) X J hobj ⟨rfl,rfl⟩
 unfold bindTo
 refine Ab (Ex (wpAny_call (Kf hcall fun r s' z=>?_)))
 obtain⟨rfl,rfl⟩:=z
 refine Ae ?_
 show wpAny _ _ (handedOut (.ref C)) _ _ _
 exact handed_on rfl (Ae h)
end
end L3
namespace L3
open PySem PySem.Spec PyProof.Rows L2
section
variable{K:Af}{C e:Addr}
theorem Z47{oe od:Obj}(S:ExcIs K C):PySem.W.KitX K (.ref e) (.ref C) (fun h=>PySem.W.InstAt h e oe C (some od)) where
 ty:=fun _ _ _ I=>I.type
 it:=fun _ _ X _=>by
  obtain⟨cd,hcd,_⟩:=S.cls
  unfold PySem.W.clsIn at hcd
  split at hcd
  ·rename_i ho
   intro A' Q' E' s' k q
   unfold isType loadHead
   exact Ab (wpAny_loadPart (k _ _ (X _ _ ho)) (Ae q))
  ·cases hcd
 ne:=fun h tp dd its n sl X htp=>by
  obtain⟨cd,hcd,_⟩:=S.cls
  refine Bool.eq_false_iff.mpr fun q=>?_
  have z:C=tp:=Ax.inj (beq_iff_eq.mp q)
  subst z
  unfold PySem.W.clsIn at hcd
  split at hcd
  ·rename_i ho
   have y:=(X _ _ ho).symm.trans htp
   cases y
  ·cases hcd
 ca:=fun X I k=>Zn2 X S I k
variable{X:Cx}{pins:List (Addr×Obj)}{σ:L2.St}{H:Hp}{s:Shared}{dx:Addr}{fs:List (Str×V)}
theorem Z59(I:Inv X pins σ H s)(he:H e=some (XO e (.ref C) (some dx)))(hd:H dx=some (.xd fs)):∃(oe od:Obj) (mA:Str→Option Value),PySem.W.InstAt s.heap e oe C (some od)∧(∀name,PySem.W.lookIn name od=some (mA name))∧∀f,RelO (fs.lookup f) (mA f):=by
 obtain⟨tb,oe,vs,h1,⟨h2,h3⟩,h4,_⟩:=XO.at (I.hok e _ he)
 obtain⟨mA,hn,hr⟩:=(show Yo X.prog X.w H s.heap dx (.xd fs) from I.hok dx _ hd)
 obtain⟨od,q1,q2⟩:=Fg hn
 refine⟨oe,od,mA,⟨h1,h2,by unfold PySem.W.notCls;rw[h4],by rw[h3];exact q1⟩,q2,hr⟩
def rIsX(K:Af):List V→Hp→VK→Prop:=fun xs H Q=>∃e C dx fs c cv b,xs=[.ref e,c]∧H e=some (XO e (.ref C) (some dx))∧H dx=some (.xd fs)∧ExcIs K C∧(∀u,RelV c u→u=cv)∧Kl K (.ref C) cv=some b∧Q (.bl b) H
theorem Z11:Xk X (.builtin "isinstance") (rIsX X.K):=by
 intro pins s σ H xs us Q I r h
 obtain⟨e,C,dx,fs,c,cv,b,rfl,he,hd,S,hc,k,q⟩:=h
 obtain⟨u,v,rfl,ru,rv⟩:=Z01 r
 obtain rfl:u=Ax e:=ru
 cases hc v rv
 obtain⟨oe,od,mA,J,_⟩:=Z59 I he hd
 exact Hr (Z47 S) I.kIn J k (fun z=>nomatch z) fun tk=>⟨.bl b,H,I.tok tk,rfl,q⟩
end
def XP(X:Cx)(pins:List (Addr×Obj))(σ:L2.St)(E:XK)(x:Value)(s':Shared):Prop:=∃(e T:Addr) (cls:Value) (dd:Option Addr) (H':Hp),x= .ref e∧Inv X pins σ H' s'∧FpOk X pins H' T∧T≠e∧H' e=some (XO e cls dd)∧
 ExAt s'.heap e cls dd (.ref T)∧TbAt s'.heap T .none∧E cls dd H'
structure Catch(K:Af)(C D:Addr)(b:Bool):Prop where
 ty:PySem.W.typeIn K (.ref D)=some (.type "type")
 cls:(PySem.W.clsIn K D).isSome=true
 exc:PySem.W.mroIn K D (.type "BaseException")=some true
 sub:PySem.W.mroIn K C (.ref D)=some b
section
open PySem.W
end
end L3
namespace L3
open PySem PyProof.Rows
section
variable{prog:Program}{w:World}{A:Around}{E:Value→Shared→Prop}{s:Shared}
abbrev Y66(h:Heap)(z TI TO:Addr)(f0:Value)(b:Bool):Prop:=
 h.get? z=some {cls:= .type "zip",dict:=none,data:= .fields #[f0,.bool b,.bool false,.ref TI,.ref TO],slots:=#[]}
end
section
variable{prog:Program}{w:World}{A:Around}{E:Value→Shared→Prop}{s:Shared}
structure ZS(h0 h:Heap)(S z TI TO i1 i2 l1 l2:Addr)(xs ys:Array Value)(Ts:List Addr):Prop where
 kept:∀b o,h0.get? b=some o→h.get? b=some o
 zp:(Ts=[]∧Y66 h z TI TO .none false∧∃a b,IsPair h TO a b)∨∃(T:Addr) (b:Bool) (oT:Obj),Y66 h z TI TO (rawInt T) b∧h.get? T=some oT
 ti:IsPair h TI (.ref i1) (.ref i2)
 to:∃o,h.get? TO=some o
 t1:h.IsListIter i1 l1 Ts.length
 t2:h.IsListIter i2 l2 Ts.length
 nd:Ts.Nodup
 tp:∀(j:Nat) T,Ts[j]?=some T→∃x y,xs[j]?=some x∧ys[j]?=some y∧IsPair h T x y
 tb:∀T∈Ts,h0.objs.size≤T∧T≠z∧T≠TO∧T≠i1∧T≠i2∧T≠S
structure ZF(h0:Heap)(S z TI TO i1 i2 l1 l2:Addr)(xs ys:Array Value):Prop where
 D:ZipApart z TI TO i1 i2 l1 l2
 l1:h0.IsList l1 xs
 l2:h0.IsList l2 ys
 nz:h0.objs.size≤z
 nTO:h0.objs.size≤TO
 n1:h0.objs.size≤i1
 n2:h0.objs.size≤i2
 nS:h0.objs.size≤S
 sz:S≠z
 sTI:S≠TI
 sTO:S≠TO
 s1:S≠i1
 s2:S≠i2
end
structure ZEnd(h0 h:Heap)(S:Addr)(xs ys:Array Value)(Ts:List Addr):Prop where
 kept:∀b o,h0.get? b=some o→h.get? b=some o
 len:Ts.length=min xs.size ys.size
 nd:Ts.Nodup
 tp:∀(j:Nat) T,Ts[j]?=some T→∃x y,xs[j]?=some x∧ys[j]?=some y∧IsPair h T x y
 tb:∀T∈Ts,h0.objs.size≤T∧T≠S
 so:∃c,h.get? S=some {cls:= .type "list",dict:=none,data:= .seq (Ts.map Ax).toArray c,slots:=#[]}
end L3
namespace L3
open PySem PySem.Spec PyProof.Rows L2
section
variable{X:Cx}
def tRev(K:Af)(te:TE)(tk:TO):TE:=fun σ H Q=>te σ H fun x H1=>tk σ H1 fun o H2=>o=some (-1)∧∃a xs,x=V.ref a∧SqL K H2 a xs∧∀p,H2 p=none→Q (.ref p) (upd H2 p (.lst xs.reverse))
theorem Yl2{e k:Expr}{te:TE}{tk:TO}{p2 pos:Pos}(he:PE X e te)(hk:PO X (some k) tk):PE X (.Subscript e (.Slice none none (some k) p2) pos) (tRev X.K te tk):=by
 intro pins s σ H Q I h
 refine Subscript_ (thn (he pins s σ H _ I h) fun v s1 zz57=>?_)
 obtain⟨x,H1,I1,r1,q1⟩:=zz57
 refine wpAny_Slice ?_
 simp only[evalPart_none]
 refine Ae (Ae ?_)
 refine thn (hk pins s1 σ H1 _ I1 q1) fun vk s2 zz58=>?_
 obtain⟨o,H2,I2,pk,q2⟩:=zz58
 obtain⟨rfl,a,xs,rfl,hx,q⟩:=q2
 cases r1
 have I3:Inv X pins σ H2 {s2 with heap:=s2.heap.push {cls:= .type "slice",data:= .fields #[.none,.none,vk]}}:=I2.kept (t':=s2.toks) fun b ob q=>Ag _ q
 obtain⟨its,r,ht,hz⟩:=I3.list hx
 have hlen:=r.length
 show wpAny (model X.prog X.w) X.A (subscriptTail e (.Slice none none (some k) p2) (.ref a) (.ref s2.heap.objs.size)) (EP X pins σ Q) X.xe {s2 with heap:=s2.heap.push {cls:= .type "slice",data:= .fields #[.none,.none,vk]}}
 refine tail_any (ops:=[.ref a,.ref s2.heap.objs.size]) ht.isList.typeIs slot_list_getitem.lookup ?_ (by with_unfolding_all rfl)
 refine wpAny_getItem_list_slice ht.isList (Heap.IsSliceOf.new ..) .none .none pk (by simp) ?_ (by rw[Ai]<;>omega)
 rw[PySem.W.krv_pick]
 refine⟨.ref _,_,I3.laid (t':=s2.toks) (o:= .lst xs.reverse) (fun b ob q=>Ag _ q) (Nat.le_refl _) ?_,rfl,q _ (I3.hok.fresh (Nat.le_refl _))⟩
 exact⟨by rw[List.length_reverse];exact hz,_,0,r.reverse,Ar _ rfl⟩
def Yj5(K:Af):V→List V→Hp→VK→Prop:=fun x vs H Q=>∃l xs y k z,x= .ref l∧vs=[y]∧SqL K H l xs∧Wx y=true∧xs.all Wx=true∧xs[k]?=some z∧eqV z y=true∧(∀(j:Nat) u,j<k→xs[j]?=some u→eqV u y=false)∧Q (.int k) H
theorem Zu3:MtR X "list.index" (Yj5 X.K):=by
 intro pins s σ H x vs v us Q I rx rv h
 obtain⟨l,xs,y,k,z,rfl,rfl,hx,fy,fs,hk,he,hno,q⟩:=h
 cases rx
 obtain⟨u,rfl,ru⟩:=Tj rv
 obtain⟨its,r,p,hz⟩:=I.list hx
 obtain⟨⟨cls,dd,data,sl⟩,ho,hc,n,hd⟩:=p.isList
 simp only at hc hd
 subst hc hd
 have hlen:=r.length
 have hkl:=(Ac.mp hk).1
 have ev:∀(j:Nat) (w:V),xs[j]?=some w→∀hj:j<its.toArray.size,eqU y its.toArray[j]=eqV w y:=by
  intro j w hw hj
  obtain⟨u',hu',ru'⟩:=r.get hw
  have hf:Wx w=true:=by
   rw[Hk] at fs
   exact fs w (Al hw)
  have e:its.toArray[j]=u':=by
   have:=(Ac.mp hu').2
   simpa using this
  rw[e];exact Zd8 ru' hf
 have h63:=Rx
 refine Ma PySem.F.slot_list_index ⟨_,ho,rfl⟩ PySem.F.entry_list_index (PySem.F.args_list_index_2 _ _)
  (SeqAt.list_indexAt l its.toArray n dd sl u (eqU y) k (by rw[Ai];omega) (by omega) ?_ ?_) ⟨ho,fun w hw=>Vs ru fy r fs w (by simpa using hw),⟨.int k,H,I.tok _,⟨_,rfl⟩,q⟩⟩
 ·rw[ev k z hk];exact he
 ·intro j hj hlt
  have hj':j<xs.length:=by rw[Ai] at hj;omega
  rw[ev j _ (Aa hj')]
  exact hno j _ hlt (Aa hj')
noncomputable def eqVs(vs ys:List V):Bool:=(Dj (min vs.length ys.length)).all (fun j=>eqV (vs.getD j .non) (ys.getD j .non))&&vs.length==ys.length
noncomputable def eqUT(H:Hp)(ys:List V):Value→Bool
 | .ref a=>match H a with
  | some (.tup vs)=>eqVs vs ys
  | _=>false
 | _=>false
theorem Zz5{x:V}(h:Wx x=true):eqV x x=true:=by
 cases x<;>first | rfl | (simp[eqV];done) | exact absurd (show false=true from h) Bf9
theorem E8{xs:List V}(h:xs.all Wx=true):eqVs xs xs=true:=by
 unfold eqVs
 rw[Bz9,Hk]
 refine⟨fun j hj=>?_,by simp⟩
 rw[He] at hj
 have hl:j<xs.length:=by omega
 rw[Hk] at h
 rw[Aw,Aa hl]
 exact Zz5 (h _ (Hv hl))
theorem Ym9{A:Around}{pins:List (Addr×Obj)}{σ:L2.St}{H:Hp}{s:Shared}(I:Inv X pins σ H s)(hu:A.units+2<cLine){a b:Addr}{vs ys:List V}(ha:H a=some (.tup vs))(hb:H b=some (.tup ys))(fa:vs.all Wx=true)(fb:ys.all Wx=true):Dw A s (.ref a) (.ref b) (eqVs vs ys):=by
 by_cases e:a=b
 ·subst e
  rw[ha] at hb
  cases hb
  rw[E8 fa]
  exact Dw.same _
 ·obtain⟨us,ru,ta,_⟩:=I.tuple (.of ha)
  obtain⟨ws,rw',tb,_⟩:=I.tuple (.of hb)
  have l1:=ru.length
  have l2:=rw'.length
  have key:=SeqAt.RcAt.tuples (A:=A) (e:=fun j=>eqV (vs.getD j .non) (ys.getD j .non)) ta tb (by omega) (fun j h1 h2=>by
   have j1:j<vs.length:=by rw[Ai] at h1;omega
   have j2:j<ys.length:=by rw[Ai] at h2;omega
   obtain⟨u,e1,r1⟩:=ru.get (Aa j1)
   obtain⟨w,e2,r2⟩:=rw'.get (Aa j2)
   have x1:us.toArray[j]=u:=by have:=(Ac.mp e1).2;simpa using this
   have x2:ws.toArray[j]=w:=by have:=(Ac.mp e2).2;simpa using this
   rw[x1,x2,Aw,Aw,Aa j1,Aa j2]
   rw[Hk] at fa fb
   exact Y56 r1 r2 (fa _ (Hv j1)) (fb _ (Hv j2)))
  have hs:((Dj (min us.toArray.size ws.toArray.size)).all (fun j=>eqV (vs.getD j .non) (ys.getD j .non))&&us.toArray.size==ws.toArray.size)=eqVs vs ys:=by
   unfold eqVs
   rw[Ai,Ai,l1,l2]
  rw[hs] at key
  exact Dw.of_refs e key
theorem Yf1{pins:List (Addr×Obj)}{σ:L2.St}{H:Hp}{s:Shared}{h':Heap}{t':Nat}{a b:Addr}(I:Inv X pins σ H s)(k:∀c o,c≠a→c≠b→s.heap.get? c=some o→h'.get? c=some o)(fa:FpOk X pins H a)(fb:FpOk X pins H b):Inv X pins σ H {s with heap:=h',toks:=t'}:=by
 have na:∀c u,H c=some u→c≠a:=by
  intro c u e z
  rw[z,fa.1] at e
  cases e
 have nb:∀c u,H c=some u→c≠b:=by
  intro c u e z
  rw[z,fb.1] at e
  cases e
 have kk:∀c o,c∉[a,b]→s.heap.get? c=some o→h'.get? c=some o:=by
  intro c o hc e
  refine k c o ?_ ?_ e
  ·intro z;apply hc;rw[z];simp
  ·intro z;apply hc;rw[z];simp
 refine I.step (ch:=[a,b]) (g':=s.gens) (d':=s.drawn) ?_ ?_ ?_ ?_ ?_ ?_ ?_ ?_ ?_ ?_ I.bare
 ·intro c hc
  have:c=a∨c=b:=by simpa using hc
  rcases this with rfl | rfl
  ·exact⟨fa.2.2.2.1,fa.2.1,fa.2.2.2.2.1,fa.2.2.2.2.2⟩
  ·exact⟨fb.2.2.2.1,fb.2.1,fb.2.2.2.2.1,fb.2.2.2.2.2⟩
 ·intro c o _ _ hc e _;exact kk c o hc e
 ·intro c o _ _ hc e _;exact⟨o.slots,kk c o hc e⟩
 ·intro _ _ _ _ n;exact n
 ·intro c o hc e;exact⟨o,kk c o hc e⟩
 ·intro _ _ e;exact e
 ·intro _ _ _ e;exact e
 ·intro c ps e;exact⟨#[],by rw[e];simp⟩
 ·rintro m ⟨o,es,ep,ho,r⟩
  exact⟨o,es,ep,k _ o (Hw fa.2.1) (Hw fb.2.1) ho,r⟩
 ·intro c u e
  refine(I.hok c u e).stay ?_ (fun _ q=>q) fun _ _ q=>q
  intro d v hd q
  rcases hd with z | z
  ·subst z;exact k d v (na d u e) (nb d u e) q
  ·exact k d v (na d _ z) (nb d _ z) q
noncomputable def Ite(K:Af)(a:Addr):It:=
 ⟨fun i H=>∃xs x,SqL K H a xs∧xs[i]?=some x,fun i H x H'=>∃p y,H p=none∧H'=upd H p (.tup [.int i,y])∧x= .ref p∧∀xs,SqL K H a xs→xs[i]?=some y,fun i H=>∃xs,SqL K H a xs∧xs.length≤i⟩
theorem Z85{h:Heap}{o u:Obj}{b:Addr}(e:(h.push o).get? b=some u):h.get? b=some u∨b=h.objs.size:=by
 by_cases hb:b=h.objs.size
 ·exact .inr hb
 ·refine .inl ?_
  have hl:=An e
  rw[Hz] at hl
  obtain⟨e1,e2⟩:=Heap.get?_some_iff.mp e
  refine Heap.get?_some_iff.mpr ⟨?_,e2⟩
  cases h
  simpa[Heap.push,Array.getElem?_push,hb] using e1
theorem Zf8{P:Program}{w:World}{K:Af}{elts:List Expr}{x1:Nat}{tp:Pos}(a e it:Addr)(hne:e≠it):
  Turn P w K (.Tuple elts x1 tp) (Ite K a) [e,it] e (fun i h=>(∃old,IsEnum h e it i old)∧h.IsListIter it a i) where
 mem:=by simp
 obj:=by
  rintro i h ⟨⟨old,he⟩,hit⟩ b hb
  have:b=e∨b=it:=by simpa using hb
  rcases this with rfl | rfl
  ·exact⟨_,he,fun v z=>by cases z⟩
  ·obtain⟨o,e,c,d⟩:=hit
   exact⟨o,e,fun v z=>by rw[d] at z;cases z⟩
 keep:=by
  rintro i h h' ⟨⟨old,he⟩,hit⟩ k
  exact⟨⟨old,k e (by simp) _ he⟩,hit.at fun o z=>k it (by simp) o z⟩
 item:=by
  rintro X rfl rfl rfl hc i pins s σ H E I hf ⟨⟨old,he⟩,hit⟩ ⟨xs,x,hq,hx⟩
  obtain⟨its,rv,p,hz⟩:=I.list hq
  obtain⟨u,hu,ru⟩:=rv.get hx
  have fe:=hf e (by simp)
  have fi:=hf it (by simp)
  have le:e<s.heap.objs.size:=An he
  have li:it<s.heap.objs.size:=by obtain⟨o,z,_⟩:=hit;exact An z
  refine wpAny_pyNext_enum_item he hit p.isList (x:=u) (by simpa using hu) hne fun h1 ho hit1 hT hsz hk=>?_
  refine⟨_,rfl,wpAny_letOwnedTupleGo_enum ho fun h2 he2 hs2=>?_⟩
  replace hs2:Ik e h1 h2:=hs2
  have hT2:h2.get? s.heap.objs.size=some {cls:= .type "tuple",data:= .seq #[.int i s.toks,u]}:=(hs2.2 _ (Nat.ne_of_gt le)).trans hT
  have hn:H s.heap.objs.size=none:=I.hok.fresh (Nat.le_refl _)
  have I1:Inv X pins σ (upd H s.heap.objs.size (.tup [.int i,x])) {s with heap:=s.heap.push {cls:= .type "tuple",data:= .seq #[.int i s.toks,u]},toks:=s.toks+1}:=by
   refine I.laid (fun b ob q=>Ag _ q) (Nat.le_refl _) ⟨show 2≤sizeLine by rw[Ib];omega,[.int i s.toks,u],.cons ⟨_,rfl⟩ (.cons ru .nil),⟨_,Ar _ rfl,rfl,_,rfl⟩⟩
  have up:∀b,b<s.heap.objs.size→FpOk X pins H b→FpOk X pins (upd H s.heap.objs.size (.tup [.int i,x])) b:=by
   rintro b lb ⟨f0,f⟩
   refine⟨?_,f⟩
   rw[Y5 (Nat.ne_of_lt lb)]
   exact f0
  have I2:=Yf1 (h':=h2) (t':=s.toks+1) I1 (fun c o ha hb e'=>by
   rcases Z85 e' with z | z
   ·exact(hs2.2 c ha).trans (hk c o ha hb z)
   ·subst z
    have z2:(s.heap.push {cls:= .type "tuple",data:= .seq #[.int i s.toks,u]}).get? s.heap.objs.size=some o:=e'
    rw[Ar _ rfl] at z2
    cases z2
    exact hT2) (up e le fe) (up it li fi)
  refine⟨.ref s.heap.objs.size,_,I2,rfl,⟨_,x,hn,rfl,rfl,fun ys hy=>by rw[I.list_inj hy hq];exact hx⟩,⟨⟨_,by simpa using he2⟩,hit1.at fun o z=>(hs2.2 it (Hw hne)).trans z⟩,fun b hb=>?_⟩
  have:b=e∨b=it:=by simpa using hb
  rcases this with rfl | rfl
  ·exact(up _ le fe).1
  ·exact(up _ li fi).1
 done:=by
  rintro X rfl rfl rfl hc i pins s σ H E I hf ⟨⟨old,he⟩,hit⟩ ⟨xs,hq,hx⟩
  obtain⟨its,rv,p,hz⟩:=I.list hq
  obtain⟨f0,f1,f2,f3,f4,f5⟩:=hf it (by simp)
  have hl:=rv.length
  exact wpAny_pyNext_enum_end (I.ok.hd hc) he hit p.isList (by simp;omega) fun h' eb=>⟨rfl,I.turned (t':=s.toks) (fun b o hb e=>eb b o hb e) f0 f1 f3 f4 f5⟩
 self:=by
  rintro A i s Q E ⟨⟨old,he⟩,hit⟩ h
  exact wpAny_pyIter_enum he h
def Yu9(K:Af)(ta:TA):TI:=fun σ H R=>ta σ H fun vs H1=>∃a,vs=[V.ref a]∧(∃xs,SqL K H1 a xs)∧R (Ite K a) H1
theorem Yb7{elts:List Expr}{x1:Nat}{tp:Pos}{l:Expr}{ta:TA}{p pos:Pos}(hg:Gl X "enumerate")(hm:X.mg "enumerate"=none)(ha:PA X [l] ta)(hs:starEach [l] X.env=[(false,eval l X.env)]):
  PI X (.Tuple elts x1 tp) (.Call (.Name "enumerate" p) [l] [] pos) (Yu9 X.K ta):=by
 intro pins s σ H R I h
 refine Call_ (Ni I hg hm (u:= .type "enumerate") (by kernel_rfl) (Ko (thn (ha pos pins s σ H _ I h) fun us s1 zz59=>?_) hs rfl))
 obtain⟨vs,H1,I1,r1,q1⟩:=zz59
 obtain⟨a,rfl,⟨xs,hq⟩,q⟩:=q1
 obtain⟨u,rfl,ru⟩:=Tj r1
 cases ru
 obtain⟨its,rv,pl,hz⟩:=I1.list hq
 refine call_enumerate_list pl.isList fun h' he hit hsz hk=>?_
 refine wpAny_pyIter_enum he ?_
 have hne:s1.heap.objs.size+1≠s1.heap.objs.size:=by omega
 refine⟨s1.heap.objs.size+1,[s1.heap.objs.size+1,s1.heap.objs.size],_,_,H1,rfl,I1.kept (t':=s1.toks) hk,Zf8 a _ _ hne,⟨⟨_,he⟩,hit⟩,fun b hb=>?_,q⟩
 have hb':s1.heap.objs.size≤b:=by
  have:b=s1.heap.objs.size+1∨b=s1.heap.objs.size:=by simpa using hb
  rcases this with rfl | rfl
  ·exact Nat.le_succ _
  ·exact Nat.le_refl _
 exact I1.fpOk hb' (I1.hok.fresh hb')
end
end L3
namespace PySem
theorem Gm:typeLookup (.type "list") "keys"=pure none:=by rw[typeLookup_type,builtinLookup_eq_fast];kernel_rfl
theorem Yi3{prog:Program}{w:World}{A:Around}{E:Value→Shared→Prop}{s:Shared}{a:Addr}{o:Obj}{xs:Array Value}{k:Nat}{name:Str}{u:Tok}{Q:Value→Shared→Prop}
  (hx:s.heap.get? a=some o) (hc:o.cls= .type "list") (hdat:o.data= .seq xs k) (hd:o.dict=none) (hmiss:typeLookup (.type "list") name=pure none) (hname:(["__module__","__name__","__qualname__","__doc__","__annotations__"]:List Str).contains name=false) (hA:A.handled=none)
  (h:∀h' tk e,Heap.NewExcOf s.heap h' e "AttributeError"→E (.ref e) {s with heap:=h',toks:=tk}) (hsz:name.length+100≤sizeLine:=by size_fits):
  wpAny (model prog w) A (getAttrBy (.ref a) (.str name u) false) Q E s:=by
 obtain⟨c,dct,dat,sl⟩:=o
 simp only at hc hdat hd
 subst hc hdat hd
 obtain⟨hp,g,d,tk,os⟩:=s
 have hT:∀tk',(⟨hp,g,d,tk',os⟩:Shared).TypeIs (.ref a) "list":=fun _=>⟨_,hx,rfl⟩
 have f1:=sub_AttributeError
 have f3:=F.slot_list_getattribute.lookup
 have f4:=F.slot_list_getattribute.bind (.ref a)
 have f5:=am_list_getattr_none
 unfold getAttrBy
 repeat (any_goals (first | assumption | exact hT _ | ((with_reducible show wpAny _ _ (call (Value.builtin "list.__getattribute__") _ _) _ _ _);refine Ma F.slot_list_getattribute (hT _) am_entry_list_getattribute (F.args_list_getattribute_2 _ _) (meets_getattribute_miss_list a xs k sl name _ hmiss hname hsz) ⟨hx,hA,fun h' tk' e hx'=>?_⟩) | wp_step))
 obtain⟨t',u',he⟩:=hx'.there
 show wpAny _ _ (getattributeRaised _ _ _ _ _ _ _) _ _ _
 unfold getattributeRaised
 repeat (any_goals (first | assumption | wp_step))
 exact h _ _ _ hx'.of
theorem Yb5{prog:Program}{w:World}{A:Around}{E:Value→Shared→Prop}{s:Shared}{a:Addr}{o:Obj}{xs:Array Value}{k:Nat}{Q:Option Value→Shared→Prop}
  (hx:s.heap.get? a=some o) (hc:o.cls= .type "list") (hdat:o.data= .seq xs k) (hd:o.dict=none) (hA:A.handled=none)
  (h:∀h' tk,(∀b o,s.heap.get? b=some o→h'.get? b=some o)→Q none {s with heap:=h',toks:=tk}):wpAny (model prog w) A (getAttr? (.ref a) "keys") Q E s:=by
 obtain⟨hp,g,d,tk,os⟩:=s
 unfold getAttr? getAttrBy?
 have f1:=sub_AttributeError
 repeat (any_goals (first | assumption | ((with_reducible show wpAny _ _ (getAttrBy _ _ false) _ _ _);refine Yi3 hx hc hdat hd Gm (by decide+kernel) hA fun h' tk' e hx'=>?_;obtain⟨ob,vs,he,hcl,_,_⟩:=hx'.there;refine Ab (wpAny_isInstance (T:="AttributeError") ⟨ob,he,hcl⟩ f1 ?_);exact Ae (h h' tk' hx'.keeps)) | wp_step))
section
variable{prog:Program}{w:World}{A:Around}{E:Value→Shared→Prop}{R:Result→Shared→Prop}
theorem Sa:entryFor table "dict.update.loop"=some Builtin.«dict.update.loop»:=entryFor_of_tree (by kernel_rfl)
theorem X7:plainId "dict.update.loop"=true:=by decide+kernel
def Yh1{K:Type}[DecidableEq K](knd:KeyKind prog w K)(h:Heap)(v:Value)(p:K×Value):Prop:=∃t u,v= .ref t∧h.IsTuple t #[u,p.2]∧knd.is p.1 u=true
theorem Z18{K:Type}[DecidableEq K]{knd:KeyKind prog w K}{h:Heap}{d I l:Addr}{i:Nat}{kvs:List (K×Value)}(hd:h.DictOf knd d kvs)(hI:h.IsListIter I l i):d≠I:=by
 rintro rfl
 obtain⟨o,_,_,ho,_,hc,_⟩:=hd
 obtain⟨o2,ho2,_,hc2⟩:=hI
 rw[ho] at ho2
 cases ho2
 rw[hc] at hc2
 cases hc2
theorem Y81{K:Type}[DecidableEq K]{knd:KeyKind prog w K}{l I d:Addr}{items:Array Value}{ps:List (K×Value)}(hh:A.in1.handled=none)(hsz:items.size<sizeLine)(hps:ps.length=items.size):
  ∀(k i:Nat) (s:Shared) (kvs:List (K×Value)) (t:Tok),items.size - i=k→i≤items.size→kvs.length≤i→
  s.heap.IsListIter I l i→s.heap.IsList l items→s.heap.DictOf knd d kvs→(∀(j:Nat) v p,items[j]?=some v→ps[j]?=some p→Yh1 knd s.heap v p)→
  (∀h' tk,h'.DictOf knd d ((ps.drop i).foldl (fun m p=>stored m p.1 p.2) kvs)→(∀b o,b≠I→b≠d→s.heap.get? b=some o→h'.get? b=some o)→R (.ok (.ret .none)) {s with heap:=h',toks:=tk})→
  codeAny (model prog w) A (.builtin "dict.update.loop" ⟨[.ref d,.ref I,.int i t,.none],[]⟩) R s:=by
 intro k
 induction k with
 | zero=>
  intro i s kvs t hk hi hkv hI hl hd hp q
  have hin:i=items.size:=by omega
  refine Ic Sa ?_
  rw[Ht X7 _]
  show wpAny _ A.in1 (pyNext (.ref I) >>=_) _ _ s
  refine Ab (wpAny_pyNext_list_end hh hI hl (by rw[hin];simp) fun h' he=>?_)
  show wpAny _ _ (Builtin.Dict.addKeywords d [] >>=_) _ _ _
  refine Ab (Ae (Ae ?_))
  have hdI:=Z18 hd hI
  refine q h' _ ?_ fun b o h1 _ e=>he b o h1 e
  rw[List.drop_of_length_le (by omega)]
  exact hd.extBut he hdI
 | succ k ih=>
  intro i s kvs t hk hi hkv hI hl hd hp q
  have hlt:i<items.size:=by omega
  obtain⟨v,hv⟩:∃v,items[i]?=some v:=⟨_,Bk hlt⟩
  obtain⟨p,hpi⟩:∃p,ps[i]?=some p:=⟨_,Aa (by omega)⟩
  refine Ic Sa ?_
  rw[Ht X7 _]
  show wpAny _ A.in1 (pyNext (.ref I) >>=_) _ _ s
  refine Ab (wpAny_pyNext_list_item hI hl hv fun h' hI' hs'=>?_)
  obtain⟨tt,u,rfl,htp,hku⟩:=hp i v p hv hpi
  have hdI:=Z18 hd hI
  have keepI:∀b o,b≠I→s.heap.get? b=some o→h'.get? b=some o:=fun b o hb e=>(hs'.2 b hb).trans e
  have tI:tt≠I:=by
   rintro rfl
   obtain⟨o,ho,_,n,hc⟩:=htp
   obtain⟨o2,ho2,_,hc2⟩:=hI
   rw[ho] at ho2;cases ho2;rw[hc] at hc2;cases hc2
  have lI:l≠I:=by
   rintro rfl
   obtain⟨o,ho,_,n,hc⟩:=hl
   obtain⟨o2,ho2,_,hc2⟩:=hI
   rw[ho] at ho2;cases ho2;rw[hc] at hc2;cases hc2
  have nd:∀(b:Addr) (o:Obj) xs n,s.heap.get? b=some o→o.data= .seq xs n→b≠d∧b≠I:=by
   intro b o xs n ho hc
   constructor
   ·rintro rfl
    obtain⟨o2,_,_,ho2,_,hc2,_⟩:=hd
    rw[ho] at ho2;cases ho2;rw[hc] at hc2;cases hc2
   ·rintro rfl
    obtain⟨o2,ho2,_,hc2⟩:=hI
    rw[ho] at ho2;cases ho2;rw[hc] at hc2;cases hc2
  obtain⟨ot,hot,hct,nt,hdt⟩:=id htp
  show wpAny _ _ (holding [.ref tt] _ >>=_) _ _ _
  refine Ab (Ex (Ab (wpAny_tryCatch ?_)))
  unfold Builtin.Dict.pairItems
  refine Ab (Ld (T:="tuple") ⟨ot,keepI _ _ tI hot,hct⟩ ?_)
  rw[if_pos (by decide)]
  refine Ab (wpAny_seqItems (keepI _ _ tI hot) hdt ?_)
  refine Ae ?_
  show wpAny _ _ (holding [u,p.2] (dictSet d u p.2)) _ _ _
  have hd':h'.DictOf knd d kvs:=hd.extBut (fun b o hb e=>keepI b o hb e) hdI
  refine Ex (wpAny_dictSet_pairs hku hd' (fun h2 hd2 hs2=>?_) (by omega))
  refine Ae ⟨Kw X7 _,?_⟩
  have keep2:∀b o,b≠I→b≠d→s.heap.get? b=some o→h2.get? b=some o:=fun b o h1 h3 e=>(hs2.2 b h3).trans (keepI b o h1 e)
  have:=ih (i+1) {s with heap:=h2,toks:=s.toks+1} (stored kvs p.1 p.2) 0 (by omega) (by omega) ?_ ?_ ?_ hd2 ?_ ?_
  ·exact this
  ·unfold stored
   split
   ·rw[Ad];omega
   ·rw[Ah,Dh];omega
  ·obtain⟨o,ho,r⟩:=hI'
   exact⟨o,(hs2.2 I (Hw hdI)).trans ho,r⟩
  ·obtain⟨o,ho,hc,n,r⟩:=hl
   exact⟨o,keep2 _ _ (nd _ _ _ _ ho r).2 (nd _ _ _ _ ho r).1 ho,hc,n,r⟩
  ·intro j v p' h1 h3
   obtain⟨t3,u3,e3,⟨o,ho,hc,n,r⟩,g3⟩:=hp j v p' h1 h3
   exact⟨t3,u3,e3,⟨o,keep2 _ _ (nd _ _ _ _ ho r).2 (nd _ _ _ _ ho r).1 ho,hc,n,r⟩,g3⟩
  ·intro h3 tk3 hd3 k3
   refine q h3 tk3 ?_ fun b o h1 h4 e=>k3 b o h1 h4 (keep2 b o h1 h4 e)
   rw[Ke (by omega:i<ps.length)]
   rw[Aa (by omega)] at hpi
   cases hpi
   exact hd3
variable{s:Shared}
theorem Yf6{K:Type}[DecidableEq K]{knd:KeyKind prog w K}{l:Addr}{o:Obj}{n:Nat}{items:Array Value}{ps:List (K×Value)}{Q:Value→Shared→Prop}(hh:A.handled=none)
  (ho:s.heap.get? l=some o) (hc:o.cls= .type "list") (hdat:o.data= .seq items n) (hdi:o.dict=none) (hsz:items.size<sizeLine) (hps:ps.length=items.size)
  (hp:∀(j:Nat) v p,items[j]?=some v→ps[j]?=some p→Yh1 knd s.heap v p)
  (h:∀h' tk,h'.DictOf knd s.heap.objs.size (ps.foldl (fun m p=>stored m p.1 p.2) [])→(∀b o,s.heap.get? b=some o→h'.get? b=some o)→Q (.ref s.heap.objs.size) {s with heap:=h',toks:=tk}):
  wpAny (model prog w) A (call (.type "dict") [.ref l]) Q E s:=by
 refine callType_codes (Q₁:=fun obj s₁=>obj= .ref s.heap.objs.size∧s₁={s with heap:=s.heap.push {cls:= .type "dict",data:= .dict #[]}}) F.kt_called_dict (F.kt_typeCall_dict_1 _) F.entry_dict_init (kt_code_dict_new _ ⟨rfl,rfl⟩) ?_
 rintro obj s₁ ⟨rfl,rfl⟩
 have hnew:(s.heap.push {cls:= .type "dict",data:= .dict #[]}).DictOf knd s.heap.objs.size []:=Heap.DictOf.new s.heap
 refine⟨hnew.typeIs,F.args_dict_init_2 _ _,?_⟩
 unfold Builtin.«dict.__init__»
 refine Ab ?_
 unfold Builtin.Dict.selfAndRest
 refine Ab (wpAny_notOrdered_dict hnew.typeIs ?_)
 show wpAny _ _ (pure (s.heap.objs.size,[Ax l])) _ _ _
 refine Ae ?_
 show wpAny _ _ (Builtin.Dict.updateFrom "dict.__init__" s.heap.objs.size (.ref l) [] .none) _ _ _
 unfold Builtin.Dict.updateFrom
 have ho':(s.heap.push {cls:= .type "dict",data:= .dict #[]}).get? l=some o:=Ag _ ho
 refine Ab (Ld (T:="list") ⟨o,ho',hc⟩ ?_)
 rw[if_pos (by decide)]
 refine Ab (Yb5 ho' hc hdat hdi (by first | exact hh | rfl) fun h1 tk1 k1=>?_)
 simp only[Option.isNone_none,if_true]
 have hl1:h1.IsList l items:=⟨o,k1 _ _ ho',hc,n,hdat⟩
 have hd1:h1.DictOf knd s.heap.objs.size []:=by
  obtain⟨q,es,ep,hq,r⟩:=hnew
  exact⟨q,es,ep,k1 _ _ hq,r⟩
 have old:∀b o,s.heap.get? b=some o→h1.get? b=some o:=fun b o e=>k1 b o (Ag _ e)
 refine Ab (wpAny_rule ?_)
 refine Ab (wpAny_pyIter_list hl1 ?_)
 refine Ae ⟨Kw X7 _,?_⟩
 refine Y81 (A:=A.in1) (knd:=knd) (ps:=ps) hh hsz hps _ 0 _ [] 0 rfl (Nat.zero_le _) (Nat.zero_le _) ⟨_,Ar _ rfl,rfl,rfl⟩ (hl1.push _) (hd1.push _) ?_ ?_
 ·intro j v p h2 h3
  obtain⟨t,u,e,⟨q,hq,r⟩,g⟩:=hp j v p h2 h3
  exact⟨t,u,e,⟨q,Ag _ (old _ _ hq),r⟩,g⟩
 ·intro h' tk hd' hk
  refine⟨rfl,h h' tk hd' fun b o e=>hk b o ?_ ?_ (Ag _ (old _ _ e))⟩
  ·exact Nat.ne_of_lt (An (old _ _ e))
  ·exact Nat.ne_of_lt (An e)
end
end PySem
namespace L3
open PySem PySem.Spec PyProof.Rows L2
section
variable{X:Cx}{pins:List (Addr×Obj)}{σ:L2.St}{H:Hp}{s:Shared}
def Cb(K:Af)(H:Hp):List V→List (Key×V)→Prop
 | [],[]=>True
 | v::r,p::q=>(∃t,v= .ref t∧SqT K H t [kV p.1,p.2])∧Cb K H r q
 | _,_=>False
theorem Z42(I:Inv X pins σ H s):∀(vs:List V) (its:List Value) (ps:List (Key×V)),Vals vs its→Cb X.K H vs ps→∃ps',KV ps ps'∧ps'.length=its.length∧∀(j:Nat) v p,its[j]?=some v→ps'[j]?=some p→Yh1 (Zj X.prog X.w) s.heap v p
 | [],its,ps,r,h=>by
  cases ps with
  | cons _ _=>exact h.elim
  | nil=>
   have:=r.length
   cases its with
   | cons _ _=>simp at this
   | nil=>exact⟨[],by constructor,rfl,fun j v p h=>by simp at h⟩
 | v::vs,its,ps,r,h=>by
  cases ps with
  | nil=>exact h.elim
  | cons p ps=>
   obtain⟨⟨t,rfl,ht⟩,h⟩:=h
   cases r with
   | @cons _ u _ its ru r=>
   cases (show u=Ax t from ru)
   obtain⟨w2,r2,ht2,_⟩:=I.tuple ht
   obtain⟨u1,u2,rfl,s1,s2⟩:=Z01 r2
   obtain⟨ps',k1,k2,k3⟩:=Z42 I vs its ps r h
   refine⟨(p.1,u2)::ps',.cons ⟨rfl,s2⟩ k1,by rw[Au,Au,k2],fun j v q h1 h2=>?_⟩
   cases j with
   | zero=>
    cases h1;cases h2
    exact⟨t,u1,rfl,ht2,Nz s1⟩
   | succ j=>exact k3 j v q h1 h2
theorem Zp2:∀{ps:List (Key×V)} {ps':List (Key×Value)} {kvs:List (Key×V)} {vs:List (Key×Value)},KV ps ps'→KV kvs vs→KV (ps.foldl (fun m p=>putK m p.1 p.2) kvs) (ps'.foldl (fun m p=>stored m p.1 p.2) vs)
 | _,_,_,_,.nil,h=>h
 | _,_,_,_,.cons e r,h=>by
  rw[Iu,Iu]
  refine Zp2 r ?_
  rw[e.1]
  exact h.put _ e.2
theorem Z39:∀(ps:List (Key×V)) (kvs:List (Key×V)),(ps.foldl (fun m p=>putK m p.1 p.2) kvs).length≤kvs.length+ps.length
 | [],kvs=>Nat.le_refl _
 | p::ps,kvs=>by
  rw[Iu,Au]
  have:=Z39 ps (putK kvs p.1 p.2)
  have:=Wf kvs p.1 p.2
  omega
theorem Em{K:Af}:∀{vs:List V} {ps:List (Key×V)},Cb K H vs ps→vs.length=ps.length
 | [],[],_=>rfl
 | _::_,_::_,h=>by rw[Au,Au,Em h.2]
theorem Zb0(hc:X.calm=true):Xk X (.type "dict") (fun xs H Q=>∃(a:Addr) (vs:List V) (ps:List (Key×V)),xs=[V.ref a]∧SqL X.K H a vs∧Cb X.K H vs ps∧vs.length<sizeLine∧
  ∀p,H p=none→Q (.ref p) (upd H p (.dK (ps.foldl (fun m p=>putK m p.1 p.2) [])))):=by
 intro pins s σ H xs us Q I r h
 obtain⟨a,vs,ps,rfl,hx,hp,hz,q⟩:=h
 obtain⟨u,rfl,ru⟩:=Tj r
 cases ru
 obtain⟨its,rv,⟨o,n,ho,h1,h2,h3⟩,_⟩:=I.list hx
 obtain⟨ps',k1,k2,k3⟩:=Z42 I vs its ps rv hp
 have hl:=rv.length
 have hl2:=Em hp
 refine Yf6 (knd:=Zj X.prog X.w) (ps:=ps') (I.ok.hd hc) ho h1 h3 h2 (by rw[Ai];omega) (by rw[Ai];exact k2) (fun j v p e1 e2=>k3 j v p (by simpa using e1) e2) fun h' tk dd keep=>?_
 have lf:=Z39 ps []
 refine⟨.ref _,_,I.laid (a:=s.heap.objs.size) (o:= .dK (ps.foldl (fun m p=>putK m p.1 p.2) [])) (t':=tk) keep (Nat.le_refl _) (Z22 (by rw[Io] at lf;omega) (beq_eq_false_iff_ne.mpr (Hw (Nat.ne_of_lt I.big))) (Zp2 k1 .nil) dd),rfl,q _ (I.hok.fresh (Nat.le_refl _))⟩
end
end L3
namespace SW
open PySem
def Rise(xs:Array Nat):Prop:=∀i k,i<k→k<xs.size→xs.getD i 0<xs.getD k 0
theorem Rise.le{xs:Array Nat}(h:Rise xs){i k:Nat}(a:i≤k)(b:k<xs.size):xs.getD i 0≤xs.getD k 0:=by
 rcases Nat.lt_or_eq_of_le a with a | rfl
 ·exact Nat.le_of_lt (h i k a b)
 ·exact Nat.le_refl _
theorem Y76{xs:Array Nat}{i:Nat}(h:i<xs.size)(a b:Nat):xs.getD i a=xs.getD i b:=by
 rw[Az,Az,Bk h];rfl
structure At(xs:Array Nat)(j i:Nat):Prop where
 le:i≤xs.size
 lo:∀k,k<i→xs.getD k 0<j
 hi:∀k,i≤k→k<xs.size→j≤xs.getD k 0
theorem Yb8{xs:Array Nat}(h:Rise xs)(j:Nat):∀(fuel lo hi:Nat),hi - lo≤fuel→lo≤hi→hi≤xs.size→(∀k,k<lo→xs.getD k 0<j)→(∀k,hi≤k→k<xs.size→j≤xs.getD k 0)→At xs j (Hf.go xs j fuel lo hi)
 | 0,lo,hi,hf,hl,hs,a,b=>by
  have e:lo=hi:=by omega
  subst e
  exact⟨hs,a,b⟩
 | fuel+1,lo,hi,hf,hl,hs,a,b=>by
  unfold Hf.go
  by_cases hlt:lo<hi
  ·rw[if_pos hlt]
   dsimp only
   have hm:(lo+hi) / 2<hi:=by omega
   have hm2:lo≤(lo+hi) / 2:=by omega
   rw[Y76 (by omega:(lo+hi) / 2<xs.size) j 0]
   by_cases hc:xs.getD ((lo+hi) / 2) 0<j
   ·rw[if_pos hc]
    exact Yb8 h j fuel _ _ (by omega) (by omega) hs (fun k hk=>Nat.lt_of_le_of_lt (h.le (by omega) (by omega)) hc) b
   ·rw[if_neg hc]
    exact Yb8 h j fuel _ _ (by omega) (by omega) (by omega) a (fun k hk hk2=>Nat.le_trans (by omega) (h.le hk hk2))
  ·rw[if_neg hlt]
   have e:lo=hi:=by omega
   subst e
   exact⟨hs,a,b⟩
theorem Vj{xs:Array Nat}(h:Rise xs)(j:Nat):At xs j (Hf xs j):=by
 unfold Hf
 exact Yb8 h j _ _ _ (by omega) (by omega) (Nat.le_refl _) (fun k hk=>by omega) (fun k a b=>by omega)
theorem At.uniq{xs:Array Nat}{j i i':Nat}(a:At xs j i)(b:At xs j i'):i=i':=by
 rcases Nat.lt_trichotomy i i' with h | h | h
 ·have h1:=b.lo i h
  have h2:=a.hi i (Nat.le_refl _) (by have:=b.le;omega)
  omega
 ·exact h
 ·have h1:=a.lo i' h
  have h2:=b.hi i' (Nat.le_refl _) (by have:=a.le;omega)
  omega
theorem Z88{xs:Array Nat}(h:Rise xs):Hf xs 0=0:=(Vj h 0).uniq ⟨Nat.zero_le _,fun k hk=>by omega,fun k _ _=>Nat.zero_le _⟩
theorem Z94{xs:Array Nat}(h:Rise xs){i:Nat}(hi:i<xs.size):Hf xs (xs.getD i 0+1)=i+1:=
 (Vj h _).uniq ⟨hi,fun k hk=>by have:=h.le (show k≤i by omega) hi;omega,fun k a b=>h i k (by omega) b⟩
theorem Wo{α:Type}(xs:Array α)(p:Nat)(x:α)(h:p≤xs.size):(Hg xs p x).size=xs.size+1:=by
 unfold Hg
 simp only[Array.size_append,Array.size_push,Array.size_extract]
 omega
theorem V5{xs:Array Nat}{p x:Nat}(h:p≤xs.size)(k:Nat):(Hg xs p x).getD k 0=if k<p then xs.getD k 0 else if k=p then x else xs.getD (k - 1) 0:=by
 unfold Hg
 simp only[Az,Array.getElem?_append,Array.size_push,Array.size_extract,Array.getElem?_push,Array.getElem?_extract,Nat.min_eq_left h,Nat.sub_zero,Nat.zero_add]
 by_cases h1:k<p
 ·rw[if_pos (by omega),if_neg (by omega),if_pos h1,if_pos h1]
 ·by_cases h2:k=p
  ·subst h2
   rw[if_pos (by omega),if_pos rfl,if_neg (by omega),if_pos rfl];rfl
  ·rw[if_neg (by omega),if_neg h1,if_neg h2,Nat.min_self]
   by_cases h3:k - 1<xs.size
   ·rw[if_pos (by omega),show p+(k - (p+1))=k - 1 by omega]
   ·rw[if_neg (by omega),Array.getElem?_eq_none (by omega)]
theorem B0{xs:Array Nat}(h:Rise xs){j:Nat}(hn:xs[Hf xs j]?≠some j):Rise (Hg xs (Hf xs j) j):=by
 have a:=Vj h j
 generalize Hf xs j=p at a hn ⊢
 have hgt:∀k,p≤k→k<xs.size→j<xs.getD k 0:=by
  intro k h1 h2
  have h3:=a.hi k h1 h2
  rcases Nat.lt_or_eq_of_le h3 with h4 | h4
  ·exact h4
  ·exfalso
   have h5:=a.hi p (Nat.le_refl _) (by omega)
   have h6:=h.le h1 h2
   have h7:xs.getD p 0=j:=by omega
   apply hn
   rw[Az,Bk (by omega)] at h7
   rw[Bk (by omega)]
   exact congrArg some h7
 intro i k hik hk
 rw[Wo _ _ _ a.le] at hk
 rw[V5 a.le,V5 a.le]
 by_cases h1:i<p
 ·rw[if_pos h1]
  by_cases h2:k<p
  ·rw[if_pos h2];exact h i k hik (by have:=a.le;omega)
  ·rw[if_neg h2]
   by_cases h3:k=p
   ·rw[if_pos h3];exact a.lo i h1
   ·rw[if_neg h3];exact Nat.lt_trans (a.lo i h1) (hgt _ (by omega) (by omega))
 ·rw[if_neg h1,if_neg (show ¬k<p by omega),if_neg (show ¬k=p by omega)]
  by_cases h3:i=p
  ·rw[if_pos h3];exact hgt _ (by omega) (by omega)
  ·rw[if_neg h3];exact h _ _ (by omega) (by omega)
theorem Za1(n:Nat):Rise (Array.range n):=by
 intro i k h1 h2
 rw[Array.size_range] at h2
 simp only[Az,Array.getElem?_range]
 rw[if_pos (by omega),if_pos h2]
 exact h1
structure TOk(t:SetTable)(led:Bool):Prop where
 rise:Rise t.place
 dum:t.dummies=#[]
 led:t.led=led
theorem Z62(j:Nat):SetTable.has #[] j=false:=rfl
theorem Rh{t:SetTable}(hd:t.dummies=#[])(j:Nat):t.slot j≠ .dummy:=by
 unfold SetTable.slot
 dsimp only
 rw[hd,Z62]
 split
 ·intro h;cases h
 ·intro h;rw[if_neg (by decide)] at h;cases h
theorem Zb5{t:SetTable}{j:Nat}(h:t.slot j= .empty):t.place[Hf t.place j]?≠some j:=by
 intro e
 unfold SetTable.slot at h
 dsimp only at h
 rw[if_pos (by rw[e];simp)] at h
 cases h
theorem Pk(t:SetTable)(p:Ia):(t.advance p).dummy=p.dummy:=by
 unfold SetTable.advance
 split
 ·rfl
 ·rfl
theorem Z49{t:SetTable}(hd:t.dummies=#[])(f:Nat→Int)(h:Int):∀(fuel:Nat) (p:Ia) (j:Nat) (d:Option Nat),p.dummy=none→Ki t f h fuel p=some (.empty j d)→d=none∧t.slot j= .empty
 | 0,p,j,d,_,e=>by cases e
 | fuel+1,p,j,d,hp,e=>by
  unfold Ki at e
  cases hs:t.slot p.j with
  | empty=>
   rw[hs] at e
   cases e
   exact⟨hp,hs⟩
  | dummy=>exact absurd hs (Rh hd _)
  | live i=>
   rw[hs] at e
   dsimp only at e
   split at e
   ·cases e
   ·exact Z49 hd f h fuel _ j d (by rw[Pk,hp]) e
theorem Zc5{t:SetTable}(hd:t.dummies=#[]){h:Int}{k:Nat}{b:Bool}(e:t.freeSlot h=some (k,b)):t.slot k= .empty∧b=false:=by
 unfold SetTable.freeSlot at e
 split at e
 ·rename_i j dm hm
  cases e
  unfold Mh at hm
  obtain⟨rfl,h2⟩:=Z49 hd _ _ _ _ _ _ rfl hm
  exact⟨h2,rfl⟩
 ·cases e
theorem Qd{t:SetTable}{led:Bool}(h:TOk t led)(n:Nat):TOk (t.standIn n) led:=⟨Za1 n,rfl,h.led⟩
theorem Z75{t:SetTable}{led:Bool}(h:TOk t led)(n:Nat):TOk (t.orStandIn n) led:=by
 unfold SetTable.orStandIn
 split
 ·exact h
 ·exact Qd h n
theorem Y54{t:SetTable}{led:Bool}(h:TOk t led){j:Nat}(e:t.slot j= .empty):TOk (t.put j).1 led:=by
 unfold SetTable.put
 dsimp only
 refine⟨B0 h.rise (Zb5 e),?_,h.led⟩
 dsimp only
 rw[h.dum,Z62]
 rfl
theorem Yq5{t:SetTable}{led:Bool}(h:TOk t led)(es:Array (Int×Value))(k:Int)(x:Value):TOk (layNew t es k x).2.1 led:=by
 unfold layNew
 cases e:t.freeSlot k with
 | none=>exact Qd h _
 | some s=>
  obtain⟨slot,b⟩:=s
  dsimp only
  exact Z75 (Y54 h (Zc5 h.dum e).1) _
theorem Yi0{l:List Nat}(hp:l.Pairwise (· < ·)):Rise l.toArray:=by
 intro i k hik hk
 rw[Ai] at hk
 have:=List.pairwise_iff_getElem.mp hp i k (by omega) hk hik
 simp only[Az,Kc]
 rw[Aa hk,Aa (by omega)]
 exact this
theorem El(owner:Array (Option Nat))(n:Nat):Rise ((((Dj n).filterMap fun j=>(owner.getD j none).map (j,·)).map (·.1)).toArray):=by
 refine Yi0 ?_
 rw[Lw]
 refine List.Pairwise.filterMap _ (R:=(· < ·)) ?_ List.pairwise_lt_range
 intro a b hab x hx y hy
 obtain⟨_,_,rfl⟩:=Di.mp hx
 obtain⟨_,_,rfl⟩:=Di.mp hy
 exact hab
theorem Zy2{t:SetTable}{led:Bool}(h:TOk t led)(es:Array (Int×Value))(n:Nat):TOk (relayAll t es n).2.1 led:=by
 unfold relayAll
 cases e:t.relaid (es.map (·.1)) n with
 | none=>exact Qd h _
 | some s=>
  obtain⟨t',order⟩:=s
  dsimp only
  split
  ·unfold SetTable.relaid SetTable.laid at e
   cases e2:Kx (Kd n - 1) (es.map (·.1)) with
   | none=>rw[e2] at e;cases e
   | some owner=>
    rw[e2] at e
    cases e
    exact⟨El _ _,rfl,h.led⟩
  ·exact Qd h _
end SW
namespace SW
open PySem PyProof.Rows
section
variable{M:Model}{prog:Program}{w:World}{A:Around}{E:Value→Shared→Prop}{s:Shared}
theorem Pl{α:Type}:∀(xs:List α) (i:Nat) (h:i<xs.length),(xs[i]::xs.eraseIdx i).Perm xs
 | x::xs,0,_=>Ly _
 | x::xs,i+1,h=>by
  have:=Pl xs i (by simpa using h)
  exact(Mg.swap _ _ _).trans (this.cons x)
theorem Z95{src:Source}{n:Nat}{Q:Nat→Shared→Prop}(hn:n≠0)(h:∀i d,i<n→Q i {s with drawn:=d}):wpAny M A (choose src n) Q E s:=
 fun Γ p hΓ=>⟨hn,h _ _ (Nat.mod_lt _ (Nat.pos_of_ne_zero hn))⟩
theorem Z45{α:Type}:∀(n:Nat) (xs:List α) (s:Shared) (Q:List α→Shared→Prop),xs.length=n→(∀ys d,ys.Perm xs→Q ys {s with drawn:=d})→wpAny M A (drawOrder n xs) Q E s
 | 0,xs,s,Q,e,h=>by
  cases Ih.mp e
  unfold drawOrder
  exact Ae (h [] s.drawn (Ly _))
 | n+1,[],s,Q,e,h=>by cases e
 | n+1,x::xs,s,Q,e,h=>by
  unfold drawOrder
  refine Ab (Z95 (by simp) fun i d hi=>?_)
  rw[Aa hi]
  dsimp only
  refine Ab (Z45 n _ _ _ ?_ fun ys d2 hp=>Ae (h _ d2 ?_))
  ·rw[List.length_eraseIdx,if_pos hi];omega
  ·exact(hp.cons _).trans (Pl (x::xs) i hi)
inductive KeysOf {K:Type} [DecidableEq K] (knd:KeyKind prog w K):List K→List (Int×Value)→Prop
 | nil:KeysOf knd [] []
 | cons {k:K} {e:Int×Value} {ks:List K} {l:List (Int×Value)} (h:knd.is k e.2=true) (r:KeysOf knd ks l):KeysOf knd (k::ks) (e::l)
variable{K:Type}[DecidableEq K]{knd:KeyKind prog w K}
theorem KeysOf.len{ks:List K}{l:List (Int×Value)}(h:KeysOf knd ks l):ks.length=l.length:=by
 induction h with
 | nil=>rfl
 | cons _ _ ih=>rw[Au,Au,ih]
theorem KeysOf.mem{ks:List K}{l:List (Int×Value)}(h:KeysOf knd ks l){k:K}:k∈ks↔∃e∈l,knd.is k e.2=true:=by
 induction h with
 | nil=>simp
 | cons h r ih=>
  rename_i k' e ks l
  rw[Ao,ih]
  constructor
  ·rintro(rfl | ⟨e,he,q⟩)
   ·exact⟨_,De,h⟩
   ·exact⟨e,Dd _ he,q⟩
  ·rintro⟨e',he,q⟩
   rcases Ao.mp he with rfl | he
   ·exact .inl (knd.inj _ _ _ q h)
   ·exact .inr ⟨e',he,q⟩
theorem KeysOf.app{ks ks':List K}{l l':List (Int×Value)}(h:KeysOf knd ks l)(g:KeysOf knd ks' l'):KeysOf knd (ks++ks') (l++l'):=by
 induction h with
 | nil=>exact g
 | cons h _ ih=>exact .cons h ih
theorem KeysOf.perm{l l':List (Int×Value)}(p:l'.Perm l):∀{ks:List K},KeysOf knd ks l→∃ks',ks'.Perm ks∧KeysOf knd ks' l':=by
 induction p with
 | nil=>intro ks h;exact⟨ks,Ly _,h⟩
 | cons x p ih=>
  intro ks h
  cases h with
  | cons h r=>
   obtain⟨ks',a,b⟩:=ih r
   exact⟨_,a.cons _,.cons h b⟩
 | swap x y l=>
  intro ks h
  cases h with
  | cons h r=>
   cases r with
   | cons h2 r=>exact⟨_,Mg.swap _ _ _,.cons h2 (.cons h r)⟩
 | trans p q ih1 ih2=>
  intro ks h
  obtain⟨k1,a1,b1⟩:=ih2 h
  obtain⟨k2,a2,b2⟩:=ih1 b1
  exact⟨k2,a2.trans a1,b2⟩
structure SetO(knd:KeyKind prog w K)(led:Bool)(o:Obj)(ks:List K):Prop where
 ex:o.ExactSet
 dat:∃es ep t,o.data= .set es ep t∧ElemsOf knd es.toList∧KeysOf knd ks es.toList∧t.fits es.size=true∧TOk t led
 nd:ks.Nodup
 sm:ks.length<scanBound
theorem Y00{t:SetTable}{led:Bool}(h:TOk t led):TOk {t with plain:=false} led:=⟨h.rise,h.dum,h.led⟩
theorem Yg1{led:Bool}{a:Addr}{o:Obj}{k:K}{x:Value}{ks:List K}{Q:Bool→Shared→Prop}(hk:knd.is k x=true)(hx:x.scannable=true)(ho:s.heap.get? a=some o)(hS:SetO knd led o ks)(hr:ks.length+1<scanBound)
  (h:∀b h' o' ks',Ik a s.heap h'→h'.get? a=some o'→SetO knd led o' ks'→(k∈ks→ks'=ks)→(k∉ks→ks'.Perm (ks++[k]))→Q b {s with heap:=h'}):
  wpAny (model prog w) A (setAddHashed a x (knd.hash k)) Q E s:=by
 obtain⟨es,ep,t,hd,he,hks,hf,ht⟩:=hS.dat
 have hlen:=hks.len
 have hl2:es.toList.length=es.size:=Df
 have hsm:=hS.sm
 unfold setAddHashed setAddHashedIn
 refine Ex (Ab (Hh ho hd hf ?_))
 dsimp only
 rw[byScan_of hx (by omega) he,if_pos rfl]
 unfold setAddByScan
 refine Ab (Ab (wpAny_rule (Ab (wpAny_setScan_of hk ho hd hf he ?_))))
 cases hfd:es.toList.findIdx? (fun e=>knd.is k e.2) with
 | some j=>
  obtain⟨hj,hpj,_⟩:=List.findIdx?_eq_some_iff_getElem.mp hfd
  have hin:k∈ks:=hks.mem.mpr ⟨_,Hv hj,hpj⟩
  dsimp only
  refine Ae (Ae ?_)
  have:=h false s.heap o ks (Ik.refl a s.heap) ho hS (fun _=>rfl) (fun z=>absurd hin z)
  exact this
 | none=>
  have hout:k∉ks:=fun z=>by
   obtain⟨e,h1,h2⟩:=hks.mem.mp z
   have:=List.findIdx?_eq_none_iff.mp hfd e h1
   rw[h2] at this
   cases this
  dsimp only
  have gv:∀(b:Bool) {s1:Shared} {R:Unit→Shared→Prop},R () s1→wpAny (model prog w) A (match b with | true=>rule "set.scan.the-table-gave-way" | false=>pure ()) R E s1:=by
   intro b s1 R q
   cases b
   ·exact Ae q
   ·exact wpAny_rule q
  have p1:=layNew_perm t es (knd.hash k) x
  have f1:=layNew_fits t es (knd.hash k) x
  have t1:=Yq5 ht es (knd.hash k) x
  generalize layNew t es (knd.hash k) x=L at p1 f1 t1 ⊢
  obtain⟨es1,t2,wd,gave⟩:=L
  dsimp only at p1 f1 t1 ⊢
  rw[Array.toList_push] at p1
  have el1:ElemsOf knd es1.toList:=(he.push hk hx).perm p1
  obtain⟨k1,kp1,ko1⟩:=KeysOf.perm p1 (hks.app (.cons (e:=(knd.hash k,x)) hk .nil))
  have nd1:k1.Nodup:=kp1.nodup_iff.mpr (Ky.mpr ⟨hS.nd,by simp,fun a ha b hb=>by simp at hb;subst hb;rintro rfl;exact hout ha⟩)
  have ln1:k1.length=ks.length+1:=by rw[kp1.length_eq,Ah];rfl
  have sz1:es1.size=k1.length:=by rw[←Df,ko1.len]
  refine Ab (gv _ ?_)
  have key:∀(t3:SetTable),t3.fits es1.size=true→TOk t3 led→wpAny (model prog w) A (do
    storeSet a es1 t3
    if (!wd&&t3.tooFull)=true then do
      (match (relayAll t3 es1 (Go es1.size)).2.2 with | true=>rule "set.scan.the-table-gave-way" | false=>pure ())
      storeSet a (relayAll t3 es1 (Go es1.size)).1 (relayAll t3 es1 (Go es1.size)).2.1
      pure (some true)
     else pure (some true)) (fun r s'=>∃h' o' ks',r=some true∧s'={s with heap:=h'}∧Ik a s.heap h'∧h'.get? a=some o'∧SetO knd led o' ks'∧ks'.Perm (ks++[k])) E s:=by
   intro t3 f3 ok3
   have fit1:es1.size≤sizeLine:=fits_of_scanBound (by omega)
   refine Ab (wpAny_storeSet_of ho hd ?_ fit1)
   have g1:(s.heap.update a (Ls es1 t3)).get? a=some {o with data:= .set es1 (ep+1) t3}:=by
    have:=Ip (Ls es1 t3) ho (by rw[putSet_of es1 t3 hd];rfl)
    rw[putSet_of es1 t3 hd] at this
    exact this
   have o1:SetO knd led {o with data:= .set es1 (ep+1) t3} k1:=⟨hS.ex,⟨es1,_,t3,rfl,el1,ko1,f3,ok3⟩,nd1,by omega⟩
   have sb1:=Ln s.heap a (Ls es1 t3)
   split
   ·have p2:=relayAll_perm t3 es1 (Go es1.size)
    have f2:=relayAll_fits t3 es1 (Go es1.size)
    have ok2:=Zy2 ok3 es1 (Go es1.size)
    generalize relayAll t3 es1 (Go es1.size)=L at p2 f2 ok2 ⊢
    obtain⟨es2,t4,gv2⟩:=L
    dsimp only at p2 f2 ok2 ⊢
    obtain⟨k2,kp2,ko2⟩:=KeysOf.perm p2 ko1
    have sz2:es2.size=es1.size:=by rw[←Df,p2.length_eq,Df]
    refine Ab (gv _ (Ab (wpAny_storeSet_of g1 rfl ?_ (by rw[sz2];exact fit1))))
    refine Ae ⟨_,_,k2,rfl,rfl,sb1.trans (Ln _ a _),Ip (Ls es2 t4) g1 rfl,?_,kp2.trans kp1⟩
    exact⟨hS.ex,⟨es2,_,t4,rfl,el1.perm p2,ko2,f2,ok2⟩,kp2.nodup_iff.mpr nd1,by rw[kp2.length_eq];omega⟩
   ·exact Ae ⟨_,_,k1,rfl,rfl,sb1,g1,o1,kp1⟩
  have fin:∀(t3:SetTable),t3.fits es1.size=true→TOk t3 led→wpAny (model prog w) A (do
    storeSet a es1 t3
    if (!wd&&t3.tooFull)=true then do
      (match (relayAll t3 es1 (Go es1.size)).2.2 with | true=>rule "set.scan.the-table-gave-way" | false=>pure ())
      storeSet a (relayAll t3 es1 (Go es1.size)).1 (relayAll t3 es1 (Go es1.size)).2.1
      pure (some true)
     else pure (some true)) (fun r s'=>wpAny (model prog w) A (match r with | some added=>pure added | none=>setAddHashedIn a x (knd.hash k) 99999) Q E s') E s:=by
   intro t3 f3 ok3
   refine Hm (key t3 f3 ok3) ?_ fun _ _ z=>z
   rintro r s' ⟨h',o',ks',rfl,rfl,sb,g,so,p⟩
   exact Ae (h true h' o' ks' sb g so (fun z=>absurd z hout) fun _=>p)
  split
  ·refine Ab ?_
   rw[hashByValue_scannable 8 hx]
   refine Ae ?_
   split
   ·exact fin _ f1 t1
   ·exact fin _ (SetTable.fits_plain_off f1) (Y00 t1)
  ·refine Ab (Ae ?_)
   rw[if_pos rfl]
   exact fin _ f1 t1
end
noncomputable def Vx(w:World):Bool:= !w.params.followText "set-order"
section
variable{prog:Program}{w:World}{A:Around}{E:Value→Shared→Prop}{s:Shared}
section
variable{K:Type}[DecidableEq K]{knd:KeyKind prog w K}{R:Result→Shared→Prop}{I:Addr}{fp wr:List Addr}{G:Array GenState→Array GenState→Prop}{n:Nat}{P:Nat→Value→Prop}{St:Nat→Shared→Prop}
theorem Zw5{led:Bool}(W:WalksS prog w A.in1 I fp wr G n P St)(S:Addr)(hSf:S∉fp)(key:Nat→K)(hkey:∀i v,P i v→knd.is (key i) v=true∧v.scannable=true)(hb:n+1<scanBound):
  ∀(m i:Nat) (s:Shared) (o:Obj) (ks:List K),n - i=m→i≤n→St i s→s.heap.get? S=some o→SetO knd led o ks→ks.length≤i→(∀k,k∈ks↔∃j,j<i∧key j=k)→
  (∀s' o' ks',Moved (S::wr) G s s'→s'.heap.get? S=some o'→SetO knd led o' ks'→ks'.length≤n→(∀k,k∈ks'↔∃j,j<n∧key j=k)→R (.ok (.ret .none)) s')→
  codeAny (model prog w) A (.builtin "set.update.loop" ⟨[.ref S,.ref I],[]⟩) R s:=by
 have hSw:S∉wr:=fun z=>hSf (W.sub _ z)
 have hs2:∀b∈wr,b∈S::wr:=fun b z=>Dd _ z
 intro m
 induction m with
 | zero=>
  intro i s o ks hm hi st ho hS hl hmem q
  obtain rfl:i=n:=by omega
  refine Ic F.entry_set_update_loop ?_
  rw[Ht F.plain_set_update_loop _]
  show wpAny _ A.in1 (pyNext (.ref I) >>=_) _ _ s
  refine Ab (W.done s _ _ st fun s' mv=>Ae ?_)
  exact q s' o ks (mv.mono hs2) (mv.heap S _ hSw ho) hS hl hmem
 | succ m ih=>
  intro i s o ks hm hi st ho hS hl hmem q
  have hlt:i<n:=by omega
  refine Ic F.entry_set_update_loop ?_
  rw[Ht F.plain_set_update_loop _]
  show wpAny _ A.in1 (pyNext (.ref I) >>=_) _ _ s
  refine Ab (W.item i s _ _ hlt st fun v s' hP st' mv=>?_)
  obtain⟨hk,hx⟩:=hkey i v hP
  show wpAny _ A.in1 (holding [v] (setAdd S v) >>=_) _ _ s'
  refine Ab (Ex ?_)
  unfold setAdd
  refine Ex (Ab (knd.pyHash hk ?_))
  refine Yg1 (s:={s' with toks:=s'.toks+1}) hk hx (mv.heap S _ hSw ho) hS (by omega) fun b h' o' ks' sb ho' hS' c1 c2=>?_
  have hmem':∀k,k∈ks'↔∃j,j<i+1∧key j=k:=by
   intro k
   have e:(∃j,j<i+1∧key j=k)↔(∃j,j<i∧key j=k)∨key i=k:=by
    constructor
    ·rintro⟨j,h1,h2⟩
     by_cases h3:j=i
     ·subst h3;exact .inr h2
     ·exact .inl ⟨j,by omega,h2⟩
    ·rintro(⟨j,h1,h2⟩ | h2)
     ·exact⟨j,by omega,h2⟩
     ·exact⟨i,by omega,h2⟩
   rw[e,←hmem k]
   by_cases hin:key i∈ks
   ·rw[c1 hin]
    constructor
    ·exact .inl
    ·rintro(z | rfl)
     ·exact z
     ·exact hin
   ·rw[(c2 hin).mem_iff,Ap,Am]
    constructor
    ·rintro(z | rfl)
     ·exact .inl z
     ·exact .inr rfl
    ·rintro(z | rfl)
     ·exact .inl z
     ·exact .inr rfl
  have hl':ks'.length≤i+1:=by
   by_cases hin:key i∈ks
   ·rw[c1 hin];omega
   ·rw[(c2 hin).length_eq,Ah,Dh];omega
  refine Ae ⟨Kw F.plain_set_update_loop _,ih (i+1) _ o' ks' (by omega) hlt (W.frame _ s' _ _ st' (Nat.le_succ _) fun b' hb' o2 e=>?_) ho' hS' hl' hmem' fun s2 o2 ks2 mv2 ho2 hS2 l2 m2=>?_⟩
  ·rw[sb.2 b' (fun z:b'=S=>hSf (by rw[←z];exact hb'))];exact e
  ·refine q s2 o2 ks2 (Moved.trans W.gtrans ((mv.mono hs2).then_heap (Nat.le_succ _) fun b' o3 hb' e=>?_) mv2) ho2 hS2 l2 m2
   rw[sb.2 b' (fun z:b'=S=>hb' (by rw[z];exact De))];exact e
end
noncomputable def newO(w:World):Obj:={cls:= .type "set",dict:=none,data:= .set #[] 0 (.fresh 0 0 (Vx w))}
theorem Ye7{K:Type}[DecidableEq K]{knd:KeyKind prog w K}:SetO knd (Vx w) (newO w) []:=
 ⟨⟨rfl,rfl,rfl⟩,⟨#[],0,_,rfl,fun e he=>by simp at he,.nil,rfl,⟨fun i k _ h=>by simp[SetTable.fresh] at h,rfl,rfl⟩⟩,Mf,by show 0<scanBound;decide⟩
theorem Z43(a:Value){Q:Value→Shared→Prop}(h:Q (.ref s.heap.objs.size) {s with heap:=s.heap.push (newO w)}):
  codeAny (model prog w) A (.call (.builtin "set.__new__") ⟨[.type "set",a],[]⟩) (wants Q E) s:=by
 refine codeAny_of_tree ?_
 show wpAny _ A.in1 (checkBuiltinCall "set.__new__" ⟨[.type "set",a],[]⟩ >>=fun _=>again (.builtin "set.__new__" ⟨[.type "set",a],[]⟩)) _ _ s
 refine Ab (wpAny_of_eq (F.newCall_set_1 a) (Ae ⟨Kw F.plain_set_new _,Ic F.entry_set_new ?_⟩))
 rw[Ht F.plain_set_new _]
 unfold Builtin.«set.__new__» Builtin.Frozenset.newClass
 have sub0:=sub_set_self
 obtain⟨hp,g,d,tk,os⟩:=s
 dsimp only
 wp_walk
 refine Lh (Ae ?_)
 simp only[newObj]
 exact Ab (wpAny_alloc (Ae (Ae h)))
end
section
variable{prog:Program}{w:World}{A:Around}{E:Value→Shared→Prop}{s:Shared}{K:Type}[DecidableEq K]{knd:KeyKind prog w K}
set_option maxHeartbeats 3200000 in
theorem Y20{l:Addr}{its:Array Value}{key:Nat→K}{Q:Value→Shared→Prop}(hh:A.handled=none)(hl:s.heap.IsList l its)(hkey:∀i v,its[i]?=some v→knd.is (key i) v=true∧v.scannable=true)(hb:its.size+1<scanBound)
  (h:∀h' tk o ks,h'.get? s.heap.objs.size=some o→SetO knd (Vx w) o ks→ks.length≤its.size→(∀k,k∈ks↔∃j,j<its.size∧key j=k)→(∀b o,b<s.heap.objs.size→s.heap.get? b=some o→h'.get? b=some o)→Q (.ref s.heap.objs.size) {s with heap:=h',toks:=tk}):
  wpAny (model prog w) A (call (.type "set") [.ref l]) Q E s:=by
 obtain⟨c0,tl,mro0⟩:=F.called_set.mro
 have made0:=F.called_set.made
 have sub0:=F.called_set.sub
 have nt0:=F.called_set.notType
 have cc0:=F.called_set.canCreate
 have ct0:=F.typeCall_set_1 (.ref l)
 refine wpAny_call (codeAny_of_tree ?_)
 show wpAny _ _ (callAny (.type "set") _) _ _ _
 refine Ae ⟨Code.quiet_builtin _ (by decide+kernel),Ic F.entry_type_call ?_⟩
 rw[Around.under_plain (weight_type_call_type "set" [.ref l] []) rfl]
 repeat (any_goals (first | assumption | wp_step))
 have hnew:=Z43 (prog:=prog) (w:=w) (A:=A.in1) (s:=s) (E:=E) (.ref l) (Q:=fun v s1=>v= .ref s.heap.objs.size∧s1={s with heap:=s.heap.push (newO w)}) ⟨rfl,rfl⟩
 refine Kf hnew fun r s1 hr=>?_
 cases r with
 | error e=>exact hr
 | ok fl=>
 cases fl with
 | ret v=>
  obtain⟨rfl,rfl⟩:=hr
  have g0:(s.heap.push (newO w)).get? s.heap.objs.size=some (newO w):=Ar _ rfl
  have ty0:Shared.TypeIs {s with heap:=s.heap.push (newO w)} (.ref s.heap.objs.size) "set":=⟨_,g0,rfl⟩
  have li0:=F.called_set.init.lookup
  have bi0:=F.called_set.init.bind (.ref s.heap.objs.size)
  repeat (any_goals (first | assumption | wp_step))
  have want:∀s2:Shared,(∃h' tk o ks,s2={s with heap:=h',toks:=tk}∧h'.get? s.heap.objs.size=some o∧SetO knd (Vx w) o ks∧ks.length≤its.size∧(∀k,k∈ks↔∃j,j<its.size∧key j=k)∧(∀b o,b<s.heap.objs.size→s.heap.get? b=some o→h'.get? b=some o))→Q (.ref s.heap.objs.size) s2:=by
   rintro s2 ⟨h',tk,o,ks,rfl,a1,a2,a0,a3,a4⟩
   exact h h' tk o ks a1 a2 a0 a3 a4
  clear h
  refine Kf (codeAny_call_builtin (R:=wants (fun r s2=>r= .none∧∃h' tk o ks,s2={s with heap:=h',toks:=tk}∧h'.get? s.heap.objs.size=some o∧SetO knd (Vx w) o ks∧ks.length≤its.size∧(∀k,k∈ks↔∃j,j<its.size∧key j=k)∧(∀b o,b<s.heap.objs.size→s.heap.get? b=some o→h'.get? b=some o)) E) F.called_set.init.plain F.entry_set_init (check_set_init_1 ty0 ?_)) fun r2 s2 hr2=>?_
  ·obtain⟨⟨cl,di,da,sl⟩,ol,hcl,nl,hdl⟩:=hl
   simp only at hcl hdl
   subst hcl hdl
   have ol1:(s.heap.push (newO w)).get? l=some {cls:= .type "list",dict:=di,data:= .seq its nl,slots:=sl}:=Ag _ ol
   have s1:=F.sub_list_set
   have s2:=F.sub_list_frozenset
   have s3:(La "list"==La "dict")=false:=by decide
   have il1:(s.heap.push (newO w)).IsList l its:=⟨_,ol1,rfl,nl,rfl⟩
   unfold Builtin.«set.__init__» noKeywords Builtin.Frozenset.updateFrom
   generalize hPI:pyIter=PI
   wp_walk
   subst hPI
   refine wpAny_pyIter_list il1 (Ab (wpAny_runValue ?_))
   have lS:l<s.heap.objs.size:=An ol
   have nI:l≠(s.heap.push (newO w)).objs.size:=by rw[Hz];exact Nat.ne_of_lt (Nat.lt_succ_of_lt lS)
   have nS:s.heap.objs.size∉[(s.heap.push (newO w)).objs.size,l]:=by
    rw[Hz,Ao,Am]
    exact fun z=>z.elim (Nat.ne_of_lt (Nat.lt_succ_self _)) (Nat.ne_of_gt lS)
   refine Zw5 (knd:=knd) (led:=Vx w) ((Walks.list (by simp[hh]) _ l nI its).toS) s.heap.objs.size nS key hkey hb _ 0 _ (newO w) [] rfl (Nat.zero_le _) ⟨⟨_,Ar _ rfl,rfl,rfl⟩,il1.push _⟩ (Ag _ g0) Ye7 (Nat.zero_le _) (fun k=>by simp) ?_
   intro s' o' ks' mv ho' hS' hl' hm'
   obtain⟨h',g',d',tk',os'⟩:=s'
   cases mv.gens
   cases mv.drawn
   cases mv.os
   refine Ae ?_
   refine Ae ⟨rfl,h',tk',o',ks',rfl,ho',hS',hl',hm',fun b o hb e=>?_⟩
   refine mv.heap b o ?_ (Ag _ (Ag _ e))
   rw[Ao,Am,Hz]
   exact fun z=>z.elim (Nat.ne_of_lt hb) (Nat.ne_of_lt (Nat.lt_succ_of_lt hb))
  ·cases r2 with
   | error e=>exact hr2
   | ok fl2=>
    cases fl2 with
    | ret r=>
     obtain⟨rfl,hw⟩:=hr2
     repeat (any_goals (first | assumption | wp_step))
     exact want _ hw
    | _=>exact hr2.elim
 | _=>exact hr.elim
end
theorem Xf:Slot "set_iterator" "__next__" "set_iterator.__next__":=by
 refine .of (owner:="set_iterator") (n:="__next__") ?_ ?_ ?_ ?_ ?_ ?_
 ·rw[typeLookup_type,builtinLookup_eq_fast];kernel_rfl
 all_goals first | decide+kernel | exact .inl (by decide+kernel) | exact .inr (by decide+kernel) | (rw[isSubtype_type];kernel_rfl)
theorem Qb:entryFor table "set_iterator.__next__"=some Builtin.«set_iterator.__next__»:=entryFor_of_tree (by kernel_rfl)
theorem Z68:Manifest.owners.lookup (String.ofList ['r','o','t','a','r','e','t','i','_','t','e','s'].reverse)=some Manifest.sig_set_iterator:=by kernel_rfl
theorem Jp(a:Value):argsOk "set_iterator.__next__" ⟨[a],[]⟩:=by
 unfold argsOk
 rw[signature?_of (id:="set_iterator.__next__") (n:=['_','_','t','x','e','n','_','_']) (o:=['r','o','t','a','r','e','t','i','_','t','e','s']) (by kernel_rfl) Z68]
 kernel_rfl
theorem Y84:entryFor table "set.__iter__"=some Builtin.«frozenset.__iter__»:=entryFor_alias (id':="frozenset.__iter__") (by kernel_rfl) rfl (by decide+kernel) (by kernel_rfl)
section
variable{prog:Program}{w:World}{A:Around}{E:Value→Shared→Prop}{s:Shared}
noncomputable abbrev itO(f:Value)(i:Nat)(a:Addr)(n ep:Nat):Obj:={cls:= .type "set_iterator",dict:=none,data:= .fields #[f,rawInt i,.ref a,rawInt n,rawInt ep],slots:=#[]}
section
variable{a I:Addr}{o:Obj}{es:Array (Int×Value)}{ep:Nat}{t:SetTable}
theorem C9{slot i:Nat}{Q:Option (Value×Nat)→Shared→Prop}(ho:s.heap.get? a=some o)(hd:o.data= .set es ep t)(hf:t.fits es.size=true)(ht:w.params.followText "set-order"=true)
  (h:Q (((pickOrder (w.params.setOrder a ep) es)[i]?).map fun e=>(e.2,slot)) s):wpAny (model prog w) A (setNext a slot i ep) Q E s:=by
 unfold setNext
 refine Ab (Hh ho hd hf ?_)
 dsimp only
 unfold setsByText
 refine Ab (Ab (Lh (Ae ?_)))
 show wpAny _ _ (if w.params.followText "set-order"=true then _ else _) _ _ _
 rw[if_pos ht,if_neg (by simp)]
 refine Ab ?_
 unfold setWalk
 refine Ab (Hh ho hd hf ?_)
 dsimp only
 unfold setsByText
 refine Ab (Ab (Lh (Ae ?_)))
 show wpAny _ _ (if w.params.followText "set-order"=true then _ else _) _ _ _
 rw[if_pos ht]
 refine Ab (Lh (Ae (Ae h)))
theorem Nn{slot i:Nat}{Q:Option (Value×Nat)→Shared→Prop}(ho:s.heap.get? a=some o)(hd:o.data= .set es ep t)(hf:t.fits es.size=true)(ht:w.params.followText "set-order"=false)
  (hp:(!t.plain&&decide (es.size >1))=false) (hl:t.led=true)
  (h:Q (match es[Hf t.place slot]?,t.place[Hf t.place slot]? with | some (_,x),some j=>some (x,j+1) | _,_=>none) s):wpAny (model prog w) A (setNext a slot i ep) Q E s:=by
 unfold setNext
 refine Ab (Hh ho hd hf ?_)
 dsimp only
 unfold setsByText
 refine Ab (Ab (Lh (Ae ?_)))
 show wpAny _ _ (if w.params.followText "set-order"=true then _ else _) _ _ _
 rw[if_neg (by rw[ht];exact Bf9)]
 show wpAny _ _ (if (!t.plain&&decide (es.size >1))=true then _ else _) _ _ _
 rw[if_neg (by rw[hp];exact Bf9)]
 refine Ab ?_
 show wpAny _ _ (if (!t.led&&!es.isEmpty)=true then _ else _) _ _ _
 rw[if_neg (by rw[hl];exact Bf9)]
 exact Ae (Ae h)
theorem Z71{place:Nat}{x:Int×Value}{Q:Value→Shared→Prop}(ho:s.heap.get? a=some o)(hd:o.data= .set es ep t)(hf:t.fits es.size=true)(hx:es[place]?=some x)(h:Q x.2 s):wpAny (model prog w) A (setNextDrawn a place ep) Q E s:=by
 unfold setNextDrawn
 refine Ab (Hh ho hd hf ?_)
 dsimp only
 rw[if_neg (by simp),hx]
 exact Ae h
theorem Z12{slot i nx:Nat}{x:Value}{Q:Option Value→Shared→Prop}(hI:s.heap.get? I=some (itO (rawInt slot) i a es.size ep))(ho:s.heap.get? a=some o)(hd:o.data= .set es ep t)(hf:t.fits es.size=true)
  (hn:∀(E':Value→Shared→Prop) (R:Option (Value×Nat)→Shared→Prop),R (some (x,nx)) s→wpAny (model prog w) A.in1 (setNext a slot i ep) R E' s)
  (h:∀h',h'.get? I=some (itO (rawInt nx) (i+1) a es.size ep)→Ik I s.heap h'→Q (some x) {s with heap:=h'}):wpAny (model prog w) A (pyNext (.ref I)) Q E s:=by
 have hT:s.TypeIs (.ref I) "set_iterator":=⟨_,hI,rfl⟩
 unfold pyNext
 refine Ab (Mb (Iq (name:=Str.ofString "__next__") hT Xf (Ij Xf hT Qb ?_ (Jp _))))
 unfold Builtin.«set_iterator.__next__»
 refine Ab (Ae ?_)
 refine Ab (wpAny_fieldsOf hI rfl ?_)
 show wpAny _ _ (setEntries a >>=_) _ _ _
 refine Ab (Lo ho hd hf ?_)
 rw[if_neg (by simp[rawInt])]
 show wpAny _ _ (setNext a (Int.toNat (slot:Int)) (Int.toNat (i:Int)) (Int.toNat (ep:Int)) >>=_) _ _ _
 rw[Int.toNat_natCast,Int.toNat_natCast,Int.toNat_natCast]
 refine Ab (hn _ _ ?_)
 dsimp only
 refine Ab (Kr hI (by simp) fun h1 g1 s1=>?_)
 refine Ab (Kr g1 (by simp) fun h2 g2 s2=>?_)
 exact Ae ⟨_,rfl,Ae (h h2 g2 (s1.trans s2))⟩
theorem Yj7{T:Addr}{oT:Obj}{pl:Array Value}{n:Nat}{Q:Option (Array Value)→Shared→Prop}(hoT:s.heap.get? T=some oT)(hdT:oT.data= .seq pl n)(h:Q (some pl) s):wpAny (model prog w) A (seqItems? (.ref T)) Q E s:=by
 unfold seqItems?
 refine Ab (wpAny_load hoT ?_)
 rw[hdT]
 exact Ae h
theorem Z15{Q:Fin→Shared→Prop}{R:Value→Shared→Prop}(hh:A.handled=none)(h:∀h' e,(∀b u,s.heap.get? b=some u→h'.get? b=some u)→(∃u,h'.get? e=some u∧u.cls= .type "StopIteration")→R (.ref e) {s with heap:=h'}):wpAny (model prog w) A (newExc (.type "StopIteration") [] >>=fun e=>(raiseNew e:Sem Fin)) Q R s:=by
 refine Ab ?_
 simp only[newExc,newTuple]
 refine Ab (Hn ?_ (by size_fits))
 refine Ab (m:=firstArgMember _ _) (wpAny_of_eq (a:=Md) (by first | rfl | (simp only[firstArgMember];rfl)) ?_)
 refine Hn ?_ (by size_fits)
 simp only[raiseNew]
 refine Ab (wpAny_handled ?_)
 rw[hh]
 refine Ab (Ae (wpAny_throw ?_))
 exact h _ _ (fun b u q=>Ag _ (Ag _ q)) ⟨_,Ar _ rfl,rfl⟩
theorem Zo1{slot i:Nat}{Q:Option Value→Shared→Prop}(hh:A.handled=none)(hI:s.heap.get? I=some (itO (rawInt slot) i a es.size ep))(ho:s.heap.get? a=some o)(hd:o.data= .set es ep t)(hf:t.fits es.size=true)
  (hn:∀(E':Value→Shared→Prop) (R:Option (Value×Nat)→Shared→Prop),R none s→wpAny (model prog w) A.in1 (setNext a slot i ep) R E' s)
  (h:∀h',Heap.ExtBut I s.heap h'→Q none {s with heap:=h'}):wpAny (model prog w) A (pyNext (.ref I)) Q E s:=by
 have hT:s.TypeIs (.ref I) "set_iterator":=⟨_,hI,rfl⟩
 unfold pyNext
 refine Ab (Mb (Iq (name:=Str.ofString "__next__") hT Xf (Ij Xf hT Qb ?_ (Jp _))))
 unfold Builtin.«set_iterator.__next__»
 refine Ab (Ae ?_)
 refine Ab (wpAny_fieldsOf hI rfl ?_)
 show wpAny _ _ (setEntries a >>=_) _ _ _
 refine Ab (Lo ho hd hf ?_)
 rw[if_neg (by simp[rawInt])]
 show wpAny _ _ (setNext a (Int.toNat (slot:Int)) (Int.toNat (i:Int)) (Int.toNat (ep:Int)) >>=_) _ _ _
 rw[Int.toNat_natCast,Int.toNat_natCast,Int.toNat_natCast]
 refine Ab (hn _ _ ?_)
 dsimp only
 refine Ab (Kr hI (by simp) fun h1 g1 s1=>?_)
 refine Z15 (A:=A.in1) hh fun h2 e k2 he=>?_
 obtain⟨u,hu,hc⟩:=he
 refine Ab (wpAny_isInstance (T:="StopIteration") (b:=true) ⟨u,hu,hc⟩ isSubtype_stop ?_)
 exact Ae (h h2 fun b v hb q=>k2 _ _ (s1.extBut _ _ hb q))
theorem Y11{T:Addr}{pl:Array Value}{i place:Nat}{x:Int×Value}{Q:Option Value→Shared→Prop}(hI:s.heap.get? I=some (itO (.ref T) i a es.size ep))(hT0:s.heap.IsTuple T pl)(ho:s.heap.get? a=some o)(hd:o.data= .set es ep t)(hf:t.fits es.size=true)
  (hp:pl[i]?=some (rawInt place)) (hx:es[place]?=some x)
  (h:∀h',h'.get? I=some (itO (.ref T) (i+1) a es.size ep)→Ik I s.heap h'→Q (some x.2) {s with heap:=h'}):wpAny (model prog w) A (pyNext (.ref I)) Q E s:=by
 have hT:s.TypeIs (.ref I) "set_iterator":=⟨_,hI,rfl⟩
 obtain⟨oT,hoT,hcT,nT,hdT⟩:=hT0
 unfold pyNext
 refine Ab (Mb (Iq (name:=Str.ofString "__next__") hT Xf (Ij Xf hT Qb ?_ (Jp _))))
 unfold Builtin.«set_iterator.__next__»
 refine Ab (Ae ?_)
 refine Ab (wpAny_fieldsOf hI rfl ?_)
 show wpAny _ _ (setEntries a >>=_) _ _ _
 refine Ab (Lo ho hd hf ?_)
 rw[if_neg (by simp[rawInt])]
 show wpAny _ _ (seqItems? (.ref T) >>=_) _ _ _
 refine Ab (Yj7 hoT hdT ?_)
 dsimp only
 rw[Int.toNat_natCast,hp]
 show wpAny _ _ (setNextDrawn a (Int.toNat (place:Int)) (Int.toNat (ep:Int)) >>=_) _ _ _
 rw[Int.toNat_natCast,Int.toNat_natCast]
 refine Ab (Z71 ho hd hf hx ?_)
 refine Ab (Kr hI (by simp) fun h1 g1 s1=>?_)
 exact Ae ⟨_,rfl,Ae (h h1 g1 s1)⟩
theorem Y85{T:Addr}{pl:Array Value}{i:Nat}{Q:Option Value→Shared→Prop}(hh:A.handled=none)(hI:s.heap.get? I=some (itO (.ref T) i a es.size ep))(hT0:s.heap.IsTuple T pl)(ho:s.heap.get? a=some o)(hd:o.data= .set es ep t)(hf:t.fits es.size=true)
  (hp:pl[i]?=none) (h:∀h',Heap.ExtBut I s.heap h'→Q none {s with heap:=h'}):wpAny (model prog w) A (pyNext (.ref I)) Q E s:=by
 have hT:s.TypeIs (.ref I) "set_iterator":=⟨_,hI,rfl⟩
 obtain⟨oT,hoT,hcT,nT,hdT⟩:=hT0
 unfold pyNext
 refine Ab (Mb (Iq (name:=Str.ofString "__next__") hT Xf (Ij Xf hT Qb ?_ (Jp _))))
 unfold Builtin.«set_iterator.__next__»
 refine Ab (Ae ?_)
 refine Ab (wpAny_fieldsOf hI rfl ?_)
 show wpAny _ _ (setEntries a >>=_) _ _ _
 refine Ab (Lo ho hd hf ?_)
 rw[if_neg (by simp[rawInt])]
 show wpAny _ _ (seqItems? (.ref T) >>=_) _ _ _
 refine Ab (Yj7 hoT hdT ?_)
 dsimp only
 rw[Int.toNat_natCast,hp]
 dsimp only
 refine Ab (Kr hI (by simp) fun h1 g1 s1=>?_)
 refine Ab (Kr g1 (by simp) fun h2 g2 s2=>?_)
 refine Z15 (A:=A.in1) hh fun h3 e k3 he=>?_
 obtain⟨u,hu,hc⟩:=he
 refine Ab (wpAny_isInstance (T:="StopIteration") (b:=true) ⟨u,hu,hc⟩ isSubtype_stop ?_)
 exact Ae (h h3 fun b v hb q=>k3 _ _ (s2.extBut _ _ hb (s1.extBut _ _ hb q)))
end
end
theorem Zg4{α:Type}(next:Nat→Nat):∀(fuel k:Nat) (left:List α) (out:Array α),left.length=fuel→(pickOrder.go next fuel k left out).toList.Perm (out.toList++left)
 | 0,k,left,out,e=>by
  cases Ih.mp e
  unfold pickOrder.go
  rw[Dq]
 | fuel+1,k,left,out,e=>by
  unfold pickOrder.go
  have hi:next k % left.length<left.length:=Nat.mod_lt _ (by omega)
  rw[Aa hi]
  dsimp only
  refine(Zg4 next fuel (k+1) _ _ (by rw[List.length_eraseIdx,if_pos hi];omega)).trans ?_
  rw[Array.toList_push,Dg]
  exact(Pl left _ hi).append_left _
theorem Zs5{α:Type}(next:Nat→Nat)(xs:Array α):(pickOrder next xs).toList.Perm xs.toList:=by
 have:=Zg4 next xs.size 0 xs.toList #[] (Df)
 unfold pickOrder
 simpa using this
theorem Ru:Slot "set_iterator" "__iter__" "set_iterator.__iter__":=by
 refine .of (owner:="set_iterator") (n:="__iter__") ?_ ?_ ?_ ?_ ?_ ?_
 ·rw[typeLookup_type,builtinLookup_eq_fast];kernel_rfl
 all_goals first | decide+kernel | exact .inl (by decide+kernel) | exact .inr (by decide+kernel) | (rw[isSubtype_type];kernel_rfl)
theorem Jx:entryFor table "set_iterator.__iter__"=some Builtin.«dict_keyiterator.__iter__»:=entryFor_alias (id':="dict_keyiterator.__iter__") (by kernel_rfl) rfl (by decide+kernel) (by kernel_rfl)
theorem E1(a:Value):argsOk "set_iterator.__iter__" ⟨[a],[]⟩:=by
 unfold argsOk
 rw[signature?_of (id:="set_iterator.__iter__") (n:=['_','_','r','e','t','i','_','_']) (o:=['r','o','t','a','r','e','t','i','_','t','e','s']) (by kernel_rfl) Z68]
 kernel_rfl
section
variable{prog:Program}{w:World}{A:Around}{E:Value→Shared→Prop}{s:Shared}
structure ItSt(w:World)(I a T:Addr)(o:Obj)(es:Array (Int×Value))(ep:Nat)(t:SetTable)(vs:List Value)(i:Nat)(h:Heap):Prop where
 set:h.get? a=some o
 md:(w.params.followText "set-order"=true∧vs=(pickOrder (w.params.setOrder a ep) es).toList.map (·.2)∧h.get? I=some (itO (rawInt 0) i a es.size ep))
  ∨(w.params.followText "set-order"=false∧(!t.plain&&decide (es.size >1))=false∧t.led=true∧Rise t.place∧vs=es.toList.map (·.2)∧∃slot,Hf t.place slot=i∧h.get? I=some (itO (rawInt slot) i a es.size ep))
  ∨(∃pl:List Nat,h.IsTuple T (pl.map fun(k:Nat)=>rawInt k).toArray∧vs=pl.map (fun k=>(es.getD k (0,.none)).2)∧(∀k∈pl,k<es.size)∧h.get? I=some (itO (.ref T) i a es.size ep))
theorem Zy1{I a T:Addr}{o:Obj}{es:Array (Int×Value)}{ep:Nat}{t:SetTable}{vs:List Value}(hh:A.handled=none)(na:a≠I)(nT:T≠I)(hd:o.data= .set es ep t)(hf:t.fits es.size=true):
  Walks prog w A I [I,a,T] [I] vs.length (fun i v=>vs[i]?=some v) (ItSt w I a T o es ep t vs) where
 sub:=fun b hb=>by simp at hb;simp[hb]
 frame:=fun i h h' st hk=>by
  refine⟨hk a (by simp) _ st.set,?_⟩
  rcases st.md with⟨h1,h2,h3⟩ | ⟨h1,h2,h3,h4,h5,slot,h6,h7⟩ | ⟨pl,⟨oT,q1,q2⟩,h2,h3,h4⟩
  ·exact .inl ⟨h1,h2,hk I (by simp) _ h3⟩
  ·exact .inr (.inl ⟨h1,h2,h3,h4,h5,slot,h6,hk I (by simp) _ h7⟩)
  ·exact .inr (.inr ⟨pl,⟨oT,hk T (by simp) _ q1,q2⟩,h2,h3,hk I (by simp) _ h4⟩)
 item:=fun i s Q E hi st hQ=>by
  have hfs:t.place.size=es.size:=by
   unfold SetTable.fits at hf
   simp only[Bz9,beq_iff_eq] at hf
   exact hf.1
  have stay:∀{h':Heap},Ik I s.heap h'→h'.get? a=some o:=fun sb=>sb.extBut _ _ na st.set
  have old:∀{h':Heap},Ik I s.heap h'→∀b u,b∉[I]→s.heap.get? b=some u→h'.get? b=some u:=fun sb b u hb e=>sb.extBut _ _ (by simpa using hb) e
  rcases st.md with⟨h1,h2,h3⟩ | ⟨h1,h2,h3,h4,h5,slot,h6,h7⟩ | ⟨pl,⟨oT,q1,q2⟩,h2,h3,h4⟩
  ·have hx:(pickOrder (w.params.setOrder a ep) es).toList[i]?=some ((pickOrder (w.params.setOrder a ep) es).toList[i]'(by rw[h2,Ad] at hi;exact hi)):=Aa _
   generalize (pickOrder (w.params.setOrder a ep) es).toList[i]'(by rw[h2,Ad] at hi;exact hi)=x at hx
   rw[Dt] at hx
   refine Z12 (x:=x.2) (nx:=0) h3 st.set hd hf (fun E' R q=>C9 st.set hd hf h1 (by rw[hx];exact q)) fun h' g sb=>?_
   refine hQ x.2 h' s.toks ?_ ⟨stay sb,.inl ⟨h1,h2,g⟩⟩ (old sb)
   rw[h2,Aj,Dt,hx];rfl
  ·have hi':i<es.size:=by rw[h5,Ad,Df] at hi;exact hi
   have hx:es[i]?=some es[i]:=Bk hi'
   have hp:t.place[i]?=some (t.place.getD i 0):=by rw[Az,Bk (by omega)];rfl
   refine Z12 (x:=es[i].2) (nx:=t.place.getD i 0+1) h7 st.set hd hf (fun E' R q=>Nn st.set hd hf h1 h2 h3 (by rw[h6,hx,hp];exact q)) fun h' g sb=>?_
   refine hQ es[i].2 h' s.toks ?_ ⟨stay sb,.inr (.inl ⟨h1,h2,h3,h4,h5,_,Z94 h4 (by omega),g⟩)⟩ (old sb)
   rw[h5,Aj,Dt,hx];rfl
  ·have hi':i<pl.length:=by rw[h2,Ad] at hi;exact hi
   have hk:=h3 _ (Hv hi')
   refine Y11 (place:=pl[i]) (x:=es[pl[i]]) h4 ⟨oT,q1,q2⟩ st.set hd hf (by rw[Kc,Aj,Aa hi'];rfl) (Bk hk) fun h' g sb=>?_
   refine hQ _ h' s.toks ?_ ⟨stay sb,.inr (.inr ⟨pl,⟨oT,sb.extBut _ _ nT q1,q2⟩,h2,h3,g⟩)⟩ (old sb)
   rw[h2,Aj,Aa hi']
   show some (es.getD pl[i] _).2=_
   rw[Az,Bk hk];rfl
 done:=fun s Q E st hQ=>by
  have hfs:t.place.size=es.size:=by
   unfold SetTable.fits at hf
   simp only[Bz9,beq_iff_eq] at hf
   exact hf.1
  have old:∀{h':Heap},Heap.ExtBut I s.heap h'→∀b u,b∉[I]→s.heap.get? b=some u→h'.get? b=some u:=fun sb b u hb e=>sb _ _ (by simpa using hb) e
  rcases st.md with⟨h1,h2,h3⟩ | ⟨h1,h2,h3,h4,h5,slot,h6,h7⟩ | ⟨pl,⟨oT,q1,q2⟩,h2,h3,h4⟩
  ·refine Zo1 hh h3 st.set hd hf (fun E' R q=>C9 st.set hd hf h1 ?_) fun h' sb=>hQ h' s.toks (old sb)
   rw[←Dt,Dn (by rw[h2,Ad];exact Nat.le_refl _)]
   exact q
  ·refine Zo1 hh h7 st.set hd hf (fun E' R q=>Nn st.set hd hf h1 h2 h3 ?_) fun h' sb=>hQ h' s.toks (old sb)
   rw[h6,←Dt,Dn (by rw[h5,Ad];exact Nat.le_refl _)]
   exact q
  ·refine Y85 hh h4 ⟨oT,q1,q2⟩ st.set hd hf ?_ fun h' sb=>hQ h' s.toks (old sb)
   rw[Kc,Dn (by rw[h2];simp)]
 self:=fun i s Q E st hQ=>by
  have hT:s.TypeIs (.ref I) "set_iterator":=by
   rcases st.md with⟨_,_,h3⟩ | ⟨_,_,_,_,_,_,_,h7⟩ | ⟨_,_,_,_,h4⟩
   ·exact⟨_,h3,rfl⟩
   ·exact⟨_,h7,rfl⟩
   ·exact⟨_,h4,rfl⟩
  refine wpAny_pyIter_slot hT Ru (Ij Ru hT Jx ?_ (E1 _))
  show wpAny _ _ (ret (.ref I)) _ _ s
  exact Ae ⟨_,rfl,"set_iterator",_,hT,Xf.lookup,hQ⟩
theorem Yn0{a:Addr}{o:Obj}{es:Array (Int×Value)}{ep:Nat}{t:SetTable}{Q:Value→Shared→Prop}(hc:o.cls= .type "set")(ho:s.heap.get? a=some o)(hd:o.data= .set es ep t)(hf:t.fits es.size=true)(ht:TOk t (Vx w))(hz:es.size≤sizeLine)
  (h:∀d h' I T vs,vs.Perm (es.toList.map (·.2))→ItSt w I a T o es ep t vs 0 h'→s.heap.objs.size≤I→a≠I→T≠I→(T=a∨s.heap.objs.size≤T)→(∀b u,s.heap.get? b=some u→h'.get? b=some u)→Q (.ref I) {s with heap:=h',drawn:=d}):
  wpAny (model prog w) A (pyIter (.ref a)) Q E s:=by
 have hT:s.TypeIs (.ref a) "set":=⟨o,ho,hc⟩
 have la:a<s.heap.objs.size:=An ho
 refine wpAny_pyIter_slot hT F.slot_set_iter (Ij F.slot_set_iter hT Y84 ?_ (F.args_set_iter_1 _))
 unfold Builtin.«frozenset.__iter__»
 refine Ab (Ab (Ae (Ae ?_)))
 refine Ab ?_
 unfold Builtin.Frozenset.sizeOf
 refine Ab (Lo ho hd hf (Ae ?_))
 refine Ab ?_
 unfold setDrawn
 refine Ab (Hh ho hd hf ?_)
 dsimp only
 unfold setsByText
 refine Ab (Ab (Lh (Ae ?_)))
 show wpAny _ _ (pure (!w.params.followText "set-order"&&(!t.plain&&decide (es.size >1)))) _ _ _
 refine Ae ?_
 have plainCase:(w.params.followText "set-order"=true∨(w.params.followText "set-order"=false∧(!t.plain&&decide (es.size >1))=false))→wpAny (model prog w) A.in1 (newFields "set_iterator" [rawInt 0,rawInt 0,.ref a,rawInt es.size,rawInt ep] >>=fun v=>ret v) (fun fin s'=>∃v,fin= .done (.ret v)∧∃T' r,s'.TypeIs v T'∧typeLookup (.type T') "__next__"=pure (some r)∧Q v s') E s:=by
  intro hm
  refine Ab ?_
  show wpAny _ _ (newObj (.type "set_iterator") (.fields #[rawInt 0,rawInt 0,.ref a,rawInt es.size,rawInt ep])) _ _ _
  refine Hn (Ae ⟨_,rfl,"set_iterator",_,⟨_,Ar _ rfl,rfl⟩,Xf.lookup,?_⟩)
  have g:(s.heap.push (itO (rawInt 0) 0 a es.size ep)).get? s.heap.objs.size=some (itO (rawInt 0) 0 a es.size ep):=Ar _ rfl
  have g0:(s.heap.push (itO (rawInt 0) 0 a es.size ep)).get? a=some o:=Ag _ ho
  have k:∀b u,s.heap.get? b=some u→(s.heap.push (itO (rawInt 0) 0 a es.size ep)).get? b=some u:=fun b u q=>Ag _ q
  rcases hm with hm | ⟨hm,hp⟩
  ·exact h s.drawn _ s.heap.objs.size a _ ((Zs5 (w.params.setOrder a ep) es).map _) ⟨g0,.inl ⟨hm,rfl,g⟩⟩ (Nat.le_refl _) (Nat.ne_of_lt la) (Nat.ne_of_lt la) (.inl rfl) k
  ·exact h s.drawn _ s.heap.objs.size a _ (Ly _) ⟨g0,.inr (.inl ⟨hm,hp,by rw[ht.led];unfold Vx;rw[hm];rfl,ht.rise,rfl,0,Z88 ht.rise,g⟩)⟩ (Nat.le_refl _) (Nat.ne_of_lt la) (Nat.ne_of_lt la) (.inl rfl) k
 by_cases hm:w.params.followText "set-order"=true
 ·rw[hm]
  rw[if_neg (by simp)]
  refine Ab (Ae (Ab (wpAny_setEpoch_of ho hd hf ?_)))
  exact plainCase (.inl hm)
 ·have hm':w.params.followText "set-order"=false:=by cases e:w.params.followText "set-order" <;>simp_all
  rw[hm']
  cases hp:(!t.plain&&decide (es.size >1)) with
  | false=>
   rw[if_neg (by simp)]
   refine Ab (Ae (Ab (wpAny_setEpoch_of ho hd hf ?_)))
   exact plainCase (.inr ⟨hm',hp⟩)
  | true=>
   rw[if_pos (by rfl)]
   refine Ab (Z45 _ _ _ _ (by simp) fun pl d pp=>?_)
   have pl_len:pl.length=es.size:=by rw[pp.length_eq,Ir]
   have pl_lt:∀k∈pl,k<es.size:=fun k hk=>He.mp (pp.mem_iff.mp hk)
   refine Ab (wpAny_newTuple ?_ (by rw[Ad,pl_len];exact hz))
   generalize hoT:({cls:= .type "tuple",data:= .seq (pl.map fun(i:Nat)=>rawInt i).toArray}:Obj)=oT
   have gT:(s.heap.push oT).get? s.heap.objs.size=some oT:=Ar _ (by rw[←hoT];rfl)
   have ho1:(s.heap.push oT).get? a=some o:=Ag _ ho
   refine Ab (wpAny_setEpoch_of (s:={s with heap:=s.heap.push oT,drawn:=d}) ho1 hd hf ?_)
   refine Ab ?_
   show wpAny _ _ (newObj (.type "set_iterator") (.fields #[.ref s.heap.objs.size,rawInt 0,.ref a,rawInt es.size,rawInt ep])) _ _ _
   refine Hn (Ae ⟨_,rfl,"set_iterator",_,⟨_,Ar _ rfl,rfl⟩,Xf.lookup,?_⟩)
   have sz1:(s.heap.push oT).objs.size=s.heap.objs.size+1:=Hz _ _
   refine h d _ (s.heap.push oT).objs.size s.heap.objs.size (pl.map (fun k=>(es.getD k (0,.none)).2)) ?_ ⟨Ag _ ho1,.inr (.inr ⟨pl,⟨oT,Ag _ gT,by rw[←hoT],0,by rw[←hoT]⟩,rfl,pl_lt,Ar _ rfl⟩)⟩ ?_ ?_ ?_ (.inr (Nat.le_refl _)) fun b u q=>Ag _ (Ag _ q)
   ·refine(pp.map _).trans ?_
    have e:(Dj es.size).map (fun k=>(es.getD k (0,.none)).2)=es.toList.map (·.2):=by
     apply List.ext_getElem?
     intro i
     have e1:es.toList[i]?=es[i]?:=Dt
     rw[Aj,Aj,e1]
     by_cases hi:i<es.size
     ·rw[List.getElem?_range hi,Bk hi]
      show some (es.getD i _).2=_
      rw[Az,Bk hi];rfl
     ·rw[Dn (by rw[Ir];omega),Array.getElem?_eq_none (by omega)];rfl
    rw[e]
   ·rw[sz1];exact Nat.le_succ _
   ·rw[sz1];exact Nat.ne_of_lt (Nat.lt_succ_of_lt la)
   ·rw[sz1];exact Nat.ne_of_lt (Nat.lt_succ_self _)
end
end SW
namespace SW
open PySem PyProof.Rows PySem.W
section
variable{prog:Program}{w:World}{A:Around}{E:Value→Shared→Prop}{s:Shared}
theorem Zv9{a:Addr}{Q:Bool→Shared→Prop}(hT:s.TypeIs (.ref a) "set")(h:Q false s):wpAny (model prog w) A (Builtin.List.listLengthHint (.ref a)) Q E s:=by
 unfold Builtin.List.listLengthHint
 refine Ab (wpAny_specialOf hT PySem.F.slot_set_len.lookup ?_)
 generalize hid:("set.__len__":String)=id0
 wp_delta
 rw[show splitId id0=some ("set","__len__") from by subst hid;decide+kernel]
 subst hid
 refine Ab (wpAny_isInstance (T:="set") (b:=true) hT sub_set_self ?_)
 refine wpAny_ite_split (fun z=>absurd z (by decide)) fun _=>?_
 refine wpAny_ite_split (fun _=>Ab (Ld hT (Ae h))) fun z=>absurd (by decide+kernel) z
theorem Ze8{a S:Addr}{o:Obj}{es:Array (Int×Value)}{ep:Nat}{t:SetTable}{res:Value}{R:Result→Shared→Prop}(hh:A.handled=none)(hc:o.cls= .type "set")(ho:s.heap.get? a=some o)(hd:o.data= .set es ep t)(hf:t.fits es.size=true)(ht:TOk t (Vx w))(hz:es.size≤sizeLine)
  (hSa:S≠a) (c0:Nat) (hS:s.heap.get? S=some {cls:= .type "list",data:= .seq #[] c0})
  (hR:∀h' tk d (vs:List Value) c',vs.Perm (es.toList.map (·.2))→(∀b u,b≠S→s.heap.get? b=some u→h'.get? b=some u)→h'.get? S=some {cls:= .type "list",dict:=none,data:= .seq vs.toArray c',slots:=#[]}→R (.ok (.ret res)) {s with heap:=h',toks:=tk,drawn:=d}):
  wpAny (model prog w) A.in1 (Ig (.ref S) (.ref a) res)
   (fun fin s'=>match fin with | .done f=>R (.ok f) s' | .again c'=>c'.quiet=true∧codeAny (model prog w) A c' R s') (fun e s'=>R (.error e) s') s:=by
 have lS:S<s.heap.objs.size:=An hS
 unfold Ig
 refine Ab (Ld (T:="set") ⟨o,ho,hc⟩ ?_)
 have q1:Builtin.List.listSameRef (.ref S) (.ref a)=false:=by simp[Builtin.List.listSameRef,hSa]
 have q2:(La "set"==La "list")=false:=by decide
 have q3:(La "set"==La "tuple")=false:=by decide
 simp only[q1,q2,q3,Bool.or_false,Bool.false_eq_true,if_false]
 refine Ab (Yn0 hc ho hd hf ht hz fun d h1 I T vs pv st lI na nT lT k1=>?_)
 have nSI:S≠I:=Nat.ne_of_lt (Nat.lt_of_lt_of_le lS lI)
 have nST:S≠T:=by
  rcases lT with rfl | lT
  ·exact hSa
  ·exact Nat.ne_of_lt (Nat.lt_of_lt_of_le lS lT)
 have nf:S∉[I,a,T]:=by
  simp only[Ao,Ak,or_false,not_or]
  exact⟨nSI,hSa,nST⟩
 have W:=Zy1 (prog:=prog) (w:=w) (A:=A.in1) (vs:=vs) hh na nT hd hf
 have vl:vs.length≤sizeLine:=by rw[pv.length_eq,Ad,Df];exact hz
 have hS1:h1.get? S=some {cls:= .type "list",data:= .seq #[] c0}:=k1 _ _ hS
 have key:∀(h2:Heap) (c1 tk:Nat),ItSt w I a T o es ep t vs 0 h2→(∀b u,b≠S→s.heap.get? b=some u→h2.get? b=some u)→h2.get? S=some {cls:= .type "list",data:= .seq #[] c1}→
   codeAny (model prog w) A (.builtin "list.extend.loop" ⟨[.ref S,.ref I,res],[]⟩) R {s with heap:=h2,toks:=tk,drawn:=d}:=by
  intro h2 c1 tk st2 k2 g2
  refine codeAny_extend_loopS W.toS vl S nf res vs.length 0 _ #[] c1 rfl (Nat.zero_le _) st2 g2 (ItemsOf.nil _) fun s' acc c' mv hS' hacc=>?_
  rw[Moved.eq_with mv]
  have ea:acc=vs.toArray:=by
   apply Array.ext'
   apply List.ext_getElem?
   intro i
   by_cases hi:i<acc.size
   ·have h3:acc.toList[i]?=some acc[i]:=by rw[Dt,Bk hi]
    rw[h3]
    exact(hacc.2 i acc[i] (Bk hi)).symm
   ·rw[Dn (by rw[Df];omega),Dn (by have:=hacc.1;show vs.length≤i;omega)]
  rw[ea] at hS'
  refine hR s'.heap s'.toks d vs c' pv (fun b u hb e=>mv.heap b u ?_ (k2 b u hb e)) hS'
  intro hm
  rcases Ao.mp hm with z | z
  ·exact hb z
  ·rw[Am.mp z] at e
   exact absurd (An e) (Nat.not_lt.mpr lI)
 refine Ab (Ex (Zv9 ⟨o,k1 _ _ ho,hc⟩ ?_))
 refine wpAny_ite_split (fun _=>?_) fun _=>Ae ⟨Kw PySem.F.plain_extend_loop _,key h1 c0 _ st (fun b u _ e=>k1 b u e) hS1⟩
 refine Ab (wpAny_rule (Ab ?_))
 show wpAny _ _ (updateSeq S (·.push .none) >>=fun _=>updateSeq S (·.pop)) _ _ _
 refine Ab (wpAny_updateSeq hS1 rfl ?_)
 have g2:=Ip (Lc (·.push Md)) hS1 rfl
 refine wpAny_updateSeq (hz:=by seq_fits) g2 rfl ?_
 have g3:=Ip (Lc (·.pop)) g2 rfl
 have far:∀b u,b≠S→h1.get? b=some u→((h1.update S (Lc (·.push Md))).update S (Lc (·.pop))).get? b=some u:=fun b u hb e=>(Ix _ _ (Hw hb)).trans ((Ix _ _ (Hw hb)).trans e)
 refine Ae ⟨Kw PySem.F.plain_extend_loop _,key _ _ _ (W.frame 0 _ _ st fun b hb u e=>far b u (fun z=>nf (z ▸ hb)) e) (fun b u hb e=>far b u hb (k1 b u e)) g3⟩
theorem N5{r:Value}{P:List Value→Prop}{R:List Value→Shared→Prop}
  (hx:∀R:Result→Shared→Prop,(∀h' tk d vs c',P vs→(∀b u,s.heap.get? b=some u→h'.get? b=some u)→h'.get? s.heap.objs.size=some {cls:= .type "list",dict:=none,data:= .seq vs.toArray c',slots:=#[]}→R (.ok (.ret (.ref s.heap.objs.size))) {s with heap:=h',toks:=tk,drawn:=d})→
   wpAny (model prog w) A.in1 (Ig (.ref s.heap.objs.size) r (.ref s.heap.objs.size))
    (fun fin s'=>match fin with | .done f=>R (.ok f) s' | .again c'=>c'.quiet=true∧codeAny (model prog w) A c' R s') (fun e s'=>R (.error e) s') {s with heap:=s.heap.push {cls:= .type "list",data:= .seq ([]:List Value).toArray}})
  (h:∀h' tk d vs,P vs→(∀b u,s.heap.get? b=some u→h'.get? b=some u)→s.heap.objs.size≤h'.objs.size→R vs {s with heap:=h',toks:=tk,drawn:=d}):
  wpAny (model prog w) A (collect r) R E s:=by
 unfold collect
 refine Ab (wpAny_runValue (Ic entry_proto_collect' ?_))
 rw[Ht PySem.F.plain_proto_collect _]
 show wpAny _ A.in1 (newList [] >>=fun l=>again (.builtin "list.__iadd__" ⟨[l,r],[]⟩)) _ _ s
 refine Ab (Hn (Ae ⟨Kw PySem.F.plain_list_iadd _,Ic entry_list_iadd' ?_⟩))
 rw[Ht PySem.F.plain_list_iadd _]
 have fin:∀s2:Shared,(∃h' tk d,∃vs:List Value,∃c',P vs∧(∀b u,s.heap.get? b=some u→h'.get? b=some u)∧h'.get? s.heap.objs.size=some {cls:= .type "list",dict:=none,data:= .seq vs.toArray c',slots:=#[]}∧s2={s with heap:=h',toks:=tk,drawn:=d})→wpAny (model prog w) A (load s.heap.objs.size >>=fun o=>match o.data with | .seq xs _=>pure xs.toList | _=>unsupported "internal:collect") R E s2:=by
  rintro s2 ⟨h',tk,d,vs,c',pv,k,g,rfl⟩
  exact Ab (wpAny_load g (Ae (h h' tk d vs pv k (Nat.le_of_lt (An g)))))
 have key:=hx (fun q s2=>q= .ok (.ret (.ref s.heap.objs.size))∧∃h' tk d,∃vs:List Value,∃c',P vs∧(∀b u,s.heap.get? b=some u→h'.get? b=some u)∧h'.get? s.heap.objs.size=some {cls:= .type "list",dict:=none,data:= .seq vs.toArray c',slots:=#[]}∧s2={s with heap:=h',toks:=tk,drawn:=d})
  (fun h' tk d vs c' pv k g=>⟨rfl,h',tk,d,vs,c',pv,k,g,rfl⟩)
 show wpAny _ A.in1 (Ig (.ref s.heap.objs.size) r (.ref s.heap.objs.size)) _ _ _
 refine Hm key (fun f s2 x=>?_) fun e s2 x=>by cases x.1
 cases f with
 | done f=>
  obtain⟨e,x⟩:=x
  cases e
  exact fin s2 x
 | again c1=>
  refine⟨x.1,Kf x.2 fun q s3 y=>?_⟩
  obtain⟨rfl,y⟩:=y
  exact fin s3 y
theorem Ef{h:Heap}{a:Addr}{vs:List Value}{n:Nat}(ho:h.get? a=some (seqObj "list" vs.toArray n))(out:Array Value):(∃c,(sortedHeap h a vs out).get? a=some (seqObj "list" out c))∧∀b u,b≠a→h.get? b=some u→(sortedHeap h a vs out).get? b=some u:=by
 have la:=An ho
 constructor
 ·have h1:=get?_update_seq ho (fun _=>(#[]:Array Value))
  have h2:(((h.update a (Lc fun _=>#[])).push (seqObj "tuple" vs.toArray 0)).push (seqObj "list" #[] 0)).get? a=_:=Ag _ (Ag _ h1)
  exact⟨_,get?_update_seq h2 (fun _=>out)⟩
 ·intro b u hb e
  unfold sortedHeap
  rw[Ix _ _ (Hw hb)]
  refine Ag _ (Ag _ ?_)
  rw[Ix _ _ (Hw hb)]
  exact e
theorem Za0{r:Value}{P:List Value→List Int→Prop}{Q:Value→Shared→Prop}
  (hx:∀R:Result→Shared→Prop,(∀h' tk d vs c',(∃ns,P vs ns)→(∀b u,s.heap.get? b=some u→h'.get? b=some u)→h'.get? s.heap.objs.size=some {cls:= .type "list",dict:=none,data:= .seq vs.toArray c',slots:=#[]}→R (.ok (.ret (.ref s.heap.objs.size))) {s with heap:=h',toks:=tk,drawn:=d})→
   wpAny (model prog w) A.in1.in1 (Ig (.ref s.heap.objs.size) r (.ref s.heap.objs.size))
    (fun fin s'=>match fin with | .done f=>R (.ok f) s' | .again c'=>c'.quiet=true∧codeAny (model prog w) A.in1 c' R s') (fun e s'=>R (.error e) s') {s with heap:=s.heap.push {cls:= .type "list",data:= .seq ([]:List Value).toArray}})
  (hP:∀vs ns,P vs ns→IntsAre vs ns∧vs.length<64)
  (h:∀h' tk d D c (out:List Value) ns ns' vs,(∀b u,s.heap.get? b=some u→h'.get? b=some u)→s.heap.objs.size≤D→h'.get? D=some {cls:= .type "list",dict:=none,data:= .seq out.toArray c,slots:=#[]}→P vs ns→IntsAre out ns'→ns'.Perm ns→ns'.Pairwise (·≤·)→Q (.ref D) {s with heap:=h',toks:=tk,drawn:=d}):
  wpAny (model prog w) A (call (.builtin "sorted") [r]) Q E s:=by
 refine Calls.call_function_entry kind_sorted plain_sorted entry_sorted (args_sorted1 _) ?_
 unfold Builtin.«sorted»
 refine Ab (m:=checkCount "sorted" 1 1 _) (Ae ?_)
 refine Ab (N5 hx fun h1 tk d vs p0 k1 hs=>?_)
 obtain⟨ns,p1⟩:=p0
 obtain⟨i1,l1⟩:=hP vs ns p1
 refine Ab (wpAny_newList ?_ (by rw[Ib];omega))
 have g1:(h1.push (seqObj "list" vs.toArray 0)).get? h1.objs.size=some (seqObj "list" vs.toArray 0):=Ar _ rfl
 refine Ab (Ex (Ij slot_list_sort ⟨_,g1,rfl⟩ entry_list_sort (list_sort_tree g1 i1 l1 fun out ns' a1 a2 a3=>⟨_,rfl,?_⟩) (args_list_sort _)))
 obtain⟨⟨c,g2⟩,k2⟩:=Ef g1 out
 have ea:out=out.toList.toArray:=by simp
 refine Ae ⟨_,rfl,h _ tk d h1.objs.size c out.toList ns ns' vs (fun b u e=>k2 b u (Nat.ne_of_lt (An (k1 b u e))) (Ag _ (k1 b u e))) hs ?_ p1 a1 a2 a3⟩
 rw[←ea]
 exact g2
end
end SW
namespace SW
open PySem PyProof.Rows
theorem Zg9{vs vs':List Value}(p:vs'.Perm vs):∀{ns:List Int},IntsAre vs ns→∃ns',ns'.Perm ns∧IntsAre vs' ns':=by
 induction p with
 | nil=>intro ns h;exact⟨ns,Ly _,h⟩
 | cons x p ih=>
  intro ns h
  cases h with
  | cons n t r=>
   obtain⟨ns',a,b⟩:=ih r
   exact⟨_,a.cons _,.cons n t b⟩
 | swap x y l=>
  intro ns h
  cases h with
  | cons n t r=>
   cases r with
   | cons m u r=>exact⟨_,Mg.swap _ _ _,.cons m u (.cons n t r)⟩
 | trans p q ih1 ih2=>
  intro ns h
  obtain⟨k1,a1,b1⟩:=ih2 h
  obtain⟨k2,a2,b2⟩:=ih1 b1
  exact⟨k2,a2.trans a1,b2⟩
end SW
namespace L3
open PySem PySem.Spec PyProof.Rows L2
section
variable{X:Cx}{pins:List (Addr×Obj)}{σ:L2.St}{H:Hp}{s:Shared}
theorem drew(I:Inv X pins σ H s)(d:Drawn):Inv X pins σ H {s with drawn:=d}:=⟨I.ok,I.os,I.bare,I.base,I.loc,I.cell,I.free,I.freeC,I.pin,I.hok,I.len⟩
def Xy(P:Program)(w:World)(a:Addr)(ks:List Key)(h:Heap):Prop:=∃o,h.get? a=some o∧SW.SetO (Zj P w) (SW.Vx w) o ks
theorem Xy.stay{P:Program}{w:World}{a:Addr}{ks:List Key}{h h':Heap}(x:Xy P w a ks h)(k:∀o,h.get? a=some o→h'.get? a=some o):Xy P w a ks h':=by
 obtain⟨o,ho,r⟩:=x
 exact⟨o,k _ ho,r⟩
theorem Zq0(hc:X.calm=true):Xk X (.type "set") (fun xs H Q=>∃(a:Addr) (ks:List Key),xs=[V.ref a]∧SqL X.K H a (ks.map kV)∧ks.length+1<scanBound∧∀p ks',H p=none→ks'.Nodup→ks'.length≤ks.length→(∀k,k∈ks'↔k∈ks)→Q (.ref p) (upd H p (.ext (Xy X.prog X.w p ks')))):=by
 intro pins s σ H xs us Q I r h
 obtain⟨a,ks,rfl,hx,hz,q⟩:=h
 obtain⟨u,rfl,ru⟩:=Tj r
 cases ru
 obtain⟨its,rv,p,_⟩:=I.list hx
 have hl:its.length=ks.length:=by have:=rv.length;rw[Ad] at this;exact this.symm
 refine SW.Y20 (knd:=Zj X.prog X.w) (key:=fun i=>ks.getD i (.inl 0)) (I.ok.hd hc) p.isList (fun i v e=>?_) (by rw[Ai];omega) fun h' tk o ks' ho hS hlk hm k=>?_
 ·rw[Kc] at e
  have hi:i<ks.length:=by have:=(Ac.mp e).1;omega
  have e1:(ks.map kV)[i]?=some (kV ks[i]):=by rw[Aj,Aa hi];rfl
  obtain⟨u,e2,r2⟩:=rv.get e1
  rw[e] at e2
  cases e2
  have e3:ks.getD i (.inl 0)=ks[i]:=by rw[Aw,Aa hi];rfl
  have hk:G5 ks[i] v=true:=Nz (P:=X.prog) (w:=X.w) r2
  refine⟨by show G5 (ks.getD i (.inl 0)) v=true;rw[e3];exact hk,?_⟩
  rcases Zm hk with⟨i,t,_,rfl⟩ | ⟨x,t,_,rfl⟩<;>rfl
 ·have k':∀b u,s.heap.get? b=some u→h'.get? b=some u:=fun b u e=>k b u (An e) e
  refine⟨.ref _,_,I.laid (a:=s.heap.objs.size) (o:= .ext (Xy X.prog X.w s.heap.objs.size ks')) (t':=tk) k' (Nat.le_refl _) ⟨⟨o,ho,hS⟩,⟨o,ho⟩,fun h1 h2 x k=>x.stay k⟩,rfl,q _ ks' (I.hok.fresh (Nat.le_refl _)) hS.nd (by rw[Ai,hl] at hlk;exact hlk) fun k=>?_⟩
  rw[hm,Ai,hl,List.mem_iff_getElem]
  constructor
  ·rintro⟨j,hj,e⟩
   exact⟨j,hj,by rw[←e,Aw,Aa hj];rfl⟩
  ·rintro⟨j,hj,e⟩
   exact⟨j,hj,by rw[←e,Aw,Aa hj];rfl⟩
theorem Fa{P:Program}{w:World}:∀{ns:List Int} {l:List (Int×Value)},SW.KeysOf (Zj P w) (ns.map Ds) l→IntsAre (l.map (·.2)) ns
 | [],l,h=>by cases h;exact .nil
 | n::ns,l,h=>by
  cases h with
  | cons h r=>
   rename_i e l
   rcases Zm (k:=Ds n) (v:=e.2) h with⟨i,t,q,hv⟩ | ⟨x,t,q,hv⟩
   ·cases q
    rw[As,hv]
    exact .cons _ _ (Fa r)
   ·cases q
theorem Vd:∀{vs:List Value} {ns:List Int},IntsAre vs ns→Vals (ns.map V.int) vs
 | _,_,.nil=> .nil
 | _,_,.cons n t r=> .cons ⟨t,rfl⟩ (Vd r)
theorem Zj5(I:Inv X pins σ H s){p:Addr}{φ:Heap→Prop}(h:H p=some (.ext φ)):φ s.heap:=(I.hok p _ h).1
def Y69(P:Program)(w:World):List V→Hp→VK→Prop:=fun xs H Q=>∃(p:Addr) (ns:List Int),xs=[V.ref p]∧H p=some (.ext (Xy P w p (ns.map Ds)))∧ns.length<64∧∀q (ms:List Int),H q=none→ms.Perm ns→ms.Pairwise (·≤·)→Q (.ref q) (upd H q (.lst (ms.map V.int)))
theorem E4(hc:X.calm=true):Xk X (.builtin "sorted") (Y69 X.prog X.w):=by
 intro pins s σ H xs us Q I r h
 obtain⟨p,ns,rfl,hx,hz,q⟩:=h
 obtain⟨u,rfl,ru⟩:=Tj r
 cases ru
 obtain⟨o,ho,hS⟩:=Zj5 I hx
 obtain⟨es,ep,t,hd,he,hks,hf,ht⟩:=hS.dat
 have hi:=Fa hks
 have hl:es.size=ns.length:=by have:=hks.len;rw[Ad,Df] at this;exact this.symm
 refine SW.Za0 (P:=fun vs ns'=>ns'.Perm ns∧IntsAre vs ns') (fun R hR=>?_) (fun vs ns' ⟨h1,h2⟩=>⟨h2,?_⟩) fun h' tk d D c out n1 n2 vs k lD g ⟨a1,a2⟩ b1 b2 b3=>?_
 ·have hS0:(s.heap.push {cls:= .type "list",data:= .seq ([]:List Value).toArray}).get? s.heap.objs.size=some {cls:= .type "list",data:= .seq #[] 0}:=Ar _ rfl
  refine SW.Ze8 (A:=X.A.in1) (s:={s with heap:=s.heap.push {cls:= .type "list",data:= .seq ([]:List Value).toArray}}) (I.ok.hd hc) hS.ex.1 (Ag _ ho) hd hf ht (by rw[hl,Ib];omega) (Nat.ne_of_gt (An ho)) 0 hS0 fun h' tk d vs c' pv k g=>?_
  obtain⟨ns',q1,q2⟩:=SW.Zg9 pv hi
  exact hR h' tk d vs c' ⟨ns',q1,q2⟩ (fun b u e=>k b u (Nat.ne_of_lt (An e)) (Ag _ e)) g
 ·rw[h2.length,h1.length_eq];exact hz
 ·have hp:n2.Perm ns:=b2.trans a1
  refine⟨.ref D,_,drew (I.laid (a:=D) (o:= .lst (n2.map V.int)) (t':=tk) k lD ⟨?_,out,c,Vd b1,g⟩) d,rfl,q D n2 (I.hok.fresh lD) hp b3⟩
  rw[Ad,hp.length_eq,Ib];omega
end
end L3
namespace SW
open PySem PySem.Spec PyProof.Rows
theorem Zh6{vs vs':List Value}(p:vs'.Perm vs):∀{ns:List Str},StrsAre vs ns→∃ns',ns'.Perm ns∧StrsAre vs' ns':=by
 induction p with
 | nil=>intro ns h;exact⟨ns,Ly _,h⟩
 | cons x p ih=>
  intro ns h
  cases h with
  | cons n t r=>
   obtain⟨ns',a,b⟩:=ih r
   exact⟨_,a.cons _,.cons n t b⟩
 | swap x y l=>
  intro ns h
  cases h with
  | cons n t r=>
   cases r with
   | cons m u r=>exact⟨_,Mg.swap _ _ _,.cons m u (.cons n t r)⟩
 | trans p q ih1 ih2=>
  intro ns h
  obtain⟨k1,a1,b1⟩:=ih2 h
  obtain⟨k2,a2,b2⟩:=ih1 b1
  exact⟨k2,a2.trans a1,b2⟩
end SW
namespace L3
open PySem PySem.Spec PyProof.Rows L2
section
variable{X:Cx}{pins:List (Addr×Obj)}{σ:L2.St}{H:Hp}{s:Shared}
theorem Ed{P:Program}{w:World}:∀{ns:List Str} {l:List (Int×Value)},SW.KeysOf (Zj P w) (ns.map Il) l→StrsAre (l.map (·.2)) ns
 | [],l,h=>by cases h;exact .nil
 | n::ns,l,h=>by
  cases h with
  | cons h r=>
   rename_i e l
   rcases Zm (k:=Il n) (v:=e.2) h with⟨i,t,q,hv⟩ | ⟨x,t,q,hv⟩
   ·cases q
   ·cases q
    rw[As,hv]
    exact .cons _ _ (Ed r)
theorem Gv:∀{vs:List Value} {ns:List Str},StrsAre vs ns→Vals (ns.map V.str) vs
 | _,_,.nil=> .nil
 | _,_,.cons n t r=> .cons ⟨t,rfl⟩ (Gv r)
end
end L3
namespace SW
open PySem PySem.Spec PyProof.Rows
section
variable{prog:Program}{w:World}{A:Around}{E:Value→Shared→Prop}{s:Shared}
theorem Bo{r:Value}{P:List Value→List Str→Prop}{Q:Value→Shared→Prop}
  (hx:∀R:Result→Shared→Prop,(∀h' tk d vs c',(∃ns,P vs ns)→(∀b u,s.heap.get? b=some u→h'.get? b=some u)→h'.get? s.heap.objs.size=some {cls:= .type "list",dict:=none,data:= .seq vs.toArray c',slots:=#[]}→R (.ok (.ret (.ref s.heap.objs.size))) {s with heap:=h',toks:=tk,drawn:=d})→
   wpAny (model prog w) A.in1.in1 (Ig (.ref s.heap.objs.size) r (.ref s.heap.objs.size))
    (fun fin s'=>match fin with | .done f=>R (.ok f) s' | .again c'=>c'.quiet=true∧codeAny (model prog w) A.in1 c' R s') (fun e s'=>R (.error e) s') {s with heap:=s.heap.push {cls:= .type "list",data:= .seq ([]:List Value).toArray}})
  (hP:∀vs ns,P vs ns→StrsAre vs ns∧vs.length<64)
  (h:∀h' tk d D c (out:List Value) ns ns' vs,(∀b u,s.heap.get? b=some u→h'.get? b=some u)→s.heap.objs.size≤D→h'.get? D=some {cls:= .type "list",dict:=none,data:= .seq out.toArray c,slots:=#[]}→P vs ns→StrsAre out ns'→ns'.Perm ns→sortedS ns'=true→Q (.ref D) {s with heap:=h',toks:=tk,drawn:=d}):
  wpAny (model prog w) A (call (.builtin "sorted") [r]) Q E s:=by
 refine Calls.call_function_entry kind_sorted plain_sorted entry_sorted (args_sorted1 _) ?_
 unfold Builtin.«sorted»
 refine Ab (m:=checkCount "sorted" 1 1 _) (Ae ?_)
 refine Ab (N5 hx fun h1 tk d vs p0 k1 hs=>?_)
 obtain⟨ns,p1⟩:=p0
 obtain⟨i1,l1⟩:=hP vs ns p1
 refine Ab (wpAny_newList ?_ (by rw[Ib];omega))
 have g1:(h1.push (seqObj "list" vs.toArray 0)).get? h1.objs.size=some (seqObj "list" vs.toArray 0):=Ar _ rfl
 refine Ab (Ex (Ij slot_list_sort ⟨_,g1,rfl⟩ entry_list_sort (list_sort_treeK strKind_oneLt g1 i1.keysOf (fun v₁ v₂ rest e=>keyKind_strs (by rw[←e];exact i1)) l1 fun st' a1 a2=>⟨_,rfl,?_⟩) (args_list_sort _)))
 obtain⟨ns',b1,b2,b3⟩:=sorted_out_str i1 a1 a2
 generalize (arrOf st').map (·.2)=out at b1
 obtain⟨⟨c,g2⟩,k2⟩:=Ef g1 out
 have ea:out=out.toList.toArray:=by simp
 refine Ae ⟨_,rfl,h _ tk d h1.objs.size c out.toList ns ns' vs (fun b u e=>k2 b u (Nat.ne_of_lt (An (k1 b u e))) (Ag _ (k1 b u e))) hs ?_ p1 b1 b2 b3⟩
 rw[←ea]
 exact g2
end
theorem Y53:∀a b:List Nat,ltCps a b=false→ltCps b a=false→a=b
 | [],[],_,_=>rfl
 | [],y::b,h,_=>by simp[ltCps] at h
 | x::a,[],_,h=>by simp[ltCps] at h
 | x::a,y::b,h1,h2=>by
  simp only[ltCps,Bool.or_eq_false_iff,Bool.and_eq_false_iff,decide_eq_false_iff_not,beq_eq_false_iff_ne] at h1 h2
  have e:x=y:=by omega
  subst e
  rw[Y53 a b (h1.2.resolve_left (fun z=>z rfl)) (h2.2.resolve_left (fun z=>z rfl))]
theorem Yq3:∀a b c:List Nat,ltCps b a=false→ltCps c b=false→ltCps c a=false
 | [],b,c,h1,h2=>by
  cases c with
  | nil=>rfl
  | cons z c=>simp[ltCps]
 | x::a,[],c,h1,h2=>by simp[ltCps] at h1
 | x::a,y::b,[],h1,h2=>by simp[ltCps] at h2
 | x::a,y::b,z::c,h1,h2=>by
  simp only[ltCps,Bool.or_eq_false_iff,Bool.and_eq_false_iff,decide_eq_false_iff_not,beq_eq_false_iff_ne] at h1 h2 ⊢
  refine⟨by omega,?_⟩
  by_cases e:z=x
  ·right
   have e1:y=x:=by omega
   have e2:z=y:=by omega
   exact Yq3 a b c (h1.2.resolve_left (fun q=>q e1)) (h2.2.resolve_left (fun q=>q e2))
  ·exact .inl e
def leS(a b:Str):Prop:=ltCps b.cps.toList a.cps.toList=false
theorem Z27:∀(p:Str) (l:List Str),risingS p l=true→(p::l).Pairwise leS
 | p,[],_=>List.pairwise_singleton _ _
 | p,x::r,h=>by
  have h':(!ltCps x.cps.toList p.cps.toList&&risingS x r)=true:=h
  simp only[Bz9,Bool.not_eq_true'] at h'
  have ih:=Z27 x r h'.2
  refine .cons (fun c hc=>?_) ih
  rcases Ao.mp hc with rfl | hc
  ·exact h'.1
  ·exact Yq3 _ _ _ h'.1 ((List.pairwise_cons.mp ih).1 c hc)
theorem Zj0(l:List Str)(h:sortedS l=true):l.Pairwise leS:=by
 cases l with
 | nil=>exact .nil
 | cons x r=>exact Z27 x r h
theorem Eh{a b:List Str}(ha:a.Pairwise leS)(hb:b.Pairwise leS)(p:a.Perm b):a=b:=
 Mg.eq_of_pairwise (le:=leS) (fun x y _ _ h1 h2=>by
  have:=Y53 _ _ h2 h1
  cases x;cases y
  simp only[Str.mk.injEq]
  exact Array.toList_inj.mp this) ha hb p
end SW
namespace L3
open PySem PySem.Spec PyProof.Rows L2
section
variable{X:Cx}{pins:List (Addr×Obj)}{σ:L2.St}{H:Hp}{s:Shared}
def Zh5(P:Program)(w:World):List V→Hp→VK→Prop:=fun xs H Q=>∃(p:Addr) (ns:List Str),xs=[V.ref p]∧H p=some (.ext (Xy P w p (ns.map Il)))∧ns.length<64∧∀q (ms:List Str),H q=none→ms.Perm ns→ms.Pairwise SW.leS→Q (.ref q) (upd H q (.lst (ms.map V.str)))
theorem Ge(hc:X.calm=true):Xk X (.builtin "sorted") (Zh5 X.prog X.w):=by
 intro pins s σ H xs us Q I r h
 obtain⟨p,ns,rfl,hx,hz,q⟩:=h
 obtain⟨u,rfl,ru⟩:=Tj r
 cases ru
 obtain⟨o,ho,hS⟩:=Zj5 I hx
 obtain⟨es,ep,t,hd,he,hks,hf,ht⟩:=hS.dat
 have hi:=Ed hks
 have hl:es.size=ns.length:=by have:=hks.len;rw[Ad,Df] at this;exact this.symm
 refine SW.Bo (P:=fun vs ns'=>ns'.Perm ns∧StrsAre vs ns') (fun R hR=>?_) (fun vs ns' ⟨h1,h2⟩=>⟨h2,?_⟩) fun h' tk d D c out n1 n2 vs k lD g ⟨a1,a2⟩ b1 b2 b3=>?_
 ·have hS0:(s.heap.push {cls:= .type "list",data:= .seq ([]:List Value).toArray}).get? s.heap.objs.size=some {cls:= .type "list",data:= .seq #[] 0}:=Ar _ rfl
  refine SW.Ze8 (A:=X.A.in1) (s:={s with heap:=s.heap.push {cls:= .type "list",data:= .seq ([]:List Value).toArray}}) (I.ok.hd hc) hS.ex.1 (Ag _ ho) hd hf ht (by rw[hl,Ib];omega) (Nat.ne_of_gt (An ho)) 0 hS0 fun h' tk d vs c' pv k g=>?_
  obtain⟨ns',q1,q2⟩:=SW.Zh6 pv hi
  exact hR h' tk d vs c' ⟨ns',q1,q2⟩ (fun b u e=>k b u (Nat.ne_of_lt (An e)) (Ag _ e)) g
 ·rw[h2.length,h1.length_eq];exact hz
 ·have hp:n2.Perm ns:=b2.trans a1
  refine⟨.ref D,_,drew (I.laid (a:=D) (o:= .lst (n2.map V.str)) (t':=tk) k lD ⟨?_,out,c,Gv b1,g⟩) d,rfl,q D n2 (I.hok.fresh lD) hp (SW.Zj0 _ b3)⟩
  rw[Ad,hp.length_eq,Ib];omega
end
section
variable{X:Cx}{pins:List (Addr×Obj)}{σ:L2.St}{H:Hp}{s:Shared}
theorem Zj8{prog:Program}{w:World}{A:Around}{E:Value→Shared→Prop}{s:Shared}{t sl:Addr}{its:Array Value}{vl vu:Value}{lo hi:Option Int}{Q:Value→Shared→Prop}(ht:IsTup s.heap t its)(hs:s.heap.IsSliceOf sl vl vu .none)(pl:IsPart vl lo)(pu:IsPart vu hi)
  (hw:HT.sIx its.size 0 lo=0∧HT.sIx its.size its.size hi=its.size) (h:Q (.ref t) s):wpAny (model prog w) A (getItem (.ref t) (.ref sl)) Q E s:=by
 obtain⟨os,hos,hcs,hds⟩:=id hs
 have hTs:s.TypeIs (.ref sl) "slice":=⟨os,hos,hcs⟩
 unfold getItem
 try with_reducible refine Ex ?_
 first | refine Ab (Ae ?_) | skip
 refine Ab (wpAny_sequenceKey ht.typeIs (by decide) ?_)
 refine Ab (Iq (name:=Str.ofString "__getitem__") ht.typeIs Ho (Ij Ho ht.typeIs entry_tuple_getitem ?_ (args_tuple_getitem _ _)))
 show wpAny _ _ (Builtin.Tuple.tupleItemsOf (.ref t) >>=_) _ _ s
 refine Ab (tupleItemsOf_ ht (Ab (Ld hTs ?_)))
 rw[if_pos (by decide)]
 refine Ab (HT.Ww hs pl pu ?_)
 show wpAny _ _ (if (((HT.sIx its.size 0 lo:Nat):Int)==0&&(1:Int)==1&&(HT.sIx its.size its.size hi - HT.sIx its.size 0 lo)==its.size)=true then _ else _) _ _ s
 rw[if_pos (by rw[hw.1,hw.2];simp)]
 refine Ab ?_
 unfold Builtin.Tuple.tupleIsExact
 refine Ab (Ld ht.typeIs (Ae ?_))
 rw[if_pos (by decide)]
 exact Ab (wpAny_rule (Ae ⟨_,rfl,Ae h⟩))
theorem Ya9:SlR X (fun x lo hi H Q=>∃a xs,x= .ref a∧SqT X.K H a xs∧(HT.sIx xs.length 0 lo=0∧HT.sIx xs.length xs.length hi=xs.length)∧Q x H):=by
 intro pins s σ H x v vl vu lo hi sl Q I rx hs pl pu h
 obtain⟨a,xs,rfl,hx,hw,q⟩:=h
 cases rx
 obtain⟨its,r,ht,hz⟩:=I.tuple hx
 have hlen:its.toArray.size=xs.length:=by rw[Ai];exact r.length.symm
 exact⟨"tuple",_,Ho.lookup,ht.typeIs,Zj8 ht hs pl pu (by rw[hlen];exact hw) ⟨.ref a,H,I,rfl,q⟩⟩
end
end L3
namespace L2
open PySem PySem.Spec PyProof.Rows
variable{X:Cx}
def Zz3:V→List V→Hp→VK→Prop:=fun x vs H Q=>∃l xs y,x= .ref l∧vs=[.int 0,y]∧H l=some (.lst xs)∧xs.length<sizeLine∧Q .non (upd H l (.lst (y::xs)))
theorem Za7:MtM X "list.insert" Zz3:=by
 intro pins s σ H x vs v us Q I rx rv h
 obtain⟨l,xs,y,rfl,rfl,hH,hz,q⟩:=h
 cases rx
 obtain⟨u0,u,rfl,ru0,ru⟩:=rv.two
 obtain⟨t,rfl⟩:∃t,u0=Value.int 0 t:=ru0
 obtain⟨z,its,n,r,hl,e⟩:=I.lstM hH
 refine Ma F.slot_list_insert ⟨_,e,rfl⟩ F.entry_list_insert (F.args_list_insert_3 _ _ _) (PySem.AutoListH.list_insert_list_int_val_1 l its.toArray n 0 t u (by decide) (by rw[Ai];omega)) ⟨e,?_⟩
 refine⟨.non,_,I.lset (its':=u::its) hH e (by simp) (.cons ru r) ?_,rfl,q⟩
 rw[Au]
 omega
end L2
namespace L3
open PySem PySem.Spec PyProof.Rows L2
section
variable{X:Cx}{pins:List (Addr×Obj)}{σ:L2.St}{H:Hp}{s:Shared}
def Yn8:List V→Hp→VK→Prop:=fun xs H Q=>∃d kvs,xs=[V.ref d]∧H d=some (.dK kvs)∧∀p,H p=none→Q (.ref p) (upd H p (.lst (kvs.map fun q=>kV q.1)))
theorem Z93(hc:X.calm=true):Xk X (.type "list") Yn8:=by
 intro pins s σ H xs us Q I r h
 obtain⟨d,kvs,rfl,hd,q⟩:=h
 obtain⟨u,rfl,ru⟩:=Tj r
 cases ru
 obtain⟨lz,lo,vs,kv,hD⟩:=I.hok d _ hd
 obtain⟨ep,hat⟩:=hD.dictAt
 have kl:vs.length=kvs.length:=kv.length.symm
 refine PySem.W.kdl_call (PySem.W.kdl_dict (knd:=Zj X.prog X.w) (kvs:=vs) (ep:=ep) lo) (I.ok.hd hc) hat (by rw[kl];exact lz) fun h' tk acc c k g ha=>?_
 have e:acc=acc.toList.toArray:=by simp
 rw[e] at g
 refine⟨.ref _,_,I.laid (a:=s.heap.objs.size) (o:= .lst (kvs.map fun q=>kV q.1)) (t':=tk) k (Nat.le_refl _) ⟨by rw[Ad];exact lz,acc.toList,c,?_,g⟩,rfl,q _ (I.hok.fresh (Nat.le_refl _))⟩
 have rel:∀(k:Key) (v:Value),(Zj X.prog X.w).is k v=true→RelV (kV k) v:=fun k v hk=>by
  rw[Zc2] at hk
  rcases Zm hk with⟨i,t,rfl,rfl⟩ | ⟨x,t,rfl,rfl⟩
  ·exact⟨t,rfl⟩
  ·exact⟨t,rfl⟩
 have key:∀{a:List (Key×V)} {b:List (Key×Value)} {l:List Value},KV a b→l.length=b.length→(∀(i:Nat) x,l[i]?=some x→∃k y,b[i]?=some (k,y)∧(Zj X.prog X.w).is k x=true)→Vals (a.map fun q=>kV q.1) l:=by
  intro a b l h
  induction h generalizing l with
  | nil=>
   intro hl _
   cases Ih.mp hl
   exact .nil
  | cons e r ih=>
   intro hl hi
   cases l with
   | nil=>cases hl
   | cons x l=>
    obtain⟨k,y,e0,e1⟩:=hi 0 x rfl
    cases e0
    exact .cons (by have z:=e.1;show L2.RelV (kV _) x;rw[z];exact rel _ _ e1) (ih (by simpa using hl) fun i x hx=>by simpa using hi (i+1) x (by simpa using hx))
 exact key kv (by rw[Df];exact ha.1) fun i x hx=>ha.2 i x (by rw[←Dt];exact hx)
end
end L3
namespace SW
open PySem
noncomputable def itN{α:Type}(f:α→α):Nat→α→α
 | 0,x=>x
 | n+1,x=>itN f n (f x)
theorem Rl{α:Type}(f:α→α):∀(n m:Nat) (x:α),itN f (n+m) x=itN f m (itN f n x)
 | 0,m,x=>by rw[Nat.zero_add];rfl
 | n+1,m,x=>by rw[show n+1+m=(n+m)+1 by omega];exact Rl f n m (f x)
theorem Z41{α:Type}(f:α→α)(n:Nat)(x:α):itN f (n+1) x=f (itN f n x):=by rw[Rl];rfl
noncomputable def lf(x:Nat):Nat:=x * 5+1
noncomputable def lS:Nat→Nat
 | 0=>0
 | n+1=>5 * lS n+1
theorem Zp7:∀n,4 * lS n+1=5 ^ n
 | 0=>rfl
 | n+1=>by have:=Zp7 n;rw[Nat.pow_succ];show 4 * (5 * lS n+1)+1=_;omega
theorem Yp3:∀(n x:Nat),itN lf n x=5 ^ n * x+lS n
 | 0,x=>by show x=5 ^ 0 * x+0;simp
 | n+1,x=>by
  show itN lf n (x * 5+1)=_
  rw[Yp3 n,Nat.pow_succ,Nat.mul_add]
  have:=Zp7 n
  show _=_+(5 * lS n+1)
  have e:5 ^ n * (x * 5)=5 ^ n * 5 * x:=by rw[Nat.mul_comm x 5,←Nat.mul_assoc]
  omega
theorem pow5:∀k,∃a,5 ^ (2 ^ k)=1+2 ^ (k+2) * a∧a % 2=1
 | 0=>⟨1,rfl,rfl⟩
 | k+1=>by
  obtain⟨a,h,ho⟩:=pow5 k
  refine⟨a+2 ^ (k+1) * (a * a),?_,?_⟩
  ·have e0:5 ^ (2 ^ (k+1))=(5 ^ (2 ^ k)) ^ 2:=by rw[←Nat.pow_mul,←Nat.pow_succ]
   rw[e0,h,Nat.pow_two]
   have e1:2 ^ (k+2)=2 * 2 ^ (k+1):=by rw[Nat.pow_succ 2 (k+1),Nat.mul_comm]
   have e2:2 ^ (k+1+2)=4 * 2 ^ (k+1):=by rw[Nat.pow_add,Nat.mul_comm]
   rw[e1,e2]
   generalize 2 ^ (k+1)=t
   simp only[Nat.add_mul,Nat.mul_add,Nat.one_mul,Nat.mul_one]
   have e3:2 * t * a * (2 * t * a)=4 * t * (t * (a * a)):=by
    simp only[Nat.mul_assoc,Nat.mul_left_comm,Nat.mul_comm]
   have e4:4 * t * a=2 * (2 * t * a):=by rw[show 4 * t=2 * (2 * t) by omega,Nat.mul_assoc]
   omega
  ·rw[Nat.pow_succ,Nat.mul_assoc,Nat.mul_left_comm]
   omega
theorem Yg5(k x:Nat):itN lf (2 ^ k) x % 2 ^ (k+1)=(x+2 ^ k) % 2 ^ (k+1):=by
 obtain⟨a,h,ho⟩:=pow5 k
 rw[Yp3]
 have hs:=Zp7 (2 ^ k)
 rw[h] at hs ⊢
 have e2:2 ^ (k+2)=4 * 2 ^ k:=by rw[Nat.pow_add,Nat.mul_comm]
 have e1:2 ^ (k+1)=2 * 2 ^ k:=by rw[Nat.pow_succ,Nat.mul_comm]
 rw[e2] at hs ⊢
 rw[e1]
 generalize 2 ^ k=t at *
 have hS:lS t=t * a:=by rw[Nat.mul_assoc] at hs;omega
 rw[hS]
 obtain⟨b,rfl⟩:∃b,a=2 * b+1:=⟨a / 2,by omega⟩
 have:(1+4 * t * (2 * b+1)) * x+t * (2 * b+1)=(x+t)+2 * t * (2 * (2 * b+1) * x+b):=by
  simp only[Nat.add_mul,Nat.mul_add,Nat.one_mul,Nat.mul_one]
  have e3:4 * t * (2 * b) * x=2 * t * (2 * (2 * b) * x):=by
   rw[show 4 * t=2 * t * 2 by omega];simp only[Nat.mul_assoc]
  have e4:4 * t * x=2 * t * (2 * x):=by rw[show 4 * t=2 * t * 2 by omega,Nat.mul_assoc]
  have e5:t * (2 * b)=2 * t * b:=by rw[Nat.mul_left_comm,Nat.mul_assoc]
  omega
 rw[this,Nat.add_mul_mod_self_left]
theorem Z26:∀(k x e:Nat),∃n,n<2 ^ k∧itN lf n x % 2 ^ k=e % 2 ^ k
 | 0,x,e=>⟨0,by decide,by rw[Nat.pow_zero,Nat.mod_one,Nat.mod_one]⟩
 | k+1,x,e=>by
  obtain⟨n,hn,h⟩:=Z26 k x e
  have e1:2 ^ (k+1)=2 * 2 ^ k:=by rw[Nat.pow_succ,Nat.mul_comm]
  have hp:0<2 ^ k:=Nat.pow_pos (by decide)
  by_cases hc:itN lf n x % 2 ^ (k+1)=e % 2 ^ (k+1)
  ·exact⟨n,by omega,hc⟩
  ·refine⟨n+2 ^ k,by omega,?_⟩
   rw[Rl,Yg5]
   generalize itN lf n x=y at *
   rw[e1] at hc ⊢
   generalize 2 ^ k=t at *
   have m1:y % (2 * t)=y % t+t * (y / t % 2):=by rw[Nat.mul_comm 2 t,Nat.mod_mul]
   have m2:e % (2 * t)=e % t+t * (e / t % 2):=by rw[Nat.mul_comm 2 t,Nat.mod_mul]
   have m3:(y+t) % (2 * t)=(y+t) % t+t * ((y+t) / t % 2):=by rw[Nat.mul_comm 2 t,Nat.mod_mul]
   rw[Nat.add_mod_right,Nat.add_div_right _ hp] at m3
   rw[m3,m2]
   rw[m1,m2,h] at hc
   rcases Nat.mod_two_eq_zero_or_one (y / t) with z | z<;>rcases Nat.mod_two_eq_zero_or_one (e / t) with z' | z'
   ·rw[z,z'] at hc;exact absurd rfl hc
   ·rw[show(y / t).succ % 2=1 by omega,z',h]
   ·rw[show(y / t).succ % 2=0 by omega,z',h]
   ·rw[z,z'] at hc;exact absurd rfl hc
noncomputable def lp(mask:Nat)(p:Nat×Nat):Nat×Nat:=SetTable.leap mask p.1 p.2
theorem Yk3(mask:Nat):∀(n:Nat) (p:Nat×Nat),(itN (lp mask) n p).2=p.2 / 32 ^ n
 | 0,p=>by show p.2=_;rw[Nat.pow_zero,Nat.div_one]
 | n+1,p=>by
  show(itN (lp mask) n (lp mask p)).2=_
  rw[Yk3 mask n,Nat.pow_succ,Nat.mul_comm,←Nat.div_div_eq_div_mul]
  rfl
theorem Zk7{mask m:Nat}(hm:mask+1=m):∀(n:Nat) (i x:Nat),i % m=x % m→(itN (lp mask) n (i,0)).1 % m=itN lf n x % m
 | 0,i,x,h=>h
 | n+1,i,x,h=>by
  show(itN (lp mask) n (lp mask (i,0))).1 % m=itN lf n (lf x) % m
  have e:lp mask (i,0)=((i * 5+1) % m,0):=by
   show((i * 5+1+0 / 32) % (mask+1),0 / 32)=_
   rw[Nat.zero_div,Nat.add_zero,hm]
  rw[e]
  refine Zk7 hm n _ _ ?_
  unfold lf
  rw[Nat.mod_mod,Nat.add_mod,Nat.mul_mod,h,←Nat.mul_mod,←Nat.add_mod]
theorem Yq4(mask:Nat)(p:Nat×Nat):(lp mask p).1<mask+1:=Nat.mod_lt _ (Nat.succ_pos _)
theorem Z60{mask k:Nat}(hm:mask+1=2 ^ k)(p:Nat×Nat)(hp:p.2<2 ^ 64)(e:Nat)(he:e<mask+1):∃n,n<13+(mask+1)∧(itN (lp mask) n p).1=e:=by
 have h13:(itN (lp mask) 13 p).2=0:=by
  rw[Yk3]
  exact Nat.div_eq_of_lt (Nat.lt_of_lt_of_le hp (by decide))
 obtain⟨n,hn,h⟩:=Z26 k (itN (lp mask) 13 p).1 e
 refine⟨13+n,by rw[hm];omega,?_⟩
 rw[Rl]
 have hq:itN (lp mask) 13 p=((itN (lp mask) 13 p).1,0):=by rw[←h13]
 have hb:=Zk7 hm n (itN (lp mask) 13 p).1 _ rfl
 rw[←hq,h] at hb
 have lt:(itN (lp mask) n (itN (lp mask) 13 p)).1<mask+1:=by
  cases n with
  | zero=>show(itN (lp mask) (12+1) p).1<_;rw[Z41];exact Yq4 _ _
  | succ n=>rw[Z41];exact Yq4 _ _
 rw[hm] at lt he
 have q1:=Nat.mod_eq_of_lt lt
 have q2:=Nat.mod_eq_of_lt he
 omega
structure TG(t:SetTable)(led:Bool)(n:Nat):Prop where
 ok:TOk t led
 size:t.place.size=n
 lt:∀i,i<n→t.place.getD i 0≤t.mask
 pw:∃k,t.mask+1=2 ^ (k+1)
 few:n * 5<t.mask * 3
theorem Fw{t:SetTable}{j i:Nat}(h:t.slot j= .live i):t.place[i]?=some j:=by
 unfold SetTable.slot at h
 dsimp only at h
 split at h
 ·rename_i e
  cases h
  exact Kj e
 ·split at h<;>cases h
theorem TG.room{t:SetTable}{led:Bool}{n:Nat}(h:TG t led n):∃e,e<t.mask+1∧t.slot e= .empty:=by
 refine Classical.byContradiction fun no=>?_
 have all:∀e,e<t.mask+1→e∈t.place.toList:=by
  intro e he
  cases hs:t.slot e with
  | empty=>exact absurd ⟨e,he,hs⟩ no
  | dummy=>exact absurd hs (Rh h.ok.dum e)
  | live i=>
   have:=Fw hs
   rw[←Dt] at this
   exact Al this
 have:=List.Nodup.length_le_of_subset (List.nodup_range (n:=t.mask+1)) (l₂:=t.place.toList) (fun x hx=>all x (He.mp hx))
 rw[Ir,Df,h.size] at this
 have:=h.few
 omega
noncomputable def Pb(mask:Nat)(p:Nat×Nat):Ia:=⟨p.1,Iw mask p.1 - p.1,p.1,p.2,none⟩
theorem Zr2(t:SetTable):∀(m:Nat) (P:Ia),P.more=m→P.dummy=none→itN t.advance (m+1) P=Pb t.mask (lp t.mask (P.i,P.perturb))
 | 0,P,h,hd=>by
  show t.advance P=_
  unfold SetTable.advance
  rw[if_neg (by omega)]
  unfold Pb lp
  dsimp only
  rw[hd]
 | m+1,P,h,hd=>by
  show itN t.advance (m+1) (t.advance P)=_
  have e:t.advance P={P with j:=P.j+1,more:=P.more - 1}:=by unfold SetTable.advance;rw[if_pos (by omega)]
  rw[e]
  exact Zr2 t m _ (by show P.more - 1=m;omega) hd
theorem Zt6(mask i:Nat):Iw mask i - i≤9:=by unfold Iw;split<;>omega
theorem Y21(t:SetTable)(p:Nat×Nat):∃c,c≤10∧itN t.advance c (Pb t.mask p)=Pb t.mask (lp t.mask p):=
 ⟨_,by have:=Zt6 t.mask p.1;omega,Zr2 t (Iw t.mask p.1 - p.1) (Pb t.mask p) rfl rfl⟩
theorem Ej(t:SetTable):∀(n:Nat) (p:Nat×Nat),∃c,c≤10 * n∧itN t.advance c (Pb t.mask p)=Pb t.mask (itN (lp t.mask) n p)
 | 0,p=>⟨0,Nat.le_refl _,rfl⟩
 | n+1,p=>by
  obtain⟨c1,h1,e1⟩:=Y21 t p
  obtain⟨c2,h2,e2⟩:=Ej t n (lp t.mask p)
  refine⟨c1+c2,by omega,?_⟩
  rw[Rl,e1,e2]
  rfl
theorem Zk4(h:Int):Hy h<2 ^ 64:=by
 unfold Hy
 have h1:=Int.emod_nonneg h (show(2 ^ 64:Int)≠0 by decide)
 have h2:=Int.emod_lt_of_pos h (show(0:Int)<2 ^ 64 by decide)
 omega
theorem Z38(t:SetTable)(h:Int):t.probeStart h=Pb t.mask (Hy h % (t.mask+1),Hy h):=rfl
theorem TG.reach{t:SetTable}{led:Bool}{n:Nat}(g:TG t led n)(h:Int):∃c,c<10 * Km t.mask∧t.slot (itN t.advance c (t.probeStart h)).j= .empty:=by
 obtain⟨e,he,hs⟩:=g.room
 obtain⟨k,hk⟩:=g.pw
 obtain⟨m,hm,hq⟩:=Z60 hk (Hy h % (t.mask+1),Hy h) (Zk4 h) e he
 obtain⟨c,hc,e2⟩:=Ej t m (Hy h % (t.mask+1),Hy h)
 refine⟨c,by unfold Km;omega,?_⟩
 rw[Z38,e2]
 show t.slot (itN (lp t.mask) m _).1=_
 rw[hq]
 exact hs
theorem Z09{t:SetTable}(hd:t.dummies=#[])(f:Nat→Int)(h:Int):∀(fuel c:Nat) (P:Ia),P.dummy=none→t.slot (itN t.advance c P).j= .empty→c<fuel→
  (∃j,Ki t f h fuel P=some (.empty j none)∧t.slot j= .empty)∨
  ∃j i c',Ki t f h fuel P=some (.candidate j i (itN t.advance (c'+1) P))∧t.slot j= .live i∧f i=h∧c'<c
 | 0,c,P,_,_,hc=>by omega
 | fuel+1,c,P,hp,he,hc=>by
  unfold Ki
  cases hs:t.slot P.j with
  | empty=>
   left
   refine⟨P.j,?_,hs⟩
   dsimp only
   rw[hp]
  | dummy=>exact absurd hs (Rh hd _)
  | live i=>
   dsimp only
   cases c with
   | zero=>rw[show(itN t.advance 0 P)=P from rfl,hs] at he;cases he
   | succ c=>
    by_cases hf:f i=h
    ·right
     refine⟨P.j,i,0,?_,hs,hf,by omega⟩
     rw[if_pos (by rw[hf];exact beq_self_eq_true h)]
     rfl
    ·rw[if_neg (fun z=>hf (Kj z))]
     rcases Z09 hd f h fuel c (t.advance P) (by rw[Pk];exact hp) he (by omega) with⟨j,a,b⟩ | ⟨j,i',c',a,b,d,e⟩
     ·exact .inl ⟨j,a,b⟩
     ·exact .inr ⟨j,i',c'+1,a,b,d,by omega⟩
theorem Ec(t:SetTable):∀(c:Nat) (P:Ia),(itN t.advance c P).dummy=P.dummy
 | 0,_=>rfl
 | c+1,P=>by show(itN t.advance c (t.advance P)).dummy=_;rw[Ec t c,Pk]
theorem Ym1{t:SetTable}{led:Bool}{n j:Nat}(g:TG t led n)(hj:j<t.mask+1)(i:Nat)(hi:i<n+1):(t.put j).1.place.getD i 0≤t.mask:=by
 show(Hg t.place (Hf t.place j) j).getD i 0≤t.mask
 have a:=Vj g.ok.rise j
 rw[V5 a.le]
 have sz:=g.size
 split
 ·exact g.lt i (by have:=a.le;omega)
 ·split
  ·omega
  ·exact g.lt (i - 1) (by omega)
theorem Zs1{t:SetTable}{led:Bool}{n:Nat}(g:TG t led n)(j:Nat):(t.put j).1.place.size=n+1:=by
 show(Hg t.place (Hf t.place j) j).size=_
 rw[Wo _ _ _ (Vj g.ok.rise j).le,g.size]
theorem Fx{mask:Nat}{owner:Array (Option Nat)}(hsz:owner.size=mask+1){e:Nat}(he:owner.getD e (some 0)=none):∀(fuel n:Nat) (p:Nat×Nat),(itN (lp mask) n p).1=e→n<fuel→
  ∃j,Kx.free mask owner fuel p.1 p.2=some j∧owner.getD j (some 0)=none
 | 0,n,p,_,h=>by omega
 | fuel+1,n,p,h,hn=>by
  unfold Kx.free
  cases hf:(Dj (Iw mask p.1+1 - p.1)).find? (fun k=>(owner.getD (p.1+k) (some 0)).isNone) with
  | some k=>
   have:=List.find?_some hf
   exact⟨p.1+k,rfl,Option.isNone_iff_eq_none.mp this⟩
  | none=>
   cases n with
   | zero=>
    exfalso
    have h0:p.1=e:=h
    have hr:0∈Dj (Iw mask p.1+1 - p.1):=by
     rw[He]
     unfold Iw
     split<;>omega
    have:=List.find?_eq_none.mp hf 0 hr
    rw[Nat.add_zero,h0,he] at this
    exact this rfl
   | succ n=>exact Fx hsz he fuel n (lp mask p) h (by omega)
theorem Y57{β:Type}{f g:Nat→Option β}{j:Nat}(hf:f j=none)(hg:(g j).isSome=true)(ne:∀i,i≠j→g i=f i):∀N,((Dj N).filterMap g).length=((Dj N).filterMap f).length+(if j<N then 1 else 0)
 | 0=>by simp
 | N+1=>by
  rw[Ie,Lz,Lz,Ah,Ah,Y57 hf hg ne N]
  by_cases h:j=N
  ·subst h
   obtain⟨v,hv⟩:=Dy.mp hg
   rw[if_neg (Nat.lt_irrefl _),if_pos (Nat.lt_succ_self _)]
   simp[hf,hv]
  ·rw[show List.filterMap g [N]=List.filterMap f [N] by simp[Ll,ne N (fun z=>h z.symm)]]
   by_cases h2:j<N
   ·rw[if_pos h2,if_pos (by omega)];omega
   ·rw[if_neg h2,if_neg (by omega)];omega
theorem Zo3{α β:Type}{f:α→Option β}:∀{l:List α},(∀x∈l,(f x).isSome=true)→(l.filterMap f).length=l.length
 | [],_=>rfl
 | x::l,h=>by
  obtain⟨v,hv⟩:=Dy.mp (h x De)
  rw[Ll,hv]
  show(v::l.filterMap f).length=_
  rw[Au,Au,Zo3 (fun y hy=>h y (Dd _ hy))]
noncomputable def Og(owner:Array (Option Nat))(N:Nat):List (Nat×Nat):=(Dj N).filterMap fun j=>(owner.getD j none).map (j,·)
structure Own(mask:Nat)(owner:Array (Option Nat))(m:Nat):Prop where
 size:owner.size=mask+1
 cnt:(Og owner (mask+1)).length=m
 val:∀(j v:Nat),owner.getD j none=some v→v<m
theorem Zx5{owner:Array (Option Nat)}{j:Nat}(h:owner.getD j (some 0)=none):j<owner.size∧owner.getD j none=none:=by
 rw[Az] at h ⊢
 by_cases hj:j<owner.size
 ·rw[Bk hj] at h ⊢
  exact⟨hj,h⟩
 ·rw[Array.getElem?_eq_none (by omega)] at h
  cases h
theorem Own.put{mask:Nat}{owner:Array (Option Nat)}{m j:Nat}(o:Own mask owner m)(h:owner.getD j (some 0)=none):Own mask (owner.setIfInBounds j (some m)) (m+1):=by
 obtain⟨hj,hn⟩:=Zx5 h
 have sz:=o.size
 have at_:∀i,(owner.setIfInBounds j (some m)).getD i none=if i=j then some m else owner.getD i none:=by
  intro i
  rw[Az,Az,Array.getElem?_setIfInBounds]
  by_cases e:i=j
  ·subst e;rw[if_pos rfl,if_pos rfl,if_pos hj];rfl
  ·rw[if_neg (fun z=>e z.symm),if_neg e]
 refine⟨by rw[Array.size_setIfInBounds];exact sz,?_,fun i v hv=>?_⟩
 ·have:=Y57 (f:=fun i=>(owner.getD i none).map (i,·)) (g:=fun i=>((owner.setIfInBounds j (some m)).getD i none).map (i,·)) (j:=j) (by rw[hn];rfl) (by rw[at_,if_pos rfl];rfl) (fun i hi=>by rw[at_,if_neg hi]) (mask+1)
  unfold Og
  rw[this,if_pos (by omega)]
  have:=o.cnt
  unfold Og at this
  omega
 ·rw[at_] at hv
  split at hv
  ·cases hv;omega
  ·have:=o.val i v hv;omega
theorem Own.room{mask:Nat}{owner:Array (Option Nat)}{m:Nat}(o:Own mask owner m)(hm:m<mask+1):∃e,e<mask+1∧owner.getD e (some 0)=none:=by
 refine Classical.byContradiction fun no=>?_
 have all:∀e,e<mask+1→∃v,owner.getD e none=some v:=by
  intro e he
  cases hv:owner.getD e none with
  | some v=>exact⟨v,rfl⟩
  | none=>
   exfalso
   refine no ⟨e,he,?_⟩
   rw[Az,Bk (by rw[o.size];exact he)] at hv ⊢
   exact hv
 have:(Og owner (mask+1)).length=mask+1:=by
  unfold Og
  rw[Zo3 (fun j hj=>?_),Ir]
  obtain⟨v,hv⟩:=all j (He.mp hj)
  rw[hv]
  rfl
 have:=o.cnt
 omega
theorem Z67{mask k:Nat}(hk:mask+1=2 ^ k):∀(hs:List Int) (owner:Array (Option Nat)) (m:Nat),Own mask owner m→m+hs.length<mask+1→
  ∃owner',hs.foldl (fun acc h=>do
   let (owner,k) ←acc
   let j ←Kx.free mask owner (Km mask) (Hy h % (mask+1)) (Hy h)
   pure (owner.setIfInBounds j (some k),k+1)) (some (owner,m))=some (owner',m+hs.length)∧Own mask owner' (m+hs.length)
 | [],owner,m,o,_=>⟨owner,rfl,o⟩
 | h::hs,owner,m,o,hm=>by
  rw[Au] at hm
  obtain⟨e,he,hn⟩:=o.room (by omega)
  obtain⟨n,hn1,hn2⟩:=Z60 hk (Hy h % (mask+1),Hy h) (Zk4 h) e he
  obtain⟨j,hj,hq⟩:=Fx o.size hn (Km mask) n _ hn2 (by unfold Km;omega)
  obtain⟨owner',a,b⟩:=Z67 hk hs _ (m+1) (o.put hq) (by omega)
  refine⟨owner',?_,by rw[Au,show m+(hs.length+1)=m+1+hs.length by omega];exact b⟩
  rw[Iu,Au,show m+(hs.length+1)=m+1+hs.length by omega,←a]
  congr 1
  show(some (owner,m)).bind _=_
  rw[Ka]
  dsimp only at hj ⊢
  rw[hj]
  rfl
theorem Y79(mask:Nat):Own mask (Array.replicate (mask+1) none) 0:=by
 have z:∀j,(Array.replicate (mask+1) (none:Option Nat)).getD j none=none:=by
  intro j
  rw[Az,Array.getElem?_replicate]
  split<;>rfl
 refine⟨Array.size_replicate,?_,fun j v hv=>by rw[z] at hv;cases hv⟩
 unfold Og
 rw[List.filterMap_eq_nil_iff.mpr (fun j _=>by rw[z];rfl)]
 rfl
theorem Zq6{mask k:Nat}(hk:mask+1=2 ^ k)(hs:Array Int)(hm:hs.size<mask+1):∃owner,Kx mask hs=some owner∧Own mask owner hs.size:=by
 obtain⟨owner,a,b⟩:=Z67 hk hs.toList _ 0 (Y79 mask) (by rw[Nat.zero_add,Df];exact hm)
 rw[Nat.zero_add,Df] at a b
 refine⟨owner,?_,b⟩
 unfold Kx
 rw[←Array.foldl_toList,a]
 rfl
theorem Z48:∀(fuel m n:Nat),n<2 ^ (m+fuel)→∃k,Kd.go n fuel (2 ^ m)=2 ^ k∧m≤k∧n<2 ^ k∧(k=m∨2 ^ k≤2 * n)
 | 0,m,n,h=>⟨m,rfl,Nat.le_refl _,h,.inl rfl⟩
 | fuel+1,m,n,h=>by
  unfold Kd.go
  by_cases c:2 ^ m≤n
  ·rw[if_pos c,show 2 ^ m * 2=2 ^ (m+1) from(Nat.pow_succ ..).symm]
   obtain⟨k,a,b,d,e⟩:=Z48 fuel (m+1) n (by rw[show m+1+fuel=m+(fuel+1) by omega];exact h)
   refine⟨k,a,by omega,d,.inr ?_⟩
   rcases e with e | e
   ·rw[e,Nat.pow_succ];omega
   ·exact e
  ·rw[if_neg c]
   exact⟨m,rfl,Nat.le_refl _,by omega,.inl rfl⟩
theorem above(n:Nat)(h:n<100000):∃k,Kd n=2 ^ (k+1)∧n<2 ^ (k+1)∧2 ^ (k+1)≤2 * n+8:=by
 obtain⟨k,a,b,d,e⟩:=Z48 64 3 n (Nat.lt_of_lt_of_le h (by decide))
 obtain⟨k',rfl⟩:∃k',k=k'+1:=⟨k - 1,by omega⟩
 refine⟨k',a,d,?_⟩
 rcases e with e | e
 ·rw[e];omega
 ·omega
theorem Ze9{t:SetTable}{led:Bool}{n:Nat}(ht:TOk t led)(hs:Array Int)(hn:hs.size=n)(h0:0<n)(h1:n≤1000):∃t' order,t.relaid hs (Go n)=some (t',order)∧TG t' led n∧order.size=n∧(∀v∈order.toList,v<n)∧t'.mask≤8 * n+8:=by
 have hg:Go n=n * 4:=by unfold Go;rw[if_neg (by omega)]
 obtain⟨k,a,b,c⟩:=above (n * 4) (by omega)
 have hk:Kd (n * 4) - 1+1=2 ^ (k+1):=by rw[a];have:0<2 ^ (k+1):=Nat.pow_pos (by decide);omega
 obtain⟨owner,e,o⟩:=Zq6 hk hs (by rw[hk,hn];omega)
 rw[hn] at o
 unfold SetTable.relaid SetTable.laid
 rw[hg,e]
 have cnt:=o.cnt
 unfold Og at cnt
 refine⟨_,_,rfl,⟨⟨El _ _,rfl,ht.led⟩,?_,fun i hi=>?_,⟨k,hk⟩,?_⟩,?_,fun v hv=>?_,?_⟩
 ·rw[Ai,Ad];exact cnt
 ·dsimp only
  rw[Az,Kc,Aa (by rw[Ad,cnt];exact hi),Li]
  have hm:=Hv (l:=((Dj (Kd (n * 4) - 1+1)).filterMap fun j=>(owner.getD j none).map (j,·)).map (·.1)) (n:=i) (by rw[Ad,cnt];exact hi)
  obtain⟨p,hp,ep⟩:=Dc.mp hm
  obtain⟨j,hj,ej⟩:=Kb.mp hp
  obtain⟨v,_,rfl⟩:=Di.mp ej
  rw[←ep]
  have:=He.mp hj
  show j≤_
  omega
 ·dsimp only;rw[a] at hk ⊢;omega
 ·rw[Ai,Ad];exact cnt
 ·have hv:v∈((Dj (Kd (n * 4) - 1+1)).filterMap fun j=>(owner.getD j none).map (j,·)).map (·.2):=hv
  obtain⟨p,hp,rfl⟩:=Dc.mp hv
  obtain⟨j,hj,ej⟩:=Kb.mp hp
  obtain⟨v,hv2,rfl⟩:=Di.mp ej
  exact o.val j v hv2
 ·dsimp only;rw[a] at hk ⊢;omega
end SW
namespace SW
open PySem PyProof.Rows
def Pin(t:SetTable)(P:Ia):Prop:=P.j+P.more≤t.mask
theorem Yl1(t:SetTable){p:Nat×Nat}(h:p.1≤t.mask):Pin t (Pb t.mask p):=by
 unfold Pin Pb Iw
 dsimp only
 split<;>omega
theorem B3{t:SetTable}{P:Ia}(h:Pin t P):Pin t (t.advance P):=by
 unfold Pin at h
 unfold SetTable.advance
 split
 ·unfold Pin;dsimp only;omega
 ·have:=Nat.mod_lt (P.i * 5+1+P.perturb / 32) (show 0<t.mask+1 by omega)
  unfold Pin SetTable.leap Iw
  dsimp only
  split<;>omega
theorem Y64{t:SetTable}:∀(c:Nat) {P:Ia},Pin t P→Pin t (itN t.advance c P)
 | 0,_,h=>h
 | c+1,_,h=>Y64 c (B3 h)
theorem Zh7{t:SetTable}(f:Nat→Int)(h:Int):∀(fuel:Nat) (P:Ia) {j:Nat} {d:Option Nat},Pin t P→Ki t f h fuel P=some (.empty j d)→j≤t.mask
 | 0,_,_,_,_,e=>by cases e
 | fuel+1,P,j,d,hp,e=>by
  unfold Ki at e
  cases hs:t.slot P.j with
  | empty=>rw[hs] at e;cases e;unfold Pin at hp;omega
  | dummy=>rw[hs] at e;exact Zh7 f h fuel _ (B3 (P:={P with dummy:=some P.j}) hp) e
  | live i=>
   rw[hs] at e
   dsimp only at e
   split at e
   ·cases e
   ·exact Zh7 f h fuel _ (B3 hp) e
theorem Zi4{t:SetTable}(hd:t.dummies=#[]){f:Nat→Int}{h:Int}{c:Nat}{P:Ia}{pr:Option SetTable.Met}(hp:P.dummy=none)(hi:Pin t P)(he:t.slot (itN t.advance c P).j= .empty)(hc:c<10 * Km t.mask)(e:t.probe f h P=pr):
  (∃j,pr=some (.empty j none)∧t.slot j= .empty∧j≤t.mask)∨∃j i c',pr=some (.candidate j i (itN t.advance (c'+1) P))∧t.slot j= .live i∧c'<c:=by
 unfold Mh at e
 rcases Z09 hd f h _ c P hp he hc with⟨j,a,b⟩ | ⟨j,i,c',a,b,_,d⟩
 ·exact .inl ⟨j,e.symm.trans a,b,Zh7 f h _ P hi a⟩
 ·exact .inr ⟨j,i,c',e.symm.trans a,b,d⟩
theorem TG.fits{t:SetTable}{led:Bool}{n:Nat}(g:TG t led n):t.fits n=true:=by
 unfold SetTable.fits SetTable.fill
 rw[g.size,g.ok.dum]
 have:=g.few
 simp only[beq_self_eq_true,Bool.true_and,decide_eq_true_eq]
 show n+0≤_
 omega
theorem TG.odd{t:SetTable}{led:Bool}{n:Nat}(g:TG t led n):t.gaveWay=false:=by
 obtain⟨k,hk⟩:=g.pw
 rw[Nat.pow_succ] at hk
 unfold SetTable.gaveWay
 rw[show t.mask % 2=1 by omega]
 rfl
section
variable{prog:Program}{w:World}{K:Type}[DecidableEq K]{knd:KeyKind prog w K}{A:Around}{E:Value→Shared→Prop}{s:Shared}
structure SetTO(knd:KeyKind prog w K)(led:Bool)(bd:Nat)(h:Heap)(o:Obj)(ks:List (List K)):Prop where
 ex:o.ExactSet
 dat:∃es ep t,o.data= .set es ep t∧TG t led es.size∧es.size=ks.length∧t.mask≤8 * es.size+8∧∀e∈es.toList,∃k a,k∈ks∧e.2= .ref a∧a<bd∧IsTupleKey knd h k a
 sm:ks.length≤900
theorem Zy6:∀(v:Value),carriedByValue v=true→ofAClassStatement 7 v=pure false:=by
 intro v h
 cases v with
 | ref a=>cases h
 | _=>rfl
theorem Ee{k:List K}{a:Addr}{Q:Bool→Shared→Prop}(hk:IsTupleKey knd s.heap k a)(h:Q false s):wpAny (model prog w) A (ofAClassStatement 8 (.ref a)) Q E s:=by
 have hT:=hk.typeIs
 obtain⟨o,items,n,ho,_,hd,hi⟩:=hk
 unfold ofAClassStatement
 refine Ab (Ld hT ?_)
 simp only[beq_self_eq_true,if_true,pure_bind,Bool.not_true,Bool.false_eq_true,if_false]
 refine Ab (wpAny_seqItems ho hd ?_)
 refine Ab ?_
 show wpAny _ _ (forIn items _ _) _ _ s
 rw[←Array.forIn_toList]
 refine wpAny_forIn_list _ (fun rest r s'=>r.1=none∧s'=s∧∀v∈rest,carriedByValue v=true) _ ?_ ?_ _ _ ⟨rfl,rfl,hi.byValue⟩
 ·rintro v rest r s' ⟨hr,rfl,hall⟩
  rw[Zy6 _ (hall v De)]
  refine Ab (Ae ?_)
  simp only[Bool.false_eq_true,if_false]
  exact Ae ⟨rfl,rfl,fun u hu'=>hall u (Dd _ hu')⟩
 ·rintro⟨r1,r2⟩ s' ⟨hr,rfl,_⟩
  simp only at hr
  subst hr
  exact Ae h
theorem Yf3{kx:List K}{x:Addr}{ks:List (List K)}{vs:List Value}{Q:Bool→Shared→Prop}(hx:IsTupleKey knd s.heap kx x)(hv:∀v∈vs,∃k a,k∈ks∧v= .ref a∧IsTupleKey knd s.heap k a)(h:Q false s):wpAny (model prog w) A (searchCouldBeSeen (.ref x) vs) Q E s:=by
 unfold searchCouldBeSeen
 refine Ab ?_
 refine wpAny_forIn_list _ (fun rest r s'=>r.1=none∧s'=s∧∀v∈rest,v∈vs) _ ?_ ?_ _ _ ⟨rfl,rfl,fun v hv=>hv⟩
 ·rintro v rest r s' ⟨hr,rfl,hall⟩
  obtain⟨k,a,_,rfl,ha⟩:=hv v (hall v De)
  have fin:(none:Option Bool)=none∧s'=s'∧∀u∈rest,u∈vs:=⟨rfl,rfl,fun u hu=>hall u (Dd _ hu)⟩
  dsimp only
  split
  ·exact Ae fin
  ·refine Ab (wpAny_eqIsQuiet_tuple hx ?_)
   simp only[Bool.not_true,Bool.false_eq_true,if_false]
   refine Ab (wpAny_eqIsQuiet_tuple ha ?_)
   simp only[Bool.not_true,Bool.false_eq_true,if_false]
   refine Ab (Ee hx ?_)
   simp only[Bool.false_eq_true,if_false]
   refine Ab (Ee ha ?_)
   simp only[Bool.false_eq_true,if_false]
   exact Ae fin
 ·rintro⟨r1,r2⟩ s' ⟨hr,rfl,_⟩
  simp only at hr
  subst hr
  exact Ae h
theorem Zk3{k:List K}{a:Addr}{Q:Bool→Shared→Prop}(hk:IsTupleKey knd s.heap k a)(h:∀b,Q b s):wpAny (model prog w) A (hashByValue 8 (.ref a)) Q E s:=by
 have hT:=hk.typeIs
 obtain⟨o,items,n,ho,_,hd,hi⟩:=hk
 unfold hashByValue
 refine Ab (wpAny_specialOf hT F.slot_tuple_hash.lookup ?_)
 show wpAny _ _ (seqItems? (Ax a) >>=_) Q E s
 refine Ab (wpAny_seqItems ho hd ?_)
 refine Ab ?_
 show wpAny _ _ (forIn items _ _) _ _ s
 rw[←Array.forIn_toList]
 refine wpAny_forIn_list _ (fun rest r s'=>s'=s∧∀v∈rest,carriedByValue v=true) _ ?_ ?_ _ _ ⟨rfl,hi.byValue⟩
 ·rintro v rest r s' ⟨rfl,hall⟩
  obtain⟨b,hb⟩:∃b,hashByValue 7 v=pure b:=by
   have:=hall v De
   cases v with
   | ref a=>cases this
   | _=>exact⟨_,rfl⟩
  rw[hb]
  refine Ab (Ae ?_)
  split
  ·exact Ae (Ae (h _))
  ·exact Ae ⟨rfl,fun u hu'=>hall u (Dd _ hu')⟩
 ·rintro⟨r1,r2⟩ s' ⟨rfl,_⟩
  dsimp only
  cases r1 with
  | none=>exact Ae (h _)
  | some r=>exact Ae (h _)
theorem Z98{led:Bool}{a x:Addr}{o:Obj}{es:Array (Int×Value)}{ep:Nat}{t:SetTable}{kx:List K}{ks:List (List K)}(hu:A.units<cLine)(hx:IsTupleKey knd s.heap kx x)(ho:s.heap.get? a=some o)(hd:o.data= .set es ep t)(g:TG t led es.size)
  (hes:∀e∈es.toList,∃k b,k∈ks∧e.2= .ref b∧IsTupleKey knd s.heap k b) (hn:kx∉ks) (hh:Int) {Q:SetFound→Shared→Prop} (h:∀j,t.slot j= .empty→j≤t.mask→Q (.free j false) s):∀(c fuel:Nat) (stand:Option Ia),(stand.getD (t.probeStart hh)).dummy=none→Pin t (stand.getD (t.probeStart hh))→
   t.slot (itN t.advance c (stand.getD (t.probeStart hh))).j= .empty→c<10 * Km t.mask→c<fuel→wpAny (model prog w) A (setSearchFrom a (.ref x) hh true fuel stand) Q E s:=by
 intro c
 induction c using Nat.strongRecOn with
 | _ c ih=>
 intro fuel stand hp hi he hc hf
 cases fuel with
 | zero=>omega
 | succ fuel=>
 unfold setSearchFrom
 refine Ab (Hh ho hd g.fits ?_)
 dsimp only
 rw[g.odd,if_neg Bf9]
 generalize hpr:t.probe _ hh (stand.getD (t.probeStart hh))=pr
 rcases Zi4 g.ok.dum hp hi he hc hpr with⟨j,rfl,hj,hm⟩ | ⟨j,i,c',rfl,hl,hlt⟩
 ·exact Ae (h j hj hm)
 ·dsimp only
  have hpl:=Fw hl
  have hil:i<es.size:=by
   rw[←g.size]
   exact(Array.getElem?_eq_some_iff.mp hpl).1
  obtain⟨e,hei⟩:∃e,es[i]?=some e:=⟨_,Bk hil⟩
  obtain⟨h',y⟩:=e
  obtain⟨k,b,hk,(rfl:y= .ref b),hb⟩:=hes (h',y) (by rw[←Dt] at hei;exact Al hei)
  have sm:t.sameMemory t.moves t.mask=some true:=by unfold SetTable.sameMemory;rw[if_pos (beq_self_eq_true _)]
  have go:=ih (c - (c'+1)) (by omega) fuel (some (itN t.advance (c'+1) (stand.getD (t.probeStart hh)))) (by rw[Li,Ec];exact hp) (by rw[Li];exact Y64 _ hi) (by rw[Li,←Rl,show c'+1+(c - (c'+1))=c by omega];exact he) (by omega) (by omega)
  by_cases hled:(!t.led)=true
  ·rw[if_pos hled]
   refine Ab (Yf3 (ks:=ks) hx (fun v hv=>?_) ?_)
   ·obtain⟨e,he1,rfl⟩:=Dc.mp hv
    rw[Array.toList_filter] at he1
    obtain⟨k,b,h1,h2,h3⟩:=hes e (Ku.mp he1).1
    exact⟨k,b,h1,h2,h3⟩
   rw[if_neg Bf9,hei]
   refine Ab (Ex (wpAny_eqBool_tuple hu hb hx ?_))
   rw[decide_eq_false (show ¬k=kx from fun e=>hn (e ▸ hk))]
   refine Ab (Hh ho hd g.fits ?_)
   dsimp only
   rw[if_neg (by decide),sm]
   dsimp only
   rw[if_pos rfl,hl]
   dsimp only
   rw[hei]
   refine Ab (wpAny_isSame_ref_self (Ab (Ae ?_)))
   exact go
  ·rw[if_neg hled,hei]
   refine Ab (Ex (wpAny_eqBool_tuple hu hb hx ?_))
   rw[decide_eq_false (show ¬k=kx from fun e=>hn (e ▸ hk))]
   refine Ab (Hh ho hd g.fits ?_)
   dsimp only
   rw[if_neg (by decide),sm]
   dsimp only
   rw[if_pos rfl,hl]
   dsimp only
   rw[hei]
   refine Ab (wpAny_isSame_ref_self (Ab (Ae ?_)))
   exact go
theorem SameBut.tup{h h':Heap}{ks:List K}{b a:Addr}{o:Obj}{es:Array (Int×Value)}{ep:Nat}{t:SetTable}(x:IsTupleKey knd h ks b)(ho:h.get? a=some o)(hd:o.data= .set es ep t)(hs:Ik a h h'):IsTupleKey knd h' ks b:=by
 obtain⟨o',items,n,ho',hc,hd',hi⟩:=x
 have hne:b≠a:=by
  rintro rfl
  obtain rfl:o'=o:=Dm (ho'.symm.trans ho)
  rw[hd] at hd';exact nomatch hd'
 exact⟨o',items,n,(hs.2 b hne).trans ho',hc,hd',hi⟩
theorem Fe{α:Type}(xs:Array α)(p:Nat)(x:α){e:α}(h:e∈(Hg xs p x).toList):e=x∨e∈xs.toList:=by
 unfold Hg at h
 rw[Array.toList_append,Array.toList_push] at h
 rcases Ap.mp h with h | h
 ·rcases Ap.mp h with h | h
  ·rw[Array.toList_extract] at h;exact .inr (List.mem_of_mem_drop (List.mem_of_mem_take h))
  ·rw[Am] at h;exact .inl h
 ·rw[Array.toList_extract] at h;exact .inr (List.mem_of_mem_drop (List.mem_of_mem_take h))
theorem Yd7{led:Bool}{bd:Nat}{a x:Addr}{o:Obj}{kx:List K}{ks:List (List K)}{Q:Bool→Shared→Prop}(hu:A.units<cLine)(hx:IsTupleKey knd s.heap kx x)(ho:s.heap.get? a=some o)(hS:SetTO knd led bd s.heap o ks)(hxb:x<bd)(hn:kx∉ks)(hr:ks.length<900)(hh:Int)
  (h:∀h' o',Ik a s.heap h'→h'.get? a=some o'→SetTO knd led bd h' o' (ks++[kx])→Q true {s with heap:=h'}):wpAny (model prog w) A (setAddHashed a (.ref x) hh) Q E s:=by
 obtain⟨es,ep,t,hd,g,hsz,hmx,hes⟩:=hS.dat
 obtain⟨c,hc,he⟩:=g.reach hh
 have hmk:t.mask<9000:=by omega
 unfold setAddHashed setAddHashedIn
 refine Ex (Ab (Hh ho hd g.fits ?_))
 dsimp only
 have hb:byScan (.ref x) es=false:=rfl
 rw[hb,if_neg Bf9]
 refine Ab (Z98 hu hx ho hd g (fun e he=>by obtain⟨k,b,h1,h2,_,h3⟩:=hes e he;exact⟨k,b,h1,h2,h3⟩) hn hh (fun j hj hm=>?_) c 100000 none rfl (show Pin t (t.probeStart hh) by rw[Z38];exact Yl1 t (Nat.le_of_lt_succ (Nat.mod_lt (Hy hh) (show 0<t.mask+1 by omega)))) he hc (by unfold Km at hc;omega))
 dsimp only
 refine Ab (Hh ho hd g.fits ?_)
 dsimp only
 have sz1:(Hg es (t.put j).2 (hh,Ax x)).size=es.size+1:=Wo _ _ _ (by have:=(Vj g.ok.rise j).le;rw[g.size] at this;exact this)
 have hes1:∀e∈(Hg es (t.put j).2 (hh,Ax x)).toList,∃k b,k∈ks++[kx]∧e.2= .ref b∧b<bd∧IsTupleKey knd s.heap k b:=by
  intro e he
  rcases Fe _ _ _ he with rfl | he
  ·exact⟨kx,x,by simp,rfl,hxb,hx⟩
  ·obtain⟨k,b,h1,h2,h3⟩:=hes e he
   exact⟨k,b,Ay _ h1,h2,h3⟩
 have lnk:(ks++[kx]).length=es.size+1:=by rw[Ah,hsz];rfl
 have few:=g.few
 generalize Hg es (t.put j).2 (hh,Ax x)=es1 at sz1 hes1 ⊢
 have fin:∀t3:SetTable,TOk t3 led→t3.place.size=es.size+1→(∀i,i<es.size+1→t3.place.getD i 0≤t3.mask)→t3.mask=t.mask→wpAny (model prog w) A (do
   storeSet a es1 t3
   if (!false&&t3.tooFull)=true then do
    setRelay a (Go (es.size+1))
    pure true
   else pure true) Q E s:=by
  intro t3 ok3 sz3 lt3 mk3
  have pw3:∃k,t3.mask+1=2 ^ (k+1):=by rw[mk3];exact g.pw
  have fill3:t3.fill=es.size+1:=by unfold SetTable.fill;rw[sz3,ok3.dum];rfl
  have fits3:t3.fits es1.size=true:=by
   unfold SetTable.fits
   rw[fill3,sz3,sz1,mk3,beq_self_eq_true,Bool.true_and]
   exact decide_eq_true (by omega)
  have fit1:es1.size≤sizeLine:=by rw[Ib];omega
  refine Ab (wpAny_storeSet_of ho hd ?_ fit1)
  have g1:(s.heap.update a (Ls es1 t3)).get? a=some {o with data:= .set es1 (ep+1) t3}:=by
   have:=Ip (Ls es1 t3) ho (by rw[putSet_of es1 t3 hd];rfl)
   rw[putSet_of es1 t3 hd] at this
   exact this
  have sb1:=Ln s.heap a (Ls es1 t3)
  have key1:∀{k:List K} {b:Addr},IsTupleKey knd s.heap k b→IsTupleKey knd (s.heap.update a (Ls es1 t3)) k b:=fun z=>SameBut.tup z ho hd sb1
  by_cases hf:t3.tooFull=true
  ·rw[hf,if_pos (by rfl)]
   refine Ab ?_
   unfold setRelay
   refine Ab (Hh g1 rfl fits3 ?_)
   dsimp only
   have hgr:Go (es.size+1)=(es.size+1) * 4:=by unfold Go;rw[if_neg (by omega)]
   obtain⟨kk,a1,a2,a3⟩:=above ((es.size+1) * 4) (by omega)
   rw[if_neg (by rw[hgr,a1,Ib];omega)]
   obtain⟨t',order,e1,g',so,vo,mo⟩:=Ze9 (n:=es.size+1) ok3 (es1.map (·.1)) (by rw[Array.size_map,sz1]) (by omega) (by omega)
   rw[e1]
   have all:∀v∈order.toList,(es1[v]?).isSome=true:=fun v hv=>by rw[Bk (by rw[sz1];exact vo v hv)];rfl
   have s2:(order.filterMap (es1[·]?)).size=es1.size:=by rw[←Df,Array.toList_filterMap,Zo3 all,Df,so,sz1]
   have m2:∀e∈(order.filterMap (es1[·]?)).toList,e∈es1.toList:=by
    intro e he
    rw[Array.toList_filterMap] at he
    obtain⟨v,_,hv⟩:=Kb.mp he
    rw[←Dt] at hv
    exact Al hv
   refine Ab (m:=if ((order.filterMap (es1[·]?)).size !=es1.size)=true then(do let _ ←(unsupported "internal:set-table-lost-an-element":Sem PUnit);pure (order.filterMap (es1[·]?),t')) else pure (order.filterMap (es1[·]?),t')) ?_
   generalize order.filterMap (es1[·]?)=es2 at s2 m2 ⊢
   rw[if_neg (by rw[s2];simp)]
   refine Ae ?_
   dsimp only
   refine wpAny_storeSet_of g1 rfl ?_ (by rw[s2];exact fit1)
   refine Ae (h _ _ (sb1.trans (Ln _ a _)) (Ip (Ls es2 t') g1 rfl) ⟨hS.ex,⟨es2,_,t',rfl,by rw[s2,sz1];exact g',by rw[s2,sz1,lnk],by rw[s2,sz1];exact mo,fun e he=>?_⟩,by rw[lnk];omega⟩)
   obtain⟨k,b,h1,h2,h4,h3⟩:=hes1 e (m2 e he)
   exact⟨k,b,h1,h2,h4,SameBut.tup (key1 h3) g1 rfl (Ln _ a _)⟩
  ·rw[if_neg (by simpa using hf)]
   refine Ae (h _ _ sb1 g1 ⟨hS.ex,⟨es1,_,t3,rfl,⟨ok3,by rw[sz1];exact sz3,by rw[sz1];exact lt3,pw3,?_⟩,by rw[sz1,lnk],by rw[sz1,mk3];omega,fun e he=>?_⟩,by rw[lnk];omega⟩)
   ·unfold SetTable.tooFull at hf
    rw[fill3] at hf
    rw[sz1]
    simp only[ge_iff_le,decide_eq_true_eq] at hf
    omega
   ·obtain⟨k,b,h1,h2,h4,h3⟩:=hes1 e he
    exact⟨k,b,h1,h2,h4,key1 h3⟩
 have ok1:=Y54 g.ok hj
 have szp:=Zs1 g j
 have ltp:=fun i hi=>Ym1 g (Nat.lt_succ_of_le hm) i hi
 split
 ·refine Ab (Zk3 hx fun b=>?_)
  cases b with
  | true=>exact fin _ ok1 szp ltp rfl
  | false=>exact fin _ ⟨ok1.rise,ok1.dum,ok1.led⟩ szp ltp rfl
 ·exact Ab (Ae (fin _ ok1 szp ltp rfl))
end
section
variable{prog:Program}{w:World}{A:Around}{E:Value→Shared→Prop}{s:Shared}{K:Type}[DecidableEq K]{knd:KeyKind prog w K}
theorem IsTupleKey.lt{h:Heap}{k:List K}{a:Addr}(x:IsTupleKey knd h k a):a<h.objs.size:=by
 obtain⟨o,_,_,ho,_⟩:=x
 exact An ho
theorem IsTupleKey.mv{h h':Heap}{k:List K}{a:Addr}(x:IsTupleKey knd h k a)(e:∀o,h.get? a=some o→h'.get? a=some o):IsTupleKey knd h' k a:=by
 obtain⟨o,its,n,ho,r⟩:=x
 exact⟨o,its,n,e o ho,r⟩
theorem IsTupleKey.push{h:Heap}{k:List K}{a:Addr}(x:IsTupleKey knd h k a)(o:Obj):IsTupleKey knd (h.push o) k a:=IsTupleKey.mv x fun _ e=>Ag _ e
structure SetN(led:Bool)(o:Obj)(n:Nat):Prop where
 ex:o.ExactSet
 dat:∃es ep t,o.data= .set es ep t∧t.fits es.size=true∧es.size=n
section
variable{R:Result→Shared→Prop}{I:Addr}{fp wr:List Addr}{G:Array GenState→Array GenState→Prop}{n:Nat}{P:Nat→Value→Prop}{St:Nat→Shared→Prop}
theorem Zv4{led:Bool}{bd:Nat}(hu:A.in1.units<cLine)(W:WalksS prog w A.in1 I fp wr G n P St)(S:Addr)(hSf:S∉fp)(hSb:bd≤S)(hwb:∀b∈wr,bd≤b)(key:Nat→List K)(ad:Nat→Addr)(hkey:∀i v,P i v→v= .ref (ad i))(hdif:∀i j,i<j→j<n→key i≠key j)(hb:n<900)(hlt:∀i,i<n→ad i<bd):
  ∀(m i:Nat) (s:Shared) (o:Obj),n - i=m→i≤n→St i s→s.heap.get? S=some o→SetTO knd led bd s.heap o ((Dj i).map key)→(∀j,j<n→IsTupleKey knd s.heap (key j) (ad j))→
  (∀s' o',Moved (S::wr) G s s'→s'.heap.get? S=some o'→SetN led o' n→R (.ok (.ret .none)) s')→
  codeAny (model prog w) A (.builtin "set.update.loop" ⟨[.ref S,.ref I],[]⟩) R s:=by
 have hSw:S∉wr:=fun z=>hSf (W.sub _ z)
 have hs2:∀b∈wr,b∈S::wr:=fun b z=>Dd _ z
 intro m
 induction m with
 | zero=>
  intro i s o hm hi st ho hS ht q
  obtain rfl:i=n:=by omega
  refine Ic F.entry_set_update_loop ?_
  rw[Ht F.plain_set_update_loop _]
  show wpAny _ A.in1 (pyNext (.ref I) >>=_) _ _ s
  refine Ab (W.done s _ _ st fun s' mv=>Ae ?_)
  obtain⟨es,ep,t,hd,g,hsz,_⟩:=hS.dat
  exact q s' o (mv.mono hs2) (mv.heap S _ hSw ho) ⟨hS.ex,es,ep,t,hd,g.fits,by rw[hsz,Ad,Ir]⟩
 | succ m ih=>
  intro i s o hm hi st ho hS ht q
  have hin:i<n:=by omega
  refine Ic F.entry_set_update_loop ?_
  rw[Ht F.plain_set_update_loop _]
  show wpAny _ A.in1 (pyNext (.ref I) >>=_) _ _ s
  refine Ab (W.item i s _ _ hin st fun v s' hP st' mv=>?_)
  obtain rfl:=hkey i v hP
  have mvt:∀{k:List K} {a:Addr},a<bd→IsTupleKey knd s.heap k a→IsTupleKey knd s'.heap k a:=fun{k a} ha x=>IsTupleKey.mv x fun o e=>mv.heap a o (fun z=>Nat.not_lt.mpr (hwb a z) ha) e
  have ht':∀j,j<n→IsTupleKey knd s'.heap (key j) (ad j):=fun j hj=>mvt (hlt j hj) (ht j hj)
  have hS':SetTO knd led bd s'.heap o ((Dj i).map key):=by
   obtain⟨es,ep,t,hd,g,hsz,hmx,hes⟩:=hS.dat
   exact⟨hS.ex,⟨es,ep,t,hd,g,hsz,hmx,fun e he=>by obtain⟨k,a,h1,h2,h3,h4⟩:=hes e he;exact⟨k,a,h1,h2,h3,mvt h3 h4⟩⟩,hS.sm⟩
  have ho':=mv.heap S _ hSw ho
  show wpAny _ A.in1 (holding [.ref (ad i)] (setAdd S (.ref (ad i))) >>=_) _ _ s'
  refine Ab (Ex ?_)
  unfold setAdd
  refine Ex (Ab (wpAny_pyHash_tuple hu (ht' i hin) ?_))
  have kn:key i∉(Dj i).map key:=fun z=>by
   obtain⟨j,hj,e⟩:=Dc.mp z
   exact hdif j i (He.mp hj) hin e
  refine Yd7 (s:={s' with toks:=s'.toks+((key i).length+1)}) hu (ht' i hin) ho' hS' (hlt i hin) kn (by rw[Ad,Ir];omega) _ fun h' o' sb ho2 hS2=>?_
  obtain⟨es0,ep0,t0,hd0,_⟩:=hS.dat
  refine Ae ⟨Kw F.plain_set_update_loop _,ih (i+1) _ o' (by omega) hin (W.frame _ s' _ _ st' (Nat.le_add_right _ _) fun b' hb' o2 e=>?_) ho2 (by rw[Ie,Aq];exact hS2) (fun j hj=>SameBut.tup (ht' j hj) ho' hd0 sb) fun s2 o2 mv2 ho3 hS3=>?_⟩
  ·rw[sb.2 b' (fun z:b'=S=>hSf (by rw[←z];exact hb'))];exact e
  ·refine q s2 o2 (Moved.trans W.gtrans ((mv.mono hs2).then_heap (Nat.le_add_right _ _) fun b' o3 hb' e=>?_) mv2) ho3 hS3
   rw[sb.2 b' (fun z:b'=S=>hb' (by rw[z];exact De))];exact e
end
theorem Yi6{bd:Nat}{h:Heap}{key:Nat→List K}:SetTO knd (Vx w) bd h (newO w) ((Dj 0).map key):=
 ⟨⟨rfl,rfl,rfl⟩,⟨#[],0,_,rfl,⟨⟨fun i k _ h=>by simp[SetTable.fresh] at h,rfl,rfl⟩,rfl,fun i hi=>by simp at hi,⟨2,rfl⟩,by show 0 * 5<7 * 3;decide⟩,rfl,by show 7≤8 * 0+8;decide,fun e he=>by simp at he⟩,by simp⟩
set_option maxHeartbeats 3200000 in
theorem Zk2{l:Addr}{its:Array Value}{key:Nat→List K}{ad:Nat→Addr}{Q:Value→Shared→Prop}(hu:A.units+20<cLine)(hh:A.handled=none)(hl:s.heap.IsList l its)(hkey:∀(i:Nat) (v:Value),its[i]?=some v→v=Ax (ad i))(htup:∀i,i<its.size→IsTupleKey knd s.heap (key i) (ad i))(hdif:∀i j,i<j→j<its.size→key i≠key j)(hb:its.size<900)
  (h:∀h' tk o,h'.get? s.heap.objs.size=some o→SetN (Vx w) o its.size→(∀b o,b<s.heap.objs.size→s.heap.get? b=some o→h'.get? b=some o)→Q (.ref s.heap.objs.size) {s with heap:=h',toks:=tk}):
  wpAny (model prog w) A (call (.type "set") [.ref l]) Q E s:=by
 obtain⟨c0,tl,mro0⟩:=F.called_set.mro
 have made0:=F.called_set.made
 have sub0:=F.called_set.sub
 have nt0:=F.called_set.notType
 have cc0:=F.called_set.canCreate
 have ct0:=F.typeCall_set_1 (.ref l)
 refine wpAny_call (codeAny_of_tree ?_)
 show wpAny _ _ (callAny (.type "set") _) _ _ _
 refine Ae ⟨Code.quiet_builtin _ (by decide+kernel),Ic F.entry_type_call ?_⟩
 rw[Around.under_plain (weight_type_call_type "set" [.ref l] []) rfl]
 repeat (any_goals (first | assumption | wp_step))
 have hnew:=Z43 (prog:=prog) (w:=w) (A:=A.in1) (s:=s) (E:=E) (.ref l) (Q:=fun v s1=>v= .ref s.heap.objs.size∧s1={s with heap:=s.heap.push (newO w)}) ⟨rfl,rfl⟩
 refine Kf hnew fun r s1 hr=>?_
 cases r with
 | error e=>exact hr
 | ok fl=>
 cases fl with
 | ret v=>
  obtain⟨rfl,rfl⟩:=hr
  have g0:(s.heap.push (newO w)).get? s.heap.objs.size=some (newO w):=Ar _ rfl
  have ty0:Shared.TypeIs {s with heap:=s.heap.push (newO w)} (.ref s.heap.objs.size) "set":=⟨_,g0,rfl⟩
  have li0:=F.called_set.init.lookup
  have bi0:=F.called_set.init.bind (.ref s.heap.objs.size)
  repeat (any_goals (first | assumption | wp_step))
  have want:∀s2:Shared,(∃h' tk o,s2={s with heap:=h',toks:=tk}∧h'.get? s.heap.objs.size=some o∧SetN (Vx w) o its.size∧(∀b o,b<s.heap.objs.size→s.heap.get? b=some o→h'.get? b=some o))→Q (.ref s.heap.objs.size) s2:=by
   rintro s2 ⟨h',tk,o,rfl,a1,a2,a4⟩
   exact h h' tk o a1 a2 a4
  clear h
  refine Kf (codeAny_call_builtin (R:=wants (fun r s2=>r= .none∧∃h' tk o,s2={s with heap:=h',toks:=tk}∧h'.get? s.heap.objs.size=some o∧SetN (Vx w) o its.size∧(∀b o,b<s.heap.objs.size→s.heap.get? b=some o→h'.get? b=some o)) E) F.called_set.init.plain F.entry_set_init (check_set_init_1 ty0 ?_)) fun r2 s2 hr2=>?_
  ·obtain⟨⟨cl,di,da,sl⟩,ol,hcl,nl,hdl⟩:=hl
   simp only at hcl hdl
   subst hcl hdl
   have ol1:(s.heap.push (newO w)).get? l=some {cls:= .type "list",dict:=di,data:= .seq its nl,slots:=sl}:=Ag _ ol
   have s1:=F.sub_list_set
   have s2:=F.sub_list_frozenset
   have s3:(La "list"==La "dict")=false:=by decide
   have il1:(s.heap.push (newO w)).IsList l its:=⟨_,ol1,rfl,nl,rfl⟩
   unfold Builtin.«set.__init__» noKeywords Builtin.Frozenset.updateFrom
   generalize hPI:pyIter=PI
   wp_walk
   subst hPI
   refine wpAny_pyIter_list il1 (Ab (wpAny_runValue ?_))
   have lS:l<s.heap.objs.size:=An ol
   have nI:l≠(s.heap.push (newO w)).objs.size:=by rw[Hz];exact Nat.ne_of_lt (Nat.lt_succ_of_lt lS)
   have nS:s.heap.objs.size∉[(s.heap.push (newO w)).objs.size,l]:=by
    rw[Hz,Ao,Am]
    exact fun z=>z.elim (Nat.ne_of_lt (Nat.lt_succ_self _)) (Nat.ne_of_gt lS)
   refine Zv4 (knd:=knd) (led:=Vx w) (bd:=s.heap.objs.size) (Nat.lt_of_le_of_lt (show A.in1.in1.in1.units≤A.units+20 by show A.units+1+1+1≤A.units+20;omega) hu) ((Walks.list (by simp[hh]) _ l nI its).toS) s.heap.objs.size nS (Nat.le_refl _) (fun b hb=>by rw[Am] at hb;rw[hb,Hz];omega) key ad hkey hdif hb (fun i hi=>IsTupleKey.lt (htup i hi)) _ 0 _ (newO w) rfl (Nat.zero_le _) ⟨⟨_,Ar _ rfl,rfl,rfl⟩,il1.push _⟩ (Ag _ g0) Yi6 (fun i hi=>IsTupleKey.push (IsTupleKey.push (htup i hi) _) _) ?_
   intro s' o' mv ho' hS'
   obtain⟨h',g',d',tk',os'⟩:=s'
   cases mv.gens
   cases mv.drawn
   cases mv.os
   refine Ae ?_
   refine Ae ⟨rfl,h',tk',o',rfl,ho',hS',fun b o hb e=>?_⟩
   refine mv.heap b o ?_ (Ag _ (Ag _ e))
   rw[Ao,Am,Hz]
   exact fun z=>z.elim (Nat.ne_of_lt hb) (Nat.ne_of_lt (Nat.lt_succ_of_lt hb))
  ·cases r2 with
   | error e=>exact hr2
   | ok fl2=>
    cases fl2 with
    | ret r=>
     obtain⟨rfl,hw⟩:=hr2
     repeat (any_goals (first | assumption | wp_step))
     exact want _ hw
    | _=>exact hr2.elim
 | _=>exact hr.elim
end
end SW
namespace L3
open PySem PySem.Spec PyProof.Rows L2
section
variable{X:Cx}{pins:List (Addr×Obj)}{σ:L2.St}{H:Hp}{s:Shared}
def Ji(w:World)(p:Addr)(n:Nat)(h:Heap):Prop:=∃o,h.get? p=some o∧SW.SetN (SW.Vx w) o n
def Zi0(H:Hp)(us:List V)(ts:List (List Key)):Prop:=us.length=ts.length∧∀(i:Nat) (u:V) (t:List Key),us[i]?=some u→ts[i]?=some t→∃b,u=V.ref b∧H b=some (.tup (t.map kV))
theorem Za6(hc:X.calm=true)(hu:X.A.units+64<cLine):Xk X (.type "set") (fun xs H Q=>∃(a:Addr) (us:List V) (ts:List (List Key)),xs=[V.ref a]∧SqL X.K H a us∧Zi0 H us ts∧ts.Nodup∧ts.length<900∧∀p,H p=none→Q (.ref p) (upd H p (.ext (Ji X.w p ts.length)))):=by
 intro pins s σ H xs us Q I r h
 obtain⟨a,ws,ts,rfl,hx,⟨hlen,ht⟩,hnd,hz,q⟩:=h
 obtain⟨u,rfl,ru⟩:=Tj r
 cases ru
 obtain⟨its,rv,p,_⟩:=I.list hx
 have hl:its.length=ts.length:=by rw[←rv.length];exact hlen
 have at_:∀i,i<ts.length→∃b,its[i]?=some (Ax b)∧IsTupleKey (Zj X.prog X.w) s.heap (ts.getD i []) b:=by
  intro i hi
  have h1:ws[i]?=some ws[i]:=Aa (by omega)
  have h2:ts[i]?=some ts[i]:=Aa hi
  obtain⟨b,e1,e2⟩:=ht i _ _ h1 h2
  obtain⟨v,e3,r3⟩:=rv.get h1
  rw[e1] at r3
  cases (show v=Ax b from r3)
  refine⟨b,e3,?_⟩
  rw[Aw,h2]
  exact Pu I.hok e2
 refine SW.Zk2 (knd:=Zj X.prog X.w) (key:=fun i=>ts.getD i []) (ad:=fun i=>if h:i<ts.length then(at_ i h).choose else 0) (by omega) (I.ok.hd hc) p.isList (fun i v e=>?_) (fun i hi=>?_) (fun i j hij hj e=>?_) (by rw[Ai];omega) fun h' tk o ho hS k=>?_
 ·rw[Kc] at e
  have hi:i<ts.length:=by have:=(Ac.mp e).1;omega
  rw[dif_pos hi]
  have:=(at_ i hi).choose_spec.1
  exact Dm (e.symm.trans this)
 ·rw[Ai,hl] at hi
  rw[dif_pos hi]
  exact(at_ i hi).choose_spec.2
 ·rw[Ai,hl] at hj
  rw[Aw,Aw,Aa (by omega),Aa hj] at e
  exact List.pairwise_iff_getElem.mp hnd i j (by omega) hj hij e
 ·have k':∀b u,s.heap.get? b=some u→h'.get? b=some u:=fun b u e=>k b u (An e) e
  rw[Ai,hl] at hS
  exact⟨.ref _,_,I.laid (a:=s.heap.objs.size) (o:= .ext (Ji X.w s.heap.objs.size ts.length)) (t':=tk) k' (Nat.le_refl _) ⟨⟨o,ho,hS⟩,⟨o,ho⟩,fun h1 h2 zz64 k=>by obtain⟨o,e,z⟩:=zz64;exact⟨o,k _ e,z⟩⟩,rfl,q _ (I.hok.fresh (Nat.le_refl _))⟩
theorem E6:Xk X (.builtin "len") (fun xs H Q=>∃(p:Addr) (n:Nat),xs=[V.ref p]∧H p=some (.ext (Ji X.w p n))∧n<900∧Q (.int n) H):=by
 intro pins s σ H xs us Q I r h
 obtain⟨p,n,rfl,hx,hn,q⟩:=h
 obtain⟨u,rfl,ru⟩:=Tj r
 cases ru
 obtain⟨o,ho,hS⟩:=Zj5 I hx
 obtain⟨es,ep,t,hd,hf,he⟩:=hS.dat
 refine call_len_set ho hS.ex hd hf (Int.lt_of_lt_of_le (show(es.size:Int)<4096 by omega) (by decide)) ?_
 rw[he]
 exact⟨.int _,H,I.tok _,⟨_,rfl⟩,q⟩
end
end L3
namespace U
open PySem PySem.Spec PyProof.Rows L2 L3
inductive D where
 | non | bl (b:Bool) | int (i:Int) | str (x:Str) | tup (ds:List D) | ref (n:Nat) | ty (n:String) | gtup (ds:List D) | cls (a:Addr) | exn (e C dx:Addr) (row:D)
inductive Cell where
 | lst (ds:List D) | frz (ds:List D) | dct (kvs:List (Key×D)) | fdc (kvs:List (Key×D)) | dcp (kvs:List (List Key×D))
noncomputable abbrev Z2:=List Cell
noncomputable abbrev DEnv:=List (Option D)
abbrev DK:=D→Z2→Prop
abbrev DX:=Addr→D→Z2→Prop
abbrev DE:=DEnv→Z2→DK→Prop
abbrev DA:=DEnv→Z2→(List D→Z2→Prop)→Prop
abbrev DT:=DEnv→Z2→(Bool→Z2→Prop)→Prop
abbrev DSp:=List D→Z2→DK→DX→Prop
structure DEnds where
 nx:DEnv→Z2→Prop
 rt:DK
 bk:DEnv→Z2→Prop:=fun _ _=>False
 ct:DEnv→Z2→Prop:=fun _ _=>False
abbrev DS:=DEnds→DEnv→Z2→Prop
structure Vw where
 K:Af
 H:Hp
 μ:Nat→Addr
 n:Nat
mutual
def RD(w:Vw):D→V→Prop
 | .non,v=>v= .non
 | .bl b,v=>v= .bl b
 | .int i,v=>v= .int i
 | .str x,v=>v= .str x
 | .tup ds,v=>∃a vs,v= .ref a∧w.H a=some (.tup vs)∧RDs w ds vs
 | .ref i,v=>i<w.n∧v= .ref (w.μ i)
 | .ty n,v=>v= .ty n
 | .gtup ds,v=>∃a vs,v= .ref a∧SqT w.K w.H a vs∧RDs w ds vs
 | .cls a,v=>v= .ref a
 | .exn e C dx row,v=>v= .ref e∧w.H e=some (XO e (.ref C) (some dx))∧∃r,w.H dx=some (.xd [("row",r)])∧RD w row r
def RDs(w:Vw):List D→List V→Prop
 | [],vs=>vs=[]
 | d::ds,vs=>∃v r,vs=v::r∧RD w d v∧RDs w ds r
end
def RKV{κ:Type}(w:Vw):List (κ×D)→List (κ×V)→Prop
 | [],vs=>vs=[]
 |(k,d)::ds,vs=>∃v r,vs=(k,v)::r∧RD w d v∧RKV w ds r
def SqF(K:Af)(H:Hp)(a:Addr)(vs:List V):Prop:=(∃o,H a=some (.frz o (.lst vs)))∨SqL K (fun _=>none) a vs
noncomputable def Cell.mut:Cell→Bool
 | .frz _=>false
 | _=>true
def Jl(w:Vw):Cell→Addr→Prop
 | .lst ds,a=>∃vs,w.H a=some (.lst vs)∧RDs w ds vs
 | .frz ds,a=>∃vs,SqF w.K w.H a vs∧RDs w ds vs
 | .dct kvs,a=>∃vs,w.H a=some (.dK vs)∧RKV w kvs vs
 | .fdc kvs,a=>∃o vs,w.H a=some (.frz o (.dK vs))∧RKV w kvs vs
 | .dcp kvs,a=>∃vs,w.H a=some (.dT vs)∧RKV w kvs vs
structure RS(w:Vw)(M:Z2):Prop where
 len:w.n=M.length
 inj:∀(i j:Nat) (ci cj:Cell),M[i]?=some ci→M[j]?=some cj→ci.mut=true→cj.mut=true→w.μ i=w.μ j→i=j
 cell:∀i c,M[i]?=some c→Jl w c (w.μ i)
noncomputable def Imm:HO→Bool
 | .tup _ | .xd _ | .ext _ | .frz _ _=>true
 | _=>false
structure Ext(w w':Vw):Prop where
 K:w'.K=w.K
 n:w.n≤w'.n
 μ:∀i,i<w.n→w'.μ i=w.μ i
 imm:∀a o,w.H a=some o→Imm o=true→w'.H a=some o
theorem Ext.refl(w:Vw):Ext w w:=⟨rfl,Nat.le_refl _,fun _ _=>rfl,fun _ _ h _=>h⟩
theorem Ext.trans{a b c:Vw}(x:Ext a b)(y:Ext b c):Ext a c:=
 ⟨y.K.trans x.K,Nat.le_trans x.n y.n,fun i h=>(y.μ i (Nat.lt_of_lt_of_le h x.n)).trans (x.μ i h),fun p o h q=>y.imm p o (x.imm p o h q) q⟩
theorem Ext.sqT{w w':Vw}(x:Ext w w'){a:Addr}{vs:List V}(h:SqT w.K w.H a vs):SqT w'.K w'.H a vs:=by
 rw[x.K]
 rcases h with(h | ⟨o,h⟩) | h
 ·exact .inl (.inl (x.imm _ _ h rfl))
 ·exact .inl (.inr ⟨o,x.imm _ _ h rfl⟩)
 ·exact .inr h
mutual
theorem RD.ext{w w':Vw}(x:Ext w w'):∀{d:D} {v:V},RD w d v→RD w' d v
 | .non,v,h=>by unfold RD at *;exact h
 | .bl b,v,h=>by unfold RD at *;exact h
 | .int i,v,h=>by unfold RD at *;exact h
 | .str _,v,h=>by unfold RD at *;exact h
 | .tup ds,v,h=>by
  unfold RD at *
  obtain⟨a,vs,e,q,r⟩:=h
  exact⟨a,vs,e,x.imm _ _ q rfl,RDs.ext x r⟩
 | .ref i,v,h=>by
  unfold RD at *
  exact⟨Nat.lt_of_lt_of_le h.1 x.n,by rw[x.μ i h.1];exact h.2⟩
 | .ty n,v,h=>by unfold RD at *;exact h
 | .gtup ds,v,h=>by
  unfold RD at *
  obtain⟨a,vs,e,q,r⟩:=h
  exact⟨a,vs,e,x.sqT q,RDs.ext x r⟩
 | .cls a,v,h=>by unfold RD at *;exact h
 | .exn e C dx row,v,h=>by
  unfold RD at *
  obtain⟨e1,q,r,q2,q3⟩:=h
  exact⟨e1,x.imm _ _ q rfl,r,x.imm _ _ q2 rfl,RD.ext x q3⟩
theorem RDs.ext{w w':Vw}(x:Ext w w'):∀{ds:List D} {vs:List V},RDs w ds vs→RDs w' ds vs
 | [],vs,h=>by unfold RDs at *;exact h
 | d::ds,vs,h=>by
  unfold RDs at *
  obtain⟨v,r,e,h1,h2⟩:=h
  exact⟨v,r,e,RD.ext x h1,RDs.ext x h2⟩
end
theorem RKV.ext{κ:Type}{w w':Vw}(x:Ext w w'):∀{ds:List (κ×D)} {vs:List (κ×V)},RKV w ds vs→RKV w' ds vs
 | [],vs,h=>by unfold RKV at *;exact h
 |(k,d)::ds,vs,h=>by
  unfold RKV at *
  obtain⟨v,r,e,h1,h2⟩:=h
  exact⟨v,r,e,RD.ext x h1,RKV.ext x h2⟩
structure Ext0(w w':Vw):Prop where
 K:w'.K=w.K
 n:w.n≤w'.n
 μ:∀i,i<w.n→w'.μ i=w.μ i
 imm:∀a o,w.H a=some o→Imm o=true→(∀ob kvs,o≠ .frz ob (.dK kvs))→w'.H a=some o
mutual
theorem RD.ext0{w w':Vw}(x:Ext0 w w'):∀{d:D} {v:V},RD w d v→RD w' d v
 | .non,v,h=>by unfold RD at *;exact h
 | .bl b,v,h=>by unfold RD at *;exact h
 | .int i,v,h=>by unfold RD at *;exact h
 | .str _,v,h=>by unfold RD at *;exact h
 | .tup ds,v,h=>by
  unfold RD at *
  obtain⟨a,vs,e,q,r⟩:=h
  exact⟨a,vs,e,x.imm _ _ q rfl (fun _ _ z=>by cases z),RDs.ext0 x r⟩
 | .ref i,v,h=>by
  unfold RD at *
  exact⟨Nat.lt_of_lt_of_le h.1 x.n,by rw[x.μ i h.1];exact h.2⟩
 | .ty n,v,h=>by unfold RD at *;exact h
 | .gtup ds,v,h=>by
  unfold RD at *
  obtain⟨a,vs,e,q,r⟩:=h
  refine⟨a,vs,e,?_,RDs.ext0 x r⟩
  rw[x.K]
  rcases q with(h | ⟨o,h⟩) | h
  ·exact .inl (.inl (x.imm _ _ h rfl (fun _ _ z=>by cases z)))
  ·exact .inl (.inr ⟨o,x.imm _ _ h rfl (fun _ _ z=>by cases z)⟩)
  ·exact .inr h
 | .cls a,v,h=>by unfold RD at *;exact h
 | .exn e C dx row,v,h=>by
  unfold RD at *
  obtain⟨e1,q,r,q2,q3⟩:=h
  exact⟨e1,x.imm _ _ q rfl (fun _ _ z=>by cases z),r,x.imm _ _ q2 rfl (fun _ _ z=>by cases z),RD.ext0 x q3⟩
theorem RDs.ext0{w w':Vw}(x:Ext0 w w'):∀{ds:List D} {vs:List V},RDs w ds vs→RDs w' ds vs
 | [],vs,h=>by unfold RDs at *;exact h
 | d::ds,vs,h=>by
  unfold RDs at *
  obtain⟨v,r,e,h1,h2⟩:=h
  exact⟨v,r,e,RD.ext0 x h1,RDs.ext0 x h2⟩
end
theorem RDs.nil(w:Vw):RDs w [] []:=by unfold RDs;rfl
theorem RDs.cons{w:Vw}{d:D}{v:V}{ds:List D}{vs:List V}(h:RD w d v)(r:RDs w ds vs):RDs w (d::ds) (v::vs):=by unfold RDs;exact⟨v,vs,rfl,h,r⟩
theorem RDs.length{w:Vw}:∀{ds:List D} {vs:List V},RDs w ds vs→vs.length=ds.length
 | [],vs,h=>by unfold RDs at h;subst h;rfl
 | d::ds,vs,h=>by
  unfold RDs at h
  obtain⟨v,r,rfl,_,h2⟩:=h
  simp[h2.length]
theorem RDs.get{w:Vw}:∀{ds:List D} {vs:List V} {i:Nat} {d:D},RDs w ds vs→ds[i]?=some d→∃v,vs[i]?=some v∧RD w d v
 | [],vs,i,d,h,e=>by simp at e
 | d::ds,vs,i,d',h,e=>by
  unfold RDs at h
  obtain⟨v,r,rfl,h1,h2⟩:=h
  cases i with
  | zero=>simp at e;subst e;exact⟨v,rfl,h1⟩
  | succ i=>simpa using RDs.get h2 (by simpa using e)
theorem RDs.append{w:Vw}:∀{ds es:List D} {vs us:List V},RDs w ds vs→RDs w es us→RDs w (ds++es) (vs++us)
 | [],es,vs,us,h,g=>by unfold RDs at h;subst h;exact g
 | d::ds,es,vs,us,h,g=>by
  unfold RDs at h
  obtain⟨v,r,rfl,h1,h2⟩:=h
  exact RDs.cons h1 (RDs.append h2 g)
theorem RDs.take{w:Vw}:∀{ds:List D} {vs:List V} (n:Nat),RDs w ds vs→RDs w (ds.take n) (vs.take n)
 | _,_,0,_=>by simp[RDs.nil]
 | [],vs,n+1,h=>by unfold RDs at h;subst h;simp[RDs.nil]
 | d::ds,vs,n+1,h=>by
  unfold RDs at h
  obtain⟨v,r,rfl,h1,h2⟩:=h
  exact RDs.cons h1 (RDs.take n h2)
theorem RDs.drop{w:Vw}:∀{ds:List D} {vs:List V} (n:Nat),RDs w ds vs→RDs w (ds.drop n) (vs.drop n)
 | _,_,0,h=>by simpa using h
 | [],vs,n+1,h=>by unfold RDs at h;subst h;simp[RDs.nil]
 | d::ds,vs,n+1,h=>by
  unfold RDs at h
  obtain⟨v,r,rfl,h1,h2⟩:=h
  simpa using RDs.drop n h2
theorem RDs.set{w:Vw}{d:D}{v:V}(q:RD w d v):∀{ds:List D} {vs:List V} (n:Nat),RDs w ds vs→RDs w (ds.set n d) (vs.set n v)
 | [],vs,n,h=>by unfold RDs at h;subst h;simp[RDs.nil]
 | d::ds,vs,0,h=>by
  unfold RDs at h
  obtain⟨v,r,rfl,h1,h2⟩:=h
  exact RDs.cons q h2
 | d::ds,vs,n+1,h=>by
  unfold RDs at h
  obtain⟨v,r,rfl,h1,h2⟩:=h
  exact RDs.cons h1 (RDs.set q n h2)
theorem RDs.reverse{w:Vw}:∀{ds:List D} {vs:List V},RDs w ds vs→RDs w ds.reverse vs.reverse
 | [],vs,h=>by unfold RDs at h;subst h;simp[RDs.nil]
 | d::ds,vs,h=>by
  unfold RDs at h
  obtain⟨v,r,rfl,h1,h2⟩:=h
  simp only[List.reverse_cons]
  exact(RDs.reverse h2).append (RDs.cons h1 (RDs.nil w))
noncomputable def Vw.push(w:Vw)(a:Addr)(o:HO):Vw:=⟨w.K,upd w.H a o,fun i=>if i=w.n then a else w.μ i,w.n+1⟩
noncomputable def Vw.alloc(w:Vw)(a:Addr)(o:HO):Vw:={w with H:=upd w.H a o}
theorem Wb{w:Vw}{a:Addr}{o:HO}(h:w.H a=none):Ext w (w.alloc a o):=
 ⟨rfl,Nat.le_refl _,fun _ _=>rfl,fun b u q _=>by
  show upd w.H a o b=some u
  rw[Y5 (by rintro rfl;rw[h] at q;cases q)];exact q⟩
theorem Tz{w:Vw}{a:Addr}{o:HO}(h:w.H a=none):Ext w (w.push a o):=
 ⟨rfl,Nat.le_succ _,fun i hi=>by show(if i=w.n then a else w.μ i)=_;rw[if_neg (by omega)],fun b u q _=>by
  show upd w.H a o b=some u
  rw[Y5 (by rintro rfl;rw[h] at q;cases q)];exact q⟩
theorem SqF.stay{w w':Vw}{a:Addr}{vs:List V}(x:Ext w w')(h:SqF w.K w.H a vs):SqF w'.K w'.H a vs:=by
 rcases h with⟨o,h⟩ | h
 ·exact .inl ⟨o,x.imm _ _ h rfl⟩
 ·rw[x.K];exact .inr h
theorem SqF.sq{K:Af}{H:Hp}{a:Addr}{vs:List V}(h:SqF K H a vs):SqL K H a vs:=by
 rcases h with⟨o,h⟩ | (h | ⟨o,h⟩) | h
 ·exact .inl (.inr ⟨o,h⟩)
 ·cases h
 ·cases h
 ·exact .inr h
theorem Jl.some{w:Vw}{c:Cell}{a:Addr}(hm:c.mut=true)(h:Jl w c a):∃o,w.H a=some o:=by
 cases c with
 | lst ds=>obtain⟨vs,q,_⟩:=h;exact⟨_,q⟩
 | frz ds=>cases hm
 | dct ds=>obtain⟨vs,q,_⟩:=h;exact⟨_,q⟩
 | fdc ds=>obtain⟨o,vs,q,_⟩:=h;exact⟨_,q⟩
 | dcp ds=>obtain⟨vs,q,_⟩:=h;exact⟨_,q⟩
theorem Jl.stay{w w':Vw}{c:Cell}{a:Addr}(x:Ext w w')(h:Jl w c a)(k:c.mut=true→w'.H a=w.H a):Jl w' c a:=by
 cases c with
 | lst ds=>obtain⟨vs,q,r⟩:=h;exact⟨vs,(k rfl).trans q,r.ext x⟩
 | frz ds=>obtain⟨vs,q,r⟩:=h;exact⟨vs,q.stay x,r.ext x⟩
 | dct ds=>obtain⟨vs,q,r⟩:=h;exact⟨vs,(k rfl).trans q,r.ext x⟩
 | fdc ds=>obtain⟨o,vs,q,r⟩:=h;exact⟨o,vs,(k rfl).trans q,r.ext x⟩
 | dcp ds=>obtain⟨vs,q,r⟩:=h;exact⟨vs,(k rfl).trans q,r.ext x⟩
theorem RS.alloc{w:Vw}{M:Z2}{a:Addr}{o:HO}(R:RS w M)(h:w.H a=none):RS (w.alloc a o) M:=
 ⟨R.len,R.inj,fun i c e=>by
  have q:=R.cell i c e
  refine q.stay (Wb h) fun hm=>?_
  obtain⟨u,hu⟩:=q.some hm
  exact Y5 (fun z=>by have z:w.μ i=a:=z;rw[z,h] at hu;cases hu)⟩
theorem RS.push{w:Vw}{M:Z2}{a:Addr}{o:HO}{c:Cell}(R:RS w M)(h:w.H a=none)(new:Jl (w.push a o) c a):RS (w.push a o) (M++[c]):=by
 have old:∀(i:Nat) (ci:Cell),(M++[c])[i]?=some ci→(i=w.n∧ci=c)∨(i<w.n∧M[i]?=some ci):=fun i ci e=>by
  by_cases hi:i<M.length
  ·rw[Dv hi] at e
   exact .inr ⟨by rw[R.len];exact hi,e⟩
  ·rw[Iy (by omega)] at e
   have hz:i - M.length=0:=by
    have:=(Ac.mp e).1
    simp at this
    omega
   rw[hz] at e
   simp at e
   exact .inl ⟨by rw[R.len];omega,e.symm⟩
 have no:∀(i:Nat) (ci:Cell),M[i]?=some ci→ci.mut=true→w.μ i≠a:=fun i ci e hm z=>by
  obtain⟨u,hu⟩:=(R.cell i ci e).some hm
  rw[z,h] at hu;cases hu
 refine⟨by show w.n+1=_;rw[R.len];simp,fun i j ci cj ei ej mi mj e=>?_,fun i c' e=>?_⟩
 ·change (if i=w.n then a else w.μ i)=(if j=w.n then a else w.μ j) at e
  rcases old i ci ei with⟨h1,_⟩ | ⟨h1,h1'⟩
  ·rcases old j cj ej with⟨h2,_⟩ | ⟨h2,h2'⟩
   ·omega
   ·rw[if_pos h1,if_neg (by omega)] at e
    exact absurd e.symm (no j cj h2' mj)
  ·rcases old j cj ej with⟨h2,_⟩ | ⟨h2,h2'⟩
   ·rw[if_neg (by omega),if_pos h2] at e
    exact absurd e (no i ci h1' mi)
   ·rw[if_neg (by omega),if_neg (by omega)] at e
    exact R.inj i j ci cj h1' h2' mi mj e
 ·show Jl _ c' (if i=w.n then a else w.μ i)
  rcases old i c' e with⟨h1,rfl⟩ | ⟨h1,h1'⟩
  ·rw[if_pos h1];exact new
  ·rw[if_neg (by omega)]
   have q:=R.cell i c' h1'
   exact q.stay (Tz h) fun hm=>Y5 (no i c' h1' hm)
theorem V3{w:Vw}{a:Addr}{u o:HO}(h:w.H a=some u)(hu:Imm u=false):Ext w (w.alloc a o):=
 ⟨rfl,Nat.le_refl _,fun _ _=>rfl,fun b v q z=>by
  show upd w.H a o b=some v
  rw[Y5 (by rintro rfl;rw[h] at q;cases q;rw[hu] at z;cases z)];exact q⟩
theorem RS.write{w:Vw}{M:Z2}{i:Nat}{u o:HO}{c0 c:Cell}(R:RS w M)(h0:M[i]?=some c0)(hm:c0.mut=true)(hc:c.mut=true)(h:w.H (w.μ i)=some u)(hu:Imm u=false)(new:Jl (w.alloc (w.μ i) o) c (w.μ i)):RS (w.alloc (w.μ i) o) (M.set i c):=by
 have hi:i<M.length:=(Ac.mp h0).1
 have old:∀(j:Nat) (cj:Cell),(M.set i c)[j]?=some cj→cj.mut=true→∃cj',M[j]?=some cj'∧cj'.mut=true:=fun j cj e mj=>by
  by_cases h1:j=i
  ·subst h1;exact⟨c0,h0,hm⟩
  ·rw[Dx (Hw h1)] at e
   exact⟨cj,e,mj⟩
 refine⟨by show w.n=_;rw[R.len];simp,fun a b ca cb ea eb ma mb e=>?_,fun j c' e=>?_⟩
 ·obtain⟨ca',ea',ma'⟩:=old a ca ea ma
  obtain⟨cb',eb',mb'⟩:=old b cb eb mb
  exact R.inj a b ca' cb' ea' eb' ma' mb' e
 ·by_cases h1:j=i
  ·subst h1
   rw[Ha hi] at e
   cases e
   exact new
  ·rw[Dx (Hw h1)] at e
   have q:=R.cell j c' e
   exact q.stay (V3 h hu) fun mj=>Y5 (fun z=>h1 (R.inj j i c' c0 e h0 mj hm z))
inductive Op where
 | add | sub | mul | fdiv | mod | pow
 deriving DecidableEq
inductive Cm where
 | lt | ge | eq | ne | is | isnot | isin | notin
 deriving DecidableEq
inductive Bf where
 | len | isinst | min2 | max2 | list1 | dict1 | int1
 deriving DecidableEq
inductive Mt where
 | append | ins0 | get2 | pop0 | clear | index1
 deriving DecidableEq
inductive Ty where
 | int | str | bool | list | tuple | dict | valueError
 deriving DecidableEq
noncomputable def Yk:Ty→String
 | .int=>"int" | .str=>"str" | .bool=>"bool" | .list=>"list" | .tuple=>"tuple" | .dict=>"dict" | .valueError=>"ValueError"
set_option genInjectivity false in
mutual
inductive E where
 | var (i:Nat) | int (i:Int) | bl (b:Bool) | non | str (x:Str) | ty (x:Ty) | glb (k:Nat)
 | bin (op:Op) (a b:E) | neg (a:E) | not (a:E) | cmp (op:Cm) (a b:E) | bop (isAnd:Bool) (es:Es) | ife (c a b:E)
 | lst (es:Es) | tup (es:Es) | dict0 | dictT | lkeys (a:E) | dct (a b:E) | ix (a b:E) | sl (a:E) (lo hi:Eo)
 | call (f:Nat) (es:Es) | bf (b:Bf) (es:Es) | mt (m:Mt) (o:E) (es:Es)
 | comp (N':List Str) (js:List (Option Nat)) (tg:List Nat) (it:It) (cd:Eo) (e:E)
 | rev (a:E) | setf (b:Bool) (a:E) | setT (a:E) | slW (a:E) (lo hi:Eo)
inductive Es where
 | nil | cons (e:E) (r:Es)
inductive Eo where
 | no | yes (e:E)
inductive It where
 | seq (e:E) | rng1 (a:E) | rng2 (a b:E) | enm (e:E) | zip (es:Es)
end
set_option genInjectivity false in
mutual
inductive S where
 | ret (e:E) | expr (e:E)
 | set (tg:List Nat) (e:E)
 | put (o i v:E)
 | ite (c:E) (a b:Ss) | for_ (tg:List Nat) (it:It) (b:Ss) | while_ (c:E) (b:Ss)
inductive Ss where
 | nil | cons (s:S) (r:Ss)
end
noncomputable def Z4(M:Z2)(n:Nat):Option (List D):=match M[n]? with
 | some (.lst xs)=>some xs
 | some (.frz xs)=>some xs
 | _=>none
noncomputable def Za(M:Z2)(n:Nat):Option (List D):=match M[n]? with
 | some (.lst xs)=>some xs
 | _=>none
noncomputable def Zo(M:Z2)(n:Nat):Option (List (Key×D)):=match M[n]? with
 | some (.dct xs)=>some xs
 | _=>none
noncomputable def Zm4(M:Z2)(n:Nat):Option (List (Key×D)):=match M[n]? with
 | some (.dct xs)=>some xs
 | some (.fdc xs)=>some xs
 | _=>none
noncomputable def valD{κ:Type}[DecidableEq κ](kvs:List (κ×D))(k:κ):Option D:=(kvs.find? fun kv=>decide (kv.1=k)).map (·.2)
noncomputable def putD{κ:Type}[DecidableEq κ](kvs:List (κ×D))(k:κ)(v:D):List (κ×D):=
 if (kvs.any fun kv=>decide (kv.1=k))=true then kvs.map (fun kv=>if kv.1=k then(kv.1,v) else kv) else kvs++[(k,v)]
noncomputable def keyD:D→Option Key
 | .int i=>some (.inl i)
 | .str x=>some (.inr x)
 | _=>none
noncomputable def kD:Key→D
 | .inl i=> .int i
 | .inr x=> .str x
noncomputable def Z84(ps:List (Key×D)):List D:=ps.map fun p=> .tup [kD p.1,p.2]
noncomputable def Yo0(ps:List (Key×D)):List (Key×D):=ps.foldl (fun m p=>putD m p.1 p.2) []
noncomputable def qdiv(i j:Int):Int:=if 0<j then i / j else i.fdiv j
noncomputable def qmod(i j:Int):Int:=if 0<j then i % j else i.fmod j
theorem Yc0(i j:Int):i.fdiv j=qdiv i j:=by
 unfold qdiv
 split
 ·exact Int.fdiv_eq_ediv_of_nonneg _ (by omega)
 ·rfl
theorem Y98(i j:Int):i.fmod j=qmod i j:=by
 unfold qmod
 split
 ·exact Int.fmod_eq_emod_of_nonneg _ (by omega)
 ·rfl
theorem Zt5{i j:Int}(h:0<j):qdiv i j=i / j:=if_pos h
theorem Zu9{i j:Int}(h:0<j):qmod i j=i % j:=if_pos h
def Z78(x:D)(F:Int→Prop):Prop:=match x with
 | .int i=>F i
 | _=>False
def onBl(x:D)(F:Bool→Prop):Prop:=match x with
 | .bl b=>F b
 | _=>False
def Gi(x:D)(F:Nat→Prop):Prop:=match x with
 | .ref n=>F n
 | _=>False
def Y37(x:D)(F:List D→Prop):Prop:=match x with
 | .tup l=>F l
 | _=>False
def Ju(x y:D)(F:Int→Int→Prop):Prop:=Z78 x fun i=>Z78 y fun j=>F i j
def at0(l:List D)(P:Prop):Prop:=match l with
 | []=>P
 | _::_=>False
def at1(l:List D)(F:D→Prop):Prop:=match l with
 | []=>False
 | a::r=>at0 r (F a)
def at2(l:List D)(F:D→D→Prop):Prop:=match l with
 | []=>False
 | a::r=>at1 r (F a)
theorem Wz{x:D}{F:Int→Prop}(h:Z78 x F):∃i,x= .int i∧F i:=by
 cases x with
 | int i=>exact⟨i,rfl,h⟩
 | _=>exact Dp h
theorem Zx4{x:D}{F:Bool→Prop}(h:onBl x F):∃b,x= .bl b∧F b:=by
 cases x with
 | bl b=>exact⟨b,rfl,h⟩
 | _=>exact Dp h
theorem Yz{x:D}{F:Nat→Prop}(h:Gi x F):∃n,x= .ref n∧F n:=by
 cases x with
 | ref n=>exact⟨n,rfl,h⟩
 | _=>exact Dp h
theorem Gu{x:D}{F:List D→Prop}(h:Y37 x F):∃l,x= .tup l∧F l:=by
 cases x with
 | tup l=>exact⟨l,rfl,h⟩
 | _=>exact Dp h
theorem X0{x y:D}{F:Int→Int→Prop}(h:Ju x y F):∃i j,x= .int i∧y= .int j∧F i j:=by
 obtain⟨i,rfl,h1⟩:=Wz h
 obtain⟨j,rfl,h2⟩:=Wz h1
 exact⟨i,j,rfl,rfl,h2⟩
theorem Bd{l:List D}{P:Prop}(h:at0 l P):l=[]∧P:=by
 cases l with
 | nil=>exact⟨rfl,h⟩
 | cons _ _=>exact Dp h
theorem Te{l:List D}{F:D→Prop}(h:at1 l F):∃a,l=[a]∧F a:=by
 cases l with
 | nil=>exact Dp h
 | cons a r=>obtain⟨rfl,h1⟩:=Bd h;exact⟨a,rfl,h1⟩
theorem Pg{l:List D}{F:D→D→Prop}(h:at2 l F):∃a b,l=[a,b]∧F a b:=by
 cases l with
 | nil=>exact Dp h
 | cons a r=>obtain⟨b,rfl,h1⟩:=Te h;exact⟨a,b,rfl,h1⟩
def addD(x y:D)(M:Z2)(Q:DK):Prop:=match x with
 | .int i=>Z78 y fun j=>Q (.int (i+j)) M
 | .str a=>match y with
  | .str b=>a.length+b.length≤sizeLine∧Q (.str (a++b)) M
  | _=>False
 | .tup a=>Y37 y fun b=>a≠[]∧a.length+b.length≤sizeLine∧Q (.tup (a++b)) M
 | .ref a=>Gi y fun b=>∃xs ys,Za M a=some xs∧Za M b=some ys∧xs.length+ys.length≤sizeLine∧Q (.ref M.length) (M++[.lst (xs++ys)])
 | _=>False
def mulD(x y:D)(M:Z2)(Q:DK):Prop:=match x with
 | .int i=>Z78 y fun j=>IntMulOk i j∧Q (.int (i * j)) M
 | .ref a=>Z78 y fun k=>∃xs,Za M a=some xs∧0≤k∧k<2 ^ 62∧xs.length * k.toNat≤sizeLine∧Q (.ref M.length) (M++[.lst (Db k.toNat xs).flatten])
 | _=>False
def opD(op:Op)(x y:D)(M:Z2)(Q:DK):Prop:=match op with
 | .add=>addD x y M Q
 | .mul=>mulD x y M Q
 | .sub=>Ju x y fun i j=>Q (.int (i - j)) M
 | .fdiv=>Ju x y fun i j=>Zc7 i j∧Q (.int (qdiv i j)) M
 | .mod=>Ju x y fun i j=>j≠0∧Q (.int (qmod i j)) M
 | .pow=>Ju x y fun i j=>CPow i j∧Q (.int (i ^ j.toNat)) M
mutual
def PD(M:Z2):PyData→D→Prop
 | .none,d=>d= .non
 | .bool b,d=>d= .bl b
 | .int i,d=>d= .int i
 | .str x,d=>d= .str x
 | .list xs,d=>∃n ds,d= .ref n∧Z4 M n=some ds∧PDs M xs ds
 | .tuple xs,d=>∃ds,d= .tup ds∧PDs M xs ds
 | .dict _,_=>False
def PDs(M:Z2):List PyData→List D→Prop
 | [],ds=>ds=[]
 | x::xs,ds=>∃d r,ds=d::r∧PD M x d∧PDs M xs r
end
noncomputable def Y6:D→Bool
 | .non | .bl _ | .int _ | .str _=>true
 | _=>false
noncomputable def eqF:D→D→Bool
 | .non,.non=>true
 | .bl a,.bl b=>a==b
 | .bl a,.int b=>(if a then 1 else 0)==b
 | .int a,.bl b=>a==(if b then 1 else 0)
 | .int a,.int b=>a==b
 | .str a,.str b=>a==b
 | _,_=>false
noncomputable def inD(x:D)(xs:List D):Bool:=xs.any fun y=>eqF y x
noncomputable def eqS(x y:D):Option Bool:=match x with
 | .int i=>match y with
  | .int j=>some (decide (i=j))
  | .str _=>some false
  | .non=>some false
  | _=>none
 | .str i=>match y with
  | .str j=>some (decide (i=j))
  | .int _=>some false
  | .non=>some false
  | .bl _=>some false
  | _=>none
 | .bl i=>match y with
  | .bl j=>some (decide (i=j))
  | .non=>some false
  | .str _=>some false
  | _=>none
 | .non=>match y with
  | .non=>some true
  | .int _=>some false
  | .bl _=>some false
  | .str _=>some false
  | _=>none
 | _=>none
def eqD(M:Z2)(x y:D)(Q:Bool→Prop):Prop:=match eqS x y with
 | some b=>Q b
 | none=>(∃da db,PD M da x∧PD M db y∧da.canLay0=true∧db.canLay0=true∧min da.depth db.depth≤60∧Q (PyData.eqv da db))∨False
noncomputable def Zm7(M:Z2):D→Option (List D)
 | .ref n=>Z4 M n
 | .tup xs=>some xs
 | .gtup xs=>some xs
 | _=>none
def inQ(M:Z2):D→D→(Bool→Prop)→Prop
 | .str a,.str b,Q=>Q (!(Lp b a 0 b.length 1).isEmpty)
 | x,.ref n,Q=>(∃xs,Z4 M n=some xs∧Y6 x=true∧xs.all Y6=true∧Q (inD x xs))∨(∃kvs k,Zo M n=some kvs∧keyD x=some k∧Q (valD kvs k).isSome)∨False∨(∃(ts:List (List Key)) (t:List Key),Z4 M n=some (ts.map fun t=> .tup (t.map kD))∧x= .tup (t.map kD)∧t∈ts∧Q true)
 | x,.tup xs,Q=>Y6 x=true∧xs.all Y6=true∧Q (inD x xs)
 | x,.gtup xs,Q=>Y6 x=true∧xs.all Y6=true∧Q (inD x xs)
 | _,_,_=>False
def nonD(x y:D)(Q:Bool→Prop):Prop:=match y with
 | .non=>match x with
  | .non=>Q true
  | .bl _=>Q false
  | .int _=>Q false
  | .str _=>Q false
  | .tup _=>Q false
  | .ref _=>Q false
  | .exn _ _ _ _=>Q false
  | _=>False
 | _=>False
def cmD(M:Z2)(op:Cm)(x y:D)(Q:Bool→Prop):Prop:=match op with
 | .lt=>Ju x y fun i j=>Q (decide (i<j))
 | .ge=>Ju x y fun i j=>Q (decide (j≤i))
 | .eq=>eqD M x y Q
 | .ne=>eqD M x y fun b=>Q (!b)
 | .is=>nonD x y Q
 | .isnot=>nonD x y fun b=>Q (!b)
 | .isin=>inQ M x y Q
 | .notin=>inQ M x y fun b=>Q (!b)
def truD(M:Z2):D→(Bool→Prop)→Prop
 | .non,Q=>Q false
 | .bl b,Q=>Q b
 | .int i,Q=>Q (i !=0)
 | .str x,Q=>x.length≤sizeLine∧Q ((x.length:Int) !=0)
 | .tup xs,Q=>Q (!xs.isEmpty)
 | .ref n,Q=>(∃xs,Z4 M n=some xs∧Q (!xs.isEmpty))∨(∃xs,Zo M n=some xs∧Q (!xs.isEmpty))
 | _,_=>False
def ixD(M:Z2):D→D→(D→Prop)→Prop
 | .ref n,k,Q=>(∃xs i d,k= .int i∧Z4 M n=some xs∧atI xs i=some d∧Q d)∨(∃kvs y d,Zm4 M n=some kvs∧keyD k=some y∧valD kvs y=some d∧Q d)∨False
 | .tup xs,.int i,Q=>∃d,atI xs i=some d∧Q d
 | .gtup xs,.int i,Q=>∃d,atI xs i=some d∧Q d
 | .str z,.int i,Q=>z.length≤sizeLine∧∃c,atI z.cps.toList i=some c∧Q (.str ⟨#[c]⟩)
 | _,_,_=>False
noncomputable def cutD{α:Type}(xs:List α)(lo hi:Option Int):List α:=(xs.drop (HT.sIx xs.length 0 lo)).take (HT.sIx xs.length xs.length hi - HT.sIx xs.length 0 lo)
def slD:D→Option Int→Option Int→Z2→DK→Prop
 | .str z,lo,hi,M,Q=>z.length≤sizeLine∧Q (.str (Txt.slice z lo hi)) M
 | .ref n,lo,hi,M,Q=>∃xs,Z4 M n=some xs∧Q (.ref M.length) (M++[.lst (cutD xs lo hi)])
 | .tup xs,lo,hi,M,Q=>¬(HT.sIx xs.length 0 lo=0∧HT.sIx xs.length xs.length hi=xs.length)∧Q (.tup (cutD xs lo hi)) M
 | _,_,_,_,_=>False
noncomputable def tyD(M:Z2):D→Option String
 | .non=>some "NoneType"
 | .bl _=>some "bool"
 | .int _=>some "int"
 | .str _=>some "str"
 | .tup _=>some "tuple"
 | .ref n=>match M[n]? with
  | some (.lst _)=>some "list"
  | some (.frz _)=>none
  | some (.dct _)=>some "dict"
  | some (.fdc _)=>none
  | some (.dcp _)=>none
  | none=>none
 | _=>none
def isD(K:Af)(M:Z2):D→D→(Bool→Prop)→Prop
 | .exn _ C _ _,.cls c,Q=>∃b,ExcIs K C∧Kl K (.ref C) (.ref c)=some b∧Q b
 | .exn _ C _ _,.ty c,Q=>∃b,ExcIs K C∧Kl K (.ref C) (.type c)=some b∧Q b
 | .exn _ C _ _,.tup cs,Q=>∃(as:List Addr) (b:Bool),cs=as.map D.cls∧ExcIs K C∧PySem.W.kitAny K (.ref C) (as.map Ax)=some b∧Q b
 | d,.ty c,Q=>∃t b,tyD M d=some t∧Kl K (.type t) (.type c)=some b∧Q b
 | _,_,_=>False
def lenD(x:D)(M:Z2)(Q:DK):Prop:=match x with
 | .ref n=>(∃xs,Z4 M n=some xs∧Q (.int xs.length) M)∨(∃xs,Zo M n=some xs∧Q (.int xs.length) M)
 | .tup xs=>Q (.int xs.length) M
 | .str x=>x.length≤sizeLine∧Q (.int x.length) M
 | _=>False
def bfD(K:Af)(b:Bf)(l:List D)(M:Z2)(Q:DK):Prop:=match b with
 | .len=>at1 l fun x=>lenD x M Q
 | .isinst=>at2 l fun d c=>isD K M d c fun b=>Q (.bl b) M
 | .min2=>at2 l fun x y=>Ju x y fun i j=>Q (.int (if j<i then j else i)) M
 | .max2=>at2 l fun x y=>Ju x y fun i j=>Q (.int (if j >i then j else i)) M
 | .list1=>at1 l fun d=>∃xs,Zm7 M d=some xs∧Q (.ref M.length) (M++[.lst xs])
 | .dict1=>at1 l fun x=>Gi x fun n=>(∃xs,Zo M n=some xs∧Q (.ref M.length) (M++[.dct xs]))∨(∃ps:List (Key×D),Z4 M n=some (Z84 ps)∧ps.length<sizeLine∧Q (.ref M.length) (M++[.dct (Yo0 ps)]))
 | .int1=>at1 l fun x=>onBl x fun b=>Q (.int (if b then 1 else 0)) M
def setD(b:Bool)(n:Nat)(M:Z2)(Q:DK):Prop:=match b with
 | true=>(∃ns:List Int,Z4 M n=some (ns.map .int)∧ns.length<1000∧(∀ms:List Int,ms.Nodup→(∀i∈ms,i∈ns)→ms.length<64)∧∀ms:List Int,ms.Pairwise (· < ·)→(∀i,i∈ms↔i∈ns)→Q (.ref M.length) (M++[.lst (ms.map .int)]))∨(∃ss:List Str,Z4 M n=some (ss.map .str)∧ss.length<64∧∀ms:List Str,ms.Nodup→(∀x,x∈ms↔x∈ss)→ms.Pairwise SW.leS→Q (.ref M.length) (M++[.lst (ms.map .str)]))
 | false=>False
def mtD(m:Mt)(o:D)(l:List D)(M:Z2)(Q:DK):Prop:=Gi o fun n=>match m with
 | .ins0=>at2 l fun k d=>k= .int 0∧∃xs,Za M n=some xs∧xs.length<sizeLine∧Q .non (M.set n (.lst (d::xs)))
 | .append=>at1 l fun d=>∃xs,Za M n=some xs∧xs.length<sizeLine∧Q .non (M.set n (.lst (xs++[d])))
 | .get2=>at2 l fun k z=>∃kvs y,Zo M n=some kvs∧keyD k=some y∧Q ((valD kvs y).getD z) M
 | .pop0=>at0 l (∃xs d,Za M n=some xs∧xs[xs.length - 1]?=some d∧Q d (M.set n (.lst xs.dropLast)))
 | .clear=>at0 l (∃xs,Za M n=some xs∧Q .non (M.set n (.lst [])))
 | .index1=>at1 l fun d=>∃xs k z,Z4 M n=some xs∧Y6 d=true∧xs.all Y6=true∧xs[k]?=some z∧eqF z d=true∧(∀(j:Nat) u,j<k→xs[j]?=some u→eqF u d=false)∧Q (.int k) M
def mtK(m:Mt)(o:D)(M:Z2):Prop:=Gi o fun n=>match m with
 | .get2=>(Zo M n).isSome=true
 | _=>(Z4 M n).isSome=true
def tgD:List Nat→D→DEnv→(DEnv→Prop)→Prop
 | [i],d,σ,Q=>Q (σ.set i (some d))
 | is,.tup ds,σ,Q=>ds.length=is.length∧Q ((is.zip ds).foldl (fun σ p=>σ.set p.1 (some p.2)) σ)
 | _,_,_,_=>False
inductive Own where
 | no | lst (n:Nat) | enm (n:Nat) | dct (n:Nat) | two (n m:Nat)
noncomputable def Zh2(kvs:List (Key×D)):List D:=kvs.map fun p=>kD p.1
noncomputable def Fj(xs:List D):List D:=xs.mapIdx fun i d=> .tup [.int i,d]
noncomputable def zipT(ys zs:List D):List D:=(ys.zip zs).map fun p=>D.tup [p.1,p.2]
def itD(M:Z2):D→(Own→List D→Prop)→Prop
 | .ref n,R=>∃xs,Z4 M n=some xs∧R (.lst n) xs
 | .tup xs,R=>R .no xs
 | .gtup xs,R=>R .no xs
 | _,_=>False
noncomputable def Oj(lo:Int)(n:Nat):List D:=(Dj n).map fun(k:Nat)=>D.int (lo+(k:Int))
def J9(own:Own)(xs:List D)(M:Z2):Prop:=match own with
 | .lst n=>Z4 M n=some xs
 | .enm n=>∃ys,Z4 M n=some ys∧xs=Fj ys
 | .dct n=>∃kvs,M[n]?=some (.fdc kvs)∧xs=Zh2 kvs
 | .two n m=>∃ys zs,Z4 M n=some ys∧Z4 M m=some zs∧xs=zipT ys zs
 | .no=>True
def forD(own:Own)(xs:List D)(tg:List Nat)(body:DS):List D→DEnds→DEnv→Z2→Prop
 | [],R,σ,M=>J9 own xs M∧R.nx σ M
 | d::r,R,σ,M=>J9 own xs M∧tgD tg d σ fun σ'=>body {nx:=fun σ2 M2=>forD own xs tg body r R σ2 M2,rt:=R.rt,bk:=R.nx,ct:=fun σ2 M2=>forD own xs tg body r R σ2 M2} σ' M
def Fn(own:Own)(xs:List D)(tg:List Nat)(cd:DT)(el:DE)(z:Nat):List D→DEnv→Z2→(Z2→Prop)→Prop
 | [],_,M,Q=>J9 own xs M∧Q M
 | d::r,σ,M,Q=>J9 own xs M∧tgD tg d σ fun σ'=>cd σ' M fun b M1=>if b=true then
   el σ' M1 fun y M2=>∃acc,Za M2 z=some acc∧acc.length<sizeLine∧Fn own xs tg cd el z r σ' (M2.set z (.lst (acc++[y]))) Q
   else Fn own xs tg cd el z r σ' M1 Q
noncomputable def capD(js:List (Option Nat))(σ:DEnv):DEnv:=js.map fun o=>o.bind fun j=>(σ[j]?).join
abbrev noX:DX:=fun _ _ _=>False
structure Cfg where
 K:Af
 Γ:List DSp
 G:List D
mutual
def te(c:Cfg)(X:DX):E→DE
 | .var i,σ,M,Q=>match σ[i]? with
  | some (some d)=>Q d M
  | _=>False
 | .int i,_,M,Q=>Q (.int i) M
 | .bl b,_,M,Q=>Q (.bl b) M
 | .non,_,M,Q=>Q .non M
 | .str x,_,M,Q=>Q (.str x) M
 | .ty n,_,M,Q=>Q (.ty (Yk n)) M
 | .glb k,_,M,Q=>match c.G[k]? with
  | some d=>Q d M
  | none=>False
 | .bin op a b,σ,M,Q=>te c X a σ M fun x M1=>te c X b σ M1 fun y M2=>opD op x y M2 Q
 | .neg a,σ,M,Q=>te c X a σ M fun x M1=>match x with
  | .int i=>Q (.int (-i)) M1
  | _=>False
 | .not a,σ,M,Q=>te c X a σ M fun x M1=>truD M1 x fun b=>Q (.bl (!b)) M1
 | .cmp op a b,σ,M,Q=>te c X a σ M fun x M1=>te c X b σ M1 fun y M2=>cmD M2 op x y fun r=>Q (.bl r) M2
 | .bop k es,σ,M,Q=>tbop c X k es σ M Q
 | .ife t a b,σ,M,Q=>te c X t σ M fun x M1=>truD M1 x fun r=>if r=true then te c X a σ M1 Q else te c X b σ M1 Q
 | .lst es,σ,M,Q=>tes c X es σ M fun ds M1=>ds.length≤sizeLine∧Q (.ref M1.length) (M1++[.lst ds])
 | .tup es,σ,M,Q=>tes c X es σ M fun ds M1=>ds.length≤sizeLine∧Q (.tup ds) M1
 | .dict0,_,M,Q=>Q (.ref M.length) (M++[.dct []])
 | .dictT,_,_,_=>False
 | .lkeys a,σ,M,Q=>te c X a σ M fun x M1=>Gi x fun n=>∃kvs,Zo M1 n=some kvs∧Q (.ref M1.length) (M1++[.lst (Zh2 kvs)])
 | .dct a b,σ,M,Q=>te c X a σ (M++[.dct []]) fun x M1=>te c X b σ M1 fun y M2=>∃k,keyD x=some k∧Zo M2 M.length=some []∧Q (.ref M.length) (M2.set M.length (.dct [(k,y)]))
 | .ix a b,σ,M,Q=>te c X a σ M fun x M1=>te c X b σ M1 fun y M2=>ixD M2 x y fun d=>Q d M2
 | .sl a lo hi,σ,M,Q=>te c X a σ M fun x M1=>teo c X lo σ M1 fun l M2=>teo c X hi σ M2 fun h M3=>slD x l h M3 Q
 | .call f es,σ,M,Q=>tes c X es σ M fun ds M1=>match c.Γ[f]? with
  | some sp=>sp ds M1 Q X
  | none=>False
 | .bf b es,σ,M,Q=>tes c X es σ M fun ds M1=>bfD c.K b ds M1 Q
 | .slW a lo hi,σ,M,Q=>te c X a σ M fun x M1=>teo c X lo σ M1 fun l M2=>teo c X hi σ M2 fun h M3=>Y37 x fun xs=>Q (.tup (cutD xs l h)) M3
 | .setT a,σ,M,Q=>te c X a σ M fun x M1=>Gi x fun n=>∃ts:List (List Key),Z4 M1 n=some (ts.map fun t=> .tup (t.map kD))∧ts.Nodup∧ts.length<900∧Q (.int ts.length) M1
 | .setf b a,σ,M,Q=>te c X a σ M fun x M1=>Gi x fun n=>setD b n M1 Q
 | .rev a,σ,M,Q=>te c X a σ M fun x M1=>match x with
  | .ref n=>∃xs,Z4 M1 n=some xs∧Q (.ref M1.length) (M1++[.lst xs.reverse])
  | _=>False
 | .mt m o es,σ,M,Q=>te c X o σ M fun x M1=>mtK m x M1∧tes c X es σ M1 fun ds M2=>mtD m x ds M2 Q
 | .comp _ js tg it cd e,σ,M,Q=>tit c X it σ M fun own xs M1=>Fn own xs tg (tcd c noX cd) (te c noX e) M1.length xs (capD js σ) (M1++[.lst []]) fun M2=>Q (.ref M1.length) M2
def tbop(c:Cfg)(X:DX)(k:Bool):Es→DE
 | .nil,_,_,_=>False
 | .cons e .nil,σ,M,Q=>te c X e σ M Q
 | .cons e (.cons e2 r),σ,M,Q=>te c X e σ M fun x M1=>truD M1 x fun b=>if b=k then tbop c X k (.cons e2 r) σ M1 Q else Q x M1
def tes(c:Cfg)(X:DX):Es→DA
 | .nil,_,M,Q=>Q [] M
 | .cons e r,σ,M,Q=>te c X e σ M fun d M1=>tes c X r σ M1 fun ds M2=>Q (d::ds) M2
def teo(c:Cfg)(X:DX):Eo→DEnv→Z2→(Option Int→Z2→Prop)→Prop
 | .no,_,M,Q=>Q none M
 | .yes e,σ,M,Q=>te c X e σ M fun d M1=>match d with
  | .int i=>Q (some i) M1
  | _=>False
def tcd(c:Cfg)(X:DX):Eo→DT
 | .no,_,M,Q=>Q true M
 | .yes e,σ,M,Q=>te c X e σ M fun x M1=>truD M1 x fun b=>Q b M1
def tit(c:Cfg)(X:DX):It→DEnv→Z2→(Own→List D→Z2→Prop)→Prop
 | .seq e,σ,M,Q=>te c X e σ M fun d M1=>itD M1 d fun own xs=>Q own xs M1
 | .rng1 a,σ,M,Q=>te c X a σ M fun d M1=>match d with
  | .int j=> -(2 ^ 62)≤j∧j<2 ^ 62∧Q .no (Oj 0 j.toNat) M1
  | _=>False
 | .rng2 a b,σ,M,Q=>te c X a σ M fun d M1=>te c X b σ M1 fun d2 M2=>match d,d2 with
  | .int i,.int j=>(-(2 ^ 62)≤i∧i<2 ^ 62∧ -(2 ^ 62)≤j∧j<2 ^ 62)∧Q .no (Oj i (j - i).toNat) M2
  | _,_=>False
 | .enm e,σ,M,Q=>te c X e σ M fun d M1=>match d with
  | .ref n=>∃xs,Z4 M1 n=some xs∧Q (.enm n) (Fj xs) M1
  | _=>False
 | .zip _,_,_,_=>False
end
theorem evar9{c X i σ M Q}:te c X (.var i) σ M Q=(match σ[i]? with|some (some d)=>Q d M|_=>False):=rfl
theorem eint9{c X i u1 M Q}:te c X (.int i) u1 M Q=(Q (.int i) M):=rfl
theorem ebl9{c X b u1 M Q}:te c X (.bl b) u1 M Q=(Q (.bl b) M):=rfl
theorem enon9{c X u1 M Q}:te c X .non u1 M Q=(Q .non M):=rfl
theorem estr9{c X x u1 M Q}:te c X (.str x) u1 M Q=(Q (.str x) M):=rfl
theorem ety9{c X n u1 M Q}:te c X (.ty n) u1 M Q=(Q (.ty (Yk n)) M):=rfl
theorem eglb9{c X k u1 M Q}:te c X (.glb k) u1 M Q=(match c.G[k]? with|some d=>Q d M|none=>False):=rfl
theorem ebin9{c X op a b σ M Q}:te c X (.bin op a b) σ M Q=(te c X a σ M fun x M1=>te c X b σ M1 fun y M2=>opD op x y M2 Q):=rfl
theorem eneg9{c X a σ M Q}:te c X (.neg a) σ M Q=(te c X a σ M fun x M1=>match x with|.int i=>Q (.int (-i)) M1|_=>False):=rfl
theorem enot9{c X a σ M Q}:te c X (.not a) σ M Q=(te c X a σ M fun x M1=>truD M1 x fun b=>Q (.bl (!b)) M1):=rfl
theorem ecmp9{c X op a b σ M Q}:te c X (.cmp op a b) σ M Q=(te c X a σ M fun x M1=>te c X b σ M1 fun y M2=>cmD M2 op x y fun r=>Q (.bl r) M2):=rfl
theorem ebop9{c X k es σ M Q}:te c X (.bop k es) σ M Q=(tbop c X k es σ M Q):=rfl
theorem eife9{c X t a b σ M Q}:te c X (.ife t a b) σ M Q=(te c X t σ M fun x M1=>truD M1 x fun r=>if r=true then te c X a σ M1 Q else te c X b σ M1 Q):=rfl
theorem elst9{c X es σ M Q}:te c X (.lst es) σ M Q=(tes c X es σ M fun ds M1=>ds.length≤sizeLine∧Q (.ref M1.length) (M1++[.lst ds])):=rfl
theorem etup9{c X es σ M Q}:te c X (.tup es) σ M Q=(tes c X es σ M fun ds M1=>ds.length≤sizeLine∧Q (.tup ds) M1):=rfl
theorem edict09{c X u1 M Q}:te c X .dict0 u1 M Q=(Q (.ref M.length) (M++[.dct []])):=rfl
theorem elkeys9{c X a σ M Q}:te c X (.lkeys a) σ M Q=(te c X a σ M fun x M1=>Gi x fun n=>∃kvs,Zo M1 n=some kvs∧Q (.ref M1.length) (M1++[.lst (Zh2 kvs)])):=rfl
theorem edct9{c X a b σ M Q}:te c X (.dct a b) σ M Q=(te c X a σ (M++[.dct []]) fun x M1=>te c X b σ M1 fun y M2=>∃k,keyD x=some k∧Zo M2 M.length=some []∧Q (.ref M.length) (M2.set M.length (.dct [(k,y)]))):=rfl
theorem eix9{c X a b σ M Q}:te c X (.ix a b) σ M Q=(te c X a σ M fun x M1=>te c X b σ M1 fun y M2=>ixD M2 x y fun d=>Q d M2):=rfl
theorem esl9{c X a lo hi σ M Q}:te c X (.sl a lo hi) σ M Q=(te c X a σ M fun x M1=>teo c X lo σ M1 fun l M2=>teo c X hi σ M2 fun h M3=>slD x l h M3 Q):=rfl
theorem ecall9{c X f es σ M Q}:te c X (.call f es) σ M Q=(tes c X es σ M fun ds M1=>match c.Γ[f]? with|some sp=>sp ds M1 Q X|none=>False):=rfl
theorem ebf9{c X b es σ M Q}:te c X (.bf b es) σ M Q=(tes c X es σ M fun ds M1=>bfD c.K b ds M1 Q):=rfl
theorem eslW9{c X a lo hi σ M Q}:te c X (.slW a lo hi) σ M Q=(te c X a σ M fun x M1=>teo c X lo σ M1 fun l M2=>teo c X hi σ M2 fun h M3=>Y37 x fun xs=>Q (.tup (cutD xs l h)) M3):=rfl
theorem esetT9{c X a σ M Q}:te c X (.setT a) σ M Q=(te c X a σ M fun x M1=>Gi x fun n=>∃ts:List (List Key),Z4 M1 n=some (ts.map fun t=> .tup (t.map kD))∧ts.Nodup∧ts.length<900∧Q (.int ts.length) M1):=rfl
theorem esetf9{c X b a σ M Q}:te c X (.setf b a) σ M Q=(te c X a σ M fun x M1=>Gi x fun n=>setD b n M1 Q):=rfl
theorem erev9{c X a σ M Q}:te c X (.rev a) σ M Q=(te c X a σ M fun x M1=>match x with|.ref n=>∃xs,Z4 M1 n=some xs∧Q (.ref M1.length) (M1++[.lst xs.reverse])|_=>False):=rfl
theorem emt9{c X m o es σ M Q}:te c X (.mt m o es) σ M Q=(te c X o σ M fun x M1=>mtK m x M1∧tes c X es σ M1 fun ds M2=>mtD m x ds M2 Q):=rfl
theorem ecomp9{c X u1 js tg it cd e σ M Q}:te c X (.comp u1 js tg it cd e) σ M Q=(tit c X it σ M fun own xs M1=>Fn own xs tg (tcd c noX cd) (te c noX e) M1.length xs (capD js σ) (M1++[.lst []]) fun M2=>Q (.ref M1.length) M2):=rfl
def tt(c:Cfg)(X:DX)(e:E):DT:=fun σ M Q=>te c X e σ M fun x M1=>truD M1 x fun b=>Q b M1
mutual
def ts(c:Cfg)(X:DX):S→DS
 | .ret e,R,σ,M=>te c X e σ M R.rt
 | .expr e,R,σ,M=>te c X e σ M fun _ M1=>R.nx σ M1
 | .set tg e,R,σ,M=>te c X e σ M fun d M1=>tgD tg d σ fun σ'=>R.nx σ' M1
 | .put o i v,R,σ,M=>te c X v σ M fun d M1=>te c X o σ M1 fun x M2=>te c X i σ M2 fun y M3=>match x with
  | .ref n=>(∃xs k j,y= .int k∧Za M3 n=some xs∧ixN xs.length k=some j∧R.nx σ (M3.set n (.lst (xs.set j d))))∨
    (∃kvs k,Zo M3 n=some kvs∧keyD y=some k∧kvs.length<sizeLine∧R.nx σ (M3.set n (.dct (putD kvs k d))))∨
    False
  | _=>False
 | .ite t a b,R,σ,M=>tt c X t σ M fun r M1=>if r=true then tss c X a R σ M1 else tss c X b R σ M1
 | .for_ tg it b,R,σ,M=>tit c X it σ M fun own xs M1=>forD own xs tg (tss c X b) xs R σ M1
 | .while_ t b,R,σ,M=>∃W:Nat→DEnv→Z2→Prop,(∃m,W m σ M)∧∀m σ M,W m σ M→tt c X t σ M fun r M1=>if r=true then
   tss c X b {nx:=fun σ2 M2=>∃m',m'<m∧W m' σ2 M2,rt:=R.rt,bk:=R.nx,ct:=fun σ2 M2=>∃m',m'<m∧W m' σ2 M2} σ M1 else R.nx σ M1
def tss(c:Cfg)(X:DX):Ss→DS
 | .nil,R,σ,M=>R.nx σ M
 | .cons s r,R,σ,M=>ts c X s {R with nx:=fun σ' M'=>tss c X r R σ' M'} σ M
end
def REnv(w:Vw)(σD:DEnv)(σ:L2.St):Prop:=σD.length=σ.length∧∀(i:Nat) d,σD[i]?=some (some d)→∃v,σ[i]?=some (some v)∧RD w d v
theorem REnv.ext{w w':Vw}{σD:DEnv}{σ:L2.St}(h:REnv w σD σ)(x:Ext w w'):REnv w' σD σ:=
 ⟨h.1,fun i d e=>by obtain⟨v,q,r⟩:=h.2 i d e;exact⟨v,q,r.ext x⟩⟩
theorem REnv.set{w:Vw}{σD:DEnv}{σ:L2.St}{d:D}{v:V}(h:REnv w σD σ)(i:Nat)(r:RD w d v):REnv w (σD.set i (some d)) (σ.set i (some v)):=by
 refine⟨by simp[h.1],fun j d' e=>?_⟩
 by_cases hj:i=j
 ·subst hj
  by_cases hl:i<σD.length
  ·rw[Ha hl] at e
   cases e
   exact⟨v,by rw[Ha (by rw[←h.1];exact hl)],r⟩
  ·rw[Dn (by simp;omega)] at e
   cases e
 ·rw[Dx hj] at e
  rw[Dx hj]
  exact h.2 j d' e
structure StOk(w0 w:Vw)(σD:DEnv)(M:Z2)(σ:L2.St)(H:Hp):Prop where
 heap:w.H=H
 ext:Ext w0 w
 rs:RS w M
 env:REnv w σD σ
theorem StOk.next{w0 w w':Vw}{σD:DEnv}{M M':Z2}{σ:L2.St}{H:Hp}(s:StOk w0 w σD M σ H)(x:Ext w w')(r:RS w' M'):StOk w0 w' σD M' σ w'.H:=
 ⟨rfl,s.ext.trans x,r,s.env.ext x⟩
def Aft(w:Vw)(QD:DK)(Q:VK):Prop:=∀v w' d M',Ext w w'→RS w' M'→RD w' d v→QD d M'→Q v w'.H
def tF(w0:Vw)(f:DE):TE:=fun σ H Q=>∃w σD M QD,StOk w0 w σD M σ H∧f σD M QD∧Aft w QD Q
def tFA(w0:Vw)(f:DA):TA:=fun σ H Q=>∃w σD M QD,StOk w0 w σD M σ H∧f σD M QD∧∀vs w' ds M',Ext w w'→RS w' M'→RDs w' ds vs→QD ds M'→Q vs w'.H
def tFT(w0:Vw)(f:DT):TT:=fun σ H Q=>∃w σD M QD,StOk w0 w σD M σ H∧f σD M QD∧∀b w' M',Ext w w'→RS w' M'→QD b M'→Q b w'.H
def tFO(w0:Vw)(f:DEnv→Z2→(Option Int→Z2→Prop)→Prop):TO:=fun σ H Q=>∃w σD M QD,StOk w0 w σD M σ H∧f σD M QD∧∀b w' M',Ext w w'→RS w' M'→QD b M'→Q b w'.H
def tFS(w0:Vw)(f:DS):TS:=fun R σ H=>∃w σD M RD',StOk w0 w σD M σ H∧f RD' σD M∧
 (∀σ' w' σD' M',Ext w w'→RS w' M'→REnv w' σD' σ'→RD'.nx σD' M'→R.nx σ' w'.H)∧Aft w RD'.rt R.rt∧
 (∀σ' w' σD' M',Ext w w'→RS w' M'→REnv w' σD' σ'→RD'.bk σD' M'→R.bk σ' w'.H)∧
 (∀σ' w' σD' M',Ext w w'→RS w' M'→REnv w' σD' σ'→RD'.ct σD' M'→R.ct σ' w'.H)
def xkOf(w:Vw)(Z:DX):XK:=fun cls dd H'=>∃C dx r w' row M',cls= .ref C∧dd=some dx∧w'.H=H'∧Ext w w'∧RS w' M'∧H' dx=some (.xd [("row",r)])∧RD w' row r∧Z C row M'
def spF(K:Af)(sp:DSp):Sp:=fun vs H Q E=>∃w ds M QD Z,w.K=K∧w.H=H∧RS w M∧RDs w ds vs∧sp ds M QD Z∧Aft w QD Q∧∀cls dd H',xkOf w Z cls dd H'→E cls dd H'
theorem Aft.ext{w w':Vw}{QD:DK}{Q:VK}(h:Aft w QD Q)(x:Ext w w'):Aft w' QD Q:=fun v w2 d M y r q p=>h v w2 d M (x.trans y) r q p
section
variable{X:Cx}{e:Expr}{w0:Vw}
theorem PE.imp{t t':TE}(h:PE X e t)(k:∀σ H Q,t' σ H Q→t σ H Q):PE X e t':=fun pins s σ H Q I q=>h pins s σ H Q I (k σ H Q q)
theorem PT.imp{t t':TT}(h:PT X e t)(k:∀σ H Q,t' σ H Q→t σ H Q):PT X e t':=fun pins s σ H Q I q=>h pins s σ H Q I (k σ H Q q)
theorem PA.imp{es:List Expr}{t t':TA}(h:PA X es t)(k:∀σ H Q,t' σ H Q→t σ H Q):PA X es t':=fun pos pins s σ H Q I q=>h pos pins s σ H Q I (k σ H Q q)
theorem PS.imp{st:Stmt}{t t':TS}(h:PS X st t)(k:∀R σ H,t' R σ H→t R σ H):PS X st t':=fun pins s σ H R I q=>h pins s σ H R I (k R σ H q)
theorem PSs.imp{st:List Stmt}{t t':TS}(h:PSs X st t)(k:∀R σ H,t' R σ H→t R σ H):PSs X st t':=fun pins s σ H R I q=>h pins s σ H R I (k R σ H q)
end
def rF(w0:Vw)(g:D→D→Z2→DK→Prop):R2:=fun x y H Q=>∃w M dx dy QD,w.H=H∧Ext w0 w∧RS w M∧RD w dx x∧RD w dy y∧g dx dy M QD∧Aft w QD Q
theorem Zd{w:Vw}{i:Int}{v:V}:RD w (.int i) v↔v= .int i:=by unfold RD;exact Mc
theorem Zt{w:Vw}{i:Str}{v:V}:RD w (.str i) v↔v= .str i:=by unfold RD;exact Mc
theorem Xj{w:Vw}{i:Bool}{v:V}:RD w (.bl i) v↔v= .bl i:=by unfold RD;exact Mc
theorem Zs{w:Vw}{v:V}:RD w .non v↔v= .non:=by unfold RD;exact Mc
theorem Yi7{w:Vw}{n:String}{v:V}:RD w (.ty n) v↔v= .ty n:=by unfold RD;exact Mc
theorem Y49{w:Vw}{n:Addr}{v:V}:RD w (.cls n) v↔v= .ref n:=by unfold RD;exact Mc
theorem Zp{w:Vw}{i:Nat}{v:V}:RD w (.ref i) v↔i<w.n∧v= .ref (w.μ i):=by unfold RD;exact Mc
theorem Yn{w:Vw}{ds:List D}{v:V}:RD w (.tup ds) v↔∃a vs,v= .ref a∧w.H a=some (.tup vs)∧RDs w ds vs:=by unfold RD;exact Mc
theorem Ja{w:Vw}{ds:List D}{v:V}:RD w (.gtup ds) v↔∃a vs,v= .ref a∧SqT w.K w.H a vs∧RDs w ds vs:=by unfold RD;exact Mc
theorem Fu{w:Vw}{e C dx:Addr}{row:D}{v:V}:RD w (.exn e C dx row) v↔v= .ref e∧w.H e=some (XO e (.ref C) (some dx))∧∃r,w.H dx=some (.xd [("row",r)])∧RD w row r:=Iff.of_eq (by rw[RD])
theorem RDs.empty{w:Vw}{ds:List D}(h:RDs w ds []):ds=[]:=by
 have:=h.length
 exact Ih.mp this.symm
theorem Y88{M:Z2}{n:Nat}{xs:List D}(h:Za M n=some xs):Z4 M n=some xs:=by
 unfold Za at h
 unfold Z4
 split at h
 ·rename_i e;rw[e];exact h
 ·cases h
theorem S7{M:Z2}{n:Nat}{xs:List D}(h:Za M n=some xs):M[n]?=some (.lst xs):=by
 unfold Za at h
 split at h
 ·rename_i e;rw[e];cases h;rfl
 ·cases h
theorem Jq{M:Z2}{n:Nat}{xs:List (Key×D)}(h:Zo M n=some xs):M[n]?=some (.dct xs):=by
 unfold Zo at h
 split at h
 ·rename_i e;rw[e];cases h;rfl
 ·cases h
theorem RS.list{w:Vw}{M:Z2}{n:Nat}{xs:List D}(R:RS w M)(h:Za M n=some xs):M[n]?=some (.lst xs)∧∃vs,w.H (w.μ n)=some (.lst vs)∧RDs w xs vs:=
 ⟨S7 h,R.cell n _ (S7 h)⟩
theorem RS.listL{w:Vw}{M:Z2}{n:Nat}{xs:List D}(R:RS w M)(h:Z4 M n=some xs):n<w.n∧∃vs,SqL w.K w.H (w.μ n) vs∧RDs w xs vs∧True:=by
 unfold Z4 at h
 split at h
 ·rename_i ys e
  cases h
  obtain⟨vs,q,r⟩:=R.cell n _ e
  exact⟨by rw[R.len];exact(Ac.mp e).1,vs,.inl (.inl q),r,trivial⟩
 ·rename_i ys e
  cases h
  obtain⟨vs,q,r⟩:=R.cell n _ e
  exact⟨by rw[R.len];exact(Ac.mp e).1,vs,q.sq,r,trivial⟩
 ·cases h
theorem Ye8{M:Z2}{n:Nat}{xs:List (Key×D)}(h:Zo M n=some xs):Zm4 M n=some xs:=by
 unfold Zm4;rw[Jq h]
theorem RS.dictF{w:Vw}{M:Z2}{n:Nat}{xs:List (Key×D)}(R:RS w M)(h:Zm4 M n=some xs):∃vs,Rd w.H (w.μ n) (.dK vs)∧RKV w xs vs:=by
 unfold Zm4 at h
 split at h
 ·rename_i ys e
  cases h
  obtain⟨vs,q1,q2⟩:=R.cell n _ e
  exact⟨vs,.inl q1,q2⟩
 ·rename_i ys e
  cases h
  obtain⟨o,vs,q1,q2⟩:=R.cell n _ e
  exact⟨vs,.inr ⟨o,q1⟩,q2⟩
 ·cases h
theorem RS.dict{w:Vw}{M:Z2}{n:Nat}{xs:List (Key×D)}(R:RS w M)(h:Zo M n=some xs):M[n]?=some (.dct xs)∧∃vs,w.H (w.μ n)=some (.dK vs)∧RKV w xs vs:=
 ⟨Jq h,R.cell n _ (Jq h)⟩
theorem Ys{w:Vw}{M:Z2}{p:Addr}{xs:List D}{vs:List V}(R:RS w M)(hp:w.H p=none)(r:RDs w xs vs):Ext w (w.push p (.lst vs))∧RS (w.push p (.lst vs)) (M++[.lst xs])∧RD (w.push p (.lst vs)) (.ref M.length) (.ref p):=by
 refine⟨Tz hp,R.push hp ⟨vs,Yv,r.ext (Tz hp)⟩,Zp.mpr ⟨?_,?_⟩⟩
 ·show M.length<w.n+1
  rw[R.len];omega
 ·show V.ref p=V.ref (if M.length=w.n then p else w.μ M.length)
  rw[if_pos R.len.symm]
theorem Qp{w:Vw}{M:Z2}{p:Addr}{xs:List (Key×D)}{vs:List (Key×V)}(R:RS w M)(hp:w.H p=none)(r:RKV w xs vs):Ext w (w.push p (.dK vs))∧RS (w.push p (.dK vs)) (M++[.dct xs])∧RD (w.push p (.dK vs)) (.ref M.length) (.ref p):=by
 refine⟨Tz hp,R.push hp ⟨vs,Yv,r.ext (Tz hp)⟩,Zp.mpr ⟨?_,?_⟩⟩
 ·show M.length<w.n+1
  rw[R.len];omega
 ·show V.ref p=V.ref (if M.length=w.n then p else w.μ M.length)
  rw[if_pos R.len.symm]
theorem Qr{w:Vw}{M:Z2}{p:Addr}{xs:List D}{vs:List V}(R:RS w M)(hp:w.H p=none)(r:RDs w xs vs):Ext w (w.alloc p (.tup vs))∧RS (w.alloc p (.tup vs)) M∧RD (w.alloc p (.tup vs)) (.tup xs) (.ref p):=
 ⟨Wb hp,R.alloc hp,Yn.mpr ⟨p,vs,rfl,Yv,r.ext (Wb hp)⟩⟩
theorem Xa{w:Vw}{M:Z2}{n:Nat}{us vs:List V}{ys xs:List D}(R:RS w M)(hn:M[n]?=some (.lst ys))(h:w.H (w.μ n)=some (.lst us))(r:RDs w xs vs):Ext w (w.alloc (w.μ n) (.lst vs))∧RS (w.alloc (w.μ n) (.lst vs)) (M.set n (.lst xs)):=
 ⟨V3 h rfl,R.write hn rfl rfl h rfl ⟨vs,Yv,r.ext (V3 h rfl)⟩⟩
theorem N8{w:Vw}{M:Z2}{n:Nat}{us vs:List (Key×V)}{ys xs:List (Key×D)}(R:RS w M)(hn:M[n]?=some (.dct ys))(h:w.H (w.μ n)=some (.dK us))(r:RKV w xs vs):Ext w (w.alloc (w.μ n) (.dK vs))∧RS (w.alloc (w.μ n) (.dK vs)) (M.set n (.dct xs)):=
 ⟨V3 h rfl,R.write hn rfl rfl h rfl ⟨vs,Yv,r.ext (V3 h rfl)⟩⟩
section
variable{X:Cx}{w0:Vw}
theorem Rg{f:Value→Value→Sem Value}{g:Int→Int→V}{o:D→D→Z2→DK→Prop}{C:Int→Int→Prop}{k:Int→Int→D}(h:OpR X f (rI C g))(hk:∀w i j,RD w (k i j) (g i j))
  {pins:List (Addr×Obj)} {s:Shared} {σ:L2.St} {x y:V} {v u:Value} {Q:VK} {w:Vw} {M:Z2} {QD:DK} {i j:Int} (I:Inv X pins σ w.H s) (rx:RelV x v) (ry:RelV y u) (R:RS w M) (hx:RD w (.int i) x) (hy:RD w (.int j) y)
  (hc:C i j) (q:QD (k i j) M) (a:Aft w QD Q):wpAny (model X.prog X.w) X.A (f v u) (EP X pins σ Q) X.xe s:=by
 cases Zd.mp hx
 cases Zd.mp hy
 exact h pins s σ w.H _ _ v u Q I rx ry ⟨i,j,rfl,rfl,hc,a _ w _ M (Ext.refl w) R (hk w i j) q⟩
noncomputable def opOf:Op→Operator
 | .add=> .Add | .sub=> .Sub | .mul=> .Mult | .fdiv=> .FloorDiv | .mod=> .Mod | .pow=> .Pow
theorem Yj4{f:Value→Value→Sem Value}{g:Int→Int→V}(h:OpR X f (rI0 g)):OpR X f (rI (fun _ _=>True) g):=fun pins s σ H x y v u Q I rx ry zz65=>by obtain⟨i,j,e1,e2,_,q⟩:=zz65;exact h pins s σ H x y v u Q I rx ry ⟨i,j,e1,e2,q⟩
theorem RDs.rep{w:Vw}{xs:List D}{vs:List V}(h:RDs w xs vs):∀n:Nat,RDs w (Db n xs).flatten (Db n vs).flatten
 | 0=>RDs.nil w
 | n+1=>by
  rw[Hx,Hx,Kh,Kh]
  exact h.append (RDs.rep h n)
theorem Y07(op:Op):OpR X (binaryOp (opOf op)) (rF w0 (opD op)):=by
 intro pins s σ H x y v u Q I rx ry h
 obtain⟨w,M,dx,dy,QD,rfl,e0,R,hx,hy,g,a⟩:=h
 have ri:∀w (i:Int),RD w (.int i) (.int i):=fun w i=>Zd.mpr rfl
 cases op with
 | add=>
  cases dx with
  | int i=>
   obtain⟨j,rfl,g2⟩:=Wz g;clear g;have g:=g2
   exact Rg (o:=opD .add) (C:=fun _ _=>True) (k:=fun i j=> .int (i+j)) (Yj4 Yn3) (fun w i j=>ri w _) I rx ry R hx hy trivial g a
  | str z=>
   cases dy with
   | str z2=>
    cases Zt.mp hx;cases Zt.mp hy
    exact Z76 pins s σ w.H _ _ v u Q I rx ry ⟨_,_,rfl,rfl,g.1,a _ w _ M (Ext.refl w) R (Zt.mpr rfl) g.2⟩
   | _=>exact Dp g
  | tup l=>
   obtain⟨l2,rfl,g2⟩:=Gu g;clear g;have g:=g2
   obtain⟨a1,vs1,rfl,h1,r1⟩:=Yn.mp hx
   obtain⟨a2,vs2,rfl,h2,r2⟩:=Yn.mp hy
   obtain⟨g1,g2,g3⟩:=g
   refine Yd0 pins s σ w.H _ _ v u Q I rx ry ⟨a1,a2,vs1,vs2,rfl,rfl,.of h1,.of h2,?_,by rw[r1.length,r2.length];exact g2,fun z=>?_,fun _ p hp=>?_⟩
   ·intro z;subst z;have:=r1.length;simp at this;exact g1 (Ih.mp this.symm)
   ·subst z
    cases r2.empty
    rw[Dq] at g3
    exact a _ w _ M (Ext.refl w) R hx g3
   ·obtain⟨x1,x2,x3⟩:=Qr R hp (r1.append r2)
    exact a _ _ _ M x1 x2 x3 g3
  | ref n=>
   obtain⟨n2,rfl,g2⟩:=Yz g;clear g;have g:=g2
   obtain⟨h1,rfl⟩:=Zp.mp hx
   obtain⟨h2,rfl⟩:=Zp.mp hy
   obtain⟨xs,ys,g1,g2,g3,g4⟩:=g
   obtain⟨_,vs1,q1,r1⟩:=R.list g1
   obtain⟨_,vs2,q2,r2⟩:=R.list g2
   refine Yk0 pins s σ w.H _ _ v u Q I rx ry ⟨_,_,vs1,vs2,rfl,rfl,q1,q2,by rw[r1.length,r2.length];exact g3,fun p hp=>?_⟩
   obtain⟨x1,x2,x3⟩:=Ys R hp (r1.append r2)
   exact a _ _ _ _ x1 x2 x3 g4
  | _=>exact Dp g
 | mul=>
  cases dx with
  | int i=>
   obtain⟨j,rfl,g2⟩:=Wz g;clear g;have g:=g2
   exact Rg (o:=opD .add) (C:=IntMulOk) (k:=fun i j=> .int (i * j)) Y97 (fun w i j=>ri w _) I rx ry R hx hy g.1 g.2 a
  | ref n=>
   obtain⟨k,rfl,g2⟩:=Wz g;clear g;have g:=g2
   obtain⟨h1,rfl⟩:=Zp.mp hx
   cases Zd.mp hy
   obtain⟨xs,g1,g2,g3,g4,g5⟩:=g
   obtain⟨_,vs1,q1,r1⟩:=R.list g1
   refine Ys5 pins s σ w.H _ _ v u Q I rx ry ⟨_,_,vs1,rfl,rfl,q1,by omega,by omega,by rw[r1.length];exact g4,fun p hp=>?_⟩
   obtain⟨x1,x2,x3⟩:=Ys R hp (r1.rep _)
   exact a _ _ _ _ x1 x2 x3 g5
  | _=>exact Dp g
 | sub=>
  obtain⟨i,j,rfl,rfl,g2⟩:=X0 g;clear g;have g:=g2
  exact Rg (o:=opD .add) (C:=fun _ _=>True) (k:=fun i j=> .int (i - j)) (Yj4 Yp5) (fun w i j=>ri w _) I rx ry R hx hy trivial g a
 | fdiv=>
  obtain⟨i,j,rfl,rfl,g2⟩:=X0 g;clear g;have g:=g2
  exact Rg (o:=opD .add) (C:=Zc7) (k:=fun i j=> .int (qdiv i j)) Y16 (fun w i j=>by rw[Yc0];exact ri w _) I rx ry R hx hy g.1 g.2 a
 | mod=>
  obtain⟨i,j,rfl,rfl,g2⟩:=X0 g;clear g;have g:=g2
  exact Rg (o:=opD .add) (C:=fun _ j=>j≠0) (k:=fun i j=> .int (qmod i j)) Yd1 (fun w i j=>by rw[Y98];exact ri w _) I rx ry R hx hy g.1 g.2 a
 | pow=>
  obtain⟨i,j,rfl,rfl,g2⟩:=X0 g;clear g;have g:=g2
  exact Rg (o:=opD .add) (C:=CPow) (k:=fun i j=> .int (i ^ j.toNat)) Yr5 (fun w i j=>ri w _) I rx ry R hx hy g.1 g.2 a
end
def rB(w0:Vw)(g:Z2→D→D→(Bool→Prop)→Prop):R2:=fun x y H Q=>∃w M dx dy QD,w.H=H∧w.K=w0.K∧RS w M∧RD w dx x∧RD w dy y∧g M dx dy QD∧∀b,QD b→Q (.bl b) H
mutual
theorem Zn9{w:Vw}{M:Z2}(R:RS w M):∀(da:PyData) {d:D} {v:V},PD M da d→RD w d v→Rep w.K w.H da v
 | .none,d,v,h,r=>by unfold PD at h;subst h;unfold Rep;exact Zs.mp r
 | .bool b,d,v,h,r=>by unfold PD at h;subst h;unfold Rep;exact Xj.mp r
 | .int b,d,v,h,r=>by unfold PD at h;subst h;unfold Rep;exact Zd.mp r
 | .str b,d,v,h,r=>by unfold PD at h;subst h;unfold Rep;exact Zt.mp r
 | .list xs,d,v,h,r=>by
  unfold PD at h
  obtain⟨n,ds,rfl,h1,h2⟩:=h
  obtain⟨_,rfl⟩:=Zp.mp r
  obtain⟨_,vs,q1,q2,_⟩:=R.listL h1
  unfold Rep
  exact⟨_,vs,rfl,q1,O4 R xs h2 q2⟩
 | .tuple xs,d,v,h,r=>by
  unfold PD at h
  obtain⟨ds,rfl,h2⟩:=h
  obtain⟨a,vs,rfl,q1,q2⟩:=Yn.mp r
  unfold Rep
  exact⟨_,vs,rfl,.of q1,O4 R xs h2 q2⟩
 | .dict _,d,v,h,r=>by unfold PD at h;exact h.elim
theorem O4{w:Vw}{M:Z2}(R:RS w M):∀(xs:List PyData) {ds:List D} {vs:List V},PDs M xs ds→RDs w ds vs→W8 w.K w.H xs vs
 | [],ds,vs,h,r=>by unfold PDs at h;subst h;unfold RDs at r;unfold W8;exact r
 | x::xs,ds,vs,h,r=>by
  unfold PDs at h
  obtain⟨d,r',rfl,h1,h2⟩:=h
  unfold RDs at r
  obtain⟨v,r2,rfl,q1,q2⟩:=r
  unfold W8
  exact⟨v,r2,rfl,Zn9 R x h1 q1,O4 R xs h2 q2⟩
end
theorem Qk{w:Vw}{d:D}{v:V}(f:Y6 d=true)(r:RD w d v):Wx v=true:=by
 cases d<;>simp[Y6] at f
 ·cases Zs.mp r;rfl
 ·cases Xj.mp r;rfl
 ·cases Zd.mp r;rfl
 ·cases Zt.mp r;rfl
theorem Bq{w:Vw}{d e:D}{v u:V}(f:Y6 d=true)(g:Y6 e=true)(r:RD w d v)(q:RD w e u):eqV v u=eqF d e:=by
 cases d<;>simp[Y6] at f
 all_goals (cases e<;>simp[Y6] at g)
 all_goals first
  |(first | cases Zs.mp r | cases Xj.mp r | cases Zd.mp r | cases Zt.mp r)
 all_goals first
  |(first | cases Zs.mp q | cases Xj.mp q | cases Zd.mp q | cases Zt.mp q)
 all_goals rfl
theorem Zr7{w:Vw}{x:D}{v:V}(f:Y6 x=true)(r:RD w x v):∀{ds:List D} {vs:List V},ds.all Y6=true→RDs w ds vs→inV v vs=inD x ds∧vs.all Wx=true
 | [],vs,_,h=>by unfold RDs at h;subst h;exact⟨rfl,rfl⟩
 | d::ds,vs,g,h=>by
  unfold RDs at h
  obtain⟨v1,r1,rfl,h1,h2⟩:=h
  simp only[Lq,Bz9] at g
  obtain⟨i1,i2⟩:=Zr7 f r g.2 h2
  refine⟨?_,by simp only[Lq,Bz9];exact⟨Qk g.1 h1,i2⟩⟩
  unfold inV inD at *
  rw[Kk,Kk,Bq g.1 f h1 r,i1]
theorem RKV.val{κ:Type}[DecidableEq κ]{w:Vw}:∀{ds:List (κ×D)} {vs:List (κ×V)} (k:κ),RKV w ds vs→(valD ds k=none∧valV vs k=none)∨∃d v,valD ds k=some d∧valV vs k=some v∧RD w d v
 | [],vs,k,h=>by unfold RKV at h;subst h;exact .inl ⟨rfl,rfl⟩
 |(k',d)::ds,vs,k,h=>by
  unfold RKV at h
  obtain⟨v,r,rfl,h1,h2⟩:=h
  by_cases e:k'=k
  ·exact .inr ⟨d,v,by simp[valD,Hs,e],by simp[valV,Hs,e],h1⟩
  ·have:=RKV.val k h2
   simpa[valD,valV,Hs,e] using this
theorem RKV.length{κ:Type}{w:Vw}:∀{ds:List (κ×D)} {vs:List (κ×V)},RKV w ds vs→vs.length=ds.length
 | [],vs,h=>by unfold RKV at h;subst h;rfl
 |(k',d)::ds,vs,h=>by
  unfold RKV at h
  obtain⟨v,r,rfl,h1,h2⟩:=h
  simp[RKV.length h2]
theorem RKV.any{κ:Type}[DecidableEq κ]{w:Vw}(k:κ):∀{ds:List (κ×D)} {vs:List (κ×V)},RKV w ds vs→(vs.any fun kv=>decide (kv.1=k))=(ds.any fun kv=>decide (kv.1=k))
 | [],vs,h=>by unfold RKV at h;subst h;rfl
 |(k',d)::ds,vs,h=>by
  unfold RKV at h
  obtain⟨v,r,rfl,h1,h2⟩:=h
  simp[RKV.any k h2]
theorem RKV.repl{κ:Type}[DecidableEq κ]{w:Vw}{k:κ}{d:D}{v:V}(q:RD w d v):∀{ds:List (κ×D)} {vs:List (κ×V)},RKV w ds vs→RKV w (ds.map fun kv=>if kv.1=k then(kv.1,d) else kv) (vs.map fun kv=>if kv.1=k then(kv.1,v) else kv)
 | [],vs,h=>by unfold RKV at h;subst h;unfold RKV;rfl
 |(k',d')::ds,vs,h=>by
  unfold RKV at h
  obtain⟨v',r,rfl,h1,h2⟩:=h
  simp only[As]
  by_cases e:k'=k
  ·rw[if_pos e,if_pos e]
   unfold RKV
   exact⟨v,_,rfl,q,RKV.repl q h2⟩
  ·rw[if_neg e,if_neg e]
   unfold RKV
   exact⟨v',_,rfl,h1,RKV.repl q h2⟩
theorem RKV.snoc{κ:Type}{w:Vw}{k:κ}{d:D}{v:V}(q:RD w d v):∀{ds:List (κ×D)} {vs:List (κ×V)},RKV w ds vs→RKV w (ds++[(k,d)]) (vs++[(k,v)])
 | [],vs,h=>by unfold RKV at h;subst h;unfold RKV;exact⟨v,[],rfl,q,by unfold RKV;rfl⟩
 |(k',d')::ds,vs,h=>by
  unfold RKV at h
  obtain⟨v',r,rfl,h1,h2⟩:=h
  show RKV w ((k',d')::(ds++[(k,d)])) _
  unfold RKV
  exact⟨v',_,rfl,h1,RKV.snoc q h2⟩
theorem RKV.put{κ:Type}[DecidableEq κ]{w:Vw}{k:κ}{d:D}{v:V}(q:RD w d v){ds:List (κ×D)}{vs:List (κ×V)}(h:RKV w ds vs):RKV w (putD ds k d) (putK vs k v):=by
 unfold putD putK
 rw[h.any k]
 split
 ·exact h.repl q
 ·exact h.snoc q
theorem Et{w:Vw}:∀{ks:List Key} {vs:List V},RDs w (ks.map kD) vs→vs=ks.map kV
 | [],vs,h=>by unfold RDs at h;exact h
 | k::ks,vs,h=>by
  rw[As] at h
  unfold RDs at h
  obtain⟨v,r,rfl,h1,h2⟩:=h
  rw[Et h2]
  cases k with
  | inl i=>rw[Zd.mp h1];rfl
  | inr x=>rw[Zt.mp h1];rfl
theorem Zk9{w:Vw}{ks:List Key}{v:V}(r:RD w (.tup (ks.map kD)) v):∃b,v= .ref b∧w.H b=some (.tup (ks.map kV)):=by
 obtain⟨b,vs,rfl,h1,h2⟩:=Yn.mp r
 exact⟨b,rfl,by rw[←Et h2];exact h1⟩
theorem Qw{w:Vw}{d:D}{k:Key}{v:V}(h:keyD d=some k)(r:RD w d v):v=kV k:=by
 cases d<;>simp[keyD] at h
 ·subst h;exact Zd.mp r
 ·subst h;exact Zt.mp r
section
variable{X:Cx}{w0:Vw}
noncomputable def cmOf:Cm→CmpOp
 | .lt=> .Lt | .ge=> .GtE | .eq=> .Eq | .ne=> .NotEq | .is=> .Is | .isnot=> .IsNot | .isin=> .In | .notin=> .NotIn
theorem Yk9(hu:X.A.units+64<cLine):OpR X (compareOp .NotEq) (rEqD X.K true):=by
 intro pins s σ H x y v u Q I rx ry h
 obtain⟨da,db,h1,h2,h3,h4,h5,q⟩:=h
 obtain⟨as,q1⟩:=Rep.reads I da x v h1 rx
 obtain⟨bs,q2⟩:=Rep.reads I db y u h2 ry
 exact PySem.SeqAt.compareNe_reads q1 q2 h3 h4 (by omega) ⟨.bl _,H,I,rfl,q⟩
theorem Z44(hK:X.K=w0.K)(hu:X.A.units+64<cLine)(neg:Bool):OpR X (compareOp (if neg then .NotEq else .Eq)) (rB w0 fun M x y Q=>eqD M x y fun b=>Q (if neg then !b else b)):=by
 intro pins s σ H x y v u Q I rx ry h
 obtain⟨w,M,dx,dy,QD,rfl,e0,R,hx,hy,g,a⟩:=h
 have key:∀b:Bool,(scal x y=true∧decide (x=y)=b)→QD (if neg then !b else b)→wpAny (model X.prog X.w) X.A (compareOp (if neg then .NotEq else .Eq) v u) (EP X pins σ Q) X.xe s:=by
  rintro b ⟨h1,h2⟩ hq
  cases neg with
  | true=>exact Yv0 pins s σ w.H x y v u Q I rx ry ⟨h1,by rw[h2];exact a _ hq⟩
  | false=>exact Yt8 pins s σ w.H x y v u Q I rx ry ⟨h1,by rw[h2];exact a _ hq⟩
 have hs:∀b,eqS dx dy=some b→scal x y=true∧decide (x=y)=b:=by
  intro b h
  cases dx with
  | int i=>
   cases Zd.mp hx
   cases dy with
   | int j=>cases Zd.mp hy;cases h;exact⟨rfl,by simp⟩
   | str j=>cases Zt.mp hy;cases h;exact⟨rfl,by simp⟩
   | non=>cases Zs.mp hy;cases h;exact⟨rfl,by simp⟩
   | _=>cases h
  | str i=>
   cases Zt.mp hx
   cases dy with
   | str j=>cases Zt.mp hy;cases h;exact⟨rfl,by simp⟩
   | int j=>cases Zd.mp hy;cases h;exact⟨rfl,by simp⟩
   | non=>cases Zs.mp hy;cases h;exact⟨rfl,by simp⟩
   | bl j=>cases Xj.mp hy;cases h;exact⟨rfl,by simp⟩
   | _=>cases h
  | bl i=>
   cases Xj.mp hx
   cases dy with
   | bl j=>cases Xj.mp hy;cases h;exact⟨rfl,by simp⟩
   | non=>cases Zs.mp hy;cases h;exact⟨rfl,by simp⟩
   | str j=>cases Zt.mp hy;cases h;exact⟨rfl,by simp⟩
   | _=>cases h
  | non=>
   cases Zs.mp hx
   cases dy with
   | non=>cases Zs.mp hy;cases h;exact⟨rfl,by simp⟩
   | int j=>cases Zd.mp hy;cases h;exact⟨rfl,by simp⟩
   | bl j=>cases Xj.mp hy;cases h;exact⟨rfl,by simp⟩
   | str j=>cases Zt.mp hy;cases h;exact⟨rfl,by simp⟩
   | _=>cases h
  | _=>cases h
 unfold eqD at g
 cases hb:eqS dx dy with
 | some b=>
  rw[hb] at g
  exact key b (hs b hb) g
 | none=>
  rw[hb] at g
  rcases g with⟨da,db,p1,p2,p3,p4,p5,g⟩ | g
  ·have q1:=Zn9 R da p1 hx
   have q2:=Zn9 R db p2 hy
   rw[e0,←hK] at q1 q2
   cases neg with
   | true=>exact Yk9 hu pins s σ w.H x y v u Q I rx ry ⟨da,db,q1,q2,p3,p4,p5,a _ g⟩
   | false=>exact Yr3 hu pins s σ w.H x y v u Q I rx ry ⟨da,db,q1,q2,p3,p4,p5,a _ g⟩
  ·exact g.elim
theorem Jy{w:Vw}:∀{ts:List (List Key)} {us:List V},RDs w (ts.map fun t=> .tup (t.map kD)) us→Zi0 w.H us ts
 | [],us,h=>by unfold RDs at h;subst h;exact⟨rfl,fun i u t e=>by simp at e⟩
 | t::ts,us,h=>by
  rw[As] at h
  unfold RDs at h
  obtain⟨v,r,rfl,h1,h2⟩:=h
  obtain⟨a1,a2⟩:=Jy h2
  refine⟨by rw[Au,Au,a1],fun i u t' e1 e2=>?_⟩
  cases i with
  | zero=>
   cases e1
   cases e2
   obtain⟨b,rfl,hb⟩:=Zk9 h1
   exact⟨b,rfl,hb⟩
  | succ i=>exact a2 i u t' (by simpa using e1) (by simpa using e2)
theorem Cq(t:List Key):(t.map kV).all Wx=true:=by
 rw[Hk]
 intro x hx
 obtain⟨k,_,rfl⟩:=Dc.mp hx
 cases k<;>rfl
theorem in_T{pins:List (Addr×Obj)}{s:Shared}{σ:L2.St}{H:Hp}{Q:VK}(I:Inv X pins σ H s)(hu:X.A.units+64<cLine)(neg:Bool){p b:Addr}{xs:List V}{ts:List (List Key)}{t:List Key}(hx:SqL X.K H p xs)(ht:Zi0 H xs ts)(hb:H b=some (.tup (t.map kV)))(hm:t∈ts)(q:Q (.bl (!neg)) H):
  wpAny (model X.prog X.w) X.A (compareOp (if neg then .NotIn else .In) (.ref b) (.ref p)) (EP X pins σ Q) X.xe s:=by
 obtain⟨its,r,pl,hz⟩:=I.list hx
 have at':∀(j:Nat) (h:j<its.length) (h2:j<ts.length),∃a,its[j]= .ref a∧H a=some (.tup (ts[j].map kV)):=by
  intro j h h2
  have hj:j<xs.length:=by rw[ht.1];exact h2
  obtain⟨a,e1,e2⟩:=ht.2 j xs[j] ts[j] (Aa hj) (Aa h2)
  obtain⟨w,w1,w2⟩:=r.get (Aa hj)
  rw[e1] at w2
  cases w2
  exact⟨a,(Ac.mp w1).2,e2⟩
 have hl:its.length=ts.length:=by have:=r.length;have:=ht.1;omega
 have ev:∀(a:Addr) (us:List V),H a=some (.tup us)→eqUT H (t.map kV) (.ref a)=eqVs us (t.map kV):=by
  intro a us e
  show(match H a with | some (.tup vs)=>eqVs vs (t.map kV) | _=>false)=_
  rw[e]
 have he:∀w∈its.toArray,Dw X.A.in1 s w (.ref b) (eqUT H (t.map kV) w):=by
  intro w hw
  obtain⟨j,hj,rfl⟩:=List.mem_iff_getElem.mp (show w∈its by simpa using hw)
  obtain⟨a,e1,e2⟩:=at' j hj (by omega)
  rw[e1,ev a _ e2]
  exact Ym9 I (by show X.A.units+1+2<cLine;omega) e2 hb (Cq _) (Cq _)
 have any:its.toArray.any (eqUT H (t.map kV))=true:=by
  obtain⟨j,hj,e⟩:=List.mem_iff_getElem.mp hm
  obtain⟨a,e1,e2⟩:=at' j (by omega) hj
  rw[show its.toArray.any (eqUT H (t.map kV))=its.any (eqUT H (t.map kV)) by simp,Lf]
  refine⟨its[j],Hv _,?_⟩
  rw[e1,ev a _ e2,e]
  exact E8 (Cq _)
 cases neg with
 | true=>exact SeqAt.notIn_listAt (eqUT H (t.map kV)) pl.isList he ⟨.bl _,H,I,rfl,by rw[any];exact q⟩
 | false=>exact SeqAt.in_listAt (eqUT H (t.map kV)) pl.isList he ⟨.bl _,H,I,rfl,by rw[any];exact q⟩
theorem Z07(hK:X.K=w0.K)(hu:X.A.units+64<cLine)(neg:Bool):OpR X (compareOp (if neg then .NotIn else .In)) (rB w0 fun M x y Q=>inQ M x y fun b=>Q (if neg then !b else b)):=by
 intro pins s σ H x y v u Q I rx ry h
 obtain⟨w,M,dx,dy,QD,rfl,e0,R,hx,hy,g,a⟩:=h
 have seq:∀{p:Addr} {vs:List V} {xs:List D},y= .ref p→(SqL X.K w.H p vs∨SqT X.K w.H p vs)→RDs w xs vs→Y6 dx=true→xs.all Y6=true→QD (if neg then !inD dx xs else inD dx xs)→
   wpAny (model X.prog X.w) X.A (compareOp (if neg then .NotIn else .In) v u) (EP X pins σ Q) X.xe s:=by
  intro p vs xs ey q1 q2 g2 g3 g4
  obtain⟨i1,i2⟩:=Zr7 g2 hx g3 q2
  cases neg with
  | true=>exact C7 pins s σ w.H _ _ v u Q I rx ry ⟨p,vs,ey,q1,Qk g2 hx,i2,by rw[i1];exact a _ g4⟩
  | false=>exact Zk5 pins s σ w.H _ _ v u Q I rx ry ⟨p,vs,ey,q1,Qk g2 hx,i2,by rw[i1];exact a _ g4⟩
 unfold inQ at g
 split at g
 ·cases Zt.mp hx;cases Zt.mp hy
  cases neg with
  | true=>exact Gy pins s σ w.H _ _ v u Q I rx ry ⟨_,_,rfl,rfl,a _ g⟩
  | false=>exact Zi9 pins s σ w.H _ _ v u Q I rx ry ⟨_,_,rfl,rfl,a _ g⟩
 ·obtain⟨_,rfl⟩:=Zp.mp hy
  rcases g with⟨xs,g1,g2,g3,g4⟩ | ⟨kvs,k,g1,g2,g3⟩ | gF | ⟨ts,t,g1,rfl,g2,g3⟩
  ·obtain⟨_,vs,q1,q2,_⟩:=R.listL g1
   rw[e0,←hK] at q1
   exact seq rfl (.inl q1) q2 g2 g3 g4
  ·obtain⟨_,vs,q1,q2⟩:=R.dict g1
   cases Qw g2 hx
   cases (show u=Ax _ from ry)
   have hv:valV vs k=none∧valD kvs k=none∨∃d v',valD kvs k=some d∧valV vs k=some v':=by
    rcases q2.val k with⟨n1,n2⟩ | ⟨d,v',n1,n2,_⟩
    ·exact .inl ⟨n2,n1⟩
    ·exact .inr ⟨d,v',n1,n2⟩
   have hb:(valV vs k).isSome=(valD kvs k).isSome:=by
    rcases hv with⟨n1,n2⟩ | ⟨d,v',n1,n2⟩
    ·rw[n1,n2];rfl
    ·rw[n1,n2];rfl
   have hu1:X.A.units+1<cLine:=by omega
   cases neg with
   | true=>exact Y74 hu1 I (DGet.k (k:=k) q1) rx fun s' I'=>⟨.bl (!(valV vs k).isSome),w.H,I',rfl,by rw[hb];exact a _ g3⟩
   | false=>exact d_in hu1 I (DGet.k (k:=k) q1) rx fun s' I'=>⟨.bl (valV vs k).isSome,w.H,I',rfl,by rw[hb];exact a _ g3⟩
  ·exact gF.elim
  ·obtain⟨_,vs,q1,q2,_⟩:=R.listL g1
   rw[e0,←hK] at q1
   obtain⟨b,rfl,hb⟩:=Zk9 hx
   cases (show v=Ax b from rx)
   cases (show u=Ax _ from ry)
   refine in_T I hu neg q1 (Jy q2) hb g2 ?_
   have:=a _ g3
   cases neg<;>exact this
 ·obtain⟨p,vs,e,q1,q2⟩:=Yn.mp hy
  exact seq e (.inr (.of q1)) q2 g.1 g.2.1 g.2.2
 ·obtain⟨p,vs,e,q1,q2⟩:=Ja.mp hy
  rw[e0,←hK] at q1
  exact seq e (.inr q1) q2 g.1 g.2.1 g.2.2
 ·exact g.elim
theorem Z34(hK:X.K=w0.K)(hu:X.A.units+64<cLine)(op:Cm):OpR X (compareOp (cmOf op)) (rB w0 fun M=>cmD M op):=by
 intro pins s σ H x y v u Q I rx ry h
 obtain⟨w,M,dx,dy,QD,rfl,e0,R,hx,hy,g,a⟩:=h
 cases op with
 | lt=>
  obtain⟨i,j,rfl,rfl,g2⟩:=X0 g;clear g;have g:=g2
  cases Zd.mp hx;cases Zd.mp hy
  exact Yu0 pins s σ w.H _ _ v u Q I rx ry ⟨_,_,rfl,rfl,a _ g⟩
 | ge=>
  obtain⟨i,j,rfl,rfl,g2⟩:=X0 g;clear g;have g:=g2
  cases Zd.mp hx;cases Zd.mp hy
  exact Yw1 pins s σ w.H _ _ v u Q I rx ry ⟨_,_,rfl,rfl,a _ g⟩
 | eq=>
  exact Z44 hK hu false pins s σ w.H x y v u Q I rx ry ⟨w,M,_,_,QD,rfl,e0,R,hx,hy,g,a⟩
 | ne=>
  exact Z44 hK hu true pins s σ w.H x y v u Q I rx ry ⟨w,M,_,_,QD,rfl,e0,R,hx,hy,g,a⟩
 | is=>
  cases dy with
  | non=>
   cases dx with
   | non=>
    cases Zs.mp hx;cases Zs.mp hy
    exact Pz pins s σ w.H _ _ v u Q I rx ry ⟨rfl,a _ g⟩
   | bl b=>
    cases Xj.mp hx;cases Zs.mp hy
    exact Pz pins s σ w.H _ _ v u Q I rx ry ⟨rfl,a _ g⟩
   | int i=>
    cases Zd.mp hx;cases Zs.mp hy
    exact Pz pins s σ w.H _ _ v u Q I rx ry ⟨rfl,a _ g⟩
   | str z=>
    cases Zt.mp hx;cases Zs.mp hy
    exact Pz pins s σ w.H _ _ v u Q I rx ry ⟨rfl,a _ g⟩
   | tup l=>
    obtain⟨_,_,rfl,_⟩:=Yn.mp hx;cases Zs.mp hy
    exact Pz pins s σ w.H _ _ v u Q I rx ry ⟨rfl,a _ g⟩
   | ref n=>
    obtain⟨_,rfl⟩:=Zp.mp hx;cases Zs.mp hy
    exact Pz pins s σ w.H _ _ v u Q I rx ry ⟨rfl,a _ g⟩
   | exn e C d q=>
    obtain⟨rfl,_⟩:=Fu.mp hx;cases Zs.mp hy
    exact Pz pins s σ w.H _ _ v u Q I rx ry ⟨rfl,a _ g⟩
   | _=>exact Dp g
  | _=>exact Dp g
 | isnot=>
  cases dy with
  | non=>
   cases dx with
   | non=>
    cases Zs.mp hx;cases Zs.mp hy
    exact Tk pins s σ w.H _ _ v u Q I rx ry ⟨rfl,a _ g⟩
   | bl b=>
    cases Xj.mp hx;cases Zs.mp hy
    exact Tk pins s σ w.H _ _ v u Q I rx ry ⟨rfl,a _ g⟩
   | int i=>
    cases Zd.mp hx;cases Zs.mp hy
    exact Tk pins s σ w.H _ _ v u Q I rx ry ⟨rfl,a _ g⟩
   | str z=>
    cases Zt.mp hx;cases Zs.mp hy
    exact Tk pins s σ w.H _ _ v u Q I rx ry ⟨rfl,a _ g⟩
   | tup l=>
    obtain⟨_,_,rfl,_⟩:=Yn.mp hx;cases Zs.mp hy
    exact Tk pins s σ w.H _ _ v u Q I rx ry ⟨rfl,a _ g⟩
   | ref n=>
    obtain⟨_,rfl⟩:=Zp.mp hx;cases Zs.mp hy
    exact Tk pins s σ w.H _ _ v u Q I rx ry ⟨rfl,a _ g⟩
   | exn e C d q=>
    obtain⟨rfl,_⟩:=Fu.mp hx;cases Zs.mp hy
    exact Tk pins s σ w.H _ _ v u Q I rx ry ⟨rfl,a _ g⟩
   | _=>exact Dp g
  | _=>exact Dp g
 | isin=>
  exact Z07 hK hu false pins s σ w.H x y v u Q I rx ry ⟨w,M,_,_,QD,rfl,e0,R,hx,hy,g,a⟩
 | notin=>
  exact Z07 hK hu true pins s σ w.H x y v u Q I rx ry ⟨w,M,_,_,QD,rfl,e0,R,hx,hy,g,a⟩
end
theorem RKV.isEmpty{w:Vw}{ds:List (Key×D)}{vs:List (Key×V)}(h:RKV w ds vs):vs.isEmpty=ds.isEmpty:=by
 cases ds with
 | nil=>unfold RKV at h;subst h;rfl
 | cons p ds=>obtain⟨k,d⟩:=p;unfold RKV at h;obtain⟨v,r,rfl,_⟩:=h;rfl
theorem RDs.isEmpty{w:Vw}{ds:List D}{vs:List V}(h:RDs w ds vs):vs.isEmpty=ds.isEmpty:=by
 cases ds with
 | nil=>unfold RDs at h;subst h;rfl
 | cons d ds=>unfold RDs at h;obtain⟨v,r,rfl,_⟩:=h;rfl
theorem To{K:Af}{w:Vw}{M:Z2}{d:D}{x:V}{QD:Bool→Prop}(hK:w.K=K)(R:RS w M)(r:RD w d x)(g:truD M d QD):∃k,TruV K x w.H k∧QD k:=by
 unfold truD at g
 split at g
 ·cases Zs.mp r;exact⟨_,rfl,g⟩
 ·cases Xj.mp r;exact⟨_,rfl,g⟩
 ·cases Zd.mp r;exact⟨_,rfl,g⟩
 ·cases Zt.mp r;exact⟨_,⟨g.1,rfl⟩,g.2⟩
 ·obtain⟨a,vs,rfl,q1,q2⟩:=Yn.mp r
  exact⟨_,.inr (.inl ⟨vs,.of q1,rfl⟩),by rw[q2.isEmpty];exact g⟩
 ·obtain⟨_,rfl⟩:=Zp.mp r
  rcases g with⟨xs,g1,g2⟩ | ⟨xs,g1,g2⟩
  ·obtain⟨_,vs,q1,q2,_⟩:=R.listL g1
   rw[hK] at q1
   exact⟨_,.inl ⟨vs,q1,rfl⟩,by rw[q2.isEmpty];exact g2⟩
  ·obtain⟨_,vs,q1,q2⟩:=R.dict g1
   exact⟨_,.inr (.inr ⟨vs,q1,rfl⟩),by rw[q2.isEmpty];exact g2⟩
 ·exact g.elim
theorem Bm{w:Vw}{xs:List D}{vs:List V}{i:Int}{d:D}(r:RDs w xs vs)(h:atI xs i=some d):∃v,atI vs i=some v∧RD w d v:=by
 unfold atI at *
 rw[r.length]
 obtain⟨j,h1,h2⟩:=Option.bind_eq_some_iff.mp h
 obtain⟨v,q1,q2⟩:=r.get h2
 exact⟨v,by rw[h1];exact q1,q2⟩
theorem Cv{w:Vw}{xs:List D}{vs:List V}{lo hi:Option Int}(r:RDs w xs vs):RDs w (cutD xs lo hi) (cutV vs lo hi):=by
 unfold cutD cutV
 rw[r.length]
 exact(r.drop _).take _
section
variable{X:Cx}{w0:Vw}
theorem Ya3(hu:X.A.units+1<cLine):IxR X (fun x y H Q=>∃a v,x= .ref a∧DGet H a y (some v)∧Q v H):=by
 intro value slice pins s σ H x y v u Q I rx ry h hs
 obtain⟨a,vv,rfl,g,q⟩:=h
 cases rx
 have hT:=Bt I g
 have h₂:wpAny (model X.prog X.w) X.A (getItem (.ref a) u) (EP X pins σ Q) X.xe s:=Zl4 hu I g ry fun w' s3 I3 rw'=>⟨vv,H,I3,rw',q⟩
 unfold subscriptTail
 refine Ab ?_
 rw[getitemInPython_of_ne hT.not_modules]
 refine Ab (wpAny_specialOf hT PySem.F.slot_dict_getitem.lookup ?_)
 have fin:wpAny (model X.prog X.w) X.A (subscripted slice false (.ref a) u) (fun r s₃=>wpAny (model X.prog X.w) X.A (letTemporaryGo value (.ref a) r >>=fun _=>pure r) (EP X pins σ Q) X.xe s₃) X.xe s:=by
  rw[hs]
  exact wpAny_operating (Hm h₂ (fun r s₃ h₃=>Ab (wpAny_letTemporaryGo (Ae h₃))) fun _ _ x=>x)
 first
  | exact Ae (Ab fin)
  | exact Ab (Ae (Ab fin))
  | exact Ab fin
def rX(w0:Vw):R2:=fun x y H Q=>∃w M dx dy QD,w.H=H∧w.K=w0.K∧RS w M∧RD w dx x∧RD w dy y∧ixD M dx dy QD∧∀d v,QD d→RD w d v→Q v H
theorem Zs7(hK:X.K=w0.K)(hu:X.A.units+64<cLine):IxR X (rX w0):=by
 intro value slice pins s σ H x y v u Q I rx ry h hs
 obtain⟨w,M,dx,dy,QD,rfl,e0,R,hx,hy,g,a⟩:=h
 unfold ixD at g
 split at g
 ·obtain⟨_,rfl⟩:=Zp.mp hx
  rcases g with⟨xs,i,d,rfl,g1,g2,g3⟩ | ⟨kvs,k,d,g1,g2,g3,g4⟩ | gF
  ·cases Zd.mp hy
   obtain⟨_,vs,q1,q2,_⟩:=R.listL g1
   rw[e0,←hK] at q1
   obtain⟨vv,z1,z2⟩:=Bm q2 g2
   exact Yb2 value slice pins s σ w.H _ _ v u Q I rx ry ⟨_,vs,i,vv,rfl,rfl,q1,z1,a _ _ g3 z2⟩ hs
  ·obtain⟨vs,q1,q2⟩:=R.dictF g1
   cases Qw g2 hy
   rcases q2.val k with⟨n1,n2⟩ | ⟨d',v',n1,n2,n3⟩
   ·rw[n1] at g3;cases g3
   ·rw[n1] at g3;cases g3
    refine Ya3 (by omega) value slice pins s σ w.H _ _ v u Q I rx ry ⟨_,v',rfl,?_,a _ _ g4 n3⟩ hs
    have:DGet w.H (w.μ _) (kV k) (valV vs k):= .inl ⟨vs,k,q1,rfl,rfl⟩
    rw[n2] at this
    exact this
  ·exact gF.elim
 ·cases Zd.mp hy
  obtain⟨p,vs,rfl,q1,q2⟩:=Yn.mp hx
  obtain⟨d,g1,g2⟩:=g
  obtain⟨vv,z1,z2⟩:=Bm q2 g1
  exact Y45 value slice pins s σ w.H _ _ v u Q I rx ry ⟨_,vs,_,vv,rfl,rfl,.of q1,z1,a _ _ g2 z2⟩ hs
 ·cases Zd.mp hy
  obtain⟨p,vs,rfl,q1,q2⟩:=Ja.mp hx
  rw[e0,←hK] at q1
  obtain⟨d,g1,g2⟩:=g
  obtain⟨vv,z1,z2⟩:=Bm q2 g1
  exact Y45 value slice pins s σ w.H _ _ v u Q I rx ry ⟨_,vs,_,vv,rfl,rfl,q1,z1,a _ _ g2 z2⟩ hs
 ·cases Zd.mp hy;cases Zt.mp hx
  obtain⟨g0,c,g1,g2⟩:=g
  exact Yn4 value slice pins s σ w.H _ _ v u Q I rx ry ⟨_,_,c,rfl,rfl,g0,g1,a _ _ g2 (Zt.mpr rfl)⟩ hs
 ·exact g.elim
theorem Yl6:SlR X (fun x lo hi H Q=>∃z,x= .str z∧z.length≤sizeLine∧Q (.str (Txt.slice z lo hi)) H):=by
 intro pins s σ H x v vl vu lo hi sl Q I rx hs pl pu h
 obtain⟨z,rfl,hz,q⟩:=h
 obtain⟨t,rfl⟩:=rx
 have key:∀l u:Option (Int×Tok),l.map (·.1)=lo→u.map (·.1)=hi→vl=partValue l→vu=partValue u→wpAny (model X.prog X.w) X.A (getItem (.str z t) (.ref sl)) (EP X pins σ Q) X.xe s:=by
  intro l u e1 e2 e3 e4
  subst e1 e2 e3 e4
  refine wpAny_getItem_str_slice (l:=l) (u:=u) (st:=none) hs rfl ?_
  exact post_val_or_str ⟨Nat.le_trans (Txt.slice_le z _ _) hz,fun t' k=>⟨.str (Txt.slice z _ _),H,I.tok _,⟨_,rfl⟩,q⟩⟩
 refine⟨"str",_,PySem.F.slot_str_getitem.lookup,typeIs_str _ _ _,?_⟩
 cases pl with
 | none=>
  cases pu with
  | none=>exact key none none rfl rfl rfl rfl
  | int j tj=>exact key none (some (j,tj)) rfl rfl rfl rfl
 | int i ti=>
  cases pu with
  | none=>exact key (some (i,ti)) none rfl rfl rfl rfl
  | int j tj=>exact key (some (i,ti)) (some (j,tj)) rfl rfl rfl rfl
def rSl(w0:Vw):V→Option Int→Option Int→Hp→VK→Prop:=fun x lo hi H Q=>∃w M dx QD,w.H=H∧w.K=w0.K∧RS w M∧RD w dx x∧slD dx lo hi M QD∧Aft w QD Q
theorem Y32(hK:X.K=w0.K):SlR X (rSl w0):=by
 intro pins s σ H x v vl vu lo hi sl Q I rx hs pl pu h
 obtain⟨w,M,dx,QD,rfl,e0,R,hx,g,a⟩:=h
 unfold slD at g
 split at g
 ·cases Zt.mp hx
  exact Yl6 pins s σ w.H _ v vl vu _ _ sl Q I rx hs pl pu ⟨_,rfl,g.1,a _ w _ M (Ext.refl w) R (Zt.mpr rfl) g.2⟩
 ·obtain⟨_,rfl⟩:=Zp.mp hx
  obtain⟨xs,g1,g2⟩:=g
  obtain⟨_,vs,q1,q2,_⟩:=R.listL g1
  rw[e0,←hK] at q1
  refine Y82 pins s σ w.H _ v vl vu _ _ sl Q I rx hs pl pu ⟨_,vs,rfl,q1,fun p hp=>?_⟩
  obtain⟨x1,x2,x3⟩:=Ys R hp (Cv (lo:=lo) (hi:=hi) q2)
  exact a _ _ _ _ x1 x2 x3 g2
 ·obtain⟨p,vs,rfl,q1,q2⟩:=Yn.mp hx
  refine Y50 pins s σ w.H _ v vl vu _ _ sl Q I rx hs pl pu ⟨_,vs,rfl,.of q1,by rw[q2.length];exact g.1,fun p hp=>?_⟩
  obtain⟨x1,x2,x3⟩:=Qr R hp (Cv (lo:=lo) (hi:=hi) q2)
  exact a _ _ _ _ x1 x2 x3 g.2
 ·exact g.elim
def rC(w0:Vw)(g:List D→Z2→DK→Prop):List V→Hp→VK→Prop:=fun xs H Q=>∃w M ds QD,w.H=H∧w.K=w0.K∧RS w M∧RDs w ds xs∧g ds M QD∧Aft w QD Q
noncomputable def bfOf:Bf→Str×Value
 | .len=>("len",.builtin "len") | .isinst=>("isinstance",.builtin "isinstance") | .min2=>("min",.builtin "min") | .max2=>("max",.builtin "max")
 | .list1=>("list",.type "list") | .dict1=>("dict",.type "dict") | .int1=>("int",.type "int")
theorem rds1{w:Vw}{d:D}{xs:List V}(h:RDs w [d] xs):∃v,xs=[v]∧RD w d v:=by
 unfold RDs at h
 obtain⟨v,r,rfl,h1,h2⟩:=h
 unfold RDs at h2
 subst h2
 exact⟨v,rfl,h1⟩
theorem rds2{w:Vw}{d e:D}{xs:List V}(h:RDs w [d,e] xs):∃v u,xs=[v,u]∧RD w d v∧RD w e u:=by
 unfold RDs at h
 obtain⟨v,r,rfl,h1,h2⟩:=h
 obtain⟨u,rfl,h3⟩:=rds1 h2
 exact⟨v,u,rfl,h1,h3⟩
theorem rds0{w:Vw}{xs:List V}(h:RDs w [] xs):xs=[]:=by unfold RDs at h;exact h
theorem Zq9{w:Vw}:∀{as:List Addr} {vs:List V},RDs w (as.map D.cls) vs→vs=as.map V.ref
 | [],vs,h=>rds0 h
 | a::r,vs,h=>by
  rw[As] at h
  unfold RDs at h
  obtain⟨v,vs',rfl,h1,h2⟩:=h
  rw[Y49.mp h1,Zq9 h2]
  rfl
def Yw2(K:Af):List V→Hp→VK→Prop:=fun xs H Q=>∃(e C dx:Addr) (fs:List (Str×V)) (p:Addr) (as:List Addr) (b:Bool),xs=[.ref e,.ref p]∧H e=some (XO e (.ref C) (some dx))∧H dx=some (.xd fs)∧ExcIs K C∧H p=some (.tup (as.map V.ref))∧PySem.W.kitAny K (.ref C) (as.map Ax)=some b∧Q (.bl b) H
theorem Eg:∀{as:List Addr} {us:List Value},Vals (as.map V.ref) us→us=as.map Ax
 | [],us,h=>by cases h;rfl
 | a::r,us,h=>by
  cases h with
  | cons h1 h2=>
   obtain rfl:_=Ax a:=h1
   rw[Eg h2]
   rfl
theorem Zp1{X:Cx}:Xk X (.builtin "isinstance") (Yw2 X.K):=by
 intro pins s σ H xs us Q I r h
 obtain⟨e,C,dx,fs,p,as,b,rfl,he,hd,S,hp,k,q⟩:=h
 obtain⟨u,v,rfl,ru,rv⟩:=Z01 r
 obtain rfl:u=Ax e:=ru
 obtain rfl:v=Ax p:=rv
 obtain⟨oe,od,mA,J,_⟩:=Z59 I he hd
 obtain⟨its,r',⟨⟨oc,odd,dat,sl⟩,g1,g2,n,g3⟩,hz⟩:=I.tuple (.of hp)
 cases Eg r'
 dsimp only at g2 g3
 subst g2 g3
 exact PySem.W.kia_tup (Z47 S) I.kIn J g1 k (fun z=>nomatch z) fun tk=>⟨.bl b,H,I.tok tk,rfl,q⟩
theorem Yl5{K:Af}{w:Vw}{M:Z2}{d:D}{x:V}{t:String}(R:RS w M)(r:RD w d x)(h:tyD M d=some t):TyOf K w.H x (.type t):=by
 unfold tyD at h
 split at h
 ·cases h;cases Zs.mp r;exact .non
 ·cases h;cases Xj.mp r;exact .bl _
 ·cases h;cases Zd.mp r;exact .int _
 ·cases h;cases Zt.mp r;exact .str _
 ·cases h;obtain⟨a,vs,rfl,q,_⟩:=Yn.mp r;exact .tup q
 ·obtain⟨_,rfl⟩:=Zp.mp r
  split at h
  ·rename_i e;cases h;obtain⟨vs,q,_⟩:=R.cell _ _ e;exact .lst q
  ·cases h
  ·rename_i e;cases h;obtain⟨vs,q,_⟩:=R.cell _ _ e;exact .dK q
  ·cases h
  ·cases h
  ·cases h
 ·cases h
theorem Zc8:Xk X (.type "dict") (fun xs H Q=>∃a kvs,xs=[V.ref a]∧H a=some (.dK kvs)∧∀p,H p=none→Q (.ref p) (upd H p (.dK kvs))):=by
 intro pins s σ H xs us Q I r h
 obtain⟨a,kvs,rfl,e,q⟩:=h
 obtain⟨u,rfl,ru⟩:=Tj r
 cases ru
 exact Zx9 I (.inl e) fun p s' hp I'=>⟨.ref p,_,I',rfl,q p hp⟩
theorem Z40{w:Vw}:∀{ps:List (Key×D)} {vs:List V},RDs w (Z84 ps) vs→∃qs,Cb w.K w.H vs qs∧RKV w ps qs
 | [],vs,h=>by
  cases vs with
  | nil=>exact⟨[],trivial,by unfold RKV;rfl⟩
  | cons _ _=>have:=h.length;simp[Z84] at this
 | p::ps,vs,h=>by
  change RDs w (D.tup [kD p.1,p.2]::Z84 ps) vs at h
  unfold RDs at h
  obtain⟨v,vr,rfl,r1,r2⟩:=h
  obtain⟨t,us,rfl,q1,q2⟩:=Yn.mp r1
  obtain⟨u1,u2,rfl,s1,s2⟩:=rds2 q2
  obtain⟨qs,h1,h2⟩:=Z40 r2
  have e:u1=kV p.1:=by
   cases hk:p.1 with
   | inl i=>rw[hk] at s1;exact Zd.mp s1
   | inr x=>rw[hk] at s1;exact Zt.mp s1
  subst e
  exact⟨(p.1,u2)::qs,⟨⟨t,rfl,.of q1⟩,h1⟩,by unfold RKV;exact⟨u2,qs,rfl,s2,h2⟩⟩
theorem Z21{w:Vw}:∀{ps:List (Key×D)} {qs:List (Key×V)} {ds:List (Key×D)} {vs:List (Key×V)},RKV w ps qs→RKV w ds vs→RKV w (ps.foldl (fun m p=>putD m p.1 p.2) ds) (qs.foldl (fun m p=>putK m p.1 p.2) vs)
 | [],qs,ds,vs,h,g=>by unfold RKV at h;subst h;exact g
 | p::ps,qs,ds,vs,h,g=>by
  unfold RKV at h
  obtain⟨v,r,rfl,h1,h2⟩:=h
  rw[Iu,Iu]
  exact Z21 (ps:=ps) (qs:=r) h2 (RKV.put (k:=p.1) h1 g)
noncomputable def R7:Bf→Bool
 | .min2 | .max2 | .dict1=>false
 | _=>true
theorem Zn7:Xk X (.type "int") (fun xs H Q=>∃b,xs=[.bl b]∧Q (.int (if b then 1 else 0)) H):=by
 intro pins s σ H xs us Q I r h
 obtain⟨b,rfl,q⟩:=h
 obtain⟨u,rfl,e⟩:=Tj r
 cases e
 exact call_int_bool ⟨.int _,H,I.tok _,⟨_,rfl⟩,q⟩
theorem Z08{w:Vw}:∀ns:List Str,RDs w (ns.map .str) (ns.map V.str)
 | []=>RDs.nil w
 | n::ns=>RDs.cons (Zt.mpr rfl) (Z08 ns)
theorem Z10{w:Vw}:∀ns:List Int,RDs w (ns.map .int) (ns.map V.int)
 | []=>RDs.nil w
 | n::ns=>RDs.cons (Zd.mpr rfl) (Z10 ns)
theorem Z46{w:Vw}:∀{ks:List Key} {vs:List V},RDs w (ks.map kD) vs→vs=ks.map kV
 | [],vs,h=>rds0 h
 | k::ks,vs,h=>by
  rw[As] at h
  unfold RDs at h
  obtain⟨v,r,rfl,h1,h2⟩:=h
  rw[Z46 h2]
  cases k with
  | inl i=>cases Zd.mp h1;rfl
  | inr x=>cases Zt.mp h1;rfl
theorem Zs3(hK:X.K=w0.K)(b:Bf)(hc:X.calm=true∨R7 b=true):Xk X (bfOf b).2 (rC w0 (bfD w0.K b)):=by
 intro pins s σ H xs us Q I r h
 obtain⟨w,M,ds,QD,rfl,e0,R,hx,g,a⟩:=h
 cases b with
 | len=>
  obtain⟨x,rfl,g2⟩:=Te g;clear g;have g:=g2
  cases x with
  | ref n=>
   obtain⟨v,rfl,r1⟩:=rds1 hx
   obtain⟨_,rfl⟩:=Zp.mp r1
   rcases g with⟨xs,g1,g2⟩ | ⟨xs,g1,g2⟩
   ·obtain⟨_,vs,q1,q2,_⟩:=R.listL g1
    rw[e0,←hK] at q1
    exact Rp pins s σ w.H _ us Q I r ⟨_,vs,rfl,.inl q1,a _ w _ M (Ext.refl w) R (Zd.mpr (by rw[q2.length])) g2⟩
   ·obtain⟨_,vs,q1,q2⟩:=R.dict g1
    exact Zi6 pins s σ w.H _ us Q I r ⟨_,vs,rfl,q1,a _ w _ M (Ext.refl w) R (Zd.mpr (by rw[q2.length])) g2⟩
  | tup l=>
   obtain⟨v,rfl,r1⟩:=rds1 hx
   obtain⟨p,vs,rfl,q1,q2⟩:=Yn.mp r1
   exact Rp pins s σ w.H _ us Q I r ⟨_,vs,rfl,.inr (.of q1),a _ w _ M (Ext.refl w) R (Zd.mpr (by rw[q2.length])) g⟩
  | str z=>
   obtain⟨v,rfl,r1⟩:=rds1 hx
   cases Zt.mp r1
   exact Gq pins s σ w.H _ us Q I r ⟨_,rfl,g.1,a _ w _ M (Ext.refl w) R (Zd.mpr rfl) g.2⟩
  | _=>exact Dp g
 | isinst=>
  obtain⟨x,y,rfl,g2⟩:=Pg g;clear g;have g:=g2
  obtain⟨v,u,rfl,r1,r2⟩:=rds2 hx
  unfold isD at g
  split at g
  ·obtain⟨b,g1,g2,g3⟩:=g
   obtain⟨rfl,q1,row,q2,q3⟩:=Fu.mp r1
   cases Y49.mp r2
   rw[←hK] at g1 g2
   exact Z11 pins s σ w.H _ us Q I r ⟨_,_,_,_,_,_,b,rfl,q1,q2,g1,fun u hu=>hu,g2,a _ w _ M (Ext.refl w) R (Xj.mpr rfl) g3⟩
  ·obtain⟨b,g1,g2,g3⟩:=g
   obtain⟨rfl,q1,row,q2,q3⟩:=Fu.mp r1
   cases Yi7.mp r2
   rw[←hK] at g1 g2
   exact Z11 pins s σ w.H _ us Q I r ⟨_,_,_,_,_,_,b,rfl,q1,q2,g1,fun u hu=>hu,g2,a _ w _ M (Ext.refl w) R (Xj.mpr rfl) g3⟩
  ·obtain⟨as,b,rfl,g1,g2,g3⟩:=g
   obtain⟨rfl,q1,row,q2,q3⟩:=Fu.mp r1
   obtain⟨p,vs,rfl,q4,q5⟩:=Yn.mp r2
   cases Zq9 q5
   rw[←hK] at g1 g2
   exact Zp1 pins s σ w.H _ us Q I r ⟨_,_,_,_,_,_,b,rfl,q1,q2,g1,q4,g2,a _ w _ M (Ext.refl w) R (Xj.mpr rfl) g3⟩
  ·obtain⟨t,b,g1,g2,g3⟩:=g
   cases Yi7.mp r2
   rw[←hK] at g2
   exact Zw3 pins s σ w.H _ us Q I r ⟨_,_,_,b,rfl,Yl5 R r1 g1,g2,a _ w _ M (Ext.refl w) R (Xj.mpr rfl) g3⟩
  ·exact g.elim
 | min2=>
  obtain⟨x,y,rfl,g2⟩:=Pg g;clear g;have g:=g2
  obtain⟨i,j,rfl,rfl,g2⟩:=X0 g;clear g;have g:=g2
  obtain⟨v,u,rfl,r1,r2⟩:=rds2 hx
  cases Zd.mp r1;cases Zd.mp r2
  exact Zd2 (hc.resolve_right (by simp[R7])) pins s σ w.H _ us Q I r ⟨_,_,rfl,a _ w _ M (Ext.refl w) R (Zd.mpr rfl) g⟩
 | max2=>
  obtain⟨x,y,rfl,g2⟩:=Pg g;clear g;have g:=g2
  obtain⟨i,j,rfl,rfl,g2⟩:=X0 g;clear g;have g:=g2
  obtain⟨v,u,rfl,r1,r2⟩:=rds2 hx
  cases Zd.mp r1;cases Zd.mp r2
  exact Zr5 (hc.resolve_right (by simp[R7])) pins s σ w.H _ us Q I r ⟨_,_,rfl,a _ w _ M (Ext.refl w) R (Zd.mpr rfl) g⟩
 | list1=>
  obtain⟨x,rfl,g2⟩:=Te g;clear g;have g:=g2
  obtain⟨v,rfl,r1⟩:=rds1 hx
  obtain⟨xs,g1,g2⟩:=g
  have:∃p vs,v= .ref p∧(SqL X.K w.H p vs∨SqT X.K w.H p vs)∧RDs w xs vs:=by
   rw[hK,←e0]
   unfold Zm7 at g1
   split at g1
   ·obtain⟨_,rfl⟩:=Zp.mp r1
    obtain⟨_,vs,q1,q2,_⟩:=R.listL g1
    exact⟨_,vs,rfl,.inl q1,q2⟩
   ·cases g1
    obtain⟨p,vs,rfl,q1,q2⟩:=Yn.mp r1
    exact⟨_,vs,rfl,.inr (.of q1),q2⟩
   ·cases g1
    obtain⟨p,vs,rfl,q1,q2⟩:=Ja.mp r1
    exact⟨_,vs,rfl,.inr q1,q2⟩
   ·cases g1
  obtain⟨p,vs,rfl,q1,q2⟩:=this
  refine E7 pins s σ w.H _ us Q I r ⟨p,vs,rfl,q1,fun l hl=>?_⟩
  obtain⟨x1,x2,x3⟩:=Ys R hl q2
  exact a _ _ _ _ x1 x2 x3 g2
 | dict1=>
  obtain⟨x,rfl,g2⟩:=Te g;clear g;have g:=g2
  obtain⟨n,rfl,g2⟩:=Yz g;clear g;have g:=g2
  obtain⟨v,rfl,r1⟩:=rds1 hx
  obtain⟨_,rfl⟩:=Zp.mp r1
  rcases g with⟨xs,g1,g2⟩ | ⟨ps,g1,g2,g3⟩
  ·obtain⟨_,vs,q1,q2⟩:=R.dict g1
   refine Zc8 pins s σ w.H _ us Q I r ⟨_,vs,rfl,q1,fun l hl=>?_⟩
   obtain⟨x1,x2,x3⟩:=Qp R hl q2
   exact a _ _ _ _ x1 x2 x3 g2
  ·obtain⟨_,vs,q1,q2,_⟩:=R.listL g1
   obtain⟨qs,z1,z2⟩:=Z40 q2
   have hl2:=q2.length
   unfold Z84 at hl2
   rw[Ad] at hl2
   rw[e0,←hK] at q1 z1
   refine Zb0 (hc.resolve_right (by simp[R7])) pins s σ w.H _ us Q I r ⟨_,vs,qs,rfl,q1,z1,by omega,fun l hl=>?_⟩
   obtain⟨x1,x2,x3⟩:=Qp R hl (Z21 z2 (show RKV w [] [] by unfold RKV;rfl))
   exact a _ _ _ _ x1 x2 x3 g3
 | int1=>
  obtain⟨x,rfl,g2⟩:=Te g;clear g;have g:=g2
  obtain⟨i,rfl,g2⟩:=Zx4 g;clear g;have g:=g2
  obtain⟨v,rfl,r1⟩:=rds1 hx
  cases Xj.mp r1
  exact Zn7 pins s σ w.H _ us Q I r ⟨_,rfl,a _ w _ M (Ext.refl w) R (Zd.mpr rfl) g⟩
end
noncomputable def mtT:Mt→String
 | .append | .ins0 | .pop0 | .clear | .index1=>"list"
 | .get2=>"dict"
noncomputable def mtN:Mt→Str
 | .ins0=>"insert" | .append=>"append" | .pop0=>"pop" | .clear=>"clear" | .index1=>"index" | .get2=>"get"
noncomputable def mtI:Mt→String
 | .ins0=>"list.insert" | .append=>"list.append" | .pop0=>"list.pop" | .clear=>"list.clear" | .index1=>"list.index" | .get2=>"dict.get"
theorem Yt2:∀m:Mt,PlainAttrs (mtT m)
 | .append | .ins0 | .pop0 | .clear | .index1=>PySem.F.plainAttrs_list
 | .get2=>PySem.F.plainAttrs_dict
theorem Zi7:∀m:Mt,Slot (mtT m) (mtN m) (mtI m)
 | .ins0=>PySem.F.slot_list_insert | .append=>PySem.F.slot_list_append | .pop0=>PySem.F.slot_list_pop | .clear=>PySem.F.slot_list_clear | .index1=>PySem.F.slot_list_index
 | .get2=>PySem.F.slot_dict_get
theorem Yk2:∀m:Mt,typeOf (.builtin (mtI m))=pure (.type "method_descriptor")
 | .ins0=>PySem.F.type_list_insert | .append=>PySem.F.type_list_append | .pop0=>PySem.F.type_list_pop | .clear=>PySem.F.type_list_clear | .index1=>PySem.F.type_list_index
 | .get2=>PySem.F.type_dict_get
def rM(w0:Vw)(m:Mt):V→List V→Hp→VK→Prop:=fun x xs H Q=>∃w M dx ds QD,w.H=H∧w.K=w0.K∧RS w M∧RD w dx x∧RDs w ds xs∧mtD m dx ds M QD∧Aft w QD Q
theorem Y46{w:Vw}{M:Z2}{m:Mt}{d:D}{x:V}(R:RS w M)(r:RD w d x)(h:mtK m d M):tyV w.K (mtT m) x w.H:=by
 have L:∀{n:Nat},RD w (.ref n) x→(Z4 M n).isSome=true→tyV w.K "list" x w.H:=by
  intro n r h
  obtain⟨_,rfl⟩:=Zp.mp r
  obtain⟨xs,e⟩:=Dy.mp h
  obtain⟨_,vs,q1,_⟩:=R.listL e
  exact .inl ⟨rfl,vs,q1⟩
 have K:∀{n:Nat},RD w (.ref n) x→(Zo M n).isSome=true→tyV w.K "dict" x w.H:=by
  intro n r h
  obtain⟨_,rfl⟩:=Zp.mp r
  obtain⟨xs,e⟩:=Dy.mp h
  obtain⟨_,vs,q1,_⟩:=R.dict e
  exact .inr (.inr (.inl ⟨rfl,.inl ⟨vs,q1⟩⟩))
 obtain⟨n,rfl,h⟩:=Yz h
 cases m with
 | get2=>exact K r h
 | _=>exact L r h
theorem RDs.dropLast{w:Vw}{xs:List D}{vs:List V}(r:RDs w xs vs):RDs w xs.dropLast vs.dropLast:=by
 rw[List.dropLast_eq_take,List.dropLast_eq_take,r.length]
 exact r.take _
section
variable{X:Cx}{w0:Vw}
theorem Y27(hK:X.K=w0.K)(hu:X.A.units+64<cLine)(m:Mt):MtR X (mtI m) (rM w0 m):=by
 intro pins s σ H x xs v us Q I rx r h
 obtain⟨w,M,dx,ds,QD,rfl,e0,R,hx,hs,g,a⟩:=h
 obtain⟨n,rfl,g2⟩:=Yz g;clear g;have g:=g2
 cases m with
 | ins0=>
  obtain⟨x0,x,rfl,g2⟩:=Pg g;clear g;have g:=g2
  obtain⟨_,rfl⟩:=Zp.mp hx
  obtain⟨y0,y,rfl,ry0,ry⟩:=rds2 hs
  obtain⟨rfl,ds,g1,g2,g3⟩:=g
  cases Zd.mp ry0
  obtain⟨hn,vs,q1,q2⟩:=R.list g1
  obtain⟨x1,x2⟩:=Xa R hn q1 (RDs.cons ry q2)
  exact Za7 pins s σ w.H _ _ v us Q I rx r ⟨_,vs,y,rfl,rfl,q1,by rw[q2.length];exact g2,a _ _ _ _ x1 x2 (Zs.mpr rfl) g3⟩
 | append=>
  obtain⟨x,rfl,g2⟩:=Te g;clear g;have g:=g2
  obtain⟨_,rfl⟩:=Zp.mp hx
  obtain⟨y,rfl,ry⟩:=rds1 hs
  obtain⟨ds,g1,g2,g3⟩:=g
  obtain⟨hn,vs,q1,q2⟩:=R.list g1
  obtain⟨x1,x2⟩:=Xa R hn q1 (q2.append (RDs.cons ry (RDs.nil w)))
  exact O9 pins s σ w.H _ _ v us Q I rx r ⟨_,vs,y,rfl,rfl,q1,by rw[q2.length];exact g2,a _ _ _ _ x1 x2 (Zs.mpr rfl) g3⟩
 | index1=>
  obtain⟨x,rfl,g2⟩:=Te g;clear g;have g:=g2
  obtain⟨_,rfl⟩:=Zp.mp hx
  obtain⟨y,rfl,ry⟩:=rds1 hs
  obtain⟨ds,k,z,g1,fd,fs,g2,g4,g5,g3⟩:=g
  obtain⟨hn,vs,q1,q2,_⟩:=R.listL g1
  rw[e0,←hK] at q1
  obtain⟨zv,z1,z2⟩:=q2.get g2
  have fl:=(Zr7 fd ry fs q2).2
  have fz:∀{u:D} {j:Nat},ds[j]?=some u→Y6 u=true:=fun{u j} h=>by
   rw[Hk] at fs
   exact fs _ (Al h)
  refine Zu3 pins s σ w.H _ _ v us Q I rx r ⟨_,vs,y,k,zv,rfl,rfl,q1,Qk fd ry,fl,z1,?_,?_,a _ w _ M (Ext.refl w) R (Zd.mpr rfl) g3⟩
  ·rw[Bq (fz g2) fd z2 ry];exact g4
  ·intro j u hj hu
   have hjl:j<ds.length:=by rw[←q2.length];exact(Ac.mp hu).1
   obtain⟨u',w1,w2⟩:=q2.get (Aa hjl)
   rw[hu] at w1
   cases w1
   rw[Bq (fz (Aa hjl)) fd w2 ry]
   exact g5 j _ hj (Aa hjl)
 | get2=>
  obtain⟨x,y,rfl,g2⟩:=Pg g;clear g;have g:=g2
  obtain⟨_,rfl⟩:=Zp.mp hx
  obtain⟨y,z,rfl,ry,rz⟩:=rds2 hs
  obtain⟨kvs,k,g1,g2,g3⟩:=g
  obtain⟨hn,vs,q1,q2⟩:=R.dict g1
  obtain⟨u,u2,rfl,ru,ru2⟩:=Z01 r
  cases (show v=Ax _ from rx)
  cases Qw g2 ry
  refine Yp6 (by omega) I (DGet.k (k:=k) q1) ru ru2 fun w' s' I' rw'=>⟨_,w.H,I',rw',?_⟩
  rcases q2.val k with⟨n1,n2⟩ | ⟨d',v',n1,n2,n3⟩
  ·rw[n1] at g3
   rw[n2]
   exact a _ w _ M (Ext.refl w) R rz g3
  ·rw[n1] at g3
   rw[n2]
   exact a _ w _ M (Ext.refl w) R n3 g3
 | pop0=>
  obtain⟨rfl,g2⟩:=Bd g;clear g;have g:=g2
  obtain⟨_,rfl⟩:=Zp.mp hx
  cases rds0 hs
  obtain⟨ds,d,g1,g2,g3⟩:=g
  obtain⟨hn,vs,q1,q2⟩:=R.list g1
  obtain⟨y,z1,z2⟩:=q2.get g2
  obtain⟨x1,x2⟩:=Xa R hn q1 q2.dropLast
  exact Yi9 pins s σ w.H _ _ v us Q I rx r ⟨_,vs,y,rfl,rfl,q1,by rw[q2.length];exact z1,a _ _ _ _ x1 x2 (z2.ext x1) g3⟩
 | clear=>
  obtain⟨rfl,g2⟩:=Bd g;clear g;have g:=g2
  obtain⟨_,rfl⟩:=Zp.mp hx
  cases rds0 hs
  obtain⟨ds,g1,g3⟩:=g
  obtain⟨hn,vs,q1,q2⟩:=R.list g1
  obtain⟨x1,x2⟩:=Xa R hn q1 (RDs.nil w)
  exact Y02 pins s σ w.H _ _ v us Q I rx r ⟨_,vs,rfl,rfl,q1,a _ _ _ _ x1 x2 (Zs.mpr rfl) g3⟩
end
noncomputable def gF(w0:Vw)(tg:List Nat):TG:=fun v σ H Q=>∃w σD M d QD,StOk w0 w σD M σ H∧RD w d v∧tgD tg d σD QD∧∀σ' σD',REnv w σD' σ'→QD σD'→Q σ' H
noncomputable def gAll:List Nat→TGs
 | []=>gNil
 | i::is=>Yj8 (Zx1 i) (gAll is)
theorem Z14{w:Vw}{H:Hp}{Q:L2.St→Hp→Prop}{QD:DEnv→Prop}(k:∀σ' σD',REnv w σD' σ'→QD σD'→Q σ' H):∀(is:List Nat) {ds:List D} {vs:List V} {σ:L2.St} {σD:DEnv},RDs w ds vs→ds.length=is.length→REnv w σD σ→
  QD ((is.zip ds).foldl (fun σ p=>σ.set p.1 (some p.2)) σD)→gAll is vs σ H Q
 | [],ds,vs,σ,σD,r,hl,e,q=>by
  cases Ih.mp hl
  cases rds0 r
  exact⟨rfl,k _ _ e q⟩
 | i::is,ds,vs,σ,σD,r,hl,e,q=>by
  cases ds with
  | nil=>simp at hl
  | cons d ds=>
   unfold RDs at r
   obtain⟨v,vr,rfl,h1,h2⟩:=r
   refine⟨v,vr,rfl,?_⟩
   show gAll is vr (σ.set i (some v)) H Q
   exact Z14 k is h2 (by simpa using hl) (e.set i h1) q
section
variable{X:Cx}{w0:Vw}
theorem PG.imp{e:Expr}{t t':TG}(h:PG X e t)(k:∀v σ H Q,t' v σ H Q→t v σ H Q):PG X e t':=fun pins s σ H v u Q I r q=>h pins s σ H v u Q I r (k v σ H Q q)
theorem Yl4{i:Nat}{e:Expr}(h:PG X e (Zx1 i)):PG X e (gF w0 [i]):=PG.imp h fun v σ H Q zz66=>by obtain⟨w,σD,M,d,QD,S,r,g,k⟩:=zz66;exact k _ _ (S.env.set i r) g
theorem Yg0{is:List Nat}{e:Expr}(hl:2≤is.length)(h:PG X e (gTup X.K is.length (gAll is))):PG X e (gF w0 is):=PG.imp h fun v σ H Q ⟨w,σD,M,d,QD,S,r,g,k⟩=>by
 unfold tgD at g
 split at g
 ·simp at hl
 ·obtain⟨a,vs,rfl,q1,q2⟩:=Yn.mp r
  obtain⟨g1,g2⟩:=g
  rw[S.heap] at q1
  exact⟨a,vs,rfl,.of q1,by rw[q2.length];exact g1,Z14 k is q2 g1 S.env g2⟩
 ·exact g.elim
end
structure Ck where
 N:List Str
 sc:Scope
 FN:List Str
 GN:List Str
 BN:List Str
 loops:Bool
 calm:Bool
 tries:Bool
 raises:List Nat
 cells:Bool
 own:List Str
noncomputable def Bb(scope:Scope):List Str:=(scope.names.filter fun y=>y.2== .cell).map (·.1)
noncomputable def Ck.vis(k:Ck)(x:Str):Bool:=(k.sc.names.lookup x==some .local || k.sc.names.lookup x==some .cell || k.sc.names.lookup x==some .free)&&!(x==("__debug__":Str))&&!(x==("__classdict__":Str))
noncomputable def Ck.glob(k:Ck)(x:Str):Bool:=k.sc.names.lookup x==some .globalImplicit&&!(x==("__debug__":Str))&&!(x==("__name__":Str))
noncomputable def Ck.loc(k:Ck)(x:Str):Bool:=k.sc.names.lookup x==some .local
noncomputable def Ck.locC(k:Ck)(x:Str):Bool:=k.loc x || ((k.cells || k.own.contains x)&&k.sc.names.lookup x==some .cell)
noncomputable def Zr3:Expr→Bool
 | .Call (.Name x _) [] [] _=>x !=("super":Str)
 | _=>true
noncomputable def Z03:Expr→Bool
 | .Slice ..=>false
 | _=>true
noncomputable def Zg7:Expr→Bool
 | .Set ..=>false
 | _=>true
noncomputable def Xr:Expr→Bool
 | .Starred ..=>false
 | _=>true
noncomputable def isIn:Cm→Bool
 | .isin | .notin=>true
 | _=>false
noncomputable def Yh8(k:Ck):List Nat→List Expr→Bool
 | [],[]=>true
 | i::is,.Name x _::es=>k.N[i]?==some x&&k.locC x&&Yh8 k is es
 | _,_=>false
noncomputable def C1(k:Ck)(is:List Nat):Expr→Bool
 | .Name x _=>match is with
  | [i]=>k.N[i]?==some x&&k.locC x
  | _=>false
 | .Tuple es _ _=>k.calm&&decide (2≤is.length)&&Yh8 k is es
 | _=>false
noncomputable def isM1:Expr→Bool
 | .UnaryOp .USub (.Constant (.int j) _ _) _=>j==1
 | _=>false
noncomputable def itTg:It→Expr→Bool
 | .enm _,.Tuple ..=>true
 | .enm _,_=>false
 | .zip _,.Tuple ..=>true
 | .zip _,_=>false
 | _,_=>true
theorem Y1{c:Prop}[Decidable c]{F:c→Bool}(h:(if q:c then F q else false)=true):∃q:c,F q=true:=by
 by_cases q:c
 ·rw[dif_pos q] at h;exact⟨q,h⟩
 ·rw[dif_neg q] at h;exact absurd h Bf9
noncomputable def S4(zz:Expr)(F:Str→Bool):Bool:=if q:zz.ctorIdx=23 then Expr.Name.elim (motive_1:=fun _=>Bool) zz q (fun x _=>F x) else false
theorem Yj{zz:Expr}{F:Str→Bool}(h:S4 zz F=true):∃x p,zz= .Name x p∧F x=true:=by
 obtain⟨q,h⟩:=Y1 h
 exact Expr.Name.elim (motive_1:=fun zz=>∀q:zz.ctorIdx=23,Expr.Name.elim (motive_1:=fun _=>Bool) zz q (fun x _=>F x)=true→∃x p,zz= .Name x p∧F x=true) zz q (fun x p _ h=>⟨x,p,rfl,h⟩) q h
noncomputable def Py(zz:Expr)(F:Const→Bool):Bool:=if q:zz.ctorIdx=19 then Expr.Constant.elim (motive_1:=fun _=>Bool) zz q (fun v _ _=>F v) else false
theorem Wd{zz:Expr}{F:Const→Bool}(h:Py zz F=true):∃v j p,zz= .Constant v j p∧F v=true:=by
 obtain⟨q,h⟩:=Y1 h
 exact Expr.Constant.elim (motive_1:=fun zz=>∀q:zz.ctorIdx=19,Expr.Constant.elim (motive_1:=fun _=>Bool) zz q (fun v _ _=>F v)=true→∃v j p,zz= .Constant v j p∧F v=true) zz q (fun v j p _ h=>⟨v,j,p,rfl,h⟩) q h
noncomputable def Yk5(zz:Expr)(F:Expr→Operator→Expr→Bool):Bool:=if q:zz.ctorIdx=2 then Expr.BinOp.elim (motive_1:=fun _=>Bool) zz q (fun l o r _=>F l o r) else false
theorem Zr4{zz:Expr}{F:Expr→Operator→Expr→Bool}(h:Yk5 zz F=true):∃l o r p,zz= .BinOp l o r p∧F l o r=true:=by
 obtain⟨q,h⟩:=Y1 h
 exact Expr.BinOp.elim (motive_1:=fun zz=>∀q:zz.ctorIdx=2,Expr.BinOp.elim (motive_1:=fun _=>Bool) zz q (fun l o r _=>F l o r)=true→∃l o r p,zz= .BinOp l o r p∧F l o r=true) zz q (fun l o r p _ h=>⟨l,o,r,p,rfl,h⟩) q h
noncomputable def onUn(zz:Expr)(F:UnaryOp→Expr→Bool):Bool:=if q:zz.ctorIdx=3 then Expr.UnaryOp.elim (motive_1:=fun _=>Bool) zz q (fun o l _=>F o l) else false
theorem Z57{zz:Expr}{F:UnaryOp→Expr→Bool}(h:onUn zz F=true):∃o l p,zz= .UnaryOp o l p∧F o l=true:=by
 obtain⟨q,h⟩:=Y1 h
 exact Expr.UnaryOp.elim (motive_1:=fun zz=>∀q:zz.ctorIdx=3,Expr.UnaryOp.elim (motive_1:=fun _=>Bool) zz q (fun o l _=>F o l)=true→∃o l p,zz= .UnaryOp o l p∧F o l=true) zz q (fun o l p _ h=>⟨o,l,p,rfl,h⟩) q h
noncomputable def Yr9(zz:Expr)(F:Expr→(List CmpOp)→(List Expr)→Bool):Bool:=if q:zz.ctorIdx=15 then Expr.Compare.elim (motive_1:=fun _=>Bool) zz q (fun l os rs _=>F l os rs) else false
theorem Zq2{zz:Expr}{F:Expr→(List CmpOp)→(List Expr)→Bool}(h:Yr9 zz F=true):∃l os rs p,zz= .Compare l os rs p∧F l os rs=true:=by
 obtain⟨q,h⟩:=Y1 h
 exact Expr.Compare.elim (motive_1:=fun zz=>∀q:zz.ctorIdx=15,Expr.Compare.elim (motive_1:=fun _=>Bool) zz q (fun l os rs _=>F l os rs)=true→∃l os rs p,zz= .Compare l os rs p∧F l os rs=true) zz q (fun l os rs p _ h=>⟨l,os,rs,p,rfl,h⟩) q h
noncomputable def Y62(zz:Expr)(F:BoolOp→(List Expr)→Bool):Bool:=if q:zz.ctorIdx=0 then Expr.BoolOp.elim (motive_1:=fun _=>Bool) zz q (fun o ls _=>F o ls) else false
theorem Z89{zz:Expr}{F:BoolOp→(List Expr)→Bool}(h:Y62 zz F=true):∃o ls p,zz= .BoolOp o ls p∧F o ls=true:=by
 obtain⟨q,h⟩:=Y1 h
 exact Expr.BoolOp.elim (motive_1:=fun zz=>∀q:zz.ctorIdx=0,Expr.BoolOp.elim (motive_1:=fun _=>Bool) zz q (fun o ls _=>F o ls)=true→∃o ls p,zz= .BoolOp o ls p∧F o ls=true) zz q (fun o ls p _ h=>⟨o,ls,p,rfl,h⟩) q h
noncomputable def onIf(zz:Expr)(F:Expr→Expr→Expr→Bool):Bool:=if q:zz.ctorIdx=5 then Expr.IfExp.elim (motive_1:=fun _=>Bool) zz q (fun x l r _=>F x l r) else false
theorem Y22{zz:Expr}{F:Expr→Expr→Expr→Bool}(h:onIf zz F=true):∃x l r p,zz= .IfExp x l r p∧F x l r=true:=by
 obtain⟨q,h⟩:=Y1 h
 exact Expr.IfExp.elim (motive_1:=fun zz=>∀q:zz.ctorIdx=5,Expr.IfExp.elim (motive_1:=fun _=>Bool) zz q (fun x l r _=>F x l r)=true→∃x l r p,zz= .IfExp x l r p∧F x l r=true) zz q (fun x l r p _ h=>⟨x,l,r,p,rfl,h⟩) q h
noncomputable def Yj6(zz:Expr)(F:(List Expr)→Bool):Bool:=if q:zz.ctorIdx=24 then Expr.List.elim (motive_1:=fun _=>Bool) zz q (fun ls _=>F ls) else false
theorem Ze6{zz:Expr}{F:(List Expr)→Bool}(h:Yj6 zz F=true):∃ls p,zz= .List ls p∧F ls=true:=by
 obtain⟨q,h⟩:=Y1 h
 exact Expr.List.elim (motive_1:=fun zz=>∀q:zz.ctorIdx=24,Expr.List.elim (motive_1:=fun _=>Bool) zz q (fun ls _=>F ls)=true→∃ls p,zz= .List ls p∧F ls=true) zz q (fun ls p _ h=>⟨ls,p,rfl,h⟩) q h
noncomputable def Yb9(zz:Expr)(F:(List Expr)→Bool):Bool:=if q:zz.ctorIdx=25 then Expr.Tuple.elim (motive_1:=fun _=>Bool) zz q (fun ls _ _=>F ls) else false
theorem Fi{zz:Expr}{F:(List Expr)→Bool}(h:Yb9 zz F=true):∃ls j p,zz= .Tuple ls j p∧F ls=true:=by
 obtain⟨q,h⟩:=Y1 h
 exact Expr.Tuple.elim (motive_1:=fun zz=>∀q:zz.ctorIdx=25,Expr.Tuple.elim (motive_1:=fun _=>Bool) zz q (fun ls _ _=>F ls)=true→∃ls j p,zz= .Tuple ls j p∧F ls=true) zz q (fun ls j p _ h=>⟨ls,j,p,rfl,h⟩) q h
noncomputable def Yd3(zz:Expr)(F:(List (Option Expr))→(List Expr)→Bool):Bool:=if q:zz.ctorIdx=6 then Expr.Dict.elim (motive_1:=fun _=>Bool) zz q (fun ks vs _=>F ks vs) else false
theorem En{zz:Expr}{F:(List (Option Expr))→(List Expr)→Bool}(h:Yd3 zz F=true):∃ks vs p,zz= .Dict ks vs p∧F ks vs=true:=by
 obtain⟨q,h⟩:=Y1 h
 exact Expr.Dict.elim (motive_1:=fun zz=>∀q:zz.ctorIdx=6,Expr.Dict.elim (motive_1:=fun _=>Bool) zz q (fun ks vs _=>F ks vs)=true→∃ks vs p,zz= .Dict ks vs p∧F ks vs=true) zz q (fun ks vs p _ h=>⟨ks,vs,p,rfl,h⟩) q h
noncomputable def Zw6(zz:Expr)(F:Expr→Expr→Bool):Bool:=if q:zz.ctorIdx=21 then Expr.Subscript.elim (motive_1:=fun _=>Bool) zz q (fun l r _=>F l r) else false
theorem Qy{zz:Expr}{F:Expr→Expr→Bool}(h:Zw6 zz F=true):∃l r p,zz= .Subscript l r p∧F l r=true:=by
 obtain⟨q,h⟩:=Y1 h
 exact Expr.Subscript.elim (motive_1:=fun zz=>∀q:zz.ctorIdx=21,Expr.Subscript.elim (motive_1:=fun _=>Bool) zz q (fun l r _=>F l r)=true→∃l r p,zz= .Subscript l r p∧F l r=true) zz q (fun l r p _ h=>⟨l,r,p,rfl,h⟩) q h
noncomputable def Y93(zz:Expr)(F:(Option Expr)→(Option Expr)→(Option Expr)→Bool):Bool:=if q:zz.ctorIdx=26 then Expr.Slice.elim (motive_1:=fun _=>Bool) zz q (fun x y z _=>F x y z) else false
theorem Fy{zz:Expr}{F:(Option Expr)→(Option Expr)→(Option Expr)→Bool}(h:Y93 zz F=true):∃x y z p,zz= .Slice x y z p∧F x y z=true:=by
 obtain⟨q,h⟩:=Y1 h
 exact Expr.Slice.elim (motive_1:=fun zz=>∀q:zz.ctorIdx=26,Expr.Slice.elim (motive_1:=fun _=>Bool) zz q (fun x y z _=>F x y z)=true→∃x y z p,zz= .Slice x y z p∧F x y z=true) zz q (fun x y z p _ h=>⟨x,y,z,p,rfl,h⟩) q h
noncomputable def Pn(zz:Expr)(F:Expr→(List Expr)→(List Keyword)→Pos→Bool):Bool:=if q:zz.ctorIdx=16 then Expr.Call.elim (motive_1:=fun _=>Bool) zz q (fun fn ls kws p=>F fn ls kws p) else false
theorem X8{zz:Expr}{F:Expr→(List Expr)→(List Keyword)→Pos→Bool}(h:Pn zz F=true):∃fn ls kws p,zz= .Call fn ls kws p∧F fn ls kws p=true:=by
 obtain⟨q,h⟩:=Y1 h
 exact Expr.Call.elim (motive_1:=fun zz=>∀q:zz.ctorIdx=16,Expr.Call.elim (motive_1:=fun _=>Bool) zz q (fun fn ls kws p=>F fn ls kws p)=true→∃fn ls kws p,zz= .Call fn ls kws p∧F fn ls kws p=true) zz q (fun fn ls kws p _ h=>⟨fn,ls,kws,p,rfl,h⟩) q h
noncomputable def Y63(zz:Expr)(F:Expr→Str→Pos→Bool):Bool:=if q:zz.ctorIdx=20 then Expr.Attribute.elim (motive_1:=fun _=>Bool) zz q (fun l g p=>F l g p) else false
theorem Z80{zz:Expr}{F:Expr→Str→Pos→Bool}(h:Y63 zz F=true):∃l g p,zz= .Attribute l g p∧F l g p=true:=by
 obtain⟨q,h⟩:=Y1 h
 exact Expr.Attribute.elim (motive_1:=fun zz=>∀q:zz.ctorIdx=20,Expr.Attribute.elim (motive_1:=fun _=>Bool) zz q (fun l g p=>F l g p)=true→∃l g p,zz= .Attribute l g p∧F l g p=true) zz q (fun l g p _ h=>⟨l,g,p,rfl,h⟩) q h
noncomputable def onLC(zz:Expr)(F:Expr→(List Comprehension)→Scope→Bool):Bool:=if q:zz.ctorIdx=8 then Expr.ListComp.elim (motive_1:=fun _=>Bool) zz q (fun el gens scope _=>F el gens scope) else false
theorem Z52{zz:Expr}{F:Expr→(List Comprehension)→Scope→Bool}(h:onLC zz F=true):∃el gens scope p,zz= .ListComp el gens scope p∧F el gens scope=true:=by
 obtain⟨q,h⟩:=Y1 h
 exact Expr.ListComp.elim (motive_1:=fun zz=>∀q:zz.ctorIdx=8,Expr.ListComp.elim (motive_1:=fun _=>Bool) zz q (fun el gens scope _=>F el gens scope)=true→∃el gens scope p,zz= .ListComp el gens scope p∧F el gens scope=true) zz q (fun el gens scope p _ h=>⟨el,gens,scope,p,rfl,h⟩) q h
noncomputable def on0{α:Type}(l:List α)(b:Bool):Bool:=match l with
 | []=>b
 | _::_=>false
noncomputable def on1{α:Type}(l:List α)(F:α→Bool):Bool:=match l with
 | []=>false
 | x::r=>on0 r (F x)
noncomputable def onC{α:Type}(l:List α)(F:α→List α→Bool):Bool:=match l with
 | []=>false
 | x::r=>F x r
theorem Wp{α:Type}{l:List α}{b:Bool}(h:on0 l b=true):l=[]∧b=true:=by
 cases l with
 | nil=>exact⟨rfl,h⟩
 | cons _ _=>exact absurd h Bf9
theorem Wn{α:Type}{l:List α}{F:α→Bool}(h:on1 l F=true):∃x,l=[x]∧F x=true:=by
 cases l with
 | nil=>exact absurd h Bf9
 | cons x r=>obtain⟨rfl,h⟩:=Wp h;exact⟨x,rfl,h⟩
theorem Zi1{α:Type}{l:List α}{F:α→List α→Bool}(h:onC l F=true):∃x r,l=x::r∧F x r=true:=by
 cases l with
 | nil=>exact absurd h Bf9
 | cons x r=>exact⟨x,r,rfl,h⟩
noncomputable def noO{α:Type}(o:Option α)(b:Bool):Bool:=match o with
 | none=>b
 | some _=>false
theorem Cw{α:Type}{o:Option α}{b:Bool}(h:noO o b=true):o=none∧b=true:=by
 cases o with
 | none=>exact⟨rfl,h⟩
 | some _=>exact absurd h Bf9
noncomputable def onZ(i:Int)(b:Bool):Bool:=match i with
 | .ofNat 0=>b
 | _=>false
theorem Zk8{i:Int}{b:Bool}(h:onZ i b=true):i=0∧b=true:=by
 rcases i with(_ | n) | n
 ·exact⟨rfl,h⟩
 ·exact absurd h Bf9
 ·exact absurd h Bf9
noncomputable def soO{α:Type}(o:Option α)(F:α→Bool):Bool:=match o with
 | none=>false
 | some x=>F x
theorem Zd5{α:Type}{o:Option α}{F:α→Bool}(h:soO o F=true):∃x,o=some x∧F x=true:=by
 cases o with
 | none=>exact absurd h Bf9
 | some x=>exact⟨x,rfl,h⟩
mutual
noncomputable def chkE(k:Ck):E→Expr→Bool
 | .var i,ex=>S4 ex fun x=>k.N[i]?==some x&&k.vis x
 | .int i,ex=>Py ex fun v=>match v with
  | .int j=>i==j
  | _=>false
 | .bl b,ex=>Py ex fun v=>match v with
  | .bool c=>b==c
  | _=>false
 | .non,ex=>Py ex fun v=>match v with
  | .none=>true
  | _=>false
 | .str x,ex=>Py ex fun v=>match v with
  | .str y=>x==y
  | _=>false
 | .ty t,ex=>S4 ex fun x=>x==Str.ofString (Yk t)&&k.glob x&&k.BN.contains x
 | .glb g,ex=>S4 ex fun x=>k.GN[g]?==some x&&k.glob x
 | .bin op a b,ex=>Yk5 ex fun l o r=>o==opOf op&&chkE k a l&&chkE k b r
 | .neg a,ex=>onUn ex fun o l=>o== .USub&&chkE k a l
 | .not a,ex=>onUn ex fun o l=>o== .Not&&chkE k a l
 | .cmp op a b,ex=>Yr9 ex fun l os rs=>on1 os fun o=>on1 rs fun r=>o==cmOf op&&(!isIn op || Zg7 r)&&chkE k a l&&chkE k b r
 | .bop b es,ex=>Y62 ex fun o ls=>o==(if b then .And else .Or)&&R9 k es ls
 | .ife t a b,ex=>onIf ex fun x l r=>chkE k t x&&chkE k a l&&chkE k b r&&noIf t
 | .lst es,ex=>Yj6 ex fun ls=>R9 k es ls
 | .tup es,ex=>Yb9 ex fun ls=>R9 k es ls
 | .dict0,ex=>Yd3 ex fun ks vs=>on0 ks (on0 vs true)
 | .dictT,_=>false
 | .lkeys a,.Call (.Name x _) [l] [] _=>k.calm&&x==("list":Str)&&k.glob x&&k.BN.contains x&&Xr l&&chkE k a l
 | .dct a b,ex=>Yd3 ex fun ks vs=>on1 ks fun q=>soO q fun l=>on1 vs fun r=>chkE k a l&&chkE k b r
 | .ix a b,ex=>Zw6 ex fun l r=>Z03 r&&chkE k a l&&chkE k b r
 | .sl a lo hi,ex=>Zw6 ex fun l r=>Y93 r fun x y z=>noO z (chkE k a l&&chkO k lo x&&chkO k hi y)
 | .slW a lo hi,.Subscript l (.Slice x y none _) _=>chkE k a l&&chkO k lo x&&chkO k hi y
 | .setT a,.Call (.Name x _) [.Call (.Name y _) [l] [] _] [] _=>k.calm&&x==("len":Str)&&y==("set":Str)&&k.glob x&&k.glob y&&k.BN.contains x&&k.BN.contains y&&Xr l&&chkE k a l
 | .setf b a,.Call (.Name x _) [.Call (.Name y _) [l] [] _] [] _=>k.calm&&x==(if b then "sorted" else "len":Str)&&y==("set":Str)&&k.glob x&&k.glob y&&k.BN.contains x&&k.BN.contains y&&Xr l&&chkE k a l
 | .rev a,ex=>Zw6 ex fun l r=>Y93 r fun x y z=>noO x (noO y (soO z fun z=>chkE k a l&&isM1 z))
 | .call f es,ex=>Pn ex fun fn ls kws _=>S4 fn fun x=>on0 kws (k.calm&&k.FN[f]?==some x&&k.glob x&&R9 k es ls)
 | .bf b es,ex=>Pn ex fun fn ls kws _=>S4 fn fun x=>on0 kws (onC ls fun l ls=>(k.calm || R7 b)&&x==(bfOf b).1&&k.glob x&&k.BN.contains x&&R9 k es (l::ls))
 | .mt m o es,ex=>Pn ex fun fn ls kws cp=>Y63 fn fun l nm ap=>on0 kws (nm==mtN m&&Zr3 l&&ap.endLine==cp.line&&decide (ls.length<30)&&chkE k o l&&R9 k es ls)
 | .comp N' js tg it cd e,ex=>onLC ex fun el gens scope=>on1 gens fun g=>match g with
  | ⟨t,iter,ifs,as⟩=>onZ as (k.calm&&Tv k.sc k.N N' js scope&&Zg7 iter&&Yc2 k it iter&&decide N'.Nodup&&
   C1 {k with N:=N',sc:=Wr scope k.sc,cells:=false,own:=Bb scope,tries:=false,raises:=[]} tg t&&chkC {k with N:=N',sc:=Wr scope k.sc,cells:=false,own:=Bb scope,tries:=false,raises:=[]} cd ifs&&chkE {k with N:=N',sc:=Wr scope k.sc,cells:=false,own:=Bb scope,tries:=false,raises:=[]} e el&&itTg it t)
 | _,_=>false
noncomputable def R9(k:Ck):Es→List Expr→Bool
 | .nil,[]=>true
 | .cons e r,x::xs=>chkE k e x&&Xr x&&R9 k r xs
 | _,_=>false
noncomputable def chkO(k:Ck):Eo→Option Expr→Bool
 | .no,none=>true
 | .yes e,some x=>chkE k e x
 | _,_=>false
noncomputable def chkC(k:Ck):Eo→List Expr→Bool
 | .no,[]=>true
 | .yes e,[x]=>chkE k e x&&noIf e
 | _,_=>false
noncomputable def Yc2(k:Ck):It→Expr→Bool
 | .seq e,x=>chkE k e x
 | .rng1 a,ex=>Pn ex fun fn ls kws _=>S4 fn fun x=>on0 kws (on1 ls fun l=>x==("range":Str)&&k.glob x&&k.BN.contains x&&Xr l&&chkE k a l)
 | .rng2 a b,ex=>Pn ex fun fn ls kws _=>S4 fn fun x=>on0 kws (onC ls fun l ls=>on1 ls fun r=>x==("range":Str)&&k.glob x&&k.BN.contains x&&Xr l&&Xr r&&chkE k a l&&chkE k b r)
 | .enm e,ex=>Pn ex fun fn ls kws _=>S4 fn fun x=>on0 kws (on1 ls fun l=>x==("enumerate":Str)&&k.glob x&&k.BN.contains x&&Xr l&&chkE k e l)
 | .zip _,_=>false
noncomputable def noIf:E→Bool
 | .ife _ _ _=>false
 | .not a=>noIf a
 | .bop _ es=>Zb4 es
 | _=>true
noncomputable def Zb4:Es→Bool
 | .nil=>true
 | .cons e r=>noIf e&&Zb4 r
end
def Zt8(X:Cx)(x:Str)(sp:DSp):Prop:=
 ∃(kk:Nat) (f:Addr) (fd:FuncData) (ps:List Str) (ds:List Value) (dvs:List V) (dD:List D) (sp0:DSp),FnOk X.prog X.w X.K X.mg X.base (CX1 X.prog X.w) kk f fd ps (spF X.K sp0)∧Room kk X.A∧X.mg x=some (.ref f)∧Hi X.K (.ref f)=true∧
  Od X.K fd ps ds∧Vals dvs ds∧(∀w:Vw,w.K=X.K→RDs w dD dvs)∧∀as M Q Z,sp as M Q Z→sp0 (as++dD) M Q Z
structure Good(c:Cfg)(k:Ck)(Z:DX)(w0:Vw)(X:Cx):Prop where
 hK:X.K=c.K
 wK:w0.K=c.K
 N:X.N=k.N
 nd:X.N.Nodup
 sc:X.env.scope=k.sc
 calm:k.calm=true→X.calm=true
 units:X.A.units+64<cLine
 fns:k.calm=true→∀(f:Nat) (x:Str) (sp:DSp),k.FN[f]?=some x→c.Γ[f]?=some sp→Zt8 X x sp
 flen:k.FN.length=c.Γ.length
 glb:∀(g:Nat) (x:Str) (d:D),k.GN[g]?=some x→c.G[g]?=some d→∃v u,X.mg x=some u∧RelV v u∧∀w:Vw,w.K=X.K→RD w d v
 blt:∀x,x∈k.BN→X.mg x=none
 exc:∃E,Z17 (CX1 X.prog X.w) X E∧∀cls dd H',xkOf w0 Z cls dd H'→E cls dd H'
 stk:k.tries=true→X.stack=X.env::X.outer∧X.env.frame=some X.env.locals
 po:k.loops=true→PassesOwn (model X.prog X.w) X.A X.env X.xe
 fnc:k.cells=true→∀x,X.fn x=true
 fno:∀x,x∈k.own→X.fn x=true
theorem Zp0{w w':Vw}{Z:DX}{cls:Value}{dd:Option Addr}{H':Hp}(x:Ext w w')(h:xkOf w' Z cls dd H'):xkOf w Z cls dd H':=by
 obtain⟨C,dx,r,w2,row,M,e1,e2,e3,e4,h5⟩:=h
 exact⟨C,dx,r,w2,row,M,e1,e2,e3,x.trans e4,h5⟩
def ttD(f:DE):DT:=fun σ M Q=>f σ M fun x M1=>truD M1 x fun b=>Q b M1
section
variable{c:Cfg}{k:Ck}{Z:DX}{w0:Vw}{X:Cx}
theorem Good.gl(G:Good c k Z w0 X){x:Str}(h:k.glob x=true):Gl X x∧(x==("__debug__":Str))=false∧x≠"__name__":=by
 unfold Ck.glob at h
 simp only[Bz9,beq_iff_eq,Bool.not_eq_true',beq_eq_false_iff_ne] at h
 refine⟨?_,by simpa using h.1.2,h.2⟩
 unfold Gl Env.kindOf
 rw[G.sc];exact h.1.1
theorem Good.vis(G:Good c k Z w0 X){x:Str}(h:k.vis x=true):Vis X.env.scope x∧(x==("__debug__":Str))=false∧(x==("__classdict__":Str))=false:=by
 unfold Ck.vis at h
 simp only[Bz9,beq_iff_eq,Bool.not_eq_true',Bool.or_eq_true] at h
 refine⟨?_,h.1.2,h.2⟩
 unfold Vis
 rw[G.sc]
 rcases h.1.1 with(q | q) | q
 ·exact .inl q
 ·exact .inr (.inl q)
 ·exact .inr (.inr q)
theorem Good.locC(G:Good c k Z w0 X){x:Str}(h:k.locC x=true):Loc X.env.scope x∧(X.fn x=true∨X.env.scope.names.lookup x=some .local):=by
 unfold Ck.locC Ck.loc at h
 rw[Bool.or_eq_true,Bz9] at h
 rcases h with h | ⟨h1,h2⟩
 ·have hl:X.env.scope.names.lookup x=some .local:=by rw[G.sc];exact Kj h
  exact⟨.inl hl,.inr hl⟩
 ·refine⟨.inr (by rw[G.sc];exact Kj h2),.inl ?_⟩
  rw[Bool.or_eq_true,Du] at h1
  rcases h1 with z | z
  ·exact G.fnc z x
  ·exact G.fno x z
theorem Good.eK(G:Good c k Z w0 X):X.K=w0.K:=G.hK.trans G.wK.symm
theorem StOk.K{w w0:Vw}{σD:DEnv}{M:Z2}{σ:L2.St}{H:Hp}(S:StOk w0 w σD M σ H):w.K=w0.K:=S.ext.K
theorem Zw{f:DE}{σ:L2.St}{w:Vw}{σD:DEnv}{M:Z2}{H:Hp}{Q:VK}{QD:DK}(S:StOk w0 w σD M σ H)(h:f σD M QD)(a:Aft w QD Q):tF w0 f σ H Q:=⟨w,σD,M,QD,S,h,a⟩
theorem Ev{l:Expr}{nm:Str}{env:Env}(h:Zr3 l=true):attributeBase l nm env (eval l env)=eval l env:=by
 unfold attributeBase
 split
 ·rename_i id np pos
  have:(id !="super" || nm=="__class__" || env.kindOf "super" !=some .globalImplicit || env.kindOf "__class__" !=some .free)=true:=by
   have:(id !=("super":Str))=true:=h
   rw[this];rfl
  simp only[this,if_true]
 ·rfl
theorem Zh{x:Expr}{xs:List Expr}{env:Env}(h:Xr x=true):starEach (x::xs) env=(false,eval x env)::starEach xs env:=by
 cases x<;>first | rfl | cases h
theorem V6{k:Ck}{env:Env}:∀(es:Es) (xs:List Expr),R9 k es xs=true→(starEach xs env).all (fun p=> !p.1)=true
 | .nil,[],_=>rfl
 | .nil,_::_,h=>absurd h Bf9
 | .cons e r,[],h=>absurd h Bf9
 | .cons e r,x::xs,h=>by
  simp only[R9,Bz9] at h
  rw[Zh h.1.2]
  simp only[Lq,Bool.not_false,Bool.true_and]
  exact V6 r xs h.2
theorem J3{pos:Pos}{l:List (Bool×Sem Value)}(h:l.all (fun p=> !p.1)=true):(backTo pos l).any (·.1)=false:=by
 induction l with
 | nil=>rfl
 | cons p r ih=>
  simp only[Lq,Bz9,Bool.not_eq_true'] at h
  show(p.1 || (backTo pos r).any (·.1))=false
  rw[h.1,ih h.2];rfl
theorem Zu0{pos:Pos}{l:List (Bool×Sem Value)}(h:l.all (fun p=> !p.1)=true):(backTo pos l).all (fun x=> !x.1)=true:=by
 induction l with
 | nil=>rfl
 | cons p r ih=>
  simp only[Lq,Bz9] at h
  show((!p.1)&&(backTo pos r).all (fun x=> !x.1))=true
  rw[h.1,ih h.2];rfl
theorem Yt3{f:DE}{ex:Expr}(G:Good c k Z w0 X)(h:PE X ex (tF w0 f))(he:∀whole,isTrue ex X.env whole=(do let v ←whole;standAt ex.pos;holding [v] (truthy v))):PT X ex (tFT w0 (ttD f)):=by
 refine PT.imp (Zw8 h he) fun σ H Q zz68=>?_
 obtain⟨w,σD,M,QD,S,g,a⟩:=zz68
 refine Zw S g fun v w' d M' x r rd q=>?_
 obtain⟨b,t1,t2⟩:=To (K:=X.K) (by rw[x.K,S.K,G.eK]) r rd q
 exact⟨b,t1,a b w' M' x r t2⟩
theorem Yc1{f:DE}{ex:Expr}(h:PT X ex (Yr8 (tF w0 f)))(hb:∀σD M QD,f σD M QD→f σD M fun d M'=>(∃b,d= .bl b)∧QD d M'):PT X ex (tFT w0 (ttD f)):=by
 refine PT.imp h fun σ H Q zz69=>?_
 obtain⟨w,σD,M,QD,S,g,a⟩:=zz69
 refine Zw S (hb _ _ _ g) fun v w' d M' x r rd q=>?_
 obtain⟨⟨b,rfl⟩,q⟩:=q
 cases Xj.mp rd
 exact⟨b,rfl,a b w' M' x r q⟩
theorem Zo2{fa fb:DE}{g:D→D→Z2→DK→Prop}{σ:L2.St}{H:Hp}{Q:VK}(h:tF w0 (fun σD M QD=>fa σD M fun x M1=>fb σD M1 fun y M2=>g x y M2 QD) σ H Q):tOp (rF w0 g) (tF w0 fa) (tF w0 fb) σ H Q:=by
 obtain⟨w,σD,M,QD,S,g0,a⟩:=h
 refine Zw S g0 fun x w1 dx M1 x1 r1 rx q1=>?_
 refine Zw (S.next x1 r1) q1 fun y w2 dy M2 x2 r2 ry q2=>?_
 exact⟨w2,M2,dx,dy,QD,rfl,(S.ext.trans x1).trans x2,r2,rx.ext x2,ry,q2,a.ext (x1.trans x2)⟩
theorem Ey{fa fb:DE}{g:Z2→D→D→(Bool→Prop)→Prop}{σ:L2.St}{H:Hp}{Q:VK}(h:tF w0 (fun σD M QD=>fa σD M fun x M1=>fb σD M1 fun y M2=>g M2 x y fun b=>QD (.bl b) M2) σ H Q):tOp (rB w0 g) (tF w0 fa) (tF w0 fb) σ H Q:=by
 obtain⟨w,σD,M,QD,S,g0,a⟩:=h
 refine Zw S g0 fun x w1 dx M1 x1 r1 rx q1=>?_
 refine Zw (S.next x1 r1) q1 fun y w2 dy M2 x2 r2 ry q2=>?_
 exact⟨w2,M2,dx,dy,_,rfl,((S.ext.trans x1).trans x2).K,r2,rx.ext x2,ry,q2,fun b hb=>a _ w2 _ M2 (x1.trans x2) r2 (Xj.mpr rfl) hb⟩
theorem Yb3{a:Expr}{ta:TE}{pos:Pos}(ha:PE X a ta):PE X (.UnaryOp .Not a pos) (fun σ H Q=>ta σ H fun x H1=>∃b,TruV X.K x H1 b∧Q (.bl (!b)) H1):=by
 intro pins s σ H Q I h
 refine UnaryOp_ (thn (ha pins s σ H _ I h) fun v s1 zz70=>?_)
 obtain⟨x,H1,I1,r1,q1⟩:=zz70
 refine not_of (thn (Z20 pins s1 σ H1 x v (fun b H2=>Q (.bl (!b)) H2) I1 r1 q1) fun b s2 zz71=>by obtain⟨H2,I2,q2⟩:=zz71;exact⟨.bl (!b),H2,I2,rfl,q2⟩)
theorem Yg6(t:Ty):bootBuiltins (Str.ofString (Yk t))=some (.type (Yk t)):=by
 cases t
 ·exact boot_int
 ·exact boot_str
 ·exact boot_bool
 ·exact boot_list
 ·exact boot_tuple
 ·exact boot_dict
 ·show bootBuiltins "ValueError"=some (.type "ValueError")
  decide+kernel
theorem O0:bootBuiltins "sorted"=some (.builtin "sorted"):=by decide+kernel
theorem Z29:bootBuiltins "set"=some (.type "set"):=by decide+kernel
theorem Yf7(b:Bf):bootBuiltins (bfOf b).1=some (bfOf b).2:=by
 cases b<;>first | exact PySem.boot_len | exact boot_isinstance | exact PyProof.Rows.boot_min | exact PyProof.Rows.boot_max | exact boot_list | exact boot_tuple | exact boot_dict | exact boot_str | exact O0 | exact boot_int
end
def JOk(w1:Vw)(J:L2.It)(own:Own)(xs:List D):Prop:=∀w M,Ext w1 w→RS w M→J9 own xs M→∀i:Nat,
 (∀d,xs[i]?=some d→J.go i w.H∧∀x H',J.yld i w.H x H'→∃w',w'.H=H'∧Ext w w'∧RS w' M∧RD w' d x)∧(xs.length≤i→J.stop i w.H)
def iF(w0:Vw)(f:DEnv→Z2→(Own→List D→Z2→Prop)→Prop):TI:=fun σ H R=>∃w σD M QD,StOk w0 w σD M σ H∧f σD M QD∧
 ∀J w' own xs M',Ext w w'→RS w' M'→JOk w' J own xs→QD own xs M'→R J w'.H
section
variable{c:Cfg}{k:Ck}{Z:DX}{w0:Vw}{X:Cx}
theorem PI.imp{tg it:Expr}{t t':TI}(h:PI X tg it t)(q:∀σ H R,t' σ H R→t σ H R):PI X tg it t':=fun pins s σ H R I z=>h pins s σ H R I (q σ H R z)
theorem Yk7{tg l:Expr}{tl:TE}(hl:PE X l tl):PI X tg l (fun σ H R=>tl σ H fun x H1=>(∃a,x= .ref a∧(∃xs,SqL X.K H1 a xs)∧R (Itl X.K a) H1)∨∃a,x= .ref a∧(∃xs,SqT X.K H1 a xs)∧R (Itt X.K a) H1):=by
 intro pins s σ H R I h
 refine thn (hl pins s σ H _ I h) fun v s1 zz72=>?_
 obtain⟨x,H1,I1,r1,q1⟩:=zz72
 have fp:∀b∈[s1.heap.objs.size],FpOk X pins H1 b:=fun b hb=>by
  have e:b=s1.heap.objs.size:=by simpa using hb
  subst e
  exact I1.fpOk (Nat.le_refl _) (I1.hok.fresh (Nat.le_refl _))
 rcases q1 with⟨a,e,⟨xs,hq⟩,q⟩ | ⟨a,e,⟨xs,hq⟩,q⟩
 ·subst e
  cases r1
  obtain⟨its,rv,p,hz⟩:=I1.list hq
  refine wpAny_pyIter_list p.isList ?_
  exact⟨s1.heap.objs.size,[s1.heap.objs.size],_,_,H1,rfl,I1.kept (t':=s1.toks) fun b o e=>Ag _ e,Zj4 a _,⟨_,Ar _ rfl,rfl,rfl⟩,fp,q⟩
 ·subst e
  cases r1
  obtain⟨its,rv,p,hz⟩:=I1.tuple hq
  refine wpAny_pyIter_tuple (show s1.heap.IsTuple a its.toArray from p) ?_
  exact⟨s1.heap.objs.size,[s1.heap.objs.size],_,_,H1,rfl,I1.kept (t':=s1.toks) fun b o e=>Ag _ e,Z90 a _,⟨_,Ar _ rfl,rfl,rfl⟩,fp,q⟩
theorem Zv1{w1:Vw}{n:Nat}{xs:List D}(hK:X.K=w1.K)(hn:n<w1.n):JOk w1 (Itl X.K (w1.μ n)) (.lst n) xs:=by
 intro w M x R st i
 obtain⟨_,vs,q1,q2,_⟩:=R.listL st
 rw[x.μ n hn,x.K,←hK] at q1
 refine⟨fun d e=>?_,fun hl=>⟨vs,q1,by rw[q2.length];exact hl⟩⟩
 obtain⟨v,z1,z2⟩:=q2.get e
 refine⟨⟨vs,v,q1,z1⟩,fun y H' ⟨e1,e2⟩=>⟨w,e1.symm,Ext.refl w,R,?_⟩⟩
 have:=e2 vs q1
 rw[z1] at this
 cases this
 exact z2
theorem Y12{w1:Vw}{n:Nat}{xs:List D}(hK:X.K=w1.K)(hn:n<w1.n):JOk w1 (Ite X.K (w1.μ n)) (.enm n) xs:=by
 intro w M x R st i
 obtain⟨ys,st,rfl⟩:=st
 obtain⟨_,vs,q1,q2,_⟩:=R.listL st
 rw[x.μ n hn,x.K,←hK] at q1
 refine⟨fun d e=>?_,fun hl=>⟨vs,q1,by rw[q2.length];unfold Fj at hl;rw[List.length_mapIdx] at hl;exact hl⟩⟩
 unfold Fj at e
 rw[List.getElem?_mapIdx,Di] at e
 obtain⟨d,e,rfl⟩:=e
 obtain⟨v,z1,z2⟩:=q2.get e
 refine⟨⟨vs,v,q1,z1⟩,fun y H' zz74=>?_⟩
 obtain⟨p,u,hp,e1,e2,e3⟩:=zz74
 have:=e3 vs q1
 rw[z1] at this
 cases this
 subst e1 e2
 obtain⟨a1,a2,a3⟩:=Qr R hp (RDs.cons (Zd.mpr (rfl:V.int (i:Int)=_)) (RDs.cons z2 (RDs.nil w)))
 exact⟨_,rfl,a1,a2,a3⟩
theorem Ze4{w1:Vw}{a:Addr}{vs:List V}{xs:List D}(hK:X.K=w1.K)(h:SqT w1.K w1.H a vs)(r:RDs w1 xs vs):JOk w1 (Itt X.K a) .no xs:=by
 intro w M x R st i
 have q1:=x.sqT h
 rw[x.K,←hK] at q1
 have q2:=r.ext x
 refine⟨fun d e=>?_,fun hl=>⟨vs,q1,by rw[q2.length];exact hl⟩⟩
 obtain⟨v,z1,z2⟩:=q2.get e
 refine⟨⟨vs,v,q1,z1⟩,fun y H' ⟨e1,e2⟩=>⟨w,e1.symm,Ext.refl w,R,?_⟩⟩
 have:=e2 vs q1
 rw[z1] at this
 cases this
 exact z2
theorem Zn8{w1:Vw}{lo:Int}{n:Nat}:JOk w1 (Itr lo n) .no (Oj lo n):=by
 intro w M x R st i
 unfold Oj
 refine⟨fun d e=>?_,fun hl=>?_⟩
 ·rw[Aj,Di] at e
  obtain⟨j,h1,rfl⟩:=e
  obtain⟨h2,h3⟩:=Ac.mp h1
  have hj:j=i:=by simpa using h3.symm
  subst hj
  have h4:j<n:=by simpa using h2
  exact⟨h4,fun y H' zz76=>by obtain⟨e1,e2⟩:=zz76;exact⟨w,e1.symm,Ext.refl w,R,by rw[e2];exact Zd.mpr rfl⟩⟩
 ·have:n≤i:=by simpa using hl
  exact this
theorem Zj2{X:Cx}{N':List Str}{scope:Scope}{cl:List (Str×Addr)}{C:Addr}{fp:List Addr}{pins:List (Addr×Obj)}{s:Shared}{H:Hp}:(cxC X N' scope cl C fp pins s H).env.scope=Wr scope X.env.scope:=rfl
theorem Good.block(G:Good c k Z w0 X)(hc:k.calm=true){N':List Str}{scope:Scope}(hn:N'.Nodup)(cl:List (Str×Addr))(C:Addr)(fp:List Addr)(pins:List (Addr×Obj))(s:Shared)(H:Hp):
  Good c {k with N:=N',sc:=Wr scope k.sc,cells:=false,own:=Bb scope,tries:=false,raises:=[]} noX w0 (cxC X N' scope cl C fp pins s H) where
 hK:=G.hK
 wK:=G.wK
 N:=rfl
 nd:=hn
 sc:=by rw[Zj2,G.sc]
 calm:=fun _=>G.calm hc
 units:=G.units
 fns:=fun _ f x sp h1 h2=>by
  obtain⟨kk,f,fd,ps,ds,dvs,dD,sp0,h⟩:=G.fns hc f x sp h1 h2
  exact⟨kk,f,fd,ps,ds,dvs,dD,sp0,h⟩
 flen:=G.flen
 glb:=G.glb
 blt:=G.blt
 exc:=⟨E0,fun _ _ _ _ _ _ _ h=>by
  obtain⟨_,_,_,_,_,_,_,_,_,_,_,_,_,_,_,h⟩:=h
  exact h.elim,fun cls dd H' h=>by
  obtain⟨_,_,_,_,_,_,_,_,_,_,_,_,_,h⟩:=h
  exact h.elim⟩
 stk:=fun h=>by cases h
 po:=fun _=>PassesOwn.never
 fnc:=fun h=>by cases h
 fno:=fun x hx=>by
  show(scope.names.any fun y=>y.1==x&&y.2==Hj)=true
  have hx:x∈(scope.names.filter fun y=>y.2==Hj).map (·.1):=hx
  obtain⟨y,hy,rfl⟩:=Dc.mp hx
  obtain⟨h1,h2⟩:=Ku.mp hy
  rw[Lf]
  exact⟨y,h1,by rw[beq_self_eq_true,Bool.true_and];exact h2⟩
theorem Good.tgt(G:Good c k Z w0 X):∀(is:List Nat) (ex:Expr),C1 k is ex=true→PG X ex (gF w0 is):=by
 have one:∀(i:Nat) (x:Str) (pos:Pos),k.N[i]?=some x→k.locC x=true→PG X (.Name x pos) (Zx1 i):=fun i x pos h1 h2=>by
  obtain⟨l1,l2⟩:=G.locC h2
  exact Yi4 G.nd (by rw[G.N];exact h1) l1 l2
 have many:∀(is:List Nat) (es:List Expr),Yh8 k is es=true→PGs X es (gAll is)∧(assignEach es X.env).length=is.length∧(assignEach es X.env).findIdx? (·.1)=none:=by
  intro is
  induction is with
  | nil=>
   intro es h
   cases es with
   | nil=>exact⟨Yi8,rfl,rfl⟩
   | cons e es=>exact absurd h Bf9
  | cons i is ih=>
   intro es h
   cases es with
   | nil=>exact absurd h Bf9
   | cons e es=>
    cases e with
    | Name x pos=>
     change (_&&_)=true at h
     simp only[Bz9,beq_iff_eq] at h
     obtain⟨h1,h2,h3⟩:=ih es h.2
     refine⟨Zv7 (one i x pos h.1.1 h.1.2) h1 rfl,?_,?_⟩
     ·show(assignEach es X.env).length+1=is.length+1
      rw[h2]
     ·show((false,_)::assignEach es X.env).findIdx? (·.1)=none
      rw[List.findIdx?_cons,h3]
      rfl
    | _=>exact absurd h Bf9
 intro is ex h
 cases ex with
 | Name x pos=>
  match is,h with
  | [i],h=>
   change (_&&_)=true at h
   simp only[Bz9,beq_iff_eq] at h
   exact Yl4 (one _ x pos h.1 h.2)
  | [],h=>exact absurd h Bf9
  | _::_::_,h=>exact absurd h Bf9
 | Tuple es kk pos=>
  change (_&&_)=true at h
  simp only[Bz9,decide_eq_true_eq] at h
  obtain⟨h1,h2,h3⟩:=many is es h.2
  exact Yg0 h.1.2 (Ym6 (G.calm h.1.1) h1 h2 h3)
 | _=>exact absurd h Bf9
theorem Yg8{w:Vw}{js:List (Option Nat)}{σD:DEnv}{σ:L2.St}(h:REnv w σD σ):REnv w (capD js σD) (Sw js σ):=by
 refine⟨by unfold capD Sw;simp,fun i d e=>?_⟩
 unfold capD at e
 unfold Sw
 rw[Aj] at e ⊢
 cases hj:js[i]? with
 | none=>rw[hj] at e;cases e
 | some o=>
  rw[hj] at e
  simp only[Option.map_some,Option.some.injEq] at e ⊢
  cases o with
  | none=>cases e
  | some j=>
   simp only[Ka] at e ⊢
   cases hz:σD[j]? with
   | none=>rw[hz] at e;cases e
   | some z=>
    rw[hz] at e
    have e':z=some d:=e
    subst e'
    obtain⟨v,q1,q2⟩:=h.2 j d hz
    exact⟨v,by rw[q1];rfl,q2⟩
theorem Zw9{w1:Vw}{J:L2.It}{own:Own}{xs:List D}{tg:List Nat}{cd:DT}{el:DE}{M1:Z2}{H1:Hp}{σD:DEnv}{σ:L2.St}{QD:Z2→Prop}{Q:VK}(e0:Ext w0 w1)(hH:w1.H=H1)(R1:RS w1 M1)(env:REnv w1 σD σ)(jk:JOk w1 J own xs)
  (h:Fn own xs tg cd el M1.length xs σD (M1++[.lst []]) QD) (a:Aft w1 (fun d M=>d= .ref M1.length∧QD M) Q):∀p,H1 p=none→∃W:Nat→Nat→L2.St→Hp→Prop,(∃m,W 0 m σ (upd H1 p (.lst [])))∧
   ∀i m σc Hc,W i m σc Hc→(J.stop i Hc∧Q (.ref p) Hc)∨(J.go i Hc∧∀x H',J.yld i Hc x H'→gF w0 tg x σc H' fun σ2 H2=>tFT w0 cd σ2 H2 fun b H3=>if b=true then tF w0 el σ2 H3 fun y H4=>∃acc,H4 p=some (.lst acc)∧acc.length<sizeLine∧
    ∃m',m'<m∧W (i+1) m' σ2 (upd H4 p (.lst (acc++[y]))) else ∃m',m'<m∧W (i+1) m' σ2 H3):=by
 intro p hp
 subst hH
 obtain⟨x1,R2,rz⟩:=Ys (xs:=[]) R1 hp (RDs.nil w1)
 have hz:M1.length< (w1.push p (.lst [])).n∧p=(w1.push p (.lst [])).μ M1.length:=by
  obtain⟨z1,z2⟩:=Zp.mp rz
  exact⟨z1,by injection z2⟩
 refine⟨fun i m σc Hc=>∃w σE M,StOk w0 w σE M σc Hc∧Ext (w1.push p (.lst [])) w∧i≤xs.length∧m=xs.length - i∧Fn own xs tg cd el M1.length (xs.drop i) σE M QD,⟨xs.length,w1.push p (.lst []),σD,_,⟨rfl,e0.trans x1,R2,env.ext x1⟩,Ext.refl _,Nat.zero_le _,rfl,h⟩,?_⟩
 rintro i m σc Hc ⟨w,σE,M,S,x2,hi,rfl,hc⟩
 have x12:Ext w1 w:=x1.trans x2
 have hp':w.μ M1.length=p:=(x2.μ _ hz.1).trans hz.2.symm
 have hlt:M1.length<w.n:=Nat.lt_of_lt_of_le hz.1 x2.n
 have stp:∀st:J9 own xs M,_:=fun st=>jk w M x12 S.rs st i
 rw[S.heap] at stp
 by_cases hil:i<xs.length
 ·rw[Ke hil] at hc
  obtain⟨st,hc⟩:=hc
  obtain⟨j1,j2⟩:=(stp st).1 xs[i] (Aa hil)
  refine .inr ⟨j1,fun x H' hy=>?_⟩
  obtain⟨w3,rfl,x3,R3,rd3⟩:=j2 x H' hy
  refine⟨w3,σE,M,xs[i],_,⟨rfl,S.ext.trans x3,R3,S.env.ext x3⟩,rd3,hc,fun σ2 σE2 env2 q2=>?_⟩
  refine⟨w3,σE2,M,_,⟨rfl,S.ext.trans x3,R3,env2⟩,q2,fun b w4 M4 x4 R4 q4=>?_⟩
  cases b with
  | true=>
   rw[if_pos rfl] at q4 ⊢
   refine Zw ⟨rfl,(S.ext.trans x3).trans x4,R4,env2.ext x4⟩ q4 fun y w5 dy M5 x5 R5 rd5 q5=>?_
   obtain⟨acc,g1,g2,g3⟩:=q5
   obtain⟨hn,vs,z1,z2⟩:=R5.list g1
   have x35:Ext w w5:=(x3.trans x4).trans x5
   have hp5:w5.μ M1.length=p:=(x35.μ _ hlt).trans hp'
   obtain⟨y1,y2⟩:=Xa R5 hn z1 (z2.append (RDs.cons rd5 (RDs.nil w5)))
   rw[hp5] at z1 y1 y2
   refine⟨vs,z1,by rw[z2.length];exact g2,xs.length - (i+1),by omega,w5.alloc p (.lst (vs++[y])),σE2,_,⟨rfl,(S.ext.trans x35).trans y1,y2,(env2.ext (x4.trans x5)).ext y1⟩,(x2.trans x35).trans y1,hil,rfl,g3⟩
  | false=>
   rw[if_neg Bf9] at q4 ⊢
   exact⟨xs.length - (i+1),by omega,w4,σE2,M4,⟨rfl,(S.ext.trans x3).trans x4,R4,env2.ext x4⟩,(x2.trans x3).trans x4,hil,rfl,q4⟩
 ·rw[List.drop_eq_nil_of_le (by omega)] at hc
  obtain⟨st,hq⟩:=hc
  refine .inl ⟨(stp st).2 (by omega),?_⟩
  have:=a (.ref p) w (.ref M1.length) M x12 S.rs (Zp.mpr ⟨hlt,by rw[hp']⟩) ⟨rfl,hq⟩
  rw[S.heap] at this
  exact this
end
def Y51(c:Cfg)(e:E):Prop:=∀(k:Ck) (Z:DX) (w0:Vw) (X:Cx) (ex:Expr),Good c k Z w0 X→chkE k e ex=true→PE X ex (tF w0 (te c Z e))∧(noIf e=true→PT X ex (tFT w0 (ttD (te c Z e))))
def Y72(c:Cfg)(es:Es):Prop:=∀(k:Ck) (Z:DX) (w0:Vw) (X:Cx) (ls:List Expr),Good c k Z w0 X→R9 k es ls=true→PA X ls (tFA w0 (tes c Z es))∧
 ∀(b:Bool) (pos:Pos),PE X (.BoolOp (if b then .And else .Or) ls pos) (tF w0 (tbop c Z b es))∧(Zb4 es=true→PW X (.BoolOp (if b then .And else .Or) ls pos) (tFT w0 (ttD (tbop c Z b es))))
def Y48(c:Cfg)(eo:Eo):Prop:=(∀(k:Ck) (Z:DX) (w0:Vw) (X:Cx) (lo:Option Expr),Good c k Z w0 X→chkO k eo lo=true→PO X lo (tFO w0 (teo c Z eo)))∧
 ∀(k:Ck) (Z:DX) (w0:Vw) (X:Cx) (ls:List Expr),Good c k Z w0 X→chkC k eo ls=true→(∃x,ls=[x]∧PT X x (tFT w0 (tcd c Z eo)))∨(ls=[]∧eo= .no)
def Yp2(c:Cfg)(it:It):Prop:=∀(k:Ck) (Z:DX) (w0:Vw) (X:Cx) (tg ex:Expr),Good c k Z w0 X→Yc2 k it ex=true→itTg it tg=true→PI X tg ex (iF w0 (tit c Z it))
section
variable{c:Cfg}{k:Ck}{Z:DX}{w0:Vw}{X:Cx}
theorem Oy{d:D}{v:V}{σ:L2.St}{H:Hp}{Q:VK}(hv:∀w:Vw,w.K=w0.K→RD w d v)(h:tF w0 (fun _ M Q=>Q d M) σ H Q):tC v σ H Q:=by
 obtain⟨w,σD,M,QD,S,g,a⟩:=h
 have:=a v w d M (Ext.refl w) S.rs (hv w S.K) g
 rw[S.heap] at this
 exact this
theorem both{f:DE}{ex:Expr}{b:Bool}(G:Good c k Z w0 X)(h:PE X ex (tF w0 f))(he:∀whole,isTrue ex X.env whole=(do let v ←whole;standAt ex.pos;holding [v] (truthy v))):
  PE X ex (tF w0 f)∧(b=true→PT X ex (tFT w0 (ttD f))):=⟨h,fun _=>Yt3 G h he⟩
theorem Za8{f:Nat}{es:Es}{x:Str}{np pos:Pos}{ls:List Expr}(G:Good c k Z w0 X)(hc:k.calm=true)(hf:k.FN[f]?=some x)(hg:k.glob x=true)(hs:R9 k es ls=true)(ih:PA X ls (tFA w0 (tes c Z es))):
  PE X (.Call (.Name x np) ls [] pos) (tF w0 (te c Z (.call f es))):=by
 obtain⟨g1,g2,g3⟩:=G.gl hg
 obtain⟨E,ps,xk⟩:=G.exc
 cases hsp:c.Γ[f]? with
 | none=>
  have h1:=(Ac.mp hf).1
  have h2:=List.getElem?_eq_none_iff.mp hsp
  rw[G.flen] at h1
  omega
 | some sp=>
  obtain⟨kk,fa,fd,pr,ds,dvs,dD,sp0,F,hr,hm,hk,hb,hd,hD,hsp0⟩:=G.fns hc f x sp hf hsp
  have key:∀σ H Q,tF w0 (te c Z (.call f es)) σ H Q→tFA w0 (tes c Z es) σ H fun vs H1=>spF X.K sp0 (vs++dvs) H1 Q E:=by
   rintro σ H Q ⟨w,σD,M,QD,S,g,a⟩
   refine⟨w,σD,M,_,S,g,fun vs w' ds' M' x' r' rd' q'=>?_⟩
   have q':sp ds' M' QD Z:=by
    have:=q'
    simp only[hsp] at this
    exact this
   have hKw:w'.K=X.K:=by rw[x'.K,S.K,G.eK]
   exact⟨w',ds'++dD,M',QD,Z,hKw,rfl,r',rd'.append (hD w' hKw),hsp0 _ _ _ _ q',a.ext x',fun cls dd H' hx=>xk cls dd H' (Zp0 (S.ext.trans x') hx)⟩
  cases ls with
  | nil=>
   refine PE.imp (Zy8 F hr g1 hm hk hb hd ps g2) fun σ H Q h=>?_
   have h2:=key σ H Q h
   obtain⟨w,σD,M,QD,S,g,a⟩:=h2
   cases es with
   | nil=>
    have:=a [] w [] M (Ext.refl w) S.rs (RDs.nil w) g
    rw[S.heap] at this
    exact this
   | cons e r=>exact absurd hs Bf9
  | cons l ls=>
   cases es with
   | nil=>exact absurd hs Bf9
   | cons e r=>
    change (_&&_)=true at hs
    simp only[Bz9] at hs
    exact PE.imp (Y95 F hr g1 hm hk hb hd ps ih g2 (Zh hs.1.2) (J3 (V6 r ls hs.2))) key
theorem Eu{w:Vw}:∀{ds:List (Key×D)} {vs:List (Key×V)},RKV w ds vs→RDs w (Zh2 ds) (vs.map fun q=>kV q.1)
 | [],vs,h=>by unfold RKV at h;subst h;exact RDs.nil w
 |(k,d)::ds,vs,h=>by
  unfold RKV at h
  obtain⟨v,r,rfl,h1,h2⟩:=h
  refine RDs.cons ?_ (Eu h2)
  cases k with
  | inl i=>exact Zd.mpr rfl
  | inr x=>exact Zt.mpr rfl
theorem Cg{a:E}{x:Str}{p1 q1:Pos}{l:Expr}(G:Good c k Z w0 X)(hc:k.calm=true)(hx:x=("list":Str))(hg:k.glob x=true)(hB:x∈k.BN)(hl:Xr l=true)(ih:PE X l (tF w0 (te c Z a))):
  PE X (.Call (.Name x p1) [l] [] q1) (tF w0 (te c Z (.lkeys a))):=by
 obtain⟨g1,g2,g3⟩:=G.gl hg
 refine PE.imp (Tp (Z93 (X:=X) (G.calm hc)) g1 (G.blt _ hB) (by rw[hx];exact boot_list) (Xh ih Vy (Zh hl)) g3 g2 (Zh hl) rfl) fun σ H Q zz77=>?_
 obtain⟨w,σD,M,QD,S,g,aq⟩:=zz77
 refine Zw S g fun x w1 dx M1 x1 r1 rx q1=>?_
 obtain⟨n,rfl,kvs,e1,q2⟩:=Yz q1
 obtain⟨hn,rfl⟩:=Zp.mp rx
 obtain⟨_,vs,z1,z2⟩:=r1.dict e1
 refine⟨w1.μ n,vs,rfl,z1,fun p hp=>?_⟩
 obtain⟨y1,y2,y3⟩:=Ys r1 hp (Eu z2)
 exact aq _ _ _ _ (x1.trans y1) y2 y3 q2
theorem te_var{i:Nat}{σ:DEnv}{M:Z2}{Q:DK}:te c Z (.var i) σ M Q=(match σ[i]? with | some (some d)=>Q d M | _=>False):=rfl
theorem te_glb{g:Nat}{σ:DEnv}{M:Z2}{Q:DK}:te c Z (.glb g) σ M Q=(match c.G[g]? with | some d=>Q d M | none=>False):=rfl
theorem Zi5{i:Nat}{x:Str}{pos:Pos}(G:Good c k Z w0 X)(h1:k.N[i]?=some x)(h2:k.vis x=true):PE X (.Name x pos) (tF w0 (te c Z (.var i))):=by
 obtain⟨v1,v2,v3⟩:=G.vis h2
 refine PE.imp (Yn5 (i:=i) (by rw[G.N];exact h1) v1 v2 v3) fun σ H Q zz78=>?_
 obtain⟨w,σD,M,QD,S,g,a⟩:=zz78
 rw[te_var] at g
 split at g
 ·rename_i d e
  obtain⟨v,q1,q2⟩:=S.env.2 i d e
  have:=a v w d M (Ext.refl w) S.rs q2 g
  rw[S.heap] at this
  exact⟨v,q1,this⟩
 ·exact g.elim
theorem Zh3{g:Nat}{x:Str}{pos:Pos}(G:Good c k Z w0 X)(h1:k.GN[g]?=some x)(h2:k.glob x=true):PE X (.Name x pos) (tF w0 (te c Z (.glb g))):=by
 obtain⟨g1,g2,g3⟩:=G.gl h2
 cases hd:c.G[g]? with
 | none=>
  refine PE.imp (t:=fun _ _ _=>False) (fun _ _ _ _ _ _ h=>h.elim) fun σ H Q zz79=>?_
  obtain⟨w,σD,M,QD,S,q,a⟩:=zz79
  rw[te_glb] at q
  rw[hd] at q
  exact q
 | some d=>
  obtain⟨v,u,q1,q2,q3⟩:=G.glb g x d h1 hd
  refine PE.imp (Yd6 g1 q1 q2 g2) fun σ H Q h=>Oy (d:=d) (fun w hw=>q3 w (by rw[hw,G.eK])) ?_
  obtain⟨w,σD,M,QD,S,q,a⟩:=h
  rw[te_glb] at q
  rw[hd] at q
  exact⟨w,σD,M,QD,S,q,a⟩
theorem Zy7{b:Bf}{es:Es}{x:Str}{np pos:Pos}{l:Expr}{ls:List Expr}(G:Good c k Z w0 X)(hc:k.calm=true∨R7 b=true)(hx:x=(bfOf b).1)(hg:k.glob x=true)(hB:x∈k.BN)(hs:R9 k es (l::ls)=true)(ih:PA X (l::ls) (tFA w0 (tes c Z es))):
  PE X (.Call (.Name x np) (l::ls) [] pos) (tF w0 (te c Z (.bf b es))):=by
 obtain⟨g1,g2,g3⟩:=G.gl hg
 have hm:=G.blt x hB
 have hb:bootBuiltins x=some (bfOf b).2:=by rw[hx];exact Yf7 b
 have snd:=Zs3 (w0:=w0) G.eK b (hc.imp G.calm id)
 have st:starEach (l::ls) X.env=(false,eval l X.env)::starEach ls X.env∧(backTo pos (starEach ls X.env)).any (·.1)=false:=by
  cases es with
  | nil=>exact absurd hs Bf9
  | cons e r=>
   change (_&&_)=true at hs
   simp only[Bz9] at hs
   exact⟨Zh hs.1.2,J3 (V6 r ls hs.2)⟩
 have key:∀σ H Q,tF w0 (te c Z (.bf b es)) σ H Q→tCB (rC w0 (bfD w0.K b)) (tFA w0 (tes c Z es)) σ H Q:=by
  rintro σ H Q ⟨w,σD,M,QD,S,g,a⟩
  refine⟨w,σD,M,_,S,g,fun vs w' ds M' x' r' rd' q'=>?_⟩
  rw[←G.wK] at q'
  exact⟨w',M',ds,QD,rfl,by rw[x'.K,S.K],r',rd',q',a.ext x'⟩
 cases hv:(bfOf b).2 with
 | builtin id=>
  rw[hv] at hb snd
  exact PE.imp (Q8 snd g1 hm hb ih g3 g2 st.1 st.2) key
 | type T=>
  rw[hv] at hb snd
  exact PE.imp (Tp snd g1 hm hb ih g3 g2 st.1 st.2) key
 | _=>cases b<;>cases hv
theorem Y15{m:Mt}{o:E}{es:Es}{l:Expr}{ap cp:Pos}{ls:List Expr}(G:Good c k Z w0 X)(hb:Zr3 l=true)(hl:(ap.endLine==cp.line)=true)(hn:ls.length<30)(hs:R9 k es ls=true)(ho:PE X l (tF w0 (te c Z o)))(ih:PA X ls (tFA w0 (tes c Z es))):
  PE X (.Call (.Attribute l (mtN m) ap) ls [] cp) (tF w0 (te c Z (.mt m o es))):=by
 have snd:=Y27 (w0:=w0) G.eK G.units m
 cases ls with
 | nil=>
  refine PE.imp (Yo6 (Yt2 m) (Zi7 m) (Yk2 m) snd ho (Ev hb) hl) fun σ H Q zz80=>?_
  obtain⟨w,σD,M,QD,S,g,a⟩:=zz80
  refine Zw S g fun x w1 dx M1 x1 r1 rx q1=>?_
  have ty:=Y46 r1 rx q1.1
  rw[x1.K,S.K,←G.eK] at ty
  refine⟨ty,?_⟩
  cases es with
  | nil=>exact⟨w1,M1,dx,[],QD,rfl,by rw[x1.K,S.K],r1,rx,RDs.nil w1,q1.2,a.ext x1⟩
  | cons e r=>exact absurd hs Bf9
 | cons l' ls=>
  cases es with
  | nil=>exact absurd hs Bf9
  | cons e r=>
   have hs':=hs
   change (_&&_)=true at hs'
   simp only[Bz9] at hs'
   have few:((backTo cp (starEach (l'::ls) X.env)).all (fun x=> !x.1)&&(backToKw cp (keywordEach [] X.env)).all (fun x=>x.1.isSome)
     &&decide ((l'::ls).length+([]:List Keyword).length+(if ([]:List Keyword).isEmpty then 0 else 1)<30))=true:=by
    rw[Zu0 (V6 _ _ hs)]
    show(true&&true&&decide ((l'::ls).length+0+0<30))=true
    simpa using hn
   refine PE.imp (Yt7 (Yt2 m) (Zi7 m) (Yk2 m) snd ho ih (Ev hb) few hl (Zh hs'.1.2) (J3 (V6 r ls hs'.2))) fun σ H Q zz81=>?_
   obtain⟨w,σD,M,QD,S,g,a⟩:=zz81
   refine Zw S g fun x w1 dx M1 x1 r1 rx q1=>?_
   have ty:=Y46 r1 rx q1.1
   rw[x1.K,S.K,←G.eK] at ty
   refine⟨ty,w1,σD,M1,_,S.next x1 r1,q1.2,fun vs w2 ds M2 x2 r2 rd2 q2=>?_⟩
   exact⟨w2,M2,dx,ds,QD,rfl,by rw[x2.K,x1.K,S.K],r2,rx.ext x2,rd2,q2,a.ext (x1.trans x2)⟩
theorem Zx7{a:E}{lo hi:Eo}{l:Expr}{x y:Option Expr}{p2 pos:Pos}(G:Good c k Z w0 X)(ha:PE X l (tF w0 (te c Z a)))(h1:PO X x (tFO w0 (teo c Z lo)))(h2:PO X y (tFO w0 (teo c Z hi))):
  PE X (.Subscript l (.Slice x y none p2) pos) (tF w0 (te c Z (.sl a lo hi))):=by
 refine PE.imp (Z69 (Y32 (w0:=w0) G.eK) ha h1 h2) fun σ H Q zz82=>?_
 obtain⟨w,σD,M,QD,S,g,aq⟩:=zz82
 refine Zw S g fun x w1 dx M1 x1 r1 rx q1=>?_
 refine⟨w1,σD,M1,_,S.next x1 r1,q1,fun l w2 M2 x2 r2 q2=>?_⟩
 refine⟨w2,σD,M2,_,(S.next x1 r1).next x2 r2,q2,fun h w3 M3 x3 r3 q3=>?_⟩
 exact⟨w3,M3,dx,QD,rfl,by rw[x3.K,x2.K,x1.K,S.K],r3,rx.ext (x2.trans x3),q3,aq.ext ((x1.trans x2).trans x3)⟩
theorem Zy5{z:Expr}(h:isM1 z=true):∃y p q,z= .UnaryOp .USub (.Constant (.int 1) y p) q:=by
 unfold isM1 at h
 split at h
 ·rename_i j y p q
  have:j=1:=by simpa using h
  subst this
  exact⟨y,p,q,rfl⟩
 ·cases h
theorem Zo8{a:E}{l z:Expr}{p2 pos:Pos}(G:Good c k Z w0 X)(ha:PE X l (tF w0 (te c Z a)))(hz:isM1 z=true):PE X (.Subscript l (.Slice none none (some z) p2) pos) (tF w0 (te c Z (.rev a))):=by
 obtain⟨y,p,q,rfl⟩:=Zy5 hz
 refine PE.imp (Yl2 ha (Zj9 (Yl7 Y65 Y55))) fun σ H Q zz83=>?_
 obtain⟨w,σD,M,QD,S,g,aq⟩:=zz83
 refine Zw S g fun x w1 dx M1 x1 r1 rx q1=>?_
 split at q1
 ·obtain⟨xs,z1,z2⟩:=q1
  obtain⟨_,rfl⟩:=Zp.mp rx
  obtain⟨_,vs,y1,y2,_⟩:=r1.listL z1
  have hK:w1.K=X.K:=by rw[x1.K,S.K,G.eK]
  rw[hK] at y1
  refine⟨1,rfl,-1,rfl,rfl,_,vs,rfl,y1,fun p hp=>?_⟩
  obtain⟨t1,t2,t3⟩:=Ys r1 hp y2.reverse
  exact aq _ _ _ _ (x1.trans t1) t2 t3 z2
 ·exact q1.elim
theorem Zm2{a b:E}{l r:Expr}{pos:Pos}(G:Good c k Z w0 X)(ha:PE X l (tF w0 (te c Z a)))(hb:PE X r (tF w0 (te c Z b))):PE X (.Dict [some l] [r] pos) (tF w0 (te c Z (.dct a b))):=by
 refine PE.imp (Y75 (Zt7 ha hb Yb1) rfl rfl (by simp) (by simp)) fun σ H Q zz84=>?_
 obtain⟨w,σD,M,QD,S,g,aq⟩:=zz84
 intro p hp
 rw[←S.heap] at hp
 obtain⟨y1,y2,y3⟩:=Qp (xs:=[]) (vs:=[]) S.rs hp (by unfold RKV;rfl)
 have hup:upd H p (.dK [])=(w.push p (.dK [])).H:=by rw[←S.heap];rfl
 have eμ:(w.push p (.dK [])).μ M.length=p:=by
  show(if M.length=w.n then p else w.μ M.length)=p
  rw[if_pos S.rs.len.symm]
 have ln:M.length< (w.push p (.dK [])).n:=by show M.length<w.n+1;rw[S.rs.len];omega
 rw[hup]
 refine Zw (S.next y1 y2) g fun x w1 dx M1 x1 r1 rx q1=>?_
 refine Zw ((S.next y1 y2).next x1 r1) q1 fun y w2 dy M2 x2 r2 ry q2=>?_
 obtain⟨kk,e1,e2,e3⟩:=q2
 obtain⟨hn,vs,u1,u2⟩:=r2.dict e2
 rw[(x1.trans x2).μ _ ln,eμ] at u1
 have ev:vs=[]:=by have:=u2.length;exact Ih.mp (by simpa using this)
 subst ev
 cases Qw e1 (rx.ext x2)
 refine⟨u1,[(kk,y)],rfl,by simp,?_⟩
 have u1':w2.H (w2.μ M.length)=some (.dK []):=by rw[(x1.trans x2).μ _ ln,eμ];exact u1
 obtain⟨t1,t2⟩:=N8 (vs:=[(kk,y)]) (xs:=[(kk,dy)]) r2 hn u1' (by
  have:=(show RKV w2 [] [] by unfold RKV;rfl).put (k:=kk) ry
  exact this)
 have rr:RD (w2.alloc (w2.μ M.length) (.dK [(kk,y)])) (.ref M.length) (.ref p):=(y3.ext (x1.trans x2)).ext t1
 have:=aq _ _ _ _ (((y1.trans x1).trans x2).trans t1) t2 rr e3
 have hf:(w2.alloc (w2.μ M.length) (.dK [(kk,y)])).H=upd w2.H p (.dK (Nu [] [(kk,y)])):=by
  show upd w2.H (w2.μ M.length) (.dK [(kk,y)])=_
  rw[(x1.trans x2).μ _ ln,eμ]
  rfl
 rw[←hf]
 exact this
theorem sl_W:SlR X (fun x lo hi H Q=>∃a xs,x= .ref a∧SqT X.K H a xs∧((HT.sIx xs.length 0 lo=0∧HT.sIx xs.length xs.length hi=xs.length)→Q x H)∧∀p,H p=none→Q (.ref p) (upd H p (.tup (cutV xs lo hi)))):=by
 intro pins s σ H x v vl vu lo hi sl Q I rx hs pl pu h
 obtain⟨a,xs,rfl,hx,h1,h2⟩:=h
 by_cases hw:HT.sIx xs.length 0 lo=0∧HT.sIx xs.length xs.length hi=xs.length
 ·exact Ya9 pins s σ H _ v vl vu lo hi sl Q I rx hs pl pu ⟨a,xs,rfl,hx,hw,h1 hw⟩
 ·exact Y50 pins s σ H _ v vl vu lo hi sl Q I rx hs pl pu ⟨a,xs,rfl,hx,hw,h2⟩
theorem Zp8{a:E}{lo hi:Eo}{l:Expr}{x y:Option Expr}{p2 pos:Pos}(G:Good c k Z w0 X)(ha:PE X l (tF w0 (te c Z a)))(h1:PO X x (tFO w0 (teo c Z lo)))(h2:PO X y (tFO w0 (teo c Z hi))):
  PE X (.Subscript l (.Slice x y none p2) pos) (tF w0 (te c Z (.slW a lo hi))):=by
 refine PE.imp (Z69 sl_W ha h1 h2) fun σ H Q zz85=>?_
 obtain⟨w,σD,M,QD,S,g,aq⟩:=zz85
 refine Zw S g fun x w1 dx M1 x1 r1 rx q1=>?_
 have S1:=S.next x1 r1
 refine⟨w1,σD,M1,_,S1,q1,fun l1 w2 M2 x2 r2 q2=>?_⟩
 have S2:=S1.next x2 r2
 refine⟨w2,σD,M2,_,S2,q2,fun h1 w3 M3 x3 r3 q3=>?_⟩
 obtain⟨xs,rfl,q4⟩:=Gu q3
 have rx3:=(rx.ext x2).ext x3
 obtain⟨p,vs,rfl,e1,e2⟩:=Yn.mp rx3
 refine⟨p,vs,rfl,.of e1,fun hw=>?_,fun q hq=>?_⟩
 ·have e:cutD xs l1 h1=xs:=by
   unfold cutD
   rw[←e2.length,hw.1,hw.2,List.drop_zero,Nat.sub_zero,e2.length,Dz]
  rw[e] at q4
  exact aq _ _ _ _ ((x1.trans x2).trans x3) r3 rx3 q4
 ·obtain⟨y1,y2,y3⟩:=Qr r3 hq (Cv (lo:=l1) (hi:=h1) e2)
  exact aq _ _ _ _ (((x1.trans x2).trans x3).trans y1) y2 y3 q4
theorem Zd7{ms:List Int}(h1:ms.Nodup)(h2:ms.Pairwise (·≤·)):ms.Pairwise (· < ·):=by
 induction ms with
 | nil=>exact .nil
 | cons x r ih=>
  rw[Im] at h1
  rw[List.pairwise_cons] at h2
  refine .cons (fun y hy=>?_) (ih h1.2 h2.2)
  have:=h2.1 y hy
  have:x≠y:=fun z=>h1.1 (z ▸ hy)
  omega
def Cp(P:Program)(w:World):List V→Hp→VK→Prop:=fun xs H Q=>Y69 P w xs H Q∨Zh5 P w xs H Q
theorem Jj{X:Cx}(hc:X.calm=true):Xk X (.builtin "sorted") (Cp X.prog X.w):=fun pins s σ H xs us Q I r h=>h.elim (E4 hc pins s σ H xs us Q I r) (Ge hc pins s σ H xs us Q I r)
theorem Z72{b:Bool}{a:E}{x y:Str}{p1 p2 q1 q2:Pos}{l:Expr}(G:Good c k Z w0 X)(hc:k.calm=true)(hx:x=(if b then "sorted" else "len":Str))(hy:y=("set":Str))(hg:k.glob x=true)(hg':k.glob y=true)(hB:x∈k.BN)(hB':y∈k.BN)(hl:Xr l=true)(ih:PE X l (tF w0 (te c Z a))):
  PE X (.Call (.Name x p1) [.Call (.Name y p2) [l] [] q2] [] q1) (tF w0 (te c Z (.setf b a))):=by
 obtain⟨g1,g2,g3⟩:=G.gl hg
 obtain⟨g1',g2',g3'⟩:=G.gl hg'
 have hset:=Tp (p:=p2) (pos:=q2) (Zq0 (X:=X) (G.calm hc)) g1' (G.blt _ hB') (by rw[hy];exact Z29) (Xh ih Vy (Zh hl)) g3' g2' (Zh hl) rfl
 have key:∀(w1:Vw) (M1:Z2) (n:Nat) (ks:List Key) (R:List V→Hp→VK→Prop) (Q:VK),RS w1 M1→w1.K=X.K→Z4 M1 n=some (ks.map kD)→ks.length+1<scanBound→n<w1.n→
   (∀p ks',w1.H p=none→ks'.Nodup→ks'.length≤ks.length→(∀k,k∈ks'↔k∈ks)→R [V.ref p] (w1.alloc p (.ext (Xy X.prog X.w p ks'))).H Q)→∃(a:Addr) (ks:List Key),[V.ref (w1.μ n)]=[V.ref a]∧SqL X.K w1.H a (ks.map kV)∧ks.length+1<scanBound∧∀p ks',w1.H p=none→ks'.Nodup→ks'.length≤ks.length→(∀k,k∈ks'↔k∈ks)→R [V.ref p] (upd w1.H p (.ext (Xy X.prog X.w p ks'))) Q:=by
  intro w1 M1 n ks R Q r1 hK e1 hz hn h
  obtain⟨_,vs,z1,z2,_⟩:=r1.listL e1
  rw[hK] at z1
  rw[Z46 z2] at z1
  exact⟨_,ks,rfl,z1,hz,h⟩
 cases b with
 | true=>
  refine PE.imp (Q8 (Jj (X:=X) (G.calm hc)) g1 (G.blt _ hB) (by rw[hx];exact O0) (Xh hset Vy rfl) g3 g2 rfl rfl) fun σ H Q zz86=>?_
  obtain⟨w,σD,M,QD,S,g,aq⟩:=zz86
  refine Zw S g fun x w1 dx M1 x1 r1 rx q1=>?_
  obtain⟨n,rfl,q1⟩:=Yz q1
  obtain⟨hn,rfl⟩:=Zp.mp rx
  rcases q1 with⟨ns,e1,hz,hz2,q⟩ | ⟨ss,e1,hz,q⟩
  ·have hK:w1.K=X.K:=by rw[x1.K,S.K,G.eK]
   refine key w1 M1 n (ns.map Ds) (Cp X.prog X.w) Q r1 hK (by rw[e1,Ks];rfl) (by rw[Ad];show ns.length+1<4096;omega) hn fun p ks' hp nd hlk hm=>?_
   have hin:∃ns':List Int,ks'=ns'.map Ds:=by
    refine⟨ks'.map (fun k=>match k with | .inl i=>i | .inr _=>0),?_⟩
    rw[Ks]
    have:∀k∈ks',(Ds ∘ fun k:Key=>match k with | .inl i=>i | .inr _=>(0:Int)) k=k:=by
     intro k hk
     obtain⟨i,_,rfl⟩:=Dc.mp ((hm k).mp hk)
     rfl
    rw[List.map_congr_left this,List.map_id']
   obtain⟨ns',rfl⟩:=hin
   have nd':ns'.Nodup:=List.Pairwise.of_map Ds (fun a b h z=>h (by rw[z])) nd
   have hm':∀i,i∈ns'↔i∈ns:=fun i=>by
    have:=hm (Ds i)
    simpa using this
   have ln:ns'.length<64:=hz2 ns' nd' fun i hi=>(hm' i).mp hi
   have ra:=r1.alloc (o:= .ext (Xy X.prog X.w p (ns'.map Ds))) hp
   refine .inl ⟨p,ns',rfl,Yv,ln,fun l ms hl pm sm=>?_⟩
   obtain⟨y1,y2,y3⟩:=Ys (w:=w1.alloc p (.ext (Xy X.prog X.w p (ns'.map Ds)))) ra hl (Z10 ms)
   exact aq _ _ _ _ ((x1.trans (Wb hp)).trans y1) y2 y3 (q ms (Zd7 (pm.nodup_iff.mpr nd') sm) fun i=>(pm.mem_iff.trans (hm' i)))
  ·have hK:w1.K=X.K:=by rw[x1.K,S.K,G.eK]
   refine key w1 M1 n (ss.map Il) (Cp X.prog X.w) Q r1 hK (by rw[e1,Ks];rfl) (by rw[Ad];show ss.length+1<4096;omega) hn fun p ks' hp nd hlk hm=>?_
   have hin:∃ss':List Str,ks'=ss'.map Il:=by
    refine⟨ks'.map (fun k=>match k with | .inr i=>i | .inl _=>("":Str)),?_⟩
    rw[Ks]
    have:∀k∈ks',(Il ∘ fun k:Key=>match k with | .inr i=>i | .inl _=>("":Str)) k=k:=by
     intro k hk
     obtain⟨i,_,rfl⟩:=Dc.mp ((hm k).mp hk)
     rfl
    rw[List.map_congr_left this,List.map_id']
   obtain⟨ss',rfl⟩:=hin
   have nd':ss'.Nodup:=List.Pairwise.of_map Il (fun a b h z=>h (by rw[z])) nd
   have hm':∀i,i∈ss'↔i∈ss:=fun i=>by
    have:=hm (Il i)
    simpa using this
   have ln:ss'.length<64:=by
    rw[Ad,Ad] at hlk
    omega
   have ra:=r1.alloc (o:= .ext (Xy X.prog X.w p (ss'.map Il))) hp
   refine .inr ⟨p,ss',rfl,Yv,ln,fun l ms hl pm sm=>?_⟩
   obtain⟨y1,y2,y3⟩:=Ys (w:=w1.alloc p (.ext (Xy X.prog X.w p (ss'.map Il)))) ra hl (Z08 ms)
   exact aq _ _ _ _ ((x1.trans (Wb hp)).trans y1) y2 y3 (q ms (pm.nodup_iff.mpr nd') (fun i=>(pm.mem_iff.trans (hm' i))) sm)
 | false=>
  refine PE.imp (Q8 (E6 (X:=X)) g1 (G.blt _ hB) (by rw[hx];exact PySem.boot_len) (Xh hset Vy rfl) g3 g2 rfl rfl) fun σ H Q zz87=>?_
  obtain⟨w,σD,M,QD,S,g,aq⟩:=zz87
  refine Zw S g fun x w1 dx M1 x1 r1 rx q1=>?_
  obtain⟨n,rfl,q1⟩:=Yz q1
  exact q1.elim
theorem Za3{a:E}{x y:Str}{p1 p2 q1 q2:Pos}{l:Expr}(G:Good c k Z w0 X)(hc:k.calm=true)(hx:x=("len":Str))(hy:y=("set":Str))(hg:k.glob x=true)(hg':k.glob y=true)(hB:x∈k.BN)(hB':y∈k.BN)(hl:Xr l=true)(ih:PE X l (tF w0 (te c Z a))):
  PE X (.Call (.Name x p1) [.Call (.Name y p2) [l] [] q2] [] q1) (tF w0 (te c Z (.setT a))):=by
 obtain⟨g1,g2,g3⟩:=G.gl hg
 obtain⟨g1',g2',g3'⟩:=G.gl hg'
 have hset:=Tp (p:=p2) (pos:=q2) (Za6 (X:=X) (G.calm hc) G.units) g1' (G.blt _ hB') (by rw[hy];exact Z29) (Xh ih Vy (Zh hl)) g3' g2' (Zh hl) rfl
 refine PE.imp (Q8 (E6 (X:=X)) g1 (G.blt _ hB) (by rw[hx];exact PySem.boot_len) (Xh hset Vy rfl) g3 g2 rfl rfl) fun σ H Q zz88=>?_
 obtain⟨w,σD,M,QD,S,g,aq⟩:=zz88
 refine Zw S g fun x w1 dx M1 x1 r1 rx q1=>?_
 obtain⟨n,rfl,q1⟩:=Yz q1
 obtain⟨hn,rfl⟩:=Zp.mp rx
 obtain⟨ts,e1,nd,hz,q⟩:=q1
 have hK:w1.K=X.K:=by rw[x1.K,S.K,G.eK]
 obtain⟨_,vs,z1,z2,_⟩:=r1.listL e1
 rw[hK] at z1
 refine⟨_,vs,ts,rfl,z1,Jy z2,nd,hz,fun p hp=>?_⟩
 have ra:=r1.alloc (o:= .ext (Ji X.w p ts.length)) hp
 exact⟨p,ts.length,rfl,Yv,hz,aq _ _ _ _ (x1.trans (Wb hp)) ra (Zd.mpr rfl) q⟩
theorem Zz8{a b:E}{l r:Expr}{pos:Pos}(G:Good c k Z w0 X)(hn:Z03 r=true)(ha:PE X l (tF w0 (te c Z a)))(hb:PE X r (tF w0 (te c Z b))):PE X (.Subscript l r pos) (tF w0 (te c Z (.ix a b))):=by
 have pl:Zr6 r:=by
  intro o i
  cases r<;>first | rfl | cases hn
 refine PE.imp (Yv3 (Zs7 (w0:=w0) G.eK G.units) ha hb pl) fun σ H Q zz89=>?_
 obtain⟨w,σD,M,QD,S,g,aq⟩:=zz89
 refine Zw S g fun x w1 dx M1 x1 r1 rx q1=>?_
 refine Zw (S.next x1 r1) q1 fun y w2 dy M2 x2 r2 ry q2=>?_
 exact⟨w2,M2,dx,dy,_,rfl,by rw[x2.K,x1.K,S.K],r2,rx.ext x2,ry,q2,fun d v hq hr=>aq v w2 d M2 (x1.trans x2) r2 hr hq⟩
theorem N1{N':List Str}{js:List (Option Nat)}{tg:List Nat}{it:It}{cd:Eo}{e:E}{el t iter:Expr}{ifs:List Expr}{scope:Scope}{pos:Pos}(G:Good c k Z w0 X)(hc:k.calm=true)(ho:Tv k.sc k.N N' js scope=true)(hns:Zg7 iter=true)(hn:N'.Nodup)
  (hi:PI X t iter (iF w0 (tit c Z it))) (ht:C1 {k with N:=N',sc:=Wr scope k.sc,cells:=false,own:=Bb scope,tries:=false,raises:=[]} tg t=true) (hd:chkC {k with N:=N',sc:=Wr scope k.sc,cells:=false,own:=Bb scope,tries:=false,raises:=[]} cd ifs=true) (he:chkE {k with N:=N',sc:=Wr scope k.sc,cells:=false,own:=Bb scope,tries:=false,raises:=[]} e el=true) (ihe:Y51 c e) (ihd:Y48 c cd):
  PE X (.ListComp el [⟨t,iter,ifs,0⟩] scope pos) (tF w0 (te c Z (.comp N' js tg it cd e)))∧
  ∀(i:Nat) (x:Str) (px spos:Pos),X.N[i]?=some x→X.env.scope.names.lookup x=some .local→swapsWith (.ListComp el [⟨t,iter,ifs,0⟩] scope pos) (some (.Name x px)) spos.line X.env=pure true→
   PS X (.Assign [.Name x px] (.ListComp el [⟨t,iter,ifs,0⟩] scope pos) spos) (fun R σ H=>tF w0 (te c Z (.comp N' js tg it cd e)) σ H fun v H1=>R.nx (σ.set i (some v)) H1):=by
 have ho':Tv X.env.scope X.N N' js scope=true:=by rw[G.sc,G.N];exact ho
 have hf:∀x,foldedSetIterable iter X.env x=pure x:=by
  intro x
  cases iter<;>first | rfl | cases hns
 have hg:=fun cl C fp pins s H=>(Good.block G hc (scope:=scope) hn cl C fp pins s H).tgt tg t ht
 have hel:=fun cl C fp pins s H=>(ihe _ _ _ _ el (Good.block G hc (scope:=scope) hn cl C fp pins s H) he).1
 have key:∀σ H Q,tF w0 (te c Z (.comp N' js tg it cd e)) σ H Q→iF w0 (tit c Z it) σ H fun J H1=>∀p,H1 p=none→∃W:Nat→Nat→L2.St→Hp→Prop,(∃m,W 0 m (Sw js σ) (upd H1 p (.lst [])))∧
   ∀i m σc Hc,W i m σc Hc→(J.stop i Hc∧Q (.ref p) Hc)∨(J.go i Hc∧∀x H',J.yld i Hc x H'→gF w0 tg x σc H' fun σ2 H2=>tFT w0 (tcd c noX cd) σ2 H2 fun b H3=>if b=true then tF w0 (te c noX e) σ2 H3 fun y H4=>∃acc,H4 p=some (.lst acc)∧acc.length<sizeLine∧
    ∃m',m'<m∧W (i+1) m' σ2 (upd H4 p (.lst (acc++[y]))) else ∃m',m'<m∧W (i+1) m' σ2 H3):=by
  rintro σ H Q ⟨w,σD,M,QD,S,g,a⟩
  refine⟨w,σD,M,_,S,g,fun J w1 own xs M1 x1 R1 jk q1=>?_⟩
  exact Zw9 (S.ext.trans x1) rfl R1 (Yg8 (S.env.ext x1)) jk q1 fun v w2 d M2 x2 r2 rd2 zz90=>by obtain⟨e2,q2⟩:=zz90;exact a v w2 d M2 (x1.trans x2) r2 rd2 (by rw[e2];exact q2)
 have nocd:∀{σ:L2.St} {H:Hp} {P:Bool→Hp→Prop},cd= .no→tFT w0 (tcd c noX cd) σ H P→P true H:=by
  intro σ H P e h
  subst e
  obtain⟨w,σD,M,QD,S,g,a⟩:=h
  have:=a true w M (Ext.refl w) S.rs g
  rw[S.heap] at this
  exact this
 cases ifs with
 | nil=>
  have hcd:cd= .no:=by
   cases cd with
   | no=>rfl
   | yes e'=>exact absurd hd Bf9
  have key0:∀σ H Q,tF w0 (te c Z (.comp N' js tg it cd e)) σ H Q→Zp4 js (iF w0 (tit c Z it)) (gF w0 tg) (tF w0 (te c noX e)) σ H Q:=by
   intro σ H Q h
   obtain⟨w,σD,M,QD,S,g,a⟩:=key σ H Q h
   refine⟨w,σD,M,QD,S,g,fun J w' own xs M' x' r' jk q p hp=>?_⟩
   obtain⟨W,w1,w2⟩:=a J w' own xs M' x' r' jk q p hp
   refine⟨W,w1,fun i m σc Hc hW=>(w2 i m σc Hc hW).imp id fun⟨z1,z2⟩=>⟨z1,fun x H' hy=>?_⟩⟩
   obtain⟨v1,v2,v3,v4,v5,v6,v7,v8,v9⟩:=z2 x H' hy
   refine⟨v1,v2,v3,v4,v5,v6,v7,v8,fun σ' σD' en q'=>?_⟩
   have:=nocd hcd (v9 σ' σD' en q')
   rw[if_pos rfl] at this
   exact this
  exact⟨PE.imp (Zz6 (G.calm hc) ho' hi hg hel hf) key0,fun i x px spos h1 h2 h3=>PS.imp (Zv6 (G.calm hc) ho' G.nd h1 h2 hi hg hel h3 hf) fun R σ H h=>key0 σ H _ h⟩
 | cons x0 ifs=>
  have hq:∀cl C fp pins s H,∃x,x0::ifs=[x]∧PT (cxC X N' scope cl C fp pins s H) x (tFT w0 (tcd c noX cd)):=fun cl C fp pins s H=>by
   rcases ihd.2 _ _ _ _ (x0::ifs) (Good.block G hc (scope:=scope) hn cl C fp pins s H) hd with h | ⟨h,_⟩
   ·exact h
   ·cases h
  have e0:ifs=[]:=by
   cases cd with
   | no=>exact absurd hd Bf9
   | yes e'=>
    cases ifs with
    | nil=>rfl
    | cons _ _=>exact absurd hd Bf9
  subst e0
  have hq':∀cl C fp pins s H,PT (cxC X N' scope cl C fp pins s H) x0 (tFT w0 (tcd c noX cd)):=fun cl C fp pins s H=>by
   obtain⟨x,h1,h2⟩:=hq cl C fp pins s H
   cases h1
   exact h2
  exact⟨PE.imp (Y30 (G.calm hc) ho' hi hg hq' hel hf) key,fun i x px spos h1 h2 h3=>PS.imp (Zv3 (G.calm hc) ho' G.nd h1 h2 hi hg hq' hel h3 hf) fun R σ H h=>key σ H _ h⟩
end
section
variable{c:Cfg}{k:Ck}{Z:DX}{w0:Vw}{X:Cx}
theorem te_cmp_bl{op:Cm}{a b:E}(σD:DEnv)(M:Z2)(QD:DK)(h:te c Z (.cmp op a b) σD M QD):te c Z (.cmp op a b) σD M fun d M'=>(∃b,d= .bl b)∧QD d M':=by
 have e:(fun(d:D) (M':Z2)=>QD d M')=QD:=rfl
 show te c Z a σD M fun x M1=>te c Z b σD M1 fun y M2=>cmD M2 op x y fun r=>(∃b,D.bl r= .bl b)∧QD (.bl r) M2
 have h:te c Z a σD M (fun x M1=>te c Z b σD M1 fun y M2=>cmD M2 op x y fun r=>QD (.bl r) M2):=h
 have:(fun(x:D) (M1:Z2)=>te c Z b σD M1 fun y M2=>cmD M2 op x y fun r=>QD (.bl r) M2)=fun x M1=>te c Z b σD M1 fun y M2=>cmD M2 op x y fun r=>(∃b,D.bl r= .bl b)∧QD (.bl r) M2:=by
  funext x M1
  congr 1
  funext y M2
  congr 1
  funext r
  exact propext ⟨fun h=>⟨⟨r,rfl⟩,h⟩,fun h=>h.2⟩
 rw[this] at h
 exact h
theorem Yc3{a b:Expr}{rest:List Expr}{pos:Pos}{ta tb:TE}(ha:PE X a ta)(hb:PE X (.BoolOp .And (b::rest) pos) tb):PE X (.BoolOp .And (a::b::rest) pos) (fun σ H Q=>ta σ H fun x H1=>∃z,TruV X.K x H1 z∧if z=true then tb σ H1 Q else Q x H1):=by
 intro pins s σ H Q I h
 refine BoolOp_and (thn (ha pins s σ H _ I h) fun v s1 zz92=>?_)
 obtain⟨x,H1,I1,r1,q1⟩:=zz92
 refine thn (Z20 pins s1 σ H1 x v (fun z H2=>if z=true then tb σ H2 Q else Q x H2) I1 r1 q1) fun z s2 zz93=>?_
 obtain⟨H2,I2,q2⟩:=zz93
 cases z with
 | true=>exact hb pins s2 σ H2 Q I2 (by rw[if_pos rfl] at q2;exact q2)
 | false=>exact⟨x,H2,I2,r1,by rw[if_neg Bf9] at q2;exact q2⟩
theorem Yt0{a b:Expr}{rest:List Expr}{pos:Pos}{ta tb:TE}(ha:PE X a ta)(hb:PE X (.BoolOp .Or (b::rest) pos) tb):PE X (.BoolOp .Or (a::b::rest) pos) (fun σ H Q=>ta σ H fun x H1=>∃z,TruV X.K x H1 z∧if z=true then Q x H1 else tb σ H1 Q):=by
 intro pins s σ H Q I h
 refine BoolOp_or (thn (ha pins s σ H _ I h) fun v s1 zz94=>?_)
 obtain⟨x,H1,I1,r1,q1⟩:=zz94
 refine thn (Z20 pins s1 σ H1 x v (fun z H2=>if z=true then Q x H2 else tb σ H2 Q) I1 r1 q1) fun z s2 zz95=>?_
 obtain⟨H2,I2,q2⟩:=zz95
 cases z with
 | false=>exact hb pins s2 σ H2 Q I2 (by rw[if_neg Bf9] at q2;exact q2)
 | true=>exact⟨x,H2,I2,r1,by rw[if_pos rfl] at q2;exact q2⟩
theorem Gs{M:Z2}{n:Nat}{xs:List D}{ys:List (Key×D)}(h1:Z4 M n=some xs)(h2:Zo M n=some ys):False:=by
 unfold Z4 at h1
 unfold Zo at h2
 cases h:M[n]? with
 | none=>rw[h] at h2;cases h2
 | some c=>rw[h] at h1 h2;cases c<;>simp at h1 h2
theorem Z24{M:Z2}{x:D}{k:Bool}{A:Prop}{P:Bool→Prop}:truD M x (fun b=>if b=k then A else truD M x P)=truD M x (fun b=>if b=k then A else P b):=by
 cases x with
 | str y=>
  apply propext
  show(y.length≤sizeLine∧if ((y.length:Int) !=0)=k then A else(y.length≤sizeLine∧P ((y.length:Int) !=0)))↔(y.length≤sizeLine∧if ((y.length:Int) !=0)=k then A else P ((y.length:Int) !=0))
  split<;>simp (config:={contextual:=true})
 | ref n=>
  apply propext
  have key:∀Q:Bool→Prop,truD M (.ref n) Q↔(∃xs,Z4 M n=some xs∧Q (!xs.isEmpty))∨(∃xs,Zo M n=some xs∧Q (!xs.isEmpty)):=fun Q=>Mc
  constructor
  ·intro h
   rcases(key _).mp h with⟨xs,h1,h2⟩ | ⟨xs,h1,h2⟩
   ·refine(key _).mpr (.inl ⟨xs,h1,?_⟩)
    split at h2
    ·rename_i e;rw[if_pos e];exact h2
    ·rename_i e
     rw[if_neg e]
     rcases(key _).mp h2 with⟨ys,g1,g2⟩ | ⟨ys,g1,g2⟩
     ·rw[h1] at g1;cases g1;exact g2
     ·exact(Gs h1 g1).elim
   ·refine(key _).mpr (.inr ⟨xs,h1,?_⟩)
    split at h2
    ·rename_i e;rw[if_pos e];exact h2
    ·rename_i e
     rw[if_neg e]
     rcases(key _).mp h2 with⟨ys,g1,g2⟩ | ⟨ys,g1,g2⟩
     ·exact(Gs g1 h1).elim
     ·rw[h1] at g1;cases g1;exact g2
  ·intro h
   rcases(key _).mp h with⟨xs,h1,h2⟩ | ⟨xs,h1,h2⟩
   ·refine(key _).mpr (.inl ⟨xs,h1,?_⟩)
    split at h2
    ·rename_i e;rw[if_pos e];exact h2
    ·rename_i e;rw[if_neg e];exact(key _).mpr (.inl ⟨xs,h1,h2⟩)
   ·refine(key _).mpr (.inr ⟨xs,h1,?_⟩)
    split at h2
    ·rename_i e;rw[if_pos e];exact h2
    ·rename_i e;rw[if_neg e];exact(key _).mpr (.inr ⟨xs,h1,h2⟩)
 | non=>rfl
 | bl b=>rfl
 | int i=>rfl
 | tup xs=>rfl
 | _=>rfl
theorem te_bop_tt{e e2:E}{r:Es}{σD:DEnv}{M:Z2}{QD:Bool→Z2→Prop}(h:ttD (tbop c Z true (.cons e (.cons e2 r))) σD M QD):
  ttD (te c Z e) σD M fun z M1=>if z=true then ttD (tbop c Z true (.cons e2 r)) σD M1 QD else QD false M1:=by
 have hh:(fun(x:D) (M1:Z2)=>truD M1 x fun b=>if b=true then ttD (tbop c Z true (.cons e2 r)) σD M1 QD else truD M1 x fun b=>QD b M1)=
   fun x M1=>truD M1 x fun z=>if z=true then ttD (tbop c Z true (.cons e2 r)) σD M1 QD else QD false M1:=by
  funext x M1
  rw[Z24]
  congr 1
  funext b
  cases b<;>rfl
 have h':te c Z e σD M fun(x:D) (M1:Z2)=>truD M1 x fun b=>if b=true then ttD (tbop c Z true (.cons e2 r)) σD M1 QD else truD M1 x fun b=>QD b M1:=h
 rw[hh] at h'
 exact h'
theorem te_bop_ff{e e2:E}{r:Es}{σD:DEnv}{M:Z2}{QD:Bool→Z2→Prop}(h:ttD (tbop c Z false (.cons e (.cons e2 r))) σD M QD):
  ttD (te c Z e) σD M fun z M1=>if z=true then QD true M1 else ttD (tbop c Z false (.cons e2 r)) σD M1 QD:=by
 have hh:(fun(x:D) (M1:Z2)=>truD M1 x fun b=>if b=false then ttD (tbop c Z false (.cons e2 r)) σD M1 QD else truD M1 x fun b=>QD b M1)=
   fun x M1=>truD M1 x fun z=>if z=true then QD true M1 else ttD (tbop c Z false (.cons e2 r)) σD M1 QD:=by
  funext x M1
  rw[Z24]
  congr 1
  funext b
  cases b<;>rfl
 have h':te c Z e σD M fun(x:D) (M1:Z2)=>truD M1 x fun b=>if b=false then ttD (tbop c Z false (.cons e2 r)) σD M1 QD else truD M1 x fun b=>QD b M1:=h
 rw[hh] at h'
 exact h'
end
theorem Zc0{k:Ck}{a:E}{ex:Expr}(h:chkE k (.setT a) ex=true):∃x y l p1 p2 q1 q2,ex= .Call (.Name x p1) [.Call (.Name y p2) [l] [] q2] [] q1∧
  (k.calm&&x==("len":Str)&&y==("set":Str)&&k.glob x&&k.glob y&&k.BN.contains x&&k.BN.contains y&&Xr l&&chkE k a l)=true:=by
 cases ex with
 | Call fn as kws q1=>
  cases fn with
  | Name x p1=>
   cases as with
   | nil=>exact absurd h Bf9
   | cons a0 as=>
   cases a0 with
   | Call fn2 as2 kws2 q2=>
    cases fn2 with
    | Name y p2=>
     cases as2 with
     | nil=>exact absurd h Bf9
     | cons l ls=>
     cases ls with
     | cons _ _=>exact absurd h Bf9
     | nil=>
     cases kws2 with
     | cons _ _=>exact absurd h Bf9
     | nil=>
     cases as with
     | cons _ _=>exact absurd h Bf9
     | nil=>
     cases kws with
     | cons _ _=>exact absurd h Bf9
     | nil=>exact⟨x,y,l,p1,p2,q1,q2,rfl,h⟩
    | _=>exact absurd h Bf9
   | _=>exact absurd h Bf9
  | _=>exact absurd h Bf9
 | _=>exact absurd h Bf9
theorem Zc4{k:Ck}{b:Bool}{a:E}{ex:Expr}(h:chkE k (.setf b a) ex=true):∃x y l p1 p2 q1 q2,ex= .Call (.Name x p1) [.Call (.Name y p2) [l] [] q2] [] q1∧
  (k.calm&&x==(if b then "sorted" else "len":Str)&&y==("set":Str)&&k.glob x&&k.glob y&&k.BN.contains x&&k.BN.contains y&&Xr l&&chkE k a l)=true:=by
 cases ex with
 | Call fn as kws q1=>
  cases fn with
  | Name x p1=>
   cases as with
   | nil=>exact absurd h Bf9
   | cons a0 as=>
   cases a0 with
   | Call fn2 as2 kws2 q2=>
    cases fn2 with
    | Name y p2=>
     cases as2 with
     | nil=>exact absurd h Bf9
     | cons l ls=>
     cases ls with
     | cons _ _=>exact absurd h Bf9
     | nil=>
     cases kws2 with
     | cons _ _=>exact absurd h Bf9
     | nil=>
     cases as with
     | cons _ _=>exact absurd h Bf9
     | nil=>
     cases kws with
     | cons _ _=>exact absurd h Bf9
     | nil=>exact⟨x,y,l,p1,p2,q1,q2,rfl,h⟩
    | _=>exact absurd h Bf9
   | _=>exact absurd h Bf9
  | _=>exact absurd h Bf9
 | _=>exact absurd h Bf9
mutual
theorem Zk(c:Cfg):∀e:E,Y51 c e
 | .var i,k,Z,w0,X,ex,G,h=>by
  obtain⟨x,pos,rfl,h⟩:=Yj h
  change (_&&_)=true at h
  simp only[Bz9,beq_iff_eq] at h
  exact both G (Zi5 G h.1 h.2) fun _=>rfl
 | .int i,k,Z,w0,X,ex,G,h=>by
  obtain⟨v,j,pos,rfl,h⟩:=Wd h
  cases v with
  | int m=>
   have h:(i==m)=true:=h
   simp only[beq_iff_eq] at h
   subst h
   exact both G (PE.imp Y55 fun σ H Q q=>Oy (fun _ _=>Zd.mpr rfl) q) fun _=>rfl
  | _=>exact absurd h Bf9
 | .bl i,k,Z,w0,X,ex,G,h=>by
  obtain⟨v,j,pos,rfl,h⟩:=Wd h
  cases v with
  | bool m=>
   have h:(i==m)=true:=h
   simp only[beq_iff_eq] at h
   subst h
   exact both G (PE.imp Yw4 fun σ H Q q=>Oy (fun _ _=>Xj.mpr rfl) q) fun _=>rfl
  | _=>exact absurd h Bf9
 | .non,k,Z,w0,X,ex,G,h=>by
  obtain⟨v,j,pos,rfl,h⟩:=Wd h
  cases v with
  | none=>exact both G (PE.imp Ys1 fun σ H Q q=>Oy (fun _ _=>Zs.mpr rfl) q) fun _=>rfl
  | _=>exact absurd h Bf9
 | .str i,k,Z,w0,X,ex,G,h=>by
  obtain⟨v,j,pos,rfl,h⟩:=Wd h
  cases v with
  | str m=>
   have h:(i==m)=true:=h
   simp only[beq_iff_eq] at h
   subst h
   exact both G (PE.imp Yj3 fun σ H Q q=>Oy (fun _ _=>Zt.mpr rfl) q) fun _=>rfl
  | _=>exact absurd h Bf9
 | .ty t,k,Z,w0,X,ex,G,h=>by
  obtain⟨x,pos,rfl,h⟩:=Yj h
  change (_&&_)=true at h
  simp only[Bz9,beq_iff_eq,Du] at h
  obtain⟨g1,g2,g3⟩:=G.gl h.1.2
  exact both G (PE.imp (Yd2 (v:= .ty (Yk t)) g1 (G.blt x h.2) (by rw[h.1.1];exact Yg6 t) rfl g3 g2) fun σ H Q q=>Oy (fun _ _=>Yi7.mpr rfl) q) fun _=>rfl
 | .glb g,k,Z,w0,X,ex,G,h=>by
  obtain⟨x,pos,rfl,h⟩:=Yj h
  change (_&&_)=true at h
  simp only[Bz9,beq_iff_eq] at h
  exact both G (Zh3 G h.1 h.2) fun _=>rfl
 | .bin op a b,k,Z,w0,X,ex,G,h=>by
  obtain⟨l,o,r,pos,rfl,h⟩:=Zr4 h
  change (_&&_)=true at h
  simp only[Bz9,beq_iff_eq] at h
  obtain⟨⟨rfl,h1⟩,h2⟩:=h
  exact both G (PE.imp (Yu7 (Y07 (w0:=w0) op) (Zk c a k Z w0 X l G h1).1 (Zk c b k Z w0 X r G h2).1) fun σ H Q q=>Zo2 q) fun _=>rfl
 | .neg a,k,Z,w0,X,ex,G,h=>by
  obtain⟨o,l,pos,rfl,h⟩:=Z57 h
  change (_&&_)=true at h
  simp only[Bz9,beq_iff_eq] at h
  obtain⟨rfl,h1⟩:=h
  refine both G (PE.imp (Yl7 Y65 (Zk c a k Z w0 X l G h1).1) fun σ H Q zz96=>?_) fun _=>rfl
  obtain⟨w,σD,M,QD,S,g,aq⟩:=zz96
  refine Zw S g fun x w1 dx M1 x1 r1 rx q1=>?_
  split at q1
  ·cases Zd.mp rx
   exact⟨_,rfl,aq _ w1 _ M1 x1 r1 (Zd.mpr rfl) q1⟩
  ·exact q1.elim
 | .not a,k,Z,w0,X,ex,G,h=>by
  obtain⟨o,l,pos,rfl,h⟩:=Z57 h
  change (_&&_)=true at h
  simp only[Bz9,beq_iff_eq] at h
  obtain⟨rfl,h1⟩:=h
  obtain⟨i1,i2⟩:=Zk c a k Z w0 X l G h1
  refine⟨PE.imp (Yb3 i1) fun σ H Q ⟨w,σD,M,QD,S,g,aq⟩=>?_,fun hn=>PT.imp (Yq0 (i2 hn)) fun σ H Q ⟨w,σD,M,QD,S,g,aq⟩=>?_⟩
  ·refine Zw S g fun x w1 dx M1 x1 r1 rx q1=>?_
   obtain⟨b,t1,t2⟩:=To (K:=X.K) (by rw[x1.K,S.K,G.eK]) r1 rx q1
   exact⟨b,t1,aq _ w1 _ M1 x1 r1 (Xj.mpr rfl) t2⟩
  ·exact⟨w,σD,M,fun b M1=>QD (!b) M1,S,g,fun b w' M' x' r' q'=>aq _ w' M' x' r' q'⟩
 | .cmp op a b,k,Z,w0,X,ex,G,h=>by
  obtain⟨l,os,rs,pos,rfl,h⟩:=Zq2 h
  obtain⟨o,rfl,h⟩:=Wn h
  obtain⟨r,rfl,h⟩:=Wn h
  change (_&&_)=true at h
  simp only[Bz9,beq_iff_eq] at h
  obtain⟨⟨⟨rfl,h0⟩,h1⟩,h2⟩:=h
  have hm:behindInMarks (cmOf op) r=false:=by
   cases r with
   | Set es kk p=>cases op<;>first | (simp[isIn,Zg7] at h0;done) | (simp[behindInMarks,cmOf])
   | _=>rfl
  have ia:=(Zk c a k Z w0 X l G h1).1
  have ib:=(Zk c b k Z w0 X r G h2).1
  refine⟨PE.imp (Yd4 (Z34 (w0:=w0) G.eK G.units op) ia ib hm) fun σ H Q q=>Ey q,fun _=>Yc1 (PT.imp (Yf5 (Z34 (w0:=w0) G.eK G.units op) ia ib hm) fun σ H Q q=>Ey q) te_cmp_bl⟩
 | .bop b es,k,Z,w0,X,ex,G,h=>by
  obtain⟨o,ls,pos,rfl,h⟩:=Z89 h
  change (_&&_)=true at h
  simp only[Bz9,beq_iff_eq] at h
  obtain⟨rfl,h⟩:=h
  cases b with
  | true=>
   obtain⟨i1,i2⟩:=(Vg c es k Z w0 X ls G h).2 true pos
   exact⟨i1,fun hn=>(i2 hn).pt⟩
  | false=>
   obtain⟨i1,i2⟩:=(Vg c es k Z w0 X ls G h).2 false pos
   exact⟨i1,fun hn=>(i2 hn).pt⟩
 | .ife t a b,k,Z,w0,X,ex,G,h=>by
  obtain⟨x,l,r,pos,rfl,h⟩:=Y22 h
  change (_&&_)=true at h
  simp only[Bz9] at h
  refine⟨PE.imp (Zs6 ((Zk c t k Z w0 X x G h.1.1.1).2 h.2) (Zk c a k Z w0 X l G h.1.1.2).1 (Zk c b k Z w0 X r G h.1.2).1) fun σ H Q zz99=>?_,fun hn=>by simp[noIf] at hn⟩
  obtain⟨w,σD,M,QD,S,g,aq⟩:=zz99
  refine⟨w,σD,M,fun r M1=>if r=true then te c Z a σD M1 QD else te c Z b σD M1 QD,S,g,fun r w1 M1 x1 r1 q1=>?_⟩
  cases r with
  | true=>rw[if_pos rfl] at q1 ⊢;exact Zw (S.next x1 r1) q1 (aq.ext x1)
  | false=>rw[if_neg Bf9] at q1 ⊢;exact Zw (S.next x1 r1) q1 (aq.ext x1)
 | .lst es,k,Z,w0,X,ex,G,h=>by
  obtain⟨ls,pos,rfl,h⟩:=Ze6 h
  refine both G (PE.imp (Yl3 (Vg c es k Z w0 X ls G h).1) fun σ H Q zz100=>?_) fun _=>rfl
  obtain⟨w,σD,M,QD,S,g,aq⟩:=zz100
  refine⟨w,σD,M,_,S,g,fun vs w1 ds M1 x1 r1 rd1 q1=>⟨by rw[rd1.length];exact q1.1,fun p hp=>?_⟩⟩
  obtain⟨y1,y2,y3⟩:=Ys r1 hp rd1
  exact aq _ _ _ _ (x1.trans y1) y2 y3 q1.2
 | .tup es,k,Z,w0,X,ex,G,h=>by
  obtain⟨ls,kk,pos,rfl,h⟩:=Fi h
  refine both G (PE.imp (Yq6 (Vg c es k Z w0 X ls G h).1) fun σ H Q zz101=>?_) fun _=>rfl
  obtain⟨w,σD,M,QD,S,g,aq⟩:=zz101
  refine⟨w,σD,M,_,S,g,fun vs w1 ds M1 x1 r1 rd1 q1=>⟨by rw[rd1.length];exact q1.1,fun p hp=>?_⟩⟩
  obtain⟨y1,y2,y3⟩:=Qr r1 hp rd1
  exact aq _ _ _ _ (x1.trans y1) y2 y3 q1.2
 | .dict0,k,Z,w0,X,ex,G,h=>by
  obtain⟨ks,vs,pos,rfl,h⟩:=En h
  obtain⟨rfl,h⟩:=Wp h
  obtain⟨rfl,_⟩:=Wp h
  refine both G (PE.imp Zt9 fun σ H Q zz102=>?_) fun _=>rfl
  obtain⟨w,σD,M,QD,S,g,aq⟩:=zz102
  intro p hp
  rw[←S.heap] at hp
  obtain⟨y1,y2,y3⟩:=Qp (xs:=[]) (vs:=[]) S.rs hp (by unfold RKV;rfl)
  have:=aq _ _ _ _ y1 y2 y3 g
  rw[←S.heap]
  exact this
 | .dictT,k,Z,w0,X,ex,G,h=>by cases ex<;>exact absurd h Bf9
 | .lkeys a,k,Z,w0,X,ex,G,h=>by
  cases ex with
  | Call fn ls kws pos=>
   cases fn with
   | Name x np=>
    match ls,kws,h with
    | [l],[],h=>
     change (_&&_)=true at h
     simp only[Bz9,beq_iff_eq,Du] at h
     obtain⟨⟨⟨⟨⟨h1,h2⟩,h3⟩,h4⟩,h5⟩,h6⟩:=h
     exact both G (Cg G h1 h2 h3 h4 h5 (Zk c a k Z w0 X l G h6).1) fun _=>rfl
    | [],_,h=>exact absurd h Bf9
    | _::_::_,_,h=>exact absurd h Bf9
    | [_],_::_,h=>exact absurd h Bf9
   | _=>exact absurd h Bf9
  | _=>exact absurd h Bf9
 | .dct a b,k,Z,w0,X,ex,G,h=>by
  obtain⟨ks,vs,pos,rfl,h⟩:=En h
  obtain⟨q,rfl,h⟩:=Wn h
  obtain⟨l,rfl,h⟩:=Zd5 h
  obtain⟨r,rfl,h2⟩:=Wn h
  change (_&&_)=true at h2
  rw[Bz9] at h2
  exact both G (Zm2 G (Zk c a k Z w0 X l G h2.1).1 (Zk c b k Z w0 X r G h2.2).1) fun _=>rfl
 | .ix a b,k,Z,w0,X,ex,G,h=>by
  obtain⟨l,r,pos,rfl,h⟩:=Qy h
  change (_&&_)=true at h
  simp only[Bz9] at h
  exact both G (Zz8 G h.1.1 (Zk c a k Z w0 X l G h.1.2).1 (Zk c b k Z w0 X r G h.2).1) fun _=>rfl
 | .sl a lo hi,k,Z,w0,X,ex,G,h=>by
  obtain⟨l,r,pos,rfl,h⟩:=Qy h
  obtain⟨x,y,z,p2,rfl,h⟩:=Fy h
  obtain⟨rfl,h⟩:=Cw h
  change (_&&_)=true at h
  simp only[Bz9] at h
  exact both G (Zx7 G (Zk c a k Z w0 X l G h.1.1).1 ((Oz c lo).1 k Z w0 X x G h.1.2) ((Oz c hi).1 k Z w0 X y G h.2)) fun _=>rfl
 | .slW a lo hi,k,Z,w0,X,ex,G,h=>by
  cases ex with
  | Subscript l r pos=>
   cases r with
   | Slice x y z p2=>
    cases z with
    | none=>
     change (_&&_)=true at h
     simp only[Bz9] at h
     exact both G (Zp8 G (Zk c a k Z w0 X l G h.1.1).1 ((Oz c lo).1 k Z w0 X x G h.1.2) ((Oz c hi).1 k Z w0 X y G h.2)) fun _=>rfl
    | some _=>exact absurd h Bf9
   | _=>exact absurd h Bf9
  | _=>exact absurd h Bf9
 | .setT a,k,Z,w0,X,ex,G,h=>by
  obtain⟨x,y,l,p1,p2,q1,q2,rfl,hs⟩:=Zc0 h
  simp only[Bz9,beq_iff_eq,Du] at hs
  obtain⟨⟨⟨⟨⟨⟨⟨⟨h1,h2⟩,h3⟩,h4⟩,h5⟩,h6⟩,h7⟩,h8⟩,h9⟩:=hs
  exact both G (Za3 G h1 h2 h3 h4 h5 h6 h7 h8 (Zk c a k Z w0 X l G h9).1) fun _=>rfl
 | .setf b a,k,Z,w0,X,ex,G,h=>by
  obtain⟨x,y,l,p1,p2,q1,q2,rfl,hs⟩:=Zc4 h
  simp only[Bz9,beq_iff_eq,Du] at hs
  obtain⟨⟨⟨⟨⟨⟨⟨⟨h1,h2⟩,h3⟩,h4⟩,h5⟩,h6⟩,h7⟩,h8⟩,h9⟩:=hs
  exact both G (Z72 G h1 h2 h3 h4 h5 h6 h7 h8 (Zk c a k Z w0 X l G h9).1) fun _=>rfl
 | .rev a,k,Z,w0,X,ex,G,h=>by
  obtain⟨l,r,pos,rfl,h⟩:=Qy h
  obtain⟨x,y,z,p2,rfl,h⟩:=Fy h
  obtain⟨rfl,h⟩:=Cw h
  obtain⟨rfl,h⟩:=Cw h
  obtain⟨z,rfl,h2⟩:=Zd5 h
  change (_&&_)=true at h2
  rw[Bz9] at h2
  exact both G (Zo8 G (Zk c a k Z w0 X l G h2.1).1 h2.2) fun _=>rfl
 | .call f es,k,Z,w0,X,ex,G,h=>by
  obtain⟨fn,ls,kws,pos,rfl,h⟩:=X8 h
  obtain⟨x,np,rfl,h⟩:=Yj h
  obtain⟨rfl,h⟩:=Wp h
  change (_&&_)=true at h
  simp only[Bz9,beq_iff_eq] at h
  exact both G (Za8 G h.1.1.1 h.1.1.2 h.1.2 h.2 (Vg c es k Z w0 X ls G h.2).1) fun _=>rfl
 | .bf b es,k,Z,w0,X,ex,G,h=>by
  obtain⟨fn,ls,kws,pos,rfl,h⟩:=X8 h
  obtain⟨x,np,rfl,h⟩:=Yj h
  obtain⟨rfl,h⟩:=Wp h
  obtain⟨l,ls,rfl,h⟩:=Zi1 h
  change (_&&_)=true at h
  simp only[Bz9,beq_iff_eq,Bool.or_eq_true,Du] at h
  exact both G (Zy7 G h.1.1.1.1 h.1.1.1.2 h.1.1.2 h.1.2 h.2 (Vg c es k Z w0 X (l::ls) G h.2).1) fun _=>rfl
 | .mt m o es,k,Z,w0,X,ex,G,h=>by
  obtain⟨fn,ls,kws,pos,rfl,h⟩:=X8 h
  obtain⟨l,nm,ap,rfl,h⟩:=Z80 h
  obtain⟨rfl,h⟩:=Wp h
  change (_&&_)=true at h
  simp only[Bz9,beq_iff_eq,decide_eq_true_eq] at h
  obtain⟨⟨⟨⟨⟨rfl,h1⟩,h2⟩,h3⟩,h4⟩,h5⟩:=h
  exact both G (Y15 G h1 (by rw[h2];simp) h3 h5 (Zk c o k Z w0 X l G h4).1 (Vg c es k Z w0 X ls G h5).1) fun _=>rfl
 | .comp N' js tg it cd e,k,Z,w0,X,ex,G,h=>by
  obtain⟨el,gens,scope,pos,rfl,h⟩:=Z52 h
  obtain⟨g,rfl,h⟩:=Wn h
  obtain⟨t,iter,ifs,as⟩:=g
  obtain⟨rfl,h⟩:=Zk8 h
  change (_&&_)=true at h
  simp only[Bz9,decide_eq_true_eq] at h
  obtain⟨⟨⟨⟨⟨⟨⟨⟨h1,h2⟩,h3⟩,h4⟩,h5⟩,h6⟩,h7⟩,h8⟩,h9⟩:=h
  exact both G (N1 G h1 h2 h3 h5 (Zo0 c it k Z w0 X t iter G h4 h9) h6 h7 h8 (Zk c e) (Oz c cd)).1 fun _=>rfl
theorem Vg(c:Cfg):∀es:Es,Y72 c es
 | .nil,k,Z,w0,X,ls,G,h=>by
  cases ls with
  | nil=>
   refine⟨PA.imp Vy fun σ H Q zz103=>?_,fun b pos=>⟨PE.imp (t:=fun _ _ _=>False) (fun _ _ _ _ _ _ h=>h.elim) fun σ H Q zz104=>by obtain⟨w,σD,M,QD,S,g,aq⟩:=zz104;exact g,fun _ whole pins s σ H Q I zz105=>by obtain⟨w,σD,M,QD,S,g,aq⟩:=zz105;exact g.elim⟩⟩
   obtain⟨w,σD,M,QD,S,g,aq⟩:=zz103
   have:=aq [] w [] M (Ext.refl w) S.rs (RDs.nil w) g
   rw[S.heap] at this
   exact this
  | cons l ls=>exact absurd h Bf9
 | .cons e r,k,Z,w0,X,ls,G,h=>by
  cases ls with
  | nil=>exact absurd h Bf9
  | cons l ls=>
   change (_&&_)=true at h
   simp only[Bz9] at h
   obtain⟨ie,it⟩:=Zk c e k Z w0 X l G h.1.1
   obtain⟨ir,ib⟩:=Vg c r k Z w0 X ls G h.2
   refine⟨PA.imp (Xh ie ir (Zh h.1.2)) fun σ H Q ⟨w,σD,M,QD,S,g,aq⟩=>?_,fun b pos=>?_⟩
   ·refine Zw S g fun v w1 d M1 x1 r1 rd1 q1=>?_
    refine⟨w1,σD,M1,_,S.next x1 r1,q1,fun vs w2 ds M2 x2 r2 rd2 q2=>?_⟩
    exact aq _ w2 _ M2 (x1.trans x2) r2 (RDs.cons (rd1.ext x2) rd2) q2
   ·cases r with
    | nil=>
     cases ls with
     | cons _ _=>exact absurd h.2 Bf9
     | nil=>
      refine⟨PE.imp (Yj2 ie) fun σ H Q q=>q,fun hn=>?_⟩
      have hn':noIf e=true:=by simpa[Zb4] using hn
      cases b with
      | true=>exact fun whole pins s σ H Q I q=>Yb4 (it hn') whole pins s σ H Q I q
      | false=>exact fun whole pins s σ H Q I q=>Yp1 (it hn') whole pins s σ H Q I q
    | cons e2 r2=>
     cases ls with
     | nil=>exact absurd h.2 Bf9
     | cons l2 ls=>
      obtain⟨jb,jw⟩:=ib b pos
      constructor
      ·cases b with
       | true=>
        refine PE.imp (Yc3 ie jb) fun σ H Q zz107=>?_
        obtain⟨w,σD,M,QD,S,g,aq⟩:=zz107
        refine Zw S g fun v w1 d M1 x1 r1 rd1 q1=>?_
        obtain⟨z,t1,t2⟩:=To (K:=X.K) (by rw[x1.K,S.K,G.eK]) r1 rd1 q1
        refine⟨z,t1,?_⟩
        cases z with
        | true=>rw[if_pos rfl] at t2 ⊢;exact Zw (S.next x1 r1) t2 (aq.ext x1)
        | false=>rw[if_neg Bf9] at t2 ⊢;exact aq _ w1 _ M1 x1 r1 rd1 t2
       | false=>
        refine PE.imp (Yt0 ie jb) fun σ H Q zz108=>?_
        obtain⟨w,σD,M,QD,S,g,aq⟩:=zz108
        refine Zw S g fun v w1 d M1 x1 r1 rd1 q1=>?_
        obtain⟨z,t1,t2⟩:=To (K:=X.K) (by rw[x1.K,S.K,G.eK]) r1 rd1 q1
        refine⟨z,t1,?_⟩
        cases z with
        | false=>rw[if_pos rfl] at t2;rw[if_neg Bf9];exact Zw (S.next x1 r1) t2 (aq.ext x1)
        | true=>rw[if_neg (by decide)] at t2;rw[if_pos rfl];exact aq _ w1 _ M1 x1 r1 rd1 t2
      ·intro hn
       have hn':noIf e=true∧Zb4 (.cons e2 r2)=true:=by
        have:(noIf e&&Zb4 (.cons e2 r2))=true:=hn
        simpa using this
       have jw':=jw hn'.2
       cases b with
       | true=>
        rintro whole pins s σ H Q I ⟨w,σD,M,QD,S,g,aq⟩
        refine Yp8 (it hn'.1) jw' whole pins s σ H Q I ?_
        refine⟨w,σD,M,fun z M1=>if z=true then ttD (tbop c Z true (.cons e2 r2)) σD M1 QD else QD false M1,S,?_,fun z w1 M1 x1 r1 q1=>?_⟩
        ·exact te_bop_tt g
        ·cases z with
         | true=>rw[if_pos rfl] at q1 ⊢;exact⟨w1,σD,M1,QD,S.next x1 r1,q1,fun z w2 M2 x2 r2 q2=>aq z w2 M2 (x1.trans x2) r2 q2⟩
         | false=>rw[if_neg Bf9] at q1 ⊢;exact aq _ w1 M1 x1 r1 q1
       | false=>
        rintro whole pins s σ H Q I ⟨w,σD,M,QD,S,g,aq⟩
        refine Yv9 (it hn'.1) jw' whole pins s σ H Q I ?_
        refine⟨w,σD,M,fun z M1=>if z=true then QD true M1 else ttD (tbop c Z false (.cons e2 r2)) σD M1 QD,S,?_,fun z w1 M1 x1 r1 q1=>?_⟩
        ·exact te_bop_ff g
        ·cases z with
         | true=>rw[if_pos rfl] at q1 ⊢;exact aq _ w1 M1 x1 r1 q1
         | false=>rw[if_neg Bf9] at q1 ⊢;exact⟨w1,σD,M1,QD,S.next x1 r1,q1,fun z w2 M2 x2 r2 q2=>aq z w2 M2 (x1.trans x2) r2 q2⟩
theorem Oz(c:Cfg):∀eo:Eo,Y48 c eo
 | .no=>⟨fun k Z w0 X lo G h=>by
   cases lo with
   | none=>
    rintro pins s σ H Q I ⟨w,σD,M,QD,S,g,aq⟩
    refine Ya5 pins s σ H Q I ?_
    have:=aq none w M (Ext.refl w) S.rs g
    rw[S.heap] at this
    exact this
   | some _=>exact absurd h Bf9,fun k Z w0 X ls G h=>by
   cases ls with
   | nil=>exact .inr ⟨rfl,rfl⟩
   | cons _ _=>exact absurd h Bf9⟩
 | .yes e=>⟨fun k Z w0 X lo G h=>by
   cases lo with
   | none=>exact absurd h Bf9
   | some x=>
    rintro pins s σ H Q I ⟨w,σD,M,QD,S,g,aq⟩
    refine Zj9 (Zk c e k Z w0 X x G h).1 pins s σ H Q I ?_
    refine Zw S g fun v w1 d M1 x1 r1 rd1 q1=>?_
    split at q1
    ·cases Zd.mp rd1
     exact⟨_,rfl,aq _ w1 M1 x1 r1 q1⟩
    ·exact q1.elim,fun k Z w0 X ls G h=>by
   match ls,h with
   | [x],h=>
    change (_&&_)=true at h
    simp only[Bz9] at h
    exact .inl ⟨x,rfl,(Zk c e k Z w0 X x G h.1).2 h.2⟩
   | [],h=>exact absurd h Bf9
   | _::_::_,h=>exact absurd h Bf9⟩
theorem Zo0(c:Cfg):∀it:It,Yp2 c it
 | .seq e,k,Z,w0,X,tg,ex,G,h,_=>by
  refine PI.imp (Yk7 (Zk c e k Z w0 X ex G h).1) fun σ H R zz109=>?_
  obtain⟨w,σD,M,QD,S,g,aq⟩:=zz109
  refine Zw S g fun v w1 d M1 x1 r1 rd1 q1=>?_
  have hK:X.K=w1.K:=by rw[x1.K,S.K,G.eK]
  unfold itD at q1
  split at q1
  ·obtain⟨hn,rfl⟩:=Zp.mp rd1
   obtain⟨xs,z1,z2⟩:=q1
   obtain⟨_,vs,y1,y2,_⟩:=r1.listL z1
   rw[←hK] at y1
   exact .inl ⟨_,rfl,⟨vs,y1⟩,aq _ w1 _ _ M1 x1 r1 (Zv1 hK hn) z2⟩
  ·obtain⟨a,vs,rfl,y1,y2⟩:=Yn.mp rd1
   exact .inr ⟨a,rfl,⟨vs,.of y1⟩,aq _ w1 _ _ M1 x1 r1 (Ze4 hK (.of y1) y2) q1⟩
  ·obtain⟨a,vs,rfl,y1,y2⟩:=Ja.mp rd1
   exact .inr ⟨a,rfl,⟨vs,by rw[hK];exact y1⟩,aq _ w1 _ _ M1 x1 r1 (Ze4 hK y1 y2) q1⟩
  ·exact q1.elim
 | .rng1 a,k,Z,w0,X,tg,ex,G,h,_=>by
  obtain⟨fn,ls,kws,pos,rfl,h⟩:=X8 h
  obtain⟨x,np,rfl,h⟩:=Yj h
  obtain⟨rfl,h⟩:=Wp h
  obtain⟨l,rfl,h⟩:=Wn h
  change (_&&_)=true at h
  simp only[Bz9,beq_iff_eq,Du] at h
  obtain⟨⟨⟨⟨rfl,h1⟩,h2⟩,h3⟩,h4⟩:=h
  obtain⟨g1,g2,g3⟩:=G.gl h1
  refine PI.imp (Zn4 g1 (G.blt _ h2) (Xh (Zk c a k Z w0 X l G h4).1 Vy (Zh h3)) (Zh h3)) fun σ H R zz110=>?_
  obtain⟨w,σD,M,QD,S,g,aq⟩:=zz110
  refine Zw S g fun v w1 d M1 x1 r1 rd1 q1=>?_
  split at q1
  ·cases Zd.mp rd1
   exact⟨_,rfl,q1.1,q1.2.1,aq _ w1 _ _ M1 x1 r1 Zn8 q1.2.2⟩
  ·exact q1.elim
 | .rng2 a b,k,Z,w0,X,tg,ex,G,h,_=>by
  obtain⟨fn,ls,kws,pos,rfl,h⟩:=X8 h
  obtain⟨x,np,rfl,h⟩:=Yj h
  obtain⟨rfl,h⟩:=Wp h
  obtain⟨l,ls,rfl,h⟩:=Zi1 h
  obtain⟨r,rfl,h⟩:=Wn h
  change (_&&_)=true at h
  simp only[Bz9,beq_iff_eq,Du] at h
  obtain⟨⟨⟨⟨⟨⟨rfl,h1⟩,h2⟩,h3⟩,h5⟩,h4⟩,h6⟩:=h
  obtain⟨g1,g2,g3⟩:=G.gl h1
  refine PI.imp (Zk1 g1 (G.blt _ h2) (Xh (Zk c a k Z w0 X l G h4).1 (Xh (Zk c b k Z w0 X r G h6).1 Vy (Zh h5)) (Zh h3)) (by rw[Zh h3,Zh h5];rfl) (Zh h5)) fun σ H R zz111=>?_
  obtain⟨w,σD,M,QD,S,g,aq⟩:=zz111
  refine Zw S g fun v w1 d M1 x1 r1 rd1 q1=>?_
  refine Zw (S.next x1 r1) q1 fun v2 w2 d2 M2 x2 r2 rd2 q2=>?_
  split at q2
  ·cases Zd.mp rd1
   cases Zd.mp rd2
   exact⟨_,_,rfl,q2.1,aq _ w2 _ _ M2 (x1.trans x2) r2 Zn8 q2.2⟩
  ·exact q2.elim
 | .zip es,k,Z,w0,X,tg,ex,G,h,ht=>by cases ex<;>exact absurd h Bf9
 | .enm a,k,Z,w0,X,tg,ex,G,h,ht=>by
  obtain⟨elts,ctx,tp,rfl,_⟩:=Fi (F:=fun _=>true) (show Yb9 tg (fun _=>true)=true by cases tg<;>first | rfl | exact ht)
  obtain⟨fn,ls,kws,pos,rfl,h⟩:=X8 h
  obtain⟨x,np,rfl,h⟩:=Yj h
  obtain⟨rfl,h⟩:=Wp h
  obtain⟨l,rfl,h⟩:=Wn h
  change (_&&_)=true at h
  simp only[Bz9,beq_iff_eq,Du] at h
  obtain⟨⟨⟨⟨rfl,h1⟩,h2⟩,h3⟩,h4⟩:=h
  obtain⟨g1,g2,g3⟩:=G.gl h1
  refine PI.imp (Yb7 g1 (G.blt _ h2) (Xh (Zk c a k Z w0 X l G h4).1 Vy (Zh h3)) (Zh h3)) fun σ H R zz112=>?_
  obtain⟨w,σD,M,QD,S,g,aq⟩:=zz112
  refine Zw S g fun v w1 d M1 x1 r1 rd1 q1=>?_
  have hK:X.K=w1.K:=by rw[x1.K,S.K,G.eK]
  split at q1
  ·obtain⟨hn,rfl⟩:=Zp.mp rd1
   obtain⟨xs,z1,z2⟩:=q1
   obtain⟨_,vs,y1,y2,_⟩:=r1.listL z1
   rw[←hK] at y1
   exact⟨_,rfl,⟨vs,y1⟩,aq _ w1 _ _ M1 x1 r1 (Y12 hK hn) z2⟩
  ·exact q1.elim
end
noncomputable def Z58:Expr→Bool
 | .ListComp .. | .SetComp .. | .DictComp ..=>false
 | _=>true
noncomputable def Zq3:Expr→Bool
 | .Tuple ..=>false
 | _=>true
noncomputable def Y52:Expr→Bool
 | .Name ..=>true
 | _=>false
noncomputable def Y77(k:Ck)(t x:Expr):Bool:=match t,x with
 | .Name n pos,.ListComp _ _ scope p=>k.sc.kind== .function&&k.loc n&&pos.line==p.line&&!(scope.names.any fun(m,j)=>m==n&&(j== .local || j== .cell))
 | _,_=>false
noncomputable def Yo3(k:Ck)(t x:Expr):Bool:=match t,x with
 | .Name n _,.ListComp ..=>k.sc.names.lookup n==some .cell
 | _,_=>false
mutual
noncomputable def chkS(k:Ck):S→Stmt→Bool
 | .ret e,.Return (some x) _=>chkE k e x
 | .expr e,.Expr x _=>Z58 x&&chkE k e x
 | .set tg e,.Assign [t] x _=>C1 k tg t&&chkE k e x&&((Z58 x&&(Y52 t || Zq3 x)) || (Y77 k t x&&decide (tg.length=1)) || Yo3 k t x)
 | .put o i v,.Assign [.Subscript l r _] x _=>Z03 r&&Z58 x&&chkE k v x&&chkE k o l&&chkE k i r
 | .ite t a b,.If x ls rs _=>chkE k t x&&noIf t&&Zv k a ls&&Zv k b rs
 | .for_ tg it b,.For t x ls [] _=>k.calm&&k.loops&&Zg7 x&&C1 k tg t&&Yc2 k it x&&Zv k b ls&&itTg it t
 | .while_ t b,.While x ls [] _=>k.loops&&chkE k t x&&noIf t&&Zv k b ls
 | _,_=>false
noncomputable def Zv(k:Ck):Ss→List Stmt→Bool
 | .nil,[]=>true
 | .cons s r,x::xs=>chkS k s x&&Zv k r xs
 | _,_=>false
end
section
variable{c:Cfg}{k:Ck}{Z:DX}{w0:Vw}{X:Cx}
theorem By{x:Expr}{t:Option Expr}{line:Nat}{env:Env}(h:Z58 x=true):swapsWith x t line env=pure false:=by
 cases x<;>first | rfl | cases h
theorem Fv{f:DS}{σ:L2.St}{w:Vw}{σD:DEnv}{M:Z2}{H:Hp}{R:Ends}{RR:DEnds}(S:StOk w0 w σD M σ H)(h:f RR σD M)
  (h1:∀σ' w' σD' M',Ext w w'→RS w' M'→REnv w' σD' σ'→RR.nx σD' M'→R.nx σ' w'.H) (h2:Aft w RR.rt R.rt)
  (h3:∀σ' w' σD' M',Ext w w'→RS w' M'→REnv w' σD' σ'→RR.bk σD' M'→R.bk σ' w'.H)
  (h4:∀σ' w' σD' M',Ext w w'→RS w' M'→REnv w' σD' σ'→RR.ct σD' M'→R.ct σ' w'.H):tFS w0 f R σ H:=⟨w,σD,M,RR,S,h,h1,h2,h3,h4⟩
theorem Yf9{w1:Vw}{J:L2.It}{own:Own}{xs:List D}{tg:List Nat}{body:DS}{M1:Z2}{H1:Hp}{σD:DEnv}{σ:L2.St}{RR:DEnds}{R:Ends}(S:StOk w0 w1 σD M1 σ H1)(jk:JOk w1 J own xs)
  (h:forD own xs tg body xs RR σD M1)
  (h1:∀σ' w' σD' M',Ext w1 w'→RS w' M'→REnv w' σD' σ'→RR.nx σD' M'→R.nx σ' w'.H) (h2:Aft w1 RR.rt R.rt):
  ∃W:Nat→Nat→L2.St→Hp→Prop,(∃m,W 0 m σ H1)∧∀i m σ H,W i m σ H→
   (J.stop i H∧R.nx σ H)∨(J.go i H∧∃N:L2.St→Hp→Prop,(∀σ' H',N σ' H'→∃m',m'<m∧W (i+1) m' σ' H')∧∀x H',J.yld i H x H'→gF w0 tg x σ H' fun σ2 H2=>tFS w0 body {R with nx:=N,ct:=N,bk:=R.nx} σ2 H2):=by
 refine⟨fun i m σ H=>∃w σE M,StOk w0 w σE M σ H∧Ext w1 w∧i≤xs.length∧m=xs.length - i∧forD own xs tg body (xs.drop i) RR σE M,⟨xs.length,w1,σD,M1,S,Ext.refl _,Nat.zero_le _,rfl,h⟩,?_⟩
 rintro i m σc Hc ⟨w,σE,M,S1,x1,hi,rfl,hc⟩
 have stp:∀st:J9 own xs M,_:=fun st=>jk w M x1 S1.rs st i
 rw[S1.heap] at stp
 by_cases hil:i<xs.length
 ·rw[Ke hil] at hc
  obtain⟨st,hc⟩:=hc
  obtain⟨j1,j2⟩:=(stp st).1 xs[i] (Aa hil)
  refine .inr ⟨j1,fun σ' H'=>∃w σE M,StOk w0 w σE M σ' H'∧Ext w1 w∧i+1≤xs.length∧forD own xs tg body (xs.drop (i+1)) RR σE M,?_,fun x H' hy=>?_⟩
  ·rintro σ' H' ⟨w2,σ2,M2,S2,x2,l2,f2⟩
   exact⟨xs.length - (i+1),by omega,w2,σ2,M2,S2,x2,l2,rfl,f2⟩
  ·obtain⟨w3,rfl,x3,R3,rd3⟩:=j2 x H' hy
   refine⟨w3,σE,M,xs[i],_,⟨rfl,S1.ext.trans x3,R3,S1.env.ext x3⟩,rd3,hc,fun σ2 σE2 env2 q2=>?_⟩
   have nxt:∀σ' w' σD' M',Ext w3 w'→RS w' M'→REnv w' σD' σ'→forD own xs tg body (xs.drop (i+1)) RR σD' M'→
     ∃w σE M,StOk w0 w σE M σ' w'.H∧Ext w1 w∧i+1≤xs.length∧forD own xs tg body (xs.drop (i+1)) RR σE M:=
    fun σ' w' σD' M' x' r' e' q'=>⟨w',σD',M',⟨rfl,(S1.ext.trans x3).trans x',r',e'⟩,(x1.trans x3).trans x',hil,q'⟩
   exact Fv ⟨rfl,S1.ext.trans x3,R3,env2⟩ q2 nxt (fun v w' d M' x' r' rd' q'=>h2 v w' d M' ((x1.trans x3).trans x') r' rd' q')
    (fun σ' w' σD' M' x' r' e' q'=>h1 σ' w' σD' M' ((x1.trans x3).trans x') r' e' q') nxt
 ·rw[List.drop_eq_nil_of_le (by omega)] at hc
  obtain⟨st,hq⟩:=hc
  refine .inl ⟨(stp st).2 (by omega),?_⟩
  have:=h1 σc w σE M x1 S1.rs S1.env hq
  rw[S1.heap] at this
  exact this
theorem Yl8{o i value:Expr}{td ty tv:TE}{pos pos':Pos}(hu:X.A.units+1<cLine)(ho:PE X o td)(hi:PE X i ty)(hv:PE X value tv)(hs:swapsWith value (some (.Subscript o i pos')) pos.line X.env=pure false):
  PS X (.Assign [.Subscript o i pos'] value pos) (fun R σ H=>tv σ H fun v H1=>td σ H1 fun x H2=>ty σ H2 fun y H3=>Ys9 x y v H3 (fun H4=>R.nx σ H4)∨∃a H4,x= .ref a∧DPut H3 a y v H4∧R.nx σ H4):=by
 intro pins s σ H D I h
 refine wpAny_Assign_Subscript (thn (hv pins s σ H _ I h) fun r s1 ⟨v,H1,I1,rv,q1⟩=>thn (ho pins s1 σ H1 _ I1 q1) fun u s2 ⟨x,H2,I2,rx,q2⟩=>thn (hi pins s2 σ H2 _ I2 q2) fun iv s3 zz115=>?_) hs
 obtain⟨y,H3,I3,ry,q3⟩:=zz115
 rcases q3 with q3 | ⟨a,H4,ex,g,q3⟩
 ·exact thn (Zu7 pins s3 σ H3 x y v u iv r (fun H4=>D.nx σ H4) I3 rx ry rv q3) fun _ s4 zz116=>by obtain⟨H4,I4,q4⟩:=zz116;exact⟨σ,H4,I4,q4⟩
 ·subst ex
  obtain rfl:u=Ax a:=rx
  exact Zn5 hu I3 g ry rv fun s4 I4=>⟨σ,H4,I4,q3⟩
end
def Zd9(c:Cfg)(s:S):Prop:=∀(k:Ck) (Z:DX) (w0:Vw) (X:Cx) (st:Stmt),Good c k Z w0 X→chkS k s st=true→PS X st (tFS w0 (ts c Z s))
def Yd5(c:Cfg)(s:Ss):Prop:=∀(k:Ck) (Z:DX) (w0:Vw) (X:Cx) (st:List Stmt),Good c k Z w0 X→Zv k s st=true→PSs X st (tFS w0 (tss c Z s))
theorem Z99{k:Ck}{t x:Expr}(h:Y77 k t x=true):∃n np el gens scope p,t= .Name n np∧x= .ListComp el gens scope p:=by
 cases t with
 | Name n np=>
  cases x with
  | ListComp el gens scope p=>exact⟨_,_,_,_,_,_,rfl,rfl⟩
  | _=>exact absurd h Bf9
 | _=>exact absurd h Bf9
theorem Zb9{k:Ck}{t x:Expr}(h:Yo3 k t x=true):∃n np el gens scope p,t= .Name n np∧x= .ListComp el gens scope p∧k.sc.names.lookup n=some .cell:=by
 cases t with
 | Name n np=>
  cases x with
  | ListComp el gens scope p=>exact⟨_,_,_,_,_,_,rfl,rfl,Kj h⟩
  | _=>exact absurd h Bf9
 | _=>exact absurd h Bf9
theorem Zc3{k:Ck}{e:E}{el:Expr}{gens:List Comprehension}{scope:Scope}{p:Pos}(h:chkE k e (.ListComp el gens scope p)=true):
  ∃N' js tg it cd e' t iter ifs,e= .comp N' js tg it cd e'∧gens=[⟨t,iter,ifs,0⟩]:=by
 cases e with
 | comp N' js tg it cd e'=>
  obtain⟨_,_,_,_,he,h⟩:=Z52 h
  cases he
  obtain⟨g,rfl,h⟩:=Wn h
  obtain⟨t,iter,ifs,as⟩:=g
  obtain⟨rfl,_⟩:=Zk8 h
  exact⟨_,_,_,_,_,_,_,_,_,rfl,rfl⟩
 | _=>exact absurd h Bf9
theorem Zj3(c:Cfg)(tg:List Nat)(e:E):Zd9 c (.set tg e):=by
  intro k Z w0 X st G h
  cases st with
  | Assign ts' x pos=>
   match ts',h with
   | [t],h=>
    change (_&&_)=true at h
    simp only[Bz9,Bool.or_eq_true,decide_eq_true_eq] at h
    obtain⟨⟨ht,he⟩,h⟩:=h
    rcases h with(⟨hc,hs⟩ | ⟨hs,hl⟩) | hs
    rotate_left 2
    ·obtain⟨n,np,el,gens,scope,p,rfl,rfl,hcell⟩:=Zb9 hs
     have h1:swapsWithSole [.Name n np] (.ListComp el gens scope p) pos.line X.env=pure false:=by
      have hk:X.env.kindOf n=some .cell:=by
       unfold Env.kindOf
       rw[G.sc];exact hcell
      have hk':(X.env.kindOf n==some NameKind.local)=false:=by rw[hk];rfl
      unfold swapsWithSole swapsWith
      simp only[hk',Bool.and_false,Bool.false_and]
     refine PS.imp (Y68 (Zk c e k Z w0 X _ G he).1 (G.tgt tg _ ht) h1 rfl rfl) fun R σ H zz117=>?_
     obtain⟨w,σD,M,RR,S,q,q1,q2,q3,q4⟩:=zz117
     refine Zw S q fun v w' d M' x' r' rd' q'=>?_
     exact⟨w',σD,M',d,_,S.next x' r',rd',q',fun σ' σD' e' z=>q1 σ' w' σD' M' x' r' e' z⟩
    ·have h1:swapsWithSole [t] x pos.line X.env=pure false:=By hc
     have h2:swappedStores [t] x X.env=pure none:=by
      cases t with
      | Name n p=>cases x<;>rfl
      | Tuple es kk p=>
       have:Zq3 x=true:=hs.resolve_left (by simp[Y52])
       cases x<;>first | rfl | cases this
      | _=>exact absurd ht Bf9
     have h3:(assignEach [t] X.env).map (·.2)=[assign t X.env]:=by
      cases t with
      | Name n p=>rfl
      | Tuple es kk p=>rfl
      | _=>exact absurd ht Bf9
     refine PS.imp (Y68 (Zk c e k Z w0 X x G he).1 (G.tgt tg t ht) h1 h2 h3) fun R σ H zz118=>?_
     obtain⟨w,σD,M,RR,S,q,q1,q2,q3,q4⟩:=zz118
     refine Zw S q fun v w' d M' x' r' rd' q'=>?_
     exact⟨w',σD,M',d,_,S.next x' r',rd',q',fun σ' σD' e' z=>q1 σ' w' σD' M' x' r' e' z⟩
    ·match tg,hl,ht with
     | [i],_,ht=>
      obtain⟨n,np,el,gens,scope,p,rfl,rfl⟩:=Z99 hs
      obtain⟨N',js,tg,it,cd,e,t2,iter,ifs,rfl,rfl⟩:=Zc3 he
      change (_&&_)=true at he
      simp only[Bz9,decide_eq_true_eq] at he
      obtain⟨⟨⟨⟨⟨⟨⟨⟨h1,h2⟩,h3⟩,h4⟩,h5⟩,h6⟩,h7⟩,h8⟩,h9⟩:=he
      change (_&&_)=true at ht
      simp only[Bz9,beq_iff_eq] at ht
      simp only[Y77,Bz9,beq_iff_eq,Bool.not_eq_true'] at hs
      obtain⟨⟨⟨s1,s2⟩,s3⟩,s4⟩:=hs
      have hl':X.env.scope.names.lookup n=some .local:=by
       unfold Ck.loc at s2
       rw[G.sc];exact Kj s2
      have hsw:swapsWith (.ListComp el [⟨t2,iter,ifs,0⟩] scope p) (some (.Name n np)) pos.line X.env=pure true:=by
       unfold swapsWith
       have hb:(X.env.blockKind==ScopeKind.function)=true:=by
        unfold Env.blockKind
        rw[G.sc,s1];rfl
       have hk:(X.env.kindOf n==some NameKind.local)=true:=by
        unfold Env.kindOf
        rw[hl'];rfl
       have hp:(np.line==(Expr.ListComp el [⟨t2,iter,ifs,0⟩] scope p).pos.line)=true:=by
        show(np.line==p.line)=true
        rw[s3];simp
       simp only[hb,hk,hp,s4,Bool.not_false,Bool.and_self]
      refine PS.imp ((N1 G h1 h2 h3 h5 (Zo0 c it k Z w0 X t2 iter G h4 h9) h6 h7 h8 (Zk c e) (Oz c cd)).2 i n np pos (by rw[G.N];exact ht.1) hl' hsw) fun R σ H zz119=>?_
      obtain⟨w,σD,M,RR,S,q,q1,q2,q3,q4⟩:=zz119
      have q:te c Z (.comp N' js tg it cd e) σD M fun d M1=>RR.nx (σD.set i (some d)) M1:=q
      refine Zw S q fun v w' d M' x' r' rd' q'=>?_
      exact q1 _ w' _ M' x' r' ((S.env.ext x').set i rd') q'
     | [],hl,_=>simp at hl
     | _::_::_,hl,_=>simp at hl
   | [],h=>exact absurd h Bf9
   | _::_::_,h=>exact absurd h Bf9
  | _=>exact absurd h Bf9
theorem Zg8(c:Cfg)(o i v:E):Zd9 c (.put o i v):=by
  intro k Z w0 X st G h
  cases st with
  | Assign ts' x pos=>
   match ts',h with
   | [t],h=>
    cases t with
    | Subscript l r p=>
     change (_&&_)=true at h
     simp only[Bz9] at h
     obtain⟨⟨⟨⟨h1,h2⟩,h3⟩,h4⟩,h5⟩:=h
     refine PS.imp (Yl8 (by have:=G.units;omega) (Zk c o k Z w0 X l G h4).1 (Zk c i k Z w0 X r G h5).1 (Zk c v k Z w0 X x G h3).1 (By h2)) fun R σ H zz120=>?_
     obtain⟨w,σD,M,RR,S,q,q1,q2,q3,q4⟩:=zz120
     refine Zw S q fun vv w1 dv M1 x1 r1 rd1 z1=>?_
     refine Zw (S.next x1 r1) z1 fun vo w2 dob M2 x2 r2 rd2 z2=>?_
     refine Zw ((S.next x1 r1).next x2 r2) z2 fun vi w3 di M3 x3 r3 rd3 z3=>?_
     split at z3
     ·obtain⟨hn,rfl⟩:=Zp.mp (rd2.ext x3)
      rcases z3 with⟨xs,kk,j,rfl,y1,y2,y3⟩ | ⟨kvs,kk,y1,y2,y3,y4⟩ | gF
      ·cases Zd.mp rd3
       obtain⟨hn,vs,u1,u2⟩:=r3.list y1
       obtain⟨t1,t2⟩:=Xa r3 hn u1 (u2.set (rd1.ext (x2.trans x3)) j)
       exact .inl ⟨_,vs,kk,j,rfl,rfl,u1,by rw[u2.length];exact y2,q1 σ _ σD _ (((x1.trans x2).trans x3).trans t1) t2 (S.env.ext (((x1.trans x2).trans x3).trans t1)) y3⟩
      ·obtain⟨hn,vs,u1,u2⟩:=r3.dict y1
       cases Qw y2 rd3
       obtain⟨t1,t2⟩:=N8 r3 hn u1 (u2.put (k:=kk) (rd1.ext (x2.trans x3)))
       exact .inr ⟨_,_,rfl,DPut.k (k:=kk) u1 (by rw[u2.length];exact y3),q1 σ _ σD _ (((x1.trans x2).trans x3).trans t1) t2 (S.env.ext (((x1.trans x2).trans x3).trans t1)) y4⟩
      ·exact gF.elim
     ·exact z3.elim
    | _=>exact absurd h Bf9
   | [],h=>exact absurd h Bf9
   | a::b::r,h=>cases a<;>exact absurd h Bf9
  | _=>exact absurd h Bf9
mutual
theorem Ym3(c:Cfg):∀s:S,Zd9 c s
 | .ret e,k,Z,w0,X,st,G,h=>by
  cases st with
  | Return v pos=>
   cases v with
   | some x=>exact PS.imp (Ys6 (Zk c e k Z w0 X x G h).1) fun R σ H zz121=>by obtain⟨w,σD,M,RR,S,q,h1,h2,h3,h4⟩:=zz121;exact Zw S q h2
   | none=>exact absurd h Bf9
  | _=>exact absurd h Bf9
 | .expr e,k,Z,w0,X,st,G,h=>by
  cases st with
  | Expr x pos=>
   change (_&&_)=true at h
   simp only[Bz9] at h
   exact PS.imp (Yf8 (Zk c e k Z w0 X x G h.2).1 (By h.1)) fun R σ H zz122=>by obtain⟨w,σD,M,RR,S,q,h1,h2,h3,h4⟩:=zz122;exact Zw S q fun v w' d M' x' r' rd' q'=>h1 σ w' σD M' x' r' (S.env.ext x') q'
  | _=>exact absurd h Bf9
 | .set tg e,k,Z,w0,X,st,G,h=>Zj3 c tg e k Z w0 X st G h
 | .put o i v,k,Z,w0,X,st,G,h=>Zg8 c o i v k Z w0 X st G h
 | .ite t a b,k,Z,w0,X,st,G,h=>by
  cases st with
  | If x ls rs pos=>
   change (_&&_)=true at h
   simp only[Bz9] at h
   obtain⟨⟨⟨h1,h2⟩,h3⟩,h4⟩:=h
   refine PS.imp (Yv1 ((Zk c t k Z w0 X x G h1).2 h2) (Sv c a k Z w0 X ls G h3) (Sv c b k Z w0 X rs G h4)) fun R σ H zz123=>?_
   obtain⟨w,σD,M,RR,S,q,q1,q2,q3,q4⟩:=zz123
   refine⟨w,σD,M,_,S,q,fun z w1 M1 x1 r1 y1=>?_⟩
   have fin:∀{f:DS},f RR σD M1→tFS w0 f R σ w1.H:=fun hf=>Fv (S.next x1 r1) hf (fun σ' w' σD' M' x' r' e' z=>q1 σ' w' σD' M' (x1.trans x') r' e' z) (q2.ext x1)
    (fun σ' w' σD' M' x' r' e' z=>q3 σ' w' σD' M' (x1.trans x') r' e' z) (fun σ' w' σD' M' x' r' e' z=>q4 σ' w' σD' M' (x1.trans x') r' e' z)
   cases z with
   | true=>
    rw[if_pos rfl] at y1
    show if (true:Bool)=true then _ else _
    rw[if_pos rfl];exact fin y1
   | false=>
    rw[if_neg Bf9] at y1
    show if (false:Bool)=true then _ else _
    rw[if_neg Bf9];exact fin y1
  | _=>exact absurd h Bf9
 | .for_ tg it b,k,Z,w0,X,st,G,h=>by
  cases st with
  | For t x ls els pos=>
   cases els with
   | nil=>
    change (_&&_)=true at h
    simp only[Bz9] at h
    obtain⟨⟨⟨⟨⟨⟨h1,h2⟩,h3⟩,h4⟩,h5⟩,h6⟩,h7⟩:=h
    have hf:∀v,foldedSetIterable x X.env v=pure v:=by
     intro v
     cases x<;>first | rfl | cases h3
    refine PS.imp (Yl0 (G.po h2) (G.calm h1) (Zo0 c it k Z w0 X t x G h5 h7) (G.tgt tg t h4) (Sv c b k Z w0 X ls G h6) hf) fun R σ H zz124=>?_
    obtain⟨w,σD,M,RR,S,q,q1,q2,q3,q4⟩:=zz124
    refine⟨w,σD,M,_,S,q,fun J w1 own xs M1 x1 r1 jk z=>?_⟩
    exact Yf9 (S.next x1 r1) jk z (fun σ' w' σD' M' x' r' e' z=>q1 σ' w' σD' M' (x1.trans x') r' e' z) (q2.ext x1)
   | cons _ _=>exact absurd h Bf9
  | _=>exact absurd h Bf9
 | .while_ t b,k,Z,w0,X,st,G,h=>by
  cases st with
  | While x ls els pos=>
   cases els with
   | nil=>
    change (_&&_)=true at h
    simp only[Bz9] at h
    obtain⟨⟨⟨h1,h2⟩,h3⟩,h4⟩:=h
    refine PS.imp (Y10 (G.po h1) ((Zk c t k Z w0 X x G h2).2 h3) (Sv c b k Z w0 X ls G h4)) fun R σ H zz125=>?_
    obtain⟨w,σD,M,RR,S,q,q1,q2,q3,q4⟩:=zz125
    obtain⟨W,⟨m0,hm0⟩,step⟩:=q
    refine⟨fun m σ H=>∃w2 σE M2,StOk w0 w2 σE M2 σ H∧Ext w w2∧W m σE M2,⟨m0,w,σD,M,S,Ext.refl w,hm0⟩,?_⟩
    rintro m σ2 H2 ⟨w2,σE,M2,S2,x2,hW⟩
    refine⟨w2,σE,M2,_,S2,step m σE M2 hW,fun z w3 M3 x3 r3 y3=>?_⟩
    cases z with
    | false=>
     rw[if_neg Bf9] at y3 ⊢
     exact q1 σ2 w3 σE M3 (x2.trans x3) r3 (S2.env.ext x3) y3
    | true=>
     rw[if_pos rfl] at y3 ⊢
     have nxt:∀σ' w' σD' M',Ext w3 w'→RS w' M'→REnv w' σD' σ'→(∃m',m'<m∧W m' σD' M')→∃m',m'<m∧∃w2 σE M2,StOk w0 w2 σE M2 σ' w'.H∧Ext w w2∧W m' σE M2:=
      fun σ' w' σD' M' x' r' e' zz126=>by obtain⟨m',l',z'⟩:=zz126;exact⟨m',l',w',σD',M',⟨rfl,(S2.ext.trans x3).trans x',r',e'⟩,(x2.trans x3).trans x',z'⟩
     refine⟨fun σ' H'=>∃m',m'<m∧∃w2 σE M2,StOk w0 w2 σE M2 σ' H'∧Ext w w2∧W m' σE M2,fun σ' H' z=>z,?_⟩
     exact Fv (S2.next x3 r3) y3 nxt (fun v w' d M' x' r' rd' z'=>q2 v w' d M' ((x2.trans x3).trans x') r' rd' z') (fun σ' w' σD' M' x' r' e' z'=>q1 σ' w' σD' M' ((x2.trans x3).trans x') r' e' z') nxt
   | cons _ _=>exact absurd h Bf9
  | _=>exact absurd h Bf9
theorem Sv(c:Cfg):∀s:Ss,Yd5 c s
 | .nil,k,Z,w0,X,st,G,h=>by
  cases st with
  | nil=>
   refine PSs.imp Ya0 fun R σ H zz127=>?_
   obtain⟨w,σD,M,RR,S,q,h1,_⟩:=zz127
   have:=h1 σ w σD M (Ext.refl w) S.rs S.env q
   rw[S.heap] at this
   exact this
  | cons _ _=>exact absurd h Bf9
 | .cons s r,k,Z,w0,X,st,G,h=>by
  cases st with
  | nil=>exact absurd h Bf9
  | cons x xs=>
   change (_&&_)=true at h
   simp only[Bz9] at h
   refine PSs.imp (Y39 (Ym3 c s k Z w0 X x G h.1) (Sv c r k Z w0 X xs G h.2)) fun R σ H zz128=>?_
   obtain⟨w,σD,M,RR,S,q,h1,h2,h3,h4⟩:=zz128
   refine Fv S q ?_ h2 h3 h4
   intro σ' w' σD' M' x' r' e' q'
   exact Fv ⟨rfl,S.ext.trans x',r',e'⟩ q' (fun σ2 w2 σD2 M2 x2 r2 e2 z=>h1 σ2 w2 σD2 M2 (x'.trans x2) r2 e2 z) (h2.ext x') (fun σ2 w2 σD2 M2 x2 r2 e2 z=>h3 σ2 w2 σD2 M2 (x'.trans x2) r2 e2 z) (fun σ2 w2 σD2 M2 x2 r2 e2 z=>h4 σ2 w2 σD2 M2 (x'.trans x2) r2 e2 z)
end
theorem FnOk.cx{P:Program}{w:World}{K:Af}{mg:Str→Option Value}{base:Heap}{CX:CXT}{k:Nat}{f:Addr}{fd:FuncData}{ps:List Str}{sp:Sp}(F:FnOk P w K mg base CX0 k f fd ps sp):FnOk P w K mg base CX k f fd ps sp:=
 ⟨F.len,fun A outer s H args us vs Q E hr he hb hv hs=>Kf (F.run A outer s H args us vs Q E hr he hb hv hs) fun r s' h=>by
  cases r with
  | error e=>exact Dp h
  | ok fl=>cases fl<;>exact h⟩
structure Prg(P:Program)(w:World)(K:Af)(mg:Str→Option Value)(base:Heap)(c:Cfg)(FN GN BN:List Str)(lv:Nat):Prop where
 hK:c.K=K
 fns:∀(f:Nat) (x:Str) (sp:DSp),FN[f]?=some x→c.Γ[f]?=some sp→∃(kk:Nat) (f:Addr) (fd:FuncData) (ps:List Str) (ds:List Value) (dvs:List V) (dD:List D) (sp0:DSp),FnOk P w K mg base (CX1 P w) kk f fd ps (spF K sp0)∧kk≤lv∧mg x=some (.ref f)∧Hi K (.ref f)=true∧
  Od K fd ps ds∧Vals dvs ds∧(∀w:Vw,w.K=K→RDs w dD dvs)∧∀as M Q Z,sp as M Q Z→sp0 (as++dD) M Q Z
 flen:FN.length=c.Γ.length
 glb:∀(g:Nat) (x:Str) (d:D),GN[g]?=some x→c.G[g]?=some d→∃v u,mg x=some u∧RelV v u∧∀w:Vw,w.K=K→RD w d v
 blt:∀x,x∈BN→mg x=none
noncomputable def start0(N:List Str)(ds:List D):DEnv:=ds.map some++Db (N.length - ds.length) none
theorem Zh0{w:Vw}{N:List Str}{ds:List D}{vs:List V}(r:RDs w ds vs):REnv w (start0 N ds) (L2.start N vs):=by
 refine⟨by unfold start0 L2.start;simp[r.length],fun i d e=>?_⟩
 unfold start0 at e
 unfold L2.start
 by_cases hi:i<ds.length
 ·rw[Dv (by simpa using hi),Aj] at e
  rw[Dv (by rw[Ad,r.length];exact hi),Aj]
  cases hd:ds[i]? with
  | none=>rw[hd] at e;cases e
  | some d'=>
   rw[hd] at e
   have e':d'=d:=by simpa using e
   subst e'
   obtain⟨v,q1,q2⟩:=r.get hd
   exact⟨v,by rw[q1];rfl,q2⟩
 ·rw[Iy (by simpa using hi)] at e
  have:=Ac.mp e
  simp at this
section
variable{P:Program}{w:World}{K:Af}{mg:Str→Option Value}{base:Heap}{c:Cfg}{FN GN BN:List Str}{lv:Nat}{x qual:Str}{st:Stmt}{f:Addr}{fd:FuncData}{N ps:List Str}
noncomputable abbrev ck0(N:List Str)(st:Stmt)(FN GN BN:List Str):Ck:=⟨N,Z5 st,FN,GN,BN,true,true,true,[],true,[]⟩
theorem fn0(Pr:Prg P w K mg base c FN GN BN lv)(F:Fun K x qual st f fd)(S:FnScope N ps (Z5 st)){body:Ss}(hc:Zv (ck0 N st FN GN BN) body (Zb st)=true){sp:DSp}(hl:∀ds M Q Z,sp ds M Q Z→ds.length=ps.length)
  (hb:∀ds M Q Z,sp ds M Q Z→tss c noX body {nx:=fun _ M=>Q .non M,rt:=Q} (start0 N ds) M):FnOk P w K mg base (CX1 P w) (lv+1) f fd ps (spF K sp):=by
 refine FnOk.cx (F.ok S (fun vs H Q E h=>?_) fun cdv A outer s H vs Q E hr h=>?_)
 ·obtain⟨w,ds,M,QD,Z,_,_,_,r,h,_⟩:=h
  rw[r.length];exact hl _ _ _ _ h
 obtain⟨w',ds,M,QD,Z,hK',rfl,R,r,h,a,xk⟩:=h
 have G:Good c (ck0 N st FN GN BN) noX w' (cxOf CX0 P w K mg base N qual (Z5 st) f cdv A outer s w'.H E).nox:=
  {hK:=Pr.hK.symm
   wK:=hK'.trans Pr.hK.symm
   N:=rfl
   nd:=S.nd
   sc:=rfl
   calm:=fun _=>rfl
   units:=hr.units
   fns:=fun _ f x sp h1 h2=>by
    obtain⟨kk,f,fd,ps,ds,dvs,dD,sp0,F,hk,h⟩:=Pr.fns f x sp h1 h2
    exact⟨kk,f,fd,ps,ds,dvs,dD,sp0,F,hr.mono hk,h⟩
   flen:=Pr.flen
   glb:=Pr.glb
   blt:=Pr.blt
   exc:=⟨E0,fun _ _ _ _ _ _ _ h=>by
    obtain⟨_,_,_,_,_,_,_,_,_,_,_,_,_,_,_,h⟩:=h
    exact h.elim,fun cls dd H' h=>by
    obtain⟨_,_,_,_,_,_,_,_,_,_,_,_,_,h⟩:=h
    exact h.elim⟩
   stk:=fun _=>⟨rfl,rfl⟩
   po:=fun _=>PassesOwn.never
   fnc:=fun _ _=>rfl
   fno:=fun _ h=>by cases h}
 refine⟨_,Sv c body _ _ w' _ _ G hc,w',start0 N ds,M,{nx:=fun _ M=>QD .non M,rt:=QD},⟨rfl,Ext.refl w',R,Zh0 r⟩,hb _ _ _ _ h,?_,a,?_,?_⟩
 ·exact fun σ' w2 σD' M' x' r' e' q'=>a .non w2 .non M' x' r' (Zs.mpr rfl) q'
 ·exact fun σ' w2 σD' M' x' r' e' q'=>q'.elim
 ·exact fun σ' w2 σD' M' x' r' e' q'=>q'.elim
end
def Z92:DSp:=fun ds M Q _=>∃ns:List Int,ds=[.ref 0]∧M=[.frz (ns.map .int)]∧ns.length≤63∧(∀i∈ns,Bits bigN i)∧∀M',Q (.bl true) M'
theorem Z54(w:Vw):∀ns:List Int,RDs w (ns.map .int) (ns.map V.int)
 | []=>RDs.nil w
 | _::r=>RDs.cons (Zd.mpr rfl) (Z54 w r)
theorem Y31{l:PySem.W.OpenLaw}{k:Nat}{q:Program}{loose:List Str}{XP:(Str→Option Value)→Heap→Prop}{YP:World→Heap→Prop}{d:DefRec}{K:Params→Af}{x:Str}(hn:l.most=some 63)(hdf:d.params.defaults=[])(hr:Room k callerA)
  (hY:∀(w:World) (h:Heap),YP w h→(K w.params).In h)
  (F:∀(w:World) (mg:Str→Option Value) (fa:Addr) (h:Heap),(K w.params).In h→h.Ns mainGlobals mg→mg d.name=some (.ref fa)→
   ∃fd:FuncData,(∀(s:Shared) (u:Value),BindsTo s fd ⟨[u],[]⟩ [(x,u)])∧∀base:Heap,(K w.params).In base→base.Ns mainGlobals mg→FnOk l.prog w (K w.params) mg base (CX1 l.prog w) k fa fd [x] (spF (K w.params) Z92)):
  PySem.W.WalkO q loose XP YP l.row.toRowW d [] (fun f vs=>PySem.call f vs):=by
 refine Yr6 (n:=63) (k:=k) (x:=x) (CX:=fun w=>CX1 l.prog w) (sp:=fun w=>spF (K w.params) Z92) hn (by decide) hdf hr hY F (fun w H a ns hl hb hO hS=>?_) fun w H s e s' h=>?_
 ·have hF:SqF (K w.params) H a (ns.map V.int):=by
   rcases hS with(h | ⟨o,h⟩) | h
   ·rcases hO a with z | ⟨o,xs,z⟩
    ·rw[z] at h;cases h
    ·rw[z] at h;cases h
   ·exact .inl ⟨o,h⟩
   ·exact .inr (.inr h)
  refine⟨⟨K w.params,H,fun _=>a,1⟩,[.ref 0],[.frz (ns.map .int)],fun d _=>d= .bl true,noX,rfl,rfl,⟨rfl,fun i j ci cj ei ej mi mj _=>?_,fun i c' e=>?_⟩,RDs.cons (Zp.mpr ⟨Nat.one_pos,rfl⟩) (RDs.nil _),⟨ns,rfl,rfl,hl,hb,fun _=>rfl⟩,fun v w' d M' _ _ rd e=>?_,fun cls dd H' h=>?_⟩
  ·have h1:=(Ac.mp ei).1
   have h2:=(Ac.mp ej).1
   simp at h1 h2
   omega
  ·have h1:=(Ac.mp e).1
   have hi:i=0:=by simp at h1;exact h1
   subst hi
   simp at e
   subst e
   exact⟨_,hF,Z54 _ ns⟩
  ·subst e
   exact Xj.mp rd
  ·obtain⟨_,_,_,_,_,_,_,_,_,_,_,_,_,h⟩:=h
   exact h.elim
 ·obtain⟨_,_,_,_,_,_,_,_,_,_,_,_,_,_,_,h⟩:=h
  exact h.elim
def bot:DSp:=fun _ _ _ _=>False
def Ent(K:Af)(mg:Str→Option Value)(x:Str):Prop:=∃(f:Addr) (fd:FuncData) (ps:List Str),mg x=some (.ref f)∧Hi K (.ref f)=true∧Od K fd ps []
section
variable{P:Program}{w:World}{K:Af}{mg:Str→Option Value}{base:Heap}{Γ:List DSp}{G:List D}{FN GN BN:List Str}{lv:Nat}
theorem Prg.zero(hF:∀x∈FN,Ent K mg x)(hl:FN.length=Γ.length)(hb:∀sp∈Γ,sp=bot)(hg:∀(g:Nat) (x:Str) (d:D),GN[g]?=some x→G[g]?=some d→∃v u,mg x=some u∧RelV v u∧∀w:Vw,w.K=K→RD w d v)(hB:∀x∈BN,mg x=none):
  Prg P w K mg base ⟨K,Γ,G⟩ FN GN BN 0 where
 hK:=rfl
 fns:=fun f x sp h1 h2=>by
  obtain⟨fa,fd,ps,e1,e2,e3⟩:=hF x (Al h1)
  have hs:sp=bot:=hb sp (Al h2)
  subst hs
  have no:∀vs H Q E,¬spF K bot vs H Q E:=fun vs H Q E zz129=>by obtain⟨_,_,_,_,_,_,_,_,_,h,_⟩:=zz129;exact h
  exact⟨0,fa,fd,ps,[],[],[],bot,⟨fun vs H Q E h=>absurd h (no vs H Q E),fun A outer s H args us vs Q E _ _ _ _ h=>absurd h (no vs H Q E)⟩,Nat.le_refl _,e1,e2,e3,.nil,fun w _=>RDs.nil w,fun _ _ _ _ h=>h.elim⟩
 flen:=hl
 glb:=hg
 blt:=hB
theorem Prg.add(Pr:Prg P w K mg base ⟨K,Γ,G⟩ FN GN BN lv)(n:Nat){x:Str}{sp:DSp}{kk lv':Nat}{f:Addr}{fd:FuncData}{ps:List Str}(hx:FN[n]?=some x)(F:FnOk P w K mg base (CX1 P w) kk f fd ps (spF K sp))(h1:kk≤lv')(h2:lv≤lv')(hm:mg x=some (.ref f))(hk:Hi K (.ref f)=true)(hb:Od K fd ps []):
  Prg P w K mg base ⟨K,Γ.set n sp,G⟩ FN GN BN lv' where
 hK:=rfl
 fns:=fun m y sp' e1 e2=>by
  by_cases hmn:n=m
  ·subst hmn
   rw[hx] at e1
   cases e1
   have hl:n<Γ.length:=by rw[←Pr.flen];exact(Ac.mp hx).1
   have e2:(Γ.set n sp)[n]?=some sp':=e2
   rw[Ha hl] at e2
   cases e2
   exact⟨kk,f,fd,ps,[],[],[],sp,F,h1,hm,hk,hb,.nil,fun w _=>RDs.nil w,fun as M Q Z h=>by rw[Dq];exact h⟩
  ·have e2:(Γ.set n sp)[m]?=some sp':=e2
   rw[Dx hmn] at e2
   obtain⟨kk,f,fd,ps,ds,dvs,dD,sp0,F,hk,h⟩:=Pr.fns m y sp' e1 e2
   exact⟨kk,f,fd,ps,ds,dvs,dD,sp0,F,Nat.le_trans hk h2,h⟩
 flen:=by rw[Pr.flen];simp
 glb:=Pr.glb
 blt:=Pr.blt
end
theorem Z6{M N:Z2}{a:Nat}{xs:List D}(h:Z4 M a=some xs):Z4 (M++N) a=some xs:=by
 unfold Z4 at *
 have ha:a<M.length:=by
  cases e:M[a]? with
  | none=>rw[e] at h;cases h
  | some c=>exact(Ac.mp e).1
 rw[Dv ha];exact h
theorem Z7{M N:Z2}{a:Nat}{xs:List D}(h:Za M a=some xs):Za (M++N) a=some xs:=by
 unfold Za at *
 have ha:a<M.length:=by
  cases e:M[a]? with
  | none=>rw[e] at h;cases h
  | some c=>exact(Ac.mp e).1
 rw[Dv ha];exact h
theorem Tm{M N:Z2}{a:Nat}{xs:List (Key×D)}(h:Zo M a=some xs):Zo (M++N) a=some xs:=by
 unfold Zo at *
 have ha:a<M.length:=by
  cases e:M[a]? with
  | none=>rw[e] at h;cases h
  | some c=>exact(Ac.mp e).1
 rw[Dv ha];exact h
theorem Zd6(M:Z2)(c:Cell)(N:Z2):(M++c::N)[M.length]?=some c:=by simp
theorem Bv(M N:Z2)(k:Nat):(M++N)[M.length+k]?=N[k]?:=by rw[Iy (by omega)];congr 1;omega
theorem Z8(M:Z2)(xs:List D)(N:Z2):Z4 (M++ .lst xs::N) M.length=some xs:=by unfold Z4;rw[Zd6]
theorem Z9(M:Z2)(xs:List D)(N:Z2):Za (M++ .lst xs::N) M.length=some xs:=by unfold Za;rw[Zd6]
theorem V9(M:Z2)(xs:List (Key×D))(N:Z2):Zo (M++ .dct xs::N) M.length=some xs:=by unfold Zo;rw[Zd6]
theorem Yq(M N:Z2)(k:Nat):Z4 (M++N) (M.length+k)=Z4 N k:=by unfold Z4;rw[Bv]
theorem X9(M N:Z2)(k:Nat):Za (M++N) (M.length+k)=Za N k:=by unfold Za;rw[Bv]
theorem N0(M N:Z2)(k:Nat):Zo (M++N) (M.length+k)=Zo N k:=by unfold Zo;rw[Bv]
theorem Su(M:Z2)(c d:Cell)(N:Z2):(M++c::N).set M.length d=M++d::N:=by
 rw[List.set_append_right _ _ (Nat.le_refl _)];simp
theorem Wh(M N:Z2)(k:Nat)(d:Cell):(M++N).set (M.length+k) d=M++N.set k d:=by
 rw[List.set_append_right _ _ (by omega)];congr 2;omega
theorem Z0{M:Z2}{n:Nat}{xs:List D}(h:Za M n=some xs):Z4 M n=some xs:=Y88 h
theorem Gn{M:Z2}{a b:Nat}{c:Cell}(h:b≠a):Z4 (M.set b c) a=Z4 M a:=by unfold Z4;rw[Dx h]
theorem Fb{M:Z2}{a b:Nat}{c:Cell}(h:b≠a):Za (M.set b c) a=Za M a:=by unfold Za;rw[Dx h]
theorem Ep{M:Z2}{a b:Nat}{c:Cell}(h:b≠a):Zo (M.set b c) a=Zo M a:=by unfold Zo;rw[Dx h]
theorem G4{M:Z2}{n:Nat}{xs:List (Key×D)}(h:Zo M n=some xs):n<M.length:=by
 unfold Zo at h
 cases e:M[n]? with
 | none=>rw[e] at h;cases h
 | some c=>exact(Ac.mp e).1
theorem Cd{lo:Int}{n i:Nat}(h:i<n):(Oj lo n)[i]?=some (.int (lo+i)):=by
 unfold Oj;rw[Aj,List.getElem?_range h];rfl
theorem Xp(lo:Int)(n:Nat):(Oj lo n).length=n:=by unfold Oj;simp
theorem Zu{own:Own}{xs:List D}{tg:List Nat}{body:DS}{R:DEnds}{σ:DEnv}{M:Z2}(I:Nat→DEnv→Z2→Prop)(h0:I 0 σ M)(hs:∀i σ M,i≤xs.length→I i σ M→J9 own xs M)
  (step:∀(i:Nat) (d:D) σ M (C:DEnv→Z2→Prop),xs[i]?=some d→I i σ M→(∀σ2 M2,I (i+1) σ2 M2→C σ2 M2)→tgD tg d σ fun σ'=>body {nx:=C,rt:=R.rt,bk:=R.nx,ct:=C} σ' M)
  (fin:∀σ M,I xs.length σ M→R.nx σ M):forD own xs tg body xs R σ M:=by
 have key:∀(j:Nat) σ M,j≤xs.length→I (xs.length - j) σ M→forD own xs tg body (xs.drop (xs.length - j)) R σ M:=by
  intro j
  induction j with
  | zero=>
   intro σ M _ h
   rw[Nat.sub_zero] at h ⊢
   rw[List.drop_length]
   exact⟨hs _ σ M (Nat.le_refl _) h,fin σ M h⟩
  | succ j ih=>
   intro σ M hj h
   have hi:xs.length - (j+1)<xs.length:=by omega
   have e:xs.length - (j+1)+1=xs.length - j:=by omega
   rw[Ke hi]
   refine⟨hs _ σ M (by omega) h,step _ _ σ M _ (Aa hi) h fun σ2 M2 h2=>?_⟩
   rw[e] at h2 ⊢
   exact ih σ2 M2 (by omega) h2
 have:=key xs.length σ M (Nat.le_refl _) (by rw[Nat.sub_self];exact h0)
 rw[Nat.sub_self] at this
 exact this
theorem Vu{lo:Int}{n:Nat}{tg:List Nat}{body:DS}{R:DEnds}{σ:DEnv}{M:Z2}(I:Nat→DEnv→Z2→Prop)(h0:I 0 σ M)
  (step:∀(i:Nat) σ M (C:DEnv→Z2→Prop),i<n→I i σ M→(∀σ2 M2,I (i+1) σ2 M2→C σ2 M2)→tgD tg (.int (lo+i)) σ fun σ'=>body {nx:=C,rt:=R.rt,bk:=R.nx,ct:=C} σ' M)
  (fin:∀σ M,I n σ M→R.nx σ M):forD .no (Oj lo n) tg body (Oj lo n) R σ M:=by
 refine Zu I h0 (fun _ _ _ _ _=>trivial) (fun i d σ M C hd hI hC=>?_) (fun σ M h=>fin σ M (by rw[Xp] at h;exact h))
 have hi:i<n:=by
  have:=(Ac.mp hd).1
  rwa[Xp] at this
 rw[Cd hi] at hd
 cases hd
 exact step i σ M C hi hI hC
theorem Yg{own:Own}{xs:List D}{tg:List Nat}{cd:DT}{el:DE}{z:Nat}{Q:Z2→Prop}{σ:DEnv}{M:Z2}(I:Nat→DEnv→Z2→Prop)(h0:I 0 σ M)(hs:∀i σ M,i≤xs.length→I i σ M→J9 own xs M)
  (step:∀(i:Nat) (d:D) σ M (C:DEnv→Z2→Prop),xs[i]?=some d→I i σ M→(∀σ2 M2,I (i+1) σ2 M2→C σ2 M2)→tgD tg d σ fun σ'=>cd σ' M fun b M1=>if b=true then
   el σ' M1 fun y M2=>∃acc,Za M2 z=some acc∧acc.length<sizeLine∧C σ' (M2.set z (.lst (acc++[y]))) else C σ' M1)
  (fin:∀σ M,I xs.length σ M→Q M):Fn own xs tg cd el z xs σ M Q:=by
 have key:∀(j:Nat) σ M,j≤xs.length→I (xs.length - j) σ M→Fn own xs tg cd el z (xs.drop (xs.length - j)) σ M Q:=by
  intro j
  induction j with
  | zero=>
   intro σ M _ h
   rw[Nat.sub_zero] at h ⊢
   rw[List.drop_length]
   exact⟨hs _ σ M (Nat.le_refl _) h,fin σ M h⟩
  | succ j ih=>
   intro σ M hj h
   have hi:xs.length - (j+1)<xs.length:=by omega
   have e:xs.length - (j+1)+1=xs.length - j:=by omega
   rw[Ke hi]
   refine⟨hs _ σ M (by omega) h,step _ _ σ M (fun σ2 M2=>Fn own xs tg cd el z (xs.drop (xs.length - (j+1)+1)) σ2 M2 Q) (Aa hi) h fun σ2 M2 h2=>?_⟩
   rw[e] at h2 ⊢
   exact ih σ2 M2 (by omega) h2
 have:=key xs.length σ M (Nat.le_refl _) (by rw[Nat.sub_self];exact h0)
 rw[Nat.sub_self] at this
 exact this
theorem mulR{i j:Int}(h1:-(2 ^ 64)<j)(h2:j<2 ^ 64):IntMulOk i j:=CMul.ok (.inr ⟨h1,h2⟩)
theorem mulL{i j:Int}(h1:-(2 ^ 64)<i)(h2:i<2 ^ 64):IntMulOk i j:=CMul.ok (.inl ⟨h1,h2⟩)
theorem X5{i j:Int}(h1:0<j)(h2:j<2 ^ 64):Zc7 i j:=by
 refine⟨by omega,?_⟩
 have h3:j.natAbs<2 ^ 64:=by omega
 exact Nat.lt_trans (Za4 h3 (by decide)) (by decide)
theorem Z1{n:Nat}(h:n≤16000000):n≤sizeLine:=by rw[Ib];omega
theorem Z3{n:Nat}(h:n≤16000000):n<sizeLine:=by rw[Ib];omega
section
variable{M:Z2}{Q:DK}{B:Bool→Prop}{i j:Int}{a b:Str}{p q:Bool}{xs ys:List D}{n m:Nat}{K:Af}
theorem op_add_i:opD .add (.int i) (.int j) M Q=Q (.int (i+j)) M:=rfl
theorem op_add_s:opD .add (.str a) (.str b) M Q=(a.length+b.length≤sizeLine∧Q (.str (a++b)) M):=rfl
theorem op_add_t:opD .add (.tup xs) (.tup ys) M Q=(xs≠[]∧xs.length+ys.length≤sizeLine∧Q (.tup (xs++ys)) M):=rfl
theorem op_add_l:opD .add (.ref n) (.ref m) M Q=∃xs ys,Za M n=some xs∧Za M m=some ys∧xs.length+ys.length≤sizeLine∧Q (.ref M.length) (M++[.lst (xs++ys)]):=rfl
theorem op_sub_i:opD .sub (.int i) (.int j) M Q=Q (.int (i - j)) M:=rfl
theorem op_mul_i:opD .mul (.int i) (.int j) M Q=(IntMulOk i j∧Q (.int (i * j)) M):=rfl
theorem op_mul_l:opD .mul (.ref n) (.int i) M Q=∃xs,Za M n=some xs∧0≤i∧i<2 ^ 62∧xs.length * i.toNat≤sizeLine∧Q (.ref M.length) (M++[.lst (Db i.toNat xs).flatten]):=rfl
theorem op_fdiv_i:opD .fdiv (.int i) (.int j) M Q=(Zc7 i j∧Q (.int (qdiv i j)) M):=rfl
theorem op_mod_i:opD .mod (.int i) (.int j) M Q=(j≠0∧Q (.int (qmod i j)) M):=rfl
theorem op_pow_i:opD .pow (.int i) (.int j) M Q=(CPow i j∧Q (.int (i ^ j.toNat)) M):=rfl
theorem cm_lt_i:cmD M .lt (.int i) (.int j) B=B (decide (i<j)):=rfl
theorem cm_ge_i:cmD M .ge (.int i) (.int j) B=B (decide (j≤i)):=rfl
theorem cm_eq{x y:D}:cmD M .eq x y B=eqD M x y B:=rfl
theorem cm_ne{x y:D}:cmD M .ne x y B=eqD M x y fun b=>B (!b):=rfl
theorem cm_in{x y:D}:cmD M .isin x y B=inQ M x y B:=rfl
theorem cm_notin{x y:D}:cmD M .notin x y B=inQ M x y fun b=>B (!b):=rfl
theorem cm_is_n:cmD M .is .non .non B=B true:=rfl
theorem cm_is_i:cmD M .is (.int i) .non B=B false:=rfl
theorem cm_is_s:cmD M .is (.str a) .non B=B false:=rfl
theorem cm_is_b:cmD M .is (.bl p) .non B=B false:=rfl
theorem cm_is_t:cmD M .is (.tup xs) .non B=B false:=rfl
theorem cm_is_r:cmD M .is (.ref n) .non B=B false:=rfl
theorem cm_isnot_n:cmD M .isnot .non .non B=B false:=rfl
theorem cm_isnot_i:cmD M .isnot (.int i) .non B=B true:=rfl
theorem cm_isnot_s:cmD M .isnot (.str a) .non B=B true:=rfl
theorem cm_isnot_b:cmD M .isnot (.bl p) .non B=B true:=rfl
theorem cm_isnot_t:cmD M .isnot (.tup xs) .non B=B true:=rfl
theorem cm_isnot_r:cmD M .isnot (.ref n) .non B=B true:=rfl
theorem eq_i:eqD M (.int i) (.int j) B=B (decide (i=j)):=rfl
theorem eq_s:eqD M (.str a) (.str b) B=B (decide (a=b)):=rfl
theorem eq_b:eqD M (.bl p) (.bl q) B=B (decide (p=q)):=rfl
theorem eq_nn:eqD M .non .non B=B true:=rfl
theorem eq_is:eqD M (.int i) (.str b) B=B false:=rfl
theorem eq_si:eqD M (.str b) (.int i) B=B false:=rfl
theorem tru_b:truD M (.bl p) B=B p:=rfl
theorem tru_i:truD M (.int i) B=B (i !=0):=rfl
theorem tru_n:truD M .non B=B false:=rfl
theorem tru_t:truD M (.tup xs) B=B (!xs.isEmpty):=rfl
theorem ix_t{F:D→Prop}:ixD M (.tup xs) (.int i) F=∃d,atI xs i=some d∧F d:=rfl
theorem ix_g{F:D→Prop}:ixD M (.gtup xs) (.int i) F=∃d,atI xs i=some d∧F d:=rfl
theorem ix_s{F:D→Prop}:ixD M (.str a) (.int i) F=(a.length≤sizeLine∧∃c,atI a.cps.toList i=some c∧F (.str ⟨#[c]⟩)):=rfl
theorem ix_l{F:D→Prop}{k:Nat}(h:Z4 M n=some xs){d:D}(hd:xs[k]?=some d)(hF:F d):ixD M (.ref n) (.int k) F:= .inl ⟨xs,k,d,rfl,h,Sy hd,hF⟩
theorem Ye6{F:D→Prop}(h:Z4 M n=some xs){d:D}(hd:atI xs i=some d)(hF:F d):ixD M (.ref n) (.int i) F:= .inl ⟨xs,i,d,rfl,h,hd,hF⟩
theorem ix_d{F:D→Prop}{kvs:List (Key×D)}{k:D}{y:Key}(h:Zo M n=some kvs)(hk:keyD k=some y){d:D}(hd:valD kvs y=some d)(hF:F d):ixD M (.ref n) k F:= .inr (.inl ⟨kvs,y,d,Ye8 h,hk,hd,hF⟩)
theorem sl_s{lo hi:Option Int}:slD (.str a) lo hi M Q=(a.length≤sizeLine∧Q (.str (Txt.slice a lo hi)) M):=rfl
theorem sl_t{lo hi:Option Int}:slD (.tup xs) lo hi M Q=(¬(HT.sIx xs.length 0 lo=0∧HT.sIx xs.length xs.length hi=xs.length)∧Q (.tup (cutD xs lo hi)) M):=rfl
theorem sl_l{lo hi:Option Int}:slD (.ref n) lo hi M Q=∃xs,Z4 M n=some xs∧Q (.ref M.length) (M++[.lst (cutD xs lo hi)]):=rfl
noncomputable def tyNon:Ty→Bool:=fun _=>false
noncomputable def tyBl:Ty→Bool
 | .bool=>true | .int=>true | _=>false
noncomputable def tyInt:Ty→Bool
 | .int=>true | _=>false
noncomputable def tyStr:Ty→Bool
 | .str=>true | _=>false
noncomputable def tyTup:Ty→Bool
 | .tuple=>true | _=>false
noncomputable def tyLst:Ty→Bool
 | .list=>true | _=>false
noncomputable def tyDct:Ty→Bool
 | .dict=>true | _=>false
theorem Nq{d:D}{t:Ty}{s:String}{v:Bool}(hd:∀e C dx r,d≠ .exn e C dx r)(h1:tyD M d=some s)(h2:Kl K (.type s) (.type (Yk t))=some v):isD K M d (.ty (Yk t)) B=B v:=by
 have:isD K M d (.ty (Yk t)) B=∃t' b,tyD M d=some t'∧Kl K (.type t') (.type (Yk t))=some b∧B b:=by
  cases d<;>first | rfl | exact absurd rfl (hd _ _ _ _)
 rw[this]
 apply propext
 constructor
 ·rintro⟨t',b,e1,e2,h⟩
  rw[h1] at e1
  cases e1
  rw[h2] at e2
  cases e2
  exact h
 ·intro h;exact⟨s,v,h1,h2,h⟩
theorem is_non{t:Ty}:isD K M .non (.ty (Yk t)) B=B (tyNon t):=Nq (fun _ _ _ _ h=>nomatch h) rfl (by cases t<;>rfl)
theorem is_bl{t:Ty}:isD K M (.bl p) (.ty (Yk t)) B=B (tyBl t):=Nq (fun _ _ _ _ h=>nomatch h) rfl (by cases t<;>rfl)
theorem is_int{t:Ty}:isD K M (.int i) (.ty (Yk t)) B=B (tyInt t):=Nq (fun _ _ _ _ h=>nomatch h) rfl (by cases t<;>rfl)
theorem is_str{t:Ty}:isD K M (.str a) (.ty (Yk t)) B=B (tyStr t):=Nq (fun _ _ _ _ h=>nomatch h) rfl (by cases t<;>rfl)
theorem is_tup{t:Ty}:isD K M (.tup xs) (.ty (Yk t)) B=B (tyTup t):=Nq (fun _ _ _ _ h=>nomatch h) rfl (by cases t<;>rfl)
theorem Fs{t:Ty}(h:Za M n=some xs):isD K M (.ref n) (.ty (Yk t)) B=B (tyLst t):=Nq (s:="list") (fun _ _ _ _ h=>nomatch h) (by simp only[tyD,S7 h]) (by cases t<;>rfl)
theorem Zx(h:Z4 M n=some xs)(hq:Q (.int xs.length) M):bfD K .len [.ref n] M Q:= .inl ⟨xs,h,hq⟩
theorem bf_len_t:bfD K .len [.tup xs] M Q=Q (.int xs.length) M:=rfl
theorem bf_len_s:bfD K .len [.str a] M Q=(a.length≤sizeLine∧Q (.int a.length) M):=rfl
theorem bf_is{d c:D}:bfD K .isinst [d,c] M Q=isD K M d c fun b=>Q (.bl b) M:=rfl
theorem bf_min:bfD K .min2 [.int i,.int j] M Q=Q (.int (if j<i then j else i)) M:=rfl
theorem bf_max:bfD K .max2 [.int i,.int j] M Q=Q (.int (if j >i then j else i)) M:=rfl
theorem bf_list{d:D}:bfD K .list1 [d] M Q=∃xs,Zm7 M d=some xs∧Q (.ref M.length) (M++[.lst xs]):=rfl
theorem bf_dict:bfD K .dict1 [.ref n] M Q=((∃xs,Zo M n=some xs∧Q (.ref M.length) (M++[.dct xs]))∨(∃ps:List (Key×D),Z4 M n=some (Z84 ps)∧ps.length<sizeLine∧Q (.ref M.length) (M++[.dct (Yo0 ps)]))):=rfl
theorem bf_int:bfD K .int1 [.bl p] M Q=Q (.int (if p then 1 else 0)) M:=rfl
theorem on_ref{F:Nat→Prop}:Gi (.ref n) F=F n:=rfl
theorem set_t:setD true n M Q=((∃ns:List Int,Z4 M n=some (ns.map .int)∧ns.length<1000∧(∀ms:List Int,ms.Nodup→(∀i∈ms,i∈ns)→ms.length<64)∧∀ms:List Int,ms.Pairwise (· < ·)→(∀i,i∈ms↔i∈ns)→Q (.ref M.length) (M++[.lst (ms.map .int)]))∨(∃ss:List Str,Z4 M n=some (ss.map .str)∧ss.length<64∧∀ms:List Str,ms.Nodup→(∀x,x∈ms↔x∈ss)→ms.Pairwise SW.leS→Q (.ref M.length) (M++[.lst (ms.map .str)]))):=rfl
theorem mt_ins_r{k d:D}:mtD .ins0 (.ref n) [k,d] M Q=(k= .int 0∧∃xs,Za M n=some xs∧xs.length<sizeLine∧Q .non (M.set n (.lst (d::xs)))):=rfl
theorem mk_ins:mtK .ins0 (.ref n) M=((Z4 M n).isSome=true):=rfl
theorem mt_append_r{d:D}:mtD .append (.ref n) [d] M Q=∃xs,Za M n=some xs∧xs.length<sizeLine∧Q .non (M.set n (.lst (xs++[d]))):=rfl
theorem mt_get2_r{k z:D}:mtD .get2 (.ref n) [k,z] M Q=∃kvs y,Zo M n=some kvs∧keyD k=some y∧Q ((valD kvs y).getD z) M:=rfl
theorem mt_pop_r:mtD .pop0 (.ref n) [] M Q=∃xs d,Za M n=some xs∧xs[xs.length - 1]?=some d∧Q d (M.set n (.lst xs.dropLast)):=rfl
theorem mt_clear_r:mtD .clear (.ref n) [] M Q=∃xs,Za M n=some xs∧Q .non (M.set n (.lst [])):=rfl
theorem mt_index_r{d:D}:mtD .index1 (.ref n) [d] M Q=∃xs k z,Z4 M n=some xs∧Y6 d=true∧xs.all Y6=true∧xs[k]?=some z∧eqF z d=true∧(∀(j:Nat) u,j<k→xs[j]?=some u→eqF u d=false)∧Q (.int k) M:=rfl
theorem mk_index:mtK .index1 (.ref n) M=((Z4 M n).isSome=true):=rfl
theorem mk_append:mtK .append (.ref n) M=((Z4 M n).isSome=true):=rfl
theorem mk_pop:mtK .pop0 (.ref n) M=((Z4 M n).isSome=true):=rfl
theorem mk_clear:mtK .clear (.ref n) M=((Z4 M n).isSome=true):=rfl
theorem mk_get2:mtK .get2 (.ref n) M=((Zo M n).isSome=true):=rfl
theorem tg_one{k:Nat}{d:D}{σ:DEnv}{F:DEnv→Prop}:tgD [k] d σ F=F (σ.set k (some d)):=by cases d<;>rfl
theorem tg_two{k l:Nat}{d e:D}{σ:DEnv}{F:DEnv→Prop}:tgD [k,l] (.tup [d,e]) σ F=F ((σ.set k (some d)).set l (some e)):=by
 show([d,e].length=[k,l].length∧F _)=_
 simp
theorem it_r{R:Own→List D→Prop}:itD M (.ref n) R=∃xs,Z4 M n=some xs∧R (.lst n) xs:=rfl
theorem it_t{R:Own→List D→Prop}:itD M (.tup xs) R=R .no xs:=rfl
theorem it_g{R:Own→List D→Prop}:itD M (.gtup xs) R=R .no xs:=rfl
theorem key_i:keyD (.int i)=some (.inl i):=rfl
theorem key_s:keyD (.str a)=some (.inr a):=rfl
theorem in_ss:inQ M (.str a) (.str b) B=B (!(Lp b a 0 b.length 1).isEmpty):=rfl
end
theorem Zc{α:Type}{o:Option α}{x:α}(h:o=some x):o.isSome=true:=by rw[h];rfl
theorem Prg.up{P:Program}{w:World}{K:Af}{mg:Str→Option Value}{base:Heap}{c:Cfg}{FN GN BN:List Str}{lv lv':Nat}(Pr:Prg P w K mg base c FN GN BN lv)(h:lv≤lv'):Prg P w K mg base c FN GN BN lv' where
 hK:=Pr.hK
 fns:=fun m y sp e1 e2=>by
  obtain⟨kk,f,fd,ps,ds,dvs,dD,sp0,F,hk,r⟩:=Pr.fns m y sp e1 e2
  exact⟨kk,f,fd,ps,ds,dvs,dD,sp0,F,Nat.le_trans hk h,r⟩
 flen:=Pr.flen
 glb:=Pr.glb
 blt:=Pr.blt
theorem Ys3{α:Type}{P:List α→Prop}(h:P [])(l:List α)(e:l.length=0):P l:=by
 cases l with
 | nil=>exact h
 | cons _ _=>cases e
theorem Z16{α:Type}{n:Nat}{P:List α→Prop}(h:∀a l,l.length=n→P (a::l))(l:List α)(e:l.length=n+1):P l:=by
 cases l with
 | nil=>cases e
 | cons a r=>exact h a r (Nat.succ.inj e)
theorem Zl3{α:Type}{P:List α→Prop}(h:∀a,P [a]):∀l:List α,l.length=1→P l:=Z16 fun a=>Ys3 (h a)
theorem Y61{α:Type}{P:List α→Prop}(h:∀a b,P [a,b]):∀l:List α,l.length=2→P l:=Z16 fun a=>Zl3 (P:=fun l=>P (a::l)) (h a)
theorem Y60{α:Type}{P:List α→Prop}(h:∀a b c,P [a,b,c]):∀l:List α,l.length=3→P l:=Z16 fun a=>Y61 (P:=fun l=>P (a::l)) (h a)
theorem Yk6{α:Type}{P:List α→Prop}(h:∀a b c d,P [a,b,c,d]):∀l:List α,l.length=4→P l:=Z16 fun a=>Y60 (P:=fun l=>P (a::l)) (h a)
theorem Ze2{α:Type}{P:α→Prop}:∀x∈([]:List α),P x:=fun _ h=>absurd h Ak
theorem all_cons{α:Type}{P:α→Prop}{a:α}{l:List α}(h:P a)(t:∀x∈l,P x):∀x∈a::l,P x:=fun x hx=>(Ao.mp hx).elim (fun e=>e ▸ h) (t x)
end U
namespace GT
inductive Av (g:Nat→List Nat) (a:Nat):Nat→Prop
 | zero:a≠0→Av g a 0
 | step {x y:Nat}:Av g a x→y∈g x→y≠a→Av g a y
structure Num(g:Nat→List Nat)(n:Nat):Prop where
 pos:0<n
 cl:∀x,x<n→∀y∈g x,y<n
 up:∀k,k<n→k≠0→∃p,p<k∧k∈g p
theorem Av.ne{g:Nat→List Nat}{a x:Nat}(h:Av g a x):x≠a:=by
 cases h with
 | zero h=>exact fun e=>h e.symm
 | step _ _ h=>exact h
theorem Av.lt{g:Nat→List Nat}{n a x:Nat}(N:Num g n)(h:Av g a x):x<n:=by
 induction h with
 | zero _=>exact N.pos
 | step _ hy _ ih=>exact N.cl _ ih _ hy
theorem Yr7{g:Nat→List Nat}{n a:Nat}(N:Num g n):∀k,k<n→k<a→Av g a k:=by
 intro k
 induction k using Nat.strongRecOn with
 | ind k ih=>
  intro hk ha
  by_cases h0:k=0
  ·subst h0;exact .zero (by omega)
  ·obtain⟨p,hp,he⟩:=N.up k hk h0
   exact .step (ih p hp (by omega) (by omega)) he (by omega)
theorem W2{g:Nat→List Nat}{n a k:Nat}(N:Num g n)(hk:k<n)(h:¬Av g a k):a≤k:=by
 by_cases e:k<a
 ·exact absurd (Yr7 N k hk e) h
 ·omega
theorem Wg{g:Nat→List Nat}{k:Nat}:¬Av g k k:=fun h=>h.ne rfl
theorem Sk{g:Nat→List Nat}{a m k:Nat}(h1:¬Av g m k)(h2:¬Av g a m):¬Av g a k:=by
 intro h
 have key:∀x,Av g a x→Av g m x:=by
  intro x h
  induction h with
  | zero h0=>
   by_cases e:m=0
   ·subst e;exact absurd (.zero h0) h2
   ·exact .zero e
  | step hx hy hn ih=>
   rename_i x y
   by_cases e:y=m
   ·subst e;exact absurd (.step hx hy hn) h2
   ·exact .step ih hy e
 exact h1 (key k h)
theorem Zm9{g:Nat→List Nat}{n a b k:Nat}(N:Num g n)(hk:k<n)(hab:a≠b)(h1:¬Av g a k)(h2:¬Av g b k):¬Av g a b∨¬Av g b a:=by
 by_cases ha:Av g a b
 ·by_cases hb:Av g b a
  ·exfalso
   have key:∀x,x<n→Av g a x∨Av g b x:=by
    intro x
    induction x using Nat.strongRecOn with
    | ind x ih=>
     intro hx
     by_cases h0:x=0
     ·subst h0
      by_cases e:a=0
      ·exact .inr (.zero (by omega))
      ·exact .inl (.zero e)
     ·obtain⟨p,hp,he⟩:=N.up x hx h0
      rcases ih p hp (by omega) with q | q
      ·by_cases e:x=a
       ·subst e;exact .inr hb
       ·exact .inl (.step q he e)
      ·by_cases e:x=b
       ·subst e;exact .inl ha
       ·exact .inr (.step q he e)
   rcases key k hk with q | q
   ·exact h1 q
   ·exact h2 q
  ·exact .inr hb
 ·exact .inl ha
structure Must(g:Nat→List Nat)(k m:Nat):Prop where
 ne:m≠k
 dom:¬Av g m k
 last:∀d,d≠k→¬Av g d k→d≤m
theorem Must.lt{g:Nat→List Nat}{n k m:Nat}(N:Num g n)(hk:k<n)(h:Must g k m):m<k:=by
 have:=W2 N hk h.dom
 have:=h.ne
 omega
theorem Must.step{g:Nat→List Nat}{n k m a:Nat}(N:Num g n)(hk:k<n)(h:Must g k m)(ha:a<k):Av g a k↔Av g a m:=by
 have hm:=h.lt N hk
 constructor
 ·intro q
  by_cases e:Av g a m
  ·exact e
  ·exact absurd q (Sk h.dom e)
 ·intro q
  by_cases e:Av g a k
  ·exact e
  ·have le:=h.last a (by omega) e
   by_cases am:a=m
   ·subst am;exact absurd q Wg
   ·rcases Zm9 N hk am e h.dom with c | c
    ·exact absurd q c
    ·have:=W2 N (by omega) c
     omega
structure Wk(g:Nat→List Nat)(n:Nat)(B:List Nat)(T:List (Nat×Nat))(F:List Nat):Prop where
 bn:B.Nodup
 bl:∀x∈B,x<n
 z:0∈B
 mem:∀x,x∈B↔(∃s,(x,s)∈T)∨x∈F
 nd:(T.map (·.1)++F).Nodup
 first:∀p,T[0]?=some p→p.1=0
 chain:∀(i:Nat) p q,T[i]?=some p→T[i+1]?=some q→q.1∈g p.1
 steps:∀a s,(a,s)∈T→s≤(g a).length∧∀j y,j<s→(g a)[j]?=some y→y∈B
 fin:∀d∈F,∀y∈g d,y∈B
 par:∀(i:Nat) x,F[i]?=some x→x≠0→∃p,x∈g p∧p∈B∧p∉F.take (i+1)
noncomputable def wkM(n:Nat)(B:List Nat)(T:List (Nat×Nat)):Nat:=3 * (n - B.length)+(T.map fun p=>3 - p.2).sum
theorem Wk.begin(g:Nat→List Nat){n:Nat}(hn:0<n):Wk g n [0] [(0,0)] [] where
 bn:=by simp
 bl:=by intro x h;simp at h;omega
 z:=by simp
 mem:=by intro x;simp
 nd:=by simp
 first:=by intro p h;simp at h;rw[←h]
 chain:=by intro i p q h1 h2;simp at h2
 steps:=by
  intro a s h
  simp at h
  obtain⟨rfl,rfl⟩:=h
  exact⟨Nat.zero_le _,fun j y h=>by omega⟩
 fin:=by intro d h;simp at h
 par:=by intro i x h;simp at h
theorem Vl{α:Type}(T:List α)(p:α):(T++[p])[T.length]?=some p:=by simp
theorem Yc{α:Type}{T:List α}{p q:α}{i:Nat}(h:T[i]?=some q):(T++[p])[i]?=some q:=by
 rw[Dv (Ac.mp h).1];exact h
theorem Ze{α:Type}{T:List α}{p q:α}{i:Nat}(h:(T++[p])[i]?=some q):T[i]?=some q∨(i=T.length∧q=p):=by
 by_cases hi:i<T.length
 ·rw[Dv hi] at h;exact .inl h
 ·rw[Iy (by omega)] at h
  have h':=(Ac.mp h).1
  simp at h'
  have e:i - T.length=0:=by omega
  rw[e] at h
  simp at h
  exact .inr ⟨by omega,h.symm⟩
theorem Wk.close{g:Nat→List Nat}{n a s:Nat}{B F:List Nat}{T:List (Nat×Nat)}(w:Wk g n B (T++[(a,s)]) F)(hs:s=(g a).length):Wk g n B T (F++[a]) where
 bn:=w.bn
 bl:=w.bl
 z:=w.z
 mem:=by
  intro x
  rw[w.mem x]
  simp only[Ap,Am,Prod.mk.injEq]
  constructor
  ·rintro(⟨s',h | ⟨rfl,rfl⟩⟩ | h)
   ·exact .inl ⟨s',h⟩
   ·exact .inr (.inr rfl)
   ·exact .inr (.inl h)
  ·rintro(⟨s',h⟩ | h | rfl)
   ·exact .inl ⟨s',.inl h⟩
   ·exact .inr h
   ·exact .inl ⟨s,.inr ⟨rfl,rfl⟩⟩
 nd:=by
  have h:=w.nd
  have p:(T.map (·.1)++(F++[a])).Perm ((T++[(a,s)]).map (·.1)++F):=by
   rw[Aq,Dg]
   exact Mg.append_left _ List.perm_append_comm
  exact p.nodup_iff.mpr h
 first:=fun p h=>w.first p (Yc h)
 chain:=fun i p q h1 h2=>w.chain i p q (Yc h1) (Yc h2)
 steps:=fun b t h=>w.steps b t (Ay _ h)
 fin:=by
  intro d h y hy
  rcases Ap.mp h with h | h
  ·exact w.fin d h y hy
  ·rw[Am] at h
   subst h
   obtain⟨j,hj⟩:=List.getElem?_of_mem hy
   exact(w.steps d s (by simp)).2 j y (by have:=(Ac.mp hj).1;omega) hj
 par:=by
  intro i x h hx
  rcases Ze h with h | ⟨rfl,rfl⟩
  ·obtain⟨p,h1,h2,h3⟩:=w.par i x h hx
   refine⟨p,h1,h2,?_⟩
   have hi:=(Ac.mp h).1
   rw[List.take_append_of_le_length (by omega)]
   exact h3
  ·have hl:T≠[]:=by
    rintro rfl
    exact hx (w.first (x,s) rfl)
   obtain⟨T',⟨b,t⟩,rfl⟩:∃T' p,T=T'++[p]:=⟨T.dropLast,T.getLast hl,(List.dropLast_concat_getLast hl).symm⟩
   refine⟨b,?_,?_,?_⟩
   ·exact w.chain T'.length (b,t) (x,s) (Yc (Vl _ _)) (by have:=Vl (T'++[(b,t)]) (x,s);simpa using this)
   ·rw[w.mem b];exact .inl ⟨t,by simp⟩
   ·rw[Lv (by simp)]
    intro hb
    have hnd:=w.nd
    simp only[Aq,As,Hb,Dg] at hnd
    have hnd:=(Ky.mp hnd).2.1
    simp only[List.singleton_append,Im,Ao,not_or] at hnd
    rcases Ap.mp hb with h | h
    ·exact hnd.1.2 h
    ·simp at h;exact hnd.1.1 h
theorem Wk.pass{g:Nat→List Nat}{n a s y:Nat}{B F:List Nat}{T:List (Nat×Nat)}(w:Wk g n B (T++[(a,s)]) F)(hy:(g a)[s]?=some y)(hb:y∈B):Wk g n B (T++[(a,s+1)]) F where
 bn:=w.bn
 bl:=w.bl
 z:=w.z
 mem:=by
  intro x
  rw[w.mem x]
  simp only[Ap,Am,Prod.mk.injEq]
  constructor
  ·rintro(⟨s',h | ⟨rfl,rfl⟩⟩ | h)
   ·exact .inl ⟨s',.inl h⟩
   ·exact .inl ⟨s'+1,.inr ⟨rfl,rfl⟩⟩
   ·exact .inr h
  ·rintro(⟨s',h | ⟨rfl,rfl⟩⟩ | h)
   ·exact .inl ⟨s',.inl h⟩
   ·exact .inl ⟨s,.inr ⟨rfl,rfl⟩⟩
   ·exact .inr h
 nd:=by have:=w.nd;simpa using this
 first:=by
  intro p h
  rcases Ze h with h | ⟨e,rfl⟩
  ·exact w.first p (Yc h)
  ·have:=w.first (a,s) (by rw[e];exact Vl _ _)
   exact this
 chain:=by
  intro i p q h1 h2
  rcases Ze h2 with h2 | ⟨e,rfl⟩
  ·rcases Ze h1 with h1 | ⟨e1,rfl⟩
   ·exact w.chain i p q (Yc h1) (Yc h2)
   ·have:=(Ac.mp h2).1
    omega
  ·rcases Ze h1 with h1 | ⟨e1,rfl⟩
   ·exact w.chain i p (a,s) (Yc h1) (by rw[e];exact Vl _ _)
   ·omega
 steps:=by
  intro b t h
  rcases Ap.mp h with h | h
  ·exact w.steps b t (Ay _ h)
  ·rw[Am] at h
   cases h
   obtain⟨h1,h2⟩:=w.steps a s (by simp)
   refine⟨(Ac.mp hy).1,fun j z hj hz=>?_⟩
   by_cases e:j=s
   ·subst e;rw[hy] at hz;cases hz;exact hb
   ·exact h2 j z (by omega) hz
 fin:=w.fin
 par:=w.par
theorem Wk.open{g:Nat→List Nat}{n a s y:Nat}{B F:List Nat}{T:List (Nat×Nat)}(w:Wk g n B (T++[(a,s)]) F)(hy:(g a)[s]?=some y)(hn:y<n)(hb:y∉B):Wk g n (B++[y]) (T++[(a,s+1),(y,0)]) F where
 bn:=by
  rw[Ky]
  refine⟨w.bn,by simp,fun x hx z hz=>?_⟩
  simp at hz
  subst hz
  exact fun e=>hb (e ▸ hx)
 bl:=by
  intro x hx
  rcases Ap.mp hx with h | h
  ·exact w.bl x h
  ·simp at h;omega
 z:=Ay _ w.z
 mem:=by
  intro x
  rw[Ap,w.mem x]
  simp only[Ap,Am,Ao,Prod.mk.injEq,Ak,or_false]
  constructor
  ·rintro((⟨s',h | ⟨rfl,rfl⟩⟩ | h) | rfl)
   ·exact .inl ⟨s',.inl h⟩
   ·exact .inl ⟨s'+1,.inr (.inl ⟨rfl,rfl⟩)⟩
   ·exact .inr h
   ·exact .inl ⟨0,.inr (.inr ⟨rfl,rfl⟩)⟩
  ·rintro(⟨s',h | ⟨rfl,rfl⟩ | ⟨rfl,rfl⟩⟩ | h)
   ·exact .inl (.inl ⟨s',.inl h⟩)
   ·exact .inl (.inl ⟨s,.inr ⟨rfl,rfl⟩⟩)
   ·exact .inr rfl
   ·exact .inl (.inr h)
 nd:=by
  have h1:=w.nd
  have h2:y∉(T++[(a,s)]).map (·.1)++F:=by
   intro h
   apply hb
   rw[w.mem y]
   rcases Ap.mp h with h | h
   ·obtain⟨⟨b,t⟩,hp,e⟩:=Dc.mp h
    simp at e
    subst e
    exact .inl ⟨t,hp⟩
   ·exact .inr h
  have p:((T++[(a,s+1),(y,0)]).map (·.1)++F).Perm (y::((T++[(a,s)]).map (·.1)++F)):=by
   simp only[Aq,As,Hb,Dg,Hl,Kg]
   have q:=List.perm_middle (a:=y) (l₁:=List.map (fun x=>x.1) T++[a]) (l₂:=F)
   simpa only[Dg,Hl,Kg] using q
  exact p.nodup_iff.mpr (Im.mpr ⟨h2,h1⟩)
 first:=by
  intro p h
  have:T++[(a,s+1),(y,0)]=(T++[(a,s+1)])++[(y,0)]:=by simp
  rw[this] at h
  rcases Ze h with h | ⟨e,rfl⟩
  ·rcases Ze h with h | ⟨e,rfl⟩
   ·exact w.first p (Yc h)
   ·exact w.first (a,s) (by rw[e];exact Vl _ _)
  ·simp at e
 chain:=by
  intro i p q h1 h2
  have:T++[(a,s+1),(y,0)]=(T++[(a,s+1)])++[(y,0)]:=by simp
  rw[this] at h1 h2
  rcases Ze h2 with h2 | ⟨e,rfl⟩
  ·rcases Ze h1 with h1 | ⟨e1,rfl⟩
   ·rcases Ze h2 with h2 | ⟨e,rfl⟩
    ·rcases Ze h1 with h1 | ⟨e1,rfl⟩
     ·exact w.chain i p q (Yc h1) (Yc h2)
     ·have:=(Ac.mp h2).1
      omega
    ·rcases Ze h1 with h1 | ⟨e1,rfl⟩
     ·exact w.chain i p (a,s) (Yc h1) (by rw[e];exact Vl _ _)
     ·omega
   ·have:=(Ac.mp h2).1
    omega
  ·rcases Ze h1 with h1 | ⟨e1,rfl⟩
   ·rcases Ze h1 with h1 | ⟨e1,rfl⟩
    ·have:=(Ac.mp h1).1
     simp at e
     omega
    ·exact Al hy
   ·omega
 steps:=by
  intro b t h
  simp only[Ap,Ao,Ak,or_false,Prod.mk.injEq] at h
  rcases h with h | ⟨rfl,rfl⟩ | ⟨rfl,rfl⟩
  ·obtain⟨h1,h2⟩:=w.steps b t (Ay _ h)
   exact⟨h1,fun j z hj hz=>Ay _ (h2 j z hj hz)⟩
  ·obtain⟨h1,h2⟩:=w.steps b s (by simp)
   refine⟨(Ac.mp hy).1,fun j z hj hz=>?_⟩
   by_cases e:j=s
   ·subst e;rw[hy] at hz;cases hz;simp
   ·exact Ay _ (h2 j z (by omega) hz)
  ·exact⟨Nat.zero_le _,fun j y h=>by omega⟩
 fin:=fun d h z hz=>Ay _ (w.fin d h z hz)
 par:=by
  intro i x h hx
  obtain⟨p,h1,h2,h3⟩:=w.par i x h hx
  exact⟨p,h1,Ay _ h2,h3⟩
theorem Wl:∀{n:Nat} {B:List Nat},B.Nodup→(∀x∈B,x<n)→B.length≤n:=by
 intro n B h1 h2
 have:B.length≤(Dj n).length:=List.Nodup.length_le_of_subset h1 (fun x hx=>He.mpr (h2 x hx))
 simpa using this
theorem Wk.room{g:Nat→List Nat}{n:Nat}{B F:List Nat}{T:List (Nat×Nat)}(w:Wk g n B T F):B.length≤n:=Wl w.bn w.bl
theorem Wk.small{g:Nat→List Nat}{n:Nat}{B F:List Nat}{T:List (Nat×Nat)}(w:Wk g n B T F):T.length+F.length≤n:=by
 have h:=Wl (n:=n) w.nd fun x hx=>w.bl x ((w.mem x).mpr (by
  rcases Ap.mp hx with h | h
  ·obtain⟨⟨b,t⟩,hp,e⟩:=Dc.mp h
   simp at e
   subst e
   exact .inl ⟨t,hp⟩
  ·exact .inr h))
 simpa using h
theorem Zd1{n a s:Nat}{B:List Nat}{T:List (Nat×Nat)}(hs:s≤2):wkM n B T<wkM n B (T++[(a,s)]):=by
 unfold wkM
 simp only[Aq,List.sum_append,As,Hb,List.sum_cons,List.sum_nil]
 omega
theorem Y13{n a s:Nat}{B:List Nat}{T:List (Nat×Nat)}(hs:s<2):wkM n B (T++[(a,s+1)])<wkM n B (T++[(a,s)]):=by
 unfold wkM
 simp only[Aq,List.sum_append,As,Hb,List.sum_cons,List.sum_nil]
 omega
theorem Y25{n a s y:Nat}{B:List Nat}{T:List (Nat×Nat)}(hs:s<2)(hB:B.length<n):wkM n (B++[y]) (T++[(a,s+1),(y,0)])<wkM n B (T++[(a,s)]):=by
 unfold wkM
 simp only[Aq,List.sum_append,As,Hb,List.sum_cons,List.sum_nil,Ah,Au,Io]
 omega
theorem Zp3{O:List Nat}(nd:O.Nodup){k x:Nat}(h:O[k]?=some x):O.idxOf x=k:=by
 obtain⟨h1,h2⟩:=Ac.mp h
 rw[←h2]
 exact List.Nodup.idxOf_getElem nd k h1
structure Ord(g:Nat→List Nat)(n:Nat)(O:List Nat):Prop where
 nd:O.Nodup
 lt:∀x∈O,x<n
 z:O[0]?=some 0
 cl:∀x∈O,∀y∈g x,y∈O
 up:∀(k:Nat) x,O[k]?=some x→k≠0→∃(j:Nat) (p:Nat),j<k∧O[j]?=some p∧x∈g p
theorem Wk.ord{g:Nat→List Nat}{n:Nat}{B F:List Nat}(w:Wk g n B [] F):Ord g n F.reverse:=by
 have mem:∀x,x∈B↔x∈F:=by intro x;rw[w.mem x];simp
 have nd:F.Nodup:=by have:=w.nd;simpa using this
 have z:F[F.length - 1]?=some 0:=by
  have h0:=(mem 0).mp w.z
  have hl:0<F.length:=List.length_pos_of_mem h0
  rw[Aa (by omega)]
  by_cases e:F[F.length - 1]=0
  ·rw[e]
  ·obtain⟨p,_,h2,h3⟩:=w.par (F.length - 1) _ (Aa (by omega)) e
   rw[Lv (by omega)] at h3
   exact absurd ((mem p).mp h2) h3
 have hl:0<F.length:=List.length_pos_of_mem ((mem 0).mp w.z)
 have rv:∀k,k<F.length→F.reverse[k]?=F[F.length - 1 - k]?:=fun k hk=>List.getElem?_reverse hk
 refine⟨(List.reverse_perm F).nodup_iff.mpr nd,fun x hx=>w.bl x ((mem x).mpr (by simpa using hx)),?_,fun x hx y hy=>?_,fun k x hk h0=>?_⟩
 ·rw[rv 0 hl];exact z
 ·rw[List.mem_reverse] at *
  exact(mem y).mp (w.fin x hx y hy)
 ·have hkl:k<F.length:=by
   have:=(Ac.mp hk).1
   simpa using this
  rw[rv k hkl] at hk
  have hx:x≠0:=by
   rintro rfl
   have h1:=Zp3 nd hk
   have h2:=Zp3 nd z
   omega
  obtain⟨p,h1,h2,h3⟩:=w.par _ x hk hx
  obtain⟨j,hj⟩:=List.getElem?_of_mem ((mem p).mp h2)
  have hjl:=(Ac.mp hj).1
  have hge:F.length - 1 - k+1≤j:=by
   by_cases e:F.length - 1 - k+1≤j
   ·exact e
   ·exfalso
    apply h3
    apply Al (i:=j)
    rw[List.getElem?_take_of_lt (by omega)]
    exact hj
  refine⟨F.length - 1 - j,p,by omega,?_,h1⟩
  rw[rv _ (by omega),show F.length - 1 - (F.length - 1 - j)=j by omega]
  exact hj
noncomputable def Zg1(g:Nat→List Nat)(O:List Nat)(k:Nat):List Nat:=match O[k]? with
 | some x=>(g x).map fun y=>O.idxOf y
 | none=>[]
theorem Ord.num{g:Nat→List Nat}{n:Nat}{O:List Nat}(o:Ord g n O):Num (Zg1 g O) O.length where
 pos:=(Ac.mp o.z).1
 cl:=by
  intro k hk y hy
  unfold Zg1 at hy
  rw[Aa hk] at hy
  obtain⟨u,hu,rfl⟩:=Dc.mp hy
  exact Kt (o.cl _ (Hv hk) u hu)
 up:=by
  intro k hk h0
  obtain⟨j,p,h1,h2,h3⟩:=o.up k _ (Aa hk) h0
  refine⟨j,h1,?_⟩
  unfold Zg1
  rw[h2]
  exact Dc.mpr ⟨_,h3,Zp3 o.nd (Aa hk)⟩
theorem Ord.le{g:Nat→List Nat}{n:Nat}{O:List Nat}(o:Ord g n O):O.length≤n:=Wl o.nd o.lt
structure Fd(g:Nat→List Nat)(n a:Nat)(L:List Nat)(t:Nat):Prop where
 nd:L.Nodup
 z:L[0]?=some 0
 av:∀x∈L,Av g a x
 done:∀(i:Nat) x,i<t→L[i]?=some x→∀y∈g x,y=a∨y∈L
 le:t≤L.length
theorem Fd.next{g:Nat→List Nat}{n a t x:Nat}{L:List Nat}(f:Fd g n a L t)(hx:L[t]?=some x)(h:∀y∈g x,y=a∨y∈L):Fd g n a L (t+1) where
 nd:=f.nd
 z:=f.z
 av:=f.av
 done:=by
  intro i u h1 h2 v hv
  by_cases e:i=t
  ·subst e;rw[hx] at h2;cases h2;exact h v hv
  ·exact f.done i u (by omega) h2 v hv
 le:=(Ac.mp hx).1
end GT
namespace GT
inductive Up (g:Nat→List Nat) (a:Nat):Nat→Prop
 | refl:Up g a a
 | step {x y:Nat}:Up g a x→y∈g x→a<y→Up g a y
theorem Up.le{g:Nat→List Nat}{a x:Nat}(h:Up g a x):a≤x:=by
 induction h with
 | refl=>exact Nat.le_refl _
 | step _ _ h _=>omega
theorem Up.trans{g:Nat→List Nat}{a b c:Nat}(h1:Up g a b)(h2:Up g b c):Up g a c:=by
 have hab:=h1.le
 induction h2 with
 | refl=>exact h1
 | step _ hy hl ih=>exact .step ih hy (by omega)
theorem Up.av{g:Nat→List Nat}{a x d:Nat}(h:Up g a x)(hd:d<a)(h0:Av g d a):Av g d x:=by
 induction h with
 | refl=>exact h0
 | step _ hy hl ih=>exact .step ih hy (by omega)
inductive Ch (t:Nat→Option Nat):Nat→Nat→Prop
 | refl (x:Nat):Ch t x x
 | step {x m a:Nat}:t x=some m→Ch t m a→Ch t x a
structure Tr(g:Nat→List Nat)(n:Nat)(t:Nat→Option Nat):Prop where
 z:t 0=none
 dn:∀x,(t x).isSome=true→x<n
 lt:∀x m,t x=some m→m<x
 cl:∀x m,t x=some m→m=0∨(t m).isSome=true
 up:∀x m,t x=some m→Up g m x
 dom:∀x,(x=0∨(t x).isSome=true)→∀d,¬Av g d x→x<n→Ch t x d
 mono:∀x m,t x=some m→∀a,(∀p,p<n→x∈g p→(p=0∨(t p).isSome=true)→Ch t p a)→Ch t m a
theorem Ch.le{t:Nat→Option Nat}(lt:∀x m,t x=some m→m<x){x a:Nat}(h:Ch t x a):a≤x:=by
 induction h with
 | refl=>exact Nat.le_refl _
 | step e _ ih=>have:=lt _ _ e;omega
theorem Ch.trans{t:Nat→Option Nat}{x y a:Nat}(h1:Ch t x y)(h2:Ch t y a):Ch t x a:=by
 induction h1 with
 | refl=>exact h2
 | step e _ ih=>exact .step e (ih h2)
theorem Ch.linear{t:Nat→Option Nat}{x a b:Nat}(h1:Ch t x a)(h2:Ch t x b):Ch t a b∨Ch t b a:=by
 induction h1 with
 | refl=>exact .inl h2
 | step e h3 ih=>
  cases h2 with
  | refl=>exact .inr (.step e h3)
  | step e2 h4=>rw[e] at e2;cases e2;exact ih h4
theorem Ch.up{g:Nat→List Nat}{t:Nat→Option Nat}(up:∀x m,t x=some m→Up g m x){x a:Nat}(h:Ch t x a):Up g a x:=by
 induction h with
 | refl=>exact .refl
 | step e _ ih=>exact ih.trans (up _ _ e)
theorem Ch.told{t:Nat→Option Nat}(cl:∀x m,t x=some m→m=0∨(t m).isSome=true){x a:Nat}(h:Ch t x a)(hx:x=0∨(t x).isSome=true):a=0∨(t a).isSome=true:=by
 induction h with
 | refl=>exact hx
 | step e _ ih=>exact ih (cl _ _ e)
theorem C8{t:Nat→Option Nat}(lt:∀x m,t x=some m→m<x){a b m:Nat}(h:a<b)(e:t b=some m)(c:Nat):(Ch t a c∧Ch t b c)↔(Ch t a c∧Ch t m c):=by
 constructor
 ·rintro⟨h1,h2⟩
  refine⟨h1,?_⟩
  cases h2 with
  | refl=>have:=h1.le lt;omega
  | step e2 h3=>rw[e] at e2;cases e2;exact h3
 ·rintro⟨h1,h2⟩
  exact⟨h1,.step e h2⟩
def Lca(t:Nat→Option Nat)(l:List Nat)(r:Nat):Prop:=∀a,Ch t r a↔∀p∈l,Ch t p a
theorem Lca.one(t:Nat→Option Nat)(p:Nat):Lca t [p] p:=by intro a;simp
theorem Lca.more{t:Nat→Option Nat}{l:List Nat}{r p u:Nat}(h:Lca t l r)(hu:∀a,Ch t u a↔(Ch t r a∧Ch t p a)):Lca t (l++[p]) u:=by
 intro a
 rw[hu a,h a]
 constructor
 ·rintro⟨h1,h2⟩ q hq
  rcases Ap.mp hq with z | z
  ·exact h1 q z
  ·rw[Am] at z;subst z;exact h2
 ·intro h1
  exact⟨fun q hq=>h1 q (Ay _ hq),h1 p (by simp)⟩
noncomputable def set1(t:Nat→Option Nat)(k m:Nat):Nat→Option Nat:=fun x=>if x=k then some m else t x
theorem Zr{t:Nat→Option Nat}{k m x:Nat}(h:x≠k):set1 t k m x=t x:=if_neg h
theorem Zz{t:Nat→Option Nat}{k m:Nat}:set1 t k m k=some m:=if_pos rfl
theorem V4{t:Nat→Option Nat}{k m:Nat}(lt:∀x m,t x=some m→m<x){y a:Nat}(hy:y<k):Ch (set1 t k m) y a↔Ch t y a:=by
 constructor
 ·intro h
  induction h with
  | refl=>exact .refl _
  | step e _ ih=>
   rw[Zr (by omega)] at e
   have:=lt _ _ e
   exact .step e (ih (by omega))
 ·intro h
  induction h with
  | refl=>exact .refl _
  | step e _ ih=>
   have:=lt _ _ e
   exact .step (by rw[Zr (by omega)];exact e) (ih (by omega))
theorem So{t:Nat→Option Nat}{k m:Nat}(lt:∀x m,t x=some m→m<x)(hm:m<k){y a:Nat}(ha:k≤a):Ch (set1 t k m) y a↔Ch t y a:=by
 have lt':∀x u,set1 t k m x=some u→u<x:=by
  intro x u e
  by_cases hx:x=k
  ·subst hx;rw[Zz] at e;cases e;exact hm
  ·rw[Zr hx] at e;exact lt x u e
 constructor
 ·intro h
  induction h with
  | refl=>exact .refl _
  | step e h2 ih=>
   rename_i x u a
   by_cases hx:x=k
   ·subst hx
    have h3:=h2.le lt'
    rw[Zz] at e
    cases e
    omega
   ·rw[Zr hx] at e
    exact .step e (ih ha)
 ·intro h
  induction h with
  | refl=>exact .refl _
  | step e h2 ih=>
   rename_i x u a
   by_cases hx:x=k
   ·subst hx
    have h3:=h2.le lt
    have h4:=lt _ _ e
    omega
   ·exact .step (by rw[Zr hx];exact e) (ih ha)
theorem Zp9{t:Nat→Option Nat}{k m:Nat}(lt:∀x m,t x=some m→m<x)(hm:m<k){y a:Nat}(h:Ch t y k)(ha:Ch t m a):Ch (set1 t k m) y a:=
 Ch.trans ((So lt hm (Nat.le_refl k)).mpr h) (.step Zz ((V4 lt hm).mpr ha))
theorem Y44{t:Nat→Option Nat}{k m:Nat}{y a:Nat}(h:¬Ch t y k)(ha:Ch t y a):Ch (set1 t k m) y a:=by
 induction ha with
 | refl=>exact .refl _
 | step e h2 ih=>
  rename_i x u a
  by_cases hx:x=k
  ·subst hx;exact absurd (.refl _) h
  ·exact .step (by rw[Zr hx];exact e) (ih fun z=>h (.step e z))
theorem Yh9{t:Nat→Option Nat}{k m:Nat}(lt:∀x m,t x=some m→m<x)(hm:m<k){y a:Nat}(h:Ch (set1 t k m) y a):(Ch t y k∧(a=k∨Ch t m a))∨Ch t y a:=by
 induction h with
 | refl=>exact .inr (.refl _)
 | step e h2 ih=>
  rename_i x u a
  by_cases hx:x=k
  ·subst hx
   rw[Zz] at e
   cases e
   exact .inl ⟨.refl _,.inr ((V4 lt hm).mp h2)⟩
  ·rw[Zr hx] at e
   rcases ih with⟨z1,z2⟩ | z
   ·exact .inl ⟨.step e z1,z2⟩
   ·exact .inr (.step e z)
def From(g:Nat→List Nat)(n:Nat)(t:Nat→Option Nat)(k:Nat)(l:List Nat):Prop:=∀p,p∈l↔p<n∧k∈g p∧(p=0∨(t p).isSome=true)
theorem Tr.put{g:Nat→List Nat}{n:Nat}{t:Nat→Option Nat}{k m:Nat}{l:List Nat}(N:Num g n)(T:Tr g n t)(hk:k<n)(h0:k≠0)(hl:From g n t k l)(hm:Lca t l m)(hlt:m<k)(hne:l≠[])
  (J:∀x,x<n→Ch t x k→x≠k→(t x).isSome=true→∃p,p<x∧x∈g p∧(p=0∨(t p).isSome=true)∧(∀u,t x=some u→Ch t u k→Ch t p k)):Tr g n (set1 t k m):=by
 obtain⟨p0,hp0⟩:=List.exists_mem_of_ne_nil l hne
 obtain⟨hp1,hp2,hp3⟩:=(hl p0).mp hp0
 have mp0:Ch t p0 m:=((hm m).mp (.refl m)) p0 hp0
 have mt:m=0∨(t m).isSome=true:=mp0.told T.cl hp3
 have some':∀x,(x=0∨(set1 t k m x).isSome=true)→x=k∨(x=0∨(t x).isSome=true):=by
  intro x h
  by_cases e:x=k
  ·exact .inl e
  ·rw[Zr e] at h;exact .inr h
 have lt':∀x u,set1 t k m x=some u→u<x:=by
  intro x u e
  by_cases hx:x=k
  ·subst hx;rw[Zz] at e;cases e;exact hlt
  ·rw[Zr hx] at e;exact T.lt x u e
 have domk:∀d,¬Av g d k→d≠k→Ch t m d:=by
  intro d hd hdk
  rw[hm d]
  intro p hp
  obtain⟨q1,q2,q3⟩:=(hl p).mp hp
  refine T.dom p q3 d (fun z=>hd ?_) q1
  exact .step z q2 (Hw hdk)
 have low:∀u,t k=some u→Ch t u m:=by
  intro u hu
  exact T.mono k u hu m fun p a b c=>(hm m).mp (.refl m) p ((hl p).mpr ⟨a,b,c⟩)
 have sub:∀y a,Ch (set1 t k m) y a→y≠k→Ch t y a:=by
  intro y a h hy
  rcases Yh9 T.lt hlt h with⟨h1,h2⟩ | h1
  ·rcases h2 with rfl | h2
   ·exact h1
   ·-- k is told,as it stands in y's chain
    have hk2:(t k).isSome=true:=by
     cases h1 with
     | refl=>exact absurd rfl hy
     | step e h3=>
      rcases h3.told T.cl (T.cl _ _ e) with z | z
      ·exact absurd z h0
      ·exact z
    obtain⟨u,hu⟩:=Dy.mp hk2
    exact h1.trans (.step hu ((low u hu).trans h2))
  ·exact h1
 refine⟨by rw[Zr (Hw h0)];exact T.z,fun x h=>?_,lt',?_,?_,?_,?_⟩
 ·by_cases e:x=k
  ·subst e;exact hk
  ·rw[Zr e] at h;exact T.dn x h
 ·intro x u e
  by_cases hx:x=k
  ·subst hx
   rw[Zz] at e
   cases e
   rcases mt with z | z
   ·exact .inl z
   ·exact .inr (by rw[Zr (by omega)];exact z)
  ·rw[Zr hx] at e
   by_cases hu:u=k
   ·subst hu;exact .inr (by rw[Zz];rfl)
   ·rcases T.cl x u e with z | z
    ·exact .inl z
    ·exact .inr (by rw[Zr hu];exact z)
 ·intro x u e
  by_cases hx:x=k
  ·subst hx
   rw[Zz] at e
   cases e
   exact .step (mp0.up T.up) hp2 hlt
  ·rw[Zr hx] at e;exact T.up x u e
 ·intro x hx d hd hxn
  by_cases e:x=k
  ·subst e
   by_cases ed:d=x
   ·subst ed;exact .refl _
   ·exact .step Zz ((V4 T.lt hlt).mpr (domk d hd ed))
  ·have old:=T.dom x ((some' x hx).resolve_left e) d hd hxn
   by_cases hdk:k≤d
   ·exact(So T.lt hlt hdk).mpr old
   ·by_cases hc:Ch t x k
    ·refine Zp9 T.lt hlt hc (domk d (fun z=>hd ?_) (by omega))
     exact(hc.up T.up).av (by omega) z
    ·exact Y44 hc old
 ·intro x u e a ha
  by_cases hx:x=k
  ·subst hx
   rw[Zz] at e
   cases e
   refine(V4 T.lt hlt).mpr ((hm a).mpr fun p hp=>?_)
   obtain⟨q1,q2,q3⟩:=(hl p).mp hp
   have:=ha p q1 q2 (by
    rcases q3 with z | z
    ·exact .inl z
    ·by_cases e:p=x
     ·subst e;exact .inr (by rw[Zz];rfl)
     ·exact .inr (by rw[Zr e];exact z))
   by_cases e:p=x
   ·subst e
    by_cases hap:a=p
    ·subst hap;exact .refl _
    ·cases this with
     | refl=>exact absurd rfl hap
     | step e2 h3=>
      rw[Zz] at e2
      cases e2
      have h4:=(V4 T.lt hlt).mp h3
      have hk2:(t p).isSome=true:=q3.resolve_left h0
      obtain⟨u,hu⟩:=Dy.mp hk2
      exact .step hu ((low u hu).trans h4)
   ·exact sub p a this e
  ·rw[Zr hx] at e
   have hxn:(t x).isSome=true:=by rw[e];rfl
   have old:∀p,p<n→x∈g p→(p=0∨(t p).isSome=true)→p≠k→Ch t p a:=fun p q1 q2 q3 q4=>sub p a (ha p q1 q2 (q3.imp id fun z=>by rw[Zr q4];exact z)) q4
   have oldk:k<n→x∈g k→(k=0∨(t k).isSome=true)→Ch t k a:=by
    intro q1 q2 q3
    have:=ha k q1 q2 (.inr (by rw[Zz];rfl))
    cases this with
    | refl=>exact .refl _
    | step e2 h3=>
     rw[Zz] at e2
     cases e2
     have h4:=(V4 T.lt hlt).mp h3
     obtain⟨v,hv⟩:=Dy.mp (q3.resolve_left h0)
     exact .step hv ((low v hv).trans h4)
   have base:Ch t u a:=T.mono x u e a fun p q1 q2 q3=>by
    by_cases e:p=k
    ·subst e;exact oldk q1 q2 q3
    ·exact old p q1 q2 q3 e
   by_cases hc:Ch t u k
   ·by_cases hak:k≤a
    ·exact(So T.lt hlt hak).mpr base
    ·-- the node ahead of x has k in its chain too
     obtain⟨p,j1,j2,j3,j4⟩:=J x (T.dn x hxn) (.step e hc) hx hxn
     have hxl:=T.dn x hxn
     have hpk:=j4 u e hc
     have hap:=ha p (by omega) j2 (by
      rcases j3 with z | z
      ·exact .inl z
      ·by_cases e:p=k
       ·subst e;exact .inr (by rw[Zz];rfl)
       ·exact .inr (by rw[Zr e];exact z))
     refine Zp9 T.lt hlt hc ?_
     rcases((So T.lt hlt (Nat.le_refl k)).mpr hpk).linear hap with z | z
     ·cases z with
      | refl=>omega
      | step e2 h3=>rw[Zz] at e2;cases e2;exact(V4 T.lt hlt).mp h3
     ·have:=z.le lt';omega
   ·exact Y44 hc base
theorem Tr.begin{g:Nat→List Nat}{n:Nat}(N:Num g n):Tr g n fun _=>none where
 z:=rfl
 dn:=fun x h=>by cases h
 lt:=fun x m h=>by cases h
 cl:=fun x m h=>by cases h
 up:=fun x m h=>by cases h
 dom:=fun x hx d hd hn=>by
  rcases hx with rfl | hx
  ·have:=W2 N N.pos hd
   have e:d=0:=by omega
   subst e
   exact .refl 0
  ·cases hx
 mono:=fun x m h=>by cases h
structure Turn(g:Nat→List Nat)(n:Nat)(first:Prop)(t:Nat→Option Nat)(k:Nat):Prop where
 tr:Tr g n t
 told:∀x,0<x→x<n→(x<k∨¬first)→(t x).isSome=true
 none:first→∀x,k≤x→t x=none
 low:∀x u p,x<k→t x=some u→p<x→x∈g p→∀a,Ch t u a→Ch t p a
 high:∀x u p,k≤x→t x=some u→p<x→x∈g p→∀a,k≤a→Ch t u a→Ch t p a
theorem Turn.from{g:Nat→List Nat}{n k p:Nat}{first:Prop}{t:Nat→Option Nat}(U:Turn g n first t k)(hk:k<n)(hp:p<k):p=0∨(t p).isSome=true:=by
 by_cases e:p=0
 ·exact .inl e
 ·exact .inr (U.told p (by omega) (by omega) (.inl hp))
theorem Turn.put{g:Nat→List Nat}{n k m:Nat}{first:Prop}{t:Nat→Option Nat}{l:List Nat}(N:Num g n)(U:Turn g n first t k)(hk:k<n)(h0:k≠0)(hl:From g n t k l)(hm:Lca t l m):m<k∧Turn g n first (set1 t k m) (k+1)∧∀u,t k=some u→m≤u:=by
 have T:=U.tr
 obtain⟨p0,hp,he⟩:=N.up k hk h0
 have hp0:p0∈l:=(hl p0).mpr ⟨by omega,he,U.from hk hp⟩
 have mp0:Ch t p0 m:=(hm m).mp (.refl m) p0 hp0
 have hlt:m<k:=by have:=mp0.le T.lt;omega
 have T':Tr g n (set1 t k m):=by
  refine T.put N hk h0 hl hm hlt (List.ne_nil_of_mem hp0) fun x hx hc hxk hxt=>?_
  have hkx:k<x:=by have:=hc.le T.lt;omega
  obtain⟨p,q1,q2⟩:=N.up x hx (by omega)
  refine⟨p,q1,q2,?_,fun u hu hcu=>?_⟩
  ·by_cases e:p=0
   ·exact .inl e
   ·refine .inr (U.told p (by omega) (by omega) (.inr fun f=>?_))
    have:=U.none f x (by omega)
    rw[this] at hxt
    cases hxt
  ·exact U.high x u p (by omega) hu q1 q2 k (Nat.le_refl k) hcu
 refine⟨hlt,⟨T',fun x h1 h2 h3=>?_,fun f x hx=>?_,fun x u p hx hu hpx hg a ha=>?_,fun x u p hx hu hpx hg a ha hca=>?_⟩,fun u hu=>?_⟩
 ·by_cases e:x=k
  ·subst e;rw[Zz];rfl
  ·rw[Zr e]
   exact U.told x h1 h2 (h3.imp (fun z=>by omega) id)
 ·rw[Zr (by omega)];exact U.none f x (by omega)
 ·by_cases e:x=k
  ·subst e
   rw[Zz] at hu
   cases hu
   have h1:=(V4 T.lt hlt).mp ha
   refine(V4 T.lt hpx).mpr ((hm a).mp h1 p ((hl p).mpr ⟨by omega,hg,U.from hk hpx⟩))
  ·rw[Zr e] at hu
   have hux:=T.lt x u hu
   exact(V4 T.lt (by omega)).mpr (U.low x u p (by omega) hu hpx hg a ((V4 T.lt (by omega)).mp ha))
 ·rw[Zr (by omega)] at hu
  have h1:=(So T.lt hlt (by omega:k≤a)).mp hca
  exact(So T.lt hlt (by omega:k≤a)).mpr (U.high x u p (by omega) hu hpx hg a (by omega) h1)
 ·exact(T.mono k u hu m fun p a b c=>(hm m).mp (.refl m) p ((hl p).mpr ⟨a,b,c⟩)).le T.lt
theorem Turn.pass{g:Nat→List Nat}{n k m:Nat}{first:Prop}{t:Nat→Option Nat}{l:List Nat}(N:Num g n)(U:Turn g n first t k)(hk:k<n)(h0:k≠0)(hl:From g n t k l)(hm:Lca t l m)(e:t k=some m):Turn g n first t (k+1):=by
 have h:=(U.put N hk h0 hl hm).2.1
 have:set1 t k m=t:=by
  funext x
  by_cases hx:x=k
  ·subst hx;rw[Zz,e]
  ·rw[Zr hx]
 rw[this] at h
 exact h
theorem Turn.again{g:Nat→List Nat}{n:Nat}{first:Prop}{t:Nat→Option Nat}(U:Turn g n first t n):Turn g n False t 1 where
 tr:=U.tr
 told:=fun x h1 h2 _=>U.told x h1 h2 (.inl h2)
 none:=fun f=>f.elim
 low:=fun x u p hx hu hpx=>by
  have e:x=0:=by omega
  subst e
  rw[U.tr.z] at hu
  cases hu
 high:=fun x u p hx hu hpx hg a _ hca=>U.low x u p (U.tr.dn x (by rw[hu];rfl)) hu hpx hg a hca
theorem Turn.begin{g:Nat→List Nat}{n:Nat}(N:Num g n):Turn g n True (fun _=>Option.none) 1 where
 tr:=Tr.begin N
 told:=fun x h1 h2 h=>by
  rcases h with h | h
  ·omega
  ·exact absurd trivial h
 none:=fun _ _ _=>rfl
 low:=fun x u p _ h=>by cases h
 high:=fun x u p _ h=>by cases h
theorem Tr.done{g:Nat→List Nat}{n:Nat}{t:Nat→Option Nat}(N:Num g n)(T:Tr g n t)(all:∀x,0<x→x<n→(t x).isSome=true)(fix:∀x m,t x=some m→∃l,From g n t x l∧Lca t l m):∀k m,t k=some m→Must g k m:=by
 have key:∀a x,Av g a x→¬Ch t x a:=by
  intro a x h
  induction h with
  | zero h0=>
   intro z
   have:=z.le T.lt
   omega
  | step hx hy hn ih=>
   rename_i x y
   intro z
   cases z with
   | refl=>exact hn rfl
   | step e h3=>
    obtain⟨l,f1,f2⟩:=fix y _ e
    have hxn:=hx.lt N
    refine ih ((f2 a).mp h3 x ((f1 x).mpr ⟨hxn,hy,?_⟩))
    by_cases e0:x=0
    ·exact .inl e0
    ·exact .inr (all x (by omega) hxn)
 intro k m e
 have hk:=T.dn k (by rw[e];rfl)
 have hlt:=T.lt k m e
 refine⟨by omega,fun z=>key m k z (.step e (.refl m)),fun d hd hdom=>?_⟩
 have:=T.dom k (.inr (by rw[e];rfl)) d hdom hk
 cases this with
 | refl=>exact absurd rfl hd
 | step e2 h3=>
  rw[e] at e2
  cases e2
  exact h3.le T.lt
theorem Must.uniq{g:Nat→List Nat}{k m u:Nat}(h1:Must g k m)(h2:Must g k u):m=u:=by
 have:=h1.last u h2.ne h2.dom
 have:=h2.last m h1.ne h1.dom
 omega
end GT
namespace K81
open PySem PySem.Spec PyProof.Rows L2 L3 U
abbrev RR(c:Cfg)(b:Ss)(N:List Str)(sp:DSp):Prop:=∀ds M Q Z,sp ds M Q Z→tss c noX b {nx:=fun _ M=>Q .non M,rt:=Q} (start0 N ds) M
noncomputable def top(i:Nat):Stmt:=PySem.Challenge.pw_unjump_k81_versions_given_once.main.body.getD i (.Pass ⟨0,0,0,0⟩)
noncomputable def FN:List Str:="ways"::"comings"::"last_above"::"last_above_all"::"musts"::"sources_of"::"met_from"::"joined_names"::"meetings"::"new_version"::"joinings_of"::"split"::"split_node"::"once"::"_law_cell"::"_law_mixed"::"_law_great"::"_law_far"::"_law_node"::"_law_goals"::"_law_order"::"_law_graph"::"_law_menu"::"_law_word"::"_law_called"::"_law_drawn"::"_law_alike"::"_law_whole"::"_law_version"::"_law_same_node"::"_law_sources"::"_law_joining"::"_law_entry"::"_law_shape"::"_law_given"::"_law_used"::"law"::[]
noncomputable def GN:List Str:=[]
noncomputable def BN:List Str:=["enumerate","range","len","sorted","set","list","isinstance","str","dict","min","max","tuple","int","bool"]
noncomputable abbrev Gz:Stmt:=top 1
noncomputable def Z65:List Str:=["node"]
theorem Ye0:FnScope Z65 ["node"] (Z5 Gz):=⟨rfl,rfl,rfl,by decide+kernel,rfl,by decide+kernel,by decide+kernel⟩
noncomputable def Jb:Ss:=
 (.cons (.ret (.tup .nil))
 .nil)
noncomputable def Qg:Ss:=
 (.cons (.ite (.cmp .eq (.ix (.var 0) (.int 0)) (.str "test")) (.cons (.ret (.tup (.cons (.ix (.var 0) (.int 4)) (.cons (.ix (.var 0) (.int 5)) .nil))))
 .nil) .nil)
 Jb)
noncomputable def Zj7:Ss:=
 (.cons (.ite (.cmp .eq (.ix (.var 0) (.int 0)) (.str "sum")) (.cons (.ret (.tup (.cons (.ix (.var 0) (.int 5)) .nil)))
 .nil) .nil)
 Qg)
theorem Yj0:Zv (ck0 Z65 Gz FN GN BN) Zj7 (Zb Gz)=true:=by decide+kernel
noncomputable abbrev V2:Stmt:=top 2
noncomputable def Tn:List Str:=["graph","told","place","node","goal"]
theorem Z81:FnScope Tn ["graph"] (Z5 V2):=⟨rfl,rfl,rfl,by decide+kernel,rfl,by decide+kernel,by decide+kernel⟩
noncomputable def Pf:Ss:=
 (.cons (.ret (.var 1))
 .nil)
noncomputable def Qs:Ss:=
 (.cons (.expr (.mt .append (.ix (.var 1) (.var 4)) (.cons (.var 2) .nil)))
 .nil)
noncomputable def O3:Ss:=
 (.cons (.for_ [4] (.seq (.call 0 (.cons (.var 3) .nil))) Qs)
 .nil)
noncomputable def Pe:Ss:=
 (.cons (.set [1] (.comp ["node"] [none] [0] (.seq (.var 0)) .no (.lst .nil)))
 (.cons (.for_ [2,3] (.enm (.var 0)) O3)
 Pf))
theorem Zm3:Zv (ck0 Tn V2 FN GN BN) Pe (Zb V2)=true:=by decide+kernel
noncomputable abbrev Yw:Stmt:=top 6
noncomputable def Xs:List Str:=["told","one","other"]
theorem G7:FnScope Xs ["told","one","other"] (Z5 Yw):=⟨rfl,rfl,rfl,by decide+kernel,rfl,by decide+kernel,by decide+kernel⟩
noncomputable def Vz:Ss:=
 (.cons (.ret (.var 1))
 .nil)
noncomputable def Tb:Ss:=
 (.cons (.ite (.cmp .lt (.var 1) (.var 2)) (.cons (.set [2] (.ix (.var 0) (.var 2)))
 .nil) (.cons (.set [1] (.ix (.var 0) (.var 1)))
 .nil))
 .nil)
noncomputable def V1:Ss:=
 (.cons (.while_ (.cmp .ne (.var 1) (.var 2)) Tb)
 Vz)
theorem Ca:Zv (ck0 Xs Yw FN GN BN) V1 (Zb Yw)=true:=by decide+kernel
noncomputable abbrev Y3:Stmt:=top 5
noncomputable def Yb:List Str:=["told","places","last","place"]
theorem Ri:FnScope Yb ["told","places"] (Z5 Y3):=⟨rfl,rfl,rfl,by decide+kernel,rfl,by decide+kernel,by decide+kernel⟩
noncomputable def Xq:Ss:=
 (.cons (.ret (.var 2))
 .nil)
noncomputable def Xl:Ss:=
 (.cons (.ite (.bop false (.cons (.cmp .eq (.var 3) (.int 0)) (.cons (.cmp .isnot (.ix (.var 0) (.var 3)) .non) .nil))) (.cons (.set [2] (.ife (.cmp .is (.var 2) .non) (.var 3) (.call 2 (.cons (.var 0) (.cons (.var 2) (.cons (.var 3) .nil))))))
 .nil) .nil)
 .nil)
noncomputable def X2:Ss:=
 (.cons (.set [2] .non)
 (.cons (.for_ [3] (.seq (.var 1)) Xl)
 Xq))
theorem Q6:Zv (ck0 Yb Y3 FN GN BN) X2 (Zb Y3)=true:=by decide+kernel
noncomputable abbrev Oe:Stmt:=top 4
noncomputable def Gd:List Str:=["graph","froms","told","changed","place","last"]
theorem Zx6:FnScope Gd ["graph"] (Z5 Oe):=⟨rfl,rfl,rfl,by decide+kernel,rfl,by decide+kernel,by decide+kernel⟩
noncomputable def Cc:Ss:=
 (.cons (.ret (.var 2))
 .nil)
noncomputable def Ff:Ss:=
 (.cons (.set [5] (.call 3 (.cons (.var 2) (.cons (.ix (.var 1) (.var 4)) .nil))))
 (.cons (.ite (.cmp .ne (.var 5) (.ix (.var 2) (.var 4))) (.cons (.put (.var 2) (.var 4) (.var 5))
 (.cons (.set [3] (.bl true))
 .nil)) .nil)
 .nil))
noncomputable def Gt:Ss:=
 (.cons (.set [3] (.bl false))
 (.cons (.for_ [4] (.rng2 (.int 1) (.bf .len (.cons (.var 0) .nil))) Ff)
 .nil))
noncomputable def Cy:Ss:=
 (.cons (.set [1] (.call 1 (.cons (.var 0) .nil)))
 (.cons (.set [2] (.bin .mul (.lst (.cons .non .nil)) (.bf .len (.cons (.var 0) .nil))))
 (.cons (.set [3] (.bl true))
 (.cons (.while_ (.var 3) Gt)
 Cc))))
theorem Ye3:Zv (ck0 Gd Oe FN GN BN) Cy (Zb Oe)=true:=by decide+kernel
noncomputable abbrev Yy:Stmt:=top 9
noncomputable def Xu:List Str:=["graph","sources"]
theorem Jf:FnScope Xu ["graph"] (Z5 Yy):=⟨rfl,rfl,rfl,by decide+kernel,rfl,by decide+kernel,by decide+kernel⟩
noncomputable def Vb:Ss:=
 (.cons (.set [1] (.comp ["froms"] [none] [0] (.seq (.call 1 (.cons (.var 0) .nil))) .no (.setf true (.var 0))))
 (.cons (.expr (.mt .ins0 (.ix (.var 1) (.int 0)) (.cons (.int 0) (.cons (.neg (.int 1)) .nil))))
 (.cons (.ret (.var 1))
 .nil)))
theorem C4:Zv (ck0 Xu Yy FN GN BN) Vb (Zb Yy)=true:=by decide+kernel
noncomputable abbrev W1:Stmt:=top 12
noncomputable def Vt:List Str:=["givers","meets","met","left","giver","place"]
theorem Z02:FnScope Vt ["givers","meets"] (Z5 W1):=⟨rfl,rfl,rfl,by decide+kernel,rfl,by decide+kernel,by decide+kernel⟩
noncomputable def Rv:Ss:=
 (.cons (.ret (.lkeys (.var 2)))
 .nil)
noncomputable def Q0:Ss:=
 (.cons (.ite (.cmp .notin (.var 5) (.var 2)) (.cons (.put (.var 2) (.var 5) (.bl true))
 (.cons (.expr (.mt .append (.var 3) (.cons (.var 5) .nil)))
 .nil)) .nil)
 .nil)
noncomputable def Rn:Ss:=
 (.cons (.set [4] (.mt .pop0 (.var 3) .nil))
 (.cons (.for_ [5] (.seq (.ix (.var 1) (.var 4))) Q0)
 .nil))
noncomputable def Rf:Ss:=
 (.cons (.set [2] .dict0)
 (.cons (.set [3] (.bf .list1 (.cons (.var 0) .nil)))
 (.cons (.while_ (.cmp .ne (.var 3) (.lst .nil)) Rn)
 Rv)))
theorem Zc6:Zv (ck0 Vt W1 FN GN BN) Rf (Zb W1)=true:=by decide+kernel
noncomputable abbrev Y7:Stmt:=top 11
noncomputable def Yt:List Str:=["graph","meets","joined","names","name","givers","place"]
theorem Qq:FnScope Yt ["graph","meets"] (Z5 Y7):=⟨rfl,rfl,rfl,by decide+kernel,rfl,by decide+kernel,by decide+kernel⟩
noncomputable def Ws:Ss:=
 (.cons (.ret (.var 2))
 .nil)
noncomputable def Wu:Ss:=
 (.cons (.expr (.mt .append (.ix (.var 2) (.var 6)) (.cons (.var 4) .nil)))
 .nil)
noncomputable def Wt:Ss:=
 (.cons (.set [5] (.comp ["place","node","name"] [none,none,(some 4)] [0,1] (.enm (.var 0)) (.yes (.cmp .eq (.slW (.var 1) .no (.yes (.int 2))) (.tup (.cons (.str "sum") (.cons (.var 2) .nil))))) (.var 0)))
 (.cons (.for_ [6] (.seq (.call 6 (.cons (.var 5) (.cons (.var 1) .nil)))) Wu)
 .nil))
noncomputable def Xv:Ss:=
 (.cons (.set [2] (.comp ["node"] [none] [0] (.seq (.var 0)) .no (.lst .nil)))
 (.cons (.set [3] (.comp ["node"] [none] [0] (.seq (.var 0)) (.yes (.cmp .eq (.ix (.var 0) (.int 0)) (.str "sum"))) (.ix (.var 0) (.int 1))))
 (.cons (.for_ [4] (.seq (.setf true (.var 3))) Wt)
 Ws)))
theorem Oi:Zv (ck0 Yt Y7 FN GN BN) Xv (Zb Y7)=true:=by decide+kernel
noncomputable abbrev W6:Stmt:=top 10
noncomputable def Vo:List Str:=["tree","sources","meets","place","starts","start","giver"]
theorem Z06:FnScope Vo ["tree","sources"] (Z5 W6):=⟨rfl,rfl,rfl,by decide+kernel,rfl,by decide+kernel,by decide+kernel⟩
noncomputable def Ry:Ss:=
 (.cons (.ret (.var 2))
 .nil)
noncomputable def Q3:Ss:=
 (.cons (.expr (.mt .append (.ix (.var 2) (.var 6)) (.cons (.var 3) .nil)))
 (.cons (.set [6] (.ix (.var 0) (.var 6)))
 .nil))
noncomputable def Rs:Ss:=
 (.cons (.set [6] (.var 5))
 (.cons (.while_ (.cmp .ne (.var 6) (.ix (.var 0) (.var 3))) Q3)
 .nil))
noncomputable def Rz:Ss:=
 (.cons (.for_ [5] (.seq (.var 4)) Rs)
 .nil)
noncomputable def Sl:Ss:=
 (.cons (.set [2] (.comp ["place"] [none] [0] (.seq (.var 0)) .no (.lst .nil)))
 (.cons (.for_ [3,4] (.enm (.var 1)) Rz)
 Ry))
theorem Z87:Zv (ck0 Vo W6 FN GN BN) Sl (Zb W6)=true:=by decide+kernel
noncomputable abbrev Yl:Stmt:=top 13
noncomputable def X4:List Str:=["counts","name"]
theorem Oh:FnScope X4 ["counts","name"] (Z5 Yl):=⟨rfl,rfl,rfl,by decide+kernel,rfl,by decide+kernel,by decide+kernel⟩
noncomputable def We:Ss:=
 (.cons (.put (.var 0) (.var 1) (.bin .add (.mt .get2 (.var 0) (.cons (.var 1) (.cons (.int 0) .nil))) (.int 1)))
 (.cons (.ret (.ix (.var 0) (.var 1)))
 .nil))
theorem G8:Zv (ck0 X4 Yl FN GN BN) We (Zb Yl)=true:=by decide+kernel
noncomputable abbrev Ym:Stmt:=top 14
noncomputable def X6:List Str:=["names","versions","starts","afters","joinings","name","sources"]
theorem Ol:FnScope X6 ["names","versions","starts","afters"] (Z5 Ym):=⟨rfl,rfl,rfl,by decide+kernel,rfl,by decide+kernel,by decide+kernel⟩
noncomputable def V0:Ss:=
 (.cons (.ret (.var 4))
 .nil)
noncomputable def Wy:Ss:=
 (.cons (.set [6] (.comp ["start","afters","name"] [none,(some 3),(some 5)] [0] (.seq (.var 2)) .no (.tup (.cons (.var 0) (.cons (.mt .get2 (.ix (.var 1) (.var 0)) (.cons (.var 2) (.cons (.int 0) .nil))) .nil)))))
 (.cons (.expr (.mt .append (.var 4) (.cons (.tup (.cons (.var 5) (.cons (.ix (.var 1) (.var 5)) (.cons (.var 6) .nil)))) .nil)))
 .nil))
noncomputable def Wm:Ss:=
 (.cons (.set [4] (.lst .nil))
 (.cons (.for_ [5] (.seq (.var 0)) Wy)
 V0))
theorem Je:Zv (ck0 X6 Ym FN GN BN) Wm (Zb Ym)=true:=by decide+kernel
noncomputable abbrev Of:Stmt:=top 16
noncomputable def Ny:List Str:=["operand","versions"]
theorem Y18:FnScope Ny ["operand","versions"] (Z5 Of):=⟨rfl,rfl,rfl,by decide+kernel,rfl,by decide+kernel,by decide+kernel⟩
noncomputable def C6:Ss:=
 (.cons (.ret (.var 0))
 .nil)
noncomputable def Cr:Ss:=
 (.cons (.ite (.bf .isinst (.cons (.var 0) (.cons (.ty .str) .nil))) (.cons (.ret (.tup (.cons (.var 0) (.cons (.mt .get2 (.var 1) (.cons (.var 0) (.cons (.int 0) .nil))) .nil))))
 .nil) .nil)
 C6)
theorem Yh3:Zv (ck0 Ny Of FN GN BN) Cr (Zb Of)=true:=by decide+kernel
noncomputable abbrev X1:Stmt:=top 15
noncomputable def Xn:List Str:=["node","before","after","name"]
theorem Gg:FnScope Xn ["node","before","after"] (Z5 X1):=⟨rfl,rfl,rfl,by decide+kernel,rfl,by decide+kernel,by decide+kernel⟩
noncomputable def Xw:Ss:=
 (.cons (.ret (.var 0))
 .nil)
noncomputable def Yu:Ss:=
 (.cons (.ite (.cmp .eq (.ix (.var 0) (.int 0)) (.str "test")) (.cons (.ret (.tup (.cons (.str "test") (.cons (.call 11 (.cons (.ix (.var 0) (.int 1)) (.cons (.var 1) .nil))) (.cons (.ix (.var 0) (.int 2)) (.cons (.call 11 (.cons (.ix (.var 0) (.int 3)) (.cons (.var 1) .nil))) (.cons (.ix (.var 0) (.int 4)) (.cons (.ix (.var 0) (.int 5)) .nil))))))))
 .nil) .nil)
 Xw)
noncomputable def Vh:Ss:=
 (.cons (.ite (.cmp .eq (.ix (.var 0) (.int 0)) (.str "sum")) (.cons (.set [3] (.tup (.cons (.ix (.var 0) (.int 1)) (.cons (.ix (.var 2) (.ix (.var 0) (.int 1))) .nil))))
 (.cons (.ret (.tup (.cons (.str "sum") (.cons (.var 3) (.cons (.call 11 (.cons (.ix (.var 0) (.int 2)) (.cons (.var 1) .nil))) (.cons (.ix (.var 0) (.int 3)) (.cons (.call 11 (.cons (.ix (.var 0) (.int 4)) (.cons (.var 1) .nil))) (.cons (.ix (.var 0) (.int 5)) .nil))))))))
 .nil)) .nil)
 Yu)
theorem Gx:Zv (ck0 Xn X1 FN GN BN) Vh (Zb X1)=true:=by decide+kernel
noncomputable abbrev Gr:Stmt:=top 8
noncomputable def Z30:List Str:=["graph","tree","sources","joined","counts","befores","afters","place","node","versions","name"]
theorem Ya6:FnScope Z30 ["graph"] (Z5 Gr):=⟨rfl,rfl,rfl,by decide+kernel,rfl,by decide+kernel,by decide+kernel⟩
noncomputable def Z36:Ss:=
 (.cons (.ret (.comp ["place","node","joined","befores","sources","afters"] [none,none,(some 3),(some 5),(some 2),(some 6)] [0,1] (.enm (.var 0)) .no (.tup (.cons (.call 10 (.cons (.ix (.var 2) (.var 0)) (.cons (.ix (.var 3) (.var 0)) (.cons (.ix (.var 4) (.var 0)) (.cons (.var 5) .nil))))) (.cons (.call 12 (.cons (.var 1) (.cons (.ix (.var 3) (.var 0)) (.cons (.ix (.var 5) (.var 0)) .nil)))) .nil)))))
 .nil)
noncomputable def G3:Ss:=
 (.cons (.put (.var 6) (.var 7) (.var 9))
 .nil)
noncomputable def Z28:Ss:=
 (.cons (.expr (.mt .append (.var 5) (.cons (.bf .dict1 (.cons (.var 9) .nil)) .nil)))
 (.cons (.ite (.cmp .eq (.ix (.var 8) (.int 0)) (.str "sum")) (.cons (.put (.var 9) (.ix (.var 8) (.int 1)) (.call 9 (.cons (.var 4) (.cons (.ix (.var 8) (.int 1)) .nil))))
 .nil) .nil)
 G3))
noncomputable def Z63:Ss:=
 (.cons (.put (.var 9) (.var 10) (.call 9 (.cons (.var 4) (.cons (.var 10) .nil))))
 .nil)
noncomputable def G2:Ss:=
 (.cons (.set [9] (.bf .dict1 (.cons (.ix (.var 6) (.ix (.var 1) (.var 7))) .nil)))
 (.cons (.for_ [10] (.seq (.ix (.var 3) (.var 7))) Z63)
 Z28))
noncomputable def Zf6:Ss:=
 (.cons (.set [1] (.bin .add (.lst (.cons (.neg (.int 1)) .nil)) (.sl (.call 4 (.cons (.var 0) .nil)) (.yes (.int 1)) .no)))
 (.cons (.set [2] (.call 5 (.cons (.var 0) .nil)))
 (.cons (.set [3] (.call 7 (.cons (.var 0) (.cons (.call 8 (.cons (.var 1) (.cons (.var 2) .nil))) .nil))))
 (.cons (.set [4] .dict0)
 (.cons (.set [5] (.lst .nil))
 (.cons (.set [6] (.dct (.neg (.int 1)) .dict0))
 (.cons (.for_ [7,8] (.enm (.var 0)) G2)
 Z36)))))))
theorem Yo2:Zv (ck0 Z30 Gr FN GN BN) Zf6 (Zb Gr)=true:=by decide+kernel
noncomputable abbrev Pt:Stmt:=top 18
noncomputable def J1:List Str:=["_law_script","_law_k"]
theorem Zw0:FnScope J1 ["_law_script","_law_k"] (Z5 Pt):=⟨rfl,rfl,rfl,by decide+kernel,rfl,by decide+kernel,by decide+kernel⟩
noncomputable def Ei:Ss:=
 (.cons (.ret (.int 0))
 .nil)
noncomputable def B1:Ss:=
 (.cons (.ite (.cmp .lt (.var 1) (.bf .len (.cons (.var 0) .nil))) (.cons (.ret (.ix (.var 0) (.var 1)))
 .nil) .nil)
 Ei)
theorem Yd9:Zv (ck0 J1 Pt FN GN BN) B1 (Zb Pt)=true:=by decide+kernel
noncomputable abbrev Tw:Stmt:=top 19
noncomputable def Qh:List Str:=["_law_cell_here","_law_k","_law_number"]
theorem Zh9:FnScope Qh ["_law_cell_here","_law_k"] (Z5 Tw):=⟨rfl,rfl,rfl,by decide+kernel,rfl,by decide+kernel,by decide+kernel⟩
noncomputable def Jr:Ss:=
 (.cons (.set [2] (.bin .mod (.bin .add (.bin .add (.bin .mul (.bin .mod (.var 0) (.int 2147483647)) (.int 48271)) (.bin .mul (.bin .mul (.int 7919) (.var 1)) (.var 1))) (.int 104729)) (.int 2147483647)))
 (.cons (.ret (.bin .mod (.bin .mul (.var 2) (.var 2)) (.int 2147483629)))
 .nil))
theorem Y28:Zv (ck0 Qh Tw FN GN BN) Jr (Zb Tw)=true:=by decide+kernel
noncomputable abbrev Sg:Stmt:=top 20
noncomputable def Qc:List Str:=["_law_number"]
theorem Zh1:FnScope Qc ["_law_number"] (Z5 Sg):=⟨rfl,rfl,rfl,by decide+kernel,rfl,by decide+kernel,by decide+kernel⟩
noncomputable def Jd:Ss:=
 (.cons (.ret (.bin .sub (.bin .mod (.bin .mul (.var 0) (.bin .pow (.int 982451653) (.int 3))) (.bin .add (.bin .mul (.int 2) (.bin .pow (.int 10) (.int 18))) (.int 1))) (.bin .pow (.int 10) (.int 18))))
 .nil)
theorem Y26:Zv (ck0 Qc Sg FN GN BN) Jd (Zb Sg)=true:=by decide+kernel
noncomputable abbrev Ea:Stmt:=top 21
noncomputable def Z35:List Str:=["_law_number","_law_k","_law_many","_law_mode","_law_to"]
theorem Yg9:FnScope Z35 ["_law_number","_law_k","_law_many","_law_mode"] (Z5 Ea):=⟨rfl,rfl,rfl,by decide+kernel,rfl,by decide+kernel,by decide+kernel⟩
noncomputable def Jh:Ss:=
 (.cons (.ret (.bin .mod (.bin .fdiv (.var 0) (.int 32768)) (.var 2)))
 .nil)
noncomputable def J7:Ss:=
 (.cons (.ite (.cmp .eq (.var 3) (.int 2)) (.cons (.ret (.bin .sub (.var 1) (.bin .mod (.var 1) (.ix (.lst (.cons (.int 1) (.cons (.int 2) (.cons (.int 4) (.cons (.int 8) .nil))))) (.bin .mod (.bin .fdiv (.var 0) (.int 128)) (.int 4))))))
 .nil) .nil)
 Jh)
noncomputable def Jg:Ss:=
 (.cons (.ite (.bop true (.cons (.cmp .eq (.var 3) (.int 2)) (.cons (.cmp .eq (.bin .mod (.bin .fdiv (.var 0) (.int 64)) (.int 2)) (.int 0)) .nil))) (.cons (.ret (.bf .min2 (.cons (.bin .add (.bin .add (.var 1) (.int 1)) (.bin .mod (.bin .fdiv (.var 0) (.int 128)) (.int 3))) (.cons (.bin .sub (.var 2) (.int 1)) .nil))))
 .nil) .nil)
 J7)
noncomputable def Z25:Ss:=
 (.cons (.ret (.ix (.lst (.cons (.int 0) (.cons (.var 1) .nil))) (.bin .mod (.bin .fdiv (.var 0) (.int 64)) (.int 2))))
 .nil)
noncomputable def Zj6:Ss:=
 (.cons (.ite (.cmp .eq (.var 3) (.int 1)) (.cons (.set [4] (.bin .add (.bin .add (.var 1) (.int 1)) (.bin .mod (.bin .fdiv (.var 0) (.int 32768)) (.bin .sub (.var 2) (.var 1)))))
 (.cons (.ite (.cmp .lt (.var 4) (.var 2)) (.cons (.ret (.var 4))
 .nil) .nil)
 Z25)) .nil)
 Jg)
theorem Yn1:Zv (ck0 Z35 Ea FN GN BN) Zj6 (Zb Ea)=true:=by decide+kernel
noncomputable abbrev Oc:Stmt:=top 22
noncomputable def Gb:List Str:=["_law_cell_here","_law_k","_law_many","_law_mode","_law_number","_law_names","_law_one","_law_other","_law_to","_law_near","_law_sign","_law_no"]
theorem Y09:FnScope Gb ["_law_cell_here","_law_k","_law_many","_law_mode"] (Z5 Oc):=⟨rfl,rfl,rfl,by decide+kernel,rfl,by decide+kernel,by decide+kernel⟩
noncomputable def Fo:Ss:=
 (.cons (.ret (.ix (.lst (.cons (.tup (.cons (.str "end") .nil)) (.cons (.tup (.cons (.str "spin") .nil)) .nil))) (.bin .mod (.var 4) (.int 2))))
 .nil)
noncomputable def C5:Ss:=
 (.cons (.ite (.cmp .lt (.bin .mod (.var 4) (.int 32)) (.int 30)) (.cons (.set [11] (.ix (.lst (.cons (.var 9) (.cons (.var 9) (.cons (.var 9) (.cons (.call 17 (.cons (.bin .mod (.bin .mul (.var 4) (.int 48271)) (.int 2147483629)) (.cons (.var 1) (.cons (.var 2) (.cons (.var 3) .nil))))) .nil))))) (.bin .mod (.bin .fdiv (.var 4) (.int 32)) (.int 4))))
 (.cons (.ret (.tup (.cons (.str "test") (.cons (.var 6) (.cons (.ix (.lst (.cons (.str "<") (.cons (.str "=") .nil))) (.bin .mod (.bin .fdiv (.var 4) (.int 131)) (.int 2))) (.cons (.var 7) (.cons (.var 8) (.cons (.var 11) .nil))))))))
 .nil)) .nil)
 Fo)
noncomputable def Cu:Ss:=
 (.cons (.set [4] (.call 15 (.cons (.var 0) (.cons (.var 1) .nil))))
 (.cons (.set [5] (.lst (.cons (.str "x") (.cons (.str "y") (.cons (.str "z1") (.cons (.str "z") .nil))))))
 (.cons (.set [6] (.ix (.lst (.cons (.ix (.var 5) (.bin .mod (.bin .fdiv (.var 4) (.int 64)) (.int 4))) (.cons (.bin .sub (.bin .mod (.bin .fdiv (.var 4) (.int 64)) (.int 9)) (.int 4)) .nil))) (.bin .fdiv (.bin .mod (.bin .fdiv (.var 4) (.int 512)) (.int 4)) (.int 3))))
 (.cons (.set [7] (.ix (.lst (.cons (.ix (.var 5) (.bin .mod (.bin .fdiv (.var 4) (.int 2048)) (.int 4))) (.cons (.call 16 (.cons (.bin .add (.var 0) (.var 4)) .nil)) .nil))) (.bin .fdiv (.bin .mod (.bin .fdiv (.var 4) (.int 8192)) (.int 4)) (.int 3))))
 (.cons (.set [8] (.call 17 (.cons (.var 4) (.cons (.var 1) (.cons (.var 2) (.cons (.var 3) .nil))))))
 (.cons (.set [9] (.bf .min2 (.cons (.bin .add (.var 1) (.int 1)) (.cons (.bin .sub (.var 2) (.int 1)) .nil))))
 (.cons (.ite (.cmp .lt (.bin .mod (.var 4) (.int 32)) (.int 13)) (.cons (.set [10] (.ix (.lst (.cons (.str "+") (.cons (.str "-") (.cons (.str "/") (.cons (.str "rest") (.cons (.str "&") (.cons (.str "^") .nil))))))) (.bin .mod (.bin .fdiv (.var 4) (.int 67)) (.int 6))))
 (.cons (.ret (.tup (.cons (.str "sum") (.cons (.ix (.var 5) (.bin .mod (.bin .fdiv (.var 4) (.int 407)) (.int 4))) (.cons (.var 6) (.cons (.var 10) (.cons (.var 7) (.cons (.ix (.lst (.cons (.var 9) (.cons (.var 9) (.cons (.var 9) (.cons (.var 8) .nil))))) (.bin .mod (.bin .fdiv (.var 4) (.int 32)) (.int 4))) .nil))))))))
 .nil)) .nil)
 C5)))))))
theorem Ya8:Zv (ck0 Gb Oc FN GN BN) Cu (Zb Oc)=true:=by decide+kernel
noncomputable abbrev S0:Stmt:=top 23
noncomputable def Ql:List Str:=["_law_node_here"]
theorem Zl2:FnScope Ql ["_law_node_here"] (Z5 S0):=⟨rfl,rfl,rfl,by decide+kernel,rfl,by decide+kernel,by decide+kernel⟩
noncomputable def R0:Ss:=
 (.cons (.ret (.lst .nil))
 .nil)
noncomputable def Vi:Ss:=
 (.cons (.ite (.cmp .eq (.ix (.var 0) (.int 0)) (.str "test")) (.cons (.ret (.lst (.cons (.ix (.var 0) (.int 5)) (.cons (.ix (.var 0) (.int 4)) .nil))))
 .nil) .nil)
 R0)
noncomputable def G0:Ss:=
 (.cons (.ite (.cmp .eq (.ix (.var 0) (.int 0)) (.str "sum")) (.cons (.ret (.lst (.cons (.ix (.var 0) (.int 5)) .nil)))
 .nil) .nil)
 Vi)
theorem Zu4:Zv (ck0 Ql S0 FN GN BN) G0 (Zb S0)=true:=by decide+kernel
noncomputable abbrev S8:Stmt:=top 24
noncomputable def Qi:List Str:=["_law_raw","_law_begun","_law_trail","_law_done","_law_here","_law_step","_law_goals_here"]
theorem Zo9:FnScope Qi ["_law_raw"] (Z5 S8):=⟨rfl,rfl,rfl,by decide+kernel,rfl,by decide+kernel,by decide+kernel⟩
noncomputable def Nt:Ss:=
 (.cons (.ret (.rev (.var 3)))
 .nil)
noncomputable def Rj:Ss:=
 (.cons (.set [4,5] (.mt .pop0 (.var 2) .nil))
 (.cons (.set [6] (.call 19 (.cons (.ix (.var 0) (.var 4)) .nil)))
 (.cons (.ite (.cmp .eq (.var 5) (.bf .len (.cons (.var 6) .nil))) (.cons (.expr (.mt .append (.var 3) (.cons (.var 4) .nil)))
 .nil) (.cons (.expr (.mt .append (.var 2) (.cons (.tup (.cons (.var 4) (.cons (.bin .add (.var 5) (.int 1)) .nil))) .nil)))
 (.cons (.ite (.cmp .notin (.ix (.var 6) (.var 5)) (.var 1)) (.cons (.expr (.mt .append (.var 1) (.cons (.ix (.var 6) (.var 5)) .nil)))
 (.cons (.expr (.mt .append (.var 2) (.cons (.tup (.cons (.ix (.var 6) (.var 5)) (.cons (.int 0) .nil))) .nil)))
 .nil)) .nil)
 .nil)))
 .nil)))
noncomputable def Gc:Ss:=
 (.cons (.set [1] (.lst (.cons (.int 0) .nil)))
 (.cons (.set [2] (.lst (.cons (.tup (.cons (.int 0) (.cons (.int 0) .nil))) .nil)))
 (.cons (.set [3] (.lst .nil))
 (.cons (.while_ (.cmp .ne (.var 2) (.lst .nil)) Rj)
 Nt))))
theorem Zy9:Zv (ck0 Qi S8 FN GN BN) Gc (Zb S8)=true:=by decide+kernel
noncomputable abbrev Sd:Stmt:=top 25
noncomputable def Qn:List Str:=["_law_raw","_law_order_here","_law_graph_here","_law_old","_law_node_here"]
theorem Zc9:FnScope Qn ["_law_raw"] (Z5 Sd):=⟨rfl,rfl,rfl,by decide+kernel,rfl,by decide+kernel,by decide+kernel⟩
noncomputable def Nf:Ss:=
 (.cons (.ret (.var 2))
 .nil)
noncomputable def Sn:Ss:=
 (.cons (.expr (.mt .append (.var 2) (.cons (.var 4) .nil)))
 .nil)
noncomputable def W9:Ss:=
 (.cons (.ite (.cmp .eq (.ix (.var 4) (.int 0)) (.str "test")) (.cons (.set [4] (.bin .add (.sl (.var 4) .no (.yes (.int 4))) (.tup (.cons (.mt .index1 (.var 1) (.cons (.ix (.var 4) (.int 4)) .nil)) (.cons (.mt .index1 (.var 1) (.cons (.ix (.var 4) (.int 5)) .nil)) .nil)))))
 .nil) .nil)
 Sn)
noncomputable def Nm:Ss:=
 (.cons (.set [4] (.ix (.var 0) (.var 3)))
 (.cons (.ite (.cmp .eq (.ix (.var 4) (.int 0)) (.str "sum")) (.cons (.set [4] (.bin .add (.sl (.var 4) .no (.yes (.int 5))) (.tup (.cons (.mt .index1 (.var 1) (.cons (.ix (.var 4) (.int 5)) .nil)) .nil))))
 .nil) .nil)
 W9))
noncomputable def Ga:Ss:=
 (.cons (.set [1] (.call 20 (.cons (.var 0) .nil)))
 (.cons (.set [2] (.lst .nil))
 (.cons (.for_ [3] (.seq (.var 1)) Nm)
 Nf)))
theorem Zs8:Zv (ck0 Qn Sd FN GN BN) Ga (Zb Sd)=true:=by decide+kernel
noncomputable abbrev Qt:Stmt:=top 26
noncomputable def J6:List Str:=["_law_cell_here","_law_some"]
theorem Y35:FnScope J6 ["_law_cell_here"] (Z5 Qt):=⟨rfl,rfl,rfl,by decide+kernel,rfl,by decide+kernel,by decide+kernel⟩
noncomputable def Ce:Ss:=
 (.cons (.set [1] (.lst (.cons (.lst (.cons (.str "x") (.cons (.str "y") (.cons (.str "z1") (.cons (.str "z") .nil))))) (.cons (.lst (.cons (.str "sum") (.cons (.str "test") (.cons (.str "spin") (.cons (.str "way00") .nil))))) (.cons (.lst (.cons (.str "way0") (.cons (.str "y") (.cons (.str "way2") (.cons (.str "way") .nil))))) .nil)))))
 (.cons (.set [1] (.bin .add (.var 1) (.lst (.cons (.lst (.cons (.str "way1") (.cons (.str "choice") (.cons (.str "w") (.cons (.str "way3") .nil))))) (.cons (.lst (.cons (.str "counter1") (.cons (.str "counter2") (.cons (.str "bounter1") (.cons (.str "counter") .nil))))) .nil)))))
 (.cons (.ret (.ix (.var 1) (.bin .mod (.var 0) (.int 5))))
 .nil)))
theorem Ya2:Zv (ck0 J6 Qt FN GN BN) Ce (Zb Qt)=true:=by decide+kernel
noncomputable abbrev Pa:Stmt:=top 27
noncomputable def Jn:List Str:=["_law_part","_law_names"]
theorem Zs4:FnScope Jn ["_law_part","_law_names"] (Z5 Pa):=⟨rfl,rfl,rfl,by decide+kernel,rfl,by decide+kernel,by decide+kernel⟩
noncomputable def Eb:Ss:=
 (.cons (.ret (.var 0))
 .nil)
noncomputable def B5:Ss:=
 (.cons (.ite (.bf .isinst (.cons (.var 0) (.cons (.ty .str) .nil))) (.cons (.ret (.ix (.var 1) (.mt .index1 (.lst (.cons (.str "x") (.cons (.str "y") (.cons (.str "z1") (.cons (.str "z") .nil))))) (.cons (.var 0) .nil))))
 .nil) .nil)
 Eb)
theorem Yg7:Zv (ck0 Jn Pa FN GN BN) B5 (Zb Pa)=true:=by decide+kernel
noncomputable abbrev V8:Stmt:=top 28
noncomputable def Tl:List Str:=["_law_graph_here","_law_names","_law_found","_law_node_here","_law_one","_law_other"]
theorem Z97:FnScope Tl ["_law_graph_here","_law_names"] (Z5 V8):=⟨rfl,rfl,rfl,by decide+kernel,rfl,by decide+kernel,by decide+kernel⟩
noncomputable def Px:Ss:=
 (.cons (.ret (.var 2))
 .nil)
noncomputable def Ti:Ss:=
 (.cons (.expr (.mt .append (.var 2) (.cons (.var 3) .nil)))
 .nil)
noncomputable def Oa:Ss:=
 (.cons (.ite (.cmp .eq (.ix (.var 3) (.int 0)) (.str "sum")) (.cons (.set [4] (.call 23 (.cons (.ix (.var 3) (.int 2)) (.cons (.var 1) .nil))))
 (.cons (.set [5] (.call 23 (.cons (.ix (.var 3) (.int 4)) (.cons (.var 1) .nil))))
 (.cons (.set [3] (.tup (.cons (.str "sum") (.cons (.call 23 (.cons (.ix (.var 3) (.int 1)) (.cons (.var 1) .nil))) (.cons (.var 4) (.cons (.ix (.var 3) (.int 3)) (.cons (.var 5) (.cons (.ix (.var 3) (.int 5)) .nil))))))))
 .nil))) (.cons (.ite (.cmp .eq (.ix (.var 3) (.int 0)) (.str "test")) (.cons (.set [3] (.tup (.cons (.str "test") (.cons (.call 23 (.cons (.ix (.var 3) (.int 1)) (.cons (.var 1) .nil))) (.cons (.ix (.var 3) (.int 2)) (.cons (.call 23 (.cons (.ix (.var 3) (.int 3)) (.cons (.var 1) .nil))) (.cons (.ix (.var 3) (.int 4)) (.cons (.ix (.var 3) (.int 5)) .nil))))))))
 .nil) .nil)
 .nil))
 Ti)
noncomputable def Ps:Ss:=
 (.cons (.set [2] (.lst .nil))
 (.cons (.for_ [3] (.seq (.var 0)) Oa)
 Px))
theorem Zr9:Zv (ck0 Tl V8 FN GN BN) Ps (Zb V8)=true:=by decide+kernel
noncomputable abbrev Sc:Stmt:=top 29
noncomputable def Qo:List Str:=["_law_script","_law_head","_law_many","_law_raw"]
theorem Zl6:FnScope Qo ["_law_script"] (Z5 Sc):=⟨rfl,rfl,rfl,by decide+kernel,rfl,by decide+kernel,by decide+kernel⟩
noncomputable def Jw:Ss:=
 (.cons (.set [1] (.call 15 (.cons (.call 14 (.cons (.var 0) (.cons (.int 0) .nil))) (.cons (.int 77) .nil))))
 (.cons (.set [2] (.bf .max2 (.cons (.bin .add (.int 1) (.bin .mod (.bin .fdiv (.var 1) (.int 6)) (.int 12))) (.cons (.bf .min2 (.cons (.bin .sub (.bf .len (.cons (.var 0) .nil)) (.int 1)) (.cons (.int 40) .nil))) .nil))))
 (.cons (.set [3] (.comp ["_law_k","_law_script","_law_many","_law_head"] [none,(some 0),(some 2),(some 1)] [0] (.rng1 (.var 2)) .no (.call 18 (.cons (.call 14 (.cons (.var 1) (.cons (.bin .add (.int 1) (.var 0)) .nil))) (.cons (.var 0) (.cons (.var 2) (.cons (.bin .mod (.var 3) (.int 3)) .nil)))))))
 (.cons (.ret (.call 24 (.cons (.call 21 (.cons (.var 3) .nil)) (.cons (.call 22 (.cons (.bin .fdiv (.var 1) (.int 3)) .nil)) .nil))))
 .nil))))
theorem Y19:Zv (ck0 Qo Sc FN GN BN) Jw (Zb Sc)=true:=by decide+kernel
noncomputable abbrev Tt:Stmt:=top 30
noncomputable def Xo:List Str:=["_law_found","_law_due","_law_k"]
theorem Xe:FnScope Xo ["_law_found","_law_due"] (Z5 Tt):=⟨rfl,rfl,rfl,by decide+kernel,rfl,by decide+kernel,by decide+kernel⟩
noncomputable def Oo:Ss:=
 (.cons (.ret (.bl true))
 .nil)
noncomputable def Nh:Ss:=
 (.cons (.ite (.not (.call 26 (.cons (.ix (.var 0) (.var 2)) (.cons (.ix (.var 1) (.var 2)) .nil)))) (.cons (.ret (.bl false))
 .nil) .nil)
 .nil)
noncomputable def Ot:Ss:=
 (.cons (.for_ [2] (.rng1 (.bf .len (.cons (.var 1) .nil))) Nh)
 Oo)
noncomputable def R8:Ss:=
 (.cons (.ite (.cmp .ne (.bf .len (.cons (.var 0) .nil)) (.bf .len (.cons (.var 1) .nil))) (.cons (.ret (.bl false))
 .nil) .nil)
 Ot)
noncomputable def Sr:Ss:=
 (.cons (.ite (.bf .isinst (.cons (.var 1) (.cons (.ty .tuple) .nil))) (.cons (.ite (.not (.bf .isinst (.cons (.var 0) (.cons (.ty .tuple) .nil)))) (.cons (.ret (.bl false))
 .nil) .nil)
 .nil) (.cons (.ite (.not (.bf .isinst (.cons (.var 0) (.cons (.ty .list) .nil)))) (.cons (.ret (.bl false))
 .nil) .nil)
 .nil))
 R8)
noncomputable def Vr:Ss:=
 (.cons (.ite (.bf .isinst (.cons (.var 1) (.cons (.ty .str) .nil))) (.cons (.ret (.bop true (.cons (.bf .isinst (.cons (.var 0) (.cons (.ty .str) .nil))) (.cons (.cmp .eq (.var 0) (.var 1)) .nil))))
 .nil) .nil)
 Sr)
noncomputable def W7:Ss:=
 (.cons (.ite (.bf .isinst (.cons (.var 1) (.cons (.ty .int) .nil))) (.cons (.ret (.bop true (.cons (.bf .isinst (.cons (.var 0) (.cons (.ty .int) .nil))) (.cons (.not (.bf .isinst (.cons (.var 0) (.cons (.ty .bool) .nil)))) (.cons (.cmp .eq (.var 0) (.var 1)) .nil)))))
 .nil) .nil)
 Vr)
noncomputable def Xc:Ss:=
 (.cons (.ite (.bf .isinst (.cons (.var 1) (.cons (.ty .bool) .nil))) (.cons (.ret (.bop true (.cons (.bf .isinst (.cons (.var 0) (.cons (.ty .bool) .nil))) (.cons (.cmp .eq (.var 0) (.var 1)) .nil))))
 .nil) .nil)
 W7)
noncomputable def Wi:Ss:=
 (.cons (.ite (.cmp .is (.var 1) .non) (.cons (.ret (.cmp .is (.var 0) .non))
 .nil) .nil)
 Xc)
theorem Wj:Zv (ck0 Xo Tt FN GN BN) Wi (Zb Tt)=true:=by decide+kernel
noncomputable abbrev S6:Stmt:=top 31
noncomputable def Q7:List Str:=["_law_thing"]
theorem Zj1:FnScope Q7 ["_law_thing"] (Z5 S6):=⟨rfl,rfl,rfl,by decide+kernel,rfl,by decide+kernel,by decide+kernel⟩
noncomputable def Jt:Ss:=
 (.cons (.ret (.bop true (.cons (.bf .isinst (.cons (.var 0) (.cons (.ty .int) .nil))) (.cons (.not (.bf .isinst (.cons (.var 0) (.cons (.ty .bool) .nil)))) .nil))))
 .nil)
theorem Zx0:Zv (ck0 Q7 S6 FN GN BN) Jt (Zb S6)=true:=by decide+kernel
noncomputable abbrev W3:Stmt:=top 32
noncomputable def Vm:List Str:=["_law_thing"]
theorem Bh:FnScope Vm ["_law_thing"] (Z5 W3):=⟨rfl,rfl,rfl,by decide+kernel,rfl,by decide+kernel,by decide+kernel⟩
noncomputable def Ro:Ss:=
 (.cons (.ret (.bop true (.cons (.call 27 (.cons (.ix (.var 0) (.int 1)) .nil)) (.cons (.cmp .ge (.ix (.var 0) (.int 1)) (.int 0)) .nil))))
 .nil)
noncomputable def R6:Ss:=
 (.cons (.ite (.bop false (.cons (.not (.bf .isinst (.cons (.var 0) (.cons (.ty .tuple) .nil)))) (.cons (.cmp .ne (.bf .len (.cons (.var 0) .nil)) (.int 2)) (.cons (.not (.bf .isinst (.cons (.ix (.var 0) (.int 0)) (.cons (.ty .str) .nil)))) .nil)))) (.cons (.ret (.bl false))
 .nil) .nil)
 Ro)
theorem Z86:Zv (ck0 Vm W3 FN GN BN) R6 (Zb W3)=true:=by decide+kernel
noncomputable abbrev Yx:Stmt:=top 33
noncomputable def Xm:List Str:=["_law_found","_law_node_here","_law_places","_law_k"]
theorem Jc:FnScope Xm ["_law_found","_law_node_here"] (Z5 Yx):=⟨rfl,rfl,rfl,by decide+kernel,rfl,by decide+kernel,by decide+kernel⟩
noncomputable def Ta:Ss:=
 (.cons (.ret (.bl true))
 .nil)
noncomputable def Tc:Ss:=
 (.cons (.ite (.bop true (.cons (.cmp .isin (.var 3) (.var 2)) (.cons (.bf .isinst (.cons (.ix (.var 1) (.var 3)) (.cons (.ty .str) .nil))) .nil))) (.cons (.ite (.bop false (.cons (.not (.call 28 (.cons (.ix (.var 0) (.var 3)) .nil))) (.cons (.cmp .ne (.ix (.ix (.var 0) (.var 3)) (.int 0)) (.ix (.var 1) (.var 3))) .nil))) (.cons (.ret (.bl false))
 .nil) .nil)
 .nil) (.cons (.ite (.not (.call 26 (.cons (.ix (.var 0) (.var 3)) (.cons (.ix (.var 1) (.var 3)) .nil)))) (.cons (.ret (.bl false))
 .nil) .nil)
 .nil))
 .nil)
noncomputable def Xx:Ss:=
 (.cons (.for_ [3] (.rng1 (.bf .len (.cons (.var 1) .nil))) Tc)
 Ta)
noncomputable def Y9:Ss:=
 (.cons (.ite (.cmp .eq (.ix (.var 1) (.int 0)) (.str "test")) (.cons (.set [2] (.lst (.cons (.int 1) (.cons (.int 3) .nil))))
 .nil) .nil)
 Xx)
noncomputable def Y8:Ss:=
 (.cons (.set [2] (.lst .nil))
 (.cons (.ite (.cmp .eq (.ix (.var 1) (.int 0)) (.str "sum")) (.cons (.set [2] (.lst (.cons (.int 1) (.cons (.int 2) (.cons (.int 4) .nil)))))
 .nil) .nil)
 Y9))
noncomputable def Vf:Ss:=
 (.cons (.ite (.bop false (.cons (.not (.bf .isinst (.cons (.var 0) (.cons (.ty .tuple) .nil)))) (.cons (.cmp .ne (.bf .len (.cons (.var 0) .nil)) (.bf .len (.cons (.var 1) .nil))) .nil))) (.cons (.ret (.bl false))
 .nil) .nil)
 Y8)
theorem Fp:Zv (ck0 Xm Yx FN GN BN) Vf (Zb Yx)=true:=by decide+kernel
noncomputable abbrev Xz:Stmt:=top 34
noncomputable def Vk:List Str:=["_law_graph_here","_law_rows","_law_k","_law_goal"]
theorem Ci:FnScope Vk ["_law_graph_here"] (Z5 Xz):=⟨rfl,rfl,rfl,by decide+kernel,rfl,by decide+kernel,by decide+kernel⟩
noncomputable def Rm:Ss:=
 (.cons (.ret (.var 1))
 .nil)
noncomputable def Q5:Ss:=
 (.cons (.ite (.cmp .notin (.var 2) (.ix (.var 1) (.var 3))) (.cons (.expr (.mt .append (.ix (.var 1) (.var 3)) (.cons (.var 2) .nil)))
 .nil) .nil)
 .nil)
noncomputable def Rr:Ss:=
 (.cons (.for_ [3] (.seq (.call 19 (.cons (.ix (.var 0) (.var 2)) .nil))) Q5)
 .nil)
noncomputable def Sx:Ss:=
 (.cons (.set [1] (.comp ["_law_node_here"] [none] [0] (.seq (.var 0)) .no (.lst .nil)))
 (.cons (.expr (.mt .append (.ix (.var 1) (.int 0)) (.cons (.neg (.int 1)) .nil)))
 (.cons (.for_ [2] (.rng1 (.bf .len (.cons (.var 0) .nil))) Rr)
 Rm)))
theorem Zb1:Zv (ck0 Vk Xz FN GN BN) Sx (Zb Xz)=true:=by decide+kernel
noncomputable abbrev Wa:Stmt:=top 35
noncomputable def Vv:List Str:=["_law_joining_here","_law_sources_here","_law_k","_law_one"]
theorem Ba:FnScope Vv ["_law_joining_here","_law_sources_here"] (Z5 Wa):=⟨rfl,rfl,rfl,by decide+kernel,rfl,by decide+kernel,by decide+kernel⟩
noncomputable def Q1:Ss:=
 (.cons (.ret (.bl true))
 .nil)
noncomputable def Rw:Ss:=
 (.cons (.ite (.cmp .ne (.ix (.var 3) (.int 0)) (.ix (.var 1) (.var 2))) (.cons (.ret (.bl false))
 .nil) .nil)
 .nil)
noncomputable def Q4:Ss:=
 (.cons (.set [3] (.ix (.ix (.var 0) (.int 2)) (.var 2)))
 (.cons (.ite (.bop false (.cons (.not (.bf .isinst (.cons (.var 3) (.cons (.ty .tuple) .nil)))) (.cons (.cmp .ne (.bf .len (.cons (.var 3) .nil)) (.int 2)) (.cons (.not (.call 27 (.cons (.ix (.var 3) (.int 0)) .nil))) (.cons (.not (.call 27 (.cons (.ix (.var 3) (.int 1)) .nil))) .nil))))) (.cons (.ret (.bl false))
 .nil) .nil)
 Rw))
noncomputable def Q2:Ss:=
 (.cons (.for_ [2] (.rng1 (.bf .len (.cons (.var 1) .nil))) Q4)
 Q1)
noncomputable def Rq:Ss:=
 (.cons (.ite (.bop false (.cons (.not (.bf .isinst (.cons (.ix (.var 0) (.int 2)) (.cons (.ty .list) .nil)))) (.cons (.cmp .ne (.bf .len (.cons (.ix (.var 0) (.int 2)) .nil)) (.bf .len (.cons (.var 1) .nil))) (.cons (.cmp .lt (.bf .len (.cons (.var 1) .nil)) (.int 2)) .nil)))) (.cons (.ret (.bl false))
 .nil) .nil)
 Q2)
noncomputable def Rk:Ss:=
 (.cons (.ite (.bop false (.cons (.not (.bf .isinst (.cons (.var 0) (.cons (.ty .tuple) .nil)))) (.cons (.cmp .ne (.bf .len (.cons (.var 0) .nil)) (.int 3)) (.cons (.not (.call 28 (.cons (.slW (.var 0) .no (.yes (.int 2))) .nil))) .nil)))) (.cons (.ret (.bl false))
 .nil) .nil)
 Rq)
theorem Z74:Zv (ck0 Vv Wa FN GN BN) Rk (Zb Wa)=true:=by decide+kernel
noncomputable abbrev Si:Stmt:=top 36
noncomputable def Q9:List Str:=["_law_entry_here","_law_node_here","_law_sources_here","_law_names","_law_joining_here"]
theorem Ze7:FnScope Q9 ["_law_entry_here","_law_node_here","_law_sources_here"] (Z5 Si):=⟨rfl,rfl,rfl,by decide+kernel,rfl,by decide+kernel,by decide+kernel⟩
noncomputable def Nw:Ss:=
 (.cons (.ret (.bop true (.cons (.cmp .eq (.var 3) (.setf true (.var 3))) (.cons (.call 29 (.cons (.ix (.var 0) (.int 1)) (.cons (.var 1) .nil))) .nil))))
 .nil)
noncomputable def Nc:Ss:=
 (.cons (.expr (.mt .append (.var 3) (.cons (.ix (.var 4) (.int 0)) .nil)))
 .nil)
noncomputable def N9:Ss:=
 (.cons (.ite (.not (.call 31 (.cons (.var 4) (.cons (.var 2) .nil)))) (.cons (.ret (.bl false))
 .nil) .nil)
 Nc)
noncomputable def N3:Ss:=
 (.cons (.set [3] (.lst .nil))
 (.cons (.for_ [4] (.seq (.ix (.var 0) (.int 0))) N9)
 Nw))
noncomputable def Jm:Ss:=
 (.cons (.ite (.bop false (.cons (.not (.bf .isinst (.cons (.var 0) (.cons (.ty .tuple) .nil)))) (.cons (.cmp .ne (.bf .len (.cons (.var 0) .nil)) (.int 2)) (.cons (.not (.bf .isinst (.cons (.ix (.var 0) (.int 0)) (.cons (.ty .list) .nil)))) .nil)))) (.cons (.ret (.bl false))
 .nil) .nil)
 N3)
theorem Zv5:Zv (ck0 Q9 Si FN GN BN) Jm (Zb Si)=true:=by decide+kernel
noncomputable abbrev S3:Stmt:=top 37
noncomputable def Qe:List Str:=["_law_found","_law_graph_here","_law_sources_here","_law_k"]
theorem Zf7:FnScope Qe ["_law_found","_law_graph_here"] (Z5 S3):=⟨rfl,rfl,rfl,by decide+kernel,rfl,by decide+kernel,by decide+kernel⟩
noncomputable def Om:Ss:=
 (.cons (.ret (.bl true))
 .nil)
noncomputable def Ow:Ss:=
 (.cons (.ite (.not (.call 32 (.cons (.ix (.var 0) (.var 3)) (.cons (.ix (.var 1) (.var 3)) (.cons (.ix (.var 2) (.var 3)) .nil))))) (.cons (.ret (.bl false))
 .nil) .nil)
 .nil)
noncomputable def Oq:Ss:=
 (.cons (.set [2] (.call 30 (.cons (.var 1) .nil)))
 (.cons (.for_ [3] (.rng1 (.bf .len (.cons (.var 1) .nil))) Ow)
 Om))
noncomputable def J0:Ss:=
 (.cons (.ite (.bop false (.cons (.not (.bf .isinst (.cons (.var 0) (.cons (.ty .list) .nil)))) (.cons (.cmp .ne (.bf .len (.cons (.var 0) .nil)) (.bf .len (.cons (.var 1) .nil))) .nil))) (.cons (.ret (.bl false))
 .nil) .nil)
 Oq)
theorem Zz1:Zv (ck0 Qe S3 FN GN BN) J0 (Zb S3)=true:=by decide+kernel
noncomputable abbrev Sb:Stmt:=top 38
noncomputable def Qj:List Str:=["_law_found","_law_some","_law_joinings","_law_node_here","_law_joining_here"]
theorem Zq1:FnScope Qj ["_law_found"] (Z5 Sb):=⟨rfl,rfl,rfl,by decide+kernel,rfl,by decide+kernel,by decide+kernel⟩
noncomputable def Ov:Ss:=
 (.cons (.ret (.var 1))
 .nil)
noncomputable def Os:Ss:=
 (.cons (.ite (.cmp .eq (.ix (.var 3) (.int 0)) (.str "sum")) (.cons (.expr (.mt .append (.var 1) (.cons (.ix (.var 3) (.int 1)) .nil)))
 .nil) .nil)
 .nil)
noncomputable def Ng:Ss:=
 (.cons (.expr (.mt .append (.var 1) (.cons (.slW (.var 4) .no (.yes (.int 2))) .nil)))
 .nil)
noncomputable def Nx:Ss:=
 (.cons (.for_ [4] (.seq (.var 2)) Ng)
 Os)
noncomputable def Gh:Ss:=
 (.cons (.set [1] (.lst .nil))
 (.cons (.for_ [2,3] (.seq (.var 0)) Nx)
 Ov))
theorem Zx3:Zv (ck0 Qj Sb FN GN BN) Gh (Zb Sb)=true:=by decide+kernel
noncomputable abbrev Pm:Stmt:=top 39
noncomputable def Jk:List Str:=["_law_found","_law_some","_law_joinings","_law_node_here","_law_name","_law_version_here","_law_rows","_law_first"]
theorem Zw7:FnScope Jk ["_law_found"] (Z5 Pm):=⟨rfl,rfl,rfl,by decide+kernel,rfl,by decide+kernel,by decide+kernel⟩
noncomputable def Fc:Ss:=
 (.cons (.ret (.var 1))
 .nil)
noncomputable def Pc:Ss:=
 (.cons (.set [7] (.bin .add (.int 1) (.bf .int1 (.cons (.cmp .eq (.ix (.var 3) (.int 0)) (.str "sum")) .nil))))
 (.cons (.set [1] (.bin .add (.var 1) (.comp ["_law_part"] [none] [0] (.seq (.sl (.var 3) (.yes (.var 7)) .no)) (.yes (.bf .isinst (.cons (.var 0) (.cons (.ty .tuple) .nil)))) (.var 0))))
 .nil))
noncomputable def Fh:Ss:=
 (.cons (.set [1] (.bin .add (.var 1) (.comp ["_law_source","_law_there","_law_name"] [none,none,(some 4)] [0,1] (.seq (.var 6)) .no (.tup (.cons (.var 2) (.cons (.var 1) .nil))))))
 .nil)
noncomputable def C0:Ss:=
 (.cons (.for_ [4,5,6] (.seq (.var 2)) Fh)
 Pc)
noncomputable def Bp:Ss:=
 (.cons (.set [1] (.lst .nil))
 (.cons (.for_ [2,3] (.seq (.var 0)) C0)
 Fc))
theorem Yg4:Zv (ck0 Jk Pm FN GN BN) Bp (Zb Pm)=true:=by decide+kernel
noncomputable abbrev Bg:Stmt:=top 40
noncomputable def Zw2:List Str:=["_law_script","_law_graph_here","_law_handed","_law_found","_law_some","_law_name","_law_version_here","_law_kept"]
theorem Yp9:FnScope Zw2 ["_law_script"] (Z5 Bg):=⟨rfl,rfl,rfl,by decide+kernel,rfl,by decide+kernel,by decide+kernel⟩
noncomputable def B9:Ss:=
 (.cons (.set [7] (.bf .list1 (.cons (.var 3) .nil)))
 (.cons (.expr (.mt .clear (.var 3) .nil))
 (.cons (.expr (.call 13 (.cons (.lst (.cons (.tup (.cons (.str "spin") .nil)) .nil)) .nil)))
 (.cons (.ret (.call 26 (.cons (.call 13 (.cons (.var 1) .nil)) (.cons (.var 7) .nil))))
 .nil))))
noncomputable def Zp6:Ss:=
 (.cons (.ite (.bop true (.cons (.cmp .ne (.var 6) (.int 0)) (.cons (.cmp .notin (.tup (.cons (.var 5) (.cons (.var 6) .nil))) (.var 4)) .nil))) (.cons (.ret (.bl false))
 .nil) .nil)
 .nil)
noncomputable def Ze1:Ss:=
 (.cons (.for_ [5,6] (.seq (.call 35 (.cons (.var 3) .nil))) Zp6)
 B9)
noncomputable def Zk6:Ss:=
 (.cons (.ite (.cmp .eq (.var 6) (.int 0)) (.cons (.ret (.bl false))
 .nil) .nil)
 .nil)
noncomputable def Zr1:Ss:=
 (.cons (.for_ [5,6] (.seq (.var 4)) Zk6)
 Ze1)
noncomputable def Zm0:Ss:=
 (.cons (.set [4] (.call 34 (.cons (.var 3) .nil)))
 (.cons (.ite (.cmp .ne (.setT (.var 4)) (.bf .len (.cons (.var 4) .nil))) (.cons (.ret (.bl false))
 .nil) .nil)
 Zr1))
noncomputable def Ye2:Ss:=
 (.cons (.set [1] (.call 25 (.cons (.var 0) .nil)))
 (.cons (.set [2] (.bf .list1 (.cons (.var 1) .nil)))
 (.cons (.set [3] (.call 13 (.cons (.var 2) .nil)))
 (.cons (.ite (.bop false (.cons (.not (.call 33 (.cons (.var 3) (.cons (.var 1) .nil)))) (.cons (.cmp .ne (.var 2) (.var 1)) .nil))) (.cons (.ret (.bl false))
 .nil) .nil)
 Zm0))))
theorem Yu1:Zv (ck0 Zw2 Bg FN GN BN) Ye2 (Zb Bg)=true:=by decide+kernel
structure DW(K:Af)(mg:Str→Option Value)(n:Str)(st:Stmt)(ps:List Str) where
 mk::
 a:Addr
 d:FuncData
 F:Fun K n n st a d
 g:mg n=some (.ref a)
 k:Hi K (.ref a)=true
 b:Od K d ps []
noncomputable def DW.of{K:Af}{h:Heap}{mg:Str→Option Value}{n:Str}{st:Stmt}{ps:List Str}{f:Addr}{oc kV dc pm cd ct:Value}{od an:Option Addr}{sl:Array (Option Value)}(X:K.In h)(G:h.Ns mainGlobals mg)(a:PySem.W.nsIn K mainGlobals n=some (some (.ref f)))
  (l:K.lookup f=some ⟨oc,od,.func (Kq n n (Tg st) (Zb st) (Z5 st) .none kV dc pm an cd ct),sl⟩) (c:Me K cd n=true) (k:Hi K (.ref f)=true) (b:∀kV dc pm an cd ct,Od K (Kq n n (Tg st) (Zb st) (Z5 st) .none kV dc pm an cd ct) ps []:=by exact fun _ _ _ _ _ _=> .all (by first | exact U.Zl3 fun _=>rfl | exact U.Y61 fun _ _=>rfl | exact U.Y60 fun _ _ _=>rfl | exact U.Yk6 fun _ _ _ _=>rfl)):DW K mg n st ps:=
 ⟨f,_,Ys7 (st:=st) l c k,PySem.W.mg_of X G a,k,b _ _ _ _ _ _⟩
set_option hygiene false
local macro_rules | `(tactic| walk_at "ev")=>do
 let ids:=("tss ts evar9 eint9 ebl9 enon9 estr9 ety9 eglb9 ebin9 eneg9 enot9 ecmp9 ebop9 eife9 elst9 etup9 edict09 elkeys9 edct9 eix9 esl9 ecall9 ebf9 eslW9 esetT9 esetf9 erev9 emt9 ecomp9 tes teo tit tcd tbop tt op_add_i op_add_s op_add_t op_add_l op_sub_i op_mul_i op_mul_l op_fdiv_i op_mod_i op_pow_i cm_lt_i cm_ge_i cm_eq cm_ne cm_in cm_notin cm_is_n cm_is_i cm_is_s cm_is_b cm_is_t cm_is_r cm_isnot_n cm_isnot_i cm_isnot_s cm_isnot_b cm_isnot_t cm_isnot_r eq_i eq_s eq_b eq_nn eq_is eq_si tru_b tru_i tru_n tru_t ix_t ix_g ix_s sl_s sl_t sl_l is_non is_bl is_int is_str is_tup tyNon tyBl tyInt tyStr tyTup tyLst tyDct bf_len_t bf_len_s bf_is bf_min bf_max bf_list bf_dict bf_int on_ref onTup_t set_t mt_ins_r mk_ins mt_append_r mt_get2_r mt_pop_r mt_clear_r mt_index_r mk_append mk_pop mk_clear mk_get2 mk_index tg_one tg_two it_r it_t it_g key_i key_s in_ss start0 List.map_cons List.map_nil List.length_cons List.length_nil List.cons_append List.nil_append List.append_nil List.replicate List.set_cons_zero List.set_cons_succ List.getElem?_cons_zero List.getElem?_cons_succ Nat.reduceAdd Nat.reduceSub Nat.sub_self Nat.zero_add decide_eq_true_eq ne_eq Int.reduceEq not_false_eq_true true_and Bool.not_eq_true' decide_eq_false_iff_not Bool.false_eq_true if_true if_false Bool.not_true Bool.not_false".splitOn " ").toArray.map fun s=>Lean.mkIdent s.toName
 `(tactic| first | (dsimp only[$[$ids:ident],*];try simp only[$[$ids:ident],*]) | simp only[$[$ids:ident],*])
theorem onTup_t{l:List D}{F:List D→Prop}:Y37 (.tup l) F=F l:=rfl
noncomputable def four:List Str:=["x","y","z1","z"]
def Kp(M M':Z2):Prop:=∃N,M'=M++N
theorem Kp.refl(M:Z2):Kp M M:=⟨[],(Dq M).symm⟩
theorem Kp.app{M M':Z2}(h:Kp M M')(N:Z2):Kp M (M'++N):=by obtain⟨L,rfl⟩:=h;exact⟨L++N,by rw[Dg]⟩
theorem Kp.trans{M M' M2:Z2}(h:Kp M M')(g:Kp M' M2):Kp M M2:=by obtain⟨L,rfl⟩:=h;obtain⟨L2,rfl⟩:=g;exact⟨L++L2,by rw[Dg]⟩
theorem Kp.new(M N:Z2):Kp M (M++N):=⟨N,rfl⟩
theorem Kp.L{M M':Z2}{a:Nat}{xs:List D}(h:Kp M M')(e:Z4 M a=some xs):Z4 M' a=some xs:=by obtain⟨L,rfl⟩:=h;exact Z6 e
theorem Kp.W{M M':Z2}{a:Nat}{xs:List D}(h:Kp M M')(e:Za M a=some xs):Za M' a=some xs:=by obtain⟨L,rfl⟩:=h;exact Z7 e
noncomputable def mixN(c k:Int):Int:=(c % 2147483647 * 48271+7919 * k * k+104729) % 2147483647
noncomputable def mix(c k:Int):Int:=mixN c k * mixN c k % 2147483629
theorem Yg2(c k:Int):0≤mixN c k:=Int.emod_nonneg _ (by decide)
theorem Y78(c k:Int):mixN c k<2147483647:=Int.emod_lt_of_pos _ (by decide)
theorem Y47(c k:Int):0≤mix c k:=Int.emod_nonneg _ (by decide)
theorem Y40(c k:Int):mix c k<2147483629:=Int.emod_lt_of_pos _ (by decide)
noncomputable def O8(ns:List Int)(k:Nat):Int:=ns.getD k 0
theorem qm{i j:Int}(h:0<j):qmod i j=i % j:=Zu9 h
theorem qd{i j:Int}(h:0<j):qdiv i j=i / j:=Zt5 h
theorem Zf0{ns:List Int}(h:∀i∈ns,Bits bigN i)(k:Nat):Bits bigN (O8 ns k):=by
 unfold O8
 rw[Aw]
 cases e:ns[k]? with
 | none=>exact(show Bits 1 0 by unfold Bits;omega).mono (by decide)
 | some v=>exact h v (Al e)
theorem Ym0{xs:List D}{i:Int}{d:D}(h0:0≤i)(h:xs[i.toNat]?=some d):atI xs i=some d:=by
 have:=Sy h
 rwa[Int.toNat_of_nonneg h0] at this
theorem Ye4{xs:List D}{i:Int}(h0:0≤i)(h:i<xs.length):∃d,atI xs i=some d∧d∈xs:=by
 have hl:i.toNat<xs.length:=by omega
 exact⟨xs[i.toNat],Ym0 h0 (Aa hl),Hv hl⟩
inductive Opd where
 | nm (x:Str) | no (i:Int)
noncomputable def Opd.d:Opd→D
 | .nm x=> .str x
 | .no i=> .int i
inductive Nd where
 | sum (x:Str) (a:Opd) (sg:Str) (b:Opd) (t:Nat) | test (a:Opd) (sg:Str) (b:Opd) (y n:Nat) | fin | spin
noncomputable def Nd.d:Nd→D
 | .sum x a sg b t=> .tup [.str "sum",.str x,a.d,.str sg,b.d,.int t]
 | .test a sg b y n=> .tup [.str "test",a.d,.str sg,b.d,.int y,.int n]
 | .fin=> .tup [.str "end"]
 | .spin=> .tup [.str "spin"]
noncomputable def Opd.ok:Opd→Bool
 | .nm x=>four.contains x
 | .no _=>true
noncomputable def Nd.ok:Nd→Bool
 | .sum x a sg b _=>four.contains x&&a.ok&&PyData.canLay0 (.str sg)&&b.ok
 | .test a sg b _ _=>a.ok&&PyData.canLay0 (.str sg)&&b.ok
 | .fin=>true
 | .spin=>true
noncomputable def Nd.gs:Nd→List Nat
 | .sum _ _ _ _ t=>[t]
 | .test _ _ _ y n=>[n,y]
 | .fin=>[]
 | .spin=>[]
noncomputable def Nd.to(f:Nat→Nat):Nd→Nd
 | .sum x a sg b t=> .sum x a sg b (f t)
 | .test a sg b y n=> .test a sg b (f y) (f n)
 | .fin=> .fin
 | .spin=> .spin
theorem Nd.gs_to(f:Nat→Nat)(d:Nd):(d.to f).gs=d.gs.map f:=by cases d<;>rfl
theorem Nd.ok_to(f:Nat→Nat)(d:Nd):(d.to f).ok=d.ok:=by cases d<;>rfl
theorem Nd.gs_two(d:Nd):d.gs.length≤2:=by cases d<;>simp[Nd.gs]
noncomputable def natD(l:List Nat):List D:=l.map fun(x:Nat)=>D.int (x:Int)
theorem Zn(l:List Nat):(natD l).length=l.length:=by unfold natD;simp
theorem Yd{l:List Nat}{k x:Nat}(h:l[k]?=some x):(natD l)[k]?=some (.int x):=by unfold natD;rw[Aj,h];rfl
theorem Zu1(l m:List Nat):natD (l++m)=natD l++natD m:=by unfold natD;rw[Aq]
theorem Ft(l:List Nat):(natD l).all Y6=true:=by
 rw[Hk]
 intro d h
 unfold natD at h
 obtain⟨x,_,rfl⟩:=Dc.mp h
 rfl
theorem Yg3(x:Nat)(l:List Nat):inD (.int x) (natD l)=decide (x∈l):=by
 unfold inD natD
 rw[List.any_map]
 induction l with
 | nil=>rfl
 | cons y r ih=>
  rw[Kk,ih]
  show(((y:Int)==(x:Int)) || decide (x∈r))=decide (x∈y::r)
  by_cases h:x=y
  ·subst h;simp
  ·have h':¬(y:Int)=(x:Int):=by omega
   simp[h,h']
theorem Yq9{M:Z2}{a x:Nat}{l:List Nat}{B:Bool→Prop}(h:Z4 M a=some (natD l))(q:B (decide (x∈l))):inQ M (.int x) (.ref a) B:=
 .inl ⟨_,h,rfl,Ft l,by rw[Yg3];exact q⟩
noncomputable def wy(gr:List Nd)(k:Nat):List Nat:=match gr[k]? with
 | some d=>d.gs
 | none=>[]
theorem Zq4{gr:List Nd}{k:Nat}{d:Nd}(h:gr[k]?=some d):wy gr k=d.gs:=by unfold wy;rw[h]
theorem Td{gr:List Nd}{k:Nat}{d:Nd}(h:gr[k]?=some d):(gr.map Nd.d)[k]?=some d.d:=by rw[Aj,h];rfl
def Zf3:DSp:=fun ds M Q _=>∃(a:Nat) (ns:List Int) (k:Nat),ds=[.ref a,.int k]∧Z4 M a=some (ns.map .int)∧Q (.int (O8 ns k)) M
def G1:DSp:=fun ds M Q _=>∃c k:Int,ds=[.int c,.int k]∧0≤k∧k≤1000∧Q (.int (mix c k)) M
def Cn:DSp:=fun ds M Q _=>∃c:Int,ds=[.int c]∧Bits (bigN+1) c∧∀v,Q (.int v) M
def Yf2:DSp:=fun ds M Q _=>∃(c m:Int) (k n:Nat),ds=[.int c,.int k,.int n,.int m]∧0≤c∧k<n∧n≤1000∧∀(t:Nat) M',t<n→Kp M M'→Q (.int t) M'
def Zg3:DSp:=fun ds M Q _=>∃(c m:Int) (k n:Nat),ds=[.int c,.int k,.int n,.int m]∧Bits bigN c∧k<n∧n≤1000∧∀(d:Nd) M',(∀t∈d.gs,t<n)→d.ok=true→Kp M M'→Q d.d M'
def O6:DSp:=fun ds M Q _=>∃d:Nd,ds=[d.d]∧Q (.ref M.length) (M++[.lst (natD d.gs)])
def Br:DSp:=fun ds M Q _=>∃(a:Nat) (raw:List Nd),ds=[.ref a]∧Z4 M a=some (raw.map Nd.d)∧0<raw.length∧raw.length≤1000∧(∀d∈raw,∀t∈d.gs,t<raw.length)∧
 ∀O M' r,GT.Ord (wy raw) raw.length O→Kp M M'→Za M' r=some (natD O)→M.length≤r→Q (.ref r) M'
def Z05:DSp:=fun ds M Q _=>∃(a:Nat) (raw:List Nd),ds=[.ref a]∧Z4 M a=some (raw.map Nd.d)∧0<raw.length∧raw.length≤1000∧(∀d∈raw,∀t∈d.gs,t<raw.length)∧(∀d∈raw,d.ok=true)∧
 ∀(gr:List Nd) M' r,GT.Num (wy gr) gr.length→gr.length≤raw.length→(∀d∈gr,d.ok=true)→Kp M M'→Za M' r=some (gr.map Nd.d)→M.length≤r→Q (.ref r) M'
section
variable{K:Af}
theorem Yc8{Γ G}:RR ⟨K,Γ,G⟩ B1 J1 Zf3:=by
 rintro ds M Q Z ⟨a,ns,k,rfl,hm,q⟩
 delta B1 Ei J1
 walk_at "ev"
 refine Zx hm ?_
 walk_at "ev"
 split
 ·rename_i h
  have hk:k<ns.length:=by simpa using h
  refine ix_l hm (by rw[Aj,Aa hk];rfl) ?_
  have e:O8 ns k=ns[k]:=by unfold O8;rw[Aw,Aa hk];rfl
  rw[e] at q
  exact q
 ·rename_i h
  have hk:ns.length≤k:=by simpa using h
  have e:O8 ns k=0:=by unfold O8;rw[Aw,Dn hk];rfl
  rw[e] at q
  exact q
theorem Zs9{Γ G}:RR ⟨K,Γ,G⟩ Jr Qh G1:=by
 rintro ds M Q Z ⟨c,k,rfl,h0,h1,q⟩
 delta Jr Qh
 walk_at "ev"
 rw[qm (by decide),qm (by decide),qm (by decide)]
 have m1:=Yg2 c k
 have m2:=Y78 c k
 exact⟨mulR (by decide) (by decide),mulL (by decide) (by decide),mulR (by omega) (by omega),mulL (by show -(2 ^ 64)<mixN c k;omega) (by show mixN c k<2 ^ 64;omega),q⟩
theorem Zv8{Γ G}:RR ⟨K,Γ,G⟩ Jd Qc Cn:=by
 rintro ds M Q Z ⟨c,rfl,hb,q⟩
 delta Jd Qc
 walk_at "ev"
 exact⟨⟨by decide,by decide,by decide⟩,Y36 hb (show Bits 300 ((982451653:Int) ^ 3) by unfold Bits;decide) (by decide),⟨by decide,by decide,by decide⟩,mulL (by decide) (by decide),by decide,⟨by decide,by decide,by decide⟩,q _⟩
theorem Yt4{Γ G}{M:Z2}{Q:DK}{c m:Int}{k n:Nat}{d:Option D}(h0:0≤c)(hk:k<n)(hn:n≤1000)(q:∀(t:Nat) M',t<n→Kp M M'→Q (.int t) M'):
  tss ⟨K,Γ,G⟩ noX Jg {nx:=fun _ M=>Q .non M,rt:=Q} [some (.int c),some (.int k),some (.int n),some (.int m),d] M:=by
 have qn:∀(i:Int) M',0≤i→i<n→Kp M M'→Q (.int i) M':=fun i M' a b k=>by
  have:=q i.toNat M' (by omega) k
  rwa[Int.toNat_of_nonneg a] at this
 have l1:tss ⟨K,Γ,G⟩ noX Jh {nx:=fun _ M=>Q .non M,rt:=Q} [some (.int c),some (.int k),some (.int n),some (.int m),d] M:=by
  delta Jh
  walk_at "ev"
  have hp:(0:Int)<n:=by omega
  rw[qd (by decide),qm hp]
  exact⟨X5 (by decide) (by decide),by omega,qn _ _ (Int.emod_nonneg _ (by omega)) (Int.emod_lt_of_pos _ hp) (Kp.refl M)⟩
 have l2:tss ⟨K,Γ,G⟩ noX J7 {nx:=fun _ M=>Q .non M,rt:=Q} [some (.int c),some (.int k),some (.int n),some (.int m),d] M:=by
  delta J7
  walk_at "ev"
  split
  ·rw[qm (show(0:Int)<4 by decide),qd (show(0:Int)<128 by decide)]
   have r1:=Int.emod_nonneg (c / 128) (show(4:Int)≠0 by decide)
   have r2:=Int.emod_lt_of_pos (c / 128) (show(0:Int)<4 by decide)
   refine⟨Z1 (by decide),X5 (by decide) (by decide),?_⟩
   obtain⟨d',e1,e2⟩:=Ye4 (xs:=[.int 1,.int 2,.int 4,.int 8]) r1 (by simpa using r2)
   refine Ye6 (Z8 M _ []) e1 ?_
   simp only[Ao,Ak,or_false] at e2
   have kk:=Kp.new M [.lst [.int 1,.int 2,.int 4,.int 8]]
   have fin:∀j:Int,0<j→opD .mod (.int k) (.int j) (M++[.lst [.int 1,.int 2,.int 4,.int 8]]) (fun x M1=>opD .sub (.int k) x M1 Q):=by
    intro j hj
    rw[op_mod_i,op_sub_i,qm hj]
    have a1:=Int.emod_nonneg (k:Int) (show j≠0 by omega)
    have a2:(k:Int) % j≤k:=by
     have:=Int.emod_add_mul_ediv (k:Int) j
     have h2:0≤j * ((k:Int) / j):=Int.mul_nonneg (by omega) (Int.ediv_nonneg (by omega) (by omega))
     omega
    exact⟨by omega,qn _ _ (by omega) (by omega) kk⟩
   rcases e2 with rfl | rfl | rfl | rfl<;>exact fin _ (by decide)
  ·exact l1
 delta Jg
 walk_at "ev"
 have r1:=Int.emod_nonneg (c / 128) (show(3:Int)≠0 by decide)
 have mn:∀x:Int,0≤x→0≤(if (n:Int) - 1<x then(n:Int) - 1 else x)∧(if (n:Int) - 1<x then(n:Int) - 1 else x)<n:=by
  intro x hx
  split<;>omega
 split
 ·refine⟨X5 (by decide) (by decide),?_⟩
  split
  ·rw[qm (show(0:Int)<3 by decide),qd (show(0:Int)<128 by decide)]
   refine⟨X5 (by decide) (by decide),?_⟩
   obtain⟨b1,b2⟩:=mn ((k:Int)+1+c / 128 % 3) (by omega)
   exact qn _ _ b1 b2 (Kp.refl M)
  ·exact l2
 ·exact l2
theorem Yr2{Γ G}:RR ⟨K,Γ,G⟩ Zj6 Z35 Yf2:=by
 rintro ds M Q Z ⟨c,m,k,n,rfl,h0,hk,hn,q⟩
 delta Zj6 Z35
 walk_at "ev"
 split
 ·have hp:(0:Int)< (n:Int) - k:=by omega
  rw[qd (by decide),qm hp]
  have a1:=Int.emod_nonneg (c / 32768) (show(n:Int) - k≠0 by omega)
  have a2:=Int.emod_lt_of_pos (c / 32768) hp
  refine⟨X5 (by decide) (by decide),by omega,?_⟩
  generalize c / 32768 % ((n:Int) - k)=u at a1 a2
  split
  ·have:=q ((k:Int)+1+u).toNat M (by omega) (Kp.refl M)
   rwa[Int.toNat_of_nonneg (by omega)] at this
  ·delta Z25
   walk_at "ev"
   rw[qm (by decide),qd (by decide)]
   have r1:=Int.emod_nonneg (c / 64) (show(2:Int)≠0 by decide)
   have r2:=Int.emod_lt_of_pos (c / 64) (show(0:Int)<2 by decide)
   refine⟨Z1 (by decide),X5 (by decide) (by decide),?_⟩
   obtain⟨d',e1,e2⟩:=Ye4 (xs:=[.int 0,.int k]) r1 (by simpa using r2)
   refine Ye6 (Z8 M _ []) e1 ?_
   simp only[Ao,Ak,or_false] at e2
   rcases e2 with rfl | rfl
   ·exact q 0 _ (by omega) (Kp.new M _)
   ·exact q k _ hk (Kp.new M _)
 ·exact Yt4 h0 hk hn q
end
section
variable{K:Af}
theorem Zv0{Γ G}:RR ⟨K,Γ,G⟩ G0 Ql O6:=by
 rintro ds M Q Z ⟨d,rfl,q⟩
 delta G0 Ql
 cases d with
 | sum x a sg b t=>
  simp only[Nd.d]
  walk_at "ev"
  refine⟨_,rfl,?_⟩
  walk_at "ev"
  exact⟨_,rfl,Z1 (by decide),q⟩
 | test a sg b y n=>
  simp only[Nd.d]
  walk_at "ev"
  refine⟨_,rfl,?_⟩
  walk_at "ev"
  rw[if_neg (by decide+kernel)]
  delta Vi
  walk_at "ev"
  refine⟨_,rfl,?_⟩
  walk_at "ev"
  exact⟨_,rfl,_,rfl,Z1 (by decide),q⟩
 | fin=>
  simp only[Nd.d]
  walk_at "ev"
  refine⟨_,rfl,?_⟩
  walk_at "ev"
  rw[if_neg (by decide+kernel)]
  delta Vi
  walk_at "ev"
  refine⟨_,rfl,?_⟩
  walk_at "ev"
  rw[if_neg (by decide+kernel)]
  delta R0
  walk_at "ev"
  exact⟨Z1 (by decide),q⟩
 | spin=>
  simp only[Nd.d]
  walk_at "ev"
  refine⟨_,rfl,?_⟩
  walk_at "ev"
  rw[if_neg (by decide+kernel)]
  delta Vi
  walk_at "ev"
  refine⟨_,rfl,?_⟩
  walk_at "ev"
  rw[if_neg (by decide+kernel)]
  delta R0
  walk_at "ev"
  exact⟨Z1 (by decide),q⟩
theorem pick{M:Z2}{a:Nat}{xs:List D}{i:Int}{F:D→Prop}(h:Z4 M a=some xs)(h0:0≤i)(h1:i<xs.length)(q:∀d∈xs,F d):ixD M (.ref a) (.int i) F:=by
 obtain⟨d,e1,e2⟩:=Ye4 h0 h1
 exact Ye6 h e1 (q d e2)
theorem X3{M:Z2}{a:Nat}{xs:List D}{i m:Int}{F:D→Prop}(h:Z4 M a=some xs)(h1:m=xs.length)(h2:0<m)(q:∀d∈xs,F d):ixD M (.ref a) (.int (qmod i m)) F:=by
 rw[qm h2]
 exact pick h (Int.emod_nonneg _ (by omega)) (by rw[←h1];exact Int.emod_lt_of_pos _ h2) q
theorem Zs0{M:Z2}{a:Nat}{x y:D}{i:Int}{F:D→Prop}(h:Z4 M a=some [x,y])(q1:F x)(q2:F y):ixD M (.ref a) (.int (qdiv (qmod i 4) 3)) F:=by
 rw[qm (by decide),qd (by decide)]
 have r1:=Int.emod_nonneg i (show(4:Int)≠0 by decide)
 have r2:=Int.emod_lt_of_pos i (show(0:Int)<4 by decide)
 refine pick h (by omega) (by simp only[Au,Io];omega) fun d hd=>?_
 simp only[Ao,Ak,or_false] at hd
 rcases hd with rfl | rfl
 ·exact q1
 ·exact q2
theorem Z66{M:Z2}{a:Nat}{x:Str}{v i:Int}{F:D→Prop}(h:Z4 M a=some [.str x,.int v])(hx:four.contains x=true)(q:∀o:Opd,o.ok=true→F o.d):ixD M (.ref a) (.int (qdiv (qmod i 4) 3)) F:=Zs0 h (q (.nm x) hx) (q (.no v) rfl)
theorem Y59{xs:List Str}{d:D}(h:d∈xs.map D.str)(ok:(xs.all fun x=>PyData.canLay0 (.str x))=true):∃x,d= .str x∧PyData.canLay0 (.str x)=true:=by
 obtain⟨x,hx,rfl⟩:=Dc.mp h
 rw[Hk] at ok
 exact⟨x,rfl,ok x hx⟩
theorem B7{d:D}(h:d∈four.map D.str):∃x,d= .str x∧four.contains x=true:=by
 obtain⟨x,hx,rfl⟩:=Dc.mp h
 exact⟨x,rfl,Du.mpr hx⟩
theorem Ya4{Γ G}(g2:Γ[15]?=some G1)(g3:Γ[16]?=some Cn)(g4:Γ[17]?=some Yf2):RR ⟨K,Γ,G⟩ Cu Gb Zg3:=by
 rintro ds M Q Z ⟨c,m,k,n,rfl,hb,hk,hn,q⟩
 delta Cu Gb
 walk_at "ev"
 simp only[g2]
 refine⟨c,k,rfl,by omega,by omega,?_⟩
 have m1:=Y47 c k
 have m2:=Y40 c k
 generalize mix c k=u at m1 m2
 have hbits:Bits (bigN+1) (c+u):=hb.add ((show Bits 31 u by unfold Bits;omega).mono (by decide))
 walk_at "ev"
 simp only[g3,g4]
 have near:∃t:Nat,t<n∧(if (n:Int) - 1< (k:Int)+1 then(n:Int) - 1 else(k:Int)+1)=t:=by
  split
  ·exact⟨n - 1,by omega,by omega⟩
  ·exact⟨k+1,by omega,by omega⟩
 obtain⟨nr,hnr,enr⟩:=near
 simp only[enr]
 have cd:∀(i j:Int),0<j→j<2 ^ 64→Zc7 i j:=fun i j a b=>X5 a b
 refine⟨Z1 (by decide),cd _ _ (by decide) (by decide),X3 (Z8 M _ []) rfl (by decide) fun d0 h0=>?_⟩
 obtain⟨x0,rfl,ok_x0⟩:=B7 h0
 refine⟨cd _ _ (by decide) (by decide),Z1 (by decide),cd _ _ (by decide) (by decide),cd _ _ (by decide) (by decide),?_⟩
 refine Z66 (Z8 _ _ []) ok_x0 fun o1 ok1=>?_
 refine⟨cd _ _ (by decide) (by decide),X3 (Z6 (Z8 M _ [])) rfl (by decide) fun d2 h2=>?_⟩
 obtain⟨x2,rfl,ok_x2⟩:=B7 h2
 refine⟨c+u,rfl,hbits,fun v=>⟨Z1 (by decide),cd _ _ (by decide) (by decide),cd _ _ (by decide) (by decide),Z66 (Z8 _ _ []) ok_x2 fun o2 ok2=>?_⟩⟩
 refine⟨u,m,k,n,rfl,m1,hk,hn,fun t M1 ht k1=>?_⟩
 have nmL:Z4 M1 M.length=some [.str "x",.str "y",.str "z1",.str "z"]:=k1.L (Z6 (Z6 (Z8 M _ [])))
 have kM:Kp M M1:=Kp.trans (((Kp.new M _).app _).app _) k1
 walk_at "ev"
 split
 ·refine⟨Z1 (by decide),cd _ _ (by decide) (by decide),X3 (Z8 M1 _ []) rfl (by decide) fun d4 h4=>?_⟩
  obtain⟨sg,rfl,ok_sg⟩:=Y59 (xs:=["+","-","/","rest","&","^"]) h4 (by decide+kernel)
  refine⟨cd _ _ (by decide) (by decide),X3 (Z6 nmL) rfl (by decide) fun d5 h5=>?_⟩
  obtain⟨x5,rfl,ok_x5⟩:=B7 h5
  refine⟨Z1 (by decide),cd _ _ (by decide) (by decide),X3 (Z8 _ _ []) rfl (by decide) fun d6 h6=>?_⟩
  obtain⟨t6,ht6,rfl⟩:∃t6:Nat,t6<n∧d6= .int t6:=by
   simp only[Ao,Ak,or_false] at h6
   rcases h6 with rfl | rfl | rfl | rfl
   ·exact⟨nr,hnr,rfl⟩
   ·exact⟨nr,hnr,rfl⟩
   ·exact⟨nr,hnr,rfl⟩
   ·exact⟨t,ht,rfl⟩
  refine⟨Z1 (by decide),q (.sum x5 o1 sg o2 t6) _ ?_ (by simp only[Nd.ok,ok_x5,ok1,ok_sg,ok2,Bool.and_self]) ((kM.app _).app _)⟩
  intro y hy
  simp only[Nd.gs,Am] at hy
  omega
 ·delta C5
  walk_at "ev"
  split
  ·simp only[g4]
   have mq:=Int.emod_nonneg (u * 48271) (show(2147483629:Int)≠0 by decide)
   refine⟨mulR (by decide) (by decide),?_⟩
   rw[qm (show(0:Int)<2147483629 by decide)]
   refine⟨_,m,k,n,rfl,mq,hk,hn,fun t2 M2 ht2 k2=>?_⟩
   walk_at "ev"
   refine⟨Z1 (by decide),cd _ _ (by decide) (by decide),X3 (Z8 _ _ []) rfl (by decide) fun d6 h6=>?_⟩
   obtain⟨t6,ht6,rfl⟩:∃t6:Nat,t6<n∧d6= .int t6:=by
    simp only[Ao,Ak,or_false] at h6
    rcases h6 with rfl | rfl | rfl | rfl
    ·exact⟨nr,hnr,rfl⟩
    ·exact⟨nr,hnr,rfl⟩
    ·exact⟨nr,hnr,rfl⟩
    ·exact⟨t2,ht2,rfl⟩
   refine⟨Z1 (by decide),cd _ _ (by decide) (by decide),X3 (Z8 _ _ []) rfl (by decide) fun d7 h7=>?_⟩
   obtain⟨sg,rfl,ok_sg⟩:=Y59 (xs:=["<","="]) h7 (by decide+kernel)
   refine⟨Z1 (by decide),q (.test o1 sg o2 t t6) _ ?_ (by simp only[Nd.ok,ok1,ok_sg,ok2,Bool.and_self]) (((kM.trans k2).app _).app _)⟩
   intro y hy
   simp only[Nd.gs,Ao,Ak,or_false] at hy
   omega
  ·delta Fo
   walk_at "ev"
   refine⟨Z1 (by decide),Z1 (by decide),Z1 (by decide),X3 (Z8 _ _ []) rfl (by decide) fun d6 h6=>?_⟩
   simp only[Ao,Ak,or_false] at h6
   rcases h6 with rfl | rfl
   ·exact q .fin _ (fun y hy=>by cases hy) rfl (kM.app _)
   ·exact q .spin _ (fun y hy=>by cases hy) rfl (kM.app _)
end
section
variable{K:Af}
noncomputable def trD(T:List (Nat×Nat)):List D:=T.map fun p=>D.tup [.int (p.1:Nat),.int (p.2:Nat)]
theorem Zo6(T U:List (Nat×Nat)):trD (T++U)=trD T++trD U:=by unfold trD;rw[Aq]
theorem Z55(T:List (Nat×Nat))(h s:Nat):trD (T++[(h,s)])=trD T++[.tup [.int (h:Nat),.int (s:Nat)]]:=Zo6 _ _
theorem Xg(l:List Nat)(x:Nat):natD (l++[x])=natD l++[.int (x:Nat)]:=Zu1 _ _
theorem Zf5(T:List (Nat×Nat)):(trD T).length=T.length:=by unfold trD;simp
noncomputable def trP(T:List (Nat×Nat)):List PyData:=T.map fun p=>PyData.tuple [.int (p.1:Nat),.int (p.2:Nat)]
theorem Y70{M:Z2}:∀T:List (Nat×Nat),PDs M (trP T) (trD T)
 | []=>rfl
 | p::r=>⟨_,_,rfl,⟨_,rfl,⟨_,_,rfl,rfl,⟨_,_,rfl,rfl,rfl⟩⟩⟩,Y70 r⟩
theorem Zg0:∀T:List (Nat×Nat),PyData.canLayAll0 (trP T)=true
 | []=>rfl
 | p::r=>by
  show PyData.canLayAll0 (PyData.tuple [.int (p.1:Nat),.int (p.2:Nat)]::trP r)=true
  unfold PyData.canLayAll0
  rw[Zg0 r]
  rfl
theorem Zq7{M:Z2}{x y:Nat}{T:List (Nat×Nat)}{B:Bool→Prop}(h1:Z4 M x=some (trD T))(h2:Z4 M y=some [])(q:B T.isEmpty):eqD M (.ref x) (.ref y) B:=by
 refine .inl ⟨.list (trP T),.list [],⟨x,_,rfl,h1,Y70 T⟩,⟨y,_,rfl,h2,rfl⟩,Zg0 T,rfl,?_,?_⟩
 ·exact Nat.le_trans (Nat.min_le_right _ _) (by decide)
 ·cases T with
  | nil=>exact q
  | cons p r=>exact q
theorem Zb6{Γ G}(g6:Γ[19]?=some O6){M:Z2}{a h s:Nat}{raw:List Nd}(hr:Z4 M a=some (raw.map Nd.d))(h1:raw.length≤1000)(hg:∀d∈raw,∀t∈d.gs,t<raw.length){B F:List Nat}{T:List (Nat×Nat)}{Q:DK}{C bk:DEnv→Z2→Prop}{d4 d5 d6:Option D}
  (w:GT.Wk (wy raw) raw.length B (T++[(h,s)]) F) (N:Z2)
  (q:∀B2 T2 F2 N2 d4 d5 d6,GT.wkM raw.length B2 T2<GT.wkM raw.length B (T++[(h,s)])→GT.Wk (wy raw) raw.length B2 T2 F2→C [some (.ref a),some (.ref M.length),some (.ref (M.length+1)),some (.ref (M.length+2)),d4,d5,d6] (M++(.lst (natD B2):: .lst (trD T2):: .lst (natD F2)::N2))):
  tss ⟨K,Γ,G⟩ noX Rj {nx:=C,rt:=Q,bk:=bk,ct:=C} [some (.ref a),some (.ref M.length),some (.ref (M.length+1)),some (.ref (M.length+2)),d4,d5,d6] (M++(.lst (natD B):: .lst (trD (T++[(h,s)])):: .lst (natD F)::N)):=by
 have hB:h∈B:=(w.mem h).mpr (.inl ⟨s,by simp⟩)
 have hh:=w.bl h hB
 obtain⟨d,hd⟩:∃d,raw[h]?=some d:=⟨_,Aa hh⟩
 have ew:wy raw h=d.gs:=Zq4 hd
 have hst:=w.steps h s (by simp)
 rw[ew] at hst
 have two:=d.gs_two
 have small:=w.small
 rw[Ah] at small
 have room:=w.room
 have eT:trD (T++[(h,s)])=trD T++[.tup [.int h,.int s]]:=Zo6 _ _
 delta Rj
 walk_at "ev"
 refine⟨Zc (by rw[Yq];rfl),_,.tup [.int h,.int s],by rw[X9];rfl,by rw[eT];simp,?_⟩
 walk_at "ev"
 rw[Wh,eT,List.dropLast_concat]
 walk_at "ev"
 refine ix_l (Z6 hr) (Td hd) ?_
 simp only[g6]
 refine⟨d,rfl,?_⟩
 walk_at "ev"
 rw[Dg]
 simp only[Hl]
 have el:(M++ .lst (natD B):: .lst (trD T):: .lst (natD F)::N).length=M.length+(N.length+3):=by simp
 rw[el]
 have rG:∀b t f,Z4 (M++ .lst b:: .lst t:: .lst f::(N++[.lst (natD d.gs)])) (M.length+(N.length+3))=some (natD d.gs):=by
  intro b t f
  rw[Yq]
  exact Z8 N _ []
 have rB:∀b N',Z4 (M++ .lst b::N') M.length=some b:=fun b N'=>Z8 M _ _
 have rT:∀b t N',Z4 (M++ .lst b:: .lst t::N') (M.length+1)=some t:=fun b t N'=>by rw[Yq];rfl
 have rF:∀b t f N',Z4 (M++ .lst b:: .lst t:: .lst f::N') (M.length+2)=some f:=fun b t f N'=>by rw[Yq];rfl
 have wT:∀b t N',Za (M++ .lst b:: .lst t::N') (M.length+1)=some t:=fun b t N'=>by rw[X9];rfl
 have wF:∀b t f N',Za (M++ .lst b:: .lst t:: .lst f::N') (M.length+2)=some f:=fun b t f N'=>by rw[X9];rfl
 generalize M.length+(N.length+3)=gp at rG
 refine Zx (rG _ _ _) ?_
 walk_at "ev"
 rw[Zn]
 simp only[Au,Io] at small
 split
 ·rename_i e
  have es:s=d.gs.length:=by omega
  refine⟨Zc (rF _ _ _ _),_,wF _ _ _ _,by rw[Zn];exact Z3 (by omega),?_⟩
  rw[Wh]
  walk_at "ev"
  rw[←Xg]
  exact q _ _ _ _ _ _ _ (GT.Zd1 (by omega)) (w.close (by rw[ew];exact es))
 ·rename_i e
  have es:s<d.gs.length:=by omega
  obtain⟨y,hy⟩:∃y,d.gs[s]?=some y:=⟨_,Aa es⟩
  have hyn:y<raw.length:=hg d (Al hd) y (Al hy)
  refine⟨Zc (rT _ _ _),Z1 (by decide),_,wT _ _ _,by rw[Zf5];exact Z3 (by omega),?_⟩
  rw[Wh]
  walk_at "ev"
  refine ix_l (rG _ _ _) (Yd hy) ?_
  refine Yq9 (rB _ _) ?_
  have e1:trD T++[.tup [.int h,.int ((s:Int)+1)]]=trD (T++[(h,s+1)]):=(Z55 T h (s+1)).symm
  rw[e1]
  by_cases hyB:y∈B
  ·rw[decide_eq_true hyB,if_neg (by decide)]
   exact q _ _ _ _ _ _ _ (GT.Y13 (by omega)) (w.pass (by rw[ew];exact hy) hyB)
  ·rw[decide_eq_false hyB,if_pos rfl]
   have w2:=w.open (by rw[ew];exact hy) hyn hyB
   have rm:=w2.room
   rw[Ah,Dh] at rm
   refine⟨Zc (rB _ _),ix_l (rG _ _ _) (Yd hy) ⟨_,Z9 M _ _,by rw[Zn];exact Z3 (by omega),?_⟩⟩
   rw[Su]
   refine⟨Zc (rT _ _ _),ix_l (rG _ _ _) (Yd hy) ⟨Z1 (by decide),_,wT _ _ _,by rw[Zf5,Ah,Dh];exact Z3 (by omega),?_⟩⟩
   rw[Wh]
   walk_at "ev"
   have e2:trD (T++[(h,s+1)])++[.tup [.int y,.int 0]]=trD (T++[(h,s+1),(y,0)]):=by
    rw[show T++[(h,s+1),(y,0)]=(T++[(h,s+1)])++[(y,0)] by simp,Z55 (T++[(h,s+1)])]
    rfl
   rw[←Xg,e2]
   exact q _ _ _ _ _ _ _ (GT.Y25 (by omega) (by omega)) w2
theorem Zt1{Γ G}(g6:Γ[19]?=some O6):RR ⟨K,Γ,G⟩ Gc Qi Br:=by
 rintro ds M Q Z ⟨a,raw,rfl,hr,h0,h1,hg,q⟩
 delta Gc Qi
 walk_at "ev"
 refine⟨Z1 (by decide),Z1 (by decide),Z1 (by decide),Z1 (by decide),?_⟩
 simp only[Ah,Au,Io,Dg,Hl,Kg,Nat.zero_add,Nat.add_assoc,Nat.reduceAdd]
 refine⟨fun m σ M'=>∃B T F N d4 d5 d6,m=GT.wkM raw.length B T∧σ=[some (.ref a),some (.ref M.length),some (.ref (M.length+1)),some (.ref (M.length+2)),d4,d5,d6]∧M'=M++(.lst (natD B):: .lst (trD T):: .lst (natD F)::N)∧GT.Wk (wy raw) raw.length B T F,
  ⟨_,[0],[(0,0)],[],[],none,none,none,rfl,rfl,rfl,GT.Wk.begin _ h0⟩,?_⟩
 rintro m σ M' ⟨B,T,F,N,d4,d5,d6,rfl,rfl,rfl,w⟩
 walk_at "ev"
 refine⟨Z1 (by decide),?_⟩
 rw[Dg]
 simp only[Hl]
 have rT:∀N':Z2,Z4 (M++ .lst (natD B):: .lst (trD T):: .lst (natD F)::N') (M.length+1)=some (trD T):=fun N'=>by rw[Yq];rfl
 refine Zq7 (rT _) (by rw[show M++ .lst (natD B):: .lst (trD T):: .lst (natD F)::(N++[.lst []])=(M++ .lst (natD B):: .lst (trD T):: .lst (natD F)::N)++[.lst []] by simp];exact Z8 _ _ []) ?_
 cases hT:T.isEmpty with
 | true=>
  rw[if_neg (by decide)]
  have eT:T=[]:=List.isEmpty_iff.mp hT
  subst eT
  delta Nt
  walk_at "ev"
  refine⟨natD F,by rw[Yq];rfl,?_⟩
  refine q F.reverse _ _ w.ord (((Kp.new M _)).app _) ?_ ?_
  ·rw[show natD F.reverse=(natD F).reverse by unfold natD;rw[List.map_reverse]]
   exact Z9 _ _ []
  ·rw[Ah];omega
 | false=>
  rw[if_pos rfl]
  have hne:T≠[]:=by rintro rfl;cases hT
  obtain⟨T',⟨h,s⟩,rfl⟩:∃T' p,T=T'++[p]:=⟨T.dropLast,T.getLast hne,(List.dropLast_concat_getLast hne).symm⟩
  refine Zb6 g6 hr h1 hg w _ fun B2 T2 F2 N2 d4 d5 d6 lt w2=>⟨_,lt,B2,T2,F2,N2,d4,d5,d6,rfl,rfl,rfl,w2⟩
end
section
variable{K:Af}
theorem Ph{M:Z2}{P:Nat→Prop}{a x:Nat}{O:List Nat}(h:Z4 M a=some (natD O))(hx:x∈O)(q:P (O.idxOf x)):
  ∃xs k z,Z4 M a=some xs∧Y6 (.int (x:Nat))=true∧xs.all Y6=true∧xs[k]?=some z∧eqF z (.int (x:Nat))=true∧(∀(j:Nat) u,j<k→xs[j]?=some u→eqF u (.int (x:Nat))=false)∧P k:=by
 have hl:O.idxOf x<O.length:=Kt hx
 refine⟨natD O,O.idxOf x,.int (x:Nat),h,rfl,Ft O,Yd ?_,by simp[eqF],fun j u hj hu=>?_,q⟩
 ·rw[Aa hl,List.getElem_idxOf hl]
 ·have hjl:j<O.length:=by omega
  rw[Yd (Aa hjl)] at hu
  cases hu
  have hne:O[j]≠x:=by
   have:=List.not_of_lt_findIdx (p:=(·==x)) (xs:=O) (i:=j) hj
   simpa using this
  show(((O[j]:Nat):Int)==((x:Nat):Int))=false
  rw[beq_eq_false_iff_ne]
  omega
noncomputable def gra(raw:List Nd)(O:List Nat):List Nd:=O.map fun x=>(raw.getD x .fin).to fun y=>O.idxOf y
theorem Jv(raw:List Nd)(O:List Nat):(gra raw O).length=O.length:=by unfold gra;simp
theorem Yn7(raw:List Nd)(O:List Nat):wy (gra raw O)=GT.Zg1 (wy raw) O:=by
 funext k
 unfold wy gra GT.Zg1
 rw[Aj]
 cases e:O[k]? with
 | none=>rfl
 | some x=>
  simp only[Option.map_some]
  rw[Nd.gs_to,Aw]
  cases e2:raw[x]? with
  | none=>rfl
  | some d=>rfl
theorem Ye5{raw:List Nd}{O:List Nat}{n:Nat}(o:GT.Ord (wy raw) n O):GT.Num (wy (gra raw O)) (gra raw O).length:=by
 rw[Yn7,Jv];exact o.num
theorem Yq7{raw:List Nd}{O:List Nat}(h:∀d∈raw,d.ok=true):∀d∈gra raw O,d.ok=true:=by
 intro d hd
 unfold gra at hd
 obtain⟨x,_,rfl⟩:=Dc.mp hd
 rw[Nd.ok_to,Aw]
 cases e:raw[x]? with
 | none=>rfl
 | some d=>exact h d (Al e)
theorem Yc5{raw:List Nd}{O:List Nat}{i x:Nat}{d:Nd}(h:O[i]?=some x)(hd:raw[x]?=some d):(gra raw O)[i]?=some (d.to fun y=>O.idxOf y):=by
 unfold gra
 rw[Aj,h,Option.map_some,Aw,hd]
 rfl
theorem Zf{α:Type}{l:List α}{i:Nat}{x:α}(h:l[i]?=some x):l.take (i+1)=l.take i++[x]:=by
 obtain⟨h1,h2⟩:=Ac.mp h
 rw[←h2]
 exact List.take_succ_eq_append_getElem h1
theorem Y23{Γ G}(g7:Γ[20]?=some Br):RR ⟨K,Γ,G⟩ Ga Qn Z05:=by
 rintro ds M Q Z ⟨a,raw,rfl,hr,h0,h1,hg,hok,q⟩
 delta Ga Qn
 walk_at "ev"
 simp only[g7]
 refine⟨a,raw,rfl,hr,h0,h1,hg,fun O M1 ro ord kp hO hro=>?_⟩
 have hOL:=Z0 hO
 have aL:=kp.L hr
 have ol:=ord.le
 walk_at "ev"
 refine⟨Z1 (by decide),_,Z6 hOL,?_⟩
 refine Zu (fun i σ M'=>∃d3 d4,σ=[some (.ref a),some (.ref ro),some (.ref M1.length),d3,d4]∧M'=M1++[.lst (((gra raw O).take i).map Nd.d)]) ⟨none,none,rfl,rfl⟩ ?_ ?_ ?_
 ·rintro i σ M' _ ⟨d3,d4,rfl,rfl⟩
  exact Z6 hOL
 ·rintro i dx σ M' C hx ⟨d3,d4,rfl,rfl⟩ hC
  have hi:i<O.length:=by have:=(Ac.mp hx).1;rwa[Zn] at this
  rw[Yd (Aa hi)] at hx
  cases hx
  have hxi:O[i]?=some O[i]:=Aa hi
  generalize O[i]=x at hxi
  have hxn:x<raw.length:=ord.lt x (Al hxi)
  obtain⟨d,hd⟩:∃d,raw[x]?=some d:=⟨_,Aa hxn⟩
  have cl:∀y∈d.gs,y∈O:=fun y hy=>ord.cl x (Al hxi) y (by rw[Zq4 hd];exact hy)
  have fin:∀d3 d4,C [some (.ref a),some (.ref ro),some (.ref M1.length),d3,d4] (M1++[.lst (((gra raw O).take i).map Nd.d++[(d.to fun y=>O.idxOf y).d])]):=by
   intro d3 d4
   refine hC _ _ ⟨d3,d4,rfl,?_⟩
   rw[Zf (Yc5 hxi hd),Aq]
   rfl
  have len:(((gra raw O).take i).map Nd.d).length<sizeLine:=by
   rw[Ad,Ii,Jv]
   exact Z3 (by omega)
  delta Nm
  walk_at "ev"
  refine ix_l (Z6 aL) (Td hd) ?_
  have last:∀d3 v bk,v=(d.to fun y=>O.idxOf y).d→tss ⟨K,Γ,G⟩ noX Sn {nx:=C,rt:=Q,bk:=bk,ct:=C} [some (.ref a),some (.ref ro),some (.ref M1.length),d3,some v] (M1++[.lst (((gra raw O).take i).map Nd.d)]):=by
   rintro d3 v bk rfl
   delta Sn
   walk_at "ev"
   refine⟨Zc (Z8 _ _ []),_,Z9 _ _ [],len,?_⟩
   rw[Su]
   exact fin _ _
  cases d with
  | sum nm o1 sg o2 t=>
   simp only[Nd.d]
   walk_at "ev"
   refine⟨_,rfl,?_⟩
   walk_at "ev"
   rw[show U.cutD [.str "sum",.str nm,o1.d,.str sg,o2.d,.int t] none (some 5)=[.str "sum",.str nm,o1.d,.str sg,o2.d] from rfl]
   refine⟨by decide,Zc (Z6 hOL),_,rfl,Ph (Z6 hOL) (cl t (by simp[Nd.gs])) ?_⟩
   refine⟨Z1 (by decide),by simp,Z1 (by simp),?_⟩
   delta W9
   walk_at "ev"
   refine⟨_,rfl,?_⟩
   walk_at "ev"
   rw[if_neg (by decide+kernel)]
   exact last _ _ _ rfl
  | test o1 sg o2 y n=>
   simp only[Nd.d]
   walk_at "ev"
   refine⟨_,rfl,?_⟩
   walk_at "ev"
   rw[if_neg (by decide+kernel)]
   delta W9
   walk_at "ev"
   refine⟨_,rfl,?_⟩
   walk_at "ev"
   rw[show U.cutD [.str "test",o1.d,.str sg,o2.d,.int y,.int n] none (some 4)=[.str "test",o1.d,.str sg,o2.d] from rfl]
   refine⟨by decide,Zc (Z6 hOL),_,rfl,Ph (Z6 hOL) (cl y (by simp[Nd.gs])) ?_⟩
   refine⟨Zc (Z6 hOL),_,rfl,Ph (Z6 hOL) (cl n (by simp[Nd.gs])) ?_⟩
   refine⟨Z1 (by decide),by simp,Z1 (by simp),?_⟩
   exact last _ _ _ rfl
  | fin=>
   simp only[Nd.d]
   walk_at "ev"
   refine⟨_,rfl,?_⟩
   walk_at "ev"
   rw[if_neg (by decide+kernel)]
   delta W9
   walk_at "ev"
   refine⟨_,rfl,?_⟩
   walk_at "ev"
   rw[if_neg (by decide+kernel)]
   exact last _ _ _ rfl
  | spin=>
   simp only[Nd.d]
   walk_at "ev"
   refine⟨_,rfl,?_⟩
   walk_at "ev"
   rw[if_neg (by decide+kernel)]
   delta W9
   walk_at "ev"
   refine⟨_,rfl,?_⟩
   walk_at "ev"
   rw[if_neg (by decide+kernel)]
   exact last _ _ _ rfl
 ·rintro σ M' ⟨d3,d4,rfl,rfl⟩
  delta Nf
  walk_at "ev"
  refine q (gra raw O) _ _ (Ye5 ord) (by rw[Jv];exact ol) (Yq7 hok) (kp.app _) ?_ ?_
  ·rw[show(natD O).length=(gra raw O).length by rw[Zn,Jv],Dz]
   exact Z9 _ _ []
  ·obtain⟨L,rfl⟩:=kp;rw[Ah];omega
end
noncomputable def Y4(b n:Nat):List D:=(Dj n).map fun i=>D.ref (b+i)
theorem Tu(b n:Nat):(Y4 b n).length=n:=by unfold Y4;simp
theorem N7(b n:Nat):Y4 b (n+1)=Y4 b n++[.ref (b+n)]:=by unfold Y4;rw[Ie,Aq];rfl
theorem Sj{b n i:Nat}(h:i<n):(Y4 b n)[i]?=some (.ref (b+i)):=by unfold Y4;rw[Aj,List.getElem?_range h];rfl
noncomputable def Zg(n:Nat)(F:Nat→List Nat):Z2:=(Dj n).map fun t=>Cell.lst (natD (F t))
theorem Xb(n:Nat)(F:Nat→List Nat):(Zg n F).length=n:=by unfold Zg;simp
theorem Sq{n t:Nat}(F:Nat→List Nat)(h:t<n):(Zg n F)[t]?=some (.lst (natD (F t))):=by unfold Zg;rw[Aj,List.getElem?_range h];rfl
theorem E5{n:Nat}{F G:Nat→List Nat}(h:∀t,t<n→F t=G t):Zg n F=Zg n G:=by
 unfold Zg
 apply List.map_congr_left
 intro t ht
 rw[h t (He.mp ht)]
theorem Na{n g:Nat}(F:Nat→List Nat)(l:List Nat):(Zg n F).set g (.lst (natD l))=Zg n fun t=>if t=g then l else F t:=by
 apply List.ext_getElem?
 intro i
 by_cases hi:i<n
 ·rw[Sq _ hi]
  by_cases e:g=i
  ·subst e
   rw[Ha (by rw[Xb];exact hi),if_pos rfl]
  ·rw[Dx e,Sq _ hi,if_neg (fun z=>e z.symm)]
 ·rw[Dn (by rw[List.length_set,Xb];omega),Dn (by rw[Xb];omega)]
theorem Qu{M:Z2}{c:Cell}{n t:Nat}{F:Nat→List Nat}{N:Z2}(h:t<n):Za (M++c::(Zg n F++N)) (M.length+1+t)=some (natD (F t)):=by
 rw[show M.length+1+t=M.length+(t+1) by omega,X9]
 show Za (Zg n F++N) t=_
 unfold Za
 rw[Dv (by rw[Xb];exact h),Sq F h]
noncomputable def Yp(gr:List Nd)(i t:Nat):List Nat:=(Dj i).flatMap fun k=>Db ((wy gr k).count t) k
theorem Ox(gr:List Nd)(i t:Nat):Yp gr (i+1) t=Yp gr i t++Db ((wy gr i).count t) i:=by
 unfold Yp;rw[Ie,List.flatMap_append];simp
theorem Yr4(gr:List Nd)(k:Nat):(wy gr k).length≤2:=by
 unfold wy
 split
 ·exact Nd.gs_two _
 ·simp
theorem Pw(gr:List Nd)(t:Nat):∀i,(Yp gr i t).length≤2 * i
 | 0=>by simp[Yp]
 | i+1=>by
  rw[Ox,Ah,List.length_replicate]
  have h1:=Pw gr t i
  have h2:=Yr4 gr i
  have h3:(wy gr i).count t≤(wy gr i).length:=List.count_le_length
  omega
theorem Y24(l:List Nat)(j t i:Nat){g:Nat}(h:l[j]?=some g):Db ((l.take (j+1)).count t) i=Db ((l.take j).count t) i++(if t=g then [i] else []):=by
 rw[Zf h,List.count_append]
 by_cases e:t=g
 ·subst e
  rw[if_pos rfl,List.count_singleton_self,List.replicate_succ']
 ·rw[if_neg e,List.count_singleton,if_neg (by simpa using fun z:g=t=>e z.symm)]
  simp
theorem Qa{M:Z2}{c:Cell}{n:Nat}{F G:Nat→List Nat}(h:∀t,t<n→F t=G t):M++c::Zg n F=M++c::Zg n G:=by rw[E5 h]
def Zf2:DSp:=fun ds M Q _=>∃d:Nd,ds=[d.d]∧Q (.tup (natD d.gs.reverse)) M
def Se:DSp:=fun ds M Q _=>∃(a:Nat) (gr:List Nd),ds=[.ref a]∧Z4 M a=some (gr.map Nd.d)∧gr.length≤1000∧(∀k,k<gr.length→∀t∈wy gr k,t<gr.length)∧
 Q (.ref M.length) (M++ .lst (Y4 (M.length+1) gr.length)::Zg gr.length (Yp gr gr.length))
section
variable{K:Af}
theorem Ym4{Γ G}:RR ⟨K,Γ,G⟩ Zj7 Z65 Zf2:=by
 rintro ds M Q Z ⟨d,rfl,q⟩
 delta Zj7 Z65
 cases d with
 | sum x a sg b t=>
  simp only[Nd.d]
  walk_at "ev"
  refine⟨_,rfl,?_⟩
  walk_at "ev"
  exact⟨_,rfl,Z1 (by decide),q⟩
 | test a sg b y n=>
  simp only[Nd.d]
  walk_at "ev"
  refine⟨_,rfl,?_⟩
  walk_at "ev"
  rw[if_neg (by decide+kernel)]
  delta Qg
  walk_at "ev"
  refine⟨_,rfl,?_⟩
  walk_at "ev"
  exact⟨_,rfl,_,rfl,Z1 (by decide),q⟩
 | fin=>
  simp only[Nd.d]
  walk_at "ev"
  refine⟨_,rfl,?_⟩
  walk_at "ev"
  rw[if_neg (by decide+kernel)]
  delta Qg
  walk_at "ev"
  refine⟨_,rfl,?_⟩
  walk_at "ev"
  rw[if_neg (by decide+kernel)]
  delta Jb
  walk_at "ev"
  exact⟨Z1 (by decide),q⟩
 | spin=>
  simp only[Nd.d]
  walk_at "ev"
  refine⟨_,rfl,?_⟩
  walk_at "ev"
  rw[if_neg (by decide+kernel)]
  delta Qg
  walk_at "ev"
  refine⟨_,rfl,?_⟩
  walk_at "ev"
  rw[if_neg (by decide+kernel)]
  delta Jb
  walk_at "ev"
  exact⟨Z1 (by decide),q⟩
theorem Sf{xs:List D}{i:Nat}{d:D}(h:(Fj xs)[i]?=some d):∃x,xs[i]?=some x∧d= .tup [.int (i:Nat),x]:=by
 unfold Fj at h
 rw[List.getElem?_mapIdx,Di] at h
 obtain⟨x,h1,rfl⟩:=h
 exact⟨x,h1,rfl⟩
theorem Tx(xs:List D):(Fj xs).length=xs.length:=by unfold Fj;simp
theorem Zl8{Γ G}(g0:Γ[0]?=some Zf2):RR ⟨K,Γ,G⟩ Pe Tn Se:=by
 rintro ds M Q Z ⟨a,gr,rfl,hr,hn,hcl,q⟩
 delta Pe Tn
 walk_at "ev"
 refine⟨_,hr,?_⟩
 refine Yg (fun i σ M'=>∃d,σ=[d]∧M'=M++ .lst (Y4 (M.length+1) i)::Zg i (fun _=>[])) ⟨none,rfl,rfl⟩ ?_ ?_ ?_
 ·rintro i σ M' _ ⟨d,rfl,rfl⟩
  exact Z6 hr
 ·rintro i dx σ M' C hx ⟨d,rfl,rfl⟩ hC
  have hi:i<gr.length:=by have:=(Ac.mp hx).1;rwa[Ad] at this
  walk_at "ev"
  rw[Dg,Hl]
  refine⟨Z1 (by decide),_,Z9 _ _ _,by rw[Tu];exact Z3 (by omega),?_⟩
  rw[Su]
  refine hC _ _ ⟨_,rfl,?_⟩
  rw[N7]
  have e1:Zg (i+1) (fun _=>[])=Zg i (fun _=>[])++[.lst []]:=by unfold Zg;rw[Ie,Aq];rfl
  have e2:(M++ .lst (Y4 (M.length+1) i)::Zg i (fun _=>[])).length=M.length+1+i:=by simp[Xb];omega
  rw[e1,e2]
 ·rintro σ M' ⟨d,rfl,rfl⟩
  rw[Ad]
  refine⟨_,Z6 hr,?_⟩
  refine Zu (fun i σ M'=>∃d2 d3 d4,σ=[some (.ref a),some (.ref M.length),d2,d3,d4]∧M'=M++ .lst (Y4 (M.length+1) gr.length)::Zg gr.length (Yp gr i)) ⟨none,none,none,rfl,?_⟩ ?_ ?_ ?_
  ·exact Qa fun t _=>by simp[Yp]
  ·rintro i σ M' _ ⟨d2,d3,d4,rfl,rfl⟩
   exact⟨_,Z6 hr,rfl⟩
  ·rintro i dx σ M' C hx ⟨d2,d3,d4,rfl,rfl⟩ hC
   obtain⟨x,hx2,rfl⟩:=Sf hx
   have hi:i<gr.length:=by have:=(Ac.mp hx2).1;rwa[Ad] at this
   obtain⟨nd,hd⟩:∃nd,gr[i]?=some nd:=⟨_,Aa hi⟩
   rw[Td hd] at hx2
   cases hx2
   delta O3
   walk_at "ev"
   simp only[g0]
   refine⟨nd,rfl,?_⟩
   walk_at "ev"
   refine Zu (fun j σ M'=>∃d4,σ=[some (.ref a),some (.ref M.length),some (.int i),some nd.d,d4]∧M'=M++ .lst (Y4 (M.length+1) gr.length)::Zg gr.length (fun t=>Yp gr i t++Db ((nd.gs.reverse.take j).count t) i)) ⟨_,rfl,?_⟩ (fun _ _ _ _ _=>trivial) ?_ ?_
   ·exact Qa fun t _=>by simp
   ·rintro j dx σ M' C2 hx ⟨d4,rfl,rfl⟩ hC2
    have hj:j<nd.gs.reverse.length:=by have:=(Ac.mp hx).1;rwa[Zn] at this
    have hgj:nd.gs.reverse[j]?=some nd.gs.reverse[j]:=Aa hj
    generalize nd.gs.reverse[j]=g at hgj
    rw[Yd hgj] at hx
    cases hx
    have hgn:g<gr.length:=hcl i hi g (by rw[Zq4 hd];exact List.mem_reverse.mp (Al hgj))
    delta Qs
    walk_at "ev"
    refine ix_l (Z8 _ _ _) (Sj hgn) ?_
    walk_at "ev"
    have hW:=Qu (M:=M) (c:= .lst (Y4 (M.length+1) gr.length)) (F:=fun t=>Yp gr i t++Db ((nd.gs.reverse.take j).count t) i) (N:=[]) hgn
    rw[Dq] at hW
    refine⟨Zc (Z0 hW),_,hW,?_,?_⟩
    ·rw[Zn,Ah,List.length_replicate]
     have h1:=Pw gr g i
     have h2:(nd.gs.reverse.take j).count g≤(nd.gs.reverse.take j).length:=List.count_le_length
     have h3:(nd.gs.reverse.take j).length≤nd.gs.reverse.length:=by rw[Ii];omega
     have h4:=nd.gs_two
     rw[List.length_reverse] at h3
     exact Z3 (by omega)
    ·rw[show M.length+1+g=M.length+(g+1) by omega,Wh,Lu,←Xg,Na]
     refine hC2 _ _ ⟨_,rfl,Qa fun t _=>?_⟩
     rw[Y24 _ j t i hgj]
     by_cases e:t=g
     ·subst e;simp
     ·simp[e]
   ·rintro σ M' ⟨d4,rfl,rfl⟩
    refine hC _ _ ⟨_,_,_,rfl,Qa fun t _=>?_⟩
    rw[Zn,Dz,Ox,Zq4 hd,List.count_reverse]
  ·rintro σ M' ⟨d2,d3,d4,rfl,rfl⟩
   delta Pf
   walk_at "ev"
   rw[Tx,Ad]
   exact q
end
noncomputable def optD:Option Nat→D
 | none=> .non
 | some m=> .int (m:Nat)
noncomputable def tf(tl:List (Option Nat))(x:Nat):Option Nat:=(tl[x]?).join
theorem Y03{tl:List (Option Nat)}{x:Nat}(h:x<tl.length):(tl.map optD)[x]?=some (optD (tf tl x)):=by
 unfold tf
 rw[Aj,Aa h]
 rfl
theorem Yk4{tl:List (Option Nat)}{k m:Nat}(h:k<tl.length):tf (tl.set k (some m))=GT.set1 (tf tl) k m:=by
 funext x
 unfold tf
 by_cases e:x=k
 ·subst e;rw[Ha h,GT.Zz];rfl
 ·rw[Dx (Hw e),GT.Zr e]
noncomputable def told(t:Nat→Option Nat)(p:Nat):Bool:=p==0 || (t p).isSome
theorem S5{t:Nat→Option Nat}{p:Nat}:told t p=true↔p=0∨(t p).isSome=true:=by unfold told;rw[Bool.or_eq_true,beq_iff_eq]
noncomputable def Ra(t:Nat→Option Nat)(l:List Nat):List Nat:=l.filter (told t)
theorem Z70{t:Nat→Option Nat}{l:List Nat}{i p:Nat}(h:l[i]?=some p)(hp:told t p=true):Ra t (l.take (i+1))=Ra t (l.take i)++[p]:=by
 unfold Ra;rw[Zf h,List.filter_append,List.filter_cons_of_pos hp];rfl
theorem Y92{t:Nat→Option Nat}{l:List Nat}{i p:Nat}(h:l[i]?=some p)(hp:¬told t p=true):Ra t (l.take (i+1))=Ra t (l.take i):=by
 unfold Ra;rw[Zf h,List.filter_append,List.filter_cons_of_neg hp];simp
noncomputable def mu(n:Nat)(tl:List (Option Nat)):Nat:=(tl.map fun o=>o.getD (n+1)).sum
theorem Zg5:∀(l:List Nat) (k v:Nat) (h:k<l.length),(l.set k v).sum+l[k]=l.sum+v
 | x::r,0,v,_=>by simp;omega
 | x::r,k+1,v,h=>by
  have:=Zg5 r k v (by simpa using h)
  simp only[Lu,List.sum_cons,List.getElem_cons_succ]
  omega
theorem Yq1{n:Nat}{tl:List (Option Nat)}{k m:Nat}(h:k<tl.length)(hm:m≤n)(lt:∀u,tf tl k=some u→m<u):mu n (tl.set k (some m))<mu n tl:=by
 unfold mu
 rw[List.map_set]
 have hl:k< (tl.map fun o=>o.getD (n+1)).length:=by rw[Ad];exact h
 have:=Zg5 (tl.map fun o=>o.getD (n+1)) k ((some m).getD (n+1)) hl
 rw[List.getElem_map] at this
 have e:tf tl k=tl[k]:=by unfold tf;rw[Aa h];rfl
 rw[e] at lt
 cases h2:tl[k] with
 | none=>rw[h2] at this;simp only[Option.getD_none,Li] at this ⊢;omega
 | some u=>
  have h3:=lt u h2
  rw[h2] at this
  simp only[Li] at this ⊢
  omega
noncomputable def Yf0(ms:List Nat):List D:= .non::natD ms
def Xi(g:Nat→List Nat)(n:Nat)(ms:List Nat):Prop:=ms.length+1=n∧∀(k m:Nat),ms[k]?=some m→GT.Must g (k+1) m
def Z50:DSp:=fun ds M Q _=>∃(a one other n:Nat) (g:Nat→List Nat) (tl:List (Option Nat)),ds=[.ref a,.int one,.int other]∧Z4 M a=some (tl.map optD)∧tl.length=n∧GT.Tr g n (tf tl)∧told (tf tl) one=true∧told (tf tl) other=true∧
 ∀r,(∀c,GT.Ch (tf tl) r c↔(GT.Ch (tf tl) one c∧GT.Ch (tf tl) other c))→told (tf tl) r=true→Q (.int (r:Nat)) M
def Pp:DSp:=fun ds M Q _=>∃(a b n:Nat) (g:Nat→List Nat) (tl:List (Option Nat)) (l:List Nat),ds=[.ref a,.ref b]∧Z4 M a=some (tl.map optD)∧Z4 M b=some (natD l)∧tl.length=n∧0<n∧(∀p∈l,p<n)∧GT.Tr g n (tf tl)∧
 ∀o,((o=none∧Ra (tf tl) l=[])∨∃r,o=some r∧GT.Lca (tf tl) (Ra (tf tl) l) r)→Q (optD o) M
def Bj:DSp:=fun ds M Q _=>∃(a:Nat) (gr:List Nd),ds=[.ref a]∧Z4 M a=some (gr.map Nd.d)∧gr.length≤1000∧GT.Num (wy gr) gr.length∧
 ∀ms M' r,Xi (wy gr) gr.length ms→Kp M M'→Za M' r=some (Yf0 ms)→M.length≤r→Q (.ref r) M'
section
variable{K:Af}
theorem Ym8{Γ G}:RR ⟨K,Γ,G⟩ V1 Xs Z50:=by
 rintro ds M Q Z ⟨a,one,other,n,g,tl,rfl,hr,hl,T,h1,h2,q⟩
 have val:∀y,told (tf tl) y=true→y≠0→∃m,tf tl y=some m∧m<y∧told (tf tl) m=true∧y<tl.length:=by
  intro y hy h0
  obtain⟨m,e⟩:=Dy.mp ((S5.mp hy).resolve_left h0)
  exact⟨m,e,T.lt y m e,S5.mpr (T.cl y m e),by rw[hl];exact T.dn y (by rw[e];rfl)⟩
 delta V1 Xs
 walk_at "ev"
 refine⟨fun m σ M'=>∃x y:Nat,m=x+y∧σ=[some (.ref a),some (.int (x:Nat)),some (.int (y:Nat))]∧M'=M∧told (tf tl) x=true∧told (tf tl) y=true∧∀c,(GT.Ch (tf tl) x c∧GT.Ch (tf tl) y c)↔(GT.Ch (tf tl) one c∧GT.Ch (tf tl) other c),
  ⟨_,one,other,rfl,rfl,rfl,h1,h2,fun _=>Mc⟩,?_⟩
 rintro m σ M' ⟨x,y,rfl,rfl,rfl,hx,hy,hi⟩
 walk_at "ev"
 split
 ·rename_i hne
  delta Tb
  walk_at "ev"
  split
  ·rename_i hlt
   have hlt:x<y:=by omega
   obtain⟨u,e,lt,tu,yl⟩:=val y hy (by omega)
   refine ix_l hr (Y03 yl) ?_
   rw[e]
   refine⟨x+u,by omega,x,u,rfl,rfl,?_⟩
   refine⟨hx,tu,fun c=>(GT.C8 T.lt hlt e c).symm.trans (hi c)⟩
  ·rename_i hge
   have hlt:y<x:=by omega
   obtain⟨u,e,lt,tu,xl⟩:=val x hx (by omega)
   refine ix_l hr (Y03 xl) ?_
   rw[e]
   refine⟨u+y,by omega,u,y,rfl,rfl,?_⟩
   refine⟨tu,hy,fun c=>?_⟩
   rw[←hi c,And.comm,←GT.C8 T.lt hlt e c,And.comm]
 ·rename_i hne
  have e:x=y:=by omega
  subst e
  delta Vz
  walk_at "ev"
  exact q x (fun c=>by rw[←hi c,and_self]) hx
theorem Zl7{Γ G}(g2:Γ[2]?=some Z50):RR ⟨K,Γ,G⟩ X2 Yb Pp:=by
 rintro ds M Q Z ⟨a,b,n,g,tl,l,rfl,hr,hb,hl,hn,hp,T,q⟩
 delta X2 Yb
 walk_at "ev"
 refine⟨_,hb,?_⟩
 refine Zu (fun i σ M'=>∃o d3,σ=[some (.ref a),some (.ref b),some (optD o),d3]∧M'=M∧((o=none∧Ra (tf tl) (l.take i)=[])∨∃r,o=some r∧GT.Lca (tf tl) (Ra (tf tl) (l.take i)) r∧told (tf tl) r=true)) ⟨none,none,rfl,rfl,.inl ⟨rfl,rfl⟩⟩ ?_ ?_ ?_
 ·rintro i σ M' _ ⟨o,d3,rfl,rfl,_⟩
  exact hb
 ·rintro i dx σ M' C hx ⟨o,d3,rfl,rfl,ho⟩ hC
  have hi:i<l.length:=by have:=(Ac.mp hx).1;rwa[Zn] at this
  have hgi:l[i]?=some l[i]:=Aa hi
  generalize l[i]=p at hgi
  rw[Yd hgi] at hx
  cases hx
  have hpn:p<tl.length:=by rw[hl];exact hp p (Al hgi)
  delta Xl
  walk_at "ev"
  have yes:told (tf tl) p=true→(cmD M' .is (optD o) .non fun r=>if r=true then C [some (.ref a),some (.ref b),some (.int (p:Nat)),some (.int (p:Nat))] M' else
    Z50 [.ref a,optD o,.int (p:Nat)] M' (fun d M1=>C [some (.ref a),some (.ref b),some d,some (.int (p:Nat))] M1) noX):=by
   intro hpt
   rcases ho with⟨rfl,hc⟩ | ⟨r,rfl,hc,hr2⟩
   ·simp only[optD,cm_is_n,if_true]
    refine hC _ _ ⟨some p,_,rfl,rfl,.inr ⟨p,rfl,?_,hpt⟩⟩
    rw[Z70 hgi hpt,hc]
    exact GT.Lca.one _ p
   ·simp only[optD,cm_is_i,Bool.false_eq_true,if_false]
    refine⟨a,r,p,n,g,tl,rfl,hr,hl,T,hr2,hpt,fun u hu hut=>?_⟩
    refine hC _ _ ⟨some u,_,rfl,rfl,.inr ⟨u,rfl,?_,hut⟩⟩
    rw[Z70 hgi hpt]
    exact hc.more hu
  have no:¬told (tf tl) p=true→C [some (.ref a),some (.ref b),some (optD o),some (.int (p:Nat))] M':=by
   intro hpt
   refine hC _ _ ⟨o,_,rfl,rfl,?_⟩
   rw[Y92 hgi hpt]
   exact ho
  simp only[g2]
  by_cases h0:p=0
  ·subst h0
   rw[if_neg (by simp),if_pos (by simp)]
   exact yes rfl
  ·have h0':¬(p:Int)=0:=by omega
   rw[if_pos h0']
   refine ix_l hr (Y03 hpn) ?_
   cases e:tf tl p with
   | none=>
    simp only[optD,cm_isnot_n,Bool.false_eq_true,if_false]
    refine no fun z=>?_
    rcases S5.mp z with z | z
    ·exact h0 z
    ·rw[e] at z;cases z
   | some u=>
    simp only[optD,cm_isnot_i,if_true]
    exact yes (S5.mpr (.inr (by rw[e];rfl)))
 ·rintro σ M' ⟨o,d3,rfl,rfl,ho⟩
  rw[Zn,Dz] at ho
  delta Xq
  walk_at "ev"
  exact q o (ho.imp id fun zz130=>by obtain⟨r,h1,h2,_⟩:=zz130;exact⟨r,h1,h2⟩)
theorem Vq{gr:List Nd}{n k p:Nat}:p∈Yp gr n k↔p<n∧k∈wy gr p:=by
 unfold Yp
 rw[List.mem_flatMap]
 constructor
 ·rintro⟨q,hq,hp⟩
  obtain⟨h1,rfl⟩:=List.mem_replicate.mp hp
  exact⟨He.mp hq,List.count_pos_iff.mp (by omega)⟩
 ·rintro⟨h1,h2⟩
  refine⟨p,He.mpr h1,List.mem_replicate.mpr ⟨?_,rfl⟩⟩
  have:=List.count_pos_iff.mpr h2
  omega
theorem Zd0{gr:List Nd}{n k:Nat}{t:Nat→Option Nat}:GT.From (wy gr) n t k (Ra t (Yp gr n k)):=by
 intro p
 unfold Ra
 rw[Ku,Vq,S5,and_assoc]
def Fin(g:Nat→List Nat)(n:Nat)(tl:List (Option Nat)):Prop:=GT.Tr g n (tf tl)∧(∀x,0<x→x<n→(tf tl x).isSome=true)∧∀x m,tf tl x=some m→∃l,GT.From g n (tf tl) x l∧GT.Lca (tf tl) l m
theorem Zg6{g:Nat→List Nat}{n:Nat}{tl:List (Option Nat)}(N:GT.Num g n)(hl:tl.length=n)(h:Fin g n tl):∃ms,Xi g n ms∧tl.map optD=Yf0 ms:=by
 obtain⟨T,all,fix⟩:=h
 have must:=T.done N all fix
 cases tl with
 | nil=>have:=N.pos;simp at hl;omega
 | cons o r=>
  have ho:o=none:=by have:=T.z;exact this
  subst ho
  have hr:∀i (h:i<r.length),∃m,r[i]=some m:=by
   intro i h
   have:=all (i+1) (by omega) (by rw[←hl];simpa using h)
   obtain⟨m,e⟩:=Dy.mp this
   refine⟨m,?_⟩
   have e2:tf (none::r) (i+1)=r[i]:=by unfold tf;rw[Dr,Aa h];rfl
   rw[←e2];exact e
  refine⟨r.map fun o=>o.getD 0,⟨by rw[Ad];simpa using hl,fun k m hk=>?_⟩,?_⟩
  ·rw[Aj,Di] at hk
   obtain⟨o,h1,rfl⟩:=hk
   obtain⟨h2,h3⟩:=Ac.mp h1
   obtain⟨m,e⟩:=hr k h2
   rw[h3] at e
   subst e
   refine must (k+1) m ?_
   unfold tf
   rw[Dr,h1]
   rfl
  ·show D.non::r.map optD= .non::natD (r.map fun o=>o.getD 0)
   congr 1
   unfold natD
   rw[Ks]
   apply List.ext_getElem (by simp)
   intro i h1 h2
   rw[List.getElem_map,List.getElem_map]
   obtain⟨m,e⟩:=hr i (by simpa using h1)
   rw[e]
   rfl
theorem Y86{Γ G}(g1:Γ[1]?=some Se)(g3:Γ[3]?=some Pp):RR ⟨K,Γ,G⟩ Cy Gd Bj:=by
 rintro ds M Q Z ⟨a,gr,rfl,hr,hn,num,q⟩
 have hpos:=num.pos
 delta Cy Gd
 walk_at "ev"
 simp only[g1]
 refine⟨a,gr,rfl,hr,hn,num.cl,?_⟩
 have kp:Kp M (M++ .lst (Y4 (M.length+1) gr.length)::Zg gr.length (Yp gr gr.length)):=Kp.new _ _
 have hf:Z4 (M++ .lst (Y4 (M.length+1) gr.length)::Zg gr.length (Yp gr gr.length)) M.length=some (Y4 (M.length+1) gr.length):=Z8 _ _ _
 have hrow:∀k,k<gr.length→Z4 (M++ .lst (Y4 (M.length+1) gr.length)::Zg gr.length (Yp gr gr.length)) (M.length+1+k)=some (natD (Yp gr gr.length k)):=by
  intro k hk
  have:=Qu (M:=M) (c:= .lst (Y4 (M.length+1) gr.length)) (F:=Yp gr gr.length) (N:=[]) hk
  rw[Dq] at this
  exact Z0 this
 generalize M++ .lst (Y4 (M.length+1) gr.length)::Zg gr.length (Yp gr gr.length)=M1 at kp hf hrow
 have hr1:=kp.L hr
 walk_at "ev"
 refine⟨Z1 (by decide),Zx (Z6 hr1) ?_⟩
 rw[Ad,op_mul_l]
 refine⟨_,Z9 _ _ [],by omega,by omega,Z1 (by simp;omega),?_⟩
 rw[Dg,Ah,Int.toNat_natCast]
 simp only[Hl,Kg,Au,Io]
 have e0:(Db gr.length [D.non]).flatten=(Db gr.length (none:Option Nat)).map optD:=by
  rw[List.map_replicate]
  induction gr.length with
  | zero=>rfl
  | succ n ih=>rw[Hx,Kh,ih,Hx];rfl
 rw[e0]
 have rT:∀tl:List D,Z4 (M1++[.lst [.non],.lst tl]) (M1.length+(0+1))=some tl:=fun tl=>by rw[Yq];rfl
 have wT:∀tl:List D,Za (M1++[.lst [.non],.lst tl]) (M1.length+(0+1))=some tl:=fun tl=>by rw[X9];rfl
 refine⟨fun m σ M'=>∃(tl:List (Option Nat)) (ch:Bool) (d4 d5:Option D) (fs:Prop),m=2 * mu gr.length tl+(if ch=true then 1 else 0)∧σ=[some (.ref a),some (.ref M.length),some (.ref (M1.length+(0+1))),some (.bl ch),d4,d5]∧M'=M1++[.lst [.non],.lst (tl.map optD)]∧tl.length=gr.length∧
   (ch=true→GT.Turn (wy gr) gr.length fs (tf tl) 1)∧(ch=false→Fin (wy gr) gr.length tl),
  ⟨_,Db gr.length none,true,none,none,True,rfl,rfl,rfl,by simp,fun _=>?_,fun h=>by cases h⟩,?_⟩
 ·have:tf (Db gr.length none)=fun _=>none:=by
   funext x
   unfold tf
   rw[List.getElem?_replicate]
   split<;>rfl
  rw[this]
  exact GT.Turn.begin num
 rintro m σ M' ⟨tl,ch,d4,d5,fs,rfl,rfl,rfl,htl,hturn,hfin⟩
 walk_at "ev"
 cases ch with
 | false=>
  rw[if_neg (by decide)]
  obtain⟨ms,h1,h2⟩:=Zg6 num htl (hfin rfl)
  delta Cc
  walk_at "ev"
  rw[h2]
  refine q ms _ _ h1 (kp.app _) (wT _) ?_
  obtain⟨X,rfl⟩:=kp
  rw[Ah]
  omega
 | true=>
  have U0:=hturn rfl
  have z0:∀x m,x<0+1→tf tl x=some m→∃l,GT.From (wy gr) gr.length (tf tl) x l∧GT.Lca (tf tl) l m:=by
   intro x m hx hm
   have e:x=0:=by omega
   subst e
   rw[U0.tr.z] at hm
   cases hm
  rw[if_pos rfl]
  delta Gt
  walk_at "ev"
  refine Zx (Z6 hr1) ⟨⟨by decide,by decide,by omega,by rw[Ad];omega⟩,?_⟩
  rw[Ad]
  refine Vu (fun i σ M'=>∃(tl':List (Option Nat)) (ch:Bool) (d4 d5:Option D),σ=[some (.ref a),some (.ref M.length),some (.ref (M1.length+(0+1))),some (.bl ch),d4,d5]∧M'=M1++[.lst [.non],.lst (tl'.map optD)]∧tl'.length=gr.length∧
    GT.Turn (wy gr) gr.length fs (tf tl') (i+1)∧mu gr.length tl'≤mu gr.length tl∧(ch=true→mu gr.length tl'<mu gr.length tl)∧(ch=false→∀x m,x<i+1→tf tl' x=some m→∃l,GT.From (wy gr) gr.length (tf tl') x l∧GT.Lca (tf tl') l m))
   ⟨tl,false,_,_,rfl,rfl,htl,U0,Nat.le_refl _,fun h=>(by cases h),fun _=>z0⟩ ?_ ?_
  ·rintro i σ M' C hi ⟨tl',ch,d4,d5,rfl,rfl,htl',U,hmu,hch,hnc⟩ hC
   have hk:i+1<gr.length:=by omega
   rw[show(1:Int)+(i:Int)=((i+1:Nat):Int) by omega]
   delta Ff
   walk_at "ev"
   refine ix_l (Z6 hf) (Sj hk) ?_
   simp only[g3]
   refine⟨_,_,gr.length,wy gr,tl',Yp gr gr.length (i+1),rfl,rT _,Z6 (hrow _ hk),htl',hpos,fun p hp=>(Vq.mp hp).1,U.tr,fun o ho=>?_⟩
   have fr:=Zd0 (gr:=gr) (n:=gr.length) (k:=i+1) (t:=tf tl')
   obtain⟨p0,hp1,hp2⟩:=num.up (i+1) hk (by omega)
   have hp0:p0∈Ra (tf tl') (Yp gr gr.length (i+1)):=(fr p0).mpr ⟨by omega,hp2,U.from hk hp1⟩
   rcases ho with⟨_,hnil⟩ | ⟨r,rfl,lca⟩
   ·rw[hnil] at hp0;exact absurd hp0 Ak
   obtain⟨hlt,U2,hle⟩:=U.put num hk (by omega) fr lca
   have hkl:i+1<tl'.length:=by omega
   simp only[optD]
   try walk_at "ev"
   refine ix_l (rT _) (Y03 hkl) ?_
   have change:(∀u,tf tl' (i+1)=some u→r<u)→C [some (.ref a),some (.ref M.length),some (.ref (M1.length+(0+1))),some (.bl true),some (.int ((i+1:Nat):Int)),some (.int (r:Nat))] (M1++[.lst [.non],.lst ((tl'.set (i+1) (some r)).map optD)]):=by
    intro hu
    have:=Yq1 (n:=gr.length) (m:=r) hkl (by omega) hu
    refine hC _ _ ⟨tl'.set (i+1) (some r),true,_,_,rfl,rfl,by rw[List.length_set];exact htl',?_,by omega,fun _=>by omega,fun h=>by cases h⟩
    rw[Yk4 hkl]
    exact U2
   have put:(∀u,tf tl' (i+1)=some u→r<u)→((∃xs k j,D.int ((i+1:Nat):Int)= .int k∧Za (M1++[.lst [.non],.lst (tl'.map optD)]) (M1.length+(0+1))=some xs∧ixN xs.length k=some j∧
     C [some (.ref a),some (.ref M.length),some (.ref (M1.length+(0+1))),some (.bl true),some (.int ((i+1:Nat):Int)),some (.int (r:Nat))] ((M1++[.lst [.non],.lst (tl'.map optD)]:Z2).set (M1.length+(0+1)) (Cell.lst (xs.set j (.int (r:Nat))))))):=by
    intro hu
    refine⟨_,_,i+1,rfl,wT _,?_,?_⟩
    ·unfold ixN
     rw[if_pos (by omega),if_pos (by rw[Ad];omega),Int.toNat_natCast]
    ·rw[Wh]
     have:=change hu
     rw[List.map_set] at this
     exact this
   cases e:tf tl' (i+1) with
   | none=>
    simp only[optD]
    rw[show ∀(M:Z2) (i:Int) (B:Bool→Prop),eqD M (.int i) .non B=B false from fun _ _ _=>rfl]
    rw[if_pos rfl]
    exact .inl (put (by intro u hu;rw[e] at hu;cases hu))
   | some u=>
    simp only[optD]
    rw[eq_i]
    by_cases eu:r=u
    ·subst eu
     rw[if_neg (by simp)]
     refine hC _ _ ⟨tl',ch,_,_,rfl,rfl,htl',U.pass num hk (by omega) fr lca e,hmu,hch,fun hc x m hx hm=>?_⟩
     by_cases hxi:x<i+1
     ·exact hnc hc x m hxi hm
     ·have ex:x=i+1:=by omega
      subst ex
      rw[e] at hm
      cases hm
      exact⟨_,fr,lca⟩
    ·rw[if_pos (by simp;omega)]
     refine .inl (put fun v hv=>?_)
     have:=hle v hv
     rw[e] at hv
     cases hv
     omega
  ·rintro σ M' ⟨tl',ch,d4,d5,rfl,rfl,htl',U,hmu,hch,hnc⟩
   have en:((gr.length:Int) - 1).toNat+1=gr.length:=by omega
   rw[en] at U hnc
   refine⟨2 * mu gr.length tl'+(if ch=true then 1 else 0),?_,tl',ch,d4,d5,False,rfl,rfl,rfl,htl',fun _=>U.again,fun hc=>⟨U.tr,fun x h1 h2=>U.told x h1 h2 (.inl h2),fun x m hm=>hnc hc x m (U.tr.dn x (by rw[hm];rfl)) hm⟩⟩
   cases ch with
   | true=>have:=hch rfl;simp;omega
   | false=>simp;omega
end
theorem Zi{M:Z2}{r:Nat}{xs ys:List D}(h:Za M r=some xs):Za (M.set r (.lst ys)) r=some ys:=by
 have:=S7 h
 have hl:r<M.length:=by
  by_cases z:r<M.length
  ·exact z
  ·rw[Dn (by omega)] at this;cases this
 unfold Za
 rw[Ha hl]
theorem Ve{M:Z2}{r:Nat}{xs ys:List (Key×D)}(h:Zo M r=some xs):Zo (M.set r (.dct ys)) r=some ys:=by
 have hl:=G4 h
 unfold Zo
 rw[Ha hl]
theorem Ye{M:Z2}{r:Nat}{xs:List D}(h:Za M r=some xs):r<M.length:=by
 have:=S7 h
 by_cases z:r<M.length
 ·exact z
 ·rw[Dn (by omega)] at this;cases this
theorem Y0{M:Z2}{a b:Nat}{c:Cell}{xs:List D}(h:Za M a=some xs)(n:b≠a):Za (M.set b c) a=some xs:=by rw[Fb n];exact h
theorem Bz{M:Z2}{a b:Nat}{c:Cell}{xs:List D}(h:Z4 M a=some xs)(n:b≠a):Z4 (M.set b c) a=some xs:=by rw[Gn n];exact h
theorem Wq{M:Z2}{a b:Nat}{c:Cell}{xs:List (Key×D)}(h:Zo M a=some xs)(n:b≠a):Zo (M.set b c) a=some xs:=by rw[Ep n];exact h
theorem Kp.set{M M':Z2}{r:Nat}(h:Kp M M')(hr:M.length≤r)(c:Cell):Kp M (M'.set r c):=by
 obtain⟨L,rfl⟩:=h
 exact⟨L.set (r - M.length) c,by rw[List.set_append_right _ _ hr]⟩
theorem Kp.len{M M':Z2}(h:Kp M M'):M.length≤M'.length:=by obtain⟨L,rfl⟩:=h;rw[Ah];omega
theorem Kp.D{M M':Z2}{a:Nat}{xs:List (Key×D)}(h:Kp M M')(e:Zo M a=some xs):Zo M' a=some xs:=by obtain⟨L,rfl⟩:=h;exact Tm e
theorem Z82{M:Z2}{x y:Nat}{l:List Nat}{B:Bool→Prop}(h1:Z4 M x=some (natD l))(h2:Z4 M y=some [])(q:B l.isEmpty):eqD M (.ref x) (.ref y) B:=by
 have lay:∀l:List Nat,PyData.canLayAll0 (l.map fun(x:Nat)=>PyData.int (x:Int))=true:=by
  intro l
  induction l with
  | nil=>rfl
  | cons p r ih=>rw[As];unfold PyData.canLayAll0;rw[ih];rfl
 have pd:∀l:List Nat,PDs M (l.map fun(x:Nat)=>PyData.int (x:Int)) (natD l):=by
  intro l
  induction l with
  | nil=>rfl
  | cons p r ih=>exact⟨_,_,rfl,rfl,ih⟩
 refine .inl ⟨.list (l.map fun(x:Nat)=>PyData.int (x:Int)),.list [],⟨x,_,rfl,h1,pd l⟩,⟨y,_,rfl,h2,rfl⟩,lay l,rfl,?_,?_⟩
 ·exact Nat.le_trans (Nat.min_le_right _ _) (by decide)
 ·cases l with
  | nil=>exact q
  | cons p r=>exact q
def Nms(nm:List Str):Prop:=nm.length=4∧∀x∈nm,PyData.canLay0 (.str x)=true
def Opd.al(nm:List Str):Opd→Prop
 | .nm x=>x∈nm
 | .no _=>True
def Nd.al(nm:List Str):Nd→Prop
 | .sum x a sg b _=>x∈nm∧a.al nm∧b.al nm∧PyData.canLay0 (.str sg)=true
 | .test a sg b _ _=>a.al nm∧b.al nm∧PyData.canLay0 (.str sg)=true
 | .fin=>True
 | .spin=>True
def Zi2:DSp:=fun ds M Q _=>∃c:Int,ds=[.int c]∧∀nm M' r,Nms nm→Kp M M'→Za M' r=some (nm.map .str)→M.length≤r→Q (.ref r) M'
def Z32:DSp:=fun ds M Q _=>∃(o:Opd) (nr:Nat) (nm:List Str),ds=[o.d,.ref nr]∧Z4 M nr=some (nm.map .str)∧nm.length=4∧o.ok=true∧
 (∀x,o= .nm x→∀y∈nm,∀M',Kp M M'→Q (.str y) M')∧(∀i,o= .no i→Q (.int i) M)
def G6:DSp:=fun ds M Q _=>∃(a nr:Nat) (nm:List Str) (gr:List Nd),ds=[.ref a,.ref nr]∧Z4 M a=some (gr.map Nd.d)∧gr.length≤1000∧(∀d∈gr,d.ok=true)∧Z4 M nr=some (nm.map .str)∧nm.length=4∧
 ∀(gr':List Nd) M' r,gr'.map Nd.gs=gr.map Nd.gs→(∀d∈gr',d.al nm)→Kp M M'→Za M' r=some (gr'.map Nd.d)→M.length≤r→Q (.ref r) M'
theorem Yt6{g h:List Nd}(e:g.map Nd.gs=h.map Nd.gs):wy g=wy h:=by
 funext k
 have:(g.map Nd.gs)[k]?=(h.map Nd.gs)[k]?:=by rw[e]
 rw[Aj,Aj] at this
 unfold wy
 cases hg:g[k]? with
 | none=>cases hh:h[k]? with
  | none=>rfl
  | some y=>rw[hg,hh] at this;simp at this
 | some x=>cases hh:h[k]? with
  | none=>rw[hg,hh] at this;simp at this
  | some y=>rw[hg,hh] at this;simp at this;exact this
def Cf:DSp:=fun ds M Q _=>∃(a:Nat) (ns:List Int),ds=[.ref a]∧Z4 M a=some (ns.map .int)∧ns.length≤63∧(∀i∈ns,Bits bigN i)∧
 ∀(nm:List Str) (gr:List Nd) M' r,Nms nm→GT.Num (wy gr) gr.length→gr.length≤40→(∀d∈gr,d.al nm)→Kp M M'→Za M' r=some (gr.map Nd.d)→M.length≤r→Q (.ref r) M'
theorem Zq5{M:Z2}{P:Nat→Prop}{a:Nat}{x:Str}{O:List Str}(h:Z4 M a=some (O.map D.str))(hx:x∈O)(q:P (O.idxOf x)):
  ∃xs k z,Z4 M a=some xs∧Y6 (.str x)=true∧xs.all Y6=true∧xs[k]?=some z∧eqF z (.str x)=true∧(∀(j:Nat) u,j<k→xs[j]?=some u→eqF u (.str x)=false)∧P k:=by
 have hl:O.idxOf x<O.length:=Kt hx
 refine⟨O.map D.str,O.idxOf x,.str x,h,rfl,?_,?_,by simp[eqF],fun j u hj hu=>?_,q⟩
 ·rw[Hk]
  intro d hd
  obtain⟨y,_,rfl⟩:=Dc.mp hd
  rfl
 ·rw[Aj,Aa hl,List.getElem_idxOf hl];rfl
 ·have hjl:j<O.length:=by omega
  rw[Aj,Aa hjl] at hu
  cases hu
  have hne:O[j]≠x:=by
   have:=List.not_of_lt_findIdx (p:=(·==x)) (xs:=O) (i:=j) hj
   simpa using this
  show(O[j]==x)=false
  rw[beq_eq_false_iff_ne]
  exact hne
theorem Qv{M:Z2}{Q:DK}{nr:Nat}{nm:List Str}{o:Opd}(h:Z4 M nr=some (nm.map .str))(hl:nm.length=4)(ok:o.ok=true)(q:∀o' M',Opd.al nm o'→(∀x,o= .nm x→∃y,o'= .nm y∧y∈nm)→Kp M M'→Q o'.d M'):Z32 [o.d,.ref nr] M Q noX:=
 ⟨o,nr,nm,rfl,h,hl,ok,fun x e y hy M' k=>q (.nm y) M' hy (fun _ _=>⟨y,rfl,hy⟩) k,fun i e=>q (.no i) M trivial (fun x e2=>by rw[e] at e2;cases e2) (Kp.refl M)⟩
section
variable{K:Af}
theorem Y91{Γ G}:RR ⟨K,Γ,G⟩ Ce J6 Zi2:=by
 rintro ds M Q Z ⟨c,rfl,q⟩
 delta Ce J6
 walk_at "ev"
 refine⟨Z1 (by decide),Z1 (by decide),Z1 (by decide),Z1 (by decide),Z1 (by decide),Z1 (by decide),Z1 (by decide),_,_,Z7 (Z7 (Z7 (Z9 _ _ []))),Z9 _ _ [],?_⟩
 refine⟨Z1 (by simp),?_⟩
 refine X3 (Z8 _ _ []) rfl (by decide) fun d hd=>?_
 have nms:∀nm:List Str,(nm.length==4&&nm.all fun x=>PyData.canLay0 (.str x))=true→Nms nm:=by
  intro nm h
  rw[Bz9,beq_iff_eq,Hk] at h
  exact h
 simp only[Hl,Kg,Ao,Ak,or_false] at hd
 rcases hd with rfl | rfl | rfl | rfl | rfl
 ·exact q ["x","y","z1","z"] _ _ (nms _ (by decide+kernel)) ((((((((Kp.new M _).app _).app _).app _).app _).app _).app _).app _) (Z7 (Z7 (Z7 (Z7 (Z7 (Z7 (Z7 (Z9 _ _ [])))))))) (Nat.le_refl _)
 ·exact q ["sum","test","spin","way00"] _ _ (nms _ (by decide+kernel)) ((((((((Kp.new M _).app _).app _).app _).app _).app _).app _).app _) (Z7 (Z7 (Z7 (Z7 (Z7 (Z7 (Z9 _ _ []))))))) (by simp)
 ·exact q ["way0","y","way2","way"] _ _ (nms _ (by decide+kernel)) ((((((((Kp.new M _).app _).app _).app _).app _).app _).app _).app _) (Z7 (Z7 (Z7 (Z7 (Z7 (Z9 _ _ [])))))) (by simp)
 ·exact q ["way1","choice","w","way3"] _ _ (nms _ (by decide+kernel)) ((((((((Kp.new M _).app _).app _).app _).app _).app _).app _).app _) (Z7 (Z7 (Z7 (Z9 _ _ [])))) (by simp)
 ·exact q ["counter1","counter2","bounter1","counter"] _ _ (nms _ (by decide+kernel)) ((((((((Kp.new M _).app _).app _).app _).app _).app _).app _).app _) (Z7 (Z7 (Z9 _ _ []))) (by simp)
theorem Y87{Γ G}:RR ⟨K,Γ,G⟩ B5 Jn Z32:=by
 rintro ds M Q Z ⟨o,nr,nm,rfl,hr,hl,ok,q1,q2⟩
 delta B5 Jn
 cases o with
 | no i=>
  simp only[Opd.d]
  walk_at "ev"
  delta Eb
  walk_at "ev"
  exact q2 i rfl
 | nm x=>
  simp only[Opd.d]
  walk_at "ev"
  have hx:x∈four:=Du.mp ok
  have hk:four.idxOf x<4:=Kt hx
  refine⟨Z1 (by decide),Zc (Z8 _ _ []),Zq5 (O:=four) (Z8 _ _ []) hx ?_⟩
  have hk2:four.idxOf x<nm.length:=by omega
  refine ix_l (Z6 hr) (by rw[Aj,Aa hk2];rfl) ?_
  exact q1 x rfl _ (Hv hk2) _ (Kp.new _ _)
theorem Zo5{Γ G}(g:Γ[23]?=some Z32):RR ⟨K,Γ,G⟩ Ps Tl G6:=by
 rintro ds M Q Z ⟨a,nr,nm,gr,rfl,hr,hn,hok,hnm,hnl,q⟩
 delta Ps Tl
 walk_at "ev"
 refine⟨Z1 (by decide),_,Z6 hr,?_⟩
 have rl:M.length< (M++[Cell.lst []]).length:=by rw[Ah,Dh];omega
 refine Zu (fun i σ M'=>∃g' d3 d4 d5,σ=[some (.ref a),some (.ref nr),some (.ref M.length),d3,d4,d5]∧Kp M M'∧Za M' M.length=some (g'.map Nd.d)∧g'.map Nd.gs=(gr.take i).map Nd.gs∧(∀d∈g',d.al nm)∧g'.length=i) ⟨[],none,none,none,rfl,Kp.new _ _,Z9 _ _ [],rfl,by simp,rfl⟩ ?_ ?_ ?_
 ·rintro i σ M' _ ⟨g',d3,d4,d5,rfl,k,_⟩
  exact k.L hr
 ·rintro i dx σ M' C hx ⟨g',d3,d4,d5,rfl,k,hw,hg,hal,hl⟩ hC
  have hi:i<gr.length:=by have:=(Ac.mp hx).1;rwa[Ad] at this
  obtain⟨nd,hd⟩:∃nd,gr[i]?=some nd:=⟨_,Aa hi⟩
  rw[Td hd] at hx
  cases hx
  have ok:=hok nd (Al hd)
  have fin:∀(nd':Nd) (M2:Z2) (bk:DEnv→Z2→Prop) d4 d5,nd'.gs=nd.gs→nd'.al nm→Kp M' M2→tss ⟨K,Γ,G⟩ noX Ti {nx:=C,rt:=Q,bk:=bk,ct:=C} [some (.ref a),some (.ref nr),some (.ref M.length),some nd'.d,d4,d5] M2:=by
   intro nd' M2 bk d4 d5 e1 e2 k2
   have hw2:=k2.W hw
   delta Ti
   walk_at "ev"
   refine⟨Zc (Z0 hw2),_,hw2,by rw[Ad];exact Z3 (by omega),?_⟩
   refine hC _ _ ⟨g'++[nd'],_,_,_,rfl,(k.trans k2).set (Nat.le_refl _) _,by rw[Aq];exact Zi hw2,?_,fun d hd=>?_,by rw[Ah,hl];rfl⟩
   ·rw[Aq,hg,Zf hd,Aq,List.map_singleton,List.map_singleton,e1]
   ·rcases Ap.mp hd with z | z
    ·exact hal d z
    ·rw[Am] at z;subst z;exact e2
  delta Oa
  cases nd with
  | sum x p sg s t=>
   simp only[Nd.ok,Bz9] at ok
   simp only[Nd.d]
   walk_at "ev"
   refine⟨_,rfl,?_⟩
   try walk_at "ev"
   refine⟨_,rfl,?_⟩
   simp only[g]
   refine Qv (k.L hnm) hnl ok.1.1.2 fun p' M2 hp' _ k2=>?_
   refine⟨_,rfl,?_⟩
   refine Qv ((k.trans k2).L hnm) hnl ok.2 fun s' M3 hs' _ k3=>?_
   refine⟨_,rfl,?_⟩
   refine Qv (o:= .nm x) ((k.trans (k2.trans k3)).L hnm) hnl ok.1.1.1 fun x' M4 _ hx' k4=>?_
   obtain⟨y,rfl,hy⟩:=hx' x rfl
   refine⟨_,rfl,_,rfl,Z1 (by decide),?_⟩
   exact fin (.sum y p' sg s' t) M4 _ _ _ rfl ⟨hy,hp',hs',ok.1.2⟩ (k2.trans (k3.trans k4))
  | test p sg s y n=>
   simp only[Nd.ok,Bz9] at ok
   simp only[Nd.d]
   walk_at "ev"
   refine⟨_,rfl,?_⟩
   try walk_at "ev"
   rw[if_neg (by decide+kernel)]
   refine⟨_,rfl,?_⟩
   try walk_at "ev"
   refine⟨_,rfl,?_⟩
   simp only[g]
   refine Qv (k.L hnm) hnl ok.1.1 fun p' M2 hp' _ k2=>?_
   refine⟨_,rfl,_,rfl,?_⟩
   refine Qv ((k.trans k2).L hnm) hnl ok.2 fun s' M3 hs' _ k3=>?_
   refine⟨_,rfl,_,rfl,Z1 (by decide),?_⟩
   exact fin (.test p' sg s' y n) M3 _ _ _ rfl ⟨hp',hs',ok.1.2⟩ (k2.trans k3)
  | fin=>
   simp only[Nd.d]
   walk_at "ev"
   refine⟨_,rfl,?_⟩
   try walk_at "ev"
   rw[if_neg (by decide+kernel)]
   refine⟨_,rfl,?_⟩
   try walk_at "ev"
   rw[if_neg (by decide+kernel)]
   exact fin .fin M' _ _ _ rfl trivial (Kp.refl _)
  | spin=>
   simp only[Nd.d]
   walk_at "ev"
   refine⟨_,rfl,?_⟩
   try walk_at "ev"
   rw[if_neg (by decide+kernel)]
   refine⟨_,rfl,?_⟩
   try walk_at "ev"
   rw[if_neg (by decide+kernel)]
   exact fin .spin M' _ _ _ rfl trivial (Kp.refl _)
 ·rintro σ M' ⟨g',d3,d4,d5,rfl,k,hw,hg,hal,hl⟩
  rw[Ad,Dz] at hg
  delta Px
  walk_at "ev"
  exact q g' _ _ hg hal k hw (Nat.le_refl _)
theorem Zy4{Γ G}(g2:Γ[14]?=some Zf3)(g3:Γ[15]?=some G1)(g6:Γ[18]?=some Zg3)(g9:Γ[21]?=some Z05)(g10:Γ[22]?=some Zi2)(g11:Γ[24]?=some G6):
  RR ⟨K,Γ,G⟩ Jw Qo Cf:=by
 rintro ds M Q Z ⟨a,ns,rfl,hm,hl,hb,q⟩
 delta Jw Qo
 walk_at "ev"
 simp only[g2,g3]
 refine⟨a,ns,0,rfl,hm,?_⟩
 refine⟨_,77,rfl,by decide,by decide,?_⟩
 have m1:=Y47 (O8 ns 0) 77
 have m2:=Y40 (O8 ns 0) 77
 generalize mix (O8 ns 0) 77=u at m1 m2
 walk_at "ev"
 rw[qm (show(0:Int)<12 by decide),qd (show(0:Int)<6 by decide)]
 refine⟨X5 (by decide) (by decide),Zx hm ?_⟩
 have r1:=Int.emod_nonneg (u / 6) (show(12:Int)≠0 by decide)
 have r2:=Int.emod_lt_of_pos (u / 6) (show(0:Int)<12 by decide)
 rw[Ad]
 try walk_at "ev"
 obtain⟨many,h0,h40,em⟩:∃many:Nat,0<many∧many≤40∧(if (if (40:Int)< (ns.length:Int) - 1 then(40:Int) else(ns.length:Int) - 1) >1+u / 6 % 12 then(if (40:Int)< (ns.length:Int) - 1 then(40:Int) else(ns.length:Int) - 1) else 1+u / 6 % 12)=many:=by
  refine⟨(if (if (40:Int)< (ns.length:Int) - 1 then(40:Int) else(ns.length:Int) - 1) >1+u / 6 % 12 then(if (40:Int)< (ns.length:Int) - 1 then(40:Int) else(ns.length:Int) - 1) else 1+u / 6 % 12).toNat,?_,?_,?_⟩
  ·split<;>split at * <;>omega
  ·split<;>split at * <;>omega
  ·rw[Int.toNat_of_nonneg]
   split<;>split at * <;>omega
 simp only[em]
 refine⟨by omega,by omega,?_⟩
 simp only[capD,As,Hb,Lj,Ka,Hq,Dr,Lk]
 refine Yg (fun i σ M'=>∃d nds N,σ=[d,some (.ref a),some (.int many),some (.int u)]∧M'=M++ .lst (nds.map Nd.d)::N∧nds.length=i∧(∀x∈nds,∀t∈x.gs,t<many)∧∀x∈nds,x.ok=true) ⟨none,[],[],rfl,rfl,rfl,by simp,by simp⟩ (fun _ _ _ _ _=>trivial) ?_ ?_
 ·rintro i dx σ M' C hx ⟨d,nds,N,rfl,rfl,hlen,hgs,hok⟩ hC
  have hi:i<many:=by
   have:=(Ac.mp hx).1
   rw[Xp] at this
   omega
  rw[Cd (by omega)] at hx
  cases hx
  simp only[Int.zero_add]
  walk_at "ev"
  simp only[g2,g6]
  refine⟨a,ns,1+i,?_,Z6 hm,?_⟩
  ·congr 3
  try walk_at "ev"
  refine⟨O8 ns (1+i),_,i,many,rfl,Zf0 hb _,hi,by omega,fun nd M2 g1 g2 k2=>?_⟩
  obtain⟨L,rfl⟩:=k2
  rw[Dg,Hl]
  refine⟨_,Z9 _ _ _,by rw[Ad];exact Z3 (by omega),?_⟩
  rw[Su]
  refine hC _ _ ⟨_,nds++[nd],N++L,rfl,by rw[Aq];rfl,by rw[Ah,hlen];rfl,fun x hx=>?_,fun x hx=>?_⟩
  ·rcases Ap.mp hx with h | h
   ·exact hgs x h
   ·rw[Am] at h;subst h;exact g1
  ·rcases Ap.mp hx with h | h
   ·exact hok x h
   ·rw[Am] at h;subst h;exact g2
 ·rintro σ M' ⟨d,nds,N,rfl,rfl,hlen,hgs,hok⟩
  rw[Xp,Int.toNat_natCast] at hlen
  try walk_at "ev"
  simp only[g9,g10,g11]
  refine⟨_,nds,rfl,Z8 _ _ _,by omega,by omega,by rw[hlen];exact hgs,hok,fun gr M2 r n1 n2 n3 k2 hw hr=>?_⟩
  try walk_at "ev"
  refine⟨X5 (by decide) (by decide),_,rfl,fun nm M3 r3 hnm k3 hw3 hr3=>?_⟩
  refine⟨r,r3,nm,gr,rfl,k3.L (Z0 hw),by omega,n3,Z0 hw3,hnm.1,fun gr' M4 r4 e1 e2 k4 hw4 hr4=>?_⟩
  have el:gr'.length=gr.length:=by have:=congrArg List.length e1;rwa[Ad,Ad] at this
  have kk:=(Kp.new M _).trans (k2.trans (k3.trans k4))
  refine q nm gr' M4 r4 hnm (by rw[Yt6 e1,el];exact n1) (by omega) e2 kk hw4 ?_
  have:=((Kp.new M _).trans (k2.trans k3)).len
  omega
end
def Inj(rs:List Nat):Prop:=∀(j k x:Nat),rs[j]?=some x→rs[k]?=some x→j=k
theorem Inj.snoc{rs:List Nat}{x:Nat}(h:Inj rs)(hx:∀(k y:Nat),rs[k]?=some y→y<x):Inj (rs++[x]):=by
 intro j k y h1 h2
 rcases GT.Ze h1 with e1 | ⟨e1,f1⟩<;>rcases GT.Ze h2 with e2 | ⟨e2,f2⟩
 ·exact h j k y e1 e2
 ·have:=hx j y e1;omega
 ·have:=hx k y e2;omega
 ·omega
def Rws(M:Z2)(rs:List Nat)(n:Nat)(P:Nat→List D→Prop):Prop:=rs.length=n∧∀(k:Nat) x,rs[k]?=some x→∃l,Za M x=some l∧P k l
theorem Rws.keep{M M':Z2}{rs:List Nat}{n:Nat}{P:Nat→List D→Prop}(h:Rws M rs n P)(k:Kp M M'):Rws M' rs n P:=
 ⟨h.1,fun i x e=>by obtain⟨l,h1,h2⟩:=h.2 i x e;exact⟨l,k.W h1,h2⟩⟩
theorem Rws.at{M:Z2}{rs:List Nat}{n k:Nat}{P:Nat→List D→Prop}(h:Rws M rs n P)(hk:k<n):∃x l,(rs.map D.ref)[k]?=some (.ref x)∧rs[k]?=some x∧Za M x=some l∧P k l:=by
 obtain⟨x,hx⟩:∃x,rs[k]?=some x:=⟨_,Aa (by rw[h.1];exact hk)⟩
 obtain⟨l,h1,h2⟩:=h.2 k x hx
 exact⟨x,l,by rw[Aj,hx];rfl,hx,h1,h2⟩
theorem Rws.lt{M:Z2}{rs:List Nat}{n k x:Nat}{P:Nat→List D→Prop}(h:Rws M rs n P)(hx:rs[k]?=some x):x<M.length:=by
 obtain⟨l,h1,_⟩:=h.2 k x hx
 exact Ye h1
theorem Rws.new{M:Z2}{rs:List Nat}{n:Nat}{P:Nat→List D→Prop}{l:List D}(h:Rws M rs n P)(hl:P n l):Rws (M++[.lst l]) (rs++[M.length]) (n+1) P:=by
 refine⟨by rw[Ah,h.1];rfl,fun k x e=>?_⟩
 rcases GT.Ze e with e | ⟨e1,rfl⟩
 ·obtain⟨l,h1,h2⟩:=h.2 k x e
  exact⟨l,Z7 h1,h2⟩
 ·rw[h.1] at e1
  subst e1
  exact⟨l,Z9 _ _ [],hl⟩
theorem Rws.set{M:Z2}{rs:List Nat}{n r:Nat}{c:Cell}{P:Nat→List D→Prop}(h:Rws M rs n P)(hr:∀(k x:Nat),rs[k]?=some x→r≠x):Rws (M.set r c) rs n P:=
 ⟨h.1,fun k x e=>by obtain⟨l,h1,h2⟩:=h.2 k x e;exact⟨l,Y0 h1 (hr k x e),h2⟩⟩
def SrcN(gr:List Nd)(k:Nat)(z:Int):Prop:=∃p:Nat,z=p∧p<gr.length∧k∈wy gr p
def SrcZ(gr:List Nd)(k:Nat)(z:Int):Prop:=(z= -1∧k=0)∨SrcN gr k z
def SrcB(b:Nat)(P:Nat→Int→Prop)(k:Nat)(l:List D):Prop:=∃s:List Int,l=s.map .int∧s.length≤b∧s.Pairwise (· < ·)∧∀z,z∈s↔P k z
def Yo5(gr:List Nd):Nat→List D→Prop:=SrcB 41 (SrcZ gr)
theorem Nv{ms:List Int}{ks:List Nat}{n:Nat}(h1:ms.Nodup)(h2:∀i,i∈ms→i∈ks.map fun(x:Nat)=>(x:Int))(h3:∀k∈ks,k<n):ms.length≤n:=by
 have nn:∀i∈ms,∃k:Nat,k∈ks∧i=(k:Int):=by
  intro i hi
  obtain⟨k,hk,e⟩:=Dc.mp (h2 i hi)
  exact⟨k,hk,e.symm⟩
 have nd:(ms.map Int.toNat).Nodup:=by
  unfold List.Nodup
  rw[Lw]
  refine h1.imp_of_mem ?_
  intro a b ha hb hab
  obtain⟨k,_,rfl⟩:=nn a ha
  obtain⟨l,_,rfl⟩:=nn b hb
  omega
 have:=GT.Wl (n:=n) nd fun x hx=>by
  obtain⟨i,hi,rfl⟩:=Dc.mp hx
  obtain⟨k,hk,rfl⟩:=nn i hi
  have:=h3 k hk
  omega
 rwa[Ad] at this
def Qz:DSp:=fun ds M Q _=>∃(a:Nat) (gr:List Nd),ds=[.ref a]∧Z4 M a=some (gr.map Nd.d)∧gr.length≤40∧GT.Num (wy gr) gr.length∧
 ∀rs M' r,Rws M' rs gr.length (Yo5 gr)→(∀(k x:Nat),rs[k]?=some x→M.length≤x)→Kp M M'→Za M' r=some (rs.map .ref)→M.length≤r→Q (.ref r) M'
section
variable{K:Af}
theorem Zm1{Γ G}(g1:Γ[1]?=some Se):RR ⟨K,Γ,G⟩ Vb Xu Qz:=by
 rintro ds M Q Z ⟨a,gr,rfl,hr,hn,num,q⟩
 have hpos:=num.pos
 delta Vb Xu
 walk_at "ev"
 simp only[g1]
 refine⟨a,gr,rfl,hr,by omega,num.cl,?_⟩
 have kp:Kp M (M++ .lst (Y4 (M.length+1) gr.length)::Zg gr.length (Yp gr gr.length)):=Kp.new _ _
 have hf:Z4 (M++ .lst (Y4 (M.length+1) gr.length)::Zg gr.length (Yp gr gr.length)) M.length=some (Y4 (M.length+1) gr.length):=Z8 _ _ _
 have hrow:∀k,k<gr.length→Z4 (M++ .lst (Y4 (M.length+1) gr.length)::Zg gr.length (Yp gr gr.length)) (M.length+1+k)=some (natD (Yp gr gr.length k)):=by
  intro k hk
  have:=Qu (M:=M) (c:= .lst (Y4 (M.length+1) gr.length)) (F:=Yp gr gr.length) (N:=[]) hk
  rw[Dq] at this
  exact Z0 this
 generalize M++ .lst (Y4 (M.length+1) gr.length)::Zg gr.length (Yp gr gr.length)=M1 at kp hf hrow
 try walk_at "ev"
 refine⟨_,hf,?_⟩
 refine Yg (fun i σ M'=>∃d rs,σ=[d]∧Kp M1 M'∧Za M' M1.length=some (rs.map .ref)∧Rws M' rs i (SrcB 40 (SrcN gr))∧Inj rs∧∀(k x:Nat),rs[k]?=some x→M1.length<x) ⟨none,[],rfl,Kp.new _ _,Z9 _ _ [],⟨rfl,fun k x h=>by cases h⟩,(fun j k x h=>by cases h),(fun k x h=>by cases h)⟩ ?_ ?_ ?_
 ·rintro i σ M' _ ⟨d,rs,rfl,k,_⟩
  exact k.L hf
 ·rintro i dx σ M' C hx ⟨d,rs,rfl,k,hw,hR,inj,hgt⟩ hC
  have hi:i<gr.length:=by have:=(Ac.mp hx).1;rwa[Tu] at this
  rw[Sj hi] at hx
  cases hx
  walk_at "ev"
  have hlen:=Pw gr i gr.length
  refine .inl ⟨(Yp gr gr.length i).map fun(x:Nat)=>(x:Int),?_,by rw[Ad];omega,fun ms m1 m2=>(by have:=Nv m1 m2 fun k hk=>(Vq.mp hk).1;omega),fun ms p1 p2=>?_⟩
  ·rw[k.L (hrow i hi)]
   unfold natD
   rw[Ks]
   rfl
  ·have hsm:=Nv (p1.imp fun h z=>by omega) (fun i hi=>(p2 i).mp hi) fun k hk=>(Vq.mp hk).1
   refine⟨_,Z7 hw,by rw[Ad,hR.1];exact Z3 (by omega),?_⟩
   have hml:=Ye hw
   refine hC _ _ ⟨_,rs++[M'.length],rfl,(k.app _).set (Nat.le_refl _) _,?_,?_,inj.snoc fun k y e=>hR.lt e,fun k x e=>?_⟩
   ·rw[Aq]
    exact Zi (Z7 hw)
   ·refine(hR.new ⟨ms,rfl,by omega,p1,fun z=>⟨fun hz=>?_,fun hz=>?_⟩⟩).set fun k x e=>?_
    ·obtain⟨p,hp,rfl⟩:=Dc.mp ((p2 z).mp hz)
     obtain⟨h1,h2⟩:=Vq.mp hp
     exact⟨p,rfl,h1,h2⟩
    ·obtain⟨p,rfl,h1,h2⟩:=hz
     exact(p2 _).mpr (Dc.mpr ⟨p,Vq.mpr ⟨h1,h2⟩,rfl⟩)
    ·rcases GT.Ze e with e | ⟨_,rfl⟩
     ·have:=hgt k x e;omega
     ·omega
   ·rcases GT.Ze e with e | ⟨_,rfl⟩
    ·exact hgt k x e
    ·exact hml
 ·rintro σ M' ⟨d,rs,rfl,k,hw,hR,inj,hgt⟩
  rw[Tu] at hR
  try walk_at "ev"
  obtain⟨x,l,e1,e2,e3,s,rfl,hs1,hs3,hs2⟩:=hR.at (k:=0) hpos
  refine ix_l (k:=0) (Z0 hw) e1 ?_
  try walk_at "ev"
  refine⟨Zc (Z0 e3),_,e3,by rw[Ad];exact Z3 (by omega),?_⟩
  have hx:=hgt 0 x e2
  have hl:=kp.len
  refine q rs _ _ ⟨hR.1,fun k y e=>?_⟩ (fun k y e=>by have:=hgt k y e;omega) (kp.trans (k.set (by omega) _)) (Y0 hw (by omega)) (by omega)
  by_cases hk:k=0
  ·subst hk
   rw[e2] at e
   cases e
   refine⟨_,Zi e3,-1::s,rfl,by rw[Au];omega,.cons (fun z hz=>?_) hs3,fun z=>?_⟩
   ·obtain⟨p,rfl,_⟩:=(hs2 z).mp hz
    omega
   ·rw[Ao,hs2 z]
    exact⟨fun h=>h.imp (fun e=>⟨e,rfl⟩) id,fun h=>h.imp (fun e=>e.1) id⟩
  ·obtain⟨l,h1,s',rfl,h2,h4,h3⟩:=hR.2 k y e
   refine⟨_,Y0 h1 (fun z=>hk (inj k 0 y e (z ▸ e2))),s',rfl,by omega,h4,fun z=>(h3 z).trans ⟨.inr,fun h=>?_⟩⟩
   rcases h with⟨_,h⟩ | h
   ·exact absurd h hk
   ·exact h
end
noncomputable def lsF(gr:List Nd)(i k:Nat):List Int:=(if k=0 then [-1] else [])++((Dj i).filter fun p=>decide (k∈wy gr p)).map fun(x:Nat)=>(x:Int)
noncomputable def lsG(gr:List Nd)(i j k:Nat):List Int:=lsF gr i k++(if k∈(wy gr i).take j then [(i:Int)] else [])
theorem Y14(gr:List Nd)(i k:Nat):lsG gr i 0 k=lsF gr i k:=by
 unfold lsG
 rw[List.take_zero,if_neg Ak,Dq]
theorem Ya7(gr:List Nd)(i k:Nat):lsG gr i (wy gr i).length k=lsF gr (i+1) k:=by
 unfold lsG lsF
 rw[Dz,Ie,List.filter_append,Aq,Dg]
 congr 2
 by_cases h:k∈wy gr i
 ·rw[if_pos h];simp[h]
 ·rw[if_neg h];simp[h]
theorem Ze0{gr:List Nd}{i k:Nat}{z:Int}:z∈lsF gr i k↔(z= -1∧k=0)∨∃p:Nat,z=p∧p<i∧k∈wy gr p:=by
 unfold lsF
 rw[Ap,Dc]
 constructor
 ·rintro(h | ⟨p,h,rfl⟩)
  ·split at h
   ·rename_i k0
    exact .inl ⟨Am.mp h,k0⟩
   ·exact(Ak h).elim
  ·rw[Ku,He,decide_eq_true_eq] at h
   exact .inr ⟨p,rfl,h⟩
 ·rintro(⟨rfl,k0⟩ | ⟨p,rfl,h⟩)
  ·rw[if_pos k0];exact .inl (by simp)
  ·exact .inr ⟨p,by rw[Ku,He,decide_eq_true_eq];exact h,rfl⟩
theorem Zu5(gr:List Nd)(i k:Nat):(lsF gr i k).Pairwise (· < ·):=by
 have h2:(((Dj i).filter fun p=>decide (k∈wy gr p)).map fun(x:Nat)=>(x:Int)).Pairwise (· < ·):=by
  rw[Lw]
  exact(List.pairwise_lt_range.filter _).imp fun h=>by omega
 unfold lsF
 rw[List.pairwise_append]
 refine⟨?_,h2,fun a ha b hb=>?_⟩
 ·split
  ·exact List.pairwise_singleton _ _
  ·exact .nil
 ·obtain⟨p,_,rfl⟩:=Dc.mp hb
  split at ha
  ·rw[Am] at ha;omega
  ·exact(Ak ha).elim
theorem Yh0(gr:List Nd)(i k:Nat):(lsF gr i k).length≤i+1:=by
 unfold lsF
 rw[Ah,Ad]
 have:=List.length_filter_le (fun p=>decide (k∈wy gr p)) (Dj i)
 rw[Ir] at this
 split
 ·simp;omega
 ·simp;omega
theorem Ze3:∀{a b:List Int},a.Pairwise (· < ·)→b.Pairwise (· < ·)→(∀z,z∈a↔z∈b)→a=b
 | [],[],_,_,_=>rfl
 | [],y::b,_,_,h=>((h y).mpr De |>Ak).elim
 | x::a,[],_,_,h=>((h x).mp De |>Ak).elim
 | x::a,y::b,h1,h2,h=>by
  rw[List.pairwise_cons] at h1 h2
  have e:x=y:=by
   rcases Ao.mp ((h x).mp De) with e | e
   ·exact e
   ·rcases Ao.mp ((h y).mpr De) with f | f
    ·exact f.symm
    ·have:=h2.1 x e
     have:=h1.1 y f
     omega
  subst e
  rw[Ze3 h1.2 h2.2 fun z=>?_]
  have hz:=h z
  rw[Ao,Ao] at hz
  constructor
  ·intro m
   rcases hz.mp (.inr m) with e | e
   ·have:=h1.1 z m;omega
   ·exact e
  ·intro m
   rcases hz.mpr (.inr m) with e | e
   ·have:=h2.1 z m;omega
   ·exact e
theorem Yi1(x:Int)(l:List Int):inD (.int x) (l.map .int)=decide (x∈l):=by
 unfold inD
 induction l with
 | nil=>rfl
 | cons y r ih=>
  rw[As,Kk,ih]
  show((y==x) || decide (x∈r))=decide (x∈y::r)
  by_cases h:x=y
  ·subst h;simp
  ·have h':¬y=x:=fun z=>h z.symm
   simp[h,h']
theorem Zl9(l:List Int):(l.map D.int).all Y6=true:=by
 rw[Hk]
 intro d hd
 obtain⟨y,_,rfl⟩:=Dc.mp hd
 rfl
theorem Y43{M:Z2}{a:Nat}{x:Int}{l:List Int}{B:Bool→Prop}(h:Z4 M a=some (l.map .int))(q:B (decide (x∈l))):inQ M (.int x) (.ref a) B:=
 .inl ⟨_,h,rfl,Zl9 l,by rw[Yi1];exact q⟩
def IsF(F:Nat→List Int)(k:Nat)(l:List D):Prop:=l=(F k).map .int
theorem Rws.putF{M:Z2}{rs:List Nat}{n k x:Nat}{F F':Nat→List Int}(h:Rws M rs n (IsF F))(inj:Inj rs)(hx:rs[k]?=some x)(same:∀u,u≠k→F' u=F u):Rws (M.set x (.lst ((F' k).map .int))) rs n (IsF F'):=by
 refine⟨h.1,fun j y e=>?_⟩
 obtain⟨l,h1,h2⟩:=h.2 j y e
 by_cases ej:j=k
 ·subst ej
  rw[hx] at e
  cases e
  exact⟨_,Zi h1,rfl⟩
 ·exact⟨l,Y0 h1 (fun z=>ej (inj j k y e (z ▸ hx))),by unfold IsF;rw[same j ej];exact h2⟩
theorem Rws.toF{M:Z2}{rs:List Nat}{n:Nat}{F F':Nat→List Int}(h:Rws M rs n (IsF F))(e:∀k,F' k=F k):Rws M rs n (IsF F'):=
 ⟨h.1,fun k x ex=>by obtain⟨l,h1,h2⟩:=h.2 k x ex;exact⟨l,h1,by unfold IsF;rw[e k];exact h2⟩⟩
def Zn0:DSp:=fun ds M Q _=>∃(a:Nat) (gr:List Nd),ds=[.ref a]∧Z4 M a=some (gr.map Nd.d)∧gr.length≤40∧GT.Num (wy gr) gr.length∧
 ∀rs M' r,Rws M' rs gr.length (IsF (lsF gr gr.length))→Kp M M'→Za M' r=some (rs.map .ref)→M.length≤r→Q (.ref r) M'
section
variable{K:Af}
theorem Za2{Γ G}(g1:Γ[19]?=some O6):RR ⟨K,Γ,G⟩ Sx Vk Zn0:=by
 rintro ds M Q Z ⟨a,gr,rfl,hr,hn,num,q⟩
 have hpos:=num.pos
 delta Sx Vk
 walk_at "ev"
 refine⟨_,hr,?_⟩
 refine Yg (fun i σ M'=>∃d js,σ=[d]∧Kp M M'∧Za M' M.length=some (js.map .ref)∧Rws M' js i (IsF fun _=>[])∧Inj js∧∀(k x:Nat),js[k]?=some x→M.length<x) ⟨none,[],rfl,Kp.new _ _,Z9 _ _ [],⟨rfl,fun k x h=>by cases h⟩,(fun j k x h=>by cases h),(fun k x h=>by cases h)⟩ ?_ ?_ ?_
 ·rintro i σ M' _ ⟨d,js,rfl,k,_⟩
  exact k.L hr
 ·rintro i dx σ M' C hx ⟨d,js,rfl,k,hw,hJ,inj,hgt⟩ hC
  have hi:i<gr.length:=by have:=(Ac.mp hx).1;rwa[Ad] at this
  walk_at "ev"
  refine⟨Z1 (by decide),_,Z7 hw,by rw[Ad,hJ.1];exact Z3 (by omega),?_⟩
  have hml:=Ye hw
  refine hC _ _ ⟨_,js++[M'.length],rfl,(k.app _).set (Nat.le_refl _) _,?_,?_,inj.snoc fun k y e=>hJ.lt e,fun k x e=>?_⟩
  ·rw[Aq]
   exact Zi (Z7 hw)
  ·refine(hJ.new rfl).set fun k x e=>?_
   rcases GT.Ze e with e | ⟨_,rfl⟩
   ·have:=hgt k x e;omega
   ·omega
  ·rcases GT.Ze e with e | ⟨_,rfl⟩
   ·exact hgt k x e
   ·exact hml
 rintro σ M1 ⟨d,js,rfl,k1,hw,hJ,inj,hgt⟩
 rw[Ad] at hJ
 try walk_at "ev"
 obtain⟨x0,l0,e1,e2,e3,rfl⟩:=hJ.at (k:=0) hpos
 refine ix_l (k:=0) (Z0 hw) e1 ?_
 try walk_at "ev"
 have hx0:=hgt 0 x0 e2
 refine⟨Zc (Z0 e3),_,e3,Z3 (by simp),?_⟩
 have hJ:=hJ.putF (F':=lsF gr 0) inj e2 fun u hu=>by unfold lsF;rw[if_neg hu];rfl
 have ee:((([]:List Int).map D.int)++[D.int (-1)])=(lsF gr 0 0).map .int:=rfl
 have hw:=Y0 (c:= .lst ((lsF gr 0 0).map .int)) hw (show x0≠M.length by omega)
 have k1:=k1.set (show M.length≤x0 by omega) (.lst ((lsF gr 0 0).map .int))
 try rw[ee]
 try walk_at "ev"
 refine Zx (k1.L hr) ⟨by omega,by rw[Ad];omega,?_⟩
 rw[Int.toNat_natCast,Ad]
 refine Vu (fun i σ M'=>∃d2 d3,σ=[some (.ref a),some (.ref M.length),d2,d3]∧Kp M M'∧Za M' M.length=some (js.map .ref)∧Rws M' js gr.length (IsF (lsF gr i))) ⟨none,none,rfl,k1,hw,hJ⟩ ?_ ?_
 ·rintro i σ M' C hi ⟨d2,d3,rfl,k,hw,hJ⟩ hC
  obtain⟨nd,hd⟩:∃nd,gr[i]?=some nd:=⟨_,Aa hi⟩
  have ew:wy gr i=nd.gs:=Zq4 hd
  (delta Rr;simp only[Int.zero_add])
  walk_at "ev"
  refine ix_l (k.L hr) (Td hd) ?_
  try walk_at "ev"
  simp only[g1]
  refine⟨nd,rfl,?_⟩
  refine⟨_,Z8 _ _ [],?_⟩
  have hml:=Ye hw
  refine Zu (fun j σ M2=>∃d3,σ=[some (.ref a),some (.ref M.length),some (.int i),d3]∧Kp M M2∧Za M2 M.length=some (js.map .ref)∧Rws M2 js gr.length (IsF (lsG gr i j))∧Z4 M2 M'.length=some (natD nd.gs)) ⟨_,rfl,k.app _,Z7 hw,(hJ.keep (Kp.new _ _)).toF (Y14 gr i),Z8 _ _ []⟩ ?_ ?_ ?_
  ·rintro j σ M2 _ ⟨d3,rfl,_,_,_,h⟩
   exact h
  ·rintro j dx σ M2 C2 hx ⟨d3,rfl,k2,hw2,hJ2,hg⟩ hC2
   have hj:j<nd.gs.length:=by have:=(Ac.mp hx).1;rwa[Zn] at this
   have hyj:nd.gs[j]?=some nd.gs[j]:=Aa hj
   generalize nd.gs[j]=y at hyj
   rw[Yd hyj] at hx
   cases hx
   have hyn:y<gr.length:=num.cl i hi y (by rw[ew];exact Al hyj)
   obtain⟨x,l,e1,e2,e3,rfl⟩:=hJ2.at hyn
   have x1:=hgt y x e2
   have x2:x<M'.length:=hJ.lt e2
   have iF:(i:Int)∉lsF gr i y:=fun z=>by
    rcases Ze0.mp z with⟨z,_⟩ | ⟨p,z,hp,_⟩<;>omega
   have mem:(i:Int)∈lsG gr i j y↔y∈nd.gs.take j:=by
    unfold lsG
    rw[ew,Ap]
    constructor
    ·rintro(z | z)
     ·exact absurd z iF
     ·split at z
      ·assumption
      ·exact(Ak z).elim
    ·intro z
     rw[if_pos z]
     exact .inr (by simp)
   have more:∀u,u≠y→lsG gr i (j+1) u=lsG gr i j u:=by
    intro u hu
    unfold lsG
    rw[ew,Zf hyj]
    have:(u∈nd.gs.take j++[y])=(u∈nd.gs.take j):=by rw[Ap,Am];simp[hu]
    simp only[this]
   delta Q5
   walk_at "ev"
   refine ix_l (Z0 hw2) e1 ?_
   refine Y43 (Z0 e3) ?_
   by_cases hm:y∈nd.gs.take j
   ·rw[decide_eq_true (mem.mpr hm)]
    try walk_at "ev"
    refine hC2 _ _ ⟨_,rfl,k2,hw2,hJ2.toF fun u=>?_,hg⟩
    by_cases hu:u=y
    ·subst hu
     unfold lsG
     rw[ew,Zf hyj,if_pos hm,if_pos (Ay _ hm)]
    ·exact more u hu
   ·rw[decide_eq_false (fun z=>hm (mem.mp z))]
    try walk_at "ev"
    refine ix_l (Z0 hw2) e1 ?_
    try walk_at "ev"
    have e4:lsG gr i j y=lsF gr i y:=by unfold lsG;rw[ew,if_neg hm,Dq]
    have e5:lsG gr i (j+1) y=lsF gr i y++[(i:Int)]:=by unfold lsG;rw[ew,Zf hyj,if_pos (by simp)]
    have hl:=Yh0 gr i y
    refine⟨Zc (Z0 e3),_,e3,by rw[Ad,e4];exact Z3 (by omega),?_⟩
    have hJ3:=hJ2.putF inj e2 more
    rw[e5,Aq] at hJ3
    rw[e4]
    exact hC2 _ _ ⟨_,rfl,k2.set (by omega) _,Y0 hw2 (by omega),hJ3,Bz hg (by omega)⟩
  ·rintro σ M2 ⟨d3,rfl,k2,hw2,hJ2,hg⟩
   rw[Zn,←ew] at hJ2
   exact hC _ _ ⟨_,_,rfl,k2,hw2,hJ2.toF fun u=>(Ya7 gr i u).symm⟩
 ·rintro σ M' ⟨d2,d3,rfl,k,hw,hJ⟩
  delta Rm
  walk_at "ev"
  exact q js _ _ hJ k hw (Nat.le_refl _)
end
noncomputable def Bl(ms:List Nat):List D:= .int (-1)::natD ms
noncomputable def trI(ms:List Nat)(k:Nat):Int:=if k=0 then -1 else((ms.getD (k - 1) 0:Nat):Int)
theorem Ct{ms:List Nat}{k:Nat}(h:k<ms.length+1):(Bl ms)[k]?=some (.int (trI ms k)):=by
 cases k with
 | zero=>rfl
 | succ k=>
  have hk:k<ms.length:=by omega
  unfold Bl trI
  rw[Dr,if_neg (by omega),Yd (Aa hk)]
  simp[Aw,Aa hk]
theorem E2(ms:List Nat):(Bl ms).length=ms.length+1:=by unfold Bl;rw[Au,Zn]
theorem Rt{g:Nat→List Nat}{n k:Nat}{ms:List Nat}(mo:Xi g n ms)(hk:k<n)(h0:k≠0):∃u:Nat,trI ms k=u∧GT.Must g k u:=by
 obtain⟨j,rfl⟩:∃j,k=j+1:=⟨k - 1,by omega⟩
 have hj:j<ms.length:=by have:=mo.1;omega
 refine⟨ms[j],?_,mo.2 j _ (Aa hj)⟩
 unfold trI
 rw[if_neg (by omega)]
 simp[Aw,Aa hj]
def Clb(g:Nat→List Nat)(ms:List Nat)(n k:Nat)(z:Int):Prop:=z=trI ms k∨∃p:Nat,z=p∧p<n∧(k=0∨¬GT.Av g (trI ms k).toNat p)
theorem Zz7{g:Nat→List Nat}{ms:List Nat}{n k p:Nat}(mo:Xi g n ms)(hk:k<n)(hp:p<n)(hw:k∈g p):Clb g ms n k p:=by
 refine .inr ⟨p,rfl,hp,?_⟩
 by_cases h0:k=0
 ·exact .inl h0
 ·obtain⟨u,e,mu⟩:=Rt mo hk h0
  rw[e]
  exact .inr fun av=>mu.dom (.step av hw (Hw mu.ne))
theorem Yo1{g:Nat→List Nat}{ms:List Nat}{n k p:Nat}(N:GT.Num g n)(mo:Xi g n ms)(hk:k<n)(hp:p<n)(h:k=0∨¬GT.Av g (trI ms k).toNat p)(ne:(p:Int)≠trI ms k):Clb g ms n k (trI ms p)∧ -1≤trI ms p∧trI ms p<p:=by
 by_cases p0:p=0
 ·subst p0
  have e:trI ms 0= -1:=rfl
  refine⟨?_,by rw[e];decide,by rw[e];decide⟩
  rcases h with rfl | h
  ·exact .inl rfl
  ·by_cases k0:k=0
   ·subst k0;exact .inl rfl
   ·obtain⟨u,e,mu⟩:=Rt mo hk k0
    rw[e] at h ne
    have:=GT.W2 N N.pos h
    rw[Int.toNat_natCast] at this
    omega
 ·obtain⟨m,em,must⟩:=Rt mo hp p0
  have lt:=must.lt N hp
  rw[em]
  refine⟨.inr ⟨m,rfl,by omega,?_⟩,by omega,by omega⟩
  rcases h with rfl | h
  ·exact .inl rfl
  ·by_cases k0:k=0
   ·exact .inl k0
   ·obtain⟨u,e,mu⟩:=Rt mo hk k0
    rw[e,Int.toNat_natCast] at h
    rw[e] at ne
    rw[e,Int.toNat_natCast]
    have:=GT.W2 N hp h
    exact .inr fun av=>h ((must.step N hp (by omega)).mpr av)
theorem Ym5{g:Nat→List Nat}{ms:List Nat}{n k:Nat}{z:Int}(mo:Xi g n ms)(hk:k<n)(h:Clb g ms n k z):-1≤z:=by
 rcases h with rfl | ⟨p,rfl,_⟩
 ·by_cases h0:k=0
  ·subst h0;exact Int.le_refl _
  ·obtain⟨u,e,_⟩:=Rt mo hk h0
   omega
 ·omega
def Mtg(gr:List Nd)(k y:Nat):Prop:=(k=y∨GT.Av (wy gr) k y)∧∃z:Nat,z<gr.length∧y∈wy gr z∧¬GT.Av (wy gr) k z
def Dmz(gr:List Nd)(i:Nat)(z z':Int):Prop:=z'= -1∨∃p q:Nat,z'=p∧z=q∧q<gr.length∧i∈wy gr q∧¬GT.Av (wy gr) p q
theorem Ys8{gr:List Nd}{ms:List Nat}{i p:Nat}{z:Int}(N:GT.Num (wy gr) gr.length)(mo:Xi (wy gr) gr.length ms)(hi:i<gr.length)(hp:p<gr.length)(h:i=0∨¬GT.Av (wy gr) (trI ms i).toNat p)(ne:(p:Int)≠trI ms i)(dz:Dmz gr i z p):Mtg gr p i:=by
 refine⟨?_,?_⟩
 ·by_cases e:p=i
  ·exact .inl e
  ·refine .inr ?_
   by_cases av:GT.Av (wy gr) p i
   ·exact av
   ·exfalso
    have le:=GT.W2 N hi av
    have i0:i≠0:=by omega
    obtain⟨u,eu,mu⟩:=Rt mo hi i0
    rw[eu] at ne
    rw[eu,Int.toNat_natCast] at h
    have pu:¬GT.Av (wy gr) p u:=fun a=>av ((mu.step N hi (by omega)).mpr a)
    have lt:=mu.lt N hi
    have h1:=GT.W2 N (by omega) pu
    have h2:=GT.W2 N hp (h.resolve_left i0)
    omega
 ·rcases dz with e | ⟨a,q,e1,e2,h1,h2,h3⟩
  ·omega
  ·have:p=a:=by omega
   subst this
   exact⟨q,h1,h2,h3⟩
theorem Yp7{gr:List Nd}{ms:List Nat}{i p:Nat}{z:Int}(mo:Xi (wy gr) gr.length ms)(hp:p<gr.length)(dz:Dmz gr i z p):Dmz gr i z (trI ms p):=by
 by_cases p0:p=0
 ·subst p0;exact .inl rfl
 ·obtain⟨m,em,must⟩:=Rt mo hp p0
  rcases dz with e | ⟨a,q,e1,e2,h1,h2,h3⟩
  ·omega
  ·have:p=a:=by omega
   subst this
   exact .inr ⟨m,q,em,e2,h1,h2,GT.Sk h3 must.dom⟩
noncomputable def clm(ms:List Nat)(k:Nat):Nat→Int→(Nat→List Nat)→Nat→List Nat
 | 0,_,F=>F
 | f+1,z,F=>if z=trI ms k then F else clm ms k f (trI ms z.toNat) (fun t=>if t=z.toNat then F z.toNat++[k] else F t)
theorem Yd8{ms:List Nat}{k f:Nat}{F:Nat→List Nat}:clm ms k f (trI ms k) F=F:=by
 cases f with
 | zero=>rfl
 | succ f=>exact if_pos rfl
theorem Y33{ms:List Nat}{k f:Nat}{z:Int}{F:Nat→List Nat}(h:z≠trI ms k):clm ms k (f+1) z F=clm ms k f (trI ms z.toNat) (fun t=>if t=z.toNat then F z.toNat++[k] else F t):=if_neg h
noncomputable def mtR(ms:List Nat)(k:Nat)(s:List Int)(F:Nat→List Nat):Nat→List Nat:=s.foldl (fun F z=>clm ms k 41 z F) F
noncomputable def mtA(gr:List Nd)(ms:List Nat)(i:Nat):Nat→List Nat:=(Dj i).foldl (fun F k=>mtR ms k (lsF gr gr.length k) F) (fun _=>[])
theorem Zt2(gr:List Nd)(ms:List Nat)(i:Nat):mtA gr ms (i+1)=mtR ms i (lsF gr gr.length i) (mtA gr ms i):=by
 unfold mtA
 rw[Ie,Kz]
 rfl
theorem Cj{gr:List Nd}{k:Nat}{s:List Int}(h1:s.Pairwise (· < ·))(h2:∀z,z∈s↔SrcZ gr k z):s=lsF gr gr.length k:=Ze3 h1 (Zu5 gr _ k) fun z=>(h2 z).trans Ze0.symm
def Zm5:DSp:=fun ds M Q _=>∃(a b:Nat) (gr:List Nd) (ms rs:List Nat),ds=[.ref a,.ref b]∧Z4 M a=some (Bl ms)∧Xi (wy gr) gr.length ms∧GT.Num (wy gr) gr.length∧gr.length≤40∧Z4 M b=some (rs.map .ref)∧Rws M rs gr.length (Yo5 gr)∧
 ∀F:Nat→List Nat,F=mtA gr ms gr.length→(∀k,k<gr.length→∀y∈F k,y<gr.length∧Mtg gr k y)→(∀k,k<gr.length→(F k).length≤1000000)→Q (.ref M.length) (M++ .lst (Y4 (M.length+1) gr.length)::Zg gr.length F)
section
variable{K:Af}
theorem Za5{Γ G}:RR ⟨K,Γ,G⟩ Sl Vo Zm5:=by
 rintro ds M Q Z ⟨a,b,gr,ms,rs,rfl,hr,mo,num,hn,hb,hR,q⟩
 have hml:=mo.1
 have hpos:=num.pos
 delta Sl Vo
 walk_at "ev"
 refine⟨_,hr,?_⟩
 refine Yg (fun i σ M'=>∃d,σ=[d]∧M'=M++ .lst (Y4 (M.length+1) i)::Zg i (fun _=>[])) ⟨none,rfl,rfl⟩ ?_ ?_ ?_
 ·rintro i σ M' _ ⟨d,rfl,rfl⟩
  exact Z6 hr
 ·rintro i dx σ M' C hx ⟨d,rfl,rfl⟩ hC
  have hi:i<gr.length:=by have:=(Ac.mp hx).1;rw[E2] at this;omega
  walk_at "ev"
  rw[Dg,Hl]
  refine⟨Z1 (by decide),_,Z9 _ _ _,by rw[Tu];exact Z3 (by omega),?_⟩
  rw[Su]
  refine hC _ _ ⟨_,rfl,?_⟩
  rw[N7]
  have e1:Zg (i+1) (fun _=>[])=Zg i (fun _=>[])++[.lst []]:=by unfold Zg;rw[Ie,Aq];rfl
  have e2:(M++ .lst (Y4 (M.length+1) i)::Zg i (fun _=>[])).length=M.length+1+i:=by simp[Xb];omega
  rw[e1,e2]
 ·rintro σ M' ⟨d,rfl,rfl⟩
  rw[E2,hml]
  refine⟨_,Z6 hb,?_⟩
  refine Zu (fun i σ M'=>∃d3 d4 d5 d6 F,σ=[some (.ref a),some (.ref b),some (.ref M.length),d3,d4,d5,d6]∧M'=M++ .lst (Y4 (M.length+1) gr.length)::Zg gr.length F∧F=mtA gr ms i∧(∀k,k<gr.length→∀y∈F k,y<gr.length∧Mtg gr k y)∧(∀k,k<gr.length→(F k).length≤i * 4000)) ⟨none,none,none,none,_,rfl,rfl,rfl,(fun k _ y h=>by cases h),fun k _=>Nat.zero_le _⟩ ?_ ?_ ?_
  ·rintro i σ M' _ ⟨d3,d4,d5,d6,F,rfl,rfl,_⟩
   exact⟨_,Z6 hb,rfl⟩
  ·rintro i dx σ M' C hx ⟨d3,d4,d5,d6,F,rfl,rfl,hE,hF,hFl⟩ hC
   obtain⟨x,hx2,rfl⟩:=Sf hx
   have hi:i<gr.length:=by have:=(Ac.mp hx2).1;rw[Ad,hR.1] at this;exact this
   obtain⟨xr,l,e1,e2,e3,s,rfl,hs1,hs3,hs2⟩:=hR.at hi
   have es:=Cj hs3 hs2
   rw[e1] at hx2
   cases hx2
   delta Rz
   walk_at "ev"
   refine⟨_,Z6 (Z0 e3),?_⟩
   refine Zu (fun j σ M'=>∃d5 d6 F,σ=[some (.ref a),some (.ref b),some (.ref M.length),some (.int i),some (.ref xr),d5,d6]∧M'=M++ .lst (Y4 (M.length+1) gr.length)::Zg gr.length F∧F=mtR ms i (s.take j) (mtA gr ms i)∧(∀k,k<gr.length→∀y∈F k,y<gr.length∧Mtg gr k y)∧(∀k,k<gr.length→(F k).length≤i * 4000+j * 40)) ⟨_,_,F,rfl,rfl,hE,hF,hFl⟩ ?_ ?_ ?_
   ·rintro j σ M' _ ⟨d5,d6,F,rfl,rfl,_⟩
    exact Z6 (Z0 e3)
   ·rintro j dz σ M' C2 hz ⟨d5,d6,F,rfl,rfl,hE,hF,hFl⟩ hC2
    have hj:j<s.length:=by have:=(Ac.mp hz).1;rwa[Ad] at this
    have hzj:s[j]?=some s[j]:=Aa hj
    generalize s[j]=z at hzj
    rw[Aj,hzj] at hz
    cases hz
    have hz2:=(hs2 z).mp (Al hzj)
    have dz:Dmz gr i z z:=by
     rcases hz2 with⟨rfl,rfl⟩ | ⟨p,rfl,h1,h2⟩
     ·exact .inl rfl
     ·exact .inr ⟨p,p,rfl,rfl,h1,h2,GT.Wg⟩
    have cl:Clb (wy gr) ms gr.length i z:=by
     rcases hz2 with⟨rfl,rfl⟩ | ⟨p,rfl,h1,h2⟩
     ·exact .inl rfl
     ·exact Zz7 mo hi h1 h2
    have zhi:z<gr.length:=by
     rcases hz2 with⟨rfl,rfl⟩ | ⟨p,rfl,h1,h2⟩
     ·omega
     ·omega
    delta Rs
    walk_at "ev"
    refine⟨fun m σ M'=>∃(z':Int) (F:Nat→List Nat),m=(z'+1).toNat∧σ=[some (.ref a),some (.ref b),some (.ref M.length),some (.int i),some (.ref xr),some (.int z),some (.int z')]∧M'=M++ .lst (Y4 (M.length+1) gr.length)::Zg gr.length F∧(∃f,(z'+1).toNat≤f∧clm ms i f z' F=mtR ms i (s.take (j+1)) (mtA gr ms i))∧(∀k,k<gr.length→∀y∈F k,y<gr.length∧Mtg gr k y)∧Clb (wy gr) ms gr.length i z'∧Dmz gr i z z'∧z'<gr.length∧(∀k,k<gr.length→(F k).length+(z'+1).toNat≤i * 4000+j * 40+gr.length),
     ⟨_,z,F,rfl,rfl,rfl,⟨41,by omega,by unfold mtR at hE ⊢;rw[Zf hzj,Kz,←hE];rfl⟩,hF,cl,dz,zhi,fun k hk=>by have:=hFl k hk;omega⟩,?_⟩
    rintro m σ M' ⟨z',F,rfl,rfl,rfl,⟨f,hf,hE⟩,hF,cl,dz,zhi,hFl⟩
    have zlo:=Ym5 mo hi cl
    walk_at "ev"
    refine ix_l (Z6 hr) (Ct (by omega)) ?_
    try walk_at "ev"
    by_cases e:z'=trI ms i
    ·rw[if_neg (by simpa using e)]
     refine hC2 _ _ ⟨_,_,F,rfl,rfl,by rw[e,Yd8] at hE;exact hE,hF,fun k hk=>by have:=hFl k hk;omega⟩
    ·rw[if_pos (by simpa using e)]
     rcases cl with e2 | ⟨p,rfl,hp,hp2⟩
     ·exact absurd e2 e
     obtain⟨c1,c2,c3⟩:=Yo1 num mo hi hp hp2 e
     delta Q3
     walk_at "ev"
     refine ix_l (Z8 _ _ _) (Sj hp) ?_
     try walk_at "ev"
     have hW:=Qu (M:=M) (c:= .lst (Y4 (M.length+1) gr.length)) (F:=F) (N:=[]) hp
     rw[Dq] at hW
     have hl:=hFl p hp
     refine⟨Zc (Z0 hW),_,hW,by rw[Zn];exact Z3 (by omega),?_⟩
     rw[show M.length+1+p=M.length+(p+1) by omega,Wh,Lu,←Xg,Na]
     try walk_at "ev"
     refine ix_l (Z6 hr) (Ct (by omega)) ?_
     obtain⟨f,rfl⟩:∃f',f=f'+1:=⟨f - 1,by omega⟩
     rw[Y33 e,Int.toNat_natCast] at hE
     refine⟨_,?_,trI ms p,_,rfl,rfl,rfl,⟨f,by omega,hE⟩,fun k hk y hy=>?_,c1,Yp7 mo hp dz,by omega,fun k hk=>?_⟩
     ·omega
     ·split at hy
      ·rename_i ek
       rcases Ap.mp hy with h | h
       ·subst ek;exact hF _ hp y h
       ·rw[Am] at h;subst h;subst ek;exact⟨hi,Ys8 num mo hi hp hp2 e dz⟩
      ·exact hF k hk y hy
     ·have h1:=hFl k hk
      split
      ·rename_i ek
       subst ek
       rw[Ah,Dh]
       omega
      ·omega
   ·rintro σ M' ⟨d5,d6,F,rfl,rfl,hE,hF,hFl⟩
    rw[Ad] at hFl hE
    rw[Dz,es,←Zt2] at hE
    exact hC _ _ ⟨_,_,_,_,F,rfl,rfl,hE,hF,fun k hk=>by have:=hFl k hk;omega⟩
  ·rintro σ M' ⟨d3,d4,d5,d6,F,rfl,rfl,hE,hF,hFl⟩
   rw[Tx,Ad,hR.1] at hFl hE
   delta Ry
   walk_at "ev"
   exact q F hE hF fun k hk=>by have:=hFl k hk;omega
end
noncomputable def hsD(ks:List Nat):List (Key×D):=ks.map fun(k:Nat)=>(Ds (k:Int),D.bl true)
theorem Yh7(ks:List Nat)(g:Nat):((hsD ks).any fun kv=>decide (kv.1=Ds (g:Int)))=decide (g∈ks):=by
 rw[Bool.eq_iff_iff,Lf,decide_eq_true_eq]
 constructor
 ·rintro⟨kv,h1,h2⟩
  obtain⟨k,hk,rfl⟩:=Dc.mp h1
  rw[decide_eq_true_eq] at h2
  have h3:(k:Int)=(g:Int):=by injection h2
  have:k=g:=by omega
  exact this ▸ hk
 ·intro hg
  exact⟨_,Dc.mpr ⟨g,hg,rfl⟩,by simp⟩
theorem Yh5{ks:List Nat}{g:Nat}(hg:g∉ks):putD (hsD ks) (.inl (g:Int)) (.bl true)=hsD (ks++[g]):=by
 unfold putD
 rw[Yh7,if_neg (by rw[decide_eq_true_eq];exact hg)]
 unfold hsD
 rw[Aq]
 rfl
theorem Y73(ks:List Nat)(g:Nat):(valD (hsD ks) (.inl (g:Int))).isSome=decide (g∈ks):=by
 unfold valD
 induction ks with
 | nil=>simp[hsD]
 | cons k r ih=>
  unfold hsD at ih ⊢
  rw[As,Hs]
  by_cases e:k=g
  ·subst e;simp
  ·have e':¬(Ds (k:Int):Key)=Ds (g:Int):=fun z=>e (by have:=Ds.inj z;omega)
   rw[show decide ((Ds (k:Int):Key)=Ds (g:Int))=false from decide_eq_false e']
   simp only[]
   rw[ih,Bool.eq_iff_iff,decide_eq_true_eq,decide_eq_true_eq,Ao]
   exact⟨.inr,fun h=>h.resolve_left fun z=>e z.symm⟩
theorem Yu2{M:Z2}{d y:Nat}{ks:List Nat}{F:Bool→Prop}(h:Zo M d=some (hsD ks))(q:F (decide (y∈ks))):inQ M (.int y) (.ref d) F:=
 .inr (.inl ⟨_,_,h,rfl,by rw[Y73];exact q⟩)
theorem Zu2(ks:List Nat):Zh2 (hsD ks)=natD ks:=by unfold Zh2 hsD natD;rw[Ks];rfl
theorem Pv{α:Type}[DecidableEq α]:∀{a b:List α},a.Nodup→(∀x∈a,x∈b)→a.length≤b.length
 | [],_,_,_=>Nat.zero_le _
 | x::r,b,nd,h=>by
  have nd:=Im.mp nd
  have hx:=h x De
  have ih:=Pv (b:=b.erase x) nd.2 fun y hy=>by
   have:y≠x:=fun z=>nd.1 (z ▸ hy)
   exact(List.mem_erase_of_ne this).mpr (h y (Dd _ hy))
  rw[List.length_erase_of_mem hx] at ih
  have:0<b.length:=List.length_pos_of_mem hx
  rw[Au]
  omega
noncomputable def mfI(w:List Nat×List Nat)(l:List Nat):List Nat×List Nat:=l.foldl (fun w y=>if y∈w.1 then w else(w.1++[y],w.2++[y])) w
noncomputable def mfR(F:Nat→List Nat):Nat→List Nat×List Nat→List Nat
 | 0,w=>w.1
 | f+1,w=>match w.2.getLast? with
  | none=>w.1
  | some x=>mfR F f (mfI (w.1,w.2.dropLast) (F x))
theorem Yi2(F:Nat→List Nat)(f:Nat)(ks:List Nat):mfR F f (ks,[])=ks:=by cases f<;>rfl
theorem Zy0(F:Nat→List Nat)(f:Nat)(ks T:List Nat)(x:Nat):mfR F (f+1) (ks,T++[x])=mfR F f (mfI (ks,T) (F x)):=by
 conv=>lhs;rw[mfR]
 simp only[List.getLast?_concat,List.dropLast_concat]
def Y94(n:Nat)(R:Nat→Nat→Prop)(E:Nat→List Nat)(k:Nat)(l:List D):Prop:=∃F:List Nat,l=natD F∧F=E k∧∀y∈F,y<n∧R k y
def Zt3(R:Nat→Nat→Prop)(gs ks:List Nat):Prop:=∀y∈ks,∃g,R g y∧(g∈gs∨(g∈ks∧g≠y))
def Y89:DSp:=fun ds M Q _=>∃(a b n:Nat) (R:Nat→Nat→Prop) (E:Nat→List Nat) (gs rs:List Nat),ds=[.ref a,.ref b]∧Z4 M a=some (natD gs)∧(∀y∈gs,y<n)∧gs.length≤40∧n≤40∧Z4 M b=some (rs.map .ref)∧Rws M rs n (Y94 n R E)∧
 ∀(L:List Nat) M' r,L=mfR E 200 ([],gs)→L.Nodup→(∀y∈L,y<n)→Zt3 R gs L→L.length≤n→Kp M M'→Za M' r=some (natD L)→M.length≤r→Q (.ref r) M'
section
variable{K:Af}
theorem Yw3{Γ G}:RR ⟨K,Γ,G⟩ Rf Vt Y89:=by
 rintro ds M Q Z ⟨a,b,n,R,E,gs,rs,rfl,ha,hgs,hgl,hn,hb,hR,q⟩
 delta Rf Vt
 walk_at "ev"
 refine⟨_,Z6 ha,?_⟩
 have el:(M++[Cell.dct []]).length=M.length+1:=by rw[Ah];rfl
 refine⟨fun m σ M'=>∃(ks T:List Nat) (d4 d5:Option D),m=2 * (n - ks.length)+T.length∧σ=[some (.ref a),some (.ref b),some (.ref M.length),some (.ref (M.length+1)),d4,d5]∧Kp M M'∧Zo M' M.length=some (hsD ks)∧Za M' (M.length+1)=some (natD T)∧ks.Nodup∧(∀y∈ks,y<n)∧(∀y∈T,y<n)∧Zt3 R gs ks∧(∀y∈T,y∈gs∨y∈ks)∧T.length≤40+ks.length∧(∃f,2 * (n - ks.length)+T.length≤f∧mfR E f (ks,T)=mfR E 200 ([],gs)),
  ⟨_,[],gs,none,none,rfl,by rw[el],(Kp.new _ _).app _,Tm (V9 _ _ []),by rw[←el];exact Z9 _ _ [],Mf,fun y h=>(Ak h).elim,hgs,(fun y h=>(Ak h).elim),(fun y h=> .inl h),by omega,200,by simp;omega,rfl⟩,?_⟩
 rintro m σ M' ⟨ks,T,d4,d5,rfl,rfl,kM,hD,hT,nd,hks,hTl,hok,hTg,hTs,f,hf,hE⟩
 have hkl:=GT.Wl nd hks
 walk_at "ev"
 refine⟨Z1 (by decide),?_⟩
 refine Z82 (l:=T) (Z6 (Z0 hT)) (Z8 _ _ []) ?_
 have kM:=kM.app [Cell.lst []]
 have hD:=Tm (N:=[Cell.lst []]) hD
 have hT:=Z7 (N:=[Cell.lst []]) hT
 generalize M'++[Cell.lst []]=M2 at kM hD hT
 obtain hnil | ⟨T0,x,hcat⟩:T=[]∨∃T0 x,T=T0++[x]:=by
  rcases List.eq_nil_or_concat T with h | ⟨a,b,h⟩
  ·exact .inl h
  ·exact .inr ⟨a,b,by rw[h,List.concat_eq_append]⟩
 all_goals subst_vars
 ·rw[if_neg (by decide)]
  delta Rv
  walk_at "ev"
  refine⟨_,hD,?_⟩
  rw[Zu2]
  exact q ks _ _ (by rw[Yi2] at hE;exact hE) nd hks hok hkl (kM.app _) (Z9 _ _ []) kM.len
 ·rw[if_pos (by cases T0<;>rfl)]
  have hx:=hTl x (by simp)
  delta Rn
  walk_at "ev"
  rw[Xg] at hT
  refine⟨Zc (Z0 hT),_,.int x,hT,by simp,?_⟩
  rw[List.dropLast_concat]
  have hD:=Wq (c:= .lst (natD T0)) hD (show M.length+1≠M.length by omega)
  have hT:=Zi (ys:=natD T0) hT
  have kM:=kM.set (Nat.le_succ _) (.lst (natD T0))
  generalize M2.set (M.length+1) (.lst (natD T0))=M3 at kM hD hT
  try walk_at "ev"
  obtain⟨xr,l,e1,e2,e3,F,rfl,eF,hF⟩:=hR.at hx
  rw[Ah,Dh] at hf
  obtain⟨f,rfl⟩:∃f',f=f'+1:=⟨f - 1,by omega⟩
  rw[Zy0,←eF] at hE
  have hxr:=Ye e3
  refine ix_l (kM.L hb) e1 ?_
  try walk_at "ev"
  have hg:=kM.L (Z0 e3)
  refine⟨_,hg,?_⟩
  rw[Ah,Dh] at hTs
  refine Zu (fun j σ M'=>∃(ks' T':List Nat) (d5:Option D),σ=[some (.ref a),some (.ref b),some (.ref M.length),some (.ref (M.length+1)),some (.int x),d5]∧Kp M M'∧Zo M' M.length=some (hsD ks')∧Za M' (M.length+1)=some (natD T')∧ks'.Nodup∧(∀y∈ks',y<n)∧(∀y∈T',y<n)∧Zt3 R gs ks'∧(∀y∈T',y∈gs∨y∈ks')∧(x∈gs∨x∈ks')∧T'.length+ks.length=T0.length+ks'.length∧ks.length≤ks'.length∧(ks',T')=mfI (ks,T0) (F.take j)) ⟨ks,T0,d5,rfl,kM,hD,hT,nd,hks,fun y hy=>hTl y (Ay _ hy),hok,(fun y hy=>hTg y (Ay _ hy)),hTg x (by simp),rfl,Nat.le_refl _,rfl⟩ ?_ ?_ ?_
  ·rintro j σ M' _ ⟨ks',T',d5,rfl,k,_⟩
   exact k.L (Z0 e3)
  ·rintro j dx σ M' C hxj ⟨ks',T',d5,rfl,kM,hD,hT,nd,hks,hTl,hok,hTg,hxg,hc1,hc2,hW⟩ hC
   have hj:j<F.length:=by have:=(Ac.mp hxj).1;rwa[Zn] at this
   have hgj:F[j]?=some F[j]:=Aa hj
   generalize F[j]=y at hgj
   rw[Yd hgj] at hxj
   cases hxj
   obtain⟨hy,hyR⟩:=hF y (Al hgj)
   have hkl:=GT.Wl nd hks
   have hW2:mfI (ks,T0) (F.take (j+1))=if y∈ks' then(ks',T') else(ks'++[y],T'++[y]):=by
    unfold mfI at hW ⊢
    rw[Zf hgj,Kz,←hW]
    rfl
   delta Q0
   walk_at "ev"
   refine Yu2 hD ?_
   by_cases hm:y∈ks'
   ·rw[decide_eq_true hm,if_neg (by decide)]
    exact hC _ _ ⟨ks',T',_,rfl,kM,hD,hT,nd,hks,hTl,hok,hTg,hxg,hc1,hc2,by rw[hW2,if_pos hm]⟩
   ·rw[decide_eq_false hm,if_pos rfl]
    refine .inr (.inl ⟨_,_,hD,rfl,by unfold hsD;rw[Ad];exact Z3 (by omega),?_⟩)
    rw[Yh5 hm]
    have hT:=Y0 (c:= .dct (hsD (ks'++[y]))) hT (show M.length≠M.length+1 by omega)
    have hD:=Ve (ys:=hsD (ks'++[y])) hD
    have kM:=kM.set (Nat.le_refl _) (.dct (hsD (ks'++[y])))
    try walk_at "ev"
    refine⟨Zc (Z0 hT),_,hT,by rw[Zn];exact Z3 (by omega),?_⟩
    rw[←Xg]
    refine hC _ _ ⟨ks'++[y],T'++[y],_,rfl,kM.set (Nat.le_succ _) _,Wq hD (by omega),Zi hT,?_,fun u hu=>?_,fun u hu=>?_,fun u hu=>?_,fun u hu=>?_,hxg.imp id (Ay _),?_,?_,by rw[hW2,if_neg hm]⟩
    ·exact Ky.mpr ⟨nd,by simp,fun a ha b hb=>by simp at hb;subst hb;rintro rfl;exact hm ha⟩
    ·rcases Ap.mp hu with z | z
     ·exact hks u z
     ·rw[Am] at z;omega
    ·rcases Ap.mp hu with z | z
     ·exact hTl u z
     ·rw[Am] at z;omega
    ·rcases Ap.mp hu with z | z
     ·obtain⟨g,g1,g2⟩:=hok u z
      exact⟨g,g1,g2.imp id fun h=>⟨Ay _ h.1,h.2⟩⟩
     ·rw[Am] at z
      subst z
      exact⟨x,hyR,hxg.imp id fun h=>⟨Ay _ h,fun e=>hm (e ▸ h)⟩⟩
    ·rcases Ap.mp hu with z | z
     ·exact(hTg u z).imp id (Ay _)
     ·exact .inr (Bs _ z)
    ·simp only[Ah,Dh];omega
    ·simp only[Ah,Dh];omega
  ·rintro σ M' ⟨ks',T',d5,rfl,kM,hD,hT,nd,hks,hTl,hok,hTg,hxg,hc1,hc2,hW⟩
   rw[Zn,Dz] at hW
   have hkl:=GT.Wl nd hks
   refine⟨_,?_,ks',T',_,_,rfl,rfl,kM,hD,hT,nd,hks,hTl,hok,hTg,by omega,f,by omega,by rw[hW];exact hE⟩
   simp only[Ah,Dh]
   omega
end
noncomputable def smN:Nd→Option Str
 | .sum x _ _ _ _=>some x
 | _=>none
noncomputable def smOf(gr:List Nd)(p:Nat):Option Str:=(gr[p]?).bind smN
noncomputable def Opd.p:Opd→PyData
 | .nm x=> .str x
 | .no i=> .int i
theorem Opd.pd{M:Z2}(o:Opd):PD M o.p o.d:=by cases o<;>rfl
theorem Opd.lay{nm:List Str}(o:Opd)(hn:Nms nm)(h:o.al nm):PyData.canLay0 o.p=true:=by
 cases o with
 | nm x=>exact hn.2 x h
 | no i=>rfl
theorem cut2(x y:D)(r:List D):U.cutD (x::y::r) none (some 2)=[x,y]:=by
 have e1:HT.sIx (x::y::r).length 0 none=0:=rfl
 have e2:HT.sIx (x::y::r).length (x::y::r).length (some 2)=2:=by
  show(if (2:Int)<0 then((2:Int)+((x::y::r).length:Int)).toNat else min (2:Int).toNat (x::y::r).length)=_
  rw[if_neg (by decide)]
  simp only[Au]
  omega
 unfold U.cutD
 rw[e1,e2]
 rfl
theorem cut1(x:D):U.cutD [x] none (some 2)=[x]:=rfl
theorem lay2{x y:PyData}(hx:PyData.canLay0 x=true)(hy:PyData.canLay0 y=true):PyData.canLay0 (.tuple [x,y])=true:=by
 simp only[PyData.canLay0,PyData.canLayAll0,hx,hy,Bool.and_self]
theorem lay1{x:PyData}(hx:PyData.canLay0 x=true):PyData.canLay0 (.tuple [x])=true:=by
 simp only[PyData.canLay0,PyData.canLayAll0,hx,Bool.and_self]
theorem Yj9{M:Z2}{nm:List Str}{nd:Nd}{name:Str}{B:Bool→Prop}(hn:Nms nm)(ha:nd.al nm)(hm:name∈nm){ds:List D}(hd:nd.d= .tup ds)(q:∀b,(b=true↔smN nd=some name)→B b):eqD M (.tup (U.cutD ds none (some 2))) (.tup [.str "sum",.str name]) B:=by
 have s1:PyData.canLay0 (.str "sum")=true:=by decide+kernel
 have s2:PyData.canLay0 (.str "test")=true:=by decide+kernel
 have s3:PyData.canLay0 (.str "end")=true:=by decide+kernel
 have s4:PyData.canLay0 (.str "spin")=true:=by decide+kernel
 have r:=lay2 s1 (hn.2 name hm)
 have dep:PyData.depth (.tuple [.str "sum",.str name])≤5:=by simp only[PyData.depth,PyData.depthAll];decide
 have pr:PD M (.tuple [.str "sum",.str name]) (.tup [.str "sum",.str name]):=⟨_,rfl,_,_,rfl,rfl,_,_,rfl,rfl,rfl⟩
 cases nd with
 | sum x a sg b t=>
  simp only[Nd.d] at hd
  cases hd
  rw[cut2]
  refine .inl ⟨.tuple [.str "sum",.str x],_,⟨_,rfl,_,_,rfl,rfl,_,_,rfl,rfl,rfl⟩,pr,lay2 s1 (hn.2 x ha.1),r,by omega,q _ ⟨fun h=>?_,fun h=>?_⟩⟩
  ·have h:x=name:=by simpa[PyData.eqv,PyData.eqvAll] using h
   rw[h];rfl
  ·have h:x=name:=Dm h
   simp[PyData.eqv,PyData.eqvAll,h]
 | test a sg b y n=>
  simp only[Nd.d] at hd
  cases hd
  rw[cut2]
  exact .inl ⟨.tuple [.str "test",a.p],_,⟨_,rfl,_,_,rfl,rfl,_,_,rfl,a.pd,rfl⟩,pr,lay2 s2 (a.lay hn ha.1),r,by omega,q _ ⟨(fun h=>by simp[PyData.eqv,PyData.eqvAll] at h;exact absurd h.1 (by decide+kernel)),(fun h=>by cases h)⟩⟩
 | fin=>
  simp only[Nd.d] at hd
  cases hd
  rw[cut1]
  exact .inl ⟨.tuple [.str "end"],_,⟨_,rfl,_,_,rfl,rfl,rfl⟩,pr,lay1 s3,r,by omega,q _ ⟨(fun h=>by simp[PyData.eqv,PyData.eqvAll] at h),(fun h=>by cases h)⟩⟩
 | spin=>
  simp only[Nd.d] at hd
  cases hd
  rw[cut1]
  exact .inl ⟨.tuple [.str "spin"],_,⟨_,rfl,_,_,rfl,rfl,rfl⟩,pr,lay1 s4,r,by omega,q _ ⟨(fun h=>by simp[PyData.eqv,PyData.eqvAll] at h),(fun h=>by cases h)⟩⟩
theorem Rws.mono{M:Z2}{rs:List Nat}{n:Nat}{P P':Nat→List D→Prop}(h:Rws M rs n P)(mono:∀k l,P k l→P' k l):Rws M rs n P':=
 ⟨h.1,fun k x e=>by obtain⟨l,h1,h2⟩:=h.2 k x e;exact⟨l,h1,mono k l h2⟩⟩
def JnB(b:Nat)(J:Nat→List Str)(k:Nat)(l:List D):Prop:=l=(J k).map .str∧(J k).length≤b
def JOk(gr:List Nd)(R:Nat→Nat→Prop)(J:Nat→List Str):Prop:=∀k x,x∈J k→∃g,R g k∧(smOf gr g=some x∨(x∈J g∧g≠k))
noncomputable def jAdd(J:Nat→List Str)(l:List Nat)(x:Str):Nat→List Str:=fun k=>if k∈l then J k++[x] else J k
theorem Zv2(J:Nat→List Str)(x:Str):jAdd J [] x=J:=by funext k;exact if_neg (Ak)
theorem Yb6{gr:List Nd}{R:Nat→Nat→Prop}{J:Nat→List Str}{gs l:List Nat}{x:Str}(h:JOk gr R J)(hg:∀g∈gs,smOf gr g=some x)(m:Zt3 R gs l):JOk gr R (jAdd J l x):=by
 have up:∀k y,y∈J k→y∈jAdd J l x k:=by
  intro k y hy
  unfold jAdd
  split
  ·exact Ay _ hy
  ·exact hy
 intro k y hy
 have old:y∈J k→∃g,R g k∧(smOf gr g=some y∨(y∈jAdd J l x g∧g≠k)):=by
  intro hy
  obtain⟨g,h1,h2⟩:=h k y hy
  exact⟨g,h1,h2.imp id fun z=>⟨up g y z.1,z.2⟩⟩
 unfold jAdd at hy
 split at hy
 ·rename_i hk
  rcases Ap.mp hy with z | z
  ·exact old z
  ·rw[Am] at z
   subst z
   obtain⟨g,h1,h2⟩:=m k hk
   refine⟨g,h1,h2.imp (hg g) fun z=>⟨?_,z.2⟩⟩
   unfold jAdd
   rw[if_pos z.1]
   simp
 ·exact old hy
noncomputable def gvs(gr:List Nd)(x:Str)(i:Nat):List Nat:=(Dj i).filter fun p=>decide (smOf gr p=some x)
theorem Y04(gr:List Nd)(x:Str)(i:Nat):gvs gr x (i+1)=gvs gr x i++(if smOf gr i=some x then [i] else []):=by
 unfold gvs
 rw[Ie,List.filter_append]
 congr 1
 by_cases h:smOf gr i=some x
 ·rw[if_pos h];simp[h]
 ·rw[if_neg h];simp[h]
noncomputable def jnA(gr:List Nd)(E:Nat→List Nat)(l:List Str):Nat→List Str:=l.foldl (fun J x=>jAdd J (mfR E 200 ([],gvs gr x gr.length)) x) (fun _=>[])
theorem Zx2(gr:List Nd)(E:Nat→List Nat)(l:List Str)(x:Str):jnA gr E (l++[x])=jAdd (jnA gr E l) (mfR E 200 ([],gvs gr x gr.length)) x:=by
 unfold jnA
 rw[Kz]
 rfl
def JR(gr:List Nd)(E:Nat→List Nat)(J:Nat→List Str):Prop:=∃ss:List Str,ss.Nodup∧ss.Pairwise SW.leS∧(∀x,x∈ss↔∃p,p<gr.length∧smOf gr p=some x)∧J=jnA gr E ss
theorem JR.one{gr:List Nd}{E:Nat→List Nat}{J J':Nat→List Str}(h:JR gr E J)(h':JR gr E J'):J=J':=by
 obtain⟨ss,n,p,m,rfl⟩:=h
 obtain⟨ss',n',p',m',rfl⟩:=h'
 rw[SW.Eh p p' ((List.perm_ext_iff_of_nodup n n').mpr fun x=>(m x).trans (m' x).symm)]
theorem Zi3(gr:List Nd)(E:Nat→List Nat):∀(l l0:List Str) (J:Nat→List Str),(∀k,(J k).Sublist l0)→∀k,(l.foldl (fun J x=>jAdd J (mfR E 200 ([],gvs gr x gr.length)) x) J k).Sublist (l0++l)
 | [],l0,J,h=>fun k=>by rw[Dq];exact h k
 | x::r,l0,J,h=>fun k=>by
  have:=Zi3 gr E r (l0++[x]) (jAdd J (mfR E 200 ([],gvs gr x gr.length)) x) (fun k=>by
   unfold jAdd
   split
   ·exact(h k).append (List.Sublist.refl _)
   ·exact(h k).trans (List.sublist_append_left _ _)) k
  rw[Dg] at this
  exact this
theorem JR.so{gr:List Nd}{E:Nat→List Nat}{J:Nat→List Str}(h:JR gr E J)(k:Nat):(J k).Nodup∧(J k).Pairwise SW.leS∧∀x∈J k,∃p,p<gr.length∧smOf gr p=some x:=by
 obtain⟨ss,n,p,m,rfl⟩:=h
 have s:=Zi3 gr E ss [] (fun _=>[]) (fun _=>List.Sublist.refl _) k
 exact⟨n.sublist s,p.sublist s,fun x hx=>(m x).mp (s.subset hx)⟩
def Jo:DSp:=fun ds M Q _=>∃(a b:Nat) (R:Nat→Nat→Prop) (E:Nat→List Nat) (nm:List Str) (gr:List Nd) (rs:List Nat),ds=[.ref a,.ref b]∧Z4 M a=some (gr.map Nd.d)∧gr.length≤40∧Nms nm∧(∀d∈gr,d.al nm)∧Z4 M b=some (rs.map .ref)∧Rws M rs gr.length (Y94 gr.length R E)∧
 ∀J js M' r,JOk gr R J→JR gr E J→Rws M' js gr.length (JnB 100 J)→(∀(k x:Nat),js[k]?=some x→M.length≤x)→Kp M M'→Za M' r=some (js.map .ref)→M.length≤r→Q (.ref r) M'
section
variable{K:Af}
theorem Y34{Γ G}(g6:Γ[6]?=some Y89):RR ⟨K,Γ,G⟩ Xv Yt Jo:=by
 rintro ds M Q Z ⟨a,b,R,E,nm,gr,rs,rfl,hr,hn,hnm,hal,hb,hR,q⟩
 delta Xv Yt
 walk_at "ev"
 refine⟨_,hr,?_⟩
 refine Yg (fun i σ M'=>∃d js,σ=[d]∧Kp M M'∧Za M' M.length=some (js.map .ref)∧Rws M' js i (JnB 0 fun _=>[])∧Inj js∧∀(k x:Nat),js[k]?=some x→M.length<x) ⟨none,[],rfl,Kp.new _ _,Z9 _ _ [],⟨rfl,fun k x h=>by cases h⟩,(fun j k x h=>by cases h),(fun k x h=>by cases h)⟩ ?_ ?_ ?_
 ·rintro i σ M' _ ⟨d,js,rfl,k,_⟩
  exact k.L hr
 ·rintro i dx σ M' C hx ⟨d,js,rfl,k,hw,hJ,inj,hgt⟩ hC
  have hi:i<gr.length:=by have:=(Ac.mp hx).1;rwa[Ad] at this
  walk_at "ev"
  refine⟨Z1 (by decide),_,Z7 hw,by rw[Ad,hJ.1];exact Z3 (by omega),?_⟩
  have hml:=Ye hw
  refine hC _ _ ⟨_,js++[M'.length],rfl,(k.app _).set (Nat.le_refl _) _,?_,?_,inj.snoc fun k y e=>hJ.lt e,fun k x e=>?_⟩
  ·rw[Aq]
   exact Zi (Z7 hw)
  ·refine(hJ.new ⟨rfl,Nat.le_refl _⟩).set fun k x e=>?_
   rcases GT.Ze e with e | ⟨_,rfl⟩
   ·have:=hgt k x e;omega
   ·omega
  ·rcases GT.Ze e with e | ⟨_,rfl⟩
   ·exact hgt k x e
   ·exact hml
 rintro σ M1 ⟨d,js,rfl,k1,hw,hJ,inj,hgt⟩
 rw[Ad] at hJ
 try walk_at "ev"
 refine⟨_,k1.L hr,?_⟩
 have hml:=Ye hw
 refine Yg (fun i σ M'=>∃d nms,σ=[d]∧Kp M1 M'∧Za M' M1.length=some (nms.map .str)∧nms.length≤i∧(∀x∈nms,x∈nm)∧∀x,x∈nms↔∃p,p<i∧smOf gr p=some x) ⟨none,[],rfl,Kp.new _ _,Z9 _ _ [],Nat.le_refl _,(fun x h=>(Ak h).elim),fun x=>⟨fun h=>(Ak h).elim,fun zz131=>by obtain⟨p,h,_⟩:=zz131;exact absurd h (Nat.not_lt_zero _)⟩⟩ ?_ ?_ ?_
 ·rintro i σ M' _ ⟨d,nms,rfl,k,_⟩
  exact k.L (k1.L hr)
 ·rintro i dx σ M' C hx ⟨d,nms,rfl,k,hw,hl,hm,hx2⟩ hC
  have hi:i<gr.length:=by have:=(Ac.mp hx).1;rwa[Ad] at this
  obtain⟨nd,hd⟩:∃nd,gr[i]?=some nd:=⟨_,Aa hi⟩
  rw[Td hd] at hx
  cases hx
  have ha:=hal nd (Al hd)
  have hsm:smOf gr i=smN nd:=by unfold smOf;rw[hd];rfl
  have same:smN nd=none→∀x,x∈nms↔∃p,p<i+1∧smOf gr p=some x:=by
   intro z x
   refine(hx2 x).trans ⟨fun zz132=>by obtain⟨p,h1,h2⟩:=zz132;exact⟨p,by omega,h2⟩,?_⟩
   rintro⟨p,h1,h2⟩
   rcases Nat.lt_succ_iff_lt_or_eq.mp h1 with h | h
   ·exact⟨p,h,h2⟩
   ·rw[h,hsm,z] at h2
    cases h2
  cases nd with
  | sum x p sg s t=>
   simp only[Nd.d]
   walk_at "ev"
   refine⟨_,rfl,?_⟩
   try walk_at "ev"
   refine⟨_,rfl,_,hw,by rw[Ad];exact Z3 (by omega),?_⟩
   refine hC _ _ ⟨_,nms++[x],rfl,k.set (Nat.le_refl _) _,by rw[Aq];exact Zi hw,by rw[Ah,Dh];omega,fun y hy=>?_,fun y=>?_⟩
   ·rcases Ap.mp hy with z | z
    ·exact hm y z
    ·rw[Am] at z;subst z;exact ha.1
   ·rw[Ap,Am,hx2 y]
    constructor
    ·rintro(⟨p,h1,h2⟩ | rfl)
     ·exact⟨p,by omega,h2⟩
     ·exact⟨i,by omega,hsm⟩
    ·rintro⟨p,h1,h2⟩
     rcases Nat.lt_succ_iff_lt_or_eq.mp h1 with h | h
     ·exact .inl ⟨p,h,h2⟩
     ·rw[h,hsm] at h2;exact .inr (Dm h2).symm
  | test p sg s y n=>
   simp only[Nd.d]
   walk_at "ev"
   refine⟨_,rfl,?_⟩
   try walk_at "ev"
   rw[if_neg (by decide+kernel)]
   exact hC _ _ ⟨_,nms,rfl,k,hw,by omega,hm,same rfl⟩
  | fin=>
   simp only[Nd.d]
   walk_at "ev"
   refine⟨_,rfl,?_⟩
   try walk_at "ev"
   rw[if_neg (by decide+kernel)]
   exact hC _ _ ⟨_,nms,rfl,k,hw,by omega,hm,same rfl⟩
  | spin=>
   simp only[Nd.d]
   walk_at "ev"
   refine⟨_,rfl,?_⟩
   try walk_at "ev"
   rw[if_neg (by decide+kernel)]
   exact hC _ _ ⟨_,nms,rfl,k,hw,by omega,hm,same rfl⟩
 rintro σ M2 ⟨d2,nms,rfl,k2,hw2,hl2,hm2,hx2⟩
 rw[Ad] at hl2 hx2
 try walk_at "ev"
 refine .inr ⟨nms,Z0 hw2,by omega,fun ss nd hss hpw=>?_⟩
 try walk_at "ev"
 refine⟨_,Z8 _ _ [],?_⟩
 have hsl:ss.length≤4:=by
  rw[←hnm.1]
  exact Pv nd fun x hx=>hm2 x ((hss x).mp hx)
 have hjl:∀(k x:Nat),js[k]?=some x→x<M1.length:=fun k x e=>hJ.lt e
 have k3:Kp M (M2++[.lst (ss.map .str)]):=(k1.trans k2).app _
 have hS:=Z8 M2 (ss.map .str) []
 have hw:=(k2.app [.lst (ss.map .str)]).W hw
 have hJ:=hJ.keep (k2.app [.lst (ss.map .str)])
 have hM1:=k1.len
 have hM2:=k2.len
 refine Zu (fun i σ M'=>∃d4 d5 d6 J,σ=[some (.ref a),some (.ref b),some (.ref M.length),some (.ref M1.length),d4,d5,d6]∧Kp M M'∧Za M' M.length=some (js.map .ref)∧Rws M' js gr.length (JnB i J)∧Z4 M' M2.length=some (ss.map .str)∧JOk gr R J∧J=jnA gr E (ss.take i)) ⟨none,none,none,_,rfl,k3,hw,hJ,hS,(fun k x h=>(Ak h).elim),rfl⟩ ?_ ?_ ?_
 ·rintro i σ M' _ ⟨d4,d5,d6,J,rfl,_,_,_,h,_⟩
  exact h
 ·rintro i dx σ M3 C hx ⟨d4,d5,d6,J,rfl,k,hw,hJ,hS,jo,hJE⟩ hC
  have hi:i<ss.length:=by have:=(Ac.mp hx).1;rwa[Ad] at this
  have hsi:ss[i]?=some ss[i]:=Aa hi
  generalize ss[i]=name at hsi
  rw[Aj,hsi] at hx
  cases hx
  have hname:name∈nm:=hm2 name ((hss name).mp (Al hsi))
  delta Wt
  walk_at "ev"
  refine⟨_,k.L hr,?_⟩
  simp only[capD,As,Hb,Lj,Ka,Hq,Dr,Lk]
  refine Yg (fun i σ M'=>∃d0 d1 gs,σ=[d0,d1,some (.str name)]∧Kp M3 M'∧Za M' M3.length=some (natD gs)∧gs.length≤i∧(∀y∈gs,y<gr.length∧smOf gr y=some name)∧gs=gvs gr name i) ⟨none,none,[],rfl,Kp.new _ _,Z9 _ _ [],Nat.le_refl _,(fun x h=>(Ak h).elim),rfl⟩ ?_ ?_ ?_
  ·rintro i σ M' _ ⟨d0,d1,gs,rfl,k',_⟩
   exact⟨_,k'.L (k.L hr),rfl⟩
  ·rintro i dx σ M' C hx ⟨d0,d1,gs,rfl,k',hg,hgl,hgm,hgE⟩ hC
   obtain⟨x,hx2,rfl⟩:=Sf hx
   have hi:i<gr.length:=by have:=(Ac.mp hx2).1;rwa[Ad] at this
   obtain⟨nd,hd⟩:∃nd,gr[i]?=some nd:=⟨_,Aa hi⟩
   rw[Td hd] at hx2
   cases hx2
   have ha:=hal nd (Al hd)
   obtain⟨ds,hds⟩:∃ds,nd.d= .tup ds:=by cases nd<;>exact⟨_,rfl⟩
   rw[hds]
   walk_at "ev"
   have hsm:smOf gr i=smN nd:=by unfold smOf;rw[hd];rfl
   refine⟨Z1 (by decide),Yj9 hnm ha hname hds fun b hb=>?_⟩
   have hgE2:=Y04 gr name i
   rw[hsm] at hgE2
   cases b with
   | false=>
    rw[if_neg (by decide)]
    rw[if_neg (fun z=>by have:=hb.mpr z;cases this),Dq,←hgE] at hgE2
    exact hC _ _ ⟨_,_,gs,rfl,k',hg,by omega,hgm,hgE2.symm⟩
   | true=>
    rw[if_pos rfl]
    rw[if_pos (hb.mp rfl),←hgE] at hgE2
    refine⟨_,hg,by rw[Zn];exact Z3 (by omega),?_⟩
    rw[←Xg]
    refine hC _ _ ⟨_,_,gs++[i],rfl,k'.set (Nat.le_refl _) _,Zi hg,by rw[Ah,Dh];omega,fun y hy=>?_,hgE2.symm⟩
    rcases Ap.mp hy with z | z
    ·exact hgm y z
    ·rw[Am] at z;subst z;exact⟨hi,by unfold smOf;rw[hd];exact hb.mp rfl⟩
  rintro σ M4 ⟨d0,d1,gs,rfl,k4,hg,hgl,hgm,hgE⟩
  rw[Tx,Ad] at hgl hgE
  try walk_at "ev"
  simp only[g6]
  refine⟨M3.length,b,gr.length,R,E,gs,rs,rfl,Z0 hg,(fun y hy=>(hgm y hy).1),by omega,hn,k4.L (k.L hb),hR.keep (k.trans k4),fun L M5 r hLE hLn hL hLo hLl k5 hw5 hr5=>?_⟩
  try walk_at "ev"
  refine⟨_,Z0 hw5,?_⟩
  have kk:=k4.trans k5
  have h3:=k.len
  have h4:=k4.len
  have hS3:M2.length<M3.length:=by
   unfold Z4 at hS
   by_cases z:M2.length<M3.length
   ·exact z
   ·rw[Dn (by omega)] at hS;cases hS
  refine Zu (fun j σ M'=>∃d6,σ=[some (.ref a),some (.ref b),some (.ref M.length),some (.ref M1.length),some (.str name),some (.ref M3.length),d6]∧Kp M M'∧Za M' M.length=some (js.map .ref)∧Rws M' js gr.length (JnB (i+1) (jAdd J (L.take j) name))∧Z4 M' M2.length=some (ss.map .str)∧Z4 M' r=some (natD L)) ⟨_,rfl,k.trans kk,kk.W hw,by rw[List.take_zero,Zv2];exact(hJ.keep kk).mono fun k l h=>⟨h.1,Nat.le_succ_of_le h.2⟩,kk.L hS,Z0 hw5⟩ ?_ ?_ ?_
  ·rintro j σ M' _ ⟨d6,rfl,_,_,_,_,h⟩
   exact h
  ·rintro j dy σ M' C2 hy ⟨d6,rfl,k6,hw6,hJ6,hS6,hL6⟩ hC2
   have hj:j<L.length:=by have:=(Ac.mp hy).1;rwa[Zn] at this
   have hyj:L[j]?=some L[j]:=Aa hj
   generalize L[j]=y at hyj
   rw[Yd hyj] at hy
   cases hy
   have hyn:=hL y (Al hyj)
   obtain⟨x,l,e1,e2,e3,rfl,hs⟩:=hJ6.at hyn
   have x1:=hgt y x e2
   have x2:=hjl y x e2
   delta Wu
   walk_at "ev"
   refine ix_l (Z0 hw6) e1 ?_
   try walk_at "ev"
   refine⟨Zc (Z0 e3),_,e3,by rw[Ad];exact Z3 (by omega),?_⟩
   refine hC2 _ _ ⟨_,rfl,k6.set (by omega) _,Y0 hw6 (by omega),?_,Bz hS6 (by omega),Bz hL6 (by omega)⟩
   have jl:(J y).length≤i:=by obtain⟨l,_,_,h⟩:=hJ.2 y x e2;exact h
   have ny:y∉L.take j:=fun z=>by
    obtain⟨m,hm,em⟩:=List.mem_take_iff_getElem.mp z
    have:=(List.getElem?_inj (by omega) hLn).mp ((Aa (show m<L.length by omega)).trans ((congrArg some em).trans hyj.symm))
    omega
   have ey:jAdd J (L.take j) name y=J y:=if_neg ny
   have ey2:jAdd J (L.take (j+1)) name y=J y++[name]:=if_pos (by rw[Zf hyj];simp)
   refine⟨hJ6.1,fun u v e=>?_⟩
   by_cases eu:u=y
   ·subst eu
    rw[e2] at e
    cases e
    refine⟨_,Zi e3,?_,?_⟩
    ·rw[ey2,ey,Aq];rfl
    ·rw[ey2,Ah,Dh];omega
   ·obtain⟨l,h1,h2,h3⟩:=hJ6.2 u v e
    have eu2:jAdd J (L.take (j+1)) name u=jAdd J (L.take j) name u:=by
     have:(u∈L.take (j+1))=(u∈L.take j):=by rw[Zf hyj,Ap,Am];simp[eu]
     unfold jAdd
     simp only[this]
    exact⟨l,Y0 h1 (fun z=>eu (inj u y v e (z ▸ e2))),by rw[eu2];exact h2,by rw[eu2];exact h3⟩
  ·rintro σ M' ⟨d6,rfl,k6,hw6,hJ6,hS6,hL6⟩
   rw[Zn,Dz] at hJ6
   exact hC _ _ ⟨_,_,_,_,rfl,k6,hw6,hJ6,hS6,Yb6 jo (fun g hg=>(hgm g hg).2) hLo,by rw[Zf hsi,Zx2,hJE,hLE,hgE]⟩
 ·rintro σ M' ⟨d4,d5,d6,J,rfl,k,hw,hJ,hS,jo,hJE⟩
  rw[Ad] at hJ hJE
  rw[Dz] at hJE
  delta Ws
  walk_at "ev"
  exact q J js _ _ jo ⟨ss,nd,hpw,fun x=>(hss x).trans (hx2 x),hJE⟩ (hJ.mono fun k l h=>⟨h.1,by have:=h.2;omega⟩) (fun k x e=>by have:=hgt k x e;omega) k hw (Nat.le_refl _)
end
theorem Qf{κ:Type}[DecidableEq κ](m:List (κ×D))(k j:κ)(v:D):valD (putD m k v) j=if k=j then some v else valD m j:=by
 unfold putD
 split
 ·rename_i h
  unfold valD
  induction m with
  | nil=>simp at h
  | cons p r ih=>
   rw[As,Hs,Hs]
   by_cases hp:p.1=k
   ·rw[if_pos hp]
    by_cases hj:k=j
    ·subst hj;simp[hp]
    ·have:decide (p.1=j)=false:=by rw[decide_eq_false_iff_not,hp];exact hj
     simp only[this]
     rw[if_neg hj]
     by_cases hr:(r.any fun kv=>decide (kv.1=k))=true
     ·have:=ih hr;rw[if_neg hj] at this;exact this
     ·have hn:r.map (fun kv=>if kv.1=k then(kv.1,v) else kv)=r:=by
       rw[List.map_congr_left (g:=id)]
       ·simp
       ·intro kv hkv
        rw[if_neg]
        ·rfl
        ·intro z;exact hr (Lf.mpr ⟨kv,hkv,by simpa using z⟩)
      rw[hn]
   ·rw[if_neg hp]
    have hr:(r.any fun kv=>decide (kv.1=k))=true:=by simpa[hp] using h
    by_cases hj:p.1=j
    ·have:¬k=j:=fun z=>hp (hj.trans z.symm)
     simp[hj,this]
    ·simp only[hj,decide_false]
     exact ih hr
 ·rename_i h
  unfold valD
  rw[List.find?_append]
  by_cases hj:k=j
  ·subst hj
   have:m.find? (fun kv=>decide (kv.1=k))=none:=by
    rw[List.find?_eq_none]
    intro kv hkv z
    exact h (Lf.mpr ⟨kv,hkv,z⟩)
   rw[this]
   simp
  ·rw[if_neg hj]
   simp[hj]
theorem Gk{κ:Type}[DecidableEq κ](m:List (κ×D))(k:κ)(v:D):(putD m k v).length≤m.length+1:=by
 unfold putD
 split
 ·rw[Ad];omega
 ·rw[Ah];exact Nat.le_refl _
noncomputable def updS(f:Str→Nat)(x:Str)(v:Nat):Str→Nat:=fun y=>if x=y then v else f y
theorem Zy(f:Str→Nat)(x:Str)(v:Nat):updS f x v x=v:=if_pos rfl
theorem Xd{f:Str→Nat}{x y:Str}{v:Nat}(h:x≠y):updS f x v y=f y:=if_neg h
def Ver(kv:List (Key×D))(f:Str→Nat):Prop:=∀x:Str,valD kv (.inr x)=if f x=0 then none else some (.int (f x:Nat))
theorem Ver.nil:Ver [] fun _=>0:=fun x=>by rw[if_pos rfl];rfl
theorem Ver.get{kv:List (Key×D)}{f:Str→Nat}(h:Ver kv f)(x:Str):(valD kv (.inr x)).getD (.int 0)= .int (f x:Nat):=by
 rw[h x]
 split
 ·rename_i e;rw[e];rfl
 ·rfl
theorem Ver.put{kv:List (Key×D)}{f:Str→Nat}(h:Ver kv f)(x:Str){v:Nat}(hv:v≠0):Ver (putD kv (.inr x) (.int (v:Nat))) (updS f x v):=by
 intro y
 rw[Qf]
 by_cases e:x=y
 ·subst e
  rw[if_pos rfl,Zy,if_neg hv]
 ·rw[if_neg (fun z=>e (Il.inj z)),Xd e]
  exact h y
theorem Ver.at{kv:List (Key×D)}{f:Str→Nat}(h:Ver kv f){x:Str}(hx:f x≠0):valD kv (.inr x)=some (.int (f x:Nat)):=by rw[h x,if_neg hx]
def Zs2:DSp:=fun ds M Q _=>∃(r:Nat) (x:Str) (kv:List (Key×D)) (c:Str→Nat),ds=[.ref r,.str x]∧Zo M r=some kv∧Ver kv c∧kv.length≤100000∧
 ∀kv',Ver kv' (updS c x (c x+1))→kv'.length≤kv.length+1→Q (.int ((c x+1:Nat):Int)) (M.set r (.dct kv'))
noncomputable def spO(f:Str→Nat):Opd→D
 | .nm x=> .tup [.str x,.int (f x:Nat)]
 | .no i=> .int i
noncomputable def spN(fb fa:Str→Nat):Nd→D
 | .sum x a sg b t=> .tup [.str "sum",.tup [.str x,.int (fa x:Nat)],spO fb a,.str sg,spO fb b,.int t]
 | .test a sg b y n=> .tup [.str "test",spO fb a,.str sg,spO fb b,.int y,.int n]
 | .fin=> .tup [.str "end"]
 | .spin=> .tup [.str "spin"]
def Z04:DSp:=fun ds M Q _=>∃(o:Opd) (r:Nat) (kv:List (Key×D)) (f:Str→Nat),ds=[o.d,.ref r]∧Zo M r=some kv∧Ver kv f∧Q (spO f o) M
def Jz:DSp:=fun ds M Q _=>∃(nd:Nd) (b e:Nat) (kb ke:List (Key×D)) (fb fa:Str→Nat),ds=[nd.d,.ref b,.ref e]∧Zo M b=some kb∧Ver kb fb∧Zo M e=some ke∧Ver ke fa∧(∀x,smN nd=some x→fa x≠0)∧Q (spN fb fa nd) M
def JsOk(lo:Nat)(M:Z2)(names:List Str)(V:Str→Nat)(src:List Int)(T:Int→Str→Nat)(L:List D):Prop:=
 L.length=names.length∧∀(i:Nat) d,L[i]?=some d→∃x rr,names[i]?=some x∧d= .tup [.str x,.int (V x:Nat),.ref rr]∧Za M rr=some (src.map fun z=>D.tup [.int z,.int (T z x:Nat)])∧lo≤rr
theorem JsOk.keep{lo:Nat}{M M':Z2}{names:List Str}{V:Str→Nat}{src:List Int}{T:Int→Str→Nat}{L:List D}(h:JsOk lo M names V src T L)(k:Kp M M'):JsOk lo M' names V src T L:=
 ⟨h.1,fun i d e=>by obtain⟨x,rr,h1,h2,h3,h4⟩:=h.2 i d e;exact⟨x,rr,h1,h2,k.W h3,h4⟩⟩
theorem JsOk.set{lo r:Nat}{M:Z2}{c:Cell}{names:List Str}{V:Str→Nat}{src:List Int}{T:Int→Str→Nat}{L:List D}(h:JsOk lo M names V src T L)(k:r<lo):JsOk lo (M.set r c) names V src T L:=
 ⟨h.1,fun i d e=>by obtain⟨x,rr,h1,h2,h3,h4⟩:=h.2 i d e;exact⟨x,rr,h1,h2,Y0 h3 (by omega),h4⟩⟩
def Rb:DSp:=fun ds M Q _=>∃(jn b s af:Nat) (names:List Str) (kb ka:List (Key×D)) (V:Str→Nat) (src:List Int) (T:Int→Str→Nat),ds=[.ref jn,.ref b,.ref s,.ref af]∧Z4 M jn=some (names.map .str)∧names.length≤100∧Zo M b=some kb∧Ver kb V∧(∀x∈names,V x≠0)∧
 Z4 M s=some (src.map .int)∧src.length≤41∧Zo M af=some ka∧(∀z∈src,∃r kz,valD ka (.inl z)=some (.ref r)∧Zo M r=some kz∧Ver kz (T z))∧
 ∀L M' r,JsOk M.length M' names V src T L→Kp M M'→Za M' r=some L→M.length≤r→Q (.ref r) M'
section
variable{K:Af}
theorem Yv7{Γ G}:RR ⟨K,Γ,G⟩ We X4 Zs2:=by
 rintro ds M Q Z ⟨r,x,kv,c,rfl,hr,hv,hl,q⟩
 have v2:=hv.put x (v:=c x+1) (by omega)
 have l2:=Gk kv (.inr x) (.int ((c x+1:Nat):Int))
 delta We X4
 walk_at "ev"
 refine⟨Zc hr,_,_,hr,rfl,?_⟩
 rw[hv.get x]
 try walk_at "ev"
 rw[show((c x:Nat):Int)+1=((c x+1:Nat):Int) by omega]
 refine .inr (.inl ⟨_,_,hr,rfl,Z3 (by omega),?_⟩)
 refine ix_d (y:= .inr x) (Ve hr) rfl (v2.at (by rw[Zy];omega)) ?_
 rw[Zy]
 exact q _ v2 l2
theorem Ya1{Γ G}:RR ⟨K,Γ,G⟩ Cr Ny Z04:=by
 rintro ds M Q Z ⟨o,r,kv,f,rfl,hr,hv,q⟩
 delta Cr Ny
 cases o with
 | no i=>
  simp only[Opd.d]
  walk_at "ev"
  delta C6
  walk_at "ev"
  exact q
 | nm x=>
  simp only[Opd.d]
  walk_at "ev"
  refine⟨Zc hr,_,_,hr,rfl,?_⟩
  rw[hv.get x]
  exact⟨Z1 (by decide),q⟩
theorem Zz2{Γ G}(g:Γ[11]?=some Z04):RR ⟨K,Γ,G⟩ Vh Xn Jz:=by
 rintro ds M Q Z ⟨nd,b,e,kb,ke,fb,fa,rfl,hb,vb,he,va,hs,q⟩
 delta Vh Xn
 cases nd with
 | sum x p sg s t=>
  simp only[Nd.d]
  walk_at "ev"
  refine⟨_,rfl,?_⟩
  try walk_at "ev"
  refine⟨_,rfl,_,rfl,?_⟩
  refine ix_d (y:= .inr x) he rfl (va.at (hs x rfl)) ?_
  try walk_at "ev"
  simp only[g]
  refine⟨Z1 (by decide),_,rfl,p,b,kb,fb,rfl,hb,vb,_,rfl,_,rfl,s,b,kb,fb,rfl,hb,vb,_,rfl,Z1 (by decide),q⟩
 | test p sg s y n=>
  simp only[Nd.d]
  walk_at "ev"
  refine⟨_,rfl,?_⟩
  try walk_at "ev"
  rw[if_neg (by decide+kernel)]
  delta Yu
  walk_at "ev"
  refine⟨_,rfl,?_⟩
  try walk_at "ev"
  simp only[g]
  refine⟨_,rfl,p,b,kb,fb,rfl,hb,vb,_,rfl,_,rfl,s,b,kb,fb,rfl,hb,vb,_,rfl,_,rfl,Z1 (by decide),q⟩
 | fin=>
  simp only[Nd.d]
  walk_at "ev"
  refine⟨_,rfl,?_⟩
  try walk_at "ev"
  rw[if_neg (by decide+kernel)]
  delta Yu
  walk_at "ev"
  refine⟨_,rfl,?_⟩
  try walk_at "ev"
  rw[if_neg (by decide+kernel)]
  delta Xw
  walk_at "ev"
  exact q
 | spin=>
  simp only[Nd.d]
  walk_at "ev"
  refine⟨_,rfl,?_⟩
  try walk_at "ev"
  rw[if_neg (by decide+kernel)]
  delta Yu
  walk_at "ev"
  refine⟨_,rfl,?_⟩
  try walk_at "ev"
  rw[if_neg (by decide+kernel)]
  delta Xw
  walk_at "ev"
  exact q
theorem Z96{Γ G}:RR ⟨K,Γ,G⟩ Wm X6 Rb:=by
 rintro ds M Q Z ⟨jn,b,s,af,names,kb,ka,V,src,T,rfl,hj,hjl,hb,vb,hV,hs,hsl,ha,hT,q⟩
 delta Wm X6
 walk_at "ev"
 refine⟨Z1 (by decide),_,Z6 hj,?_⟩
 refine Zu (fun i σ M'=>∃d5 d6 L,σ=[some (.ref jn),some (.ref b),some (.ref s),some (.ref af),some (.ref M.length),d5,d6]∧Kp M M'∧Za M' M.length=some L∧L.length=i∧∀(j:Nat) d,L[j]?=some d→∃x rr,names[j]?=some x∧d= .tup [.str x,.int (V x:Nat),.ref rr]∧M.length<rr∧Za M' rr=some (src.map fun z=>D.tup [.int z,.int (T z x:Nat)])) ⟨none,none,[],rfl,Kp.new _ _,Z9 _ _ [],rfl,fun j d h=>by cases h⟩ ?_ ?_ ?_
 ·rintro i σ M' _ ⟨d5,d6,L,rfl,k,_⟩
  exact k.L hj
 ·rintro i dx σ M' C hx ⟨d5,d6,L,rfl,k,hw,hl,hL⟩ hC
  have hi:i<names.length:=by have:=(Ac.mp hx).1;rwa[Ad] at this
  have hxi:names[i]?=some names[i]:=Aa hi
  generalize names[i]=x at hxi
  rw[Aj,hxi] at hx
  cases hx
  delta Wy
  walk_at "ev"
  refine⟨_,k.L hs,?_⟩
  simp only[capD,As,Hb,Lj,Ka,Hq,Dr,Lk]
  refine Yg (fun j σ M2=>∃d0,σ=[d0,some (.ref af),some (.str x)]∧Kp M' M2∧Za M2 M'.length=some ((src.take j).map fun z=>D.tup [.int z,.int (T z x:Nat)])) ⟨none,rfl,Kp.new _ _,Z9 _ _ []⟩ ?_ ?_ ?_
  ·rintro j σ M2 _ ⟨d0,rfl,k2,_⟩
   exact k2.L (k.L hs)
  ·rintro j dz σ M2 C2 hz ⟨d0,rfl,k2,hw2⟩ hC2
   have hj:j<src.length:=by have:=(Ac.mp hz).1;rwa[Ad] at this
   have hzj:src[j]?=some src[j]:=Aa hj
   generalize src[j]=z at hzj
   rw[Aj,hzj] at hz
   cases hz
   obtain⟨rz,kz,e1,e2,e3⟩:=hT z (Al hzj)
   have kk:=k.trans k2
   walk_at "ev"
   refine ix_d (y:= .inl z) (kk.D ha) rfl e1 ?_
   try walk_at "ev"
   refine⟨Zc (kk.D e2),_,_,kk.D e2,rfl,?_⟩
   rw[e3.get x]
   refine⟨Z1 (by decide),_,hw2,by rw[Ad,Ii];exact Z3 (by omega),?_⟩
   refine hC2 _ _ ⟨_,rfl,k2.set (Nat.le_refl _) _,?_⟩
   rw[Zf hzj,Aq]
   exact Zi hw2
  ·rintro σ M2 ⟨d0,rfl,k2,hw2⟩
   rw[Ad,Dz] at hw2
   have kk:=k.trans k2
   have hx0:=hV x (Al hxi)
   try walk_at "ev"
   have hwL:=k2.W hw
   have hml:=Ye hw
   refine⟨Zc (Z0 hwL),?_⟩
   refine ix_d (y:= .inr x) (kk.D hb) rfl (vb.at hx0) ?_
   refine⟨Z1 (by decide),_,hwL,Z3 (by omega),?_⟩
   refine hC _ _ ⟨_,_,_,rfl,kk.set (Nat.le_refl _) _,Zi hwL,by rw[Ah,hl];rfl,fun j d e=>?_⟩
   rcases GT.Ze e with e | ⟨e1,rfl⟩
   ·obtain⟨y,rr,h1,h2,h3,h4⟩:=hL j d e
    exact⟨y,rr,h1,h2,h3,Y0 (k2.W h4) (by omega)⟩
   ·rw[hl] at e1
    subst e1
    exact⟨x,M'.length,hxi,rfl,by omega,Y0 hw2 (by omega)⟩
 ·rintro σ M' ⟨d5,d6,L,rfl,k,hw,hl,hL⟩
  rw[Ad] at hl
  delta V0
  walk_at "ev"
  refine q L _ _ ⟨hl,fun i d e=>?_⟩ k hw (Nat.le_refl _)
  obtain⟨x,rr,h1,h2,h4,h3⟩:=hL i d e
  exact⟨x,rr,h1,h2,h3,by omega⟩
end
noncomputable def updN{α:Type}(F:Nat→α)(i:Nat)(f:α):Nat→α:=fun p=>if p=i then f else F p
theorem Zl{α:Type}(F:Nat→α)(i:Nat)(f:α):updN F i f i=f:=if_pos rfl
theorem Y2{α:Type}{F:Nat→α}{i p:Nat}{f:α}(h:p≠i):updN F i f p=F p:=if_neg h
noncomputable def updV(gv:Str→Nat→Nat×Bool)(x:Str)(v:Nat)(w:Nat×Bool):Str→Nat→Nat×Bool:=fun y u=>if x=y∧u=v then w else gv y u
theorem E9(gv:Str→Nat→Nat×Bool)(x:Str)(v:Nat)(w:Nat×Bool):updV gv x v w x v=w:=if_pos ⟨rfl,rfl⟩
theorem Wc{gv:Str→Nat→Nat×Bool}{c:Str→Nat}{x y:Str}{u:Nat}{w:Nat×Bool}(h:u≤c y):updV gv x (c x+1) w y u=gv y u:=by
 refine if_neg ?_
 rintro⟨rfl,e⟩
 omega
theorem Bw(c:Str→Nat)(x y:Str):c y≤updS c x (c x+1) y:=by
 by_cases e:x=y
 ·subst e;rw[Zy];omega
 ·rw[Xd e];exact Nat.le_refl _
structure Ent(g:Nat→List Nat)(J:Nat→List Str)(Sm:Nat→Option Str)(gv:Str→Nat→Nat×Bool)(fb fa:Nat→Str→Nat)(p:Nat)(x:Str)(v:Nat):Prop where
 ab:¬GT.Av g (gv x v).1 p
 le:(gv x v).1≤p
 jo:(gv x v).2=true→x∈J (gv x v).1∧fb (gv x v).1 x=v
 su:(gv x v).2=false→Sm (gv x v).1=some x∧fa (gv x v).1 x=v
def Nr(g:Nat→List Nat)(Sm:Nat→Option Str)(gv:Str→Nat→Nat×Bool)(q:Nat)(x:Str)(v:Nat):Prop:=v≠0∧¬GT.Av g q (gv x v).1∧((gv x v).1=q→Sm q=some x→(gv x v).2=false)
theorem Nr.upd{g:Nat→List Nat}{Sm:Nat→Option Str}{gv:Str→Nat→Nat×Bool}{c:Str→Nat}{q:Nat}{x y:Str}{v:Nat}{w:Nat×Bool}(h:Nr g Sm gv q y v)(hv:v≤c y):Nr g Sm (updV gv x (c x+1) w) q y v:=by
 unfold Nr
 rw[Wc hv]
 exact h
structure Iv(g:Nat→List Nat)(J:Nat→List Str)(Sm:Nat→Option Str)(i:Nat)(c:Str→Nat)(gv:Str→Nat→Nat×Bool)(fb fa:Nat→Str→Nat):Prop where
 cb:∀p,p<i→∀x,fb p x≤c x
 ca:∀p,p<i→∀x,fa p x≤c x
 a:∀p,p<i→∀x,fa p x≠0→Ent g J Sm gv fb fa p x (fa p x)
 b:∀p,p<i→∀x,fb p x≠0→Ent g J Sm gv fb fa p x (fb p x)∧((gv x (fb p x)).2=false→(gv x (fb p x)).1≠p)
 j:∀p,p<i→∀x∈J p,fb p x≠0∧gv x (fb p x)=(p,true)
 s:∀p,p<i→∀x,Sm p=some x→fa p x≠0∧gv x (fa p x)=(p,false)
 n:∀p,p<i→∀x q,¬GT.Av g q p→(Sm q=some x∨x∈J q)→Nr g Sm gv q x (fa p x)
theorem Iv.zero(g:Nat→List Nat)(J:Nat→List Str)(Sm:Nat→Option Str)(gv:Str→Nat→Nat×Bool):Iv g J Sm 0 (fun _=>0) gv (fun _ _=>0) (fun _ _=>0):=by
 constructor<;>intro p h<;>omega
structure Wv(g:Nat→List Nat)(J:Nat→List Str)(Sm:Nat→Option Str)(i:Nat)(c:Str→Nat)(gv:Str→Nat→Nat×Bool)(fb fa:Nat→Str→Nat)(done:List Str)(f:Str→Nat):Prop where
 iv:Iv g J Sm i c gv fb fa
 c:∀x,f x≤c x
 e:∀x,f x≠0→(Ent g J Sm gv fb fa i x (f x)∧(gv x (f x)).1<i)∨(x∈done∧gv x (f x)=(i,true))
 d:∀x∈done,f x≠0∧gv x (f x)=(i,true)
 n:∀x q,¬GT.Av g q i→q≠i→(Sm q=some x∨x∈J q)→Nr g Sm gv q x (f x)
section
variable{g:Nat→List Nat}{J:Nat→List Str}{Sm:Nat→Option Str}{i n:Nat}{c:Str→Nat}{gv:Str→Nat→Nat×Bool}{fb fa:Nat→Str→Nat}{f:Str→Nat}{done:List Str}
theorem Wv.begin0(h:Iv g J Sm i c gv fb fa)(h0:∀q,¬GT.Av g q i→q=i):Wv g J Sm i c gv fb fa [] fun _=>0:=
 ⟨h,fun _=>Nat.zero_le _,fun _ z=>absurd rfl z,(fun _ z=>(Ak z).elim),fun x q a b=>absurd (h0 q a) b⟩
theorem Wv.begin{u n:Nat}(N:GT.Num g n)(hi:i<n)(h:Iv g J Sm i c gv fb fa)(mu:GT.Must g i u)(lt:u<i):Wv g J Sm i c gv fb fa [] (fa u):=by
 refine⟨h,h.ca u lt,fun x hx=> .inl ?_,(fun _ z=>(Ak z).elim),fun x q a b s=>h.n u lt x q (fun z=>a ((mu.step N hi (by have:=GT.W2 N hi a;omega)).mpr z)) s⟩
 have e:=h.a u lt x hx
 have le:=e.le
 exact⟨⟨GT.Sk mu.dom e.ab,by omega,e.jo,e.su⟩,by omega⟩
theorem Ent.upd{p:Nat}{y:Str}{v:Nat}{x:Str}{w:Nat×Bool}(h:Ent g J Sm gv fb fa p y v)(hv:v≤c y):Ent g J Sm (updV gv x (c x+1) w) fb fa p y v:=by
 have e:=Wc (gv:=gv) (x:=x) (w:=w) hv
 constructor<;>rw[e]
 ·exact h.ab
 ·exact h.le
 ·exact h.jo
 ·exact h.su
theorem Iv.upd(h:Iv g J Sm i c gv fb fa)(x:Str)(w:Nat×Bool):Iv g J Sm i (updS c x (c x+1)) (updV gv x (c x+1) w) fb fa:=by
 refine⟨fun p hp y=>Nat.le_trans (h.cb p hp y) (Bw c x y),fun p hp y=>Nat.le_trans (h.ca p hp y) (Bw c x y),fun p hp y hy=>(h.a p hp y hy).upd (h.ca p hp y),fun p hp y hy=>?_,fun p hp y hy=>?_,fun p hp y hy=>?_,fun p hp y q a s=>(h.n p hp y q a s).upd (h.ca p hp y)⟩
 ·have:=h.b p hp y hy
  rw[Wc (h.cb p hp y)]
  exact⟨this.1.upd (h.cb p hp y),this.2⟩
 ·rw[Wc (h.cb p hp y)];exact h.j p hp y hy
 ·rw[Wc (h.ca p hp y)];exact h.s p hp y hy
theorem Wv.join(h:Wv g J Sm i c gv fb fa done f)(x:Str):Wv g J Sm i (updS c x (c x+1)) (updV gv x (c x+1) (i,true)) fb fa (done++[x]) (updS f x (c x+1)):=by
 have self:∀y,x=y→updS f x (c x+1) y=c x+1∧updV gv x (c x+1) (i,true) y (c x+1)=(i,true):=by
  rintro y rfl
  exact⟨Zy _ _ _,E9 _ _ _ _⟩
 refine⟨h.iv.upd x _,fun y=>?_,fun y hy=>?_,fun y hy=>?_,fun y q a b s=>?_⟩
 ·by_cases e:x=y
  ·subst e;rw[Zy,Zy];exact Nat.le_refl _
  ·rw[Xd e,Xd e];exact h.c y
 ·by_cases e:x=y
  ·obtain⟨s1,s2⟩:=self y e
   rw[s1]
   exact .inr ⟨by rw[e];simp,s2⟩
  ·rw[Xd e] at hy ⊢
   rw[Wc (h.c y)]
   rcases h.e y hy with⟨h1,h2⟩ | ⟨h1,h2⟩
   ·exact .inl ⟨h1.upd (h.c y),h2⟩
   ·exact .inr ⟨Ay _ h1,h2⟩
 ·by_cases e:x=y
  ·obtain⟨s1,s2⟩:=self y e
   rw[s1]
   exact⟨by omega,s2⟩
  ·have hy:y∈done:=by
    rcases Ap.mp hy with z | z
    ·exact z
    ·rw[Am] at z;exact absurd z.symm e
   rw[Xd e,Wc (h.c y)]
   exact h.d y hy
 ·by_cases e:x=y
  ·obtain⟨s1,s2⟩:=self y e
   rw[s1]
   refine⟨by omega,by rw[s2];exact a,fun z=>?_⟩
   rw[s2] at z
   exact absurd z.symm b
  ·rw[Xd e]
   exact(h.n y q a b s).upd (h.c y)
theorem Ent.more{p:Nat}{x:Str}{v:Nat}{f1 f2:Str→Nat}(h:Ent g J Sm gv fb fa p x v)(lt:(gv x v).1<i):Ent g J Sm gv (updN fb i f1) (updN fa i f2) p x v:=
 ⟨h.ab,h.le,fun z=>by rw[Y2 (by omega)];exact h.jo z,fun z=>by rw[Y2 (by omega)];exact h.su z⟩
theorem Wv.done0(h:Wv g J Sm i c gv fb fa (J i) f)(hs:Sm i=none):Iv g J Sm (i+1) c gv (updN fb i f) (updN fa i f):=by
 have ent:∀x,f x≠0→Ent g J Sm gv (updN fb i f) (updN fa i f) i x (f x)∧((gv x (f x)).2=false→(gv x (f x)).1≠i):=by
  intro x hx
  rcases h.e x hx with⟨h1,h2⟩ | ⟨h1,h2⟩
  ·exact⟨h1.more h2,fun _=>by omega⟩
  ·refine⟨⟨by rw[h2];exact GT.Wg,by rw[h2];exact Nat.le_refl _,fun _=>?_,fun z=>by rw[h2] at z;cases z⟩,fun z=>by rw[h2] at z;cases z⟩
   rw[h2]
   exact⟨h1,by rw[Zl]⟩
 have old:∀p,p<i→∀(F:Nat→Str→Nat),updN F i f p=F p:=fun p hp F=>Y2 (by omega)
 refine⟨fun p hp x=>?_,fun p hp x=>?_,fun p hp x hx=>?_,fun p hp x hx=>?_,fun p hp x hx=>?_,fun p hp x hx=>?_,fun p hp x q a s=>?_⟩<;>by_cases e:p=i
 ·rw[e,Zl];exact h.c x
 ·rw[Y2 e];exact h.iv.cb p (by omega) x
 ·rw[e,Zl];exact h.c x
 ·rw[Y2 e];exact h.iv.ca p (by omega) x
 ·subst e;rw[Zl] at hx ⊢;exact(ent x hx).1
 ·rw[Y2 e] at hx ⊢
  have h1:=h.iv.a p (by omega) x hx
  have:=h1.le
  exact h1.more (by omega)
 ·subst e;rw[Zl] at hx ⊢;exact ent x hx
 ·rw[Y2 e] at hx ⊢
  have h1:=h.iv.b p (by omega) x hx
  have:=h1.1.le
  exact⟨h1.1.more (by omega),h1.2⟩
 ·subst e;rw[Zl];exact h.d x hx
 ·rw[Y2 e];exact h.iv.j p (by omega) x hx
 ·subst e;rw[hs] at hx;cases hx
 ·rw[Y2 e];exact h.iv.s p (by omega) x hx
 ·subst e
  rw[Zl]
  by_cases eq:q=p
  ·subst eq
   have hx:x∈J q:=s.resolve_left fun z=>by rw[hs] at z;cases z
   obtain⟨h1,h2⟩:=h.d x hx
   exact⟨h1,by rw[h2];exact GT.Wg,fun _ z=>by rw[hs] at z;cases z⟩
  ·exact h.n x q a eq s
 ·rw[Y2 e];exact h.iv.n p (by omega) x q a s
theorem Wv.doneS{y:Str}(h:Wv g J Sm i c gv fb fa (J i) f)(hs:Sm i=some y):Iv g J Sm (i+1) (updS c y (c y+1)) (updV gv y (c y+1) (i,false)) (updN fb i f) (updN fa i (updS f y (c y+1))):=by
 have ent:∀x,f x≠0→Ent g J Sm (updV gv y (c y+1) (i,false)) (updN fb i f) (updN fa i (updS f y (c y+1))) i x (f x)∧((updV gv y (c y+1) (i,false) x (f x)).2=false→(updV gv y (c y+1) (i,false) x (f x)).1≠i):=by
  intro x hx
  rw[Wc (h.c x)]
  rcases h.e x hx with⟨h1,h2⟩ | ⟨h1,h2⟩
  ·exact⟨(h1.more h2).upd (h.c x),fun _=>by omega⟩
  ·refine⟨Ent.upd (c:=c) ⟨by rw[h2];exact GT.Wg,by rw[h2];exact Nat.le_refl _,fun _=>?_,fun z=>by rw[h2] at z;cases z⟩ (h.c x),fun z=>by rw[h2] at z;cases z⟩
   rw[h2]
   exact⟨h1,by rw[Zl]⟩
 have iv:=h.iv.upd y (i,false)
 have self:=E9 gv y (c y+1) (i,false)
 refine⟨fun p hp x=>?_,fun p hp x=>?_,fun p hp x hx=>?_,fun p hp x hx=>?_,fun p hp x hx=>?_,fun p hp x hx=>?_,fun p hp x q a s=>?_⟩<;>by_cases e:p=i
 ·rw[e,Zl];exact Nat.le_trans (h.c x) (Bw c y x)
 ·rw[Y2 e];exact iv.cb p (by omega) x
 ·rw[e,Zl]
  by_cases ey:y=x
  ·subst ey;rw[Zy,Zy];exact Nat.le_refl _
  ·rw[Xd ey,Xd ey];exact h.c x
 ·rw[Y2 e];exact iv.ca p (by omega) x
 ·subst e
  rw[Zl] at hx ⊢
  by_cases ey:y=x
  ·subst ey
   rw[Zy]
   refine⟨by rw[self];exact GT.Wg,by rw[self];exact Nat.le_refl _,(fun z=>by rw[self] at z;cases z),fun _=>?_⟩
   rw[self]
   exact⟨hs,by rw[Zl,Zy]⟩
  ·rw[Xd ey] at hx ⊢
   exact(ent x hx).1
 ·rw[Y2 e] at hx ⊢
  have h1:=iv.a p (by omega) x hx
  have:=h1.le
  exact h1.more (by omega)
 ·subst e;rw[Zl] at hx ⊢;exact ent x hx
 ·rw[Y2 e] at hx ⊢
  have h1:=iv.b p (by omega) x hx
  have:=h1.1.le
  exact⟨h1.1.more (by omega),h1.2⟩
 ·subst e;rw[Zl,Wc (h.c x)];exact h.d x hx
 ·rw[Y2 e];exact iv.j p (by omega) x hx
 ·subst e
  rw[hs] at hx
  cases hx
  rw[Zl,Zy]
  exact⟨by omega,self⟩
 ·rw[Y2 e];exact iv.s p (by omega) x hx
 ·subst e
  rw[Zl]
  by_cases ey:y=x
  ·subst ey
   rw[Zy]
   exact⟨by omega,by rw[self];exact a,fun _ _=>by rw[self]⟩
  ·rw[Xd ey]
   refine Nr.upd (c:=c) ?_ (h.c x)
   by_cases eq:q=p
   ·subst eq
    have hx:x∈J q:=s.resolve_left fun z=>by rw[hs] at z;exact ey (Dm z)
    obtain⟨h1,h2⟩:=h.d x hx
    exact⟨h1,by rw[h2];exact GT.Wg,fun _ z=>by rw[hs] at z;exact absurd (Dm z) ey⟩
   ·exact h.n x q a eq s
 ·rw[Y2 e];exact iv.n p (by omega) x q a s
end
noncomputable def TH(fa:Nat→Str→Nat)(z:Int):Str→Nat:=if z= -1 then fun _=>0 else fa z.toNat
theorem Po(fa:Nat→Str→Nat)(p:Nat):TH fa (p:Int)=fa p:=by
 unfold TH
 rw[if_neg (by omega),Int.toNat_natCast]
theorem Zm6{g:Nat→List Nat}{h p:Nat}(p0:p≠0)(a:GT.Av g h p):∃z,p∈g z∧GT.Av g h z∧GT.Av g p z:=by
 have key:∀y,GT.Av g h y→(∃z,p∈g z∧GT.Av g h z∧GT.Av g p z)∨GT.Av g p y:=by
  intro y hy
  induction hy with
  | zero _=>exact .inr (.zero p0)
  | step hx hy hn ih=>
   rename_i x y
   rcases ih with ih | ih
   ·exact .inl ih
   ·by_cases e:y=p
    ·subst e;exact .inl ⟨x,hy,hx,ih⟩
    ·exact .inr (.step ih hy e)
 exact(key p a).resolve_right fun z=>z.ne rfl
theorem Y29{g:Nat→List Nat}{n a b:Nat}(N:GT.Num g n)(ha:a<n)(hb:b<n)(h1:¬GT.Av g a b)(h2:¬GT.Av g b a):a=b:=by
 have:=GT.W2 N hb h1
 have:=GT.W2 N ha h2
 omega
theorem Yj1{gr:List Nd}{J:Nat→List Str}{c:Str→Nat}{gv:Str→Nat→Nat×Bool}{fb fa:Nat→Str→Nat}(N:GT.Num (wy gr) gr.length)(iv:Iv (wy gr) J (smOf gr) gr.length c gv fb fa)(jo:JOk gr (Mtg gr) J){p:Nat}{x:Str}(hp:p<gr.length)(hx:x∈J p):
  ∃z1 z2:Int,SrcZ gr p z1∧SrcZ gr p z2∧TH fa z1 x≠fb p x∧TH fa z2 x≠fb p x∧TH fa z1 x≠TH fa z2 x:=by
 obtain⟨q,⟨sd,z,hz,hw,dz⟩,gq⟩:=jo p x hx
 obtain⟨own1,own2⟩:=iv.j p hp x hx
 obtain⟨n1,n2,n3⟩:=iv.n z hz x q dz (gq.imp id And.left)
 have ez:=iv.a z hz x n1
 generalize hh:(gv x (fa z x)).1=h at n2 n3
 have hl:h<gr.length:=by have:=ez.le;omega
 have hq:q<gr.length:=by have:=GT.W2 N hl n2;omega
 have own:fa z x≠fb p x:=by
  intro e
  rw[e,own2] at hh
  cases hh
  have qp:q=p:=sd.resolve_right n2
  subst qp
  have:smOf gr q=some x:=gq.resolve_right fun z=>z.2 rfl
  have:=n3 rfl this
  rw[e,own2] at this
  cases this
 have nsd:h=p∨GT.Av (wy gr) h p:=by
  by_cases a:GT.Av (wy gr) h p
  ·exact .inr a
  ·refine .inl ?_
   rcases sd with rfl | sd
   ·exact Y29 N hl hp a n2
   ·exact absurd sd (GT.Sk a n2)
 by_cases p0:p=0
 ·subst p0
  refine⟨z,-1,.inr ⟨z,rfl,hz,hw⟩,.inl ⟨rfl,rfl⟩,by rw[Po];exact own,Hw own1,by rw[Po];exact n1⟩
 ·have:∃y,p∈wy gr y∧GT.Av (wy gr) h y∧GT.Av (wy gr) p y:=by
   rcases nsd with rfl | a
   ·obtain⟨y,hy,hpy⟩:=N.up h hp p0
    have:∃k,GT.Av (wy gr) k h∧k≠0:=⟨gr.length,GT.Yr7 N h hp hp,by have:=N.pos;omega⟩
    obtain⟨k,ak,_⟩:=this
    obtain⟨y,h1,_,h3⟩:=Zm6 p0 ak
    exact⟨y,h1,h3,h3⟩
   ·exact Zm6 p0 a
  obtain⟨y,y1,y2,y3⟩:=this
  have hy:=y2.lt N
  have giver:∀v,fa y x=v→v≠0→¬GT.Av (wy gr) (gv x v).1 y:=by
   rintro v rfl hv
   exact(iv.a y hy x hv).ab
  refine⟨z,y,.inr ⟨z,rfl,hz,hw⟩,.inr ⟨y,rfl,hy,y1⟩,by rw[Po];exact own,?_,?_⟩
  ·rw[Po]
   intro e
   have:=giver _ e own1
   rw[own2] at this
   exact this y3
  ·rw[Po,Po]
   intro e
   have:=giver _ e.symm n1
   rw[hh] at this
   exact this y2
def Dk(M:Z2)(a:Nat)(f:Str→Nat)(b:Nat):Prop:=∃kv,Zo M a=some kv∧Ver kv f∧kv.length≤b
theorem Dk.keep{M M':Z2}{a b:Nat}{f:Str→Nat}(h:Dk M a f b)(k:Kp M M'):Dk M' a f b:=by obtain⟨kv,h1,h2⟩:=h;exact⟨kv,k.D h1,h2⟩
theorem Dk.set{M:Z2}{a b r:Nat}{c:Cell}{f:Str→Nat}(h:Dk M a f b)(n:r≠a):Dk (M.set r c) a f b:=by obtain⟨kv,h1,h2⟩:=h;exact⟨kv,Wq h1 n,h2⟩
theorem Dk.lt{M:Z2}{a b:Nat}{f:Str→Nat}(h:Dk M a f b):a<M.length:=by obtain⟨kv,h1,_⟩:=h;exact G4 h1
theorem Dk.le{M:Z2}{a b b':Nat}{f:Str→Nat}(h:Dk M a f b)(n:b≤b'):Dk M a f b':=by obtain⟨kv,h1,h2,h3⟩:=h;exact⟨kv,h1,h2,by omega⟩
structure Mem(M:Z2)(A:Nat→Prop)(rC rB rA iB iA bC:Nat)(c:Str→Nat)(fb fa:Nat→Str→Nat)(rbs:List Nat)(kvA:List (Key×D)):Prop where
 o:rC<rB∧rB<rA∧∀a,A a→rA<a
 cC:Dk M rC c bC
 wB:Za M rB=some (rbs.map .ref)
 lB:rbs.length=iB
 bB:∀(p a:Nat),rbs[p]?=some a→A a∧Dk M a (fb p) 100000
 dA:Zo M rA=some kvA
 lA:kvA.length≤iA+1
 a0:∃a,valD kvA (.inl (-1))=some (.ref a)∧A a∧Dk M a (fun _=>0) 0
 aA:∀p:Nat,p<iA→∃a,valD kvA (.inl (p:Int))=some (.ref a)∧A a∧Dk M a (fa p) (200 * (p+1))
section
variable{M M':Z2}{A A':Nat→Prop}{rC rB rA iB iA bC:Nat}{c c':Str→Nat}{fb fa:Nat→Str→Nat}{rbs:List Nat}{kvA:List (Key×D)}
theorem Mem.keep(h:Mem M A rC rB rA iB iA bC c fb fa rbs kvA)(k:Kp M M'):Mem M' A rC rB rA iB iA bC c fb fa rbs kvA where
 o:=h.o
 cC:=h.cC.keep k
 wB:=k.W h.wB
 lB:=h.lB
 bB:=fun p a e=>⟨(h.bB p a e).1,(h.bB p a e).2.keep k⟩
 dA:=k.D h.dA
 lA:=h.lA
 a0:=by obtain⟨a,h1,h2,h3⟩:=h.a0;exact⟨a,h1,h2,h3.keep k⟩
 aA:=fun p hp=>by obtain⟨a,h1,h2,h3⟩:=h.aA p hp;exact⟨a,h1,h2,h3.keep k⟩
theorem Mem.ch(h:Mem M A rC rB rA iB iA bC c fb fa rbs kvA)(w:∀a,a<M.length→A a→A' a)(o:∀a,A' a→rA<a):Mem M A' rC rB rA iB iA bC c fb fa rbs kvA where
 o:=⟨h.o.1,h.o.2.1,o⟩
 cC:=h.cC
 wB:=h.wB
 lB:=h.lB
 bB:=fun p a e=>⟨w a (h.bB p a e).2.lt (h.bB p a e).1,(h.bB p a e).2⟩
 dA:=h.dA
 lA:=h.lA
 a0:=by obtain⟨a,h1,h2,h3⟩:=h.a0;exact⟨a,h1,w a h3.lt h2,h3⟩
 aA:=fun p hp=>by obtain⟨a,h1,h2,h3⟩:=h.aA p hp;exact⟨a,h1,w a h3.lt h2,h3⟩
theorem Mem.leC{b':Nat}(h:Mem M A rC rB rA iB iA bC c fb fa rbs kvA)(n:bC≤b'):Mem M A rC rB rA iB iA b' c fb fa rbs kvA:=
 ⟨h.o,h.cC.le n,h.wB,h.lB,h.bB,h.dA,h.lA,h.a0,h.aA⟩
theorem Mem.setC{kv:List (Key×D)}{b':Nat}(h:Mem M A rC rB rA iB iA bC c fb fa rbs kvA)(v:Ver kv c')(l:kv.length≤b'):Mem (M.set rC (.dct kv)) A rC rB rA iB iA b' c' fb fa rbs kvA:=by
 obtain⟨o1,o2,o3⟩:=h.o
 refine⟨h.o,?_,Y0 h.wB (by omega),h.lB,fun p a e=>?_,Wq h.dA (by omega),h.lA,?_,fun p hp=>?_⟩
 ·obtain⟨kv0,h1,_⟩:=h.cC
  exact⟨kv,Ve h1,v,l⟩
 ·have:=h.bB p a e
  have:=o3 a this.1
  exact⟨(h.bB p a e).1,(h.bB p a e).2.set (by omega)⟩
 ·obtain⟨a,h1,h2,h3⟩:=h.a0
  have:=o3 a h2
  exact⟨a,h1,h2,h3.set (by omega)⟩
 ·obtain⟨a,h1,h2,h3⟩:=h.aA p hp
  have:=o3 a h2
  exact⟨a,h1,h2,h3.set (by omega)⟩
theorem Mem.setV{r:Nat}{x:Cell}(h:Mem M A rC rB rA iB iA bC c fb fa rbs kvA)(hr:rA<r)(hA:¬A r):Mem (M.set r x) A rC rB rA iB iA bC c fb fa rbs kvA:=by
 obtain⟨o1,o2,o3⟩:=h.o
 have ne:∀a,A a→r≠a:=fun a ha z=>hA (z ▸ ha)
 refine⟨h.o,h.cC.set (by omega),Y0 h.wB (by omega),h.lB,fun p a e=>?_,Wq h.dA (by omega),h.lA,?_,fun p hp=>?_⟩
 ·exact⟨(h.bB p a e).1,(h.bB p a e).2.set (ne a (h.bB p a e).1)⟩
 ·obtain⟨a,h1,h2,h3⟩:=h.a0
  exact⟨a,h1,h2,h3.set (ne a h2)⟩
 ·obtain⟨a,h1,h2,h3⟩:=h.aA p hp
  exact⟨a,h1,h2,h3.set (ne a h2)⟩
theorem Mem.before{b:Nat}{f:Str→Nat}(h:Mem M A rC rB rA iB iA bC c fb fa rbs kvA)(hb:A b)(hf:Dk M b f 100000):Mem (M.set rB (.lst ((rbs++[b]).map .ref))) A rC rB rA (iB+1) iA bC c (updN fb iB f) fa (rbs++[b]) kvA:=by
 obtain⟨o1,o2,o3⟩:=h.o
 refine⟨h.o,h.cC.set (by omega),Zi h.wB,by rw[Ah,h.lB];rfl,fun p a e=>?_,Wq h.dA (by omega),h.lA,?_,fun p hp=>?_⟩
 ·rcases GT.Ze e with e | ⟨e1,rfl⟩
  ·have hp:p<rbs.length:=(Ac.mp e).1
   rw[h.lB] at hp
   have:=o3 a (h.bB p a e).1
   rw[Y2 (by omega)]
   exact⟨(h.bB p a e).1,(h.bB p a e).2.set (by omega)⟩
  ·rw[h.lB] at e1
   subst e1
   have:=o3 _ hb
   rw[Zl]
   exact⟨hb,hf.set (by omega)⟩
 ·obtain⟨a,h1,h2,h3⟩:=h.a0
  have:=o3 a h2
  exact⟨a,h1,h2,h3.set (by omega)⟩
 ·obtain⟨a,h1,h2,h3⟩:=h.aA p hp
  have:=o3 a h2
  exact⟨a,h1,h2,h3.set (by omega)⟩
theorem Mem.after{v:Nat}{f:Str→Nat}(h:Mem M A rC rB rA iB iA bC c fb fa rbs kvA)(hv:A v)(hf:Dk M v f (200 * (iA+1))):Mem (M.set rA (.dct (putD kvA (.inl (iA:Int)) (.ref v)))) A rC rB rA iB (iA+1) bC c fb (updN fa iA f) rbs (putD kvA (.inl (iA:Int)) (.ref v)):=by
 obtain⟨o1,o2,o3⟩:=h.o
 refine⟨h.o,h.cC.set (by omega),Y0 h.wB (by omega),h.lB,fun p a e=>?_,Ve h.dA,?_,?_,fun p hp=>?_⟩
 ·have:=o3 a (h.bB p a e).1
  exact⟨(h.bB p a e).1,(h.bB p a e).2.set (by omega)⟩
 ·have:=Gk kvA (.inl (iA:Int)) (.ref v)
  have:=h.lA
  omega
 ·obtain⟨a,h1,h2,h3⟩:=h.a0
  have:=o3 a h2
  refine⟨a,?_,h2,h3.set (by omega)⟩
  rw[Qf,if_neg (fun z=>by have:=Ds.inj z;omega)]
  exact h1
 ·by_cases e:p=iA
  ·subst e
   have:=o3 v hv
   refine⟨v,?_,hv,by rw[Zl];exact hf.set (by omega)⟩
   rw[Qf,if_pos rfl]
  ·obtain⟨a,h1,h2,h3⟩:=h.aA p (by omega)
   have:=o3 a h2
   refine⟨a,?_,h2,by rw[Y2 e];exact h3.set (by omega)⟩
   rw[Qf,if_neg (fun z=>by have:=Ds.inj z;omega)]
   exact h1
end
theorem Dk.put{M:Z2}{a b v:Nat}{f:Str→Nat}{x:Str}{kv:List (Key×D)}(h1:Zo M a=some kv)(h2:Ver kv f)(h3:kv.length≤b)(hv:v≠0):Dk (M.set a (.dct (putD kv (.inr x) (.int (v:Nat))))) a (updS f x v) (b+1):=
 ⟨_,Ve h1,h2.put x hv,by have:=Gk kv (.inr x) (.int (v:Nat));omega⟩
noncomputable def vIn(w:(Str→Nat)×(Str→Nat))(l:List Str):(Str→Nat)×(Str→Nat):=l.foldl (fun w y=>(updS w.1 y (w.1 y+1),updS w.2 y (w.1 y+1))) w
noncomputable def vOn(gr:List Nd)(J:Nat→List Str)(ms:List Nat)(w:(Str→Nat)×(Nat→Str→Nat)×(Nat→Str→Nat))(i:Nat):(Str→Nat)×(Nat→Str→Nat)×(Nat→Str→Nat):=
 let u:=vIn (w.1,if i=0 then(fun _=>0) else w.2.2 (trI ms i).toNat) (J i)
 match smOf gr i with
 | none=>(u.1,updN w.2.1 i u.2,updN w.2.2 i u.2)
 | some y=>(updS u.1 y (u.1 y+1),updN w.2.1 i u.2,updN w.2.2 i (updS u.2 y (u.1 y+1)))
theorem Zz4{gr:List Nd}{J:Nat→List Str}{ms:List Nat}{w:(Str→Nat)×(Nat→Str→Nat)×(Nat→Str→Nat)}{i:Nat}{c1 f0 f:Str→Nat}(hs:smOf gr i=none)(hf:f0=if i=0 then(fun _=>0) else w.2.2 (trI ms i).toNat)(hv:(c1,f)=vIn (w.1,f0) (J i)):(c1,updN w.2.1 i f,updN w.2.2 i f)=vOn gr J ms w i:=by
 unfold vOn
 rw[hs,←hf,←hv]
theorem Zt4{gr:List Nd}{J:Nat→List Str}{ms:List Nat}{w:(Str→Nat)×(Nat→Str→Nat)×(Nat→Str→Nat)}{i:Nat}{c1 f0 f:Str→Nat}{y:Str}(hs:smOf gr i=some y)(hf:f0=if i=0 then(fun _=>0) else w.2.2 (trI ms i).toNat)(hv:(c1,f)=vIn (w.1,f0) (J i)):(updS c1 y (c1 y+1),updN w.2.1 i f,updN w.2.2 i (updS f y (c1 y+1)))=vOn gr J ms w i:=by
 unfold vOn
 rw[hs,←hf,←hv]
section
variable{K:Af}
theorem Zq8{Γ G}(g9:Γ[9]?=some Zs2){M0 M:Z2}{Q:DK}{C bk:DEnv→Z2→Prop}{a rT rS rJ rC rB rA lo i:Nat}{gr:List Nd}{nd:Nd}{ms js rbs:List Nat}{J:Nat→List Str}{c:Str→Nat}{gv:Str→Nat→Nat×Bool}{fb fa:Nat→Str→Nat}{kvA:List (Key×D)}{d9 d10:Option D}{W:(Str→Nat)×(Nat→Str→Nat)×(Nat→Str→Nat)}(hW:W=vOn gr J ms (c,fb,fa) i)
  (hT:Z4 M0 rT=some (Bl ms)) (mo:Xi (wy gr) gr.length ms) (num:GT.Num (wy gr) gr.length) (hn:gr.length≤40) (hd:gr[i]?=some nd) (hJr:Z4 M0 rJ=some (js.map .ref)) (hjl:js.length=gr.length) (hJ:∀(k x:Nat),js[k]?=some x→Za M0 x=some ((J k).map .str)∧(J k).length≤100)
  (h0:M0.length≤rC) (hlo:rA<lo) (hlm:lo≤M.length) (kM:Kp M0 M) (mem:Mem M (fun x=>lo≤x) rC rB rA i i (101 * i) c fb fa rbs kvA) (iv:Iv (wy gr) J (smOf gr) i c gv fb fa)
  (q:∀M2 d9 d10 c gv fb fa rbs kvA,Kp M0 M2→lo≤M2.length→Mem M2 (fun x=>lo≤x) rC rB rA (i+1) (i+1) (101 * (i+1)) c fb fa rbs kvA→Iv (wy gr) J (smOf gr) (i+1) c gv fb fa→(c,fb,fa)=W→C [some (.ref a),some (.ref rT),some (.ref rS),some (.ref rJ),some (.ref rC),some (.ref rB),some (.ref rA),some (.int i),some nd.d,d9,d10] M2):
  tss ⟨K,Γ,G⟩ noX G2 {nx:=C,rt:=Q,bk:=bk,ct:=C} [some (.ref a),some (.ref rT),some (.ref rS),some (.ref rJ),some (.ref rC),some (.ref rB),some (.ref rA),some (.int i),some nd.d,d9,d10] M:=by
 have hi:i<gr.length:=(Ac.mp hd).1
 have hml:=mo.1
 obtain⟨av,f0,hval,⟨kv0,hkv,hver,hlen⟩,wv,hf0⟩:∃av f0,valD kvA (.inl (trI ms i))=some (.ref av)∧Dk M av f0 (200 * i)∧Wv (wy gr) J (smOf gr) i c gv fb fa [] f0∧f0=if i=0 then(fun _=>0) else fa (trI ms i).toNat:=by
  by_cases h0:i=0
  ·subst h0
   obtain⟨x,h1,h2,h3⟩:=mem.a0
   exact⟨x,_,h1,h3,Wv.begin0 iv (fun q a=>by have:=GT.W2 num hi a;omega),rfl⟩
  ·obtain⟨u,e,mu⟩:=Rt mo hi h0
   have lt:=mu.lt num hi
   obtain⟨x,h1,h2,h3⟩:=mem.aA u lt
   exact⟨x,_,by rw[e];exact h1,h3.le (by omega),Wv.begin num hi iv mu lt,by rw[if_neg h0,e,Int.toNat_natCast]⟩
 obtain⟨W0,hW0⟩:∃W0,W0=(c,f0):=⟨_,rfl⟩
 have hWn:∀c1 f,(c1,f)=vIn W0 (J i)→smOf gr i=none→(c1,updN fb i f,updN fa i f)=W:=fun c1 f e hs=>by rw[hW0] at e;rw[hW];exact Zz4 (w:=(c,fb,fa)) hs hf0 e
 have hWs:∀c1 f y,(c1,f)=vIn W0 (J i)→smOf gr i=some y→(updS c1 y (c1 y+1),updN fb i f,updN fa i (updS f y (c1 y+1)))=W:=fun c1 f y e hs=>by rw[hW0] at e;rw[hW];exact Zt4 (w:=(c,fb,fa)) hs hf0 e
 delta G2
 walk_at "ev"
 refine ix_l (kM.L hT) (Ct (by omega)) ?_
 refine ix_d (y:= .inl (trI ms i)) mem.dA rfl hval ?_
 try walk_at "ev"
 refine .inl ⟨_,hkv,?_⟩
 have hvA:¬(lo≤M.length∧M.length≠M.length):=fun z=>z.2 rfl
 have mem:=(mem.ch (A':=fun x=>lo≤x∧x≠M.length) (fun x hx hA=>⟨hA,by omega⟩) fun x hx=>by have:=hx.1;omega).keep (Kp.new M [.dct kv0])
 have kM1:=kM.app [.dct kv0]
 have dv:Dk (M++[.dct kv0]) M.length f0 (200 * i+0):=⟨kv0,V9 _ _ [],hver,hlen⟩
 obtain⟨o1,o2,o3⟩:=mem.o
 have h0M:=kM.len
 obtain⟨xj,hxj⟩:∃x,js[i]?=some x:=⟨_,Aa (by omega)⟩
 obtain⟨hj1,hj2⟩:=hJ i xj hxj
 try walk_at "ev"
 refine ix_l (kM1.L hJr) (by rw[Aj,hxj];rfl) ?_
 try walk_at "ev"
 refine⟨_,kM1.L (Z0 hj1),?_⟩
 refine Zu (fun j σ M2=>∃d10 c gv f,σ=[some (.ref a),some (.ref rT),some (.ref rS),some (.ref rJ),some (.ref rC),some (.ref rB),some (.ref rA),some (.int i),some nd.d,some (.ref M.length),d10]∧Kp M0 M2∧Mem M2 (fun x=>lo≤x∧x≠M.length) rC rB rA i i (101 * i+j) c fb fa rbs kvA∧Dk M2 M.length f (200 * i+j)∧Wv (wy gr) J (smOf gr) i c gv fb fa ((J i).take j) f∧(c,f)=vIn W0 ((J i).take j)) ⟨_,c,gv,f0,rfl,kM1,mem,dv,wv,hW0.symm⟩ ?_ ?_ ?_
 ·rintro j σ M2 _ ⟨d10,c,gv,f,rfl,k,_⟩
  exact k.L (Z0 hj1)
 ·rintro j dx σ M2 C2 hx ⟨d10,c,gv,f,rfl,k,mem,⟨kv,hk1,hk2,hk3⟩,wv,hV⟩ hC2
  have hj:j< (J i).length:=by have:=(Ac.mp hx).1;rwa[Ad] at this
  have hyj:(J i)[j]?=some (J i)[j]:=Aa hj
  generalize (J i)[j]=y at hyj
  rw[Aj,hyj] at hx
  cases hx
  obtain⟨kvC,c1,c2,c3⟩:=mem.cC
  delta Z63
  walk_at "ev"
  simp only[g9]
  refine⟨rC,y,kvC,c,rfl,c1,c2,by omega,fun kv' v1 l1=>?_⟩
  have hk1':=Wq (c:= .dct kv') hk1 (show rC≠M.length by omega)
  try walk_at "ev"
  refine .inr (.inl ⟨_,_,hk1',rfl,Z3 (by omega),?_⟩)
  refine hC2 _ _ ⟨_,_,updV gv y (c y+1) (i,true),_,rfl,(k.set (by omega) _).set (by omega) _,((mem.setC v1 (b':=101 * i+(j+1)) (by omega)).setV (by omega) hvA),Dk.put hk1' hk2 hk3 (by omega),?_,?_⟩
  ·rw[Zf hyj]
   exact wv.join y
  ·unfold vIn at hV ⊢
   rw[Zf hyj,Kz,←hV]
   rfl
 ·rintro σ M2 ⟨d10,c,gv,f,rfl,k,mem,dv,wv,hV⟩
  rw[Ad] at mem dv wv hV
  rw[Dz] at wv hV
  obtain⟨kv,hk1,hk2,hk3⟩:=dv
  delta Z28
  walk_at "ev"
  refine⟨Zc (Z0 mem.wB),.inl ⟨_,hk1,?_⟩⟩
  have kb:=Kp.new M2 [.dct kv]
  have mem:=mem.keep kb
  have db:Dk (M2++[.dct kv]) M2.length f 100000:=⟨kv,V9 _ _ [],hk2,by omega⟩
  have hvl:=G4 hk1
  refine⟨_,mem.wB,by rw[Ad,mem.lB];exact Z3 (by omega),?_⟩
  have mem:=mem.before (b:=M2.length) ⟨by omega,by omega⟩ db
  rw[Aq,List.map_singleton] at mem
  have hk1:=Wq (c:= .lst (rbs.map .ref++[.ref M2.length])) (kb.D hk1) (show rB≠M.length by omega)
  have k:=(k.trans kb).set (show M0.length≤rB by omega) (.lst (rbs.map .ref++[.ref M2.length]))
  generalize (M2++[Cell.dct kv]).set rB (Cell.lst (rbs.map D.ref++[D.ref M2.length]))=M3 at mem hk1 k ⊢
  have fin:∀(M4:Z2) (c:Str→Nat) (gv:Str→Nat→Nat×Bool) (f':Str→Nat) (bk:DEnv→Z2→Prop),Kp M0 M4→Mem M4 (fun x=>lo≤x∧x≠M.length) rC rB rA (i+1) i (101 * (i+1)) c (updN fb i f) fa (rbs++[M2.length]) kvA→Dk M4 M.length f' (200 * (i+1))→Iv (wy gr) J (smOf gr) (i+1) c gv (updN fb i f) (updN fa i f')→(c,updN fb i f,updN fa i f')=W→
    tss ⟨K,Γ,G⟩ noX G3 {nx:=C,rt:=Q,bk:=bk,ct:=C} [some (.ref a),some (.ref rT),some (.ref rS),some (.ref rJ),some (.ref rC),some (.ref rB),some (.ref rA),some (.int i),some nd.d,some (.ref M.length),d10] M4:=by
   intro M4 c gv f' bk k4 mem dv iv hE
   have hl4:=dv.lt
   have lA:=mem.lA
   delta G3
   walk_at "ev"
   refine .inr (.inl ⟨_,_,mem.dA,rfl,Z3 (by omega),?_⟩)
   have mem:=(mem.ch (A':=fun x=>lo≤x) (fun x _ hx=>hx.1) fun x hx=>by omega).after (v:=M.length) hlm dv
   exact q _ _ _ c gv _ _ _ _ (k4.set (by omega) _) (by rw[List.length_set];omega) mem iv hE
  have smi:smOf gr i=smN nd:=by unfold smOf;rw[hd];rfl
  cases nd with
  | sum x p sg s t=>
   simp only[Nd.d]
   try walk_at "ev"
   refine⟨_,rfl,?_⟩
   try walk_at "ev"
   refine⟨_,rfl,?_⟩
   obtain⟨kvC,c1,c2,c3⟩:=mem.cC
   simp only[g9]
   refine⟨rC,x,kvC,c,rfl,c1,c2,by omega,fun kv' v1 l1=>?_⟩
   have hk1':=Wq (c:= .dct kv') hk1 (show rC≠M.length by omega)
   try walk_at "ev"
   refine⟨_,rfl,.inr (.inl ⟨_,_,hk1',rfl,Z3 (by omega),?_⟩)⟩
   exact fin _ _ _ _ _ ((k.set (by omega) _).set (by omega) _) ((mem.setC v1 (b':=101 * (i+1)) (by omega)).setV (by omega) hvA) ((Dk.put hk1' hk2 hk3 (by omega)).le (by omega)) (wv.doneS (by rw[smi];rfl)) (hWs _ _ _ hV (by rw[smi];rfl))
  | test p sg s y n=>
   simp only[Nd.d]
   try walk_at "ev"
   refine⟨_,rfl,?_⟩
   try walk_at "ev"
   rw[if_neg (by decide+kernel)]
   exact fin _ _ _ _ _ k (mem.leC (by omega)) ⟨kv,hk1,hk2,by omega⟩ (wv.done0 (by rw[smi];rfl)) (hWn _ _ hV (by rw[smi];rfl))
  | fin=>
   simp only[Nd.d]
   try walk_at "ev"
   refine⟨_,rfl,?_⟩
   try walk_at "ev"
   rw[if_neg (by decide+kernel)]
   exact fin _ _ _ _ _ k (mem.leC (by omega)) ⟨kv,hk1,hk2,by omega⟩ (wv.done0 (by rw[smi];rfl)) (hWn _ _ hV (by rw[smi];rfl))
  | spin=>
   simp only[Nd.d]
   try walk_at "ev"
   refine⟨_,rfl,?_⟩
   try walk_at "ev"
   rw[if_neg (by decide+kernel)]
   exact fin _ _ _ _ _ k (mem.leC (by omega)) ⟨kv,hk1,hk2,by omega⟩ (wv.done0 (by rw[smi];rfl)) (hWn _ _ hV (by rw[smi];rfl))
end
theorem Zz0(xs:List D):U.cutD xs (some 1) none=xs.drop 1:=by
 have e1:HT.sIx xs.length xs.length none=xs.length:=rfl
 have e2:HT.sIx xs.length 0 (some 1)=min 1 xs.length:=HT.Yh6 xs.length 0 1
 unfold U.cutD
 rw[e1,e2]
 cases xs with
 | nil=>rfl
 | cons x r=>
  rw[Nat.min_eq_left (by simp)]
  exact Lv (by rw[List.length_drop];exact Nat.le_refl _)
theorem Rws.choose{α:Type}{M:Z2}{rs:List Nat}{n:Nat}{P:Nat→List D→Prop}{f:α→D}{R:Nat→List α→Prop}(h:Rws M rs n P)(hP:∀k l,P k l→∃s:List α,l=s.map f∧R k s):
  ∃J:Nat→List α,∀(k x:Nat),rs[k]?=some x→Za M x=some ((J k).map f)∧R k (J k):=by
 have:∀k:Nat,∃s:List α,∀x,rs[k]?=some x→Za M x=some (s.map f)∧R k s:=by
  intro k
  cases e:rs[k]? with
  | none=>exact⟨[],fun x h=>by cases h⟩
  | some x=>
   obtain⟨l,h1,h2⟩:=h.2 k x e
   obtain⟨s,rfl,h3⟩:=hP k l h2
   exact⟨s,fun y hy=>by cases hy;exact⟨h1,h3⟩⟩
 obtain⟨J,hJ⟩:=Classical.axiomOfChoice this
 exact⟨J,hJ⟩
def Yr(r0:Nat)(M:Z2)(gr:List Nd)(J:Nat→List Str)(S:Nat→List Int)(fb fa:Nat→Str→Nat)(Fd:List D):Prop:=
 Fd.length=gr.length∧∀(k:Nat) d nd,Fd[k]?=some d→gr[k]?=some nd→∃rj L,d= .tup [.ref rj,spN (fb k) (fa k) nd]∧Za M rj=some L∧(∃lo,r0<lo∧JsOk lo M (J k) (fb k) (S k) (TH fa) L)∧r0<rj∧(J k).length≤100∧(S k).length≤41
noncomputable def vAll(gr:List Nd)(J:Nat→List Str)(ms:List Nat)(i:Nat):(Str→Nat)×(Nat→Str→Nat)×(Nat→Str→Nat):=(Dj i).foldl (vOn gr J ms) (fun _=>0,fun _ _=>0,fun _ _=>0)
theorem Zg2(gr:List Nd)(J:Nat→List Str)(ms:List Nat)(i:Nat):vAll gr J ms (i+1)=vOn gr J ms (vAll gr J ms i) i:=by
 unfold vAll
 rw[Ie,Kz]
 rfl
def OnR(gr:List Nd)(J:Nat→List Str)(fb fa:Nat→Str→Nat):Prop:=∃ms c,Xi (wy gr) gr.length ms∧JR gr (mtA gr ms gr.length) J∧(c,fb,fa)=vAll gr J ms gr.length
theorem OnR.one{gr:List Nd}{J J':Nat→List Str}{fb fa fb' fa':Nat→Str→Nat}(h:OnR gr J fb fa)(h':OnR gr J' fb' fa'):J=J'∧fb=fb'∧fa=fa':=by
 obtain⟨ms,c,m,j,v⟩:=h
 obtain⟨ms',c',m',j',v'⟩:=h'
 have e:ms=ms':=by
  refine List.ext_getElem (by have:=m.1;have:=m'.1;omega) fun i h1 h2=>?_
  exact(m.2 i _ (Aa h1)).uniq (m'.2 i _ (Aa h2))
 subst e
 have e:=j.one j'
 subst e
 rw[←v'] at v
 cases v
 exact⟨rfl,rfl,rfl⟩
def Z23:DSp:=fun ds M Q _=>∃(a:Nat) (nm:List Str) (gr:List Nd),ds=[.ref a]∧Z4 M a=some (gr.map Nd.d)∧gr.length≤40∧Nms nm∧(∀d∈gr,d.al nm)∧GT.Num (wy gr) gr.length∧
 ∀J S c gv fb fa Fd M' r,Iv (wy gr) J (smOf gr) gr.length c gv fb fa→JOk gr (Mtg gr) J→OnR gr J fb fa→(∀k,k<gr.length→(S k).Pairwise (· < ·)∧∀z,z∈S k↔SrcZ gr k z)→Yr r M' gr J S fb fa Fd→Kp M M'→Za M' r=some Fd→M.length≤r→Q (.ref r) M'
section
variable{K:Af}
theorem Ym2{Γ G}(g4:Γ[4]?=some Bj)(g5:Γ[5]?=some Qz)(g7:Γ[7]?=some Jo)(g8:Γ[8]?=some Zm5)(g9:Γ[9]?=some Zs2)(g10:Γ[10]?=some Rb)(g12:Γ[12]?=some Jz):
  RR ⟨K,Γ,G⟩ Zf6 Z30 Z23:=by
 rintro ds M Q Z ⟨a,nm,gr,rfl,hr,hn,hnm,hal,num,q⟩
 have hpos:=num.pos
 delta Zf6 Z30
 walk_at "ev"
 simp only[g4,g5]
 refine⟨Z1 (by decide),a,gr,rfl,Z6 hr,by omega,num,fun ms M1 r1 mo k1 hw1 hr1=>?_⟩
 have hml:=mo.1
 try walk_at "ev"
 refine⟨_,Z0 hw1,?_⟩
 rw[Zz0]
 have e0:(Yf0 ms).drop 1=natD ms:=rfl
 rw[e0]
 try walk_at "ev"
 refine⟨_,_,Z7 (k1.W (Z9 _ _ [])),Z9 _ _ [],Z1 (by rw[Zn];simp only[Au,Io];omega),?_⟩
 have kA:Kp M (M1++[.lst (natD ms)]++[.lst ([.int (-1)]++natD ms)]):=(((Kp.new M _).trans k1).app _).app _
 have hT:Z4 (M1++[.lst (natD ms)]++[.lst ([.int (-1)]++natD ms)]) (M1++[Cell.lst (natD ms)]).length=some (Bl ms):=Z8 _ _ []
 generalize M1++[Cell.lst (natD ms)]++[Cell.lst ([D.int (-1)]++natD ms)]=M2 at kA hT ⊢
 generalize (M1++[Cell.lst (natD ms)]).length=rT at hT ⊢
 try walk_at "ev"
 refine⟨a,gr,rfl,kA.L hr,hn,num,fun rs M3 rS hR hRl k3 hw3 hr3=>?_⟩
 try walk_at "ev"
 simp only[g7,g8]
 refine⟨rT,rS,gr,ms,rs,rfl,k3.L hT,mo,num,hn,Z0 hw3,hR,fun F hFE hF hFl=>?_⟩
 have kB:Kp M3 (M3++ .lst (Y4 (M3.length+1) gr.length)::Zg gr.length F):=Kp.new _ _
 have hm:Z4 (M3++ .lst (Y4 (M3.length+1) gr.length)::Zg gr.length F) M3.length=some (((Dj gr.length).map fun i=>M3.length+1+i).map .ref):=by
  rw[Z8,Ks]
  rfl
 have hMt:Rws (M3++ .lst (Y4 (M3.length+1) gr.length)::Zg gr.length F) ((Dj gr.length).map fun i=>M3.length+1+i) gr.length (Y94 gr.length (Mtg gr) F):=by
  refine⟨by simp,fun k x e=>?_⟩
  rw[Aj,Di] at e
  obtain⟨y,e1,rfl⟩:=e
  obtain⟨hk,e2⟩:=Ac.mp e1
  rw[Ir] at hk
  rw[List.getElem_range] at e2
  subst e2
  have:=Qu (M:=M3) (c:= .lst (Y4 (M3.length+1) gr.length)) (F:=F) (N:=[]) hk
  rw[Dq] at this
  exact⟨_,this,F k,rfl,rfl,hF k hk⟩
 generalize M3++Cell.lst (Y4 (M3.length+1) gr.length)::Zg gr.length F=M4 at kB hm hMt ⊢
 have kC:=kA.trans (k3.trans kB)
 try walk_at "ev"
 refine⟨a,M3.length,Mtg gr,F,nm,gr,_,rfl,kC.L hr,hn,hnm,hal,hm,hMt,fun J js M5 rJ jo hJR hJ hJl k5 hw5 hr5=>?_⟩
 try walk_at "ev"
 have kD:=kC.trans k5
 have hJ2:∀(k x:Nat),js[k]?=some x→Za M5 x=some ((J k).map .str)∧(J k).length≤100:=fun k x e=>by
  obtain⟨l,h1,h2,h3⟩:=hJ.2 k x e
  exact⟨h2 ▸ h1,h3⟩
 have hR5:=hR.keep (kB.trans k5)
 obtain⟨S,hS2⟩:=hR5.choose (f:=D.int) (R:=fun k s=>s.length≤41∧s.Pairwise (· < ·)∧∀z,z∈s↔SrcZ gr k z) fun k l h=>h
 refine⟨Z1 (by decide),_,rfl,Tm (V9 _ _ []),?_⟩
 have eM:((M5++[Cell.dct []]++[Cell.lst []]++[Cell.dct []]++[Cell.dct []]).set (M5++[Cell.dct []]++[Cell.lst []]).length (Cell.dct [(Ds (-1),D.ref (M5++[Cell.dct []]++[Cell.lst []]++[Cell.dct []]).length)]))=M5++[Cell.dct [],Cell.lst [],Cell.dct [(Ds (-1),D.ref (M5.length+3))],Cell.dct []]:=by
  rw[Dg _ [Cell.dct []] [Cell.dct []],List.singleton_append,Su]
  simp only[Dg,Hl,Kg,Ah,Au,Io]
 rw[eM]
 have el1:(M5++[Cell.dct []]).length=M5.length+1:=by simp
 have el2:(M5++[Cell.dct []]++[Cell.lst []]).length=M5.length+2:=by simp
 rw[el1,el2]
 have kE:Kp M5 (M5++[Cell.dct [],Cell.lst [],Cell.dct [(Ds (-1),D.ref (M5.length+3))],Cell.dct []]):=Kp.new _ _
 have mem0:Mem (M5++[Cell.dct [],Cell.lst [],Cell.dct [(Ds (-1),D.ref (M5.length+3))],Cell.dct []]) (fun x=>M5.length+3≤x) M5.length (M5.length+1) (M5.length+2) 0 0 (101 * 0) (fun _=>0) (fun _ _=>0) (fun _ _=>0) [] [(Ds (-1),D.ref (M5.length+3))]:=by
  refine⟨⟨by omega,by omega,fun x hx=>by omega⟩,⟨[],V9 _ _ _,Ver.nil,Nat.le_refl _⟩,by rw[X9];rfl,rfl,fun p x e=>(by cases e),by rw[N0];rfl,Nat.le_refl _,⟨M5.length+3,rfl,Nat.le_refl _,[],by rw[N0];rfl,Ver.nil,Nat.le_refl _⟩,fun p hp=>by omega⟩
 have hlen:M5.length+3≤(M5++[Cell.dct [],Cell.lst [],Cell.dct [(Ds (-1),D.ref (M5.length+3))],Cell.dct []]).length:=by simp
 generalize M5++[Cell.dct [],Cell.lst [],Cell.dct [(Ds (-1),D.ref (M5.length+3))],Cell.dct []]=M6 at kE mem0 hlen ⊢
 generalize [((Ds (-1):Key),D.ref (M5.length+3))]=kv0 at mem0
 refine⟨_,kE.L (kD.L hr),?_⟩
 refine Zu (fun i σ M'=>∃d7 d8 d9 d10 c gv fb fa rbs kvA,σ=[some (.ref a),some (.ref rT),some (.ref rS),some (.ref rJ),some (.ref M5.length),some (.ref (M5.length+1)),some (.ref (M5.length+2)),d7,d8,d9,d10]∧Kp M5 M'∧M5.length+3≤M'.length∧Mem M' (fun x=>M5.length+3≤x) M5.length (M5.length+1) (M5.length+2) i i (101 * i) c fb fa rbs kvA∧Iv (wy gr) J (smOf gr) i c gv fb fa∧(c,fb,fa)=vAll gr J ms i) ⟨none,none,none,none,_,fun _ _=>(0,true),_,_,_,_,rfl,kE,hlen,mem0,Iv.zero _ _ _ _,rfl⟩ ?_ ?_ ?_
 ·rintro i σ M' _ ⟨d7,d8,d9,d10,c,gv,fb,fa,rbs,kvA,rfl,k,_⟩
  exact⟨_,k.L (kD.L hr),rfl⟩
 ·rintro i dx σ M' C hx ⟨d7,d8,d9,d10,c,gv,fb,fa,rbs,kvA,rfl,k,hl,mem,iv,hV⟩ hC
  obtain⟨x,hx2,rfl⟩:=Sf hx
  have hi:i<gr.length:=by have:=(Ac.mp hx2).1;rwa[Ad] at this
  obtain⟨nd,hd⟩:∃nd,gr[i]?=some nd:=⟨_,Aa hi⟩
  rw[Td hd] at hx2
  cases hx2
  walk_at "ev"
  exact Zq8 g9 (W:=vAll gr J ms (i+1)) (by rw[Zg2,←hV]) ((kB.trans k5).L (k3.L hT)) mo num hn hd (Z0 hw5) hJ.1 hJ2 (Nat.le_refl _) (by omega) hl k mem iv fun M2 d9 d10 c gv fb fa rbs kvA k2 hl2 mem2 iv2 hV2=>hC _ _ ⟨_,_,_,_,c,gv,fb,fa,rbs,kvA,rfl,k2,hl2,mem2,iv2,hV2⟩
 rintro σ M7 ⟨d7,d8,d9,d10,c,gv,fb,fa,rbs,kvA,rfl,k7,hl7,mem,iv,hV⟩
 rw[Tx,Ad] at mem iv hV
 delta Z36
 walk_at "ev"
 refine⟨_,k7.L (kD.L hr),?_⟩
 simp only[capD,As,Hb,Lj,Ka,Hq,Dr,Lk]
 refine Yg (fun i σ M'=>∃d0 d1 Fd,σ=[d0,d1,some (.ref rJ),some (.ref (M5.length+1)),some (.ref rS),some (.ref (M5.length+2))]∧Kp M7 M'∧Za M' M7.length=some Fd∧Fd.length=i∧∀(k:Nat) d nd,Fd[k]?=some d→gr[k]?=some nd→∃rj L,M7.length<rj∧d= .tup [.ref rj,spN (fb k) (fa k) nd]∧Za M' rj=some L∧(∃lo,M7.length<lo∧JsOk lo M' (J k) (fb k) (S k) (TH fa) L)∧(J k).length≤100∧(S k).length≤41) ⟨none,none,[],rfl,Kp.new _ _,Z9 _ _ [],rfl,fun k d nd h=>by cases h⟩ ?_ ?_ ?_
 ·rintro i σ M' _ ⟨d0,d1,Fd,rfl,k,_⟩
  exact⟨_,k.L (k7.L (kD.L hr)),rfl⟩
 ·rintro i dx σ M' C hx ⟨d0,d1,Fd,rfl,k,hw,hl,hF⟩ hC
  obtain⟨x,hx2,rfl⟩:=Sf hx
  have hi:i<gr.length:=by have:=(Ac.mp hx2).1;rwa[Ad] at this
  obtain⟨nd,hd⟩:∃nd,gr[i]?=some nd:=⟨_,Aa hi⟩
  rw[Td hd] at hx2
  cases hx2
  have kk:=k7.trans k
  have mem:=mem.keep k
  obtain⟨xj,ej⟩:∃x,js[i]?=some x:=⟨_,Aa (by rw[hJ.1];exact hi)⟩
  obtain⟨xs,es⟩:∃x,rs[i]?=some x:=⟨_,Aa (by rw[hR.1];exact hi)⟩
  obtain⟨xb,eb⟩:∃x,rbs[i]?=some x:=⟨_,Aa (by rw[mem.lB];exact hi)⟩
  obtain⟨hj1,hj2⟩:=hJ2 i xj ej
  obtain⟨hs1,hs2,_,hs3⟩:=hS2 i xs es
  obtain⟨_,kvb,hb1,hb2,hb3⟩:=mem.bB i xb eb
  obtain⟨xa,ea1,_,kva,ea2,ea3,_⟩:=mem.aA i hi
  have hsv:∀x,smN nd=some x→fa i x≠0:=fun x hx=>(iv.s i hi x (by unfold smOf;rw[hd];exact hx)).1
  walk_at "ev"
  simp only[g10,g12]
  refine ix_l (kk.L (Z0 hw5)) (by rw[Aj,ej];rfl) ?_
  refine ix_l (Z0 mem.wB) (by rw[Aj,eb];rfl) ?_
  refine ix_l (kk.L (k5.L (kB.L (Z0 hw3)))) (by rw[Aj,es];rfl) ?_
  refine⟨xj,xb,xs,M5.length+2,J i,kvb,kvA,fb i,S i,TH fa,rfl,kk.L (Z0 hj1),hj2,hb1,hb2,fun x hx=>(iv.j i hi x hx).1,kk.L (Z0 hs1),hs2,mem.dA,fun z hz=>?_,fun L M8 r8 js8 k8 hw8 hr8=>?_⟩
  ·rcases(hs3 z).mp hz with⟨rfl,_⟩ | ⟨p,rfl,hp,_⟩
   ·obtain⟨x0,h1,_,kv,h2,h3,_⟩:=mem.a0
    exact⟨x0,kv,h1,h2,h3⟩
   ·obtain⟨x0,h1,_,kv,h2,h3,_⟩:=mem.aA p hp
    refine⟨x0,kv,h1,h2,?_⟩
    unfold TH
    rw[if_neg (by omega),Int.toNat_natCast]
    exact h3
  ·have mem8:=mem.keep k8
   refine ix_l (Z0 mem8.wB) (by rw[Aj,eb];rfl) ?_
   refine ix_d (y:= .inl (i:Int)) mem8.dA rfl ea1 ?_
   refine⟨nd,xb,xa,kvb,kva,fb i,fa i,rfl,k8.D hb1,hb2,k8.D ea2,ea3,hsv,?_⟩
   have hwl:=Ye hw
   refine⟨Z1 (by decide),_,k8.W hw,Z3 (by omega),?_⟩
   refine hC _ _ ⟨_,_,_,rfl,(k.trans k8).set (Nat.le_refl _) _,Zi (k8.W hw),by rw[Ah,hl];rfl,fun k2 d nd2 e e2=>?_⟩
   rcases GT.Ze e with e | ⟨e1,rfl⟩
   ·obtain⟨rj,L2,a1,a2,a3,⟨lo,a4,a5⟩,a6⟩:=hF k2 d nd2 e e2
    exact⟨rj,L2,a1,a2,Y0 (k8.W a3) (by omega),⟨lo,a4,(a5.keep k8).set a4⟩,a6⟩
   ·rw[hl] at e1
    subst e1
    rw[hd] at e2
    cases e2
    exact⟨r8,L,by omega,rfl,Y0 hw8 (by omega),⟨M'.length,hwl,js8.set hwl⟩,hj2,hs2⟩
 ·rintro σ M' ⟨d0,d1,Fd,rfl,k,hw,hl,hF⟩
  rw[Tx,Ad] at hl
  try walk_at "ev"
  have kk:=kD.trans (k7.trans k)
  refine q J S c gv fb fa Fd M' M7.length iv jo ⟨ms,c,mo,hFE ▸ hJR,hV⟩ (fun k hk=>?_) ⟨hl,fun k2 d nd e1 e2=>?_⟩ kk hw (kD.trans k7).len
  ·obtain⟨xs,es⟩:∃x,rs[k]?=some x:=⟨_,Aa (by rw[hR.1];exact hk)⟩
   exact(hS2 k xs es).2.2
  ·obtain⟨rj,L2,a1,a2,a3,⟨lo,a4,a5⟩,a6⟩:=hF k2 d nd e1 e2
   exact⟨rj,L2,a2,a3,⟨lo,a4,a5⟩,a1,a6⟩
end
section
variable{K:Af}
def AL(M:Z2):Nat→D→D→Prop
 | 0,x,y=>x=y∧Y6 x=true
 | n+1,x,y=>(x=y∧Y6 x=true)∨(∃xs ys,x= .tup xs∧y= .tup ys∧xs.length=ys.length∧xs.length≤100000∧∀(i:Nat) a b,xs[i]?=some a→ys[i]?=some b→AL M n a b)∨
   ∃m k xs ys,x= .ref m∧y= .ref k∧Za M m=some xs∧Za M k=some ys∧xs.length=ys.length∧xs.length≤100000∧∀(i:Nat) a b,xs[i]?=some a→ys[i]?=some b→AL M n a b
def Yh(n:Nat):DSp:=fun ds M Q _=>∃x y,ds=[x,y]∧AL M n x y∧Q (.bl true) M
theorem AL.flat{M:Z2}{n:Nat}{x:D}(h:Y6 x=true):AL M n x x:=by
 cases n with
 | zero=>exact⟨rfl,h⟩
 | succ n=>exact .inl ⟨rfl,h⟩
theorem Np{Γ G}{M:Z2}{Q:DK}{x:D}(h:Y6 x=true)(q:Q (.bl true) M):tss ⟨K,Γ,G⟩ noX Wi {nx:=fun _ M=>Q .non M,rt:=Q} (start0 Xo [x,x]) M:=by
 delta Wi Xo
 cases x with
 | non=>
  walk_at "ev"
  exact q
 | bl b=>
  walk_at "ev"
  delta Xc
  walk_at "ev"
  simpa using q
 | int i=>
  walk_at "ev"
  delta Xc
  walk_at "ev"
  delta W7
  walk_at "ev"
  simpa using q
 | str z=>
  walk_at "ev"
  delta Xc
  walk_at "ev"
  delta W7
  walk_at "ev"
  delta Vr
  walk_at "ev"
  simpa using q
 | _=>exact absurd h Bf9
theorem Ze5{Γ G}:∀ds M Q Z,Yh 0 ds M Q Z→tss ⟨K,Γ,G⟩ noX Wi {nx:=fun _ M=>Q .non M,rt:=Q} (start0 Xo ds) M:=by
 rintro ds M Q Z ⟨x,y,rfl,⟨rfl,h⟩,q⟩
 exact Np h q
theorem Fk{Γ G}{n:Nat}(g:Γ[26]?=some (Yh n)){M:Z2}{Q:DK}{x y:D}{xs ys:List D}{d:Option D}(hl:xs.length=ys.length)(hs:xs.length≤100000)(h:∀(i:Nat) a b,xs[i]?=some a→ys[i]?=some b→AL M n a b)
  (lx:∀F:DK,F (.int xs.length) M→bfD K .len [x] M F) (ly:∀F:DK,F (.int ys.length) M→bfD K .len [y] M F) (ix:∀(i:Nat) a (F:D→Prop),xs[i]?=some a→F a→ixD M x (.int i) F) (iy:∀(i:Nat) a (F:D→Prop),ys[i]?=some a→F a→ixD M y (.int i) F) (q:Q (.bl true) M):
  tss ⟨K,Γ,G⟩ noX R8 {nx:=fun _ M=>Q .non M,rt:=Q} [some x,some y,d] M:=by
 delta R8
 walk_at "ev"
 refine lx _ (ly _ ?_)
 walk_at "ev"
 rw[if_neg (by rw[hl];simp)]
 delta Ot
 walk_at "ev"
 refine ly _ ⟨by omega,by omega,?_⟩
 rw[Int.toNat_natCast]
 refine Vu (fun i σ M'=>∃d,σ=[some x,some y,d]∧M'=M) ⟨d,rfl,rfl⟩ ?_ ?_
 ·rintro i σ M' C hi ⟨d,rfl,rfl⟩ hC
  (delta Nh;simp only[Int.zero_add])
  walk_at "ev"
  refine ix i _ _ (Aa (by omega)) (iy i _ _ (Aa hi) ?_)
  simp only[g]
  refine⟨_,_,rfl,h i _ _ (Aa (by omega)) (Aa hi),?_⟩
  walk_at "ev"
  exact hC _ _ ⟨_,rfl,rfl⟩
 ·rintro σ M' ⟨d,rfl,rfl⟩
  delta Oo
  walk_at "ev"
  exact q
theorem W4{Γ G}{n:Nat}(g:Γ[26]?=some (Yh n)):∀ds M Q Z,Yh (n+1) ds M Q Z→tss ⟨K,Γ,G⟩ noX Wi {nx:=fun _ M=>Q .non M,rt:=Q} (start0 Xo ds) M:=by
 rintro ds M Q Z ⟨x,y,rfl,h | ⟨xs,ys,rfl,rfl,hl,hs,h⟩ | ⟨m,k,xs,ys,rfl,rfl,h1,h2,hl,hs,h⟩,q⟩
 ·obtain⟨rfl,h⟩:=h
  exact Np h q
 ·delta Wi Xo
  walk_at "ev"
  delta Xc
  walk_at "ev"
  delta W7
  walk_at "ev"
  delta Vr
  walk_at "ev"
  delta Sr
  walk_at "ev"
  exact Fk g hl hs h (fun F f=>f) (fun F f=>f) (fun i a F e f=>⟨a,Sy e,f⟩) (fun i a F e f=>⟨a,Sy e,f⟩) q
 ·have i1:∀{t:Ty} {B:Bool→Prop},isD K M (.ref m) (.ty (Yk t)) B=B (tyLst t):=fun{t B}=>Fs h1
  have i2:∀{t:Ty} {B:Bool→Prop},isD K M (.ref k) (.ty (Yk t)) B=B (tyLst t):=fun{t B}=>Fs h2
  delta Wi Xo
  walk_at "ev"
  delta Xc
  walk_at "ev"
  simp only[i2]
  walk_at "ev"
  delta W7
  walk_at "ev"
  simp only[i2]
  walk_at "ev"
  delta Vr
  walk_at "ev"
  simp only[i2]
  walk_at "ev"
  delta Sr
  walk_at "ev"
  simp only[i1,i2]
  walk_at "ev"
  exact Fk g hl hs h (fun F f=>Zx (Z0 h1) f) (fun F f=>Zx (Z0 h2) f) (fun i a F e f=>ix_l (Z0 h1) e f) (fun i a F e f=>ix_l (Z0 h2) e f) q
end
def Js:DSp:=fun ds M Q _=>∃i:Int,ds=[.int i]∧Q (.bl true) M
def V7:DSp:=fun ds M Q _=>∃(x:Str) (v:Nat),ds=[.tup [.str x,.int (v:Nat)]]∧Q (.bl true) M
def SN(ps:List Int)(i:Nat)(f n:D):Prop:=(∃(x:Str) (v:Nat),n= .str x∧f= .tup [.str x,.int (v:Nat)]∧(i:Int)∈ps)∨(f=n∧Y6 n=true∧((i:Int)∈ps→∃z,n= .int z))
def Zi8:DSp:=fun ds M Q _=>∃(nd:Nd) (fb fa:Str→Nat),ds=[spN fb fa nd,nd.d]∧∀M',Kp M M'→Q (.bl true) M'
def Zr0:DSp:=fun ds M Q _=>∃(x:Str) (v rr s:Nat) (src:List Int) (T:Int→Nat),ds=[.tup [.str x,.int (v:Nat),.ref rr],.ref s]∧Za M rr=some (src.map fun z=>D.tup [.int z,.int (T z:Nat)])∧Z4 M s=some (src.map .int)∧2≤src.length∧src.length≤41∧Q (.bl true) M
section
variable{K:Af}
theorem Zy3{Γ G}:RR ⟨K,Γ,G⟩ Jt Q7 Js:=by
 rintro ds M Q Z ⟨i,rfl,q⟩
 delta Jt Q7
 walk_at "ev"
 exact q
theorem Zb8{Γ G}(g:Γ[27]?=some Js):RR ⟨K,Γ,G⟩ R6 Vm V7:=by
 rintro ds M Q Z ⟨x,v,rfl,q⟩
 delta R6 Vm
 walk_at "ev"
 refine⟨_,rfl,?_⟩
 try walk_at "ev"
 delta Ro
 walk_at "ev"
 refine⟨_,rfl,?_⟩
 simp only[g]
 refine⟨_,rfl,?_⟩
 try walk_at "ev"
 refine⟨_,rfl,?_⟩
 try walk_at "ev"
 rw[decide_eq_true (by omega)]
 exact q
theorem G9{Γ G}(g1:Γ[26]?=some (Yh 6))(g2:Γ[28]?=some V7){M:Z2}{Q:DK}{fs ns:List D}{r:Nat}{ps:List Int}{d:Option D}(hl:fs.length=ns.length)(hn:ns.length≤6)(hr:Z4 M r=some (ps.map .int))(h:∀(i:Nat) a b,fs[i]?=some a→ns[i]?=some b→SN ps i a b)(q:Q (.bl true) M):
  tss ⟨K,Γ,G⟩ noX Xx {nx:=fun _ M=>Q .non M,rt:=Q} [some (.tup fs),some (.tup ns),some (.ref r),d] M:=by
 delta Xx
 walk_at "ev"
 refine⟨by omega,by omega,?_⟩
 rw[Int.toNat_natCast]
 refine Vu (fun i σ M'=>∃d,σ=[some (.tup fs),some (.tup ns),some (.ref r),d]∧M'=M) ⟨d,rfl,rfl⟩ ?_ ?_
 ·rintro i σ M' C hi ⟨d,rfl,rfl⟩ hC
  have ef:fs[i]?=some fs[i]:=Aa (by omega)
  have en:ns[i]?=some ns[i]:=Aa hi
  have hs:=h i _ _ ef en
  generalize fs[i]=f at ef hs
  generalize ns[i]=n at en hs
  have af:atI fs (i:Int)=some f:=Sy ef
  have an:atI ns (i:Int)=some n:=Sy en
  (delta Tc;simp only[Int.zero_add])
  walk_at "ev"
  refine Y43 hr ?_
  rcases hs with⟨x,v,rfl,rfl,hm⟩ | ⟨rfl,hf,hm⟩
  ·rw[decide_eq_true hm]
   try walk_at "ev"
   refine⟨_,an,?_⟩
   try walk_at "ev"
   refine⟨_,af,?_⟩
   simp only[g2]
   refine⟨x,v,rfl,?_⟩
   try walk_at "ev"
   refine⟨_,af,_,rfl,_,an,?_⟩
   try walk_at "ev"
   rw[if_neg (by simp)]
   exact hC _ _ ⟨_,rfl,rfl⟩
  ·by_cases e:(i:Int)∈ps
   ·obtain⟨z,rfl⟩:=hm e
    rw[decide_eq_true e]
    try walk_at "ev"
    refine⟨_,an,?_⟩
    try walk_at "ev"
    refine⟨_,af,_,an,?_⟩
    simp only[g1]
    refine⟨_,_,rfl,AL.flat hf,?_⟩
    try walk_at "ev"
    exact hC _ _ ⟨_,rfl,rfl⟩
   ·rw[decide_eq_false e]
    try walk_at "ev"
    refine⟨_,af,_,an,?_⟩
    simp only[g1]
    refine⟨_,_,rfl,AL.flat hf,?_⟩
    try walk_at "ev"
    exact hC _ _ ⟨_,rfl,rfl⟩
 ·rintro σ M' ⟨d,rfl,rfl⟩
  delta Ta
  walk_at "ev"
  exact q
theorem Yb0{Γ G}(g1:Γ[26]?=some (Yh 6))(g2:Γ[28]?=some V7):RR ⟨K,Γ,G⟩ Vf Xm Zi8:=by
 rintro ds M Q Z ⟨nd,fb,fa,rfl,q⟩
 have sO:∀(f:Str→Nat) (o:Opd) (ps:List Int) (i:Nat),(i:Int)∈ps→SN ps i (spO f o) o.d:=by
  intro f o ps i h
  cases o with
  | nm x=>exact .inl ⟨x,f x,rfl,rfl,h⟩
  | no z=>exact .inr ⟨rfl,rfl,fun _=>⟨z,rfl⟩⟩
 have fl:∀(ps:List Int) (i:Nat) (d:D),Y6 d=true→(i:Int)∉ps→SN ps i d d:=fun ps i d h1 h2=> .inr ⟨rfl,h1,fun z=>absurd z h2⟩
 delta Vf Xm
 cases nd with
 | sum x a sg b t=>
  simp only[spN,Nd.d]
  walk_at "ev"
  rw[if_neg (by decide)]
  delta Y8
  walk_at "ev"
  refine⟨Z1 (by decide),_,rfl,?_⟩
  try walk_at "ev"
  refine⟨Z1 (by decide),?_⟩
  delta Y9
  walk_at "ev"
  refine⟨_,rfl,?_⟩
  try walk_at "ev"
  rw[if_neg (by decide+kernel)]
  refine G9 g1 g2 (ps:=[1,2,4]) rfl (Nat.le_refl 6) (Z8 _ _ []) (fun i u v e1 e2=>?_) (q _ ((Kp.new _ _).app _))
  match i,e1,e2 with
  | 0,e1,e2=>cases e1;cases e2;exact fl _ _ _ rfl (by decide)
  | 1,e1,e2=>cases e1;cases e2;exact .inl ⟨x,fa x,rfl,rfl,by decide⟩
  | 2,e1,e2=>cases e1;cases e2;exact sO _ _ _ _ (by decide)
  | 3,e1,e2=>cases e1;cases e2;exact fl _ _ _ rfl (by decide)
  | 4,e1,e2=>cases e1;cases e2;exact sO _ _ _ _ (by decide)
  | 5,e1,e2=>cases e1;cases e2;exact fl _ _ _ rfl (by decide)
  | _+6,e1,e2=>cases e1
 | test a sg b y n=>
  simp only[spN,Nd.d]
  walk_at "ev"
  rw[if_neg (by decide)]
  delta Y8
  walk_at "ev"
  refine⟨Z1 (by decide),_,rfl,?_⟩
  try walk_at "ev"
  rw[if_neg (by decide+kernel)]
  delta Y9
  walk_at "ev"
  refine⟨_,rfl,?_⟩
  try walk_at "ev"
  refine⟨Z1 (by decide),?_⟩
  refine G9 g1 g2 (ps:=[1,3]) rfl (Nat.le_refl 6) (Z8 _ _ []) (fun i u v e1 e2=>?_) (q _ ((Kp.new _ _).app _))
  match i,e1,e2 with
  | 0,e1,e2=>cases e1;cases e2;exact fl _ _ _ rfl (by decide)
  | 1,e1,e2=>cases e1;cases e2;exact sO _ _ _ _ (by decide)
  | 2,e1,e2=>cases e1;cases e2;exact fl _ _ _ rfl (by decide)
  | 3,e1,e2=>cases e1;cases e2;exact sO _ _ _ _ (by decide)
  | 4,e1,e2=>cases e1;cases e2;exact fl _ _ _ rfl (by decide)
  | 5,e1,e2=>cases e1;cases e2;exact fl _ _ _ rfl (by decide)
  | _+6,e1,e2=>cases e1
 | fin=>
  simp only[spN,Nd.d]
  walk_at "ev"
  rw[if_neg (by decide)]
  delta Y8
  walk_at "ev"
  refine⟨Z1 (by decide),_,rfl,?_⟩
  try walk_at "ev"
  rw[if_neg (by decide+kernel)]
  delta Y9
  walk_at "ev"
  refine⟨_,rfl,?_⟩
  try walk_at "ev"
  rw[if_neg (by decide+kernel)]
  refine G9 g1 g2 (ps:=[]) rfl (by decide) (Z8 _ _ []) (fun i u v e1 e2=>?_) (q _ (Kp.new _ _))
  match i,e1,e2 with
  | 0,e1,e2=>cases e1;cases e2;exact fl _ _ _ rfl (by decide)
  | _+1,e1,e2=>cases e1
 | spin=>
  simp only[spN,Nd.d]
  walk_at "ev"
  rw[if_neg (by decide)]
  delta Y8
  walk_at "ev"
  refine⟨Z1 (by decide),_,rfl,?_⟩
  try walk_at "ev"
  rw[if_neg (by decide+kernel)]
  delta Y9
  walk_at "ev"
  refine⟨_,rfl,?_⟩
  try walk_at "ev"
  rw[if_neg (by decide+kernel)]
  refine G9 g1 g2 (ps:=[]) rfl (by decide) (Z8 _ _ []) (fun i u v e1 e2=>?_) (q _ (Kp.new _ _))
  match i,e1,e2 with
  | 0,e1,e2=>cases e1;cases e2;exact fl _ _ _ rfl (by decide)
  | _+1,e1,e2=>cases e1
theorem Y83{Γ G}(g1:Γ[27]?=some Js)(g2:Γ[28]?=some V7):RR ⟨K,Γ,G⟩ Rk Vv Zr0:=by
 rintro ds M Q Z ⟨x,v,rr,s,src,T,rfl,hw,hs,h2,h41,q⟩
 have i1:∀{t:Ty} {B:Bool→Prop},isD K M (.ref rr) (.ty (Yk t)) B=B (tyLst t):=fun{t B}=>Fs hw
 delta Rk Vv
 walk_at "ev"
 simp only[g2]
 rw[cut2]
 refine⟨x,v,rfl,?_⟩
 try walk_at "ev"
 delta Rq
 walk_at "ev"
 refine⟨_,rfl,?_⟩
 try walk_at "ev"
 rw[i1]
 try walk_at "ev"
 refine⟨_,rfl,Zx (Z0 hw) (Zx hs ?_)⟩
 rw[Ad,Ad]
 try walk_at "ev"
 rw[if_pos (by simp)]
 refine Zx hs ?_
 rw[Ad]
 try walk_at "ev"
 rw[if_neg (by omega)]
 delta Q2
 walk_at "ev"
 refine Zx hs ⟨by omega,by rw[Ad];omega,?_⟩
 rw[Int.toNat_natCast,Ad]
 refine Vu (fun i σ M'=>∃d2 d3,σ=[some (.tup [.str x,.int (v:Nat),.ref rr]),some (.ref s),d2,d3]∧M'=M) ⟨none,none,rfl,rfl⟩ ?_ ?_
 ·rintro i σ M' C hi ⟨d2,d3,rfl,rfl⟩ hC
  have hz:src[i]?=some src[i]:=Aa hi
  generalize src[i]=z at hz
  (delta Q4;simp only[Int.zero_add])
  walk_at "ev"
  refine⟨_,rfl,ix_l (Z0 hw) (by rw[Aj,hz];rfl) ?_⟩
  try walk_at "ev"
  refine⟨_,rfl,?_⟩
  simp only[g1]
  refine⟨_,rfl,?_⟩
  try walk_at "ev"
  refine⟨_,rfl,?_⟩
  refine⟨_,rfl,?_⟩
  try walk_at "ev"
  delta Rw
  walk_at "ev"
  refine⟨_,rfl,ix_l hs (by rw[Aj,hz];rfl) ?_⟩
  try walk_at "ev"
  rw[if_neg (by simp)]
  exact hC _ _ ⟨_,_,rfl,rfl⟩
 ·rintro σ M' ⟨d2,d3,rfl,rfl⟩
  delta Q1
  walk_at "ev"
  exact q
end
noncomputable def strP(ms:List Str):List PyData:=ms.map PyData.str
theorem Z00{M:Z2}:∀l:List Str,PDs M (strP l) (l.map .str)
 | []=>rfl
 | _::r=>⟨_,_,rfl,rfl,Z00 r⟩
theorem Z13:∀l:List Str,(∀x∈l,PyData.canLay0 (.str x)=true)→PyData.canLayAll0 (strP l)=true
 | [],_=>by unfold strP;rw[Hb,PyData.canLayAll0]
 | x::r,h=>by
  show PyData.canLayAll0 (PyData.str x::strP r)=true
  unfold PyData.canLayAll0
  rw[Z13 r fun y hy=>h y (Dd _ hy),h x De]
  rfl
theorem Z51:∀l:List Str,PyData.depthAll (strP l)≤4
 | []=>by simp[strP,PyData.depthAll]
 | x::r=>by
  show PyData.depthAll (PyData.str x::strP r)≤4
  unfold PyData.depthAll
  have:=Z51 r
  simp only[PyData.depth]
  omega
theorem Y90{M:Z2}{m n:Nat}{ms:List Str}{B:Bool→Prop}(hc:∀x∈ms,PyData.canLay0 (.str x)=true)(h1:Z4 M m=some (ms.map .str))(h2:Z4 M n=some (ms.map .str))(q:B true):eqD M (.ref m) (.ref n) B:=by
 have hc:PyData.canLay0 (.list (strP ms))=true:=by unfold PyData.canLay0;exact Z13 ms hc
 refine .inl ⟨.list (strP ms),.list (strP ms),⟨m,_,rfl,h1,Z00 ms⟩,⟨n,_,rfl,h2,Z00 ms⟩,hc,hc,?_,?_⟩
 ·unfold PyData.depth
  have:=Z51 ms
  omega
 ·rw[PySem.SeqAt.eqv_refl _ hc]
  exact q
structure NmOk(l:List Str):Prop where
 nd:l.Nodup
 pw:l.Pairwise SW.leS
 cl:∀x∈l,PyData.canLay0 (.str x)=true
 ln:l.length≤4
def B6:DSp:=fun ds M Q _=>∃(rj s lo:Nat) (nd:Nd) (fb fa:Str→Nat) (L:List D) (names:List Str) (src:List Int) (T:Int→Str→Nat),ds=[.tup [.ref rj,spN fb fa nd],nd.d,.ref s]∧Za M rj=some L∧JsOk lo M names fb src T L∧Z4 M s=some (src.map .int)∧(∀x∈names,2≤src.length)∧src.length≤41∧NmOk names∧∀M',Kp M M'→Q (.bl true) M'
def Be:DSp:=fun ds M Q _=>∃(r0 r a:Nat) (gr:List Nd) (J:Nat→List Str) (S:Nat→List Int) (fb fa:Nat→Str→Nat) (Fd:List D),ds=[.ref r,.ref a]∧Za M r=some Fd∧Z4 M a=some (gr.map Nd.d)∧gr.length≤40∧GT.Num (wy gr) gr.length∧Yr r0 M gr J S fb fa Fd∧(∀k,k<gr.length→S k=lsF gr gr.length k)∧(∀k,k<gr.length→(∀x∈J k,2≤(S k).length)∧NmOk (J k))∧∀M',Kp M M'→Q (.bl true) M'
section
variable{K:Af}
theorem Y01{Γ G}(g1:Γ[29]?=some Zi8)(g2:Γ[31]?=some Zr0):RR ⟨K,Γ,G⟩ Jm Q9 B6:=by
 rintro ds M Q Z ⟨rj,s,lo,nd,fb,fa,L,names,src,T,rfl,hw,jo,hs,h2,h41,ok,q⟩
 have i1:∀{t:Ty} {B:Bool→Prop},isD K M (.ref rj) (.ty (Yk t)) B=B (tyLst t):=fun{t B}=>Fs hw
 delta Jm Q9
 walk_at "ev"
 refine⟨_,rfl,?_⟩
 rw[i1]
 try walk_at "ev"
 delta N3
 walk_at "ev"
 refine⟨Z1 (by decide),_,rfl,?_⟩
 try walk_at "ev"
 refine⟨_,Z6 (Z0 hw),?_⟩
 have ln:=ok.ln
 have hjl:=jo.1
 refine Zu (fun i σ M'=>∃d4,σ=[some (.tup [.ref rj,spN fb fa nd]),some nd.d,some (.ref s),some (.ref M.length),d4]∧Kp M M'∧Za M' M.length=some ((names.take i).map .str)) ⟨none,rfl,Kp.new _ _,Z9 _ _ []⟩ ?_ ?_ ?_
 ·rintro i σ M' _ ⟨d4,rfl,k,_⟩
  exact k.L (Z0 hw)
 ·rintro i dx σ M' C hx ⟨d4,rfl,k,hl⟩ hC
  obtain⟨x,rr,e1,rfl,e3,e4⟩:=jo.2 i dx hx
  have hi:i<names.length:=(Ac.mp e1).1
  delta N9
  walk_at "ev"
  simp only[g2]
  refine⟨x,fb x,rr,s,src,fun z=>T z x,rfl,k.W e3,k.L hs,h2 x (Al e1),h41,?_⟩
  try walk_at "ev"
  delta Nc
  walk_at "ev"
  refine⟨Zc (Z0 hl),_,rfl,_,hl,by rw[Ad,Ii];exact Z3 (by omega),?_⟩
  refine hC _ _ ⟨_,rfl,k.set (Nat.le_refl _) _,?_⟩
  rw[Zf e1,Aq]
  exact Zi hl
 ·rintro σ M' ⟨d4,rfl,k,hl⟩
  rw[hjl,Dz] at hl
  delta Nw
  walk_at "ev"
  refine .inr ⟨names,Z0 hl,by omega,fun ms m1 m2 m3=>?_⟩
  have e:=SW.Eh m3 ok.pw ((List.perm_ext_iff_of_nodup m1 ok.nd).mpr m2)
  subst e
  refine Y90 ok.cl (Z6 (Z0 hl)) (Z8 _ _ []) ?_
  try walk_at "ev"
  refine⟨_,rfl,?_⟩
  simp only[g1]
  refine⟨nd,fb,fa,rfl,fun M2 k2=>?_⟩
  exact q _ ((k.app _).trans k2)
theorem Y06{Γ G}(g1:Γ[30]?=some Zn0)(g2:Γ[32]?=some B6):RR ⟨K,Γ,G⟩ J0 Qe Be:=by
 rintro ds M Q Z ⟨r0,r,a,gr,J,S,fb,fa,Fd,rfl,hw,ha,hn,num,hF,hS,hJ,q⟩
 have i1:∀{t:Ty} {B:Bool→Prop},isD K M (.ref r) (.ty (Yk t)) B=B (tyLst t):=fun{t B}=>Fs hw
 delta J0 Qe
 walk_at "ev"
 rw[i1]
 try walk_at "ev"
 refine Zx (Z0 hw) (Zx ha ?_)
 rw[hF.1,Ad]
 try walk_at "ev"
 rw[if_neg (by simp)]
 delta Oq
 walk_at "ev"
 simp only[g1]
 refine⟨a,gr,rfl,ha,hn,num,fun rs M1 r1 hR k1 hw1 hr1=>?_⟩
 try walk_at "ev"
 refine Zx (k1.L ha) ⟨by omega,by rw[Ad];omega,?_⟩
 rw[Int.toNat_natCast,Ad]
 refine Vu (fun i σ M'=>∃d3,σ=[some (.ref r),some (.ref a),some (.ref r1),d3]∧Kp M1 M') ⟨none,rfl,Kp.refl _⟩ ?_ ?_
 ·rintro i σ M' C hi ⟨d3,rfl,k⟩ hC
  obtain⟨nd,hd⟩:∃nd,gr[i]?=some nd:=⟨_,Aa hi⟩
  obtain⟨d,he⟩:∃d,Fd[i]?=some d:=⟨_,Aa (by rw[hF.1];exact hi)⟩
  obtain⟨rj,L,rfl,hL,⟨lo,hlo,jok⟩,hrj,hJl,hSl⟩:=hF.2 i d nd he hd
  obtain⟨xs,ls,e1,e2,e3,rfl⟩:=hR.at hi
  have kk:=k1.trans k
  (delta Ow;simp only[Int.zero_add])
  walk_at "ev"
  refine ix_l (kk.L (Z0 hw)) he ?_
  refine ix_l (kk.L ha) (Td hd) ?_
  refine ix_l (k.L (Z0 hw1)) e1 ?_
  simp only[g2]
  refine⟨rj,xs,lo,nd,fb i,fa i,L,J i,S i,_,rfl,kk.W hL,jok.keep kk,?_,(hJ i hi).1,hSl,(hJ i hi).2,fun M2 k2=>?_⟩
  ·rw[hS i hi];exact k.L (Z0 e3)
  try walk_at "ev"
  exact hC _ _ ⟨_,rfl,k.trans k2⟩
 ·rintro σ M' ⟨d3,rfl,k⟩
  delta Om
  walk_at "ev"
  exact q _ (k1.trans k)
end
noncomputable def pr(p:Str×Nat):D:= .tup [.str p.1,.int (p.2:Nat)]
noncomputable def gvJ(J:Nat→List Str)(fb:Nat→Str→Nat)(k:Nat):List (Str×Nat):=(J k).map fun x=>(x,fb k x)
noncomputable def gvS(gr:List Nd)(fa:Nat→Str→Nat)(k:Nat):List (Str×Nat):=match smOf gr k with
 | some x=>[(x,fa k x)]
 | none=>[]
noncomputable def gvT(gr:List Nd)(J:Nat→List Str)(fb fa:Nat→Str→Nat)(i:Nat):List (Str×Nat):=(Dj i).flatMap fun k=>gvJ J fb k++gvS gr fa k
theorem Qm(gr:List Nd)(J:Nat→List Str)(fb fa:Nat→Str→Nat)(i:Nat):gvT gr J fb fa (i+1)=gvT gr J fb fa i++(gvJ J fb i++gvS gr fa i):=by
 unfold gvT
 rw[Ie,List.flatMap_append]
 simp
theorem Zo4(gr:List Nd)(fa:Nat→Str→Nat)(k:Nat):(gvS gr fa k).length≤1:=by
 unfold gvS
 split<;>simp
theorem Cz{gr:List Nd}{J:Nat→List Str}{fb fa:Nat→Str→Nat}{n:Nat}(h:∀k,k<n→(J k).length≤4):∀i,i≤n→(gvT gr J fb fa i).length≤5 * i
 | 0,_=>Nat.le_refl _
 | i+1,hi=>by
  rw[Qm,Ah,Ah]
  have:=Cz (gr:=gr) (fb:=fb) (fa:=fa) h i (by omega)
  have:=h i (by omega)
  have:=Zo4 gr fa i
  unfold gvJ
  rw[Ad]
  omega
def Bc:DSp:=fun ds M Q _=>∃(r0 r:Nat) (gr:List Nd) (J:Nat→List Str) (S:Nat→List Int) (fb fa:Nat→Str→Nat) (Fd:List D),ds=[.ref r]∧Z4 M r=some Fd∧Yr r0 M gr J S fb fa Fd∧gr.length≤40∧(∀k,k<gr.length→(J k).length≤4)∧
 ∀M' r',Kp M M'→Za M' r'=some ((gvT gr J fb fa gr.length).map pr)→M.length≤r'→Q (.ref r') M'
section
variable{K:Af}
theorem Y05{Γ G}:RR ⟨K,Γ,G⟩ Gh Qj Bc:=by
 rintro ds M Q Z ⟨r0,r,gr,J,S,fb,fa,Fd,rfl,hr,hF,hn,hJ,q⟩
 delta Gh Qj
 walk_at "ev"
 refine⟨Z1 (by decide),_,Z6 hr,?_⟩
 refine Zu (fun i σ M'=>∃d2 d3 d4,σ=[some (.ref r),some (.ref M.length),d2,d3,d4]∧Kp M M'∧Za M' M.length=some ((gvT gr J fb fa i).map pr)) ⟨none,none,none,rfl,Kp.new _ _,Z9 _ _ []⟩ ?_ ?_ ?_
 ·rintro i σ M' _ ⟨d2,d3,d4,rfl,k,_⟩
  exact k.L hr
 ·rintro i dx σ M' C hx ⟨d2,d3,d4,rfl,k,hw⟩ hC
  have hi:i<gr.length:=by have:=(Ac.mp hx).1;rwa[hF.1] at this
  obtain⟨nd,hd⟩:∃nd,gr[i]?=some nd:=⟨_,Aa hi⟩
  obtain⟨rj,L,rfl,hL,⟨lo,hlo,jok⟩,hrj,hJl,hSl⟩:=hF.2 i dx nd hx hd
  have hlen:=Cz (gr:=gr) (fb:=fb) (fa:=fa) hJ i (by omega)
  have hrl:=Ye hL
  have h4:=hJ i hi
  have hsm:smOf gr i=smN nd:=by unfold smOf;rw[hd];rfl
  delta Nx
  walk_at "ev"
  refine⟨_,k.L (Z0 hL),?_⟩
  refine Zu (fun j σ M'=>∃d4,σ=[some (.ref r),some (.ref M.length),some (.ref rj),some (spN (fb i) (fa i) nd),d4]∧Kp M M'∧Za M' M.length=some ((gvT gr J fb fa i++(gvJ J fb i).take j).map pr)) ⟨_,rfl,k,by rw[List.take_zero,Dq];exact hw⟩ ?_ ?_ ?_
  ·rintro j σ M' _ ⟨d4,rfl,k,_⟩
   exact k.L (Z0 hL)
  ·rintro j dy σ M2 C2 hy ⟨d4,rfl,k2,hw2⟩ hC2
   obtain⟨x,rr,e1,rfl,e3,e4⟩:=jok.2 j dy hy
   have hj:j< (J i).length:=(Ac.mp e1).1
   delta Ng
   walk_at "ev"
   rw[cut2]
   refine⟨Zc (Z0 hw2),_,hw2,by rw[Ad,Ah,Ii];exact Z3 (by omega),?_⟩
   refine hC2 _ _ ⟨_,rfl,k2.set (Nat.le_refl _) _,?_⟩
   have eg:(gvJ J fb i)[j]?=some (x,fb i x):=by unfold gvJ;rw[Aj,e1];rfl
   rw[Zf eg,←Dg]
   simp only[Aq]
   exact Zi hw2
  ·rintro σ M2 ⟨d4,rfl,k2,hw2⟩
   have eJ:(gvJ J fb i).take L.length=gvJ J fb i:=Lv (by unfold gvJ;rw[Ad,jok.1];exact Nat.le_refl _)
   rw[eJ] at hw2
   have fin:gvS gr fa i=[]→C [some (.ref r),some (.ref M.length),some (.ref rj),some (spN (fb i) (fa i) nd),d4] M2:=by
    intro e
    refine hC _ _ ⟨_,_,_,rfl,k2,?_⟩
    rw[Qm,e,Dq]
    exact hw2
   unfold gvS at fin
   rw[hsm] at fin
   delta Os
   cases nd with
   | sum x p sg s t=>
    simp only[spN]
    walk_at "ev"
    refine⟨_,rfl,?_⟩
    try walk_at "ev"
    refine⟨Zc (Z0 hw2),_,rfl,_,hw2,by rw[Ad,Ah];unfold gvJ;rw[Ad];exact Z3 (by omega),?_⟩
    refine hC _ _ ⟨_,_,_,rfl,k2.set (Nat.le_refl _) _,?_⟩
    have eS:gvS gr fa i=[(x,fa i x)]:=by unfold gvS;rw[hsm];rfl
    rw[Qm,eS,←Dg]
    simp only[Aq]
    exact Zi hw2
   | test p sg s y n=>
    simp only[spN]
    walk_at "ev"
    refine⟨_,rfl,?_⟩
    try walk_at "ev"
    rw[if_neg (by decide+kernel)]
    exact fin rfl
   | fin=>
    simp only[spN]
    walk_at "ev"
    refine⟨_,rfl,?_⟩
    try walk_at "ev"
    rw[if_neg (by decide+kernel)]
    exact fin rfl
   | spin=>
    simp only[spN]
    walk_at "ev"
    refine⟨_,rfl,?_⟩
    try walk_at "ev"
    rw[if_neg (by decide+kernel)]
    exact fin rfl
 ·rintro σ M' ⟨d2,d3,d4,rfl,k,hw⟩
  rw[hF.1] at hw
  delta Ov
  walk_at "ev"
  exact q _ _ k hw (Nat.le_refl _)
end
theorem Zw1{k l m:Nat}{d e f:D}{σ:DEnv}{F:DEnv→Prop}:tgD [k,l,m] (.tup [d,e,f]) σ F=F (((σ.set k (some d)).set l (some e)).set m (some f)):=by
 show([d,e,f].length=[k,l,m].length∧F _)=_
 rw[eq_iff_iff]
 exact⟨fun h=>h.2,fun h=>⟨rfl,h⟩⟩
def Usd(gr:List Nd)(S:Nat→List Int)(fb fa:Nat→Str→Nat)(p:Str×Nat):Prop:=∃k,k<gr.length∧(p.2=fb k p.1∨∃z∈S k,p.2=TH fa z p.1)
noncomputable def itD:(Str×Nat) ⊕ D→D
 | .inl p=>pr p
 | .inr d=>d
noncomputable def itL:(Str×Nat) ⊕ D→Option (Str×Nat)
 | .inl p=>some p
 | .inr _=>none
noncomputable def oI(f:Str→Nat):Opd→(Str×Nat) ⊕ D
 | .nm x=> .inl (x,f x)
 | .no i=> .inr (.int i)
theorem oI_d(f:Str→Nat)(o:Opd):itD (oI f o)=spO f o:=by cases o<;>rfl
theorem oI_f{f:Str→Nat}{o:Opd}{d:D}(h:Il d=oI f o):∃i,d= .int i:=by
 cases o with
 | nm x=>cases h
 | no i=>cases h;exact⟨i,rfl⟩
theorem oI_l{f:Str→Nat}{o:Opd}{p:Str×Nat}(h:itL (oI f o)=some p):p.2=f p.1:=by
 cases o with
 | nm x=>cases h;rfl
 | no i=>cases h
def Zl0:DSp:=fun ds M Q _=>∃(r0 r:Nat) (gr:List Nd) (J:Nat→List Str) (S:Nat→List Int) (fb fa:Nat→Str→Nat) (Fd:List D),ds=[.ref r]∧Z4 M r=some Fd∧Yr r0 M gr J S fb fa Fd∧gr.length≤40∧(∀k,k<gr.length→(J k).length≤4)∧
 ∀(us:List (Str×Nat)) M' r',Kp M M'→(∀p∈us,Usd gr S fb fa p)→Za M' r'=some (us.map pr)→M.length≤r'→Q (.ref r') M'
section
variable{K:Af}
theorem Sh{Γ G}{M M2:Z2}{Q:DK}{C bk:DEnv→Z2→Prop}{r ru rj:Nat}{hd:Str}{ds:List D}{its:List ((Str×Nat) ⊕ D)}{us:List (Str×Nat)}{d4 d5 d6 d7:Option D}(h0:atI ds 0=some (.str hd))(hc:U.cutD ds (some (1+if hd=Str.ofString "sum" then 1 else 0)) none=its.map itD)
  (hn:¬(HT.sIx ds.length 0 (some (1+if hd=Str.ofString "sum" then 1 else 0))=0∧HT.sIx ds.length ds.length none=ds.length)) (hf:∀d,Il d∈its→(∃i,d= .int i)∨∃x,d= .str x) (hi:its.length≤6) (k2:Kp M M2) (hw:Za M2 ru=some (us.map pr)) (hl:us.length≤10000)
  (q:∀M3 d7,Kp M M3→M2.length≤M3.length→C [some (.ref r),some (.ref M3.length),some (.ref rj),some (.tup ds),d4,d5,d6,d7] (M3++[.lst ((us++its.filterMap itL).map pr)])):
  tss ⟨K,Γ,G⟩ noX Pc {nx:=C,rt:=Q,bk:=bk,ct:=C} [some (.ref r),some (.ref ru),some (.ref rj),some (.tup ds),d4,d5,d6,d7] M2:=by
 delta Pc
 walk_at "ev"
 refine⟨_,h0,?_⟩
 try walk_at "ev"
 refine⟨hn,?_⟩
 rw[hc]
 simp only[capD,As,Hb,Lj,Ka,Hq,Dr,Lk]
 refine Yg (fun m σ M'=>∃d0,σ=[d0]∧Kp M2 M'∧Za M' M2.length=some (((its.take m).filterMap itL).map pr)) ⟨none,rfl,Kp.new _ _,Z9 _ _ []⟩ (fun _ _ _ _ _=>trivial) ?_ ?_
 ·rintro m dz σ M' C3 hz ⟨d0,rfl,k',hw'⟩ hC3
  rw[Aj,Di] at hz
  obtain⟨z,hz1,rfl⟩:=hz
  have hm:m<its.length:=(Ac.mp hz1).1
  have fl:=List.length_filterMap_le itL (its.take m)
  rw[Ii] at fl
  cases z with
  | inl p=>
   simp only[itD,pr]
   walk_at "ev"
   refine⟨_,hw',by rw[Ad];exact Z3 (by omega),?_⟩
   refine hC3 _ _ ⟨_,rfl,k'.set (Nat.le_refl _) _,?_⟩
   have e:(its.take (m+1)).filterMap itL=(its.take m).filterMap itL++[p]:=by rw[Zf hz1,Lz];rfl
   rw[e]
   simp only[Aq]
   exact Zi hw'
  | inr d=>
   have e:(its.take (m+1)).filterMap itL=(its.take m).filterMap itL:=by rw[Zf hz1,Lz];exact Dq _
   rcases hf d (Al hz1) with⟨i,rfl⟩ | ⟨x,rfl⟩
   ·simp only[itD]
    walk_at "ev"
    exact hC3 _ _ ⟨_,rfl,k',by rw[e];exact hw'⟩
   ·simp only[itD]
    walk_at "ev"
    exact hC3 _ _ ⟨_,rfl,k',by rw[e];exact hw'⟩
 rintro σ M3 ⟨d0,rfl,k3,hw3⟩
 rw[Ad,Dz] at hw3
 have fl:=List.length_filterMap_le itL its
 try walk_at "ev"
 refine⟨_,_,k3.W hw,hw3,by rw[Ad,Ad];exact Z1 (by omega),?_⟩
 rw[←Aq]
 exact q M3 _ (k2.trans k3) k3.len
theorem Yh2{Γ G}:RR ⟨K,Γ,G⟩ Bp Jk Zl0:=by
 rintro ds M Q Z ⟨r0,r,gr,J,S,fb,fa,Fd,rfl,hr,hF,hn,hJ,q⟩
 delta Bp Jk
 walk_at "ev"
 refine⟨Z1 (by decide),_,Z6 hr,?_⟩
 refine Zu (fun i σ M'=>∃d2 d3 d4 d5 d6 d7 ru,∃us:List (Str×Nat),σ=[some (.ref r),some (.ref ru),d2,d3,d4,d5,d6,d7]∧Kp M M'∧Za M' ru=some (us.map pr)∧us.length≤200 * i∧M.length≤ru∧∀p∈us,Usd gr S fb fa p) ⟨none,none,none,none,none,none,_,[],rfl,Kp.new _ _,Z9 _ _ [],Nat.le_refl _,Nat.le_refl _,fun p h=>(Ak h).elim⟩ ?_ ?_ ?_
 ·rintro i σ M' _ ⟨d2,d3,d4,d5,d6,d7,ru,us,rfl,k,_⟩
  exact k.L hr
 ·rintro i dx σ M' C hx ⟨d2,d3,d4,d5,d6,d7,ru,us,rfl,k,hw,hl,hru,hu⟩ hC
  have hi:i<gr.length:=by have:=(Ac.mp hx).1;rwa[hF.1] at this
  obtain⟨nd,hd⟩:∃nd,gr[i]?=some nd:=⟨_,Aa hi⟩
  obtain⟨rj,L,rfl,hL,⟨lo,hlo,jok⟩,hrj,hJl,hSl⟩:=hF.2 i dx nd hx hd
  have h4:=hJ i hi
  have hjl:=jok.1
  delta C0
  walk_at "ev"
  refine⟨_,k.L (Z0 hL),?_⟩
  refine Zu (fun j σ M'=>∃d4 d5 d6 ru,∃us:List (Str×Nat),σ=[some (.ref r),some (.ref ru),some (.ref rj),some (spN (fb i) (fa i) nd),d4,d5,d6,d7]∧Kp M M'∧Za M' ru=some (us.map pr)∧us.length≤200 * i+41 * j∧M.length≤ru∧∀p∈us,Usd gr S fb fa p) ⟨_,_,_,ru,us,rfl,k,hw,by omega,hru,hu⟩ ?_ ?_ ?_
  ·rintro j σ M' _ ⟨d4,d5,d6,ru,us,rfl,k,_⟩
   exact k.L (Z0 hL)
  ·rintro j dy σ M2 C2 hy ⟨d4,d5,d6,ru,us,rfl,k2,hw2,hl2,hru2,hu2⟩ hC2
   obtain⟨x,rr,e1,rfl,e3,e4⟩:=jok.2 j dy hy
   have hj:j< (J i).length:=(Ac.mp e1).1
   delta Fh
   rw[Zw1]
   try simp only[List.zip_cons_cons,List.zip_nil_right,Iu,List.foldl_nil,Lu,List.set_cons_zero,Dr,Hq]
   try walk_at "ev"
   refine⟨_,k2.L (Z0 e3),?_⟩
   simp only[capD,As,Hb,Lj,Ka,Hq,Dr,Lk]
   refine Yg (fun m σ M'=>∃d0 d1,σ=[d0,d1,some (.str x)]∧Kp M2 M'∧Za M' M2.length=some ((((S i).take m).map fun z=>(x,TH fa z x)).map pr)) ⟨none,none,rfl,Kp.new _ _,Z9 _ _ []⟩ ?_ ?_ ?_
   ·rintro m σ M' _ ⟨d0,d1,rfl,k',_⟩
    exact k'.L (k2.L (Z0 e3))
   ·rintro m dz σ M' C3 hz ⟨d0,d1,rfl,k',hw'⟩ hC3
    rw[Aj,Di] at hz
    obtain⟨z,hz1,rfl⟩:=hz
    have hm:m< (S i).length:=(Ac.mp hz1).1
    walk_at "ev"
    try simp only[List.zip_cons_cons,List.zip_nil_right,Iu,List.foldl_nil,Lu,List.set_cons_zero,Dr,Hq]
    try walk_at "ev"
    refine⟨Z1 (by decide),_,hw',by rw[Ad,Ad,Ii];exact Z3 (by omega),?_⟩
    refine hC3 _ _ ⟨_,_,rfl,k'.set (Nat.le_refl _) _,?_⟩
    rw[Zf hz1]
    simp only[Aq]
    exact Zi hw'
   rintro σ M3 ⟨d0,d1,rfl,k3,hw3⟩
   rw[Ad,Dz] at hw3
   try walk_at "ev"
   have hw2':=k3.W hw2
   refine⟨_,_,hw2',hw3,by rw[Ad,Ad,Ad];exact Z1 (by omega),?_⟩
   have h3:=k3.len
   have h2:=k2.len
   refine hC2 _ _ ⟨_,_,_,M3.length,us++(S i).map fun z=>(x,TH fa z x),rfl,(k2.trans k3).app _,?_,?_,by omega,fun p hp=>?_⟩
   ·rw[Aq];exact Z9 _ _ []
   ·rw[Ah,Ad];omega
   ·rcases Ap.mp hp with h | h
    ·exact hu2 p h
    ·obtain⟨z,hz,rfl⟩:=Dc.mp h
     exact⟨i,hi,.inr ⟨z,hz,rfl⟩⟩
  ·rintro σ M2 ⟨d4,d5,d6,ru,us,rfl,k2,hw2,hl2,hru2,hu2⟩
   rw[hjl] at hl2
   have h2:=k2.len
   have fin:∀(nd:Nd) (its:List ((Str×Nat) ⊕ D)) (M3:Z2) d7,its.length≤6→(∀p,p∈its.filterMap itL→p.2=fb i p.1)→Kp M M3→M2.length≤M3.length→C [some (.ref r),some (.ref M3.length),some (.ref rj),some (spN (fb i) (fa i) nd),d4,d5,d6,d7] (M3++[.lst ((us++its.filterMap itL).map pr)]):=by
    intro nd its M3 d7 h6 hp k3 h3
    have fl:=List.length_filterMap_le itL its
    refine hC _ _ ⟨_,_,_,_,_,_,M3.length,us++its.filterMap itL,rfl,k3.app _,Z9 _ _ [],?_,by omega,fun p h=>?_⟩
    ·rw[Ah];omega
    ·rcases Ap.mp h with h | h
     ·exact hu2 p h
     ·exact⟨i,hi,.inl (hp p h)⟩
   cases nd with
   | sum x p sg s t=>
    refine Sh (hd:="sum") (its:=[oI (fb i) p,.inr (.str sg),oI (fb i) s,.inr (.int t)]) rfl ?_ (show ¬(HT.sIx 6 0 (some (1+if Str.ofString "sum"=Str.ofString "sum" then 1 else 0))=0∧HT.sIx 6 6 none=6) by decide+kernel) (fun d h=>?_) (by simp) k2 hw2 (by omega) fun M3 d7 k3 h3=>fin (.sum x p sg s t) _ M3 d7 (by simp) (fun u hu=>?_) k3 h3
    ·simp only[As,Hb,oI_d];rfl
    ·simp only[Ao,Ak,or_false] at h
     rcases h with h | h | h | h
     ·exact .inl (oI_f h)
     ·cases h;exact .inr ⟨_,rfl⟩
     ·exact .inl (oI_f h)
     ·cases h;exact .inl ⟨_,rfl⟩
    ·obtain⟨o,ho,e⟩:=Kb.mp hu
     simp only[Ao,Ak,or_false] at ho
     rcases ho with rfl | rfl | rfl | rfl
     ·exact oI_l e
     ·cases e
     ·exact oI_l e
     ·cases e
   | test p sg s y n=>
    refine Sh (hd:="test") (its:=[oI (fb i) p,.inr (.str sg),oI (fb i) s,.inr (.int y),.inr (.int n)]) rfl ?_ (show ¬(HT.sIx 6 0 (some (1+if Str.ofString "test"=Str.ofString "sum" then 1 else 0))=0∧HT.sIx 6 6 none=6) by decide+kernel) (fun d h=>?_) (by simp) k2 hw2 (by omega) fun M3 d7 k3 h3=>fin (.test p sg s y n) _ M3 d7 (by simp) (fun u hu=>?_) k3 h3
    ·rw[if_neg (by decide+kernel)]
     simp only[As,Hb,oI_d];rfl
    ·simp only[Ao,Ak,or_false] at h
     rcases h with h | h | h | h | h
     ·exact .inl (oI_f h)
     ·cases h;exact .inr ⟨_,rfl⟩
     ·exact .inl (oI_f h)
     ·cases h;exact .inl ⟨_,rfl⟩
     ·cases h;exact .inl ⟨_,rfl⟩
    ·obtain⟨o,ho,e⟩:=Kb.mp hu
     simp only[Ao,Ak,or_false] at ho
     rcases ho with rfl | rfl | rfl | rfl | rfl
     ·exact oI_l e
     ·cases e
     ·exact oI_l e
     ·cases e
     ·cases e
   | fin=>
    exact Sh (hd:="end") (its:=[]) rfl (by rw[if_neg (by decide+kernel)];rfl) (by decide+kernel) (fun d h=>(Ak h).elim) (by simp) k2 hw2 (by omega) fun M3 d7 k3 h3=>fin .fin [] M3 d7 (by simp) (fun u hu=>(Ak hu).elim) k3 h3
   | spin=>
    exact Sh (hd:="spin") (its:=[]) rfl (by rw[if_neg (by decide+kernel)];rfl) (by decide+kernel) (fun d h=>(Ak h).elim) (by simp) k2 hw2 (by omega) fun M3 d7 k3 h3=>fin .spin [] M3 d7 (by simp) (fun u hu=>(Ak hu).elim) k3 h3
 ·rintro σ M' ⟨d2,d3,d4,d5,d6,d7,ru,us,rfl,k,hw,hl,hru,hu⟩
  delta Fc
  walk_at "ev"
  exact q us _ _ k hu hw hru
end
section
variable{gr:List Nd}{J:Nat→List Str}{c:Str→Nat}{gv:Str→Nat→Nat×Bool}{fb fa:Nat→Str→Nat}
theorem Ys0{k:Nat}{p:Str×Nat}(h:p∈gvS gr fa k):smOf gr k=some p.1∧p.2=fa k p.1:=by
 unfold gvS at h
 split at h
 ·rename_i x e
  rw[Am] at h
  subst h
  exact⟨e,rfl⟩
 ·exact(Ak h).elim
theorem Yk1{k:Nat}{x:Str}(h:smOf gr k=some x):(x,fa k x)∈gvS gr fa k:=by
 unfold gvS
 rw[h]
 exact Am.mpr rfl
theorem Ym7{k:Nat}{p:Str×Nat}(h:p∈gvJ J fb k):p.1∈J k∧p.2=fb k p.1:=by
 obtain⟨x,hx,rfl⟩:=Dc.mp h
 exact⟨hx,rfl⟩
theorem Bu{i:Nat}{p:Str×Nat}:p∈gvT gr J fb fa i↔∃k,k<i∧(p∈gvJ J fb k∨p∈gvS gr fa k):=by
 unfold gvT
 simp only[List.mem_flatMap,He,Ap]
theorem giver(iv:Iv (wy gr) J (smOf gr) gr.length c gv fb fa){k:Nat}{p:Str×Nat}(hk:k<gr.length):(p∈gvJ J fb k→p.2≠0∧gv p.1 p.2=(k,true))∧(p∈gvS gr fa k→p.2≠0∧gv p.1 p.2=(k,false)):=by
 constructor
 ·intro h
  obtain⟨h1,h2⟩:=Ym7 h
  rw[h2]
  exact iv.j k hk _ h1
 ·intro h
  obtain⟨h1,h2⟩:=Ys0 h
  rw[h2]
  exact iv.s k hk _ h1
theorem Yo8(iv:Iv (wy gr) J (smOf gr) gr.length c gv fb fa){p:Str×Nat}(h:p∈gvT gr J fb fa gr.length):p.2≠0:=by
 obtain⟨k,hk,h | h⟩:=Bu.mp h
 ·exact((giver iv hk).1 h).1
 ·exact((giver iv hk).2 h).1
theorem Ew(iv:Iv (wy gr) J (smOf gr) gr.length c gv fb fa)(nd:∀k,(J k).Nodup):∀i,i≤gr.length→(gvT gr J fb fa i).Nodup
 | 0,_=>Mf
 | i+1,hi=>by
  have hk:i<gr.length:=by omega
  rw[Qm,Ky]
  refine⟨Ew iv nd i (by omega),?_,?_⟩
  ·rw[Ky]
   refine⟨?_,?_,?_⟩
   ·unfold gvJ
    unfold List.Nodup
    rw[Lw]
    exact(nd i).imp fun h z=>h (congrArg Prod.fst z)
   ·have:=Zo4 gr fa i
    match gvS gr fa i,this with
    | [],_=>exact Mf
    | [x],_=>exact Im.mpr ⟨Ak,Mf⟩
    | _::_::_,h=>simp at h
   ·rintro a ha b hb rfl
    have h1:=((giver iv hk).1 ha).2
    have h2:=((giver iv hk).2 hb).2
    rw[h1] at h2
    cases h2
  ·rintro a ha b hb rfl
   obtain⟨k,hk2,h⟩:=Bu.mp ha
   have h1:(gv a.1 a.2).1=k:=by
    rcases h with h | h
    ·rw[((giver iv (by omega)).1 h).2]
    ·rw[((giver iv (by omega)).2 h).2]
   have h2:(gv a.1 a.2).1=i:=by
    rcases Ap.mp hb with h | h
    ·rw[((giver iv hk).1 h).2]
    ·rw[((giver iv hk).2 h).2]
   omega
theorem E3{p:Nat}{x:Str}{v:Nat}(hp:p<gr.length)(e:Ent (wy gr) J (smOf gr) gv fb fa p x v):(x,v)∈gvT gr J fb fa gr.length:=by
 have:=e.le
 refine Bu.mpr ⟨(gv x v).1,by omega,?_⟩
 cases h:(gv x v).2 with
 | true=>
  obtain⟨h1,h2⟩:=e.jo h
  exact .inl (Dc.mpr ⟨x,h1,by rw[h2]⟩)
 | false=>
  obtain⟨h1,h2⟩:=e.su h
  have:=Yk1 (fa:=fa) h1
  rw[h2] at this
  exact .inr this
theorem Z77(iv:Iv (wy gr) J (smOf gr) gr.length c gv fb fa){S:Nat→List Int}(hS:∀k,k<gr.length→∀z,z∈S k→SrcZ gr k z){p:Str×Nat}(h:Usd gr S fb fa p)(h0:p.2≠0):p∈gvT gr J fb fa gr.length:=by
 obtain⟨x,v⟩:=p
 obtain⟨k,hk,e | ⟨z,hz,e⟩⟩:=h
 ·simp only at e h0
  subst e
  exact E3 hk (iv.b k hk x h0).1
 ·simp only at e h0
  rcases hS k hk z hz with⟨rfl,_⟩ | ⟨q,rfl,hq,_⟩
  ·exact absurd e (by rw[TH,if_pos rfl];exact h0)
  ·rw[Po] at e
   subst e
   exact E3 hq (iv.a q hq x h0)
end
theorem Yo9{α:Type}{l:List α}{a b:α}(ha:a∈l)(hb:b∈l)(ne:a≠b):2≤l.length:=by
 match l,ha,hb with
 | [],ha,_=>exact(Ak ha).elim
 | [x],ha,hb=>
  rw[Am] at ha hb
  exact absurd (ha.trans hb.symm) ne
 | _::_::_,_,_=>simp
theorem Yk8{gr:List Nd}{J:Nat→List Str}{fb fa:Nat→Str→Nat}{nm:List Str}(on:OnR gr J fb fa)(hnm:Nms nm)(hal:∀d∈gr,d.al nm)(k:Nat):NmOk (J k):=by
 obtain⟨ms,c,_,jr,_⟩:=on
 obtain⟨nd,pw,mem⟩:=jr.so k
 have sub:∀x∈J k,x∈nm:=by
  intro x hx
  obtain⟨p,hp,e⟩:=mem x hx
  unfold smOf at e
  rw[Aa hp] at e
  have ha:=hal _ (Hv hp)
  generalize gr[p]=d at e ha
  cases d with
  | sum y a sg b t=>cases e;exact ha.1
  | test a sg b y n=>cases e
  | fin=>cases e
  | spin=>cases e
 exact⟨nd,pw,fun x hx=>hnm.2 x (sub x hx),by rw[←hnm.1];exact Pv nd sub⟩
noncomputable def Nd.p:Nd→PyData
 | .sum x a sg b t=> .tuple [.str "sum",.str x,a.p,.str sg,b.p,.int t]
 | .test a sg b y n=> .tuple [.str "test",a.p,.str sg,b.p,.int y,.int n]
 | .fin=> .tuple [.str "end"]
 | .spin=> .tuple [.str "spin"]
theorem Nd.pd{M:Z2}(d:Nd):PD M d.p d.d:=by
 cases d with
 | sum x a sg b t=>exact⟨_,rfl,_,_,rfl,rfl,_,_,rfl,rfl,_,_,rfl,a.pd,_,_,rfl,rfl,_,_,rfl,b.pd,_,_,rfl,rfl,rfl⟩
 | test a sg b y n=>exact⟨_,rfl,_,_,rfl,rfl,_,_,rfl,a.pd,_,_,rfl,rfl,_,_,rfl,b.pd,_,_,rfl,rfl,_,_,rfl,rfl,rfl⟩
 | fin=>exact⟨_,rfl,_,_,rfl,rfl,rfl⟩
 | spin=>exact⟨_,rfl,_,_,rfl,rfl,rfl⟩
theorem Zm8{M:Z2}:∀gr:List Nd,PDs M (gr.map Nd.p) (gr.map Nd.d)
 | []=>rfl
 | d::r=>⟨_,_,rfl,d.pd,Zm8 r⟩
theorem Nd.lay{nm:List Str}(hn:Nms nm)(d:Nd)(h:d.al nm):PyData.canLay0 d.p=true:=by
 have i:∀t:Int,PyData.canLay0 (.int t)=true:=fun _=>rfl
 have s1:PyData.canLay0 (.str "sum")=true:=by decide+kernel
 have s2:PyData.canLay0 (.str "test")=true:=by decide+kernel
 have s3:PyData.canLay0 (.str "end")=true:=by decide+kernel
 have s4:PyData.canLay0 (.str "spin")=true:=by decide+kernel
 have tup:∀l,PyData.canLay0 (.tuple l)=PyData.canLayAll0 l:=fun _=>by rw[PyData.canLay0]
 have cons:∀x l,PyData.canLayAll0 (x::l)=(PyData.canLay0 x&&PyData.canLayAll0 l):=fun _ _=>by rw[PyData.canLayAll0]
 have nil:PyData.canLayAll0 []=true:=by rw[PyData.canLayAll0]
 cases d with
 | sum x a sg b t=>
  obtain⟨h1,h2,h3,h4⟩:=h
  simp only[Nd.p,tup,cons,nil,s1,i,hn.2 x h1,h4,a.lay hn h2,b.lay hn h3,Bool.and_self]
 | test a sg b y n=>
  obtain⟨h2,h3,h4⟩:=h
  simp only[Nd.p,tup,cons,nil,s2,i,h4,a.lay hn h2,b.lay hn h3,Bool.and_self]
 | fin=>simp only[Nd.p,tup,cons,nil,s3,Bool.and_self]
 | spin=>simp only[Nd.p,tup,cons,nil,s4,Bool.and_self]
theorem Zk0{nm:List Str}(hn:Nms nm):∀gr:List Nd,(∀d∈gr,d.al nm)→PyData.canLayAll0 (gr.map Nd.p)=true
 | [],_=>by rw[Hb,PyData.canLayAll0]
 | d::r,h=>by
  rw[As]
  unfold PyData.canLayAll0
  rw[Zk0 hn r fun x hx=>h x (Dd _ hx),d.lay hn (h d De)]
  rfl
theorem Nd.dep(d:Nd):PyData.depth d.p≤5:=by
 cases d with
 | sum x a sg b t=>cases a<;>cases b<;>(simp only[Nd.p,Opd.p,PyData.depth,PyData.depthAll];decide)
 | test a sg b y n=>cases a<;>cases b<;>(simp only[Nd.p,Opd.p,PyData.depth,PyData.depthAll];decide)
 | fin=>simp only[Nd.p,PyData.depth,PyData.depthAll];decide
 | spin=>simp only[Nd.p,PyData.depth,PyData.depthAll];decide
theorem Zr8:∀gr:List Nd,PyData.depthAll (gr.map Nd.p)≤5
 | []=>by simp[PyData.depthAll]
 | d::r=>by
  rw[As]
  unfold PyData.depthAll
  have h1:=Zr8 r
  have h2:=d.dep
  omega
theorem Yu6{M:Z2}{m n:Nat}{gr:List Nd}{nm:List Str}{B:Bool→Prop}(hn:Nms nm)(ok:∀d∈gr,d.al nm)(h1:Z4 M m=some (gr.map Nd.d))(h2:Z4 M n=some (gr.map Nd.d))(q:B true):eqD M (.ref m) (.ref n) B:=by
 have hc:PyData.canLay0 (.list (gr.map Nd.p))=true:=by unfold PyData.canLay0;exact Zk0 hn gr ok
 refine .inl ⟨.list (gr.map Nd.p),.list (gr.map Nd.p),⟨m,_,rfl,h1,Zm8 gr⟩,⟨n,_,rfl,h2,Zm8 gr⟩,hc,hc,?_,?_⟩
 ·unfold PyData.depth
  have:=Zr8 gr
  omega
 ·rw[PySem.SeqAt.eqv_refl _ hc]
  exact q
theorem Yr.keep{r0:Nat}{M M':Z2}{gr:List Nd}{J:Nat→List Str}{S:Nat→List Int}{fb fa:Nat→Str→Nat}{Fd:List D}(h:Yr r0 M gr J S fb fa Fd)(k:Kp M M'):Yr r0 M' gr J S fb fa Fd:=
 ⟨h.1,fun i d nd e1 e2=>by obtain⟨rj,L,h1,h2,⟨lo,h3,h4⟩,h5⟩:=h.2 i d nd e1 e2;exact⟨rj,L,h1,k.W h2,⟨lo,h3,h4.keep k⟩,h5⟩⟩
theorem Yr.set{r0:Nat}{M:Z2}{c:Cell}{gr:List Nd}{J:Nat→List Str}{S:Nat→List Int}{fb fa:Nat→Str→Nat}{Fd:List D}(h:Yr r0 M gr J S fb fa Fd):Yr r0 (M.set r0 c) gr J S fb fa Fd:=
 ⟨h.1,fun i d nd e1 e2=>by obtain⟨rj,L,h1,h2,⟨lo,h3,h4⟩,h5,h6⟩:=h.2 i d nd e1 e2;exact⟨rj,L,h1,Y0 h2 (by omega),⟨lo,h3,h4.set h3⟩,h5,h6⟩⟩
theorem Bi{M:Z2}{n:Nat}{a b:D}(ha:Y6 a=true)(hb:Y6 b=true):AL M (n+1) (.tup [a,b]) (.tup [a,b]):=by
 refine .inr (.inl ⟨_,_,rfl,rfl,rfl,by simp,fun i u v e1 e2=>?_⟩)
 match i,e1,e2 with
 | 0,e1,e2=>cases e1;cases e2;exact AL.flat ha
 | 1,e1,e2=>cases e1;cases e2;exact AL.flat hb
 | _+2,e1,e2=>cases e1
theorem Z37{M:Z2}{n:Nat}{xs:List D}(hl:xs.length≤100000)(h:∀d∈xs,AL M n d d):AL M (n+1) (.tup xs) (.tup xs):=
 .inr (.inl ⟨_,_,rfl,rfl,rfl,hl,fun i u v e1 e2=>by rw[e1] at e2;cases e2;exact h u (Al e1)⟩)
theorem Z61{M:Z2}{n:Nat}(f:Str→Nat)(o:Opd):AL M (n+1) (spO f o) (spO f o):=by
 cases o with
 | nm x=>exact Bi rfl rfl
 | no i=>exact AL.flat rfl
theorem Yo4{M:Z2}{n:Nat}(fb fa:Str→Nat)(nd:Nd):AL M (n+2) (spN fb fa nd) (spN fb fa nd):=by
 cases nd with
 | sum x a sg b t=>
  refine Z37 (Nat.le_trans (Nat.le_refl 6) (by decide)) fun d hd=>?_
  simp only[Ao,Ak,or_false] at hd
  rcases hd with rfl | rfl | rfl | rfl | rfl | rfl
  ·exact AL.flat rfl
  ·exact Bi rfl rfl
  ·exact Z61 _ _
  ·exact AL.flat rfl
  ·exact Z61 _ _
  ·exact AL.flat rfl
 | test a sg b y n=>
  refine Z37 (Nat.le_trans (Nat.le_refl 6) (by decide)) fun d hd=>?_
  simp only[Ao,Ak,or_false] at hd
  rcases hd with rfl | rfl | rfl | rfl | rfl | rfl
  ·exact AL.flat rfl
  ·exact Z61 _ _
  ·exact AL.flat rfl
  ·exact Z61 _ _
  ·exact AL.flat rfl
  ·exact AL.flat rfl
 | fin=>exact Z37 (by decide) fun d hd=>by rw[Am] at hd;subst hd;exact AL.flat rfl
 | spin=>exact Z37 (by decide) fun d hd=>by rw[Am] at hd;subst hd;exact AL.flat rfl
theorem Zw4{M:Z2}{a b r r':Nat}{gr:List Nd}{J:Nat→List Str}{S S':Nat→List Int}{fb fa:Nat→Str→Nat}{Fd Fd':List D}(hS:∀k,k<gr.length→S k=S' k)(hn:gr.length≤40)(h:Yr a M gr J S fb fa Fd)(h':Yr b M gr J S' fb fa Fd')(hr:Za M r=some Fd)(hr':Za M r'=some Fd'):AL M 6 (.ref r) (.ref r'):=by
 refine .inr (.inr ⟨r,r',Fd,Fd',rfl,rfl,hr,hr',by rw[h.1,h'.1],by rw[h.1];omega,fun k d d' e1 e2=>?_⟩)
 have hk:k<gr.length:=by have:=(Ac.mp e1).1;rwa[h.1] at this
 obtain⟨nd,hd⟩:∃nd,gr[k]?=some nd:=⟨_,Aa hk⟩
 obtain⟨rj,L,rfl,w,⟨lo,_,jo⟩,_,l1,l2⟩:=h.2 k d nd e1 hd
 obtain⟨rj',L',rfl,w',⟨lo',_,jo'⟩,_,_,_⟩:=h'.2 k d' nd e2 hd
 rw[←hS k hk] at jo'
 refine .inr (.inl ⟨_,_,rfl,rfl,rfl,by simp,fun i u v e1 e2=>?_⟩)
 match i,e1,e2 with
 | 1,e1,e2=>cases e1;cases e2;exact Yo4 _ _ _
 | _+2,e1,e2=>cases e1
 | 0,e1,e2=>
  cases e1
  cases e2
  refine .inr (.inr ⟨rj,rj',L,L',rfl,rfl,w,w',by rw[jo.1,jo'.1],by rw[jo.1];omega,fun i u v e1 e2=>?_⟩)
  obtain⟨x,rr,n1,rfl,w2,_⟩:=jo.2 i u e1
  obtain⟨x',rr',n1',rfl,w2',_⟩:=jo'.2 i v e2
  rw[n1] at n1'
  cases n1'
  refine .inr (.inl ⟨_,_,rfl,rfl,rfl,by simp,fun i u v e1 e2=>?_⟩)
  match i,e1,e2 with
  | 0,e1,e2=>cases e1;cases e2;exact AL.flat rfl
  | 1,e1,e2=>cases e1;cases e2;exact AL.flat rfl
  | _+3,e1,e2=>cases e1
  | 2,e1,e2=>
   cases e1
   cases e2
   refine .inr (.inr ⟨rr,rr',_,_,rfl,rfl,w2,w2',rfl,by rw[Ad];omega,fun i u v e1 e2=>?_⟩)
   rw[e1] at e2
   cases e2
   rw[Aj,Di] at e1
   obtain⟨z,_,rfl⟩:=e1
   exact Bi rfl rfl
noncomputable def Zl1:List Nd:=[.spin]
theorem Zp5:GT.Num (wy Zl1) Zl1.length where
 pos:=by decide
 cl:=by
  intro x hx y hy
  match x,hx with
  | 0,_=>simp[wy,Zl1,Nd.gs] at hy
 up:=by
  intro k hk h0
  have:k<1:=hk
  omega
section
variable{K:Af}
theorem Ye9{Γ G}(g13:Γ[13]?=some Z23)(g26:Γ[26]?=some (Yh 6)){M:Z2}{Q:DK}{r0 r1 r2 r3:Nat}{nm:List Str}{gr:List Nd}{J:Nat→List Str}{S:Nat→List Int}{fb fa:Nat→Str→Nat}{Fd:List D}{d4 d5 d6:Option D}
  (hnm:Nms nm) (num:GT.Num (wy gr) gr.length) (hn:gr.length≤40) (hal:∀d∈gr,d.al nm) (hw1:Za M r1=some (gr.map Nd.d)) (h13:r1≠r3) (on:OnR gr J fb fa) (hS:∀k,k<gr.length→S k=lsF gr gr.length k) (hF:Yr r3 M gr J S fb fa Fd) (hw3:Za M r3=some Fd) (q:∀M',Q (.bl true) M'):
  tss ⟨K,Γ,G⟩ noX B9 {nx:=fun _ M=>Q .non M,rt:=Q} [some (.ref r0),some (.ref r1),some (.ref r2),some (.ref r3),d4,d5,d6,none] M:=by
 have h3:=Ye hw3
 delta B9
 walk_at "ev"
 refine⟨_,Z0 hw3,?_⟩
 have hF':=(hF.keep (Kp.new M [.lst Fd])).set (c:= .lst [])
 have hw1':=Y0 (c:= .lst []) (Z7 (N:=[.lst Fd]) hw1) (Hw h13)
 have hk:=Y0 (c:= .lst []) (Z9 M Fd []) (show r3≠M.length by omega)
 refine⟨Zc (Z6 (Z0 hw3)),_,Z7 hw3,Z1 (by decide),Z1 (by decide),?_⟩
 generalize (M++[Cell.lst Fd]).set r3 (.lst [])=M2 at hF' hw1' hk ⊢
 simp only[g13,g26]
 refine⟨_,nm,Zl1,rfl,Z8 _ _ [],by decide,hnm,(fun d hd=>by rw[Zl1,Am] at hd;subst hd;trivial),Zp5,fun J2 S2 c2 gv2 fb2 fa2 Fd2 M3 r4 _ _ _ _ _ k3 _ _=>?_⟩
 have kk:=(Kp.new M2 [Cell.lst [D.tup [D.str (Str.ofString "spin")]]]).trans k3
 refine⟨r1,nm,gr,rfl,kk.L (Z0 hw1'),hn,hnm,hal,num,fun J' S' c' gv' fb' fa' Fd' M4 r5 iv' jo' on' hS' hF2 k4 hw5 _=>?_⟩
 obtain⟨rfl,rfl,rfl⟩:=on.one on'
 refine⟨_,_,rfl,Zw4 (fun k hk=>?_) hn hF2 (hF'.keep (kk.trans k4)) hw5 ((kk.trans k4).W hk),q _⟩
 rw[hS k hk]
 exact Cj (hS' k hk).1 (hS' k hk).2
noncomputable def pK(p:Str×Nat):List Key:=[.inr p.1,.inl (p.2:Nat)]
theorem pK_d(l:List (Str×Nat)):l.map pr=(l.map pK).map fun t=> .tup (t.map kD):=by
 rw[Ks]
 rfl
theorem Y08{l:List (Str×Nat)}(h:l.Nodup):(l.map pK).Nodup:=by
 unfold List.Nodup
 rw[Lw]
 refine h.imp fun{a b} h z=>h ?_
 unfold pK at z
 simp only[List.cons.injEq,Il.injEq,Ds.injEq,and_true] at z
 exact Prod.ext z.1 (by omega)
theorem Yt9{Γ G}(g13:Γ[13]?=some Z23)(g25:Γ[25]?=some Cf)(g26:Γ[26]?=some (Yh 6))(g33:Γ[33]?=some Be)(g34:Γ[34]?=some Bc)(g35:Γ[35]?=some Zl0):
  RR ⟨K,Γ,G⟩ Ye2 Zw2 Z92:=by
 rintro ds M Q Z ⟨ns,rfl,rfl,hl,hb,q⟩
 delta Ye2 Zw2
 walk_at "ev"
 simp only[g25]
 refine⟨0,ns,rfl,rfl,hl,hb,fun nm gr M1 r1 hnm num h40 hal k1 hw1 hr1=>?_⟩
 try walk_at "ev"
 refine⟨_,Z0 hw1,?_⟩
 try walk_at "ev"
 simp only[g13]
 have hm1:=Ye hw1
 refine⟨_,nm,gr,rfl,Z8 _ _ [],h40,hnm,hal,num,fun J S c gv fb fa Fd M3 r3 iv jo on hS hF k3 hw3 hr3=>?_⟩
 have hg:=k3.W (Z7 (N:=[Cell.lst (gr.map Nd.d)]) hw1)
 have hh:=k3.W (Z9 M1 (gr.map Nd.d) [])
 rw[Ah,Dh] at hr3
 have h13:r1≠r3:=by omega
 have eS:∀k,k<gr.length→S k=lsF gr gr.length k:=fun k hk=>Cj (hS k hk).1 (hS k hk).2
 have h2:∀k,k<gr.length→(∀x∈J k,2≤(S k).length)∧NmOk (J k):=fun k hk=>⟨fun x hx=>by
  obtain⟨z1,z2,s1,s2,o1,o2,ne⟩:=Yj1 num iv jo hk hx
  exact Yo9 (((hS k hk).2 z1).mpr s1) (((hS k hk).2 z2).mpr s2) fun e=>ne (by rw[e]),Yk8 on hnm hal k⟩
 have hJ4:∀k,k<gr.length→(J k).length≤4:=fun k hk=>(h2 k hk).2.ln
 have gl:=Cz (gr:=gr) (fb:=fb) (fa:=fa) hJ4 gr.length (Nat.le_refl _)
 have nd:=Ew iv (fun k=>(Yk8 on hnm hal k).nd) gr.length (Nat.le_refl _)
 try walk_at "ev"
 simp only[g33]
 refine⟨r3,r3,r1,gr,J,S,fb,fa,Fd,rfl,hw3,Z0 hg,h40,num,hF,eS,h2,fun M4 k4=>?_⟩
 try walk_at "ev"
 refine Yu6 hnm hal (k4.L (Z0 hh)) (k4.L (Z0 hg)) ?_
 try walk_at "ev"
 delta Zm0
 walk_at "ev"
 simp only[g34]
 refine⟨r3,r3,gr,J,S,fb,fa,Fd,rfl,k4.L (Z0 hw3),hF.keep k4,h40,hJ4,fun M5 r5 k5 hw5 hr5=>?_⟩
 try walk_at "ev"
 have hw5':=hw5
 rw[pK_d] at hw5'
 refine⟨_,Z0 hw5',Y08 nd,by rw[Ad];omega,?_⟩
 refine Zx (Z0 hw5) ?_
 rw[Ad,Ad]
 try walk_at "ev"
 rw[if_neg (by simp)]
 delta Zr1
 walk_at "ev"
 refine⟨_,Z0 hw5,?_⟩
 refine Zu (fun i σ M'=>∃d5 d6,σ=[some (.ref 0),some (.ref r1),some (.ref M1.length),some (.ref r3),some (.ref r5),d5,d6,none]∧M'=M5) ⟨none,none,rfl,rfl⟩ ?_ ?_ ?_
 ·rintro i σ M' _ ⟨d5,d6,rfl,rfl⟩
  exact Z0 hw5
 ·rintro i dx σ M' C hx ⟨d5,d6,rfl,rfl⟩ hC
  rw[Aj,Di] at hx
  obtain⟨p,hp,rfl⟩:=hx
  have nz:=Yo8 iv (Al hp)
  simp only[Zk6,pr]
  walk_at "ev"
  rw[if_neg (by omega)]
  exact hC _ _ ⟨_,_,rfl,rfl⟩
 rintro σ M' ⟨d5,d6,rfl,rfl⟩
 have kk:=k4.trans k5
 delta Ze1
 walk_at "ev"
 simp only[g35]
 refine⟨r3,r3,gr,J,S,fb,fa,Fd,rfl,kk.L (Z0 hw3),hF.keep kk,h40,hJ4,fun us M6 r6 k6 hu hw6 hr6=>?_⟩
 refine⟨_,Z0 hw6,?_⟩
 refine Zu (fun i σ M'=>∃d5 d6,σ=[some (.ref 0),some (.ref r1),some (.ref M1.length),some (.ref r3),some (.ref r5),d5,d6,none]∧M'=M6) ⟨_,_,rfl,rfl⟩ ?_ ?_ ?_
 ·rintro i σ M' _ ⟨d5,d6,rfl,rfl⟩
  exact Z0 hw6
 ·rintro i dx σ M' C hx ⟨d5,d6,rfl,rfl⟩ hC
  rw[Aj,Di] at hx
  obtain⟨p,hp,rfl⟩:=hx
  have hup:=hu p (Al hp)
  simp only[Zp6,pr]
  walk_at "ev"
  by_cases h0:p.2=0
  ·rw[if_neg (by omega),if_neg (by omega)]
   exact hC _ _ ⟨_,_,rfl,rfl⟩
  ·rw[if_pos (by omega)]
   have hm:=Z77 iv (fun k hk z hz=>((hS k hk).2 z).mp hz) hup h0
   refine⟨Z1 (by decide),.inr (.inr (.inr ⟨_,pK p,k6.L (Z0 hw5'),rfl,Dc.mpr ⟨p,hm,rfl⟩,?_⟩))⟩
   try walk_at "ev"
   exact hC _ _ ⟨_,_,rfl,rfl⟩
 rintro σ M' ⟨d5,d6,rfl,rfl⟩
 exact Ye9 g13 g26 hnm num h40 hal ((kk.trans k6).W hg) h13 on eS (hF.keep (kk.trans k6)) ((kk.trans k6).W hw3) q
end
set_option maxHeartbeats 0 in
theorem Yp0{P:Program}{w:World}{K:Af}{mg:Str→Option Value}{base:Heap}(T0:DW K mg "ways" Gz ["node"])(T1:DW K mg "comings" V2 ["graph"])(T2:DW K mg "last_above" Yw ["told","one","other"])(T3:DW K mg "last_above_all" Y3 ["told","places"])(T4:DW K mg "musts" Oe ["graph"])(T5:DW K mg "sources_of" Yy ["graph"])(T6:DW K mg "met_from" W1 ["givers","meets"])(T7:DW K mg "joined_names" Y7 ["graph","meets"])(T8:DW K mg "meetings" W6 ["tree","sources"])(T9:DW K mg "new_version" Yl ["counts","name"])(T10:DW K mg "joinings_of" Ym ["names","versions","starts","afters"])(T11:DW K mg "split" Of ["operand","versions"])(T12:DW K mg "split_node" X1 ["node","before","after"])(T13:DW K mg "once" Gr ["graph"])(T14:DW K mg "_law_cell" Pt ["_law_script","_law_k"])(T15:DW K mg "_law_mixed" Tw ["_law_cell_here","_law_k"])(T16:DW K mg "_law_great" Sg ["_law_number"])(T17:DW K mg "_law_far" Ea ["_law_number","_law_k","_law_many","_law_mode"])(T18:DW K mg "_law_node" Oc ["_law_cell_here","_law_k","_law_many","_law_mode"])(T19:DW K mg "_law_goals" S0 ["_law_node_here"])(T20:DW K mg "_law_order" S8 ["_law_raw"])(T21:DW K mg "_law_graph" Sd ["_law_raw"])(T22:DW K mg "_law_menu" Qt ["_law_cell_here"])(T23:DW K mg "_law_word" Pa ["_law_part","_law_names"])(T24:DW K mg "_law_called" V8 ["_law_graph_here","_law_names"])(T25:DW K mg "_law_drawn" Sc ["_law_script"])(T26:DW K mg "_law_alike" Tt ["_law_found","_law_due"])(T27:DW K mg "_law_whole" S6 ["_law_thing"])(T28:DW K mg "_law_version" W3 ["_law_thing"])(T29:DW K mg "_law_same_node" Yx ["_law_found","_law_node_here"])(T30:DW K mg "_law_sources" Xz ["_law_graph_here"])(T31:DW K mg "_law_joining" Wa ["_law_joining_here","_law_sources_here"])(T32:DW K mg "_law_entry" Si ["_law_entry_here","_law_node_here","_law_sources_here"])(T33:DW K mg "_law_shape" S3 ["_law_found","_law_graph_here"])(T34:DW K mg "_law_given" Sb ["_law_found"])(T35:DW K mg "_law_used" Pm ["_law_found"])(T36:DW K mg "law" Bg ["_law_script"])(hz:∀x∈BN,mg x=none):FnOk P w K mg base (CX1 P w) 43 T36.a T36.d ["_law_script"] (spF K Z92):=by
 have PZ:Prg P w K mg base ⟨K,[bot,bot,bot,bot,bot,bot,bot,bot,bot,bot,bot,bot,bot,bot,bot,bot,bot,bot,bot,bot,bot,bot,bot,bot,bot,bot,bot,bot,bot,bot,bot,bot,bot,bot,bot,bot,bot],[]⟩ FN GN BN 0:=Prg.zero (all_cons ⟨_,_,_,T0.g,T0.k,T0.b⟩ (all_cons ⟨_,_,_,T1.g,T1.k,T1.b⟩ (all_cons ⟨_,_,_,T2.g,T2.k,T2.b⟩ (all_cons ⟨_,_,_,T3.g,T3.k,T3.b⟩ (all_cons ⟨_,_,_,T4.g,T4.k,T4.b⟩ (all_cons ⟨_,_,_,T5.g,T5.k,T5.b⟩ (all_cons ⟨_,_,_,T6.g,T6.k,T6.b⟩ (all_cons ⟨_,_,_,T7.g,T7.k,T7.b⟩ (all_cons ⟨_,_,_,T8.g,T8.k,T8.b⟩ (all_cons ⟨_,_,_,T9.g,T9.k,T9.b⟩ (all_cons ⟨_,_,_,T10.g,T10.k,T10.b⟩ (all_cons ⟨_,_,_,T11.g,T11.k,T11.b⟩ (all_cons ⟨_,_,_,T12.g,T12.k,T12.b⟩ (all_cons ⟨_,_,_,T13.g,T13.k,T13.b⟩ (all_cons ⟨_,_,_,T14.g,T14.k,T14.b⟩ (all_cons ⟨_,_,_,T15.g,T15.k,T15.b⟩ (all_cons ⟨_,_,_,T16.g,T16.k,T16.b⟩ (all_cons ⟨_,_,_,T17.g,T17.k,T17.b⟩ (all_cons ⟨_,_,_,T18.g,T18.k,T18.b⟩ (all_cons ⟨_,_,_,T19.g,T19.k,T19.b⟩ (all_cons ⟨_,_,_,T20.g,T20.k,T20.b⟩ (all_cons ⟨_,_,_,T21.g,T21.k,T21.b⟩ (all_cons ⟨_,_,_,T22.g,T22.k,T22.b⟩ (all_cons ⟨_,_,_,T23.g,T23.k,T23.b⟩ (all_cons ⟨_,_,_,T24.g,T24.k,T24.b⟩ (all_cons ⟨_,_,_,T25.g,T25.k,T25.b⟩ (all_cons ⟨_,_,_,T26.g,T26.k,T26.b⟩ (all_cons ⟨_,_,_,T27.g,T27.k,T27.b⟩ (all_cons ⟨_,_,_,T28.g,T28.k,T28.b⟩ (all_cons ⟨_,_,_,T29.g,T29.k,T29.b⟩ (all_cons ⟨_,_,_,T30.g,T30.k,T30.b⟩ (all_cons ⟨_,_,_,T31.g,T31.k,T31.b⟩ (all_cons ⟨_,_,_,T32.g,T32.k,T32.b⟩ (all_cons ⟨_,_,_,T33.g,T33.k,T33.b⟩ (all_cons ⟨_,_,_,T34.g,T34.k,T34.b⟩ (all_cons ⟨_,_,_,T35.g,T35.k,T35.b⟩ (all_cons ⟨_,_,_,T36.g,T36.k,T36.b⟩ (Ze2)))))))))))))))))))))))))))))))))))))) rfl (by intro sp h;simp only[Ao,Ak,or_false,or_self] at h;exact h) (fun g x d h1 h2=>by cases h2) hz
 have P0:=PZ.up (show 0≤0 by decide)
 have F0:=fn0 P0 T0.F Ye0 Yj0 (sp:=Zf2) (by rintro _ _ _ _ ⟨_,rfl,_⟩;rfl) Ym4
 have P1:=P0.add 0 (x:="ways") rfl F0 (Nat.le_refl _) (Nat.le_succ _) T0.g T0.k T0.b
 have F1:=fn0 P1 T1.F Z81 Zm3 (sp:=Se) (by rintro _ _ _ _ ⟨_,_,rfl,_⟩;rfl) (Zl8 rfl)
 have P2:=P1.add 1 (x:="comings") rfl F1 (Nat.le_refl _) (Nat.le_succ _) T1.g T1.k T1.b
 have F2:=fn0 P2 T2.F G7 Ca (sp:=Z50) (by rintro _ _ _ _ ⟨_,_,_,_,_,_,rfl,_⟩;rfl) Ym8
 have P3:=P2.add 2 (x:="last_above") rfl F2 (Nat.le_refl _) (Nat.le_succ _) T2.g T2.k T2.b
 have F3:=fn0 P3 T3.F Ri Q6 (sp:=Pp) (by rintro _ _ _ _ ⟨_,_,_,_,_,_,rfl,_⟩;rfl) (Zl7 rfl)
 have P4:=P3.add 3 (x:="last_above_all") rfl F3 (Nat.le_refl _) (Nat.le_succ _) T3.g T3.k T3.b
 have F4:=fn0 P4 T4.F Zx6 Ye3 (sp:=Bj) (by rintro _ _ _ _ ⟨_,_,rfl,_⟩;rfl) (Y86 rfl rfl)
 have P5:=P4.add 4 (x:="musts") rfl F4 (Nat.le_refl _) (Nat.le_succ _) T4.g T4.k T4.b
 have F5:=fn0 P5 T5.F Jf C4 (sp:=Qz) (by rintro _ _ _ _ ⟨_,_,rfl,_⟩;rfl) (Zm1 rfl)
 have P6:=P5.add 5 (x:="sources_of") rfl F5 (Nat.le_refl _) (Nat.le_succ _) T5.g T5.k T5.b
 have F6:=fn0 P6 T6.F Z02 Zc6 (sp:=Y89) (by rintro _ _ _ _ ⟨_,_,_,_,_,_,_,rfl,_⟩;rfl) Yw3
 have P7:=P6.add 6 (x:="met_from") rfl F6 (Nat.le_refl _) (Nat.le_succ _) T6.g T6.k T6.b
 have F7:=fn0 P7 T7.F Qq Oi (sp:=Jo) (by rintro _ _ _ _ ⟨_,_,_,_,_,_,_,rfl,_⟩;rfl) (Y34 rfl)
 have P8:=P7.add 7 (x:="joined_names") rfl F7 (Nat.le_refl _) (Nat.le_succ _) T7.g T7.k T7.b
 have F8:=fn0 P8 T8.F Z06 Z87 (sp:=Zm5) (by rintro _ _ _ _ ⟨_,_,_,_,_,rfl,_⟩;rfl) Za5
 have P9:=P8.add 8 (x:="meetings") rfl F8 (Nat.le_refl _) (Nat.le_succ _) T8.g T8.k T8.b
 have F9:=fn0 P9 T9.F Oh G8 (sp:=Zs2) (by rintro _ _ _ _ ⟨_,_,_,_,rfl,_⟩;rfl) Yv7
 have P10:=P9.add 9 (x:="new_version") rfl F9 (Nat.le_refl _) (Nat.le_succ _) T9.g T9.k T9.b
 have F10:=fn0 P10 T10.F Ol Je (sp:=Rb) (by rintro _ _ _ _ ⟨_,_,_,_,_,_,_,_,_,_,rfl,_⟩;rfl) Z96
 have P11:=P10.add 10 (x:="joinings_of") rfl F10 (Nat.le_refl _) (Nat.le_succ _) T10.g T10.k T10.b
 have F11:=fn0 P11 T11.F Y18 Yh3 (sp:=Z04) (by rintro _ _ _ _ ⟨_,_,_,_,rfl,_⟩;rfl) Ya1
 have P12:=P11.add 11 (x:="split") rfl F11 (Nat.le_refl _) (Nat.le_succ _) T11.g T11.k T11.b
 have F12:=fn0 P12 T12.F Gg Gx (sp:=Jz) (by rintro _ _ _ _ ⟨_,_,_,_,_,_,_,rfl,_⟩;rfl) (Zz2 rfl)
 have P13:=P12.add 12 (x:="split_node") rfl F12 (Nat.le_refl _) (Nat.le_succ _) T12.g T12.k T12.b
 have F13:=fn0 P13 T13.F Ya6 Yo2 (sp:=Z23) (by rintro _ _ _ _ ⟨_,_,_,rfl,_⟩;rfl) (Ym2 rfl rfl rfl rfl rfl rfl rfl)
 have P14:=P13.add 13 (x:="once") rfl F13 (Nat.le_refl _) (Nat.le_succ _) T13.g T13.k T13.b
 have F14:=fn0 P14 T14.F Zw0 Yd9 (sp:=Zf3) (by rintro _ _ _ _ ⟨_,_,_,rfl,_⟩;rfl) Yc8
 have P15:=P14.add 14 (x:="_law_cell") rfl F14 (Nat.le_refl _) (Nat.le_succ _) T14.g T14.k T14.b
 have F15:=fn0 P15 T15.F Zh9 Y28 (sp:=G1) (by rintro _ _ _ _ ⟨_,_,rfl,_⟩;rfl) Zs9
 have P16:=P15.add 15 (x:="_law_mixed") rfl F15 (Nat.le_refl _) (Nat.le_succ _) T15.g T15.k T15.b
 have F16:=fn0 P16 T16.F Zh1 Y26 (sp:=Cn) (by rintro _ _ _ _ ⟨_,rfl,_⟩;rfl) Zv8
 have P17:=P16.add 16 (x:="_law_great") rfl F16 (Nat.le_refl _) (Nat.le_succ _) T16.g T16.k T16.b
 have F17:=fn0 P17 T17.F Yg9 Yn1 (sp:=Yf2) (by rintro _ _ _ _ ⟨_,_,_,_,rfl,_⟩;rfl) Yr2
 have P18:=P17.add 17 (x:="_law_far") rfl F17 (Nat.le_refl _) (Nat.le_succ _) T17.g T17.k T17.b
 have F18:=fn0 P18 T18.F Y09 Ya8 (sp:=Zg3) (by rintro _ _ _ _ ⟨_,_,_,_,rfl,_⟩;rfl) (Ya4 rfl rfl rfl)
 have P19:=P18.add 18 (x:="_law_node") rfl F18 (Nat.le_refl _) (Nat.le_succ _) T18.g T18.k T18.b
 have F19:=fn0 P19 T19.F Zl2 Zu4 (sp:=O6) (by rintro _ _ _ _ ⟨_,rfl,_⟩;rfl) Zv0
 have P20:=P19.add 19 (x:="_law_goals") rfl F19 (Nat.le_refl _) (Nat.le_succ _) T19.g T19.k T19.b
 have F20:=fn0 P20 T20.F Zo9 Zy9 (sp:=Br) (by rintro _ _ _ _ ⟨_,_,rfl,_⟩;rfl) (Zt1 rfl)
 have P21:=P20.add 20 (x:="_law_order") rfl F20 (Nat.le_refl _) (Nat.le_succ _) T20.g T20.k T20.b
 have F21:=fn0 P21 T21.F Zc9 Zs8 (sp:=Z05) (by rintro _ _ _ _ ⟨_,_,rfl,_⟩;rfl) (Y23 rfl)
 have P22:=P21.add 21 (x:="_law_graph") rfl F21 (Nat.le_refl _) (Nat.le_succ _) T21.g T21.k T21.b
 have F22:=fn0 P22 T22.F Y35 Ya2 (sp:=Zi2) (by rintro _ _ _ _ ⟨_,rfl,_⟩;rfl) Y91
 have P23:=P22.add 22 (x:="_law_menu") rfl F22 (Nat.le_refl _) (Nat.le_succ _) T22.g T22.k T22.b
 have F23:=fn0 P23 T23.F Zs4 Yg7 (sp:=Z32) (by rintro _ _ _ _ ⟨_,_,_,rfl,_⟩;rfl) Y87
 have P24:=P23.add 23 (x:="_law_word") rfl F23 (Nat.le_refl _) (Nat.le_succ _) T23.g T23.k T23.b
 have F24:=fn0 P24 T24.F Z97 Zr9 (sp:=G6) (by rintro _ _ _ _ ⟨_,_,_,_,rfl,_⟩;rfl) (Zo5 rfl)
 have P25:=P24.add 24 (x:="_law_called") rfl F24 (Nat.le_refl _) (Nat.le_succ _) T24.g T24.k T24.b
 have F25:=fn0 P25 T25.F Zl6 Y19 (sp:=Cf) (by rintro _ _ _ _ ⟨_,_,rfl,_⟩;rfl) (Zy4 rfl rfl rfl rfl rfl rfl)
 have P26:=P25.add 25 (x:="_law_drawn") rfl F25 (Nat.le_refl _) (Nat.le_succ _) T25.g T25.k T25.b
 have F26_0:=fn0 P26 T26.F Xe Wj (sp:=(Yh 0)) (by rintro _ _ _ _ ⟨_,_,rfl,_⟩;rfl) Ze5
 have P27_0:=P26.add 26 (x:="_law_alike") rfl F26_0 (Nat.le_refl _) (Nat.le_succ _) T26.g T26.k T26.b
 have F26_1:=fn0 P27_0 T26.F Xe Wj (sp:=(Yh 1)) (by rintro _ _ _ _ ⟨_,_,rfl,_⟩;rfl) (W4 rfl)
 have P27_1:=P27_0.add 26 (x:="_law_alike") rfl F26_1 (Nat.le_refl _) (Nat.le_succ _) T26.g T26.k T26.b
 have F26_2:=fn0 P27_1 T26.F Xe Wj (sp:=(Yh 2)) (by rintro _ _ _ _ ⟨_,_,rfl,_⟩;rfl) (W4 rfl)
 have P27_2:=P27_1.add 26 (x:="_law_alike") rfl F26_2 (Nat.le_refl _) (Nat.le_succ _) T26.g T26.k T26.b
 have F26_3:=fn0 P27_2 T26.F Xe Wj (sp:=(Yh 3)) (by rintro _ _ _ _ ⟨_,_,rfl,_⟩;rfl) (W4 rfl)
 have P27_3:=P27_2.add 26 (x:="_law_alike") rfl F26_3 (Nat.le_refl _) (Nat.le_succ _) T26.g T26.k T26.b
 have F26_4:=fn0 P27_3 T26.F Xe Wj (sp:=(Yh 4)) (by rintro _ _ _ _ ⟨_,_,rfl,_⟩;rfl) (W4 rfl)
 have P27_4:=P27_3.add 26 (x:="_law_alike") rfl F26_4 (Nat.le_refl _) (Nat.le_succ _) T26.g T26.k T26.b
 have F26_5:=fn0 P27_4 T26.F Xe Wj (sp:=(Yh 5)) (by rintro _ _ _ _ ⟨_,_,rfl,_⟩;rfl) (W4 rfl)
 have P27_5:=P27_4.add 26 (x:="_law_alike") rfl F26_5 (Nat.le_refl _) (Nat.le_succ _) T26.g T26.k T26.b
 have F26_6:=fn0 P27_5 T26.F Xe Wj (sp:=(Yh 6)) (by rintro _ _ _ _ ⟨_,_,rfl,_⟩;rfl) (W4 rfl)
 have P27:=P27_5.add 26 (x:="_law_alike") rfl F26_6 (Nat.le_refl _) (Nat.le_succ _) T26.g T26.k T26.b
 have F27:=fn0 P27 T27.F Zj1 Zx0 (sp:=Js) (by rintro _ _ _ _ ⟨_,rfl,_⟩;rfl) Zy3
 have P28:=P27.add 27 (x:="_law_whole") rfl F27 (Nat.le_refl _) (Nat.le_succ _) T27.g T27.k T27.b
 have F28:=fn0 P28 T28.F Bh Z86 (sp:=V7) (by rintro _ _ _ _ ⟨_,_,rfl,_⟩;rfl) (Zb8 rfl)
 have P29:=P28.add 28 (x:="_law_version") rfl F28 (Nat.le_refl _) (Nat.le_succ _) T28.g T28.k T28.b
 have F29:=fn0 P29 T29.F Jc Fp (sp:=Zi8) (by rintro _ _ _ _ ⟨_,_,_,rfl,_⟩;rfl) (Yb0 rfl rfl)
 have P30:=P29.add 29 (x:="_law_same_node") rfl F29 (Nat.le_refl _) (Nat.le_succ _) T29.g T29.k T29.b
 have F30:=fn0 P30 T30.F Ci Zb1 (sp:=Zn0) (by rintro _ _ _ _ ⟨_,_,rfl,_⟩;rfl) (Za2 rfl)
 have P31:=P30.add 30 (x:="_law_sources") rfl F30 (Nat.le_refl _) (Nat.le_succ _) T30.g T30.k T30.b
 have F31:=fn0 P31 T31.F Ba Z74 (sp:=Zr0) (by rintro _ _ _ _ ⟨_,_,_,_,_,_,rfl,_⟩;rfl) (Y83 rfl rfl)
 have P32:=P31.add 31 (x:="_law_joining") rfl F31 (Nat.le_refl _) (Nat.le_succ _) T31.g T31.k T31.b
 have F32:=fn0 P32 T32.F Ze7 Zv5 (sp:=B6) (by rintro _ _ _ _ ⟨_,_,_,_,_,_,_,_,_,_,rfl,_⟩;rfl) (Y01 rfl rfl)
 have P33:=P32.add 32 (x:="_law_entry") rfl F32 (Nat.le_refl _) (Nat.le_succ _) T32.g T32.k T32.b
 have F33:=fn0 P33 T33.F Zf7 Zz1 (sp:=Be) (by rintro _ _ _ _ ⟨_,_,_,_,_,_,_,_,_,rfl,_⟩;rfl) (Y06 rfl rfl)
 have P34:=P33.add 33 (x:="_law_shape") rfl F33 (Nat.le_refl _) (Nat.le_succ _) T33.g T33.k T33.b
 have F34:=fn0 P34 T34.F Zq1 Zx3 (sp:=Bc) (by rintro _ _ _ _ ⟨_,_,_,_,_,_,_,_,rfl,_⟩;rfl) Y05
 have P35:=P34.add 34 (x:="_law_given") rfl F34 (Nat.le_refl _) (Nat.le_succ _) T34.g T34.k T34.b
 have F35:=fn0 P35 T35.F Zw7 Yg4 (sp:=Zl0) (by rintro _ _ _ _ ⟨_,_,_,_,_,_,_,_,rfl,_⟩;rfl) Yh2
 have P36:=P35.add 35 (x:="_law_used") rfl F35 (Nat.le_refl _) (Nat.le_succ _) T35.g T35.k T35.b
 have F36:=fn0 P36 T36.F Yp9 Yu1 (sp:=Z92) (by rintro _ _ _ _ ⟨_,rfl,_⟩;rfl) (Yt9 rfl rfl rfl rfl rfl rfl)
 exact F36
theorem Y80{l:PySem.W.OpenLaw}{w:World}{fa f:Addr}{K:Af}{h:Heap}{mg:Str→Option Value}{oc kV dc pm cd ct:Value}{od an:Option Addr}{sl:Array (Option Value)}(hfa:mg "law"=some (.ref fa))(X:K.In h)(G:h.Ns mainGlobals mg)(T0:DW K mg "ways" Gz ["node"])(T1:DW K mg "comings" V2 ["graph"])(T2:DW K mg "last_above" Yw ["told","one","other"])(T3:DW K mg "last_above_all" Y3 ["told","places"])(T4:DW K mg "musts" Oe ["graph"])(T5:DW K mg "sources_of" Yy ["graph"])(T6:DW K mg "met_from" W1 ["givers","meets"])(T7:DW K mg "joined_names" Y7 ["graph","meets"])(T8:DW K mg "meetings" W6 ["tree","sources"])(T9:DW K mg "new_version" Yl ["counts","name"])(T10:DW K mg "joinings_of" Ym ["names","versions","starts","afters"])(T11:DW K mg "split" Of ["operand","versions"])(T12:DW K mg "split_node" X1 ["node","before","after"])(T13:DW K mg "once" Gr ["graph"])(T14:DW K mg "_law_cell" Pt ["_law_script","_law_k"])(T15:DW K mg "_law_mixed" Tw ["_law_cell_here","_law_k"])(T16:DW K mg "_law_great" Sg ["_law_number"])(T17:DW K mg "_law_far" Ea ["_law_number","_law_k","_law_many","_law_mode"])(T18:DW K mg "_law_node" Oc ["_law_cell_here","_law_k","_law_many","_law_mode"])(T19:DW K mg "_law_goals" S0 ["_law_node_here"])(T20:DW K mg "_law_order" S8 ["_law_raw"])(T21:DW K mg "_law_graph" Sd ["_law_raw"])(T22:DW K mg "_law_menu" Qt ["_law_cell_here"])(T23:DW K mg "_law_word" Pa ["_law_part","_law_names"])(T24:DW K mg "_law_called" V8 ["_law_graph_here","_law_names"])(T25:DW K mg "_law_drawn" Sc ["_law_script"])(T26:DW K mg "_law_alike" Tt ["_law_found","_law_due"])(T27:DW K mg "_law_whole" S6 ["_law_thing"])(T28:DW K mg "_law_version" W3 ["_law_thing"])(T29:DW K mg "_law_same_node" Yx ["_law_found","_law_node_here"])(T30:DW K mg "_law_sources" Xz ["_law_graph_here"])(T31:DW K mg "_law_joining" Wa ["_law_joining_here","_law_sources_here"])(T32:DW K mg "_law_entry" Si ["_law_entry_here","_law_node_here","_law_sources_here"])(T33:DW K mg "_law_shape" S3 ["_law_found","_law_graph_here"])(T34:DW K mg "_law_given" Sb ["_law_found"])(T35:DW K mg "_law_used" Pm ["_law_found"])
  (a:PySem.W.nsIn K mainGlobals "law"=some (some (.ref f))) (l0:K.lookup f=some ⟨oc,od,.func (Kq "law" "law" (Tg Bg) (Zb Bg) (Z5 Bg) .none kV dc pm an cd ct),sl⟩) (c:Me K cd "law"=true) (k:Hi K (.ref f)=true) (hz:∀x∈BN,PySem.W.nsIn K mainGlobals x=some none)
  :∃fd:FuncData,(∀(s:Shared) (v:Value),BindsTo s fd ⟨[v],[]⟩ [("_law_script",v)])∧∀base:Heap,K.In base→base.Ns mainGlobals mg→FnOk l.prog w K mg base (CX1 l.prog w) 43 fa fd ["_law_script"] (spF K Z92):=by
 have e2:=hfa.symm.trans (PySem.W.mg_of X G a)
 cases e2
 exact⟨_,fun s v=> .of_eq rfl,fun base _ _=>Yp0 T0 T1 T2 T3 T4 T5 T6 T7 T8 T9 T10 T11 T12 T13 T14 T15 T16 T17 T18 T19 T20 T21 T22 T23 T24 T25 T26 T27 T28 T29 T30 T31 T32 T33 T34 T35 (DW.of X G a l0 c k fun _ _ _ _ _ _=> .all (Zl3 (fun _=>rfl))) fun x hx=>PySem.W.mg_none_of X G (hz x hx)⟩
end K81
namespace Hand
open PySem PySem.Spec PyProof.Rows L2 L3 U K81
noncomputable def kf(n:Str)(i:Nat)(dV kV dc pm:Value)(an:Option Addr)(cd ct:Value):Obj:=⟨.type "function",none,.func (Kq n n (Tg (top i)) (Zb (top i)) (Z5 (top i)) dV kV dc pm an cd ct),#[]⟩
noncomputable def kg(n:Str)(i:Nat)(m:Str)(t c:Nat):Obj:=kf n i .none .none .none (.str m t) none (.ref c) .none
noncomputable def kc(n:Str)(t:Nat)(l a:Int)(r:Nat)(x y:Int)(z:Nat):Obj:=⟨.type "code",none,.fields #[.str n t,.str n (t+1),.str "/claim/cut.py" (t+2),.int l 0,.int a 0,.int 0 0,.int 0 0,.int 3 0,.ref r,.bool true,.int x 0,.ref (r+1),.none,.ref (r+2),.ref (r+3),.ref (r+4),.int y 0,.int l 0,.str "/claim/cut.py" z],#[]⟩
noncomputable def ke(P:Params)(x:Str)(t:Nat)(v:Value):DictEntry:=⟨PyData.keyHash P x,.str x t,v⟩
noncomputable abbrev kd:Value:= .type "dict"
noncomputable abbrev kR(a:Nat):Value:= .ref a
noncomputable abbrev kS(x:Str)(t:Nat):Value:= .str x t
noncomputable def kh(n:Str)(t:Nat)(l a:Int)(r:Nat)(x y z:Int)(u:Nat):Obj:=⟨.type "code",none,.fields #[.str n t,.str n (t+1),.str "/claim/cut.py" (t+2),.int l 0,.int a 0,.int 0 0,.int 0 0,.int 3 0,.ref r,.bool true,.int x 0,.ref (r+1),.none,.none,.none,.ref (r+2),.int y 0,.int z 0,.str "/claim/cut.py" u],#[]⟩
noncomputable def KH(P:Params):Af:=(nat_lit 2,⟨.none,none,.dict #[] 0,#[]⟩)::(nat_lit 3,⟨kd,none,.dict #[ke P "__name__" 165 (kS "law_unjump_k81_versions_given_once" 305),ke P "__doc__" 166 .none,ke P "__package__" 167 .none,ke P "__loader__" 168 (.builtin "__main__.__loader__#opaque"),ke P "__spec__" 169 .none,ke P "__annotations__" 170 (kR 6),ke P "__builtins__" 171 (kR 4),ke P "__file__" 173 (kS "/claim/cut.py" 172),ke P "__cached__" 174 .none,ke P "ways" 195 (kR 21),ke P "comings" 201 (kR 26),ke P "musts" 215 (kR 33),ke P "last_above_all" 225 (kR 40),ke P "last_above" 234 (kR 47),ke P "once" 242 (kR 52),ke P "sources_of" 248 (kR 57),ke P "meetings" 254 (kR 62),ke P "joined_names" 260 (kR 67),ke P "met_from" 272 (kR 74),ke P "new_version" 280 (kR 81),ke P "joinings_of" 286 (kR 86),ke P "split_node" 296 (kR 93),ke P "split" 304 (kR 100),ke P "_law_cell" 314 (kR 107),ke P "_law_mixed" 323 (kR 114),ke P "_law_great" 330 (kR 121),ke P "_law_far" 341 (kR 128),ke P "_law_node" 359 (kR 135),ke P "_law_goals" 366 (kR 142),ke P "_law_order" 379 (kR 149),ke P "_law_graph" 390 (kR 156),ke P "_law_menu" 398 (kR 163),ke P "_law_word" 406 (kR 170),ke P "_law_called" 418 (kR 177),ke P "_law_drawn" 424 (kR 182),ke P "_law_alike" 433 (kR 189),ke P "_law_whole" 440 (kR 196),ke P "_law_version" 447 (kR 203),ke P "_law_same_node" 457 (kR 210),ke P "_law_sources" 463 (kR 215),ke P "_law_joining" 473 (kR 222),ke P "_law_entry" 484 (kR 229),ke P "_law_shape" 494 (kR 236),ke P "_law_given" 505 (kR 243),ke P "_law_used" 511 (kR 248),ke P "law" 525 (kR 255)] 46,#[]⟩)::(nat_lit 20,kc "ways" 189 2 1 15 181 193 194)::(nat_lit 21,kg "ways" 1 "unjump.nodes" 187 20)::(nat_lit 25,kh "comings" 196 8 1 22 181 199 8 200)::(nat_lit 26,kg "comings" 2 "unjump.nodes" 187 25)::(nat_lit 32,kc "musts" 204 15 1 27 181 213 214)::(nat_lit 33,kg "musts" 4 "unjump.musts" 202 32)::(nat_lit 39,kc "last_above_all" 216 27 2 34 181 223 224)::(nat_lit 40,kg "last_above_all" 5 "unjump.musts" 202 39)::(nat_lit 46,kc "last_above" 226 33 3 41 181 232 233)::(nat_lit 47,kg "last_above" 6 "unjump.musts" 202 46)::(nat_lit 51,kh "once" 237 41 1 48 181 240 41 241)::(nat_lit 52,kg "once" 8 "unjump.once" 235 51)::(nat_lit 56,kh "sources_of" 243 57 1 53 181 246 57 247)::(nat_lit 57,kg "sources_of" 9 "unjump.once" 235 56)::(nat_lit 61,kh "meetings" 249 61 2 58 181 252 61 253)::(nat_lit 62,kg "meetings" 10 "unjump.once" 235 61)::(nat_lit 66,kh "joined_names" 255 70 2 63 181 258 70 259)::(nat_lit 67,kg "joined_names" 11 "unjump.once" 235 66)::(nat_lit 73,kc "met_from" 261 78 2 68 181 270 271)::(nat_lit 74,kg "met_from" 12 "unjump.once" 235 73)::(nat_lit 80,kc "new_version" 273 88 2 75 181 278 279)::(nat_lit 81,kg "new_version" 13 "unjump.once" 235 80)::(nat_lit 85,kh "joinings_of" 281 91 4 82 181 284 91 285)::(nat_lit 86,kg "joinings_of" 14 "unjump.once" 235 85)::(nat_lit 92,kc "split_node" 287 97 3 87 181 294 295)::(nat_lit 93,kg "split_node" 15 "unjump.once" 235 92)::(nat_lit 99,kc "split" 297 104 2 94 181 302 303)::(nat_lit 100,kg "split" 16 "unjump.once" 235 99)::(nat_lit 106,kc "_law_cell" 307 109 2 101 181 312 313)::(nat_lit 107,kg "_law_cell" 18 "law_unjump_k81_versions_given_once" 305 106)::(nat_lit 113,kc "_law_mixed" 315 113 2 108 181 321 322)::(nat_lit 114,kg "_law_mixed" 19 "law_unjump_k81_versions_given_once" 305 113)::(nat_lit 120,kc "_law_great" 324 116 1 115 181 328 329)::(nat_lit 121,kg "_law_great" 20 "law_unjump_k81_versions_given_once" 305 120)::(nat_lit 127,kc "_law_far" 331 118 4 122 181 339 340)::(nat_lit 128,kg "_law_far" 21 "law_unjump_k81_versions_given_once" 305 127)::(nat_lit 134,kc "_law_node" 342 129 4 129 181 357 358)::(nat_lit 135,kg "_law_node" 22 "law_unjump_k81_versions_given_once" 305 134)::(nat_lit 141,kc "_law_goals" 360 143 1 136 181 364 365)::(nat_lit 142,kg "_law_goals" 23 "law_unjump_k81_versions_given_once" 305 141)::(nat_lit 148,kc "_law_order" 367 149 1 143 181 377 378)::(nat_lit 149,kg "_law_order" 24 "law_unjump_k81_versions_given_once" 305 148)::(nat_lit 155,kc "_law_graph" 380 164 1 150 181 388 389)::(nat_lit 156,kg "_law_graph" 25 "law_unjump_k81_versions_given_once" 305 155)::(nat_lit 162,kc "_law_menu" 391 175 1 157 181 396 397)::(nat_lit 163,kg "_law_menu" 26 "law_unjump_k81_versions_given_once" 305 162)::(nat_lit 169,kc "_law_word" 399 179 2 164 181 404 405)::(nat_lit 170,kg "_law_word" 27 "law_unjump_k81_versions_given_once" 305 169)::(nat_lit 176,kc "_law_called" 407 183 2 171 181 416 417)::(nat_lit 177,kg "_law_called" 28 "law_unjump_k81_versions_given_once" 305 176)::(nat_lit 181,kh "_law_drawn" 419 194 1 178 181 422 194 423)::(nat_lit 182,kg "_law_drawn" 29 "law_unjump_k81_versions_given_once" 305 181)::(nat_lit 188,kc "_law_alike" 425 199 2 183 181 431 432)::(nat_lit 189,kg "_law_alike" 30 "law_unjump_k81_versions_given_once" 305 188)::(nat_lit 195,kc "_law_whole" 434 219 1 190 181 438 439)::(nat_lit 196,kg "_law_whole" 31 "law_unjump_k81_versions_given_once" 305 195)::(nat_lit 202,kc "_law_version" 441 221 1 197 181 445 446)::(nat_lit 203,kg "_law_version" 32 "law_unjump_k81_versions_given_once" 305 202)::(nat_lit 209,kc "_law_same_node" 448 225 2 204 181 455 456)::(nat_lit 210,kg "_law_same_node" 33 "law_unjump_k81_versions_given_once" 305 209)::(nat_lit 214,kh "_law_sources" 458 240 1 211 181 461 240 462)::(nat_lit 215,kg "_law_sources" 34 "law_unjump_k81_versions_given_once" 305 214)::(nat_lit 221,kc "_law_joining" 464 248 2 216 181 471 472)::(nat_lit 222,kg "_law_joining" 35 "law_unjump_k81_versions_given_once" 305 221)::(nat_lit 228,kc "_law_entry" 474 260 3 223 181 482 483)::(nat_lit 229,kg "_law_entry" 36 "law_unjump_k81_versions_given_once" 305 228)::(nat_lit 235,kc "_law_shape" 485 269 2 230 181 492 493)::(nat_lit 236,kg "_law_shape" 37 "law_unjump_k81_versions_given_once" 305 235)::(nat_lit 242,kc "_law_given" 495 277 1 237 181 503 504)::(nat_lit 243,kg "_law_given" 38 "law_unjump_k81_versions_given_once" 305 242)::(nat_lit 247,kh "_law_used" 506 285 1 244 181 509 285 510)::(nat_lit 248,kg "_law_used" 39 "law_unjump_k81_versions_given_once" 305 247)::(nat_lit 254,kc "law" 512 293 1 249 181 523 524)::(nat_lit 255,kg "law" 40 "law_unjump_k81_versions_given_once" 305 254)::[]
noncomputable def qH:Program:={PySem.Challenge.pw_unjump_k81_versions_given_once with main:={PySem.Challenge.pw_unjump_k81_versions_given_once.main with body:=[top 40]}}
noncomputable def lH:List Str:="ways"::"comings"::"musts"::"last_above_all"::"last_above"::"once"::"sources_of"::"meetings"::"joined_names"::"met_from"::"new_version"::"joinings_of"::"split_node"::"split"::"_law_cell"::"_law_mixed"::"_law_great"::"_law_far"::"_law_node"::"_law_goals"::"_law_order"::"_law_graph"::"_law_menu"::"_law_word"::"_law_called"::"_law_drawn"::"_law_alike"::"_law_whole"::"_law_version"::"_law_same_node"::"_law_sources"::"_law_joining"::"_law_entry"::"_law_shape"::"_law_given"::"_law_used"::[]
noncomputable def aH:List Addr:=2::3::20::21::25::26::32::33::39::40::46::47::51::52::56::57::61::62::66::67::73::74::80::81::85::86::92::93::99::100::106::107::113::114::120::121::127::128::134::135::141::142::148::149::155::156::162::163::169::170::176::177::181::182::188::189::195::196::202::203::209::210::214::215::221::222::228::229::235::236::242::243::247::248::254::255::[]
theorem eH(P:Params):aH=(KH P).map (·.1):=by kernel_rfl
set_option maxHeartbeats 0 in
theorem hlH:PySem.W.LeftO PySem.Challenge.pw_unjump_k81_versions_given_once qH lH (fun s=>PySem.W.xlAt qH [] s&&PySem.W.recOk [] s) (PySem.W.Hook.obs (PySem.W.kHook KH aH eH)) (PySem.W.Hook.val (PySem.W.kHook KH aH eH)) 2452:=by intro w;kernel_rfl
end Hand
open PySem PySem.W PyProof.Rows
set_option maxRecDepth 100000 in
set_option maxHeartbeats 0 in
theorem PySem.Challenge.cw_unjump_k81_versions_given_once_holds : PySem.Challenge.rw_unjump_k81_versions_given_once.Holds := by
 w_on;o_law;refine holds_open (q:=Hand.qH) (loose:=Hand.lH) (Xt:=fun s=>xlAt Hand.qH [] s&&recOk [] s) (XP:=XL Hand.qH []) (Yf:=Hook.obs (kHook Hand.KH Hand.aH Hand.eH)) (Ya:=Hook.val (kHook Hand.KH Hand.aH Hand.eH)) (YP:=Hook.says (kHook Hand.KH Hand.aH Hand.eH)) (N:=2452) Hand.hlH (Hook.of _) (Hook.keeps _) (fun s e=>xl_of s (Bool.and_eq_true_iff.mp e).1) XL.keeps (by rfl) (by rfl) (by rfl) (fun s e=>recFacts_of (Bool.and_eq_true_iff.mp e).2) (by rfl) (by first | assumption | decide+kernel) (by decide+kernel) ⟨rfl,rfl,rfl,rfl,rfl,by decide+kernel⟩ ?hw ?hc;(case hw=>w_witness2)
 k_fill
 refine U.Y31 (l:=PySem.Challenge.rw_unjump_k81_versions_given_once) (k:=43) (x:="_law_script") rfl rfl ⟨rfl,by decide,by decide⟩ (fun w h Y=>PySem.W.kIn_of Y) ?F
 case F=>
  intro w mg fa h KX G hmg
  refine' K81.Y80 hmg KX G (.of KX G ?a0 ?l0 ?c0 ?k0) (.of KX G ?a1 ?l1 ?c1 ?k1) (.of KX G ?a2 ?l2 ?c2 ?k2) (.of KX G ?a3 ?l3 ?c3 ?k3) (.of KX G ?a4 ?l4 ?c4 ?k4) (.of KX G ?a5 ?l5 ?c5 ?k5) (.of KX G ?a6 ?l6 ?c6 ?k6) (.of KX G ?a7 ?l7 ?c7 ?k7) (.of KX G ?a8 ?l8 ?c8 ?k8) (.of KX G ?a9 ?l9 ?c9 ?k9) (.of KX G ?a10 ?l10 ?c10 ?k10) (.of KX G ?a11 ?l11 ?c11 ?k11) (.of KX G ?a12 ?l12 ?c12 ?k12) (.of KX G ?a13 ?l13 ?c13 ?k13) (.of KX G ?a14 ?l14 ?c14 ?k14) (.of KX G ?a15 ?l15 ?c15 ?k15) (.of KX G ?a16 ?l16 ?c16 ?k16) (.of KX G ?a17 ?l17 ?c17 ?k17) (.of KX G ?a18 ?l18 ?c18 ?k18) (.of KX G ?a19 ?l19 ?c19 ?k19) (.of KX G ?a20 ?l20 ?c20 ?k20) (.of KX G ?a21 ?l21 ?c21 ?k21) (.of KX G ?a22 ?l22 ?c22 ?k22) (.of KX G ?a23 ?l23 ?c23 ?k23) (.of KX G ?a24 ?l24 ?c24 ?k24) (.of KX G ?a25 ?l25 ?c25 ?k25) (.of KX G ?a26 ?l26 ?c26 ?k26) (.of KX G ?a27 ?l27 ?c27 ?k27) (.of KX G ?a28 ?l28 ?c28 ?k28) (.of KX G ?a29 ?l29 ?c29 ?k29) (.of KX G ?a30 ?l30 ?c30 ?k30) (.of KX G ?a31 ?l31 ?c31 ?k31) (.of KX G ?a32 ?l32 ?c32 ?k32) (.of KX G ?a33 ?l33 ?c33 ?k33) (.of KX G ?a34 ?l34 ?c34 ?k34) (.of KX G ?a35 ?l35 ?c35 ?k35) ?a36 ?l36 ?c36 ?k36 (U.all_cons ?z0 (U.all_cons ?z1 (U.all_cons ?z2 (U.all_cons ?z3 (U.all_cons ?z4 (U.all_cons ?z5 (U.all_cons ?z6 (U.all_cons ?z7 (U.all_cons ?z8 (U.all_cons ?z9 (U.all_cons ?z10 (U.all_cons ?z11 (U.all_cons ?z12 (U.all_cons ?z13 (U.Ze2)))))))))))))))
  all_goals (try k_is)
