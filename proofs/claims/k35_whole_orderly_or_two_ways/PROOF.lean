import PyProof.Rows.All
import Wide.All
import OpenK.AllK
import Wide.FinOn
import Lean
import PyProof.EqAt
import PyProof.EqKinds
import PyProof.TupleCall
import PyProof.CompFree
import PyProof.StationsW
import PyProof.ExcClass3
import PyProof.Commute
import OpenK.KGet
import OpenK.KMeth
import PyProof.ExcArgs
import PyProof.ZipIter
import PyProof.ListNew
import PyProof.EnumMake
import PyProof.EnumStmt
import KE.KRevSl
import PyProof.WalkInts
import PyProof.Rows.MinMaxN
import PyProof.AttrMissHeap
import PyProof.DictList
import PyProof.DictUpdate
import KE.KDictOf
import PyProof.DictWalks
import PyProof.Conv_int_bool
import PyProof.Rows.SetFrom
import PyProof.SetRoads
import PyProof.ForAny
import KE.KDictSum
import KE.KLam
import KE.KNestM
import PySem.Challenge.RW_unjump_k35_whole_orderly_or_two_ways
set_option Elab.async false
set_option linter.all false
set_option maxRecDepth 100000
namespace L2
open PySem PySem.Spec PyProof.Rows
abbrev Key := Sum Int Str
def J3 : Key → Value → Bool
 | .inl k, v => Value.isInt k v
 | .inr x, v => Value.isStrOf x v
def keyH (w : World) : Key → Int
 | .inl k => hashInt k
 | .inr x => hashStr w x
theorem Yi : ∀ {k : Key} {v : Value}, J3 k v = true → (∃ i t, k = Sum.inl i ∧ v = Value.int i t) ∨ (∃ x t, k = Sum.inr x ∧ v = Value.str x t)
 | .inl i, v, h => by
  obtain ⟨t, e⟩ := Value.isInt_shape (k := i) (v := v) h
  exact .inl ⟨i, t, rfl, e⟩
 | .inr x, v, h => by
  obtain ⟨t, e⟩ := Value.isStrOf_shape (x := x) (v := v) h
  exact .inr ⟨x, t, rfl, e⟩
theorem Bm (i : Int) (t : Tok) : J3 (.inl i) (.int i t) = true := by simp [J3, Value.isInt]
theorem Z25 (x : Str) (t : Tok) : J3 (.inr x) (.str x t) = true := by simp [J3, Value.isStrOf]
theorem Y20 (a b : Int) : decide ((Sum.inl a : Key) = Sum.inl b) = (a == b) := by
 by_cases e : a = b
 ·subst e; simp
 ·have h : ¬ (Sum.inl a : Key) = Sum.inl b := fun q => e (Sum.inl.inj q)
  rw [decide_eq_false h]
  exact (beq_eq_false_iff_ne.mpr e).symm
theorem Zw4 (a b : Str) : decide ((Sum.inr a : Key) = Sum.inr b) = decide (a = b) := by
 by_cases e : a = b
 ·subst e; simp
 ·have h : ¬ (Sum.inr a : Key) = Sum.inr b := fun q => e (Sum.inr.inj q)
  rw [decide_eq_false h, decide_eq_false e]
theorem Zy0 (a : Int) (b : Str) : decide ((Sum.inl a : Key) = Sum.inr b) = false := decide_eq_false (fun q => nomatch q)
theorem Zz6 (a : Str) (b : Int) : decide ((Sum.inr a : Key) = Sum.inl b) = false := decide_eq_false (fun q => nomatch q)
def Yn (prog : Program) (w : World) : PySem.KeyKind prog w Key where
 is := J3
 hash := keyH w
 inj := fun v a b ha hb => by
  rcases Yi ha with ⟨i, t, rfl, rfl⟩ | ⟨x, t, rfl, rfl⟩
  ·rcases Yi hb with ⟨j, u, rfl, e⟩ | ⟨y, u, rfl, e⟩
   ·injection e with e1 _; rw [e1]
   ·exact nomatch e
  ·rcases Yi hb with ⟨j, u, rfl, e⟩ | ⟨y, u, rfl, e⟩
   ·exact nomatch e
   ·injection e with e1 _; rw [e1]
 byValue := fun k v h => by
  rcases Yi h with ⟨i, t, rfl, rfl⟩ | ⟨x, t, rfl, rfl⟩ <;> rfl
 pyHash := fun hv h => by
  rcases Yi hv with ⟨i, t, rfl, rfl⟩ | ⟨x, t, rfl, rfl⟩
  ·exact wpAny_pyHash_int h
  ·exact wpAny_pyHash_str h
 eqBool := fun hu hv h => by
  rcases Yi hu with ⟨i, t, rfl, rfl⟩ | ⟨x, t, rfl, rfl⟩
  ·rcases Yi hv with ⟨j, u, rfl, rfl⟩ | ⟨y, u, rfl, rfl⟩
   ·rw [Y20] at h; exact wpAny_eqBool_int h
   ·rw [Zy0] at h; exact SeqAt.EqAt.int_str i t y u _ _ _ _ h
  ·rcases Yi hv with ⟨j, u, rfl, rfl⟩ | ⟨y, u, rfl, rfl⟩
   ·rw [Zz6] at h; exact SeqAt.EqAt.str_int x t j u _ _ _ _ h
   ·rw [Zw4] at h; exact wpAny_eqBool_str h
 «strs» := fun k x t v h => by
  rcases Yi h with ⟨i, u, rfl, e⟩ | ⟨y, u, rfl, e⟩
  ·exact nomatch e
  ·injection e with e1 _
   subst e1
   cases v <;> rfl
theorem Gm (prog : Program) (w : World) (i : Int) (t : Tok) : (Yn prog w).is (.inl i) (.int i t) = true := Bm i t
theorem Gy (prog : Program) (w : World) (x : Str) (t : Tok) : (Yn prog w).is (.inr x) (.str x t) = true := Z25 x t
inductive V where
 | non | bl (b : Bool) | int (i : Int) | str (x : Str) | byt (b : Array UInt8) | flt (b : UInt64) | ref (a : Addr) | ty (n : String)
 deriving DecidableEq
def RelV : V → Value → Prop
 | .non, u => u = Value.none
 | .bl b, u => u = Value.bool b
 | .int i, u => ∃ t, u = Value.int i t
 | .str x, u => ∃ t, u = Value.str x t
 | .byt b, u => ∃ t, u = Value.bytes b t
 | .flt b, u => ∃ t, u = Value.float b t
 | .ref a, u => u = Value.ref a
 | .ty n, u => u = Value.type n
abbrev Vals : List V → List Value → Prop := Paired RelV
theorem Vals.length {xs : List V} {us : List Value} (r : Vals xs us) : xs.length = us.length := Paired.length r
theorem Vals.get : ∀ {xs : List V} {us : List Value} {i : Nat} {x : V}, Vals xs us → xs[i]? = some x → ∃ u, us[i]? = some u ∧ RelV x u
 | _, _, _, _, .nil, e => by simp at e
 | _, _, 0, _, .cons r _, e => by simp at e; subst e; exact ⟨_, rfl, r⟩
 | _, _, i + 1, x, .cons _ t, e => by
  obtain ⟨u, h1, h2⟩ := Vals.get (i := i) (x := x) t (by simpa using e)
  exact ⟨u, by simpa using h1, h2⟩
theorem Vals.set {x : V} {u : Value} (r : RelV x u) : ∀ {xs : List V} {us : List Value} (i : Nat), Vals xs us → Vals (xs.set i x) (us.set i u)
 | _, _, _, .nil => .nil
 | _, _, 0, .cons _ t => .cons r t
 | _, _, i + 1, .cons q t => .cons q (Vals.set r i t)
theorem Vals.append : ∀ {xs ys : List V} {us ws : List Value}, Vals xs us → Vals ys ws → Vals (xs ++ ys) (us ++ ws)
 | _, _, _, _, .nil, s => s
 | _, _, _, _, .cons r t, s => .cons r (Vals.append t s)
theorem Vals.take : ∀ {xs : List V} {us : List Value} (n : Nat), Vals xs us → Vals (xs.take n) (us.take n)
 | _, _, 0, _ => .nil
 | _, _, _ + 1, .nil => .nil
 | _, _, n + 1, .cons r t => .cons r (Vals.take n t)
theorem Vals.drop : ∀ {xs : List V} {us : List Value} (n : Nat), Vals xs us → Vals (xs.drop n) (us.drop n)
 | _, _, 0, r => r
 | _, _, _ + 1, .nil => .nil
 | _, _, n + 1, .cons _ t => Vals.drop n t
def RelO : Option V → Option Value → Prop
 | some v, some u => RelV v u
 | none, none => True
 | _, _ => False
def KV {κ : Type} : List (κ × V) → List (κ × Value) → Prop := Paired fun (p : κ × V) (q : κ × Value) => p.1 = q.1 ∧ RelV p.2 q.2
def kV : Key → V
 | .inl i => .int i
 | .inr x => .str x
inductive HO where
 | lst (xs : List V)
 | tup (xs : List V)
 | dK (kvs : List (Key × V)) | dT (kvs : List (List Key × V))
 | set (S : Int → Bool) (n : Nat)
 | ins (C dx : Addr) (fs : List (Str × V))
 | own (x : Addr)
 | xd (fs : List (Str × V))
 | met (f x : Addr)
 | rng (lo hi : Int)
 | frz (o : Obj) (u : HO)
 | tbl (ps : Array Value)
 | ext (φ : Heap → Prop)
abbrev Hp := Addr → Option HO
def upd (H : Hp) (a : Addr) (o : HO) : Hp := fun b => if b = a then some o else H b
theorem Yt {H : Hp} {a : Addr} {o : HO} : upd H a o a = some o := by unfold upd; rw [if_pos rfl]
theorem Zl {H : Hp} {a b : Addr} {o : HO} (h : b ≠ a) : upd H a o b = H b := by unfold upd; rw [if_neg h]
theorem Y48 {H : Hp} {a b : Addr} {o u : HO} (h : H a = some o) (h' : H b = some u) (d : o ≠ u) : a ≠ b := by
 intro e; subst e; rw [h] at h'; exact d (Option.some.inj h')
theorem Zo {H : Hp} {a b : Addr} {o : HO} (h : H a = some o) (h' : H b = none) : a ≠ b := by
 intro e; subst e; rw [h] at h'; cases h'
section
variable (P : Program) (w : World)
def X4 (H : Hp) (h : Heap) (a : Addr) : HO → Prop
 | .lst xs => xs.length ≤ sizeLine ∧ ∃ (its : List Value) (n : Nat), Vals xs its ∧ h.get? a = some { cls := .type "list", data := .seq its.toArray n }
 | .tup xs => xs.length ≤ sizeLine ∧ ∃ its : List Value, Vals xs its ∧ IsTup h a its.toArray
 | .dK kvs => kvs.length ≤ sizeLine ∧ (a == sysModules) = false ∧ ∃ vs, KV kvs vs ∧ h.DictOf (Yn P w) a vs
 | .dT kvs => kvs.length ≤ sizeLine ∧ (a == sysModules) = false ∧ ∃ xs : List (List Key × Addr × Value),
   Paired (fun (p : List Key × V) (q : List Key × Addr × Value) => p.1 = q.1 ∧ H q.2.1 = some (.tup (p.1.map kV)) ∧ RelV p.2 q.2.2) kvs xs ∧
   ∃ o es ep, h.get? a = some o ∧ o.ExactDict ∧ o.data = .dict es ep ∧ es.toList = xs.map (entryOfKey (tupleKind (Yn P w))) ∧ (xs.map (·.1)).Nodup
 | .set S n => h.SetOf (intKind P w) a S n
 | .ins C dx fs => H dx = some (.own a) ∧ fs.length ≤ 1000 ∧ dx ≠ a ∧ h.get? a = some (PySem.W.instObj C dx) ∧
   ∃ mA, h.Ns1 dx mA ∧ (∀ f, RelO (fs.lookup f) (mA f)) ∧ PySem.Within mA (fs.map (·.1))
 | .own _ => ∃ o, h.get? a = some o
 | .xd fs => ∃ mA, h.Ns1 a mA ∧ ∀ f, RelO (fs.lookup f) (mA f)
 | .rng lo hi => ∃ t u v, h.get? a = some { cls := .type "range", data := .fields #[.int lo t, .int hi u, .int 1 v] }
 | .frz o u => h.get? a = some o ∧ X4 H h a u
 | .tbl ps => h.get? a = some { cls := .none, data := .fields ps }
 | .met f x => h.get? a = some (PySem.W.methodObj (.ref f) (.ref x))
 | .ext φ => φ h ∧ (∃ o, h.get? a = some o) ∧ ∀ h1 h2 : Heap, φ h1 → (∀ o, h1.get? a = some o → h2.get? a = some o) → φ h2
def HOk (H : Hp) (h : Heap) : Prop := ∀ a o, H a = some o → X4 P w H h a o
end
section
variable {P : Program} {w : World} {H H' : Hp} {h h' : Heap} {a : Addr} {o : HO}
theorem X4.lt (x : X4 P w H h a o) : a < h.objs.size := by
 cases o with
 | lst xs => obtain ⟨_, _, _, _, e⟩ := x; exact Heap.lt_size e
 | tup xs => obtain ⟨_, _, _, p⟩ := x; exact p.lt
 | dK kvs => obtain ⟨_, _, _, _, o, _, _, e, _⟩ := x; exact Heap.lt_size e
 | dT kvs => obtain ⟨_, _, _, _, o, _, _, e, _⟩ := x; exact Heap.lt_size e
 | set S n => obtain ⟨o, _, _, _, e, _⟩ := x; exact Heap.lt_size e
 | ins C dx fs => obtain ⟨_, _, _, e, _⟩ := x; exact Heap.lt_size e
 | own y => obtain ⟨_, e⟩ := x; exact Heap.lt_size e
 | xd fs => obtain ⟨_, ⟨_, _, _, e, _⟩, _⟩ := x; exact Heap.lt_size e
 | rng lo hi => obtain ⟨_, _, _, e⟩ := x; exact Heap.lt_size e
 | frz ob u => obtain ⟨e, _⟩ := x; exact Heap.lt_size e
 | tbl ps => exact Heap.lt_size (show h.get? a = some _ from x)
 | met f y => exact Heap.lt_size (show h.get? a = some _ from x)
 | ext φ => obtain ⟨_, ⟨_, e⟩, _⟩ := x; exact Heap.lt_size e
theorem Paired.mapP {α β : Type} {F G : α → β → Prop} : ∀ {l₁ : List α} {l₂ : List β}, Paired F l₁ l₂ → (∀ a b, F a b → G a b) → Paired G l₁ l₂
 | _, _, .nil, _ => .nil
 | _, _, .cons r t, f => .cons (f _ _ r) (Paired.mapP t f)
theorem X4.stay (x : X4 P w H h a o) (k : ∀ b u, (b = a ∨ H b = some (.own a)) → h.get? b = some u → h'.get? b = some u)
  (ho : ∀ b, H b = some (.own a) → H' b = some (.own a)) (ht : ∀ b xs, H b = some (.tup xs) → H' b = some (.tup xs)) : X4 P w H' h' a o := by
 induction o with
 | lst xs => obtain ⟨z, its, n, r, e⟩ := x; exact ⟨z, its, n, r, k _ _ (.inl rfl) e⟩
 | tup xs => obtain ⟨z, its, r, ob, e, c⟩ := x; exact ⟨z, its, r, ob, k _ _ (.inl rfl) e, c⟩
 | dK kvs => obtain ⟨z, y, vs, r, ob, es, ep, e, c⟩ := x; exact ⟨z, y, vs, r, ob, es, ep, k _ _ (.inl rfl) e, c⟩
 | dT kvs =>
  obtain ⟨z, y, xs, r, ob, es, ep, e, c⟩ := x
  exact ⟨z, y, xs, Paired.mapP r fun p q z => ⟨z.1, ht _ _ z.2.1, z.2.2⟩, ob, es, ep, k _ _ (.inl rfl) e, c⟩
 | set S n => obtain ⟨ob, es, ep, t, e, c⟩ := x; exact ⟨ob, es, ep, t, k _ _ (.inl rfl) e, c⟩
 | ins C dx fs =>
  obtain ⟨d, z, ne, e, mA, ⟨od, es, ep, e2, c⟩, r⟩ := x
  exact ⟨ho _ d, z, ne, k _ _ (.inl rfl) e, mA, ⟨od, es, ep, k _ _ (.inr d) e2, c⟩, r⟩
 | own y => obtain ⟨ob, e⟩ := x; exact ⟨ob, k _ _ (.inl rfl) e⟩
 | xd fs => obtain ⟨mA, ⟨od, es, ep, e, c⟩, r⟩ := x; exact ⟨mA, ⟨od, es, ep, k _ _ (.inl rfl) e, c⟩, r⟩
 | rng lo hi => obtain ⟨t, u, v, e⟩ := x; exact ⟨t, u, v, k _ _ (.inl rfl) e⟩
 | frz ob u ih => obtain ⟨e, q⟩ := x; exact ⟨k _ _ (.inl rfl) e, ih q⟩
 | tbl ps =>
  have e : h.get? a = some { cls := .none, data := .fields ps } := x
  show h'.get? a = some { cls := .none, data := .fields ps }
  exact k a _ (.inl rfl) e
 | met f y =>
  have e : h.get? a = some (PySem.W.methodObj (.ref f) (.ref y)) := x
  show h'.get? a = some (PySem.W.methodObj (.ref f) (.ref y))
  exact k a _ (.inl rfl) e
 | ext φ => obtain ⟨p, ⟨o, e⟩, st⟩ := x; exact ⟨st _ _ p fun o q => k _ _ (.inl rfl) q, ⟨o, k _ _ (.inl rfl) e⟩, st⟩
theorem HOk.lt (x : HOk P w H h) (e : H a = some o) : a < h.objs.size := (x a o e).lt
theorem HOk.fresh (x : HOk P w H h) (e : h.objs.size ≤ a) : H a = none := by
 cases q : H a with
 | none => rfl
 | some u => exact absurd (Nat.lt_of_lt_of_le (x.lt q) e) (Nat.lt_irrefl _)
theorem HOk.kept (x : HOk P w H h) (k : ∀ b u, h.get? b = some u → h'.get? b = some u) : HOk P w H h' := fun a o e =>
 (x a o e).stay (fun b u _ q => k b u q) (fun _ q => q) fun _ _ q => q
theorem HOk.laid (x : HOk P w H h) (k : ∀ b u, h.get? b = some u → h'.get? b = some u) (hp : h.objs.size ≤ a) (new : X4 P w (upd H a o) h' a o) : HOk P w (upd H a o) h' := fun b u e => by
 have hn := x.fresh hp
 by_cases hb : b = a
 ·subst hb; rw [Yt] at e; cases e; exact new
 ·rw [Zl hb] at e
  exact (x b u e).stay (fun c v _ q => k c v q) (fun c q => by rw [Zl (Zo q hn)]; exact q) fun c xs q => by rw [Zl (Zo q hn)]; exact q
end
def Rd (H : Hp) (a : Addr) (u : HO) : Prop := H a = some u ∨ ∃ o, H a = some (.frz o u)
theorem Rd.ok {P : Program} {w : World} {H : Hp} {h : Heap} {a : Addr} {u : HO} (r : Rd H a u) (x : HOk P w H h) : X4 P w H h a u := by
 rcases r with r | ⟨o, r⟩
 ·exact x a u r
 ·obtain ⟨_, q⟩ := x a _ r
  exact q
def Mut : Option HO → Prop
 | some (.lst _) => True
 | some (.dK _) => True
 | some (.dT _) => True
 | some (.set _ _) => True
 | some (.ins _ _ _) => True
 | some (.ext _) => True
 | _ => False
section
variable {P : Program} {w : World} {H : Hp} {h h' : Heap} {x e : Addr} {o' : HO}
theorem HOk.write (ok : HOk P w H h) (mu : Mut (H x)) (he : e = x ∨ H e = some (.own x)) (k : ∀ b u, b ≠ e → h.get? b = some u → h'.get? b = some u) (heo : ∃ u, h'.get? e = some u)
  (new : X4 P w (upd H x o') h' x o') : HOk P w (upd H x o') h' := fun b u q => by
 have nown : ∀ c y, H c = some (.own y) → c ≠ x := fun c y r z => by subst z; rw [r] at mu; exact mu
 have ntup : ∀ c xs, H c = some (.tup xs) → c ≠ x := fun c xs r z => by subst z; rw [r] at mu; exact mu
 by_cases hb : b = x
 ·subst hb; rw [Yt] at q; cases q; exact new
 ·rw [Zl hb] at q
  by_cases hbe : b = e
  ·have q' : H b = some (.own x) := by
    rcases he with z | z
    ·exact absurd (hbe.trans z) hb
    ·rw [hbe]; exact z
   rw [q] at q'; cases q'
   obtain ⟨v, hv⟩ := heo
   exact ⟨v, by rw [hbe]; exact hv⟩
  ·refine (ok b u q).stay (fun c v hc r => k c v ?_ r) (fun c r => by rw [Zl (nown c b r)]; exact r) fun c xs r => by rw [Zl (ntup c xs r)]; exact r
   rcases hc with rfl | hc
   ·exact hbe
   ·rintro rfl
    rcases he with z | z
    ·exact nown c b hc z
    ·rw [hc] at z; cases z; exact hb rfl
end
structure Un (fs ex : List Addr) (H H' : Hp) (h h' : Heap) : Prop where
 keep : ∀ b o, h.get? b = some o → H b = none → b ∉ fs → b ∉ ex → h'.get? b = some o
 slot : ∀ b o, h.get? b = some o → H b = none → b ∈ fs → b ∉ ex → ∃ sl, h'.get? b = some { o with slots := sl }
 free : ∀ b o, h.get? b = some o → H b = none → b ∉ ex → H' b = none
 there : ∀ b o, h.get? b = some o → b ∉ ex → ∃ o', h'.get? b = some o'
 tups : ∀ b xs, H b = some (.tup xs) → H' b = some (.tup xs)
 frzs : ∀ b o u, H b = some (.frz o u) → H' b = some (.frz o u)
 tbls : ∀ b ps, H b = some (.tbl ps) → ∃ more, H' b = some (.tbl (ps ++ more))
section
variable {fs fs' ex ex' : List Addr} {H H1 H2 : Hp} {h h1 h2 h' : Heap} {a x e : Addr} {o : HO}
theorem Un.any (u : Un fs ex H H1 h h1) {b : Addr} {ob : Obj} (q : h.get? b = some ob) (n : H b = none) (hx : b ∉ ex) : ∃ sl, h1.get? b = some { ob with slots := sl } := by
 by_cases hb : b ∈ fs
 ·exact u.slot b ob q n hb hx
 ·exact ⟨ob.slots, u.keep b ob q n hb hx⟩
theorem Un.trans (a : Un fs ex H H1 h h1) (b : Un fs ex H1 H2 h1 h2) : Un fs ex H H2 h h2 where
 keep := fun c ob q n hc hx => b.keep c ob (a.keep c ob q n hc hx) (a.free c ob q n hx) hc hx
 slot := fun c ob q n hc hx => by
  obtain ⟨sl, e1⟩ := a.slot c ob q n hc hx
  obtain ⟨sl', e2⟩ := b.slot c _ e1 (a.free c ob q n hx) hc hx
  exact ⟨sl', e2⟩
 free := fun c ob q n hx => by
  obtain ⟨o', e1⟩ := a.there c ob q hx
  exact b.free c o' e1 (a.free c ob q n hx) hx
 there := fun c ob q hx => by
  obtain ⟨o', e1⟩ := a.there c ob q hx
  exact b.there c o' e1 hx
 tups := fun c xs q => b.tups c xs (a.tups c xs q)
 frzs := fun c ob xs q => b.frzs c ob xs (a.frzs c ob xs q)
 tbls := fun c ps q => by
  obtain ⟨m1, e1⟩ := a.tbls c ps q
  obtain ⟨m2, e2⟩ := b.tbls c _ e1
  exact ⟨m1 ++ m2, by rw [e2, Array.append_assoc]⟩
theorem Un.kept (k : ∀ b u, h.get? b = some u → h'.get? b = some u) : Un fs ex H H h h' :=
 ⟨fun b ob q _ _ _ => k b ob q, fun b ob q _ _ _ => ⟨ob.slots, k b ob q⟩, fun _ _ _ n _ => n, fun b ob q _ => ⟨ob, k b ob q⟩, fun _ _ q => q, fun _ _ _ q => q, fun _ ps q => ⟨#[], by rw [q]; simp⟩⟩
theorem Un.refl : Un fs ex H H h h := Un.kept fun _ _ q => q
theorem Un.laid (k : ∀ b u, h.get? b = some u → h'.get? b = some u) (hp : h.objs.size ≤ a) (hn : H a = none) : Un fs ex H (upd H a o) h h' where
 keep := fun b u q _ _ _ => k b u q
 slot := fun b u q _ _ _ => ⟨u.slots, k b u q⟩
 free := fun b u q n _ => by rw [Zl (Nat.ne_of_lt (Nat.lt_of_lt_of_le (Heap.lt_size q) hp))]; exact n
 there := fun b u q _ => ⟨u, k b u q⟩
 tups := fun b xs q => by rw [Zl (Zo q hn)]; exact q
 frzs := fun b u xs q => by rw [Zl (Zo q hn)]; exact q
 tbls := fun b ps q => ⟨#[], by rw [Zl (Zo q hn), q]; simp⟩
theorem Un.write (mu : Mut (H x)) (he : e = x ∨ H e = some (.own x)) (k : ∀ b u, b ≠ e → h.get? b = some u → h'.get? b = some u) (heo : ∃ u, h'.get? e = some u) : Un fs ex H (upd H x o) h h' := by
 have hx : ∀ b, H b = none → b ≠ x := fun b n z => by subst z; rw [n] at mu; exact mu
 have hb : ∀ b, H b = none → b ≠ e := fun b n z => by
  subst z
  rcases he with r | r
  ·exact hx b n r
  ·rw [n] at r; cases r
 have hm : ∀ b u, H b = some u → ¬ Mut (some u) → b ≠ x := fun b u q nm z => by subst z; rw [q] at mu; exact nm mu
 refine ⟨fun b u q n _ _ => k b u (hb b n) q, fun b u q n _ _ => ⟨u.slots, k b u (hb b n) q⟩, fun b u q n _ => by rw [Zl (hx b n)]; exact n, fun b u q _ => ?_,
  fun b xs q => by rw [Zl (hm b _ q fun z => z)]; exact q, fun b u xs q => by rw [Zl (hm b _ q fun z => z)]; exact q, fun b ps q => ⟨#[], by rw [Zl (hm b _ q fun z => z), q]; simp⟩⟩
 by_cases hbe : b = e
 ·subst hbe; exact heo
 ·exact ⟨u, k b u hbe q⟩
end
def trk (h : Heap) (H : Hp) : List Addr := (List.range h.objs.size).filter fun a => (H a).isSome
def hidT (h : Heap) (H : Hp) : Heap := PySem.W.hideAll h (trk h H)
theorem Bl (h : Heap) (H : Hp) : (hidT h H).objs.size = h.objs.size := PySem.W.hideAll_size _ _
theorem Z92 {h : Heap} {H : Hp} {b : Addr} {o : Obj} (e : h.get? b = some o) (n : H b = none) : (hidT h H).get? b = some o :=
 PySem.W.hideAll_get _ e fun hm => by
  have q : (H b).isSome = true := (List.mem_filter.mp hm).2
  rw [n] at q; simp at q
theorem Zr7 {h : Heap} {H : Hp} {b : Addr} {o : Obj} (e : (hidT h H).get? b = some o) : h.get? b = some o ∧ H b = none := by
 have e' : h.get? b = some o := PySem.W.of_hideAll (trk h H) e
 refine ⟨e', ?_⟩
 cases q : H b with
 | none => rfl
 | some x =>
  have hm : b ∈ trk h H := List.mem_filter.mpr ⟨List.mem_range.mpr (Heap.lt_size e'), by simp [q]⟩
  have z : (hidT h H).get? b = none := PySem.W.hideAll_none (trk h H) hm
  rw [z] at e; cases e
def Zn1 (g h : Heap) (L : Addr) : List (Addr × Obj) := (List.range h.objs.size).filterMap fun a => if a = L ∨ (g.get? a).isSome = true then none else (h.get? a).map fun o => (a, o)
def rest (g h : Heap) (L d : Addr) : List (Addr × Obj) := (Zn1 g h L).filter fun p => decide (p.1 ≠ d)
structure Mod (K : PySem.W.Frag) (mg : Str → Option Value) (base : Heap) : Prop where
 kin : K.In base
 glob : base.Ns mainGlobals mg
 blt : ∃ mb, base.Ns builtinsNs mb ∧ ∀ x : Str, x ≠ "__name__" → mb x = bootBuiltins x
 nolimit : base.NoLimit
structure Cx where
 prog : Program
 w : World
 K : PySem.W.Frag
 mg : Str → Option Value
 base : Heap
 A : Around
 N : List Str
 s₀ : Shared
 H₀ : Hp
 env : Env
 outer : List Env
 stack : List Env
 ex : List Addr
 fn : Str → Bool
 calm : Bool
 pn : List (Addr × Obj)
 xe : Value → Shared → Prop
def frs (l : List Env) : List Addr := l.filterMap (·.frame)
abbrev Cx.fs (X : Cx) : List Addr := frs X.outer
def Vis (sc : Scope) (x : Str) : Prop := sc.names.lookup x = some .local ∨ sc.names.lookup x = some .cell ∨ sc.names.lookup x = some .free
def Loc (sc : Scope) (x : Str) : Prop := sc.names.lookup x = some .local ∨ sc.names.lookup x = some .cell
def Look (env : Env) (h : Heap) (m : Str → Option Value) (x : Str) (u : Value) : Prop :=
 (env.kindOf x = some .local ∧ m x = some u) ∨ ((env.kindOf x = some .cell ∨ env.kindOf x = some .free) ∧ ∃ c, env.cells.lookup x = some c ∧ h.IsCell c (some u))
structure Cx.Ok (X : Cx) : Prop where
 mod : Mod X.K X.mg X.base
 kind : X.env.scope.kind = .function
 glob : X.env.globals = mainGlobals
 blt : X.env.builtins = builtinsNs
 above : X.s₀.heap.objs.size ≤ X.env.locals
 inj : ∀ x y c, X.env.cells.lookup x = some c → X.env.cells.lookup y = some c → x = y
 has : ∀ x, (X.env.kindOf x = some .cell ∨ X.env.kindOf x = some .free) → ∃ c, X.env.cells.lookup x = some c
 cab : ∀ x c, X.fn x = true → X.env.cells.lookup x = some c → X.s₀.heap.objs.size ≤ c
 hd : X.calm = true → X.A.handled = none
 frames : X.A.frames = some X.stack
 stk : X.stack = X.outer ∨ (X.stack = X.env :: X.outer ∧ X.env.frame = some X.env.locals)
 exf : ∀ b ∈ X.ex, b ≠ X.env.locals ∧ ∀ x c, X.env.cells.lookup x = some c → c ≠ b
 bs : ∀ b o, X.base.get? b = some o → X.s₀.heap.get? b = some o ∧ X.H₀ b = none
 bsz : X.base.objs.size ≤ X.s₀.heap.objs.size
 noex : ∀ b o, X.base.get? b = some o → b ∉ X.ex
 exfs : ∀ b ∈ X.ex, b ∉ X.fs
 funs : X.s₀.heap.FunFrames X.base X.outer
 frf : ∀ b ∈ X.fs, X.H₀ b = none
structure Inv (X : Cx) (pins : List (Addr × Obj)) (σ : List (Option V)) (H : Hp) (s : Shared) : Prop where
 ok : X.Ok
 os : s.os = X.s₀.os
 bare : AllBare s.gens
 base : Un X.fs X.ex X.H₀ H X.s₀.heap s.heap
 loc : ∃ m, s.heap.Ns X.env.locals m ∧ ∀ (i : Nat) (x : Str) (v : V), X.N[i]? = some x → σ[i]? = some (some v) → Vis X.env.scope x → ∃ u, RelV v u ∧ Look X.env s.heap m x u
 cell : ∀ x c, X.env.cells.lookup x = some c → ∃ v, s.heap.IsCell c v
 free : H X.env.locals = none
 freeC : ∀ x c, X.env.cells.lookup x = some c → H c = none
 pin : ∀ p ∈ X.pn ++ pins, s.heap.get? p.1 = some p.2 ∧ H p.1 = none ∧ p.1 ≠ X.env.locals ∧ p.1 ∉ X.fs ∧ ∀ v, p.2.data ≠ .cell v
 hok : HOk X.prog X.w H s.heap
 len : σ.length = X.N.length
section
variable {X : Cx} {pins : List (Addr × Obj)} {σ : List (Option V)} {H H' : Hp} {s : Shared} {h' : Heap}
theorem Cx.Ok.nofr (ok : X.Ok) {b : Addr} {o : Obj} (e : X.base.get? b = some o) : b ∉ X.fs := fun hb => by
 have := (ok.funs.mem hb).1
 rw [e] at this; cases this
theorem Inv.bs (I : Inv X pins σ H s) : ∀ b o, X.base.get? b = some o → s.heap.get? b = some o ∧ H b = none := fun b o e =>
 ⟨I.base.keep b o (I.ok.bs b o e).1 (I.ok.bs b o e).2 (I.ok.nofr e) (I.ok.noex b o e), I.base.free b o (I.ok.bs b o e).1 (I.ok.bs b o e).2 (I.ok.noex b o e)⟩
theorem Inv.bk (I : Inv X pins σ H s) : ∀ b o, X.base.get? b = some o → s.heap.get? b = some o := fun b o e => (I.bs b o e).1
theorem Inv.mod (I : Inv X pins σ H s) : Mod X.K X.mg X.base := I.ok.mod
theorem Inv.kIn (I : Inv X pins σ H s) : X.K.In s.heap := I.ok.mod.kin.keeps I.bk
theorem Inv.nolimit (I : Inv X pins σ H s) : s.heap.NoLimit := I.ok.mod.nolimit.keeps I.bk
theorem Inv.lt (I : Inv X pins σ H s) : X.env.locals < s.heap.objs.size := let ⟨_, hn, _⟩ := I.loc; hn.lt
theorem Inv.sz (I : Inv X pins σ H s) : X.s₀.heap.objs.size ≤ s.heap.objs.size := Nat.le_trans I.ok.above (Nat.le_of_lt I.lt)
theorem Inv.nofs (I : Inv X pins σ H s) {a : Addr} (h : s.heap.objs.size ≤ a) : a ∉ X.fs := fun hb => by
 obtain ⟨_, o, ho, _⟩ := I.ok.funs.mem hb
 exact absurd (Nat.lt_of_lt_of_le (Heap.lt_size ho) (Nat.le_trans I.sz h)) (Nat.lt_irrefl _)
theorem Inv.cne (I : Inv X pins σ H s) : ∀ x c, X.env.cells.lookup x = some c → c ≠ X.env.locals := fun x c e z => by
 obtain ⟨v, o, ho, hd⟩ := I.cell x c e
 obtain ⟨m, ⟨o', es, ep, ho', hd', _⟩, _⟩ := I.loc
 rw [z, ho'] at ho; cases ho; rw [hd'] at hd; cases hd
theorem Inv.funs (I : Inv X pins σ H s) : s.heap.FunFrames X.base X.outer := by
 have all : ∀ (l : List Env), (∀ b ∈ frs l, b ∈ X.fs) → X.s₀.heap.FunFrames X.base l → s.heap.FunFrames X.base l := by
  intro l
  induction l with
  | nil => intro _ _; trivial
  | cons env r ih =>
   intro hs hl
   obtain ⟨hk, ⟨L, o, hf, hn, ho, hd⟩, hr⟩ := hl
   have hL : L ∈ X.fs := hs L (by unfold frs; rw [List.filterMap_cons, hf]; exact List.mem_cons_self)
   obtain ⟨sl, e⟩ := I.base.slot L o ho (I.ok.frf L hL) hL fun z => I.ok.exfs L z hL
   exact ⟨hk, ⟨L, _, hf, hn, e, hd⟩, ih (fun b hb => hs b (by unfold frs; rw [List.filterMap_cons, hf]; exact List.mem_cons_of_mem _ hb)) hr⟩
 exact all X.outer (fun _ hb => hb) I.ok.funs
theorem Inv.stack (I : Inv X pins σ H s) : s.heap.FunFrames X.base X.stack := by
 rcases I.ok.stk with e | ⟨e, hf⟩
 ·rw [e]; exact I.funs
 ·rw [e]
  obtain ⟨m, hn, _⟩ := I.loc
  refine .cons (by rw [I.ok.kind]; decide) hf hn ?_ I.funs
  exact Heap.get?_none_of_le (Nat.le_trans I.ok.bsz I.ok.above)
theorem Inv.stkSub (I : Inv X pins σ H s) : ∀ b ∈ frs X.stack, b ∈ X.env.locals :: X.fs := fun b hb => by
 rcases I.ok.stk with e | ⟨e, hf⟩
 ·rw [e] at hb; exact List.mem_cons_of_mem _ hb
 ·rw [e] at hb
  unfold frs at hb
  rw [List.filterMap_cons, hf] at hb
  exact hb
theorem Inv.stkFree (I : Inv X pins σ H s) : ∀ b ∈ frs X.stack, H b = none := fun b hb => by
 rcases List.mem_cons.mp (I.stkSub b hb) with e | hb
 ·rw [e]; exact I.free
 ·obtain ⟨_, o, ho, _⟩ := I.ok.funs.mem hb
  exact I.base.free b o ho (I.ok.frf b hb) fun z => I.ok.exfs b z hb
theorem Inv.step {g' : Array GenState} {t' : Nat} {d' : Drawn} {ch : List Addr} (I : Inv X pins σ H s)
  (hch : ∀ b ∈ ch, (b ∈ X.ex ∨ X.s₀.heap.objs.size ≤ b) ∧ b ≠ X.env.locals ∧ (∀ x c, X.env.cells.lookup x = some c → c ≠ b) ∧ ∀ p ∈ X.pn ++ pins, p.1 ≠ b)
  (keep : ∀ b o, b ≠ X.env.locals → b ∉ X.fs → b ∉ ch → s.heap.get? b = some o → H b = none → h'.get? b = some o)
  (slot : ∀ b o, b ≠ X.env.locals → b ∈ X.fs → b ∉ ch → s.heap.get? b = some o → H b = none → ∃ sl, h'.get? b = some { o with slots := sl }) (free : ∀ b o, b ∉ ch → s.heap.get? b = some o → H b = none → H' b = none)
  (there : ∀ b o, b ∉ ch → s.heap.get? b = some o → ∃ o', h'.get? b = some o')
  (tups : ∀ b xs, H b = some (.tup xs) → H' b = some (.tup xs)) (frzs : ∀ b o u, H b = some (.frz o u) → H' b = some (.frz o u)) (tbls : ∀ b ps, H b = some (.tbl ps) → ∃ more, H' b = some (.tbl (ps ++ more)))
  (ns : ∀ m, s.heap.Ns X.env.locals m → h'.Ns X.env.locals m) (hok : HOk X.prog X.w H' h') (hg : AllBare g') :
  Inv X pins σ H' { s with heap := h', gens := g', drawn := d', toks := t' } := by
 have neL : ∀ b o, X.s₀.heap.get? b = some o → b ≠ X.env.locals := fun b o e => Nat.ne_of_lt (Nat.lt_of_lt_of_le (Heap.lt_size e) I.ok.above)
 have neC : ∀ b o, X.s₀.heap.get? b = some o → b ∉ X.ex → b ∉ ch := fun b o e hx hb => by
  rcases (hch b hb).1 with z | z
  ·exact hx z
  ·exact absurd (Nat.lt_of_lt_of_le (Heap.lt_size e) z) (Nat.lt_irrefl _)
 have cellK : ∀ x c, X.env.cells.lookup x = some c → ∀ v, s.heap.IsCell c v → h'.IsCell c v := fun x c e v ⟨o, ho, hd⟩ => by
  have nch : c ∉ ch := fun z => (hch c z).2.2.1 x c e rfl
  by_cases hc : c ∈ X.fs
  ·obtain ⟨sl, q⟩ := slot c o (I.cne x c e) hc nch ho (I.freeC x c e)
   exact ⟨_, q, hd⟩
  ·exact ⟨o, keep c o (I.cne x c e) hc nch ho (I.freeC x c e), hd⟩
 refine ⟨I.ok, I.os, hg, ⟨fun b o e n hb hx => ?_, fun b o e n hb hx => ?_, fun b o e n hx => ?_, fun b o e hx => ?_, fun b xs e => tups b xs (I.base.tups b xs e), fun b o xs e => frzs b o xs (I.base.frzs b o xs e), fun b ps e => ?_⟩, ?_, fun x c e => ?_, ?_, fun x c e => ?_, fun p hp => ?_, hok, I.len⟩
 ·exact keep b o (neL b o e) hb (neC b o e hx) (I.base.keep b o e n hb hx) (I.base.free b o e n hx)
 ·obtain ⟨sl, e1⟩ := I.base.slot b o e n hb hx
  obtain ⟨sl', e2⟩ := slot b _ (neL b o e) hb (neC b o e hx) e1 (I.base.free b o e n hx)
  exact ⟨sl', e2⟩
 ·obtain ⟨o', e1⟩ := I.base.there b o e hx
  exact free b o' (neC b o e hx) e1 (I.base.free b o e n hx)
 ·obtain ⟨o', e1⟩ := I.base.there b o e hx
  exact there b o' (neC b o e hx) e1
 ·obtain ⟨m1, e1⟩ := I.base.tbls b ps e
  obtain ⟨m2, e2⟩ := tbls b _ e1
  exact ⟨m1 ++ m2, by rw [e2, Array.append_assoc]⟩
 ·obtain ⟨m, hn, hl⟩ := I.loc
  refine ⟨m, ns m hn, fun i x v e1 e2 e3 => ?_⟩
  obtain ⟨u, r, l⟩ := hl i x v e1 e2 e3
  refine ⟨u, r, ?_⟩
  rcases l with l | ⟨k, c, e, z⟩
  ·exact .inl l
  ·exact .inr ⟨k, c, e, cellK x c e _ z⟩
 ·obtain ⟨v, z⟩ := I.cell x c e
  exact ⟨v, cellK x c e v z⟩
 ·obtain ⟨m, ⟨o, _, _, ho, _⟩, _⟩ := I.loc
  exact free _ o (fun z => (hch _ z).2.1 rfl) ho I.free
 ·obtain ⟨v, o, ho, hd⟩ := I.cell x c e
  exact free c o (fun z => (hch c z).2.2.1 x c e rfl) ho (I.freeC x c e)
 ·obtain ⟨e, n, ne, nf, d⟩ := I.pin p hp
  have nch : p.1 ∉ ch := fun z => (hch p.1 z).2.2.2 p hp rfl
  exact ⟨keep p.1 p.2 ne nf nch e n, free p.1 p.2 nch e n, ne, nf, d⟩
theorem Inv.un {t' : Nat} (I : Inv X pins σ H s) (u : Un X.fs [] H H' s.heap h') (hok : HOk X.prog X.w H' h') : Inv X pins σ H' { s with heap := h', toks := t' } := by
 obtain ⟨m, ⟨o, es, ep, ho, r⟩, _⟩ := id I.loc
 obtain ⟨sl, hL⟩ := u.any ho I.free (by simp)
 exact I.step (g' := s.gens) (d' := s.drawn) (ch := []) (fun _ z => nomatch z) (fun b o _ hb _ e n => u.keep b o e n hb (by simp)) (fun b o _ hb _ e n => u.slot b o e n hb (by simp)) (fun b o _ e n => u.free b o e n (by simp)) (fun b o _ e => u.there b o e (by simp)) u.tups u.frzs u.tbls (fun m' hm => by
  obtain ⟨o', es', ep', ho', r'⟩ := hm
  rw [ho] at ho'; cases ho'
  exact ⟨_, es', ep', hL, r'⟩) hok I.bare
theorem Inv.call {g' : Array GenState} {t' : Nat} {d' : Drawn} {ch : List Addr} (I : Inv X pins σ H s) (u : Un (frs X.stack) ch H H' s.heap h') (hok : HOk X.prog X.w H' h') (hg : AllBare g')
  (hch : ∀ b ∈ ch, (b ∈ X.ex ∨ X.s₀.heap.objs.size ≤ b) ∧ b ≠ X.env.locals ∧ (∀ x c, X.env.cells.lookup x = some c → c ≠ b) ∧ ∀ p ∈ X.pn ++ pins, p.1 ≠ b) :
  Inv X pins σ H' { s with heap := h', gens := g', drawn := d', toks := t' } := by
 obtain ⟨m, ⟨o, es, ep, ho, r⟩, _⟩ := id I.loc
 obtain ⟨sl, hL⟩ := u.any ho I.free fun z => (hch _ z).2.1 rfl
 exact I.step (ch := ch) hch (fun b o hL hb hc e n => u.keep b o e n (fun z => (List.mem_cons.mp (I.stkSub b z)).elim hL hb) hc) (fun b o _ _ hc e n => u.any e n hc) (fun b o hc e n => u.free b o e n hc) (fun b o hc e => u.there b o e hc) u.tups u.frzs u.tbls (fun m' hm => by
  obtain ⟨o', es', ep', ho', r'⟩ := hm
  rw [ho] at ho'; cases ho'
  exact ⟨_, es', ep', hL, r'⟩) hok hg
theorem Inv.turned {t' : Nat} {it : Addr} (I : Inv X pins σ H s) (k : ∀ b o, b ≠ it → s.heap.get? b = some o → h'.get? b = some o) (hn : H it = none) (hL : it ≠ X.env.locals)
  (h1 : it ∈ X.ex ∨ X.s₀.heap.objs.size ≤ it) (h2 : ∀ x c, X.env.cells.lookup x = some c → c ≠ it) (h3 : ∀ p ∈ X.pn ++ pins, p.1 ≠ it) : Inv X pins σ H { s with heap := h', toks := t' } := by
 have nit : ∀ b u, H b = some u → b ≠ it := fun b u e z => by rw [z, hn] at e; cases e
 refine I.step (g' := s.gens) (d' := s.drawn) (ch := [it]) (fun b hb => ?_) (fun b o _ _ hc e _ => k b o (fun z => hc (by simp [z])) e) (fun b o _ _ hc e _ => ⟨o.slots, k b o (fun z => hc (by simp [z])) e⟩) (fun _ _ _ _ n => n)
  (fun b o hc e => ⟨o, k b o (fun z => hc (by simp [z])) e⟩) (fun _ _ e => e) (fun _ _ _ e => e) (fun b ps e => ⟨#[], by rw [e]; simp⟩) (fun m hm => ?_) (fun b u e => ?_) I.bare
 ·have e : b = it := by simpa using hb
  subst e
  exact ⟨h1, hL, h2, h3⟩
 ·obtain ⟨o, es, ep, ho, r⟩ := hm
  exact ⟨o, es, ep, k _ o (Ne.symm hL) ho, r⟩
 ·refine (I.hok b u e).stay (fun c v hc q => k c v ?_ q) (fun _ q => q) fun _ _ q => q
  rcases hc with z | z
  ·rw [z]; exact nit b u e
  ·exact nit c _ z
theorem Inv.tok (I : Inv X pins σ H s) (t : Nat) : Inv X pins σ H { s with toks := t } := I.un (h' := s.heap) (t' := t) Un.refl I.hok
theorem Inv.kept {t' : Nat} (I : Inv X pins σ H s) (k : ∀ b u, s.heap.get? b = some u → h'.get? b = some u) : Inv X pins σ H { s with heap := h', toks := t' } := I.un (Un.kept k) (I.hok.kept k)
theorem Inv.laid {a : Addr} {o : HO} {t' : Nat} (I : Inv X pins σ H s) (k : ∀ b u, s.heap.get? b = some u → h'.get? b = some u) (hp : s.heap.objs.size ≤ a) (new : X4 X.prog X.w (upd H a o) h' a o) :
  Inv X pins σ (upd H a o) { s with heap := h', toks := t' } := I.un (Un.laid k hp (I.hok.fresh hp)) (I.hok.laid k hp new)
theorem Inv.write {x e : Addr} {o : HO} {t' : Nat} (I : Inv X pins σ H s) (mu : Mut (H x)) (he : e = x ∨ H e = some (.own x)) (k : ∀ b u, b ≠ e → s.heap.get? b = some u → h'.get? b = some u) (heo : ∃ u, h'.get? e = some u)
  (new : X4 X.prog X.w (upd H x o) h' x o) : Inv X pins σ (upd H x o) { s with heap := h', toks := t' } := I.un (Un.write mu he k heo) (I.hok.write mu he k heo new)
theorem Inv.pins_of {pins' : List (Addr × Obj)} (I : Inv X pins σ H s) (h : ∀ p ∈ pins', s.heap.get? p.1 = some p.2 ∧ H p.1 = none ∧ p.1 ≠ X.env.locals ∧ p.1 ∉ X.fs ∧ ∀ v, p.2.data ≠ .cell v) : Inv X pins' σ H s :=
 ⟨I.ok, I.os, I.bare, I.base, I.loc, I.cell, I.free, I.freeC, fun p hp => (List.mem_append.mp hp).elim (fun z => I.pin p (List.mem_append_left _ z)) (h p), I.hok, I.len⟩
theorem E5 {N : List Str} (hN : N.Nodup) {i j : Nat} {x : Str} (a : N[i]? = some x) (b : N[j]? = some x) : i = j := by
 obtain ⟨h1, e1⟩ := List.getElem?_eq_some_iff.mp a
 obtain ⟨h2, e2⟩ := List.getElem?_eq_some_iff.mp b
 exact (List.getElem_inj hN).mp (e1.trans e2.symm)
theorem Qu {M : Model} {A : Around} {E : Value → Shared → Prop} {i : Nat} {x : Str} {v : V} {u : Value} {Q : Unit → Shared → Prop} (I : Inv X pins σ H s) (hN : X.N.Nodup) (hi : X.N[i]? = some x) (hx : Loc X.env.scope x) (r : RelV v u)
  (h : ∀ s', Inv X pins (σ.set i (some v)) H s' → (∃ a, Heap.SameBut a s.heap s'.heap ∧ (a = X.env.locals ∨ X.env.cells.lookup x = some a)) → Q () s') (hf : X.fn x = true ∨ X.env.scope.names.lookup x = some .local := by first | exact .inl rfl | exact .inr rfl | assumption) : wpAny M A (storeName X.env x u) Q E s := by
 obtain ⟨m, hn, hl⟩ := id I.loc
 have hcls : (X.env.scope.kind == .class || (X.env.scope.kind == .module && X.env.locals != X.env.globals)) = false := by rw [I.ok.kind]; rfl
 have hiσ : i < σ.length := by rw [I.len]; exact (List.getElem?_eq_some_iff.mp hi).1
 have cne := I.cne
 have tracked : ∀ {a : Addr} {h' : Heap}, (∃ o, s.heap.get? a = some o ∧ H a = none) → Heap.SameBut a s.heap h' → HOk X.prog X.w H h' := fun {a h'} ha hs b ob e => by
  obtain ⟨_, _, hfree⟩ := ha
  refine (I.hok b ob e).stay (fun c w' hc q => (hs.2 c ?_).trans q) (fun _ q => q) fun _ _ q => q
  rintro rfl
  rcases hc with rfl | hc
  ·rw [hfree] at e; cases e
  ·rw [hfree] at hc; cases hc
 rcases hx with hk | hk
 ·refine wpAny_storeName_local hk hn (fun h' hn' hs => ?_) hcls
  obtain ⟨oL, _, _, hoL, _⟩ := id hn
  refine h _ ⟨I.ok, I.os, I.bare, ⟨fun b o e n hb hx => ?_, fun b o e n hb hx => ?_, I.base.free, fun b o e hx => ?_, I.base.tups, I.base.frzs, I.base.tbls⟩, ⟨_, hn', fun j y v' e1 e2 e3 => ?_⟩, fun y c e => ?_, I.free, I.freeC, fun p hp => ?_, tracked ⟨oL, hoL, I.free⟩ hs, by simpa using I.len⟩ ⟨_, hs, .inl rfl⟩
  ·exact (hs.2 b (Nat.ne_of_lt (Nat.lt_of_lt_of_le (Heap.lt_size e) I.ok.above))).trans (I.base.keep b o e n hb hx)
  ·obtain ⟨sl, e1⟩ := I.base.slot b o e n hb hx
   exact ⟨sl, (hs.2 b (Nat.ne_of_lt (Nat.lt_of_lt_of_le (Heap.lt_size e) I.ok.above))).trans e1⟩
  ·obtain ⟨o', e1⟩ := I.base.there b o e hx
   exact ⟨o', (hs.2 b (Nat.ne_of_lt (Nat.lt_of_lt_of_le (Heap.lt_size e) I.ok.above))).trans e1⟩
  ·by_cases hj : j = i
   ·subst hj
    rw [hi] at e1; cases e1
    rw [List.getElem?_set_self hiσ] at e2
    cases e2
    exact ⟨u, r, .inl ⟨hk, by simp⟩⟩
   ·rw [List.getElem?_set_ne (Ne.symm hj)] at e2
    obtain ⟨u', r', q⟩ := hl j y v' e1 e2 e3
    refine ⟨u', r', ?_⟩
    rcases q with ⟨k, e⟩ | ⟨k, c, e, z⟩
    ·refine .inl ⟨k, ?_⟩
     have : y ≠ x := fun e => hj (E5 hN e1 (e ▸ hi))
     simp [this, e]
    ·exact .inr ⟨k, c, e, z.sameBut hs (cne y c e)⟩
  ·obtain ⟨w', z⟩ := I.cell y c e
   exact ⟨w', z.sameBut hs (cne y c e)⟩
  ·obtain ⟨e, n, ne, nf, d⟩ := I.pin p hp
   exact ⟨(hs.2 p.1 ne).trans e, n, ne, nf, d⟩
 ·have hfn : X.fn x = true := by
   rcases hf with z | z
   ·exact z
   ·rw [z] at hk; cases hk
  obtain ⟨c, hc⟩ := I.ok.has x (.inl hk)
  obtain ⟨w', z⟩ := I.cell x c hc
  refine wpAny_storeName_cell I.ok.kind hk hc z (fun h' hc' hs => ?_)
  obtain ⟨oc, hoc, hocd⟩ := id z
  refine h { s with heap := h' } ⟨I.ok, I.os, I.bare, ⟨fun b o e n hb hx => ?_, fun b o e n hb hx => ?_, I.base.free, fun b o e hx => ?_, I.base.tups, I.base.frzs, I.base.tbls⟩, ⟨m, hn.sameBut hs (Ne.symm (cne x c hc)), fun j y v' e1 e2 e3 => ?_⟩, fun y c' e => ?_, I.free, I.freeC, fun p hp => ?_, tracked ⟨oc, hoc, I.freeC x c hc⟩ hs, by simpa using I.len⟩ ⟨c, hs, .inr hc⟩
  ·exact (hs.2 b (Nat.ne_of_lt (Nat.lt_of_lt_of_le (Heap.lt_size e) (I.ok.cab x c hfn hc)))).trans (I.base.keep b o e n hb hx)
  ·obtain ⟨sl, e1⟩ := I.base.slot b o e n hb hx
   exact ⟨sl, (hs.2 b (Nat.ne_of_lt (Nat.lt_of_lt_of_le (Heap.lt_size e) (I.ok.cab x c hfn hc)))).trans e1⟩
  ·obtain ⟨o', e1⟩ := I.base.there b o e hx
   exact ⟨o', (hs.2 b (Nat.ne_of_lt (Nat.lt_of_lt_of_le (Heap.lt_size e) (I.ok.cab x c hfn hc)))).trans e1⟩
  ·by_cases hj : j = i
   ·subst hj
    rw [hi] at e1; cases e1
    rw [List.getElem?_set_self hiσ] at e2
    cases e2
    exact ⟨u, r, .inr ⟨.inl hk, c, hc, hc'⟩⟩
   ·rw [List.getElem?_set_ne (Ne.symm hj)] at e2
    obtain ⟨u', r', q⟩ := hl j y v' e1 e2 e3
    refine ⟨u', r', ?_⟩
    rcases q with q | ⟨k, c', e, z'⟩
    ·exact .inl q
    ·refine .inr ⟨k, c', e, z'.sameBut hs ?_⟩
     rintro rfl
     exact hj (E5 hN e1 (I.ok.inj _ _ _ e hc ▸ hi))
  ·by_cases hcc : c' = c
   ·subst hcc; exact ⟨_, hc'⟩
   ·obtain ⟨w2, z2⟩ := I.cell y c' e
    exact ⟨w2, z2.sameBut hs hcc⟩
  ·obtain ⟨e, n, ne, nf, d⟩ := I.pin p hp
   refine ⟨(hs.2 p.1 ?_).trans e, n, ne, nf, d⟩
   intro q
   rw [q, hoc] at e
   have q' : oc = p.2 := Option.some.inj e
   exact d w' (by rw [← q']; exact hocd)
theorem Zf2 {M : Model} {A : Around} {E : Value → Shared → Prop} {i : Nat} {x : Str} {v : V} {u : Value} {Q : Unit → Shared → Prop} (I : Inv X pins σ H s) (hN : X.N.Nodup) (hi : X.N[i]? = some x) (hx : Loc X.env.scope x) (r : RelV v u)
  (h : ∀ s', Inv X pins (σ.set i (some v)) H s' → Q () s') (hf : X.fn x = true ∨ X.env.scope.names.lookup x = some .local := by first | exact .inl rfl | exact .inr rfl | assumption) : wpAny M A (storeName X.env x u) Q E s :=
 Qu I hN hi hx r (fun s' I' _ => h s' I') hf
theorem Inv.call' {s' : Shared} {ch : List Addr} (I : Inv X pins σ H s) (ho : s'.os = s.os) (u : Un (frs X.stack) ch H H' s.heap s'.heap) (hok : HOk X.prog X.w H' s'.heap) (hg : AllBare s'.gens)
  (hch : ∀ b ∈ ch, (b ∈ X.ex ∨ X.s₀.heap.objs.size ≤ b) ∧ b ≠ X.env.locals ∧ (∀ x c, X.env.cells.lookup x = some c → c ≠ b) ∧ ∀ p ∈ X.pn ++ pins, p.1 ≠ b) : Inv X pins σ H' s' := by
 obtain ⟨h', g', d', t', o'⟩ := s'
 have e : o' = s.os := ho
 subst e
 exact I.call (g' := g') (t' := t') (d' := d') u hok hg hch
end
abbrev XK := Value → Option Addr → Hp → Prop
abbrev St := List (Option V)
abbrev VK := V → Hp → Prop
abbrev TE := St → Hp → VK → Prop
abbrev TT := St → Hp → (Bool → Hp → Prop) → Prop
abbrev TA := St → Hp → (List V → Hp → Prop) → Prop
structure Ends where
 nx : St → Hp → Prop
 rt : VK
 bk : St → Hp → Prop := fun _ _ => False
 ct : St → Hp → Prop := fun _ _ => False
abbrev TS := Ends → St → Hp → Prop
def EP (X : Cx) (pins : List (Addr × Obj)) (σ : St) (Q : VK) (u : Value) (s' : Shared) : Prop := ∃ v H', Inv X pins σ H' s' ∧ RelV v u ∧ Q v H'
def TP (X : Cx) (pins : List (Addr × Obj)) (σ : St) (Q : Bool → Hp → Prop) (b : Bool) (s' : Shared) : Prop := ∃ H', Inv X pins σ H' s' ∧ Q b H'
def AP (X : Cx) (pins : List (Addr × Obj)) (σ : St) (Q : List V → Hp → Prop) (us : List Value) (s' : Shared) : Prop := ∃ vs H', Inv X pins σ H' s' ∧ Vals vs us ∧ Q vs H'
def SP (X : Cx) (pins : List (Addr × Obj)) (D : Ends) (f : Flow) (s' : Shared) : Prop :=
 match f with
 | .next => ∃ σ' H', Inv X pins σ' H' s' ∧ D.nx σ' H'
 | .brk => ∃ σ' H', Inv X pins σ' H' s' ∧ D.bk σ' H'
 | .cont => ∃ σ' H', Inv X pins σ' H' s' ∧ D.ct σ' H'
 | .ret u => ∃ v σ' H', Inv X pins σ' H' s' ∧ RelV v u ∧ D.rt v H'
def PE (X : Cx) (e : Expr) (t : TE) : Prop :=
 ∀ (pins : List (Addr × Obj)) (s : Shared) (σ : St) (H : Hp) (Q : VK), Inv X pins σ H s → t σ H Q → wpAny (model X.prog X.w) X.A (eval e X.env) (EP X pins σ Q) X.xe s
def PT (X : Cx) (e : Expr) (t : TT) : Prop :=
 ∀ (pins : List (Addr × Obj)) (s : Shared) (σ : St) (H : Hp) (Q : Bool → Hp → Prop), Inv X pins σ H s → t σ H Q → wpAny (model X.prog X.w) X.A (isTrue e X.env (eval e X.env)) (TP X pins σ Q) X.xe s
def PW (X : Cx) (e : Expr) (t : TT) : Prop :=
 ∀ (whole : Sem Value) (pins : List (Addr × Obj)) (s : Shared) (σ : St) (H : Hp) (Q : Bool → Hp → Prop), Inv X pins σ H s → t σ H Q → wpAny (model X.prog X.w) X.A (isTrue e X.env whole) (TP X pins σ Q) X.xe s
theorem PW.pt {X : Cx} {e : Expr} {t : TT} (h : PW X e t) : PT X e t := h _
def PA (X : Cx) (es : List Expr) (t : TA) : Prop :=
 ∀ (pos : Pos) (pins : List (Addr × Obj)) (s : Shared) (σ : St) (H : Hp) (Q : List V → Hp → Prop), Inv X pins σ H s → t σ H Q → wpAny (model X.prog X.w) X.A (spliced (backTo pos (starEach es X.env))) (AP X pins σ Q) X.xe s
def PS (X : Cx) (st : Stmt) (t : TS) : Prop :=
 ∀ (pins : List (Addr × Obj)) (s : Shared) (σ : St) (H : Hp) (D : Ends), Inv X pins σ H s → t D σ H → wpAny (model X.prog X.w) X.A (exec st X.env) (SP X pins D) X.xe s
def PSs (X : Cx) (st : List Stmt) (t : TS) : Prop :=
 ∀ (pins : List (Addr × Obj)) (s : Shared) (σ : St) (H : Hp) (D : Ends), Inv X pins σ H s → t D σ H → wpAny (model X.prog X.w) X.A (execs st X.env) (SP X pins D) X.xe s
theorem thn {α : Type} {t : Sem α} {Q Q' : α → Shared → Prop} {M : Model} {A : Around} {E : Value → Shared → Prop} {s : Shared} (h : wpAny M A t Q E s) (hQ : ∀ a s, Q a s → Q' a s) : wpAny M A t Q' E s := wpAny_mono h hQ fun _ _ x => x
section
variable {X : Cx}
theorem bin {a b : Expr} {ta tb : TE} (ha : PE X a ta) (hb : PE X b tb) {pins : List (Addr × Obj)} {s : Shared} {σ : St} {H : Hp} {R : V → V → Hp → Prop} (I : Inv X pins σ H s) (h : ta σ H fun x H1 => tb σ H1 fun y H2 => R x y H2)
  {α : Type} {Q : α → Shared → Prop} {f : Value → Value → Sem α}
  (hf : ∀ v u s2 x y H2, Inv X pins σ H2 s2 → RelV x v → RelV y u → R x y H2 → wpAny (model X.prog X.w) X.A (f v u) Q X.xe s2) :
  wpAny (model X.prog X.w) X.A (eval a X.env) (fun v s₁ => wpAny (model X.prog X.w) X.A (eval b X.env) (fun u s₂ => wpAny (model X.prog X.w) X.A (f v u) Q X.xe s₂) X.xe s₁) X.xe s := by
 refine thn (ha pins s σ H _ I h) fun v s1 ⟨x, H1, I1, r1, q1⟩ => ?_
 refine thn (hb pins s1 σ H1 _ I1 q1) fun u s2 ⟨y, H2, I2, r2, q2⟩ => ?_
 exact hf v u s2 x y H2 I2 r1 r2 q2
def tVar (i : Nat) : TE := fun σ H Q => ∃ v, σ[i]? = some (some v) ∧ Q v H
def tC (v : V) : TE := fun _ H Q => Q v H
theorem J9 {i : Nat} {x : Str} {pos : Pos} (hN : X.N[i]? = some x) (hv : Vis X.env.scope x) (hd : (x == ("__debug__" : Str)) = false := by decide) (hcd : (x == ("__classdict__" : Str)) = false := by decide) : PE X (.Name x pos) (tVar i) := by
 intro pins s σ H Q I h
 obtain ⟨v, e, h⟩ := h
 obtain ⟨m, hn, hl⟩ := I.loc
 obtain ⟨u, r, l⟩ := hl i x v hN e hv
 have fin : EP X pins σ Q u s := ⟨v, H, I, r, h⟩
 rcases l with ⟨hk, hm⟩ | ⟨hk, c, hc, hcell⟩
 ·exact wpAny_Name (wpAny_loadName_local I.ok.kind hk hn hm fin) hd
 ·rcases hk with hk | hk
  ·exact wpAny_Name (wpAny_loadName_cell I.ok.kind hk hc hcell fin) hd
  ·exact wpAny_Name (wpAny_loadName_free I.ok.kind hk hc hcell fin hcd) hd
theorem Fq {i j pos} : PE X (.Constant (.int i) j pos) (tC (.int i)) := fun _ _ _ H _ I h => wpAny_Constant_int ⟨.int i, H, I.tok _, ⟨_, rfl⟩, h⟩
theorem Y53 {b j pos} : PE X (.Constant (.bool b) j pos) (tC (.bl b)) := fun _ _ _ H _ I h => Constant_bool ⟨.bl b, H, I, rfl, h⟩
theorem Zi9 {j pos} : PE X (.Constant .none j pos) (tC .non) := fun _ _ _ H _ I h => Constant_none ⟨.non, H, I, rfl, h⟩
theorem Zy5 {x j pos} : PE X (.Constant (.str x) j pos) (tC (.str x)) := fun _ _ _ H _ I h => Calls.Constant_str ⟨.str x, H, I.tok _, ⟨_, rfl⟩, h⟩
def Gl (X : Cx) (x : Str) : Prop := X.env.kindOf x = some .globalImplicit
theorem N4 {E : Value → Shared → Prop} {pins : List (Addr × Obj)} {s : Shared} {σ : St} {H : Hp} {x : Str} {u : Value} {pos : Pos} {Q : Value → Shared → Prop} (I : Inv X pins σ H s) (hg : Gl X x) (hm : X.mg x = some u) (h : Q u s)
  (hd : (x == ("__debug__" : Str)) = false := by decide) : wpAny (model X.prog X.w) X.A (eval (.Name x pos) X.env) Q E s :=
 Calls.Name_function_global I.ok.kind hg (Calls.loadGlobal_global (by rw [I.ok.glob]; exact I.mod.glob.keeps I.bk) hm h) hd
theorem Rx {E : Value → Shared → Prop} {pins : List (Addr × Obj)} {s : Shared} {σ : St} {H : Hp} {x : Str} {u : Value} {pos : Pos} {Q : Value → Shared → Prop} (I : Inv X pins σ H s) (hg : Gl X x) (hm : X.mg x = none) (hv : bootBuiltins x = some u) (h : Q u s)
  (hn : x ≠ "__name__" := by decide) (hd : (x == ("__debug__" : Str)) = false := by decide) : wpAny (model X.prog X.w) X.A (eval (.Name x pos) X.env) Q E s := by
 obtain ⟨mb, h1, h2⟩ := I.mod.blt
 exact Calls.Name_function_global I.ok.kind hg (Calls.loadGlobal_builtin (by rw [I.ok.glob]; exact I.mod.glob.keeps I.bk) hm (by rw [I.ok.blt]; exact h1.keeps I.bk) ((h2 x hn).trans hv) h) hd
theorem Zr9 {x : Str} {v : V} {u : Value} {pos : Pos} (hg : Gl X x) (hm : X.mg x = some u) (r : RelV v u) (hd : (x == ("__debug__" : Str)) = false := by decide) : PE X (.Name x pos) (tC v) :=
 fun _ _ _ H _ I h => N4 I hg hm ⟨v, H, I, r, h⟩ hd
theorem Zo3 {x : Str} {v : V} {u : Value} {pos : Pos} (hg : Gl X x) (hm : X.mg x = none) (hv : bootBuiltins x = some u) (r : RelV v u) (hn : x ≠ "__name__" := by decide) (hd : (x == ("__debug__" : Str)) = false := by decide) : PE X (.Name x pos) (tC v) :=
 fun _ _ _ H _ I h => Rx I hg hm hv ⟨v, H, I, r, h⟩ hn hd
def t2I (ta tb : TE) (k : Int → Int → Hp → Prop) : St → Hp → Prop := fun σ H => ta σ H fun x H1 => tb σ H1 fun y H2 => ∃ i j, x = .int i ∧ y = .int j ∧ k i j H2
variable {a b : Expr} {ta tb : TE} {pos : Pos}
def PC (X : Cx) (op : CmpOp) (a b : Expr) (t : TE) : Prop :=
 ∀ (pins : List (Addr × Obj)) (s : Shared) (σ : St) (H : Hp) (Q : VK), Inv X pins σ H s → t σ H Q →
  wpAny (model X.prog X.w) X.A (eval a X.env) (fun v s₁ => wpAny (model X.prog X.w) X.A (eval b X.env) (fun u s₂ => wpAny (model X.prog X.w) X.A (compareOp op v u) (EP X pins σ Q) X.xe s₂) X.xe s₁) X.xe s
theorem Zd7 (b : Expr) {op : CmpOp} (h : op ≠ .In) (h2 : op ≠ .NotIn) : behindInMarks op b = false := by
 have e1 : (op == CmpOp.In) = false := by cases op <;> first | rfl | exact absurd rfl h
 have e2 : (op == CmpOp.NotIn) = false := by cases op <;> first | rfl | exact absurd rfl h2
 cases b <;> simp [behindInMarks, e1, e2]
def tCmp (p : Int → Int → Bool) (ta tb : TE) : TE := fun σ H Q => t2I ta tb (fun i j H2 => Q (.bl (p i j)) H2) σ H
abbrev tEqI : TE → TE → TE := tCmp fun i j => decide (i = j)
theorem Zx1 {op : CmpOp} {p : Int → Int → Bool} (ha : PE X a ta) (hb : PE X b tb)
  (rule : ∀ (i j : Int) (t u : Tok) (Q : Value → Shared → Prop) (s : Shared), Q (.bool (p i j)) s → wpAny (model X.prog X.w) X.A (compareOp op (.int i t) (.int j u)) Q X.xe s) : PC X op a b (tCmp p ta tb) := by
 intro pins s σ H Q I h
 refine bin ha hb I h fun v u s2 x y H2 I2 rx ry q => ?_
 obtain ⟨i, j, rfl, rfl, q⟩ := q
 obtain ⟨t, rfl⟩ := rx
 obtain ⟨t', rfl⟩ := ry
 exact rule i j t t' _ s2 ⟨.bl _, H2, I2, rfl, q⟩
theorem Zx5 (ha : PE X a ta) (hb : PE X b tb) : PC X .Eq a b (tEqI ta tb) := Zx1 ha hb fun _ _ _ _ _ _ h => eq_int (by rw [Bool.beq_eq_decide_eq]; exact h)
def tB (t : TE) : TT := fun σ H Q => t σ H fun x H1 => ∃ c, x = .bl c ∧ Q c H1
theorem Zz3 {op : CmpOp} {t : TE} (h : PC X op a b t) (h1 : behindInMarks op b = false := by first | exact Zd7 _ (by decide) (by decide) | rfl) : PT X (.Compare a [op] [b] pos) (tB t) := by
 intro pins s σ H Q I hw
 refine wpAny_isTrue_Compare1 (thn (h pins s σ H _ I hw) fun v s1 h1 => thn h1 fun u s2 h2 => thn h2 fun c s3 ⟨x, H1, I1, r1, q1⟩ => ?_) h1
 obtain ⟨d, rfl, q⟩ := q1
 cases r1
 exact wpAny_truthy_bool ⟨H1, I1, q⟩
variable {tA tB' : TT} {rest : List Expr}
def tAnd (t u : TT) : TT := fun σ H Q => t σ H fun c H1 => if c = true then u σ H1 Q else Q false H1
def tOr (t u : TT) : TT := fun σ H Q => t σ H fun c H1 => if c = true then Q true H1 else u σ H1 Q
def tNot (t : TT) : TT := fun σ H Q => t σ H fun c H1 => Q (!c) H1
theorem Zs7 (ha : PT X a tA) : PW X (.BoolOp .And [a] pos) tA := by
 intro wh pins s σ H Q I h
 refine isTrue_and (thn (ha pins s σ H Q I h) fun c s1 e => ?_)
 cases c with
 | true => exact isTrue_and_nil e
 | false => exact e
theorem Zv4 (ha : PT X a tA) : PW X (.BoolOp .Or [a] pos) tA := by
 intro wh pins s σ H Q I h
 refine isTrue_or (thn (ha pins s σ H Q I h) fun c s1 e => ?_)
 cases c with
 | false => exact isTrue_or_nil e
 | true => exact e
theorem Y17 (ha : PT X a tA) (hb : PW X (.BoolOp .And (b :: rest) pos) tB') : PW X (.BoolOp .And (a :: b :: rest) pos) (tAnd tA tB') := by
 intro wh pins s σ H Q I h
 refine isTrue_and (thn (ha pins s σ H _ I h) fun c s1 ⟨H1, I1, q1⟩ => ?_)
 cases c with
 | true => exact hb wh pins s1 σ H1 Q I1 q1
 | false => exact ⟨H1, I1, q1⟩
theorem Y44 (ha : PT X a tA) (hb : PW X (.BoolOp .Or (b :: rest) pos) tB') : PW X (.BoolOp .Or (a :: b :: rest) pos) (tOr tA tB') := by
 intro wh pins s σ H Q I h
 refine isTrue_or (thn (ha pins s σ H _ I h) fun c s1 ⟨H1, I1, q1⟩ => ?_)
 cases c with
 | true => exact ⟨H1, I1, q1⟩
 | false => exact hb wh pins s1 σ H1 Q I1 q1
theorem Zt7 (ha : PT X a tA) : PT X (.UnaryOp .Not a pos) (tNot tA) := by
 intro pins s σ H Q I h
 exact isTrue_not (ha pins s σ H (fun c H1 => Q (!c) H1) I h)
theorem Zv5 {op} {t : TE} (h : PE X a t) : PE X (.BoolOp op [a] pos) t := fun pins s σ H Q I hw => BoolOp_one (h pins s σ H Q I hw)
def tIf (t : TT) (ta tb : TE) : TE := fun σ H Q => t σ H fun c H1 => if c = true then ta σ H1 Q else tb σ H1 Q
theorem Zi0 {c : Expr} (hc : PT X c tA) (ha : PE X a ta) (hb : PE X b tb) : PE X (.IfExp c a b pos) (tIf tA ta tb) := by
 intro pins s σ H Q I h
 refine wpAny_IfExp (thn (hc pins s σ H _ I h) fun d s1 ⟨H1, I1, q1⟩ => ?_)
 cases d with
 | true => exact ha pins s1 σ H1 Q I1 q1
 | false => exact hb pins s1 σ H1 Q I1 q1
end
def SqL (K : PySem.W.Frag) (H : Hp) (a : Addr) (xs : List V) : Prop :=
 Rd H a (.lst xs) ∨
  ∃ (o : Obj) (its : Array Value) (n : Nat), K.lookup a = some o ∧ o.cls = .type "list" ∧ o.dict = none ∧ o.data = .seq its n ∧ its.size ≤ sizeLine ∧ Vals xs its.toList
def SqT (K : PySem.W.Frag) (H : Hp) (a : Addr) (xs : List V) : Prop :=
 Rd H a (.tup xs) ∨
  ∃ (o : Obj) (its : Array Value) (n : Nat), K.lookup a = some o ∧ o.cls = .type "tuple" ∧ o.data = .seq its n ∧ its.size ≤ sizeLine ∧ Vals xs its.toList
def absV : Value → Option V
 | .none => some .non
 | .bool b => some (.bl b)
 | .int i _ => some (.int i)
 | .str x _ => some (.str x)
 | .bytes b _ => some (.byt b)
 | .float b _ => some (.flt b)
 | .ref a => some (.ref a)
 | .type n => some (.ty n)
 | _ => none
theorem RelV.abs {x : V} {u : Value} (r : RelV x u) : absV u = some x := by
 cases x with
 | non => cases r; rfl
 | bl _ => cases r; rfl
 | int _ => obtain ⟨t, rfl⟩ := r; rfl
 | str _ => obtain ⟨t, rfl⟩ := r; rfl
 | byt _ => obtain ⟨t, rfl⟩ := r; rfl
 | flt _ => obtain ⟨t, rfl⟩ := r; rfl
 | ref _ => cases r; rfl
 | ty _ => cases r; rfl
theorem RelV.inj {x y : V} {u : Value} (r : RelV x u) (q : RelV y u) : x = y := Option.some.inj (r.abs.symm.trans q.abs)
theorem Vals.inj : ∀ {xs ys : List V} {us : List Value}, Vals xs us → Vals ys us → xs = ys
 | _, _, _, .nil, .nil => rfl
 | _, _, _, .cons r t, .cons r' t' => by rw [r.inj r', Vals.inj t t']
section
variable {X : Cx} {pins : List (Addr × Obj)} {σ : St} {H : Hp} {s : Shared} {a : Addr} {xs ys : List V}
theorem SqT.of {K : PySem.W.Frag} (h : H a = some (.tup xs)) : SqT K H a xs := .inl (.inl h)
theorem Inv.list (I : Inv X pins σ H s) (h : SqL X.K H a xs) : ∃ its : List Value, Vals xs its ∧ PlainL s.heap a its.toArray ∧ xs.length ≤ sizeLine := by
 rcases h with h | ⟨o, its, n, hk, hc, hd, hs, hz, r⟩
 ·obtain ⟨z, its, n, r, e⟩ := h.ok I.hok
  exact ⟨its, r, ⟨_, n, e, rfl, rfl, rfl⟩, z⟩
 ·refine ⟨its.toList, r, ⟨o, n, I.kIn a o hk, hc, hd, by simpa using hs⟩, ?_⟩
  have e := r.length
  simp only [Array.length_toList] at e
  omega
theorem Inv.tuple (I : Inv X pins σ H s) (h : SqT X.K H a xs) : ∃ its : List Value, Vals xs its ∧ IsTup s.heap a its.toArray ∧ xs.length ≤ sizeLine := by
 rcases h with h | ⟨o, its, n, hk, hc, hs, hz, r⟩
 ·obtain ⟨z, its, r, p⟩ := h.ok I.hok
  exact ⟨its, r, p, z⟩
 ·refine ⟨its.toList, r, ⟨o, I.kIn a o hk, hc, n, by simpa using hs⟩, ?_⟩
  have e := r.length
  simp only [Array.length_toList] at e
  omega
theorem Inv.list_inj (I : Inv X pins σ H s) (h : SqL X.K H a xs) (h' : SqL X.K H a ys) : xs = ys := by
 obtain ⟨its, r, ⟨o, n, e, _, _, d⟩, _⟩ := I.list h
 obtain ⟨its', r', ⟨o', n', e', _, _, d'⟩, _⟩ := I.list h'
 rw [e] at e'; cases e'
 rw [d] at d'
 injection d' with d1 _
 have : its = its' := by simpa using congrArg Array.toList d1
 subst this
 exact r.inj r'
theorem Inv.tuple_inj (I : Inv X pins σ H s) (h : SqT X.K H a xs) (h' : SqT X.K H a ys) : xs = ys := by
 obtain ⟨its, r, ⟨o, e, _, n, d⟩, _⟩ := I.tuple h
 obtain ⟨its', r', ⟨o', e', _, n', d'⟩, _⟩ := I.tuple h'
 rw [e] at e'; cases e'
 rw [d] at d'
 injection d' with d1 _
 have : its = its' := by simpa using congrArg Array.toList d1
 subst this
 exact r.inj r'
end
abbrev Cx.wish (X : Cx) (E : Value → Shared → Prop) : Cx := { X with xe := E }
abbrev Cx.nox (X : Cx) : Cx := X.wish fun _ _ => False
theorem Cx.Ok.wish {X : Cx} (ok : X.Ok) (E : Value → Shared → Prop) : (X.wish E).Ok :=
 ⟨ok.mod, ok.kind, ok.glob, ok.blt, ok.above, ok.inj, ok.has, ok.cab, ok.hd, ok.frames, ok.stk, ok.exf, ok.bs, ok.bsz, ok.noex, ok.exfs, ok.funs, ok.frf⟩
theorem Cx.Ok.unwish {X : Cx} {E : Value → Shared → Prop} (ok : (X.wish E).Ok) : X.Ok :=
 ⟨ok.mod, ok.kind, ok.glob, ok.blt, ok.above, ok.inj, ok.has, ok.cab, ok.hd, ok.frames, ok.stk, ok.exf, ok.bs, ok.bsz, ok.noex, ok.exfs, ok.funs, ok.frf⟩
section
variable {X : Cx} {pins : List (Addr × Obj)} {σ : St} {H : Hp} {s : Shared} {E : Value → Shared → Prop}
theorem Inv.wish (I : Inv X pins σ H s) (E : Value → Shared → Prop) : Inv (X.wish E) pins σ H s := ⟨I.ok.wish E, I.os, I.bare, I.base, I.loc, I.cell, I.free, I.freeC, I.pin, I.hok, I.len⟩
theorem Inv.unwish (I : Inv (X.wish E) pins σ H s) : Inv X pins σ H s := ⟨I.ok.unwish, I.os, I.bare, I.base, I.loc, I.cell, I.free, I.freeC, I.pin, I.hok, I.len⟩
theorem SP.unwish {D : Ends} {f : Flow} {s' : Shared} (h : SP (X.wish E) pins D f s') : SP X pins D f s' := by
 cases f with
 | next => obtain ⟨σ', H', I, q⟩ := h; exact ⟨σ', H', I.unwish, q⟩
 | brk => obtain ⟨σ', H', I, q⟩ := h; exact ⟨σ', H', I.unwish, q⟩
 | cont => obtain ⟨σ', H', I, q⟩ := h; exact ⟨σ', H', I.unwish, q⟩
 | ret u => obtain ⟨v, σ', H', I, r, q⟩ := h; exact ⟨v, σ', H', I.unwish, r, q⟩
theorem PSs.nox {st : List Stmt} {t : TS} (h : PSs X.nox st t) : PSs X st t := fun pins s σ H D I hw =>
 wpAny_mono (h pins s σ H D (I.wish _) hw) (fun _ _ q => q.unwish) fun _ _ z => False.elim z
end
section
variable {X : Cx} {st : Stmt} {rest : List Stmt} {t u : TS} {e : Expr} {te : TE} {pos : Pos}
def Y42 : TS := fun D σ H => D.nx σ H
def tSeq (t u : TS) : TS := fun D σ H => t { D with nx := u D } σ H
theorem Z80 : PSs X [] Y42 := fun _ _ σ H _ I h => wpAny_execs_nil ⟨σ, H, I, h⟩
theorem Za2 (h1 : PS X st t) (h2 : PSs X rest u) : PSs X (st :: rest) (tSeq t u) := by
 intro pins s σ H D I h
 refine wpAny_execs_cons (thn (h1 pins s σ H { D with nx := u D } I h) fun f s1 q => ?_)
 cases f with
 | next =>
  obtain ⟨σ', H', I', q⟩ := q
  exact h2 pins s1 σ' H' D I' q
 | ret v => exact q
 | brk => exact q
 | cont => exact q
theorem Zt4 (h1 : PS X st t) : PSs X [st] t := by
 intro pins s σ H D I h
 refine wpAny_execs_cons (thn (h1 pins s σ H D I h) fun f s1 q => ?_)
 cases f with
 | next => exact wpAny_execs_nil q
 | ret v => exact q
 | brk => exact q
 | cont => exact q
theorem Inv.quiet {pins : List (Addr × Obj)} {σ : St} {H : Hp} {s : Shared} (I : Inv X pins σ H s) : interactive X.env = false := by simp [interactive, I.ok.kind]
def Y37 (te : TE) : TS := fun D σ H => te σ H fun _ H1 => D.nx σ H1
theorem Zm6 (he : PE X e te) (hs : swapsWith e none pos.line X.env = pure false := by rfl) : PS X (.Expr e pos) (Y37 te) := by
 intro pins s σ H D I h
 exact wpAny_Expr_any (thn (he pins s σ H _ I h) fun v s1 ⟨x, H1, I1, r1, q1⟩ => ⟨σ, H1, I1, q1⟩) I.quiet hs
def tRet (te : TE) : TS := fun D σ H => te σ H D.rt
theorem Zj9 (he : PE X e te) : PS X (.Return (some e) pos) (tRet te) := by
 intro pins s σ H D I h
 exact wpAny_Return_some (thn (he pins s σ H _ I h) fun v s1 ⟨x, H1, I1, r1, q1⟩ => ⟨x, σ, H1, I1, r1, q1⟩)
def tIfS (c : TT) (t u : TS) : TS := fun D σ H => c σ H fun b H1 => if b = true then t D σ H1 else u D σ H1
theorem Zv6 {c : Expr} {a b : List Stmt} {tc : TT} (hc : PT X c tc) (ha : PSs X a t) (hb : PSs X b u) : PS X (.If c a b pos) (tIfS tc t u) := by
 intro pins s σ H D I h
 refine wpAny_If (thn (hc pins s σ H _ I h) fun d s1 ⟨H1, I1, q1⟩ => ?_)
 cases d with
 | true => exact ha pins s1 σ H1 D I1 q1
 | false => exact hb pins s1 σ H1 D I1 q1
end
abbrev TG := V → St → Hp → (St → Hp → Prop) → Prop
abbrev TGs := List V → St → Hp → (St → Hp → Prop) → Prop
def PG (X : Cx) (target : Expr) (t : TG) : Prop :=
 ∀ (pins : List (Addr × Obj)) (s : Shared) (σ : St) (H : Hp) (v : V) (u : Value) (Q : St → Hp → Prop), Inv X pins σ H s → RelV v u → t v σ H Q →
  wpAny (model X.prog X.w) X.A (assign target X.env u) (fun _ s' => ∃ σ' H', Inv X pins σ' H' s' ∧ Q σ' H') X.xe s
def PGs (X : Cx) (ts : List Expr) (t : TGs) : Prop :=
 ∀ (pins : List (Addr × Obj)) (s : Shared) (σ : St) (H : Hp) (vs : List V) (us : List Value) (Q : St → Hp → Prop), Inv X pins σ H s → Vals vs us → t vs σ H Q →
  wpAny (model X.prog X.w) X.A (assignInOrder ((assignEach ts X.env).map (·.2)) us) (fun _ s' => ∃ σ' H', Inv X pins σ' H' s' ∧ Q σ' H') X.xe s
abbrev TSet := V → V → V → Hp → (Hp → Prop) → Prop
def PSet (X : Cx) (t : TSet) : Prop :=
 ∀ (pins : List (Addr × Obj)) (s : Shared) (σ : St) (H : Hp) (o i v : V) (ov iv u : Value) (Q : Hp → Prop), Inv X pins σ H s → RelV o ov → RelV i iv → RelV v u → t o i v H Q →
  wpAny (model X.prog X.w) X.A (setItem ov iv u) (fun _ s' => ∃ H', Inv X pins σ H' s' ∧ Q H') X.xe s
section
variable {X : Cx} {pos : Pos}
def Zb1 (i : Nat) : TG := fun v σ H Q => Q (σ.set i (some v)) H
theorem Zl5 {i : Nat} {x : Str} (hN : X.N.Nodup) (hi : X.N[i]? = some x) (hx : Loc X.env.scope x) (hf : X.fn x = true ∨ X.env.scope.names.lookup x = some .local := by first | exact .inl rfl | exact .inr rfl | assumption) : PG X (.Name x pos) (Zb1 i) := by
 intro pins s σ H v u Q I r h
 exact wpAny_assign_Name (Zf2 I hN hi hx r (fun s' I' => ⟨_, H, I', h⟩) hf)
def gNil : TGs := fun vs σ H Q => vs = [] ∧ Q σ H
def Zy2 (t : TG) (u : TGs) : TGs := fun vs σ H Q => ∃ v r, vs = v :: r ∧ t v σ H fun σ' H' => u r σ' H' Q
theorem Zq9 : PGs X [] gNil := by
 intro pins s σ H vs us Q I r h
 obtain ⟨e, h⟩ := h
 subst e
 cases r
 exact assignInOrder_nil ⟨σ, H, I, h⟩
theorem Zf9 {e : Expr} {es : List Expr} {t : TG} {u : TGs} (h1 : PG X e t) (h2 : PGs X es u)
  (hs : (assignEach (e :: es) X.env).map (·.2) = assign e X.env :: (assignEach es X.env).map (·.2) := by rfl) : PGs X (e :: es) (Zy2 t u) := by
 intro pins s σ H vs us Q I r h
 obtain ⟨v, vr, e1, h⟩ := h
 subst e1
 cases r with
 | cons r rr =>
  rw [hs]
  refine assignInOrder_cons (thn (h1 pins s σ H _ _ _ I r h) fun _ s1 ⟨σ1, H1, I1, q1⟩ => ?_)
  exact h2 pins s1 σ1 H1 _ _ Q I1 rr q1
def gTup (K : PySem.W.Frag) (n : Nat) (t : TGs) : TG := fun v σ H Q => ∃ a xs, v = .ref a ∧ SqT K H a xs ∧ xs.length = n ∧ t xs σ H Q
theorem Zu9 {es : List Expr} {k : Nat} {t : TGs} {n : Nat} (hc : X.calm = true) (h : PGs X es t)
  (hn : (assignEach es X.env).length = n := by rfl) (hst : (assignEach es X.env).findIdx? (·.1) = none := by rfl) : PG X (.Tuple es k pos) (gTup X.K n t) := by
 intro pins s σ H v u Q I r hw
 obtain ⟨a, xs, e1, hq, hl, hw⟩ := hw
 subst e1
 cases r
 obtain ⟨its, rv, ht, hz⟩ := I.tuple hq
 refine assign_Tuple_tuple (I.ok.hd hc) ht (by simp [hn, ← hl, rv.length]) hst fun h' hx => ?_
 have I1 : Inv X pins σ H { s with heap := h' } := I.kept (t' := s.toks) fun b o e => hx b o (Nat.ne_of_lt (Heap.lt_size e)) e
 exact h pins _ σ H xs _ Q I1 (by simpa using rv) hw
def tAsg (te : TE) (g : TG) : TS := fun D σ H => te σ H fun x H1 => g x σ H1 D.nx
theorem Zk1 {tg e : Expr} {te : TE} {g : TG} (he : PE X e te) (hg : PG X tg g) (hs : swapsWithSole [tg] e pos.line X.env = pure false := by rfl) (hw : swappedStores [tg] e X.env = pure none := by rfl)
  (h1 : (assignEach [tg] X.env).map (·.2) = [assign tg X.env] := by rfl) : PS X (.Assign [tg] e pos) (tAsg te g) := by
 intro pins s σ H D I h
 refine wpAny_Assign_stores (thn (he pins s σ H _ I h) fun v s1 ⟨x, H1, I1, r1, q1⟩ => ?_) hs hw
 rw [h1]
 exact thn (hg pins s1 σ H1 x v _ I1 r1 q1) fun _ s2 q => q
end
section
variable {X : Cx} {pos : Pos}
def Zu2 (c : TT) (tb : TS) : TS := fun D σ H => ∃ W : Nat → St → Hp → Prop, (∃ m, W m σ H) ∧ ∀ m σ H, W m σ H →
 c σ H fun b H1 => if b = true then ∃ N : St → Hp → Prop, (∀ σ' H', N σ' H' → ∃ m', m' < m ∧ W m' σ' H') ∧ tb { D with nx := N, ct := N, bk := D.nx } σ H1 else D.nx σ H1
theorem Zc6 {c : Expr} {body : List Stmt} {tc : TT} {tb : TS} (hp : PassesOwn (model X.prog X.w) X.A X.env X.xe) (hc : PT X c tc) (hb : PSs X body tb) : PS X (.While c body [] pos) (Zu2 tc tb) := by
 intro pins s σ H D I h
 obtain ⟨W, ⟨m0, w0⟩, turn⟩ := h
 refine wpAny_While (codeAny_whileLoop (fun n s' => ∃ σ' H', Inv X pins σ' H' s' ∧ W n σ' H') ?_ m0 ⟨σ, H, I, w0⟩)
 rintro n s1 ⟨σ1, H1, I1, w1⟩
 refine wpAny_passesOwn hp (thn (hc pins s1 σ1 H1 _ I1 (turn n σ1 H1 w1)) fun b s2 ⟨H2, I2, q2⟩ => ?_)
 cases b with
 | true =>
  obtain ⟨N, hN, q2⟩ := q2
  rw [if_pos rfl]
  refine wpAny_passesOwn hp (thn (hb pins s2 σ1 H2 _ I2 q2) fun f s3 q3 => ?_)
  cases f with
  | next =>
   obtain ⟨σ3, H3, I3, n3⟩ := q3
   obtain ⟨m', hm, w3⟩ := hN σ3 H3 n3
   exact ⟨m', hm, σ3, H3, I3, w3⟩
  | cont =>
   obtain ⟨σ3, H3, I3, n3⟩ := q3
   obtain ⟨m', hm, w3⟩ := hN σ3 H3 n3
   exact ⟨m', hm, σ3, H3, I3, w3⟩
  | brk => exact q3
  | ret v => exact q3
 | false =>
  rw [if_neg Bool.false_ne_true]
  exact wpAny_execs_nil ⟨σ1, H2, I2, q2⟩
end
structure It where
 go : Nat → Hp → Prop
 yld : Nat → Hp → V → Hp → Prop
 stop : Nat → Hp → Prop
def FpOk (X : Cx) (pins : List (Addr × Obj)) (H : Hp) (b : Addr) : Prop :=
 H b = none ∧ b ≠ X.env.locals ∧ b ∉ X.fs ∧ (b ∈ X.ex ∨ X.s₀.heap.objs.size ≤ b) ∧ (∀ x c, X.env.cells.lookup x = some c → c ≠ b) ∧ ∀ p ∈ X.pn ++ pins, p.1 ≠ b
theorem Inv.fpOk {X : Cx} {pins : List (Addr × Obj)} {σ : St} {H H' : Hp} {s : Shared} {b : Addr} (I : Inv X pins σ H s) (hb : s.heap.objs.size ≤ b) (hn : H' b = none) : FpOk X pins H' b := by
 refine ⟨hn, Nat.ne_of_gt (Nat.lt_of_lt_of_le I.lt hb), I.nofs hb, .inr (Nat.le_trans I.sz hb), fun x c e z => ?_, fun p hp z => ?_⟩
 ·obtain ⟨v, q⟩ := I.cell x c e
  exact absurd (Nat.lt_of_lt_of_le q.lt (by rw [z]; exact hb)) (Nat.lt_irrefl _)
 ·exact absurd (Nat.lt_of_lt_of_le (Heap.lt_size (I.pin p hp).1) (by rw [z]; exact hb)) (Nat.lt_irrefl _)
structure Turn (P : Program) (w : World) (K : PySem.W.Frag) (tg : Expr) (J : It) (fp : List Addr) (it : Addr) (tn : Nat → Heap → Prop) : Prop where
 mem : it ∈ fp
 obj : ∀ i h, tn i h → ∀ b ∈ fp, ∃ o, h.get? b = some o ∧ ∀ v, o.data ≠ .cell v
 keep : ∀ i h h', tn i h → (∀ b ∈ fp, ∀ o, h.get? b = some o → h'.get? b = some o) → tn i h'
 item : ∀ (X : Cx), X.prog = P → X.w = w → X.K = K → X.calm = true → ∀ (i : Nat) (pins : List (Addr × Obj)) (s : Shared) (σ : St) (H : Hp) (E : Value → Shared → Prop), Inv X pins σ H s → (∀ b ∈ fp, FpOk X pins H b) → tn i s.heap → J.go i H →
  wpAny (model P w) X.A (pyNext (.ref it)) (fun r s1 => ∃ u, r = some u ∧
   wpAny (model P w) X.A (letOwnedTupleGo tg (.ref it) u) (fun _ s2 => ∃ x H', Inv X pins σ H' s2 ∧ RelV x u ∧ J.yld i H x H' ∧ tn (i + 1) s2.heap ∧ ∀ b ∈ fp, H' b = none) E s1) E s
 done : ∀ (X : Cx), X.prog = P → X.w = w → X.K = K → X.calm = true → ∀ (i : Nat) (pins : List (Addr × Obj)) (s : Shared) (σ : St) (H : Hp) (E : Value → Shared → Prop), Inv X pins σ H s → (∀ b ∈ fp, FpOk X pins H b) → tn i s.heap → J.stop i H →
  wpAny (model P w) X.A (pyNext (.ref it)) (fun r s1 => r = none ∧ Inv X pins σ H s1) E s
 self : ∀ (A : Around) (i : Nat) (s : Shared) (Q : Value → Shared → Prop) (E : Value → Shared → Prop), tn i s.heap → Q (.ref it) s → wpAny (model P w) A (pyIter (.ref it)) Q E s
abbrev TI := St → Hp → (It → Hp → Prop) → Prop
def PIE (X : Cx) (pins : List (Addr × Obj)) (σ : St) (tg : Expr) (R : It → Hp → Prop) (itv : Value) (s2 : Shared) : Prop :=
 ∃ (it : Addr) (fp : List Addr) (tn : Nat → Heap → Prop) (J : It) (H' : Hp), itv = .ref it ∧ Inv X pins σ H' s2 ∧ Turn X.prog X.w X.K tg J fp it tn ∧ tn 0 s2.heap ∧ (∀ b ∈ fp, FpOk X pins H' b) ∧ R J H'
def PI (X : Cx) (tg iter : Expr) (wi : TI) : Prop :=
 ∀ (pins : List (Addr × Obj)) (s : Shared) (σ : St) (H : Hp) (R : It → Hp → Prop), Inv X pins σ H s → wi σ H R →
  wpAny (model X.prog X.w) X.A (eval iter X.env) (fun v s1 => wpAny (model X.prog X.w) X.A (pyIter v) (PIE X pins σ tg R) X.xe s1) X.xe s
theorem Zr1 {M : Model} {A : Around} {E : Value → Shared → Prop} {s : Shared} {tg : Expr} {it : Addr} {u : Value} {o : Obj} {n : String} {vs : Array Value} {Q : Unit → Shared → Prop} (ho : s.heap.get? it = some o) (hc : o.cls = .type n) (hd : o.data = .fields vs)
  (hn : ["enumerate", "zip", "dict_itemiterator", "dict_reverseitemiterator", "odict_iterator", "itertools.zip_longest", "itertools.pairwise"].contains n = false) (hQ : Q () s) : wpAny M A (letOwnedTupleGo tg (.ref it) u) Q E s := by
 unfold letOwnedTupleGo
 cases tg <;> first
  | exact wpAny_pure hQ
  |(cases u <;> first
    | exact wpAny_pure hQ
    |(refine wpAny_bind (wpAny_load ho ?_)
      rw [hc, hd]
      show wpAny M A (if (["enumerate", "zip", "dict_itemiterator", "dict_reverseitemiterator", "odict_iterator", "itertools.zip_longest", "itertools.pairwise"].contains n && vs[0]? == some (rawInt _)) = true then _ else _) Q E s
      rw [if_neg (by intro h; rw [hn, Bool.false_and] at h; cases h)]
      exact wpAny_pure hQ))
def Itl (K : PySem.W.Frag) (a : Addr) : It :=
 ⟨fun i H => ∃ xs x, SqL K H a xs ∧ xs[i]? = some x, fun i H x H' => H' = H ∧ ∀ xs, SqL K H a xs → xs[i]? = some x, fun i H => ∃ xs, SqL K H a xs ∧ xs.length ≤ i⟩
def Itt (K : PySem.W.Frag) (a : Addr) : It :=
 ⟨fun i H => ∃ xs x, SqT K H a xs ∧ xs[i]? = some x, fun i H x H' => H' = H ∧ ∀ xs, SqT K H a xs → xs[i]? = some x, fun i H => ∃ xs, SqT K H a xs ∧ xs.length ≤ i⟩
def Itr (lo : Int) (n : Nat) : It := ⟨fun i _ => i < n, fun i H x H' => H' = H ∧ x = .int (lo + i), fun i _ => n ≤ i⟩
theorem By {P : Program} {w : World} {K : PySem.W.Frag} {tg : Expr} (a it : Addr) : Turn P w K tg (Itl K a) [it] it (fun i h => h.IsListIter it a i) where
 mem := by simp
 obj := fun i h st b hb => by
  have e : b = it := by simpa using hb
  subst e
  obtain ⟨o, e, c, d⟩ := st
  exact ⟨o, e, fun v z => by rw [d] at z; cases z⟩
 keep := fun i h h' st k => st.at fun o e => k it (by simp) o e
 item := by
  intro X hP hw hK hc i pins s σ H E I hf st hg
  subst hP hw hK
  obtain ⟨xs, x, hq, hx⟩ := hg
  obtain ⟨its, rv, p, hz⟩ := I.list hq
  obtain ⟨u, hu, ru⟩ := rv.get hx
  obtain ⟨f0, f1, f2, f3, f4, f5⟩ := hf it (by simp)
  refine wpAny_pyNext_list_item st p.isList (x := u) (by simpa using hu) fun h' st' sb => ?_
  have I1 : Inv X pins σ H { s with heap := h' } := I.turned (t' := s.toks) (fun b o hb e => (sb.2 b hb).trans e) f0 f1 f3 f4 f5
  obtain ⟨o, e, c, d⟩ := id st'
  exact ⟨u, rfl, Zr1 (s := { s with heap := h' }) e c d (by decide) ⟨x, H, I1, ru, ⟨rfl, fun ys hy => by rw [I.list_inj hy hq]; exact hx⟩, st', fun b hb => (hf b hb).1⟩⟩
 done := by
  intro X hP hw hK hc i pins s σ H E I hf st hg
  subst hP hw hK
  obtain ⟨xs, hq, hx⟩ := hg
  obtain ⟨its, rv, p, hz⟩ := I.list hq
  obtain ⟨f0, f1, f2, f3, f4, f5⟩ := hf it (by simp)
  have hl := rv.length
  exact wpAny_pyNext_list_end (I.ok.hd hc) st p.isList (by simp; omega) fun h' eb => ⟨rfl, I.turned (t' := s.toks) (fun b o hb e => eb b o hb e) f0 f1 f3 f4 f5⟩
 self := fun _ _ _ _ _ st h => wpAny_pyIter_listiter st h
theorem Cf {P : Program} {w : World} {K : PySem.W.Frag} {tg : Expr} (a it : Addr) : Turn P w K tg (Itt K a) [it] it (fun i h => h.IsTupleIter it a i) where
 mem := by simp
 obj := fun i h st b hb => by
  have e : b = it := by simpa using hb
  subst e
  obtain ⟨o, e, c, d⟩ := st
  exact ⟨o, e, fun v z => by rw [d] at z; cases z⟩
 keep := fun i h h' st k => st.at fun o e => k it (by simp) o e
 item := by
  intro X hP hw hK hc i pins s σ H E I hf st hg
  subst hP hw hK
  obtain ⟨xs, x, hq, hx⟩ := hg
  obtain ⟨its, rv, p, hz⟩ := I.tuple hq
  obtain ⟨u, hu, ru⟩ := rv.get hx
  obtain ⟨f0, f1, f2, f3, f4, f5⟩ := hf it (by simp)
  refine wpAny_pyNext_tuple_item st (show s.heap.IsTuple a its.toArray from p) (x := u) (by simpa using hu) fun h' st' sb => ?_
  have I1 : Inv X pins σ H { s with heap := h' } := I.turned (t' := s.toks) (fun b o hb e => (sb.2 b hb).trans e) f0 f1 f3 f4 f5
  obtain ⟨o, e, c, d⟩ := id st'
  exact ⟨u, rfl, Zr1 (s := { s with heap := h' }) e c d (by decide) ⟨x, H, I1, ru, ⟨rfl, fun ys hy => by rw [I.tuple_inj hy hq]; exact hx⟩, st', fun b hb => (hf b hb).1⟩⟩
 done := by
  intro X hP hw hK hc i pins s σ H E I hf st hg
  subst hP hw hK
  obtain ⟨xs, hq, hx⟩ := hg
  obtain ⟨its, rv, p, hz⟩ := I.tuple hq
  obtain ⟨f0, f1, f2, f3, f4, f5⟩ := hf it (by simp)
  have hl := rv.length
  exact wpAny_pyNext_tuple_end (I.ok.hd hc) st (show s.heap.IsTuple a its.toArray from p) (by simp; omega) fun h' eb => ⟨rfl, I.turned (t' := s.toks) (fun b o hb e => eb b o hb e) f0 f1 f3 f4 f5⟩
 self := fun _ _ _ _ _ st h => wpAny_pyIter_tupleiter st h
theorem Ez {P : Program} {w : World} {K : PySem.W.Frag} {tg : Expr} (it : Addr) (lo : Int) (n : Nat) : Turn P w K tg (Itr lo n) [it] it (fun i h => IsRangeIter h it (lo + (i : Nat) * 1) ((n : Int) - (i : Nat)) 1) where
 mem := by simp
 obj := fun i h st b hb => by
  have e : b = it := by simpa using hb
  subst e
  exact ⟨_, st, fun v z => by
   have z' : Data.fields _ = Data.cell v := z
   cases z'⟩
 keep := fun i h h' st k => k it (by simp) _ st
 item := by
  intro X hP hw hK hc i pins s σ H E I hf st hg
  subst hP hw hK
  obtain ⟨f0, f1, f2, f3, f4, f5⟩ := hf it (by simp)
  have W := Walks.range (prog := X.prog) (w := X.w) (I.ok.hd hc) it lo 1 n
  refine W.item i s _ _ hg st fun v h' tk hv st' kk => ?_
  obtain ⟨t, rfl⟩ := hv
  have I1 : Inv X pins σ H { s with heap := h', toks := tk } := I.turned (fun b o hb e => kk b o (by simpa using hb) e) f0 f1 f3 f4 f5
  refine ⟨_, rfl, Zr1 (s := { s with heap := h', toks := tk }) (n := "range_iterator") st' rfl rfl (by decide) ⟨.int (lo + i), H, I1, ⟨t, ?_⟩, ⟨rfl, rfl⟩, st', fun b hb => (hf b hb).1⟩⟩
  rw [Int.mul_one]
 done := by
  intro X hP hw hK hc i pins s σ H E I hf st hg
  subst hP hw hK
  obtain ⟨f0, f1, f2, f3, f4, f5⟩ := hf it (by simp)
  exact wpAny_pyNext_range_end (I.ok.hd hc) st (by have : n ≤ i := hg; omega) fun h' eb => ⟨rfl, I.turned (t' := s.toks) (fun b o hb e => eb b o hb e) f0 f1 f3 f4 f5⟩
 self := fun _ _ _ _ _ st h => wpAny_pyIter_rangeiter st h
section
variable {X : Cx} {tg : Expr}
theorem Eg {pins : List (Addr × Obj)} {σ : St} {H : Hp} {s : Shared} {R : It → Hp → Prop} {E : Value → Shared → Prop} {lo hi : Int} {t u v : Tok} {tk : Nat} (I : Inv X pins σ H s) (h1 : -(2 ^ 62) ≤ lo) (h2 : lo < 2 ^ 62) (h3 : -(2 ^ 62) ≤ hi) (h4 : hi < 2 ^ 62)
  (q : R (Itr lo (hi - lo).toNat) H) : wpAny (model X.prog X.w) X.A (pyIter (.ref s.heap.objs.size)) (PIE X pins σ tg R) E { s with heap := s.heap.push { cls := .type "range", data := .fields #[.int lo t, .int hi u, .int 1 v] }, toks := tk } := by
 refine wpAny_pyIter_range (IsRange.new ..) (small_one h1 h2 h3 h4) ?_
 have I1 : Inv X pins σ H { s with heap := s.heap.push { cls := .type "range", data := .fields #[.int lo t, .int hi u, .int 1 v] }, toks := tk } := I.kept fun b o e => Heap.get?_push_of_some _ e
 refine ⟨(s.heap.push { cls := .type "range", data := .fields #[.int lo t, .int hi u, .int 1 v] }).objs.size, [(s.heap.push { cls := .type "range", data := .fields #[.int lo t, .int hi u, .int 1 v] }).objs.size], _, _, H, rfl,
  I1.kept (t' := tk) fun b o e => Heap.get?_push_of_some _ e, Ez _ lo (hi - lo).toNat, ?_, fun b hb => ?_, q⟩
 ·have e1 : lo + ((0 : Nat) : Int) * 1 = lo := by simp
  have e2 : (((hi - lo).toNat : Nat) : Int) - ((0 : Nat) : Int) = Builtin.Range.rangeSize lo hi 1 := by rw [rangeSize_one]; split <;> omega
  show IsRangeIter _ _ (lo + ((0 : Nat) : Int) * 1) ((((hi - lo).toNat : Nat) : Int) - ((0 : Nat) : Int)) 1
  rw [e1, e2]
  exact Heap.get?_push_size _ rfl
 ·have e : b = (s.heap.push { cls := .type "range", data := .fields #[.int lo t, .int hi u, .int 1 v] }).objs.size := by simpa using hb
  subst e
  exact I1.fpOk (Nat.le_refl _) (I1.hok.fresh (Nat.le_refl _))
def Y33 (ta : TA) : TI := fun σ H R => ta σ H fun vs H1 => ∃ j : Int, vs = [.int j] ∧ -(2 ^ 62) ≤ j ∧ j < 2 ^ 62 ∧ R (Itr 0 j.toNat) H1
def Y47 (ta : TA) : TI := fun σ H R => ta σ H fun vs H1 => ∃ i j : Int, vs = [.int i, .int j] ∧ (-(2 ^ 62) ≤ i ∧ i < 2 ^ 62 ∧ -(2 ^ 62) ≤ j ∧ j < 2 ^ 62) ∧ R (Itr i (j - i).toNat) H1
theorem Z02 {a : Expr} {ta : TA} {p pos : Pos} (hg : Gl X "range") (hm : X.mg "range" = none) (ha : PA X [a] ta) (hs : starEach [a] X.env = [(false, eval a X.env)] := by rfl) : PI X tg (.Call (.Name "range" p) [a] [] pos) (Y33 ta) := by
 intro pins s σ H R I h
 refine Call_ (Rx I hg hm boot_range (PyProof.Rows.callWith_type1 (thn (ha pos pins s σ H _ I h) fun us s1 ⟨vs, H1, I1, r1, q1⟩ => ?_) hs rfl))
 obtain ⟨j, e, q1, q2, q⟩ := q1
 subst e
 cases r1 with
 | cons r rr =>
  cases rr
  obtain ⟨t, rfl⟩ := r
  exact call_range_1 (Eg I1 (by omega) (by omega) q1 q2 (by simpa using q))
theorem Bv {a b : Expr} {ta : TA} {p pos : Pos} (hg : Gl X "range") (hm : X.mg "range" = none) (ha : PA X [a, b] ta) (hs : starEach [a, b] X.env = [(false, eval a X.env), (false, eval b X.env)] := by rfl) (hs2 : starEach [b] X.env = [(false, eval b X.env)] := by rfl) :
  PI X tg (.Call (.Name "range" p) [a, b] [] pos) (Y47 ta) := by
 intro pins s σ H R I h
 refine Call_ (Rx I hg hm boot_range (PyProof.Rows.callWith_type1 (thn (ha pos pins s σ H _ I h) fun us s1 ⟨vs, H1, I1, r1, q1⟩ => ?_) (by rw [hs, hs2]) (by rw [hs2]; rfl)))
 obtain ⟨i, j, e, ⟨q1, q2, q3, q4⟩, q⟩ := q1
 subst e
 cases r1 with
 | cons r rr =>
  cases rr with
  | cons r' rr =>
   cases rr
   obtain ⟨t, rfl⟩ := r
   obtain ⟨t', rfl⟩ := r'
   exact call_range_2 (Eg I1 q1 q2 q3 q4 q)
def tFor (wi : TI) (g : TG) (tb : TS) : TS := fun D σ H => wi σ H fun J H1 => ∃ W : Nat → Nat → St → Hp → Prop, (∃ m, W 0 m σ H1) ∧ ∀ i m σ H, W i m σ H →
 (J.stop i H ∧ D.nx σ H) ∨ (J.go i H ∧ ∃ N : St → Hp → Prop, (∀ σ' H', N σ' H' → ∃ m', m' < m ∧ W (i + 1) m' σ' H') ∧ ∀ x H', J.yld i H x H' → g x σ H' fun σ2 H2 => tb { D with nx := N, ct := N, bk := D.nx } σ2 H2)
def Fm (fp : List Addr) (h : Heap) : List (Addr × Obj) := fp.filterMap fun b => (h.get? b).map fun o => (b, o)
theorem X8 {fp : List Addr} {h : Heap} {b : Addr} {o : Obj} (hb : b ∈ fp) (e : h.get? b = some o) : (b, o) ∈ Fm fp h := List.mem_filterMap.mpr ⟨b, hb, by rw [e]; rfl⟩
theorem Z22 {fp : List Addr} {h : Heap} {p : Addr × Obj} (hp : p ∈ Fm fp h) : p.1 ∈ fp ∧ h.get? p.1 = some p.2 := by
 obtain ⟨b, hb, e⟩ := List.mem_filterMap.mp hp
 cases q : h.get? b with
 | none => rw [q] at e; cases e
 | some o =>
  rw [q] at e
  have e' : (b, o) = p := Option.some.inj e
  subst e'
  exact ⟨hb, q⟩
theorem Inv.pinned {pins : List (Addr × Obj)} {σ : St} {H : Hp} {s : Shared} {fp : List Addr} (I : Inv X pins σ H s) (hf : ∀ b ∈ fp, FpOk X pins H b) (ho : ∀ b ∈ fp, ∃ o, s.heap.get? b = some o ∧ ∀ v, o.data ≠ .cell v) : Inv X (pins ++ Fm fp s.heap) σ H s :=
 I.pins_of fun p hp => (List.mem_append.mp hp).elim (fun z => I.pin p (List.mem_append_right _ z)) fun z => by
  obtain ⟨hb, e⟩ := Z22 z
  obtain ⟨f0, f1, f2, _⟩ := hf p.1 hb
  obtain ⟨o, e', d⟩ := ho p.1 hb
  rw [e] at e'; cases e'
  exact ⟨e, f0, f1, f2, d⟩
theorem Inv.unpinned {pins pl : List (Addr × Obj)} {σ : St} {H : Hp} {s : Shared} (I : Inv X (pins ++ pl) σ H s) : Inv X pins σ H s := I.pins_of fun p hp => I.pin p (List.mem_append_right _ (List.mem_append_left _ hp))
theorem Y11 {iter : Expr} {body : List Stmt} {wi : TI} {g : TG} {tb : TS} {pos : Pos} (hp : PassesOwn (model X.prog X.w) X.A X.env X.xe) (hc : X.calm = true) (hi : PI X tg iter wi) (hg : PG X tg g) (hb : PSs X body tb)
  (hs : ∀ x, foldedSetIterable iter X.env x = pure x := by intro _; rfl) : PS X (.For tg iter body [] pos) (tFor wi g tb) := by
 intro pins s σ H D I h
 refine wpAny_For (thn (hi pins s σ H _ I h) fun v s1 h1 => thn h1 fun itv s2 h2 => ?_) hs
 obtain ⟨it, fp, tn, J, H2, e, I2, T, st2, f2, W, ⟨m0, w0⟩, turn⟩ := h2
 subst e
 have stat : ∀ {H' : Hp}, (∀ b ∈ fp, H' b = none) → ∀ b ∈ fp, FpOk X pins H' b := fun hn b hb => ⟨hn b hb, (f2 b hb).2⟩
 refine codeAny_forLoop_any (fun n s' => ∃ i σ' H', Inv X pins σ' H' s' ∧ tn i s'.heap ∧ (∀ b ∈ fp, H' b = none) ∧ W i n σ' H') ?_ m0 ⟨0, σ, H2, I2, st2, fun b hb => (f2 b hb).1, w0⟩
 rintro n s3 ⟨i, σ3, H3, I3, st3, fr3, w3⟩
 rcases turn i n σ3 H3 w3 with ⟨stop, qn⟩ | ⟨go, N, hN, step⟩
 ·refine wpAny_passesOwn hp (thn (T.done X rfl rfl rfl hc i pins s3 σ3 H3 X.xe I3 (stat fr3) st3 stop) fun r s4 ⟨hr, I4⟩ => ?_)
  subst hr
  exact wpAny_execs_nil ⟨σ3, H3, I4, qn⟩
 ·refine wpAny_passesOwn hp (thn (T.item X rfl rfl rfl hc i pins s3 σ3 H3 X.xe I3 (stat fr3) st3 go) fun r s4 ⟨u, hr, h4⟩ => ?_)
  subst hr
  refine wpAny_passesOwn hp (thn h4 fun _ s5 ⟨x, H5, I5, r5, y5, st5, fr5⟩ => ?_)
  have I5' := I5.pinned (stat fr5) (T.obj _ _ st5)
  refine wpAny_passesOwn hp (thn (hg _ s5 σ3 H5 x u _ I5' r5 (step x H5 y5)) fun _ s6 ⟨σ6, H6, I6, q6⟩ => ?_)
  refine wpAny_passesOwn hp (thn (hb _ s6 σ6 H6 _ I6 q6) fun f s7 q7 => ?_)
  have again : ∀ {σ7 : St} {H7 : Hp}, Inv X (pins ++ Fm fp s5.heap) σ7 H7 s7 → N σ7 H7 → ∃ m, m < n ∧ ∃ i σ' H', Inv X pins σ' H' s7 ∧ tn i s7.heap ∧ (∀ b ∈ fp, H' b = none) ∧ W i m σ' H' := fun {σ7 H7} I7 n7 => by
   obtain ⟨m', hm, w7⟩ := hN σ7 H7 n7
   refine ⟨m', hm, i + 1, σ7, H7, I7.unpinned, T.keep _ _ _ st5 fun b hb o e => (I7.pin (b, o) (List.mem_append_right _ (List.mem_append_right _ (X8 hb e)))).1, fun b hb => ?_, w7⟩
   obtain ⟨o, e, d⟩ := T.obj _ _ st5 b hb
   exact (I7.pin (b, o) (List.mem_append_right _ (List.mem_append_right _ (X8 hb e)))).2.1
  cases f with
  | next => obtain ⟨σ7, H7, I7, n7⟩ := q7; exact again I7 n7
  | cont => obtain ⟨σ7, H7, I7, n7⟩ := q7; exact again I7 n7
  | brk => obtain ⟨σ7, H7, I7, q7⟩ := q7; exact ⟨σ7, H7, I7.unpinned, q7⟩
  | ret v => obtain ⟨x7, σ7, H7, I7, r7, q7⟩ := q7; exact ⟨x7, σ7, H7, I7.unpinned, r7, q7⟩
end
abbrev R2 := V → V → Hp → VK → Prop
def OpR (X : Cx) (f : Value → Value → Sem Value) (r : R2) : Prop :=
 ∀ (pins : List (Addr × Obj)) (s : Shared) (σ : St) (H : Hp) (x y : V) (v u : Value) (Q : VK), Inv X pins σ H s → RelV x v → RelV y u → r x y H Q →
  wpAny (model X.prog X.w) X.A (f v u) (EP X pins σ Q) X.xe s
def UnR (X : Cx) (f : Value → Sem Value) (r : V → Hp → VK → Prop) : Prop :=
 ∀ (pins : List (Addr × Obj)) (s : Shared) (σ : St) (H : Hp) (x : V) (v : Value) (Q : VK), Inv X pins σ H s → RelV x v → r x H Q →
  wpAny (model X.prog X.w) X.A (f v) (EP X pins σ Q) X.xe s
def Tc (X : Cx) (f : Value) (r : List V → Hp → VK → Prop) : Prop :=
 ∀ (pins : List (Addr × Obj)) (s : Shared) (σ : St) (H : Hp) (xs : List V) (us : List Value) (Q : VK), Inv X pins σ H s → Vals xs us → r xs H Q →
  wpAny (model X.prog X.w) X.A (call f us) (EP X pins σ Q) X.xe s
def TruR (X : Cx) (r : V → Hp → (Bool → Hp → Prop) → Prop) : Prop :=
 ∀ (pins : List (Addr × Obj)) (s : Shared) (σ : St) (H : Hp) (x : V) (v : Value) (Q : Bool → Hp → Prop), Inv X pins σ H s → RelV x v → r x H Q →
  wpAny (model X.prog X.w) X.A (truthy v) (TP X pins σ Q) X.xe s
def tOp (r : R2) (ta tb : TE) : TE := fun σ H Q => ta σ H fun x H1 => tb σ H1 fun y H2 => r x y H2 Q
def tUn (r : V → Hp → VK → Prop) (ta : TE) : TE := fun σ H Q => ta σ H fun x H1 => r x H1 Q
def rI (C : Int → Int → Prop) (g : Int → Int → V) : R2 := fun x y H Q => ∃ i j, x = .int i ∧ y = .int j ∧ C i j ∧ Q (g i j) H
def rI0 (g : Int → Int → V) : R2 := fun x y H Q => ∃ i j, x = .int i ∧ y = .int j ∧ Q (g i j) H
def rU (g : Int → V) : V → Hp → VK → Prop := fun x H Q => ∃ i, x = .int i ∧ Q (g i) H
section
variable {X : Cx} {a b c : Expr} {ta tb tc : TE} {pos : Pos}
theorem binT (ha : PE X a ta) (hb : PE X b tb) {pins : List (Addr × Obj)} {s : Shared} {σ : St} {H : Hp} {R : V → V → Hp → Prop} (I : Inv X pins σ H s)
  (h : ta σ H fun x H1 => tb σ H1 fun y H2 => R x y H2) {Q : Value → Shared → Prop} {f : Value → Value → Sem Value}
  (hf : ∀ v u s2 x y H2, Inv X pins σ H2 s2 → RelV x v → RelV y u → R x y H2 → wpAny (model X.prog X.w) X.A (f v u) Q X.xe s2) :
  wpAny (model X.prog X.w) X.A (eval a X.env) (fun v s₁ => wpAny (model X.prog X.w) X.A (eval b X.env) (fun u s₂ => wpAny (model X.prog X.w) X.A (f v u) Q X.xe s₂) X.xe s₁) X.xe s := by
 refine thn (ha pins s σ H _ I h) fun v s1 ⟨x, H1, I1, r1, q1⟩ => ?_
 refine thn (hb pins s1 σ H1 _ I1 q1) fun u s2 ⟨y, H2, I2, r2, q2⟩ => ?_
 exact hf v u s2 x y H2 I2 r1 r2 q2
theorem Y28 {op : Operator} {r : R2} (ho : OpR X (binaryOp op) r) (ha : PE X a ta) (hb : PE X b tb) : PE X (.BinOp a op b pos) (tOp r ta tb) := by
 intro pins s σ H Q I h
 exact wpAny_BinOp (binT ha hb I h fun v u s2 x y H2 I2 rx ry q => ho pins s2 σ H2 x y v u Q I2 rx ry q)
theorem Zy3 {op : UnaryOp} {r : V → Hp → VK → Prop} (ho : UnR X (unaryOp op) r) (ha : PE X a ta) : PE X (.UnaryOp op a pos) (tUn r ta) := by
 intro pins s σ H Q I h
 exact UnaryOp_ (thn (ha pins s σ H _ I h) fun v s1 ⟨x, H1, I1, r1, q1⟩ => ho pins s1 σ H1 x v Q I1 r1 q1)
theorem opI {f : Value → Value → Sem Value} {C : Int → Int → Prop} {g : Int → Int → Int}
  (rule : ∀ (i j : Int) (t u : Tok) (s : Shared) (Q : Value → Shared → Prop) (E : Value → Shared → Prop), C i j → Q (.int (g i j) s.toks) { s with toks := s.toks + 1 } → wpAny (model X.prog X.w) X.A (f (.int i t) (.int j u)) Q E s) :
  OpR X f (rI C fun i j => .int (g i j)) := by
 intro pins s σ H x y v u Q I rx ry h
 obtain ⟨i, j, rfl, rfl, hc, q⟩ := h
 obtain ⟨t, rfl⟩ := rx
 obtain ⟨t', rfl⟩ := ry
 exact rule i j t t' s _ _ hc ⟨.int (g i j), H, I.tok _, ⟨_, rfl⟩, q⟩
theorem opI0 {f : Value → Value → Sem Value} {g : Int → Int → Int}
  (rule : ∀ (i j : Int) (t u : Tok) (s : Shared) (Q : Value → Shared → Prop) (E : Value → Shared → Prop), Q (.int (g i j) s.toks) { s with toks := s.toks + 1 } → wpAny (model X.prog X.w) X.A (f (.int i t) (.int j u)) Q E s) :
  OpR X f (rI0 fun i j => .int (g i j)) := by
 intro pins s σ H x y v u Q I rx ry h
 obtain ⟨i, j, rfl, rfl, q⟩ := h
 obtain ⟨t, rfl⟩ := rx
 obtain ⟨t', rfl⟩ := ry
 exact rule i j t t' s _ _ ⟨.int (g i j), H, I.tok _, ⟨_, rfl⟩, q⟩
theorem opB0 {f : Value → Value → Sem Value} {g : Int → Int → Bool}
  (rule : ∀ (i j : Int) (t u : Tok) (s : Shared) (Q : Value → Shared → Prop) (E : Value → Shared → Prop), Q (.bool (g i j)) s → wpAny (model X.prog X.w) X.A (f (.int i t) (.int j u)) Q E s) :
  OpR X f (rI0 fun i j => .bl (g i j)) := by
 intro pins s σ H x y v u Q I rx ry h
 obtain ⟨i, j, rfl, rfl, q⟩ := h
 obtain ⟨t, rfl⟩ := rx
 obtain ⟨t', rfl⟩ := ry
 exact rule i j t t' s _ _ ⟨.bl (g i j), H, I, rfl, q⟩
def CPow (i j : Int) : Prop := 0 ≤ j ∧ j ≤ 1000000 ∧ i.natAbs < 2 ^ 64
def CMul (i j : Int) : Prop := (-(2 ^ 64) < i ∧ i < 2 ^ 64) ∨ (-(2 ^ 64) < j ∧ j < 2 ^ 64)
theorem CMul.ok {i j : Int} (h : CMul i j) : IntMulOk i j := by
 rcases h with ⟨h1, h2⟩ | ⟨h1, h2⟩
 ·exact .of_left (intBits_le_64 h1 h2)
 ·exact .of_right (intBits_le_64 h1 h2)
theorem Zy6 : OpR X (binaryOp .Add) (rI0 fun i j => .int (i + j)) := opI0 fun _ _ _ _ _ _ _ q => add_int q
theorem Y06 : OpR X (binaryOp .Sub) (rI0 fun i j => .int (i - j)) := opI0 fun _ _ _ _ _ _ _ q => sub_int q
theorem Zq1 : OpR X (binaryOp .Mod) (rI (fun _ j => j ≠ 0) fun i j => .int (i.fmod j)) := opI fun _ _ _ _ _ _ _ hc q => mod_int' hc q
theorem Y15 : OpR X (binaryOp .Pow) (rI CPow fun i j => .int (i ^ j.toNat)) := opI fun _ _ _ _ _ _ _ hc q => pow_int_small hc.1 hc.2.1 hc.2.2 q
theorem unI {f : Value → Sem Value} {g : Int → Int}
  (rule : ∀ (i : Int) (t : Tok) (s : Shared) (Q : Value → Shared → Prop) (E : Value → Shared → Prop), Q (.int (g i) s.toks) { s with toks := s.toks + 1 } → wpAny (model X.prog X.w) X.A (f (.int i t)) Q E s) :
  UnR X f (rU fun i => .int (g i)) := by
 intro pins s σ H x v Q I rx h
 obtain ⟨i, rfl, q⟩ := h
 obtain ⟨t, rfl⟩ := rx
 exact rule i t s _ _ ⟨.int (g i), H, I.tok _, ⟨_, rfl⟩, q⟩
theorem Zk3 : UnR X (unaryOp .USub) (rU fun i => .int (-i)) := unI fun _ _ _ _ _ q => neg_int q
end
def scal : V → V → Bool
 | .non, .non => true | .non, .int _ => true | .int _, .non => true | .non, .bl _ => true | .bl _, .non => true | .non, .str _ => true | .str _, .non => true
 | .int _, .int _ => true | .bl _, .bl _ => true | .str _, .str _ => true | .byt _, .byt _ => true
 | .int _, .str _ => true | .str _, .int _ => true | .bl _, .str _ => true | .str _, .bl _ => true
 | _, _ => false
def rEq : R2 := fun x y H Q => scal x y = true ∧ Q (.bl (decide (x = y))) H
def rNe : R2 := fun x y H Q => scal x y = true ∧ Q (.bl (!decide (x = y))) H
theorem B4 {i j : Int} : decide (V.int i = V.int j) = (i == j) := by
 rw [Bool.eq_iff_iff]
 simp
theorem Zi7 {i j : Bool} : decide (V.bl i = V.bl j) = (i == j) := by
 rw [Bool.eq_iff_iff]
 simp
theorem Z45 {i j : Str} : decide (V.str i = V.str j) = (i == j) := by
 rw [Bool.eq_iff_iff]
 simp
theorem Z09 {i j : Array UInt8} : decide (V.byt i = V.byt j) = (i.toList == j.toList) := by
 rw [Bool.eq_iff_iff]
 cases i
 cases j
 simp
section
variable {X : Cx} {a b c : Expr} {ta tb tc : TE} {pos : Pos}
theorem Y4 {pins : List (Addr × Obj)} {σ : St} {H : Hp} {s : Shared} {Q : VK} {k k' : Bool} (I : Inv X pins σ H s) (q : Q (.bl k) H) (e : k = k') : EP X pins σ Q (.bool k') s := by
 subst e
 exact ⟨.bl k, H, I, rfl, q⟩
theorem Y34 : OpR X (compareOp .Eq) rEq := by
 intro pins s σ H x y v u Q I rx ry h
 obtain ⟨hs, q⟩ := h
 cases x with
 | non =>
  cases rx
  cases y with
  | non => cases ry; exact PySem.EqNone.eq_none_none (Y4 I q (by simp))
  | bl j => cases ry; exact PySem.EqNone.eq_none_bool (Y4 I q (by simp))
  | int j => obtain ⟨t', rfl⟩ := ry; exact PySem.EqNone.eq_none_int (Y4 I q (by simp))
  | str j => obtain ⟨t', rfl⟩ := ry; exact PySem.EqNone.eq_none_str (Y4 I q (by simp))
  | _ => exact absurd (show false = true from hs) Bool.false_ne_true
 | bl i =>
  cases rx
  cases y with
  | non => cases ry; exact PySem.EqNone.eq_bool_none (Y4 I q (by simp))
  | bl j => cases ry; exact eq_bool (Y4 I q Zi7)
  | str j => obtain ⟨t', rfl⟩ := ry; exact PySem.EqMixed.eq_bool_str (Y4 I q (by simp))
  | _ => exact absurd (show false = true from hs) Bool.false_ne_true
 | int i =>
  obtain ⟨t, rfl⟩ := rx
  cases y with
  | non => cases ry; exact PySem.EqNone.eq_int_none (Y4 I q (by simp))
  | int j => obtain ⟨t', rfl⟩ := ry; exact eq_int (Y4 I q B4)
  | str j => obtain ⟨t', rfl⟩ := ry; exact PySem.EqMixed.eq_int_str (Y4 I q (by simp))
  | _ => exact absurd (show false = true from hs) Bool.false_ne_true
 | str i =>
  obtain ⟨t, rfl⟩ := rx
  cases y with
  | non => cases ry; exact PySem.EqNone.eq_str_none (Y4 I q (by simp))
  | bl j => cases ry; exact PySem.EqMixed.eq_str_bool (Y4 I q (by simp))
  | int j => obtain ⟨t', rfl⟩ := ry; exact PySem.EqMixed.eq_str_int (Y4 I q (by simp))
  | str j => obtain ⟨t', rfl⟩ := ry; exact eq_str (Y4 I q Z45)
  | _ => exact absurd (show false = true from hs) Bool.false_ne_true
 | byt i =>
  obtain ⟨t, rfl⟩ := rx
  cases y with
  | byt j => obtain ⟨t', rfl⟩ := ry; exact PySem.W.eq_bytes (Y4 I q Z09)
  | _ => exact absurd (show false = true from hs) Bool.false_ne_true
 | _ => cases y <;> exact absurd (show false = true from hs) Bool.false_ne_true
theorem Y39 : OpR X (compareOp .NotEq) rNe := by
 intro pins s σ H x y v u Q I rx ry h
 obtain ⟨hs, q⟩ := h
 cases x with
 | non =>
  cases rx
  cases y with
  | non => cases ry; exact PySem.EqNone.ne_none_none (Y4 I q (by simp))
  | bl j => cases ry; exact PySem.EqNone.ne_none_bool (Y4 I q (by simp))
  | int j => obtain ⟨t', rfl⟩ := ry; exact PySem.EqNone.ne_none_int (Y4 I q (by simp))
  | str j => obtain ⟨t', rfl⟩ := ry; exact PySem.EqNone.ne_none_str (Y4 I q (by simp))
  | _ => exact absurd (show false = true from hs) Bool.false_ne_true
 | bl i =>
  cases rx
  cases y with
  | non => cases ry; exact PySem.EqNone.ne_bool_none (Y4 I q (by simp))
  | bl j => cases ry; exact ne_bool (Y4 I q (congrArg not Zi7))
  | str j => obtain ⟨t', rfl⟩ := ry; exact PySem.EqMixed.ne_bool_str (Y4 I q (by simp))
  | _ => exact absurd (show false = true from hs) Bool.false_ne_true
 | int i =>
  obtain ⟨t, rfl⟩ := rx
  cases y with
  | non => cases ry; exact PySem.EqNone.ne_int_none (Y4 I q (by simp))
  | int j => obtain ⟨t', rfl⟩ := ry; exact ne_int (Y4 I q (congrArg not B4))
  | str j => obtain ⟨t', rfl⟩ := ry; exact PySem.EqMixed.ne_int_str (Y4 I q (by simp))
  | _ => exact absurd (show false = true from hs) Bool.false_ne_true
 | str i =>
  obtain ⟨t, rfl⟩ := rx
  cases y with
  | non => cases ry; exact PySem.EqNone.ne_str_none (Y4 I q (by simp))
  | bl j => cases ry; exact PySem.EqMixed.ne_str_bool (Y4 I q (by simp))
  | int j => obtain ⟨t', rfl⟩ := ry; exact PySem.EqMixed.ne_str_int (Y4 I q (by simp))
  | str j => obtain ⟨t', rfl⟩ := ry; exact ne_str (Y4 I q (congrArg not Z45))
  | _ => exact absurd (show false = true from hs) Bool.false_ne_true
 | byt i =>
  obtain ⟨t, rfl⟩ := rx
  cases y with
  | byt j => obtain ⟨t', rfl⟩ := ry; exact PySem.W.ne_bytes (Y4 I q (congrArg not Z09))
  | _ => exact absurd (show false = true from hs) Bool.false_ne_true
 | _ => cases y <;> exact absurd (show false = true from hs) Bool.false_ne_true
theorem Y26 : OpR X (compareOp .Lt) (rI0 fun i j => .bl (decide (i < j))) := opB0 fun _ _ _ _ _ _ _ q => lt_int q
theorem Y50 : OpR X (compareOp .LtE) (rI0 fun i j => .bl (decide (i ≤ j))) := opB0 fun _ _ _ _ _ _ _ q => le_int q
theorem Y32 : OpR X (compareOp .Gt) (rI0 fun i j => .bl (decide (j < i))) := opB0 fun _ _ _ _ _ _ _ q => gt_int q
theorem Y43 : OpR X (compareOp .GtE) (rI0 fun i j => .bl (decide (j ≤ i))) := opB0 fun _ _ _ _ _ _ _ q => ge_int q
theorem Bw : OpR X (compareOp .In) (fun x y H Q => ∃ i j, x = .str i ∧ y = .str j ∧ Q (.bl (!(Builtin.Str.occurrences j i 0 j.length 1).isEmpty)) H) := by
 intro pins s σ H x y v u Q I rx ry h
 obtain ⟨i, j, rfl, rfl, q⟩ := h
 obtain ⟨t, rfl⟩ := rx
 obtain ⟨t', rfl⟩ := ry
 exact in_str (Y4 I q rfl)
theorem Qh : OpR X (compareOp .Is) (fun x y H Q => y = .non ∧ Q (.bl (decide (x = .non))) H) := by
 intro pins s σ H x y v u Q I rx ry h
 obtain ⟨rfl, q⟩ := h
 cases ry
 refine is_none_gen (Y4 I q ?_)
 cases x <;> first
  |(cases rx; rfl)
  |(obtain ⟨t, rfl⟩ := rx; rfl)
theorem T5 : OpR X (compareOp .IsNot) (fun x y H Q => y = .non ∧ Q (.bl (!decide (x = .non))) H) := by
 intro pins s σ H x y v u Q I rx ry h
 obtain ⟨rfl, q⟩ := h
 cases ry
 refine isnot_none_gen (Y4 I q ?_)
 cases x <;> first
  |(cases rx; rfl)
  |(obtain ⟨t, rfl⟩ := rx; rfl)
theorem Jf : OpR X (compareOp .NotIn) (fun x y H Q => ∃ i j, x = .str i ∧ y = .str j ∧ Q (.bl (!(!(Builtin.Str.occurrences j i 0 j.length 1).isEmpty))) H) := by
 intro pins s σ H x y v u Q I rx ry h
 obtain ⟨i, j, rfl, rfl, q⟩ := h
 obtain ⟨t, rfl⟩ := rx
 obtain ⟨t', rfl⟩ := ry
 exact notIn_str (Y4 I q rfl)
theorem Zt3 {op : CmpOp} {r : R2} (ho : OpR X (compareOp op) r) (ha : PE X a ta) (hb : PE X b tb) (hm : behindInMarks op b = false) : PE X (.Compare a [op] [b] pos) (tOp r ta tb) := by
 intro pins s σ H Q I h
 exact wpAny_Compare1 (binT ha hb I h fun v u s2 x y H2 I2 rx ry q => ho pins s2 σ H2 x y v u Q I2 rx ry q) hm
def Zz9 (t : TE) : TT := fun σ H Q => t σ H fun x H' => ∃ k, x = .bl k ∧ Q k H'
theorem Zp4 {op : CmpOp} {r : R2} (ho : OpR X (compareOp op) r) (ha : PE X a ta) (hb : PE X b tb) (hm : behindInMarks op b = false) : PT X (.Compare a [op] [b] pos) (Zz9 (tOp r ta tb)) := by
 intro pins s σ H Q I h
 refine wpAny_isTrue_Compare1 (thn (ha pins s σ H _ I h) fun v s1 ⟨x, H1, I1, r1, q1⟩ => thn (hb pins s1 σ H1 _ I1 q1) fun u s2 ⟨y, H2, I2, r2, q2⟩ =>
  thn (ho pins s2 σ H2 x y v u _ I2 r1 r2 q2) fun c s3 ⟨z, H3, I3, r3, k, e, q3⟩ => ?_) hm
 subst e
 cases r3
 exact wpAny_truthy_bool ⟨H3, I3, q3⟩
def TruV (K : PySem.W.Frag) (x : V) (H : Hp) (k : Bool) : Prop :=
 match x with
 | .non => k = false
 | .bl b => k = b
 | .int i => k = (i != 0)
 | .str y => y.length ≤ sizeLine ∧ k = ((y.length : Int) != 0)
 | .byt y => y.size ≤ sizeLine ∧ k = ((y.size : Int) != 0)
 | .ref p => (∃ xs, SqL K H p xs ∧ k = !xs.isEmpty) ∨ (∃ xs, SqT K H p xs ∧ k = !xs.isEmpty) ∨ ∃ kvs, H p = some (.dK kvs) ∧ k = !kvs.isEmpty
 | _ => False
theorem C5 {κ : Type} {kvs : List (κ × V)} {vs : List (κ × Value)} (r : KV kvs vs) : (!vs.isEmpty) = !kvs.isEmpty := by
 cases r <;> rfl
theorem Pl {xs : List V} {its : List Value} (r : Vals xs its) : (!its.toArray.isEmpty) = !xs.isEmpty := by
 cases r <;> simp
theorem R7 : (sizeLine : Nat) < 2 ^ 63 := by rw [sizeLine_eq]; decide
theorem Gz : TruR X (fun x H Q => ∃ k, TruV X.K x H k ∧ Q k H) := by
 intro pins s σ H x v Q I rx h
 obtain ⟨k, e, q⟩ := h
 have hl := R7
 have hs : sizeLine = 16777216 := sizeLine_eq
 cases x with
 | non =>
  cases rx
  have e' : k = false := e
  subst e'
  exact truthy_none ⟨H, I, q⟩
 | bl b =>
  cases rx
  have e' : k = b := e
  subst e'
  exact wpAny_truthy_bool ⟨H, I, q⟩
 | int i =>
  obtain ⟨t, rfl⟩ := rx
  have e' : k = (i != 0) := e
  subst e'
  exact PySem.P.truthy_int ⟨H, I, q⟩
 | str y =>
  obtain ⟨t, rfl⟩ := rx
  obtain ⟨hy, e'⟩ : y.length ≤ sizeLine ∧ k = ((y.length : Int) != 0) := e
  subst e'
  exact PySem.P.truthy_str (by omega) ⟨H, I.tok _, q⟩
 | byt y =>
  obtain ⟨t, rfl⟩ := rx
  obtain ⟨hy, e'⟩ : y.size ≤ sizeLine ∧ k = ((y.size : Int) != 0) := e
  subst e'
  exact PySem.W.truthy_bytes (by omega) ⟨H, I.tok _, q⟩
 | ref p =>
  cases rx
  have e' : (∃ xs, SqL X.K H p xs ∧ k = !xs.isEmpty) ∨ (∃ xs, SqT X.K H p xs ∧ k = !xs.isEmpty) ∨ ∃ kvs, H p = some (.dK kvs) ∧ k = !kvs.isEmpty := e
  rcases e' with ⟨xs, hx, e'⟩ | ⟨xs, hx, e'⟩ | ⟨kvs, hx, e'⟩
  ·subst e'
   obtain ⟨its, r, pl, hz⟩ := I.list hx
   have hlen := r.length
   exact wpAny_truthy_list pl.isList (by simp only [List.size_toArray]; omega) ⟨H, I.tok _, by rw [Pl r]; exact q⟩
  ·subst e'
   obtain ⟨its, r, pl, hz⟩ := I.tuple hx
   have hlen := r.length
   exact truthy_tuple pl (by simp only [List.size_toArray]; omega) ⟨H, I.tok _, by rw [Pl r]; exact q⟩
  ·subst e'
   obtain ⟨hz, hS, vs, r, m⟩ : kvs.length ≤ sizeLine ∧ (p == sysModules) = false ∧ ∃ vs, KV kvs vs ∧ s.heap.DictOf (Yn X.prog X.w) p vs := I.hok p _ hx
   have hlen : kvs.length = vs.length := Paired.length r
   exact wpAny_truthy_dict hS m (by omega) ⟨H, I.tok _, by rw [C5 r]; exact q⟩
 | _ => exact (show False from e).elim
theorem Zg1 (ha : PE X a ta) (he : ∀ whole, isTrue a X.env whole = (do let v ← whole; standAt a.pos; holding [v] (truthy v))) :
  PT X a (fun σ H Q => ta σ H fun x H' => ∃ k, TruV X.K x H' k ∧ Q k H') := by
 intro pins s σ H Q I h
 exact isTrue_plain (thn (ha pins s σ H _ I h) fun v s1 ⟨x, H1, I1, r1, q1⟩ => Gz pins s1 σ H1 x v Q I1 r1 q1) (he _)
theorem Cw : OpR X (binaryOp .Add) (fun x y H Q => ∃ i j, x = .str i ∧ y = .str j ∧ i.length + j.length ≤ sizeLine ∧ Q (.str (i ++ j)) H) := by
 intro pins s σ H x y v u Q I rx ry h
 obtain ⟨i, j, rfl, rfl, hz, q⟩ := h
 obtain ⟨t, rfl⟩ := rx
 obtain ⟨t', rfl⟩ := ry
 exact add_str (fun t' tk => ⟨.str (i ++ j), H, I.tok _, ⟨_, rfl⟩, q⟩) hz
theorem Jv {x : V} {us : List Value} (r : Vals [x] us) : ∃ u, us = [u] ∧ RelV x u := by
 cases r with
 | cons r1 r2 => cases r2; exact ⟨_, rfl, r1⟩
theorem G4 {x y : V} {us : List Value} (r : Vals [x, y] us) : ∃ u w', us = [u, w'] ∧ RelV x u ∧ RelV y w' := by
 cases r with
 | cons r1 r2 =>
  cases r2 with
  | cons r3 r4 => cases r4; exact ⟨_, _, rfl, r1, r3⟩
theorem Z83 (hc : X.calm = true) : Tc X (.builtin "max") (fun xs H Q => ∃ i j, xs = [.int i, .int j] ∧ Q (.int (if j > i then j else i)) H) := by
 intro pins s σ H xs us Q I r h
 obtain ⟨i, j, rfl, q⟩ := h
 obtain ⟨u, w', rfl, ⟨t, rfl⟩, ⟨t', rfl⟩⟩ := G4 r
 refine max_two_ints (I.ok.hd hc) fun h' tk k => ⟨_, H, I.kept k, ?_, q⟩
 by_cases hj : j > i
 ·rw [if_pos hj, if_pos hj]; exact ⟨_, rfl⟩
 ·rw [if_neg hj, if_neg hj]; exact ⟨_, rfl⟩
theorem Z32 (hc : X.calm = true) : Tc X (.builtin "min") (fun xs H Q => ∃ i j, xs = [.int i, .int j] ∧ Q (.int (if j < i then j else i)) H) := by
 intro pins s σ H xs us Q I r h
 obtain ⟨i, j, rfl, q⟩ := h
 obtain ⟨u, w', rfl, ⟨t, rfl⟩, ⟨t', rfl⟩⟩ := G4 r
 refine min_two_ints (I.ok.hd hc) fun h' tk k => ⟨_, H, I.kept k, ?_, q⟩
 by_cases hj : j < i
 ·rw [if_pos hj, if_pos hj]; exact ⟨_, rfl⟩
 ·rw [if_neg hj, if_neg hj]; exact ⟨_, rfl⟩
end
structure ObjM (h : Heap) (x dx C : Addr) (mA : Str → Option Value) : Prop where
 obj : h.get? x = some (PySem.W.instObj C dx)
 ns : h.Ns1 dx mA
 ne : dx ≠ x
theorem J0 {h : Heap} {dx : Addr} {mA : Str → Option Value} (n : h.Ns1 dx mA) : ∃ od, h.get? dx = some od ∧ ∀ name, PySem.W.lookIn name od = some (mA name) := by
 obtain ⟨o, es, ep, ho, hd, hk, _, hm⟩ := n
 refine ⟨o, ho, fun name => ?_⟩
 have e := hm name
 unfold nsFind findBy at e
 rw [← Array.find?_toList] at e
 unfold PySem.W.lookIn
 rw [hd]
 dsimp only
 split
 ·rename_i y q
  rw [q] at e
  exact congrArg some e
 ·rename_i q
  rw [q] at e
  have a : es.toList.any (·.refKey) = false := by
   rw [List.any_eq_false]
   intro y hy
   obtain ⟨z, t, hkey⟩ := hk y (Array.mem_toList_iff.mp hy)
   simp [DictEntry.refKey, hkey]
  have a' : ¬ es.toList.any (·.refKey) = true := by rw [a]; exact Bool.false_ne_true
  rw [if_neg a']
  exact congrArg some e
theorem ObjM.look {h : Heap} {x dx C : Addr} {mA : Str → Option Value} (I : ObjM h x dx C mA) : ∃ od, PySem.W.InstAt h x (PySem.W.instObj C dx) C (some od) ∧ ∀ name, PySem.W.lookIn name od = some (mA name) :=
 let ⟨od, ho, hl⟩ := J0 I.ns
 ⟨od, ⟨I.obj, rfl, rfl, ho⟩, hl⟩
section
variable {prog : Program} {w : World} {A : Around} {E : Value → Shared → Prop} {s : Shared} {K : PySem.W.Frag} {x dx C f : Addr} {mA : Str → Option Value} {name : Str} {v : Value}
end
theorem RelO.some_of {v : V} {o : Option Value} (r : RelO (some v) o) : ∃ u, o = some u ∧ RelV v u := by
 cases o with
 | none => exact (show False from r).elim
 | some u => exact ⟨u, rfl, r⟩
section
variable {P : Program} {w : World} {H H' : Hp} {h h' : Heap} {a C dx : Addr} {fs fs' : List (Str × V)}
theorem Zp5 (hok : HOk P w H h) (e : H a = some (.ins C dx fs)) : ∃ mA, ObjM h a dx C mA ∧ (∀ f, RelO (fs.lookup f) (mA f)) ∧ PySem.Within mA (fs.map (·.1)) ∧ fs.length ≤ 1000 ∧ H dx = some (.own a) := by
 obtain ⟨d, z, ne, ob, mA, n, r, q⟩ := (show X4 P w H h a (.ins C dx fs) from hok a _ e)
 exact ⟨mA, ⟨ob, n, ne⟩, r, q, z, d⟩
end
structure Cls (K : PySem.W.Frag) (C : Addr) : Prop where
 pg : PySem.W.plainGet K C Str.empty = true
 hd : PySem.W.hasDictIn K C = true
 po : PySem.W.plainOver K C = true
 sa : PySem.W.findIn K (.ref C) "__setattr__" = some (some (.builtin "object.__setattr__"))
theorem Cls.get {K : PySem.W.Frag} {C : Addr} (c : Cls K C) (f : Str) : PySem.W.plainGet K C f = true := c.pg
structure Con (K : PySem.W.Frag) (C : Addr) (f : Str) (v : V) (u : Value) : Prop where
 at_ : PySem.W.findIn K (.ref C) f = some (some u)
 rel : RelV v u
 get : PySem.W.specialIn K u "__get__" = some none
 cp : PySem.W.copiedNames.contains f = false
structure Meth (K : PySem.W.Frag) (C : Addr) (m : Str) (f : Addr) : Prop where
 at_ : PySem.W.findIn K (.ref C) m = some (some (.ref f))
 fn : PySem.W.isFn K (.ref f) = true
 kp : PySem.W.keepIn K (.ref f) = true
section
variable {X : Cx} {pins : List (Addr × Obj)} {σ : St} {H : Hp} {s : Shared} {a C dx : Addr} {fs : List (Str × V)} {f : Str} {v : V} {A : Around} {E : Value → Shared → Prop}
end
section
variable {X : Cx} {o e value : Expr} {f : Str} {pos pos' tpos : Pos} {ta tv : TE}
end
section
variable {X : Cx} {pins : List (Addr × Obj)} {σ : St} {H : Hp} {s : Shared} {A : Around} {E : Value → Shared → Prop} {Q : Value → Shared → Prop} {c : Value} {b : Bool}
inductive TyOf (K : PySem.W.Frag) (H : Hp) : V → Value → Prop where
 | non : TyOf K H .non (.type "NoneType")
 | bl (x : Bool) : TyOf K H (.bl x) (.type "bool")
 | int (i : Int) : TyOf K H (.int i) (.type "int")
 | str (x : Str) : TyOf K H (.str x) (.type "str")
 | flt (x : UInt64) : TyOf K H (.flt x) (.type "float")
 | lst {a : Addr} {xs : List V} (e : H a = some (.lst xs)) : TyOf K H (.ref a) (.type "list")
 | frz {a : Addr} {o : Obj} {xs : List V} (e : H a = some (.frz o (.lst xs))) : TyOf K H (.ref a) (.type "list")
 | tup {a : Addr} {xs : List V} (e : H a = some (.tup xs)) : TyOf K H (.ref a) (.type "tuple")
 | dK {a : Addr} {kvs : List (Key × V)} (e : H a = some (.dK kvs)) : TyOf K H (.ref a) (.type "dict")
 | dT {a : Addr} {kvs : List (List Key × V)} (e : H a = some (.dT kvs)) : TyOf K H (.ref a) (.type "dict")
 | ins {a C dx : Addr} {fs : List (Str × V)} (e : H a = some (.ins C dx fs)) (cl : Cls K C) (ha : PySem.W.findIn K (.ref C) "__class__" = some (some (.builtin "object.__class__")))
   (hn : PySem.W.specialIn K (.builtin "object.__class__") "__get__" = some (some (.builtin "getset_descriptor.__get__"))) (htk : PySem.W.takesIn K (.builtin "object.__class__") = some true)
   (hm : PySem.W.mroIn K C (.type "object") = some true) : TyOf K H (.ref a) (.ref C)
theorem Z77 {x : V} {u t : Value} (I : Inv X pins σ H s) (rx : RelV x u) (ty : TyOf X.K H x t) (e : PySem.W.kitOne X.K t c = some b) (h : ∀ tk, Q (.bool b) { s with toks := tk }) :
  wpAny (model X.prog X.w) A (call (.builtin "isinstance") [u, c]) Q E s := by
 cases ty with
 | non => cases (show u = Value.none from rx); exact PySem.W.kia_one PySem.W.kitx_none I.kIn True.intro e (fun z => nomatch z) h
 | bl y => cases (show u = Value.bool y from rx); exact PySem.W.kia_one PySem.W.kitx_bool I.kIn True.intro e (fun z => nomatch z) h
 | int i => obtain ⟨t, q⟩ := (show ∃ t, u = Value.int i t from rx); cases q; exact PySem.W.kia_one PySem.W.kitx_int I.kIn True.intro e (fun z => nomatch z) h
 | str y => obtain ⟨t, q⟩ := (show ∃ t, u = Value.str y t from rx); cases q; exact PySem.W.kia_one PySem.W.kitx_str I.kIn True.intro e (fun z => nomatch z) h
 | flt y => obtain ⟨t, q⟩ := (show ∃ t, u = Value.float y t from rx); cases q; exact PySem.W.kia_one PySem.W.kitx_float I.kIn True.intro e (fun z => nomatch z) h
 | @lst a xs ea =>
  cases (show u = Value.ref a from rx)
  obtain ⟨_, _, n, _, h1⟩ := (show X4 X.prog X.w H s.heap a (.lst xs) from I.hok a _ ea)
  exact PySem.W.kia_one PySem.W.kitx_list I.kIn ⟨_, h1, rfl⟩ e (fun z => nomatch z) h
 | @frz a ob xs ea =>
  cases (show u = Value.ref a from rx)
  obtain ⟨_, _, _, n, _, h1⟩ := (show X4 X.prog X.w H s.heap a (.frz ob (.lst xs)) from I.hok a _ ea)
  exact PySem.W.kia_one PySem.W.kitx_list I.kIn ⟨_, h1, rfl⟩ e (fun z => nomatch z) h
 | @tup a xs ea =>
  cases (show u = Value.ref a from rx)
  obtain ⟨_, _, _, p⟩ := (show X4 X.prog X.w H s.heap a (.tup xs) from I.hok a _ ea)
  obtain ⟨o, h1, h2, _⟩ := p
  exact PySem.W.kia_one PySem.W.kitx_tuple I.kIn ⟨o, h1, h2⟩ e (fun z => nomatch z) h
 | @dK a kvs ea =>
  cases (show u = Value.ref a from rx)
  obtain ⟨_, _, vs, _, p⟩ := (show X4 X.prog X.w H s.heap a (.dK kvs) from I.hok a _ ea)
  obtain ⟨o, es, ep, h1, h2, _⟩ := p
  exact PySem.W.kia_one PySem.W.kitx_dict I.kIn ⟨o, h1, h2.1⟩ e (fun z => nomatch z) h
 | @dT a kvs ea =>
  cases (show u = Value.ref a from rx)
  obtain ⟨_, _, xs, _, o, es, ep, h1, h2, _⟩ := (show X4 X.prog X.w H s.heap a (.dT kvs) from I.hok a _ ea)
  exact PySem.W.kia_one PySem.W.kitx_dict I.kIn ⟨o, h1, h2.1⟩ e (fun z => nomatch z) h
 | @ins a C dx fs ea cl ha hn htk hm =>
  cases (show u = Value.ref a from rx)
  obtain ⟨mA, O, _⟩ := Zp5 I.hok ea
  obtain ⟨od, J, _⟩ := O.look
  exact PySem.W.kia_one (PySem.W.kitx_own (cl.get _) cl.hd ha hn htk hm) I.kIn J e (fun z => nomatch z) h
end
structure Room (k : Nat) (A : Around) : Prop where
 hd : A.handled = none
 dp : A.depth + 3 * k + 5 < recursionLimit
 un : A.units + 16 * k + 200 < cLine
theorem Room.mono {j k : Nat} {A : Around} (r : Room k A) (h : j ≤ k) : Room j A := ⟨r.hd, by have := r.dp; omega, by have := r.un; omega⟩
theorem Room.deeper {k : Nat} {A : Around} (r : Room (k + 1) A) (env : Env) : Room k (A.deeper env) :=
 ⟨r.hd, by have := r.dp; show A.depth + 1 + 3 * k + 5 < _; omega, by have := r.un; show A.units + 3 + 16 * k + 200 < _; omega⟩
theorem Room.depth {k : Nat} {A : Around} (r : Room k A) : A.depth < recursionLimit := by have := r.dp; omega
theorem Room.units {k : Nat} {A : Around} (r : Room k A) : A.units + 64 < cLine := by have := r.un; omega
def tNil : TA := fun _ H Q => Q [] H
def Y54 (ta : TE) (tr : TA) : TA := fun σ H Q => ta σ H fun x H1 => tr σ H1 fun xs H2 => Q (x :: xs) H2
section
variable {X : Cx} {e : Expr} {es : List Expr} {te : TE} {t : TA} {pos : Pos}
theorem Qv : PA X [] tNil := fun _ _ _ _ H Q I h => Calls.spliced_nil ⟨[], H, I, .nil, h⟩
theorem Vd (ha : PE X e te) (hr : PA X es t) (hs : starEach (e :: es) X.env = (false, eval e X.env) :: starEach es X.env := by rfl) : PA X (e :: es) (Y54 te t) := by
 intro pos pins s σ H Q I h
 rw [hs]
 show wpAny _ _ (spliced ((false, eval e X.env) :: backTo pos (starEach es X.env))) _ _ s
 refine Calls.spliced_cons (thn (ha pins s σ H _ I h) fun u s1 ⟨x, H1, I1, r1, q1⟩ => ?_)
 exact thn (hr pos pins s1 σ H1 _ I1 q1) fun us s2 ⟨xs, H2, I2, r2, q2⟩ => ⟨x :: xs, H2, I2, .cons r1 r2, q2⟩
def tTup (t : TA) : TE := fun σ H Q => t σ H fun xs H1 => xs.length ≤ sizeLine ∧ ∀ p, H1 p = none → Q (.ref p) (upd H1 p (.tup xs))
def tLst (t : TA) : TE := fun σ H Q => t σ H fun xs H1 => xs.length ≤ sizeLine ∧ ∀ p, H1 p = none → Q (.ref p) (upd H1 p (.lst xs))
theorem Zx6 {x1} (h : PA X es t) : PE X (.Tuple es x1 pos) (tTup t) := by
 intro pins s σ H Q I hq
 refine wpAny_Tuple_spliced (thn (h pos pins s σ H _ I hq) fun us s1 ⟨xs, H1, I1, r, z, q⟩ => ⟨by rw [← r.length]; exact z, ?_⟩)
 have hf : H1 s1.heap.objs.size = none := I1.hok.fresh (Nat.le_refl _)
 refine ⟨.ref s1.heap.objs.size, upd H1 s1.heap.objs.size (.tup xs), I1.laid (t' := s1.toks) (fun b u e => Heap.get?_push_of_some _ e) (Nat.le_refl _) ?_, rfl, q _ hf⟩
 exact ⟨z, us, r, ⟨_, Heap.get?_push_size _ rfl, rfl, _, rfl⟩⟩
theorem Zu4 (h : PA X es t) : PE X (.List es pos) (tLst t) := by
 intro pins s σ H Q I hq
 refine wpAny_List_spliced (thn (h pos pins s σ H _ I hq) fun us s1 ⟨xs, H1, I1, r, z, q⟩ => ⟨by rw [← r.length]; exact z, ?_⟩)
 have hf : H1 s1.heap.objs.size = none := I1.hok.fresh (Nat.le_refl _)
 refine ⟨.ref s1.heap.objs.size, upd H1 s1.heap.objs.size (.lst xs), I1.laid (t' := s1.toks) (fun b u e => Heap.get?_push_of_some _ e) (Nat.le_refl _) ?_, rfl, q _ hf⟩
 exact ⟨z, us, 0, r, Heap.get?_push_size _ rfl⟩
end
abbrev Sp := List V → Hp → VK → XK → Prop
abbrev CXT := List Env → Hp → Shared → XK → Value → Shared → Prop
structure Env0 (P : Program) (w : World) (K : PySem.W.Frag) (mg : Str → Option Value) (base : Heap) (A : Around) (outer : List Env) (s : Shared) (H : Hp) : Prop where
 frames : A.frames = some outer
 mod : Mod K mg base
 bs : ∀ b o, base.get? b = some o → s.heap.get? b = some o ∧ H b = none
 bsz : base.objs.size ≤ s.heap.objs.size
 funs : s.heap.FunFrames base outer
 frf : ∀ b ∈ frs outer, H b = none
 hok : HOk P w H s.heap
 bare : AllBare s.gens
def CE (outer : List Env) (P : Program) (w : World) (H : Hp) (s : Shared) (Q : VK) (u : Value) (s' : Shared) : Prop :=
 ∃ v H', s'.os = s.os ∧ AllBare s'.gens ∧ Un (frs outer) [] H H' s.heap s'.heap ∧ HOk P w H' s'.heap ∧ RelV v u ∧ Q v H'
def CR (CX : CXT) (outer : List Env) (P : Program) (w : World) (H : Hp) (s : Shared) (Q : VK) (E : XK) (r : Result) (s' : Shared) : Prop :=
 match r with
 | .ok (.ret u) => CE outer P w H s Q u s'
 | .ok _ => False
 | .error e => CX outer H s E e s'
structure FnOk (P : Program) (w : World) (K : PySem.W.Frag) (mg : Str → Option Value) (base : Heap) (CX : CXT) (k : Nat) (f : Addr) (fd : FuncData) (ps : List Str) (sp : Sp) : Prop where
 len : ∀ vs H Q E, sp vs H Q E → vs.length = ps.length
 run : ∀ (A : Around) (outer : List Env) (s : Shared) (H : Hp) (args : Args) (us : List Value) (vs : List V) (Q : VK) (E : XK), Room k A → Env0 P w K mg base A outer s H → BindsTo s fd args (ps.zip us) → Vals vs us → sp vs H Q E →
  codeAny (model P w) A (.call (.ref f) args) (CR CX outer P w H s Q E) s
theorem FnOk.imp {P : Program} {w : World} {K : PySem.W.Frag} {mg : Str → Option Value} {base : Heap} {CX : CXT} {k : Nat} {f : Addr} {fd : FuncData} {ps : List Str} {sp sp' : Sp} (F : FnOk P w K mg base CX k f fd ps sp)
  (h : ∀ vs H Q E, sp' vs H Q E → sp vs H Q E) : FnOk P w K mg base CX k f fd ps sp' :=
 ⟨fun vs H Q E q => F.len vs H Q E (h _ _ _ _ q), fun A outer s H args us vs Q E hr he hb hv hs => F.run A outer s H args us vs Q E hr he hb hv (h _ _ _ _ hs)⟩
section
variable {X : Cx} {pins : List (Addr × Obj)} {σ : St} {H : Hp} {s s' : Shared}
theorem Inv.env0 (I : Inv X pins σ H s) : Env0 X.prog X.w X.K X.mg X.base X.A X.stack s H :=
 ⟨I.ok.frames, I.ok.mod, I.bs, Nat.le_trans I.ok.bsz I.sz, I.stack, I.stkFree, I.hok, I.bare⟩
theorem Inv.after {Q : VK} {u : Value} (I : Inv X pins σ H s) (h : CE X.stack X.prog X.w H s Q u s') : EP X pins σ Q u s' := by
 obtain ⟨v, H', os, bare, un, hok, r, q⟩ := h
 obtain ⟨hh, g, d, t, os'⟩ := s'
 obtain rfl : os' = s.os := os
 exact ⟨v, H', I.call (h' := hh) (g' := g) (d' := d) (t' := t) (ch := []) un hok bare (fun b z => absurd z (by simp)), r, q⟩
end
def Zq0 (sp : Sp) (dvs : List V) (E : XK) (t : TA) : TE := fun σ H Q => t σ H fun vs H1 => sp (vs ++ dvs) H1 Q E
def Ya (K : PySem.W.Frag) (fd : FuncData) (ps : List Str) (ds : List Value) : Prop :=
 ∀ (s : Shared) (us : List Value), K.In s.heap → (us ++ ds).length = ps.length → BindsTo s fd ⟨us, []⟩ (ps.zip (us ++ ds))
theorem Ya.all {K : PySem.W.Frag} {fd : FuncData} {ps : List Str} (h : ∀ us : List Value, us.length = ps.length → bindArgs fd ⟨us, []⟩ = pure (ps.zip us)) : Ya K fd ps [] := fun s us _ hl => by
 rw [List.append_nil] at hl ⊢
 exact .of_eq (h us hl)
def Ny (CX : CXT) (X : Cx) (E : XK) : Prop := ∀ (pins : List (Addr × Obj)) (σ : St) (H : Hp) (s : Shared) (e : Value) (s' : Shared), Inv X pins σ H s → CX X.stack H s E e s' → X.xe e s'
section
variable {X : Cx} {CX : CXT} {k : Nat} {f C : Addr} {fd : FuncData} {ps : List Str} {sp : Sp} {dvs : List V} {ds : List Value} {E : XK} {x m : Str} {p pos apos : Pos} {e o : Expr} {es : List Expr} {ta : TE} {t : TA}
theorem Ec {pins : List (Addr × Obj)} {σ : St} {H : Hp} {s : Shared} {Q : VK} {us : List Value} {vs : List V} (F : FnOk X.prog X.w X.K X.mg X.base CX k f fd ps sp) (hr : Room k X.A) (hb : Ya X.K fd ps ds) (hd : Vals dvs ds) (hx : Ny CX X E)
  (I : Inv X pins σ H s) (r : Vals vs us) (h : sp (vs ++ dvs) H Q E) : wpAny (model X.prog X.w) X.A (call (.ref f) us) (EP X pins σ Q) X.xe s := by
 have r2 : Vals (vs ++ dvs) (us ++ ds) := r.append hd
 have hl : (us ++ ds).length = ps.length := by rw [← r2.length]; exact F.len _ _ _ _ h
 refine wpAny_call (codeAny_mono (F.run X.A X.stack s H ⟨us, []⟩ (us ++ ds) (vs ++ dvs) Q E hr I.env0 (hb s us I.kIn hl) r2 h) fun r s' hq => ?_)
 cases r with
 | error e => exact hx pins σ H s e s' I hq
 | ok fl =>
  cases fl with
  | ret u => exact I.after hq
  | next => exact False.elim hq
  | brk => exact False.elim hq
  | cont => exact False.elim hq
theorem Zm7 (F : FnOk X.prog X.w X.K X.mg X.base CX k f fd ps sp) (hr : Room k X.A) (hg : Gl X x) (hm : X.mg x = some (.ref f)) (hk : PySem.W.keepIn X.K (.ref f) = true) (hb : Ya X.K fd ps ds) (hd : Vals dvs ds) (hx : Ny CX X E)
  (ha : PA X (e :: es) t) (hdb : (x == ("__debug__" : Str)) = false := by decide) (he : starEach (e :: es) X.env = (false, eval e X.env) :: starEach es X.env := by rfl) (hpl : (backTo pos (starEach es X.env)).any (·.1) = false := by rfl) :
  PE X (.Call (.Name x p) (e :: es) [] pos) (Zq0 sp dvs E t) := by
 intro pins s σ H Q I h
 refine wpAny_Call_Name_kw (N4 I hg hm ?_ hdb)
 refine PySem.W.callWith_K (h₀ := X.base) I.ok.mod.kin hk (thn (ha pos pins s σ H _ I h) fun us s1 ⟨vs, H1, I1, r, q⟩ => ⟨I1.kIn, ?_⟩) he hpl
 exact Ec F hr hb hd hx I1 r q
theorem Za7 (F : FnOk X.prog X.w X.K X.mg X.base CX k f fd ps sp) (hr : Room k X.A) (hg : Gl X x) (hm : X.mg x = some (.ref f)) (hk : PySem.W.keepIn X.K (.ref f) = true) (hb : Ya X.K fd ps ds) (hd : Vals dvs ds) (hx : Ny CX X E)
  (hdb : (x == ("__debug__" : Str)) = false := by decide) : PE X (.Call (.Name x p) [] [] pos) (Zq0 sp dvs E tNil) := by
 intro pins s σ H Q I h
 refine wpAny_Call_Name_kw (N4 I hg hm ?_ hdb)
 exact PySem.W.callWith_K0 I.kIn hk (Ec (us := []) F hr hb hd hx I .nil h)
structure Mk (K : PySem.W.Frag) (C f : Addr) : Prop where
 makes : PySem.W.makesIn K C = true
 init : PySem.W.findIn K (.ref C) "__init__" = some (some (.ref f))
 fn : PySem.W.isFn K (.ref f) = true
 kp : PySem.W.keepIn K (.ref C) = true
end
section
variable {X : Cx} {CX : CXT} {k : Nat} {f C : Addr} {fd : FuncData} {ps ks : List Str} {sp : Sp} {E : XK} {x m : Str} {p pos apos kpos : Pos} {e o : Expr} {es : List Expr} {kws : List Keyword} {te ta : TE} {t tk : TA} {nm : Option Str}
structure KBinds (K : PySem.W.Frag) (fd : FuncData) (ps ks : List Str) (g : List Value → List Value → List Value) (gV : List V → List V → List V) : Prop where
 to : ∀ (s : Shared) (us ws : List Value), K.In s.heap → (g us ws).length = ps.length → BindsTo s fd ⟨us, ks.zip ws⟩ (ps.zip (g us ws))
 rel : ∀ {vs : List V} {us : List Value} {zs : List V} {ws : List Value}, Vals vs us → Vals zs ws → Vals (gV vs zs) (g us ws)
variable {g : List Value → List Value → List Value} {gV : List V → List V → List V}
end
structure FnScope (N P : List Str) (sc : Scope) : Prop where
 kind : sc.kind = .function
 co : sc.isCoroutine = false
 gen : sc.isGenerator = false
 nd : N.Nodup
 pre : N.take P.length = P
 par : ∀ x ∈ P, sc.names.lookup x = some .local ∨ sc.names.lookup x = some .cell
 nofree : ∀ y ∈ sc.names, y.2 ≠ .free
theorem Nz {kindOf : Str → Option NameKind} {x : Str} : ∀ {binds : List (Str × Value)} {m : Str → Option Value}, (∀ v, (x, v) ∉ binds) → bindL kindOf binds m x = m x
 | [], _, _ => rfl
 |(n, v) :: r, m, h => by
  unfold bindL
  rw [Nz fun w hw => h w (List.mem_cons_of_mem _ hw)]
  split
  ·have : x ≠ n := by rintro rfl; exact h v List.mem_cons_self
   simp [this]
  ·rfl
theorem Jp {kindOf : Str → Option NameKind} {x : Str} : ∀ {binds : List (Str × Value)} {m : Str → Option Value}, (∀ v, (x, v) ∉ binds) → bindC kindOf binds m x = m x
 | [], _, _ => rfl
 |(n, v) :: r, m, h => by
  unfold bindC
  rw [Jp fun w hw => h w (List.mem_cons_of_mem _ hw)]
  split
  ·rfl
  ·have : x ≠ n := by rintro rfl; exact h v List.mem_cons_self
   simp [this]
theorem Js {kindOf : Str → Option NameKind} {x : Str} {v : Value} : ∀ {P : List Str} {vs : List Value} {i : Nat} {m : Str → Option Value}, P.Nodup → P[i]? = some x → vs[i]? = some v → kindOf x = some .local →
  bindL kindOf (P.zip vs) m x = some v
 | [], _, _, _, _, h, _, _ => by simp at h
 | _ :: _, [], _, _, _, _, h, _ => by simp at h
 | p :: P, w :: vs, 0, m, nd, h1, h2, hk => by
  simp at h1 h2; subst h1; subst h2
  show bindL kindOf ((p, w) :: P.zip vs) m p = _
  unfold bindL
  rw [Nz fun v hv => (List.nodup_cons.mp nd).1 (List.of_mem_zip hv).1, if_pos hk]
  simp
 | p :: P, w :: vs, i + 1, m, nd, h1, h2, hk => by
  show bindL kindOf ((p, w) :: P.zip vs) m x = _
  unfold bindL
  exact Js (i := i) (List.nodup_cons.mp nd).2 (by simpa using h1) (by simpa using h2) hk
theorem Ji {kindOf : Str → Option NameKind} {x : Str} {v : Value} : ∀ {P : List Str} {vs : List Value} {i : Nat} {m : Str → Option Value}, P.Nodup → P[i]? = some x → vs[i]? = some v → kindOf x ≠ some .local →
  bindC kindOf (P.zip vs) m x = some v
 | [], _, _, _, _, h, _, _ => by simp at h
 | _ :: _, [], _, _, _, _, h, _ => by simp at h
 | p :: P, w :: vs, 0, m, nd, h1, h2, hk => by
  simp at h1 h2; subst h1; subst h2
  show bindC kindOf ((p, w) :: P.zip vs) m p = _
  unfold bindC
  rw [Jp fun v hv => (List.nodup_cons.mp nd).1 (List.of_mem_zip hv).1, if_neg hk]
  simp
 | p :: P, w :: vs, i + 1, m, nd, h1, h2, hk => by
  show bindC kindOf ((p, w) :: P.zip vs) m x = _
  unfold bindC
  exact Ji (i := i) (List.nodup_cons.mp nd).2 (by simpa using h1) (by simpa using h2) hk
def start (N : List Str) (vs : List V) : St := vs.map some ++ List.replicate (N.length - vs.length) none
def cxOf (CX : CXT) (P : Program) (w : World) (K : PySem.W.Frag) (mg : Str → Option Value) (base : Heap) (N : List Str) (qual : Str) (scope : Scope) (f : Addr) (cd : Value) (A : Around) (outer : List Env) (s : Shared) (H : Hp) (E : XK) : Cx where
 prog := P
 w := w
 K := K
 mg := mg
 base := base
 A := A.deeper (envOfC qual scope s.heap.objs.size f cd)
 N := N
 s₀ := s
 H₀ := H
 env := envOfC qual scope s.heap.objs.size f cd
 outer := outer
 stack := envOfC qual scope s.heap.objs.size f cd :: outer
 ex := []
 calm := true
 fn := fun _ => true
 pn := []
 xe := fun e s' => wpAny (model P w) (A.deeper (envOfC qual scope s.heap.objs.size f cd)) (leaving (envOfC qual scope s.heap.objs.size f cd) e) (fun _ s'' => CX outer H s E e s'') (fun e' s'' => CX outer H s E e' s'') s'
theorem Fc {sc : Scope} {n : Nat} {x : Str} (h : sc.names.lookup x = some .cell) : ∃ c, (cellsFrom n sc.names []).lookup x = some c := by
 have q := PySem.W.cellsFrom_some sc.names n [] (.inl h)
 exact Option.isSome_iff_exists.mp q
theorem Ja {CX : CXT} {P : Program} {w : World} {K : PySem.W.Frag} {mg : Str → Option Value} {base : Heap} {N ps : List Str} {qual : Str} {scope : Scope} {f : Addr} {cd : Value} {A : Around} {outer : List Env} {s s1 : Shared} {H : Hp} {E : XK} {us : List Value} {vs : List V}
  (S : FnScope N ps scope) (hd : A.handled = none) (e0 : Env0 P w K mg base A outer s H) (hl : vs.length = ps.length) (r : Vals vs us)
  (x : InCallC s s.heap.objs.size (bindL (envOfC qual scope s.heap.objs.size f cd).kindOf (ps.zip us) fun _ => none) (cellsFrom (s.heap.objs.size + 1) scope.names []) (bindC (envOfC qual scope s.heap.objs.size f cd).kindOf (ps.zip us) fun _ => none) s1) :
  Inv (cxOf CX P w K mg base N qual scope f cd A outer s H E) [] (start N vs) H s1 := by
 have hpl : ps.length ≤ N.length := by have := congrArg List.length S.pre; rw [List.length_take] at this; omega
 obtain ⟨h1, tk, rfl, hk⟩ := x.done
 have noA : ∀ b : Addr, b ∉ (cxOf CX P w K mg base N qual scope f cd A outer s H E).ex := fun b z => absurd (show b ∈ ([] : List Addr) from z) (by simp)
 refine ⟨⟨e0.mod, S.kind, rfl, rfl, Nat.le_refl _, fun y z c h1 h2 => ?_, fun y hy => ?_, fun y c _ h => ?_, fun _ => hd, Around.frames_deeper e0.frames, .inr ⟨rfl, rfl⟩, fun b z => absurd z (noA b), e0.bs, e0.bsz, fun b _ _ => noA b, fun b z => absurd z (noA b), e0.funs, e0.frf⟩,
  rfl, e0.bare, Un.kept hk, ⟨_, x.toInCall.ns, fun i y v h1 h2 h3 => ?_⟩, fun y c h => ⟨_, x.cell y c h⟩, e0.hok.fresh (Nat.le_refl _), fun y c h => ?_, fun p hp => absurd (show p ∈ ([] : List (Addr × Obj)) from hp) (by simp), e0.hok.kept hk, ?_⟩
 ·exact name_of_addr x.apart (PySem.mem_of_lookup h1) (PySem.mem_of_lookup h2)
 ·have hy : scope.names.lookup y = some .cell ∨ scope.names.lookup y = some .free := hy
  rcases hy with hy | hy
  ·exact Fc hy
  ·exact absurd rfl (S.nofree _ (PySem.mem_of_lookup hy))
 ·exact Nat.le_of_lt (x.above y c (PySem.mem_of_lookup h))
 ·have hi : i < vs.length := by
   unfold start at h2
   by_cases hi : i < vs.length
   ·exact hi
   ·rw [List.getElem?_append_right (by simpa using hi)] at h2
    rw [List.getElem?_replicate] at h2
    split at h2 <;> cases h2
  have ha : vs[i]? = some v := by
   unfold start at h2
   rw [List.getElem?_append_left (by simpa using hi), List.getElem?_map] at h2
   cases e : vs[i]? with
   | none => rw [e] at h2; cases h2
   | some a => rw [e] at h2; cases h2; rfl
  obtain ⟨u, hu, rv⟩ := r.get ha
  have hp : ps[i]? = some y := by
   rw [← S.pre, List.getElem?_take_of_lt (by omega)]; exact h1
  have ndP : ps.Nodup := by rw [← S.pre]; exact S.nd.sublist (List.take_sublist _ _)
  refine ⟨u, rv, ?_⟩
  rcases S.par y (List.mem_of_getElem? hp) with k | k
  ·exact .inl ⟨k, Js ndP hp hu k⟩
  ·obtain ⟨c, e⟩ := Fc (n := s.heap.objs.size + 1) k
   refine .inr ⟨.inl k, c, e, ?_⟩
   have q := x.cell y c e
   rw [Ji ndP hp hu (by show scope.names.lookup y ≠ _; rw [k]; decide)] at q
   exact q
 ·exact e0.hok.fresh (Nat.le_of_lt (x.above y c (PySem.mem_of_lookup h)))
 ·unfold start
  show _ = N.length
  rw [List.length_append, List.length_map, List.length_replicate]
  omega
theorem Y56 {CX : CXT} {P : Program} {w : World} {K : PySem.W.Frag} {mg : Str → Option Value} {base : Heap} {k : Nat} {f : Addr} {name qual : Str} {params : Arguments} {body : List Stmt} {scope : Scope} {dV kV doc pm cdv ct oc : Value} {an od : Option Addr}
  {osl : Array (Option Value)} {N ps : List Str} {sp : Sp} (lk : K.lookup f = some ⟨oc, od, .func (PySem.W.fnOf name qual params body scope dV kV doc pm an cdv ct), osl⟩) (hcd : PySem.W.codeIn K cdv qual = true) (S : FnScope N ps scope)
  (len : ∀ vs H Q E, sp vs H Q E → vs.length = ps.length)
  (hbody : ∀ (A : Around) (outer : List Env) (s : Shared) (H : Hp) (vs : List V) (Q : VK) (E : XK), Room k (A.deeper (envOfC qual scope s.heap.objs.size f cdv)) → sp vs H Q E →
   ∃ t, PSs (cxOf CX P w K mg base N qual scope f cdv A outer s H E) body t ∧ t { nx := fun _ H' => Q .non H', rt := Q } (start N vs) H) :
  FnOk P w K mg base CX (k + 1) f (PySem.W.fnOf name qual params body scope dV kV doc pm an cdv ct) ps sp := by
 refine ⟨len, fun A outer s H args us vs Q E hr e0 hb r hsp => ?_⟩
 have hl := len _ _ _ _ hsp
 have KX : K.In s.heap := e0.mod.kin.keeps fun b o e => (e0.bs b o e).1
 have lim : s.heap.NoLimit := e0.mod.nolimit.keeps fun b o e => (e0.bs b o e).1
 have hkind : ∀ y ∈ ps.zip us, scope.names.lookup y.1 = some .local ∨ (scope.names.lookup y.1 = some .cell ∧ ((cellsFrom (s.heap.objs.size + 1) scope.names []).lookup y.1).isSome = true) := fun ⟨n, v⟩ hy => by
  rcases S.par n (List.of_mem_zip hy).1 with q | q
  ·exact .inl q
  ·exact .inr ⟨q, PySem.W.cellsFrom_some _ _ _ (.inl q)⟩
 refine codeAny_call_function hr.depth (KX _ _ lk) rfl S.co S.gen rfl (PySem.W.codeRec_of KX hcd) (hb _ _ _ _ ?_)
 refine wpAny_newFunctionEnv_cells S.kind hkind fun env he s1 x => ?_
 subst he
 refine ⟨lim.keeps x.toInCall.keep, codeAny_func ?_⟩
 obtain ⟨t, ht, hq⟩ := hbody A outer s H vs Q E (hr.deeper _) hsp
 have I : Inv (cxOf CX P w K mg base N qual scope f cdv A outer s H E) [] (start N vs) H s1 := Ja S hr.hd e0 hl r x
 refine wpAny_mono (ht [] s1 (start N vs) H _ I hq) (fun fl s' hs => ?_) fun e s' hs => hs
 have fin : ∀ {σ' : St} {H' : Hp} {v : V} {u : Value}, Inv (cxOf CX P w K mg base N qual scope f cdv A outer s H E) [] σ' H' s' → RelV v u → Q v H' → CE outer P w H s Q u s' :=
  fun {σ' H' v u} J rv q => ⟨v, H', J.os, J.bare, J.base, J.hok, rv, q⟩
 cases fl with
 | ret u =>
  obtain ⟨v, σ', H', J, rv, q⟩ := hs
  exact fin J rv q
 | next =>
  obtain ⟨σ', H', J, q⟩ := hs
  exact fin (v := V.non) (u := Value.none) J rfl q
 | brk =>
  obtain ⟨_, _, _, q⟩ := hs
  exact False.elim q
 | cont =>
  obtain ⟨_, _, _, q⟩ := hs
  exact False.elim q
section
variable {X : Cx} {x : Str} {p pos : Pos} {e : Expr} {es : List Expr} {t : TA} {id T : String} {r : List V → Hp → VK → Prop}
def tCB (r : List V → Hp → VK → Prop) (t : TA) : TE := fun σ H Q => t σ H fun vs H1 => r vs H1 Q
theorem Om (hc : Tc X (.builtin id) r) (hg : Gl X x) (hm : X.mg x = none) (hv : bootBuiltins x = some (.builtin id)) (ha : PA X (e :: es) t) (hn : x ≠ "__name__" := by decide) (hdb : (x == ("__debug__" : Str)) = false := by decide)
  (he : starEach (e :: es) X.env = (false, eval e X.env) :: starEach es X.env := by rfl) (hpl : (backTo pos (starEach es X.env)).any (·.1) = false := by rfl) : PE X (.Call (.Name x p) (e :: es) [] pos) (tCB r t) := by
 intro pins s σ H Q I h
 refine wpAny_Call_Name_kw (Rx I hg hm hv ?_ hn hdb)
 exact PyProof.Rows.callWith_builtin1 (thn (ha pos pins s σ H _ I h) fun us s1 ⟨vs, H1, I1, r1, q1⟩ => hc pins s1 σ H1 vs us Q I1 r1 q1) he hpl
theorem Nq (hc : Tc X (.type T) r) (hg : Gl X x) (hm : X.mg x = none) (hv : bootBuiltins x = some (.type T)) (ha : PA X (e :: es) t) (hn : x ≠ "__name__" := by decide) (hdb : (x == ("__debug__" : Str)) = false := by decide)
  (he : starEach (e :: es) X.env = (false, eval e X.env) :: starEach es X.env := by rfl) (hpl : (backTo pos (starEach es X.env)).any (·.1) = false := by rfl) : PE X (.Call (.Name x p) (e :: es) [] pos) (tCB r t) := by
 intro pins s σ H Q I h
 refine wpAny_Call_Name_kw (Rx I hg hm hv ?_ hn hdb)
 exact PyProof.Rows.callWith_type1 (thn (ha pos pins s σ H _ I h) fun us s1 ⟨vs, H1, I1, r1, q1⟩ => hc pins s1 σ H1 vs us Q I1 r1 q1) he hpl
end
end L2
namespace HT
open PySem PyProof.Rows
section
open PySem.SeqAt
open PySem.AutoSeq1 (wpAny_loadPart')
open PySem.MeetsSeq PySem.MeetsSeq2 PySem.MeetsSeq3
end
section
variable {prog : Program} {w : World} {A : Around} {E : Value → Shared → Prop} {s : Shared}
theorem Zq4 {t b : Addr} {vs ws : List Value} {Q : Value → Shared → Prop} (ht : IsTup s.heap t vs.toArray) (hb : IsTup s.heap b ws.toArray) (hv : vs ≠ [])
  (h1 : ws = [] → Q (.ref t) s) (h2 : ws ≠ [] → Q (.ref s.heap.objs.size) { s with heap := s.heap.push { cls := .type "tuple", data := .seq (vs ++ ws).toArray } })
  (hsz : vs.length + ws.length ≤ sizeLine) : wpAny (model prog w) A (binaryOp .Add (.ref t) (.ref b)) Q E s := by
 obtain ⟨⟨cls, dd, data, sl⟩, ho, hc, n, hd⟩ := id ht
 obtain ⟨⟨cls2, dd2, data2, sl2⟩, ho2, hc2, n2, hd2⟩ := id hb
 simp only at hc hd hc2 hd2
 subst hc hd hc2 hd2
 have e : vs.toArray ++ ws.toArray = (vs ++ ws).toArray := by simp
 by_cases hw : ws = []
 ·exact concat_meets ⟨_, ho, rfl⟩ ⟨_, ho2, rfl⟩ noFill_tuple_add seq_tuple_add PySem.F.slot_tuple_add PySem.F.entry_tuple_add (PySem.F.args_tuple_add_2 _ _)
   (tuple_addW1 t b vs.toArray ws.toArray n n2 dd dd2 sl sl2 (by simpa using hv) (by simp [hw])) ⟨ho, ho2, h1 hw⟩
 ·refine concat_meets ⟨_, ho, rfl⟩ ⟨_, ho2, rfl⟩ noFill_tuple_add seq_tuple_add PySem.F.slot_tuple_add PySem.F.entry_tuple_add (PySem.F.args_tuple_add_2 _ _)
   (tuple_addW2 t b vs.toArray ws.toArray n n2 dd dd2 sl sl2 (by simpa using hv) (by simpa using hw) (by rw [List.size_toArray, List.size_toArray]; exact hsz)) ⟨ho, ho2, ?_⟩
  rw [e]
  exact h2 hw
def sIx (n d : Nat) : Option Int → Nat
 | none => d
 | some v => if v < 0 then (v + (n : Int)).toNat else min v.toNat n
theorem Z33 (n d k : Nat) : sIx n d (some (k : Int)) = min k n := by
 show (if (k : Int) < 0 then ((k : Int) + (n : Int)).toNat else min (k : Int).toNat n) = min k n
 rw [if_neg (by omega), Int.toNat_natCast]
theorem Y13 (n d : Nat) (hd : d ≤ n) (o : Option Int) : sIx n d o ≤ n := by
 cases o with
 | none => exact hd
 | some v =>
  show (if v < 0 then (v + (n : Int)).toNat else min v.toNat n) ≤ n
  by_cases hv : v < 0
  ·rw [if_pos hv]; omega
  ·rw [if_neg hv]; exact Nat.min_le_right _ _
theorem Z70 (v : Int) (n d : Nat) : (if v < 0 then max (v + (n : Int)) 0 else min v (n : Int)) = ((sIx n d (some v) : Nat) : Int) := by
 show (if v < 0 then max (v + (n : Int)) 0 else min v (n : Int)) = (((if v < 0 then (v + (n : Int)).toNat else min v.toNat n) : Nat) : Int)
 by_cases hv : v < 0
 ·simp only [if_pos hv]; omega
 ·simp only [if_neg hv]; omega
theorem Cc (lo hi : Option Int) (n : Nat) : Builtin.Slice.sliceAdjust lo hi 1 (n : Int) = (((sIx n 0 lo : Nat) : Int), ((sIx n n hi : Nat) : Int)) := by
 have h1 : ¬ ((1 : Int) < 0) := by omega
 unfold Builtin.Slice.sliceAdjust
 simp only [h1, if_false]
 refine Prod.ext ?_ ?_
 ·cases lo with
  | none => rfl
  | some v => exact Z70 v n 0
 ·cases hi with
  | none => rfl
  | some v => exact Z70 v n n
theorem Ey (i j : Nat) : Builtin.Slice.slicePlaces (i : Int) (j : Int) 1 = j - i := by
 unfold Builtin.Slice.slicePlaces
 have h1 : (1 : Int) > 0 := by omega
 simp only [h1, if_true, Int.ediv_one]
 split <;> omega
theorem O9 {v : Value} {o : Option Int} {Q : Option Int → Shared → Prop} (p : IsPart v o) (h : Q o s) : wpAny (model prog w) A (Builtin.Slice.slicePartIndex v) Q E s := by
 cases p with
 | none => exact slicePart_none h
 | int i t => exact slicePart_int h
theorem Rg {sl : Addr} {vl vu : Value} {lo hi : Option Int} {n : Nat} {Q : Int × Int × Nat → Shared → Prop} (hs : s.heap.IsSliceOf sl vl vu .none) (pl : IsPart vl lo) (pu : IsPart vu hi)
  (h : Q (((sIx n 0 lo : Nat) : Int), 1, sIx n n hi - sIx n 0 lo) s) : wpAny (model prog w) A (Builtin.Slice.sliceApplied (.ref sl) (pure (n : Int))) Q E s := by
 obtain ⟨os, hos, hcs, hds⟩ := id hs
 unfold Builtin.Slice.sliceApplied Builtin.Slice.sliceFields
 refine wpAny_bind (wpAny_bind (wpAny_field hos hds (x := vl) rfl (wpAny_bind (wpAny_field hos hds (x := vu) rfl (wpAny_bind (wpAny_field hos hds (x := .none) rfl (wpAny_pure ?_)))))))
 refine wpAny_bind (slicePart_none ?_)
 show wpAny _ _ (if ((1 : Int) == 0) = true then _ else _) _ _ s
 rw [if_neg (by decide)]
 refine wpAny_bind (O9 pl (wpAny_bind (O9 pu (wpAny_bind (wpAny_pure ?_)))))
 show wpAny _ _ (match Builtin.Slice.sliceAdjust lo hi 1 (n : Int) with | (lo, hi) => pure (lo, (1 : Int), Builtin.Slice.slicePlaces lo hi 1)) _ _ s
 rw [Cc lo hi n]
 show wpAny _ _ (pure (((sIx n 0 lo : Nat) : Int), (1 : Int), Builtin.Slice.slicePlaces ((sIx n 0 lo : Nat) : Int) ((sIx n n hi : Nat) : Int) 1)) _ _ s
 rw [Ey]
 exact wpAny_pure h
theorem Zh0 (xs : Array Value) (i k : Nat) : ((List.range k).filterMap fun (m : Nat) => xs[((i : Int) + (m : Int) * 1).toNat]?).toArray = ((xs.toList.drop i).take k).toArray := by
 have e : (fun (m : Nat) => xs[((i : Int) + (m : Int) * 1).toNat]?) = fun m => xs[i + m]? := by
  funext m
  have : ((i : Int) + (m : Int) * 1).toNat = i + m := by omega
  rw [this]
 rw [e]
 have := pick_run xs i k
 rw [List.filterMap_map] at this
 have e2 : ((fun x => xs[x]?) ∘ fun x => i + x) = fun m => xs[i + m]? := rfl
 rw [e2] at this
 rw [this]
theorem Sf {t sl : Addr} {items : Array Value} {vl vu : Value} {lo hi : Option Int} {Q : Value → Shared → Prop} (ht : IsTup s.heap t items) (hs : s.heap.IsSliceOf sl vl vu .none) (pl : IsPart vl lo) (pu : IsPart vu hi)
  (hw : ¬ (sIx items.size 0 lo = 0 ∧ sIx items.size items.size hi = items.size))
  (h : Q (.ref s.heap.objs.size) { s with heap := s.heap.push { cls := .type "tuple", data := .seq ((items.toList.drop (sIx items.size 0 lo)).take (sIx items.size items.size hi - sIx items.size 0 lo)).toArray } })
  (hsz : items.size ≤ sizeLine) : wpAny (model prog w) A (getItem (.ref t) (.ref sl)) Q E s := by
 have htake : sizeOk (.seq ((items.toList.drop (sIx items.size 0 lo)).take (sIx items.size items.size hi - sIx items.size 0 lo)).toArray) := by
  show ((items.toList.drop (sIx items.size 0 lo)).take (sIx items.size items.size hi - sIx items.size 0 lo)).toArray.size ≤ sizeLine
  rw [List.size_toArray, List.length_take, List.length_drop, Array.length_toList]
  omega
 have hj : sIx items.size items.size hi ≤ items.size := Y13 _ _ (Nat.le_refl _) hi
 obtain ⟨os, hos, hcs, hds⟩ := id hs
 have hTs : s.TypeIs (.ref sl) "slice" := ⟨os, hos, hcs⟩
 unfold getItem
 try with_reducible refine wpAny_holding ?_
 first | refine wpAny_bind (wpAny_pure ?_) | skip
 refine wpAny_bind (wpAny_sequenceKey ht.typeIs (by decide) ?_)
 refine wpAny_bind (wpAny_callSpecial?_slot (name := Str.ofString "__getitem__") ht.typeIs PyProof.Rows.slot_tuple_getitem
  (wpAny_call_entry PyProof.Rows.slot_tuple_getitem ht.typeIs entry_tuple_getitem ?_ (args_tuple_getitem _ _)))
 show wpAny _ _ (Builtin.Tuple.tupleItemsOf (.ref t) >>= _) _ _ s
 refine wpAny_bind (tupleItemsOf_ ht ?_)
 refine wpAny_bind (wpAny_typeOf hTs ?_)
 rw [if_pos (by decide)]
 refine wpAny_bind (Rg hs pl pu ?_)
 have hno : ¬ ((((sIx items.size 0 lo : Nat) : Int) == 0 && (1 : Int) == 1 && (sIx items.size items.size hi - sIx items.size 0 lo) == items.size) = true) := by
  intro q
  rw [Bool.and_eq_true, Bool.and_eq_true] at q
  have q1 : ((sIx items.size 0 lo : Nat) : Int) = 0 := eq_of_beq q.1.1
  have q2 : sIx items.size items.size hi - sIx items.size 0 lo = items.size := eq_of_beq q.2
  exact hw ⟨by omega, by omega⟩
 show wpAny _ _ (if (((sIx items.size 0 lo : Nat) : Int) == 0 && (1 : Int) == 1 && (sIx items.size items.size hi - sIx items.size 0 lo) == items.size) = true then _ else _) _ _ s
 rw [if_neg hno, Zh0]
 first
  | exact wpAny_bind (m := Builtin.Tuple.tupleExact _) (wpAny_newObj_type (wpAny_pure ⟨_, rfl, wpAny_pure h⟩) htake)
  | exact wpAny_bind (m := Builtin.Tuple.tupleExact _) (wpAny_newObj_type (wpAny_bind (wpAny_pure (wpAny_pure ⟨_, rfl, wpAny_pure h⟩))) htake)
  | exact wpAny_bind (wpAny_bind (m := Builtin.Tuple.tupleExact _) (wpAny_newObj_type (wpAny_pure (wpAny_pure ⟨_, rfl, wpAny_pure h⟩)) htake))
  | exact wpAny_bind (wpAny_bind (m := Builtin.Tuple.tupleExact _) (wpAny_newObj_type (wpAny_pure ⟨_, rfl, wpAny_pure h⟩) htake))
end
end HT
namespace L2
open PySem PySem.Spec PyProof.Rows
abbrev TO := St → Hp → (Option Int → Hp → Prop) → Prop
def PO (X : Cx) (e : Option Expr) (t : TO) : Prop :=
 ∀ (pins : List (Addr × Obj)) (s : Shared) (σ : St) (H : Hp) (Q : Option Int → Hp → Prop), Inv X pins σ H s → t σ H Q →
  wpAny (model X.prog X.w) X.A (evalPart e X.env) (fun u s' => ∃ o H', Inv X pins σ H' s' ∧ IsPart u o ∧ Q o H') X.xe s
def Zm4 : TO := fun _ H Q => Q none H
def Y35 (t : TE) : TO := fun σ H Q => t σ H fun x H1 => ∃ i, x = .int i ∧ Q (some i) H1
section
variable {X : Cx} {e : Expr} {te : TE} {lo hi : Option Expr} {tl th : TO} {pos p2 : Pos}
theorem Zn6 : PO X none Zm4 := by
 intro pins s σ H Q I h
 rw [evalPart_none]
 exact wpAny_pure ⟨none, H, I, .none, h⟩
theorem Z53 (h : PE X e te) : PO X (some e) (Y35 te) := by
 intro pins s σ H Q I hw
 rw [evalPart_some]
 refine thn (h pins s σ H _ I hw) fun u s1 ⟨x, H1, I1, r1, q1⟩ => ?_
 obtain ⟨i, rfl, q⟩ := q1
 obtain ⟨t, rfl⟩ := r1
 exact ⟨some i, H1, I1, .int i t, q⟩
def SlR (X : Cx) (r : V → Option Int → Option Int → Hp → VK → Prop) : Prop :=
 ∀ (pins : List (Addr × Obj)) (s : Shared) (σ : St) (H : Hp) (x : V) (v vl vu : Value) (lo hi : Option Int) (sl : Addr) (Q : VK), Inv X pins σ H s → RelV x v → s.heap.IsSliceOf sl vl vu .none → IsPart vl lo → IsPart vu hi → r x lo hi H Q →
  ∃ T id, typeLookup (.type T) "__getitem__" = pure (some (.builtin id)) ∧ s.TypeIs v T ∧ wpAny (model X.prog X.w) X.A (getItem v (.ref sl)) (EP X pins σ Q) X.xe s
def tSl (r : V → Option Int → Option Int → Hp → VK → Prop) (te : TE) (tl th : TO) : TE := fun σ H Q => te σ H fun x H1 => tl σ H1 fun l H2 => th σ H2 fun u H3 => r x l u H3 Q
theorem Zh9 {r : V → Option Int → Option Int → Hp → VK → Prop} (hr : SlR X r) (he : PE X e te) (hl : PO X lo tl) (hu : PO X hi th) : PE X (.Subscript e (.Slice lo hi none p2) pos) (tSl r te tl th) := by
 intro pins s σ H Q I h
 refine Subscript_ (thn (he pins s σ H _ I h) fun v s1 ⟨x, H1, I1, r1, q1⟩ => ?_)
 refine wpAny_Slice (thn (hl pins s1 σ H1 _ I1 q1) fun vl s2 ⟨l, H2, I2, pl, q2⟩ => thn (hu pins s2 σ H2 _ I2 q2) fun vu s3 ⟨u, H3, I3, pu, q3⟩ => ?_)
 rw [evalPart_none]
 refine wpAny_pure ?_
 have I4 : Inv X pins σ H3 { s3 with heap := s3.heap.push { cls := .type "slice", data := .fields #[vl, vu, .none] } } := I3.kept (t' := s3.toks) fun b ob q => Heap.get?_push_of_some _ q
 obtain ⟨T, id, hT, ht, hg⟩ := hr pins { s3 with heap := s3.heap.push { cls := .type "slice", data := .fields #[vl, vu, .none] } } σ H3 x v vl vu l u s3.heap.objs.size Q I4 r1 (Heap.IsSliceOf.new ..) pl pu q3
 show wpAny (model X.prog X.w) X.A (subscriptTail e (.Slice lo hi none p2) v (.ref s3.heap.objs.size)) (EP X pins σ Q) X.xe { s3 with heap := s3.heap.push { cls := .type "slice", data := .fields #[vl, vu, .none] } }
 exact tail_any (ops := [.ref s3.heap.objs.size, v]) ht hT hg (by with_unfolding_all rfl)
def cutV (xs : List V) (lo hi : Option Int) : List V := (xs.drop (HT.sIx xs.length 0 lo)).take (HT.sIx xs.length xs.length hi - HT.sIx xs.length 0 lo)
theorem Qp (xs : List V) (lo hi : Option Int) : (cutV xs lo hi).length ≤ xs.length := by
 unfold cutV
 rw [List.length_take, List.length_drop]
 omega
def rSlT (K : PySem.W.Frag) : V → Option Int → Option Int → Hp → VK → Prop := fun x lo hi H Q => ∃ a xs, x = .ref a ∧ SqT K H a xs ∧
 ¬ (HT.sIx xs.length 0 lo = 0 ∧ HT.sIx xs.length xs.length hi = xs.length) ∧ ∀ p, H p = none → Q (.ref p) (upd H p (.tup (cutV xs lo hi)))
theorem Y03 : SlR X (rSlT X.K) := by
 intro pins s σ H x v vl vu lo hi sl Q I rx hs pl pu h
 obtain ⟨a, xs, rfl, hx, hw, q⟩ := h
 cases rx
 obtain ⟨its, r, ht, hz⟩ := I.tuple hx
 have hlen : its.toArray.size = xs.length := by rw [List.size_toArray]; exact r.length.symm
 refine ⟨"tuple", _, PyProof.Rows.slot_tuple_getitem.lookup, ht.typeIs, ?_⟩
 refine HT.Sf ht hs pl pu (by rw [hlen]; exact hw) ?_ (by rw [hlen]; exact hz)
 rw [hlen]
 refine ⟨.ref s.heap.objs.size, _, I.laid (t' := s.toks) (o := .tup (cutV xs lo hi)) (fun b ob q => Heap.get?_push_of_some _ q) (Nat.le_refl _) ?_, rfl, q _ (I.hok.fresh (Nat.le_refl _))⟩
 exact ⟨Nat.le_trans (Qp xs lo hi) hz, _, (r.drop (HT.sIx xs.length 0 lo)).take (HT.sIx xs.length xs.length hi - HT.sIx xs.length 0 lo), IsTup.new _ _⟩
def Y58 (K : PySem.W.Frag) : R2 := fun x y H Q => ∃ a b xs ys, x = .ref a ∧ y = .ref b ∧ SqT K H a xs ∧ SqT K H b ys ∧ xs ≠ [] ∧ xs.length + ys.length ≤ sizeLine ∧
 (ys = [] → Q (.ref a) H) ∧ (ys ≠ [] → ∀ p, H p = none → Q (.ref p) (upd H p (.tup (xs ++ ys))))
theorem Vals.nil_iff {xs : List V} {us : List Value} (r : Vals xs us) : us = [] ↔ xs = [] := by
 cases r with
 | nil => simp
 | cons _ _ => simp
theorem Zo2 : OpR X (binaryOp .Add) (Y58 X.K) := by
 intro pins s σ H x y v u Q I rx ry h
 obtain ⟨a, b, xs, ys, rfl, rfl, ha, hb, hx, hz, q1, q2⟩ := h
 cases rx
 cases ry
 obtain ⟨its, r1, p1, _⟩ := I.tuple ha
 obtain ⟨its2, r2, p2, _⟩ := I.tuple hb
 refine HT.Zq4 p1 p2 (fun z => hx (r1.nil_iff.mp z)) (fun z => ⟨.ref a, H, I, rfl, q1 (r2.nil_iff.mp z)⟩) (fun z => ?_) (by rw [← r1.length, ← r2.length]; exact hz)
 refine ⟨.ref s.heap.objs.size, _, I.laid (t' := s.toks) (o := .tup (xs ++ ys)) (fun b ob q => Heap.get?_push_of_some _ q) (Nat.le_refl _) ?_, rfl, q2 (fun w => z (r2.nil_iff.mpr w)) _ (I.hok.fresh (Nat.le_refl _))⟩
 exact ⟨by rw [List.length_append]; exact hz, _, r1.append r2, IsTup.new _ _⟩
end
def ixN (n : Nat) (i : Int) : Option Nat := if 0 ≤ i then (if i < n then some i.toNat else none) else if -(n : Int) ≤ i then some (i + n).toNat else none
def atI {α : Type} (xs : List α) (i : Int) : Option α := (ixN xs.length i).bind fun j => xs[j]?
theorem Z28 {n : Nat} {i : Int} {j : Nat} (h : ixN n i = some j) : seqIndex? i n = some j ∧ j < n ∧ -(n : Int) ≤ i ∧ i < n := by
 unfold ixN at h
 by_cases h0 : 0 ≤ i
 ·rw [if_pos h0] at h
  by_cases h1 : i < n
  ·rw [if_pos h1] at h
   have e : i.toNat = j := Option.some.inj h
   exact ⟨by rw [seqIndex_of h0 h1, e], by omega, by omega, h1⟩
  ·rw [if_neg h1] at h; cases h
 ·rw [if_neg h0] at h
  by_cases h1 : -(n : Int) ≤ i
  ·rw [if_pos h1] at h
   have e : (i + n).toNat = j := Option.some.inj h
   exact ⟨by rw [seqIndex_neg (by omega) h1, e], by omega, h1, by omega⟩
  ·rw [if_neg h1] at h; cases h
theorem Gd {α : Type} {xs : List α} {i : Int} {v : α} (h : atI xs i = some v) : ∃ j, seqIndex? i xs.length = some j ∧ xs[j]? = some v ∧ j < xs.length ∧ -(xs.length : Int) ≤ i ∧ i < xs.length := by
 unfold atI at h
 cases e : ixN xs.length i with
 | none => rw [e] at h; cases h
 | some j =>
  rw [e] at h
  obtain ⟨h1, h2, h3, h4⟩ := Z28 e
  exact ⟨j, h1, h, h2, h3, h4⟩
theorem G9 {α : Type} {xs : List α} {j : Nat} {v : α} (h : xs[j]? = some v) : atI xs (j : Int) = some v := by
 have hj : j < xs.length := (List.getElem?_eq_some_iff.mp h).1
 have e : ixN xs.length (j : Int) = some j := by
  unfold ixN
  rw [if_pos (by omega), if_pos (by omega)]; simp
 unfold atI; rw [e]; exact h
theorem Tv {α : Type} (xs : List α) (v : α) : atI (xs ++ [v]) (-1) = some v := by
 have hl : (xs ++ [v]).length = xs.length + 1 := by simp
 have e : ixN (xs ++ [v]).length (-1) = some xs.length := by
  unfold ixN
  rw [hl, if_neg (by decide), if_pos (by omega)]
  congr 1
  omega
 unfold atI
 rw [e]
 show (xs ++ [v])[xs.length]? = some v
 simp
def Z47 (b : Expr) : Prop := ∀ o i, subscripted b false o i = operate [o, i] (getItem o i)
def IxR (X : Cx) (r : R2) : Prop :=
 ∀ (value slice : Expr) (pins : List (Addr × Obj)) (s : Shared) (σ : St) (H : Hp) (x y : V) (v u : Value) (Q : VK), Inv X pins σ H s → RelV x v → RelV y u → r x y H Q →
  subscripted slice false v u = operate [v, u] (getItem v u) → wpAny (model X.prog X.w) X.A (subscriptTail value slice v u) (EP X pins σ Q) X.xe s
def MtR (X : Cx) (id : String) (r : V → List V → Hp → VK → Prop) : Prop :=
 ∀ (pins : List (Addr × Obj)) (s : Shared) (σ : St) (H : Hp) (x : V) (xs : List V) (v : Value) (us : List Value) (Q : VK), Inv X pins σ H s → RelV x v → Vals xs us → r x xs H Q →
  wpAny (model X.prog X.w) X.A (call (.builtin id) (v :: us)) (EP X pins σ Q) X.xe s
section
variable {X : Cx} {a b : Expr} {ta tb : TE} {pos : Pos}
theorem Y49 {r : R2} (hr : IxR X r) (ha : PE X a ta) (hb : PE X b tb) (hs : Z47 b) : PE X (.Subscript a b pos) (tOp r ta tb) := by
 intro pins s σ H Q I h
 exact Subscript_ (binT ha hb I h fun v u s2 x y H2 I2 rx ry q => hr a b pins s2 σ H2 x y v u Q I2 rx ry q (hs _ _))
def rIxL (K : PySem.W.Frag) : R2 := fun x y H Q => ∃ p xs i v, x = .ref p ∧ y = .int i ∧ SqL K H p xs ∧ atI xs i = some v ∧ Q v H
def rIxT (K : PySem.W.Frag) : R2 := fun x y H Q => ∃ p xs i v, x = .ref p ∧ y = .int i ∧ SqT K H p xs ∧ atI xs i = some v ∧ Q v H
def rIxS : R2 := fun x y H Q => ∃ z i c, x = .str z ∧ y = .int i ∧ z.length ≤ sizeLine ∧ atI z.cps.toList i = some c ∧ Q (.str ⟨#[c]⟩) H
theorem Zt0 : IxR X (rIxL X.K) := by
 intro value slice pins s σ H x y v u Q I rx ry h hs
 obtain ⟨p, xs, i, z, rfl, rfl, hq, he, q⟩ := h
 cases rx
 obtain ⟨t, rfl⟩ := ry
 obtain ⟨its, r, pl, hz⟩ := I.list hq
 obtain ⟨j, h1, h2, h3, h4, h5⟩ := Gd he
 obtain ⟨w, ew, rw'⟩ := r.get h2
 have hl := r.length
 have hn := R7
 have fin : EP X pins σ Q w s := ⟨z, H, I, rw', q⟩
 by_cases h0 : 0 ≤ i
 ·have hj : i.toNat = j := by
   rw [seqIndex_of h0 h5] at h1
   exact Option.some.inj h1
  exact item_listR pl.isList h0 (by omega) (by rw [hj]; simpa using ew) fin hs
 ·have hj : (i + (its.toArray.size : Int)).toNat = j := by
   rw [seqIndex_neg (by omega) h4] at h1
   rw [List.size_toArray, ← hl]
   exact Option.some.inj h1
  exact subscriptTail_builtinR (x := w) pl.isList.typeIs slot_list_getitem.lookup
   (wpAny_getItem_list_neg (Q := fun r s' => r = w ∧ EP X pins σ Q r s') pl.isList (by omega) (by rw [List.size_toArray] <;> omega) (by omega) (by rw [hj]; simpa using ew) ⟨rfl, fin⟩) hs
theorem Zk8 : IxR X (rIxT X.K) := by
 intro value slice pins s σ H x y v u Q I rx ry h hs
 obtain ⟨p, xs, i, z, rfl, rfl, hq, he, q⟩ := h
 cases rx
 obtain ⟨t, rfl⟩ := ry
 obtain ⟨its, r, pl, hz⟩ := I.tuple hq
 obtain ⟨j, h1, h2, h3, h4, h5⟩ := Gd he
 obtain ⟨w, ew, rw'⟩ := r.get h2
 have hl := r.length
 have hn := R7
 have fin : EP X pins σ Q w s := ⟨z, H, I, rw', q⟩
 exact subscriptTail_builtinR (x := w) pl.typeIs slot_tuple_getitem.lookup
  (getItem_tuple (j := j) (Q := fun r s' => r = w ∧ EP X pins σ Q r s') pl (by omega) (by omega) (by rw [List.size_toArray, ← hl]; exact h1) (by simpa using ew) ⟨rfl, fin⟩) hs
theorem Zx7 : IxR X rIxS := by
 intro value slice pins s σ H x y v u Q I rx ry h hs
 obtain ⟨z, i, c, rfl, rfl, hz, he, q⟩ := h
 obtain ⟨t, rfl⟩ := rx
 obtain ⟨t', rfl⟩ := ry
 obtain ⟨j, h1, h2, h3, h4, h5⟩ := Gd he
 have hl : z.cps.toList.length = z.length := by simp [Str.length]
 rw [hl] at h1 h4 h5
 have hn := R7
 exact tail_any (typeIs_str s z t) slot_str_getitem.lookup (getItem_str (c := c) (by
  have e1 : decide (i < -(2 ^ 63 : Int)) = false := decide_eq_false (by omega)
  have e2 : decide (i ≥ 2 ^ 63) = false := decide_eq_false (by omega)
  rw [e1, e2, Bool.or_false]) (by rw [h1]; simpa using h2) ⟨.str ⟨#[c]⟩, H, I.tok _, ⟨_, rfl⟩, q⟩) hs
theorem Em (its : List Value) (n j : Nat) (u : Value) : Obj.mapSeq (·.setIfInBounds j u) { cls := .type "list", data := .seq its.toArray n } = { cls := .type "list", data := .seq (its.set j u).toArray n } := by
 simp [Obj.mapSeq]
theorem Inv.lst {pins : List (Addr × Obj)} {σ : St} {H : Hp} {s : Shared} {p : Addr} {xs : List V} (I : Inv X pins σ H s) (h : H p = some (.lst xs)) :
  ∃ (its : List Value) (n : Nat), Vals xs its ∧ s.heap.get? p = some { cls := .type "list", data := .seq its.toArray n } ∧ xs.length ≤ sizeLine := by
 obtain ⟨z, its, n, r, e⟩ := I.hok p _ h
 exact ⟨its, n, r, e, z⟩
theorem Inv.lstUpd {pins : List (Addr × Obj)} {σ : St} {H : Hp} {s : Shared} {p : Addr} {xs ys : List V} {its its' : List Value} {n n' : Nat} {f : Obj → Obj} (I : Inv X pins σ H s) (h : H p = some (.lst xs))
  (ho : s.heap.get? p = some { cls := .type "list", data := .seq its.toArray n }) (hf : f { cls := .type "list", data := .seq its.toArray n } = { cls := .type "list", data := .seq its'.toArray n' }) (r : Vals ys its') (hz : ys.length ≤ sizeLine) (t : Nat) :
  Inv X pins σ (upd H p (.lst ys)) { s with heap := s.heap.update p f, toks := t } := by
 have e : (s.heap.update p f).get? p = some { cls := .type "list", data := .seq its'.toArray n' } := by
  rw [Heap.get?_update_self f ho (by rw [hf] <;> rfl), hf]
 refine I.write (x := p) (e := p) (by rw [h]; trivial) (.inl rfl) (fun b u hb q => (Heap.get?_update_other _ _ (Ne.symm hb)).trans q) ⟨_, e⟩ ?_
 exact ⟨hz, its', n', r, e⟩
def Zz7 : V → V → V → Hp → (Hp → Prop) → Prop := fun o i v H Q => ∃ p xs k j, o = .ref p ∧ i = .int k ∧ H p = some (.lst xs) ∧ ixN xs.length k = some j ∧ Q (upd H p (.lst (xs.set j v)))
theorem Za0 : PSet X Zz7 := by
 intro pins s σ H o i v ov iv u Q I ro ri rv h
 obtain ⟨p, xs, k, j, rfl, rfl, hp, hj, q⟩ := h
 cases ro
 obtain ⟨t, rfl⟩ := ri
 obtain ⟨its, n, r, ho, hz⟩ := I.lst hp
 obtain ⟨h1, h2, h3, h4⟩ := Z28 hj
 have hl := r.length
 have hn := R7
 have I' : Inv X pins σ (upd H p (.lst (xs.set j v))) { s with heap := s.heap.update p (Obj.mapSeq (·.setIfInBounds j u)) } :=
  I.lstUpd hp ho (Em its n j u) (r.set rv j) (by rw [List.length_set]; exact hz) s.toks
 by_cases h0 : 0 ≤ k
 ·have hk : k.toNat = j := by
   rw [seqIndex_of h0 h4] at h1
   exact Option.some.inj h1
  exact PySem.W.ki_setAt ho h0 (by omega) (by rw [List.size_toArray, ← hl]; exact h4) (by rw [hk]; exact ⟨_, I', q⟩)
 ·have hk : (k + (its.toArray.size : Int)).toNat = j := by
   rw [seqIndex_neg (by omega) h3] at h1
   rw [List.size_toArray, ← hl]
   exact Option.some.inj h1
  exact PySem.W.ki_setBack ho (by omega) (by rw [List.size_toArray, ← hl]; exact h3) (by omega) (by rw [hk]; exact ⟨_, I', q⟩)
theorem Nx (lo hi : Option Int) (n : Nat) : (sliceBounds lo hi none n).1 = ((HT.sIx n 0 lo : Nat) : Int) ∧ (sliceBounds lo hi none n).2.1 = ((HT.sIx n n hi : Nat) : Int) ∧ (sliceBounds lo hi none n).2.2 = 1 := by
 refine ⟨?_, ?_, rfl⟩
 ·cases lo with
  | none => simp [sliceBounds, HT.sIx]
  | some i =>
   simp only [sliceBounds, HT.sIx, Option.getD_none, show (1 : Int) > 0 by decide, if_true]
   by_cases h : i < 0
   ·simp only [h, if_true] <;> omega
   ·simp only [h, if_false] <;> omega
 ·cases hi with
  | none => simp [sliceBounds, HT.sIx]
  | some i =>
   simp only [sliceBounds, HT.sIx, Option.getD_none, show (1 : Int) > 0 by decide, if_true]
   by_cases h : i < 0
   ·simp only [h, if_true] <;> omega
   ·simp only [h, if_false] <;> omega
theorem Oj (its : List Value) (lo hi : Option Int) : slicePick its.toArray lo hi none = ((its.drop (HT.sIx its.length 0 lo)).take (HT.sIx its.length its.length hi - HT.sIx its.length 0 lo)).toArray := by
 obtain ⟨h1, h2, h3⟩ := Nx lo hi its.toArray.size
 unfold slicePick
 rw [h1, h2, h3]
 simp only [sliceRange_one, pick_run, List.size_toArray] <;> rfl
def rSlL (K : PySem.W.Frag) : V → Option Int → Option Int → Hp → VK → Prop := fun x lo hi H Q => ∃ a xs, x = .ref a ∧ SqL K H a xs ∧ ∀ p, H p = none → Q (.ref p) (upd H p (.lst (cutV xs lo hi)))
theorem Zp6 : SlR X (rSlL X.K) := by
 intro pins s σ H x v vl vu lo hi sl Q I rx hs pl pu h
 obtain ⟨a, xs, rfl, hx, q⟩ := h
 cases rx
 obtain ⟨its, r, ht, hz⟩ := I.list hx
 have hlen := r.length
 refine ⟨"list", _, slot_list_getitem.lookup, ht.isList.typeIs, ?_⟩
 refine wpAny_getItem_list_slice ht.isList hs pl pu .none (by simp) ?_ (by rw [List.size_toArray] <;> omega)
 rw [Oj, ← hlen]
 refine ⟨.ref s.heap.objs.size, _, I.laid (t' := s.toks) (o := .lst (cutV xs lo hi)) (fun b ob q => Heap.get?_push_of_some _ q) (Nat.le_refl _) ?_, rfl, q _ (I.hok.fresh (Nat.le_refl _))⟩
 exact ⟨Nat.le_trans (Qp xs lo hi) hz, _, 0, (r.drop (HT.sIx xs.length 0 lo)).take (HT.sIx xs.length xs.length hi - HT.sIx xs.length 0 lo), Heap.get?_push_size _ rfl⟩
def Sd : V → Bool
 | .non => true
 | .bl _ => true
 | .int _ => true
 | .str _ => true
 | _ => false
def eqV : V → V → Bool
 | .non, .non => true
 | .bl a, .bl b => a == b
 | .bl a, .int b => (if a then 1 else 0) == b
 | .int a, .bl b => a == (if b then 1 else 0)
 | .int a, .int b => a == b
 | .str a, .str b => a == b
 | _, _ => false
theorem Zw3 {A : Around} {s : Shared} {y x : V} {u v : Value} (ry : RelV y u) (rx : RelV x v) (fy : Sd y = true) (fx : Sd x = true) : SeqAt.EqAt A s u v (eqV y x) := by
 cases y with
 | non =>
  cases ry
  cases x with
  | non => cases rx; exact SeqAt.EqAt.same _
  | bl b => cases rx; exact SeqAt.EqAt.none_bool b
  | int b => obtain ⟨t, rfl⟩ := rx; exact SeqAt.EqAt.none_int b t
  | str b => obtain ⟨t, rfl⟩ := rx; exact SeqAt.EqAt.none_str b t
  | _ => exact absurd (show false = true from fx) Bool.false_ne_true
 | bl a =>
  cases ry
  cases x with
  | non => cases rx; exact SeqAt.EqAt.bool_none a
  | bl b => cases rx; exact SeqAt.EqAt.bool_bool a b
  | int b => obtain ⟨t, rfl⟩ := rx; exact SeqAt.EqAt.bool_int a b t
  | str b => obtain ⟨t, rfl⟩ := rx; exact SeqAt.EqAt.bool_str a b t
  | _ => exact absurd (show false = true from fx) Bool.false_ne_true
 | int a =>
  obtain ⟨t', rfl⟩ := ry
  cases x with
  | non => cases rx; exact SeqAt.EqAt.int_none a t'
  | bl b => cases rx; exact SeqAt.EqAt.int_bool a t' b
  | int b => obtain ⟨t, rfl⟩ := rx; exact SeqAt.EqAt.int_int a t' b t
  | str b => obtain ⟨t, rfl⟩ := rx; exact SeqAt.EqAt.int_str a t' b t
  | _ => exact absurd (show false = true from fx) Bool.false_ne_true
 | str a =>
  obtain ⟨t', rfl⟩ := ry
  cases x with
  | non => cases rx; exact SeqAt.EqAt.str_none a t'
  | bl b => cases rx; exact SeqAt.EqAt.str_bool a t' b
  | int b => obtain ⟨t, rfl⟩ := rx; exact SeqAt.EqAt.str_int a t' b t
  | str b => obtain ⟨t, rfl⟩ := rx; exact SeqAt.EqAt.str_str a t' b t
  | _ => exact absurd (show false = true from fx) Bool.false_ne_true
 | _ => exact absurd (show false = true from fy) Bool.false_ne_true
def eqU (x : V) (u : Value) : Bool := match u with
 | .none => eqV .non x
 | .bool b => eqV (.bl b) x
 | .int i _ => eqV (.int i) x
 | .str z _ => eqV (.str z) x
 | _ => false
theorem Z06 {x y : V} {u : Value} (r : RelV y u) (f : Sd y = true) : eqU x u = eqV y x := by
 cases y with
 | non => cases r; rfl
 | bl b => cases r; rfl
 | int i => obtain ⟨t, rfl⟩ := r; rfl
 | str z => obtain ⟨t, rfl⟩ := r; rfl
 | _ => exact absurd (show false = true from f) Bool.false_ne_true
theorem Qb {x : V} : ∀ {xs : List V} {us : List Value}, Vals xs us → xs.all Sd = true → us.any (eqU x) = xs.any fun y => eqV y x
 | _, _, .nil, _ => rfl
 | y :: xs, u :: us, .cons r t, f => by
  rw [List.all_cons, Bool.and_eq_true] at f
  rw [List.any_cons, List.any_cons, Z06 r f.1, Qb t f.2]
theorem Vn {A : Around} {s : Shared} {x : V} {v : Value} (rx : RelV x v) (fx : Sd x = true) : ∀ {xs : List V} {us : List Value}, Vals xs us → xs.all Sd = true → ∀ u ∈ us, SeqAt.EqAt A s u v (eqU x u)
 | _, _, .nil, _ => fun u hu => by cases hu
 | y :: xs, u :: us, .cons r t, f => fun u' hu => by
  rw [List.all_cons, Bool.and_eq_true] at f
  rcases List.mem_cons.mp hu with rfl | hu
  ·rw [Z06 r f.1]; exact Zw3 r rx f.1 fx
  ·exact Vn rx fx t f.2 u' hu
def inV (x : V) (xs : List V) : Bool := xs.any fun y => eqV y x
def rIn (K : PySem.W.Frag) (neg : Bool) : R2 := fun x y H Q => ∃ p xs, y = .ref p ∧ (SqL K H p xs ∨ SqT K H p xs) ∧ Sd x = true ∧ xs.all Sd = true ∧ Q (.bl (if neg then !inV x xs else inV x xs)) H
theorem Z19 : OpR X (compareOp .In) (rIn X.K false) := by
 intro pins s σ H x y v u Q I rx ry h
 obtain ⟨p, xs, rfl, hq, fx, fs, q⟩ := h
 cases ry
 rcases hq with hq | hq
 ·obtain ⟨its, r, pl, hz⟩ := I.list hq
  refine SeqAt.in_listAt (eqU x) pl.isList (fun w hw => Vn rx fx r fs w (by simpa using hw)) ⟨.bl _, H, I, rfl, ?_⟩
  rw [show its.toArray.any (eqU x) = its.any (eqU x) by simp, Qb r fs]
  exact q
 ·obtain ⟨its, r, pl, hz⟩ := I.tuple hq
  refine SeqAt.in_tupleAt (eqU x) pl (fun w hw => Vn rx fx r fs w (by simpa using hw)) ⟨.bl _, H, I, rfl, ?_⟩
  rw [show its.toArray.any (eqU x) = its.any (eqU x) by simp, Qb r fs]
  exact q
theorem Nm : OpR X (compareOp .NotIn) (rIn X.K true) := by
 intro pins s σ H x y v u Q I rx ry h
 obtain ⟨p, xs, rfl, hq, fx, fs, q⟩ := h
 cases ry
 rcases hq with hq | hq
 ·obtain ⟨its, r, pl, hz⟩ := I.list hq
  refine SeqAt.notIn_listAt (eqU x) pl.isList (fun w hw => Vn rx fx r fs w (by simpa using hw)) ⟨.bl _, H, I, rfl, ?_⟩
  rw [show its.toArray.any (eqU x) = its.any (eqU x) by simp, Qb r fs]
  exact q
 ·obtain ⟨its, r, pl, hz⟩ := I.tuple hq
  refine SeqAt.notIn_tupleAt (eqU x) pl (fun w hw => Vn rx fx r fs w (by simpa using hw)) ⟨.bl _, H, I, rfl, ?_⟩
  rw [show its.toArray.any (eqU x) = its.any (eqU x) by simp, Qb r fs]
  exact q
theorem Sx : Tc X (.builtin "len") (fun xs H Q => ∃ p ys, xs = [.ref p] ∧ (SqL X.K H p ys ∨ SqT X.K H p ys) ∧ Q (.int ys.length) H) := by
 intro pins s σ H xs us Q I r h
 obtain ⟨p, ys, rfl, hq, q⟩ := h
 obtain ⟨u, rfl, rx⟩ := Jv r
 cases rx
 have hn := R7
 rcases hq with hq | hq
 ·obtain ⟨its, r', pl, hz⟩ := I.list hq
  have hlen := r'.length
  exact Calls.call_len_list pl.isList (by simp only [List.size_toArray] <;> omega) ⟨.int ys.length, H, I.tok _, ⟨s.toks + 1, by rw [List.size_toArray, hlen]⟩, q⟩
 ·obtain ⟨its, r', pl, hz⟩ := I.tuple hq
  have hlen := r'.length
  exact len_tuple pl (by simp only [List.size_toArray] <;> omega) ⟨.int ys.length, H, I.tok _, ⟨s.toks + 1, by rw [List.size_toArray, hlen]⟩, q⟩
theorem G3 : Tc X (.builtin "len") (fun xs H Q => ∃ z, xs = [.str z] ∧ z.length ≤ sizeLine ∧ Q (.int z.length) H) := by
 intro pins s σ H xs us Q I r h
 obtain ⟨z, rfl, hz, q⟩ := h
 obtain ⟨u, rfl, t, rfl⟩ := Jv r
 have hn := R7
 exact len_str (by omega) ⟨.int z.length, H, I.tok _, ⟨_, rfl⟩, q⟩
theorem Jg : Tc X (.type "list") (fun xs H Q => ∃ p ys, xs = [.ref p] ∧ (SqL X.K H p ys ∨ SqT X.K H p ys) ∧ ∀ l, H l = none → Q (.ref l) (upd H l (.lst ys))) := by
 intro pins s σ H xs us Q I r h
 obtain ⟨p, ys, rfl, hq, q⟩ := h
 obtain ⟨u, rfl, rx⟩ := Jv r
 cases rx
 have fin : ∀ (its : List Value), Vals ys its → ys.length ≤ sizeLine → ∀ (h' : Heap) (c' : Nat), (∀ b o', s.heap.get? b = some o' → h'.get? b = some o') →
   h'.get? s.heap.objs.size = some { cls := .type "list", dict := none, data := .seq its.toArray c', slots := #[] } → EP X pins σ Q (.ref s.heap.objs.size) { s with heap := h' } := fun its r' hz h' c' kp e =>
  ⟨.ref s.heap.objs.size, _, I.laid (t' := s.toks) kp (Nat.le_refl _) (show X4 X.prog X.w _ h' _ (.lst ys) from ⟨hz, its, c', r', e⟩), rfl, q _ (I.hok.fresh (Nat.le_refl _))⟩
 rcases hq with hq | hq
 ·obtain ⟨its, r', pl, hz⟩ := I.list hq
  have hlen := r'.length
  obtain ⟨o, ho, hc, n, hd⟩ := pl.isList
  exact call_list_seq p (.inl rfl) ho hc hd (fun h' c' kp e => fin its r' hz h' c' kp e) (by simp only [List.size_toArray] <;> omega)
 ·obtain ⟨its, r', pl, hz⟩ := I.tuple hq
  have hlen := r'.length
  obtain ⟨o, ho, hc, n, hd⟩ := pl
  exact call_list_seq p (.inr rfl) ho hc hd (fun h' c' kp e => fin its r' hz h' c' kp e) (by simp only [List.size_toArray] <;> omega)
def tyV (K : PySem.W.Frag) (T : String) (x : V) (H : Hp) : Prop := match x with
 | .str _ => T = "str"
 | .int _ => T = "int"
 | .ref p => (T = "list" ∧ ∃ xs, SqL K H p xs) ∨ (T = "tuple" ∧ ∃ o, K.lookup p = some o ∧ o.cls = .type "tuple" ∧ o.dict = none) ∨
   (T = "dict" ∧ ((∃ kvs, H p = some (.dK kvs)) ∨ ∃ kvs, H p = some (.dT kvs))) ∨ (T = "set" ∧ ∃ S n, H p = some (.set S n))
 | _ => False
theorem Zj0 {pins : List (Addr × Obj)} {σ : St} {H : Hp} {s : Shared} {T : String} {x : V} {v : Value} (I : Inv X pins σ H s) (r : RelV x v) (ty : tyV X.K T x H) :
  s.TypeIs v T ∧ ∀ a, v = .ref a → ∃ ob, s.heap.get? a = some ob ∧ ob.dict = none := by
 cases x with
 | str z =>
  obtain ⟨t, rfl⟩ := r
  cases (show T = "str" from ty)
  exact ⟨typeIs_str s z t, fun _ e => nomatch e⟩
 | int i =>
  obtain ⟨t, rfl⟩ := r
  cases (show T = "int" from ty)
  exact ⟨typeIs_int s i t, fun _ e => nomatch e⟩
 | ref p =>
  cases r
  rcases ty with ⟨rfl, xs, hq⟩ | ⟨rfl, o, hk, hc, hd⟩ | ⟨rfl, hk⟩ | ⟨rfl, S, n, hk⟩
  ·obtain ⟨its, _, pl, _⟩ := I.list hq
   refine ⟨pl.isList.typeIs, fun a e => ?_⟩
   cases e
   obtain ⟨o, n, e, c, hd, _⟩ := pl
   exact ⟨o, e, hd⟩
  ·refine ⟨⟨o, I.kIn p o hk, hc⟩, fun a e => ?_⟩
   cases e
   exact ⟨o, I.kIn _ o hk, hd⟩
  ·have z : ∃ o, s.heap.get? p = some o ∧ o.ExactDict := by
    rcases hk with ⟨kvs, hk⟩ | ⟨kvs, hk⟩
    ·obtain ⟨_, _, _, _, o, _, _, e, ex, _⟩ := I.hok p _ hk
     exact ⟨o, e, ex⟩
    ·obtain ⟨_, _, _, _, o, _, _, e, ex, _⟩ := I.hok p _ hk
     exact ⟨o, e, ex⟩
   obtain ⟨o, e, ex⟩ := z
   refine ⟨⟨o, e, ex.1⟩, fun a e2 => ?_⟩
   cases e2
   exact ⟨o, e, ex.2.1⟩
  ·obtain ⟨o, _, _, _, e, ex, _⟩ := I.hok p _ hk
   refine ⟨⟨o, e, ex.1⟩, fun a e2 => ?_⟩
   cases e2
   exact ⟨o, e, ex.2.1⟩
 | _ => exact False.elim ty
def tBM0 (K : PySem.W.Frag) (T : String) (r : V → List V → Hp → VK → Prop) (to : TE) : TE := fun σ H Q => to σ H fun x H1 => tyV K T x H1 ∧ r x [] H1 Q
def tBM (K : PySem.W.Frag) (T : String) (r : V → List V → Hp → VK → Prop) (to : TE) (t : TA) : TE := fun σ H Q => to σ H fun x H1 => tyV K T x H1 ∧ t σ H1 fun xs H2 => r x xs H2 Q
variable {o e : Expr} {es : List Expr} {to : TE} {t : TA} {name : Str} {apos cpos : Pos} {T id : String} {r : V → List V → Hp → VK → Prop}
theorem Y21 (pa : PlainAttrs T) (slot : Slot T name id) (hty : typeOf (.builtin id) = pure (.type "method_descriptor")) (hm : MtR X id r) (ho : PE X o to)
  (hbase : attributeBase o name X.env (eval o X.env) = eval o X.env := by rfl) (hline : (apos.endLine == cpos.line) = true := by rfl) : PE X (.Call (.Attribute o name apos) [] [] cpos) (tBM0 X.K T r to) := by
 intro pins s σ H Q I h
 refine wpAny_Call_method0_late hbase hline (thn (ho pins s σ H _ I h) fun v s1 ⟨x, H1, I1, r1, ty, q1⟩ => ?_)
 obtain ⟨h1, h2⟩ := Zj0 I1 r1 ty
 exact ⟨T, id, pa, slot, hty, h1, h2, Calls.callWith_builtin rfl (PySem.evalArgs_none (hm pins s1 σ H1 x [] v [] Q I1 r1 .nil q1))⟩
theorem Y55 (pa : PlainAttrs T) (slot : Slot T name id) (hty : typeOf (.builtin id) = pure (.type "method_descriptor")) (hm : MtR X id r) (ho : PE X o to) (ha : PA X (e :: es) t)
  (hbase : attributeBase o name X.env (eval o X.env) = eval o X.env := by rfl)
  (hfew : ((backTo cpos (starEach (e :: es) X.env)).all (fun x => !x.1) && (backToKw cpos (keywordEach [] X.env)).all (fun x => x.1.isSome)
   && decide ((e :: es).length + ([] : List Keyword).length + (if ([] : List Keyword).isEmpty then 0 else 1) < 30)) = true := by rfl)
  (hline : (apos.endLine == cpos.line) = true := by rfl) (hs : starEach (e :: es) X.env = (false, eval e X.env) :: starEach es X.env := by rfl) (hplain : (backTo cpos (starEach es X.env)).any (·.1) = false := by rfl) :
  PE X (.Call (.Attribute o name apos) (e :: es) [] cpos) (tBM X.K T r to t) := by
 intro pins s σ H Q I h
 refine wpAny_Call_method_late hbase hfew hline rfl (thn (ho pins s σ H _ I h) fun v s1 ⟨x, H1, I1, r1, ty, q1⟩ => ?_)
 obtain ⟨h1, h2⟩ := Zj0 I1 r1 ty
 refine ⟨T, id, pa, slot, hty, h1, h2, ?_⟩
 have hA := ha cpos pins s1 σ H1 _ I1 q1
 rw [hs] at hA ⊢
 refine Calls.callWith_builtin (by show (false || (backTo cpos (starEach es X.env)).any (·.1)) = false; rw [hplain] <;> rfl) (Calls.evalArgs_plain ?_)
 exact thn hA fun us s2 ⟨vs, H2, I2, r2, q2⟩ => hm pins s2 σ H2 x vs v us Q I2 r1 r2 q2
end
def MtM (X : Cx) (id : String) (r : V → List V → Hp → VK → Prop) : Prop :=
 ∀ (pins : List (Addr × Obj)) (s : Shared) (σ : St) (H : Hp) (x : V) (xs : List V) (v : Value) (us : List Value) (Q : VK), Inv X pins σ H s → RelV x v → Vals xs us → r x xs H Q →
  wpAny (model X.prog X.w) X.A (call (.builtin id) (v :: us)) (EP X pins σ Q) X.xe s
theorem Vals.one : ∀ {x : V} {us : List Value}, Vals [x] us → ∃ u, us = [u] ∧ RelV x u
 | _, _, .cons r .nil => ⟨_, rfl, r⟩
theorem Vals.zero : ∀ {us : List Value}, Vals [] us → us = []
 | _, .nil => rfl
theorem Vals.dropLast {xs : List V} {us : List Value} (h : Vals xs us) : Vals xs.dropLast us.dropLast := by
 induction h with
 | nil => exact .nil
 | cons r t ih =>
  cases t with
  | nil => exact .nil
  | cons q t' => exact .cons r ih
theorem Vals.reverse {xs : List V} {us : List Value} (h : Vals xs us) : Vals xs.reverse us.reverse := by
 induction h with
 | nil => exact .nil
 | cons r t ih => rw [List.reverse_cons, List.reverse_cons]; exact Vals.append ih (.cons r .nil)
theorem Vals.rep {xs : List V} {us : List Value} (h : Vals xs us) : ∀ k : Nat, Vals (List.replicate k xs).flatten (List.replicate k us).flatten
 | 0 => .nil
 | k + 1 => by
  rw [List.replicate_succ, List.replicate_succ, List.flatten_cons, List.flatten_cons]
  exact Vals.append h (Vals.rep h k)
theorem C7 {α : Type} (l : List α) : l.eraseIdx (l.length - 1) = l.dropLast := by
 induction l with
 | nil => rfl
 | cons a r ih =>
  cases r with
  | nil => rfl
  | cons b r =>
   have e : (a :: b :: r).length - 1 = ((b :: r).length - 1) + 1 := by
    have h1 : (a :: b :: r).length = r.length + 2 := rfl
    have h2 : (b :: r).length = r.length + 1 := rfl
    omega
   rw [e, List.eraseIdx_cons_succ, ih]
   all_goals rfl
theorem Ju (its : List Value) : ∀ (k : Nat) (acc : List Value),
  List.foldl (fun x1 x2 => x1 ++ x2) acc.toArray (List.replicate k its.toArray) = (acc ++ (List.replicate k its).flatten).toArray
 | 0, acc => by simp
 | k + 1, acc => by
  have e : acc.toArray ++ its.toArray = (acc ++ its).toArray := by simp
  have e2 : (acc ++ its) ++ (List.replicate k its).flatten = acc ++ (List.replicate (k + 1) its).flatten := by
   rw [List.replicate_succ, List.flatten_cons, List.append_assoc]
  rw [← e2, ← Ju its k (acc ++ its), ← e, List.replicate_succ, List.foldl_cons]
section
variable {X : Cx} {pins : List (Addr × Obj)} {σ : St} {H : Hp} {s : Shared} {l b : Addr} {xs ys zs : List V}
theorem Inv.lset {its its' : List Value} {n : Nat} {f : Array Value → Array Value} {t' : Nat} (I : Inv X pins σ H s) (hH : H l = some (.lst xs))
  (e : s.heap.get? l = some { cls := .type "list", data := .seq its.toArray n }) (hf : f its.toArray = its'.toArray) (hv : Vals ys its') (hz : ys.length ≤ sizeLine) :
  Inv X pins σ (upd H l (.lst ys)) { s with heap := s.heap.update l (Obj.mapSeq f), toks := t' } := by
 have q := PySem.IsL.update e f
 rw [hf] at q
 refine I.write (x := l) (e := l) (by rw [hH]; exact trivial) (.inl rfl) (fun b' u hb hu => (Heap.get?_update_other s.heap (Obj.mapSeq f) (Ne.symm hb)).trans hu) ⟨_, q⟩ ?_
 exact ⟨hz, its', _, hv, q⟩
theorem Inv.lnew {its : List Value} {t' : Nat} (I : Inv X pins σ H s) (hv : Vals ys its) (hz : ys.length ≤ sizeLine) :
  Inv X pins σ (upd H s.heap.objs.size (.lst ys)) { s with heap := s.heap.push { cls := .type "list", data := .seq its.toArray }, toks := t' } :=
 I.laid (fun _ _ q => Heap.get?_push_of_some _ q) (Nat.le_refl _) ⟨hz, its, 0, hv, Heap.get?_push_size _ rfl⟩
theorem Inv.fresh (I : Inv X pins σ H s) : H s.heap.objs.size = none := I.hok.fresh (Nat.le_refl _)
theorem Inv.lstM (I : Inv X pins σ H s) (hH : H l = some (.lst xs)) : xs.length ≤ sizeLine ∧ ∃ (its : List Value) (n : Nat), Vals xs its ∧ xs.length = its.length ∧ s.heap.get? l = some { cls := .type "list", data := .seq its.toArray n } := by
 obtain ⟨z, its, n, r, e⟩ := I.hok l _ hH
 exact ⟨z, its, n, r, r.length, e⟩
theorem Zc5 {n : Nat} (h : n ≤ sizeLine) : Builtin.List.listTooLong n = false := by
 unfold Builtin.List.listTooLong
 exact decide_eq_false (by omega)
end
section
variable {X : Cx}
def Zo8 : V → List V → Hp → VK → Prop := fun x vs H Q => ∃ l xs y, x = .ref l ∧ vs = [y] ∧ H l = some (.lst xs) ∧ xs.length < sizeLine ∧ Q .non (upd H l (.lst (xs ++ [y])))
theorem Q4 : MtM X "list.append" Zo8 := by
 intro pins s σ H x vs v us Q I rx rv h
 obtain ⟨l, xs, y, rfl, rfl, hH, hz, q⟩ := h
 cases rx
 obtain ⟨u, rfl, ru⟩ := rv.one
 obtain ⟨z, its, n, r, hl, e⟩ := I.lstM hH
 refine call_meets F.slot_list_append ⟨_, e, rfl⟩ F.entry_list_append (F.args_list_append_2 _ _) (PySem.list_append l its.toArray n u (by rw [List.size_toArray]; omega)) ⟨e, ?_⟩
 refine ⟨.non, _, I.lset (its' := its ++ [u]) hH e (by simp) (r.append (.cons ru .nil)) ?_, rfl, q⟩
 rw [List.length_append, List.length_singleton]
 omega
def rPop : V → List V → Hp → VK → Prop := fun x vs H Q => ∃ l xs y, x = .ref l ∧ vs = [] ∧ H l = some (.lst xs) ∧ xs[xs.length - 1]? = some y ∧ Q y (upd H l (.lst xs.dropLast))
theorem Zz8 : MtM X "list.pop" rPop := by
 intro pins s σ H x vs v us Q I rx rv h
 obtain ⟨l, xs, y, rfl, rfl, hH, hy, q⟩ := h
 cases rx
 have hus := rv.zero
 subst hus
 obtain ⟨z, its, n, r, hl, e⟩ := I.lstM hH
 obtain ⟨u, hu, ru⟩ := r.get hy
 have hy' : its.toArray[its.toArray.size - 1]? = some u := by
  show its.toArray[its.length - 1]? = some u
  rw [← Array.getElem?_toList, ← hl]
  exact hu
 refine call_meets F.slot_list_pop ⟨_, e, rfl⟩ F.entry_list_pop (F.args_list_pop_1 _) (MeetsSeq.list_pop_last l its.toArray n u hy' (by rw [List.size_toArray]; omega)) ⟨e, ?_⟩
 refine ⟨y, _, I.lset (its' := its.dropLast) hH e ?_ r.dropLast ?_, ru, q⟩
 ·show its.toArray.eraseIdxIfInBounds (its.toArray.size - 1) = its.dropLast.toArray
  rw [List.size_toArray, List.eraseIdxIfInBounds_toArray, C7]
 ·rw [List.length_dropLast]
  omega
def Ze0 : V → List V → Hp → VK → Prop := fun x vs H Q => ∃ l xs, x = .ref l ∧ vs = [] ∧ H l = some (.lst xs) ∧ Q .non (upd H l (.lst xs.reverse))
theorem C3 : MtM X "list.reverse" Ze0 := by
 intro pins s σ H x vs v us Q I rx rv h
 obtain ⟨l, xs, rfl, rfl, hH, q⟩ := h
 cases rx
 have hus := rv.zero
 subst hus
 obtain ⟨z, its, n, r, hl, e⟩ := I.lstM hH
 refine call_meets F.slot_list_reverse ⟨_, e, rfl⟩ F.entry_list_reverse (F.args_list_reverse_1 _) (AutoSeq1.list_reverse_list_0 l its.toArray n (by rw [List.size_toArray]; omega)) ⟨e, ?_⟩
 refine ⟨.non, _, I.lset (its' := its.reverse) hH e (by simp) r.reverse ?_, rfl, q⟩
 rw [List.length_reverse]
 omega
def Y07 : V → List V → Hp → VK → Prop := fun x vs H Q => ∃ l xs, x = .ref l ∧ vs = [] ∧ H l = some (.lst xs) ∧ Q .non (upd H l (.lst []))
theorem Z95 : MtM X "list.clear" Y07 := by
 intro pins s σ H x vs v us Q I rx rv h
 obtain ⟨l, xs, rfl, rfl, hH, q⟩ := h
 cases rx
 have hus := rv.zero
 subst hus
 obtain ⟨z, its, n, r, hl, e⟩ := I.lstM hH
 refine call_meets F.slot_list_clear ⟨_, e, rfl⟩ F.entry_list_clear (F.args_list_clear_1 _) (AutoSeq1.list_clear_list_0 l its.toArray n (by rw [List.size_toArray]; omega)) ⟨e, ?_⟩
 exact ⟨.non, _, I.lset (its' := []) (ys := []) hH e rfl .nil (Nat.zero_le _), rfl, q⟩
def rCat : R2 := fun x y H Q => ∃ l b xs zs, x = .ref l ∧ y = .ref b ∧ H l = some (.lst xs) ∧ H b = some (.lst zs) ∧ xs.length + zs.length ≤ sizeLine ∧ ∀ p, H p = none → Q (.ref p) (upd H p (.lst (xs ++ zs)))
theorem Zu3 : OpR X (binaryOp .Add) rCat := by
 intro pins s σ H x y v u Q I rx ry h
 obtain ⟨l, b, xs, zs, rfl, rfl, hH, hB, hz, q⟩ := h
 cases rx
 cases ry
 obtain ⟨z, its, n, r, hl, e⟩ := I.lstM hH
 obtain ⟨z2, its2, n2, r2, hl2, e2⟩ := I.lstM hB
 refine PySem.P.add_list e e2 ?_ (by rw [List.size_toArray, List.size_toArray]; omega)
 have ea : its.toArray ++ its2.toArray = (its ++ its2).toArray := by simp
 rw [ea]
 exact ⟨.ref _, _, I.lnew (t' := s.toks) (r.append r2) (by rw [List.length_append]; omega), rfl, q _ I.fresh⟩
def rRep : R2 := fun x y H Q => ∃ l k xs, x = .ref l ∧ y = .int k ∧ H l = some (.lst xs) ∧ -(2 ^ 63) ≤ k ∧ k < 2 ^ 63 ∧ xs.length * k.toNat ≤ sizeLine ∧
 ∀ p, H p = none → Q (.ref p) (upd H p (.lst (List.replicate k.toNat xs).flatten))
theorem Zo1 {α : Type} (xs : List α) (k : Nat) : (List.replicate k xs).flatten.length = k * xs.length := by
 induction k with
 | zero => simp
 | succ k ih => rw [List.replicate_succ, List.flatten_cons, List.length_append, ih, Nat.succ_mul, Nat.add_comm]
theorem Y10 : OpR X (binaryOp .Mult) rRep := by
 intro pins s σ H x y v u Q I rx ry h
 obtain ⟨l, k, xs, rfl, rfl, hH, h1, h2, hz, q⟩ := h
 cases rx
 obtain ⟨t, rfl⟩ := ry
 obtain ⟨z, its, n, r, hl, e⟩ := I.lstM hH
 have hlen : its.toArray.size * k.toNat ≤ sizeLine := by rw [List.size_toArray, ← hl]; exact hz
 have hcap : ¬ its.toArray.size * k.toNat > (2 ^ 63 - 1) / 8 := by
  have : (sizeLine : Nat) ≤ (2 ^ 63 - 1) / 8 := by decide
  omega
 have hfit : ¬ (!Builtin.List.listFitsIndex k) = true := by
  rw [fitsIndex_both h1 h2]
  exact Bool.false_ne_true
 have hlong : ¬ Builtin.List.listTooLong (its.toArray.size * k.toNat) = true := by
  rw [Zc5 hlen]
  exact Bool.false_ne_true
 have hnew : List.foldl (fun x1 x2 => x1 ++ x2) #[] (List.replicate (if its.toArray.isEmpty = true then 0 else k.toNat) its.toArray) = (List.replicate k.toNat its).flatten.toArray := by
  have f0 : ∀ m : Nat, List.foldl (fun x1 x2 => x1 ++ x2) #[] (List.replicate m its.toArray) = (List.replicate m its).flatten.toArray := fun m => by
   have := Ju its m []
   rw [List.nil_append] at this
   exact this
  rw [f0]
  cases its with
  | nil => simp
  | cons a r' => rw [if_neg (by simp)]
 refine wpAny_binaryOp_repeat_ref (T := "list") (U := "int") (by decide) ⟨_, e, rfl⟩ (fun s' => typeIs_int s' k t) noFill_list_mul F.fills_int_mul F.slot_int_rmul repeat_list F.slot_int_index.lookup
  (call_meets F.slot_int_rmul (typeIs_int s k t) F.entry_int_rmul (F.args_int_rmul_2 _ _) (int___rmul___int_list k t l its.toArray n)
   ⟨e, rfl, ⟨_, e, rfl⟩, call_meets F.slot_list_mul ⟨_, e, rfl⟩ F.entry_list_mul (F.args_list_mul_2 _ _) (AutoListH.list___mul___list_int_3 l its.toArray n k t hfit hcap hlong) ⟨e, ?_⟩⟩)
 rw [hnew]
 exact ⟨.ref _, _, I.lnew (t' := s.toks) (r.rep k.toNat) (by rw [Zo1, Nat.mul_comm]; exact hz), rfl, q _ I.fresh⟩
end
section
variable {prog : Program} {w : World} {A : Around} {E : Value → Shared → Prop} {s : Shared}
set_option maxRecDepth 100000 in
end
section
variable {X : Cx}
end
section
variable {κ : Type} [DecidableEq κ]
def valV (kvs : List (κ × V)) (k : κ) : Option V := (kvs.find? fun kv => decide (kv.1 = k)).map (·.2)
def putK (kvs : List (κ × V)) (k : κ) (v : V) : List (κ × V) :=
 if (kvs.any fun kv => decide (kv.1 = k)) = true then kvs.map (fun kv => if kv.1 = k then (kv.1, v) else kv) else kvs ++ [(k, v)]
theorem Ov {p : κ × V} {r : List (κ × V)} {k : κ} (e : p.1 = k) : valV (p :: r) k = some p.2 := by simp [valV, List.find?_cons, e]
theorem N8 {p : κ × V} {r : List (κ × V)} {k : κ} (e : ¬ p.1 = k) : valV (p :: r) k = valV r k := by simp [valV, List.find?_cons, e]
theorem Fw (k : κ) : ∀ kvs : List (κ × V), (kvs.any fun kv => decide (kv.1 = k)) = (valV kvs k).isSome
 | [] => rfl
 | p :: r => by
  rw [List.any_cons]
  by_cases e : p.1 = k
  ·simp only [Ov e, decide_eq_true e, Bool.true_or, Option.isSome_some]
  ·rw [N8 e, decide_eq_false e, Bool.false_or]; exact Fw k r
theorem T4 (kvs : List (κ × V)) (k : κ) (v : V) : (putK kvs k v).length ≤ kvs.length + 1 := by
 unfold putK
 split
 ·rw [List.length_map]; omega
 ·rw [List.length_append, List.length_cons, List.length_nil]; omega
theorem RelO.isSome_eq {o : Option V} {u : Option Value} (r : RelO o u) : o.isSome = u.isSome := by
 cases o with
 | none => cases u with
  | none => rfl
  | some _ => exact (show False from r).elim
 | some _ => cases u with
  | none => exact (show False from r).elim
  | some _ => rfl
theorem RelO.getD {o : Option V} {u : Option Value} {d : V} {d' : Value} (r : RelO o u) (rd : RelV d d') : RelV (o.getD d) (u.getD d') := by
 cases o with
 | none => cases u with
  | none => exact rd
  | some _ => exact (show False from r).elim
 | some _ => cases u with
  | none => exact (show False from r).elim
  | some _ => exact r
theorem KV.val {kvs : List (κ × V)} {vs : List (κ × Value)} (r : KV kvs vs) (k : κ) : RelO (valV kvs k) (valueAt vs k) := by
 unfold KV at r
 induction r with
 | nil => exact True.intro
 | @cons p q ps qs h t ih =>
  obtain ⟨h1, h2⟩ := h
  by_cases e : p.1 = k
  ·have e' : q.1 = k := h1.symm.trans e
   have b : valueAt (q :: qs) k = some q.2 := by simp [valueAt, List.find?_cons, e']
   rw [Ov e, b]; exact h2
  ·have e' : ¬ q.1 = k := fun z => e (h1.trans z)
   have b : valueAt (q :: qs) k = valueAt qs k := by simp [valueAt, List.find?_cons, e']
   rw [N8 e, b]; exact ih
theorem KV.any {kvs : List (κ × V)} {vs : List (κ × Value)} (r : KV kvs vs) (k : κ) : (kvs.any fun kv => decide (kv.1 = k)) = vs.any fun kv => decide (kv.1 = k) := by
 unfold KV at r
 induction r with
 | nil => rfl
 | cons h t ih => rw [List.any_cons, List.any_cons, ih, h.1]
theorem KV.repl {kvs : List (κ × V)} {vs : List (κ × Value)} (r : KV kvs vs) (k : κ) {y : V} {u : Value} (ry : RelV y u) :
  KV (kvs.map fun kv => if kv.1 = k then (kv.1, y) else kv) (vs.map fun kv => if kv.1 = k then (kv.1, u) else kv) := by
 unfold KV at r ⊢
 induction r with
 | nil => exact .nil
 | @cons p q ps qs h t ih =>
  rw [List.map_cons, List.map_cons]
  refine .cons ?_ ih
  obtain ⟨h1, h2⟩ := h
  by_cases e : p.1 = k
  ·rw [if_pos e, if_pos (h1.symm.trans e)]; exact ⟨h1, ry⟩
  ·rw [if_neg e, if_neg (fun z => e (h1.trans z))]; exact ⟨h1, h2⟩
theorem KV.put {kvs : List (κ × V)} {vs : List (κ × Value)} (r : KV kvs vs) (k : κ) {y : V} {u : Value} (ry : RelV y u) : KV (putK kvs k y) (stored vs k u) := by
 unfold putK stored
 rw [r.any k]
 by_cases e : (vs.any fun kv => decide (kv.1 = k)) = true
 ·rw [if_pos e, if_pos e]; exact r.repl k ry
 ·rw [if_neg e, if_neg e]; exact Paired.snoc r ⟨rfl, ry⟩
theorem KV.length {kvs : List (κ × V)} {vs : List (κ × Value)} (r : KV kvs vs) : kvs.length = vs.length := Paired.length r
end
theorem Nn {P : Program} {w : World} {k : Key} {u : Value} (r : RelV (kV k) u) : (Yn P w).is k u = true := by
 cases k with
 | inl i => obtain ⟨t, e⟩ := (show ∃ t, u = Value.int i t from r); subst e; exact Gm P w i t
 | inr x => obtain ⟨t, e⟩ := (show ∃ t, u = Value.str x t from r); subst e; exact Gy P w x t
theorem Jc {P : Program} {w : World} : ∀ {ks : List Key} {us : List Value}, Vals (ks.map kV) us → ItemsAre (Yn P w) ks us
 | [], _, r => by rw [List.map_nil] at r; cases r; exact .nil
 | k :: ks, _, r => by
  rw [List.map_cons] at r
  cases r with
  | cons h t => exact .cons (Nn h) (Jc t)
abbrev KT (H : Hp) : List (List Key × V) → List (List Key × Addr × Value) → Prop := Paired fun p q => p.1 = q.1 ∧ H q.2.1 = some (.tup (p.1.map kV)) ∧ RelV p.2 q.2.2
theorem KT.val {H : Hp} {kvs : List (List Key × V)} {xs : List (List Key × Addr × Value)} (r : KT H kvs xs) (k : List Key) : RelO (valV kvs k) ((atKey xs k).map (·.2)) := by
 induction r with
 | nil => exact True.intro
 | @cons p q ps qs h t ih =>
  obtain ⟨h1, _, h2⟩ := h
  by_cases e : p.1 = k
  ·have e' : q.1 = k := h1.symm.trans e
   have b : atKey (q :: qs) k = some q.2 := by simp [atKey, List.find?_cons, e']
   rw [Ov e, b]; exact h2
  ·have e' : ¬ q.1 = k := fun z => e (h1.trans z)
   have b : atKey (q :: qs) k = atKey qs k := by simp [atKey, List.find?_cons, e']
   rw [N8 e, b]; exact ih
theorem KT.repl {H : Hp} {kvs : List (List Key × V)} {xs : List (List Key × Addr × Value)} (r : KT H kvs xs) (k : List Key) {y : V} {u : Value} (ry : RelV y u) :
  KT H (kvs.map fun kv => if kv.1 = k then (kv.1, y) else kv) (xs.map (putAt k u)) := by
 induction r with
 | nil => exact .nil
 | @cons p q ps qs h t ih =>
  rw [List.map_cons, List.map_cons]
  refine .cons ?_ ih
  obtain ⟨h1, h2, h3⟩ := h
  unfold putAt
  by_cases e : p.1 = k
  ·rw [if_pos e, if_pos (h1.symm.trans e)]; exact ⟨h1, h2, ry⟩
  ·rw [if_neg e, if_neg (fun z => e (h1.trans z))]; exact ⟨h1, h2, h3⟩
theorem KT.put {H : Hp} {kvs : List (List Key × V)} {xs : List (List Key × Addr × Value)} (r : KT H kvs xs) (k : List Key) {b : Addr} {y : V} {u : Value} (hb : H b = some (.tup (k.map kV))) (ry : RelV y u) :
  KT H (putK kvs k y) (storedH xs k b u) := by
 have e : (kvs.any fun kv => decide (kv.1 = k)) = (atKey xs k).isSome := by
  rw [Fw, (r.val k).isSome_eq, Option.isSome_map]
 unfold putK storedH
 rw [e]
 by_cases q : (atKey xs k).isSome = true
 ·rw [if_pos q, if_pos q]; exact r.repl k ry
 ·rw [if_neg q, if_neg q]; exact Paired.snoc r ⟨rfl, hb, ry⟩
theorem KT.keeps {H H' : Hp} {kvs : List (List Key × V)} {xs : List (List Key × Addr × Value)} (r : KT H kvs xs) (ht : ∀ b ys, H b = some (.tup ys) → H' b = some (.tup ys)) : KT H' kvs xs :=
 Paired.mapP r fun _ _ z => ⟨z.1, ht _ _ z.2.1, z.2.2⟩
section
variable {P : Program} {w : World} {H : Hp} {h : Heap} {a : Addr}
theorem Zz2 {u : HO} (ok : HOk P w H h) (e : Rd H a u) : X4 P w H h a u := e.ok ok
theorem G7 {kvs : List (Key × V)} (ok : HOk P w H h) (e : Rd H a (.dK kvs)) : kvs.length ≤ sizeLine ∧ (a == sysModules) = false ∧ ∃ vs, KV kvs vs ∧ h.DictOf (Yn P w) a vs :=
 show X4 P w H h a (.dK kvs) from Zz2 ok e
theorem Zu1 {kvs : List (Key × V)} (ok : HOk P w H h) (e : H a = some (.dK kvs)) : kvs.length ≤ sizeLine ∧ (a == sysModules) = false ∧ ∃ vs, KV kvs vs ∧ h.DictOf (Yn P w) a vs := G7 ok (.inl e)
theorem Pq {ks : List Key} (ok : HOk P w H h) (e : H a = some (.tup (ks.map kV))) : (tupleKind (Yn P w)).is h ks a := by
 obtain ⟨_, its, r, o, h1, h2, n, h3⟩ := (show X4 P w H h a (.tup (ks.map kV)) from ok a _ e)
 exact ⟨o, its.toArray, n, h1, h2, h3, by simpa using Jc r⟩
theorem C8 {kvs : List (List Key × V)} (ok : HOk P w H h) (e : Rd H a (.dT kvs)) : kvs.length ≤ sizeLine ∧ (a == sysModules) = false ∧
  ∃ xs, KT H kvs xs ∧ h.DictOfH (tupleKind (Yn P w)) a xs := by
 obtain ⟨z, y, xs, r, o, es, ep, h1, h2, h3, h4, h5⟩ := (show X4 P w H h a (.dT kvs) from Zz2 ok e)
 refine ⟨z, y, xs, r, o, es, ep, h1, h2, h3, h4, fun x hx => ?_, h5⟩
 have all : ∀ {l : List (List Key × V)} {m : List (List Key × Addr × Value)}, KT H l m → ∀ x ∈ m, (tupleKind (Yn P w)).is h x.1 x.2.1 := by
  intro l m q
  induction q with
  | nil => intro x hx; exact nomatch hx
  | @cons p q ps qs hq t ih =>
   intro x hx
   rcases List.mem_cons.mp hx with e | hx
   ·subst e
    exact Pq ok (by rw [← hq.1]; exact hq.2.1)
   ·exact ih x hx
 exact all r x hx
theorem Y52 {kvs : List (List Key × V)} (ok : HOk P w H h) (e : H a = some (.dT kvs)) : kvs.length ≤ sizeLine ∧ (a == sysModules) = false ∧
  ∃ xs, KT H kvs xs ∧ h.DictOfH (tupleKind (Yn P w)) a xs := C8 ok (.inl e)
end
def DGet (H : Hp) (a : Addr) (y : V) (r : Option V) : Prop :=
 (∃ kvs k, Rd H a (.dK kvs) ∧ y = kV k ∧ r = valV kvs k) ∨ ∃ kvs k b, Rd H a (.dT kvs) ∧ y = .ref b ∧ H b = some (.tup (k.map kV)) ∧ r = valV kvs k
def DPut (H : Hp) (a : Addr) (y v : V) (H' : Hp) : Prop :=
 (∃ kvs k, H a = some (.dK kvs) ∧ y = kV k ∧ kvs.length < sizeLine ∧ H' = upd H a (.dK (putK kvs k v))) ∨
 ∃ kvs k b, H a = some (.dT kvs) ∧ y = .ref b ∧ H b = some (.tup (k.map kV)) ∧ kvs.length < sizeLine ∧ H' = upd H a (.dT (putK kvs k v))
theorem DGet.k {H : Hp} {a : Addr} {kvs : List (Key × V)} {k : Key} (e : H a = some (.dK kvs)) : DGet H a (kV k) (valV kvs k) := .inl ⟨kvs, k, .inl e, rfl, rfl⟩
theorem DGet.t {H : Hp} {a b : Addr} {kvs : List (List Key × V)} {k : List Key} (e : H a = some (.dT kvs)) (eb : H b = some (.tup (k.map kV))) : DGet H a (.ref b) (valV kvs k) := .inr ⟨kvs, k, b, .inl e, rfl, eb, rfl⟩
theorem DPut.k {H : Hp} {a : Addr} {kvs : List (Key × V)} {k : Key} {v : V} (e : H a = some (.dK kvs)) (hl : kvs.length < sizeLine) : DPut H a (kV k) v (upd H a (.dK (putK kvs k v))) := .inl ⟨kvs, k, e, rfl, hl, rfl⟩
theorem DPut.t {H : Hp} {a b : Addr} {kvs : List (List Key × V)} {k : List Key} {v : V} (e : H a = some (.dT kvs)) (eb : H b = some (.tup (k.map kV))) (hl : kvs.length < sizeLine) :
  DPut H a (.ref b) v (upd H a (.dT (putK kvs k v))) := .inr ⟨kvs, k, b, e, rfl, eb, hl, rfl⟩
section
variable {X : Cx} {pins : List (Addr × Obj)} {σ : St} {H : Hp} {s : Shared} {a : Addr} {y v : V} {u r : Value} {o : Option V} {A : Around} {E : Value → Shared → Prop}
theorem Inv.big (I : Inv X pins σ H s) : sysModules < s.heap.objs.size := by
 have h : mainGlobals < s.heap.objs.size := (I.mod.glob.keeps I.bk).lt
 exact Nat.lt_trans (by decide) h
theorem Z59 {Q : Value → Shared → Prop} (hu : A.units + 1 < cLine) (I : Inv X pins σ H s) (g : DGet H a y (some v)) (ry : RelV y u) (h : ∀ w' s', Inv X pins σ H s' → RelV v w' → Q w' s') :
  wpAny (model X.prog X.w) A (getItem (.ref a) u) Q E s := by
 rcases g with ⟨kvs, k, e, ey, l⟩ | ⟨kvs, k, b, e, ey, eb, l⟩
 ·subst ey
  obtain ⟨z, hd, vs, rel, dd⟩ := G7 I.hok e
  obtain ⟨w', hw, rw'⟩ := RelO.some_of (v := v) (o := valueAt vs k) (by rw [l]; exact rel.val k)
  exact wpAny_getItem_of (Nn ry) dd.mapOf hw (h w' _ (I.tok _) rw')
 ·subst ey
  cases (show u = Value.ref b from ry)
  obtain ⟨z, hd, xs, rel, dd⟩ := C8 I.hok e
  obtain ⟨w', hw, rw'⟩ := RelO.some_of (v := v) (o := (atKey xs k).map (·.2)) (by rw [l]; exact rel.val k)
  obtain ⟨p, hp, hp2⟩ := Option.map_eq_some_iff.mp hw
  refine wpAny_getItem_heap (tupleKind_room_in1 hu) (Pq I.hok eb) dd hp ?_
  rw [hp2]
  exact h w' _ (I.tok _) rw'
theorem d_in {Q : Value → Shared → Prop} (hu : A.units + 1 < cLine) (I : Inv X pins σ H s) (g : DGet H a y o) (ry : RelV y u) (h : ∀ s', Inv X pins σ H s' → Q (.bool o.isSome) s') :
  wpAny (model X.prog X.w) A (compareOp .In u (.ref a)) Q E s := by
 rcases g with ⟨kvs, k, e, ey, l⟩ | ⟨kvs, k, b, e, ey, eb, l⟩
 ·subst ey
  obtain ⟨z, hd, vs, rel, dd⟩ := G7 I.hok e
  refine wpAny_in_of (Nn ry) hd dd.mapOf ?_
  rw [← (rel.val k).isSome_eq, ← l]
  exact h _ (I.tok _)
 ·subst ey
  cases (show u = Value.ref b from ry)
  obtain ⟨z, hd, xs, rel, dd⟩ := C8 I.hok e
  refine wpAny_in_heap (tupleKind_room_in1 hu) (Pq I.hok eb) hd dd ?_
  have q := (rel.val k).isSome_eq
  rw [Option.isSome_map] at q
  rw [← q, ← l]
  exact h _ (I.tok _)
theorem Zm1 {Q : Value → Shared → Prop} (hu : A.units + 1 < cLine) (I : Inv X pins σ H s) (g : DGet H a y o) (ry : RelV y u) (h : ∀ s', Inv X pins σ H s' → Q (.bool (!o.isSome)) s') :
  wpAny (model X.prog X.w) A (compareOp .NotIn u (.ref a)) Q E s := by
 rcases g with ⟨kvs, k, e, ey, l⟩ | ⟨kvs, k, b, e, ey, eb, l⟩
 ·subst ey
  obtain ⟨z, hd, vs, rel, dd⟩ := G7 I.hok e
  refine wpAny_notIn_of (Nn ry) hd dd.mapOf ?_
  rw [← (rel.val k).isSome_eq, ← l]
  exact h _ (I.tok _)
 ·subst ey
  cases (show u = Value.ref b from ry)
  obtain ⟨z, hd, xs, rel, dd⟩ := C8 I.hok e
  refine wpAny_notIn_heap (tupleKind_room_in1 hu) (Pq I.hok eb) hd dd ?_
  have q := (rel.val k).isSome_eq
  rw [Option.isSome_map] at q
  rw [← q, ← l]
  exact h _ (I.tok _)
theorem Gu {h' : Heap} {t' : Nat} {ob : HO} (I : Inv X pins σ H s) (mu : Mut (H a)) (hs : Heap.SameBut a s.heap h') (he : ∃ q, h'.get? a = some q) (new : X4 X.prog X.w (upd H a ob) h' a ob) :
  Inv X pins σ (upd H a ob) { s with heap := h', toks := t' } :=
 I.write (x := a) (e := a) mu (.inl rfl) (fun b q hb z => (hs.2 b hb).trans z) he new
theorem Zj7 {P : Program} {w : World} {H' : Hp} {h' : Heap} {kvs : List (Key × V)} {vs : List (Key × Value)} (z : kvs.length ≤ sizeLine) (hd : (a == sysModules) = false) (rel : KV kvs vs) (dd : h'.DictOf (Yn P w) a vs) :
  X4 P w H' h' a (.dK kvs) := ⟨z, hd, vs, rel, dd⟩
theorem Z78 {H' : Hp} {Q : Unit → Shared → Prop} (hu : A.units + 1 < cLine) (I : Inv X pins σ H s) (g : DPut H a y v H') (ry : RelV y u) (rv : RelV v r) (h : ∀ s', Inv X pins σ H' s' → Q () s') :
  wpAny (model X.prog X.w) A (setItem (.ref a) u r) Q E s := by
 rcases g with ⟨kvs, k, e, ey, l, eH⟩ | ⟨kvs, k, b, e, ey, eb, l, eH⟩
 ·subst ey eH
  obtain ⟨z, hd, vs, rel, dd⟩ := Zu1 I.hok e
  have hz : vs.length ≤ sizeLine := by rw [← rel.length]; exact z
  have hl : (putK kvs k v).length ≤ sizeLine := by have := T4 kvs k v; omega
  refine wpAny_setItem_pairs (hsz := hz) (Nn ry) dd fun h' dd' hs => h _ ?_
  have he : ∃ q, h'.get? a = some q := let ⟨q, _, _, hq, _⟩ := dd'; ⟨q, hq⟩
  exact Gu I (by rw [e]; exact True.intro) hs he (Zj7 hl hd (rel.put k rv) dd')
 ·subst ey eH
  cases (show u = Value.ref b from ry)
  obtain ⟨z, hd, xs, rel, dd⟩ := Y52 I.hok e
  have hz : xs.length ≤ sizeLine := by rw [← Paired.length rel]; exact z
  have hl : (putK kvs k v).length ≤ sizeLine := by have := T4 kvs k v; omega
  refine wpAny_setItem_heap (hsz := hz) (tupleKind_room_in1 hu) (Pq I.hok eb) dd fun h' dd' hs => h _ ?_
  obtain ⟨q, es, ep, hq, h2, h3, h4, _, h5⟩ := dd'
  refine Gu I (by rw [e]; exact True.intro) hs ⟨q, hq⟩ ⟨hl, hd, _, (rel.put k eb rv).keeps fun c ys ec => ?_, q, es, ep, hq, h2, h3, h4, h5⟩
  rw [Zl (Y48 ec e (fun z => nomatch z))]
  exact ec
end
section
variable {X : Cx} {pins : List (Addr × Obj)} {σ : St} {H : Hp} {s : Shared} {a : Addr} {kvs : List (Key × V)} {k : Key} {u : Value} {A : Around} {E : Value → Shared → Prop}
theorem Y57 {Q : Value → Shared → Prop} (I : Inv X pins σ H s) (e : Rd H a (.dK kvs)) (h : ∀ t s', Inv X pins σ H s' → Q (.int kvs.length t) s') : wpAny (model X.prog X.w) A (call (.builtin "len") [.ref a]) Q E s := by
 obtain ⟨z, hd, vs, rel, dd⟩ := G7 I.hok e
 refine call_len_dict hd dd (by rw [← rel.length]; rw [sizeLine_eq] at z; omega) ?_
 rw [← rel.length]
 exact h _ _ (I.tok _)
end
theorem Gr {X : Cx} {pins : List (Addr × Obj)} {σ : St} {H : Hp} {s : Shared} {a : Addr} {y : V} {o : Option V} (I : Inv X pins σ H s) (g : DGet H a y o) : s.TypeIs (.ref a) "dict" := by
 rcases g with ⟨kvs, k, e, _, _⟩ | ⟨kvs, k, b, e, _, _, _⟩
 ·obtain ⟨_, _, vs, _, dd⟩ := G7 I.hok e
  exact dd.typeIs
 ·obtain ⟨_, _, xs, _, dd⟩ := C8 I.hok e
  exact dd.typeIs
section
variable {X : Cx} {o i e value : Expr} {pos pos' tpos : Pos} {td ty tv : TE}
end
theorem Fe {P : Program} {w : World} {H : Hp} (h : Heap) (hb : sysModules < h.objs.size) : X4 P w H (h.push { cls := .type "dict", data := .dict #[] }) h.objs.size (.dK []) :=
 ⟨Nat.zero_le _, beq_eq_false_iff_ne.mpr (Ne.symm (Nat.ne_of_lt hb)), [], .nil, Heap.DictOf.new h⟩
def Zw7 : TE := fun _ H Q => ∀ p, H p = none → Q (.ref p) (upd H p (.dK []))
section
variable {X : Cx} {pos : Pos}
theorem Zg9 : PE X (.Dict [] [] pos) Zw7 := fun pins s σ H Q I h =>
 wpAny_Dict_empty ⟨.ref s.heap.objs.size, _, I.laid (a := s.heap.objs.size) (o := .dK []) (t' := s.toks) (fun _ _ q => Heap.get?_push_of_some _ q) (Nat.le_refl _) (Fe s.heap I.big), rfl, h _ (I.hok.fresh (Nat.le_refl _))⟩
end
def Z56 : List (TE × TE) → St → Hp → (List (V × V) → Hp → Prop) → Prop
 | [], _, H, Q => Q [] H
 |(tk, tv) :: r, σ, H, Q => tk σ H fun x H1 => tv σ H1 fun y H2 => Z56 r σ H2 fun ps H3 => Q ((x, y) :: ps) H3
abbrev VV : List (V × V) → List (Value × Value) → Prop := Paired fun p q => RelV p.1 q.1 ∧ RelV p.2 q.2
def PPs (X : Cx) (pos : Pos) (keys : List (Option Expr)) (values : List Expr) (trs : List (TE × TE)) : Prop :=
 ∀ (pins : List (Addr × Obj)) (s : Shared) (σ : St) (H : Hp) (Q : List (V × V) → Hp → Prop), Inv X pins σ H s → Z56 trs σ H Q →
  wpAny (model X.prog X.w) X.A (evalPairs (pairTrees keys values X.env pos)) (fun vs s' => ∃ ps H', Inv X pins σ H' s' ∧ VV ps vs ∧ Q ps H') X.xe s
theorem Zl9 {X : Cx} {pos : Pos} : PPs X pos [] [] [] := fun pins s σ H Q I h => pairTrees_nil_walk ⟨[], H, I, .nil, h⟩
theorem Zb5 {X : Cx} {pos : Pos} {k v : Expr} {ks : List (Option Expr)} {vs : List Expr} {tk tv : TE} {trs : List (TE × TE)} (hk : PE X k tk) (hv : PE X v tv) (hr : PPs X pos ks vs trs) :
  PPs X pos (some k :: ks) (v :: vs) ((tk, tv) :: trs) := fun pins s σ H Q I h =>
 pairTrees_cons_walk (thn (hk pins s σ H _ I h) fun u s1 ⟨x, H1, I1, rx, q1⟩ => thn (hv pins s1 σ H1 _ I1 q1) fun w2 s2 ⟨y, H2, I2, ry, q2⟩ =>
  thn (hr pins s2 σ H2 _ I2 q2) fun ws s3 ⟨ps, H3, I3, rel, q3⟩ => ⟨(x, y) :: ps, H3, I3, .cons ⟨rx, ry⟩ rel, q3⟩)
def O4 (kvs more : List (Key × V)) : List (Key × V) := more.foldl (fun acc kv => putK acc kv.1 kv.2) kvs
theorem KV.merge : ∀ {more : List (Key × V)} {rs : List (Key × Value)} {kvs : List (Key × V)} {vs : List (Key × Value)}, KV more rs → KV kvs vs → KV (O4 kvs more) (merged vs rs) := by
 intro more rs kvs vs r
 unfold KV at r
 induction r generalizing kvs vs with
 | nil => intro q; exact q
 | @cons p q ps qs h t ih =>
  intro r0
  have e : KV (putK kvs p.1 p.2) (stored vs q.1 q.2) := by
   have := r0.put p.1 h.2
   rw [← h.1]; exact this
  exact ih e
theorem Td : ∀ (more kvs : List (Key × V)), (O4 kvs more).length ≤ kvs.length + more.length
 | [], kvs => by show kvs.length ≤ kvs.length + 0; omega
 | p :: r, kvs => by
  have h1 := Td r (putK kvs p.1 p.2)
  have h2 := T4 kvs p.1 p.2
  show (O4 (putK kvs p.1 p.2) r).length ≤ _
  rw [List.length_cons]; omega
theorem O6 {P : Program} {w : World} : ∀ {kvs : List (Key × V)} {ws : List (Value × Value)}, VV (kvs.map fun kv => (kV kv.1, kv.2)) ws → ∃ rs, Carries (Yn P w) ws rs ∧ KV kvs rs
 | [], _, r => by rw [List.map_nil] at r; cases r; exact ⟨[], True.intro, .nil⟩
 | p :: kvs, _, r => by
  rw [List.map_cons] at r
  cases r with
  | @cons a b as bs h t =>
   obtain ⟨rs, c, q⟩ := O6 (P := P) (w := w) t
   obtain ⟨b1, b2⟩ := b
   exact ⟨(p.1, b2) :: rs, ⟨Nn h.1, rfl, c⟩, .cons ⟨rfl, h.2⟩ q⟩
def Y24 (trs : List (TE × TE)) : TE := fun σ H Q => ∀ p, H p = none → Z56 trs σ (upd H p (.dK [])) fun ps H2 => H2 p = some (.dK []) ∧ ∃ kvs : List (Key × V), ps = kvs.map (fun kv => (kV kv.1, kv.2)) ∧ kvs.length ≤ 15 ∧ Q (.ref p) (upd H2 p (.dK (O4 [] kvs)))
theorem Zq7 {X : Cx} {pos : Pos} {keys : List (Option Expr)} {values : List Expr} {trs : List (TE × TE)} (h : PPs X pos keys values trs) (hall : keys.all (·.isSome) = true) (hl : keys.length = values.length) (h0 : keys ≠ [])
  (h15 : keys.length ≤ 15) : PE X (.Dict keys values pos) (Y24 trs) := by
 intro pins s σ H Q I q
 have hn := I.hok.fresh (Nat.le_refl s.heap.objs.size)
 have I1 := I.laid (a := s.heap.objs.size) (o := .dK []) (h' := s.heap.push { cls := .type "dict", data := .dict #[] }) (t' := s.toks) (fun _ _ q => Heap.get?_push_of_some _ q) (Nat.le_refl _) (Fe s.heap I.big)
 refine wpAny_Dict_walk (knd := Yn X.prog X.w) hall hl h0 h15 (thn (h pins _ σ _ _ I1 (q _ hn)) fun ws s2 ⟨ps, H2, I2, rel, e, kvs, ep, lk, q2⟩ => ?_)
 subst ep
 obtain ⟨rs, c, rk⟩ := O6 (P := X.prog) (w := X.w) rel
 obtain ⟨z, hd, vs0, r0, dd⟩ := Zu1 I2.hok e
 cases r0
 refine ⟨rs, c, dd, fun h' dd' hs => ⟨.ref s.heap.objs.size, _, ?_, rfl, q2⟩⟩
 have hz : (O4 [] kvs).length ≤ sizeLine := by
  have h1 := Td kvs []
  rw [List.length_nil] at h1
  rw [sizeLine_eq]; omega
 have he : ∃ q, h'.get? s.heap.objs.size = some q := let ⟨q, _, _, hq, _⟩ := dd'; ⟨q, hq⟩
 exact Gu I2 (by rw [e]; exact True.intro) hs he (Zj7 hz hd (rk.merge .nil) dd')
structure M1 (X : Cx) (o : Expr) (m : Str) (apos : Pos) (e : Expr) (cpos : Pos) : Prop where
 base : attributeBase o m X.env (eval o X.env) = eval o X.env
 few : ((backTo cpos (starEach [e] X.env)).all (fun x => !x.1) && (backToKw cpos (keywordEach [] X.env)).all (fun x => x.1.isSome)
  && decide (([e] : List Expr).length + ([] : List Keyword).length + (if ([] : List Keyword).isEmpty then 0 else 1) < 30)) = true
 line : (apos.endLine == cpos.line) = true
 trees : backTo cpos (starEach [e] X.env) = [(false, eval e X.env)]
structure M2 (X : Cx) (o : Expr) (m : Str) (apos : Pos) (e f : Expr) (cpos : Pos) : Prop where
 base : attributeBase o m X.env (eval o X.env) = eval o X.env
 few : ((backTo cpos (starEach [e, f] X.env)).all (fun x => !x.1) && (backToKw cpos (keywordEach [] X.env)).all (fun x => x.1.isSome)
  && decide (([e, f] : List Expr).length + ([] : List Keyword).length + (if ([] : List Keyword).isEmpty then 0 else 1) < 30)) = true
 line : (apos.endLine == cpos.line) = true
 trees : backTo cpos (starEach [e, f] X.env) = [(false, eval e X.env), (false, eval f X.env)]
section
variable {X : Cx} {pins : List (Addr × Obj)} {σ : St} {H : Hp} {s : Shared} {a : Addr} {y d : V} {u r : Value} {o : Option V} {A : Around} {E : Value → Shared → Prop}
theorem Zt6 {Q : Value → Shared → Prop} (hu : A.units + 1 < cLine) (I : Inv X pins σ H s) (g : DGet H a y o) (ry : RelV y u) (rd : RelV d r) (h : ∀ w' s', Inv X pins σ H s' → RelV (o.getD d) w' → Q w' s') :
  wpAny (model X.prog X.w) A (call (.builtin "dict.get") [.ref a, u, r]) Q E s := by
 rcases g with ⟨kvs, k, e, ey, l⟩ | ⟨kvs, k, b, e, ey, eb, l⟩
 ·subst ey
  obtain ⟨z, hd, vs, rel, dd⟩ := G7 I.hok e
  refine call_meetsIn PySem.F.slot_dict_get dd.typeIs PySem.F.entry_dict_get (PySem.F.args_dict_get_3 _ _ _) (meets_dict_get_default (Yn X.prog X.w) a (Nn ry) hd r) ⟨_, dd.mapOf, h _ _ (I.tok _) ?_⟩
  rw [l]
  exact (rel.val k).getD rd
 ·subst ey
  cases (show u = Value.ref b from ry)
  obtain ⟨z, hd, xs, rel, dd⟩ := C8 I.hok e
  refine call_meetsIn PySem.F.slot_dict_get dd.typeIs PySem.F.entry_dict_get (PySem.F.args_dict_get_3 _ _ _) (meetsH_dict_get_default (tupleKind (Yn X.prog X.w)) a b hd r) ⟨tupleKind_room_in1 hu, k, xs, Pq I.hok eb, dd, h _ _ (I.tok _) ?_⟩
  rw [l]
  exact (rel.val k).getD rd
end
section
variable {X : Cx} {o e f : Expr} {apos cpos : Pos} {td ty tx : TE}
end
section
variable {X : Cx} {pins : List (Addr × Obj)} {σ : St} {H : Hp} {s : Shared} {a : Addr} {kvs : List (Key × V)} {A : Around} {E : Value → Shared → Prop}
end
section
variable {X : Cx} {pins : List (Addr × Obj)} {σ : St} {H : Hp} {s : Shared} {a : Addr} {y : V} {u : Value} {A : Around} {E : Value → Shared → Prop}
end
end L2
namespace Att
open PySem PySem.W PySem.Calls PyProof.Rows
theorem Rz {P : Params} {h : Heap} : ∀ (ns : List Int) (vs : List Value), WellAll P h vs (ns.map WData.int) → IntsAre vs ns := by
 intro ns
 induction ns with
 | nil =>
  intro vs w
  rw [List.map_nil] at w
  cases w
  exact .nil
 | cons n ns ih =>
  intro vs w
  rw [List.map_cons] at w
  cases w with
  | cons a b =>
   cases a
   exact .cons _ _ (ih _ b)
theorem script_of {l : OpenLaw} {n : Nat} (hn : l.most = some n) {P : Params} {h : Heap} {args : List WData} {vals : List Value}
  (hpre : l.row.toRowW.claim.pre args = true) (hwl : WellAll P h vals args) :
  ∃ a vs ns, vals = [Value.ref a] ∧ args = [WData.list (ns.map WData.int)] ∧ h.get? a = some { cls := .type "list", data := .seq vs.toArray } ∧ IntsAre vs ns ∧ ns.length ≤ n := by
 have hsh : WShape.hasAll [] args [.list .int] = true := (pre_splitW hpre).1
 have hc : l.pre.holds [] { args := args } = true := (pre_splitW hpre).2
 obtain ⟨d, r, rfl, h1, h2⟩ := hasAllW_cons hsh
 obtain rfl := hasAllW_nil h2
 obtain ⟨xs, rfl, h3⟩ := hasW_list h1
 obtain ⟨ns, rfl⟩ := items_int h3
 have hlen : ns.length ≤ n := by
  unfold OpenLaw.pre at hc
  have h4 : (WTm.not (.lt (.lit (.int (n : Int))) (.len (.arg 0)))).holds [] { args := [.list (ns.map .int)] } = true := by
   have h4 := (holds_andW hc).1
   rw [hn] at h4
   exact h4
  have h5 := condW_of h4 (w_not (w_lt w_lit (w_len_list (w_arg rfl))))
  rw [List.length_map] at h5
  refine Nat.le_of_not_lt fun q => ?_
  have q' : (n : Int) < ((ns.length : Nat) : Int) := by omega
  first
   |(rw [decide_eq_true q'] at h5; exact absurd h5 (by decide))
   |(simp at h5; omega)
 cases hwl with
 | cons w1 w2 =>
  cases w2
  cases w1 with
  | list ho hall => exact ⟨_, _, ns, rfl, rfl, ho, Rz ns _ hall, hlen⟩
theorem post_true (l : OpenLaw) (args : List WData) : l.row.toRowW.claim.post args (.bool true) args = true :=
 postW_of (r := l.row.toRowW) (X := (true == true))
  (show WShape.has [] (.bool true) .bool = true by first | rfl | decide | simp [WShape.has, WShape.arms, WShape.armsAll])
  (show (WTm.eq .res (.lit (.bool true))).value [] { args := args, res := some (.bool true), after := args } = some (.bool (true == true)) from w_eq_bool (w_res rfl) w_lit) rfl
section
variable {prog : Program} {w : World} {A : Around} {E : Value → Shared → Prop} {s : Shared} {K : Frag}
end
end Att
namespace L2
open PySem PySem.Spec PyProof.Rows
theorem Tq : ∀ {vs : List Value} {ns : List Int}, IntsAre vs ns → Vals (ns.map V.int) vs
 | _, _, .nil => .nil
 | _, _, .cons n t h => .cons ⟨t, rfl⟩ (Tq h)
end L2
/- THE LAST THEOREM (shape; LID, My.* are yours):
  My.Adr: a structure of the addresses that your layer names (classes, functions); My.Txt K t: a structure (Prop) of the equations over K;
  My.txt_mk : {K} {implicit addresses ..} (e1 : nsIn K mainGlobals "law" = some (some (.ref f))) (e2 : K.lookup f = some ⟨oc, od, .func (fnOf "law" "law" params body scope dV kV doc pm an cdv ct), sl⟩) (e3 : codeIn K cdv "law" = true) .. : ∃ t, My.Txt K t
set_option maxRecDepth 100000 in
set_option maxHeartbeats 0 in
theorem PySem.Challenge.cw_LID_holds : PySem.Challenge.rw_LID.Holds := by
 w_on; o_law; k_head; (case hw => w_witness2)
 k_fill
 refine L2.walk_of (l := PySem.Challenge.rw_LID) (n := 63) (k := 40) (x := "script") (CX := fun w => ..) (sp := fun _ => My.sp_law) rfl (by decide) rfl ⟨rfl, by decide, by decide⟩ (fun w h Y => PySem.W.kIn_of Y) ?F ?S ?C
 case F =>
  intro w mg fa h KX G hmg
  have T : ∃ t, My.Txt (L2.KOf KX) t := by
   dsimp only [L2.KOf]                          -- K must stand as «<heap const> w.params» for k_is
   refine' My.txt_mk ?e1 ?e2 ?e3 ..
   (case e1 => PySem.W.k_is)                    -- in the order: a name -> its address -> its object -> its parts
   (case e2 => PySem.W.k_is)
   ..
  obtain ⟨t, T⟩ := T
  have e0 := hmg.symm.trans (PySem.W.mg_of KX G T.law)
  cases e0                                       -- fa is the law's own address
  exact ⟨_, fun s u => .of_eq rfl, fun base kb nb => My.law_fn T kb nb⟩     -- if «.of_eq rfl» comes too early: refine' ⟨_, ?b, fun base kb nb => My.law_fn T kb nb⟩; exact fun s u => .of_eq rfl
 case S => exact fun w H a ns hl hO hS => ..
 case C => exact ..
(the tactic k_is has no namespace: write k_is) -/
namespace L2
open PySem PySem.Spec PyProof.Rows
def Zi (s : Stmt) : Arguments := match s with
 | .FunctionDef _ a _ _ _ _ _ _ _ _ => a
 | _ => { posonlyargs := [], args := [], vararg := none, kwonlyargs := [], kw_defaults := [], kwarg := none, defaults := [] }
def Z4 (s : Stmt) : List Stmt := match s with
 | .FunctionDef _ _ b _ _ _ _ _ _ _ => b
 | _ => []
def Z1 (s : Stmt) : Scope := match s with
 | .FunctionDef _ _ _ _ _ _ sc _ _ _ => sc
 | _ => { kind := .function, names := [], isGenerator := false, isCoroutine := false }
abbrev CX0 : CXT := fun _ _ _ _ _ _ => False
abbrev E0 : XK := fun _ _ _ => False
structure Fun (K : PySem.W.Frag) (x qual : Str) (st : Stmt) (f : Addr) (fd : FuncData) : Prop where
 ex : ∃ (oc : Value) (od : Option Addr) (dV kV doc pm : Value) (an : Option Addr) (cdv ct : Value) (osl : Array (Option Value)),
  fd = PySem.W.fnOf x qual (Zi st) (Z4 st) (Z1 st) dV kV doc pm an cdv ct ∧ K.lookup f = some ⟨oc, od, .func fd, osl⟩ ∧ PySem.W.codeIn K cdv qual = true
 kp : PySem.W.keepIn K (.ref f) = true
section
variable {P : Program} {w : World} {K : PySem.W.Frag} {mg : Str → Option Value} {base : Heap}
theorem Fun.ok {x qual : Str} {st : Stmt} {f : Addr} {fd : FuncData} {N ps : List Str} {k : Nat} {sp : Sp} (F : Fun K x qual st f fd) (S : FnScope N ps (Z1 st)) (len : ∀ vs H Q E, sp vs H Q E → vs.length = ps.length)
  (hbody : ∀ (cdv : Value) (A : Around) (outer : List Env) (s : Shared) (H : Hp) (vs : List V) (Q : VK) (E : XK), Room k (A.deeper (envOfC qual (Z1 st) s.heap.objs.size f cdv)) → sp vs H Q E →
   ∃ t, PSs (cxOf CX0 P w K mg base N qual (Z1 st) f cdv A outer s H E).nox (Z4 st) t ∧ t { nx := fun _ H' => Q .non H', rt := Q } (start N vs) H) : FnOk P w K mg base CX0 (k + 1) f fd ps sp := by
 obtain ⟨oc, od, dV, kV, doc, pm, an, cdv, ct, osl, rfl, lk, hcd⟩ := F.ex
 refine Y56 lk hcd S len fun A outer s H vs Q E hr hsp => ?_
 obtain ⟨t, h, q⟩ := hbody cdv A outer s H vs Q E hr hsp
 exact ⟨t, h.nox, q⟩
theorem Y1 {x qual : Str} {st : Stmt} {f : Addr} {oc : Value} {od an : Option Addr} {osl : Array (Option Value)} {dV kV doc pm cdv ct : Value} (l : K.lookup f = some ⟨oc, od, .func (PySem.W.fnOf x qual (Zi st) (Z4 st) (Z1 st) dV kV doc pm an cdv ct), osl⟩)
  (c : PySem.W.codeIn K cdv qual = true) (k : PySem.W.keepIn K (.ref f) = true) : Fun K x qual st f (PySem.W.fnOf x qual (Zi st) (Z4 st) (Z1 st) dV kV doc pm an cdv ct) := ⟨⟨oc, od, dV, kV, doc, pm, an, cdv, ct, osl, rfl, l, c⟩, k⟩
end
section
variable {X : Cx}
theorem pv (i : Nat) {x : Str} {pos : Pos} (hN : X.N[i]? = some x := by rfl) (hv : Vis X.env.scope x := by first | exact Or.inl rfl | exact Or.inr (Or.inl rfl) | exact Or.inr (Or.inr rfl)) (hd : (x == ("__debug__" : Str)) = false := by decide)
  (hcd : (x == ("__classdict__" : Str)) = false := by decide) : PE X (.Name x pos) (tVar i) := J9 hN hv hd hcd
end
def Same (H H' : Hp) : Prop := ∀ b o, H b = some o → H' b = some o
theorem Same.refl (H : Hp) : Same H H := fun _ _ h => h
theorem Same.trans {H H1 H2 : Hp} (a : Same H H1) (b : Same H1 H2) : Same H H2 := fun c o h => b c o (a c o h)
section
variable {X : Cx}
theorem Z10 : Tc X (.builtin "len") (fun xs H Q => ∃ a kvs, xs = [V.ref a] ∧ H a = some (.dK kvs) ∧ Q (.int kvs.length) H) := by
 intro pins s σ H xs us Q I r h
 obtain ⟨a, kvs, rfl, ha, q⟩ := h
 obtain ⟨u, rfl, ru⟩ := Jv r
 cases ru
 exact Y57 I (.inl ha) fun t s' I' => ⟨.int kvs.length, H, I', ⟨t, rfl⟩, q⟩
end
section
variable {κ : Type} [DecidableEq κ]
end
end L2
namespace L3
open PySem PySem.Spec PyProof.Rows L2
def Bits (n : Nat) (x : Int) : Prop := x.natAbs < 2 ^ n
theorem Cq {m n : Nat} (h : m < 2 ^ n) (hn : 0 < n) : m.log2 < n := by
 rcases Nat.eq_zero_or_pos m with h0 | h0
 ·rw [h0]; exact hn
 ·exact (Nat.log2_lt (Nat.ne_of_gt h0)).mpr h
section
variable {X : Cx}
def Z12 (_ j : Int) : Prop := j ≠ 0 ∧ j.natAbs.log2 < 9000
theorem Zi1 : OpR X (binaryOp .FloorDiv) (rI Z12 fun i j => .int (i.fdiv j)) := opI fun _ _ _ _ _ _ _ hc q => floordiv_int hc.1 q (.inl (PyProof.noPylong_of_log2 hc.2))
theorem Zo4 : OpR X (binaryOp .Mult) (rI IntMulOk fun i j => .int (i * j)) := opI fun _ _ _ _ _ _ _ hc q => mul_int q hc
def rIsB (K : PySem.W.Frag) : List V → Hp → VK → Prop := fun xs H Q => ∃ x n t b, xs = [x, .ty n] ∧ TyOf K H x t ∧ PySem.W.kitOne K t (.type n) = some b ∧ Q (.bl b) H
theorem Ze6 : Tc X (.builtin "isinstance") (rIsB X.K) := by
 intro pins s σ H xs us Q I r h
 obtain ⟨x, n, t, b, rfl, ty, e, q⟩ := h
 obtain ⟨u, v, rfl, ru, rv⟩ := G4 r
 obtain rfl : v = Value.type n := rv
 exact Z77 I ru ty e fun tk => ⟨.bl b, H, I.tok tk, rfl, q⟩
end
mutual
def Rep (K : PySem.W.Frag) (H : Hp) : PyData → V → Prop
 | .none, v => v = .non
 | .bool b, v => v = .bl b
 | .int i, v => v = .int i
 | .str x, v => v = .str x
 | .list ds, v => ∃ a xs, v = .ref a ∧ SqL K H a xs ∧ Ws K H ds xs
 | .tuple ds, v => ∃ a xs, v = .ref a ∧ SqT K H a xs ∧ Ws K H ds xs
 | .dict _, _ => False
def Ws (K : PySem.W.Frag) (H : Hp) : List PyData → List V → Prop
 | [], xs => xs = []
 | d :: ds, xs => ∃ v vs, xs = v :: vs ∧ Rep K H d v ∧ Ws K H ds vs
end
section
variable {X : Cx} {pins : List (Addr × Obj)} {σ : L2.St} {H : Hp} {s : Shared}
mutual
theorem Rep.reads (I : Inv X pins σ H s) : ∀ (d : PyData) (v : V) (u : Value), Rep X.K H d v → RelV v u → ∃ as, Reads s.heap u d as
 | .none, v, u, h, r => by
  unfold Rep at h; subst h
  cases (show u = Value.none from r)
  exact ⟨[], .none⟩
 | .bool b, v, u, h, r => by
  unfold Rep at h; subst h
  cases (show u = Value.bool b from r)
  exact ⟨[], .bool b⟩
 | .int i, v, u, h, r => by
  unfold Rep at h; subst h
  obtain ⟨t, rfl⟩ := (show ∃ t, u = Value.int i t from r)
  exact ⟨[], .int i t⟩
 | .str x, v, u, h, r => by
  unfold Rep at h; subst h
  obtain ⟨t, rfl⟩ := (show ∃ t, u = Value.str x t from r)
  exact ⟨[], .str x t⟩
 | .list ds, v, u, h, r => by
  unfold Rep at h
  obtain ⟨a, xs, rfl, hq, ha⟩ := h
  cases (show u = Value.ref a from r)
  obtain ⟨its, rv, ⟨o, n, h1, h2, _, h4⟩, _⟩ := I.list hq
  obtain ⟨as, hr⟩ := Ws.reads I ds xs its ha rv
  exact ⟨_, .list h1 h2 h4 hr⟩
 | .tuple ds, v, u, h, r => by
  unfold Rep at h
  obtain ⟨a, xs, rfl, hq, ha⟩ := h
  cases (show u = Value.ref a from r)
  obtain ⟨its, rv, ⟨o, h1, h2, n, h4⟩, _⟩ := I.tuple hq
  obtain ⟨as, hr⟩ := Ws.reads I ds xs its ha rv
  exact ⟨_, .tuple h1 h2 h4 hr⟩
 | .dict kvs, v, u, h, r => by
  unfold Rep at h
  exact h.elim
theorem Ws.reads (I : Inv X pins σ H s) : ∀ (ds : List PyData) (xs : List V) (us : List Value), Ws X.K H ds xs → Vals xs us → ∃ as, ReadsAll s.heap us ds as
 | [], xs, us, h, r => by
  unfold Ws at h; subst h
  cases r
  exact ⟨[], .nil⟩
 | d :: ds, xs, us, h, r => by
  unfold Ws at h
  obtain ⟨v, vs, rfl, h1, h2⟩ := h
  cases r with
  | cons r1 r2 =>
   obtain ⟨as, q1⟩ := Rep.reads I d v _ h1 r1
   obtain ⟨bs, q2⟩ := Ws.reads I ds vs _ h2 r2
   exact ⟨_, .cons q1 q2⟩
end
end
section
variable {X : Cx}
def rEqD (K : PySem.W.Frag) (neg : Bool) : R2 := fun x y H Q => ∃ da db, Rep K H da x ∧ Rep K H db y ∧ da.canLay0 = true ∧ db.canLay0 = true ∧ min da.depth db.depth ≤ 60 ∧ Q (.bl (if neg then !PyData.eqv da db else PyData.eqv da db)) H
theorem Zv3 (hu : X.A.units + 64 < cLine) : OpR X (compareOp .Eq) (rEqD X.K false) := by
 intro pins s σ H x y v u Q I rx ry h
 obtain ⟨da, db, h1, h2, h3, h4, h5, q⟩ := h
 obtain ⟨as, q1⟩ := Rep.reads I da x v h1 rx
 obtain ⟨bs, q2⟩ := Rep.reads I db y u h2 ry
 exact PySem.SeqAt.compareEq_reads q1 q2 h3 h4 (by omega) ⟨.bl _, H, I, rfl, q⟩
end
end L3
namespace L3
open PySem PySem.W PySem.Calls PyProof.Rows L2
def bigN : Nat := 1048576
theorem Qo : ∀ (ns : List Int) (i : Int), i ∈ ns → WData.weight (.int i) ≤ WData.weightAll (ns.map WData.int)
 | [], _, h => nomatch h
 | n :: r, i, h => by
  rw [List.map_cons]
  have e : WData.weightAll (WData.int n :: r.map WData.int) = WData.weight (.int n) + 1 + WData.weightAll (r.map WData.int) := by simp [WData.weightAll]
  rw [e]
  rcases List.mem_cons.mp h with q | q
  ·subst q; omega
  ·have := Qo r i q; omega
theorem Qr {ns : List Int} (h : WData.layableAll [WData.list (ns.map WData.int)] = true) : ∀ i ∈ ns, Bits bigN i := by
 intro i hi
 have h1 : WData.layable (WData.list (ns.map WData.int)) = true := by simpa [WData.layableAll] using h
 unfold WData.layable at h1
 rw [Bool.and_eq_true] at h1
 have h2 : WData.weight (WData.list (ns.map WData.int)) ≤ 2 ^ 20 := of_decide_eq_true h1.2
 have h3 : WData.weight (WData.list (ns.map WData.int)) = WData.weightAll (ns.map WData.int) := by simp [WData.weight]
 have h4 := Qo ns i hi
 have h5 : WData.weight (.int i) = if i == 0 then 0 else i.natAbs.log2 + 1 := by simp [WData.weight]
 unfold Bits bigN
 by_cases h0 : i = 0
 ·subst h0; exact Nat.two_pow_pos _
 ·have hb : (i == 0) = false := by simpa using h0
  rw [hb] at h5
  have h6 : i.natAbs.log2 < 1048576 := by
   have : (2 : Nat) ^ 20 = 1048576 := by decide
   simp only [Bool.false_eq_true, if_false] at h5
   omega
  exact (Nat.log2_lt (by omega)).mp h6
theorem J1 {l : OpenLaw} {n : Nat} {q : Program} {loose : List Str} {XP : (Str → Option Value) → Heap → Prop} {YP : World → Heap → Prop} {d : DefRec} (hn : l.most = some n) (hdf : d.params.defaults = [])
  (call : ∀ (w : World) (s₀ s₁ : Shared) (mg mb : Str → Option Value) (fa : Addr) (o : Obj) (pm cd doc : Value) (a : Addr) (vs : List Value) (ns : List Int),
   Ground q loose [] XP w s₀ mg mb s₁.heap → YP w s₁.heap → mg d.name = some (.ref fa) →
   s₁.heap.get? a = some { cls := .type "list", data := .seq vs.toArray } → IntsAre vs ns → ns.length ≤ n → (∀ i ∈ ns, Bits bigN i) → s₁.gens = #[] →
   codeAny (model l.prog w) callerA (.call (.ref fa) ⟨[.ref a], []⟩) (fun r s' => r = .ok (.ret (.bool true)) ∧ OldK s₁.heap s'.heap ∧ s'.os = s₁.os ∧ AllBare s'.gens) s₁) :
  WalkO q loose XP YP l.row.toRowW d [] (fun f vs => PySem.call f vs) := by
 intro w s₀ s₁ mg mb G Y fa o pm cd doc dV kV ho hd hcd hD hmg hg args vals as hpre hlay hrd hwl hlo
 obtain ⟨a, vs, ns, rfl, rfl, hobj, hints, hlen⟩ := Att.script_of hn hpre hwl
 refine enter_call (codeAny_mono (call w s₀ s₁ mg mb fa o pm cd doc a vs ns G Y hmg hobj hints hlen (Qr hlay) hg) fun r s' hq => ?_)
 obtain ⟨rfl, h2, h3, h4⟩ := hq
 exact ⟨.inl ⟨.bool true, .bool true, [], rfl, fun _ => rfl, .bool true, Att.post_true l _, fun _ => ⟨List.Pairwise.nil, fun _ hm => (nomatch hm)⟩⟩, h2, h3, h4⟩
end L3
namespace L3
open PySem
section
variable {P : Program} {w : World} {A : Around} {R : Result → Shared → Prop} {s : Shared} {elt tg iter c : Expr} {scope : Scope} {pos : Pos} {it acc : Value} {env : Env}
abbrev noE : Value → Shared → Prop := fun _ _ => False
theorem Ep (I : Nat → Shared → Prop)
  (turn : ∀ n s, I n s → wpAny (model P w) A (pyNext it) (fun r s1 => match r with
   | none => R (.ok .next) s1
   | some v => wpAny (model P w) A (letOwnedTupleGo tg it v) (fun _ s2 => wpAny (model P w) A (assign tg env v) (fun _ s3 => wpAny (model P w) A (eval elt env) (fun x s4 =>
     wpAny (model P w) A (call (.builtin "list.append") [acc, x]) (fun _ s5 => ∃ m, m < n ∧ I m s5) noE s4) noE s3) noE s2) noE s1) noE s)
  (n : Nat) (h : I n s) : codeAny (model P w) A (.compLoop (.ListComp elt [⟨tg, iter, [], 0⟩] scope pos) 0 it acc env) R s := by
 refine codeAny_loop rfl I (fun m z hI => ?_) n h
 show wpAny _ A ((compTurn (.ListComp elt [⟨tg, iter, [], 0⟩] scope pos) 0 it acc env).onRaise fun x => do noteFrame x env; theTreesLotGoes x) _ _ z
 refine wpAny_noted ?_
 rw [compTurn_list1]
 refine wpAny_bind (wpAny_standAt (wpAny_bind (wpAny_mono (turn m z hI) (fun r s1 h1 => ?_) fun _ _ f => f.elim)))
 cases r with
 | none => exact wpAny_pure h1
 | some v =>
  refine wpAny_bind (wpAny_mono h1 (fun _ s2 h2 => ?_) fun _ _ f => f.elim)
  refine wpAny_bind (wpAny_mono h2 (fun _ s3 h3 => ?_) fun _ _ f => f.elim)
  refine wpAny_bind (wpAny_bind (wpAny_mono h3 (fun x s4 h4 => ?_) fun _ _ f => f.elim))
  exact wpAny_bind (wpAny_mono h4 (fun _ s5 h5 => wpAny_pure (wpAny_pure ⟨rfl, h5⟩)) fun _ _ f => f.elim)
theorem El (I : Nat → Shared → Prop)
  (turn : ∀ n s, I n s → wpAny (model P w) A (pyNext it) (fun r s1 => match r with
   | none => R (.ok .next) s1
   | some v => wpAny (model P w) A (letOwnedTupleGo tg it v) (fun _ s2 => wpAny (model P w) A (assign tg env v) (fun _ s3 => wpAny (model P w) A (isTrue c env (eval c env)) (fun ok s4 =>
     if ok = true then wpAny (model P w) A (eval elt env) (fun x s5 => wpAny (model P w) A (call (.builtin "list.append") [acc, x]) (fun _ s6 => ∃ m, m < n ∧ I m s6) noE s5) noE s4
     else ∃ m, m < n ∧ I m s4) noE s3) noE s2) noE s1) noE s)
  (n : Nat) (h : I n s) : codeAny (model P w) A (.compLoop (.ListComp elt [⟨tg, iter, [c], 0⟩] scope pos) 0 it acc env) R s := by
 refine codeAny_loop rfl I (fun m z hI => ?_) n h
 show wpAny _ A ((compTurn (.ListComp elt [⟨tg, iter, [c], 0⟩] scope pos) 0 it acc env).onRaise fun x => do noteFrame x env; theTreesLotGoes x) _ _ z
 refine wpAny_noted ?_
 rw [compTurn_list]
 refine wpAny_bind (wpAny_standAt (wpAny_bind (wpAny_mono (turn m z hI) (fun r s1 h1 => ?_) fun _ _ f => f.elim)))
 cases r with
 | none => exact wpAny_pure h1
 | some v =>
  refine wpAny_bind (wpAny_mono h1 (fun _ s2 h2 => ?_) fun _ _ f => f.elim)
  refine wpAny_bind (wpAny_mono h2 (fun _ s3 h3 => ?_) fun _ _ f => f.elim)
  refine wpAny_bind (wpAny_tests_one (wpAny_mono h3 (fun ok s4 h4 => ?_) fun _ _ f => f.elim))
  cases ok with
  | false => exact wpAny_pure ⟨rfl, h4⟩
  | true =>
   refine wpAny_bind (wpAny_bind (wpAny_mono h4 (fun x s5 h5 => ?_) fun _ _ f => f.elim))
   exact wpAny_bind (wpAny_mono h5 (fun _ s6 h6 => wpAny_pure (wpAny_pure ⟨rfl, h6⟩)) fun _ _ f => f.elim)
end
theorem S9 {env : Env} : ∀ (names : List (Str × NameKind)) (acc : List (Str × Addr)), (∀ n, (n, NameKind.free) ∈ names → ∃ c, env.cells.lookup n = some c) →
  (∀ x c, acc.lookup x = some c → env.cells.lookup x = some c) →
  ∃ cl, (forIn names acc fun (x : Str × NameKind) (cs : List (Str × Addr)) => match x with
   |(name, kind) => if (kind == NameKind.free) = true then do let c ← cellOf env name; pure (ForInStep.yield ((name, c) :: cs)) else pure (ForInStep.yield cs) : Sem (List (Str × Addr))) = pure cl ∧
   (∀ x c, cl.lookup x = some c → env.cells.lookup x = some c) ∧ (∀ n, (n, NameKind.free) ∈ names → ∃ c, cl.lookup n = some c) ∧ ∀ x c, acc.lookup x = some c → ∃ c', cl.lookup x = some c'
 | [], acc, _, ha => ⟨acc, rfl, ha, (fun _ h => nomatch h), fun x c e => ⟨c, e⟩⟩
 |(n, k) :: r, acc, hn, ha => by
  by_cases hk : k = .free
  ·subst hk
   obtain ⟨c, hc⟩ := hn n List.mem_cons_self
   obtain ⟨cl, e, h1, h2, h3⟩ := S9 r ((n, c) :: acc) (fun m hm => hn m (List.mem_cons_of_mem _ hm)) (fun x d hx => by
    rw [List.lookup_cons] at hx
    cases q : x == n with
    | true => rw [q] at hx; cases hx; rw [eq_of_beq q]; exact hc
    | false => rw [q] at hx; exact ha x d hx)
   refine ⟨cl, ?_, h1, fun m hm => ?_, fun x d hx => ?_⟩
   ·rw [List.forIn_cons]
    show (bind (bind (cellOf env n) _) _ : Sem _) = _
    unfold cellOf
    rw [hc]
    exact e
   ·rcases List.mem_cons.mp hm with q | q
    ·cases q; exact h3 n c (by simp [List.lookup_cons])
    ·exact h2 m q
   ·cases q : x == n with
    | true => exact h3 x c (by rw [List.lookup_cons, q])
    | false => exact h3 x d (by rw [List.lookup_cons, q]; exact hx)
  ·have hb : (k == NameKind.free) = false := by simpa using hk
   obtain ⟨cl, e, h1, h2, h3⟩ := S9 r acc (fun m hm => hn m (List.mem_cons_of_mem _ hm)) ha
   refine ⟨cl, ?_, h1, fun m hm => ?_, h3⟩
   ·rw [List.forIn_cons]
    show (bind (if (k == NameKind.free) = true then _ else _) _ : Sem _) = _
    rw [hb]
    exact e
   ·rcases List.mem_cons.mp hm with q | q
    ·cases q; exact absurd rfl hk
    ·exact h2 m q
theorem Vp {env : Env} {scope : Scope} (hn : ∀ n, (n, NameKind.free) ∈ scope.names → ∃ c, env.cells.lookup n = some c) :
  ∃ cl, closureFor scope env = pure cl ∧ (∀ x c, cl.lookup x = some c → env.cells.lookup x = some c) ∧ ∀ n, (n, NameKind.free) ∈ scope.names → ∃ c, cl.lookup n = some c := by
 obtain ⟨cl, e, h1, h2, _⟩ := S9 scope.names [] hn (fun x c h => by cases h)
 refine ⟨cl, ?_, h1, h2⟩
 exact (congrArg (fun t : Sem (List (Str × Addr)) => bind t fun z => pure z) e).trans rfl
end L3
namespace L3
open PySem PySem.Spec PyProof.Rows L2
def cxC (X : Cx) (N' : List Str) (scope : Scope) (cl : List (Str × Addr)) (C : Addr) (fp : List Addr) (pins : List (Addr × Obj)) (s : Shared) (H : Hp) : Cx where
 prog := X.prog
 w := X.w
 K := X.K
 mg := X.mg
 base := X.base
 A := X.A
 N := N'
 s₀ := s
 H₀ := H
 env := compEnvC scope cl C X.env
 outer := X.stack
 stack := X.stack
 ex := fp
 fn := fun x => scope.names.any fun y => y.1 == x && y.2 == .cell
 calm := X.calm
 pn := X.pn ++ pins
 xe := noE
def V1 (scope dsc : Scope) : Scope :=
 {scope with names := scope.names.map fun (n, k) => if (k == .free && dsc.kind == .function && dsc.names.lookup n == some .cell) then (n, .cell) else (n, k) }
def S7 (js : List (Option Nat)) (σ : L2.St) : L2.St := js.map fun o => o.bind fun j => (σ[j]?).join
structure CompScope (dsc : Scope) (dN N' : List Str) (js : List (Option Nat)) (scope : Scope) : Prop where
 kind : scope.kind = .function
 nd : (scope.names.map (·.1)).Nodup
 loc : ∀ y ∈ scope.names, y.2 = .local → scope.names.lookup y.1 = some .local
 len : js.length = N'.length
 cap : ∀ (i : Nat) (x : Str) (j : Nat), N'[i]? = some x → js[i]? = some (some j) → dN[j]? = some x ∧ (x, NameKind.free) ∈ scope.names
 free : ∀ n, (n, NameKind.free) ∈ scope.names → dsc.names.lookup n = some .cell ∨ dsc.names.lookup n = some .free
 seen : ∀ n, (n, NameKind.free) ∈ scope.names → (V1 scope dsc).names.lookup n = some .cell ∨ (V1 scope dsc).names.lookup n = some .free
def Ti (dsc : Scope) (dN N' : List Str) (js : List (Option Nat)) (scope : Scope) : Bool :=
 scope.kind == .function && decide ((scope.names.map (·.1)).Nodup) && scope.names.all (fun y => y.2 != .local || scope.names.lookup y.1 == some .local) && js.length == N'.length &&
 (N'.zip js).all (fun p => match p.2 with | some j => dN[j]? == some p.1 && scope.names.contains (p.1, NameKind.free) | none => true) &&
 scope.names.all (fun y => y.2 != .free || ((dsc.names.lookup y.1 == some .cell || dsc.names.lookup y.1 == some .free) && ((V1 scope dsc).names.lookup y.1 == some .cell || (V1 scope dsc).names.lookup y.1 == some .free)))
theorem CompScope.of {dsc : Scope} {dN N' : List Str} {js : List (Option Nat)} {scope : Scope} (h : Ti dsc dN N' js scope = true) : CompScope dsc dN N' js scope := by
 unfold Ti at h
 simp only [Bool.and_eq_true, List.all_eq_true, beq_iff_eq, bne_iff_ne, Bool.or_eq_true, decide_eq_true_eq] at h
 obtain ⟨⟨⟨⟨⟨h1, h2⟩, h3⟩, h4⟩, h5⟩, h6⟩ := h
 refine ⟨h1, h2, fun y hy hl => (h3 y hy).resolve_left fun z => z hl, h4, fun i x j e1 e2 => ?_, fun n hn => ?_, fun n hn => ?_⟩
 ·have hm : (x, some j) ∈ N'.zip js := List.mem_of_getElem? (i := i) (by rw [List.getElem?_zip_eq_some]; exact ⟨e1, e2⟩)
  have q := h5 _ hm
  simp only [Bool.and_eq_true, beq_iff_eq, List.contains_iff_mem] at q
  exact q
 ·exact ((h6 _ hn).resolve_left fun z => z rfl).1
 ·exact ((h6 _ hn).resolve_left fun z => z rfl).2
theorem Vz {env : Env} {x : Str} {k : NameKind} : ∀ {names : List (Str × NameKind)},
  (names.map fun (n, k) => if (k == NameKind.free && env.scope.kind == .function && env.kindOf n == some .cell) then (n, NameKind.cell) else (n, k)).lookup x = some k → (k = .cell ∨ k = .free) → (x, NameKind.free) ∈ names ∨ (x, NameKind.cell) ∈ names
 | [], h, _ => by simp at h
 |(n, q) :: r, h, hk => by
  rw [List.map_cons] at h
  by_cases hx : x = n
  ·subst hx
   have hq : q = .free ∨ q = .cell := by
    by_cases c : (q == NameKind.free && env.scope.kind == .function && env.kindOf x == some .cell) = true
    ·rw [Bool.and_eq_true, Bool.and_eq_true] at c
     exact .inl (eq_of_beq c.1.1)
    ·simp only [if_neg c] at h
     rw [List.lookup_cons, beq_self_eq_true] at h
     have e : q = k := Option.some.inj h
     rcases hk with z | z
     ·exact .inr (e.trans z)
     ·exact .inl (e.trans z)
   rcases hq with rfl | rfl
   ·exact .inl List.mem_cons_self
   ·exact .inr List.mem_cons_self
  ·have hb : (x == n) = false := by simpa using hx
   have rest : (r.map fun (n, k) => if (k == NameKind.free && env.scope.kind == .function && env.kindOf n == some .cell) then (n, NameKind.cell) else (n, k)).lookup x = some k := by
    by_cases c : (q == NameKind.free && env.scope.kind == .function && env.kindOf n == some .cell) = true
    ·simp only [if_pos c] at h
     rw [List.lookup_cons, hb] at h
     exact h
    ·simp only [if_neg c] at h
     rw [List.lookup_cons, hb] at h
     exact h
   exact (Vz (env := env) rest hk).imp (List.mem_cons_of_mem _) (List.mem_cons_of_mem _)
structure BlockCells (X : Cx) (scope : Scope) (cl : List (Str × Addr)) (sz : Nat) (h1 : Heap) : Prop where
 each : ∀ x c, cl.lookup x = some c → X.env.cells.lookup x = some c ∨ (sz < c ∧ h1.IsCell c none)
 free : ∀ n, (n, NameKind.free) ∈ scope.names → ∃ c, cl.lookup n = some c ∧ X.env.cells.lookup n = some c
 own : ∀ n, (n, NameKind.cell) ∈ scope.names → ∃ c, cl.lookup n = some c ∧ sz < c
 inj : ∀ x y c, cl.lookup x = some c → cl.lookup y = some c → sz < c → x = y
theorem Tg {x : Str} : ∀ (names : List (Str × NameKind)) (n : Nat) (acc : List (Str × Addr)), (x, NameKind.cell) ∉ names → (cellsFrom n names acc).lookup x = acc.lookup x
 | [], _, _, _ => rfl
 |(y, k) :: r, n, acc, h => by
  have hr : (x, NameKind.cell) ∉ r := fun z => h (List.mem_cons_of_mem _ z)
  unfold cellsFrom
  split
  ·rename_i hk
   have hxy : (x == y) = false := by
    rw [beq_eq_false_iff_ne]
    intro e
    apply h
    rw [e, ← eq_of_beq hk]
    exact List.mem_cons_self
   rw [Tg r _ _ hr, List.lookup_cons, hxy]
  ·exact Tg r n acc hr
theorem Qn {x : Str} : ∀ (names : List (Str × NameKind)) (n : Nat) (acc : List (Str × Addr)), (x, NameKind.cell) ∈ names → ∃ c, (cellsFrom n names acc).lookup x = some c ∧ n ≤ c
 | [], _, _, h => by cases h
 |(y, k) :: r, n, acc, h => by
  unfold cellsFrom
  by_cases hr : (x, NameKind.cell) ∈ r
  ·split
   ·obtain ⟨c, e, l⟩ := Qn r (n + 1) ((y, n) :: acc) hr
    exact ⟨c, e, by omega⟩
   ·exact Qn r n acc hr
  ·rcases List.mem_cons.mp h with e | e
   ·cases e
    rw [if_pos (by rfl), Tg r _ _ hr, List.lookup_cons, beq_self_eq_true]
    exact ⟨n, rfl, Nat.le_refl _⟩
   ·exact absurd e hr
theorem T1 : ∀ (names : List (Str × NameKind)) (n : Nat) (acc cl : List (Str × Addr)), ∃ own, cellsFrom n names (acc ++ cl) = own ++ cl ∧ cellsFrom n names acc = own
 | [], n, acc, cl => ⟨acc, rfl, rfl⟩
 |(y, k) :: r, n, acc, cl => by
  unfold cellsFrom
  split
  ·exact T1 r (n + 1) ((y, n) :: acc) cl
  ·exact T1 r n acc cl
theorem Vo {x : Str} {c : Addr} : ∀ {a b : List (Str × Addr)}, (a ++ b).lookup x = some c → a.lookup x = some c ∨ b.lookup x = some c
 | [], b, h => .inr h
 |(y, d) :: a, b, h => by
  rw [List.cons_append, List.lookup_cons] at h
  rw [List.lookup_cons]
  cases e : x == y with
  | true => rw [e] at h; exact .inl h
  | false => rw [e] at h; exact Vo h
theorem Ph {X : Cx} {pins : List (Addr × Obj)} {σ : L2.St} {H : Hp} {s : Shared} {scope : Scope} {cl : List (Str × Addr)} (nd : (scope.names.map (·.1)).Nodup) (I : Inv X pins σ H s) (o : Obj)
  (c1 : ∀ x c, cl.lookup x = some c → X.env.cells.lookup x = some c) (c2 : ∀ n, (n, NameKind.free) ∈ scope.names → ∃ c, cl.lookup n = some c) :
  BlockCells X scope (cellsFrom (s.heap.objs.size + 1) scope.names cl) s.heap.objs.size (pushCells (s.heap.push o) scope.names) := by
 obtain ⟨own, e1, e2⟩ := T1 scope.names (s.heap.objs.size + 1) [] cl
 rw [List.nil_append] at e1
 have ok := cellsFrom_ok scope.names (s.heap.push o) (s.heap.objs.size + 1) [] ⟨fun _ _ hm => (nomatch hm), List.Pairwise.nil⟩ (by rw [Heap.size_push]; exact Nat.le_refl _)
 rw [Heap.size_push, e2] at ok
 have old : ∀ x c, cl.lookup x = some c → c < s.heap.objs.size := by
  intro x c e
  obtain ⟨v, q⟩ := I.cell x c (c1 x c e)
  exact q.lt
 have one : ∀ {n : Str}, (n, NameKind.free) ∈ scope.names → (n, NameKind.cell) ∉ scope.names := by
  intro n h1 h2
  have key : ∀ (l : List (Str × NameKind)), (l.map (·.1)).Nodup → (n, NameKind.free) ∈ l → (n, NameKind.cell) ∈ l → False := by
   intro l
   induction l with
   | nil => intro _ h; cases h
   | cons y r ih =>
    intro hn a b
    rw [List.map_cons, List.nodup_cons] at hn
    rcases List.mem_cons.mp a with e1 | a2
    ·rcases List.mem_cons.mp b with e2 | b2
     ·rw [← e1] at e2; cases e2
     ·exact hn.1 (List.mem_map.mpr ⟨_, b2, by rw [← e1]⟩)
    ·rcases List.mem_cons.mp b with e2 | b2
     ·exact hn.1 (List.mem_map.mpr ⟨_, a2, by rw [← e2]⟩)
     ·exact ih hn.2 a2 b2
  exact key _ nd h1 h2
 refine ⟨fun x c e => ?_, fun n hn => ?_, fun n hn => ?_, fun x y c hx hy hc => ?_⟩
 ·rw [e1] at e
  rcases Vo e with z | z
  ·obtain ⟨a, b⟩ := ok.empty x c (mem_of_lookup z)
   exact .inr ⟨b, a⟩
  ·exact .inl (c1 x c z)
 ·obtain ⟨c, hc⟩ := c2 n hn
  refine ⟨c, ?_, c1 n c hc⟩
  rw [Tg _ _ _ (one hn)]
  exact hc
 ·obtain ⟨c, a, b⟩ := Qn scope.names (s.heap.objs.size + 1) cl hn
  exact ⟨c, a, b⟩
 ·rw [e1] at hx hy
  rcases Vo hx with z | z
  ·rcases Vo hy with z2 | z2
   ·exact name_of_addr ok.apart (mem_of_lookup z) (mem_of_lookup z2)
   ·exact absurd (old y c z2) (Nat.lt_asymm hc)
  ·exact absurd (old x c z) (Nat.lt_asymm hc)
theorem Ob {M : Model} {A : Around} {E : Value → Shared → Prop} {s : Shared} {scope : Scope} {globals : Addr} {cl : List (Str × Addr)} {qual : Str} {o : Env} {Q : Env → Shared → Prop}
  (hQ : Q { scope := scope, locals := s.heap.objs.size, globals := globals, cells := cellsFrom (s.heap.objs.size + 1) scope.names cl, qual := qual, func := none, code := o.code, frame := o.frame, builtins := o.builtins } { s with heap := pushCells (s.heap.push { cls := .type "dict", data := .dict #[] }) scope.names }) :
  wpAny M A (newFunctionEnv scope globals cl [] qual none .none (some o)) Q E s := by
 simp only [newFunctionEnv, Option.isSome_some, if_true]
 refine wpAny_bind (wpAny_alloc ?_)
 refine wpAny_bind (wpAny_layCells _ (fun name kind cells => by cases hkc : kind == NameKind.cell <;> simp [hkc]) _ _ _ _ ?_)
 rw [show ({ s with heap := s.heap.push { cls := .type "dict", data := .dict #[] } } : Shared).heap.objs.size = s.heap.objs.size + 1 from Heap.size_push ..]
 rw [List.forIn_nil]
 exact wpAny_bind (wpAny_pure (wpAny_pure hQ))
section
variable {X : Cx} {elt tg iter c : Expr} {scope : Scope} {pos : Pos} {N' : List Str} {js : List (Option Nat)} {wi : TI} {g : TG} {te : TE} {tc : TT}
theorem Pu {N' : List Str} {js : List (Option Nat)} {pins : List (Addr × Obj)} {σ : L2.St} {H : Hp} {s : Shared} {cl : List (Str × Addr)} {fp : List Addr} {h1 : Heap} {tk : Nat} (S : CompScope X.env.scope X.N N' js scope) (I : Inv X pins σ H s)
  (bc : BlockCells X scope cl s.heap.objs.size h1) (hf : ∀ b ∈ fp, FpOk X pins H b) (hlt : ∀ b ∈ fp, b < s.heap.objs.size)
  {m : Str → Option Value} (hn : h1.Ns s.heap.objs.size m) (hk : ∀ b o, s.heap.get? b = some o → h1.get? b = some o) :
  Inv (cxC X N' scope cl s.heap.objs.size fp pins s H) [] (S7 js σ) H { s with heap := h1, toks := tk } := by
 have ok : (cxC X N' scope cl s.heap.objs.size fp pins s H).Ok := by
  refine ⟨I.ok.mod, S.kind, I.ok.glob, I.ok.blt, Nat.le_refl _, fun x y c h1 h2 => ?_, fun x hx => ?_, fun x c hx e => ?_, I.ok.hd, I.ok.frames, .inl rfl, fun b hb => ⟨Nat.ne_of_lt (hlt b hb), fun x c e => ?_⟩,
   I.bs, Nat.le_trans I.ok.bsz I.sz, fun b o e hb => ?_, fun b hb hx => ?_, I.stack, I.stkFree⟩
  ·rcases bc.each x c h1 with z | z
   ·rcases bc.each y c h2 with z2 | z2
    ·exact I.ok.inj x y c z z2
    ·exact bc.inj x y c h1 h2 z2.1
   ·exact bc.inj x y c h1 h2 z.1
  ·have hx' : (relabel scope X.env).names.lookup x = some .cell ∨ (relabel scope X.env).names.lookup x = some .free := hx
   have hm : (x, NameKind.free) ∈ scope.names ∨ (x, NameKind.cell) ∈ scope.names := by
    rcases hx' with z | z
    ·exact Vz z (.inl rfl)
    ·exact Vz z (.inr rfl)
   rcases hm with z | z
   ·obtain ⟨c, e, _⟩ := bc.free x z; exact ⟨c, e⟩
   ·obtain ⟨c, e, _⟩ := bc.own x z; exact ⟨c, e⟩
  ·have hx' : (scope.names.any fun y => y.1 == x && y.2 == NameKind.cell) = true := hx
   rw [List.any_eq_true] at hx'
   obtain ⟨⟨y, k⟩, hm, hy⟩ := hx'
   rw [Bool.and_eq_true] at hy
   have e1 : y = x := eq_of_beq hy.1
   have e2 : k = .cell := eq_of_beq hy.2
   subst e1 e2
   obtain ⟨c', e', l⟩ := bc.own _ hm
   have : c' = c := Option.some.inj (e'.symm.trans e)
   subst this
   exact Nat.le_of_lt l
  ·rcases bc.each x c e with z | z
   ·exact (hf b hb).2.2.2.2.1 x c z
   ·exact fun q => absurd z.1 (Nat.lt_asymm (by rw [q]; exact hlt b hb))
  ·obtain ⟨_, _, _, f3, _⟩ := hf b hb
   rcases f3 with z | z
   ·exact I.ok.noex b o e z
   ·exact absurd (Nat.lt_of_lt_of_le (Heap.lt_size e) (Nat.le_trans I.ok.bsz z)) (Nat.lt_irrefl _)
  ·obtain ⟨_, f1, f2, _⟩ := hf b hb
   rcases List.mem_cons.mp (I.stkSub b hx) with z | z
   ·exact f1 z
   ·exact f2 z
 refine ⟨ok, rfl, I.bare, Un.kept hk, ⟨m, hn, fun i x v e1 e2 e3 => ?_⟩, fun x c e => ?_, I.hok.fresh (Nat.le_refl _), fun x c e => (bc.each x c e).elim (fun z => I.freeC x c z) (fun z => I.hok.fresh (Nat.le_of_lt z.1)), fun p hp => ?_, I.hok.kept hk, ?_⟩
 ·have e2' : (S7 js σ)[i]? = some (some v) := e2
  unfold S7 at e2'
  rw [List.getElem?_map] at e2'
  cases q : js[i]? with
  | none => rw [q] at e2'; cases e2'
  | some o =>
   rw [q] at e2'
   cases o with
   | none => cases e2'
   | some j =>
    have e4 : (σ[j]?).join = some v := Option.some.inj e2'
    obtain ⟨hN, hm⟩ := S.cap i x j e1 q
    have hσ : σ[j]? = some (some v) := by
     cases z : σ[j]? with
     | none => rw [z] at e4; cases e4
     | some o => rw [z] at e4; exact congrArg some e4
    obtain ⟨m0, hn0, hl⟩ := I.loc
    obtain ⟨c, hc, hc0⟩ := bc.free x hm
    have hv : Vis X.env.scope x := (S.free x hm).elim (fun z => .inr (.inl z)) fun z => .inr (.inr z)
    obtain ⟨u, r, l⟩ := hl j x v hN hσ hv
    refine ⟨u, r, .inr ⟨?_, c, hc, ?_⟩⟩
    ·exact S.seen x hm
    ·rcases l with ⟨kl, _⟩ | ⟨_, c', hc', cell⟩
     ·rcases S.free x hm with y | y <;> (have z := y.symm.trans (show X.env.scope.names.lookup x = some .local from kl); cases z)
     ·rw [hc0] at hc'
      cases hc'
      obtain ⟨o, ho, hd⟩ := cell
      exact ⟨o, hk _ _ ho, hd⟩
 ·rcases bc.each x c e with z | z
  ·obtain ⟨v, o, ho, hd⟩ := I.cell x c z
   exact ⟨v, o, hk _ _ ho, hd⟩
  ·exact ⟨none, z.2⟩
 ·have hp' : p ∈ X.pn ++ pins := (List.mem_append.mp hp).elim (fun z => z) fun z => absurd z (by simp)
  obtain ⟨e, n, ne, nf, d⟩ := I.pin p hp'
  refine ⟨hk _ _ e, n, Nat.ne_of_lt (Heap.lt_size e), fun z => ?_, d⟩
  rcases List.mem_cons.mp (I.stkSub p.1 z) with y | y
  ·exact ne y
  ·exact nf y
 ·show (S7 js σ).length = N'.length
  unfold S7
  rw [List.length_map]; exact S.len
end
section
variable {X : Cx} {elt tg iter c : Expr} {scope : Scope} {pos : Pos} {N' : List Str} {js : List (Option Nat)} {wi : TI} {g : TG} {te : TE} {tc : TT}
def Bu (js : List (Option Nat)) (wi : TI) (g : TG) (te : TE) : TE := fun σ H Q => wi σ H fun J H1 => ∀ D, H1 D = none → ∃ W : Nat → Nat → L2.St → Hp → Prop, (∃ m, W 0 m (S7 js σ) (upd H1 D (.lst []))) ∧
 ∀ i m σc Hc, W i m σc Hc → (J.stop i Hc ∧ Q (.ref D) Hc) ∨ (J.go i Hc ∧ ∀ x H', J.yld i Hc x H' → g x σc H' fun σ2 H2 => te σ2 H2 fun y H4 => ∃ acc, H4 D = some (.lst acc) ∧ acc.length < sizeLine ∧
  ∃ m', m' < m ∧ W (i + 1) m' σ2 (upd H4 D (.lst (acc ++ [y]))))
def Zi8 (js : List (Option Nat)) (wi : TI) (g : TG) (tc : TT) (te : TE) : TE := fun σ H Q => wi σ H fun J H1 => ∀ D, H1 D = none → ∃ W : Nat → Nat → L2.St → Hp → Prop, (∃ m, W 0 m (S7 js σ) (upd H1 D (.lst []))) ∧
 ∀ i m σc Hc, W i m σc Hc → (J.stop i Hc ∧ Q (.ref D) Hc) ∨ (J.go i Hc ∧ ∀ x H', J.yld i Hc x H' → g x σc H' fun σ2 H2 => tc σ2 H2 fun b H3 => if b = true then te σ2 H3 fun y H4 => ∃ acc, H4 D = some (.lst acc) ∧ acc.length < sizeLine ∧
  ∃ m', m' < m ∧ W (i + 1) m' σ2 (upd H4 D (.lst (acc ++ [y]))) else ∃ m', m' < m ∧ W (i + 1) m' σ2 H3)
theorem Qj {pins : List (Addr × Obj)} {σ : L2.St} {H2 : Hp} {s2 : Shared} {cl : List (Str × Addr)} {it : Addr} {fp : List Addr} {tn : Nat → Heap → Prop} {J : It} {QD : Addr → Hp → Prop} {R : Value → Addr → Result → Shared → Prop} {E : Value → Shared → Prop}
  (hc : X.calm = true) (S : CompScope X.env.scope X.N N' js scope) (c1 : ∀ x c, cl.lookup x = some c → X.env.cells.lookup x = some c) (c2 : ∀ n, (n, NameKind.free) ∈ scope.names → ∃ c, cl.lookup n = some c)
  (hg : ∀ cl C fp pins s H, PG (cxC X N' scope cl C fp pins s H) tg g) (he : ∀ cl C fp pins s H, PE (cxC X N' scope cl C fp pins s H) elt te)
  (I2 : Inv X pins σ H2 s2) (T : Turn X.prog X.w X.K tg J fp it tn) (st2 : tn 0 s2.heap) (f2 : ∀ b ∈ fp, FpOk X pins H2 b)
  (q : ∀ D, H2 D = none → ∃ W : Nat → Nat → L2.St → Hp → Prop, (∃ m, W 0 m (S7 js σ) (upd H2 D (.lst []))) ∧
   ∀ i m σc Hc, W i m σc Hc → (J.stop i Hc ∧ QD D Hc) ∨ (J.go i Hc ∧ ∀ x H', J.yld i Hc x H' → g x σc H' fun σ2 H2 => te σ2 H2 fun y H4 => ∃ acc, H4 D = some (.lst acc) ∧ acc.length < sizeLine ∧
    ∃ m', m' < m ∧ W (i + 1) m' σ2 (upd H4 D (.lst (acc ++ [y])))))
  (back : ∀ (D C : Addr) (Hc : Hp) (s4 : Shared), (∃ m, s4.heap.Ns C m) → Inv X pins σ Hc s4 → Hc C = none → C ≠ X.env.locals → X.s₀.heap.objs.size ≤ C → (∀ x c, X.env.cells.lookup x = some c → c ≠ C) → (∀ p ∈ X.pn ++ pins, p.1 ≠ C) → QD D Hc → R (.ref D) C (.ok .next) s4) :
  wpAny (model X.prog X.w) X.A (newList []) (fun acc s3 => wpAny (model X.prog X.w) X.A (newFunctionEnv scope X.env.globals cl [] X.env.qual none .none (some X.env)) (fun cenv s4 =>
   codeAny (model X.prog X.w) X.A (.compStart (.ListComp elt [⟨tg, iter, [], 0⟩] scope pos) 0 (.ref it) acc { cenv with scope := relabel scope X.env }) (R acc cenv.locals) s4) E s3) E s2 := by
 refine wpAny_newObj_type (Ob ?_)
 dsimp only
 have I3 : Inv X pins σ (upd H2 s2.heap.objs.size (.lst [])) { s2 with heap := s2.heap.push { cls := .type "list", data := .seq ([] : List Value).toArray } } := I2.lnew (its := []) (t' := s2.toks) .nil (Nat.zero_le _)
 obtain ⟨W, ⟨m0, w0⟩, turn⟩ := q s2.heap.objs.size I2.fresh
 have hob := T.obj 0 _ st2
 have f3 : ∀ b ∈ fp, FpOk X pins (upd H2 s2.heap.objs.size (.lst [])) b := fun b hb => by
  obtain ⟨o, e, _⟩ := hob b hb
  exact ⟨by rw [Zl (Nat.ne_of_lt (Heap.lt_size e))]; exact (f2 b hb).1, (f2 b hb).2⟩
 generalize hS3 : (s2.heap.push { cls := .type "list", data := .seq ([] : List Value).toArray } : Heap) = h3 at *
 have k23 : ∀ b o, s2.heap.get? b = some o → h3.get? b = some o := fun b o e => by rw [← hS3]; exact Heap.get?_push_of_some _ e
 have hlt : ∀ b ∈ fp, b < h3.objs.size := fun b hb => by
  obtain ⟨o, e, _⟩ := hob b hb
  exact Heap.lt_size (k23 b o e)
 have bc := Ph S.nd I3 { cls := .type "dict", data := .dict #[] } c1 c2
 have hns : (pushCells (h3.push { cls := .type "dict", data := .dict #[] }) scope.names).Ns h3.objs.size (fun _ => none) := (Heap.Ns.new h3 (.type "dict")).keeps (pushCells_keeps _ _)
 have k31 : ∀ b o, h3.get? b = some o → (pushCells (h3.push { cls := .type "dict", data := .dict #[] }) scope.names).get? b = some o := fun b o e => pushCells_keeps _ _ b o (Heap.get?_push_of_some _ e)
 dsimp only at bc
 generalize cellsFrom (h3.objs.size + 1) scope.names cl = cl' at bc ⊢
 generalize pushCells (h3.push { cls := .type "dict", data := .dict #[] }) scope.names = h1 at bc hns k31 ⊢
 have I4 := Pu (tk := s2.toks) S I3 bc f3 hlt hns k31
 have st4 : tn 0 h1 := T.keep 0 _ h1 st2 fun b hb o e => k31 b o (k23 b o e)
 have nofs : ∀ b ∈ fp, b ∉ (cxC X N' scope cl' h3.objs.size fp pins { s2 with heap := h3 } (upd H2 s2.heap.objs.size (.lst []))).fs := I4.ok.exfs
 have stat : ∀ {H' : Hp}, (∀ b ∈ fp, H' b = none) → ∀ b ∈ fp, FpOk (cxC X N' scope cl' h3.objs.size fp pins { s2 with heap := h3 } (upd H2 s2.heap.objs.size (.lst []))) [] H' b := fun {H'} hn b hb =>
  ⟨hn b hb, Nat.ne_of_lt (hlt b hb), nofs b hb, .inl hb, fun x c e => (bc.each x c e).elim (fun z => (f3 b hb).2.2.2.2.1 x c z) (fun z q => absurd z.1 (Nat.lt_asymm (by rw [q]; exact hlt b hb))), fun p hp => (f3 b hb).2.2.2.2.2 p (by simpa [cxC] using hp)⟩
 have loop : codeAny (model X.prog X.w) X.A (.compLoop (.ListComp elt [⟨tg, iter, [], 0⟩] scope pos) 0 (.ref it) (.ref s2.heap.objs.size) (compEnvC scope cl' h3.objs.size X.env))
   (R (.ref s2.heap.objs.size) h3.objs.size) { s2 with heap := h1, toks := s2.toks } := by
  refine Ep (fun n s' => ∃ i σc Hc, Inv (cxC X N' scope cl' h3.objs.size fp pins { s2 with heap := h3 } (upd H2 s2.heap.objs.size (.lst []))) [] σc Hc s' ∧ tn i s'.heap ∧ (∀ b ∈ fp, Hc b = none) ∧ W i n σc Hc) ?_ m0
   ⟨0, _, _, I4, st4, fun b hb => (f3 b hb).1, w0⟩
  rintro n z ⟨i, σc, Hc, Iz, stz, frz, wz⟩
  rcases turn i n σc Hc wz with ⟨stop, qd⟩ | ⟨go, step⟩
  ·refine thn (T.done (cxC X N' scope cl' h3.objs.size fp pins { s2 with heap := h3 } (upd H2 s2.heap.objs.size (.lst []))) rfl rfl rfl hc i [] z σc Hc noE Iz (stat frz) stz stop) fun r s4 ⟨hr, I5⟩ => ?_
   subst hr
   have J5 : Inv X pins σ Hc s4 := I3.call' (s' := s4) I5.os I5.base I5.hok I5.bare fun b hb => ⟨(f3 b hb).2.2.2.1, (f3 b hb).2.1, (f3 b hb).2.2.2.2.1, (f3 b hb).2.2.2.2.2⟩
   obtain ⟨m, hm, _⟩ := I5.loc
   refine back _ _ Hc s4 ⟨m, hm⟩ J5 I5.free (Nat.ne_of_gt I3.lt) (Nat.le_trans I3.ok.above (Nat.le_of_lt I3.lt)) (fun x c e z => ?_) (fun p hp z => ?_) qd
   ·obtain ⟨v, q⟩ := I3.cell x c e
    exact absurd q.lt (by rw [z]; exact Nat.lt_irrefl _)
   ·exact absurd (Heap.lt_size (I3.pin p hp).1) (by rw [z]; exact Nat.lt_irrefl _)
  ·refine thn (T.item (cxC X N' scope cl' h3.objs.size fp pins { s2 with heap := h3 } (upd H2 s2.heap.objs.size (.lst []))) rfl rfl rfl hc i [] z σc Hc noE Iz (stat frz) stz go) fun r s4 ⟨u, hr, h4⟩ => ?_
   subst hr
   refine thn h4 fun _ s5 ⟨x, H5, I5, r5, y5, st5, fr5⟩ => ?_
   have I5' := I5.pinned (stat fr5) (T.obj _ _ st5)
   refine thn (hg _ _ _ _ _ _ _ s5 σc H5 x u _ I5' r5 (step x H5 y5)) fun _ s6 ⟨σ6, H6, I6, q6⟩ => ?_
   refine thn (he _ _ _ _ _ _ _ s6 σ6 H6 _ I6 q6) fun v s7 ⟨y, H7, I7, r7, acc, hD, hlen, m', hm, w7⟩ => ?_
   refine thn (Q4 _ s7 σ6 H7 (.ref s2.heap.objs.size) [y] (.ref s2.heap.objs.size) [v] (fun _ H8 => H8 = upd H7 s2.heap.objs.size (.lst (acc ++ [y]))) I7 rfl (.cons r7 .nil) ⟨_, acc, y, rfl, rfl, hD, hlen, rfl⟩) fun _ s8 ⟨_, H8, I8, _, e8⟩ => ?_
   subst e8
   refine ⟨m', hm, i + 1, σ6, _, I8.unpinned, T.keep _ _ _ st5 fun b hb o e => (I8.pin (b, o) (List.mem_append_right _ (List.mem_append_right _ (X8 hb e)))).1, fun b hb => ?_, w7⟩
   obtain ⟨o, e, d⟩ := T.obj _ _ st5 b hb
   exact (I8.pin (b, o) (List.mem_append_right _ (List.mem_append_right _ (X8 hb e)))).2.1
 exact codeAny_compStart_list loop (T.self _ 0 _ _ _ st4 loop)
theorem Zd5 (hc : X.calm = true) (ho : Ti X.env.scope X.N N' js scope = true) (hi : PI X tg iter wi) (hg : ∀ cl C fp pins s H, PG (cxC X N' scope cl C fp pins s H) tg g) (he : ∀ cl C fp pins s H, PE (cxC X N' scope cl C fp pins s H) elt te)
  (hs : ∀ x, foldedSetIterable iter X.env x = pure x := by intro _; rfl) : PE X (.ListComp elt [⟨tg, iter, [], 0⟩] scope pos) (Bu js wi g te) := by
 intro pins s σ H Q I h
 have S := CompScope.of ho
 obtain ⟨cl, hcl, c1, c2⟩ := Vp (scope := scope) (env := X.env) fun n hn => I.ok.has n (S.free n hn)
 rw [eval_ListComp]
 refine wpAny_comprehension_free (use := none) rfl hs hcl S.kind S.loc (thn (hi pins s σ H _ I h) fun v s1 h1 => thn h1 fun itv s2 h2 => ?_)
 obtain ⟨it, fp, tn, J, H2, e, I2, T, st2, f2, q2⟩ := h2
 subst e
 refine Qj (QD := fun D Hc => Q (.ref D) Hc) (R := fun acc C => compPost (model X.prog X.w) X.A X.xe none (EP X pins σ Q) acc C) hc S c1 c2 hg he I2 T st2 f2 q2 ?_
 intro D C Hc s4 ⟨m, hm⟩ J4 fC nL sC cC pC qd
 refine ⟨m, hm, fun h' hs' => ⟨.ref D, Hc, ?_, rfl, qd⟩⟩
 exact J4.turned (t' := s4.toks) (fun b o hb e => (hs'.2 b hb).trans e) fC nL (.inr sC) cC pC
def Zy1 (i : Nat) (js : List (Option Nat)) (wi : TI) (g : TG) (te : TE) : TS := fun D σ H => Bu js wi g te σ H fun v H1 => D.nx (σ.set i (some v)) H1
theorem Zd8 {i : Nat} {x : Str} {px spos : Pos} (hc : X.calm = true) (ho : Ti X.env.scope X.N N' js scope = true) (hN : X.N.Nodup) (hx : X.N[i]? = some x) (hl : X.env.scope.names.lookup x = some .local) (hi : PI X tg iter wi)
  (hg : ∀ cl C fp pins s H, PG (cxC X N' scope cl C fp pins s H) tg g) (he : ∀ cl C fp pins s H, PE (cxC X N' scope cl C fp pins s H) elt te)
  (hsw : swapsWith (.ListComp elt [⟨tg, iter, [], 0⟩] scope pos) (some (.Name x px)) spos.line X.env = pure true)
  (hs : ∀ x, foldedSetIterable iter X.env x = pure x := by intro _; rfl) : PS X (.Assign [.Name x px] (.ListComp elt [⟨tg, iter, [], 0⟩] scope pos) spos) (Zy1 i js wi g te) := by
 intro pins s σ H D I h
 have S := CompScope.of ho
 obtain ⟨cl, hcl, c1, c2⟩ := Vp (scope := scope) (env := X.env) fun n hn => I.ok.has n (S.free n hn)
 rw [exec_Assign_Name_used _ _ _ _ hsw]
 refine wpAny_bind (wpAny_standAt (wpAny_bind ?_))
 show wpAny _ _ (do let _ ← comprehension (.ListComp elt [⟨tg, iter, [], 0⟩] scope pos) scope X.env _ (newList []) false (eval iter X.env) (some (assign (.Name x px) X.env))) _ _ s
 refine wpAny_bind (wpAny_mono (wpAny_comprehension_free (use := some (assign (.Name x px) X.env)) (Q := fun _ s' => SP X pins D .next s') rfl hs hcl S.kind S.loc (thn (hi pins s σ H _ I h) fun v s1 h1 => thn h1 fun itv s2 h2 => ?_)) (fun _ s' hq => wpAny_pure (wpAny_pure hq)) fun _ _ e => e)
 obtain ⟨it, fp, tn, J, H2, e, I2, T, st2, f2, q2⟩ := h2
 subst e
 refine Qj (QD := fun E' Hc => D.nx (σ.set i (some (.ref E'))) Hc) (R := fun acc C => compPost (model X.prog X.w) X.A X.xe (some (assign (.Name x px) X.env)) (fun _ s' => SP X pins D .next s') acc C) hc S c1 c2 hg he I2 T st2 f2 q2 ?_
 intro E' C Hc s4 ⟨m, hm⟩ J4 fC nL sC cC pC qd
 show wpAny _ _ (assign (.Name x px) X.env (.ref E')) _ _ s4
 refine wpAny_assign_Name (Qu J4 hN hx (.inl hl) (v := .ref E') rfl (fun s5 J5 ⟨a, sb, ha⟩ => ?_) (.inr hl))
 have hCa : C ≠ a := by
  rcases ha with z | z
  ·rw [z]; exact nL
  ·exact (cC x a z).symm
 refine ⟨m, hm.sameBut sb hCa, fun h' hs' => ⟨σ.set i (some (.ref E')), Hc, ?_, qd⟩⟩
 exact J5.turned (t' := s5.toks) (fun b o hb e => (hs'.2 b hb).trans e) fC nL (.inr sC) cC pC
theorem Q1 {pins : List (Addr × Obj)} {σ : L2.St} {H2 : Hp} {s2 : Shared} {cl : List (Str × Addr)} {it : Addr} {fp : List Addr} {tn : Nat → Heap → Prop} {J : It} {QD : Addr → Hp → Prop} {R : Value → Addr → Result → Shared → Prop} {E : Value → Shared → Prop}
  (hc : X.calm = true) (S : CompScope X.env.scope X.N N' js scope) (c1 : ∀ x c, cl.lookup x = some c → X.env.cells.lookup x = some c) (c2 : ∀ n, (n, NameKind.free) ∈ scope.names → ∃ c, cl.lookup n = some c)
  (hg : ∀ cl C fp pins s H, PG (cxC X N' scope cl C fp pins s H) tg g) (hq : ∀ cl C fp pins s H, PT (cxC X N' scope cl C fp pins s H) c tc) (he : ∀ cl C fp pins s H, PE (cxC X N' scope cl C fp pins s H) elt te)
  (I2 : Inv X pins σ H2 s2) (T : Turn X.prog X.w X.K tg J fp it tn) (st2 : tn 0 s2.heap) (f2 : ∀ b ∈ fp, FpOk X pins H2 b)
  (q : ∀ D, H2 D = none → ∃ W : Nat → Nat → L2.St → Hp → Prop, (∃ m, W 0 m (S7 js σ) (upd H2 D (.lst []))) ∧
   ∀ i m σc Hc, W i m σc Hc → (J.stop i Hc ∧ QD D Hc) ∨ (J.go i Hc ∧ ∀ x H', J.yld i Hc x H' → g x σc H' fun σ2 H2 => tc σ2 H2 fun b H3 => if b = true then te σ2 H3 fun y H4 => ∃ acc, H4 D = some (.lst acc) ∧ acc.length < sizeLine ∧
    ∃ m', m' < m ∧ W (i + 1) m' σ2 (upd H4 D (.lst (acc ++ [y]))) else ∃ m', m' < m ∧ W (i + 1) m' σ2 H3))
  (back : ∀ (D C : Addr) (Hc : Hp) (s4 : Shared), (∃ m, s4.heap.Ns C m) → Inv X pins σ Hc s4 → Hc C = none → C ≠ X.env.locals → X.s₀.heap.objs.size ≤ C → (∀ x c, X.env.cells.lookup x = some c → c ≠ C) → (∀ p ∈ X.pn ++ pins, p.1 ≠ C) → QD D Hc → R (.ref D) C (.ok .next) s4) :
  wpAny (model X.prog X.w) X.A (newList []) (fun acc s3 => wpAny (model X.prog X.w) X.A (newFunctionEnv scope X.env.globals cl [] X.env.qual none .none (some X.env)) (fun cenv s4 =>
   codeAny (model X.prog X.w) X.A (.compStart (.ListComp elt [⟨tg, iter, [c], 0⟩] scope pos) 0 (.ref it) acc { cenv with scope := relabel scope X.env }) (R acc cenv.locals) s4) E s3) E s2 := by
 refine wpAny_newObj_type (Ob ?_)
 dsimp only
 have I3 : Inv X pins σ (upd H2 s2.heap.objs.size (.lst [])) { s2 with heap := s2.heap.push { cls := .type "list", data := .seq ([] : List Value).toArray } } := I2.lnew (its := []) (t' := s2.toks) .nil (Nat.zero_le _)
 obtain ⟨W, ⟨m0, w0⟩, turn⟩ := q s2.heap.objs.size I2.fresh
 have hob := T.obj 0 _ st2
 have f3 : ∀ b ∈ fp, FpOk X pins (upd H2 s2.heap.objs.size (.lst [])) b := fun b hb => by
  obtain ⟨o, e, _⟩ := hob b hb
  exact ⟨by rw [Zl (Nat.ne_of_lt (Heap.lt_size e))]; exact (f2 b hb).1, (f2 b hb).2⟩
 generalize hS3 : (s2.heap.push { cls := .type "list", data := .seq ([] : List Value).toArray } : Heap) = h3 at *
 have k23 : ∀ b o, s2.heap.get? b = some o → h3.get? b = some o := fun b o e => by rw [← hS3]; exact Heap.get?_push_of_some _ e
 have hlt : ∀ b ∈ fp, b < h3.objs.size := fun b hb => by
  obtain ⟨o, e, _⟩ := hob b hb
  exact Heap.lt_size (k23 b o e)
 have bc := Ph S.nd I3 { cls := .type "dict", data := .dict #[] } c1 c2
 have hns : (pushCells (h3.push { cls := .type "dict", data := .dict #[] }) scope.names).Ns h3.objs.size (fun _ => none) := (Heap.Ns.new h3 (.type "dict")).keeps (pushCells_keeps _ _)
 have k31 : ∀ b o, h3.get? b = some o → (pushCells (h3.push { cls := .type "dict", data := .dict #[] }) scope.names).get? b = some o := fun b o e => pushCells_keeps _ _ b o (Heap.get?_push_of_some _ e)
 dsimp only at bc
 generalize cellsFrom (h3.objs.size + 1) scope.names cl = cl' at bc ⊢
 generalize pushCells (h3.push { cls := .type "dict", data := .dict #[] }) scope.names = h1 at bc hns k31 ⊢
 have I4 := Pu (tk := s2.toks) S I3 bc f3 hlt hns k31
 have st4 : tn 0 h1 := T.keep 0 _ h1 st2 fun b hb o e => k31 b o (k23 b o e)
 have nofs : ∀ b ∈ fp, b ∉ (cxC X N' scope cl' h3.objs.size fp pins { s2 with heap := h3 } (upd H2 s2.heap.objs.size (.lst []))).fs := I4.ok.exfs
 have stat : ∀ {H' : Hp}, (∀ b ∈ fp, H' b = none) → ∀ b ∈ fp, FpOk (cxC X N' scope cl' h3.objs.size fp pins { s2 with heap := h3 } (upd H2 s2.heap.objs.size (.lst []))) [] H' b := fun {H'} hn b hb =>
  ⟨hn b hb, Nat.ne_of_lt (hlt b hb), nofs b hb, .inl hb, fun x c e => (bc.each x c e).elim (fun z => (f3 b hb).2.2.2.2.1 x c z) (fun z q => absurd z.1 (Nat.lt_asymm (by rw [q]; exact hlt b hb))), fun p hp => (f3 b hb).2.2.2.2.2 p (by simpa [cxC] using hp)⟩
 have loop : codeAny (model X.prog X.w) X.A (.compLoop (.ListComp elt [⟨tg, iter, [c], 0⟩] scope pos) 0 (.ref it) (.ref s2.heap.objs.size) (compEnvC scope cl' h3.objs.size X.env))
   (R (.ref s2.heap.objs.size) h3.objs.size) { s2 with heap := h1, toks := s2.toks } := by
  refine El (fun n s' => ∃ i σc Hc, Inv (cxC X N' scope cl' h3.objs.size fp pins { s2 with heap := h3 } (upd H2 s2.heap.objs.size (.lst []))) [] σc Hc s' ∧ tn i s'.heap ∧ (∀ b ∈ fp, Hc b = none) ∧ W i n σc Hc) ?_ m0
   ⟨0, _, _, I4, st4, fun b hb => (f3 b hb).1, w0⟩
  rintro n z ⟨i, σc, Hc, Iz, stz, frz, wz⟩
  rcases turn i n σc Hc wz with ⟨stop, qd⟩ | ⟨go, step⟩
  ·refine thn (T.done (cxC X N' scope cl' h3.objs.size fp pins { s2 with heap := h3 } (upd H2 s2.heap.objs.size (.lst []))) rfl rfl rfl hc i [] z σc Hc noE Iz (stat frz) stz stop) fun r s4 ⟨hr, I5⟩ => ?_
   subst hr
   have J5 : Inv X pins σ Hc s4 := I3.call' (s' := s4) I5.os I5.base I5.hok I5.bare fun b hb => ⟨(f3 b hb).2.2.2.1, (f3 b hb).2.1, (f3 b hb).2.2.2.2.1, (f3 b hb).2.2.2.2.2⟩
   obtain ⟨m, hm, _⟩ := I5.loc
   refine back _ _ Hc s4 ⟨m, hm⟩ J5 I5.free (Nat.ne_of_gt I3.lt) (Nat.le_trans I3.ok.above (Nat.le_of_lt I3.lt)) (fun x c e z => ?_) (fun p hp z => ?_) qd
   ·obtain ⟨v, q⟩ := I3.cell x c e
    exact absurd q.lt (by rw [z]; exact Nat.lt_irrefl _)
   ·exact absurd (Heap.lt_size (I3.pin p hp).1) (by rw [z]; exact Nat.lt_irrefl _)
  ·refine thn (T.item (cxC X N' scope cl' h3.objs.size fp pins { s2 with heap := h3 } (upd H2 s2.heap.objs.size (.lst []))) rfl rfl rfl hc i [] z σc Hc noE Iz (stat frz) stz go) fun r s4 ⟨u, hr, h4⟩ => ?_
   subst hr
   refine thn h4 fun _ s5 ⟨x, H5, I5, r5, y5, st5, fr5⟩ => ?_
   have I5' := I5.pinned (stat fr5) (T.obj _ _ st5)
   refine thn (hg _ _ _ _ _ _ _ s5 σc H5 x u _ I5' r5 (step x H5 y5)) fun _ s6 ⟨σ6, H6, I6, q6⟩ => ?_
   refine thn (hq _ _ _ _ _ _ _ s6 σ6 H6 _ I6 q6) fun ok s6' ⟨H6', I6', q6'⟩ => ?_
   cases ok with
   | false =>
    rw [if_neg Bool.false_ne_true] at q6' ⊢
    obtain ⟨m', hm, w7⟩ := q6'
    refine ⟨m', hm, i + 1, σ6, _, I6'.unpinned, T.keep _ _ _ st5 fun b hb o e => (I6'.pin (b, o) (List.mem_append_right _ (List.mem_append_right _ (X8 hb e)))).1, fun b hb => ?_, w7⟩
    obtain ⟨o, e, d⟩ := T.obj _ _ st5 b hb
    exact (I6'.pin (b, o) (List.mem_append_right _ (List.mem_append_right _ (X8 hb e)))).2.1
   | true =>
   rw [if_pos rfl] at q6' ⊢
   refine thn (he _ _ _ _ _ _ _ s6' σ6 H6' _ I6' q6') fun v s7 ⟨y, H7, I7, r7, acc, hD, hlen, m', hm, w7⟩ => ?_
   refine thn (Q4 _ s7 σ6 H7 (.ref s2.heap.objs.size) [y] (.ref s2.heap.objs.size) [v] (fun _ H8 => H8 = upd H7 s2.heap.objs.size (.lst (acc ++ [y]))) I7 rfl (.cons r7 .nil) ⟨_, acc, y, rfl, rfl, hD, hlen, rfl⟩) fun _ s8 ⟨_, H8, I8, _, e8⟩ => ?_
   subst e8
   refine ⟨m', hm, i + 1, σ6, _, I8.unpinned, T.keep _ _ _ st5 fun b hb o e => (I8.pin (b, o) (List.mem_append_right _ (List.mem_append_right _ (X8 hb e)))).1, fun b hb => ?_, w7⟩
   obtain ⟨o, e, d⟩ := T.obj _ _ st5 b hb
   exact (I8.pin (b, o) (List.mem_append_right _ (List.mem_append_right _ (X8 hb e)))).2.1
 exact codeAny_compStart_list loop (T.self _ 0 _ _ _ st4 loop)
theorem Zf5 (hc : X.calm = true) (ho : Ti X.env.scope X.N N' js scope = true) (hi : PI X tg iter wi) (hg : ∀ cl C fp pins s H, PG (cxC X N' scope cl C fp pins s H) tg g) (hq : ∀ cl C fp pins s H, PT (cxC X N' scope cl C fp pins s H) c tc) (he : ∀ cl C fp pins s H, PE (cxC X N' scope cl C fp pins s H) elt te)
  (hs : ∀ x, foldedSetIterable iter X.env x = pure x := by intro _; rfl) : PE X (.ListComp elt [⟨tg, iter, [c], 0⟩] scope pos) (Zi8 js wi g tc te) := by
 intro pins s σ H Q I h
 have S := CompScope.of ho
 obtain ⟨cl, hcl, c1, c2⟩ := Vp (scope := scope) (env := X.env) fun n hn => I.ok.has n (S.free n hn)
 rw [eval_ListComp]
 refine wpAny_comprehension_free (use := none) rfl hs hcl S.kind S.loc (thn (hi pins s σ H _ I h) fun v s1 h1 => thn h1 fun itv s2 h2 => ?_)
 obtain ⟨it, fp, tn, J, H2, e, I2, T, st2, f2, q2⟩ := h2
 subst e
 refine Q1 (QD := fun D Hc => Q (.ref D) Hc) (R := fun acc C => compPost (model X.prog X.w) X.A X.xe none (EP X pins σ Q) acc C) hc S c1 c2 hg hq he I2 T st2 f2 q2 ?_
 intro D C Hc s4 ⟨m, hm⟩ J4 fC nL sC cC pC qd
 refine ⟨m, hm, fun h' hs' => ⟨.ref D, Hc, ?_, rfl, qd⟩⟩
 exact J4.turned (t' := s4.toks) (fun b o hb e => (hs'.2 b hb).trans e) fC nL (.inr sC) cC pC
def Zv9 (i : Nat) (js : List (Option Nat)) (wi : TI) (g : TG) (tc : TT) (te : TE) : TS := fun D σ H => Zi8 js wi g tc te σ H fun v H1 => D.nx (σ.set i (some v)) H1
theorem Za8 {i : Nat} {x : Str} {px spos : Pos} (hc : X.calm = true) (ho : Ti X.env.scope X.N N' js scope = true) (hN : X.N.Nodup) (hx : X.N[i]? = some x) (hl : X.env.scope.names.lookup x = some .local) (hi : PI X tg iter wi)
  (hg : ∀ cl C fp pins s H, PG (cxC X N' scope cl C fp pins s H) tg g) (hq : ∀ cl C fp pins s H, PT (cxC X N' scope cl C fp pins s H) c tc) (he : ∀ cl C fp pins s H, PE (cxC X N' scope cl C fp pins s H) elt te)
  (hsw : swapsWith (.ListComp elt [⟨tg, iter, [c], 0⟩] scope pos) (some (.Name x px)) spos.line X.env = pure true)
  (hs : ∀ x, foldedSetIterable iter X.env x = pure x := by intro _; rfl) : PS X (.Assign [.Name x px] (.ListComp elt [⟨tg, iter, [c], 0⟩] scope pos) spos) (Zv9 i js wi g tc te) := by
 intro pins s σ H D I h
 have S := CompScope.of ho
 obtain ⟨cl, hcl, c1, c2⟩ := Vp (scope := scope) (env := X.env) fun n hn => I.ok.has n (S.free n hn)
 rw [exec_Assign_Name_used _ _ _ _ hsw]
 refine wpAny_bind (wpAny_standAt (wpAny_bind ?_))
 show wpAny _ _ (do let _ ← comprehension (.ListComp elt [⟨tg, iter, [c], 0⟩] scope pos) scope X.env _ (newList []) false (eval iter X.env) (some (assign (.Name x px) X.env))) _ _ s
 refine wpAny_bind (wpAny_mono (wpAny_comprehension_free (use := some (assign (.Name x px) X.env)) (Q := fun _ s' => SP X pins D .next s') rfl hs hcl S.kind S.loc (thn (hi pins s σ H _ I h) fun v s1 h1 => thn h1 fun itv s2 h2 => ?_)) (fun _ s' hq => wpAny_pure (wpAny_pure hq)) fun _ _ e => e)
 obtain ⟨it, fp, tn, J, H2, e, I2, T, st2, f2, q2⟩ := h2
 subst e
 refine Q1 (QD := fun E' Hc => D.nx (σ.set i (some (.ref E'))) Hc) (R := fun acc C => compPost (model X.prog X.w) X.A X.xe (some (assign (.Name x px) X.env)) (fun _ s' => SP X pins D .next s') acc C) hc S c1 c2 hg hq he I2 T st2 f2 q2 ?_
 intro E' C Hc s4 ⟨m, hm⟩ J4 fC nL sC cC pC qd
 show wpAny _ _ (assign (.Name x px) X.env (.ref E')) _ _ s4
 refine wpAny_assign_Name (Qu J4 hN hx (.inl hl) (v := .ref E') rfl (fun s5 J5 ⟨a, sb, ha⟩ => ?_) (.inr hl))
 have hCa : C ≠ a := by
  rcases ha with z | z
  ·rw [z]; exact nL
  ·exact (cC x a z).symm
 refine ⟨m, hm.sameBut sb hCa, fun h' hs' => ⟨σ.set i (some (.ref E')), Hc, ?_, qd⟩⟩
 exact J5.turned (t' := s5.toks) (fun b o hb e => (hs'.2 b hb).trans e) fC nL (.inr sC) cC pC
end
end L3
namespace L3
open PySem
def ExAt (h : Heap) (e : Addr) (cls : Value) (dd : Option Addr) (tb : Value) : Prop := ∃ oe vs, h.get? e = some oe ∧ (oe.cls = cls ∧ oe.dict = dd) ∧ oe.data = .fields vs ∧ vs[1]? = some tb
def TbAt (h : Heap) (T : Addr) (fl : Value) : Prop := ∃ oT ts, h.get? T = some oT ∧ oT.data = .fields ts ∧ ts[3]? = some fl
theorem ExAt.at {h h' : Heap} {e : Addr} {cls : Value} {dd : Option Addr} {tb : Value} (x : ExAt h e cls dd tb) (k : ∀ o, h.get? e = some o → h'.get? e = some o) : ExAt h' e cls dd tb :=
 let ⟨oe, vs, he, r⟩ := x; ⟨oe, vs, k _ he, r⟩
theorem TbAt.at {h h' : Heap} {T : Addr} {fl : Value} (x : TbAt h T fl) (k : ∀ o, h.get? T = some o → h'.get? T = some o) : TbAt h' T fl :=
 let ⟨o, ts, he, r⟩ := x; ⟨o, ts, k _ he, r⟩
structure Flown (fs xs : List Addr) (h h' : Heap) : Prop where
 keep : ∀ b o, h.get? b = some o → b ∉ fs → b ∉ xs → h'.get? b = some o
 slot : ∀ b o, h.get? b = some o → b ∈ fs → b ∉ xs → ∃ sl, h'.get? b = some { o with slots := sl }
 there : ∀ b o, h.get? b = some o → ∃ o', h'.get? b = some o'
theorem Flown.refl (fs xs : List Addr) (h : Heap) : Flown fs xs h h := ⟨fun _ _ e _ _ => e, fun _ o e _ _ => ⟨o.slots, e⟩, fun _ o e => ⟨o, e⟩⟩
theorem Flown.trans {fs xs ys : List Addr} {h h1 h2 : Heap} (a : Flown fs xs h h1) (b : Flown fs ys h1 h2) (hy : ∀ z ∈ ys, z ∈ xs ∨ h.get? z = none) : Flown fs xs h h2 where
 keep := fun c o e hf hx => b.keep c o (a.keep c o e hf hx) hf fun z => (hy c z).elim hx fun q => by rw [q] at e; cases e
 slot := fun c o e hf hx => by
  obtain ⟨sl, e1⟩ := a.slot c o e hf hx
  obtain ⟨sl', e2⟩ := b.slot c _ e1 hf fun z => (hy c z).elim hx fun q => by rw [q] at e; cases e
  exact ⟨sl', e2⟩
 there := fun c o e => let ⟨o1, e1⟩ := a.there c o e; b.there c o1 e1
section
variable {M : Model} {A : Around} {E : Value → Shared → Prop} {s : Shared} {base : Heap} {env : Env} {outer : List Env} {L e : Addr} {cls : Value} {dd : Option Addr} {tb : Value}
end
end L3
namespace L3
open PySem PySem.W
section
variable {prog : Program} {w : World} {A : Around} {h : Heap} {g : Array GenState} {d : Drawn} {t : Nat} {os : OsState}
variable {nm q : Str} {C N f : Addr} {bs bm : List Value} {hdct : Bool} {sn : List Str} {sub : List Value} {ab : Bool} {col : Option Bool} {dd : Option Addr} {k0 k1 k2 k3 k5 : Option Value} {Bn newId inN : String} {bmN : List Value}
structure ExcCls (h : Heap) (C : Addr) (nm q : Str) (N : Addr) (bs bm : List Value) (hdct : Bool) (sn : List Str) (sub : List Value) (ab : Bool) (col : Option Bool) (dd : Option Addr) (k0 k1 k2 k3 k5 : Option Value) (Bn newId : String) : Prop where
 obj : h.get? C = some (excClassObj nm q C N bs bm hdct sn sub ab col dd k0 k1 k2 k3 k5 newId)
 hB : (Value.ref C :: bm).contains (.type Bn) = true
 hA : (Value.ref C :: bm).contains (.type "AttributeError") = false
 hN : (Value.ref C :: bm).contains (.type "NameError") = false
 hE : (Value.ref C :: bm).contains (.type "BaseException") = true
end
end L3
namespace L3
open PySem PySem.W PySem.Calls PyProof.Rows Builtin Builtin.ObjectAttr
structure ExcSet (K : Frag) (C : Addr) (name : Str) : Prop where
 cls : ∃ cd own, clsIn K C = some cd ∧ cd.hasDict = true ∧ cd.mro = own ++ [.type "ValueError", .type "Exception", .type "BaseException", .type "object"] ∧ ∀ v ∈ own, ∃ a, v = Value.ref a
 no : findIn K (.ref C) name = some none
 set : findIn K (.ref C) "__setattr__" = some (some (.builtin "object.__setattr__"))
section
variable {prog : Program} {w : World} {A : Around} {K : Frag} {C e : Addr} {s : Shared} {name : Str} {R : Result → Shared → Prop}
structure ExcGet (K : Frag) (C : Addr) (name : Str) : Prop where
 cls : ∃ cd, clsIn K C = some cd ∧ cd.hasDict = true
 no : findIn K (.ref C) name = some none
 ga : findIn K (.ref C) "__getattribute__" = some (some (.builtin "BaseException.__getattribute__"))
 gh : findIn K (.ref C) "__getattr__" = some none
 base : mroIn K C (.type "BaseException") = some true
theorem Zs9 (self : Value) : bindSpecial (.builtin "BaseException.__getattribute__") self = pure (.builtin "BaseException.__getattribute__", [self]) := by kernel_rfl
theorem Zm9 : builtinKind "BaseException.__getattribute__" = some .slot := by decide +kernel
theorem Zb0 : splitId "BaseException.__getattribute__" = some ("BaseException", "__getattribute__") := by decide +kernel
theorem Zg8 : plainId "BaseException.__getattribute__" = true := by decide +kernel
theorem Zp0 (a b : Value) : argsOk "BaseException.__getattribute__" ⟨[a, b], []⟩ := by unfold argsOk; kernel_rfl
end
end L3
namespace L3
open PySem PySem.Spec PyProof.Rows L2
def XO (e : Addr) (cls : Value) (dd : Option Addr) : HO := .ext fun h => ∃ oe vs tb, h.get? e = some oe ∧ (oe.cls = cls ∧ oe.dict = dd) ∧ oe.data = .fields vs ∧ vs[1]? = some tb
theorem XO.at {P : Program} {w : World} {H : Hp} {h : Heap} {e : Addr} {cls : Value} {dd : Option Addr} (x : X4 P w H h e (XO e cls dd)) : ∃ tb, ExAt h e cls dd tb := by
 obtain ⟨⟨oe, vs, tb, q1, q2, q3, q4⟩, _⟩ := x
 exact ⟨tb, oe, vs, q1, q2, q3, q4⟩
def CX1 (P : Program) (w : World) : CXT := fun outer H s E e s' => ∃ (ea T : Addr) (cls : Value) (dd : Option Addr) (H' : Hp), e = .ref ea ∧ s'.os = s.os ∧ AllBare s'.gens ∧ Un (frs outer) [] H H' s.heap s'.heap ∧ HOk P w H' s'.heap ∧
 (s.heap.objs.size ≤ ea ∧ s.heap.objs.size ≤ T) ∧ H' ea = some (XO ea cls dd) ∧ (H' T = none ∧ T ≠ ea) ∧ ExAt s'.heap ea cls dd (.ref T) ∧ TbAt s'.heap T .none ∧ E cls dd H'
structure Leaves (X : Cx) (E : XK) : Prop where
 stk : X.stack = X.env :: X.outer
 fr : X.env.frame = some X.env.locals
 ex : X.ex = []
 xe : ∀ e s', wpAny (model X.prog X.w) X.A (leaving X.env e) (fun _ s'' => CX1 X.prog X.w X.outer X.H₀ X.s₀ E e s'') (fun e' s'' => CX1 X.prog X.w X.outer X.H₀ X.s₀ E e' s'') s' → X.xe e s'
section
variable {X : Cx} {E : XK} {pins : List (Addr × Obj)} {σ : L2.St} {H : Hp} {s : Shared} {e T : Addr} {cls : Value} {dd : Option Addr} {xs : List Addr} {h1 : Heap} {fl : Value}
end
section
variable {X : Cx} {pos pos' : Pos} {o value : Expr} {f : Str} {ta tv : TE}
end
structure ExcMk (K : PySem.W.Frag) (C f : Addr) : Prop where
 cls : ∃ nm q N bs bm hdct sn sub ab col dd k0 k1 k2 k3 k5, K.lookup C = some (excClassObj nm q C N bs bm hdct sn sub ab col dd k0 k1 k2 k3 k5 "ValueError.__new__") ∧ (Value.ref C :: bm).contains (.type "ValueError") = true ∧
  (Value.ref C :: bm).contains (.type "AttributeError") = false ∧ (Value.ref C :: bm).contains (.type "NameError") = false ∧ (Value.ref C :: bm).contains (.type "BaseException") = true
 init : PySem.W.findIn K (.ref C) "__init__" = some (some (.ref f))
 fn : PySem.W.isFn K (.ref f) = true
 kp : PySem.W.keepIn K (.ref C) = true
theorem ExcMk.at {K : PySem.W.Frag} {C f : Addr} (M : ExcMk K C f) {h : Heap} (k : K.In h) : ∃ nm q N bs bm hdct sn sub ab col dd k0 k1 k2 k3 k5, ExcCls h C nm q N bs bm hdct sn sub ab col dd k0 k1 k2 k3 k5 "ValueError" "ValueError.__new__" := by
 obtain ⟨nm, q, N, bs, bm, hdct, sn, sub, ab, col, dd, k0, k1, k2, k3, k5, h1, h2, h3, h4, h5⟩ := M.cls
 exact ⟨nm, q, N, bs, bm, hdct, sn, sub, ab, col, dd, k0, k1, k2, k3, k5, k _ _ h1, h2, h3, h4, h5⟩
section
variable {X : Cx} {k : Nat} {f C : Addr} {fd : FuncData} {ps : List Str} {sp : Sp} {dvs : List V} {ds : List Value} {pins : List (Addr × Obj)} {σ : L2.St} {H : Hp} {s : Shared} {us : List Value} {vs : List V}
end
end L3
namespace L3
open PySem PySem.W PySem.Calls PyProof.Rows Builtin Builtin.ObjectAttr
section
variable {prog : Program} {w : World} {A : Around} {E : Value → Shared → Prop} {K : Frag} {C D e : Addr} {s : Shared}
structure ExcIs (K : Frag) (C : Addr) : Prop where
 cls : ∃ cd, clsIn K C = some cd ∧ cd.hasDict = true
 ga : findIn K (.ref C) "__getattribute__" = some (some (.builtin "BaseException.__getattribute__"))
 gh : findIn K (.ref C) "__getattr__" = some none
 base : mroIn K C (.type "BaseException") = some true
 own : findIn K (.ref C) "__class__" = some (some (.builtin "object.__class__"))
 ds : specialIn K (.builtin "object.__class__") "__get__" = some (some (.builtin "getset_descriptor.__get__"))
 tk : takesIn K (.builtin "object.__class__") = some true
 obj : mroIn K C (.type "object") = some true
theorem Ba {oe : Obj} {od : Obj} {Q : Option Value → Shared → Prop} (X : K.In s.heap) (S : ExcIs K C) (J : InstAt s.heap e oe C (some od)) (h : Q (some (.ref C)) { s with toks := s.toks + 1 }) :
  wpAny (model prog w) A (getAttr? (.ref e) "__class__") Q E s := by
 obtain ⟨⟨cd, hcd, hdict⟩, hga, hgh, hbase, hown, hds, htk, hobj⟩ := S
 obtain ⟨hp, g, d, t, os⟩ := s
 have hf : findObj K C (some od) "__class__" = some (.bind (.builtin "getset_descriptor.__get__") (.builtin "object.__class__")) := findObj_data (by rw [hcd]; rfl) hown hds htk
 have L0 := J.type (M := model prog w)
 have L1 := looks_findIn (M := model prog w) X hga
 have L2 := looks_findIn (M := model prog w) X hgh
 have L3' := looks_find (M := model prog w) X J hf
 have sub : Looks (model prog w) hp (isInstance (.ref e) (.type "BaseException")) true := L0.andThen (looks_mroIn X hbase)
 unfold getAttr? getAttrBy? getAttrBy
 refine wpAny_bind (wpAny_mkText (wpAny_bind (wpAny_attempt (wpAny_holding (wpAny_bind (L0.at (wpAny_bind (L1.at ?_))))))))
 show wpAny _ _ (getAttrByItsOwn _ _ _ _ _ _) _ _ _
 unfold getAttrByItsOwn
 refine wpAny_bind (L2.at (wpAny_bind (wpAny_attempt (wpAny_holding ?_))))
 unfold callGetattribute
 rw [if_neg (by decide)]
 unfold boundAndCalled
 rw [Zs9]
 refine wpAny_bind (wpAny_pure (wpAny_call ?_))
 refine codeAny_call_builtin Zg8 F.entry_bexc_ga (@check_slot (model prog w) _ _ _ "BaseException.__getattribute__" "BaseException" "__getattribute__" (.ref e) [.str "__class__" t] [] _ Zm9 Zb0 sub (Zp0 (.ref e) (.str "__class__" t)) ?_)
 show wpAny _ _ (typeOf (.ref e) >>= fun tp => find (.ref e) tp "__class__" >>= _) _ _ _
 refine wpAny_bind (L0.at (wpAny_bind (L3'.at ?_)))
 have hcall := class_get (prog := prog) (w := w) (A := A.in1) (s := ⟨hp, g, d, t + 1, os⟩) (tp := .ref C) (R := fun r s' => r = .ok (.ret (.ref C)) ∧ s' = ⟨hp, g, d, t + 1, os⟩) X J hobj ⟨rfl, rfl⟩
 unfold bindTo
 refine wpAny_bind (wpAny_holding (wpAny_call (codeAny_mono hcall fun r s' z => ?_)))
 obtain ⟨rfl, rfl⟩ := z
 refine wpAny_pure ?_
 show wpAny _ _ (handedOut (.ref C)) _ _ _
 exact handed_on rfl (wpAny_pure h)
end
end L3
namespace L3
open PySem PySem.Spec PyProof.Rows L2
section
variable {K : PySem.W.Frag} {C e : Addr}
theorem E6 {oe od : Obj} (S : ExcIs K C) : PySem.W.KitX K (.ref e) (.ref C) (fun h => PySem.W.InstAt h e oe C (some od)) where
 ty := fun _ _ _ I => I.type
 it := fun _ _ X _ => by
  obtain ⟨cd, hcd, _⟩ := S.cls
  unfold PySem.W.clsIn at hcd
  split at hcd
  ·rename_i ho
   intro A' Q' E' s' k q
   unfold isType loadHead
   exact wpAny_bind (wpAny_loadPart (k _ _ (X _ _ ho)) (wpAny_pure q))
  ·cases hcd
 ne := fun h tp dd its n sl X htp => by
  obtain ⟨cd, hcd, _⟩ := S.cls
  refine Bool.eq_false_iff.mpr fun q => ?_
  have z : C = tp := Value.ref.inj (beq_iff_eq.mp q)
  subst z
  unfold PySem.W.clsIn at hcd
  split at hcd
  ·rename_i ho
   have y := (X _ _ ho).symm.trans htp
   cases y
  ·cases hcd
 ca := fun X I k => Ba X S I k
variable {X : Cx} {pins : List (Addr × Obj)} {σ : L2.St} {H : Hp} {s : Shared} {dx : Addr} {fs : List (Str × V)}
theorem Ed (I : Inv X pins σ H s) (he : H e = some (XO e (.ref C) (some dx))) (hd : H dx = some (.xd fs)) : ∃ (oe od : Obj) (mA : Str → Option Value), PySem.W.InstAt s.heap e oe C (some od) ∧ (∀ name, PySem.W.lookIn name od = some (mA name)) ∧ ∀ f, RelO (fs.lookup f) (mA f) := by
 obtain ⟨tb, oe, vs, h1, ⟨h2, h3⟩, h4, _⟩ := XO.at (I.hok e _ he)
 obtain ⟨mA, hn, hr⟩ := (show X4 X.prog X.w H s.heap dx (.xd fs) from I.hok dx _ hd)
 obtain ⟨od, q1, q2⟩ := J0 hn
 refine ⟨oe, od, mA, ⟨h1, h2, by unfold PySem.W.notCls; rw [h4], by rw [h3]; exact q1⟩, q2, hr⟩
def rIsX (K : PySem.W.Frag) : List V → Hp → VK → Prop := fun xs H Q => ∃ e C dx fs c cv b, xs = [.ref e, c] ∧ H e = some (XO e (.ref C) (some dx)) ∧ H dx = some (.xd fs) ∧ ExcIs K C ∧ (∀ u, RelV c u → u = cv) ∧ PySem.W.kitOne K (.ref C) cv = some b ∧ Q (.bl b) H
theorem Fs : Tc X (.builtin "isinstance") (rIsX X.K) := by
 intro pins s σ H xs us Q I r h
 obtain ⟨e, C, dx, fs, c, cv, b, rfl, he, hd, S, hc, k, q⟩ := h
 obtain ⟨u, v, rfl, ru, rv⟩ := G4 r
 obtain rfl : u = Value.ref e := ru
 cases hc v rv
 obtain ⟨oe, od, mA, J, _⟩ := Ed I he hd
 exact PySem.W.kia_one (E6 S) I.kIn J k (fun z => nomatch z) fun tk => ⟨.bl b, H, I.tok tk, rfl, q⟩
end
section
variable {X : Cx} {k : Nat} {f : Addr} {fd : FuncData} {ps : List Str} {sp : Sp} {dvs : List V} {ds : List Value} {x : Str} {p pos : Pos} {e : Expr} {es : List Expr} {t : TA}
variable {te : TEX}
end
section
variable {X : Cx} {pins : List (Addr × Obj)} {σ : L2.St} {H : Hp} {s : Shared} {e : Addr}
end
structure Catch (K : PySem.W.Frag) (C D : Addr) (b : Bool) : Prop where
 ty : PySem.W.typeIn K (.ref D) = some (.type "type")
 cls : (PySem.W.clsIn K D).isSome = true
 exc : PySem.W.mroIn K D (.type "BaseException") = some true
 sub : PySem.W.mroIn K C (.ref D) = some b
section
open PySem.W
end
section
variable {X : Cx} {body suite : List Stmt} {b₀ : Stmt} {x n : Str} {np hpos pos : Pos} {D : Addr} {i : Nat} {tb : TSX} {ts : TS}
end
end L3
namespace L3
open PySem PyProof.Rows
section
variable {prog : Program} {w : World} {A : Around} {E : Value → Shared → Prop} {s : Shared}
abbrev Zk0 (h : Heap) (z TI TO : Addr) (f0 : Value) (b : Bool) : Prop :=
 h.get? z = some { cls := .type "zip", dict := none, data := .fields #[f0, .bool b, .bool false, .ref TI, .ref TO], slots := #[] }
end
section
variable {prog : Program} {w : World} {A : Around} {E : Value → Shared → Prop} {s : Shared}
structure ZS (h0 h : Heap) (S z TI TO i1 i2 l1 l2 : Addr) (xs ys : Array Value) (Ts : List Addr) : Prop where
 kept : ∀ b o, h0.get? b = some o → h.get? b = some o
 zp : (Ts = [] ∧ Zk0 h z TI TO .none false ∧ ∃ a b, IsPair h TO a b) ∨ ∃ (T : Addr) (b : Bool) (oT : Obj), Zk0 h z TI TO (rawInt T) b ∧ h.get? T = some oT
 ti : IsPair h TI (.ref i1) (.ref i2)
 to : ∃ o, h.get? TO = some o
 t1 : h.IsListIter i1 l1 Ts.length
 t2 : h.IsListIter i2 l2 Ts.length
 nd : Ts.Nodup
 tp : ∀ (j : Nat) T, Ts[j]? = some T → ∃ x y, xs[j]? = some x ∧ ys[j]? = some y ∧ IsPair h T x y
 tb : ∀ T ∈ Ts, h0.objs.size ≤ T ∧ T ≠ z ∧ T ≠ TO ∧ T ≠ i1 ∧ T ≠ i2 ∧ T ≠ S
structure ZF (h0 : Heap) (S z TI TO i1 i2 l1 l2 : Addr) (xs ys : Array Value) : Prop where
 D : ZipApart z TI TO i1 i2 l1 l2
 l1 : h0.IsList l1 xs
 l2 : h0.IsList l2 ys
 nz : h0.objs.size ≤ z
 nTO : h0.objs.size ≤ TO
 n1 : h0.objs.size ≤ i1
 n2 : h0.objs.size ≤ i2
 nS : h0.objs.size ≤ S
 sz : S ≠ z
 sTI : S ≠ TI
 sTO : S ≠ TO
 s1 : S ≠ i1
 s2 : S ≠ i2
end
structure ZEnd (h0 h : Heap) (S : Addr) (xs ys : Array Value) (Ts : List Addr) : Prop where
 kept : ∀ b o, h0.get? b = some o → h.get? b = some o
 len : Ts.length = min xs.size ys.size
 nd : Ts.Nodup
 tp : ∀ (j : Nat) T, Ts[j]? = some T → ∃ x y, xs[j]? = some x ∧ ys[j]? = some y ∧ IsPair h T x y
 tb : ∀ T ∈ Ts, h0.objs.size ≤ T ∧ T ≠ S
 so : ∃ c, h.get? S = some { cls := .type "list", dict := none, data := .seq (Ts.map Value.ref).toArray c, slots := #[] }
section
variable {prog : Program} {w : World} {A : Around} {R : Result → Shared → Prop}
end
section
variable {prog : Program} {w : World} {A : Around} {E : Value → Shared → Prop} {s : Shared} {R : Result → Shared → Prop}
end
end L3
namespace L3
open PySem PySem.Spec PyProof.Rows L2
section
variable {X : Cx} {pins : List (Addr × Obj)} {σ : L2.St} {H H' : Hp} {s : Shared} {h' : Heap}
end
section
variable {X : Cx}
end
section
variable {X : Cx}
def tRev (K : PySem.W.Frag) (te : TE) (tk : TO) : TE := fun σ H Q => te σ H fun x H1 => tk σ H1 fun o H2 => o = some (-1) ∧ ∃ a xs, x = V.ref a ∧ SqL K H2 a xs ∧ ∀ p, H2 p = none → Q (.ref p) (upd H2 p (.lst xs.reverse))
theorem Y14 {e k : Expr} {te : TE} {tk : TO} {p2 pos : Pos} (he : PE X e te) (hk : PO X (some k) tk) : PE X (.Subscript e (.Slice none none (some k) p2) pos) (tRev X.K te tk) := by
 intro pins s σ H Q I h
 refine Subscript_ (thn (he pins s σ H _ I h) fun v s1 ⟨x, H1, I1, r1, q1⟩ => ?_)
 refine wpAny_Slice ?_
 simp only [evalPart_none]
 refine wpAny_pure (wpAny_pure ?_)
 refine thn (hk pins s1 σ H1 _ I1 q1) fun vk s2 ⟨o, H2, I2, pk, q2⟩ => ?_
 obtain ⟨rfl, a, xs, rfl, hx, q⟩ := q2
 cases r1
 have I3 : Inv X pins σ H2 { s2 with heap := s2.heap.push { cls := .type "slice", data := .fields #[.none, .none, vk] } } := I2.kept (t' := s2.toks) fun b ob q => Heap.get?_push_of_some _ q
 obtain ⟨its, r, ht, hz⟩ := I3.list hx
 have hlen := r.length
 show wpAny (model X.prog X.w) X.A (subscriptTail e (.Slice none none (some k) p2) (.ref a) (.ref s2.heap.objs.size)) (EP X pins σ Q) X.xe { s2 with heap := s2.heap.push { cls := .type "slice", data := .fields #[.none, .none, vk] } }
 refine tail_any (ops := [.ref a, .ref s2.heap.objs.size]) ht.isList.typeIs slot_list_getitem.lookup ?_ (by with_unfolding_all rfl)
 refine wpAny_getItem_list_slice ht.isList (Heap.IsSliceOf.new ..) .none .none pk (by simp) ?_ (by rw [List.size_toArray] <;> omega)
 rw [PySem.W.krv_pick]
 refine ⟨.ref _, _, I3.laid (t' := s2.toks) (o := .lst xs.reverse) (fun b ob q => Heap.get?_push_of_some _ q) (Nat.le_refl _) ?_, rfl, q _ (I3.hok.fresh (Nat.le_refl _))⟩
 exact ⟨by rw [List.length_reverse]; exact hz, _, 0, r.reverse, Heap.get?_push_size _ rfl⟩
def Zw6 (K : PySem.W.Frag) : V → List V → Hp → VK → Prop := fun x vs H Q => ∃ l xs y k z, x = .ref l ∧ vs = [y] ∧ SqL K H l xs ∧ Sd y = true ∧ xs.all Sd = true ∧ xs[k]? = some z ∧ eqV z y = true ∧ (∀ (j : Nat) u, j < k → xs[j]? = some u → eqV u y = false) ∧ Q (.int k) H
theorem Zb4 : MtR X "list.index" (Zw6 X.K) := by
 intro pins s σ H x vs v us Q I rx rv h
 obtain ⟨l, xs, y, k, z, rfl, rfl, hx, fy, fs, hk, he, hno, q⟩ := h
 cases rx
 obtain ⟨u, rfl, ru⟩ := Jv rv
 obtain ⟨its, r, p, hz⟩ := I.list hx
 obtain ⟨⟨cls, dd, data, sl⟩, ho, hc, n, hd⟩ := p.isList
 simp only at hc hd
 subst hc hd
 have hlen := r.length
 have hkl := (List.getElem?_eq_some_iff.mp hk).1
 have ev : ∀ (j : Nat) (w : V), xs[j]? = some w → ∀ hj : j < its.toArray.size, eqU y its.toArray[j] = eqV w y := by
  intro j w hw hj
  obtain ⟨u', hu', ru'⟩ := r.get hw
  have hf : Sd w = true := by
   rw [List.all_eq_true] at fs
   exact fs w (List.mem_of_getElem? hw)
  have e : its.toArray[j] = u' := by
   have := (List.getElem?_eq_some_iff.mp hu').2
   simpa using this
  rw [e]; exact Z06 ru' hf
 have h63 := R7
 refine call_meets PySem.F.slot_list_index ⟨_, ho, rfl⟩ PySem.F.entry_list_index (PySem.F.args_list_index_2 _ _)
  (SeqAt.list_indexAt l its.toArray n dd sl u (eqU y) k (by rw [List.size_toArray]; omega) (by omega) ?_ ?_) ⟨ho, fun w hw => Vn ru fy r fs w (by simpa using hw), ⟨.int k, H, I.tok _, ⟨_, rfl⟩, q⟩⟩
 ·rw [ev k z hk]; exact he
 ·intro j hj hlt
  have hj' : j < xs.length := by rw [List.size_toArray] at hj; omega
  rw [ev j _ (List.getElem?_eq_getElem hj')]
  exact hno j _ hlt (List.getElem?_eq_getElem hj')
theorem Zn4 {pins : List (Addr × Obj)} {σ : L2.St} {H : Hp} {s : Shared} {h' : Heap} {t' : Nat} {a b : Addr} (I : Inv X pins σ H s) (k : ∀ c o, c ≠ a → c ≠ b → s.heap.get? c = some o → h'.get? c = some o) (fa : FpOk X pins H a) (fb : FpOk X pins H b) : Inv X pins σ H { s with heap := h', toks := t' } := by
 have na : ∀ c u, H c = some u → c ≠ a := by
  intro c u e z
  rw [z, fa.1] at e
  cases e
 have nb : ∀ c u, H c = some u → c ≠ b := by
  intro c u e z
  rw [z, fb.1] at e
  cases e
 have kk : ∀ c o, c ∉ [a, b] → s.heap.get? c = some o → h'.get? c = some o := by
  intro c o hc e
  refine k c o ?_ ?_ e
  ·intro z; apply hc; rw [z]; simp
  ·intro z; apply hc; rw [z]; simp
 refine I.step (ch := [a, b]) (g' := s.gens) (d' := s.drawn) ?_ ?_ ?_ ?_ ?_ ?_ ?_ ?_ ?_ ?_ I.bare
 ·intro c hc
  have : c = a ∨ c = b := by simpa using hc
  rcases this with rfl | rfl
  ·exact ⟨fa.2.2.2.1, fa.2.1, fa.2.2.2.2.1, fa.2.2.2.2.2⟩
  ·exact ⟨fb.2.2.2.1, fb.2.1, fb.2.2.2.2.1, fb.2.2.2.2.2⟩
 ·intro c o _ _ hc e _; exact kk c o hc e
 ·intro c o _ _ hc e _; exact ⟨o.slots, kk c o hc e⟩
 ·intro _ _ _ _ n; exact n
 ·intro c o hc e; exact ⟨o, kk c o hc e⟩
 ·intro _ _ e; exact e
 ·intro _ _ _ e; exact e
 ·intro c ps e; exact ⟨#[], by rw [e]; simp⟩
 ·rintro m ⟨o, es, ep, ho, r⟩
  exact ⟨o, es, ep, k _ o (Ne.symm fa.2.1) (Ne.symm fb.2.1) ho, r⟩
 ·intro c u e
  refine (I.hok c u e).stay ?_ (fun _ q => q) fun _ _ q => q
  intro d v hd q
  rcases hd with z | z
  ·subst z; exact k d v (na d u e) (nb d u e) q
  ·exact k d v (na d _ z) (nb d _ z) q
def Ite (K : PySem.W.Frag) (a : Addr) : It :=
 ⟨fun i H => ∃ xs x, SqL K H a xs ∧ xs[i]? = some x, fun i H x H' => ∃ p y, H p = none ∧ H' = upd H p (.tup [.int i, y]) ∧ x = .ref p ∧ ∀ xs, SqL K H a xs → xs[i]? = some y, fun i H => ∃ xs, SqL K H a xs ∧ xs.length ≤ i⟩
theorem Pm {h : Heap} {o u : Obj} {b : Addr} (e : (h.push o).get? b = some u) : h.get? b = some u ∨ b = h.objs.size := by
 by_cases hb : b = h.objs.size
 ·exact .inr hb
 ·refine .inl ?_
  have hl := Heap.lt_size e
  rw [Heap.size_push] at hl
  obtain ⟨e1, e2⟩ := Heap.get?_some_iff.mp e
  refine Heap.get?_some_iff.mpr ⟨?_, e2⟩
  cases h
  simpa [Heap.push, Array.getElem?_push, hb] using e1
theorem Bb {P : Program} {w : World} {K : PySem.W.Frag} {elts : List Expr} {x1 : Nat} {tp : Pos} (a e it : Addr) (hne : e ≠ it) :
  Turn P w K (.Tuple elts x1 tp) (Ite K a) [e, it] e (fun i h => (∃ old, IsEnum h e it i old) ∧ h.IsListIter it a i) where
 mem := by simp
 obj := by
  rintro i h ⟨⟨old, he⟩, hit⟩ b hb
  have : b = e ∨ b = it := by simpa using hb
  rcases this with rfl | rfl
  ·exact ⟨_, he, fun v z => by cases z⟩
  ·obtain ⟨o, e, c, d⟩ := hit
   exact ⟨o, e, fun v z => by rw [d] at z; cases z⟩
 keep := by
  rintro i h h' ⟨⟨old, he⟩, hit⟩ k
  exact ⟨⟨old, k e (by simp) _ he⟩, hit.at fun o z => k it (by simp) o z⟩
 item := by
  rintro X rfl rfl rfl hc i pins s σ H E I hf ⟨⟨old, he⟩, hit⟩ ⟨xs, x, hq, hx⟩
  obtain ⟨its, rv, p, hz⟩ := I.list hq
  obtain ⟨u, hu, ru⟩ := rv.get hx
  have fe := hf e (by simp)
  have fi := hf it (by simp)
  have le : e < s.heap.objs.size := Heap.lt_size he
  have li : it < s.heap.objs.size := by obtain ⟨o, z, _⟩ := hit; exact Heap.lt_size z
  refine wpAny_pyNext_enum_item he hit p.isList (x := u) (by simpa using hu) hne fun h1 ho hit1 hT hsz hk => ?_
  refine ⟨_, rfl, wpAny_letOwnedTupleGo_enum ho fun h2 he2 hs2 => ?_⟩
  replace hs2 : Heap.SameBut e h1 h2 := hs2
  have hT2 : h2.get? s.heap.objs.size = some { cls := .type "tuple", data := .seq #[.int i s.toks, u] } := (hs2.2 _ (Nat.ne_of_gt le)).trans hT
  have hn : H s.heap.objs.size = none := I.hok.fresh (Nat.le_refl _)
  have I1 : Inv X pins σ (upd H s.heap.objs.size (.tup [.int i, x])) { s with heap := s.heap.push { cls := .type "tuple", data := .seq #[.int i s.toks, u] }, toks := s.toks + 1 } := by
   refine I.laid (fun b ob q => Heap.get?_push_of_some _ q) (Nat.le_refl _) ⟨show 2 ≤ sizeLine by rw [sizeLine_eq]; omega, [.int i s.toks, u], .cons ⟨_, rfl⟩ (.cons ru .nil), ⟨_, Heap.get?_push_size _ rfl, rfl, _, rfl⟩⟩
  have up : ∀ b, b < s.heap.objs.size → FpOk X pins H b → FpOk X pins (upd H s.heap.objs.size (.tup [.int i, x])) b := by
   rintro b lb ⟨f0, f⟩
   refine ⟨?_, f⟩
   rw [Zl (Nat.ne_of_lt lb)]
   exact f0
  have I2 := Zn4 (h' := h2) (t' := s.toks + 1) I1 (fun c o ha hb e' => by
   rcases Pm e' with z | z
   ·exact (hs2.2 c ha).trans (hk c o ha hb z)
   ·subst z
    have z2 : (s.heap.push { cls := .type "tuple", data := .seq #[.int i s.toks, u] }).get? s.heap.objs.size = some o := e'
    rw [Heap.get?_push_size _ rfl] at z2
    cases z2
    exact hT2) (up e le fe) (up it li fi)
  refine ⟨.ref s.heap.objs.size, _, I2, rfl, ⟨_, x, hn, rfl, rfl, fun ys hy => by rw [I.list_inj hy hq]; exact hx⟩, ⟨⟨_, by simpa using he2⟩, hit1.at fun o z => (hs2.2 it (Ne.symm hne)).trans z⟩, fun b hb => ?_⟩
  have : b = e ∨ b = it := by simpa using hb
  rcases this with rfl | rfl
  ·exact (up _ le fe).1
  ·exact (up _ li fi).1
 done := by
  rintro X rfl rfl rfl hc i pins s σ H E I hf ⟨⟨old, he⟩, hit⟩ ⟨xs, hq, hx⟩
  obtain ⟨its, rv, p, hz⟩ := I.list hq
  obtain ⟨f0, f1, f2, f3, f4, f5⟩ := hf it (by simp)
  have hl := rv.length
  exact wpAny_pyNext_enum_end (I.ok.hd hc) he hit p.isList (by simp; omega) fun h' eb => ⟨rfl, I.turned (t' := s.toks) (fun b o hb e => eb b o hb e) f0 f1 f3 f4 f5⟩
 self := by
  rintro A i s Q E ⟨⟨old, he⟩, hit⟩ h
  exact wpAny_pyIter_enum he h
def Y46 (K : PySem.W.Frag) (ta : TA) : TI := fun σ H R => ta σ H fun vs H1 => ∃ a, vs = [V.ref a] ∧ (∃ xs, SqL K H1 a xs) ∧ R (Ite K a) H1
theorem Zp2 {elts : List Expr} {x1 : Nat} {tp : Pos} {l : Expr} {ta : TA} {p pos : Pos} (hg : Gl X "enumerate") (hm : X.mg "enumerate" = none) (ha : PA X [l] ta) (hs : starEach [l] X.env = [(false, eval l X.env)]) :
  PI X (.Tuple elts x1 tp) (.Call (.Name "enumerate" p) [l] [] pos) (Y46 X.K ta) := by
 intro pins s σ H R I h
 refine Call_ (Rx I hg hm (u := .type "enumerate") (by kernel_rfl) (PyProof.Rows.callWith_type1 (thn (ha pos pins s σ H _ I h) fun us s1 ⟨vs, H1, I1, r1, q1⟩ => ?_) hs rfl))
 obtain ⟨a, rfl, ⟨xs, hq⟩, q⟩ := q1
 obtain ⟨u, rfl, ru⟩ := Jv r1
 cases ru
 obtain ⟨its, rv, pl, hz⟩ := I1.list hq
 refine call_enumerate_list pl.isList fun h' he hit hsz hk => ?_
 refine wpAny_pyIter_enum he ?_
 have hne : s1.heap.objs.size + 1 ≠ s1.heap.objs.size := by omega
 refine ⟨s1.heap.objs.size + 1, [s1.heap.objs.size + 1, s1.heap.objs.size], _, _, H1, rfl, I1.kept (t' := s1.toks) hk, Bb a _ _ hne, ⟨⟨_, he⟩, hit⟩, fun b hb => ?_, q⟩
 have hb' : s1.heap.objs.size ≤ b := by
  have : b = s1.heap.objs.size + 1 ∨ b = s1.heap.objs.size := by simpa using hb
  rcases this with rfl | rfl
  ·exact Nat.le_succ _
  ·exact Nat.le_refl _
 exact I1.fpOk hb' (I1.hok.fresh hb')
end
end L3
namespace PySem
section
variable {prog : Program} {w : World} {A : Around} {E : Value → Shared → Prop} {R : Result → Shared → Prop}
variable {s : Shared}
end
end PySem
namespace L3
open PySem PySem.Spec PyProof.Rows L2
section
variable {X : Cx} {pins : List (Addr × Obj)} {σ : L2.St} {H : Hp} {s : Shared}
end
section
variable {X : Cx} {pins : List (Addr × Obj)} {σ : L2.St} {H : Hp} {s : Shared} {a : Addr}
end
section
variable {X : Cx}
theorem Z43 {pins : List (Addr × Obj)} {σ : L2.St} {H : Hp} {s : Shared} {h' : Heap} {t' : Nat} {ch : List Addr} (I : Inv X pins σ H s) (k : ∀ c o, c ∉ ch → s.heap.get? c = some o → h'.get? c = some o) (f : ∀ b ∈ ch, FpOk X pins H b) : Inv X pins σ H { s with heap := h', toks := t' } := by
 have nn : ∀ c u, H c = some u → c ∉ ch := by
  intro c u e z
  rw [(f c z).1] at e
  cases e
 refine I.step (ch := ch) (g' := s.gens) (d' := s.drawn) ?_ ?_ ?_ ?_ ?_ ?_ ?_ ?_ ?_ ?_ I.bare
 ·intro c hc
  exact ⟨(f c hc).2.2.2.1, (f c hc).2.1, (f c hc).2.2.2.2.1, (f c hc).2.2.2.2.2⟩
 ·intro c o _ _ hc e _; exact k c o hc e
 ·intro c o _ _ hc e _; exact ⟨o.slots, k c o hc e⟩
 ·intro _ _ _ _ n; exact n
 ·intro c o hc e; exact ⟨o, k c o hc e⟩
 ·intro _ _ e; exact e
 ·intro _ _ _ e; exact e
 ·intro c ps e; exact ⟨#[], by rw [e]; simp⟩
 ·rintro m ⟨o, es, ep, ho, r⟩
  exact ⟨o, es, ep, k _ o (fun z => (f _ z).2.1 rfl) ho, r⟩
 ·intro c u e
  refine (I.hok c u e).stay ?_ (fun _ q => q) fun _ _ q => q
  intro d v hd q
  rcases hd with z | z
  ·subst z; exact k d v (nn d u e) q
  ·exact k d v (nn d _ z) q
def Itz (K : PySem.W.Frag) (a b : Addr) : It :=
 ⟨fun i H => ∃ xs ys x y, SqL K H a xs ∧ SqL K H b ys ∧ xs[i]? = some x ∧ ys[i]? = some y,
  fun i H x H' => ∃ p u v, H p = none ∧ H' = upd H p (.tup [u, v]) ∧ x = .ref p ∧ (∀ xs, SqL K H a xs → xs[i]? = some u) ∧ ∀ ys, SqL K H b ys → ys[i]? = some v,
  fun i H => ∃ xs ys, SqL K H a xs ∧ SqL K H b ys ∧ (xs.length ≤ i ∨ ys.length ≤ i)⟩
theorem Zf7 {P : Program} {w : World} {K : PySem.W.Frag} {elts : List Expr} {x1 : Nat} {tp : Pos} (z TI TO i1 i2 a b : Addr) (D : ZipApart z TI TO i1 i2 a b) :
  Turn P w K (.Tuple elts x1 tp) (Itz K a b) [z, TI, TO, i1, i2] z (fun i h => IsZip h z TI TO .none ∧ IsPair h TI (.ref i1) (.ref i2) ∧ (∃ u v, IsPair h TO u v) ∧ h.IsListIter i1 a i ∧ h.IsListIter i2 b i) where
 mem := by simp
 obj := by
  rintro i h ⟨hz, hTI, ⟨u, v, hTO⟩, ⟨o1, e1, _, d1⟩, ⟨o2, e2, _, d2⟩⟩ c hc
  simp only [List.mem_cons, List.not_mem_nil, or_false] at hc
  rcases hc with rfl | rfl | rfl | rfl | rfl
  ·exact ⟨_, hz, fun v q => by cases q⟩
  ·exact ⟨_, hTI, fun v q => by cases q⟩
  ·exact ⟨_, hTO, fun v q => by cases q⟩
  ·exact ⟨_, e1, fun v q => by rw [d1] at q; cases q⟩
  ·exact ⟨_, e2, fun v q => by rw [d2] at q; cases q⟩
 keep := by
  rintro i h h' ⟨hz, hTI, ⟨u, v, hTO⟩, h1, h2⟩ k
  exact ⟨k z (by simp) _ hz, k TI (by simp) _ hTI, ⟨u, v, k TO (by simp) _ hTO⟩, h1.at fun o q => k i1 (by simp) o q, h2.at fun o q => k i2 (by simp) o q⟩
 item := by
  rintro X rfl rfl rfl hc i pins s σ H E I hf ⟨hz, hTI, ⟨u0, v0, hTO⟩, h1, h2⟩ ⟨xs, ys, x, y, hq, hr, hx, hy⟩
  obtain ⟨its, rv, p, _⟩ := I.list hq
  obtain ⟨jts, rw2, p2, _⟩ := I.list hr
  obtain ⟨u, hu, ru⟩ := rv.get hx
  obtain ⟨v, hv, rv2⟩ := rw2.get hy
  have lt : ∀ c ∈ [z, TI, TO, i1, i2], @LT.lt Nat _ c s.heap.objs.size := by
   intro c hc
   simp only [List.mem_cons, List.not_mem_nil, or_false] at hc
   obtain ⟨o1, e1, _⟩ := id h1
   obtain ⟨o2, e2, _⟩ := id h2
   rcases hc with rfl | rfl | rfl | rfl | rfl
   ·exact Heap.lt_size hz
   ·exact Heap.lt_size hTI
   ·exact Heap.lt_size hTO
   ·exact Heap.lt_size e1
   ·exact Heap.lt_size e2
  refine wpAny_pyNext_zip_item D hz hTI hTO h1 h2 p.isList p2.isList (x := u) (y := v) (by simpa using hu) (by simpa using hv) fun hh ho hTO2 g1 g2 hT hsz hk => ?_
  refine ⟨_, rfl, wpAny_letOwnedTupleGo_zip ho fun h3 hz3 hs3 => ?_⟩
  replace hs3 : Heap.SameBut z hh h3 := hs3
  have nz : s.heap.objs.size ≠ z := Nat.ne_of_gt (lt z (by simp))
  have hT3 : h3.get? s.heap.objs.size = some { cls := .type "tuple", data := .seq #[u, v] } := (hs3.2 _ nz).trans hT
  have hn : H s.heap.objs.size = none := I.hok.fresh (Nat.le_refl _)
  have I1 : Inv X pins σ (upd H s.heap.objs.size (.tup [x, y])) { s with heap := s.heap.push { cls := .type "tuple", data := .seq #[u, v] }, toks := s.toks } :=
   I.laid (fun b ob q => Heap.get?_push_of_some _ q) (Nat.le_refl _) ⟨show 2 ≤ sizeLine by rw [sizeLine_eq]; omega, [u, v], .cons ru (.cons rv2 .nil), ⟨_, Heap.get?_push_size _ rfl, rfl, _, rfl⟩⟩
  have up : ∀ c ∈ [z, TI, TO, i1, i2], FpOk X pins (upd H s.heap.objs.size (.tup [x, y])) c := by
   intro c hc
   refine ⟨?_, (hf c hc).2⟩
   rw [Zl (Nat.ne_of_lt (lt c hc))]
   exact (hf c hc).1
  have I2 := Z43 (h' := h3) (t' := s.toks) I1 (fun c o hc e' => by
   simp only [List.mem_cons, List.not_mem_nil, or_false, not_or] at hc
   rcases Pm e' with q | q
   ·exact (hs3.2 c hc.1).trans (hk c o hc.1 hc.2.2.1 hc.2.2.2.1 hc.2.2.2.2 q)
   ·subst q
    have z2 : (s.heap.push { cls := .type "tuple", data := .seq #[u, v] }).get? s.heap.objs.size = some o := e'
    rw [Heap.get?_push_size _ rfl] at z2
    cases z2
    exact hT3) up
  refine ⟨.ref s.heap.objs.size, _, I2, rfl, ⟨_, x, y, hn, rfl, rfl, fun zs hs => by rw [I.list_inj hs hq]; exact hx, fun zs hs => by rw [I.list_inj hs hr]; exact hy⟩,
   ⟨hz3, (hs3.2 TI D.TIz).trans (hk TI _ D.TIz D.TITO D.TIi1 D.TIi2 hTI), ⟨_, _, (hs3.2 TO D.TOz).trans hTO2⟩, g1.at fun o q => (hs3.2 i1 D.i1z).trans q, g2.at fun o q => (hs3.2 i2 D.i2z).trans q⟩, fun c hc => (up c hc).1⟩
 done := by
  rintro X rfl rfl rfl hc i pins s σ H E I hf ⟨hz, hTI, ⟨u0, v0, hTO⟩, h1, h2⟩ ⟨xs, ys, hq, hr, hl⟩
  obtain ⟨its, rv, p, _⟩ := I.list hq
  obtain ⟨jts, rw2, p2, _⟩ := I.list hr
  have l1 := rv.length
  have l2 := rw2.length
  refine wpAny_pyNext_zip_end (I.ok.hd hc) D hz hTI hTO h1 h2 p.isList p2.isList ?_ fun h' eb => ⟨rfl, Z43 (t' := s.toks) I (ch := [z, TI, TO, i1, i2]) (fun c o hc e => ?_) hf⟩
  ·rcases hl with hl | hl
   ·exact .inl (by simp; omega)
   ·exact .inr (by simp; omega)
  ·simp only [List.mem_cons, List.not_mem_nil, or_false, not_or] at hc
   exact eb c o hc.1 hc.2.2.1 hc.2.2.2.1 hc.2.2.2.2 e
 self := by
  rintro A i s Q E ⟨hz, _⟩ h
  exact wpAny_pyIter_zip hz h
def iZip (K : PySem.W.Frag) (ta : TA) : TI := fun σ H R => ta σ H fun vs H1 => ∃ a b, vs = [V.ref a, V.ref b] ∧ (∃ xs, SqL K H1 a xs) ∧ (∃ ys, SqL K H1 b ys) ∧ R (Itz K a b) H1
theorem Zw9 {elts : List Expr} {x1 : Nat} {tp : Pos} {l : Expr} {ls : List Expr} {ta : TA} {p pos : Pos} (hg : Gl X "zip") (hm : X.mg "zip" = none) (ha : PA X (l :: ls) ta) (he : starEach (l :: ls) X.env = (false, eval l X.env) :: starEach ls X.env) (hpl : (backTo pos (starEach ls X.env)).any (·.1) = false) :
  PI X (.Tuple elts x1 tp) (.Call (.Name "zip" p) (l :: ls) [] pos) (iZip X.K ta) := by
 intro pins s σ H R I h
 refine wpAny_Call_Name_kw (Rx I hg hm (u := .type "zip") (by kernel_rfl) ?_)
 refine PyProof.Rows.callWith_type1 (thn (ha pos pins s σ H _ I h) fun us s1 ⟨vs, H1, I1, rv, a, b, ev, ⟨xs, hp⟩, ⟨ys, hq⟩, q⟩ => ?_) he hpl
 subst ev
 obtain ⟨u1, u2, rfl, e1, e2⟩ := G4 rv
 cases e1
 cases e2
 obtain ⟨us, r1, pl1, z1⟩ := I1.list hp
 obtain ⟨ws, r2, pl2, z2⟩ := I1.list hq
 have L1 := pl1.isList
 have L2 := pl2.isList
 have lt1 : @LT.lt Nat _ a s1.heap.objs.size := by obtain ⟨o, e, _⟩ := L1; exact Heap.lt_size e
 have lt2 : @LT.lt Nat _ b s1.heap.objs.size := by obtain ⟨o, e, _⟩ := L2; exact Heap.lt_size e
 refine call_zip_2 L1 L2 fun h' a1 a2 a3 a4 a5 a6 kp => wpAny_pyIter_zip a1 ?_
 have D : ZipApart (s1.heap.objs.size + 4) (s1.heap.objs.size + 2) (s1.heap.objs.size + 3) s1.heap.objs.size (s1.heap.objs.size + 1) a b := by
  constructor <;> (show (_ : Nat) ≠ _) <;> omega
 refine ⟨s1.heap.objs.size + 4, [s1.heap.objs.size + 4, s1.heap.objs.size + 2, s1.heap.objs.size + 3, s1.heap.objs.size, s1.heap.objs.size + 1], _, _, H1, rfl, I1.kept (t' := s1.toks) kp, Zf7 _ _ _ _ _ a b D, ⟨a1, a2, ⟨_, _, a3⟩, a4, a5⟩, fun c hc => ?_, q⟩
 have hb : @LE.le Nat _ s1.heap.objs.size c := by
  simp only [List.mem_cons, List.not_mem_nil, or_false] at hc
  rcases hc with rfl | rfl | rfl | rfl | rfl
  ·exact Nat.le_add_right _ _
  ·exact Nat.le_add_right _ _
  ·exact Nat.le_add_right _ _
  ·exact Nat.le_refl _
  ·exact Nat.le_add_right _ _
 exact I1.fpOk hb (I1.hok.fresh hb)
end
end L3
namespace SW
open PySem
def Rise (xs : Array Nat) : Prop := ∀ i k, i < k → k < xs.size → xs.getD i 0 < xs.getD k 0
theorem Rise.le {xs : Array Nat} (h : Rise xs) {i k : Nat} (a : i ≤ k) (b : k < xs.size) : xs.getD i 0 ≤ xs.getD k 0 := by
 rcases Nat.lt_or_eq_of_le a with a | rfl
 ·exact Nat.le_of_lt (h i k a b)
 ·exact Nat.le_refl _
theorem Zp8 {xs : Array Nat} {i : Nat} (h : i < xs.size) (a b : Nat) : xs.getD i a = xs.getD i b := by
 rw [Array.getD_eq_getD_getElem?, Array.getD_eq_getD_getElem?, Array.getElem?_eq_getElem h]; rfl
structure At (xs : Array Nat) (j i : Nat) : Prop where
 le : i ≤ xs.size
 lo : ∀ k, k < i → xs.getD k 0 < j
 hi : ∀ k, i ≤ k → k < xs.size → j ≤ xs.getD k 0
theorem Zm2 {xs : Array Nat} (h : Rise xs) (j : Nat) : ∀ (fuel lo hi : Nat), hi - lo ≤ fuel → lo ≤ hi → hi ≤ xs.size → (∀ k, k < lo → xs.getD k 0 < j) → (∀ k, hi ≤ k → k < xs.size → j ≤ xs.getD k 0) → At xs j (SetTable.below.go xs j fuel lo hi)
 | 0, lo, hi, hf, hl, hs, a, b => by
  have e : lo = hi := by omega
  subst e
  exact ⟨hs, a, b⟩
 | fuel + 1, lo, hi, hf, hl, hs, a, b => by
  unfold SetTable.below.go
  by_cases hlt : lo < hi
  ·rw [if_pos hlt]
   dsimp only
   have hm : (lo + hi) / 2 < hi := by omega
   have hm2 : lo ≤ (lo + hi) / 2 := by omega
   rw [Zp8 (by omega : (lo + hi) / 2 < xs.size) j 0]
   by_cases hc : xs.getD ((lo + hi) / 2) 0 < j
   ·rw [if_pos hc]
    exact Zm2 h j fuel _ _ (by omega) (by omega) hs (fun k hk => Nat.lt_of_le_of_lt (h.le (by omega) (by omega)) hc) b
   ·rw [if_neg hc]
    exact Zm2 h j fuel _ _ (by omega) (by omega) (by omega) a (fun k hk hk2 => Nat.le_trans (by omega) (h.le hk hk2))
  ·rw [if_neg hlt]
   have e : lo = hi := by omega
   subst e
   exact ⟨hs, a, b⟩
theorem Zf6 {xs : Array Nat} (h : Rise xs) (j : Nat) : At xs j (SetTable.below xs j) := by
 unfold SetTable.below
 exact Zm2 h j _ _ _ (by omega) (by omega) (Nat.le_refl _) (fun k hk => by omega) (fun k a b => by omega)
theorem Os {α : Type} (xs : Array α) (p : Nat) (x : α) (h : p ≤ xs.size) : (SetTable.insertAt xs p x).size = xs.size + 1 := by
 unfold SetTable.insertAt
 simp only [Array.size_append, Array.size_push, Array.size_extract]
 omega
theorem Sv {xs : Array Nat} {p x : Nat} (h : p ≤ xs.size) (k : Nat) : (SetTable.insertAt xs p x).getD k 0 = if k < p then xs.getD k 0 else if k = p then x else xs.getD (k - 1) 0 := by
 unfold SetTable.insertAt
 simp only [Array.getD_eq_getD_getElem?, Array.getElem?_append, Array.size_push, Array.size_extract, Array.getElem?_push, Array.getElem?_extract, Nat.min_eq_left h, Nat.sub_zero, Nat.zero_add]
 by_cases h1 : k < p
 ·rw [if_pos (by omega), if_neg (by omega), if_pos h1, if_pos h1]
 ·by_cases h2 : k = p
  ·subst h2
   rw [if_pos (by omega), if_pos rfl, if_neg (by omega), if_pos rfl]; rfl
  ·rw [if_neg (by omega), if_neg h1, if_neg h2, Nat.min_self]
   by_cases h3 : k - 1 < xs.size
   ·rw [if_pos (by omega), show p + (k - (p + 1)) = k - 1 by omega]
   ·rw [if_neg (by omega), Array.getElem?_eq_none (by omega)]
theorem Ga {xs : Array Nat} (h : Rise xs) {j : Nat} (hn : xs[SetTable.below xs j]? ≠ some j) : Rise (SetTable.insertAt xs (SetTable.below xs j) j) := by
 have a := Zf6 h j
 generalize SetTable.below xs j = p at a hn ⊢
 have hgt : ∀ k, p ≤ k → k < xs.size → j < xs.getD k 0 := by
  intro k h1 h2
  have h3 := a.hi k h1 h2
  rcases Nat.lt_or_eq_of_le h3 with h4 | h4
  ·exact h4
  ·exfalso
   have h5 := a.hi p (Nat.le_refl _) (by omega)
   have h6 := h.le h1 h2
   have h7 : xs.getD p 0 = j := by omega
   apply hn
   rw [Array.getD_eq_getD_getElem?, Array.getElem?_eq_getElem (by omega)] at h7
   rw [Array.getElem?_eq_getElem (by omega)]
   exact congrArg some h7
 intro i k hik hk
 rw [Os _ _ _ a.le] at hk
 rw [Sv a.le, Sv a.le]
 by_cases h1 : i < p
 ·rw [if_pos h1]
  by_cases h2 : k < p
  ·rw [if_pos h2]; exact h i k hik (by have := a.le; omega)
  ·rw [if_neg h2]
   by_cases h3 : k = p
   ·rw [if_pos h3]; exact a.lo i h1
   ·rw [if_neg h3]; exact Nat.lt_trans (a.lo i h1) (hgt _ (by omega) (by omega))
 ·rw [if_neg h1, if_neg (show ¬ k < p by omega), if_neg (show ¬ k = p by omega)]
  by_cases h3 : i = p
  ·rw [if_pos h3]; exact hgt _ (by omega) (by omega)
  ·rw [if_neg h3]; exact h _ _ (by omega) (by omega)
theorem Ci (n : Nat) : Rise (Array.range n) := by
 intro i k h1 h2
 rw [Array.size_range] at h2
 simp only [Array.getD_eq_getD_getElem?, Array.getElem?_range]
 rw [if_pos (by omega), if_pos h2]
 exact h1
structure TOk (t : SetTable) (led : Bool) : Prop where
 rise : Rise t.place
 dum : t.dummies = #[]
 led : t.led = led
theorem E4 (j : Nat) : SetTable.has #[] j = false := rfl
theorem Cj {t : SetTable} (hd : t.dummies = #[]) (j : Nat) : t.slot j ≠ .dummy := by
 unfold SetTable.slot
 dsimp only
 rw [hd, E4]
 split
 ·intro h; cases h
 ·intro h; rw [if_neg (by decide)] at h; cases h
theorem Cr {t : SetTable} {j : Nat} (h : t.slot j = .empty) : t.place[SetTable.below t.place j]? ≠ some j := by
 intro e
 unfold SetTable.slot at h
 dsimp only at h
 rw [if_pos (by rw [e]; simp)] at h
 cases h
theorem B0 (t : SetTable) (p : SetTable.Probe) : (t.advance p).dummy = p.dummy := by
 unfold SetTable.advance
 split
 ·rfl
 ·rfl
theorem Ei {t : SetTable} (hd : t.dummies = #[]) (f : Nat → Int) (h : Int) : ∀ (fuel : Nat) (p : SetTable.Probe) (j : Nat) (d : Option Nat), p.dummy = none → SetTable.probe.go t f h fuel p = some (.empty j d) → d = none ∧ t.slot j = .empty
 | 0, p, j, d, _, e => by cases e
 | fuel + 1, p, j, d, hp, e => by
  unfold SetTable.probe.go at e
  cases hs : t.slot p.j with
  | empty =>
   rw [hs] at e
   cases e
   exact ⟨hp, hs⟩
  | dummy => exact absurd hs (Cj hd _)
  | live i =>
   rw [hs] at e
   dsimp only at e
   split at e
   ·cases e
   ·exact Ei hd f h fuel _ j d (by rw [B0, hp]) e
theorem Cs {t : SetTable} (hd : t.dummies = #[]) {h : Int} {k : Nat} {b : Bool} (e : t.freeSlot h = some (k, b)) : t.slot k = .empty ∧ b = false := by
 unfold SetTable.freeSlot at e
 split at e
 ·rename_i j dm hm
  cases e
  unfold SetTable.probe at hm
  obtain ⟨rfl, h2⟩ := Ei hd _ _ _ _ _ _ rfl hm
  exact ⟨h2, rfl⟩
 ·cases e
theorem Rm {t : SetTable} {led : Bool} (h : TOk t led) (n : Nat) : TOk (t.standIn n) led := ⟨Ci n, rfl, h.led⟩
theorem Ca {t : SetTable} {led : Bool} (h : TOk t led) (n : Nat) : TOk (t.orStandIn n) led := by
 unfold SetTable.orStandIn
 split
 ·exact h
 ·exact Rm h n
theorem Y16 {t : SetTable} {led : Bool} (h : TOk t led) {j : Nat} (e : t.slot j = .empty) : TOk (t.put j).1 led := by
 unfold SetTable.put
 dsimp only
 refine ⟨Ga h.rise (Cr e), ?_, h.led⟩
 dsimp only
 rw [h.dum, E4]
 rfl
theorem Zx9 {t : SetTable} {led : Bool} (h : TOk t led) (es : Array (Int × Value)) (k : Int) (x : Value) : TOk (layNew t es k x).2.1 led := by
 unfold layNew
 cases e : t.freeSlot k with
 | none => exact Rm h _
 | some s =>
  obtain ⟨slot, b⟩ := s
  dsimp only
  exact Ca (Y16 h (Cs h.dum e).1) _
theorem Zl1 {l : List Nat} (hp : l.Pairwise (· < ·)) : Rise l.toArray := by
 intro i k hik hk
 rw [List.size_toArray] at hk
 have := List.pairwise_iff_getElem.mp hp i k (by omega) hk hik
 simp only [Array.getD_eq_getD_getElem?, List.getElem?_toArray]
 rw [List.getElem?_eq_getElem hk, List.getElem?_eq_getElem (by omega)]
 exact this
theorem Br (owner : Array (Option Nat)) (n : Nat) : Rise ((((List.range n).filterMap fun j => (owner.getD j none).map (j, ·)).map (·.1)).toArray) := by
 refine Zl1 ?_
 rw [List.pairwise_map]
 refine List.Pairwise.filterMap _ (R := (· < ·)) ?_ List.pairwise_lt_range
 intro a b hab x hx y hy
 obtain ⟨_, _, rfl⟩ := Option.map_eq_some_iff.mp hx
 obtain ⟨_, _, rfl⟩ := Option.map_eq_some_iff.mp hy
 exact hab
theorem Zb3 {t : SetTable} {led : Bool} (h : TOk t led) (es : Array (Int × Value)) (n : Nat) : TOk (relayAll t es n).2.1 led := by
 unfold relayAll
 cases e : t.relaid (es.map (·.1)) n with
 | none => exact Rm h _
 | some s =>
  obtain ⟨t', order⟩ := s
  dsimp only
  split
  ·unfold SetTable.relaid SetTable.laid at e
   cases e2 : SetTable.layClean (SetTable.sizeAbove n - 1) (es.map (·.1)) with
   | none => rw [e2] at e; cases e
   | some owner =>
    rw [e2] at e
    cases e
    exact ⟨Br _ _, rfl, h.led⟩
  ·exact Rm h _
end SW
namespace SW
open PySem PyProof.Rows
section
variable {M : Model} {prog : Program} {w : World} {A : Around} {E : Value → Shared → Prop} {s : Shared}
inductive KeysOf {K : Type} [DecidableEq K] (knd : KeyKind prog w K) : List K → List (Int × Value) → Prop
 | nil : KeysOf knd [] []
 | cons {k : K} {e : Int × Value} {ks : List K} {l : List (Int × Value)} (h : knd.is k e.2 = true) (r : KeysOf knd ks l) : KeysOf knd (k :: ks) (e :: l)
variable {K : Type} [DecidableEq K] {knd : KeyKind prog w K}
theorem KeysOf.len {ks : List K} {l : List (Int × Value)} (h : KeysOf knd ks l) : ks.length = l.length := by
 induction h with
 | nil => rfl
 | cons _ _ ih => rw [List.length_cons, List.length_cons, ih]
theorem KeysOf.mem {ks : List K} {l : List (Int × Value)} (h : KeysOf knd ks l) {k : K} : k ∈ ks ↔ ∃ e ∈ l, knd.is k e.2 = true := by
 induction h with
 | nil => simp
 | cons h r ih =>
  rename_i k' e ks l
  rw [List.mem_cons, ih]
  constructor
  ·rintro (rfl | ⟨e, he, q⟩)
   ·exact ⟨_, List.mem_cons_self, h⟩
   ·exact ⟨e, List.mem_cons_of_mem _ he, q⟩
  ·rintro ⟨e', he, q⟩
   rcases List.mem_cons.mp he with rfl | he
   ·exact .inl (knd.inj _ _ _ q h)
   ·exact .inr ⟨e', he, q⟩
theorem KeysOf.app {ks ks' : List K} {l l' : List (Int × Value)} (h : KeysOf knd ks l) (g : KeysOf knd ks' l') : KeysOf knd (ks ++ ks') (l ++ l') := by
 induction h with
 | nil => exact g
 | cons h _ ih => exact .cons h ih
theorem KeysOf.perm {l l' : List (Int × Value)} (p : l'.Perm l) : ∀ {ks : List K}, KeysOf knd ks l → ∃ ks', ks'.Perm ks ∧ KeysOf knd ks' l' := by
 induction p with
 | nil => intro ks h; exact ⟨ks, List.Perm.refl _, h⟩
 | cons x p ih =>
  intro ks h
  cases h with
  | cons h r =>
   obtain ⟨ks', a, b⟩ := ih r
   exact ⟨_, a.cons _, .cons h b⟩
 | swap x y l =>
  intro ks h
  cases h with
  | cons h r =>
   cases r with
   | cons h2 r => exact ⟨_, List.Perm.swap _ _ _, .cons h2 (.cons h r)⟩
 | trans p q ih1 ih2 =>
  intro ks h
  obtain ⟨k1, a1, b1⟩ := ih2 h
  obtain ⟨k2, a2, b2⟩ := ih1 b1
  exact ⟨k2, a2.trans a1, b2⟩
structure SetO (knd : KeyKind prog w K) (led : Bool) (o : Obj) (ks : List K) : Prop where
 ex : o.ExactSet
 dat : ∃ es ep t, o.data = .set es ep t ∧ ElemsOf knd es.toList ∧ KeysOf knd ks es.toList ∧ t.fits es.size = true ∧ TOk t led
 nd : ks.Nodup
 sm : ks.length < scanBound
theorem Zh6 {t : SetTable} {led : Bool} (h : TOk t led) : TOk { t with plain := false } led := ⟨h.rise, h.dum, h.led⟩
theorem Zr4 {led : Bool} {a : Addr} {o : Obj} {k : K} {x : Value} {ks : List K} {Q : Bool → Shared → Prop} (hk : knd.is k x = true) (hx : x.scannable = true) (ho : s.heap.get? a = some o) (hS : SetO knd led o ks) (hr : ks.length + 1 < scanBound)
  (h : ∀ b h' o' ks', Heap.SameBut a s.heap h' → h'.get? a = some o' → SetO knd led o' ks' → (k ∈ ks → ks' = ks) → (k ∉ ks → ks'.Perm (ks ++ [k])) → Q b { s with heap := h' }) :
  wpAny (model prog w) A (setAddHashed a x (knd.hash k)) Q E s := by
 obtain ⟨es, ep, t, hd, he, hks, hf, ht⟩ := hS.dat
 have hlen := hks.len
 have hl2 : es.toList.length = es.size := Array.length_toList
 have hsm := hS.sm
 unfold setAddHashed setAddHashedIn
 refine wpAny_holding (wpAny_bind (wpAny_setState_of ho hd hf ?_))
 dsimp only
 rw [byScan_of hx (by omega) he, if_pos rfl]
 unfold setAddByScan
 refine wpAny_bind (wpAny_bind (wpAny_rule (wpAny_bind (wpAny_setScan_of hk ho hd hf he ?_))))
 cases hfd : es.toList.findIdx? (fun e => knd.is k e.2) with
 | some j =>
  obtain ⟨hj, hpj, _⟩ := List.findIdx?_eq_some_iff_getElem.mp hfd
  have hin : k ∈ ks := hks.mem.mpr ⟨_, List.getElem_mem hj, hpj⟩
  dsimp only
  refine wpAny_pure (wpAny_pure ?_)
  have := h false s.heap o ks (Heap.SameBut.refl a s.heap) ho hS (fun _ => rfl) (fun z => absurd hin z)
  exact this
 | none =>
  have hout : k ∉ ks := fun z => by
   obtain ⟨e, h1, h2⟩ := hks.mem.mp z
   have := List.findIdx?_eq_none_iff.mp hfd e h1
   rw [h2] at this
   cases this
  dsimp only
  have gv : ∀ (b : Bool) {s1 : Shared} {R : Unit → Shared → Prop}, R () s1 → wpAny (model prog w) A (match b with | true => rule "set.scan.the-table-gave-way" | false => pure ()) R E s1 := by
   intro b s1 R q
   cases b
   ·exact wpAny_pure q
   ·exact wpAny_rule q
  have p1 := layNew_perm t es (knd.hash k) x
  have f1 := layNew_fits t es (knd.hash k) x
  have t1 := Zx9 ht es (knd.hash k) x
  generalize layNew t es (knd.hash k) x = L at p1 f1 t1 ⊢
  obtain ⟨es1, t2, wd, gave⟩ := L
  dsimp only at p1 f1 t1 ⊢
  rw [Array.toList_push] at p1
  have el1 : ElemsOf knd es1.toList := (he.push hk hx).perm p1
  obtain ⟨k1, kp1, ko1⟩ := KeysOf.perm p1 (hks.app (.cons (e := (knd.hash k, x)) hk .nil))
  have nd1 : k1.Nodup := kp1.nodup_iff.mpr (List.nodup_append.mpr ⟨hS.nd, by simp, fun a ha b hb => by simp at hb; subst hb; rintro rfl; exact hout ha⟩)
  have ln1 : k1.length = ks.length + 1 := by rw [kp1.length_eq, List.length_append]; rfl
  have sz1 : es1.size = k1.length := by rw [← Array.length_toList, ko1.len]
  refine wpAny_bind (gv _ ?_)
  have key : ∀ (t3 : SetTable), t3.fits es1.size = true → TOk t3 led → wpAny (model prog w) A (do
    storeSet a es1 t3
    if (!wd && t3.tooFull) = true then do
      (match (relayAll t3 es1 (SetTable.grown es1.size)).2.2 with | true => rule "set.scan.the-table-gave-way" | false => pure ())
      storeSet a (relayAll t3 es1 (SetTable.grown es1.size)).1 (relayAll t3 es1 (SetTable.grown es1.size)).2.1
      pure (some true)
     else pure (some true)) (fun r s' => ∃ h' o' ks', r = some true ∧ s' = { s with heap := h' } ∧ Heap.SameBut a s.heap h' ∧ h'.get? a = some o' ∧ SetO knd led o' ks' ∧ ks'.Perm (ks ++ [k])) E s := by
   intro t3 f3 ok3
   have fit1 : es1.size ≤ sizeLine := fits_of_scanBound (by omega)
   refine wpAny_bind (wpAny_storeSet_of ho hd ?_ fit1)
   have g1 : (s.heap.update a (Obj.putSet es1 t3)).get? a = some { o with data := .set es1 (ep + 1) t3 } := by
    have := Heap.get?_update_self (Obj.putSet es1 t3) ho (by rw [putSet_of es1 t3 hd]; rfl)
    rw [putSet_of es1 t3 hd] at this
    exact this
   have o1 : SetO knd led { o with data := .set es1 (ep + 1) t3 } k1 := ⟨hS.ex, ⟨es1, _, t3, rfl, el1, ko1, f3, ok3⟩, nd1, by omega⟩
   have sb1 := Heap.SameBut.update s.heap a (Obj.putSet es1 t3)
   split
   ·have p2 := relayAll_perm t3 es1 (SetTable.grown es1.size)
    have f2 := relayAll_fits t3 es1 (SetTable.grown es1.size)
    have ok2 := Zb3 ok3 es1 (SetTable.grown es1.size)
    generalize relayAll t3 es1 (SetTable.grown es1.size) = L at p2 f2 ok2 ⊢
    obtain ⟨es2, t4, gv2⟩ := L
    dsimp only at p2 f2 ok2 ⊢
    obtain ⟨k2, kp2, ko2⟩ := KeysOf.perm p2 ko1
    have sz2 : es2.size = es1.size := by rw [← Array.length_toList, p2.length_eq, Array.length_toList]
    refine wpAny_bind (gv _ (wpAny_bind (wpAny_storeSet_of g1 rfl ?_ (by rw [sz2]; exact fit1))))
    refine wpAny_pure ⟨_, _, k2, rfl, rfl, sb1.trans (Heap.SameBut.update _ a _), Heap.get?_update_self (Obj.putSet es2 t4) g1 rfl, ?_, kp2.trans kp1⟩
    exact ⟨hS.ex, ⟨es2, _, t4, rfl, el1.perm p2, ko2, f2, ok2⟩, kp2.nodup_iff.mpr nd1, by rw [kp2.length_eq]; omega⟩
   ·exact wpAny_pure ⟨_, _, k1, rfl, rfl, sb1, g1, o1, kp1⟩
  have fin : ∀ (t3 : SetTable), t3.fits es1.size = true → TOk t3 led → wpAny (model prog w) A (do
    storeSet a es1 t3
    if (!wd && t3.tooFull) = true then do
      (match (relayAll t3 es1 (SetTable.grown es1.size)).2.2 with | true => rule "set.scan.the-table-gave-way" | false => pure ())
      storeSet a (relayAll t3 es1 (SetTable.grown es1.size)).1 (relayAll t3 es1 (SetTable.grown es1.size)).2.1
      pure (some true)
     else pure (some true)) (fun r s' => wpAny (model prog w) A (match r with | some added => pure added | none => setAddHashedIn a x (knd.hash k) 99999) Q E s') E s := by
   intro t3 f3 ok3
   refine wpAny_mono (key t3 f3 ok3) ?_ fun _ _ z => z
   rintro r s' ⟨h', o', ks', rfl, rfl, sb, g, so, p⟩
   exact wpAny_pure (h true h' o' ks' sb g so (fun z => absurd z hout) fun _ => p)
  split
  ·refine wpAny_bind ?_
   rw [hashByValue_scannable 8 hx]
   refine wpAny_pure ?_
   split
   ·exact fin _ f1 t1
   ·exact fin _ (SetTable.fits_plain_off f1) (Zh6 t1)
  ·refine wpAny_bind (wpAny_pure ?_)
   rw [if_pos rfl]
   exact fin _ f1 t1
end
def Gj (w : World) : Bool := !w.params.followText "set-order"
section
variable {prog : Program} {w : World} {A : Around} {E : Value → Shared → Prop} {s : Shared}
section
variable {K : Type} [DecidableEq K] {knd : KeyKind prog w K} {R : Result → Shared → Prop} {I : Addr} {fp wr : List Addr} {G : Array GenState → Array GenState → Prop} {n : Nat} {P : Nat → Value → Prop} {St : Nat → Shared → Prop}
theorem Zh4 {led : Bool} (W : WalksS prog w A.in1 I fp wr G n P St) (S : Addr) (hSf : S ∉ fp) (key : Nat → K) (hkey : ∀ i v, P i v → knd.is (key i) v = true ∧ v.scannable = true) (hb : n + 1 < scanBound) :
  ∀ (m i : Nat) (s : Shared) (o : Obj) (ks : List K), n - i = m → i ≤ n → St i s → s.heap.get? S = some o → SetO knd led o ks → ks.length ≤ i → (∀ k, k ∈ ks ↔ ∃ j, j < i ∧ key j = k) →
  (∀ s' o' ks', Moved (S :: wr) G s s' → s'.heap.get? S = some o' → SetO knd led o' ks' → ks'.length ≤ n → (∀ k, k ∈ ks' ↔ ∃ j, j < n ∧ key j = k) → R (.ok (.ret .none)) s') →
  codeAny (model prog w) A (.builtin "set.update.loop" ⟨[.ref S, .ref I], []⟩) R s := by
 have hSw : S ∉ wr := fun z => hSf (W.sub _ z)
 have hs2 : ∀ b ∈ wr, b ∈ S :: wr := fun b z => List.mem_cons_of_mem _ z
 intro m
 induction m with
 | zero =>
  intro i s o ks hm hi st ho hS hl hmem q
  obtain rfl : i = n := by omega
  refine codeAny_builtin F.entry_set_update_loop ?_
  rw [Around.under_plainId F.plain_set_update_loop _]
  show wpAny _ A.in1 (pyNext (.ref I) >>= _) _ _ s
  refine wpAny_bind (W.done s _ _ st fun s' mv => wpAny_pure ?_)
  exact q s' o ks (mv.mono hs2) (mv.heap S _ hSw ho) hS hl hmem
 | succ m ih =>
  intro i s o ks hm hi st ho hS hl hmem q
  have hlt : i < n := by omega
  refine codeAny_builtin F.entry_set_update_loop ?_
  rw [Around.under_plainId F.plain_set_update_loop _]
  show wpAny _ A.in1 (pyNext (.ref I) >>= _) _ _ s
  refine wpAny_bind (W.item i s _ _ hlt st fun v s' hP st' mv => ?_)
  obtain ⟨hk, hx⟩ := hkey i v hP
  show wpAny _ A.in1 (holding [v] (setAdd S v) >>= _) _ _ s'
  refine wpAny_bind (wpAny_holding ?_)
  unfold setAdd
  refine wpAny_holding (wpAny_bind (knd.pyHash hk ?_))
  refine Zr4 (s := { s' with toks := s'.toks + 1 }) hk hx (mv.heap S _ hSw ho) hS (by omega) fun b h' o' ks' sb ho' hS' c1 c2 => ?_
  have hmem' : ∀ k, k ∈ ks' ↔ ∃ j, j < i + 1 ∧ key j = k := by
   intro k
   have e : (∃ j, j < i + 1 ∧ key j = k) ↔ (∃ j, j < i ∧ key j = k) ∨ key i = k := by
    constructor
    ·rintro ⟨j, h1, h2⟩
     by_cases h3 : j = i
     ·subst h3; exact .inr h2
     ·exact .inl ⟨j, by omega, h2⟩
    ·rintro (⟨j, h1, h2⟩ | h2)
     ·exact ⟨j, by omega, h2⟩
     ·exact ⟨i, by omega, h2⟩
   rw [e, ← hmem k]
   by_cases hin : key i ∈ ks
   ·rw [c1 hin]
    constructor
    ·exact .inl
    ·rintro (z | rfl)
     ·exact z
     ·exact hin
   ·rw [(c2 hin).mem_iff, List.mem_append, List.mem_singleton]
    constructor
    ·rintro (z | rfl)
     ·exact .inl z
     ·exact .inr rfl
    ·rintro (z | rfl)
     ·exact .inl z
     ·exact .inr rfl
  have hl' : ks'.length ≤ i + 1 := by
   by_cases hin : key i ∈ ks
   ·rw [c1 hin]; omega
   ·rw [(c2 hin).length_eq, List.length_append, List.length_singleton]; omega
  refine wpAny_pure ⟨plainId_quiet F.plain_set_update_loop _, ih (i + 1) _ o' ks' (by omega) hlt (W.frame _ s' _ _ st' (Nat.le_succ _) fun b' hb' o2 e => ?_) ho' hS' hl' hmem' fun s2 o2 ks2 mv2 ho2 hS2 l2 m2 => ?_⟩
  ·rw [sb.2 b' (fun z : b' = S => hSf (by rw [← z]; exact hb'))]; exact e
  ·refine q s2 o2 ks2 (Moved.trans W.gtrans ((mv.mono hs2).then_heap (Nat.le_succ _) fun b' o3 hb' e => ?_) mv2) ho2 hS2 l2 m2
   rw [sb.2 b' (fun z : b' = S => hb' (by rw [z]; exact List.mem_cons_self))]; exact e
end
def newO (w : World) : Obj := { cls := .type "set", dict := none, data := .set #[] 0 (.fresh 0 0 (Gj w)) }
theorem Zn5 {K : Type} [DecidableEq K] {knd : KeyKind prog w K} : SetO knd (Gj w) (newO w) [] :=
 ⟨⟨rfl, rfl, rfl⟩, ⟨#[], 0, _, rfl, fun e he => by simp at he, .nil, rfl, ⟨fun i k _ h => by simp [SetTable.fresh] at h, rfl, rfl⟩⟩, List.nodup_nil, by show 0 < scanBound; decide⟩
theorem Zg2 (a : Value) {Q : Value → Shared → Prop} (h : Q (.ref s.heap.objs.size) { s with heap := s.heap.push (newO w) }) :
  codeAny (model prog w) A (.call (.builtin "set.__new__") ⟨[.type "set", a], []⟩) (wants Q E) s := by
 refine codeAny_of_tree ?_
 show wpAny _ A.in1 (checkBuiltinCall "set.__new__" ⟨[.type "set", a], []⟩ >>= fun _ => again (.builtin "set.__new__" ⟨[.type "set", a], []⟩)) _ _ s
 refine wpAny_bind (wpAny_of_eq (F.newCall_set_1 a) (wpAny_pure ⟨plainId_quiet F.plain_set_new _, codeAny_builtin F.entry_set_new ?_⟩))
 rw [Around.under_plainId F.plain_set_new _]
 unfold Builtin.«set.__new__» Builtin.Frozenset.newClass
 have sub0 := sub_set_self
 obtain ⟨hp, g, d, tk, os⟩ := s
 dsimp only
 wp_walk
 refine wpAny_askSetting (wpAny_pure ?_)
 simp only [newObj]
 exact wpAny_bind (wpAny_alloc (wpAny_pure (wpAny_pure h)))
end
section
variable {prog : Program} {w : World} {A : Around} {E : Value → Shared → Prop} {s : Shared} {K : Type} [DecidableEq K] {knd : KeyKind prog w K}
set_option maxHeartbeats 3200000 in
theorem Ze2 {l : Addr} {its : Array Value} {key : Nat → K} {Q : Value → Shared → Prop} (hh : A.handled = none) (hl : s.heap.IsList l its) (hkey : ∀ i v, its[i]? = some v → knd.is (key i) v = true ∧ v.scannable = true) (hb : its.size + 1 < scanBound)
  (h : ∀ h' tk o ks, h'.get? s.heap.objs.size = some o → SetO knd (Gj w) o ks → ks.length ≤ its.size → (∀ k, k ∈ ks ↔ ∃ j, j < its.size ∧ key j = k) → (∀ b o, b < s.heap.objs.size → s.heap.get? b = some o → h'.get? b = some o) → Q (.ref s.heap.objs.size) { s with heap := h', toks := tk }) :
  wpAny (model prog w) A (call (.type "set") [.ref l]) Q E s := by
 obtain ⟨c0, tl, mro0⟩ := F.called_set.mro
 have made0 := F.called_set.made
 have sub0 := F.called_set.sub
 have nt0 := F.called_set.notType
 have cc0 := F.called_set.canCreate
 have ct0 := F.typeCall_set_1 (.ref l)
 refine wpAny_call (codeAny_of_tree ?_)
 show wpAny _ _ (callAny (.type "set") _) _ _ _
 refine wpAny_pure ⟨Code.quiet_builtin _ (by decide +kernel), codeAny_builtin F.entry_type_call ?_⟩
 rw [Around.under_plain (weight_type_call_type "set" [.ref l] []) rfl]
 repeat (any_goals (first | assumption | wp_step))
 have hnew := Zg2 (prog := prog) (w := w) (A := A.in1) (s := s) (E := E) (.ref l) (Q := fun v s1 => v = .ref s.heap.objs.size ∧ s1 = { s with heap := s.heap.push (newO w) }) ⟨rfl, rfl⟩
 refine codeAny_mono hnew fun r s1 hr => ?_
 cases r with
 | error e => exact hr
 | ok fl =>
 cases fl with
 | ret v =>
  obtain ⟨rfl, rfl⟩ := hr
  have g0 : (s.heap.push (newO w)).get? s.heap.objs.size = some (newO w) := Heap.get?_push_size _ rfl
  have ty0 : Shared.TypeIs { s with heap := s.heap.push (newO w) } (.ref s.heap.objs.size) "set" := ⟨_, g0, rfl⟩
  have li0 := F.called_set.init.lookup
  have bi0 := F.called_set.init.bind (.ref s.heap.objs.size)
  repeat (any_goals (first | assumption | wp_step))
  have want : ∀ s2 : Shared, (∃ h' tk o ks, s2 = { s with heap := h', toks := tk } ∧ h'.get? s.heap.objs.size = some o ∧ SetO knd (Gj w) o ks ∧ ks.length ≤ its.size ∧ (∀ k, k ∈ ks ↔ ∃ j, j < its.size ∧ key j = k) ∧ (∀ b o, b < s.heap.objs.size → s.heap.get? b = some o → h'.get? b = some o)) → Q (.ref s.heap.objs.size) s2 := by
   rintro s2 ⟨h', tk, o, ks, rfl, a1, a2, a0, a3, a4⟩
   exact h h' tk o ks a1 a2 a0 a3 a4
  clear h
  refine codeAny_mono (codeAny_call_builtin (R := wants (fun r s2 => r = .none ∧ ∃ h' tk o ks, s2 = { s with heap := h', toks := tk } ∧ h'.get? s.heap.objs.size = some o ∧ SetO knd (Gj w) o ks ∧ ks.length ≤ its.size ∧ (∀ k, k ∈ ks ↔ ∃ j, j < its.size ∧ key j = k) ∧ (∀ b o, b < s.heap.objs.size → s.heap.get? b = some o → h'.get? b = some o)) E) F.called_set.init.plain F.entry_set_init (check_set_init_1 ty0 ?_)) fun r2 s2 hr2 => ?_
  ·obtain ⟨⟨cl, di, da, sl⟩, ol, hcl, nl, hdl⟩ := hl
   simp only at hcl hdl
   subst hcl hdl
   have ol1 : (s.heap.push (newO w)).get? l = some { cls := .type "list", dict := di, data := .seq its nl, slots := sl } := Heap.get?_push_of_some _ ol
   have s1 := F.sub_list_set
   have s2 := F.sub_list_frozenset
   have s3 : (Value.type "list" == Value.type "dict") = false := by decide
   have il1 : (s.heap.push (newO w)).IsList l its := ⟨_, ol1, rfl, nl, rfl⟩
   unfold Builtin.«set.__init__» noKeywords Builtin.Frozenset.updateFrom
   generalize hPI : pyIter = PI
   wp_walk
   subst hPI
   refine wpAny_pyIter_list il1 (wpAny_bind (wpAny_runValue ?_))
   have lS : l < s.heap.objs.size := Heap.lt_size ol
   have nI : l ≠ (s.heap.push (newO w)).objs.size := by rw [Heap.size_push]; exact Nat.ne_of_lt (Nat.lt_succ_of_lt lS)
   have nS : s.heap.objs.size ∉ [(s.heap.push (newO w)).objs.size, l] := by
    rw [Heap.size_push, List.mem_cons, List.mem_singleton]
    exact fun z => z.elim (Nat.ne_of_lt (Nat.lt_succ_self _)) (Nat.ne_of_gt lS)
   refine Zh4 (knd := knd) (led := Gj w) ((Walks.list (by simp [hh]) _ l nI its).toS) s.heap.objs.size nS key hkey hb _ 0 _ (newO w) [] rfl (Nat.zero_le _) ⟨⟨_, Heap.get?_push_size _ rfl, rfl, rfl⟩, il1.push _⟩ (Heap.get?_push_of_some _ g0) Zn5 (Nat.zero_le _) (fun k => by simp) ?_
   intro s' o' ks' mv ho' hS' hl' hm'
   obtain ⟨h', g', d', tk', os'⟩ := s'
   cases mv.gens
   cases mv.drawn
   cases mv.os
   refine wpAny_pure ?_
   refine wpAny_pure ⟨rfl, h', tk', o', ks', rfl, ho', hS', hl', hm', fun b o hb e => ?_⟩
   refine mv.heap b o ?_ (Heap.get?_push_of_some _ (Heap.get?_push_of_some _ e))
   rw [List.mem_cons, List.mem_singleton, Heap.size_push]
   exact fun z => z.elim (Nat.ne_of_lt hb) (Nat.ne_of_lt (Nat.lt_succ_of_lt hb))
  ·cases r2 with
   | error e => exact hr2
   | ok fl2 =>
    cases fl2 with
    | ret r =>
     obtain ⟨rfl, hw⟩ := hr2
     repeat (any_goals (first | assumption | wp_step))
     exact want _ hw
    | _ => exact hr2.elim
 | _ => exact hr.elim
end
section
variable {prog : Program} {w : World} {A : Around} {E : Value → Shared → Prop} {s : Shared}
abbrev itO (f : Value) (i : Nat) (a : Addr) (n ep : Nat) : Obj := { cls := .type "set_iterator", dict := none, data := .fields #[f, rawInt i, .ref a, rawInt n, rawInt ep], slots := #[] }
section
variable {a I : Addr} {o : Obj} {es : Array (Int × Value)} {ep : Nat} {t : SetTable}
end
end
section
variable {prog : Program} {w : World} {A : Around} {E : Value → Shared → Prop} {s : Shared}
structure ItSt (w : World) (I a T : Addr) (o : Obj) (es : Array (Int × Value)) (ep : Nat) (t : SetTable) (vs : List Value) (i : Nat) (h : Heap) : Prop where
 set : h.get? a = some o
 md : (w.params.followText "set-order" = true ∧ vs = (pickOrder (w.params.setOrder a ep) es).toList.map (·.2) ∧ h.get? I = some (itO (rawInt 0) i a es.size ep))
  ∨ (w.params.followText "set-order" = false ∧ (!t.plain && decide (es.size > 1)) = false ∧ t.led = true ∧ Rise t.place ∧ vs = es.toList.map (·.2) ∧ ∃ slot, SetTable.below t.place slot = i ∧ h.get? I = some (itO (rawInt slot) i a es.size ep))
  ∨ (∃ pl : List Nat, h.IsTuple T (pl.map fun (k : Nat) => rawInt k).toArray ∧ vs = pl.map (fun k => (es.getD k (0, .none)).2) ∧ (∀ k ∈ pl, k < es.size) ∧ h.get? I = some (itO (.ref T) i a es.size ep))
end
end SW
namespace SW
open PySem PyProof.Rows PySem.W
section
variable {prog : Program} {w : World} {A : Around} {E : Value → Shared → Prop} {s : Shared}
end
end SW
namespace SW
open PySem PyProof.Rows
end SW
namespace L3
open PySem PySem.Spec PyProof.Rows L2
section
variable {X : Cx} {pins : List (Addr × Obj)} {σ : L2.St} {H : Hp} {s : Shared}
def S3 (P : Program) (w : World) (a : Addr) (ks : List Key) (h : Heap) : Prop := ∃ o, h.get? a = some o ∧ SW.SetO (Yn P w) (SW.Gj w) o ks
theorem S3.stay {P : Program} {w : World} {a : Addr} {ks : List Key} {h h' : Heap} (x : S3 P w a ks h) (k : ∀ o, h.get? a = some o → h'.get? a = some o) : S3 P w a ks h' := by
 obtain ⟨o, ho, r⟩ := x
 exact ⟨o, k _ ho, r⟩
theorem Z79 (hc : X.calm = true) : Tc X (.type "set") (fun xs H Q => ∃ (a : Addr) (ks : List Key), xs = [V.ref a] ∧ SqL X.K H a (ks.map kV) ∧ ks.length + 1 < scanBound ∧ ∀ p ks', H p = none → ks'.Nodup → ks'.length ≤ ks.length → (∀ k, k ∈ ks' ↔ k ∈ ks) → Q (.ref p) (upd H p (.ext (S3 X.prog X.w p ks')))) := by
 intro pins s σ H xs us Q I r h
 obtain ⟨a, ks, rfl, hx, hz, q⟩ := h
 obtain ⟨u, rfl, ru⟩ := Jv r
 cases ru
 obtain ⟨its, rv, p, _⟩ := I.list hx
 have hl : its.length = ks.length := by have := rv.length; rw [List.length_map] at this; exact this.symm
 refine SW.Ze2 (knd := Yn X.prog X.w) (key := fun i => ks.getD i (.inl 0)) (I.ok.hd hc) p.isList (fun i v e => ?_) (by rw [List.size_toArray]; omega) fun h' tk o ks' ho hS hlk hm k => ?_
 ·rw [List.getElem?_toArray] at e
  have hi : i < ks.length := by have := (List.getElem?_eq_some_iff.mp e).1; omega
  have e1 : (ks.map kV)[i]? = some (kV ks[i]) := by rw [List.getElem?_map, List.getElem?_eq_getElem hi]; rfl
  obtain ⟨u, e2, r2⟩ := rv.get e1
  rw [e] at e2
  cases e2
  have e3 : ks.getD i (.inl 0) = ks[i] := by rw [List.getD_eq_getElem?_getD, List.getElem?_eq_getElem hi]; rfl
  have hk : J3 ks[i] v = true := Nn (P := X.prog) (w := X.w) r2
  refine ⟨by show J3 (ks.getD i (.inl 0)) v = true; rw [e3]; exact hk, ?_⟩
  rcases Yi hk with ⟨i, t, _, rfl⟩ | ⟨x, t, _, rfl⟩ <;> rfl
 ·have k' : ∀ b u, s.heap.get? b = some u → h'.get? b = some u := fun b u e => k b u (Heap.lt_size e) e
  refine ⟨.ref _, _, I.laid (a := s.heap.objs.size) (o := .ext (S3 X.prog X.w s.heap.objs.size ks')) (t' := tk) k' (Nat.le_refl _) ⟨⟨o, ho, hS⟩, ⟨o, ho⟩, fun h1 h2 x k => x.stay k⟩, rfl, q _ ks' (I.hok.fresh (Nat.le_refl _)) hS.nd (by rw [List.size_toArray, hl] at hlk; exact hlk) fun k => ?_⟩
  rw [hm, List.size_toArray, hl, List.mem_iff_getElem]
  constructor
  ·rintro ⟨j, hj, e⟩
   exact ⟨j, hj, by rw [← e, List.getD_eq_getElem?_getD, List.getElem?_eq_getElem hj]; rfl⟩
  ·rintro ⟨j, hj, e⟩
   exact ⟨j, hj, by rw [← e, List.getD_eq_getElem?_getD, List.getElem?_eq_getElem hj]; rfl⟩
theorem Tq : ∀ {vs : List Value} {ns : List Int}, IntsAre vs ns → Vals (ns.map V.int) vs
 | _, _, .nil => .nil
 | _, _, .cons n t r => .cons ⟨t, rfl⟩ (Tq r)
theorem Zw8 (I : Inv X pins σ H s) {p : Addr} {φ : Heap → Prop} (h : H p = some (.ext φ)) : φ s.heap := (I.hok p _ h).1
def Zw1 (P : Program) (w : World) : List V → Hp → VK → Prop := fun xs H Q => ∃ (p : Addr) (ks : List Key), xs = [V.ref p] ∧ H p = some (.ext (S3 P w p ks)) ∧ Q (.int ks.length) H
theorem Jb : Tc X (.builtin "len") (Zw1 X.prog X.w) := by
 intro pins s σ H xs us Q I r h
 obtain ⟨p, ks, rfl, hx, q⟩ := h
 obtain ⟨u, rfl, ru⟩ := Jv r
 cases ru
 obtain ⟨o, ho, hS⟩ := Zw8 I hx
 obtain ⟨es, ep, t, hd, he, hks, hf, ht⟩ := hS.dat
 have hl : es.size = ks.length := by have := hks.len; rw [Array.length_toList] at this; exact this.symm
 have hb : ks.length < scanBound := hS.sm
 have h4 : scanBound = 4096 := rfl
 refine call_len_set ho hS.ex hd hf (Int.lt_of_lt_of_le (show (es.size : Int) < 4096 by omega) (by decide)) ?_
 rw [hl]
 exact ⟨.int _, H, I.tok _, ⟨_, rfl⟩, q⟩
end
end L3
namespace L2
open PySem PySem.Spec PyProof.Rows PySem.W
def S5 : Str := (("way_round" : Str) ++ ".<locals>.") ++ "<lambda>"
def Sj (p1 p2 : Pos) : Arguments := { posonlyargs := [], args := [⟨"place", none, p1⟩, ⟨"goal", none, p2⟩], vararg := none, kwonlyargs := [], kw_defaults := [], kwarg := none, defaults := [] }
def S6 (p1 p2 p3 : Pos) : Expr := .Compare (.Name "goal" p1) [.NotEq] [.Name "one" p2] p3
def Xo : Scope := { kind := .function, names := [("place", .local), ("goal", .local), ("one", .free)], isGenerator := false, isCoroutine := false, more := [] }
def Yu (c : Addr) : Heap → Prop := fun h => h.CodeRec (.ref c) S5
def W3 (cc : Addr) (k : Int) : Heap → Prop := fun h => ∃ o t, h.get? cc = some o ∧ o.data = .cell (some (.int k t))
def Xx (f cc c : Addr) : Heap → Prop := fun h => ∃ p1 p2 p3 p4 p5 pm ctv, h.get? f = some (kla_obj "<lambda>" S5 (Sj p1 p2) (S6 p3 p4 p5) Xo [("one", cc)] pm c ctv)
theorem Ze8 {P : Program} {w : World} {H : Hp} {h : Heap} {c : Addr} (x : Yu c h) : X4 P w H h c (.ext (Yu c)) := by
 refine ⟨x, ?_, fun h1 h2 q k => ?_⟩
 ·obtain ⟨c', o, _, _, e, ho, _⟩ := x
  cases e
  exact ⟨o, ho⟩
 ·obtain ⟨c', o, vs, t, e, ho, r⟩ := q
  cases e
  exact ⟨c, o, vs, t, rfl, k o ho, r⟩
theorem Zf8 {P : Program} {w : World} {H : Hp} {h : Heap} {cc : Addr} {i : Int} (x : W3 cc i h) : X4 P w H h cc (.ext (W3 cc i)) :=
 ⟨x, let ⟨o, _, e, _⟩ := x; ⟨o, e⟩, fun _ _ ⟨o, t, e, d⟩ k => ⟨o, t, k o e, d⟩⟩
theorem Z75 {P : Program} {w : World} {H : Hp} {h : Heap} {f cc c : Addr} (x : Xx f cc c h) : X4 P w H h f (.ext (Xx f cc c)) :=
 ⟨x, let ⟨_, _, _, _, _, _, _, e⟩ := x; ⟨_, e⟩, fun _ _ ⟨p1, p2, p3, p4, p5, pm, ctv, e⟩ k => ⟨p1, p2, p3, p4, p5, pm, ctv, k _ e⟩⟩
theorem Zi4 {p1 p2 : Pos} {body : Expr} {cl : List (Str × Addr)} {pm cdv ct u1 u2 : Value} : bindArgs (kla_fn "<lambda>" S5 (Sj p1 p2) body Xo cl pm cdv ct) ⟨[u1, u2], []⟩ = (pure [(("place" : Str), u1), (("goal" : Str), u2)] : Sem (List (Str × Value))) := by
 rfl
section
variable {X : Cx} {pins : List (Addr × Obj)} {σ : St} {H : Hp} {s : Shared}
theorem Zb6 {f cc c : Addr} {k g : Int} {u1 u2 : Value} {Q : VK} (I : Inv X pins σ H s) (hr : X.A.depth < recursionLimit) (h1 : H f = some (.ext (Xx f cc c))) (h2 : H c = some (.ext (Yu c)))
  (h3 : H cc = some (.ext (W3 cc k))) (r2 : RelV (.int g) u2) (q : Q (.bl (!decide (g = k))) H) : wpAny (model X.prog X.w) X.A (call (.ref f) [u1, u2]) (EP X pins σ Q) X.xe s := by
 obtain ⟨⟨p1, p2, p3, p4, p5, pm, ctv, ho⟩, _, _⟩ := I.hok f _ h1
 obtain ⟨hcd, _⟩ := I.hok c _ h2
 obtain ⟨⟨oc, t, hc1, hc2⟩, _⟩ := I.hok cc _ h3
 obtain ⟨t', rfl⟩ := r2
 refine wpAny_call (kla_callFunE hr ho rfl rfl rfl rfl hcd ?_)
 rw [Zi4]
 refine wpAny_pure (wpAny_newFunctionEnv (fun x hx => ?_) (fun x hx => ?_) (fun h₁ hns hsb => ⟨I.nolimit.fresh _ hsb, ?_⟩) rfl)
 ·simp [Xo] at hx
  rcases hx with rfl | rfl | rfl <;> decide
 ·simp at hx
  rcases hx with rfl | rfl <;> rfl
 ·have hk₁ : ∀ b o, s.heap.get? b = some o → h₁.get? b = some o := fun b o e => hsb.extBut b o (Nat.ne_of_lt (Heap.lt_size e)) (Heap.get?_push_of_some _ e)
  show codeAny _ _ (.expr (S6 p3 p4 p5) (envX S5 Xo s.heap.objs.size f (.ref c) [("one", cc)])) _ _
  refine kla_codeExpr ?_
  refine wpAny_Compare1 (wpAny_Name (wpAny_loadName_local rfl rfl hns rfl (wpAny_Name (wpAny_loadName_free rfl rfl rfl ⟨oc, hk₁ _ _ hc1, hc2⟩ (ne_int ?_)))))
  refine ⟨.bl (!decide (g = k)), H, I.kept hk₁, ?_, q⟩
  show Value.bool _ = Value.bool _
  rw [bne, Bool.beq_eq_decide_eq]
def Tri (H : Hp) (ps : Array Value) : Prop := TriplesOk ps.toList ∧ ∀ pos v, codeAmong pos ps.toList = some v → ∃ c, v = .ref c ∧ H c = some (.ext (Yu c))
theorem Tri.keep {H H' : Hp} {ps : Array Value} (x : Tri H ps) (k : ∀ c, H c = some (.ext (Yu c)) → H' c = some (.ext (Yu c))) : Tri H' ps :=
 ⟨x.1, fun pos v e => let ⟨c, q, r⟩ := x.2 pos v e; ⟨c, q, k c r⟩⟩
theorem Tri.nil (H : Hp) : Tri H #[] := ⟨trivial, fun _ _ e => by cases e⟩
theorem Cn {pos q : Pos} {c v : Value} : ∀ (l : List Value), TriplesOk l → codeAmong pos (l ++ [rawInt q.line, rawInt q.col, c]) = some v → codeAmong pos l = some v ∨ v = c := by
 intro l h
 fun_induction TriplesOk l with
 | case1 =>
  intro e
  simp only [List.nil_append, codeAmong, rawInt] at e
  split at e
  ·cases e; exact .inr rfl
  ·cases e
 | case2 a t b u x rest ih =>
  intro e
  simp only [List.cons_append, codeAmong] at e ⊢
  split at e
  ·rename_i hc
   rw [if_pos hc]; exact .inl e
  ·rename_i hc
   rw [if_neg hc]; exact ih h e
 | case3 l h1 h2 => exact h.elim
theorem Tri.snoc {H H' : Hp} {ps : Array Value} {pos : Pos} {c : Addr} (x : Tri H ps) (k : ∀ c, H c = some (.ext (Yu c)) → H' c = some (.ext (Yu c))) (hc : H' c = some (.ext (Yu c))) : Tri H' (ps ++ #[rawInt pos.line, rawInt pos.col, .ref c]) := by
 refine ⟨?_, fun q v e => ?_⟩
 ·rw [Array.toList_append]; exact TriplesOk_snoc _ _ _ _ x.1
 ·rw [Array.toList_append] at e
  rcases Cn (q := pos) ps.toList x.1 e with e | e
  ·obtain ⟨c', q1, q2⟩ := x.2 q v e; exact ⟨c', q1, k c' q2⟩
  ·exact ⟨c, e, hc⟩
structure Bs (K : PySem.W.Frag) (mg : Str → Option Value) (base : Heap) : Prop where
 bm : ∃ bm ob, mg "__builtins__" = some (.ref bm) ∧ bm ≠ builtinsNs ∧ base.get? bm = some ob ∧ ob.cls = .type "module" ∧ ob.dict = some builtinsNs ∧ ob.data = .plain
 cd : ∀ c P, tabIn K "way_round" = some (c, P) → CodeHd base c P
theorem Zh3 {c0 P cc : Addr} {ps : Array Value} {p1 p2 p3 p4 p5 pos : Pos} {Q : Value → Shared → Prop} (I : Inv X pins σ H s) (B : Bs X.K X.mg X.base) (hq : X.env.qual = ("way_round" : Str) ++ ".<locals>.") (hcode : X.env.code = .ref c0)
  (ht : tabIn X.K "way_round" = some (c0, P)) (hP : H P = some (.tbl ps)) (tr : Tri H ps) (hcl : closureFor Xo X.env = (pure [(("one" : Str), cc)] : Sem (List (Str × Addr))))
  (h : ∀ f c H1 s', Inv X pins σ H1 s' → H1 f = some (.ext (Xx f cc c)) → H1 c = some (.ext (Yu c)) → (∃ ps', H1 P = some (.tbl ps') ∧ Tri H1 ps') → (∀ b o, b ≠ P → H b = some o → H1 b = some o) → Q (.ref f) s') :
  wpAny (model X.prog X.w) X.A (eval (.Lambda (Sj p1 p2) (S6 p3 p4 p5) Xo pos) X.env) Q X.xe s := by
 refine kla_eval rfl ?_
 rw [hq]
 have hPo : s.heap.get? P = some (tabObj ps) := I.hok P _ hP
 have C := (B.cd c0 P ht).keeps I.bk
 have nb : ∀ b o, X.base.get? b = some o → b ≠ P := fun b o e z => by
  have := (I.bs b o e).2
  rw [z, hP] at this; cases this
 obtain ⟨bm, ob, b1, b2, b3, b4, b5, b6⟩ := B.bm
 have hgs := I.mod.glob.keeps I.bk
 have hbG : bm ≠ mainGlobals := fun q => by
  obtain ⟨o, es, ep, e, hd, _⟩ := I.mod.glob
  rw [q, e] at b3; cases b3; rw [hd] at b6; cases b6
 have hgP : mainGlobals ≠ P := by
  obtain ⟨o, es, ep, e, hd, _⟩ := I.mod.glob
  exact nb _ _ e
 have hBA : s.heap.BuiltinsAt X.mg P := ⟨bm, ob, b1, b2, hbG, nb _ _ b3, I.bk _ _ b3, b4, b5, b6⟩
 cases hm : codeAmong pos ps.toList with
 | some cv =>
  obtain ⟨c, rfl, hc⟩ := tr.2 pos cv hm
  refine kla_makeFunctionHit (mg := X.mg) hcl I.ok.glob hgs hcode C hPo tr.1 hm hBA fun ctv h' tk hk hsz => ?_
  have hf : H h'.objs.size = none := I.hok.fresh hsz
  have kp : ∀ b u, s.heap.get? b = some u → (h'.push (kla_obj "<lambda>" S5 (Sj p1 p2) (S6 p3 p4 p5) Xo [("one", cc)] ((X.mg "__name__").getD .none) c ctv)).get? b = some u := fun b u e => Heap.get?_push_of_some _ (hk b u e)
  refine h h'.objs.size c (upd H h'.objs.size (.ext (Xx h'.objs.size cc c))) _ (I.laid kp hsz (Z75 ⟨p1, p2, p3, p4, p5, _, ctv, Heap.get?_push_size _ rfl⟩)) Yt ?_ ?_ fun b o _ e => ?_
  ·exact (Zl (Zo hc hf)).trans hc
  ·exact ⟨ps, (Zl (Zo hP hf)).trans hP, tr.keep fun c e => (Zl (Zo e hf)).trans e⟩
  ·exact (Zl (Zo e hf)).trans e
 | none =>
  refine kla_makeFunction (mg := X.mg) hcl I.ok.glob hgs hcode C hPo tr.1 hm hgP hBA fun c ctv h' tk hx hge hlt hrec htb => ?_
  have hc0 : H c = none := I.hok.fresh hge
  have hf0 : H h'.objs.size = none := I.hok.fresh (Nat.le_trans hge (Nat.le_of_lt hlt))
  have hcf : c ≠ h'.objs.size := Nat.ne_of_lt hlt
  have hPc : P ≠ c := Zo hP hc0
  have hPf : P ≠ h'.objs.size := Zo hP hf0
  have hcc : ∀ b o, s.heap.get? b = some o → b ≠ c ∧ b ≠ h'.objs.size := fun b o e => ⟨Nat.ne_of_lt (Nat.lt_of_lt_of_le (Heap.lt_size e) hge), Nat.ne_of_lt (Nat.lt_trans (Nat.lt_of_lt_of_le (Heap.lt_size e) hge) hlt)⟩
  have hH : ∀ b o, H b = some o → b ≠ c ∧ b ≠ h'.objs.size := fun b o e => ⟨Zo e hc0, Zo e hf0⟩
  have kp : ∀ b u, b ≠ P → s.heap.get? b = some u → (h'.push (kla_obj "<lambda>" S5 (Sj p1 p2) (S6 p3 p4 p5) Xo [("one", cc)] ((X.mg "__name__").getD .none) c ctv)).get? b = some u := fun b u hb e => Heap.get?_push_of_some _ (hx b u hb e)
  have look : ∀ b, b ≠ P → b ≠ c → b ≠ h'.objs.size → upd (upd (upd H P (.tbl (ps ++ #[rawInt pos.line, rawInt pos.col, .ref c]))) c (.ext (Yu c))) h'.objs.size (.ext (Xx h'.objs.size cc c)) b = H b := fun b h1 h2 h3 => by rw [Zl h3, Zl h2, Zl h1]
  have lP : upd (upd (upd H P (.tbl (ps ++ #[rawInt pos.line, rawInt pos.col, .ref c]))) c (.ext (Yu c))) h'.objs.size (.ext (Xx h'.objs.size cc c)) P = some (.tbl (ps ++ #[rawInt pos.line, rawInt pos.col, .ref c])) := by rw [Zl hPf, Zl hPc, Yt]
  have lc : upd (upd (upd H P (.tbl (ps ++ #[rawInt pos.line, rawInt pos.col, .ref c]))) c (.ext (Yu c))) h'.objs.size (.ext (Xx h'.objs.size cc c)) c = some (.ext (Yu c)) := by rw [Zl hcf, Yt]
  have old : ∀ b o, b ≠ P → H b = some o → upd (upd (upd H P (.tbl (ps ++ #[rawInt pos.line, rawInt pos.col, .ref c]))) c (.ext (Yu c))) h'.objs.size (.ext (Xx h'.objs.size cc c)) b = some o := fun b o hb e => (look b hb (hH b o e).1 (hH b o e).2).trans e
  refine h h'.objs.size c _ _ (I.step (ch := []) (g' := s.gens) (d' := s.drawn) (H' := upd (upd (upd H P (.tbl (ps ++ #[rawInt pos.line, rawInt pos.col, .ref c]))) c (.ext (Yu c))) h'.objs.size (.ext (Xx h'.objs.size cc c))) (fun _ z => nomatch z) (fun b o _ _ _ e n => kp b o (fun z => by rw [z, hP] at n; cases n) e) (fun b o _ _ _ e n => ⟨o.slots, kp b o (fun z => by rw [z, hP] at n; cases n) e⟩) (fun b o _ e n => ?_) (fun b o _ e => ?_) (fun b xs e => old b _ (fun z => by rw [z, hP] at e; cases e) e) (fun b o u e => old b _ (fun z => by rw [z, hP] at e; cases e) e) (fun b qs e => ?_) (fun m hm => ?_) (fun b o e => ?_) I.bare) Yt lc ⟨_, lP, tr.snoc (fun c' e => old c' _ (fun z => by rw [z, hP] at e; cases e) e) lc⟩ old
  ·exact (look b (fun z => by rw [z, hP] at n; cases n) (hcc b o e).1 (hcc b o e).2).trans n
  ·by_cases hb : b = P
   ·subst hb; exact ⟨_, Heap.get?_push_of_some _ htb⟩
   ·exact ⟨o, kp b o hb e⟩
  ·by_cases hb : b = P
   ·subst hb
    rw [hP] at e; cases e
    exact ⟨_, lP⟩
   ·exact ⟨#[], by rw [old b _ hb e, Array.append_empty]⟩
  ·obtain ⟨o, es, ep, ho, r⟩ := hm
   exact ⟨o, es, ep, kp _ o (fun z => by rw [z, hPo] at ho; cases ho; cases r.1) ho, r⟩
  ·by_cases hf : b = h'.objs.size
   ·subst hf
    rw [Yt] at e; cases e
    exact Z75 ⟨p1, p2, p3, p4, p5, _, ctv, Heap.get?_push_size _ rfl⟩
   ·by_cases hc : b = c
    ·subst hc
     rw [lc] at e; cases e
     exact Ze8 (hrec.keeps fun b o e => Heap.get?_push_of_some _ e)
    ·by_cases hb : b = P
     ·subst hb
      rw [lP] at e; cases e
      exact Heap.get?_push_of_some _ htb
     ·rw [look b hb hc hf] at e
      refine (I.hok b o e).stay (fun a u ha q => kp a u (fun z => ?_) q) (fun a q => old a _ (fun z => by rw [z, hP] at q; cases q) q) fun a xs q => old a _ (fun z => by rw [z, hP] at q; cases q) q
      rcases ha with ha | ha
      ·exact hb (ha.symm.trans z)
      ·rw [z, hP] at ha; cases ha
end
def C9 (K : PySem.W.Frag) (H : Hp) : Prop := ∀ c P, tabIn K "way_round" = some (c, P) → ∃ ps, H P = some (.tbl ps) ∧ Tri H ps
theorem Z20 {P : Program} {w : World} {K : PySem.W.Frag} {mg mb : Str → Option Value} {CX : CXT} {k : Nat} {fa a c0 T : Addr} {fd : FuncData} {x : Str} {sp : Sp} {s₁ : Shared} {vs : List Value} {ns : List Int}
  (KX : K.In s₁.heap) (hns : s₁.heap.Ns mainGlobals mg) (hb : s₁.heap.Ns builtinsNs mb) (hbb : ∀ x : Str, x ≠ "__name__" → mb x = bootBuiltins x) (hlim : s₁.heap.NoLimit) (hg : s₁.gens = #[])
  (hbm : ∃ bm ob, mg "__builtins__" = some (.ref bm) ∧ bm ≠ builtinsNs ∧ s₁.heap.get? bm = some ob ∧ ob.cls = .type "module" ∧ ob.dict = some builtinsNs ∧ ob.data = .plain)
  (ht : tabIn K "way_round" = some (c0, T)) (hnt : noTabs K = true) (hC : CodeHd s₁.heap c0 T) (hT : s₁.heap.get? T = some (tabObj #[]))
  (ha : s₁.heap.get? a = some { cls := .type "list", data := .seq vs.toArray }) (hi : IntsAre vs ns) (hl : ns.length ≤ sizeLine) (hr : Room k callerA)
  (F : ∀ base : Heap, K.In base → base.Ns mainGlobals mg → Bs K mg base → FnOk P w K mg base CX k fa fd [x] sp) (hbind : ∀ (s : Shared) (u : Value), BindsTo s fd ⟨[u], []⟩ [(x, u)])
  (hsp : ∀ H : Hp, ((∃ o, H a = some (.frz o (.lst (ns.map V.int)))) ∨ SqL K (fun _ => none) a (ns.map V.int)) → C9 K H → sp [.ref a] H (fun v _ => v = .bl true) fun _ _ _ => False)
  (hCX : ∀ H e s', CX [] H s₁ (fun _ _ _ => False) e s' → False) :
  codeAny (model P w) callerA (.call (.ref fa) ⟨[.ref a], []⟩) (fun r s' => r = .ok (.ret (.bool true)) ∧ OldK s₁.heap s'.heap ∧ s'.os = s₁.os ∧ AllBare s'.gens) s₁ := by
 have rv := Tq hi
 have lenV := hi.length
 have haT : a ≠ T := fun z => by rw [z, hT] at ha; cases ha
 have core : ∀ H : Hp, ((∃ o, H a = some (.frz o (.lst (ns.map V.int)))) ∨ SqL K (fun _ => none) a (ns.map V.int)) → H T = some (.tbl #[]) → HOk P w H s₁.heap → (∀ b, H b ≠ none → b = a ∨ b = T) → (H a ≠ none → K.lookup a = none) → (∀ u, H a = some u → ∃ o xs, u = .frz o (.lst xs)) →
   codeAny (model P w) callerA (.call (.ref fa) ⟨[.ref a], []⟩) (fun r s' => r = .ok (.ret (.bool true)) ∧ OldK s₁.heap s'.heap ∧ s'.os = s₁.os ∧ AllBare s'.gens) s₁ := by
  intro H hS hTb hok hA hK hO
  have base_of : ∀ {b : Addr} {o : Obj}, s₁.heap.get? b = some o → H b = none → (hidT s₁.heap H).get? b = some o := fun e n => Z92 e n
  have noO : ∀ {b : Addr} {o : Obj}, s₁.heap.get? b = some o → o ≠ { cls := .type "list", data := .seq vs.toArray } → o ≠ tabObj #[] → H b = none := fun {b o} e d1 d2 => by
   cases q : H b with
   | none => rfl
   | some u =>
    rcases hA b (by rw [q]; simp) with z | z
    ·rw [z, ha] at e; cases e; exact absurd rfl d1
    ·rw [z, hT] at e; cases e; exact absurd rfl d2
  have nsK : ∀ {b : Addr} {m : Str → Option Value}, s₁.heap.Ns b m → (hidT s₁.heap H).Ns b m := fun {b m} ⟨o, es, ep, e, d, r⟩ => ⟨o, es, ep, base_of e (noO e (fun z => by rw [z] at d; cases d) fun z => by rw [z] at d; cases d), d, r⟩
  have hKb : K.In (hidT s₁.heap H) := fun b o e => base_of (KX b o e) (by
   cases q : H b with
   | none => rfl
   | some u =>
    rcases hA b (by rw [q]; simp) with z | z
    ·subst z; rw [hK (by rw [q]; simp)] at e; cases e
    ·have e2 := KX b o e
     rw [z, hT] at e2; cases e2
     have h2 := List.all_eq_true.mp hnt _ (mem_of_lookupK e)
     exact absurd (show false = true from h2) Bool.false_ne_true)
  have hM : Mod K mg (hidT s₁.heap H) := ⟨hKb, nsK hns, ⟨mb, nsK hb, hbb⟩, let ⟨mc, h1, h2⟩ := hlim; ⟨mc, nsK h1, h2⟩⟩
  have hB : Bs K mg (hidT s₁.heap H) := by
   refine ⟨?_, fun c P e => ?_⟩
   ·obtain ⟨bm, ob, b1, b2, b3, b4, b5, b6⟩ := hbm
    exact ⟨bm, ob, b1, b2, base_of b3 (noO b3 (fun z => by rw [z] at b6; cases b6) fun z => by rw [z] at b6; cases b6), b4, b5, b6⟩
   ·rw [ht] at e; cases e
    obtain ⟨o, vs', file, tf, flags, tg, inF, text, tt, e1, e2, e3, r⟩ := hC
    exact ⟨o, vs', file, tf, flags, tg, inF, text, tt, base_of e1 (noO e1 (fun z => by rw [z] at e3; cases e3) fun z => by rw [z] at e2; cases e2), e2, e3, r⟩
  have e0 : Env0 P w K mg (hidT s₁.heap H) callerA [] s₁ H := ⟨rfl, hM, fun b o e => Zr7 e, Nat.le_of_eq (Bl _ _), trivial, fun b hb => absurd (show b ∈ ([] : List Addr) from hb) (by simp), hok, .of_eq hg⟩
  have tA : C9 K H := fun c P e => by
   rw [ht] at e; cases e
   exact ⟨#[], hTb, Tri.nil H⟩
  refine codeAny_mono ((F _ hKb (nsK hns) hB).run callerA [] s₁ H ⟨[.ref a], []⟩ [.ref a] [.ref a] _ _ hr e0 (hbind s₁ (.ref a)) (.cons rfl .nil) (hsp H hS tA)) fun r s' h => ?_
  cases r with
  | error e => exact (hCX H e s' h).elim
  | ok fl =>
   cases fl with
   | next => exact False.elim h
   | brk => exact False.elim h
   | cont => exact False.elim h
   | ret u =>
    obtain ⟨v, H', os, bare, un, hok', r', q⟩ := h
    have q' : v = .bl true := q
    subst q'
    obtain rfl : u = Value.bool true := r'
    obtain ⟨more, hm⟩ := un.tbls T #[] hTb
    have hT' : s'.heap.get? T = some (tabObj (#[] ++ more)) := hok' T _ hm
    have kp : ∀ b o, b ≠ T → s₁.heap.get? b = some o → s'.heap.get? b = some o := fun b o hb e => by
     cases q : H b with
     | none => exact un.keep b o e q (by intro z; exact absurd (show b ∈ ([] : List Addr) from z) (by simp)) (by simp)
     | some u =>
      rcases hA b (by rw [q]; simp) with z | z
      ·subst z
       obtain ⟨ob, xs, rfl⟩ := hO u q
       have z2 := un.frzs b ob _ q
       obtain ⟨e1, _⟩ := hok b _ q
       obtain ⟨e2, _⟩ := hok' b _ z2
       rw [e] at e1; cases e1
       exact e2
      ·exact absurd z hb
    refine ⟨rfl, ⟨fun b o e => ?_, fun b o e => ?_⟩, os, bare⟩
    ·by_cases hb : b = T
     ·subst hb
      rw [hT] at e; cases e
      exact .inr (.inl ⟨(hC.tab hT).isCodeTable, rfl, #[], more, rfl, hT'⟩)
     ·exact .inl (kp b o hb e)
    ·by_cases hb : b = T
     ·subst hb; exact ⟨_, hT'⟩
     ·exact ⟨o, kp b o hb e⟩
 cases hk : K.lookup a with
 | some o =>
  have e := KX a o hk
  rw [ha] at e
  cases e
  refine core (fun b => if b = T then some (.tbl #[]) else none) (.inr (.inr ⟨_, vs.toArray, _, hk, rfl, rfl, rfl, by rw [List.size_toArray, lenV]; exact hl, by simpa using rv⟩)) (if_pos rfl) (fun b u z => ?_) (fun b z => ?_) (fun z => absurd (if_neg haT) z) fun u z => ?_
  ·by_cases hb : b = T
   ·have z' := (if_pos hb).symm.trans z
    cases z'
    subst hb
    exact hT
   ·have z' := (if_neg hb).symm.trans z
    cases z'
  ·by_cases hb : b = T
   ·exact .inr hb
   ·exact absurd (if_neg hb) z
  ·have z' := (if_neg haT).symm.trans z
   cases z'
 | none =>
  refine core (fun b => if b = T then some (.tbl #[]) else if b = a then some (.frz { cls := .type "list", data := .seq vs.toArray } (.lst (ns.map V.int))) else none) (.inl ⟨{ cls := .type "list", data := .seq vs.toArray }, (if_neg haT).trans (if_pos rfl)⟩) (if_pos rfl) (fun b u z => ?_) (fun b z => ?_) (fun _ => hk) fun u z => ?_
  ·by_cases hb : b = T
   ·have z' := (if_pos hb).symm.trans z
    cases z'
    subst hb
    exact hT
   ·have z1 := (if_neg hb).symm.trans z
    by_cases hb2 : b = a
    ·have z' := (if_pos hb2).symm.trans z1
     cases z'
     subst hb2
     exact ⟨ha, by rw [List.length_map]; exact hl, vs, _, rv, ha⟩
    ·have z' := (if_neg hb2).symm.trans z1
     cases z'
  ·by_cases hb : b = T
   ·exact .inr hb
   ·by_cases hb2 : b = a
    ·exact .inl hb2
    ·exact absurd ((if_neg hb).trans (if_neg hb2)) z
  ·have z' := ((if_neg haT).trans (if_pos rfl)).symm.trans z
   cases z'
   exact ⟨_, _, rfl⟩
end L2
namespace U
open PySem PySem.Spec PyProof.Rows L2 L3
inductive D where
 | non | bl (b : Bool) | int (i : Int) | str (x : Str) | tup (ds : List D) | ref (n : Nat) | ty (n : String) | gtup (ds : List D) | cls (a : Addr) | exn (e C dx : Addr) (row : D) | lam (f cc c : Addr) (k : Int)
inductive Cell where
 | lst (ds : List D) | frz (ds : List D) | dct (kvs : List (Key × D)) | fdc (kvs : List (Key × D))
abbrev Z3 := List Cell
abbrev DEnv := List (Option D)
abbrev DK := D → Z3 → Prop
abbrev DX := Addr → D → Z3 → Prop
abbrev DE := DEnv → Z3 → DK → Prop
abbrev DA := DEnv → Z3 → (List D → Z3 → Prop) → Prop
abbrev DT := DEnv → Z3 → (Bool → Z3 → Prop) → Prop
abbrev DSp := List D → Z3 → DK → DX → Prop
structure DEnds where
 nx : DEnv → Z3 → Prop
 rt : DK
 bk : DEnv → Z3 → Prop := fun _ _ => False
 ct : DEnv → Z3 → Prop := fun _ _ => False
abbrev DS := DEnds → DEnv → Z3 → Prop
structure Vw where
 K : PySem.W.Frag
 H : Hp
 μ : Nat → Addr
 n : Nat
mutual
def RD (w : Vw) : D → V → Prop
 | .non, v => v = .non
 | .bl b, v => v = .bl b
 | .int i, v => v = .int i
 | .str x, v => v = .str x
 | .tup ds, v => ∃ a vs, v = .ref a ∧ w.H a = some (.tup vs) ∧ RDs w ds vs
 | .ref i, v => i < w.n ∧ v = .ref (w.μ i)
 | .ty n, v => v = .ty n
 | .gtup ds, v => ∃ a vs, v = .ref a ∧ SqT w.K w.H a vs ∧ RDs w ds vs
 | .cls a, v => v = .ref a
 | .lam f cc c k, v => v = .ref f ∧ w.H f = some (.ext (Xx f cc c)) ∧ w.H c = some (.ext (Yu c)) ∧ w.H cc = some (.ext (W3 cc k))
 | .exn e C dx row, v => v = .ref e ∧ w.H e = some (XO e (.ref C) (some dx)) ∧ ∃ r, w.H dx = some (.xd [("row", r)]) ∧ RD w row r
def RDs (w : Vw) : List D → List V → Prop
 | [], vs => vs = []
 | d :: ds, vs => ∃ v r, vs = v :: r ∧ RD w d v ∧ RDs w ds r
end
def RKV (w : Vw) : List (Key × D) → List (Key × V) → Prop
 | [], vs => vs = []
 |(k, d) :: ds, vs => ∃ v r, vs = (k, v) :: r ∧ RD w d v ∧ RKV w ds r
def SqF (K : PySem.W.Frag) (H : Hp) (a : Addr) (vs : List V) : Prop := (∃ o, H a = some (.frz o (.lst vs))) ∨ SqL K (fun _ => none) a vs
def Cell.mut : Cell → Bool
 | .frz _ => false
 | _ => true
def Pf (w : Vw) : Cell → Addr → Prop
 | .lst ds, a => ∃ vs, w.H a = some (.lst vs) ∧ RDs w ds vs
 | .frz ds, a => ∃ vs, SqF w.K w.H a vs ∧ RDs w ds vs
 | .dct kvs, a => ∃ vs, w.H a = some (.dK vs) ∧ RKV w kvs vs
 | .fdc kvs, a => ∃ o vs, w.H a = some (.frz o (.dK vs)) ∧ RKV w kvs vs
structure RS (w : Vw) (M : Z3) : Prop where
 len : w.n = M.length
 inj : ∀ (i j : Nat) (ci cj : Cell), M[i]? = some ci → M[j]? = some cj → ci.mut = true → cj.mut = true → w.μ i = w.μ j → i = j
 cell : ∀ i c, M[i]? = some c → Pf w c (w.μ i)
 tab : C9 w.K w.H
def Tb : HO → Bool
 | .tbl _ | .ext _ => true
 | _ => false
theorem Oz {K : PySem.W.Frag} {H H' : Hp} (x : C9 K H) (k : ∀ b o, H b = some o → Tb o = true → H' b = some o) : C9 K H' := fun c P e => by
 obtain ⟨ps, h1, h2⟩ := x c P e
 exact ⟨ps, k _ _ h1 rfl, h2.keep fun c q => k _ _ q rfl⟩
def Imm : HO → Bool
 | .tup _ | .xd _ | .ext _ | .frz _ _ => true
 | _ => false
structure Ext (w w' : Vw) : Prop where
 K : w'.K = w.K
 n : w.n ≤ w'.n
 μ : ∀ i, i < w.n → w'.μ i = w.μ i
 imm : ∀ a o, w.H a = some o → Imm o = true → w'.H a = some o
theorem Ext.refl (w : Vw) : Ext w w := ⟨rfl, Nat.le_refl _, fun _ _ => rfl, fun _ _ h _ => h⟩
theorem Ext.trans {a b c : Vw} (x : Ext a b) (y : Ext b c) : Ext a c :=
 ⟨y.K.trans x.K, Nat.le_trans x.n y.n, fun i h => (y.μ i (Nat.lt_of_lt_of_le h x.n)).trans (x.μ i h), fun p o h q => y.imm p o (x.imm p o h q) q⟩
theorem Ext.sqT {w w' : Vw} (x : Ext w w') {a : Addr} {vs : List V} (h : SqT w.K w.H a vs) : SqT w'.K w'.H a vs := by
 rw [x.K]
 rcases h with (h | ⟨o, h⟩) | h
 ·exact .inl (.inl (x.imm _ _ h rfl))
 ·exact .inl (.inr ⟨o, x.imm _ _ h rfl⟩)
 ·exact .inr h
mutual
theorem RD.ext {w w' : Vw} (x : Ext w w') : ∀ {d : D} {v : V}, RD w d v → RD w' d v
 | .non, v, h => by unfold RD at *; exact h
 | .bl b, v, h => by unfold RD at *; exact h
 | .int i, v, h => by unfold RD at *; exact h
 | .str _, v, h => by unfold RD at *; exact h
 | .tup ds, v, h => by
  unfold RD at *
  obtain ⟨a, vs, e, q, r⟩ := h
  exact ⟨a, vs, e, x.imm _ _ q rfl, RDs.ext x r⟩
 | .ref i, v, h => by
  unfold RD at *
  exact ⟨Nat.lt_of_lt_of_le h.1 x.n, by rw [x.μ i h.1]; exact h.2⟩
 | .ty n, v, h => by unfold RD at *; exact h
 | .gtup ds, v, h => by
  unfold RD at *
  obtain ⟨a, vs, e, q, r⟩ := h
  exact ⟨a, vs, e, x.sqT q, RDs.ext x r⟩
 | .cls a, v, h => by unfold RD at *; exact h
 | .exn e C dx row, v, h => by
  unfold RD at *
  obtain ⟨e1, q, r, q2, q3⟩ := h
  exact ⟨e1, x.imm _ _ q rfl, r, x.imm _ _ q2 rfl, RD.ext x q3⟩
 | .lam f cc c k, v, h => by
  unfold RD at *
  exact ⟨h.1, x.imm _ _ h.2.1 rfl, x.imm _ _ h.2.2.1 rfl, x.imm _ _ h.2.2.2 rfl⟩
theorem RDs.ext {w w' : Vw} (x : Ext w w') : ∀ {ds : List D} {vs : List V}, RDs w ds vs → RDs w' ds vs
 | [], vs, h => by unfold RDs at *; exact h
 | d :: ds, vs, h => by
  unfold RDs at *
  obtain ⟨v, r, e, h1, h2⟩ := h
  exact ⟨v, r, e, RD.ext x h1, RDs.ext x h2⟩
end
theorem RKV.ext {w w' : Vw} (x : Ext w w') : ∀ {ds : List (Key × D)} {vs : List (Key × V)}, RKV w ds vs → RKV w' ds vs
 | [], vs, h => by unfold RKV at *; exact h
 |(k, d) :: ds, vs, h => by
  unfold RKV at *
  obtain ⟨v, r, e, h1, h2⟩ := h
  exact ⟨v, r, e, RD.ext x h1, RKV.ext x h2⟩
structure Ext0 (w w' : Vw) : Prop where
 K : w'.K = w.K
 n : w.n ≤ w'.n
 μ : ∀ i, i < w.n → w'.μ i = w.μ i
 imm : ∀ a o, w.H a = some o → Imm o = true → (∀ ob kvs, o ≠ .frz ob (.dK kvs)) → w'.H a = some o
mutual
theorem RD.ext0 {w w' : Vw} (x : Ext0 w w') : ∀ {d : D} {v : V}, RD w d v → RD w' d v
 | .non, v, h => by unfold RD at *; exact h
 | .bl b, v, h => by unfold RD at *; exact h
 | .int i, v, h => by unfold RD at *; exact h
 | .str _, v, h => by unfold RD at *; exact h
 | .tup ds, v, h => by
  unfold RD at *
  obtain ⟨a, vs, e, q, r⟩ := h
  exact ⟨a, vs, e, x.imm _ _ q rfl (fun _ _ z => by cases z), RDs.ext0 x r⟩
 | .ref i, v, h => by
  unfold RD at *
  exact ⟨Nat.lt_of_lt_of_le h.1 x.n, by rw [x.μ i h.1]; exact h.2⟩
 | .ty n, v, h => by unfold RD at *; exact h
 | .gtup ds, v, h => by
  unfold RD at *
  obtain ⟨a, vs, e, q, r⟩ := h
  refine ⟨a, vs, e, ?_, RDs.ext0 x r⟩
  rw [x.K]
  rcases q with (h | ⟨o, h⟩) | h
  ·exact .inl (.inl (x.imm _ _ h rfl (fun _ _ z => by cases z)))
  ·exact .inl (.inr ⟨o, x.imm _ _ h rfl (fun _ _ z => by cases z)⟩)
  ·exact .inr h
 | .cls a, v, h => by unfold RD at *; exact h
 | .exn e C dx row, v, h => by
  unfold RD at *
  obtain ⟨e1, q, r, q2, q3⟩ := h
  exact ⟨e1, x.imm _ _ q rfl (fun _ _ z => by cases z), r, x.imm _ _ q2 rfl (fun _ _ z => by cases z), RD.ext0 x q3⟩
 | .lam f cc c k, v, h => by
  unfold RD at *
  exact ⟨h.1, x.imm _ _ h.2.1 rfl (fun _ _ z => by cases z), x.imm _ _ h.2.2.1 rfl (fun _ _ z => by cases z), x.imm _ _ h.2.2.2 rfl (fun _ _ z => by cases z)⟩
theorem RDs.ext0 {w w' : Vw} (x : Ext0 w w') : ∀ {ds : List D} {vs : List V}, RDs w ds vs → RDs w' ds vs
 | [], vs, h => by unfold RDs at *; exact h
 | d :: ds, vs, h => by
  unfold RDs at *
  obtain ⟨v, r, e, h1, h2⟩ := h
  exact ⟨v, r, e, RD.ext0 x h1, RDs.ext0 x h2⟩
end
theorem RDs.nil (w : Vw) : RDs w [] [] := by unfold RDs; rfl
theorem RDs.cons {w : Vw} {d : D} {v : V} {ds : List D} {vs : List V} (h : RD w d v) (r : RDs w ds vs) : RDs w (d :: ds) (v :: vs) := by unfold RDs; exact ⟨v, vs, rfl, h, r⟩
theorem RDs.length {w : Vw} : ∀ {ds : List D} {vs : List V}, RDs w ds vs → vs.length = ds.length
 | [], vs, h => by unfold RDs at h; subst h; rfl
 | d :: ds, vs, h => by
  unfold RDs at h
  obtain ⟨v, r, rfl, _, h2⟩ := h
  simp [h2.length]
theorem RDs.get {w : Vw} : ∀ {ds : List D} {vs : List V} {i : Nat} {d : D}, RDs w ds vs → ds[i]? = some d → ∃ v, vs[i]? = some v ∧ RD w d v
 | [], vs, i, d, h, e => by simp at e
 | d :: ds, vs, i, d', h, e => by
  unfold RDs at h
  obtain ⟨v, r, rfl, h1, h2⟩ := h
  cases i with
  | zero => simp at e; subst e; exact ⟨v, rfl, h1⟩
  | succ i => simpa using RDs.get h2 (by simpa using e)
theorem RDs.append {w : Vw} : ∀ {ds es : List D} {vs us : List V}, RDs w ds vs → RDs w es us → RDs w (ds ++ es) (vs ++ us)
 | [], es, vs, us, h, g => by unfold RDs at h; subst h; exact g
 | d :: ds, es, vs, us, h, g => by
  unfold RDs at h
  obtain ⟨v, r, rfl, h1, h2⟩ := h
  exact RDs.cons h1 (RDs.append h2 g)
theorem RDs.take {w : Vw} : ∀ {ds : List D} {vs : List V} (n : Nat), RDs w ds vs → RDs w (ds.take n) (vs.take n)
 | _, _, 0, _ => by simp [RDs.nil]
 | [], vs, n + 1, h => by unfold RDs at h; subst h; simp [RDs.nil]
 | d :: ds, vs, n + 1, h => by
  unfold RDs at h
  obtain ⟨v, r, rfl, h1, h2⟩ := h
  exact RDs.cons h1 (RDs.take n h2)
theorem RDs.drop {w : Vw} : ∀ {ds : List D} {vs : List V} (n : Nat), RDs w ds vs → RDs w (ds.drop n) (vs.drop n)
 | _, _, 0, h => by simpa using h
 | [], vs, n + 1, h => by unfold RDs at h; subst h; simp [RDs.nil]
 | d :: ds, vs, n + 1, h => by
  unfold RDs at h
  obtain ⟨v, r, rfl, h1, h2⟩ := h
  simpa using RDs.drop n h2
theorem RDs.set {w : Vw} {d : D} {v : V} (q : RD w d v) : ∀ {ds : List D} {vs : List V} (n : Nat), RDs w ds vs → RDs w (ds.set n d) (vs.set n v)
 | [], vs, n, h => by unfold RDs at h; subst h; simp [RDs.nil]
 | d :: ds, vs, 0, h => by
  unfold RDs at h
  obtain ⟨v, r, rfl, h1, h2⟩ := h
  exact RDs.cons q h2
 | d :: ds, vs, n + 1, h => by
  unfold RDs at h
  obtain ⟨v, r, rfl, h1, h2⟩ := h
  exact RDs.cons h1 (RDs.set q n h2)
theorem RDs.reverse {w : Vw} : ∀ {ds : List D} {vs : List V}, RDs w ds vs → RDs w ds.reverse vs.reverse
 | [], vs, h => by unfold RDs at h; subst h; simp [RDs.nil]
 | d :: ds, vs, h => by
  unfold RDs at h
  obtain ⟨v, r, rfl, h1, h2⟩ := h
  simp only [List.reverse_cons]
  exact (RDs.reverse h2).append (RDs.cons h1 (RDs.nil w))
def Vw.push (w : Vw) (a : Addr) (o : HO) : Vw := ⟨w.K, upd w.H a o, fun i => if i = w.n then a else w.μ i, w.n + 1⟩
def Vw.alloc (w : Vw) (a : Addr) (o : HO) : Vw := { w with H := upd w.H a o }
theorem T9 {w : Vw} {a : Addr} {o : HO} (h : w.H a = none) : Ext w (w.alloc a o) :=
 ⟨rfl, Nat.le_refl _, fun _ _ => rfl, fun b u q _ => by
  show upd w.H a o b = some u
  rw [Zl (by rintro rfl; rw [h] at q; cases q)]; exact q⟩
theorem Ta {w : Vw} {a : Addr} {o : HO} (h : w.H a = none) : Ext w (w.push a o) :=
 ⟨rfl, Nat.le_succ _, fun i hi => by show (if i = w.n then a else w.μ i) = _; rw [if_neg (by omega)], fun b u q _ => by
  show upd w.H a o b = some u
  rw [Zl (by rintro rfl; rw [h] at q; cases q)]; exact q⟩
theorem SqF.stay {w w' : Vw} {a : Addr} {vs : List V} (x : Ext w w') (h : SqF w.K w.H a vs) : SqF w'.K w'.H a vs := by
 rcases h with ⟨o, h⟩ | h
 ·exact .inl ⟨o, x.imm _ _ h rfl⟩
 ·rw [x.K]; exact .inr h
theorem SqF.sq {K : PySem.W.Frag} {H : Hp} {a : Addr} {vs : List V} (h : SqF K H a vs) : SqL K H a vs := by
 rcases h with ⟨o, h⟩ | (h | ⟨o, h⟩) | h
 ·exact .inl (.inr ⟨o, h⟩)
 ·cases h
 ·cases h
 ·exact .inr h
theorem Pf.some {w : Vw} {c : Cell} {a : Addr} (hm : c.mut = true) (h : Pf w c a) : ∃ o, w.H a = some o := by
 cases c with
 | lst ds => obtain ⟨vs, q, _⟩ := h; exact ⟨_, q⟩
 | frz ds => cases hm
 | dct ds => obtain ⟨vs, q, _⟩ := h; exact ⟨_, q⟩
 | fdc ds => obtain ⟨o, vs, q, _⟩ := h; exact ⟨_, q⟩
theorem Pf.stay {w w' : Vw} {c : Cell} {a : Addr} (x : Ext w w') (h : Pf w c a) (k : c.mut = true → w'.H a = w.H a) : Pf w' c a := by
 cases c with
 | lst ds => obtain ⟨vs, q, r⟩ := h; exact ⟨vs, (k rfl).trans q, r.ext x⟩
 | frz ds => obtain ⟨vs, q, r⟩ := h; exact ⟨vs, q.stay x, r.ext x⟩
 | dct ds => obtain ⟨vs, q, r⟩ := h; exact ⟨vs, (k rfl).trans q, r.ext x⟩
 | fdc ds => obtain ⟨o, vs, q, r⟩ := h; exact ⟨o, vs, (k rfl).trans q, r.ext x⟩
theorem RS.alloc {w : Vw} {M : Z3} {a : Addr} {o : HO} (R : RS w M) (h : w.H a = none) : RS (w.alloc a o) M :=
 ⟨R.len, R.inj, fun i c e => by
  have q := R.cell i c e
  refine q.stay (T9 h) fun hm => ?_
  obtain ⟨u, hu⟩ := q.some hm
  exact Zl (fun z => by have z : w.μ i = a := z; rw [z, h] at hu; cases hu), Oz R.tab fun b o e _ => (Zl (Zo e h)).trans e⟩
theorem Pn {w : Vw} {c : Cell} {a : Addr} {o : HO} (h : Pf w c a) (hm : c.mut = true) (e : w.H a = some o) : Tb o = false := by
 cases c with
 | lst ds => obtain ⟨vs, q, _⟩ := h; rw [e] at q; cases q; rfl
 | frz ds => cases hm
 | dct ds => obtain ⟨vs, q, _⟩ := h; rw [e] at q; cases q; rfl
 | fdc ds => obtain ⟨_, vs, q, _⟩ := h; rw [e] at q; cases q; rfl
theorem RS.push {w : Vw} {M : Z3} {a : Addr} {o : HO} {c : Cell} (R : RS w M) (h : w.H a = none) (new : Pf (w.push a o) c a) : RS (w.push a o) (M ++ [c]) := by
 have old : ∀ (i : Nat) (ci : Cell), (M ++ [c])[i]? = some ci → (i = w.n ∧ ci = c) ∨ (i < w.n ∧ M[i]? = some ci) := fun i ci e => by
  by_cases hi : i < M.length
  ·rw [List.getElem?_append_left hi] at e
   exact .inr ⟨by rw [R.len]; exact hi, e⟩
  ·rw [List.getElem?_append_right (by omega)] at e
   have hz : i - M.length = 0 := by
    have := (List.getElem?_eq_some_iff.mp e).1
    simp at this
    omega
   rw [hz] at e
   simp at e
   exact .inl ⟨by rw [R.len]; omega, e.symm⟩
 have no : ∀ (i : Nat) (ci : Cell), M[i]? = some ci → ci.mut = true → w.μ i ≠ a := fun i ci e hm z => by
  obtain ⟨u, hu⟩ := (R.cell i ci e).some hm
  rw [z, h] at hu; cases hu
 refine ⟨by show w.n + 1 = _; rw [R.len]; simp, fun i j ci cj ei ej mi mj e => ?_, fun i c' e => ?_, Oz R.tab fun b o e _ => (Zl (Zo e h)).trans e⟩
 ·change (if i = w.n then a else w.μ i) = (if j = w.n then a else w.μ j) at e
  rcases old i ci ei with ⟨h1, _⟩ | ⟨h1, h1'⟩
  ·rcases old j cj ej with ⟨h2, _⟩ | ⟨h2, h2'⟩
   ·omega
   ·rw [if_pos h1, if_neg (by omega)] at e
    exact absurd e.symm (no j cj h2' mj)
  ·rcases old j cj ej with ⟨h2, _⟩ | ⟨h2, h2'⟩
   ·rw [if_neg (by omega), if_pos h2] at e
    exact absurd e (no i ci h1' mi)
   ·rw [if_neg (by omega), if_neg (by omega)] at e
    exact R.inj i j ci cj h1' h2' mi mj e
 ·show Pf _ c' (if i = w.n then a else w.μ i)
  rcases old i c' e with ⟨h1, rfl⟩ | ⟨h1, h1'⟩
  ·rw [if_pos h1]; exact new
  ·rw [if_neg (by omega)]
   have q := R.cell i c' h1'
   exact q.stay (Ta h) fun hm => Zl (no i c' h1' hm)
theorem Vg {w : Vw} {a : Addr} {u o : HO} (h : w.H a = some u) (hu : Imm u = false) : Ext w (w.alloc a o) :=
 ⟨rfl, Nat.le_refl _, fun _ _ => rfl, fun b v q z => by
  show upd w.H a o b = some v
  rw [Zl (by rintro rfl; rw [h] at q; cases q; rw [hu] at z; cases z)]; exact q⟩
theorem RS.write {w : Vw} {M : Z3} {i : Nat} {u o : HO} {c0 c : Cell} (R : RS w M) (h0 : M[i]? = some c0) (hm : c0.mut = true) (hc : c.mut = true) (h : w.H (w.μ i) = some u) (hu : Imm u = false) (new : Pf (w.alloc (w.μ i) o) c (w.μ i)) : RS (w.alloc (w.μ i) o) (M.set i c) := by
 have hi : i < M.length := (List.getElem?_eq_some_iff.mp h0).1
 have old : ∀ (j : Nat) (cj : Cell), (M.set i c)[j]? = some cj → cj.mut = true → ∃ cj', M[j]? = some cj' ∧ cj'.mut = true := fun j cj e mj => by
  by_cases h1 : j = i
  ·subst h1; exact ⟨c0, h0, hm⟩
  ·rw [List.getElem?_set_ne (Ne.symm h1)] at e
   exact ⟨cj, e, mj⟩
 refine ⟨by show w.n = _; rw [R.len]; simp, fun a b ca cb ea eb ma mb e => ?_, fun j c' e => ?_, Oz R.tab fun b o e t => (Zl fun z => ?_).trans e⟩
 ·obtain ⟨ca', ea', ma'⟩ := old a ca ea ma
  obtain ⟨cb', eb', mb'⟩ := old b cb eb mb
  exact R.inj a b ca' cb' ea' eb' ma' mb' e
 ·by_cases h1 : j = i
  ·subst h1
   rw [List.getElem?_set_self hi] at e
   cases e
   exact new
  ·rw [List.getElem?_set_ne (Ne.symm h1)] at e
   have q := R.cell j c' e
   exact q.stay (Vg h hu) fun mj => Zl (fun z => h1 (R.inj j i c' c0 e h0 mj hm z))
 ·have z : b = w.μ i := z
  subst z
  rw [Pn (R.cell i c0 h0) hm e] at t
  cases t
inductive Op where
 | add | sub | mul | fdiv | mod | pow
 deriving DecidableEq
inductive Cm where
 | lt | le | gt | ge | eq | ne | is | isnot | isin | notin
 deriving DecidableEq
inductive Bf where
 | len | isinst | min2 | max2 | list1
 deriving DecidableEq
inductive Mt where
 | append | get2 | pop0 | clear | reverse | index1
 deriving DecidableEq
inductive Ty where
 | int | str | bool | list | tuple | dict | valueError
 deriving DecidableEq
def Xz : Ty → String
 | .int => "int" | .str => "str" | .bool => "bool" | .list => "list" | .tuple => "tuple" | .dict => "dict" | .valueError => "ValueError"
mutual
inductive E where
 | var (i : Nat) | int (i : Int) | bl (b : Bool) | non | str (x : Str) | ty (x : Ty) | glb (k : Nat)
 | bin (op : Op) (a b : E) | neg (a : E) | not (a : E) | cmp (op : Cm) (a b : E) | bop (isAnd : Bool) (es : Es) | ife (c a b : E)
 | lst (es : Es) | tup (es : Es) | dict0 | dct (a b : E) | ix (a b : E) | sl (a : E) (lo hi : Eo)
 | call (f : Nat) (es : Es) | bf (b : Bf) (es : Es) | mt (m : Mt) (o : E) (es : Es)
 | comp (N' : List Str) (js : List (Option Nat)) (tg : List Nat) (it : It) (cd : Eo) (e : E)
 | rev (a : E) | setf (b : Bool) (a : E) | callw (i f g : Nat) (es : Es)
inductive Es where
 | nil | cons (e : E) (r : Es)
inductive Eo where
 | no | yes (e : E)
inductive It where
 | seq (e : E) | rng1 (a : E) | rng2 (a b : E) | enm (e : E) | zip (es : Es)
end
mutual
inductive S where
 | ret (e : E) | expr (e : E)
 | set (tg : List Nat) (e : E)
 | put (o i v : E)
 | ite (c : E) (a b : Ss) | for_ (tg : List Nat) (it : It) (b : Ss) | while_ (c : E) (b : Ss)
inductive Ss where
 | nil | cons (s : S) (r : Ss)
end
def Z6 (M : Z3) (n : Nat) : Option (List D) := match M[n]? with
 | some (.lst xs) => some xs
 | some (.frz xs) => some xs
 | _ => none
def Zc (M : Z3) (n : Nat) : Option (List D) := match M[n]? with
 | some (.lst xs) => some xs
 | _ => none
def Xl (M : Z3) (n : Nat) : Option (List (Key × D)) := match M[n]? with
 | some (.dct xs) => some xs
 | _ => none
def Z40 (M : Z3) (n : Nat) : Option (List (Key × D)) := match M[n]? with
 | some (.dct xs) => some xs
 | some (.fdc xs) => some xs
 | _ => none
def valD (kvs : List (Key × D)) (k : Key) : Option D := (kvs.find? fun kv => decide (kv.1 = k)).map (·.2)
def putD (kvs : List (Key × D)) (k : Key) (v : D) : List (Key × D) :=
 if (kvs.any fun kv => decide (kv.1 = k)) = true then kvs.map (fun kv => if kv.1 = k then (kv.1, v) else kv) else kvs ++ [(k, v)]
def keyD : D → Option Key
 | .int i => some (.inl i)
 | .str x => some (.inr x)
 | _ => none
def kD : Key → D
 | .inl i => .int i
 | .inr x => .str x
def qdiv (i j : Int) : Int := if 0 < j then i / j else i.fdiv j
def qmod (i j : Int) : Int := if 0 < j then i % j else i.fmod j
theorem Zo9 (i j : Int) : i.fdiv j = qdiv i j := by
 unfold qdiv
 split
 ·exact Int.fdiv_eq_ediv_of_nonneg _ (by omega)
 ·rfl
theorem Zt1 (i j : Int) : i.fmod j = qmod i j := by
 unfold qmod
 split
 ·exact Int.fmod_eq_emod_of_nonneg _ (by omega)
 ·rfl
theorem Zd6 {i j : Int} (h : 0 < j) : qdiv i j = i / j := if_pos h
theorem Zh2 {i j : Int} (h : 0 < j) : qmod i j = i % j := if_pos h
def Cu (x : D) (F : Int → Prop) : Prop := match x with
 | .int i => F i
 | _ => False
def Jx (x : D) (F : Nat → Prop) : Prop := match x with
 | .ref n => F n
 | _ => False
def Zx3 (x : D) (F : List D → Prop) : Prop := match x with
 | .tup l => F l
 | _ => False
def Qe (x y : D) (F : Int → Int → Prop) : Prop := Cu x fun i => Cu y fun j => F i j
def at0 (l : List D) (P : Prop) : Prop := match l with
 | [] => P
 | _ :: _ => False
def at1 (l : List D) (F : D → Prop) : Prop := match l with
 | [] => False
 | a :: r => at0 r (F a)
def at2 (l : List D) (F : D → D → Prop) : Prop := match l with
 | [] => False
 | a :: r => at1 r (F a)
theorem Vk {x : D} {F : Int → Prop} (h : Cu x F) : ∃ i, x = .int i ∧ F i := by
 cases x with
 | int i => exact ⟨i, rfl, h⟩
 | _ => exact False.elim h
theorem W2 {x : D} {F : Nat → Prop} (h : Jx x F) : ∃ n, x = .ref n ∧ F n := by
 cases x with
 | ref n => exact ⟨n, rfl, h⟩
 | _ => exact False.elim h
theorem Z84 {x : D} {F : List D → Prop} (h : Zx3 x F) : ∃ l, x = .tup l ∧ F l := by
 cases x with
 | tup l => exact ⟨l, rfl, h⟩
 | _ => exact False.elim h
theorem X3 {x y : D} {F : Int → Int → Prop} (h : Qe x y F) : ∃ i j, x = .int i ∧ y = .int j ∧ F i j := by
 obtain ⟨i, rfl, h1⟩ := Vk h
 obtain ⟨j, rfl, h2⟩ := Vk h1
 exact ⟨i, j, rfl, rfl, h2⟩
theorem Nc {l : List D} {P : Prop} (h : at0 l P) : l = [] ∧ P := by
 cases l with
 | nil => exact ⟨rfl, h⟩
 | cons _ _ => exact False.elim h
theorem Q3 {l : List D} {F : D → Prop} (h : at1 l F) : ∃ a, l = [a] ∧ F a := by
 cases l with
 | nil => exact False.elim h
 | cons a r => obtain ⟨rfl, h1⟩ := Nc h; exact ⟨a, rfl, h1⟩
theorem Qt {l : List D} {F : D → D → Prop} (h : at2 l F) : ∃ a b, l = [a, b] ∧ F a b := by
 cases l with
 | nil => exact False.elim h
 | cons a r => obtain ⟨b, rfl, h1⟩ := Q3 h; exact ⟨a, b, rfl, h1⟩
def addD (x y : D) (M : Z3) (Q : DK) : Prop := match x with
 | .int i => Cu y fun j => Q (.int (i + j)) M
 | .str a => match y with
  | .str b => a.length + b.length ≤ sizeLine ∧ Q (.str (a ++ b)) M
  | _ => False
 | .tup a => Zx3 y fun b => a ≠ [] ∧ a.length + b.length ≤ sizeLine ∧ Q (.tup (a ++ b)) M
 | .ref a => Jx y fun b => ∃ xs ys, Zc M a = some xs ∧ Zc M b = some ys ∧ xs.length + ys.length ≤ sizeLine ∧ Q (.ref M.length) (M ++ [.lst (xs ++ ys)])
 | _ => False
def mulD (x y : D) (M : Z3) (Q : DK) : Prop := match x with
 | .int i => Cu y fun j => IntMulOk i j ∧ Q (.int (i * j)) M
 | .ref a => Cu y fun k => ∃ xs, Zc M a = some xs ∧ 0 ≤ k ∧ k < 2 ^ 62 ∧ xs.length * k.toNat ≤ sizeLine ∧ Q (.ref M.length) (M ++ [.lst (List.replicate k.toNat xs).flatten])
 | _ => False
def opD (op : Op) (x y : D) (M : Z3) (Q : DK) : Prop := match op with
 | .add => addD x y M Q
 | .mul => mulD x y M Q
 | .sub => Qe x y fun i j => Q (.int (i - j)) M
 | .fdiv => Qe x y fun i j => Z12 i j ∧ Q (.int (qdiv i j)) M
 | .mod => Qe x y fun i j => j ≠ 0 ∧ Q (.int (qmod i j)) M
 | .pow => Qe x y fun i j => CPow i j ∧ Q (.int (i ^ j.toNat)) M
mutual
def PD (M : Z3) : PyData → D → Prop
 | .none, d => d = .non
 | .bool b, d => d = .bl b
 | .int i, d => d = .int i
 | .str x, d => d = .str x
 | .list xs, d => ∃ n ds, d = .ref n ∧ Z6 M n = some ds ∧ PDs M xs ds
 | .tuple xs, d => ∃ ds, d = .tup ds ∧ PDs M xs ds
 | .dict _, _ => False
def PDs (M : Z3) : List PyData → List D → Prop
 | [], ds => ds = []
 | x :: xs, ds => ∃ d r, ds = d :: r ∧ PD M x d ∧ PDs M xs r
end
def Xr : D → Bool
 | .non | .bl _ | .int _ | .str _ => true
 | _ => false
def eqF : D → D → Bool
 | .non, .non => true
 | .bl a, .bl b => a == b
 | .bl a, .int b => (if a then 1 else 0) == b
 | .int a, .bl b => a == (if b then 1 else 0)
 | .int a, .int b => a == b
 | .str a, .str b => a == b
 | _, _ => false
def inD (x : D) (xs : List D) : Bool := xs.any fun y => eqF y x
def eqD (M : Z3) : D → D → (Bool → Prop) → Prop
 | .int i, .int j, Q => Q (decide (i = j))
 | .str i, .str j, Q => Q (decide (i = j))
 | .bl i, .bl j, Q => Q (decide (i = j))
 | .non, .non, Q => Q true
 | .non, .int _, Q => Q false
 | .int _, .non, Q => Q false
 | .non, .bl _, Q => Q false
 | .bl _, .non, Q => Q false
 | .non, .str _, Q => Q false
 | .str _, .non, Q => Q false
 | .int _, .str _, Q => Q false
 | .str _, .int _, Q => Q false
 | .bl _, .str _, Q => Q false
 | .str _, .bl _, Q => Q false
 | x, y, Q => (∃ da db, PD M da x ∧ PD M db y ∧ da.canLay0 = true ∧ db.canLay0 = true ∧ min da.depth db.depth ≤ 60 ∧ Q (PyData.eqv da db)) ∨ False
def Z15 (M : Z3) : D → Option (List D)
 | .ref n => Z6 M n
 | .tup xs => some xs
 | .gtup xs => some xs
 | _ => none
def inQ (M : Z3) : D → D → (Bool → Prop) → Prop
 | .str a, .str b, Q => Q (!(Builtin.Str.occurrences b a 0 b.length 1).isEmpty)
 | x, .ref n, Q => (∃ xs, Z6 M n = some xs ∧ Xr x = true ∧ xs.all Xr = true ∧ Q (inD x xs)) ∨ (∃ kvs k, Xl M n = some kvs ∧ keyD x = some k ∧ Q (valD kvs k).isSome)
 | x, .tup xs, Q => Xr x = true ∧ xs.all Xr = true ∧ Q (inD x xs)
 | x, .gtup xs, Q => Xr x = true ∧ xs.all Xr = true ∧ Q (inD x xs)
 | _, _, _ => False
def nonD (x y : D) (Q : Bool → Prop) : Prop := match y with
 | .non => match x with
  | .non => Q true
  | .bl _ => Q false
  | .int _ => Q false
  | .str _ => Q false
  | .tup _ => Q false
  | .ref _ => Q false
  | .exn _ _ _ _ => Q false
  | _ => False
 | _ => False
def cmD (M : Z3) (op : Cm) (x y : D) (Q : Bool → Prop) : Prop := match op with
 | .lt => Qe x y fun i j => Q (decide (i < j))
 | .le => Qe x y fun i j => Q (decide (i ≤ j))
 | .gt => Qe x y fun i j => Q (decide (j < i))
 | .ge => Qe x y fun i j => Q (decide (j ≤ i))
 | .eq => eqD M x y Q
 | .ne => eqD M x y fun b => Q (!b)
 | .is => nonD x y Q
 | .isnot => nonD x y fun b => Q (!b)
 | .isin => inQ M x y Q
 | .notin => inQ M x y fun b => Q (!b)
def truD (M : Z3) : D → (Bool → Prop) → Prop
 | .non, Q => Q false
 | .bl b, Q => Q b
 | .int i, Q => Q (i != 0)
 | .str x, Q => x.length ≤ sizeLine ∧ Q ((x.length : Int) != 0)
 | .tup xs, Q => Q (!xs.isEmpty)
 | .ref n, Q => (∃ xs, Z6 M n = some xs ∧ Q (!xs.isEmpty)) ∨ (∃ xs, Xl M n = some xs ∧ Q (!xs.isEmpty))
 | _, _ => False
def ixD (M : Z3) : D → D → (D → Prop) → Prop
 | .ref n, k, Q => (∃ xs i d, k = .int i ∧ Z6 M n = some xs ∧ atI xs i = some d ∧ Q d) ∨ (∃ kvs y d, Z40 M n = some kvs ∧ keyD k = some y ∧ valD kvs y = some d ∧ Q d)
 | .tup xs, .int i, Q => ∃ d, atI xs i = some d ∧ Q d
 | .gtup xs, .int i, Q => ∃ d, atI xs i = some d ∧ Q d
 | .str z, .int i, Q => z.length ≤ sizeLine ∧ ∃ c, atI z.cps.toList i = some c ∧ Q (.str ⟨#[c]⟩)
 | _, _, _ => False
def cutD {α : Type} (xs : List α) (lo hi : Option Int) : List α := (xs.drop (HT.sIx xs.length 0 lo)).take (HT.sIx xs.length xs.length hi - HT.sIx xs.length 0 lo)
def slD : D → Option Int → Option Int → Z3 → DK → Prop
 | .str z, lo, hi, M, Q => z.length ≤ sizeLine ∧ Q (.str (Txt.slice z lo hi)) M
 | .ref n, lo, hi, M, Q => ∃ xs, Z6 M n = some xs ∧ Q (.ref M.length) (M ++ [.lst (cutD xs lo hi)])
 | .tup xs, lo, hi, M, Q => ¬ (HT.sIx xs.length 0 lo = 0 ∧ HT.sIx xs.length xs.length hi = xs.length) ∧ Q (.tup (cutD xs lo hi)) M
 | _, _, _, _, _ => False
def tyD (M : Z3) : D → Option String
 | .non => some "NoneType"
 | .bl _ => some "bool"
 | .int _ => some "int"
 | .str _ => some "str"
 | .tup _ => some "tuple"
 | .ref n => match M[n]? with
  | some (.lst _) => some "list"
  | some (.frz _) => none
  | some (.dct _) => some "dict"
  | some (.fdc _) => none
  | none => none
 | _ => none
def isD (K : PySem.W.Frag) (M : Z3) : D → D → (Bool → Prop) → Prop
 | .exn _ C _ _, .cls c, Q => ∃ b, ExcIs K C ∧ PySem.W.kitOne K (.ref C) (.ref c) = some b ∧ Q b
 | .exn _ C _ _, .ty c, Q => ∃ b, ExcIs K C ∧ PySem.W.kitOne K (.ref C) (.type c) = some b ∧ Q b
 | .exn _ C _ _, .tup cs, Q => ∃ (as : List Addr) (b : Bool), cs = as.map D.cls ∧ ExcIs K C ∧ PySem.W.kitAny K (.ref C) (as.map Value.ref) = some b ∧ Q b
 | d, .ty c, Q => ∃ t b, tyD M d = some t ∧ PySem.W.kitOne K (.type t) (.type c) = some b ∧ Q b
 | _, _, _ => False
def lenD (x : D) (M : Z3) (Q : DK) : Prop := match x with
 | .ref n => (∃ xs, Z6 M n = some xs ∧ Q (.int xs.length) M) ∨ (∃ xs, Xl M n = some xs ∧ Q (.int xs.length) M)
 | .tup xs => Q (.int xs.length) M
 | .str x => x.length ≤ sizeLine ∧ Q (.int x.length) M
 | _ => False
def bfD (K : PySem.W.Frag) (b : Bf) (l : List D) (M : Z3) (Q : DK) : Prop := match b with
 | .len => at1 l fun x => lenD x M Q
 | .isinst => at2 l fun d c => isD K M d c fun b => Q (.bl b) M
 | .min2 => at2 l fun x y => Qe x y fun i j => Q (.int (if j < i then j else i)) M
 | .max2 => at2 l fun x y => Qe x y fun i j => Q (.int (if j > i then j else i)) M
 | .list1 => at1 l fun d => ∃ xs, Z15 M d = some xs ∧ Q (.ref M.length) (M ++ [.lst xs])
def setD (b : Bool) (n : Nat) (M : Z3) (Q : DK) : Prop := match b with
 | true => False
 | false => ∃ ks : List Key, Z6 M n = some (ks.map kD) ∧ ks.length + 1 < scanBound ∧ ∀ ks' : List Key, ks'.Nodup → (∀ k, k ∈ ks' ↔ k ∈ ks) → Q (.int ks'.length) M
def mtD (m : Mt) (o : D) (l : List D) (M : Z3) (Q : DK) : Prop := Jx o fun n => match m with
 | .append => at1 l fun d => ∃ xs, Zc M n = some xs ∧ xs.length < sizeLine ∧ Q .non (M.set n (.lst (xs ++ [d])))
 | .get2 => at2 l fun k z => ∃ kvs y, Xl M n = some kvs ∧ keyD k = some y ∧ Q ((valD kvs y).getD z) M
 | .pop0 => at0 l (∃ xs d, Zc M n = some xs ∧ xs[xs.length - 1]? = some d ∧ Q d (M.set n (.lst xs.dropLast)))
 | .clear => at0 l (∃ xs, Zc M n = some xs ∧ Q .non (M.set n (.lst [])))
 | .reverse => at0 l (∃ xs, Zc M n = some xs ∧ Q .non (M.set n (.lst xs.reverse)))
 | .index1 => at1 l fun d => ∃ xs k z, Z6 M n = some xs ∧ Xr d = true ∧ xs.all Xr = true ∧ xs[k]? = some z ∧ eqF z d = true ∧ (∀ (j : Nat) u, j < k → xs[j]? = some u → eqF u d = false) ∧ Q (.int k) M
def mtK (m : Mt) (o : D) (M : Z3) : Prop := Jx o fun n => match m with
 | .get2 => (Xl M n).isSome = true
 | _ => (Z6 M n).isSome = true
def tgD : List Nat → D → DEnv → (DEnv → Prop) → Prop
 | [i], d, σ, Q => Q (σ.set i (some d))
 | is, .tup ds, σ, Q => ds.length = is.length ∧ Q ((is.zip ds).foldl (fun σ p => σ.set p.1 (some p.2)) σ)
 | _, _, _, _ => False
inductive Own where
 | no | lst (n : Nat) | enm (n : Nat) | dct (n : Nat) | two (n m : Nat)
def Y41 (kvs : List (Key × D)) : List D := kvs.map fun p => kD p.1
def Ni (xs : List D) : List D := xs.mapIdx fun i d => .tup [.int i, d]
def zipT (ys zs : List D) : List D := (ys.zip zs).map fun p => D.tup [p.1, p.2]
def itD (M : Z3) : D → (Own → List D → Prop) → Prop
 | .ref n, R => ∃ xs, Z6 M n = some xs ∧ R (.lst n) xs
 | .tup xs, R => R .no xs
 | .gtup xs, R => R .no xs
 | _, _ => False
def Pe (lo : Int) (n : Nat) : List D := (List.range n).map fun (k : Nat) => D.int (lo + (k : Int))
def Oo (own : Own) (xs : List D) (M : Z3) : Prop := match own with
 | .lst n => Z6 M n = some xs
 | .enm n => ∃ ys, Z6 M n = some ys ∧ xs = Ni ys
 | .dct n => ∃ kvs, M[n]? = some (.fdc kvs) ∧ xs = Y41 kvs
 | .two n m => ∃ ys zs, Z6 M n = some ys ∧ Z6 M m = some zs ∧ xs = zipT ys zs
 | .no => True
def forD (own : Own) (xs : List D) (tg : List Nat) (body : DS) : List D → DEnds → DEnv → Z3 → Prop
 | [], R, σ, M => Oo own xs M ∧ R.nx σ M
 | d :: r, R, σ, M => Oo own xs M ∧ tgD tg d σ fun σ' => body { nx := fun σ2 M2 => forD own xs tg body r R σ2 M2, rt := R.rt, bk := R.nx, ct := fun σ2 M2 => forD own xs tg body r R σ2 M2 } σ' M
def Jo (own : Own) (xs : List D) (tg : List Nat) (cd : DT) (el : DE) (z : Nat) : List D → DEnv → Z3 → (Z3 → Prop) → Prop
 | [], _, M, Q => Oo own xs M ∧ Q M
 | d :: r, σ, M, Q => Oo own xs M ∧ tgD tg d σ fun σ' => cd σ' M fun b M1 => if b = true then
   el σ' M1 fun y M2 => ∃ acc, Zc M2 z = some acc ∧ acc.length < sizeLine ∧ Jo own xs tg cd el z r σ' (M2.set z (.lst (acc ++ [y]))) Q
   else Jo own xs tg cd el z r σ' M1 Q
def capD (js : List (Option Nat)) (σ : DEnv) : DEnv := js.map fun o => o.bind fun j => (σ[j]?).join
abbrev noX : DX := fun _ _ _ => False
structure Cfg where
 K : PySem.W.Frag
 Γ : List DSp
 G : List D
mutual
def te (c : Cfg) (X : DX) : E → DE
 | .var i, σ, M, Q => match σ[i]? with
  | some (some d) => Q d M
  | _ => False
 | .int i, _, M, Q => Q (.int i) M
 | .bl b, _, M, Q => Q (.bl b) M
 | .non, _, M, Q => Q .non M
 | .str x, _, M, Q => Q (.str x) M
 | .ty n, _, M, Q => Q (.ty (Xz n)) M
 | .glb k, _, M, Q => match c.G[k]? with
  | some d => Q d M
  | none => False
 | .bin op a b, σ, M, Q => te c X a σ M fun x M1 => te c X b σ M1 fun y M2 => opD op x y M2 Q
 | .neg a, σ, M, Q => te c X a σ M fun x M1 => match x with
  | .int i => Q (.int (-i)) M1
  | _ => False
 | .not a, σ, M, Q => te c X a σ M fun x M1 => truD M1 x fun b => Q (.bl (!b)) M1
 | .cmp op a b, σ, M, Q => te c X a σ M fun x M1 => te c X b σ M1 fun y M2 => cmD M2 op x y fun r => Q (.bl r) M2
 | .bop k es, σ, M, Q => tbop c X k es σ M Q
 | .ife t a b, σ, M, Q => te c X t σ M fun x M1 => truD M1 x fun r => if r = true then te c X a σ M1 Q else te c X b σ M1 Q
 | .lst es, σ, M, Q => tes c X es σ M fun ds M1 => ds.length ≤ sizeLine ∧ Q (.ref M1.length) (M1 ++ [.lst ds])
 | .tup es, σ, M, Q => tes c X es σ M fun ds M1 => ds.length ≤ sizeLine ∧ Q (.tup ds) M1
 | .dict0, _, M, Q => Q (.ref M.length) (M ++ [.dct []])
 | .dct a b, σ, M, Q => te c X a σ (M ++ [.dct []]) fun x M1 => te c X b σ M1 fun y M2 => ∃ k, keyD x = some k ∧ Xl M2 M.length = some [] ∧ Q (.ref M.length) (M2.set M.length (.dct [(k, y)]))
 | .ix a b, σ, M, Q => te c X a σ M fun x M1 => te c X b σ M1 fun y M2 => ixD M2 x y fun d => Q d M2
 | .sl a lo hi, σ, M, Q => te c X a σ M fun x M1 => teo c X lo σ M1 fun l M2 => teo c X hi σ M2 fun h M3 => slD x l h M3 Q
 | .call f es, σ, M, Q => tes c X es σ M fun ds M1 => match c.Γ[f]? with
  | some sp => sp ds M1 Q X
  | none => False
 | .bf b es, σ, M, Q => tes c X es σ M fun ds M1 => bfD c.K b ds M1 Q
 | .callw i f g es, σ, M, Q => match σ[i]? with
  | some (some (.lam _ _ _ k)) => tes c X es σ M fun ds M1 => ∃ x g, ds = [x, .int g] ∧ Q (.bl (!decide (g = k))) M1
  | some (some (.cls a)) => c.G[g]? = some (.cls a) ∧ tes c X es σ M fun ds M1 => match c.Γ[f]? with
   | some sp => sp ds M1 Q X
   | none => False
  | _ => False
 | .setf b a, σ, M, Q => te c X a σ M fun x M1 => Jx x fun n => setD b n M1 Q
 | .rev a, σ, M, Q => te c X a σ M fun x M1 => match x with
  | .ref n => ∃ xs, Z6 M1 n = some xs ∧ Q (.ref M1.length) (M1 ++ [.lst xs.reverse])
  | _ => False
 | .mt m o es, σ, M, Q => te c X o σ M fun x M1 => mtK m x M1 ∧ tes c X es σ M1 fun ds M2 => mtD m x ds M2 Q
 | .comp _ js tg it cd e, σ, M, Q => tit c X it σ M fun own xs M1 => Jo own xs tg (tcd c noX cd) (te c noX e) M1.length xs (capD js σ) (M1 ++ [.lst []]) fun M2 => Q (.ref M1.length) M2
def tbop (c : Cfg) (X : DX) (k : Bool) : Es → DE
 | .nil, _, _, _ => False
 | .cons e .nil, σ, M, Q => te c X e σ M Q
 | .cons e (.cons e2 r), σ, M, Q => te c X e σ M fun x M1 => truD M1 x fun b => if b = k then tbop c X k (.cons e2 r) σ M1 Q else Q x M1
def tes (c : Cfg) (X : DX) : Es → DA
 | .nil, _, M, Q => Q [] M
 | .cons e r, σ, M, Q => te c X e σ M fun d M1 => tes c X r σ M1 fun ds M2 => Q (d :: ds) M2
def teo (c : Cfg) (X : DX) : Eo → DEnv → Z3 → (Option Int → Z3 → Prop) → Prop
 | .no, _, M, Q => Q none M
 | .yes e, σ, M, Q => te c X e σ M fun d M1 => match d with
  | .int i => Q (some i) M1
  | _ => False
def tcd (c : Cfg) (X : DX) : Eo → DT
 | .no, _, M, Q => Q true M
 | .yes e, σ, M, Q => te c X e σ M fun x M1 => truD M1 x fun b => Q b M1
def tit (c : Cfg) (X : DX) : It → DEnv → Z3 → (Own → List D → Z3 → Prop) → Prop
 | .seq e, σ, M, Q => te c X e σ M fun d M1 => itD M1 d fun own xs => Q own xs M1
 | .rng1 a, σ, M, Q => te c X a σ M fun d M1 => match d with
  | .int j => -(2 ^ 62) ≤ j ∧ j < 2 ^ 62 ∧ Q .no (Pe 0 j.toNat) M1
  | _ => False
 | .rng2 a b, σ, M, Q => te c X a σ M fun d M1 => te c X b σ M1 fun d2 M2 => match d, d2 with
  | .int i, .int j => (-(2 ^ 62) ≤ i ∧ i < 2 ^ 62 ∧ -(2 ^ 62) ≤ j ∧ j < 2 ^ 62) ∧ Q .no (Pe i (j - i).toNat) M2
  | _, _ => False
 | .enm e, σ, M, Q => te c X e σ M fun d M1 => match d with
  | .ref n => ∃ xs, Z6 M1 n = some xs ∧ Q (.enm n) (Ni xs) M1
  | _ => False
 | .zip es, σ, M, Q => tes c X es σ M fun ds M1 => at2 ds fun a b => Jx a fun n => Jx b fun m => ∃ ys zs, Z6 M1 n = some ys ∧ Z6 M1 m = some zs ∧ Q (.two n m) (zipT ys zs) M1
end
def tt (c : Cfg) (X : DX) (e : E) : DT := fun σ M Q => te c X e σ M fun x M1 => truD M1 x fun b => Q b M1
mutual
def ts (c : Cfg) (X : DX) : S → DS
 | .ret e, R, σ, M => te c X e σ M R.rt
 | .expr e, R, σ, M => te c X e σ M fun _ M1 => R.nx σ M1
 | .set tg e, R, σ, M => te c X e σ M fun d M1 => tgD tg d σ fun σ' => R.nx σ' M1
 | .put o i v, R, σ, M => te c X v σ M fun d M1 => te c X o σ M1 fun x M2 => te c X i σ M2 fun y M3 => match x with
  | .ref n => (∃ xs k j, y = .int k ∧ Zc M3 n = some xs ∧ ixN xs.length k = some j ∧ R.nx σ (M3.set n (.lst (xs.set j d)))) ∨
    (∃ kvs k, Xl M3 n = some kvs ∧ keyD y = some k ∧ kvs.length < sizeLine ∧ R.nx σ (M3.set n (.dct (putD kvs k d))))
  | _ => False
 | .ite t a b, R, σ, M => tt c X t σ M fun r M1 => if r = true then tss c X a R σ M1 else tss c X b R σ M1
 | .for_ tg it b, R, σ, M => tit c X it σ M fun own xs M1 => forD own xs tg (tss c X b) xs R σ M1
 | .while_ t b, R, σ, M => ∃ W : Nat → DEnv → Z3 → Prop, (∃ m, W m σ M) ∧ ∀ m σ M, W m σ M → tt c X t σ M fun r M1 => if r = true then
   tss c X b { nx := fun σ2 M2 => ∃ m', m' < m ∧ W m' σ2 M2, rt := R.rt, bk := R.nx, ct := fun σ2 M2 => ∃ m', m' < m ∧ W m' σ2 M2 } σ M1 else R.nx σ M1
def tss (c : Cfg) (X : DX) : Ss → DS
 | .nil, R, σ, M => R.nx σ M
 | .cons s r, R, σ, M => ts c X s { R with nx := fun σ' M' => tss c X r R σ' M' } σ M
end
def REnv (w : Vw) (σD : DEnv) (σ : L2.St) : Prop := σD.length = σ.length ∧ ∀ (i : Nat) d, σD[i]? = some (some d) → ∃ v, σ[i]? = some (some v) ∧ RD w d v
theorem REnv.ext {w w' : Vw} {σD : DEnv} {σ : L2.St} (h : REnv w σD σ) (x : Ext w w') : REnv w' σD σ :=
 ⟨h.1, fun i d e => let ⟨v, q, r⟩ := h.2 i d e; ⟨v, q, r.ext x⟩⟩
theorem REnv.set {w : Vw} {σD : DEnv} {σ : L2.St} {d : D} {v : V} (h : REnv w σD σ) (i : Nat) (r : RD w d v) : REnv w (σD.set i (some d)) (σ.set i (some v)) := by
 refine ⟨by simp [h.1], fun j d' e => ?_⟩
 by_cases hj : i = j
 ·subst hj
  by_cases hl : i < σD.length
  ·rw [List.getElem?_set_self hl] at e
   cases e
   exact ⟨v, by rw [List.getElem?_set_self (by rw [← h.1]; exact hl)], r⟩
  ·rw [List.getElem?_eq_none (by simp; omega)] at e
   cases e
 ·rw [List.getElem?_set_ne hj] at e
  rw [List.getElem?_set_ne hj]
  exact h.2 j d' e
structure StOk (w0 w : Vw) (σD : DEnv) (M : Z3) (σ : L2.St) (H : Hp) : Prop where
 heap : w.H = H
 ext : Ext w0 w
 rs : RS w M
 env : REnv w σD σ
theorem StOk.next {w0 w w' : Vw} {σD : DEnv} {M M' : Z3} {σ : L2.St} {H : Hp} (s : StOk w0 w σD M σ H) (x : Ext w w') (r : RS w' M') : StOk w0 w' σD M' σ w'.H :=
 ⟨rfl, s.ext.trans x, r, s.env.ext x⟩
def Aft (w : Vw) (QD : DK) (Q : VK) : Prop := ∀ v w' d M', Ext w w' → RS w' M' → RD w' d v → QD d M' → Q v w'.H
def tF (w0 : Vw) (f : DE) : TE := fun σ H Q => ∃ w σD M QD, StOk w0 w σD M σ H ∧ f σD M QD ∧ Aft w QD Q
def tFA (w0 : Vw) (f : DA) : TA := fun σ H Q => ∃ w σD M QD, StOk w0 w σD M σ H ∧ f σD M QD ∧ ∀ vs w' ds M', Ext w w' → RS w' M' → RDs w' ds vs → QD ds M' → Q vs w'.H
def tFT (w0 : Vw) (f : DT) : TT := fun σ H Q => ∃ w σD M QD, StOk w0 w σD M σ H ∧ f σD M QD ∧ ∀ b w' M', Ext w w' → RS w' M' → QD b M' → Q b w'.H
def tFO (w0 : Vw) (f : DEnv → Z3 → (Option Int → Z3 → Prop) → Prop) : TO := fun σ H Q => ∃ w σD M QD, StOk w0 w σD M σ H ∧ f σD M QD ∧ ∀ b w' M', Ext w w' → RS w' M' → QD b M' → Q b w'.H
def tFS (w0 : Vw) (f : DS) : TS := fun R σ H => ∃ w σD M RD', StOk w0 w σD M σ H ∧ f RD' σD M ∧
 (∀ σ' w' σD' M', Ext w w' → RS w' M' → REnv w' σD' σ' → RD'.nx σD' M' → R.nx σ' w'.H) ∧ Aft w RD'.rt R.rt ∧
 (∀ σ' w' σD' M', Ext w w' → RS w' M' → REnv w' σD' σ' → RD'.bk σD' M' → R.bk σ' w'.H) ∧
 (∀ σ' w' σD' M', Ext w w' → RS w' M' → REnv w' σD' σ' → RD'.ct σD' M' → R.ct σ' w'.H)
def xkOf (w : Vw) (Z : DX) : XK := fun cls dd H' => ∃ C dx r w' row M', cls = .ref C ∧ dd = some dx ∧ w'.H = H' ∧ Ext w w' ∧ RS w' M' ∧ H' dx = some (.xd [("row", r)]) ∧ RD w' row r ∧ Z C row M'
def spF (K : PySem.W.Frag) (sp : DSp) : Sp := fun vs H Q E => ∃ w ds M QD Z, w.K = K ∧ w.H = H ∧ RS w M ∧ RDs w ds vs ∧ sp ds M QD Z ∧ Aft w QD Q ∧ ∀ cls dd H', xkOf w Z cls dd H' → E cls dd H'
theorem Aft.ext {w w' : Vw} {QD : DK} {Q : VK} (h : Aft w QD Q) (x : Ext w w') : Aft w' QD Q := fun v w2 d M y r q p => h v w2 d M (x.trans y) r q p
section
variable {X : Cx} {e : Expr} {w0 : Vw}
theorem PE.imp {t t' : TE} (h : PE X e t) (k : ∀ σ H Q, t' σ H Q → t σ H Q) : PE X e t' := fun pins s σ H Q I q => h pins s σ H Q I (k σ H Q q)
theorem PT.imp {t t' : TT} (h : PT X e t) (k : ∀ σ H Q, t' σ H Q → t σ H Q) : PT X e t' := fun pins s σ H Q I q => h pins s σ H Q I (k σ H Q q)
theorem PA.imp {es : List Expr} {t t' : TA} (h : PA X es t) (k : ∀ σ H Q, t' σ H Q → t σ H Q) : PA X es t' := fun pos pins s σ H Q I q => h pos pins s σ H Q I (k σ H Q q)
theorem PS.imp {st : Stmt} {t t' : TS} (h : PS X st t) (k : ∀ R σ H, t' R σ H → t R σ H) : PS X st t' := fun pins s σ H R I q => h pins s σ H R I (k R σ H q)
theorem PSs.imp {st : List Stmt} {t t' : TS} (h : PSs X st t) (k : ∀ R σ H, t' R σ H → t R σ H) : PSs X st t' := fun pins s σ H R I q => h pins s σ H R I (k R σ H q)
end
def rF (w0 : Vw) (g : D → D → Z3 → DK → Prop) : R2 := fun x y H Q => ∃ w M dx dy QD, w.H = H ∧ Ext w0 w ∧ RS w M ∧ RD w dx x ∧ RD w dy y ∧ g dx dy M QD ∧ Aft w QD Q
theorem Zb {w : Vw} {i : Int} {v : V} : RD w (.int i) v ↔ v = .int i := by unfold RD; exact Iff.rfl
theorem Yf {w : Vw} {i : Str} {v : V} : RD w (.str i) v ↔ v = .str i := by unfold RD; exact Iff.rfl
theorem Xt {w : Vw} {i : Bool} {v : V} : RD w (.bl i) v ↔ v = .bl i := by unfold RD; exact Iff.rfl
theorem Zy {w : Vw} {v : V} : RD w .non v ↔ v = .non := by unfold RD; exact Iff.rfl
theorem Zk9 {w : Vw} {n : String} {v : V} : RD w (.ty n) v ↔ v = .ty n := by unfold RD; exact Iff.rfl
theorem Jh {w : Vw} {n : Addr} {v : V} : RD w (.cls n) v ↔ v = .ref n := by unfold RD; exact Iff.rfl
theorem Y6 {w : Vw} {i : Nat} {v : V} : RD w (.ref i) v ↔ i < w.n ∧ v = .ref (w.μ i) := by unfold RD; exact Iff.rfl
theorem Xn {w : Vw} {ds : List D} {v : V} : RD w (.tup ds) v ↔ ∃ a vs, v = .ref a ∧ w.H a = some (.tup vs) ∧ RDs w ds vs := by unfold RD; exact Iff.rfl
theorem Oe {w : Vw} {ds : List D} {v : V} : RD w (.gtup ds) v ↔ ∃ a vs, v = .ref a ∧ SqT w.K w.H a vs ∧ RDs w ds vs := by unfold RD; exact Iff.rfl
theorem Zi6 {w : Vw} {f cc c : Addr} {k : Int} {v : V} : RD w (.lam f cc c k) v ↔ v = .ref f ∧ w.H f = some (.ext (Xx f cc c)) ∧ w.H c = some (.ext (Yu c)) ∧ w.H cc = some (.ext (W3 cc k)) := by unfold RD; exact Iff.rfl
theorem Je {w : Vw} {e C dx : Addr} {row : D} {v : V} : RD w (.exn e C dx row) v ↔ v = .ref e ∧ w.H e = some (XO e (.ref C) (some dx)) ∧ ∃ r, w.H dx = some (.xd [("row", r)]) ∧ RD w row r := Iff.of_eq (by rw [RD])
theorem RDs.empty {w : Vw} {ds : List D} (h : RDs w ds []) : ds = [] := by
 have := h.length
 exact List.length_eq_zero_iff.mp this.symm
theorem Zn8 {M : Z3} {n : Nat} {xs : List D} (h : Zc M n = some xs) : Z6 M n = some xs := by
 unfold Zc at h
 unfold Z6
 split at h
 ·rename_i e; rw [e]; exact h
 ·cases h
theorem Nf {M : Z3} {n : Nat} {xs : List D} (h : Zc M n = some xs) : M[n]? = some (.lst xs) := by
 unfold Zc at h
 split at h
 ·rename_i e; rw [e]; cases h; rfl
 ·cases h
theorem Og {M : Z3} {n : Nat} {xs : List (Key × D)} (h : Xl M n = some xs) : M[n]? = some (.dct xs) := by
 unfold Xl at h
 split at h
 ·rename_i e; rw [e]; cases h; rfl
 ·cases h
theorem RS.list {w : Vw} {M : Z3} {n : Nat} {xs : List D} (R : RS w M) (h : Zc M n = some xs) : M[n]? = some (.lst xs) ∧ ∃ vs, w.H (w.μ n) = some (.lst vs) ∧ RDs w xs vs :=
 ⟨Nf h, R.cell n _ (Nf h)⟩
theorem RS.listL {w : Vw} {M : Z3} {n : Nat} {xs : List D} (R : RS w M) (h : Z6 M n = some xs) : n < w.n ∧ ∃ vs, SqL w.K w.H (w.μ n) vs ∧ RDs w xs vs ∧ True := by
 unfold Z6 at h
 split at h
 ·rename_i ys e
  cases h
  obtain ⟨vs, q, r⟩ := R.cell n _ e
  exact ⟨by rw [R.len]; exact (List.getElem?_eq_some_iff.mp e).1, vs, .inl (.inl q), r, trivial⟩
 ·rename_i ys e
  cases h
  obtain ⟨vs, q, r⟩ := R.cell n _ e
  exact ⟨by rw [R.len]; exact (List.getElem?_eq_some_iff.mp e).1, vs, q.sq, r, trivial⟩
 ·cases h
theorem Zs4 {M : Z3} {n : Nat} {xs : List (Key × D)} (h : Xl M n = some xs) : Z40 M n = some xs := by
 unfold Z40; rw [Og h]
theorem RS.dictF {w : Vw} {M : Z3} {n : Nat} {xs : List (Key × D)} (R : RS w M) (h : Z40 M n = some xs) : ∃ vs, Rd w.H (w.μ n) (.dK vs) ∧ RKV w xs vs := by
 unfold Z40 at h
 split at h
 ·rename_i ys e
  cases h
  obtain ⟨vs, q1, q2⟩ := R.cell n _ e
  exact ⟨vs, .inl q1, q2⟩
 ·rename_i ys e
  cases h
  obtain ⟨o, vs, q1, q2⟩ := R.cell n _ e
  exact ⟨vs, .inr ⟨o, q1⟩, q2⟩
 ·cases h
theorem RS.dict {w : Vw} {M : Z3} {n : Nat} {xs : List (Key × D)} (R : RS w M) (h : Xl M n = some xs) : M[n]? = some (.dct xs) ∧ ∃ vs, w.H (w.μ n) = some (.dK vs) ∧ RKV w xs vs :=
 ⟨Og h, R.cell n _ (Og h)⟩
theorem Wu {w : Vw} {M : Z3} {p : Addr} {xs : List D} {vs : List V} (R : RS w M) (hp : w.H p = none) (r : RDs w xs vs) : Ext w (w.push p (.lst vs)) ∧ RS (w.push p (.lst vs)) (M ++ [.lst xs]) ∧ RD (w.push p (.lst vs)) (.ref M.length) (.ref p) := by
 refine ⟨Ta hp, R.push hp ⟨vs, Yt, r.ext (Ta hp)⟩, Y6.mpr ⟨?_, ?_⟩⟩
 ·show M.length < w.n + 1
  rw [R.len]; omega
 ·show V.ref p = V.ref (if M.length = w.n then p else w.μ M.length)
  rw [if_pos R.len.symm]
theorem Fy {w : Vw} {M : Z3} {p : Addr} {xs : List (Key × D)} {vs : List (Key × V)} (R : RS w M) (hp : w.H p = none) (r : RKV w xs vs) : Ext w (w.push p (.dK vs)) ∧ RS (w.push p (.dK vs)) (M ++ [.dct xs]) ∧ RD (w.push p (.dK vs)) (.ref M.length) (.ref p) := by
 refine ⟨Ta hp, R.push hp ⟨vs, Yt, r.ext (Ta hp)⟩, Y6.mpr ⟨?_, ?_⟩⟩
 ·show M.length < w.n + 1
  rw [R.len]; omega
 ·show V.ref p = V.ref (if M.length = w.n then p else w.μ M.length)
  rw [if_pos R.len.symm]
theorem Qc {w : Vw} {M : Z3} {p : Addr} {xs : List D} {vs : List V} (R : RS w M) (hp : w.H p = none) (r : RDs w xs vs) : Ext w (w.alloc p (.tup vs)) ∧ RS (w.alloc p (.tup vs)) M ∧ RD (w.alloc p (.tup vs)) (.tup xs) (.ref p) :=
 ⟨T9 hp, R.alloc hp, Xn.mpr ⟨p, vs, rfl, Yt, r.ext (T9 hp)⟩⟩
theorem Xv {w : Vw} {M : Z3} {n : Nat} {us vs : List V} {ys xs : List D} (R : RS w M) (hn : M[n]? = some (.lst ys)) (h : w.H (w.μ n) = some (.lst us)) (r : RDs w xs vs) : Ext w (w.alloc (w.μ n) (.lst vs)) ∧ RS (w.alloc (w.μ n) (.lst vs)) (M.set n (.lst xs)) :=
 ⟨Vg h rfl, R.write hn rfl rfl h rfl ⟨vs, Yt, r.ext (Vg h rfl)⟩⟩
theorem Pz {w : Vw} {M : Z3} {n : Nat} {us vs : List (Key × V)} {ys xs : List (Key × D)} (R : RS w M) (hn : M[n]? = some (.dct ys)) (h : w.H (w.μ n) = some (.dK us)) (r : RKV w xs vs) : Ext w (w.alloc (w.μ n) (.dK vs)) ∧ RS (w.alloc (w.μ n) (.dK vs)) (M.set n (.dct xs)) :=
 ⟨Vg h rfl, R.write hn rfl rfl h rfl ⟨vs, Yt, r.ext (Vg h rfl)⟩⟩
section
variable {X : Cx} {w0 : Vw}
theorem Sa {f : Value → Value → Sem Value} {g : Int → Int → V} {o : D → D → Z3 → DK → Prop} {C : Int → Int → Prop} {k : Int → Int → D} (h : OpR X f (rI C g)) (hk : ∀ w i j, RD w (k i j) (g i j))
  {pins : List (Addr × Obj)} {s : Shared} {σ : L2.St} {x y : V} {v u : Value} {Q : VK} {w : Vw} {M : Z3} {QD : DK} {i j : Int} (I : Inv X pins σ w.H s) (rx : RelV x v) (ry : RelV y u) (R : RS w M) (hx : RD w (.int i) x) (hy : RD w (.int j) y)
  (hc : C i j) (q : QD (k i j) M) (a : Aft w QD Q) : wpAny (model X.prog X.w) X.A (f v u) (EP X pins σ Q) X.xe s := by
 cases Zb.mp hx
 cases Zb.mp hy
 exact h pins s σ w.H _ _ v u Q I rx ry ⟨i, j, rfl, rfl, hc, a _ w _ M (Ext.refl w) R (hk w i j) q⟩
def opOf : Op → Operator
 | .add => .Add | .sub => .Sub | .mul => .Mult | .fdiv => .FloorDiv | .mod => .Mod | .pow => .Pow
theorem Zv1 {f : Value → Value → Sem Value} {g : Int → Int → V} (h : OpR X f (rI0 g)) : OpR X f (rI (fun _ _ => True) g) := fun pins s σ H x y v u Q I rx ry ⟨i, j, e1, e2, _, q⟩ => h pins s σ H x y v u Q I rx ry ⟨i, j, e1, e2, q⟩
theorem RDs.rep {w : Vw} {xs : List D} {vs : List V} (h : RDs w xs vs) : ∀ n : Nat, RDs w (List.replicate n xs).flatten (List.replicate n vs).flatten
 | 0 => RDs.nil w
 | n + 1 => by
  rw [List.replicate_succ, List.replicate_succ, List.flatten_cons, List.flatten_cons]
  exact h.append (RDs.rep h n)
theorem Zc0 (op : Op) : OpR X (binaryOp (opOf op)) (rF w0 (opD op)) := by
 intro pins s σ H x y v u Q I rx ry h
 obtain ⟨w, M, dx, dy, QD, rfl, e0, R, hx, hy, g, a⟩ := h
 have ri : ∀ w (i : Int), RD w (.int i) (.int i) := fun w i => Zb.mpr rfl
 cases op with
 | add =>
  cases dx with
  | int i =>
   obtain ⟨j, rfl, g2⟩ := Vk g; clear g; have g := g2
   exact Sa (o := opD .add) (C := fun _ _ => True) (k := fun i j => .int (i + j)) (Zv1 Zy6) (fun w i j => ri w _) I rx ry R hx hy trivial g a
  | str z =>
   cases dy with
   | str z2 =>
    cases Yf.mp hx; cases Yf.mp hy
    exact Cw pins s σ w.H _ _ v u Q I rx ry ⟨_, _, rfl, rfl, g.1, a _ w _ M (Ext.refl w) R (Yf.mpr rfl) g.2⟩
   | _ => exact False.elim g
  | tup l =>
   obtain ⟨l2, rfl, g2⟩ := Z84 g; clear g; have g := g2
   obtain ⟨a1, vs1, rfl, h1, r1⟩ := Xn.mp hx
   obtain ⟨a2, vs2, rfl, h2, r2⟩ := Xn.mp hy
   obtain ⟨g1, g2, g3⟩ := g
   refine Zo2 pins s σ w.H _ _ v u Q I rx ry ⟨a1, a2, vs1, vs2, rfl, rfl, .of h1, .of h2, ?_, by rw [r1.length, r2.length]; exact g2, fun z => ?_, fun _ p hp => ?_⟩
   ·intro z; subst z; have := r1.length; simp at this; exact g1 (List.length_eq_zero_iff.mp this.symm)
   ·subst z
    cases r2.empty
    rw [List.append_nil] at g3
    exact a _ w _ M (Ext.refl w) R hx g3
   ·obtain ⟨x1, x2, x3⟩ := Qc R hp (r1.append r2)
    exact a _ _ _ M x1 x2 x3 g3
  | ref n =>
   obtain ⟨n2, rfl, g2⟩ := W2 g; clear g; have g := g2
   obtain ⟨h1, rfl⟩ := Y6.mp hx
   obtain ⟨h2, rfl⟩ := Y6.mp hy
   obtain ⟨xs, ys, g1, g2, g3, g4⟩ := g
   obtain ⟨_, vs1, q1, r1⟩ := R.list g1
   obtain ⟨_, vs2, q2, r2⟩ := R.list g2
   refine Zu3 pins s σ w.H _ _ v u Q I rx ry ⟨_, _, vs1, vs2, rfl, rfl, q1, q2, by rw [r1.length, r2.length]; exact g3, fun p hp => ?_⟩
   obtain ⟨x1, x2, x3⟩ := Wu R hp (r1.append r2)
   exact a _ _ _ _ x1 x2 x3 g4
  | _ => exact False.elim g
 | mul =>
  cases dx with
  | int i =>
   obtain ⟨j, rfl, g2⟩ := Vk g; clear g; have g := g2
   exact Sa (o := opD .add) (C := IntMulOk) (k := fun i j => .int (i * j)) Zo4 (fun w i j => ri w _) I rx ry R hx hy g.1 g.2 a
  | ref n =>
   obtain ⟨k, rfl, g2⟩ := Vk g; clear g; have g := g2
   obtain ⟨h1, rfl⟩ := Y6.mp hx
   cases Zb.mp hy
   obtain ⟨xs, g1, g2, g3, g4, g5⟩ := g
   obtain ⟨_, vs1, q1, r1⟩ := R.list g1
   refine Y10 pins s σ w.H _ _ v u Q I rx ry ⟨_, _, vs1, rfl, rfl, q1, by omega, by omega, by rw [r1.length]; exact g4, fun p hp => ?_⟩
   obtain ⟨x1, x2, x3⟩ := Wu R hp (r1.rep _)
   exact a _ _ _ _ x1 x2 x3 g5
  | _ => exact False.elim g
 | sub =>
  obtain ⟨i, j, rfl, rfl, g2⟩ := X3 g; clear g; have g := g2
  exact Sa (o := opD .add) (C := fun _ _ => True) (k := fun i j => .int (i - j)) (Zv1 Y06) (fun w i j => ri w _) I rx ry R hx hy trivial g a
 | fdiv =>
  obtain ⟨i, j, rfl, rfl, g2⟩ := X3 g; clear g; have g := g2
  exact Sa (o := opD .add) (C := Z12) (k := fun i j => .int (qdiv i j)) Zi1 (fun w i j => by rw [Zo9]; exact ri w _) I rx ry R hx hy g.1 g.2 a
 | mod =>
  obtain ⟨i, j, rfl, rfl, g2⟩ := X3 g; clear g; have g := g2
  exact Sa (o := opD .add) (C := fun _ j => j ≠ 0) (k := fun i j => .int (qmod i j)) Zq1 (fun w i j => by rw [Zt1]; exact ri w _) I rx ry R hx hy g.1 g.2 a
 | pow =>
  obtain ⟨i, j, rfl, rfl, g2⟩ := X3 g; clear g; have g := g2
  exact Sa (o := opD .add) (C := CPow) (k := fun i j => .int (i ^ j.toNat)) Y15 (fun w i j => ri w _) I rx ry R hx hy g.1 g.2 a
end
def rB (w0 : Vw) (g : Z3 → D → D → (Bool → Prop) → Prop) : R2 := fun x y H Q => ∃ w M dx dy QD, w.H = H ∧ w.K = w0.K ∧ RS w M ∧ RD w dx x ∧ RD w dy y ∧ g M dx dy QD ∧ ∀ b, QD b → Q (.bl b) H
mutual
theorem Z67 {w : Vw} {M : Z3} (R : RS w M) : ∀ (da : PyData) {d : D} {v : V}, PD M da d → RD w d v → Rep w.K w.H da v
 | .none, d, v, h, r => by unfold PD at h; subst h; unfold Rep; exact Zy.mp r
 | .bool b, d, v, h, r => by unfold PD at h; subst h; unfold Rep; exact Xt.mp r
 | .int b, d, v, h, r => by unfold PD at h; subst h; unfold Rep; exact Zb.mp r
 | .str b, d, v, h, r => by unfold PD at h; subst h; unfold Rep; exact Yf.mp r
 | .list xs, d, v, h, r => by
  unfold PD at h
  obtain ⟨n, ds, rfl, h1, h2⟩ := h
  obtain ⟨_, rfl⟩ := Y6.mp r
  obtain ⟨_, vs, q1, q2, _⟩ := R.listL h1
  unfold Rep
  exact ⟨_, vs, rfl, q1, Qi R xs h2 q2⟩
 | .tuple xs, d, v, h, r => by
  unfold PD at h
  obtain ⟨ds, rfl, h2⟩ := h
  obtain ⟨a, vs, rfl, q1, q2⟩ := Xn.mp r
  unfold Rep
  exact ⟨_, vs, rfl, .of q1, Qi R xs h2 q2⟩
 | .dict _, d, v, h, r => by unfold PD at h; exact h.elim
theorem Qi {w : Vw} {M : Z3} (R : RS w M) : ∀ (xs : List PyData) {ds : List D} {vs : List V}, PDs M xs ds → RDs w ds vs → Ws w.K w.H xs vs
 | [], ds, vs, h, r => by unfold PDs at h; subst h; unfold RDs at r; unfold Ws; exact r
 | x :: xs, ds, vs, h, r => by
  unfold PDs at h
  obtain ⟨d, r', rfl, h1, h2⟩ := h
  unfold RDs at r
  obtain ⟨v, r2, rfl, q1, q2⟩ := r
  unfold Ws
  exact ⟨v, r2, rfl, Z67 R x h1 q1, Qi R xs h2 q2⟩
end
theorem Ro {w : Vw} {d : D} {v : V} (f : Xr d = true) (r : RD w d v) : Sd v = true := by
 cases d <;> simp [Xr] at f
 ·cases Zy.mp r; rfl
 ·cases Xt.mp r; rfl
 ·cases Zb.mp r; rfl
 ·cases Yf.mp r; rfl
theorem Gg {w : Vw} {d e : D} {v u : V} (f : Xr d = true) (g : Xr e = true) (r : RD w d v) (q : RD w e u) : eqV v u = eqF d e := by
 cases d <;> simp [Xr] at f
 all_goals (cases e <;> simp [Xr] at g)
 all_goals first
  |(first | cases Zy.mp r | cases Xt.mp r | cases Zb.mp r | cases Yf.mp r)
 all_goals first
  |(first | cases Zy.mp q | cases Xt.mp q | cases Zb.mp q | cases Yf.mp q)
 all_goals rfl
theorem Z51 {w : Vw} {x : D} {v : V} (f : Xr x = true) (r : RD w x v) : ∀ {ds : List D} {vs : List V}, ds.all Xr = true → RDs w ds vs → inV v vs = inD x ds ∧ vs.all Sd = true
 | [], vs, _, h => by unfold RDs at h; subst h; exact ⟨rfl, rfl⟩
 | d :: ds, vs, g, h => by
  unfold RDs at h
  obtain ⟨v1, r1, rfl, h1, h2⟩ := h
  simp only [List.all_cons, Bool.and_eq_true] at g
  obtain ⟨i1, i2⟩ := Z51 f r g.2 h2
  refine ⟨?_, by simp only [List.all_cons, Bool.and_eq_true]; exact ⟨Ro g.1 h1, i2⟩⟩
  unfold inV inD at *
  rw [List.any_cons, List.any_cons, Gg g.1 f h1 r, i1]
theorem RKV.val {w : Vw} : ∀ {ds : List (Key × D)} {vs : List (Key × V)} (k : Key), RKV w ds vs → (valD ds k = none ∧ valV vs k = none) ∨ ∃ d v, valD ds k = some d ∧ valV vs k = some v ∧ RD w d v
 | [], vs, k, h => by unfold RKV at h; subst h; exact .inl ⟨rfl, rfl⟩
 |(k', d) :: ds, vs, k, h => by
  unfold RKV at h
  obtain ⟨v, r, rfl, h1, h2⟩ := h
  by_cases e : k' = k
  ·exact .inr ⟨d, v, by simp [valD, List.find?_cons, e], by simp [valV, List.find?_cons, e], h1⟩
  ·have := RKV.val k h2
   simpa [valD, valV, List.find?_cons, e] using this
theorem RKV.length {w : Vw} : ∀ {ds : List (Key × D)} {vs : List (Key × V)}, RKV w ds vs → vs.length = ds.length
 | [], vs, h => by unfold RKV at h; subst h; rfl
 |(k', d) :: ds, vs, h => by
  unfold RKV at h
  obtain ⟨v, r, rfl, h1, h2⟩ := h
  simp [RKV.length h2]
theorem RKV.any {w : Vw} (k : Key) : ∀ {ds : List (Key × D)} {vs : List (Key × V)}, RKV w ds vs → (vs.any fun kv => decide (kv.1 = k)) = (ds.any fun kv => decide (kv.1 = k))
 | [], vs, h => by unfold RKV at h; subst h; rfl
 |(k', d) :: ds, vs, h => by
  unfold RKV at h
  obtain ⟨v, r, rfl, h1, h2⟩ := h
  simp [RKV.any k h2]
theorem RKV.repl {w : Vw} {k : Key} {d : D} {v : V} (q : RD w d v) : ∀ {ds : List (Key × D)} {vs : List (Key × V)}, RKV w ds vs → RKV w (ds.map fun kv => if kv.1 = k then (kv.1, d) else kv) (vs.map fun kv => if kv.1 = k then (kv.1, v) else kv)
 | [], vs, h => by unfold RKV at h; subst h; unfold RKV; rfl
 |(k', d') :: ds, vs, h => by
  unfold RKV at h
  obtain ⟨v', r, rfl, h1, h2⟩ := h
  simp only [List.map_cons]
  by_cases e : k' = k
  ·rw [if_pos e, if_pos e]
   unfold RKV
   exact ⟨v, _, rfl, q, RKV.repl q h2⟩
  ·rw [if_neg e, if_neg e]
   unfold RKV
   exact ⟨v', _, rfl, h1, RKV.repl q h2⟩
theorem RKV.snoc {w : Vw} {k : Key} {d : D} {v : V} (q : RD w d v) : ∀ {ds : List (Key × D)} {vs : List (Key × V)}, RKV w ds vs → RKV w (ds ++ [(k, d)]) (vs ++ [(k, v)])
 | [], vs, h => by unfold RKV at h; subst h; unfold RKV; exact ⟨v, [], rfl, q, by unfold RKV; rfl⟩
 |(k', d') :: ds, vs, h => by
  unfold RKV at h
  obtain ⟨v', r, rfl, h1, h2⟩ := h
  show RKV w ((k', d') :: (ds ++ [(k, d)])) _
  unfold RKV
  exact ⟨v', _, rfl, h1, RKV.snoc q h2⟩
theorem RKV.put {w : Vw} {k : Key} {d : D} {v : V} (q : RD w d v) {ds : List (Key × D)} {vs : List (Key × V)} (h : RKV w ds vs) : RKV w (putD ds k d) (putK vs k v) := by
 unfold putD putK
 rw [h.any k]
 split
 ·exact h.repl q
 ·exact h.snoc q
theorem Q8 {w : Vw} {d : D} {k : Key} {v : V} (h : keyD d = some k) (r : RD w d v) : v = kV k := by
 cases d <;> simp [keyD] at h
 ·subst h; exact Zb.mp r
 ·subst h; exact Yf.mp r
section
variable {X : Cx} {w0 : Vw}
def cmOf : Cm → CmpOp
 | .lt => .Lt | .le => .LtE | .gt => .Gt | .ge => .GtE | .eq => .Eq | .ne => .NotEq | .is => .Is | .isnot => .IsNot | .isin => .In | .notin => .NotIn
theorem Zt5 (hu : X.A.units + 64 < cLine) : OpR X (compareOp .NotEq) (rEqD X.K true) := by
 intro pins s σ H x y v u Q I rx ry h
 obtain ⟨da, db, h1, h2, h3, h4, h5, q⟩ := h
 obtain ⟨as, q1⟩ := Rep.reads I da x v h1 rx
 obtain ⟨bs, q2⟩ := Rep.reads I db y u h2 ry
 exact PySem.SeqAt.compareNe_reads q1 q2 h3 h4 (by omega) ⟨.bl _, H, I, rfl, q⟩
theorem Ej (hK : X.K = w0.K) (hu : X.A.units + 64 < cLine) (neg : Bool) : OpR X (compareOp (if neg then .NotEq else .Eq)) (rB w0 fun M x y Q => eqD M x y fun b => Q (if neg then !b else b)) := by
 intro pins s σ H x y v u Q I rx ry h
 obtain ⟨w, M, dx, dy, QD, rfl, e0, R, hx, hy, g, a⟩ := h
 have key : ∀ b : Bool, (scal x y = true ∧ decide (x = y) = b) → QD (if neg then !b else b) → wpAny (model X.prog X.w) X.A (compareOp (if neg then .NotEq else .Eq) v u) (EP X pins σ Q) X.xe s := by
  intro b ⟨h1, h2⟩ hq
  cases neg with
  | true => exact Y39 pins s σ w.H x y v u Q I rx ry ⟨h1, by rw [h2]; exact a _ hq⟩
  | false => exact Y34 pins s σ w.H x y v u Q I rx ry ⟨h1, by rw [h2]; exact a _ hq⟩
 unfold eqD at g
 split at g
 ·cases Zb.mp hx; cases Zb.mp hy
  exact key _ ⟨rfl, by simp⟩ g
 ·cases Yf.mp hx; cases Yf.mp hy
  exact key _ ⟨rfl, by simp⟩ g
 ·cases Xt.mp hx; cases Xt.mp hy
  exact key _ ⟨rfl, by simp⟩ g
 ·cases Zy.mp hx; cases Zy.mp hy
  exact key _ ⟨rfl, by simp⟩ g
 ·cases Zy.mp hx; cases Zb.mp hy
  exact key _ ⟨rfl, by simp⟩ g
 ·cases Zb.mp hx; cases Zy.mp hy
  exact key _ ⟨rfl, by simp⟩ g
 ·cases Zy.mp hx; cases Xt.mp hy
  exact key _ ⟨rfl, by simp⟩ g
 ·cases Xt.mp hx; cases Zy.mp hy
  exact key _ ⟨rfl, by simp⟩ g
 ·cases Zy.mp hx; cases Yf.mp hy
  exact key _ ⟨rfl, by simp⟩ g
 ·cases Yf.mp hx; cases Zy.mp hy
  exact key _ ⟨rfl, by simp⟩ g
 ·cases Zb.mp hx; cases Yf.mp hy
  exact key _ ⟨rfl, by simp⟩ g
 ·cases Yf.mp hx; cases Zb.mp hy
  exact key _ ⟨rfl, by simp⟩ g
 ·cases Xt.mp hx; cases Yf.mp hy
  exact key _ ⟨rfl, by simp⟩ g
 ·cases Yf.mp hx; cases Xt.mp hy
  exact key _ ⟨rfl, by simp⟩ g
 ·rcases g with ⟨da, db, p1, p2, p3, p4, p5, g⟩ | g
  ·have q1 := Z67 R da p1 hx
   have q2 := Z67 R db p2 hy
   rw [e0, ← hK] at q1 q2
   cases neg with
   | true => exact Zt5 hu pins s σ w.H x y v u Q I rx ry ⟨da, db, q1, q2, p3, p4, p5, a _ g⟩
   | false => exact Zv3 hu pins s σ w.H x y v u Q I rx ry ⟨da, db, q1, q2, p3, p4, p5, a _ g⟩
  ·exact g.elim
theorem Ff (hK : X.K = w0.K) (hu : X.A.units + 64 < cLine) (neg : Bool) : OpR X (compareOp (if neg then .NotIn else .In)) (rB w0 fun M x y Q => inQ M x y fun b => Q (if neg then !b else b)) := by
 intro pins s σ H x y v u Q I rx ry h
 obtain ⟨w, M, dx, dy, QD, rfl, e0, R, hx, hy, g, a⟩ := h
 have seq : ∀ {p : Addr} {vs : List V} {xs : List D}, y = .ref p → (SqL X.K w.H p vs ∨ SqT X.K w.H p vs) → RDs w xs vs → Xr dx = true → xs.all Xr = true → QD (if neg then !inD dx xs else inD dx xs) →
   wpAny (model X.prog X.w) X.A (compareOp (if neg then .NotIn else .In) v u) (EP X pins σ Q) X.xe s := by
  intro p vs xs ey q1 q2 g2 g3 g4
  obtain ⟨i1, i2⟩ := Z51 g2 hx g3 q2
  cases neg with
  | true => exact Nm pins s σ w.H _ _ v u Q I rx ry ⟨p, vs, ey, q1, Ro g2 hx, i2, by rw [i1]; exact a _ g4⟩
  | false => exact Z19 pins s σ w.H _ _ v u Q I rx ry ⟨p, vs, ey, q1, Ro g2 hx, i2, by rw [i1]; exact a _ g4⟩
 unfold inQ at g
 split at g
 ·cases Yf.mp hx; cases Yf.mp hy
  cases neg with
  | true => exact Jf pins s σ w.H _ _ v u Q I rx ry ⟨_, _, rfl, rfl, a _ g⟩
  | false => exact Bw pins s σ w.H _ _ v u Q I rx ry ⟨_, _, rfl, rfl, a _ g⟩
 ·obtain ⟨_, rfl⟩ := Y6.mp hy
  rcases g with ⟨xs, g1, g2, g3, g4⟩ | ⟨kvs, k, g1, g2, g3⟩
  ·obtain ⟨_, vs, q1, q2, _⟩ := R.listL g1
   rw [e0, ← hK] at q1
   exact seq rfl (.inl q1) q2 g2 g3 g4
  ·obtain ⟨_, vs, q1, q2⟩ := R.dict g1
   cases Q8 g2 hx
   cases (show u = Value.ref _ from ry)
   have hv : valV vs k = none ∧ valD kvs k = none ∨ ∃ d v', valD kvs k = some d ∧ valV vs k = some v' := by
    rcases q2.val k with ⟨n1, n2⟩ | ⟨d, v', n1, n2, _⟩
    ·exact .inl ⟨n2, n1⟩
    ·exact .inr ⟨d, v', n1, n2⟩
   have hb : (valV vs k).isSome = (valD kvs k).isSome := by
    rcases hv with ⟨n1, n2⟩ | ⟨d, v', n1, n2⟩
    ·rw [n1, n2]; rfl
    ·rw [n1, n2]; rfl
   have hu1 : X.A.units + 1 < cLine := by omega
   cases neg with
   | true => exact Zm1 hu1 I (DGet.k (k := k) q1) rx fun s' I' => ⟨.bl (!(valV vs k).isSome), w.H, I', rfl, by rw [hb]; exact a _ g3⟩
   | false => exact d_in hu1 I (DGet.k (k := k) q1) rx fun s' I' => ⟨.bl (valV vs k).isSome, w.H, I', rfl, by rw [hb]; exact a _ g3⟩
 ·obtain ⟨p, vs, e, q1, q2⟩ := Xn.mp hy
  exact seq e (.inr (.of q1)) q2 g.1 g.2.1 g.2.2
 ·obtain ⟨p, vs, e, q1, q2⟩ := Oe.mp hy
  rw [e0, ← hK] at q1
  exact seq e (.inr q1) q2 g.1 g.2.1 g.2.2
 ·exact g.elim
theorem Fj (hK : X.K = w0.K) (hu : X.A.units + 64 < cLine) (op : Cm) : OpR X (compareOp (cmOf op)) (rB w0 fun M => cmD M op) := by
 intro pins s σ H x y v u Q I rx ry h
 obtain ⟨w, M, dx, dy, QD, rfl, e0, R, hx, hy, g, a⟩ := h
 cases op with
 | lt =>
  obtain ⟨i, j, rfl, rfl, g2⟩ := X3 g; clear g; have g := g2
  cases Zb.mp hx; cases Zb.mp hy
  exact Y26 pins s σ w.H _ _ v u Q I rx ry ⟨_, _, rfl, rfl, a _ g⟩
 | le =>
  obtain ⟨i, j, rfl, rfl, g2⟩ := X3 g; clear g; have g := g2
  cases Zb.mp hx; cases Zb.mp hy
  exact Y50 pins s σ w.H _ _ v u Q I rx ry ⟨_, _, rfl, rfl, a _ g⟩
 | gt =>
  obtain ⟨i, j, rfl, rfl, g2⟩ := X3 g; clear g; have g := g2
  cases Zb.mp hx; cases Zb.mp hy
  exact Y32 pins s σ w.H _ _ v u Q I rx ry ⟨_, _, rfl, rfl, a _ g⟩
 | ge =>
  obtain ⟨i, j, rfl, rfl, g2⟩ := X3 g; clear g; have g := g2
  cases Zb.mp hx; cases Zb.mp hy
  exact Y43 pins s σ w.H _ _ v u Q I rx ry ⟨_, _, rfl, rfl, a _ g⟩
 | eq =>
  exact Ej hK hu false pins s σ w.H x y v u Q I rx ry ⟨w, M, _, _, QD, rfl, e0, R, hx, hy, g, a⟩
 | ne =>
  exact Ej hK hu true pins s σ w.H x y v u Q I rx ry ⟨w, M, _, _, QD, rfl, e0, R, hx, hy, g, a⟩
 | is =>
  cases dy with
  | non =>
   cases dx with
   | non =>
    cases Zy.mp hx; cases Zy.mp hy
    exact Qh pins s σ w.H _ _ v u Q I rx ry ⟨rfl, a _ g⟩
   | bl b =>
    cases Xt.mp hx; cases Zy.mp hy
    exact Qh pins s σ w.H _ _ v u Q I rx ry ⟨rfl, a _ g⟩
   | int i =>
    cases Zb.mp hx; cases Zy.mp hy
    exact Qh pins s σ w.H _ _ v u Q I rx ry ⟨rfl, a _ g⟩
   | str z =>
    cases Yf.mp hx; cases Zy.mp hy
    exact Qh pins s σ w.H _ _ v u Q I rx ry ⟨rfl, a _ g⟩
   | tup l =>
    obtain ⟨_, _, rfl, _⟩ := Xn.mp hx; cases Zy.mp hy
    exact Qh pins s σ w.H _ _ v u Q I rx ry ⟨rfl, a _ g⟩
   | ref n =>
    obtain ⟨_, rfl⟩ := Y6.mp hx; cases Zy.mp hy
    exact Qh pins s σ w.H _ _ v u Q I rx ry ⟨rfl, a _ g⟩
   | exn e C d q =>
    obtain ⟨rfl, _⟩ := Je.mp hx; cases Zy.mp hy
    exact Qh pins s σ w.H _ _ v u Q I rx ry ⟨rfl, a _ g⟩
   | _ => exact False.elim g
  | _ => exact False.elim g
 | isnot =>
  cases dy with
  | non =>
   cases dx with
   | non =>
    cases Zy.mp hx; cases Zy.mp hy
    exact T5 pins s σ w.H _ _ v u Q I rx ry ⟨rfl, a _ g⟩
   | bl b =>
    cases Xt.mp hx; cases Zy.mp hy
    exact T5 pins s σ w.H _ _ v u Q I rx ry ⟨rfl, a _ g⟩
   | int i =>
    cases Zb.mp hx; cases Zy.mp hy
    exact T5 pins s σ w.H _ _ v u Q I rx ry ⟨rfl, a _ g⟩
   | str z =>
    cases Yf.mp hx; cases Zy.mp hy
    exact T5 pins s σ w.H _ _ v u Q I rx ry ⟨rfl, a _ g⟩
   | tup l =>
    obtain ⟨_, _, rfl, _⟩ := Xn.mp hx; cases Zy.mp hy
    exact T5 pins s σ w.H _ _ v u Q I rx ry ⟨rfl, a _ g⟩
   | ref n =>
    obtain ⟨_, rfl⟩ := Y6.mp hx; cases Zy.mp hy
    exact T5 pins s σ w.H _ _ v u Q I rx ry ⟨rfl, a _ g⟩
   | exn e C d q =>
    obtain ⟨rfl, _⟩ := Je.mp hx; cases Zy.mp hy
    exact T5 pins s σ w.H _ _ v u Q I rx ry ⟨rfl, a _ g⟩
   | _ => exact False.elim g
  | _ => exact False.elim g
 | isin =>
  exact Ff hK hu false pins s σ w.H x y v u Q I rx ry ⟨w, M, _, _, QD, rfl, e0, R, hx, hy, g, a⟩
 | notin =>
  exact Ff hK hu true pins s σ w.H x y v u Q I rx ry ⟨w, M, _, _, QD, rfl, e0, R, hx, hy, g, a⟩
end
theorem RKV.isEmpty {w : Vw} {ds : List (Key × D)} {vs : List (Key × V)} (h : RKV w ds vs) : vs.isEmpty = ds.isEmpty := by
 cases ds with
 | nil => unfold RKV at h; subst h; rfl
 | cons p ds => obtain ⟨k, d⟩ := p; unfold RKV at h; obtain ⟨v, r, rfl, _⟩ := h; rfl
theorem RDs.isEmpty {w : Vw} {ds : List D} {vs : List V} (h : RDs w ds vs) : vs.isEmpty = ds.isEmpty := by
 cases ds with
 | nil => unfold RDs at h; subst h; rfl
 | cons d ds => unfold RDs at h; obtain ⟨v, r, rfl, _⟩ := h; rfl
theorem Tw {K : PySem.W.Frag} {w : Vw} {M : Z3} {d : D} {x : V} {QD : Bool → Prop} (hK : w.K = K) (R : RS w M) (r : RD w d x) (g : truD M d QD) : ∃ k, TruV K x w.H k ∧ QD k := by
 unfold truD at g
 split at g
 ·cases Zy.mp r; exact ⟨_, rfl, g⟩
 ·cases Xt.mp r; exact ⟨_, rfl, g⟩
 ·cases Zb.mp r; exact ⟨_, rfl, g⟩
 ·cases Yf.mp r; exact ⟨_, ⟨g.1, rfl⟩, g.2⟩
 ·obtain ⟨a, vs, rfl, q1, q2⟩ := Xn.mp r
  exact ⟨_, .inr (.inl ⟨vs, .of q1, rfl⟩), by rw [q2.isEmpty]; exact g⟩
 ·obtain ⟨_, rfl⟩ := Y6.mp r
  rcases g with ⟨xs, g1, g2⟩ | ⟨xs, g1, g2⟩
  ·obtain ⟨_, vs, q1, q2, _⟩ := R.listL g1
   rw [hK] at q1
   exact ⟨_, .inl ⟨vs, q1, rfl⟩, by rw [q2.isEmpty]; exact g2⟩
  ·obtain ⟨_, vs, q1, q2⟩ := R.dict g1
   exact ⟨_, .inr (.inr ⟨vs, q1, rfl⟩), by rw [q2.isEmpty]; exact g2⟩
 ·exact g.elim
theorem Gb {w : Vw} {xs : List D} {vs : List V} {i : Int} {d : D} (r : RDs w xs vs) (h : atI xs i = some d) : ∃ v, atI vs i = some v ∧ RD w d v := by
 unfold atI at *
 rw [r.length]
 obtain ⟨j, h1, h2⟩ := Option.bind_eq_some_iff.mp h
 obtain ⟨v, q1, q2⟩ := r.get h2
 exact ⟨v, by rw [h1]; exact q1, q2⟩
theorem Z85 {w : Vw} {xs : List D} {vs : List V} {lo hi : Option Int} (r : RDs w xs vs) : RDs w (cutD xs lo hi) (cutV vs lo hi) := by
 unfold cutD cutV
 rw [r.length]
 exact (r.drop _).take _
section
variable {X : Cx} {w0 : Vw}
theorem Zr5 (hu : X.A.units + 1 < cLine) : IxR X (fun x y H Q => ∃ a v, x = .ref a ∧ DGet H a y (some v) ∧ Q v H) := by
 intro value slice pins s σ H x y v u Q I rx ry h hs
 obtain ⟨a, vv, rfl, g, q⟩ := h
 cases rx
 have hT := Gr I g
 have h₂ : wpAny (model X.prog X.w) X.A (getItem (.ref a) u) (EP X pins σ Q) X.xe s := Z59 hu I g ry fun w' s3 I3 rw' => ⟨vv, H, I3, rw', q⟩
 unfold subscriptTail
 refine wpAny_bind ?_
 rw [getitemInPython_of_ne hT.not_modules]
 refine wpAny_bind (wpAny_specialOf hT PySem.F.slot_dict_getitem.lookup ?_)
 have fin : wpAny (model X.prog X.w) X.A (subscripted slice false (.ref a) u) (fun r s₃ => wpAny (model X.prog X.w) X.A (letTemporaryGo value (.ref a) r >>= fun _ => pure r) (EP X pins σ Q) X.xe s₃) X.xe s := by
  rw [hs]
  exact wpAny_operating (wpAny_mono h₂ (fun r s₃ h₃ => wpAny_bind (wpAny_letTemporaryGo (wpAny_pure h₃))) fun _ _ x => x)
 first
  | exact wpAny_pure (wpAny_bind fin)
  | exact wpAny_bind (wpAny_pure (wpAny_bind fin))
  | exact wpAny_bind fin
def rX (w0 : Vw) : R2 := fun x y H Q => ∃ w M dx dy QD, w.H = H ∧ w.K = w0.K ∧ RS w M ∧ RD w dx x ∧ RD w dy y ∧ ixD M dx dy QD ∧ ∀ d v, QD d → RD w d v → Q v H
theorem Za4 (hK : X.K = w0.K) (hu : X.A.units + 64 < cLine) : IxR X (rX w0) := by
 intro value slice pins s σ H x y v u Q I rx ry h hs
 obtain ⟨w, M, dx, dy, QD, rfl, e0, R, hx, hy, g, a⟩ := h
 unfold ixD at g
 split at g
 ·obtain ⟨_, rfl⟩ := Y6.mp hx
  rcases g with ⟨xs, i, d, rfl, g1, g2, g3⟩ | ⟨kvs, k, d, g1, g2, g3, g4⟩
  ·cases Zb.mp hy
   obtain ⟨_, vs, q1, q2, _⟩ := R.listL g1
   rw [e0, ← hK] at q1
   obtain ⟨vv, z1, z2⟩ := Gb q2 g2
   exact Zt0 value slice pins s σ w.H _ _ v u Q I rx ry ⟨_, vs, i, vv, rfl, rfl, q1, z1, a _ _ g3 z2⟩ hs
  ·obtain ⟨vs, q1, q2⟩ := R.dictF g1
   cases Q8 g2 hy
   rcases q2.val k with ⟨n1, n2⟩ | ⟨d', v', n1, n2, n3⟩
   ·rw [n1] at g3; cases g3
   ·rw [n1] at g3; cases g3
    refine Zr5 (by omega) value slice pins s σ w.H _ _ v u Q I rx ry ⟨_, v', rfl, ?_, a _ _ g4 n3⟩ hs
    have : DGet w.H (w.μ _) (kV k) (valV vs k) := .inl ⟨vs, k, q1, rfl, rfl⟩
    rw [n2] at this
    exact this
 ·cases Zb.mp hy
  obtain ⟨p, vs, rfl, q1, q2⟩ := Xn.mp hx
  obtain ⟨d, g1, g2⟩ := g
  obtain ⟨vv, z1, z2⟩ := Gb q2 g1
  exact Zk8 value slice pins s σ w.H _ _ v u Q I rx ry ⟨_, vs, _, vv, rfl, rfl, .of q1, z1, a _ _ g2 z2⟩ hs
 ·cases Zb.mp hy
  obtain ⟨p, vs, rfl, q1, q2⟩ := Oe.mp hx
  rw [e0, ← hK] at q1
  obtain ⟨d, g1, g2⟩ := g
  obtain ⟨vv, z1, z2⟩ := Gb q2 g1
  exact Zk8 value slice pins s σ w.H _ _ v u Q I rx ry ⟨_, vs, _, vv, rfl, rfl, q1, z1, a _ _ g2 z2⟩ hs
 ·cases Zb.mp hy; cases Yf.mp hx
  obtain ⟨g0, c, g1, g2⟩ := g
  exact Zx7 value slice pins s σ w.H _ _ v u Q I rx ry ⟨_, _, c, rfl, rfl, g0, g1, a _ _ g2 (Yf.mpr rfl)⟩ hs
 ·exact g.elim
theorem Zu5 : SlR X (fun x lo hi H Q => ∃ z, x = .str z ∧ z.length ≤ sizeLine ∧ Q (.str (Txt.slice z lo hi)) H) := by
 intro pins s σ H x v vl vu lo hi sl Q I rx hs pl pu h
 obtain ⟨z, rfl, hz, q⟩ := h
 obtain ⟨t, rfl⟩ := rx
 have key : ∀ l u : Option (Int × Tok), l.map (·.1) = lo → u.map (·.1) = hi → vl = partValue l → vu = partValue u → wpAny (model X.prog X.w) X.A (getItem (.str z t) (.ref sl)) (EP X pins σ Q) X.xe s := by
  intro l u e1 e2 e3 e4
  subst e1 e2 e3 e4
  refine wpAny_getItem_str_slice (l := l) (u := u) (st := none) hs rfl ?_
  exact post_val_or_str ⟨Nat.le_trans (Txt.slice_le z _ _) hz, fun t' k => ⟨.str (Txt.slice z _ _), H, I.tok _, ⟨_, rfl⟩, q⟩⟩
 refine ⟨"str", _, PySem.F.slot_str_getitem.lookup, typeIs_str _ _ _, ?_⟩
 cases pl with
 | none =>
  cases pu with
  | none => exact key none none rfl rfl rfl rfl
  | int j tj => exact key none (some (j, tj)) rfl rfl rfl rfl
 | int i ti =>
  cases pu with
  | none => exact key (some (i, ti)) none rfl rfl rfl rfl
  | int j tj => exact key (some (i, ti)) (some (j, tj)) rfl rfl rfl rfl
def rSl (w0 : Vw) : V → Option Int → Option Int → Hp → VK → Prop := fun x lo hi H Q => ∃ w M dx QD, w.H = H ∧ w.K = w0.K ∧ RS w M ∧ RD w dx x ∧ slD dx lo hi M QD ∧ Aft w QD Q
theorem Zc4 (hK : X.K = w0.K) : SlR X (rSl w0) := by
 intro pins s σ H x v vl vu lo hi sl Q I rx hs pl pu h
 obtain ⟨w, M, dx, QD, rfl, e0, R, hx, g, a⟩ := h
 unfold slD at g
 split at g
 ·cases Yf.mp hx
  exact Zu5 pins s σ w.H _ v vl vu _ _ sl Q I rx hs pl pu ⟨_, rfl, g.1, a _ w _ M (Ext.refl w) R (Yf.mpr rfl) g.2⟩
 ·obtain ⟨_, rfl⟩ := Y6.mp hx
  obtain ⟨xs, g1, g2⟩ := g
  obtain ⟨_, vs, q1, q2, _⟩ := R.listL g1
  rw [e0, ← hK] at q1
  refine Zp6 pins s σ w.H _ v vl vu _ _ sl Q I rx hs pl pu ⟨_, vs, rfl, q1, fun p hp => ?_⟩
  obtain ⟨x1, x2, x3⟩ := Wu R hp (Z85 (lo := lo) (hi := hi) q2)
  exact a _ _ _ _ x1 x2 x3 g2
 ·obtain ⟨p, vs, rfl, q1, q2⟩ := Xn.mp hx
  refine Y03 pins s σ w.H _ v vl vu _ _ sl Q I rx hs pl pu ⟨_, vs, rfl, .of q1, by rw [q2.length]; exact g.1, fun p hp => ?_⟩
  obtain ⟨x1, x2, x3⟩ := Qc R hp (Z85 (lo := lo) (hi := hi) q2)
  exact a _ _ _ _ x1 x2 x3 g.2
 ·exact g.elim
def rC (w0 : Vw) (g : List D → Z3 → DK → Prop) : List V → Hp → VK → Prop := fun xs H Q => ∃ w M ds QD, w.H = H ∧ w.K = w0.K ∧ RS w M ∧ RDs w ds xs ∧ g ds M QD ∧ Aft w QD Q
def bfOf : Bf → Str × Value
 | .len => ("len", .builtin "len") | .isinst => ("isinstance", .builtin "isinstance") | .min2 => ("min", .builtin "min") | .max2 => ("max", .builtin "max")
 | .list1 => ("list", .type "list")
theorem rds1 {w : Vw} {d : D} {xs : List V} (h : RDs w [d] xs) : ∃ v, xs = [v] ∧ RD w d v := by
 unfold RDs at h
 obtain ⟨v, r, rfl, h1, h2⟩ := h
 unfold RDs at h2
 subst h2
 exact ⟨v, rfl, h1⟩
theorem rds2 {w : Vw} {d e : D} {xs : List V} (h : RDs w [d, e] xs) : ∃ v u, xs = [v, u] ∧ RD w d v ∧ RD w e u := by
 unfold RDs at h
 obtain ⟨v, r, rfl, h1, h2⟩ := h
 obtain ⟨u, rfl, h3⟩ := rds1 h2
 exact ⟨v, u, rfl, h1, h3⟩
theorem rds0 {w : Vw} {xs : List V} (h : RDs w [] xs) : xs = [] := by unfold RDs at h; exact h
theorem Z16 {w : Vw} : ∀ {as : List Addr} {vs : List V}, RDs w (as.map D.cls) vs → vs = as.map V.ref
 | [], vs, h => rds0 h
 | a :: r, vs, h => by
  rw [List.map_cons] at h
  unfold RDs at h
  obtain ⟨v, vs', rfl, h1, h2⟩ := h
  rw [Jh.mp h1, Z16 h2]
  rfl
def Y40 (K : PySem.W.Frag) : List V → Hp → VK → Prop := fun xs H Q => ∃ (e C dx : Addr) (fs : List (Str × V)) (p : Addr) (as : List Addr) (b : Bool), xs = [.ref e, .ref p] ∧ H e = some (XO e (.ref C) (some dx)) ∧ H dx = some (.xd fs) ∧ ExcIs K C ∧ H p = some (.tup (as.map V.ref)) ∧ PySem.W.kitAny K (.ref C) (as.map Value.ref) = some b ∧ Q (.bl b) H
theorem Nk : ∀ {as : List Addr} {us : List Value}, Vals (as.map V.ref) us → us = as.map Value.ref
 | [], us, h => by cases h; rfl
 | a :: r, us, h => by
  cases h with
  | cons h1 h2 =>
   obtain rfl : _ = Value.ref a := h1
   rw [Nk h2]
   rfl
theorem Be {X : Cx} : Tc X (.builtin "isinstance") (Y40 X.K) := by
 intro pins s σ H xs us Q I r h
 obtain ⟨e, C, dx, fs, p, as, b, rfl, he, hd, S, hp, k, q⟩ := h
 obtain ⟨u, v, rfl, ru, rv⟩ := G4 r
 obtain rfl : u = Value.ref e := ru
 obtain rfl : v = Value.ref p := rv
 obtain ⟨oe, od, mA, J, _⟩ := Ed I he hd
 obtain ⟨its, r', ⟨⟨oc, odd, dat, sl⟩, g1, g2, n, g3⟩, hz⟩ := I.tuple (.of hp)
 cases Nk r'
 dsimp only at g2 g3
 subst g2 g3
 exact PySem.W.kia_tup (E6 S) I.kIn J g1 k (fun z => nomatch z) fun tk => ⟨.bl b, H, I.tok tk, rfl, q⟩
theorem Zu7 {K : PySem.W.Frag} {w : Vw} {M : Z3} {d : D} {x : V} {t : String} (R : RS w M) (r : RD w d x) (h : tyD M d = some t) : TyOf K w.H x (.type t) := by
 unfold tyD at h
 split at h
 ·cases h; cases Zy.mp r; exact .non
 ·cases h; cases Xt.mp r; exact .bl _
 ·cases h; cases Zb.mp r; exact .int _
 ·cases h; cases Yf.mp r; exact .str _
 ·cases h; obtain ⟨a, vs, rfl, q, _⟩ := Xn.mp r; exact .tup q
 ·obtain ⟨_, rfl⟩ := Y6.mp r
  split at h
  ·rename_i e; cases h; obtain ⟨vs, q, _⟩ := R.cell _ _ e; exact .lst q
  ·cases h
  ·rename_i e; cases h; obtain ⟨vs, q, _⟩ := R.cell _ _ e; exact .dK q
  ·cases h
  ·cases h
 ·cases h
def Qw : Bf → Bool
 | .min2 | .max2 => false
 | _ => true
theorem Fo {w : Vw} : ∀ {ks : List Key} {vs : List V}, RDs w (ks.map kD) vs → vs = ks.map kV
 | [], vs, h => rds0 h
 | k :: ks, vs, h => by
  rw [List.map_cons] at h
  unfold RDs at h
  obtain ⟨v, r, rfl, h1, h2⟩ := h
  rw [Fo h2]
  cases k with
  | inl i => cases Zb.mp h1; rfl
  | inr x => cases Yf.mp h1; rfl
theorem Zd1 (hK : X.K = w0.K) (b : Bf) (hc : X.calm = true ∨ Qw b = true) : Tc X (bfOf b).2 (rC w0 (bfD w0.K b)) := by
 intro pins s σ H xs us Q I r h
 obtain ⟨w, M, ds, QD, rfl, e0, R, hx, g, a⟩ := h
 cases b with
 | len =>
  obtain ⟨x, rfl, g2⟩ := Q3 g; clear g; have g := g2
  cases x with
  | ref n =>
   obtain ⟨v, rfl, r1⟩ := rds1 hx
   obtain ⟨_, rfl⟩ := Y6.mp r1
   rcases g with ⟨xs, g1, g2⟩ | ⟨xs, g1, g2⟩
   ·obtain ⟨_, vs, q1, q2, _⟩ := R.listL g1
    rw [e0, ← hK] at q1
    exact Sx pins s σ w.H _ us Q I r ⟨_, vs, rfl, .inl q1, a _ w _ M (Ext.refl w) R (Zb.mpr (by rw [q2.length])) g2⟩
   ·obtain ⟨_, vs, q1, q2⟩ := R.dict g1
    exact Z10 pins s σ w.H _ us Q I r ⟨_, vs, rfl, q1, a _ w _ M (Ext.refl w) R (Zb.mpr (by rw [q2.length])) g2⟩
  | tup l =>
   obtain ⟨v, rfl, r1⟩ := rds1 hx
   obtain ⟨p, vs, rfl, q1, q2⟩ := Xn.mp r1
   exact Sx pins s σ w.H _ us Q I r ⟨_, vs, rfl, .inr (.of q1), a _ w _ M (Ext.refl w) R (Zb.mpr (by rw [q2.length])) g⟩
  | str z =>
   obtain ⟨v, rfl, r1⟩ := rds1 hx
   cases Yf.mp r1
   exact G3 pins s σ w.H _ us Q I r ⟨_, rfl, g.1, a _ w _ M (Ext.refl w) R (Zb.mpr rfl) g.2⟩
  | _ => exact False.elim g
 | isinst =>
  obtain ⟨x, y, rfl, g2⟩ := Qt g; clear g; have g := g2
  obtain ⟨v, u, rfl, r1, r2⟩ := rds2 hx
  unfold isD at g
  split at g
  ·obtain ⟨b, g1, g2, g3⟩ := g
   obtain ⟨rfl, q1, row, q2, q3⟩ := Je.mp r1
   cases Jh.mp r2
   rw [← hK] at g1 g2
   exact Fs pins s σ w.H _ us Q I r ⟨_, _, _, _, _, _, b, rfl, q1, q2, g1, fun u hu => hu, g2, a _ w _ M (Ext.refl w) R (Xt.mpr rfl) g3⟩
  ·obtain ⟨b, g1, g2, g3⟩ := g
   obtain ⟨rfl, q1, row, q2, q3⟩ := Je.mp r1
   cases Zk9.mp r2
   rw [← hK] at g1 g2
   exact Fs pins s σ w.H _ us Q I r ⟨_, _, _, _, _, _, b, rfl, q1, q2, g1, fun u hu => hu, g2, a _ w _ M (Ext.refl w) R (Xt.mpr rfl) g3⟩
  ·obtain ⟨as, b, rfl, g1, g2, g3⟩ := g
   obtain ⟨rfl, q1, row, q2, q3⟩ := Je.mp r1
   obtain ⟨p, vs, rfl, q4, q5⟩ := Xn.mp r2
   cases Z16 q5
   rw [← hK] at g1 g2
   exact Be pins s σ w.H _ us Q I r ⟨_, _, _, _, _, _, b, rfl, q1, q2, g1, q4, g2, a _ w _ M (Ext.refl w) R (Xt.mpr rfl) g3⟩
  ·obtain ⟨t, b, g1, g2, g3⟩ := g
   cases Zk9.mp r2
   rw [← hK] at g2
   exact Ze6 pins s σ w.H _ us Q I r ⟨_, _, _, b, rfl, Zu7 R r1 g1, g2, a _ w _ M (Ext.refl w) R (Xt.mpr rfl) g3⟩
  ·exact g.elim
 | min2 =>
  obtain ⟨x, y, rfl, g2⟩ := Qt g; clear g; have g := g2
  obtain ⟨i, j, rfl, rfl, g2⟩ := X3 g; clear g; have g := g2
  obtain ⟨v, u, rfl, r1, r2⟩ := rds2 hx
  cases Zb.mp r1; cases Zb.mp r2
  exact Z32 (hc.resolve_right (by simp [Qw])) pins s σ w.H _ us Q I r ⟨_, _, rfl, a _ w _ M (Ext.refl w) R (Zb.mpr rfl) g⟩
 | max2 =>
  obtain ⟨x, y, rfl, g2⟩ := Qt g; clear g; have g := g2
  obtain ⟨i, j, rfl, rfl, g2⟩ := X3 g; clear g; have g := g2
  obtain ⟨v, u, rfl, r1, r2⟩ := rds2 hx
  cases Zb.mp r1; cases Zb.mp r2
  exact Z83 (hc.resolve_right (by simp [Qw])) pins s σ w.H _ us Q I r ⟨_, _, rfl, a _ w _ M (Ext.refl w) R (Zb.mpr rfl) g⟩
 | list1 =>
  obtain ⟨x, rfl, g2⟩ := Q3 g; clear g; have g := g2
  obtain ⟨v, rfl, r1⟩ := rds1 hx
  obtain ⟨xs, g1, g2⟩ := g
  have : ∃ p vs, v = .ref p ∧ (SqL X.K w.H p vs ∨ SqT X.K w.H p vs) ∧ RDs w xs vs := by
   rw [hK, ← e0]
   unfold Z15 at g1
   split at g1
   ·obtain ⟨_, rfl⟩ := Y6.mp r1
    obtain ⟨_, vs, q1, q2, _⟩ := R.listL g1
    exact ⟨_, vs, rfl, .inl q1, q2⟩
   ·cases g1
    obtain ⟨p, vs, rfl, q1, q2⟩ := Xn.mp r1
    exact ⟨_, vs, rfl, .inr (.of q1), q2⟩
   ·cases g1
    obtain ⟨p, vs, rfl, q1, q2⟩ := Oe.mp r1
    exact ⟨_, vs, rfl, .inr q1, q2⟩
   ·cases g1
  obtain ⟨p, vs, rfl, q1, q2⟩ := this
  refine Jg pins s σ w.H _ us Q I r ⟨p, vs, rfl, q1, fun l hl => ?_⟩
  obtain ⟨x1, x2, x3⟩ := Wu R hl q2
  exact a _ _ _ _ x1 x2 x3 g2
end
def mtT : Mt → String
 | .append | .pop0 | .clear | .reverse | .index1 => "list"
 | .get2 => "dict"
def mtN : Mt → Str
 | .append => "append" | .pop0 => "pop" | .clear => "clear" | .reverse => "reverse" | .index1 => "index" | .get2 => "get"
def mtI : Mt → String
 | .append => "list.append" | .pop0 => "list.pop" | .clear => "list.clear" | .reverse => "list.reverse" | .index1 => "list.index" | .get2 => "dict.get"
theorem Y04 : ∀ m : Mt, PlainAttrs (mtT m)
 | .append | .pop0 | .clear | .reverse | .index1 => PySem.F.plainAttrs_list
 | .get2 => PySem.F.plainAttrs_dict
theorem Z55 : ∀ m : Mt, Slot (mtT m) (mtN m) (mtI m)
 | .append => PySem.F.slot_list_append | .pop0 => PySem.F.slot_list_pop | .clear => PySem.F.slot_list_clear | .reverse => PySem.F.slot_list_reverse | .index1 => PySem.F.slot_list_index
 | .get2 => PySem.F.slot_dict_get
theorem Zw5 : ∀ m : Mt, typeOf (.builtin (mtI m)) = pure (.type "method_descriptor")
 | .append => PySem.F.type_list_append | .pop0 => PySem.F.type_list_pop | .clear => PySem.F.type_list_clear | .reverse => PySem.F.type_list_reverse | .index1 => PySem.F.type_list_index
 | .get2 => PySem.F.type_dict_get
def rM (w0 : Vw) (m : Mt) : V → List V → Hp → VK → Prop := fun x xs H Q => ∃ w M dx ds QD, w.H = H ∧ w.K = w0.K ∧ RS w M ∧ RD w dx x ∧ RDs w ds xs ∧ mtD m dx ds M QD ∧ Aft w QD Q
theorem Zk6 {w : Vw} {M : Z3} {m : Mt} {d : D} {x : V} (R : RS w M) (r : RD w d x) (h : mtK m d M) : tyV w.K (mtT m) x w.H := by
 have L : ∀ {n : Nat}, RD w (.ref n) x → (Z6 M n).isSome = true → tyV w.K "list" x w.H := by
  intro n r h
  obtain ⟨_, rfl⟩ := Y6.mp r
  obtain ⟨xs, e⟩ := Option.isSome_iff_exists.mp h
  obtain ⟨_, vs, q1, _⟩ := R.listL e
  exact .inl ⟨rfl, vs, q1⟩
 have K : ∀ {n : Nat}, RD w (.ref n) x → (Xl M n).isSome = true → tyV w.K "dict" x w.H := by
  intro n r h
  obtain ⟨_, rfl⟩ := Y6.mp r
  obtain ⟨xs, e⟩ := Option.isSome_iff_exists.mp h
  obtain ⟨_, vs, q1, _⟩ := R.dict e
  exact .inr (.inr (.inl ⟨rfl, .inl ⟨vs, q1⟩⟩))
 obtain ⟨n, rfl, h⟩ := W2 h
 cases m with
 | get2 => exact K r h
 | _ => exact L r h
theorem RDs.dropLast {w : Vw} {xs : List D} {vs : List V} (r : RDs w xs vs) : RDs w xs.dropLast vs.dropLast := by
 rw [List.dropLast_eq_take, List.dropLast_eq_take, r.length]
 exact r.take _
section
variable {X : Cx} {w0 : Vw}
theorem Ze1 (hK : X.K = w0.K) (hu : X.A.units + 64 < cLine) (m : Mt) : MtR X (mtI m) (rM w0 m) := by
 intro pins s σ H x xs v us Q I rx r h
 obtain ⟨w, M, dx, ds, QD, rfl, e0, R, hx, hs, g, a⟩ := h
 obtain ⟨n, rfl, g2⟩ := W2 g; clear g; have g := g2
 cases m with
 | append =>
  obtain ⟨x, rfl, g2⟩ := Q3 g; clear g; have g := g2
  obtain ⟨_, rfl⟩ := Y6.mp hx
  obtain ⟨y, rfl, ry⟩ := rds1 hs
  obtain ⟨ds, g1, g2, g3⟩ := g
  obtain ⟨hn, vs, q1, q2⟩ := R.list g1
  obtain ⟨x1, x2⟩ := Xv R hn q1 (q2.append (RDs.cons ry (RDs.nil w)))
  exact Q4 pins s σ w.H _ _ v us Q I rx r ⟨_, vs, y, rfl, rfl, q1, by rw [q2.length]; exact g2, a _ _ _ _ x1 x2 (Zy.mpr rfl) g3⟩
 | index1 =>
  obtain ⟨x, rfl, g2⟩ := Q3 g; clear g; have g := g2
  obtain ⟨_, rfl⟩ := Y6.mp hx
  obtain ⟨y, rfl, ry⟩ := rds1 hs
  obtain ⟨ds, k, z, g1, fd, fs, g2, g4, g5, g3⟩ := g
  obtain ⟨hn, vs, q1, q2, _⟩ := R.listL g1
  rw [e0, ← hK] at q1
  obtain ⟨zv, z1, z2⟩ := q2.get g2
  have fl := (Z51 fd ry fs q2).2
  have fz : ∀ {u : D} {j : Nat}, ds[j]? = some u → Xr u = true := fun {u j} h => by
   rw [List.all_eq_true] at fs
   exact fs _ (List.mem_of_getElem? h)
  refine Zb4 pins s σ w.H _ _ v us Q I rx r ⟨_, vs, y, k, zv, rfl, rfl, q1, Ro fd ry, fl, z1, ?_, ?_, a _ w _ M (Ext.refl w) R (Zb.mpr rfl) g3⟩
  ·rw [Gg (fz g2) fd z2 ry]; exact g4
  ·intro j u hj hu
   have hjl : j < ds.length := by rw [← q2.length]; exact (List.getElem?_eq_some_iff.mp hu).1
   obtain ⟨u', w1, w2⟩ := q2.get (List.getElem?_eq_getElem hjl)
   rw [hu] at w1
   cases w1
   rw [Gg (fz (List.getElem?_eq_getElem hjl)) fd w2 ry]
   exact g5 j _ hj (List.getElem?_eq_getElem hjl)
 | get2 =>
  obtain ⟨x, y, rfl, g2⟩ := Qt g; clear g; have g := g2
  obtain ⟨_, rfl⟩ := Y6.mp hx
  obtain ⟨y, z, rfl, ry, rz⟩ := rds2 hs
  obtain ⟨kvs, k, g1, g2, g3⟩ := g
  obtain ⟨hn, vs, q1, q2⟩ := R.dict g1
  obtain ⟨u, u2, rfl, ru, ru2⟩ := G4 r
  cases (show v = Value.ref _ from rx)
  cases Q8 g2 ry
  refine Zt6 (by omega) I (DGet.k (k := k) q1) ru ru2 fun w' s' I' rw' => ⟨_, w.H, I', rw', ?_⟩
  rcases q2.val k with ⟨n1, n2⟩ | ⟨d', v', n1, n2, n3⟩
  ·rw [n1] at g3
   rw [n2]
   exact a _ w _ M (Ext.refl w) R rz g3
  ·rw [n1] at g3
   rw [n2]
   exact a _ w _ M (Ext.refl w) R n3 g3
 | pop0 =>
  obtain ⟨rfl, g2⟩ := Nc g; clear g; have g := g2
  obtain ⟨_, rfl⟩ := Y6.mp hx
  cases rds0 hs
  obtain ⟨ds, d, g1, g2, g3⟩ := g
  obtain ⟨hn, vs, q1, q2⟩ := R.list g1
  obtain ⟨y, z1, z2⟩ := q2.get g2
  obtain ⟨x1, x2⟩ := Xv R hn q1 q2.dropLast
  exact Zz8 pins s σ w.H _ _ v us Q I rx r ⟨_, vs, y, rfl, rfl, q1, by rw [q2.length]; exact z1, a _ _ _ _ x1 x2 (z2.ext x1) g3⟩
 | clear =>
  obtain ⟨rfl, g2⟩ := Nc g; clear g; have g := g2
  obtain ⟨_, rfl⟩ := Y6.mp hx
  cases rds0 hs
  obtain ⟨ds, g1, g3⟩ := g
  obtain ⟨hn, vs, q1, q2⟩ := R.list g1
  obtain ⟨x1, x2⟩ := Xv R hn q1 (RDs.nil w)
  exact Z95 pins s σ w.H _ _ v us Q I rx r ⟨_, vs, rfl, rfl, q1, a _ _ _ _ x1 x2 (Zy.mpr rfl) g3⟩
 | reverse =>
  obtain ⟨rfl, g2⟩ := Nc g; clear g; have g := g2
  obtain ⟨_, rfl⟩ := Y6.mp hx
  cases rds0 hs
  obtain ⟨ds, g1, g3⟩ := g
  obtain ⟨hn, vs, q1, q2⟩ := R.list g1
  obtain ⟨x1, x2⟩ := Xv R hn q1 q2.reverse
  exact C3 pins s σ w.H _ _ v us Q I rx r ⟨_, vs, rfl, rfl, q1, a _ _ _ _ x1 x2 (Zy.mpr rfl) g3⟩
end
def gF (w0 : Vw) (tg : List Nat) : TG := fun v σ H Q => ∃ w σD M d QD, StOk w0 w σD M σ H ∧ RD w d v ∧ tgD tg d σD QD ∧ ∀ σ' σD', REnv w σD' σ' → QD σD' → Q σ' H
def gAll : List Nat → TGs
 | [] => gNil
 | i :: is => Zy2 (Zb1 i) (gAll is)
theorem Fv {w : Vw} {H : Hp} {Q : L2.St → Hp → Prop} {QD : DEnv → Prop} (k : ∀ σ' σD', REnv w σD' σ' → QD σD' → Q σ' H) : ∀ (is : List Nat) {ds : List D} {vs : List V} {σ : L2.St} {σD : DEnv}, RDs w ds vs → ds.length = is.length → REnv w σD σ →
  QD ((is.zip ds).foldl (fun σ p => σ.set p.1 (some p.2)) σD) → gAll is vs σ H Q
 | [], ds, vs, σ, σD, r, hl, e, q => by
  cases List.length_eq_zero_iff.mp hl
  cases rds0 r
  exact ⟨rfl, k _ _ e q⟩
 | i :: is, ds, vs, σ, σD, r, hl, e, q => by
  cases ds with
  | nil => simp at hl
  | cons d ds =>
   unfold RDs at r
   obtain ⟨v, vr, rfl, h1, h2⟩ := r
   refine ⟨v, vr, rfl, ?_⟩
   show gAll is vr (σ.set i (some v)) H Q
   exact Fv k is h2 (by simpa using hl) (e.set i h1) q
section
variable {X : Cx} {w0 : Vw}
theorem PG.imp {e : Expr} {t t' : TG} (h : PG X e t) (k : ∀ v σ H Q, t' v σ H Q → t v σ H Q) : PG X e t' := fun pins s σ H v u Q I r q => h pins s σ H v u Q I r (k v σ H Q q)
theorem Y02 {i : Nat} {e : Expr} (h : PG X e (Zb1 i)) : PG X e (gF w0 [i]) := PG.imp h fun v σ H Q ⟨w, σD, M, d, QD, S, r, g, k⟩ => k _ _ (S.env.set i r) g
theorem Zm8 {is : List Nat} {e : Expr} (hl : 2 ≤ is.length) (h : PG X e (gTup X.K is.length (gAll is))) : PG X e (gF w0 is) := PG.imp h fun v σ H Q ⟨w, σD, M, d, QD, S, r, g, k⟩ => by
 unfold tgD at g
 split at g
 ·simp at hl
 ·obtain ⟨a, vs, rfl, q1, q2⟩ := Xn.mp r
  obtain ⟨g1, g2⟩ := g
  rw [S.heap] at q1
  exact ⟨a, vs, rfl, .of q1, by rw [q2.length]; exact g1, Fv k is q2 g1 S.env g2⟩
 ·exact g.elim
end
structure Ck where
 N : List Str
 sc : Scope
 FN : List Str
 GN : List Str
 BN : List Str
 loops : Bool
 calm : Bool
 tries : Bool
 raises : List Nat
 cells : Bool
 own : List Str
def Gc (scope : Scope) : List Str := (scope.names.filter fun y => y.2 == .cell).map (·.1)
def Ck.vis (k : Ck) (x : Str) : Bool := (k.sc.names.lookup x == some .local || k.sc.names.lookup x == some .cell || k.sc.names.lookup x == some .free) && !(x == ("__debug__" : Str)) && !(x == ("__classdict__" : Str))
def Ck.glob (k : Ck) (x : Str) : Bool := k.sc.names.lookup x == some .globalImplicit && !(x == ("__debug__" : Str)) && !(x == ("__name__" : Str))
def Ck.loc (k : Ck) (x : Str) : Bool := k.sc.names.lookup x == some .local
def Ck.locC (k : Ck) (x : Str) : Bool := k.loc x || ((k.cells || k.own.contains x) && k.sc.names.lookup x == some .cell)
def Z27 : Expr → Bool
 | .Call (.Name x _) [] [] _ => x != ("super" : Str)
 | _ => true
def G5 : Expr → Bool
 | .Slice .. => false
 | _ => true
def B8 : Expr → Bool
 | .Set .. => false
 | _ => true
def Tz : Expr → Bool
 | .Starred .. => false
 | _ => true
def isIn : Cm → Bool
 | .isin | .notin => true
 | _ => false
def Zr8 (k : Ck) : List Nat → List Expr → Bool
 | [], [] => true
 | i :: is, .Name x _ :: es => k.N[i]? == some x && k.locC x && Zr8 k is es
 | _, _ => false
def Jn (k : Ck) (is : List Nat) : Expr → Bool
 | .Name x _ => match is with
  | [i] => k.N[i]? == some x && k.locC x
  | _ => false
 | .Tuple es _ _ => k.calm && decide (2 ≤ is.length) && Zr8 k is es
 | _ => false
def isM1 : Expr → Bool
 | .UnaryOp .USub (.Constant (.int j) _ _) _ => j == 1
 | _ => false
def itTg : It → Expr → Bool
 | .enm _, .Tuple .. => true
 | .enm _, _ => false
 | .zip _, .Tuple .. => true
 | .zip _, _ => false
 | _, _ => true
mutual
def chkE (k : Ck) : E → Expr → Bool
 | .var i, .Name x _ => k.N[i]? == some x && k.vis x
 | .int i, .Constant (.int j) _ _ => i == j
 | .bl b, .Constant (.bool c) _ _ => b == c
 | .non, .Constant .none _ _ => true
 | .str x, .Constant (.str y) _ _ => x == y
 | .ty t, .Name x _ => x == Str.ofString (Xz t) && k.glob x && k.BN.contains x
 | .glb g, .Name x _ => k.GN[g]? == some x && k.glob x
 | .bin op a b, .BinOp l o r _ => o == opOf op && chkE k a l && chkE k b r
 | .neg a, .UnaryOp .USub l _ => chkE k a l
 | .not a, .UnaryOp .Not l _ => chkE k a l
 | .cmp op a b, .Compare l [o] [r] _ => o == cmOf op && (!isIn op || B8 r) && chkE k a l && chkE k b r
 | .bop true es, .BoolOp .And ls _ => Wn k es ls
 | .bop false es, .BoolOp .Or ls _ => Wn k es ls
 | .ife t a b, .IfExp x l r _ => chkE k t x && chkE k a l && chkE k b r && noIf t
 | .lst es, .List ls _ => Wn k es ls
 | .tup es, .Tuple ls _ _ => Wn k es ls
 | .dict0, .Dict [] [] _ => true
 | .dct a b, .Dict [some l] [r] _ => chkE k a l && chkE k b r
 | .ix a b, .Subscript l r _ => G5 r && chkE k a l && chkE k b r
 | .sl a lo hi, .Subscript l (.Slice x y none _) _ => chkE k a l && chkO k lo x && chkO k hi y
 | .callw i f g es, .Call (.Name x _) ls [] _ => k.calm && k.N[i]? == some x && k.vis x && (k.FN[f]?.isSome && k.FN[f]? == k.GN[g]?) && Wn k es ls
 | .setf b a, .Call (.Name x _) [.Call (.Name y _) [l] [] _] [] _ => k.calm && x == ("len" : Str) && y == ("set" : Str) && k.glob x && k.glob y && k.BN.contains x && k.BN.contains y && Tz l && chkE k a l
 | .rev a, .Subscript l (.Slice none none (some z) _) _ => chkE k a l && isM1 z
 | .call f es, .Call (.Name x _) ls [] _ => k.calm && k.FN[f]? == some x && k.glob x && Wn k es ls
 | .bf b es, .Call (.Name x _) (l :: ls) [] _ => (k.calm || Qw b) && x == (bfOf b).1 && k.glob x && k.BN.contains x && Wn k es (l :: ls)
 | .mt m o es, .Call (.Attribute l nm ap) ls [] cp => nm == mtN m && Z27 l && ap.endLine == cp.line && decide (ls.length < 30) && chkE k o l && Wn k es ls
 | .comp N' js tg it cd e, .ListComp el [⟨t, iter, ifs, 0⟩] scope _ => k.calm && Ti k.sc k.N N' js scope && B8 iter && Z89 k it iter && decide N'.Nodup &&
   Jn { k with N := N', sc := V1 scope k.sc, cells := false, own := Gc scope, tries := false, raises := [] } tg t && chkC { k with N := N', sc := V1 scope k.sc, cells := false, own := Gc scope, tries := false, raises := [] } cd ifs && chkE { k with N := N', sc := V1 scope k.sc, cells := false, own := Gc scope, tries := false, raises := [] } e el && itTg it t
 | _, _ => false
def Wn (k : Ck) : Es → List Expr → Bool
 | .nil, [] => true
 | .cons e r, x :: xs => chkE k e x && Tz x && Wn k r xs
 | _, _ => false
def chkO (k : Ck) : Eo → Option Expr → Bool
 | .no, none => true
 | .yes e, some x => chkE k e x
 | _, _ => false
def chkC (k : Ck) : Eo → List Expr → Bool
 | .no, [] => true
 | .yes e, [x] => chkE k e x && noIf e
 | _, _ => false
def Z89 (k : Ck) : It → Expr → Bool
 | .seq e, x => chkE k e x
 | .rng1 a, .Call (.Name x _) [l] [] _ => x == ("range" : Str) && k.glob x && k.BN.contains x && Tz l && chkE k a l
 | .rng2 a b, .Call (.Name x _) [l, r] [] _ => x == ("range" : Str) && k.glob x && k.BN.contains x && Tz l && Tz r && chkE k a l && chkE k b r
 | .enm e, .Call (.Name x _) [l] [] _ => x == ("enumerate" : Str) && k.glob x && k.BN.contains x && Tz l && chkE k e l
 | .zip es, .Call (.Name x _) (l :: ls) [] _ => x == ("zip" : Str) && k.glob x && k.BN.contains x && Wn k es (l :: ls)
 | _, _ => false
def noIf : E → Bool
 | .ife _ _ _ => false
 | .not a => noIf a
 | .bop _ es => Cb es
 | _ => true
def Cb : Es → Bool
 | .nil => true
 | .cons e r => noIf e && Cb r
end
def Z86 (X : Cx) (x : Str) (sp : DSp) : Prop :=
 ∃ (kk : Nat) (f : Addr) (fd : FuncData) (ps : List Str) (ds : List Value) (dvs : List V) (dD : List D) (sp0 : DSp), FnOk X.prog X.w X.K X.mg X.base (CX1 X.prog X.w) kk f fd ps (spF X.K sp0) ∧ Room kk X.A ∧ X.mg x = some (.ref f) ∧ PySem.W.keepIn X.K (.ref f) = true ∧
  Ya X.K fd ps ds ∧ Vals dvs ds ∧ (∀ w : Vw, w.K = X.K → RDs w dD dvs) ∧ ∀ as M Q Z, sp as M Q Z → sp0 (as ++ dD) M Q Z
structure Good (c : Cfg) (k : Ck) (Z : DX) (w0 : Vw) (X : Cx) : Prop where
 hK : X.K = c.K
 wK : w0.K = c.K
 N : X.N = k.N
 nd : X.N.Nodup
 sc : X.env.scope = k.sc
 calm : k.calm = true → X.calm = true
 units : X.A.units + 64 < cLine
 fns : k.calm = true → ∀ (f : Nat) (x : Str) (sp : DSp), k.FN[f]? = some x → c.Γ[f]? = some sp → Z86 X x sp
 flen : k.FN.length = c.Γ.length
 glb : ∀ (g : Nat) (x : Str) (d : D), k.GN[g]? = some x → c.G[g]? = some d → ∃ v u, X.mg x = some u ∧ RelV v u ∧ ∀ w : Vw, w.K = X.K → RD w d v
 blt : ∀ x, x ∈ k.BN → X.mg x = none
 exc : ∃ E, Ny (CX1 X.prog X.w) X E ∧ ∀ cls dd H', xkOf w0 Z cls dd H' → E cls dd H'
 stk : k.tries = true → X.stack = X.env :: X.outer ∧ X.env.frame = some X.env.locals
 po : k.loops = true → PassesOwn (model X.prog X.w) X.A X.env X.xe
 fnc : k.cells = true → ∀ x, X.fn x = true
 fno : ∀ x, x ∈ k.own → X.fn x = true
theorem Ql {w w' : Vw} {Z : DX} {cls : Value} {dd : Option Addr} {H' : Hp} (x : Ext w w') (h : xkOf w' Z cls dd H') : xkOf w Z cls dd H' := by
 obtain ⟨C, dx, r, w2, row, M, e1, e2, e3, e4, h5⟩ := h
 exact ⟨C, dx, r, w2, row, M, e1, e2, e3, x.trans e4, h5⟩
def ttD (f : DE) : DT := fun σ M Q => f σ M fun x M1 => truD M1 x fun b => Q b M1
section
variable {c : Cfg} {k : Ck} {Z : DX} {w0 : Vw} {X : Cx}
theorem Good.gl (G : Good c k Z w0 X) {x : Str} (h : k.glob x = true) : Gl X x ∧ (x == ("__debug__" : Str)) = false ∧ x ≠ "__name__" := by
 unfold Ck.glob at h
 simp only [Bool.and_eq_true, beq_iff_eq, Bool.not_eq_true', beq_eq_false_iff_ne] at h
 refine ⟨?_, by simpa using h.1.2, h.2⟩
 unfold Gl Env.kindOf
 rw [G.sc]; exact h.1.1
theorem Good.vis (G : Good c k Z w0 X) {x : Str} (h : k.vis x = true) : Vis X.env.scope x ∧ (x == ("__debug__" : Str)) = false ∧ (x == ("__classdict__" : Str)) = false := by
 unfold Ck.vis at h
 simp only [Bool.and_eq_true, beq_iff_eq, Bool.not_eq_true', Bool.or_eq_true] at h
 refine ⟨?_, h.1.2, h.2⟩
 unfold Vis
 rw [G.sc]
 rcases h.1.1 with (q | q) | q
 ·exact .inl q
 ·exact .inr (.inl q)
 ·exact .inr (.inr q)
theorem Good.locC (G : Good c k Z w0 X) {x : Str} (h : k.locC x = true) : Loc X.env.scope x ∧ (X.fn x = true ∨ X.env.scope.names.lookup x = some .local) := by
 unfold Ck.locC Ck.loc at h
 rw [Bool.or_eq_true, Bool.and_eq_true] at h
 rcases h with h | ⟨h1, h2⟩
 ·have hl : X.env.scope.names.lookup x = some .local := by rw [G.sc]; exact eq_of_beq h
  exact ⟨.inl hl, .inr hl⟩
 ·refine ⟨.inr (by rw [G.sc]; exact eq_of_beq h2), .inl ?_⟩
  rw [Bool.or_eq_true, List.contains_iff_mem] at h1
  rcases h1 with z | z
  ·exact G.fnc z x
  ·exact G.fno x z
theorem Good.eK (G : Good c k Z w0 X) : X.K = w0.K := G.hK.trans G.wK.symm
theorem StOk.K {w w0 : Vw} {σD : DEnv} {M : Z3} {σ : L2.St} {H : Hp} (S : StOk w0 w σD M σ H) : w.K = w0.K := S.ext.K
theorem Yq {f : DE} {σ : L2.St} {w : Vw} {σD : DEnv} {M : Z3} {H : Hp} {Q : VK} {QD : DK} (S : StOk w0 w σD M σ H) (h : f σD M QD) (a : Aft w QD Q) : tF w0 f σ H Q := ⟨w, σD, M, QD, S, h, a⟩
theorem J7 {l : Expr} {nm : Str} {env : Env} (h : Z27 l = true) : attributeBase l nm env (eval l env) = eval l env := by
 unfold attributeBase
 split
 ·rename_i id np pos
  have : (id != "super" || nm == "__class__" || env.kindOf "super" != some .globalImplicit || env.kindOf "__class__" != some .free) = true := by
   have : (id != ("super" : Str)) = true := h
   rw [this]; rfl
  simp only [this, if_true]
 ·rfl
theorem Zt {x : Expr} {xs : List Expr} {env : Env} (h : Tz x = true) : starEach (x :: xs) env = (false, eval x env) :: starEach xs env := by
 cases x <;> first | rfl | cases h
theorem Xk {k : Ck} {env : Env} : ∀ (es : Es) (xs : List Expr), Wn k es xs = true → (starEach xs env).all (fun p => !p.1) = true
 | .nil, [], _ => rfl
 | .nil, _ :: _, h => by simp [Wn] at h
 | .cons e r, [], h => by simp [Wn] at h
 | .cons e r, x :: xs, h => by
  simp only [Wn, Bool.and_eq_true] at h
  rw [Zt h.1.2]
  simp only [List.all_cons, Bool.not_false, Bool.true_and]
  exact Xk r xs h.2
theorem Vs {pos : Pos} {l : List (Bool × Sem Value)} (h : l.all (fun p => !p.1) = true) : (backTo pos l).any (·.1) = false := by
 induction l with
 | nil => rfl
 | cons p r ih =>
  simp only [List.all_cons, Bool.and_eq_true, Bool.not_eq_true'] at h
  show (p.1 || (backTo pos r).any (·.1)) = false
  rw [h.1, ih h.2]; rfl
theorem Zf0 {pos : Pos} {l : List (Bool × Sem Value)} (h : l.all (fun p => !p.1) = true) : (backTo pos l).all (fun x => !x.1) = true := by
 induction l with
 | nil => rfl
 | cons p r ih =>
  simp only [List.all_cons, Bool.and_eq_true] at h
  show ((!p.1) && (backTo pos r).all (fun x => !x.1)) = true
  rw [h.1, ih h.2]; rfl
theorem Y31 {f : DE} {ex : Expr} (G : Good c k Z w0 X) (h : PE X ex (tF w0 f)) (he : ∀ whole, isTrue ex X.env whole = (do let v ← whole; standAt ex.pos; holding [v] (truthy v))) : PT X ex (tFT w0 (ttD f)) := by
 refine PT.imp (Zg1 h he) fun σ H Q ⟨w, σD, M, QD, S, g, a⟩ => ?_
 refine Yq S g fun v w' d M' x r rd q => ?_
 obtain ⟨b, t1, t2⟩ := Tw (K := X.K) (by rw [x.K, S.K, G.eK]) r rd q
 exact ⟨b, t1, a b w' M' x r t2⟩
theorem Zr6 {f : DE} {ex : Expr} (h : PT X ex (Zz9 (tF w0 f))) (hb : ∀ σD M QD, f σD M QD → f σD M fun d M' => (∃ b, d = .bl b) ∧ QD d M') : PT X ex (tFT w0 (ttD f)) := by
 refine PT.imp h fun σ H Q ⟨w, σD, M, QD, S, g, a⟩ => ?_
 refine Yq S (hb _ _ _ g) fun v w' d M' x r rd q => ?_
 obtain ⟨⟨b, rfl⟩, q⟩ := q
 cases Xt.mp rd
 exact ⟨b, rfl, a b w' M' x r q⟩
theorem Cz {fa fb : DE} {g : D → D → Z3 → DK → Prop} {σ : L2.St} {H : Hp} {Q : VK} (h : tF w0 (fun σD M QD => fa σD M fun x M1 => fb σD M1 fun y M2 => g x y M2 QD) σ H Q) : tOp (rF w0 g) (tF w0 fa) (tF w0 fb) σ H Q := by
 obtain ⟨w, σD, M, QD, S, g0, a⟩ := h
 refine Yq S g0 fun x w1 dx M1 x1 r1 rx q1 => ?_
 refine Yq (S.next x1 r1) q1 fun y w2 dy M2 x2 r2 ry q2 => ?_
 exact ⟨w2, M2, dx, dy, QD, rfl, (S.ext.trans x1).trans x2, r2, rx.ext x2, ry, q2, a.ext (x1.trans x2)⟩
theorem Np {fa fb : DE} {g : Z3 → D → D → (Bool → Prop) → Prop} {σ : L2.St} {H : Hp} {Q : VK} (h : tF w0 (fun σD M QD => fa σD M fun x M1 => fb σD M1 fun y M2 => g M2 x y fun b => QD (.bl b) M2) σ H Q) : tOp (rB w0 g) (tF w0 fa) (tF w0 fb) σ H Q := by
 obtain ⟨w, σD, M, QD, S, g0, a⟩ := h
 refine Yq S g0 fun x w1 dx M1 x1 r1 rx q1 => ?_
 refine Yq (S.next x1 r1) q1 fun y w2 dy M2 x2 r2 ry q2 => ?_
 exact ⟨w2, M2, dx, dy, _, rfl, ((S.ext.trans x1).trans x2).K, r2, rx.ext x2, ry, q2, fun b hb => a _ w2 _ M2 (x1.trans x2) r2 (Xt.mpr rfl) hb⟩
theorem Zo0 {a : Expr} {ta : TE} {pos : Pos} (ha : PE X a ta) : PE X (.UnaryOp .Not a pos) (fun σ H Q => ta σ H fun x H1 => ∃ b, TruV X.K x H1 b ∧ Q (.bl (!b)) H1) := by
 intro pins s σ H Q I h
 refine UnaryOp_ (thn (ha pins s σ H _ I h) fun v s1 ⟨x, H1, I1, r1, q1⟩ => ?_)
 refine not_of (thn (Gz pins s1 σ H1 x v (fun b H2 => Q (.bl (!b)) H2) I1 r1 q1) fun b s2 ⟨H2, I2, q2⟩ => ⟨.bl (!b), H2, I2, rfl, q2⟩)
theorem Zo7 (t : Ty) : bootBuiltins (Str.ofString (Xz t)) = some (.type (Xz t)) := by
 cases t
 ·exact boot_int
 ·exact boot_str
 ·exact boot_bool
 ·exact boot_list
 ·exact boot_tuple
 ·exact boot_dict
 ·show bootBuiltins "ValueError" = some (.type "ValueError")
  decide +kernel
theorem Gw : bootBuiltins "sorted" = some (.builtin "sorted") := by decide +kernel
theorem Zd4 : bootBuiltins "set" = some (.type "set") := by decide +kernel
theorem Zr3 (b : Bf) : bootBuiltins (bfOf b).1 = some (bfOf b).2 := by
 cases b <;> first | exact PySem.boot_len | exact boot_isinstance | exact PyProof.Rows.boot_min | exact PyProof.Rows.boot_max | exact boot_list | exact boot_tuple | exact boot_dict | exact boot_str | exact Gw | exact boot_int
end
def JOk (w1 : Vw) (J : L2.It) (own : Own) (xs : List D) : Prop := ∀ w M, Ext w1 w → RS w M → Oo own xs M → ∀ i : Nat,
 (∀ d, xs[i]? = some d → J.go i w.H ∧ ∀ x H', J.yld i w.H x H' → ∃ w', w'.H = H' ∧ Ext w w' ∧ RS w' M ∧ RD w' d x) ∧ (xs.length ≤ i → J.stop i w.H)
def iF (w0 : Vw) (f : DEnv → Z3 → (Own → List D → Z3 → Prop) → Prop) : TI := fun σ H R => ∃ w σD M QD, StOk w0 w σD M σ H ∧ f σD M QD ∧
 ∀ J w' own xs M', Ext w w' → RS w' M' → JOk w' J own xs → QD own xs M' → R J w'.H
section
variable {c : Cfg} {k : Ck} {Z : DX} {w0 : Vw} {X : Cx}
theorem PI.imp {tg it : Expr} {t t' : TI} (h : PI X tg it t) (q : ∀ σ H R, t' σ H R → t σ H R) : PI X tg it t' := fun pins s σ H R I z => h pins s σ H R I (q σ H R z)
theorem Y00 {tg l : Expr} {tl : TE} (hl : PE X l tl) : PI X tg l (fun σ H R => tl σ H fun x H1 => (∃ a, x = .ref a ∧ (∃ xs, SqL X.K H1 a xs) ∧ R (Itl X.K a) H1) ∨ ∃ a, x = .ref a ∧ (∃ xs, SqT X.K H1 a xs) ∧ R (Itt X.K a) H1) := by
 intro pins s σ H R I h
 refine thn (hl pins s σ H _ I h) fun v s1 ⟨x, H1, I1, r1, q1⟩ => ?_
 have fp : ∀ b ∈ [s1.heap.objs.size], FpOk X pins H1 b := fun b hb => by
  have e : b = s1.heap.objs.size := by simpa using hb
  subst e
  exact I1.fpOk (Nat.le_refl _) (I1.hok.fresh (Nat.le_refl _))
 rcases q1 with ⟨a, e, ⟨xs, hq⟩, q⟩ | ⟨a, e, ⟨xs, hq⟩, q⟩
 ·subst e
  cases r1
  obtain ⟨its, rv, p, hz⟩ := I1.list hq
  refine wpAny_pyIter_list p.isList ?_
  exact ⟨s1.heap.objs.size, [s1.heap.objs.size], _, _, H1, rfl, I1.kept (t' := s1.toks) fun b o e => Heap.get?_push_of_some _ e, By a _, ⟨_, Heap.get?_push_size _ rfl, rfl, rfl⟩, fp, q⟩
 ·subst e
  cases r1
  obtain ⟨its, rv, p, hz⟩ := I1.tuple hq
  refine wpAny_pyIter_tuple (show s1.heap.IsTuple a its.toArray from p) ?_
  exact ⟨s1.heap.objs.size, [s1.heap.objs.size], _, _, H1, rfl, I1.kept (t' := s1.toks) fun b o e => Heap.get?_push_of_some _ e, Cf a _, ⟨_, Heap.get?_push_size _ rfl, rfl, rfl⟩, fp, q⟩
theorem Zh1 {w1 : Vw} {n : Nat} {xs : List D} (hK : X.K = w1.K) (hn : n < w1.n) : JOk w1 (Itl X.K (w1.μ n)) (.lst n) xs := by
 intro w M x R st i
 obtain ⟨_, vs, q1, q2, _⟩ := R.listL st
 rw [x.μ n hn, x.K, ← hK] at q1
 refine ⟨fun d e => ?_, fun hl => ⟨vs, q1, by rw [q2.length]; exact hl⟩⟩
 obtain ⟨v, z1, z2⟩ := q2.get e
 refine ⟨⟨vs, v, q1, z1⟩, fun y H' ⟨e1, e2⟩ => ⟨w, e1.symm, Ext.refl w, R, ?_⟩⟩
 have := e2 vs q1
 rw [z1] at this
 cases this
 exact z2
theorem Ze9 {w1 : Vw} {n : Nat} {xs : List D} (hK : X.K = w1.K) (hn : n < w1.n) : JOk w1 (Ite X.K (w1.μ n)) (.enm n) xs := by
 intro w M x R st i
 obtain ⟨ys, st, rfl⟩ := st
 obtain ⟨_, vs, q1, q2, _⟩ := R.listL st
 rw [x.μ n hn, x.K, ← hK] at q1
 refine ⟨fun d e => ?_, fun hl => ⟨vs, q1, by rw [q2.length]; unfold Ni at hl; rw [List.length_mapIdx] at hl; exact hl⟩⟩
 unfold Ni at e
 rw [List.getElem?_mapIdx, Option.map_eq_some_iff] at e
 obtain ⟨d, e, rfl⟩ := e
 obtain ⟨v, z1, z2⟩ := q2.get e
 refine ⟨⟨vs, v, q1, z1⟩, fun y H' ⟨p, u, hp, e1, e2, e3⟩ => ?_⟩
 have := e3 vs q1
 rw [z1] at this
 cases this
 subst e1 e2
 obtain ⟨a1, a2, a3⟩ := Qc R hp (RDs.cons (Zb.mpr (rfl : V.int (i : Int) = _)) (RDs.cons z2 (RDs.nil w)))
 exact ⟨_, rfl, a1, a2, a3⟩
theorem Zq2 {w : Vw} {ys zs : List D} {us vs : List V} (h1 : RDs w ys us) (h2 : RDs w zs vs) {i : Nat} {d : D} (e : (zipT ys zs)[i]? = some d) : ∃ x y u v, d = .tup [x, y] ∧ us[i]? = some u ∧ vs[i]? = some v ∧ RD w x u ∧ RD w y v := by
 unfold zipT at e
 rw [List.getElem?_map, Option.map_eq_some_iff] at e
 obtain ⟨p, e, rfl⟩ := e
 rw [List.getElem?_zip_eq_some] at e
 obtain ⟨u, a1, a2⟩ := h1.get e.1
 obtain ⟨v, b1, b2⟩ := h2.get e.2
 exact ⟨_, _, u, v, rfl, a1, b1, a2, b2⟩
theorem Zm3 {w1 : Vw} {n m : Nat} {xs : List D} (hK : X.K = w1.K) (hn : n < w1.n) (hm : m < w1.n) : JOk w1 (Itz X.K (w1.μ n) (w1.μ m)) (.two n m) xs := by
 intro w M x R st i
 obtain ⟨ys, zs, st, st2, rfl⟩ := st
 obtain ⟨_, us, q1, q2, _⟩ := R.listL st
 obtain ⟨_, vs, p1, p2, _⟩ := R.listL st2
 rw [x.μ n hn, x.K, ← hK] at q1
 rw [x.μ m hm, x.K, ← hK] at p1
 refine ⟨fun d e => ?_, fun hl => ⟨us, vs, q1, p1, ?_⟩⟩
 ·obtain ⟨dx, dy, u, v, rfl, a1, a2, a3, a4⟩ := Zq2 q2 p2 e
  refine ⟨⟨us, vs, u, v, q1, p1, a1, a2⟩, fun y H' ⟨p, u', v', hp, e1, e2, e3, e4⟩ => ?_⟩
  have h3 := e3 us q1
  have h4 := e4 vs p1
  rw [a1] at h3
  rw [a2] at h4
  cases h3
  cases h4
  subst e1 e2
  obtain ⟨b1, b2, b3⟩ := Qc R hp (RDs.cons a3 (RDs.cons a4 (RDs.nil w)))
  exact ⟨_, rfl, b1, b2, b3⟩
 ·have l1 := q2.length
  have l2 := p2.length
  unfold zipT at hl
  rw [List.length_map, List.length_zip] at hl
  omega
theorem Z01 {w1 : Vw} {a : Addr} {vs : List V} {xs : List D} (hK : X.K = w1.K) (h : SqT w1.K w1.H a vs) (r : RDs w1 xs vs) : JOk w1 (Itt X.K a) .no xs := by
 intro w M x R st i
 have q1 := x.sqT h
 rw [x.K, ← hK] at q1
 have q2 := r.ext x
 refine ⟨fun d e => ?_, fun hl => ⟨vs, q1, by rw [q2.length]; exact hl⟩⟩
 obtain ⟨v, z1, z2⟩ := q2.get e
 refine ⟨⟨vs, v, q1, z1⟩, fun y H' ⟨e1, e2⟩ => ⟨w, e1.symm, Ext.refl w, R, ?_⟩⟩
 have := e2 vs q1
 rw [z1] at this
 cases this
 exact z2
theorem Z50 {w1 : Vw} {lo : Int} {n : Nat} : JOk w1 (Itr lo n) .no (Pe lo n) := by
 intro w M x R st i
 unfold Pe
 refine ⟨fun d e => ?_, fun hl => ?_⟩
 ·rw [List.getElem?_map, Option.map_eq_some_iff] at e
  obtain ⟨j, h1, rfl⟩ := e
  obtain ⟨h2, h3⟩ := List.getElem?_eq_some_iff.mp h1
  have hj : j = i := by simpa using h3.symm
  subst hj
  have h4 : j < n := by simpa using h2
  exact ⟨h4, fun y H' ⟨e1, e2⟩ => ⟨w, e1.symm, Ext.refl w, R, by rw [e2]; exact Zb.mpr rfl⟩⟩
 ·have : n ≤ i := by simpa using hl
  exact this
theorem Z31 {X : Cx} {N' : List Str} {scope : Scope} {cl : List (Str × Addr)} {C : Addr} {fp : List Addr} {pins : List (Addr × Obj)} {s : Shared} {H : Hp} : (cxC X N' scope cl C fp pins s H).env.scope = V1 scope X.env.scope := rfl
theorem Good.block (G : Good c k Z w0 X) (hc : k.calm = true) {N' : List Str} {scope : Scope} (hn : N'.Nodup) (cl : List (Str × Addr)) (C : Addr) (fp : List Addr) (pins : List (Addr × Obj)) (s : Shared) (H : Hp) :
  Good c { k with N := N', sc := V1 scope k.sc, cells := false, own := Gc scope, tries := false, raises := [] } noX w0 (cxC X N' scope cl C fp pins s H) where
 hK := G.hK
 wK := G.wK
 N := rfl
 nd := hn
 sc := by rw [Z31, G.sc]
 calm := fun _ => G.calm hc
 units := G.units
 fns := fun _ f x sp h1 h2 => by
  obtain ⟨kk, f, fd, ps, ds, dvs, dD, sp0, h⟩ := G.fns hc f x sp h1 h2
  exact ⟨kk, f, fd, ps, ds, dvs, dD, sp0, h⟩
 flen := G.flen
 glb := G.glb
 blt := G.blt
 exc := ⟨E0, fun _ _ _ _ _ _ _ h => by
  obtain ⟨_, _, _, _, _, _, _, _, _, _, _, _, _, _, _, h⟩ := h
  exact h.elim, fun cls dd H' h => by
  obtain ⟨_, _, _, _, _, _, _, _, _, _, _, _, _, h⟩ := h
  exact h.elim⟩
 stk := fun h => by cases h
 po := fun _ => PassesOwn.never
 fnc := fun h => by cases h
 fno := fun x hx => by
  show (scope.names.any fun y => y.1 == x && y.2 == NameKind.cell) = true
  have hx : x ∈ (scope.names.filter fun y => y.2 == NameKind.cell).map (·.1) := hx
  obtain ⟨y, hy, rfl⟩ := List.mem_map.mp hx
  obtain ⟨h1, h2⟩ := List.mem_filter.mp hy
  rw [List.any_eq_true]
  exact ⟨y, h1, by rw [beq_self_eq_true, Bool.true_and]; exact h2⟩
theorem Good.tgt (G : Good c k Z w0 X) : ∀ (is : List Nat) (ex : Expr), Jn k is ex = true → PG X ex (gF w0 is) := by
 have one : ∀ (i : Nat) (x : Str) (pos : Pos), k.N[i]? = some x → k.locC x = true → PG X (.Name x pos) (Zb1 i) := fun i x pos h1 h2 => by
  obtain ⟨l1, l2⟩ := G.locC h2
  exact Zl5 G.nd (by rw [G.N]; exact h1) l1 l2
 have many : ∀ (is : List Nat) (es : List Expr), Zr8 k is es = true → PGs X es (gAll is) ∧ (assignEach es X.env).length = is.length ∧ (assignEach es X.env).findIdx? (·.1) = none := by
  intro is
  induction is with
  | nil =>
   intro es h
   cases es with
   | nil => exact ⟨Zq9, rfl, rfl⟩
   | cons e es => exact absurd h Bool.false_ne_true
  | cons i is ih =>
   intro es h
   cases es with
   | nil => exact absurd h Bool.false_ne_true
   | cons e es =>
    cases e with
    | Name x pos =>
     change (_ && _) = true at h
     simp only [Bool.and_eq_true, beq_iff_eq] at h
     obtain ⟨h1, h2, h3⟩ := ih es h.2
     refine ⟨Zf9 (one i x pos h.1.1 h.1.2) h1 rfl, ?_, ?_⟩
     ·show (assignEach es X.env).length + 1 = is.length + 1
      rw [h2]
     ·show ((false, _) :: assignEach es X.env).findIdx? (·.1) = none
      rw [List.findIdx?_cons, h3]
      rfl
    | _ => exact absurd h Bool.false_ne_true
 intro is ex h
 cases ex with
 | Name x pos =>
  match is, h with
  | [i], h =>
   change (_ && _) = true at h
   simp only [Bool.and_eq_true, beq_iff_eq] at h
   exact Y02 (one _ x pos h.1 h.2)
  | [], h => exact absurd h Bool.false_ne_true
  | _ :: _ :: _, h => exact absurd h Bool.false_ne_true
 | Tuple es kk pos =>
  change (_ && _) = true at h
  simp only [Bool.and_eq_true, decide_eq_true_eq] at h
  obtain ⟨h1, h2, h3⟩ := many is es h.2
  exact Zm8 h.1.2 (Zu9 (G.calm h.1.1) h1 h2 h3)
 | _ => exact absurd h Bool.false_ne_true
theorem Zn3 {w : Vw} {js : List (Option Nat)} {σD : DEnv} {σ : L2.St} (h : REnv w σD σ) : REnv w (capD js σD) (S7 js σ) := by
 refine ⟨by unfold capD S7; simp, fun i d e => ?_⟩
 unfold capD at e
 unfold S7
 rw [List.getElem?_map] at e ⊢
 cases hj : js[i]? with
 | none => rw [hj] at e; cases e
 | some o =>
  rw [hj] at e
  simp only [Option.map_some, Option.some.injEq] at e ⊢
  cases o with
  | none => cases e
  | some j =>
   simp only [Option.bind_some] at e ⊢
   cases hz : σD[j]? with
   | none => rw [hz] at e; cases e
   | some z =>
    rw [hz] at e
    have e' : z = some d := e
    subst e'
    obtain ⟨v, q1, q2⟩ := h.2 j d hz
    exact ⟨v, by rw [q1]; rfl, q2⟩
theorem Z98 {w1 : Vw} {J : L2.It} {own : Own} {xs : List D} {tg : List Nat} {cd : DT} {el : DE} {M1 : Z3} {H1 : Hp} {σD : DEnv} {σ : L2.St} {QD : Z3 → Prop} {Q : VK} (e0 : Ext w0 w1) (hH : w1.H = H1) (R1 : RS w1 M1) (env : REnv w1 σD σ) (jk : JOk w1 J own xs)
  (h : Jo own xs tg cd el M1.length xs σD (M1 ++ [.lst []]) QD) (a : Aft w1 (fun d M => d = .ref M1.length ∧ QD M) Q) : ∀ p, H1 p = none → ∃ W : Nat → Nat → L2.St → Hp → Prop, (∃ m, W 0 m σ (upd H1 p (.lst []))) ∧
   ∀ i m σc Hc, W i m σc Hc → (J.stop i Hc ∧ Q (.ref p) Hc) ∨ (J.go i Hc ∧ ∀ x H', J.yld i Hc x H' → gF w0 tg x σc H' fun σ2 H2 => tFT w0 cd σ2 H2 fun b H3 => if b = true then tF w0 el σ2 H3 fun y H4 => ∃ acc, H4 p = some (.lst acc) ∧ acc.length < sizeLine ∧
    ∃ m', m' < m ∧ W (i + 1) m' σ2 (upd H4 p (.lst (acc ++ [y]))) else ∃ m', m' < m ∧ W (i + 1) m' σ2 H3) := by
 intro p hp
 subst hH
 obtain ⟨x1, R2, rz⟩ := Wu (xs := []) R1 hp (RDs.nil w1)
 have hz : M1.length < (w1.push p (.lst [])).n ∧ p = (w1.push p (.lst [])).μ M1.length := by
  obtain ⟨z1, z2⟩ := Y6.mp rz
  exact ⟨z1, by injection z2⟩
 refine ⟨fun i m σc Hc => ∃ w σE M, StOk w0 w σE M σc Hc ∧ Ext (w1.push p (.lst [])) w ∧ i ≤ xs.length ∧ m = xs.length - i ∧ Jo own xs tg cd el M1.length (xs.drop i) σE M QD, ⟨xs.length, w1.push p (.lst []), σD, _, ⟨rfl, e0.trans x1, R2, env.ext x1⟩, Ext.refl _, Nat.zero_le _, rfl, h⟩, ?_⟩
 rintro i m σc Hc ⟨w, σE, M, S, x2, hi, rfl, hc⟩
 have x12 : Ext w1 w := x1.trans x2
 have hp' : w.μ M1.length = p := (x2.μ _ hz.1).trans hz.2.symm
 have hlt : M1.length < w.n := Nat.lt_of_lt_of_le hz.1 x2.n
 have stp : ∀ st : Oo own xs M, _ := fun st => jk w M x12 S.rs st i
 rw [S.heap] at stp
 by_cases hil : i < xs.length
 ·rw [List.drop_eq_getElem_cons hil] at hc
  obtain ⟨st, hc⟩ := hc
  obtain ⟨j1, j2⟩ := (stp st).1 xs[i] (List.getElem?_eq_getElem hil)
  refine .inr ⟨j1, fun x H' hy => ?_⟩
  obtain ⟨w3, rfl, x3, R3, rd3⟩ := j2 x H' hy
  refine ⟨w3, σE, M, xs[i], _, ⟨rfl, S.ext.trans x3, R3, S.env.ext x3⟩, rd3, hc, fun σ2 σE2 env2 q2 => ?_⟩
  refine ⟨w3, σE2, M, _, ⟨rfl, S.ext.trans x3, R3, env2⟩, q2, fun b w4 M4 x4 R4 q4 => ?_⟩
  cases b with
  | true =>
   rw [if_pos rfl] at q4 ⊢
   refine Yq ⟨rfl, (S.ext.trans x3).trans x4, R4, env2.ext x4⟩ q4 fun y w5 dy M5 x5 R5 rd5 q5 => ?_
   obtain ⟨acc, g1, g2, g3⟩ := q5
   obtain ⟨hn, vs, z1, z2⟩ := R5.list g1
   have x35 : Ext w w5 := (x3.trans x4).trans x5
   have hp5 : w5.μ M1.length = p := (x35.μ _ hlt).trans hp'
   obtain ⟨y1, y2⟩ := Xv R5 hn z1 (z2.append (RDs.cons rd5 (RDs.nil w5)))
   rw [hp5] at z1 y1 y2
   refine ⟨vs, z1, by rw [z2.length]; exact g2, xs.length - (i + 1), by omega, w5.alloc p (.lst (vs ++ [y])), σE2, _, ⟨rfl, (S.ext.trans x35).trans y1, y2, (env2.ext (x4.trans x5)).ext y1⟩, (x2.trans x35).trans y1, hil, rfl, g3⟩
  | false =>
   rw [if_neg Bool.false_ne_true] at q4 ⊢
   exact ⟨xs.length - (i + 1), by omega, w4, σE2, M4, ⟨rfl, (S.ext.trans x3).trans x4, R4, env2.ext x4⟩, (x2.trans x3).trans x4, hil, rfl, q4⟩
 ·rw [List.drop_eq_nil_of_le (by omega)] at hc
  obtain ⟨st, hq⟩ := hc
  refine .inl ⟨(stp st).2 (by omega), ?_⟩
  have := a (.ref p) w (.ref M1.length) M x12 S.rs (Y6.mpr ⟨hlt, by rw [hp']⟩) ⟨rfl, hq⟩
  rw [S.heap] at this
  exact this
end
def Zj4 (c : Cfg) (e : E) : Prop := ∀ (k : Ck) (Z : DX) (w0 : Vw) (X : Cx) (ex : Expr), Good c k Z w0 X → chkE k e ex = true → PE X ex (tF w0 (te c Z e)) ∧ (noIf e = true → PT X ex (tFT w0 (ttD (te c Z e))))
def Zs3 (c : Cfg) (es : Es) : Prop := ∀ (k : Ck) (Z : DX) (w0 : Vw) (X : Cx) (ls : List Expr), Good c k Z w0 X → Wn k es ls = true → PA X ls (tFA w0 (tes c Z es)) ∧
 ∀ (b : Bool) (pos : Pos), PE X (.BoolOp (if b then .And else .Or) ls pos) (tF w0 (tbop c Z b es)) ∧ (Cb es = true → PW X (.BoolOp (if b then .And else .Or) ls pos) (tFT w0 (ttD (tbop c Z b es))))
def Zj2 (c : Cfg) (eo : Eo) : Prop := (∀ (k : Ck) (Z : DX) (w0 : Vw) (X : Cx) (lo : Option Expr), Good c k Z w0 X → chkO k eo lo = true → PO X lo (tFO w0 (teo c Z eo))) ∧
 ∀ (k : Ck) (Z : DX) (w0 : Vw) (X : Cx) (ls : List Expr), Good c k Z w0 X → chkC k eo ls = true → (∃ x, ls = [x] ∧ PT X x (tFT w0 (tcd c Z eo))) ∨ (ls = [] ∧ eo = .no)
def Y01 (c : Cfg) (it : It) : Prop := ∀ (k : Ck) (Z : DX) (w0 : Vw) (X : Cx) (tg ex : Expr), Good c k Z w0 X → Z89 k it ex = true → itTg it tg = true → PI X tg ex (iF w0 (tit c Z it))
section
variable {c : Cfg} {k : Ck} {Z : DX} {w0 : Vw} {X : Cx}
theorem Pt {d : D} {v : V} {σ : L2.St} {H : Hp} {Q : VK} (hv : ∀ w : Vw, w.K = w0.K → RD w d v) (h : tF w0 (fun _ M Q => Q d M) σ H Q) : tC v σ H Q := by
 obtain ⟨w, σD, M, QD, S, g, a⟩ := h
 have := a v w d M (Ext.refl w) S.rs (hv w S.K) g
 rw [S.heap] at this
 exact this
theorem both {f : DE} {ex : Expr} {b : Bool} (G : Good c k Z w0 X) (h : PE X ex (tF w0 f)) (he : ∀ whole, isTrue ex X.env whole = (do let v ← whole; standAt ex.pos; holding [v] (truthy v))) :
  PE X ex (tF w0 f) ∧ (b = true → PT X ex (tFT w0 (ttD f))) := ⟨h, fun _ => Y31 G h he⟩
theorem Cd {f : Nat} {es : Es} {x : Str} {np pos : Pos} {ls : List Expr} (G : Good c k Z w0 X) (hc : k.calm = true) (hf : k.FN[f]? = some x) (hg : k.glob x = true) (hs : Wn k es ls = true) (ih : PA X ls (tFA w0 (tes c Z es))) :
  PE X (.Call (.Name x np) ls [] pos) (tF w0 (te c Z (.call f es))) := by
 obtain ⟨g1, g2, g3⟩ := G.gl hg
 obtain ⟨E, ps, xk⟩ := G.exc
 cases hsp : c.Γ[f]? with
 | none =>
  have h1 := (List.getElem?_eq_some_iff.mp hf).1
  have h2 := List.getElem?_eq_none_iff.mp hsp
  rw [G.flen] at h1
  omega
 | some sp =>
  obtain ⟨kk, fa, fd, pr, ds, dvs, dD, sp0, F, hr, hm, hk, hb, hd, hD, hsp0⟩ := G.fns hc f x sp hf hsp
  have key : ∀ σ H Q, tF w0 (te c Z (.call f es)) σ H Q → tFA w0 (tes c Z es) σ H fun vs H1 => spF X.K sp0 (vs ++ dvs) H1 Q E := by
   rintro σ H Q ⟨w, σD, M, QD, S, g, a⟩
   refine ⟨w, σD, M, _, S, g, fun vs w' ds' M' x' r' rd' q' => ?_⟩
   have q' : sp ds' M' QD Z := by
    have := q'
    simp only [hsp] at this
    exact this
   have hKw : w'.K = X.K := by rw [x'.K, S.K, G.eK]
   exact ⟨w', ds' ++ dD, M', QD, Z, hKw, rfl, r', rd'.append (hD w' hKw), hsp0 _ _ _ _ q', a.ext x', fun cls dd H' hx => xk cls dd H' (Ql (S.ext.trans x') hx)⟩
  cases ls with
  | nil =>
   refine PE.imp (Za7 F hr g1 hm hk hb hd ps g2) fun σ H Q h => ?_
   have h2 := key σ H Q h
   obtain ⟨w, σD, M, QD, S, g, a⟩ := h2
   cases es with
   | nil =>
    have := a [] w [] M (Ext.refl w) S.rs (RDs.nil w) g
    rw [S.heap] at this
    exact this
   | cons e r => exact absurd hs Bool.false_ne_true
  | cons l ls =>
   cases es with
   | nil => exact absurd hs Bool.false_ne_true
   | cons e r =>
    change (_ && _) = true at hs
    simp only [Bool.and_eq_true] at hs
    exact PE.imp (Zm7 F hr g1 hm hk hb hd ps ih g2 (Zt hs.1.2) (Vs (Xk r ls hs.2))) key
theorem Ze3 {i : Nat} {x : Str} {p pos : Pos} {e : Expr} {es : List Expr} {t : TA} (hN : X.N[i]? = some x) (hv : Vis X.env.scope x) (hr : X.A.depth < recursionLimit) (ha : PA X (e :: es) t)
  (hd : (x == ("__debug__" : Str)) = false) (hcd : (x == ("__classdict__" : Str)) = false) (he : starEach (e :: es) X.env = (false, eval e X.env) :: starEach es X.env) (hpl : (backTo pos (starEach es X.env)).any (·.1) = false) :
  PE X (.Call (.Name x p) (e :: es) [] pos) (fun σ H Q => ∃ f cc cd k, σ[i]? = some (some (.ref f)) ∧ H f = some (.ext (Xx f cc cd)) ∧ t σ H fun vs H1 => ∃ v g, vs = [v, .int g] ∧ H1 f = some (.ext (Xx f cc cd)) ∧ H1 cd = some (.ext (Yu cd)) ∧ H1 cc = some (.ext (W3 cc k)) ∧ Q (.bl (!decide (g = k))) H1) := by
 rintro pins s σ H Q I ⟨f, cc, cd, k, hs, hf, h⟩
 refine wpAny_Call_Name_kw (thn (J9 hN hv hd hcd pins s σ H (fun v H1 => v = .ref f ∧ H1 = H) I ⟨_, hs, rfl, rfl⟩) fun u s1 ⟨v, H1, I1, r, e1, e2⟩ => ?_)
 subst e1 e2
 cases (show u = Value.ref f from r)
 have fa : ∀ {s2 : Shared} {H2 : Hp}, Inv X pins σ H2 s2 → H2 f = some (.ext (Xx f cc cd)) → PySem.W.FnAt f s2.heap := fun J q => by
  obtain ⟨⟨_, _, _, _, _, _, _, z⟩, _⟩ := J.hok f _ q
  exact ⟨_, _, _, _, z⟩
 refine PySem.W.callWith_F (fa I1 hf) (thn (ha pos pins s1 σ H1 _ I1 h) fun us s2 ⟨vs, H2, I2, r2, v, g, e1, q1, q2, q3, q4⟩ => ⟨fa I2 q1, ?_⟩) he hpl
 subst e1
 cases r2 with
 | cons z1 z2 =>
  cases z2 with
  | cons z3 z4 =>
   cases z4
   exact Zb6 I2 hr q1 q2 q3 z3 q4
theorem Zb8 {i : Nat} {x : Str} {p pos : Pos} {e : Expr} {es : List Expr} {t : TA} {kk : Nat} {f : Addr} {fd : FuncData} {ps : List Str} {sp : Sp} {dvs : List V} {ds : List Value} {CX : CXT} {E : XK} (F : FnOk X.prog X.w X.K X.mg X.base CX kk f fd ps sp) (hr : Room kk X.A) (hk : PySem.W.keepIn X.K (.ref f) = true) (hb : Ya X.K fd ps ds) (hvd : Vals dvs ds) (hx : Ny CX X E)
  (hN : X.N[i]? = some x) (hv : Vis X.env.scope x) (ha : PA X (e :: es) t) (hd : (x == ("__debug__" : Str)) = false) (hcd : (x == ("__classdict__" : Str)) = false) (he : starEach (e :: es) X.env = (false, eval e X.env) :: starEach es X.env) (hpl : (backTo pos (starEach es X.env)).any (·.1) = false) :
  PE X (.Call (.Name x p) (e :: es) [] pos) (fun σ H Q => σ[i]? = some (some (.ref f)) ∧ Zq0 sp dvs E t σ H Q) := by
 rintro pins s σ H Q I ⟨hs, h⟩
 refine wpAny_Call_Name_kw (thn (J9 hN hv hd hcd pins s σ H (fun v H1 => v = .ref f ∧ H1 = H) I ⟨_, hs, rfl, rfl⟩) fun u s1 ⟨v, H1, I1, r, e1, e2⟩ => ?_)
 subst e1 e2
 cases (show u = Value.ref f from r)
 exact PySem.W.callWith_K (h₀ := X.base) I1.ok.mod.kin hk (thn (ha pos pins s1 σ H1 _ I1 h) fun us s2 ⟨vs, H2, I2, r2, q⟩ => ⟨I2.kIn, Ec F hr hb hvd hx I2 r2 q⟩) he hpl
theorem Ge {i f g : Nat} {es : Es} {x : Str} {np pos : Pos} {ls : List Expr} (G : Good c k Z w0 X) (hc : k.calm = true) (h1 : k.N[i]? = some x) (h2 : k.vis x = true) (hF : k.FN[f]?.isSome = true) (hFG : k.FN[f]? = k.GN[g]?) (hs : Wn k es ls = true) (ih : PA X ls (tFA w0 (tes c Z es))) :
  PE X (.Call (.Name x np) ls [] pos) (tF w0 (te c Z (.callw i f g es))) := by
 obtain ⟨v1, v2, v3⟩ := G.vis h2
 obtain ⟨y, hy⟩ := Option.isSome_iff_exists.mp hF
 cases hsp : c.Γ[f]? with
 | none =>
  have z1 := (List.getElem?_eq_some_iff.mp hy).1
  have z2 := List.getElem?_eq_none_iff.mp hsp
  rw [G.flen] at z1
  omega
 | some sp =>
 obtain ⟨kk, fa, fd, pr, ds, dvs, dD, sp0, F, hr, hm, hk, hb, hd, hD, hsp0⟩ := G.fns hc f y sp hy hsp
 obtain ⟨E, psE, xk⟩ := G.exc
 rintro pins s σ H Q I ⟨w, σD, M, QD, S, gq, a⟩
 unfold te at gq
 have nn : ∀ {β : Prop} (t : List D → Z3 → Prop), ls = [] → tes c Z es σD M t → (t [] M → β) → β := fun {β} t hl ht hk => by
  subst hl
  cases es with
  | nil => exact hk ht
  | cons e r => exact absurd hs Bool.false_ne_true
 split at gq
 ·rename_i f0 cc cd k0 hσ
  obtain ⟨v, e1, e2⟩ := S.env.2 i _ hσ
  obtain ⟨rfl, y1, y2, y3⟩ := Zi6.mp e2
  cases ls with
  | nil => exact nn _ rfl gq fun ⟨_, _, e, _⟩ => by cases e
  | cons l ls =>
   cases es with
   | nil => exact absurd hs Bool.false_ne_true
   | cons e r =>
    change (_ && _) = true at hs
    simp only [Bool.and_eq_true] at hs
    refine Ze3 (by rw [G.N]; exact h1) v1 hr.depth ih v2 v3 (Zt hs.1.2) (Vs (Xk r ls hs.2)) pins s σ H Q I ⟨f0, cc, cd, k0, e1, by rw [← S.heap]; exact y1, w, σD, M, _, S, gq, fun vs w' ds' M' x' r' rd' q' => ?_⟩
    obtain ⟨d, g0, rfl, q⟩ := q'
    unfold RDs at rd'
    obtain ⟨v1, r1, rfl, z1, rd'⟩ := rd'
    unfold RDs at rd'
    obtain ⟨v2, r2, rfl, z2, rd'⟩ := rd'
    unfold RDs at rd'
    subst rd'
    cases Zb.mp z2
    exact ⟨v1, g0, rfl, x'.imm _ _ y1 rfl, x'.imm _ _ y2 rfl, x'.imm _ _ y3 rfl, a _ w' _ M' x' r' (Xt.mpr rfl) q⟩
 ·rename_i A hσ
  obtain ⟨hG, gq⟩ := gq
  obtain ⟨v, e1, e2⟩ := S.env.2 i _ hσ
  obtain rfl : v = .ref A := Jh.mp e2
  obtain ⟨vg, ug, hmg, rel, hw⟩ := G.glb g y (.cls A) (by rw [← hFG]; exact hy) hG
  cases Jh.mp (hw w (by rw [S.K, G.eK]))
  cases (show ug = Value.ref A from rel)
  rw [hm] at hmg
  obtain rfl : fa = A := by cases hmg; rfl
  cases ls with
  | nil =>
   refine nn _ rfl gq fun q => ?_
   refine wpAny_Call_Name_kw (thn (J9 (by rw [G.N]; exact h1) v1 v2 v3 pins s σ H (fun v H1 => v = .ref fa ∧ H1 = H) I ⟨_, e1, rfl, rfl⟩) fun u s1 ⟨v, H1, I1, r, z1, z2⟩ => ?_)
   subst z1 z2
   cases (show u = Value.ref fa from r)
   refine PySem.W.callWith_K0 I1.kIn hk (Ec (us := []) F hr hb hd psE I1 .nil ?_)
   simp only [hsp] at q
   have hKw : w.K = X.K := by rw [S.K, G.eK]
   exact ⟨w, [] ++ dD, M, QD, Z, hKw, S.heap, S.rs, hD w hKw, hsp0 _ _ _ _ q, a, fun cls dd H' hx => xk cls dd H' (Ql S.ext hx)⟩
  | cons l ls =>
   cases es with
   | nil => exact absurd hs Bool.false_ne_true
   | cons e r =>
    change (_ && _) = true at hs
    simp only [Bool.and_eq_true] at hs
    refine Zb8 F hr hk hb hd psE (by rw [G.N]; exact h1) v1 ih v2 v3 (Zt hs.1.2) (Vs (Xk r ls hs.2)) pins s σ H Q I ⟨e1, w, σD, M, _, S, gq, fun vs w' ds' M' x' r' rd' q' => ?_⟩
    simp only [hsp] at q'
    have hKw : w'.K = X.K := by rw [x'.K, S.K, G.eK]
    exact ⟨w', ds' ++ dD, M', QD, Z, hKw, rfl, r', rd'.append (hD w' hKw), hsp0 _ _ _ _ q', a.ext x', fun cls dd H' hx => xk cls dd H' (Ql (S.ext.trans x') hx)⟩
 ·exact gq.elim
theorem B3 {i : Nat} {x : Str} {pos : Pos} (G : Good c k Z w0 X) (h1 : k.N[i]? = some x) (h2 : k.vis x = true) : PE X (.Name x pos) (tF w0 (te c Z (.var i))) := by
 obtain ⟨v1, v2, v3⟩ := G.vis h2
 refine PE.imp (J9 (i := i) (by rw [G.N]; exact h1) v1 v2 v3) fun σ H Q ⟨w, σD, M, QD, S, g, a⟩ => ?_
 unfold te at g
 split at g
 ·rename_i d e
  obtain ⟨v, q1, q2⟩ := S.env.2 i d e
  have := a v w d M (Ext.refl w) S.rs q2 g
  rw [S.heap] at this
  exact ⟨v, q1, this⟩
 ·exact g.elim
theorem Z82 {g : Nat} {x : Str} {pos : Pos} (G : Good c k Z w0 X) (h1 : k.GN[g]? = some x) (h2 : k.glob x = true) : PE X (.Name x pos) (tF w0 (te c Z (.glb g))) := by
 obtain ⟨g1, g2, g3⟩ := G.gl h2
 cases hd : c.G[g]? with
 | none =>
  refine PE.imp (t := fun _ _ _ => False) (fun _ _ _ _ _ _ h => h.elim) fun σ H Q ⟨w, σD, M, QD, S, q, a⟩ => ?_
  unfold te at q
  rw [hd] at q
  exact q
 | some d =>
  obtain ⟨v, u, q1, q2, q3⟩ := G.glb g x d h1 hd
  refine PE.imp (Zr9 g1 q1 q2 g2) fun σ H Q h => Pt (d := d) (fun w hw => q3 w (by rw [hw, G.eK])) ?_
  obtain ⟨w, σD, M, QD, S, q, a⟩ := h
  unfold te at q
  rw [hd] at q
  exact ⟨w, σD, M, QD, S, q, a⟩
theorem Y51 {es : Es} {l : Expr} {ls : List Expr} {pos : Pos} (hs : Wn k es (l :: ls) = true) : starEach (l :: ls) X.env = (false, eval l X.env) :: starEach ls X.env ∧ (backTo pos (starEach ls X.env)).any (·.1) = false := by
 cases es with
 | nil => exact absurd hs Bool.false_ne_true
 | cons e r =>
  change (_ && _) = true at hs
  simp only [Bool.and_eq_true] at hs
  exact ⟨Zt hs.1.2, Vs (Xk r ls hs.2)⟩
theorem Z88 {b : Bf} {es : Es} {x : Str} {np pos : Pos} {l : Expr} {ls : List Expr} (G : Good c k Z w0 X) (hc : k.calm = true ∨ Qw b = true) (hx : x = (bfOf b).1) (hg : k.glob x = true) (hB : x ∈ k.BN) (hs : Wn k es (l :: ls) = true) (ih : PA X (l :: ls) (tFA w0 (tes c Z es))) :
  PE X (.Call (.Name x np) (l :: ls) [] pos) (tF w0 (te c Z (.bf b es))) := by
 obtain ⟨g1, g2, g3⟩ := G.gl hg
 have hm := G.blt x hB
 have hb : bootBuiltins x = some (bfOf b).2 := by rw [hx]; exact Zr3 b
 have snd := Zd1 (w0 := w0) G.eK b (hc.imp G.calm id)
 have st : starEach (l :: ls) X.env = (false, eval l X.env) :: starEach ls X.env ∧ (backTo pos (starEach ls X.env)).any (·.1) = false := by
  cases es with
  | nil => exact absurd hs Bool.false_ne_true
  | cons e r =>
   change (_ && _) = true at hs
   simp only [Bool.and_eq_true] at hs
   exact ⟨Zt hs.1.2, Vs (Xk r ls hs.2)⟩
 have key : ∀ σ H Q, tF w0 (te c Z (.bf b es)) σ H Q → tCB (rC w0 (bfD w0.K b)) (tFA w0 (tes c Z es)) σ H Q := by
  rintro σ H Q ⟨w, σD, M, QD, S, g, a⟩
  refine ⟨w, σD, M, _, S, g, fun vs w' ds M' x' r' rd' q' => ?_⟩
  rw [← G.wK] at q'
  exact ⟨w', M', ds, QD, rfl, by rw [x'.K, S.K], r', rd', q', a.ext x'⟩
 cases hv : (bfOf b).2 with
 | builtin id =>
  rw [hv] at hb snd
  exact PE.imp (Om snd g1 hm hb ih g3 g2 st.1 st.2) key
 | type T =>
  rw [hv] at hb snd
  exact PE.imp (Nq snd g1 hm hb ih g3 g2 st.1 st.2) key
 | _ => cases b <;> cases hv
theorem Zb9 {m : Mt} {o : E} {es : Es} {l : Expr} {ap cp : Pos} {ls : List Expr} (G : Good c k Z w0 X) (hb : Z27 l = true) (hl : (ap.endLine == cp.line) = true) (hn : ls.length < 30) (hs : Wn k es ls = true) (ho : PE X l (tF w0 (te c Z o))) (ih : PA X ls (tFA w0 (tes c Z es))) :
  PE X (.Call (.Attribute l (mtN m) ap) ls [] cp) (tF w0 (te c Z (.mt m o es))) := by
 have snd := Ze1 (w0 := w0) G.eK G.units m
 cases ls with
 | nil =>
  refine PE.imp (Y21 (Y04 m) (Z55 m) (Zw5 m) snd ho (J7 hb) hl) fun σ H Q ⟨w, σD, M, QD, S, g, a⟩ => ?_
  refine Yq S g fun x w1 dx M1 x1 r1 rx q1 => ?_
  have ty := Zk6 r1 rx q1.1
  rw [x1.K, S.K, ← G.eK] at ty
  refine ⟨ty, ?_⟩
  cases es with
  | nil => exact ⟨w1, M1, dx, [], QD, rfl, by rw [x1.K, S.K], r1, rx, RDs.nil w1, q1.2, a.ext x1⟩
  | cons e r => exact absurd hs Bool.false_ne_true
 | cons l' ls =>
  cases es with
  | nil => exact absurd hs Bool.false_ne_true
  | cons e r =>
   have hs' := hs
   change (_ && _) = true at hs'
   simp only [Bool.and_eq_true] at hs'
   have few : ((backTo cp (starEach (l' :: ls) X.env)).all (fun x => !x.1) && (backToKw cp (keywordEach [] X.env)).all (fun x => x.1.isSome)
     && decide ((l' :: ls).length + ([] : List Keyword).length + (if ([] : List Keyword).isEmpty then 0 else 1) < 30)) = true := by
    rw [Zf0 (Xk _ _ hs)]
    show (true && true && decide ((l' :: ls).length + 0 + 0 < 30)) = true
    simpa using hn
   refine PE.imp (Y55 (Y04 m) (Z55 m) (Zw5 m) snd ho ih (J7 hb) few hl (Zt hs'.1.2) (Vs (Xk r ls hs'.2))) fun σ H Q ⟨w, σD, M, QD, S, g, a⟩ => ?_
   refine Yq S g fun x w1 dx M1 x1 r1 rx q1 => ?_
   have ty := Zk6 r1 rx q1.1
   rw [x1.K, S.K, ← G.eK] at ty
   refine ⟨ty, w1, σD, M1, _, S.next x1 r1, q1.2, fun vs w2 ds M2 x2 r2 rd2 q2 => ?_⟩
   exact ⟨w2, M2, dx, ds, QD, rfl, by rw [x2.K, x1.K, S.K], r2, rx.ext x2, rd2, q2, a.ext (x1.trans x2)⟩
theorem Zd9 {a : E} {lo hi : Eo} {l : Expr} {x y : Option Expr} {p2 pos : Pos} (G : Good c k Z w0 X) (ha : PE X l (tF w0 (te c Z a))) (h1 : PO X x (tFO w0 (teo c Z lo))) (h2 : PO X y (tFO w0 (teo c Z hi))) :
  PE X (.Subscript l (.Slice x y none p2) pos) (tF w0 (te c Z (.sl a lo hi))) := by
 refine PE.imp (Zh9 (Zc4 (w0 := w0) G.eK) ha h1 h2) fun σ H Q ⟨w, σD, M, QD, S, g, aq⟩ => ?_
 refine Yq S g fun x w1 dx M1 x1 r1 rx q1 => ?_
 refine ⟨w1, σD, M1, _, S.next x1 r1, q1, fun l w2 M2 x2 r2 q2 => ?_⟩
 refine ⟨w2, σD, M2, _, (S.next x1 r1).next x2 r2, q2, fun h w3 M3 x3 r3 q3 => ?_⟩
 exact ⟨w3, M3, dx, QD, rfl, by rw [x3.K, x2.K, x1.K, S.K], r3, rx.ext (x2.trans x3), q3, aq.ext ((x1.trans x2).trans x3)⟩
theorem Zi2 {z : Expr} (h : isM1 z = true) : ∃ y p q, z = .UnaryOp .USub (.Constant (.int 1) y p) q := by
 unfold isM1 at h
 split at h
 ·rename_i j y p q
  have : j = 1 := by simpa using h
  subst this
  exact ⟨y, p, q, rfl⟩
 ·cases h
theorem Z52 {a : E} {l z : Expr} {p2 pos : Pos} (G : Good c k Z w0 X) (ha : PE X l (tF w0 (te c Z a))) (hz : isM1 z = true) : PE X (.Subscript l (.Slice none none (some z) p2) pos) (tF w0 (te c Z (.rev a))) := by
 obtain ⟨y, p, q, rfl⟩ := Zi2 hz
 refine PE.imp (Y14 ha (Z53 (Zy3 Zk3 Fq))) fun σ H Q ⟨w, σD, M, QD, S, g, aq⟩ => ?_
 refine Yq S g fun x w1 dx M1 x1 r1 rx q1 => ?_
 split at q1
 ·obtain ⟨xs, z1, z2⟩ := q1
  obtain ⟨_, rfl⟩ := Y6.mp rx
  obtain ⟨_, vs, y1, y2, _⟩ := r1.listL z1
  have hK : w1.K = X.K := by rw [x1.K, S.K, G.eK]
  rw [hK] at y1
  refine ⟨1, rfl, -1, rfl, rfl, _, vs, rfl, y1, fun p hp => ?_⟩
  obtain ⟨t1, t2, t3⟩ := Wu r1 hp y2.reverse
  exact aq _ _ _ _ (x1.trans t1) t2 t3 z2
 ·exact q1.elim
theorem Z60 {a b : E} {l r : Expr} {pos : Pos} (G : Good c k Z w0 X) (ha : PE X l (tF w0 (te c Z a))) (hb : PE X r (tF w0 (te c Z b))) : PE X (.Dict [some l] [r] pos) (tF w0 (te c Z (.dct a b))) := by
 refine PE.imp (Zq7 (Zb5 ha hb Zl9) rfl rfl (by simp) (by simp)) fun σ H Q ⟨w, σD, M, QD, S, g, aq⟩ => ?_
 intro p hp
 rw [← S.heap] at hp
 obtain ⟨y1, y2, y3⟩ := Fy (xs := []) (vs := []) S.rs hp (by unfold RKV; rfl)
 have hup : upd H p (.dK []) = (w.push p (.dK [])).H := by rw [← S.heap]; rfl
 have eμ : (w.push p (.dK [])).μ M.length = p := by
  show (if M.length = w.n then p else w.μ M.length) = p
  rw [if_pos S.rs.len.symm]
 have ln : M.length < (w.push p (.dK [])).n := by show M.length < w.n + 1; rw [S.rs.len]; omega
 rw [hup]
 refine Yq (S.next y1 y2) g fun x w1 dx M1 x1 r1 rx q1 => ?_
 refine Yq ((S.next y1 y2).next x1 r1) q1 fun y w2 dy M2 x2 r2 ry q2 => ?_
 obtain ⟨kk, e1, e2, e3⟩ := q2
 obtain ⟨hn, vs, u1, u2⟩ := r2.dict e2
 rw [(x1.trans x2).μ _ ln, eμ] at u1
 have ev : vs = [] := by have := u2.length; exact List.length_eq_zero_iff.mp (by simpa using this)
 subst ev
 cases Q8 e1 (rx.ext x2)
 refine ⟨u1, [(kk, y)], rfl, by simp, ?_⟩
 have u1' : w2.H (w2.μ M.length) = some (.dK []) := by rw [(x1.trans x2).μ _ ln, eμ]; exact u1
 obtain ⟨t1, t2⟩ := Pz (vs := [(kk, y)]) (xs := [(kk, dy)]) r2 hn u1' (by
  have := (show RKV w2 [] [] by unfold RKV; rfl).put (k := kk) ry
  exact this)
 have rr : RD (w2.alloc (w2.μ M.length) (.dK [(kk, y)])) (.ref M.length) (.ref p) := (y3.ext (x1.trans x2)).ext t1
 have := aq _ _ _ _ (((y1.trans x1).trans x2).trans t1) t2 rr e3
 have hf : (w2.alloc (w2.μ M.length) (.dK [(kk, y)])).H = upd w2.H p (.dK (O4 [] [(kk, y)])) := by
  show upd w2.H (w2.μ M.length) (.dK [(kk, y)]) = _
  rw [(x1.trans x2).μ _ ln, eμ]
  rfl
 rw [← hf]
 exact this
theorem Cp {b : Bool} {a : E} {x y : Str} {p1 p2 q1 q2 : Pos} {l : Expr} (G : Good c k Z w0 X) (hc : k.calm = true) (hx : x = ("len" : Str)) (hy : y = ("set" : Str)) (hg : k.glob x = true) (hg' : k.glob y = true) (hB : x ∈ k.BN) (hB' : y ∈ k.BN) (hl : Tz l = true) (ih : PE X l (tF w0 (te c Z a))) :
  PE X (.Call (.Name x p1) [.Call (.Name y p2) [l] [] q2] [] q1) (tF w0 (te c Z (.setf b a))) := by
 obtain ⟨g1, g2, g3⟩ := G.gl hg
 obtain ⟨g1', g2', g3'⟩ := G.gl hg'
 have hset := Nq (p := p2) (pos := q2) (Z79 (X := X) (G.calm hc)) g1' (G.blt _ hB') (by rw [hy]; exact Zd4) (Vd ih Qv (Zt hl)) g3' g2' (Zt hl) rfl
 have key : ∀ (w1 : Vw) (M1 : Z3) (n : Nat) (ks : List Key) (R : List V → Hp → VK → Prop) (Q : VK), RS w1 M1 → w1.K = X.K → Z6 M1 n = some (ks.map kD) → ks.length + 1 < scanBound → n < w1.n →
   (∀ p ks', w1.H p = none → ks'.Nodup → ks'.length ≤ ks.length → (∀ k, k ∈ ks' ↔ k ∈ ks) → R [V.ref p] (w1.alloc p (.ext (S3 X.prog X.w p ks'))).H Q) → ∃ (a : Addr) (ks : List Key), [V.ref (w1.μ n)] = [V.ref a] ∧ SqL X.K w1.H a (ks.map kV) ∧ ks.length + 1 < scanBound ∧ ∀ p ks', w1.H p = none → ks'.Nodup → ks'.length ≤ ks.length → (∀ k, k ∈ ks' ↔ k ∈ ks) → R [V.ref p] (upd w1.H p (.ext (S3 X.prog X.w p ks'))) Q := by
  intro w1 M1 n ks R Q r1 hK e1 hz hn h
  obtain ⟨_, vs, z1, z2, _⟩ := r1.listL e1
  rw [hK] at z1
  rw [Fo z2] at z1
  exact ⟨_, ks, rfl, z1, hz, h⟩
 cases b with
 | true =>
  refine PE.imp (Om (Jb (X := X)) g1 (G.blt _ hB) (by rw [hx]; exact PySem.boot_len) (Vd hset Qv rfl) g3 g2 rfl rfl) fun σ H Q ⟨w, σD, M, QD, S, g, aq⟩ => ?_
  refine Yq S g fun x w1 dx M1 x1 r1 rx q1 => ?_
  obtain ⟨n, rfl, q1⟩ := W2 q1
  exact False.elim q1
 | false =>
  refine PE.imp (Om (Jb (X := X)) g1 (G.blt _ hB) (by rw [hx]; exact PySem.boot_len) (Vd hset Qv rfl) g3 g2 rfl rfl) fun σ H Q ⟨w, σD, M, QD, S, g, aq⟩ => ?_
  refine Yq S g fun x w1 dx M1 x1 r1 rx q1 => ?_
  obtain ⟨n, rfl, q1⟩ := W2 q1
  obtain ⟨hn, rfl⟩ := Y6.mp rx
  obtain ⟨ks, e1, hz, q⟩ := q1
  have hK : w1.K = X.K := by rw [x1.K, S.K, G.eK]
  refine key w1 M1 n ks (Zw1 X.prog X.w) Q r1 hK e1 hz hn fun p ks' hp nd hlk hm => ?_
  have ra := r1.alloc (o := .ext (S3 X.prog X.w p ks')) hp
  exact ⟨p, ks', rfl, Yt, aq _ _ _ _ (x1.trans (T9 hp)) ra (Zb.mpr rfl) (q ks' nd hm)⟩
theorem Zd2 {a b : E} {l r : Expr} {pos : Pos} (G : Good c k Z w0 X) (hn : G5 r = true) (ha : PE X l (tF w0 (te c Z a))) (hb : PE X r (tF w0 (te c Z b))) : PE X (.Subscript l r pos) (tF w0 (te c Z (.ix a b))) := by
 have pl : Z47 r := by
  intro o i
  cases r <;> first | rfl | cases hn
 refine PE.imp (Y49 (Za4 (w0 := w0) G.eK G.units) ha hb pl) fun σ H Q ⟨w, σD, M, QD, S, g, aq⟩ => ?_
 refine Yq S g fun x w1 dx M1 x1 r1 rx q1 => ?_
 refine Yq (S.next x1 r1) q1 fun y w2 dy M2 x2 r2 ry q2 => ?_
 exact ⟨w2, M2, dx, dy, _, rfl, by rw [x2.K, x1.K, S.K], r2, rx.ext x2, ry, q2, fun d v hq hr => aq v w2 d M2 (x1.trans x2) r2 hr hq⟩
theorem Pk {N' : List Str} {js : List (Option Nat)} {tg : List Nat} {it : It} {cd : Eo} {e : E} {el t iter : Expr} {ifs : List Expr} {scope : Scope} {pos : Pos} (G : Good c k Z w0 X) (hc : k.calm = true) (ho : Ti k.sc k.N N' js scope = true) (hns : B8 iter = true) (hn : N'.Nodup)
  (hi : PI X t iter (iF w0 (tit c Z it))) (ht : Jn { k with N := N', sc := V1 scope k.sc, cells := false, own := Gc scope, tries := false, raises := [] } tg t = true) (hd : chkC { k with N := N', sc := V1 scope k.sc, cells := false, own := Gc scope, tries := false, raises := [] } cd ifs = true) (he : chkE { k with N := N', sc := V1 scope k.sc, cells := false, own := Gc scope, tries := false, raises := [] } e el = true) (ihe : Zj4 c e) (ihd : Zj2 c cd) :
  PE X (.ListComp el [⟨t, iter, ifs, 0⟩] scope pos) (tF w0 (te c Z (.comp N' js tg it cd e))) ∧
  ∀ (i : Nat) (x : Str) (px spos : Pos), X.N[i]? = some x → X.env.scope.names.lookup x = some .local → swapsWith (.ListComp el [⟨t, iter, ifs, 0⟩] scope pos) (some (.Name x px)) spos.line X.env = pure true →
   PS X (.Assign [.Name x px] (.ListComp el [⟨t, iter, ifs, 0⟩] scope pos) spos) (fun R σ H => tF w0 (te c Z (.comp N' js tg it cd e)) σ H fun v H1 => R.nx (σ.set i (some v)) H1) := by
 have ho' : Ti X.env.scope X.N N' js scope = true := by rw [G.sc, G.N]; exact ho
 have hf : ∀ x, foldedSetIterable iter X.env x = pure x := by
  intro x
  cases iter <;> first | rfl | cases hns
 have hg := fun cl C fp pins s H => (Good.block G hc (scope := scope) hn cl C fp pins s H).tgt tg t ht
 have hel := fun cl C fp pins s H => (ihe _ _ _ _ el (Good.block G hc (scope := scope) hn cl C fp pins s H) he).1
 have key : ∀ σ H Q, tF w0 (te c Z (.comp N' js tg it cd e)) σ H Q → iF w0 (tit c Z it) σ H fun J H1 => ∀ p, H1 p = none → ∃ W : Nat → Nat → L2.St → Hp → Prop, (∃ m, W 0 m (S7 js σ) (upd H1 p (.lst []))) ∧
   ∀ i m σc Hc, W i m σc Hc → (J.stop i Hc ∧ Q (.ref p) Hc) ∨ (J.go i Hc ∧ ∀ x H', J.yld i Hc x H' → gF w0 tg x σc H' fun σ2 H2 => tFT w0 (tcd c noX cd) σ2 H2 fun b H3 => if b = true then tF w0 (te c noX e) σ2 H3 fun y H4 => ∃ acc, H4 p = some (.lst acc) ∧ acc.length < sizeLine ∧
    ∃ m', m' < m ∧ W (i + 1) m' σ2 (upd H4 p (.lst (acc ++ [y]))) else ∃ m', m' < m ∧ W (i + 1) m' σ2 H3) := by
  rintro σ H Q ⟨w, σD, M, QD, S, g, a⟩
  refine ⟨w, σD, M, _, S, g, fun J w1 own xs M1 x1 R1 jk q1 => ?_⟩
  exact Z98 (S.ext.trans x1) rfl R1 (Zn3 (S.env.ext x1)) jk q1 fun v w2 d M2 x2 r2 rd2 ⟨e2, q2⟩ => a v w2 d M2 (x1.trans x2) r2 rd2 (by rw [e2]; exact q2)
 have nocd : ∀ {σ : L2.St} {H : Hp} {P : Bool → Hp → Prop}, cd = .no → tFT w0 (tcd c noX cd) σ H P → P true H := by
  intro σ H P e h
  subst e
  obtain ⟨w, σD, M, QD, S, g, a⟩ := h
  have := a true w M (Ext.refl w) S.rs g
  rw [S.heap] at this
  exact this
 cases ifs with
 | nil =>
  have hcd : cd = .no := by
   cases cd with
   | no => rfl
   | yes e' => exact absurd hd Bool.false_ne_true
  have key0 : ∀ σ H Q, tF w0 (te c Z (.comp N' js tg it cd e)) σ H Q → Bu js (iF w0 (tit c Z it)) (gF w0 tg) (tF w0 (te c noX e)) σ H Q := by
   intro σ H Q h
   obtain ⟨w, σD, M, QD, S, g, a⟩ := key σ H Q h
   refine ⟨w, σD, M, QD, S, g, fun J w' own xs M' x' r' jk q p hp => ?_⟩
   obtain ⟨W, w1, w2⟩ := a J w' own xs M' x' r' jk q p hp
   refine ⟨W, w1, fun i m σc Hc hW => (w2 i m σc Hc hW).imp id fun ⟨z1, z2⟩ => ⟨z1, fun x H' hy => ?_⟩⟩
   obtain ⟨v1, v2, v3, v4, v5, v6, v7, v8, v9⟩ := z2 x H' hy
   refine ⟨v1, v2, v3, v4, v5, v6, v7, v8, fun σ' σD' en q' => ?_⟩
   have := nocd hcd (v9 σ' σD' en q')
   rw [if_pos rfl] at this
   exact this
  exact ⟨PE.imp (Zd5 (G.calm hc) ho' hi hg hel hf) key0, fun i x px spos h1 h2 h3 => PS.imp (Zd8 (G.calm hc) ho' G.nd h1 h2 hi hg hel h3 hf) fun R σ H h => key0 σ H _ h⟩
 | cons x0 ifs =>
  have hq : ∀ cl C fp pins s H, ∃ x, x0 :: ifs = [x] ∧ PT (cxC X N' scope cl C fp pins s H) x (tFT w0 (tcd c noX cd)) := fun cl C fp pins s H => by
   rcases ihd.2 _ _ _ _ (x0 :: ifs) (Good.block G hc (scope := scope) hn cl C fp pins s H) hd with h | ⟨h, _⟩
   ·exact h
   ·cases h
  have e0 : ifs = [] := by
   cases cd with
   | no => exact absurd hd Bool.false_ne_true
   | yes e' =>
    cases ifs with
    | nil => rfl
    | cons _ _ => exact absurd hd Bool.false_ne_true
  subst e0
  have hq' : ∀ cl C fp pins s H, PT (cxC X N' scope cl C fp pins s H) x0 (tFT w0 (tcd c noX cd)) := fun cl C fp pins s H => by
   obtain ⟨x, h1, h2⟩ := hq cl C fp pins s H
   cases h1
   exact h2
  exact ⟨PE.imp (Zf5 (G.calm hc) ho' hi hg hq' hel hf) key, fun i x px spos h1 h2 h3 => PS.imp (Za8 (G.calm hc) ho' G.nd h1 h2 hi hg hq' hel h3 hf) fun R σ H h => key σ H _ h⟩
end
section
variable {c : Cfg} {k : Ck} {Z : DX} {w0 : Vw} {X : Cx}
theorem te_cmp_bl {op : Cm} {a b : E} (σD : DEnv) (M : Z3) (QD : DK) (h : te c Z (.cmp op a b) σD M QD) : te c Z (.cmp op a b) σD M fun d M' => (∃ b, d = .bl b) ∧ QD d M' := by
 have e : (fun (d : D) (M' : Z3) => QD d M') = QD := rfl
 unfold te at h ⊢
 have : (fun (x : D) (M1 : Z3) => te c Z b σD M1 fun y M2 => cmD M2 op x y fun r => QD (.bl r) M2) = fun x M1 => te c Z b σD M1 fun y M2 => cmD M2 op x y fun r => (∃ b, D.bl r = .bl b) ∧ QD (.bl r) M2 := by
  funext x M1
  congr 1
  funext y M2
  congr 1
  funext r
  exact propext ⟨fun h => ⟨⟨r, rfl⟩, h⟩, fun h => h.2⟩
 rw [this] at h
 exact h
theorem Zn9 {a b : Expr} {rest : List Expr} {pos : Pos} {ta tb : TE} (ha : PE X a ta) (hb : PE X (.BoolOp .And (b :: rest) pos) tb) : PE X (.BoolOp .And (a :: b :: rest) pos) (fun σ H Q => ta σ H fun x H1 => ∃ z, TruV X.K x H1 z ∧ if z = true then tb σ H1 Q else Q x H1) := by
 intro pins s σ H Q I h
 refine BoolOp_and (thn (ha pins s σ H _ I h) fun v s1 ⟨x, H1, I1, r1, q1⟩ => ?_)
 refine thn (Gz pins s1 σ H1 x v (fun z H2 => if z = true then tb σ H2 Q else Q x H2) I1 r1 q1) fun z s2 ⟨H2, I2, q2⟩ => ?_
 cases z with
 | true => exact hb pins s2 σ H2 Q I2 (by rw [if_pos rfl] at q2; exact q2)
 | false => exact ⟨x, H2, I2, r1, by rw [if_neg Bool.false_ne_true] at q2; exact q2⟩
theorem Zu6 {a b : Expr} {rest : List Expr} {pos : Pos} {ta tb : TE} (ha : PE X a ta) (hb : PE X (.BoolOp .Or (b :: rest) pos) tb) : PE X (.BoolOp .Or (a :: b :: rest) pos) (fun σ H Q => ta σ H fun x H1 => ∃ z, TruV X.K x H1 z ∧ if z = true then Q x H1 else tb σ H1 Q) := by
 intro pins s σ H Q I h
 refine BoolOp_or (thn (ha pins s σ H _ I h) fun v s1 ⟨x, H1, I1, r1, q1⟩ => ?_)
 refine thn (Gz pins s1 σ H1 x v (fun z H2 => if z = true then Q x H2 else tb σ H2 Q) I1 r1 q1) fun z s2 ⟨H2, I2, q2⟩ => ?_
 cases z with
 | false => exact hb pins s2 σ H2 Q I2 (by rw [if_neg Bool.false_ne_true] at q2; exact q2)
 | true => exact ⟨x, H2, I2, r1, by rw [if_pos rfl] at q2; exact q2⟩
theorem J2 {M : Z3} {n : Nat} {xs : List D} {ys : List (Key × D)} (h1 : Z6 M n = some xs) (h2 : Xl M n = some ys) : False := by
 unfold Z6 at h1
 unfold Xl at h2
 cases h : M[n]? with
 | none => rw [h] at h2; cases h2
 | some c => rw [h] at h1 h2; cases c <;> simp at h1 h2
theorem Fx {M : Z3} {x : D} {k : Bool} {A : Prop} {P : Bool → Prop} : truD M x (fun b => if b = k then A else truD M x P) = truD M x (fun b => if b = k then A else P b) := by
 cases x with
 | str y =>
  apply propext
  show (y.length ≤ sizeLine ∧ if ((y.length : Int) != 0) = k then A else (y.length ≤ sizeLine ∧ P ((y.length : Int) != 0))) ↔ (y.length ≤ sizeLine ∧ if ((y.length : Int) != 0) = k then A else P ((y.length : Int) != 0))
  split <;> simp (config := { contextual := true })
 | ref n =>
  apply propext
  have key : ∀ Q : Bool → Prop, truD M (.ref n) Q ↔ (∃ xs, Z6 M n = some xs ∧ Q (!xs.isEmpty)) ∨ (∃ xs, Xl M n = some xs ∧ Q (!xs.isEmpty)) := fun Q => Iff.rfl
  constructor
  ·intro h
   rcases (key _).mp h with ⟨xs, h1, h2⟩ | ⟨xs, h1, h2⟩
   ·refine (key _).mpr (.inl ⟨xs, h1, ?_⟩)
    split at h2
    ·rename_i e; rw [if_pos e]; exact h2
    ·rename_i e
     rw [if_neg e]
     rcases (key _).mp h2 with ⟨ys, g1, g2⟩ | ⟨ys, g1, g2⟩
     ·rw [h1] at g1; cases g1; exact g2
     ·exact (J2 h1 g1).elim
   ·refine (key _).mpr (.inr ⟨xs, h1, ?_⟩)
    split at h2
    ·rename_i e; rw [if_pos e]; exact h2
    ·rename_i e
     rw [if_neg e]
     rcases (key _).mp h2 with ⟨ys, g1, g2⟩ | ⟨ys, g1, g2⟩
     ·exact (J2 g1 h1).elim
     ·rw [h1] at g1; cases g1; exact g2
  ·intro h
   rcases (key _).mp h with ⟨xs, h1, h2⟩ | ⟨xs, h1, h2⟩
   ·refine (key _).mpr (.inl ⟨xs, h1, ?_⟩)
    split at h2
    ·rename_i e; rw [if_pos e]; exact h2
    ·rename_i e; rw [if_neg e]; exact (key _).mpr (.inl ⟨xs, h1, h2⟩)
   ·refine (key _).mpr (.inr ⟨xs, h1, ?_⟩)
    split at h2
    ·rename_i e; rw [if_pos e]; exact h2
    ·rename_i e; rw [if_neg e]; exact (key _).mpr (.inr ⟨xs, h1, h2⟩)
 | non => rfl
 | bl b => rfl
 | int i => rfl
 | tup xs => rfl
 | _ => rfl
theorem te_bop_tt {e e2 : E} {r : Es} {σD : DEnv} {M : Z3} {QD : Bool → Z3 → Prop} (h : ttD (tbop c Z true (.cons e (.cons e2 r))) σD M QD) :
  ttD (te c Z e) σD M fun z M1 => if z = true then ttD (tbop c Z true (.cons e2 r)) σD M1 QD else QD false M1 := by
 have hh : (fun (x : D) (M1 : Z3) => truD M1 x fun b => if b = true then ttD (tbop c Z true (.cons e2 r)) σD M1 QD else truD M1 x fun b => QD b M1) =
   fun x M1 => truD M1 x fun z => if z = true then ttD (tbop c Z true (.cons e2 r)) σD M1 QD else QD false M1 := by
  funext x M1
  rw [Fx]
  congr 1
  funext b
  cases b <;> rfl
 have h' : te c Z e σD M fun (x : D) (M1 : Z3) => truD M1 x fun b => if b = true then ttD (tbop c Z true (.cons e2 r)) σD M1 QD else truD M1 x fun b => QD b M1 := h
 rw [hh] at h'
 exact h'
theorem te_bop_ff {e e2 : E} {r : Es} {σD : DEnv} {M : Z3} {QD : Bool → Z3 → Prop} (h : ttD (tbop c Z false (.cons e (.cons e2 r))) σD M QD) :
  ttD (te c Z e) σD M fun z M1 => if z = true then QD true M1 else ttD (tbop c Z false (.cons e2 r)) σD M1 QD := by
 have hh : (fun (x : D) (M1 : Z3) => truD M1 x fun b => if b = false then ttD (tbop c Z false (.cons e2 r)) σD M1 QD else truD M1 x fun b => QD b M1) =
   fun x M1 => truD M1 x fun z => if z = true then QD true M1 else ttD (tbop c Z false (.cons e2 r)) σD M1 QD := by
  funext x M1
  rw [Fx]
  congr 1
  funext b
  cases b <;> rfl
 have h' : te c Z e σD M fun (x : D) (M1 : Z3) => truD M1 x fun b => if b = false then ttD (tbop c Z false (.cons e2 r)) σD M1 QD else truD M1 x fun b => QD b M1 := h
 rw [hh] at h'
 exact h'
end
theorem C4 {k : Ck} {b : Bool} {a : E} {ex : Expr} (h : chkE k (.setf b a) ex = true) : ∃ x y l p1 p2 q1 q2, ex = .Call (.Name x p1) [.Call (.Name y p2) [l] [] q2] [] q1 ∧
  (k.calm && x == ("len" : Str) && y == ("set" : Str) && k.glob x && k.glob y && k.BN.contains x && k.BN.contains y && Tz l && chkE k a l) = true := by
 cases ex with
 | Call fn as kws q1 =>
  cases fn with
  | Name x p1 =>
   cases as with
   | nil => exact absurd h Bool.false_ne_true
   | cons a0 as =>
   cases a0 with
   | Call fn2 as2 kws2 q2 =>
    cases fn2 with
    | Name y p2 =>
     cases as2 with
     | nil => exact absurd h Bool.false_ne_true
     | cons l ls =>
     cases ls with
     | cons _ _ => exact absurd h Bool.false_ne_true
     | nil =>
     cases kws2 with
     | cons _ _ => exact absurd h Bool.false_ne_true
     | nil =>
     cases as with
     | cons _ _ => exact absurd h Bool.false_ne_true
     | nil =>
     cases kws with
     | cons _ _ => exact absurd h Bool.false_ne_true
     | nil => exact ⟨x, y, l, p1, p2, q1, q2, rfl, h⟩
    | _ => exact absurd h Bool.false_ne_true
   | _ => exact absurd h Bool.false_ne_true
  | _ => exact absurd h Bool.false_ne_true
 | _ => exact absurd h Bool.false_ne_true
theorem Bo {k : Ck} {a : E} {ex : Expr} (h : chkE k (.rev a) ex = true) : ∃ l z p2 pos, ex = .Subscript l (.Slice none none (some z) p2) pos ∧ (chkE k a l && isM1 z) = true := by
 cases ex with
 | Subscript l r pos =>
  cases r with
  | Slice x y z p2 =>
   cases x with
   | some _ => exact absurd h Bool.false_ne_true
   | none =>
   cases y with
   | some _ => exact absurd h Bool.false_ne_true
   | none =>
   cases z with
   | none => exact absurd h Bool.false_ne_true
   | some z => exact ⟨_, _, _, _, rfl, h⟩
  | _ => exact absurd h Bool.false_ne_true
 | _ => exact absurd h Bool.false_ne_true
theorem Z65 {k : Ck} {a b : E} {ex : Expr} (h : chkE k (.dct a b) ex = true) : ∃ l r pos, ex = .Dict [some l] [r] pos ∧ (chkE k a l && chkE k b r) = true := by
 cases ex with
 | Dict ks vs pos =>
  cases ks with
  | nil => exact absurd h Bool.false_ne_true
  | cons k0 ks =>
  cases k0 with
  | none => exact absurd h Bool.false_ne_true
  | some l =>
  cases ks with
  | cons _ _ => exact absurd h Bool.false_ne_true
  | nil =>
  cases vs with
  | nil => exact absurd h Bool.false_ne_true
  | cons r vs =>
  cases vs with
  | cons _ _ => exact absurd h Bool.false_ne_true
  | nil => exact ⟨l, r, pos, rfl, h⟩
 | _ => exact absurd h Bool.false_ne_true
theorem Z37 {k : Ck} {es : Es} {ex : Expr} (h : Z89 k (.zip es) ex = true) : ∃ l ls p q, ex = .Call (.Name "zip" p) (l :: ls) [] q ∧ (k.glob "zip" && k.BN.contains "zip" && Wn k es (l :: ls)) = true := by
 cases ex with
 | Call fn as kws q =>
  cases fn with
  | Name x p =>
   cases as with
   | nil => exact absurd h Bool.false_ne_true
   | cons l ls =>
   cases kws with
   | cons _ _ => exact absurd h Bool.false_ne_true
   | nil =>
    change (_ && _) = true at h
    simp only [Bool.and_eq_true, beq_iff_eq] at h
    obtain ⟨⟨⟨rfl, h1⟩, h2⟩, h3⟩ := h
    refine ⟨l, ls, p, q, rfl, ?_⟩
    simp only [Bool.and_eq_true]
    exact ⟨⟨h1, h2⟩, h3⟩
  | _ => exact absurd h Bool.false_ne_true
 | _ => exact absurd h Bool.false_ne_true
mutual
theorem Zx (c : Cfg) : ∀ e : E, Zj4 c e
 | .var i, k, Z, w0, X, ex, G, h => by
  cases ex with
  | Name x pos =>
   change (_ && _) = true at h
   simp only [Bool.and_eq_true, beq_iff_eq] at h
   exact both G (B3 G h.1 h.2) fun _ => rfl
  | _ => exact absurd h Bool.false_ne_true
 | .int i, k, Z, w0, X, ex, G, h => by
  cases ex with
  | Constant v j pos =>
   cases v with
   | int m =>
    change (_ == _) = true at h
    simp only [beq_iff_eq] at h
    subst h
    exact both G (PE.imp Fq fun σ H Q q => Pt (fun _ _ => Zb.mpr rfl) q) fun _ => rfl
   | _ => exact absurd h Bool.false_ne_true
  | _ => exact absurd h Bool.false_ne_true
 | .bl i, k, Z, w0, X, ex, G, h => by
  cases ex with
  | Constant v j pos =>
   cases v with
   | bool m =>
    change (_ == _) = true at h
    simp only [beq_iff_eq] at h
    subst h
    exact both G (PE.imp Y53 fun σ H Q q => Pt (fun _ _ => Xt.mpr rfl) q) fun _ => rfl
   | _ => exact absurd h Bool.false_ne_true
  | _ => exact absurd h Bool.false_ne_true
 | .non, k, Z, w0, X, ex, G, h => by
  cases ex with
  | Constant v j pos =>
   cases v with
   | none => exact both G (PE.imp Zi9 fun σ H Q q => Pt (fun _ _ => Zy.mpr rfl) q) fun _ => rfl
   | _ => exact absurd h Bool.false_ne_true
  | _ => exact absurd h Bool.false_ne_true
 | .str i, k, Z, w0, X, ex, G, h => by
  cases ex with
  | Constant v j pos =>
   cases v with
   | str m =>
    change (_ == _) = true at h
    simp only [beq_iff_eq] at h
    subst h
    exact both G (PE.imp Zy5 fun σ H Q q => Pt (fun _ _ => Yf.mpr rfl) q) fun _ => rfl
   | _ => exact absurd h Bool.false_ne_true
  | _ => exact absurd h Bool.false_ne_true
 | .ty t, k, Z, w0, X, ex, G, h => by
  cases ex with
  | Name x pos =>
   change (_ && _) = true at h
   simp only [Bool.and_eq_true, beq_iff_eq, List.contains_iff_mem] at h
   obtain ⟨g1, g2, g3⟩ := G.gl h.1.2
   exact both G (PE.imp (Zo3 (v := .ty (Xz t)) g1 (G.blt x h.2) (by rw [h.1.1]; exact Zo7 t) rfl g3 g2) fun σ H Q q => Pt (fun _ _ => Zk9.mpr rfl) q) fun _ => rfl
  | _ => exact absurd h Bool.false_ne_true
 | .glb g, k, Z, w0, X, ex, G, h => by
  cases ex with
  | Name x pos =>
   change (_ && _) = true at h
   simp only [Bool.and_eq_true, beq_iff_eq] at h
   exact both G (Z82 G h.1 h.2) fun _ => rfl
  | _ => exact absurd h Bool.false_ne_true
 | .bin op a b, k, Z, w0, X, ex, G, h => by
  cases ex with
  | BinOp l o r pos =>
   change (_ && _) = true at h
   simp only [Bool.and_eq_true, beq_iff_eq] at h
   obtain ⟨⟨rfl, h1⟩, h2⟩ := h
   exact both G (PE.imp (Y28 (Zc0 (w0 := w0) op) (Zx c a k Z w0 X l G h1).1 (Zx c b k Z w0 X r G h2).1) fun σ H Q q => Cz q) fun _ => rfl
  | _ => exact absurd h Bool.false_ne_true
 | .neg a, k, Z, w0, X, ex, G, h => by
  cases ex with
  | UnaryOp o l pos =>
   cases o with
   | USub =>
    have h1 : chkE k a l = true := h
    refine both G (PE.imp (Zy3 Zk3 (Zx c a k Z w0 X l G h1).1) fun σ H Q ⟨w, σD, M, QD, S, g, aq⟩ => ?_) fun _ => rfl
    refine Yq S g fun x w1 dx M1 x1 r1 rx q1 => ?_
    split at q1
    ·cases Zb.mp rx
     exact ⟨_, rfl, aq _ w1 _ M1 x1 r1 (Zb.mpr rfl) q1⟩
    ·exact q1.elim
   | _ => exact absurd h Bool.false_ne_true
  | _ => exact absurd h Bool.false_ne_true
 | .not a, k, Z, w0, X, ex, G, h => by
  cases ex with
  | UnaryOp o l pos =>
   cases o with
   | Not =>
    have h1 : chkE k a l = true := h
    obtain ⟨i1, i2⟩ := Zx c a k Z w0 X l G h1
    refine ⟨PE.imp (Zo0 i1) fun σ H Q ⟨w, σD, M, QD, S, g, aq⟩ => ?_, fun hn => PT.imp (Zt7 (i2 hn)) fun σ H Q ⟨w, σD, M, QD, S, g, aq⟩ => ?_⟩
    ·refine Yq S g fun x w1 dx M1 x1 r1 rx q1 => ?_
     obtain ⟨b, t1, t2⟩ := Tw (K := X.K) (by rw [x1.K, S.K, G.eK]) r1 rx q1
     exact ⟨b, t1, aq _ w1 _ M1 x1 r1 (Xt.mpr rfl) t2⟩
    ·exact ⟨w, σD, M, fun b M1 => QD (!b) M1, S, g, fun b w' M' x' r' q' => aq _ w' M' x' r' q'⟩
   | _ => exact absurd h Bool.false_ne_true
  | _ => exact absurd h Bool.false_ne_true
 | .cmp op a b, k, Z, w0, X, ex, G, h => by
  cases ex with
  | Compare l os rs pos =>
   match os, rs, h with
   | [o], [r], h =>
    change (_ && _) = true at h
    simp only [Bool.and_eq_true, beq_iff_eq] at h
    obtain ⟨⟨⟨rfl, h0⟩, h1⟩, h2⟩ := h
    have hm : behindInMarks (cmOf op) r = false := by
     cases r with
     | Set es kk p => cases op <;> first | (simp [isIn, B8] at h0; done) | (simp [behindInMarks, cmOf])
     | _ => rfl
    have ia := (Zx c a k Z w0 X l G h1).1
    have ib := (Zx c b k Z w0 X r G h2).1
    refine ⟨PE.imp (Zt3 (Fj (w0 := w0) G.eK G.units op) ia ib hm) fun σ H Q q => Np q, fun _ => Zr6 (PT.imp (Zp4 (Fj (w0 := w0) G.eK G.units op) ia ib hm) fun σ H Q q => Np q) te_cmp_bl⟩
   | [], _, h => exact absurd h Bool.false_ne_true
   | [_], [], h => exact absurd h Bool.false_ne_true
   | [_], _ :: _ :: _, h => exact absurd h Bool.false_ne_true
   | _ :: _ :: _, _, h => exact absurd h Bool.false_ne_true
  | _ => exact absurd h Bool.false_ne_true
 | .bop b es, k, Z, w0, X, ex, G, h => by
  cases ex with
  | BoolOp o ls pos =>
   cases b with
   | true =>
    cases o with
    | And =>
     obtain ⟨i1, i2⟩ := (Wm c es k Z w0 X ls G h).2 true pos
     exact ⟨i1, fun hn => (i2 hn).pt⟩
    | Or => exact absurd h Bool.false_ne_true
   | false =>
    cases o with
    | Or =>
     obtain ⟨i1, i2⟩ := (Wm c es k Z w0 X ls G h).2 false pos
     exact ⟨i1, fun hn => (i2 hn).pt⟩
    | And => exact absurd h Bool.false_ne_true
  | _ => cases b <;> exact absurd h Bool.false_ne_true
 | .ife t a b, k, Z, w0, X, ex, G, h => by
  cases ex with
  | IfExp x l r pos =>
   change (_ && _) = true at h
   simp only [Bool.and_eq_true] at h
   refine ⟨PE.imp (Zi0 ((Zx c t k Z w0 X x G h.1.1.1).2 h.2) (Zx c a k Z w0 X l G h.1.1.2).1 (Zx c b k Z w0 X r G h.1.2).1) fun σ H Q ⟨w, σD, M, QD, S, g, aq⟩ => ?_, fun hn => by simp [noIf] at hn⟩
   refine ⟨w, σD, M, fun r M1 => if r = true then te c Z a σD M1 QD else te c Z b σD M1 QD, S, g, fun r w1 M1 x1 r1 q1 => ?_⟩
   cases r with
   | true => rw [if_pos rfl] at q1 ⊢; exact Yq (S.next x1 r1) q1 (aq.ext x1)
   | false => rw [if_neg Bool.false_ne_true] at q1 ⊢; exact Yq (S.next x1 r1) q1 (aq.ext x1)
  | _ => exact absurd h Bool.false_ne_true
 | .lst es, k, Z, w0, X, ex, G, h => by
  cases ex with
  | List ls pos =>
   refine both G (PE.imp (Zu4 (Wm c es k Z w0 X ls G h).1) fun σ H Q ⟨w, σD, M, QD, S, g, aq⟩ => ?_) fun _ => rfl
   refine ⟨w, σD, M, _, S, g, fun vs w1 ds M1 x1 r1 rd1 q1 => ⟨by rw [rd1.length]; exact q1.1, fun p hp => ?_⟩⟩
   obtain ⟨y1, y2, y3⟩ := Wu r1 hp rd1
   exact aq _ _ _ _ (x1.trans y1) y2 y3 q1.2
  | _ => exact absurd h Bool.false_ne_true
 | .tup es, k, Z, w0, X, ex, G, h => by
  cases ex with
  | Tuple ls kk pos =>
   refine both G (PE.imp (Zx6 (Wm c es k Z w0 X ls G h).1) fun σ H Q ⟨w, σD, M, QD, S, g, aq⟩ => ?_) fun _ => rfl
   refine ⟨w, σD, M, _, S, g, fun vs w1 ds M1 x1 r1 rd1 q1 => ⟨by rw [rd1.length]; exact q1.1, fun p hp => ?_⟩⟩
   obtain ⟨y1, y2, y3⟩ := Qc r1 hp rd1
   exact aq _ _ _ _ (x1.trans y1) y2 y3 q1.2
  | _ => exact absurd h Bool.false_ne_true
 | .dict0, k, Z, w0, X, ex, G, h => by
  cases ex with
  | Dict ks vs pos =>
   match ks, vs, h with
   | [], [], h =>
    refine both G (PE.imp Zg9 fun σ H Q ⟨w, σD, M, QD, S, g, aq⟩ => ?_) fun _ => rfl
    intro p hp
    rw [← S.heap] at hp
    obtain ⟨y1, y2, y3⟩ := Fy (xs := []) (vs := []) S.rs hp (by unfold RKV; rfl)
    have := aq _ _ _ _ y1 y2 y3 g
    rw [← S.heap]
    exact this
   | [], _ :: _, h => exact absurd h Bool.false_ne_true
   | _ :: _, _, h => exact absurd h Bool.false_ne_true
  | _ => exact absurd h Bool.false_ne_true
 | .dct a b, k, Z, w0, X, ex, G, h => by
  obtain ⟨l, r, pos, rfl, h2⟩ := Z65 h
  rw [Bool.and_eq_true] at h2
  exact both G (Z60 G (Zx c a k Z w0 X l G h2.1).1 (Zx c b k Z w0 X r G h2.2).1) fun _ => rfl
 | .ix a b, k, Z, w0, X, ex, G, h => by
  cases ex with
  | Subscript l r pos =>
   change (_ && _) = true at h
   simp only [Bool.and_eq_true] at h
   exact both G (Zd2 G h.1.1 (Zx c a k Z w0 X l G h.1.2).1 (Zx c b k Z w0 X r G h.2).1) fun _ => rfl
  | _ => exact absurd h Bool.false_ne_true
 | .sl a lo hi, k, Z, w0, X, ex, G, h => by
  cases ex with
  | Subscript l r pos =>
   cases r with
   | Slice x y z p2 =>
    cases z with
    | none =>
     change (_ && _) = true at h
     simp only [Bool.and_eq_true] at h
     exact both G (Zd9 G (Zx c a k Z w0 X l G h.1.1).1 ((Ef c lo).1 k Z w0 X x G h.1.2) ((Ef c hi).1 k Z w0 X y G h.2)) fun _ => rfl
    | some _ => exact absurd h Bool.false_ne_true
   | _ => exact absurd h Bool.false_ne_true
  | _ => exact absurd h Bool.false_ne_true
 | .callw i f g es, k, Z, w0, X, ex, G, h => by
  cases ex with
  | Call fn ls kws pos =>
   cases fn with
   | Name x np =>
    cases kws with
    | nil =>
     change (_ && _) = true at h
     simp only [Bool.and_eq_true, beq_iff_eq] at h
     exact both G (Ge G h.1.1.1.1 h.1.1.1.2 h.1.1.2 h.1.2.1 h.1.2.2 h.2 (Wm c es k Z w0 X ls G h.2).1) fun _ => rfl
    | cons _ _ => exact absurd h Bool.false_ne_true
   | _ => exact absurd h Bool.false_ne_true
  | _ => exact absurd h Bool.false_ne_true
 | .setf b a, k, Z, w0, X, ex, G, h => by
  obtain ⟨x, y, l, p1, p2, q1, q2, rfl, hs⟩ := C4 h
  simp only [Bool.and_eq_true, beq_iff_eq, List.contains_iff_mem] at hs
  obtain ⟨⟨⟨⟨⟨⟨⟨⟨h1, h2⟩, h3⟩, h4⟩, h5⟩, h6⟩, h7⟩, h8⟩, h9⟩ := hs
  exact both G (Cp G h1 h2 h3 h4 h5 h6 h7 h8 (Zx c a k Z w0 X l G h9).1) fun _ => rfl
 | .rev a, k, Z, w0, X, ex, G, h => by
  obtain ⟨l, z, p2, pos, rfl, h2⟩ := Bo h
  rw [Bool.and_eq_true] at h2
  exact both G (Z52 G (Zx c a k Z w0 X l G h2.1).1 h2.2) fun _ => rfl
 | .call f es, k, Z, w0, X, ex, G, h => by
  cases ex with
  | Call fn ls kws pos =>
   cases fn with
   | Name x np =>
    cases kws with
    | nil =>
     change (_ && _) = true at h
     simp only [Bool.and_eq_true, beq_iff_eq] at h
     exact both G (Cd G h.1.1.1 h.1.1.2 h.1.2 h.2 (Wm c es k Z w0 X ls G h.2).1) fun _ => rfl
    | cons _ _ => exact absurd h Bool.false_ne_true
   | _ => exact absurd h Bool.false_ne_true
  | _ => exact absurd h Bool.false_ne_true
 | .bf b es, k, Z, w0, X, ex, G, h => by
  cases ex with
  | Call fn ls kws pos =>
   cases fn with
   | Name x np =>
    cases kws with
    | nil =>
     cases ls with
     | nil => exact absurd h Bool.false_ne_true
     | cons l ls =>
      change (_ && _) = true at h
      simp only [Bool.and_eq_true, beq_iff_eq, Bool.or_eq_true, List.contains_iff_mem] at h
      exact both G (Z88 G h.1.1.1.1 h.1.1.1.2 h.1.1.2 h.1.2 h.2 (Wm c es k Z w0 X (l :: ls) G h.2).1) fun _ => rfl
    | cons _ _ => cases ls <;> exact absurd h Bool.false_ne_true
   | _ => cases ls <;> cases kws <;> exact absurd h Bool.false_ne_true
  | _ => exact absurd h Bool.false_ne_true
 | .mt m o es, k, Z, w0, X, ex, G, h => by
  cases ex with
  | Call fn ls kws pos =>
   cases fn with
   | Attribute l nm ap =>
    cases kws with
    | nil =>
     change (_ && _) = true at h
     simp only [Bool.and_eq_true, beq_iff_eq, decide_eq_true_eq] at h
     obtain ⟨⟨⟨⟨⟨rfl, h1⟩, h2⟩, h3⟩, h4⟩, h5⟩ := h
     exact both G (Zb9 G h1 (by rw [h2]; simp) h3 h5 (Zx c o k Z w0 X l G h4).1 (Wm c es k Z w0 X ls G h5).1) fun _ => rfl
    | cons _ _ => exact absurd h Bool.false_ne_true
   | _ => exact absurd h Bool.false_ne_true
  | _ => exact absurd h Bool.false_ne_true
 | .comp N' js tg it cd e, k, Z, w0, X, ex, G, h => by
  cases ex with
  | ListComp el gens scope pos =>
   match gens, h with
   | [⟨t, iter, ifs, as⟩], h =>
    rcases as with (_ | n) | n
    ·change (_ && _) = true at h
     simp only [Bool.and_eq_true, decide_eq_true_eq] at h
     obtain ⟨⟨⟨⟨⟨⟨⟨⟨h1, h2⟩, h3⟩, h4⟩, h5⟩, h6⟩, h7⟩, h8⟩, h9⟩ := h
     exact both G (Pk G h1 h2 h3 h5 (Z29 c it k Z w0 X t iter G h4 h9) h6 h7 h8 (Zx c e) (Ef c cd)).1 fun _ => rfl
    ·exact absurd h Bool.false_ne_true
    ·exact absurd h Bool.false_ne_true
   | [], h => exact absurd h Bool.false_ne_true
   | ⟨_, _, _, as⟩ :: _ :: _, h => rcases as with (_ | _) | _ <;> exact absurd h Bool.false_ne_true
  | _ => exact absurd h Bool.false_ne_true
theorem Wm (c : Cfg) : ∀ es : Es, Zs3 c es
 | .nil, k, Z, w0, X, ls, G, h => by
  cases ls with
  | nil =>
   refine ⟨PA.imp Qv fun σ H Q ⟨w, σD, M, QD, S, g, aq⟩ => ?_, fun b pos => ⟨PE.imp (t := fun _ _ _ => False) (fun _ _ _ _ _ _ h => h.elim) fun σ H Q ⟨w, σD, M, QD, S, g, aq⟩ => g, fun _ whole pins s σ H Q I ⟨w, σD, M, QD, S, g, aq⟩ => g.elim⟩⟩
   have := aq [] w [] M (Ext.refl w) S.rs (RDs.nil w) g
   rw [S.heap] at this
   exact this
  | cons l ls => exact absurd h Bool.false_ne_true
 | .cons e r, k, Z, w0, X, ls, G, h => by
  cases ls with
  | nil => exact absurd h Bool.false_ne_true
  | cons l ls =>
   change (_ && _) = true at h
   simp only [Bool.and_eq_true] at h
   obtain ⟨ie, it⟩ := Zx c e k Z w0 X l G h.1.1
   obtain ⟨ir, ib⟩ := Wm c r k Z w0 X ls G h.2
   refine ⟨PA.imp (Vd ie ir (Zt h.1.2)) fun σ H Q ⟨w, σD, M, QD, S, g, aq⟩ => ?_, fun b pos => ?_⟩
   ·refine Yq S g fun v w1 d M1 x1 r1 rd1 q1 => ?_
    refine ⟨w1, σD, M1, _, S.next x1 r1, q1, fun vs w2 ds M2 x2 r2 rd2 q2 => ?_⟩
    exact aq _ w2 _ M2 (x1.trans x2) r2 (RDs.cons (rd1.ext x2) rd2) q2
   ·cases r with
    | nil =>
     cases ls with
     | cons _ _ => exact absurd h.2 Bool.false_ne_true
     | nil =>
      refine ⟨PE.imp (Zv5 ie) fun σ H Q q => q, fun hn => ?_⟩
      have hn' : noIf e = true := by simpa [Cb] using hn
      cases b with
      | true => exact fun whole pins s σ H Q I q => Zs7 (it hn') whole pins s σ H Q I q
      | false => exact fun whole pins s σ H Q I q => Zv4 (it hn') whole pins s σ H Q I q
    | cons e2 r2 =>
     cases ls with
     | nil => exact absurd h.2 Bool.false_ne_true
     | cons l2 ls =>
      obtain ⟨jb, jw⟩ := ib b pos
      constructor
      ·cases b with
       | true =>
        refine PE.imp (Zn9 ie jb) fun σ H Q ⟨w, σD, M, QD, S, g, aq⟩ => ?_
        refine Yq S g fun v w1 d M1 x1 r1 rd1 q1 => ?_
        obtain ⟨z, t1, t2⟩ := Tw (K := X.K) (by rw [x1.K, S.K, G.eK]) r1 rd1 q1
        refine ⟨z, t1, ?_⟩
        cases z with
        | true => rw [if_pos rfl] at t2 ⊢; exact Yq (S.next x1 r1) t2 (aq.ext x1)
        | false => rw [if_neg Bool.false_ne_true] at t2 ⊢; exact aq _ w1 _ M1 x1 r1 rd1 t2
       | false =>
        refine PE.imp (Zu6 ie jb) fun σ H Q ⟨w, σD, M, QD, S, g, aq⟩ => ?_
        refine Yq S g fun v w1 d M1 x1 r1 rd1 q1 => ?_
        obtain ⟨z, t1, t2⟩ := Tw (K := X.K) (by rw [x1.K, S.K, G.eK]) r1 rd1 q1
        refine ⟨z, t1, ?_⟩
        cases z with
        | false => rw [if_pos rfl] at t2; rw [if_neg Bool.false_ne_true]; exact Yq (S.next x1 r1) t2 (aq.ext x1)
        | true => rw [if_neg (by decide)] at t2; rw [if_pos rfl]; exact aq _ w1 _ M1 x1 r1 rd1 t2
      ·intro hn
       have hn' : noIf e = true ∧ Cb (.cons e2 r2) = true := by
        have : (noIf e && Cb (.cons e2 r2)) = true := hn
        simpa using this
       have jw' := jw hn'.2
       cases b with
       | true =>
        intro whole pins s σ H Q I ⟨w, σD, M, QD, S, g, aq⟩
        refine Y17 (it hn'.1) jw' whole pins s σ H Q I ?_
        refine ⟨w, σD, M, fun z M1 => if z = true then ttD (tbop c Z true (.cons e2 r2)) σD M1 QD else QD false M1, S, ?_, fun z w1 M1 x1 r1 q1 => ?_⟩
        ·exact te_bop_tt g
        ·cases z with
         | true => rw [if_pos rfl] at q1 ⊢; exact ⟨w1, σD, M1, QD, S.next x1 r1, q1, fun z w2 M2 x2 r2 q2 => aq z w2 M2 (x1.trans x2) r2 q2⟩
         | false => rw [if_neg Bool.false_ne_true] at q1 ⊢; exact aq _ w1 M1 x1 r1 q1
       | false =>
        intro whole pins s σ H Q I ⟨w, σD, M, QD, S, g, aq⟩
        refine Y44 (it hn'.1) jw' whole pins s σ H Q I ?_
        refine ⟨w, σD, M, fun z M1 => if z = true then QD true M1 else ttD (tbop c Z false (.cons e2 r2)) σD M1 QD, S, ?_, fun z w1 M1 x1 r1 q1 => ?_⟩
        ·exact te_bop_ff g
        ·cases z with
         | true => rw [if_pos rfl] at q1 ⊢; exact aq _ w1 M1 x1 r1 q1
         | false => rw [if_neg Bool.false_ne_true] at q1 ⊢; exact ⟨w1, σD, M1, QD, S.next x1 r1, q1, fun z w2 M2 x2 r2 q2 => aq z w2 M2 (x1.trans x2) r2 q2⟩
theorem Ef (c : Cfg) : ∀ eo : Eo, Zj2 c eo
 | .no => ⟨fun k Z w0 X lo G h => by
   cases lo with
   | none =>
    intro pins s σ H Q I ⟨w, σD, M, QD, S, g, aq⟩
    refine Zn6 pins s σ H Q I ?_
    have := aq none w M (Ext.refl w) S.rs g
    rw [S.heap] at this
    exact this
   | some _ => exact absurd h Bool.false_ne_true, fun k Z w0 X ls G h => by
   cases ls with
   | nil => exact .inr ⟨rfl, rfl⟩
   | cons _ _ => exact absurd h Bool.false_ne_true⟩
 | .yes e => ⟨fun k Z w0 X lo G h => by
   cases lo with
   | none => exact absurd h Bool.false_ne_true
   | some x =>
    intro pins s σ H Q I ⟨w, σD, M, QD, S, g, aq⟩
    refine Z53 (Zx c e k Z w0 X x G h).1 pins s σ H Q I ?_
    refine Yq S g fun v w1 d M1 x1 r1 rd1 q1 => ?_
    split at q1
    ·cases Zb.mp rd1
     exact ⟨_, rfl, aq _ w1 M1 x1 r1 q1⟩
    ·exact q1.elim, fun k Z w0 X ls G h => by
   match ls, h with
   | [x], h =>
    change (_ && _) = true at h
    simp only [Bool.and_eq_true] at h
    exact .inl ⟨x, rfl, (Zx c e k Z w0 X x G h.1).2 h.2⟩
   | [], h => exact absurd h Bool.false_ne_true
   | _ :: _ :: _, h => exact absurd h Bool.false_ne_true⟩
theorem Z29 (c : Cfg) : ∀ it : It, Y01 c it
 | .seq e, k, Z, w0, X, tg, ex, G, h, _ => by
  refine PI.imp (Y00 (Zx c e k Z w0 X ex G h).1) fun σ H R ⟨w, σD, M, QD, S, g, aq⟩ => ?_
  refine Yq S g fun v w1 d M1 x1 r1 rd1 q1 => ?_
  have hK : X.K = w1.K := by rw [x1.K, S.K, G.eK]
  unfold itD at q1
  split at q1
  ·obtain ⟨hn, rfl⟩ := Y6.mp rd1
   obtain ⟨xs, z1, z2⟩ := q1
   obtain ⟨_, vs, y1, y2, _⟩ := r1.listL z1
   rw [← hK] at y1
   exact .inl ⟨_, rfl, ⟨vs, y1⟩, aq _ w1 _ _ M1 x1 r1 (Zh1 hK hn) z2⟩
  ·obtain ⟨a, vs, rfl, y1, y2⟩ := Xn.mp rd1
   exact .inr ⟨a, rfl, ⟨vs, .of y1⟩, aq _ w1 _ _ M1 x1 r1 (Z01 hK (.of y1) y2) q1⟩
  ·obtain ⟨a, vs, rfl, y1, y2⟩ := Oe.mp rd1
   exact .inr ⟨a, rfl, ⟨vs, by rw [hK]; exact y1⟩, aq _ w1 _ _ M1 x1 r1 (Z01 hK y1 y2) q1⟩
  ·exact q1.elim
 | .rng1 a, k, Z, w0, X, tg, ex, G, h, _ => by
  cases ex with
  | Call fn ls kws pos =>
   cases fn with
   | Name x np =>
    match ls, kws, h with
    | [l], [], h =>
     change (_ && _) = true at h
     simp only [Bool.and_eq_true, beq_iff_eq, List.contains_iff_mem] at h
     obtain ⟨⟨⟨⟨rfl, h1⟩, h2⟩, h3⟩, h4⟩ := h
     obtain ⟨g1, g2, g3⟩ := G.gl h1
     refine PI.imp (Z02 g1 (G.blt _ h2) (Vd (Zx c a k Z w0 X l G h4).1 Qv (Zt h3)) (Zt h3)) fun σ H R ⟨w, σD, M, QD, S, g, aq⟩ => ?_
     refine Yq S g fun v w1 d M1 x1 r1 rd1 q1 => ?_
     split at q1
     ·cases Zb.mp rd1
      exact ⟨_, rfl, q1.1, q1.2.1, aq _ w1 _ _ M1 x1 r1 Z50 q1.2.2⟩
     ·exact q1.elim
    | [], _, h => exact absurd h Bool.false_ne_true
    | [_], _ :: _, h => exact absurd h Bool.false_ne_true
    | _ :: _ :: _, _, h => exact absurd h Bool.false_ne_true
   | _ => exact absurd h Bool.false_ne_true
  | _ => exact absurd h Bool.false_ne_true
 | .rng2 a b, k, Z, w0, X, tg, ex, G, h, _ => by
  cases ex with
  | Call fn ls kws pos =>
   cases fn with
   | Name x np =>
    match ls, kws, h with
    | [l, r], [], h =>
     change (_ && _) = true at h
     simp only [Bool.and_eq_true, beq_iff_eq, List.contains_iff_mem] at h
     obtain ⟨⟨⟨⟨⟨⟨rfl, h1⟩, h2⟩, h3⟩, h5⟩, h4⟩, h6⟩ := h
     obtain ⟨g1, g2, g3⟩ := G.gl h1
     refine PI.imp (Bv g1 (G.blt _ h2) (Vd (Zx c a k Z w0 X l G h4).1 (Vd (Zx c b k Z w0 X r G h6).1 Qv (Zt h5)) (Zt h3)) (by rw [Zt h3, Zt h5]; rfl) (Zt h5)) fun σ H R ⟨w, σD, M, QD, S, g, aq⟩ => ?_
     refine Yq S g fun v w1 d M1 x1 r1 rd1 q1 => ?_
     refine Yq (S.next x1 r1) q1 fun v2 w2 d2 M2 x2 r2 rd2 q2 => ?_
     split at q2
     ·cases Zb.mp rd1
      cases Zb.mp rd2
      exact ⟨_, _, rfl, q2.1, aq _ w2 _ _ M2 (x1.trans x2) r2 Z50 q2.2⟩
     ·exact q2.elim
    | [], _, h => exact absurd h Bool.false_ne_true
    | [_], _, h => exact absurd h Bool.false_ne_true
    | [_, _], _ :: _, h => exact absurd h Bool.false_ne_true
    | _ :: _ :: _ :: _, _, h => exact absurd h Bool.false_ne_true
   | _ => exact absurd h Bool.false_ne_true
  | _ => exact absurd h Bool.false_ne_true
 | .zip es, k, Z, w0, X, tg, ex, G, h, ht => by
  cases tg with
  | Tuple elts ctx tp =>
   obtain ⟨l, ls, p, q, rfl, h2⟩ := Z37 h
   simp only [Bool.and_eq_true, List.contains_iff_mem] at h2
   obtain ⟨⟨h3, h4⟩, h5⟩ := h2
   obtain ⟨g1, g2, g3⟩ := G.gl h3
   obtain ⟨s1, s2⟩ := Y51 h5
   refine PI.imp (Zw9 g1 (G.blt _ h4) (Wm c es k Z w0 X (l :: ls) G h5).1 s1 s2) fun σ H R ⟨w, σD, M, QD, S, g, aq⟩ => ?_
   refine ⟨w, σD, M, _, S, g, fun vs w1 ds M1 x1 r1 rd1 q1 => ?_⟩
   obtain ⟨da, db, rfl, q2⟩ := Qt q1
   obtain ⟨n, rfl, q3⟩ := W2 q2
   obtain ⟨m, rfl, ys, zs, z1, z2, z3⟩ := W2 q3
   obtain ⟨v1, v2, rfl, a1, a2⟩ := rds2 rd1
   obtain ⟨hn, rfl⟩ := Y6.mp a1
   obtain ⟨hm, rfl⟩ := Y6.mp a2
   have hK : X.K = w1.K := by rw [x1.K, S.K, G.eK]
   obtain ⟨_, us, y1, _, _⟩ := r1.listL z1
   obtain ⟨_, vs, y2, _, _⟩ := r1.listL z2
   rw [← hK] at y1 y2
   exact ⟨_, _, rfl, ⟨us, y1⟩, ⟨vs, y2⟩, aq _ w1 _ _ M1 x1 r1 (Zm3 hK hn hm) z3⟩
  | _ => exact absurd ht Bool.false_ne_true
 | .enm a, k, Z, w0, X, tg, ex, G, h, ht => by
  cases tg with
  | Tuple elts ctx tp =>
   cases ex with
   | Call fn ls kws pos =>
    cases fn with
    | Name x np =>
     match ls, kws, h with
     | [l], [], h =>
      change (_ && _) = true at h
      simp only [Bool.and_eq_true, beq_iff_eq, List.contains_iff_mem] at h
      obtain ⟨⟨⟨⟨rfl, h1⟩, h2⟩, h3⟩, h4⟩ := h
      obtain ⟨g1, g2, g3⟩ := G.gl h1
      refine PI.imp (Zp2 g1 (G.blt _ h2) (Vd (Zx c a k Z w0 X l G h4).1 Qv (Zt h3)) (Zt h3)) fun σ H R ⟨w, σD, M, QD, S, g, aq⟩ => ?_
      refine Yq S g fun v w1 d M1 x1 r1 rd1 q1 => ?_
      have hK : X.K = w1.K := by rw [x1.K, S.K, G.eK]
      split at q1
      ·obtain ⟨hn, rfl⟩ := Y6.mp rd1
       obtain ⟨xs, z1, z2⟩ := q1
       obtain ⟨_, vs, y1, y2, _⟩ := r1.listL z1
       rw [← hK] at y1
       exact ⟨_, rfl, ⟨vs, y1⟩, aq _ w1 _ _ M1 x1 r1 (Ze9 hK hn) z2⟩
      ·exact q1.elim
     | [], _, h => exact absurd h Bool.false_ne_true
     | [_], _ :: _, h => exact absurd h Bool.false_ne_true
     | _ :: _ :: _, _, h => exact absurd h Bool.false_ne_true
    | _ => exact absurd h Bool.false_ne_true
   | _ => exact absurd h Bool.false_ne_true
  | _ => exact absurd ht Bool.false_ne_true
end
def Fk : Expr → Bool
 | .ListComp .. | .SetComp .. | .DictComp .. => false
 | _ => true
def Z18 : Expr → Bool
 | .Tuple .. => false
 | _ => true
def Zk7 : Expr → Bool
 | .Name .. => true
 | _ => false
def Zs5 (k : Ck) (t x : Expr) : Bool := match t, x with
 | .Name n pos, .ListComp _ _ scope p => k.sc.kind == .function && k.loc n && pos.line == p.line && !(scope.names.any fun (m, j) => m == n && (j == .local || j == .cell))
 | _, _ => false
def Zw2 (k : Ck) (t x : Expr) : Bool := match t, x with
 | .Name n _, .ListComp .. => k.sc.names.lookup n == some .cell
 | _, _ => false
mutual
def chkS (k : Ck) : S → Stmt → Bool
 | .ret e, .Return (some x) _ => chkE k e x
 | .expr e, .Expr x _ => Fk x && chkE k e x
 | .set tg e, .Assign [t] x _ => Jn k tg t && chkE k e x && ((Fk x && (Zk7 t || Z18 x)) || (Zs5 k t x && decide (tg.length = 1)) || Zw2 k t x)
 | .put o i v, .Assign [.Subscript l r _] x _ => G5 r && Fk x && chkE k v x && chkE k o l && chkE k i r
 | .ite t a b, .If x ls rs _ => chkE k t x && noIf t && Yl k a ls && Yl k b rs
 | .for_ tg it b, .For t x ls [] _ => k.calm && k.loops && B8 x && Jn k tg t && Z89 k it x && Yl k b ls && itTg it t
 | .while_ t b, .While x ls [] _ => k.loops && chkE k t x && noIf t && Yl k b ls
 | _, _ => false
def Yl (k : Ck) : Ss → List Stmt → Bool
 | .nil, [] => true
 | .cons s r, x :: xs => chkS k s x && Yl k r xs
 | _, _ => false
end
section
variable {c : Cfg} {k : Ck} {Z : DX} {w0 : Vw} {X : Cx}
theorem Gp {x : Expr} {t : Option Expr} {line : Nat} {env : Env} (h : Fk x = true) : swapsWith x t line env = pure false := by
 cases x <;> first | rfl | cases h
theorem Ng {f : DS} {σ : L2.St} {w : Vw} {σD : DEnv} {M : Z3} {H : Hp} {R : Ends} {RR : DEnds} (S : StOk w0 w σD M σ H) (h : f RR σD M)
  (h1 : ∀ σ' w' σD' M', Ext w w' → RS w' M' → REnv w' σD' σ' → RR.nx σD' M' → R.nx σ' w'.H) (h2 : Aft w RR.rt R.rt)
  (h3 : ∀ σ' w' σD' M', Ext w w' → RS w' M' → REnv w' σD' σ' → RR.bk σD' M' → R.bk σ' w'.H)
  (h4 : ∀ σ' w' σD' M', Ext w w' → RS w' M' → REnv w' σD' σ' → RR.ct σD' M' → R.ct σ' w'.H) : tFS w0 f R σ H := ⟨w, σD, M, RR, S, h, h1, h2, h3, h4⟩
theorem Zo5 {w1 : Vw} {J : L2.It} {own : Own} {xs : List D} {tg : List Nat} {body : DS} {M1 : Z3} {H1 : Hp} {σD : DEnv} {σ : L2.St} {RR : DEnds} {R : Ends} (S : StOk w0 w1 σD M1 σ H1) (jk : JOk w1 J own xs)
  (h : forD own xs tg body xs RR σD M1)
  (h1 : ∀ σ' w' σD' M', Ext w1 w' → RS w' M' → REnv w' σD' σ' → RR.nx σD' M' → R.nx σ' w'.H) (h2 : Aft w1 RR.rt R.rt) :
  ∃ W : Nat → Nat → L2.St → Hp → Prop, (∃ m, W 0 m σ H1) ∧ ∀ i m σ H, W i m σ H →
   (J.stop i H ∧ R.nx σ H) ∨ (J.go i H ∧ ∃ N : L2.St → Hp → Prop, (∀ σ' H', N σ' H' → ∃ m', m' < m ∧ W (i + 1) m' σ' H') ∧ ∀ x H', J.yld i H x H' → gF w0 tg x σ H' fun σ2 H2 => tFS w0 body { R with nx := N, ct := N, bk := R.nx } σ2 H2) := by
 refine ⟨fun i m σ H => ∃ w σE M, StOk w0 w σE M σ H ∧ Ext w1 w ∧ i ≤ xs.length ∧ m = xs.length - i ∧ forD own xs tg body (xs.drop i) RR σE M, ⟨xs.length, w1, σD, M1, S, Ext.refl _, Nat.zero_le _, rfl, h⟩, ?_⟩
 rintro i m σc Hc ⟨w, σE, M, S1, x1, hi, rfl, hc⟩
 have stp : ∀ st : Oo own xs M, _ := fun st => jk w M x1 S1.rs st i
 rw [S1.heap] at stp
 by_cases hil : i < xs.length
 ·rw [List.drop_eq_getElem_cons hil] at hc
  obtain ⟨st, hc⟩ := hc
  obtain ⟨j1, j2⟩ := (stp st).1 xs[i] (List.getElem?_eq_getElem hil)
  refine .inr ⟨j1, fun σ' H' => ∃ w σE M, StOk w0 w σE M σ' H' ∧ Ext w1 w ∧ i + 1 ≤ xs.length ∧ forD own xs tg body (xs.drop (i + 1)) RR σE M, ?_, fun x H' hy => ?_⟩
  ·rintro σ' H' ⟨w2, σ2, M2, S2, x2, l2, f2⟩
   exact ⟨xs.length - (i + 1), by omega, w2, σ2, M2, S2, x2, l2, rfl, f2⟩
  ·obtain ⟨w3, rfl, x3, R3, rd3⟩ := j2 x H' hy
   refine ⟨w3, σE, M, xs[i], _, ⟨rfl, S1.ext.trans x3, R3, S1.env.ext x3⟩, rd3, hc, fun σ2 σE2 env2 q2 => ?_⟩
   have nxt : ∀ σ' w' σD' M', Ext w3 w' → RS w' M' → REnv w' σD' σ' → forD own xs tg body (xs.drop (i + 1)) RR σD' M' →
     ∃ w σE M, StOk w0 w σE M σ' w'.H ∧ Ext w1 w ∧ i + 1 ≤ xs.length ∧ forD own xs tg body (xs.drop (i + 1)) RR σE M :=
    fun σ' w' σD' M' x' r' e' q' => ⟨w', σD', M', ⟨rfl, (S1.ext.trans x3).trans x', r', e'⟩, (x1.trans x3).trans x', hil, q'⟩
   exact Ng ⟨rfl, S1.ext.trans x3, R3, env2⟩ q2 nxt (fun v w' d M' x' r' rd' q' => h2 v w' d M' ((x1.trans x3).trans x') r' rd' q')
    (fun σ' w' σD' M' x' r' e' q' => h1 σ' w' σD' M' ((x1.trans x3).trans x') r' e' q') nxt
 ·rw [List.drop_eq_nil_of_le (by omega)] at hc
  obtain ⟨st, hq⟩ := hc
  refine .inl ⟨(stp st).2 (by omega), ?_⟩
  have := h1 σc w σE M x1 S1.rs S1.env hq
  rw [S1.heap] at this
  exact this
theorem Zv7 {o i value : Expr} {td ty tv : TE} {pos pos' : Pos} (hu : X.A.units + 1 < cLine) (ho : PE X o td) (hi : PE X i ty) (hv : PE X value tv) (hs : swapsWith value (some (.Subscript o i pos')) pos.line X.env = pure false) :
  PS X (.Assign [.Subscript o i pos'] value pos) (fun R σ H => tv σ H fun v H1 => td σ H1 fun x H2 => ty σ H2 fun y H3 => Zz7 x y v H3 (fun H4 => R.nx σ H4) ∨ ∃ a H4, x = .ref a ∧ DPut H3 a y v H4 ∧ R.nx σ H4) := by
 intro pins s σ H D I h
 refine wpAny_Assign_Subscript (thn (hv pins s σ H _ I h) fun r s1 ⟨v, H1, I1, rv, q1⟩ => thn (ho pins s1 σ H1 _ I1 q1) fun u s2 ⟨x, H2, I2, rx, q2⟩ => thn (hi pins s2 σ H2 _ I2 q2) fun iv s3 ⟨y, H3, I3, ry, q3⟩ => ?_) hs
 rcases q3 with q3 | ⟨a, H4, ex, g, q3⟩
 ·exact thn (Za0 pins s3 σ H3 x y v u iv r (fun H4 => D.nx σ H4) I3 rx ry rv q3) fun _ s4 ⟨H4, I4, q4⟩ => ⟨σ, H4, I4, q4⟩
 ·subst ex
  obtain rfl : u = Value.ref a := rx
  exact Z78 hu I3 g ry rv fun s4 I4 => ⟨σ, H4, I4, q3⟩
end
def Z66 (c : Cfg) (s : S) : Prop := ∀ (k : Ck) (Z : DX) (w0 : Vw) (X : Cx) (st : Stmt), Good c k Z w0 X → chkS k s st = true → PS X st (tFS w0 (ts c Z s))
def Zp9 (c : Cfg) (s : Ss) : Prop := ∀ (k : Ck) (Z : DX) (w0 : Vw) (X : Cx) (st : List Stmt), Good c k Z w0 X → Yl k s st = true → PSs X st (tFS w0 (tss c Z s))
section
variable {c : Cfg} {k : Ck} {Z : DX} {w0 : Vw} {X : Cx}
end
theorem Er {k : Ck} {t x : Expr} (h : Zs5 k t x = true) : ∃ n np el gens scope p, t = .Name n np ∧ x = .ListComp el gens scope p := by
 cases t with
 | Name n np =>
  cases x with
  | ListComp el gens scope p => exact ⟨_, _, _, _, _, _, rfl, rfl⟩
  | _ => exact absurd h Bool.false_ne_true
 | _ => exact absurd h Bool.false_ne_true
theorem Ev {k : Ck} {t x : Expr} (h : Zw2 k t x = true) : ∃ n np el gens scope p, t = .Name n np ∧ x = .ListComp el gens scope p ∧ k.sc.names.lookup n = some .cell := by
 cases t with
 | Name n np =>
  cases x with
  | ListComp el gens scope p => exact ⟨_, _, _, _, _, _, rfl, rfl, eq_of_beq h⟩
  | _ => exact absurd h Bool.false_ne_true
 | _ => exact absurd h Bool.false_ne_true
theorem C1 {k : Ck} {e : E} {el : Expr} {gens : List Comprehension} {scope : Scope} {p : Pos} (h : chkE k e (.ListComp el gens scope p) = true) :
  ∃ N' js tg it cd e' t iter ifs, e = .comp N' js tg it cd e' ∧ gens = [⟨t, iter, ifs, 0⟩] := by
 cases e with
 | comp N' js tg it cd e' =>
  cases gens with
  | nil => exact absurd h Bool.false_ne_true
  | cons g r =>
   cases g with
   | mk t iter ifs as =>
    cases as with
    | ofNat n =>
     cases n with
     | zero =>
      cases r with
      | nil => exact ⟨_, _, _, _, _, _, _, _, _, rfl, rfl⟩
      | cons _ _ => exact absurd h Bool.false_ne_true
     | succ n => exact absurd h Bool.false_ne_true
    | negSucc n => exact absurd h Bool.false_ne_true
 | bop b es => cases b <;> exact absurd h Bool.false_ne_true
 | _ => exact absurd h Bool.false_ne_true
theorem Z13 (c : Cfg) (tg : List Nat) (e : E) : Z66 c (.set tg e) := by
  intro k Z w0 X st G h
  cases st with
  | Assign ts' x pos =>
   match ts', h with
   | [t], h =>
    change (_ && _) = true at h
    simp only [Bool.and_eq_true, Bool.or_eq_true, decide_eq_true_eq] at h
    obtain ⟨⟨ht, he⟩, h⟩ := h
    rcases h with (⟨hc, hs⟩ | ⟨hs, hl⟩) | hs
    rotate_left 2
    ·obtain ⟨n, np, el, gens, scope, p, rfl, rfl, hcell⟩ := Ev hs
     have h1 : swapsWithSole [.Name n np] (.ListComp el gens scope p) pos.line X.env = pure false := by
      have hk : X.env.kindOf n = some .cell := by
       unfold Env.kindOf
       rw [G.sc]; exact hcell
      have hk' : (X.env.kindOf n == some NameKind.local) = false := by rw [hk]; rfl
      unfold swapsWithSole swapsWith
      simp only [hk', Bool.and_false, Bool.false_and]
     refine PS.imp (Zk1 (Zx c e k Z w0 X _ G he).1 (G.tgt tg _ ht) h1 rfl rfl) fun R σ H ⟨w, σD, M, RR, S, q, q1, q2, q3, q4⟩ => ?_
     refine Yq S q fun v w' d M' x' r' rd' q' => ?_
     exact ⟨w', σD, M', d, _, S.next x' r', rd', q', fun σ' σD' e' z => q1 σ' w' σD' M' x' r' e' z⟩
    ·have h1 : swapsWithSole [t] x pos.line X.env = pure false := Gp hc
     have h2 : swappedStores [t] x X.env = pure none := by
      cases t with
      | Name n p => cases x <;> rfl
      | Tuple es kk p =>
       have : Z18 x = true := hs.resolve_left (by simp [Zk7])
       cases x <;> first | rfl | cases this
      | _ => exact absurd ht Bool.false_ne_true
     have h3 : (assignEach [t] X.env).map (·.2) = [assign t X.env] := by
      cases t with
      | Name n p => rfl
      | Tuple es kk p => rfl
      | _ => exact absurd ht Bool.false_ne_true
     refine PS.imp (Zk1 (Zx c e k Z w0 X x G he).1 (G.tgt tg t ht) h1 h2 h3) fun R σ H ⟨w, σD, M, RR, S, q, q1, q2, q3, q4⟩ => ?_
     refine Yq S q fun v w' d M' x' r' rd' q' => ?_
     exact ⟨w', σD, M', d, _, S.next x' r', rd', q', fun σ' σD' e' z => q1 σ' w' σD' M' x' r' e' z⟩
    ·match tg, hl, ht with
     | [i], _, ht =>
      obtain ⟨n, np, el, gens, scope, p, rfl, rfl⟩ := Er hs
      obtain ⟨N', js, tg, it, cd, e, t2, iter, ifs, rfl, rfl⟩ := C1 he
      change (_ && _) = true at he
      simp only [Bool.and_eq_true, decide_eq_true_eq] at he
      obtain ⟨⟨⟨⟨⟨⟨⟨⟨h1, h2⟩, h3⟩, h4⟩, h5⟩, h6⟩, h7⟩, h8⟩, h9⟩ := he
      change (_ && _) = true at ht
      simp only [Bool.and_eq_true, beq_iff_eq] at ht
      simp only [Zs5, Bool.and_eq_true, beq_iff_eq, Bool.not_eq_true'] at hs
      obtain ⟨⟨⟨s1, s2⟩, s3⟩, s4⟩ := hs
      have hl' : X.env.scope.names.lookup n = some .local := by
       unfold Ck.loc at s2
       rw [G.sc]; exact eq_of_beq s2
      have hsw : swapsWith (.ListComp el [⟨t2, iter, ifs, 0⟩] scope p) (some (.Name n np)) pos.line X.env = pure true := by
       unfold swapsWith
       have hb : (X.env.blockKind == ScopeKind.function) = true := by
        unfold Env.blockKind
        rw [G.sc, s1]; rfl
       have hk : (X.env.kindOf n == some NameKind.local) = true := by
        unfold Env.kindOf
        rw [hl']; rfl
       have hp : (np.line == (Expr.ListComp el [⟨t2, iter, ifs, 0⟩] scope p).pos.line) = true := by
        show (np.line == p.line) = true
        rw [s3]; simp
       simp only [hb, hk, hp, s4, Bool.not_false, Bool.and_self]
      refine PS.imp ((Pk G h1 h2 h3 h5 (Z29 c it k Z w0 X t2 iter G h4 h9) h6 h7 h8 (Zx c e) (Ef c cd)).2 i n np pos (by rw [G.N]; exact ht.1) hl' hsw) fun R σ H ⟨w, σD, M, RR, S, q, q1, q2, q3, q4⟩ => ?_
      have q : te c Z (.comp N' js tg it cd e) σD M fun d M1 => RR.nx (σD.set i (some d)) M1 := q
      refine Yq S q fun v w' d M' x' r' rd' q' => ?_
      exact q1 _ w' _ M' x' r' ((S.env.ext x').set i rd') q'
     | [], hl, _ => simp at hl
     | _ :: _ :: _, hl, _ => simp at hl
   | [], h => exact absurd h Bool.false_ne_true
   | _ :: _ :: _, h => exact absurd h Bool.false_ne_true
  | _ => exact absurd h Bool.false_ne_true
theorem Bi (c : Cfg) (o i v : E) : Z66 c (.put o i v) := by
  intro k Z w0 X st G h
  cases st with
  | Assign ts' x pos =>
   match ts', h with
   | [t], h =>
    cases t with
    | Subscript l r p =>
     change (_ && _) = true at h
     simp only [Bool.and_eq_true] at h
     obtain ⟨⟨⟨⟨h1, h2⟩, h3⟩, h4⟩, h5⟩ := h
     refine PS.imp (Zv7 (by have := G.units; omega) (Zx c o k Z w0 X l G h4).1 (Zx c i k Z w0 X r G h5).1 (Zx c v k Z w0 X x G h3).1 (Gp h2)) fun R σ H ⟨w, σD, M, RR, S, q, q1, q2, q3, q4⟩ => ?_
     refine Yq S q fun vv w1 dv M1 x1 r1 rd1 z1 => ?_
     refine Yq (S.next x1 r1) z1 fun vo w2 dob M2 x2 r2 rd2 z2 => ?_
     refine Yq ((S.next x1 r1).next x2 r2) z2 fun vi w3 di M3 x3 r3 rd3 z3 => ?_
     split at z3
     ·obtain ⟨hn, rfl⟩ := Y6.mp (rd2.ext x3)
      rcases z3 with ⟨xs, kk, j, rfl, y1, y2, y3⟩ | ⟨kvs, kk, y1, y2, y3, y4⟩
      ·cases Zb.mp rd3
       obtain ⟨hn, vs, u1, u2⟩ := r3.list y1
       obtain ⟨t1, t2⟩ := Xv r3 hn u1 (u2.set (rd1.ext (x2.trans x3)) j)
       exact .inl ⟨_, vs, kk, j, rfl, rfl, u1, by rw [u2.length]; exact y2, q1 σ _ σD _ (((x1.trans x2).trans x3).trans t1) t2 (S.env.ext (((x1.trans x2).trans x3).trans t1)) y3⟩
      ·obtain ⟨hn, vs, u1, u2⟩ := r3.dict y1
       cases Q8 y2 rd3
       obtain ⟨t1, t2⟩ := Pz r3 hn u1 (u2.put (k := kk) (rd1.ext (x2.trans x3)))
       exact .inr ⟨_, _, rfl, DPut.k (k := kk) u1 (by rw [u2.length]; exact y3), q1 σ _ σD _ (((x1.trans x2).trans x3).trans t1) t2 (S.env.ext (((x1.trans x2).trans x3).trans t1)) y4⟩
     ·exact z3.elim
    | _ => exact absurd h Bool.false_ne_true
   | [], h => exact absurd h Bool.false_ne_true
   | a :: b :: r, h => cases a <;> exact absurd h Bool.false_ne_true
  | _ => exact absurd h Bool.false_ne_true
mutual
theorem Zu8 (c : Cfg) : ∀ s : S, Z66 c s
 | .ret e, k, Z, w0, X, st, G, h => by
  cases st with
  | Return v pos =>
   cases v with
   | some x => exact PS.imp (Zj9 (Zx c e k Z w0 X x G h).1) fun R σ H ⟨w, σD, M, RR, S, q, h1, h2, h3, h4⟩ => Yq S q h2
   | none => exact absurd h Bool.false_ne_true
  | _ => exact absurd h Bool.false_ne_true
 | .expr e, k, Z, w0, X, st, G, h => by
  cases st with
  | Expr x pos =>
   change (_ && _) = true at h
   simp only [Bool.and_eq_true] at h
   exact PS.imp (Zm6 (Zx c e k Z w0 X x G h.2).1 (Gp h.1)) fun R σ H ⟨w, σD, M, RR, S, q, h1, h2, h3, h4⟩ => Yq S q fun v w' d M' x' r' rd' q' => h1 σ w' σD M' x' r' (S.env.ext x') q'
  | _ => exact absurd h Bool.false_ne_true
 | .set tg e, k, Z, w0, X, st, G, h => Z13 c tg e k Z w0 X st G h
 | .put o i v, k, Z, w0, X, st, G, h => Bi c o i v k Z w0 X st G h
 | .ite t a b, k, Z, w0, X, st, G, h => by
  cases st with
  | If x ls rs pos =>
   change (_ && _) = true at h
   simp only [Bool.and_eq_true] at h
   obtain ⟨⟨⟨h1, h2⟩, h3⟩, h4⟩ := h
   refine PS.imp (Zv6 ((Zx c t k Z w0 X x G h1).2 h2) (Sc c a k Z w0 X ls G h3) (Sc c b k Z w0 X rs G h4)) fun R σ H ⟨w, σD, M, RR, S, q, q1, q2, q3, q4⟩ => ?_
   refine ⟨w, σD, M, _, S, q, fun z w1 M1 x1 r1 y1 => ?_⟩
   have fin : ∀ {f : DS}, f RR σD M1 → tFS w0 f R σ w1.H := fun hf => Ng (S.next x1 r1) hf (fun σ' w' σD' M' x' r' e' z => q1 σ' w' σD' M' (x1.trans x') r' e' z) (q2.ext x1)
    (fun σ' w' σD' M' x' r' e' z => q3 σ' w' σD' M' (x1.trans x') r' e' z) (fun σ' w' σD' M' x' r' e' z => q4 σ' w' σD' M' (x1.trans x') r' e' z)
   cases z with
   | true =>
    rw [if_pos rfl] at y1
    show if (true : Bool) = true then _ else _
    rw [if_pos rfl]; exact fin y1
   | false =>
    rw [if_neg Bool.false_ne_true] at y1
    show if (false : Bool) = true then _ else _
    rw [if_neg Bool.false_ne_true]; exact fin y1
  | _ => exact absurd h Bool.false_ne_true
 | .for_ tg it b, k, Z, w0, X, st, G, h => by
  cases st with
  | For t x ls els pos =>
   cases els with
   | nil =>
    change (_ && _) = true at h
    simp only [Bool.and_eq_true] at h
    obtain ⟨⟨⟨⟨⟨⟨h1, h2⟩, h3⟩, h4⟩, h5⟩, h6⟩, h7⟩ := h
    have hf : ∀ v, foldedSetIterable x X.env v = pure v := by
     intro v
     cases x <;> first | rfl | cases h3
    refine PS.imp (Y11 (G.po h2) (G.calm h1) (Z29 c it k Z w0 X t x G h5 h7) (G.tgt tg t h4) (Sc c b k Z w0 X ls G h6) hf) fun R σ H ⟨w, σD, M, RR, S, q, q1, q2, q3, q4⟩ => ?_
    refine ⟨w, σD, M, _, S, q, fun J w1 own xs M1 x1 r1 jk z => ?_⟩
    exact Zo5 (S.next x1 r1) jk z (fun σ' w' σD' M' x' r' e' z => q1 σ' w' σD' M' (x1.trans x') r' e' z) (q2.ext x1)
   | cons _ _ => exact absurd h Bool.false_ne_true
  | _ => exact absurd h Bool.false_ne_true
 | .while_ t b, k, Z, w0, X, st, G, h => by
  cases st with
  | While x ls els pos =>
   cases els with
   | nil =>
    change (_ && _) = true at h
    simp only [Bool.and_eq_true] at h
    obtain ⟨⟨⟨h1, h2⟩, h3⟩, h4⟩ := h
    refine PS.imp (Zc6 (G.po h1) ((Zx c t k Z w0 X x G h2).2 h3) (Sc c b k Z w0 X ls G h4)) fun R σ H ⟨w, σD, M, RR, S, q, q1, q2, q3, q4⟩ => ?_
    obtain ⟨W, ⟨m0, hm0⟩, step⟩ := q
    refine ⟨fun m σ H => ∃ w2 σE M2, StOk w0 w2 σE M2 σ H ∧ Ext w w2 ∧ W m σE M2, ⟨m0, w, σD, M, S, Ext.refl w, hm0⟩, ?_⟩
    rintro m σ2 H2 ⟨w2, σE, M2, S2, x2, hW⟩
    refine ⟨w2, σE, M2, _, S2, step m σE M2 hW, fun z w3 M3 x3 r3 y3 => ?_⟩
    cases z with
    | false =>
     rw [if_neg Bool.false_ne_true] at y3 ⊢
     exact q1 σ2 w3 σE M3 (x2.trans x3) r3 (S2.env.ext x3) y3
    | true =>
     rw [if_pos rfl] at y3 ⊢
     have nxt : ∀ σ' w' σD' M', Ext w3 w' → RS w' M' → REnv w' σD' σ' → (∃ m', m' < m ∧ W m' σD' M') → ∃ m', m' < m ∧ ∃ w2 σE M2, StOk w0 w2 σE M2 σ' w'.H ∧ Ext w w2 ∧ W m' σE M2 :=
      fun σ' w' σD' M' x' r' e' ⟨m', l', z'⟩ => ⟨m', l', w', σD', M', ⟨rfl, (S2.ext.trans x3).trans x', r', e'⟩, (x2.trans x3).trans x', z'⟩
     refine ⟨fun σ' H' => ∃ m', m' < m ∧ ∃ w2 σE M2, StOk w0 w2 σE M2 σ' H' ∧ Ext w w2 ∧ W m' σE M2, fun σ' H' z => z, ?_⟩
     exact Ng (S2.next x3 r3) y3 nxt (fun v w' d M' x' r' rd' z' => q2 v w' d M' ((x2.trans x3).trans x') r' rd' z') (fun σ' w' σD' M' x' r' e' z' => q1 σ' w' σD' M' ((x2.trans x3).trans x') r' e' z') nxt
   | cons _ _ => exact absurd h Bool.false_ne_true
  | _ => exact absurd h Bool.false_ne_true
theorem Sc (c : Cfg) : ∀ s : Ss, Zp9 c s
 | .nil, k, Z, w0, X, st, G, h => by
  cases st with
  | nil =>
   refine PSs.imp Z80 fun R σ H ⟨w, σD, M, RR, S, q, h1, _⟩ => ?_
   have := h1 σ w σD M (Ext.refl w) S.rs S.env q
   rw [S.heap] at this
   exact this
  | cons _ _ => exact absurd h Bool.false_ne_true
 | .cons s r, k, Z, w0, X, st, G, h => by
  cases st with
  | nil => exact absurd h Bool.false_ne_true
  | cons x xs =>
   change (_ && _) = true at h
   simp only [Bool.and_eq_true] at h
   refine PSs.imp (Za2 (Zu8 c s k Z w0 X x G h.1) (Sc c r k Z w0 X xs G h.2)) fun R σ H ⟨w, σD, M, RR, S, q, h1, h2, h3, h4⟩ => ?_
   refine Ng S q ?_ h2 h3 h4
   intro σ' w' σD' M' x' r' e' q'
   exact Ng ⟨rfl, S.ext.trans x', r', e'⟩ q' (fun σ2 w2 σD2 M2 x2 r2 e2 z => h1 σ2 w2 σD2 M2 (x'.trans x2) r2 e2 z) (h2.ext x') (fun σ2 w2 σD2 M2 x2 r2 e2 z => h3 σ2 w2 σD2 M2 (x'.trans x2) r2 e2 z) (fun σ2 w2 σD2 M2 x2 r2 e2 z => h4 σ2 w2 σD2 M2 (x'.trans x2) r2 e2 z)
end
theorem FnOk.cx {P : Program} {w : World} {K : PySem.W.Frag} {mg : Str → Option Value} {base : Heap} {CX : CXT} {k : Nat} {f : Addr} {fd : FuncData} {ps : List Str} {sp : Sp} (F : FnOk P w K mg base CX0 k f fd ps sp) : FnOk P w K mg base CX k f fd ps sp :=
 ⟨F.len, fun A outer s H args us vs Q E hr he hb hv hs => codeAny_mono (F.run A outer s H args us vs Q E hr he hb hv hs) fun r s' h => by
  cases r with
  | error e => exact False.elim h
  | ok fl => cases fl <;> exact h⟩
structure Prg (P : Program) (w : World) (K : PySem.W.Frag) (mg : Str → Option Value) (base : Heap) (c : Cfg) (FN GN BN : List Str) (lv : Nat) : Prop where
 hK : c.K = K
 fns : ∀ (f : Nat) (x : Str) (sp : DSp), FN[f]? = some x → c.Γ[f]? = some sp → ∃ (kk : Nat) (f : Addr) (fd : FuncData) (ps : List Str) (ds : List Value) (dvs : List V) (dD : List D) (sp0 : DSp), FnOk P w K mg base (CX1 P w) kk f fd ps (spF K sp0) ∧ kk ≤ lv ∧ mg x = some (.ref f) ∧ PySem.W.keepIn K (.ref f) = true ∧
  Ya K fd ps ds ∧ Vals dvs ds ∧ (∀ w : Vw, w.K = K → RDs w dD dvs) ∧ ∀ as M Q Z, sp as M Q Z → sp0 (as ++ dD) M Q Z
 flen : FN.length = c.Γ.length
 glb : ∀ (g : Nat) (x : Str) (d : D), GN[g]? = some x → c.G[g]? = some d → ∃ v u, mg x = some u ∧ RelV v u ∧ ∀ w : Vw, w.K = K → RD w d v
 blt : ∀ x, x ∈ BN → mg x = none
def start0 (N : List Str) (ds : List D) : DEnv := ds.map some ++ List.replicate (N.length - ds.length) none
theorem Z39 {w : Vw} {N : List Str} {ds : List D} {vs : List V} (r : RDs w ds vs) : REnv w (start0 N ds) (L2.start N vs) := by
 refine ⟨by unfold start0 L2.start; simp [r.length], fun i d e => ?_⟩
 unfold start0 at e
 unfold L2.start
 by_cases hi : i < ds.length
 ·rw [List.getElem?_append_left (by simpa using hi), List.getElem?_map] at e
  rw [List.getElem?_append_left (by rw [List.length_map, r.length]; exact hi), List.getElem?_map]
  cases hd : ds[i]? with
  | none => rw [hd] at e; cases e
  | some d' =>
   rw [hd] at e
   have e' : d' = d := by simpa using e
   subst e'
   obtain ⟨v, q1, q2⟩ := r.get hd
   exact ⟨v, by rw [q1]; rfl, q2⟩
 ·rw [List.getElem?_append_right (by simpa using hi)] at e
  have := List.getElem?_eq_some_iff.mp e
  simp at this
section
variable {P : Program} {w : World} {K : PySem.W.Frag} {mg : Str → Option Value} {base : Heap} {c : Cfg} {FN GN BN : List Str} {lv : Nat} {x qual : Str} {st : Stmt} {f : Addr} {fd : FuncData} {N ps : List Str}
abbrev ck0 (N : List Str) (st : Stmt) (FN GN BN : List Str) : Ck := ⟨N, Z1 st, FN, GN, BN, true, true, true, [], true, []⟩
theorem fn0 (Pr : Prg P w K mg base c FN GN BN lv) (F : Fun K x qual st f fd) (S : FnScope N ps (Z1 st)) {body : Ss} (hc : Yl (ck0 N st FN GN BN) body (Z4 st) = true) {sp : DSp} (hl : ∀ ds M Q Z, sp ds M Q Z → ds.length = ps.length)
  (hb : ∀ ds M Q Z, sp ds M Q Z → tss c noX body { nx := fun _ M => Q .non M, rt := Q } (start0 N ds) M) : FnOk P w K mg base (CX1 P w) (lv + 1) f fd ps (spF K sp) := by
 refine FnOk.cx (F.ok S (fun vs H Q E h => ?_) fun cdv A outer s H vs Q E hr h => ?_)
 ·obtain ⟨w, ds, M, QD, Z, _, _, _, r, h, _⟩ := h
  rw [r.length]; exact hl _ _ _ _ h
 obtain ⟨w', ds, M, QD, Z, hK', rfl, R, r, h, a, xk⟩ := h
 have G : Good c (ck0 N st FN GN BN) noX w' (cxOf CX0 P w K mg base N qual (Z1 st) f cdv A outer s w'.H E).nox :=
  {hK := Pr.hK.symm
   wK := hK'.trans Pr.hK.symm
   N := rfl
   nd := S.nd
   sc := rfl
   calm := fun _ => rfl
   units := hr.units
   fns := fun _ f x sp h1 h2 => by
    obtain ⟨kk, f, fd, ps, ds, dvs, dD, sp0, F, hk, h⟩ := Pr.fns f x sp h1 h2
    exact ⟨kk, f, fd, ps, ds, dvs, dD, sp0, F, hr.mono hk, h⟩
   flen := Pr.flen
   glb := Pr.glb
   blt := Pr.blt
   exc := ⟨E0, fun _ _ _ _ _ _ _ h => by
    obtain ⟨_, _, _, _, _, _, _, _, _, _, _, _, _, _, _, h⟩ := h
    exact h.elim, fun cls dd H' h => by
    obtain ⟨_, _, _, _, _, _, _, _, _, _, _, _, _, h⟩ := h
    exact h.elim⟩
   stk := fun _ => ⟨rfl, rfl⟩
   po := fun _ => PassesOwn.never
   fnc := fun _ _ => rfl
   fno := fun _ h => by cases h }
 refine ⟨_, Sc c body _ _ w' _ _ G hc, w', start0 N ds, M, { nx := fun _ M => QD .non M, rt := QD }, ⟨rfl, Ext.refl w', R, Z39 r⟩, hb _ _ _ _ h, ?_, a, ?_, ?_⟩
 ·exact fun σ' w2 σD' M' x' r' e' q' => a .non w2 .non M' x' r' (Zy.mpr rfl) q'
 ·exact fun σ' w2 σD' M' x' r' e' q' => q'.elim
 ·exact fun σ' w2 σD' M' x' r' e' q' => q'.elim
end
def Z49 : DSp := fun ds M Q _ => ∃ ns : List Int, ds = [.ref 0] ∧ M = [.frz (ns.map .int)] ∧ ns.length ≤ 63 ∧ (∀ i ∈ ns, Bits bigN i) ∧ ∀ M', Q (.bl true) M'
theorem Fh (w : Vw) : ∀ ns : List Int, RDs w (ns.map .int) (ns.map V.int)
 | [] => RDs.nil w
 | _ :: r => RDs.cons (Zb.mpr rfl) (Fh w r)
theorem Z42 {l : PySem.W.OpenLaw} {k : Nat} {q : Program} {loose : List Str} {XP : (Str → Option Value) → Heap → Prop} {YP : World → Heap → Prop} {d : DefRec} {K : Params → PySem.W.Frag} {x : Str} {c0 T : Addr} (hn : l.most = some 63) (hdf : d.params.defaults = []) (hr : Room k callerA)
  (hY : ∀ (w : World) (h : Heap), YP w h → (K w.params).In h) (hY2 : ∀ (w : World) (h : Heap), YP w h → h.get? T = some (PySem.W.tabObj #[]))
  (ht : ∀ (w : World) (h : Heap), (K w.params).In h → PySem.W.tabIn (K w.params) "way_round" = some (c0, T) ∧ PySem.W.noTabs (K w.params) = true ∧ PySem.W.codeHdIn (K w.params) c0 T = true)
  (F : ∀ (w : World) (mg : Str → Option Value) (fa : Addr) (h : Heap), (K w.params).In h → h.Ns mainGlobals mg → mg d.name = some (.ref fa) →
   ∃ fd : FuncData, (∀ (s : Shared) (u : Value), BindsTo s fd ⟨[u], []⟩ [(x, u)]) ∧ ∀ base : Heap, (K w.params).In base → base.Ns mainGlobals mg → Bs (K w.params) mg base → FnOk l.prog w (K w.params) mg base (CX1 l.prog w) k fa fd [x] (spF (K w.params) Z49)) :
  PySem.W.WalkO q loose XP YP l.row.toRowW d [] (fun f vs => PySem.call f vs) := by
 refine J1 hn hdf fun w s₀ s₁ mg mb fa o pm cd doc a vs ns G Y hmg hobj hints hlen hbits hg => ?_
 have KX := hY w _ Y
 obtain ⟨t1, t2, t3⟩ := ht w _ KX
 obtain ⟨fd, hb, hF⟩ := F w mg fa _ KX G.T.g hmg
 refine Z20 KX G.T.g G.T.b G.T.builtins G.T.nolimit hg G.T.bmain t1 t2 (PySem.W.codeHd_of_K KX t3) (hY2 w _ Y) hobj hints (Nat.le_trans hlen (by decide)) hr hF hb (fun H hS tA => ?_) fun H e s' h => ?_
 ·have hF : SqF (K w.params) H a (ns.map V.int) := hS
  refine ⟨⟨K w.params, H, fun _ => a, 1⟩, [.ref 0], [.frz (ns.map .int)], fun d _ => d = .bl true, noX, rfl, rfl, ⟨rfl, fun i j ci cj ei ej mi mj _ => ?_, fun i c' e => ?_, tA⟩, RDs.cons (Y6.mpr ⟨Nat.one_pos, rfl⟩) (RDs.nil _), ⟨ns, rfl, rfl, hlen, hbits, fun _ => rfl⟩, fun v w' d M' _ _ rd e => ?_, fun cls dd H' h => ?_⟩
  ·have h1 := (List.getElem?_eq_some_iff.mp ei).1
   have h2 := (List.getElem?_eq_some_iff.mp ej).1
   simp at h1 h2
   omega
  ·have h1 := (List.getElem?_eq_some_iff.mp e).1
   have hi : i = 0 := by simp at h1; exact h1
   subst hi
   simp at e
   subst e
   exact ⟨_, hF, Fh _ ns⟩
  ·subst e
   exact Xt.mp rd
  ·obtain ⟨_, _, _, _, _, _, _, _, _, _, _, _, _, h⟩ := h
   exact h.elim
 ·obtain ⟨_, _, _, _, _, _, _, _, _, _, _, _, _, _, _, h⟩ := h
  exact h.elim
def bot : DSp := fun _ _ _ _ => False
def Ent (K : PySem.W.Frag) (mg : Str → Option Value) (x : Str) : Prop := ∃ (f : Addr) (fd : FuncData) (ps : List Str), mg x = some (.ref f) ∧ PySem.W.keepIn K (.ref f) = true ∧ Ya K fd ps []
section
variable {P : Program} {w : World} {K : PySem.W.Frag} {mg : Str → Option Value} {base : Heap} {Γ : List DSp} {G : List D} {FN GN BN : List Str} {lv : Nat}
theorem Prg.zero (hF : ∀ x ∈ FN, Ent K mg x) (hl : FN.length = Γ.length) (hb : ∀ sp ∈ Γ, sp = bot) (hg : ∀ (g : Nat) (x : Str) (d : D), GN[g]? = some x → G[g]? = some d → ∃ v u, mg x = some u ∧ RelV v u ∧ ∀ w : Vw, w.K = K → RD w d v) (hB : ∀ x ∈ BN, mg x = none) :
  Prg P w K mg base ⟨K, Γ, G⟩ FN GN BN 0 where
 hK := rfl
 fns := fun f x sp h1 h2 => by
  obtain ⟨fa, fd, ps, e1, e2, e3⟩ := hF x (List.mem_of_getElem? h1)
  have hs : sp = bot := hb sp (List.mem_of_getElem? h2)
  subst hs
  have no : ∀ vs H Q E, ¬ spF K bot vs H Q E := fun vs H Q E ⟨_, _, _, _, _, _, _, _, _, h, _⟩ => h
  exact ⟨0, fa, fd, ps, [], [], [], bot, ⟨fun vs H Q E h => absurd h (no vs H Q E), fun A outer s H args us vs Q E _ _ _ _ h => absurd h (no vs H Q E)⟩, Nat.le_refl _, e1, e2, e3, .nil, fun w _ => RDs.nil w, fun _ _ _ _ h => h.elim⟩
 flen := hl
 glb := hg
 blt := hB
theorem Prg.add (Pr : Prg P w K mg base ⟨K, Γ, G⟩ FN GN BN lv) (n : Nat) {x : Str} {sp : DSp} {kk lv' : Nat} {f : Addr} {fd : FuncData} {ps : List Str} (hx : FN[n]? = some x) (F : FnOk P w K mg base (CX1 P w) kk f fd ps (spF K sp)) (h1 : kk ≤ lv') (h2 : lv ≤ lv') (hm : mg x = some (.ref f)) (hk : PySem.W.keepIn K (.ref f) = true) (hb : Ya K fd ps []) :
  Prg P w K mg base ⟨K, Γ.set n sp, G⟩ FN GN BN lv' where
 hK := rfl
 fns := fun m y sp' e1 e2 => by
  by_cases hmn : n = m
  ·subst hmn
   rw [hx] at e1
   cases e1
   have hl : n < Γ.length := by rw [← Pr.flen]; exact (List.getElem?_eq_some_iff.mp hx).1
   have e2 : (Γ.set n sp)[n]? = some sp' := e2
   rw [List.getElem?_set_self hl] at e2
   cases e2
   exact ⟨kk, f, fd, ps, [], [], [], sp, F, h1, hm, hk, hb, .nil, fun w _ => RDs.nil w, fun as M Q Z h => by rw [List.append_nil]; exact h⟩
  ·have e2 : (Γ.set n sp)[m]? = some sp' := e2
   rw [List.getElem?_set_ne hmn] at e2
   obtain ⟨kk, f, fd, ps, ds, dvs, dD, sp0, F, hk, h⟩ := Pr.fns m y sp' e1 e2
   exact ⟨kk, f, fd, ps, ds, dvs, dD, sp0, F, Nat.le_trans hk h2, h⟩
 flen := by rw [Pr.flen]; simp
 glb := Pr.glb
 blt := Pr.blt
end
theorem Z5 {M N : Z3} {a : Nat} {xs : List D} (h : Z6 M a = some xs) : Z6 (M ++ N) a = some xs := by
 unfold Z6 at *
 have ha : a < M.length := by
  cases e : M[a]? with
  | none => rw [e] at h; cases h
  | some c => exact (List.getElem?_eq_some_iff.mp e).1
 rw [List.getElem?_append_left ha]; exact h
theorem Y3 {M N : Z3} {a : Nat} {xs : List D} (h : Zc M a = some xs) : Zc (M ++ N) a = some xs := by
 unfold Zc at *
 have ha : a < M.length := by
  cases e : M[a]? with
  | none => rw [e] at h; cases h
  | some c => exact (List.getElem?_eq_some_iff.mp e).1
 rw [List.getElem?_append_left ha]; exact h
theorem Z81 {M N : Z3} {a : Nat} {xs : List (Key × D)} (h : Xl M a = some xs) : Xl (M ++ N) a = some xs := by
 unfold Xl at *
 have ha : a < M.length := by
  cases e : M[a]? with
  | none => rw [e] at h; cases h
  | some c => exact (List.getElem?_eq_some_iff.mp e).1
 rw [List.getElem?_append_left ha]; exact h
theorem Bz (M : Z3) (c : Cell) (N : Z3) : (M ++ c :: N)[M.length]? = some c := by simp
theorem Z46 (M N : Z3) (k : Nat) : (M ++ N)[M.length + k]? = N[k]? := by rw [List.getElem?_append_right (by omega)]; congr 1; omega
theorem Z9 (M : Z3) (xs : List D) (N : Z3) : Z6 (M ++ .lst xs :: N) M.length = some xs := by unfold Z6; rw [Bz]
theorem Zg (M : Z3) (xs : List D) (N : Z3) : Zc (M ++ .lst xs :: N) M.length = some xs := by unfold Zc; rw [Bz]
theorem Vh (M : Z3) (xs : List (Key × D)) (N : Z3) : Xl (M ++ .dct xs :: N) M.length = some xs := by unfold Xl; rw [Bz]
theorem X2 (M N : Z3) (k : Nat) : Z6 (M ++ N) (M.length + k) = Z6 N k := by unfold Z6; rw [Z46]
theorem Xu (M N : Z3) (k : Nat) : Zc (M ++ N) (M.length + k) = Zc N k := by unfold Zc; rw [Z46]
theorem Xm (M : Z3) (c d : Cell) (N : Z3) : (M ++ c :: N).set M.length d = M ++ d :: N := by
 rw [List.set_append_right _ _ (Nat.le_refl _)]; simp
theorem Wy (M N : Z3) (k : Nat) (d : Cell) : (M ++ N).set (M.length + k) d = M ++ N.set k d := by
 rw [List.set_append_right _ _ (by omega)]; congr 2; omega
theorem Z2 {M : Z3} {n : Nat} {xs : List D} (h : Zc M n = some xs) : Z6 M n = some xs := Zn8 h
theorem G0 {lo : Int} {n i : Nat} (h : i < n) : (Pe lo n)[i]? = some (.int (lo + i)) := by
 unfold Pe; rw [List.getElem?_map, List.getElem?_range h]; rfl
theorem W9 (lo : Int) (n : Nat) : (Pe lo n).length = n := by unfold Pe; simp
theorem Ys {own : Own} {xs : List D} {tg : List Nat} {body : DS} {R : DEnds} {σ : DEnv} {M : Z3} (I : Nat → DEnv → Z3 → Prop) (h0 : I 0 σ M) (hs : ∀ i σ M, i ≤ xs.length → I i σ M → Oo own xs M)
  (step : ∀ (i : Nat) (d : D) σ M (C : DEnv → Z3 → Prop), xs[i]? = some d → I i σ M → (∀ σ2 M2, I (i + 1) σ2 M2 → C σ2 M2) → tgD tg d σ fun σ' => body { nx := C, rt := R.rt, bk := R.nx, ct := C } σ' M)
  (fin : ∀ σ M, I xs.length σ M → R.nx σ M) : forD own xs tg body xs R σ M := by
 have key : ∀ (j : Nat) σ M, j ≤ xs.length → I (xs.length - j) σ M → forD own xs tg body (xs.drop (xs.length - j)) R σ M := by
  intro j
  induction j with
  | zero =>
   intro σ M _ h
   rw [Nat.sub_zero] at h ⊢
   rw [List.drop_length]
   exact ⟨hs _ σ M (Nat.le_refl _) h, fin σ M h⟩
  | succ j ih =>
   intro σ M hj h
   have hi : xs.length - (j + 1) < xs.length := by omega
   have e : xs.length - (j + 1) + 1 = xs.length - j := by omega
   rw [List.drop_eq_getElem_cons hi]
   refine ⟨hs _ σ M (by omega) h, step _ _ σ M _ (List.getElem?_eq_getElem hi) h fun σ2 M2 h2 => ?_⟩
   rw [e] at h2 ⊢
   exact ih σ2 M2 (by omega) h2
 have := key xs.length σ M (Nat.le_refl _) (by rw [Nat.sub_self]; exact h0)
 rw [Nat.sub_self] at this
 exact this
theorem Th {lo : Int} {n : Nat} {tg : List Nat} {body : DS} {R : DEnds} {σ : DEnv} {M : Z3} (I : Nat → DEnv → Z3 → Prop) (h0 : I 0 σ M)
  (step : ∀ (i : Nat) σ M (C : DEnv → Z3 → Prop), i < n → I i σ M → (∀ σ2 M2, I (i + 1) σ2 M2 → C σ2 M2) → tgD tg (.int (lo + i)) σ fun σ' => body { nx := C, rt := R.rt, bk := R.nx, ct := C } σ' M)
  (fin : ∀ σ M, I n σ M → R.nx σ M) : forD .no (Pe lo n) tg body (Pe lo n) R σ M := by
 refine Ys I h0 (fun _ _ _ _ _ => trivial) (fun i d σ M C hd hI hC => ?_) (fun σ M h => fin σ M (by rw [W9] at h; exact h))
 have hi : i < n := by
  have := (List.getElem?_eq_some_iff.mp hd).1
  rwa [W9] at this
 rw [G0 hi] at hd
 cases hd
 exact step i σ M C hi hI hC
theorem Oq {own : Own} {xs : List D} {tg : List Nat} {cd : DT} {el : DE} {z : Nat} {Q : Z3 → Prop} {σ : DEnv} {M : Z3} (I : Nat → DEnv → Z3 → Prop) (h0 : I 0 σ M) (hs : ∀ i σ M, i ≤ xs.length → I i σ M → Oo own xs M)
  (step : ∀ (i : Nat) (d : D) σ M (C : DEnv → Z3 → Prop), xs[i]? = some d → I i σ M → (∀ σ2 M2, I (i + 1) σ2 M2 → C σ2 M2) → tgD tg d σ fun σ' => cd σ' M fun b M1 => if b = true then
   el σ' M1 fun y M2 => ∃ acc, Zc M2 z = some acc ∧ acc.length < sizeLine ∧ C σ' (M2.set z (.lst (acc ++ [y]))) else C σ' M1)
  (fin : ∀ σ M, I xs.length σ M → Q M) : Jo own xs tg cd el z xs σ M Q := by
 have key : ∀ (j : Nat) σ M, j ≤ xs.length → I (xs.length - j) σ M → Jo own xs tg cd el z (xs.drop (xs.length - j)) σ M Q := by
  intro j
  induction j with
  | zero =>
   intro σ M _ h
   rw [Nat.sub_zero] at h ⊢
   rw [List.drop_length]
   exact ⟨hs _ σ M (Nat.le_refl _) h, fin σ M h⟩
  | succ j ih =>
   intro σ M hj h
   have hi : xs.length - (j + 1) < xs.length := by omega
   have e : xs.length - (j + 1) + 1 = xs.length - j := by omega
   rw [List.drop_eq_getElem_cons hi]
   refine ⟨hs _ σ M (by omega) h, step _ _ σ M (fun σ2 M2 => Jo own xs tg cd el z (xs.drop (xs.length - (j + 1) + 1)) σ2 M2 Q) (List.getElem?_eq_getElem hi) h fun σ2 M2 h2 => ?_⟩
   rw [e] at h2 ⊢
   exact ih σ2 M2 (by omega) h2
 have := key xs.length σ M (Nat.le_refl _) (by rw [Nat.sub_self]; exact h0)
 rw [Nat.sub_self] at this
 exact this
theorem mulR {i j : Int} (h1 : -(2 ^ 64) < j) (h2 : j < 2 ^ 64) : IntMulOk i j := CMul.ok (.inr ⟨h1, h2⟩)
theorem mulL {i j : Int} (h1 : -(2 ^ 64) < i) (h2 : i < 2 ^ 64) : IntMulOk i j := CMul.ok (.inl ⟨h1, h2⟩)
theorem T6 {i j : Int} (h1 : 0 < j) (h2 : j < 2 ^ 64) : Z12 i j := by
 refine ⟨by omega, ?_⟩
 have h3 : j.natAbs < 2 ^ 64 := by omega
 exact Nat.lt_trans (Cq h3 (by decide)) (by decide)
theorem Z0 {n : Nat} (h : n ≤ 16000000) : n ≤ sizeLine := by rw [sizeLine_eq]; omega
theorem Zn {n : Nat} (h : n ≤ 16000000) : n < sizeLine := by rw [sizeLine_eq]; omega
section
variable {M : Z3} {Q : DK} {B : Bool → Prop} {i j : Int} {a b : Str} {p q : Bool} {xs ys : List D} {n m : Nat} {K : PySem.W.Frag}
theorem op_add_i : opD .add (.int i) (.int j) M Q = Q (.int (i + j)) M := rfl
theorem op_add_s : opD .add (.str a) (.str b) M Q = (a.length + b.length ≤ sizeLine ∧ Q (.str (a ++ b)) M) := rfl
theorem op_add_t : opD .add (.tup xs) (.tup ys) M Q = (xs ≠ [] ∧ xs.length + ys.length ≤ sizeLine ∧ Q (.tup (xs ++ ys)) M) := rfl
theorem op_add_l : opD .add (.ref n) (.ref m) M Q = ∃ xs ys, Zc M n = some xs ∧ Zc M m = some ys ∧ xs.length + ys.length ≤ sizeLine ∧ Q (.ref M.length) (M ++ [.lst (xs ++ ys)]) := rfl
theorem op_sub_i : opD .sub (.int i) (.int j) M Q = Q (.int (i - j)) M := rfl
theorem op_mul_i : opD .mul (.int i) (.int j) M Q = (IntMulOk i j ∧ Q (.int (i * j)) M) := rfl
theorem op_mul_l : opD .mul (.ref n) (.int i) M Q = ∃ xs, Zc M n = some xs ∧ 0 ≤ i ∧ i < 2 ^ 62 ∧ xs.length * i.toNat ≤ sizeLine ∧ Q (.ref M.length) (M ++ [.lst (List.replicate i.toNat xs).flatten]) := rfl
theorem op_fdiv_i : opD .fdiv (.int i) (.int j) M Q = (Z12 i j ∧ Q (.int (qdiv i j)) M) := rfl
theorem op_mod_i : opD .mod (.int i) (.int j) M Q = (j ≠ 0 ∧ Q (.int (qmod i j)) M) := rfl
theorem op_pow_i : opD .pow (.int i) (.int j) M Q = (CPow i j ∧ Q (.int (i ^ j.toNat)) M) := rfl
theorem cm_lt_i : cmD M .lt (.int i) (.int j) B = B (decide (i < j)) := rfl
theorem cm_le_i : cmD M .le (.int i) (.int j) B = B (decide (i ≤ j)) := rfl
theorem cm_gt_i : cmD M .gt (.int i) (.int j) B = B (decide (j < i)) := rfl
theorem cm_ge_i : cmD M .ge (.int i) (.int j) B = B (decide (j ≤ i)) := rfl
theorem cm_eq {x y : D} : cmD M .eq x y B = eqD M x y B := rfl
theorem cm_ne {x y : D} : cmD M .ne x y B = eqD M x y fun b => B (!b) := rfl
theorem cm_in {x y : D} : cmD M .isin x y B = inQ M x y B := rfl
theorem cm_notin {x y : D} : cmD M .notin x y B = inQ M x y fun b => B (!b) := rfl
theorem cm_is_n : cmD M .is .non .non B = B true := rfl
theorem cm_is_i : cmD M .is (.int i) .non B = B false := rfl
theorem cm_is_s : cmD M .is (.str a) .non B = B false := rfl
theorem cm_is_b : cmD M .is (.bl p) .non B = B false := rfl
theorem cm_is_t : cmD M .is (.tup xs) .non B = B false := rfl
theorem cm_is_r : cmD M .is (.ref n) .non B = B false := rfl
theorem cm_isnot_n : cmD M .isnot .non .non B = B false := rfl
theorem cm_isnot_i : cmD M .isnot (.int i) .non B = B true := rfl
theorem cm_isnot_s : cmD M .isnot (.str a) .non B = B true := rfl
theorem cm_isnot_b : cmD M .isnot (.bl p) .non B = B true := rfl
theorem cm_isnot_t : cmD M .isnot (.tup xs) .non B = B true := rfl
theorem cm_isnot_r : cmD M .isnot (.ref n) .non B = B true := rfl
theorem eq_i : eqD M (.int i) (.int j) B = B (decide (i = j)) := rfl
theorem eq_s : eqD M (.str a) (.str b) B = B (decide (a = b)) := rfl
theorem eq_b : eqD M (.bl p) (.bl q) B = B (decide (p = q)) := rfl
theorem eq_nn : eqD M .non .non B = B true := rfl
theorem eq_is : eqD M (.int i) (.str b) B = B false := rfl
theorem eq_si : eqD M (.str b) (.int i) B = B false := rfl
theorem tru_b : truD M (.bl p) B = B p := rfl
theorem tru_i : truD M (.int i) B = B (i != 0) := rfl
theorem tru_n : truD M .non B = B false := rfl
theorem tru_t : truD M (.tup xs) B = B (!xs.isEmpty) := rfl
theorem ix_t {F : D → Prop} : ixD M (.tup xs) (.int i) F = ∃ d, atI xs i = some d ∧ F d := rfl
theorem ix_g {F : D → Prop} : ixD M (.gtup xs) (.int i) F = ∃ d, atI xs i = some d ∧ F d := rfl
theorem ix_s {F : D → Prop} : ixD M (.str a) (.int i) F = (a.length ≤ sizeLine ∧ ∃ c, atI a.cps.toList i = some c ∧ F (.str ⟨#[c]⟩)) := rfl
theorem ix_l {F : D → Prop} {k : Nat} (h : Z6 M n = some xs) {d : D} (hd : xs[k]? = some d) (hF : F d) : ixD M (.ref n) (.int k) F := .inl ⟨xs, k, d, rfl, h, G9 hd, hF⟩
theorem N6 {F : D → Prop} (h : Z6 M n = some xs) {d : D} (hd : atI xs i = some d) (hF : F d) : ixD M (.ref n) (.int i) F := .inl ⟨xs, i, d, rfl, h, hd, hF⟩
theorem ix_d {F : D → Prop} {kvs : List (Key × D)} {k : D} {y : Key} (h : Xl M n = some kvs) (hk : keyD k = some y) {d : D} (hd : valD kvs y = some d) (hF : F d) : ixD M (.ref n) k F := .inr ⟨kvs, y, d, Zs4 h, hk, hd, hF⟩
theorem sl_s {lo hi : Option Int} : slD (.str a) lo hi M Q = (a.length ≤ sizeLine ∧ Q (.str (Txt.slice a lo hi)) M) := rfl
theorem sl_t {lo hi : Option Int} : slD (.tup xs) lo hi M Q = (¬ (HT.sIx xs.length 0 lo = 0 ∧ HT.sIx xs.length xs.length hi = xs.length) ∧ Q (.tup (cutD xs lo hi)) M) := rfl
theorem sl_l {lo hi : Option Int} : slD (.ref n) lo hi M Q = ∃ xs, Z6 M n = some xs ∧ Q (.ref M.length) (M ++ [.lst (cutD xs lo hi)]) := rfl
def tyNon : Ty → Bool := fun _ => false
def tyBl : Ty → Bool
 | .bool => true | .int => true | _ => false
def tyInt : Ty → Bool
 | .int => true | _ => false
def tyStr : Ty → Bool
 | .str => true | _ => false
def tyTup : Ty → Bool
 | .tuple => true | _ => false
def tyLst : Ty → Bool
 | .list => true | _ => false
def tyDct : Ty → Bool
 | .dict => true | _ => false
theorem O1 {d : D} {t : Ty} {s : String} {v : Bool} (hd : ∀ e C dx r, d ≠ .exn e C dx r) (h1 : tyD M d = some s) (h2 : PySem.W.kitOne K (.type s) (.type (Xz t)) = some v) : isD K M d (.ty (Xz t)) B = B v := by
 have : isD K M d (.ty (Xz t)) B = ∃ t' b, tyD M d = some t' ∧ PySem.W.kitOne K (.type t') (.type (Xz t)) = some b ∧ B b := by
  cases d <;> first | rfl | exact absurd rfl (hd _ _ _ _)
 rw [this]
 apply propext
 constructor
 ·rintro ⟨t', b, e1, e2, h⟩
  rw [h1] at e1
  cases e1
  rw [h2] at e2
  cases e2
  exact h
 ·intro h; exact ⟨s, v, h1, h2, h⟩
theorem is_non {t : Ty} : isD K M .non (.ty (Xz t)) B = B (tyNon t) := O1 (fun _ _ _ _ h => nomatch h) rfl (by cases t <;> rfl)
theorem is_bl {t : Ty} : isD K M (.bl p) (.ty (Xz t)) B = B (tyBl t) := O1 (fun _ _ _ _ h => nomatch h) rfl (by cases t <;> rfl)
theorem is_int {t : Ty} : isD K M (.int i) (.ty (Xz t)) B = B (tyInt t) := O1 (fun _ _ _ _ h => nomatch h) rfl (by cases t <;> rfl)
theorem is_str {t : Ty} : isD K M (.str a) (.ty (Xz t)) B = B (tyStr t) := O1 (fun _ _ _ _ h => nomatch h) rfl (by cases t <;> rfl)
theorem is_tup {t : Ty} : isD K M (.tup xs) (.ty (Xz t)) B = B (tyTup t) := O1 (fun _ _ _ _ h => nomatch h) rfl (by cases t <;> rfl)
theorem Fa {t : Ty} (h : Zc M n = some xs) : isD K M (.ref n) (.ty (Xz t)) B = B (tyLst t) := O1 (s := "list") (fun _ _ _ _ h => nomatch h) (by simp only [tyD, Nf h]) (by cases t <;> rfl)
theorem Yc (h : Z6 M n = some xs) (hq : Q (.int xs.length) M) : bfD K .len [.ref n] M Q := .inl ⟨xs, h, hq⟩
theorem bf_len_t : bfD K .len [.tup xs] M Q = Q (.int xs.length) M := rfl
theorem bf_len_s : bfD K .len [.str a] M Q = (a.length ≤ sizeLine ∧ Q (.int a.length) M) := rfl
theorem bf_is {d c : D} : bfD K .isinst [d, c] M Q = isD K M d c fun b => Q (.bl b) M := rfl
theorem bf_min : bfD K .min2 [.int i, .int j] M Q = Q (.int (if j < i then j else i)) M := rfl
theorem bf_max : bfD K .max2 [.int i, .int j] M Q = Q (.int (if j > i then j else i)) M := rfl
theorem bf_list {d : D} : bfD K .list1 [d] M Q = ∃ xs, Z15 M d = some xs ∧ Q (.ref M.length) (M ++ [.lst xs]) := rfl
theorem at2_xy {x y : D} {F : D → D → Prop} : at2 [x, y] F = F x y := rfl
theorem on_ref {F : Nat → Prop} : Jx (.ref n) F = F n := rfl
theorem set_f : setD false n M Q = ∃ ks : List Key, Z6 M n = some (ks.map kD) ∧ ks.length + 1 < scanBound ∧ ∀ ks' : List Key, ks'.Nodup → (∀ k, k ∈ ks' ↔ k ∈ ks) → Q (.int ks'.length) M := rfl
theorem mt_append_r {d : D} : mtD .append (.ref n) [d] M Q = ∃ xs, Zc M n = some xs ∧ xs.length < sizeLine ∧ Q .non (M.set n (.lst (xs ++ [d]))) := rfl
theorem mt_get2_r {k z : D} : mtD .get2 (.ref n) [k, z] M Q = ∃ kvs y, Xl M n = some kvs ∧ keyD k = some y ∧ Q ((valD kvs y).getD z) M := rfl
theorem mt_pop_r : mtD .pop0 (.ref n) [] M Q = ∃ xs d, Zc M n = some xs ∧ xs[xs.length - 1]? = some d ∧ Q d (M.set n (.lst xs.dropLast)) := rfl
theorem mt_clear_r : mtD .clear (.ref n) [] M Q = ∃ xs, Zc M n = some xs ∧ Q .non (M.set n (.lst [])) := rfl
theorem mt_reverse_r : mtD .reverse (.ref n) [] M Q = ∃ xs, Zc M n = some xs ∧ Q .non (M.set n (.lst xs.reverse)) := rfl
theorem mt_index_r {d : D} : mtD .index1 (.ref n) [d] M Q = ∃ xs k z, Z6 M n = some xs ∧ Xr d = true ∧ xs.all Xr = true ∧ xs[k]? = some z ∧ eqF z d = true ∧ (∀ (j : Nat) u, j < k → xs[j]? = some u → eqF u d = false) ∧ Q (.int k) M := rfl
theorem mk_index : mtK .index1 (.ref n) M = ((Z6 M n).isSome = true) := rfl
theorem mk_append : mtK .append (.ref n) M = ((Z6 M n).isSome = true) := rfl
theorem mk_pop : mtK .pop0 (.ref n) M = ((Z6 M n).isSome = true) := rfl
theorem mk_clear : mtK .clear (.ref n) M = ((Z6 M n).isSome = true) := rfl
theorem mk_reverse : mtK .reverse (.ref n) M = ((Z6 M n).isSome = true) := rfl
theorem mk_get2 : mtK .get2 (.ref n) M = ((Xl M n).isSome = true) := rfl
theorem tg_one {k : Nat} {d : D} {σ : DEnv} {F : DEnv → Prop} : tgD [k] d σ F = F (σ.set k (some d)) := by cases d <;> rfl
theorem tg_two {k l : Nat} {d e : D} {σ : DEnv} {F : DEnv → Prop} : tgD [k, l] (.tup [d, e]) σ F = F ((σ.set k (some d)).set l (some e)) := by
 show ([d, e].length = [k, l].length ∧ F _) = _
 simp
theorem it_r {R : Own → List D → Prop} : itD M (.ref n) R = ∃ xs, Z6 M n = some xs ∧ R (.lst n) xs := rfl
theorem it_t {R : Own → List D → Prop} : itD M (.tup xs) R = R .no xs := rfl
theorem it_g {R : Own → List D → Prop} : itD M (.gtup xs) R = R .no xs := rfl
theorem key_i : keyD (.int i) = some (.inl i) := rfl
theorem key_s : keyD (.str a) = some (.inr a) := rfl
theorem in_ss : inQ M (.str a) (.str b) B = B (!(Builtin.Str.occurrences b a 0 b.length 1).isEmpty) := rfl
end
theorem Zq {α : Type} {o : Option α} {x : α} (h : o = some x) : o.isSome = true := by rw [h]; rfl
theorem Prg.up {P : Program} {w : World} {K : PySem.W.Frag} {mg : Str → Option Value} {base : Heap} {c : Cfg} {FN GN BN : List Str} {lv lv' : Nat} (Pr : Prg P w K mg base c FN GN BN lv) (h : lv ≤ lv') : Prg P w K mg base c FN GN BN lv' where
 hK := Pr.hK
 fns := fun m y sp e1 e2 => by
  obtain ⟨kk, f, fd, ps, ds, dvs, dD, sp0, F, hk, r⟩ := Pr.fns m y sp e1 e2
  exact ⟨kk, f, fd, ps, ds, dvs, dD, sp0, F, Nat.le_trans hk h, r⟩
 flen := Pr.flen
 glb := Pr.glb
 blt := Pr.blt
theorem Y19 {α : Type} {P : List α → Prop} (h : P []) (l : List α) (e : l.length = 0) : P l := by
 cases l with
 | nil => exact h
 | cons _ _ => cases e
theorem Fp {α : Type} {n : Nat} {P : List α → Prop} (h : ∀ a l, l.length = n → P (a :: l)) (l : List α) (e : l.length = n + 1) : P l := by
 cases l with
 | nil => cases e
 | cons a r => exact h a r (Nat.succ.inj e)
theorem Xd {α : Type} {P : List α → Prop} (h : ∀ a, P [a]) : ∀ l : List α, l.length = 1 → P l := Fp fun a => Y19 (h a)
theorem S4 {α : Type} {P : List α → Prop} (h : ∀ a b, P [a, b]) : ∀ l : List α, l.length = 2 → P l := Fp fun a => Xd (P := fun l => P (a :: l)) (h a)
theorem Qd {α : Type} {P : List α → Prop} (h : ∀ a b c, P [a, b, c]) : ∀ l : List α, l.length = 3 → P l := Fp fun a => S4 (P := fun l => P (a :: l)) (h a)
theorem E2 {α : Type} {P : List α → Prop} (h : ∀ a b c d, P [a, b, c, d]) : ∀ l : List α, l.length = 4 → P l := Fp fun a => Qd (P := fun l => P (a :: l)) (h a)
theorem Bq {α : Type} {P : α → Prop} : ∀ x ∈ ([] : List α), P x := fun _ h => absurd h List.not_mem_nil
theorem all_cons {α : Type} {P : α → Prop} {a : α} {l : List α} (h : P a) (t : ∀ x ∈ l, P x) : ∀ x ∈ a :: l, P x := fun x hx => (List.mem_cons.mp hx).elim (fun e => e ▸ h) (t x)
def Zu : Scope := { kind := .function, names := [("graph", .local), ("one", .cell), ("other", .local), ("way_by", .globalImplicit)], isGenerator := false, isCoroutine := false, more := [] }
def Jm (p0 p1 p2 p3 p4 p5 p6 p7 p8 p9 p10 p11 p12 p13 p14 p15 p16 p17 : Pos) : List Stmt := [
 .If (.Compare (.Name "one" p0) [.Eq] [.Constant (.int 0) 0 p1] p2) [.Return (some (.Constant .none 0 p3)) p4] [] p5,
 .Return (some (.Call (.Name "way_by" p6) [.Name "graph" p7, .Constant (.int 0) 0 p8, .Name "other" p9, .Lambda (Sj p10 p11) (S6 p12 p13 p14) Xo p15] [] p16)) p17]
def Ze (spBy : DSp) : DSp := fun ds M Q Z => ∃ g i o, ds = [g, .int i, o] ∧ (i = 0 → Q .non M) ∧ (i ≠ 0 → ∀ f cc c, spBy [g, .int 0, o, .lam f cc c i] M Q noX)
theorem HOk.track {P : Program} {w : World} {H : Hp} {h : Heap} {a : Addr} {o : HO} (x : HOk P w H h) (hn : H a = none) (new : X4 P w (upd H a o) h a o) : HOk P w (upd H a o) h := fun b u e => by
 by_cases hb : b = a
 ·subst hb; rw [Yt] at e; cases e; exact new
 ·rw [Zl hb] at e
  exact (x b u e).stay (fun c v _ q => q) (fun c q => by rw [Zl (Zo q hn)]; exact q) fun c xs q => by rw [Zl (Zo q hn)]; exact q
abbrev Wr : List Str := ["graph", "one", "other"]
theorem Gq : FnScope Wr Wr Zu := ⟨rfl, rfl, rfl, by decide, rfl, fun x hx => by
 simp at hx
 rcases hx with rfl | rfl | rfl
 ·exact .inl rfl
 ·exact .inr rfl
 ·exact .inl rfl, fun y hy => by
 simp [Zu] at hy
 rcases hy with rfl | rfl | rfl | rfl <;> decide⟩
theorem RS.over {w : Vw} {M : Z3} {H2 : Hp} (R : RS w M) (old : ∀ b o, Tb o = false → w.H b = some o → H2 b = some o) (imm : ∀ b o, w.H b = some o → Imm o = true → H2 b = some o) (tab : C9 w.K H2) : Ext w { w with H := H2 } ∧ RS { w with H := H2 } M := by
 have x : Ext w { w with H := H2 } := ⟨rfl, Nat.le_refl _, fun _ _ => rfl, imm⟩
 refine ⟨x, R.len, R.inj, fun i c e => ?_, tab⟩
 refine (R.cell i c e).stay x fun hm => ?_
 obtain ⟨o, ho⟩ := (R.cell i c e).some hm
 show H2 (w.μ i) = w.H (w.μ i)
 rw [ho]
 exact old _ _ (Pn (R.cell i c e) hm ho) ho
theorem Oh {M : Model} {A : Around} {E : Value → Shared → Prop} {s : Shared} {env : Env} {e : Expr} {es : List Expr} {pos : Pos} {Q : List Value → Shared → Prop} (hs : starEach (e :: es) env = (false, eval e env) :: starEach es env)
  (h : wpAny M A (eval e env) (fun u s1 => wpAny M A (spliced (backTo pos (starEach es env))) (fun us s2 => Q (u :: us) s2) E s1) E s) : wpAny M A (spliced (backTo pos (starEach (e :: es) env))) Q E s := by
 rw [hs]
 show wpAny _ _ (spliced ((false, eval e env) :: backTo pos (starEach es env))) _ _ s
 exact Calls.spliced_cons h
theorem Za3 {P : Program} {w : World} {K : PySem.W.Frag} {mg : Str → Option Value} {base : Heap} {lv kk : Nat} {st : Stmt} {f fb c0 T : Addr} {fd fdb : FuncData} {spBy : DSp} {p0 p1 p2 p3 p4 p5 p6 p7 p8 p9 p10 p11 p12 p13 p14 p15 p16 p17 : Pos}
  (KX : K.In base) (G : base.Ns mainGlobals mg) (B : Bs K mg base) (ht : PySem.W.tabIn K "way_round" = some (c0, T)) (hmf : mg "way_round" = some (.ref f)) (F : Fun K "way_round" "way_round" st f fd)
  (hst : Z4 st = Jm p0 p1 p2 p3 p4 p5 p6 p7 p8 p9 p10 p11 p12 p13 p14 p15 p16 p17) (hsc : Z1 st = Zu)
  (Fb : FnOk P w K mg base (CX1 P w) kk fb fdb ["graph", "begin", "last", "allowed"] (spF K spBy)) (hkk : kk ≤ lv) (hmb : mg "way_by" = some (.ref fb)) (hkb : PySem.W.keepIn K (.ref fb) = true) (hbb : Ya K fdb ["graph", "begin", "last", "allowed"] []) :
  FnOk P w K mg base (CX1 P w) (lv + 1) f fd Wr (spF K (Ze spBy)) := by
 obtain ⟨oc, od, dV, kV, doc, pm, an, cdv, ct, osl, rfl, lk, hcd⟩ := F.ex
 have hcode : cdv = .ref c0 := PySem.W.law_code KX G ht hmf (KX _ _ lk) rfl
 subst hcode
 rw [hst, hsc] at lk ⊢
 refine FnOk.cx ⟨fun vs H Q E h => ?_, fun A outer s H args us vs Q E hr e0 hb r hsp => ?_⟩
 ·obtain ⟨w', ds, M, QD, Z, _, _, _, r, ⟨g, i, o, rfl, _⟩, _⟩ := h
  rw [r.length]; rfl
 obtain ⟨w', ds, M, QD, Z, hK', hwH, R, rd, ⟨g, i, o, rfl, h0, h1⟩, a, xk⟩ := hsp
 have hl : vs.length = Wr.length := by rw [rd.length]; rfl
 have S := Gq
 have KS : K.In s.heap := e0.mod.kin.keeps fun b o e => (e0.bs b o e).1
 have lim : s.heap.NoLimit := e0.mod.nolimit.keeps fun b o e => (e0.bs b o e).1
 have hkind : ∀ y ∈ Wr.zip us, Zu.names.lookup y.1 = some .local ∨ (Zu.names.lookup y.1 = some .cell ∧ ((cellsFrom (s.heap.objs.size + 1) Zu.names []).lookup y.1).isSome = true) := fun ⟨n, v⟩ hy => by
  rcases S.par n (List.of_mem_zip hy).1 with q | q
  ·exact .inl q
  ·exact .inr ⟨q, PySem.W.cellsFrom_some _ _ _ (.inl q)⟩
 refine codeAny_call_function hr.depth (KS _ _ lk) rfl S.co S.gen rfl (PySem.W.codeRec_of KS hcd) (hb _ _ _ _ ?_)
 refine wpAny_newFunctionEnv_cells S.kind hkind fun env he s1 x => ?_
 subst he
 refine ⟨lim.keeps x.toInCall.keep, codeAny_func ?_⟩
 have I : Inv (cxOf CX0 P w K mg base Wr "way_round" Zu f (.ref c0) A outer s H E).nox [] (L2.start Wr vs) H s1 := (Ja S hr.hd e0 hl r x).wish _
 have hrX : Room lv (A.deeper (envOfC "way_round" Zu s.heap.objs.size f (.ref c0))) := hr.deeper _
 unfold RDs at rd
 obtain ⟨vg, r1, rfl, rg, rd⟩ := rd
 unfold RDs at rd
 obtain ⟨vi, r2, rfl, ri, rd⟩ := rd
 unfold RDs at rd
 obtain ⟨vo, r3, rfl, ro, rd⟩ := rd
 unfold RDs at rd
 subst rd
 cases Zb.mp ri
 subst hwH
 generalize hX : (cxOf CX0 P w K mg base Wr "way_round" Zu f (.ref c0) A outer s w'.H E).nox = X at I
 have main : wpAny (model P w) X.A (execs (Jm p0 p1 p2 p3 p4 p5 p6 p7 p8 p9 p10 p11 p12 p13 p14 p15 p16 p17) X.env) (fun fl s' => ∃ u, fl = .ret u ∧ CE outer P w w'.H s Q u s') X.xe s1 := by
  subst hX
  have ps0 : PS (cxOf CX0 P w K mg base Wr "way_round" Zu f (.ref c0) A outer s w'.H E).nox (.If (.Compare (.Name "one" p0) [.Eq] [.Constant (.int 0) 0 p1] p2) [.Return (some (.Constant .none 0 p3)) p4] [] p5) _ := Zv6 (Zz3 (Zx5 (pv 1) Fq)) (Zt4 (Zj9 Zi9)) Z80
  refine wpAny_execs_cons (thn (ps0 [] s1 _ w'.H { nx := fun σ' H' => σ' = L2.start Wr [vg, .int i, vo] ∧ H' = w'.H ∧ i ≠ 0, rt := fun v H' => v = .non ∧ H' = w'.H ∧ i = 0 } I ?_) fun fl s2 h => ?_)
  ·refine ⟨.int i, rfl, i, 0, rfl, rfl, _, rfl, ?_⟩
   show if decide (i = 0) = true then _ else _
   by_cases hi : i = 0
   ·rw [decide_eq_true hi, if_pos rfl]
    exact ⟨rfl, rfl, hi⟩
   ·rw [decide_eq_false hi, if_neg Bool.false_ne_true]
    exact ⟨rfl, rfl, hi⟩
  cases fl with
  | brk => obtain ⟨_, _, _, h⟩ := h; exact h.elim
  | cont => obtain ⟨_, _, _, h⟩ := h; exact h.elim
  | ret u =>
   obtain ⟨v, σ', H', J, rv, rfl, rfl, hi⟩ := h
   exact ⟨u, rfl, .non, _, J.os, J.bare, J.base, J.hok, rv, a .non w' .non M (Ext.refl _) R (Zy.mpr rfl) (h0 hi)⟩
  | next =>
   obtain ⟨σ', H', J, rfl, rfl, hi⟩ := h
   refine wpAny_execs_cons (thn (Q := fun fl s' => ∃ u, fl = .ret u ∧ CE outer P w w'.H s Q u s') ?_ (fun fl s' h => by obtain ⟨u, rfl, h⟩ := h; exact ⟨u, rfl, h⟩))
   refine wpAny_Return_some (wpAny_Call_Name_kw (N4 J rfl hmb ?_))
   refine PySem.W.callWith_K (h₀ := base) J.ok.mod.kin hkb ?_ rfl rfl
   have pg : PE (cxOf CX0 P w K mg base Wr "way_round" Zu f (.ref c0) A outer s w'.H E).nox (.Name "graph" p7) (tVar 0) := pv 0
   have po : PE (cxOf CX0 P w K mg base Wr "way_round" Zu f (.ref c0) A outer s w'.H E).nox (.Name "other" p9) (tVar 2) := pv 2
   have p0 : PE (cxOf CX0 P w K mg base Wr "way_round" Zu f (.ref c0) A outer s w'.H E).nox (.Constant (.int 0) 0 p8) (tC (.int 0)) := Fq
   refine Oh rfl (thn (pg [] s2 _ w'.H (fun v H1 => v = vg ∧ H1 = w'.H) J ⟨_, rfl, rfl, rfl⟩) fun u1 t1 ⟨v1, H1, I1, rr1, e1, e2⟩ => ?_)
   subst e1 e2
   refine Oh rfl (thn (p0 [] t1 _ w'.H (fun v H1 => v = .int 0 ∧ H1 = w'.H) I1 ⟨rfl, rfl⟩) fun u2 t2 ⟨v2, H2, I2, rr2, e1, e2⟩ => ?_)
   subst e1 e2
   refine Oh rfl (thn (po [] t2 _ w'.H (fun v H1 => v = vo ∧ H1 = w'.H) I2 ⟨_, rfl, rfl, rfl⟩) fun u3 t3 ⟨v3, H3, I3, rr3, e1, e2⟩ => ?_)
   subst e1 e2
   obtain ⟨ps, hP, tr⟩ := R.tab c0 T (by rw [hK']; exact ht)
   refine Oh rfl (Zh3 (cc := s.heap.objs.size + 1) I3 B rfl rfl ht hP tr rfl fun fL c H1 s4 I4 q1 q2 q3 q4 => Calls.spliced_nil ⟨I4.kIn, ?_⟩)
   have hcc : H1 (s.heap.objs.size + 1) = none := I4.freeC "one" _ rfl
   have cp : W3 (s.heap.objs.size + 1) i s4.heap := by
    obtain ⟨m, hn, hlk⟩ := I4.loc
    obtain ⟨u, ru, lo⟩ := hlk 1 "one" (.int i) rfl rfl (.inr (.inl rfl))
    obtain ⟨t, rfl⟩ := ru
    rcases lo with ⟨k, _⟩ | ⟨_, c', hc', hcell⟩
    ·have k : some NameKind.cell = some NameKind.local := k
     cases k
    ·have e : some (s.heap.objs.size + 1) = some c' := hc'
     cases e
     obtain ⟨o, e, d⟩ := hcell
     exact ⟨o, t, e, d⟩
   have up : ∀ b u, H1 b = some u → upd H1 (s.heap.objs.size + 1) (.ext (W3 (s.heap.objs.size + 1) i)) b = some u := fun b u e => (Zl (Zo e hcc)).trans e
   have ncc : ∀ b u, s.heap.get? b = some u → b ≠ s.heap.objs.size + 1 := fun b u e => Nat.ne_of_lt (Nat.lt_succ_of_lt (Heap.lt_size e))
   have e4 := I4.env0
   have env4 : Env0 P w K mg base (A.deeper (envOfC "way_round" Zu s.heap.objs.size f (.ref c0))) (envOfC "way_round" Zu s.heap.objs.size f (.ref c0) :: outer) s4 (upd H1 (s.heap.objs.size + 1) (.ext (W3 (s.heap.objs.size + 1) i))) := by
    refine ⟨e4.frames, e4.mod, fun b u e => ⟨(e4.bs b u e).1, (Zl (ncc b u (e0.bs b u e).1)).trans (e4.bs b u e).2⟩, e4.bsz, e4.funs, fun b hb => (Zl ?_).trans (e4.frf b hb), HOk.track e4.hok hcc (Zf8 cp), e4.bare⟩
    have hb' : b ∈ s.heap.objs.size :: frs outer := hb
    rcases List.mem_cons.mp hb' with z | z
    ·rw [z]; exact Nat.ne_of_lt (Nat.lt_succ_self _)
    ·obtain ⟨_, ob, ho, _⟩ := e0.funs.mem z
     exact ncc b ob ho
   have neT : ∀ b u, w'.H b = some u → (∀ ps, u ≠ .tbl ps) → b ≠ T := fun b u e n z => by
    rw [z, hP] at e
    cases e
    exact n _ rfl
   obtain ⟨x2, R2⟩ := RS.over (H2 := upd H1 (s.heap.objs.size + 1) (.ext (W3 (s.heap.objs.size + 1) i))) R
    (fun b u t e => up b u (q4 b u (neT b u e fun ps z => by rw [z] at t; cases t) e)) (fun b u e t => up b u (q4 b u (neT b u e fun ps z => by rw [z] at t; cases t) e)) (fun c' P' e => by
     rw [hK', ht] at e
     cases e
     obtain ⟨ps', e1, e2⟩ := q3
     exact ⟨ps', up _ _ e1, e2.keep fun c'' e => up _ _ e⟩)
   have rels : Vals [v1, V.int 0, v3, V.ref fL] [u1, u2, u3, .ref fL] := .cons rr1 (.cons rr2 (.cons rr3 (.cons rfl .nil)))
   have bnd := hbb s4 [u1, u2, u3, .ref fL] I4.kIn rfl
   rw [List.append_nil] at bnd
   refine wpAny_call (codeAny_mono (Fb.run _ _ s4 _ ⟨[u1, u2, u3, .ref fL], []⟩ [u1, u2, u3, .ref fL] [v1, .int 0, v3, .ref fL] Q E0 (hrX.mono hkk) env4 bnd rels ?_) fun r s' hq => ?_)
   ·exact ⟨{ w' with H := upd H1 (s.heap.objs.size + 1) (.ext (W3 (s.heap.objs.size + 1) i)) }, [g, .int 0, o, .lam fL (s.heap.objs.size + 1) c i], M, QD, noX, hK', rfl, R2, RDs.cons (rg.ext x2) (RDs.cons (Zb.mpr rfl) (RDs.cons (ro.ext x2) (RDs.cons (Zi6.mpr ⟨rfl, up _ _ q1, up _ _ q2, Yt⟩) (RDs.nil _)))), h1 hi fL _ c, a.ext x2, fun cls dd H' h => by
     obtain ⟨_, _, _, _, _, _, _, _, _, _, _, _, _, h⟩ := h
     exact h.elim⟩
   ·cases r with
    | error e =>
     obtain ⟨_, _, _, _, _, _, _, _, _, _, _, _, _, _, _, h⟩ := hq
     exact h.elim
    | ok fl =>
     cases fl with
     | next => exact False.elim hq
     | brk => exact False.elim hq
     | cont => exact False.elim hq
     | ret u =>
      obtain ⟨v, H3, os, bare, un, hok, rv, q⟩ := hq
      have B1 : Un (frs outer) [] w'.H H1 s.heap s4.heap := I4.base
      have nL : ∀ b u, s.heap.get? b = some u → b ∉ frs outer → b ∉ frs (envOfC "way_round" Zu s.heap.objs.size f (.ref c0) :: outer) := fun b u e hb z => by
       have z' : b ∈ s.heap.objs.size :: frs outer := z
       rcases List.mem_cons.mp z' with z | z
       ·exact absurd (Heap.lt_size e) (by rw [z]; exact Nat.lt_irrefl _)
       ·exact hb z
      refine ⟨u, rfl, v, H3, os.trans I4.os, bare, ⟨fun b ob q n hb hx => ?_, fun b ob q n hb hx => ?_, fun b ob q n hx => ?_, fun b ob q hx => ?_, fun b xs q => un.tups b xs (up _ _ (B1.tups b xs q)), fun b ob xs q => un.frzs b ob xs (up _ _ (B1.frzs b ob xs q)), fun b ps q => ?_⟩, hok, rv, q⟩
      ·exact un.keep b ob (B1.keep b ob q n hb hx) ((Zl (ncc b ob q)).trans (B1.free b ob q n hx)) (nL b ob q hb) hx
      ·obtain ⟨sl, e⟩ := B1.slot b ob q n hb hx
       obtain ⟨sl', e'⟩ := un.any e ((Zl (ncc b ob q)).trans (B1.free b ob q n hx)) hx
       exact ⟨sl', e'⟩
      ·obtain ⟨o', e⟩ := B1.there b ob q hx
       exact un.free b o' e ((Zl (ncc b ob q)).trans (B1.free b ob q n hx)) hx
      ·obtain ⟨o', e⟩ := B1.there b ob q hx
       exact un.there b o' e hx
      ·obtain ⟨m1, e1⟩ := B1.tbls b ps q
       obtain ⟨m2, e2⟩ := un.tbls b _ (up _ _ e1)
       exact ⟨m1 ++ m2, by rw [e2, Array.append_assoc]⟩
 subst hX
 refine wpAny_mono main (fun fl s' h => ?_) fun e s' h => h.elim
 obtain ⟨u, rfl, h⟩ := h
 exact h
end U
namespace GT
inductive Av (g : Nat → List Nat) (a : Nat) : Nat → Prop
 | zero : a ≠ 0 → Av g a 0
 | step {x y : Nat} : Av g a x → y ∈ g x → y ≠ a → Av g a y
structure Num (g : Nat → List Nat) (n : Nat) : Prop where
 pos : 0 < n
 cl : ∀ x, x < n → ∀ y ∈ g x, y < n
 up : ∀ k, k < n → k ≠ 0 → ∃ p, p < k ∧ k ∈ g p
theorem Av.ne {g : Nat → List Nat} {a x : Nat} (h : Av g a x) : x ≠ a := by
 cases h with
 | zero h => exact fun e => h e.symm
 | step _ _ h => exact h
theorem Av.lt {g : Nat → List Nat} {n a x : Nat} (N : Num g n) (h : Av g a x) : x < n := by
 induction h with
 | zero _ => exact N.pos
 | step _ hy _ ih => exact N.cl _ ih _ hy
theorem Zp7 {g : Nat → List Nat} {n a : Nat} (N : Num g n) : ∀ k, k < n → k < a → Av g a k := by
 intro k
 induction k using Nat.strongRecOn with
 | ind k ih =>
  intro hk ha
  by_cases h0 : k = 0
  ·subst h0; exact .zero (by omega)
  ·obtain ⟨p, hp, he⟩ := N.up k hk h0
   exact .step (ih p hp (by omega) (by omega)) he (by omega)
theorem Z71 {g : Nat → List Nat} {n a k : Nat} (N : Num g n) (hk : k < n) (h : ¬ Av g a k) : a ≤ k := by
 by_cases e : k < a
 ·exact absurd (Zp7 N k hk e) h
 ·omega
theorem Fg {g : Nat → List Nat} {k : Nat} : ¬ Av g 0 k := by
 intro h
 have : ∀ x, Av g 0 x → False := by
  intro x h
  induction h with
  | zero h => exact h rfl
  | step _ _ _ ih => exact ih
 exact this k h
theorem Rt {g : Nat → List Nat} {k : Nat} : ¬ Av g k k := fun h => h.ne rfl
theorem Z17 {g : Nat → List Nat} {a m k : Nat} (h1 : ¬ Av g m k) (h2 : ¬ Av g a m) : ¬ Av g a k := by
 intro h
 have key : ∀ x, Av g a x → Av g m x := by
  intro x h
  induction h with
  | zero h0 =>
   by_cases e : m = 0
   ·subst e; exact absurd (.zero h0) h2
   ·exact .zero e
  | step hx hy hn ih =>
   rename_i x y
   by_cases e : y = m
   ·subst e; exact absurd (.step hx hy hn) h2
   ·exact .step ih hy e
 exact h1 (key k h)
theorem Z24 {g : Nat → List Nat} {n a b k : Nat} (N : Num g n) (hk : k < n) (hab : a ≠ b) (h1 : ¬ Av g a k) (h2 : ¬ Av g b k) : ¬ Av g a b ∨ ¬ Av g b a := by
 by_cases ha : Av g a b
 ·by_cases hb : Av g b a
  ·exfalso
   have key : ∀ x, x < n → Av g a x ∨ Av g b x := by
    intro x
    induction x using Nat.strongRecOn with
    | ind x ih =>
     intro hx
     by_cases h0 : x = 0
     ·subst h0
      by_cases e : a = 0
      ·exact .inr (.zero (by omega))
      ·exact .inl (.zero e)
     ·obtain ⟨p, hp, he⟩ := N.up x hx h0
      rcases ih p hp (by omega) with q | q
      ·by_cases e : x = a
       ·subst e; exact .inr hb
       ·exact .inl (.step q he e)
      ·by_cases e : x = b
       ·subst e; exact .inl ha
       ·exact .inr (.step q he e)
   rcases key k hk with q | q
   ·exact h1 q
   ·exact h2 q
  ·exact .inr hb
 ·exact .inl ha
structure Must (g : Nat → List Nat) (k m : Nat) : Prop where
 ne : m ≠ k
 dom : ¬ Av g m k
 last : ∀ d, d ≠ k → ¬ Av g d k → d ≤ m
theorem Must.lt {g : Nat → List Nat} {n k m : Nat} (N : Num g n) (hk : k < n) (h : Must g k m) : m < k := by
 have := Z71 N hk h.dom
 have := h.ne
 omega
theorem Must.step {g : Nat → List Nat} {n k m a : Nat} (N : Num g n) (hk : k < n) (h : Must g k m) (ha : a < k) : Av g a k ↔ Av g a m := by
 have hm := h.lt N hk
 constructor
 ·intro q
  by_cases e : Av g a m
  ·exact e
  ·exact absurd q (Z17 h.dom e)
 ·intro q
  by_cases e : Av g a k
  ·exact e
  ·have le := h.last a (by omega) e
   by_cases am : a = m
   ·subst am; exact absurd q Rt
   ·rcases Z24 N hk am e h.dom with c | c
    ·exact absurd q c
    ·have := Z71 N (by omega) c
     omega
structure Wk (g : Nat → List Nat) (n : Nat) (B : List Nat) (T : List (Nat × Nat)) (F : List Nat) : Prop where
 bn : B.Nodup
 bl : ∀ x ∈ B, x < n
 z : 0 ∈ B
 mem : ∀ x, x ∈ B ↔ (∃ s, (x, s) ∈ T) ∨ x ∈ F
 nd : (T.map (·.1) ++ F).Nodup
 first : ∀ p, T[0]? = some p → p.1 = 0
 chain : ∀ (i : Nat) p q, T[i]? = some p → T[i + 1]? = some q → q.1 ∈ g p.1
 steps : ∀ a s, (a, s) ∈ T → s ≤ (g a).length ∧ ∀ j y, j < s → (g a)[j]? = some y → y ∈ B
 fin : ∀ d ∈ F, ∀ y ∈ g d, y ∈ B
 par : ∀ (i : Nat) x, F[i]? = some x → x ≠ 0 → ∃ p, x ∈ g p ∧ p ∈ B ∧ p ∉ F.take (i + 1)
def wkM (n : Nat) (B : List Nat) (T : List (Nat × Nat)) : Nat := 3 * (n - B.length) + (T.map fun p => 3 - p.2).sum
theorem Wk.begin (g : Nat → List Nat) {n : Nat} (hn : 0 < n) : Wk g n [0] [(0, 0)] [] where
 bn := by simp
 bl := by intro x h; simp at h; omega
 z := by simp
 mem := by intro x; simp
 nd := by simp
 first := by intro p h; simp at h; rw [← h]
 chain := by intro i p q h1 h2; simp at h2
 steps := by
  intro a s h
  simp at h
  obtain ⟨rfl, rfl⟩ := h
  exact ⟨Nat.zero_le _, fun j y h => by omega⟩
 fin := by intro d h; simp at h
 par := by intro i x h; simp at h
theorem Ww {α : Type} (T : List α) (p : α) : (T ++ [p])[T.length]? = some p := by simp
theorem Y9 {α : Type} {T : List α} {p q : α} {i : Nat} (h : T[i]? = some q) : (T ++ [p])[i]? = some q := by
 rw [List.getElem?_append_left (List.getElem?_eq_some_iff.mp h).1]; exact h
theorem Y7 {α : Type} {T : List α} {p q : α} {i : Nat} (h : (T ++ [p])[i]? = some q) : T[i]? = some q ∨ (i = T.length ∧ q = p) := by
 by_cases hi : i < T.length
 ·rw [List.getElem?_append_left hi] at h; exact .inl h
 ·rw [List.getElem?_append_right (by omega)] at h
  have h' := (List.getElem?_eq_some_iff.mp h).1
  simp at h'
  have e : i - T.length = 0 := by omega
  rw [e] at h
  simp at h
  exact .inr ⟨by omega, h.symm⟩
theorem Wk.close {g : Nat → List Nat} {n a s : Nat} {B F : List Nat} {T : List (Nat × Nat)} (w : Wk g n B (T ++ [(a, s)]) F) (hs : s = (g a).length) : Wk g n B T (F ++ [a]) where
 bn := w.bn
 bl := w.bl
 z := w.z
 mem := by
  intro x
  rw [w.mem x]
  simp only [List.mem_append, List.mem_singleton, Prod.mk.injEq]
  constructor
  ·rintro (⟨s', h | ⟨rfl, rfl⟩⟩ | h)
   ·exact .inl ⟨s', h⟩
   ·exact .inr (.inr rfl)
   ·exact .inr (.inl h)
  ·rintro (⟨s', h⟩ | h | rfl)
   ·exact .inl ⟨s', .inl h⟩
   ·exact .inr h
   ·exact .inl ⟨s, .inr ⟨rfl, rfl⟩⟩
 nd := by
  have h := w.nd
  have p : (T.map (·.1) ++ (F ++ [a])).Perm ((T ++ [(a, s)]).map (·.1) ++ F) := by
   rw [List.map_append, List.append_assoc]
   exact List.Perm.append_left _ List.perm_append_comm
  exact p.nodup_iff.mpr h
 first := fun p h => w.first p (Y9 h)
 chain := fun i p q h1 h2 => w.chain i p q (Y9 h1) (Y9 h2)
 steps := fun b t h => w.steps b t (List.mem_append_left _ h)
 fin := by
  intro d h y hy
  rcases List.mem_append.mp h with h | h
  ·exact w.fin d h y hy
  ·rw [List.mem_singleton] at h
   subst h
   obtain ⟨j, hj⟩ := List.getElem?_of_mem hy
   exact (w.steps d s (by simp)).2 j y (by have := (List.getElem?_eq_some_iff.mp hj).1; omega) hj
 par := by
  intro i x h hx
  rcases Y7 h with h | ⟨rfl, rfl⟩
  ·obtain ⟨p, h1, h2, h3⟩ := w.par i x h hx
   refine ⟨p, h1, h2, ?_⟩
   have hi := (List.getElem?_eq_some_iff.mp h).1
   rw [List.take_append_of_le_length (by omega)]
   exact h3
  ·have hl : T ≠ [] := by
    rintro rfl
    exact hx (w.first (x, s) rfl)
   obtain ⟨T', ⟨b, t⟩, rfl⟩ : ∃ T' p, T = T' ++ [p] := ⟨T.dropLast, T.getLast hl, (List.dropLast_concat_getLast hl).symm⟩
   refine ⟨b, ?_, ?_, ?_⟩
   ·exact w.chain T'.length (b, t) (x, s) (Y9 (Ww _ _)) (by have := Ww (T' ++ [(b, t)]) (x, s); simpa using this)
   ·rw [w.mem b]; exact .inl ⟨t, by simp⟩
   ·rw [List.take_of_length_le (by simp)]
    intro hb
    have hnd := w.nd
    simp only [List.map_append, List.map_cons, List.map_nil, List.append_assoc] at hnd
    have hnd := (List.nodup_append.mp hnd).2.1
    simp only [List.singleton_append, List.nodup_cons, List.mem_cons, not_or] at hnd
    rcases List.mem_append.mp hb with h | h
    ·exact hnd.1.2 h
    ·simp at h; exact hnd.1.1 h
theorem Wk.pass {g : Nat → List Nat} {n a s y : Nat} {B F : List Nat} {T : List (Nat × Nat)} (w : Wk g n B (T ++ [(a, s)]) F) (hy : (g a)[s]? = some y) (hb : y ∈ B) : Wk g n B (T ++ [(a, s + 1)]) F where
 bn := w.bn
 bl := w.bl
 z := w.z
 mem := by
  intro x
  rw [w.mem x]
  simp only [List.mem_append, List.mem_singleton, Prod.mk.injEq]
  constructor
  ·rintro (⟨s', h | ⟨rfl, rfl⟩⟩ | h)
   ·exact .inl ⟨s', .inl h⟩
   ·exact .inl ⟨s' + 1, .inr ⟨rfl, rfl⟩⟩
   ·exact .inr h
  ·rintro (⟨s', h | ⟨rfl, rfl⟩⟩ | h)
   ·exact .inl ⟨s', .inl h⟩
   ·exact .inl ⟨s, .inr ⟨rfl, rfl⟩⟩
   ·exact .inr h
 nd := by have := w.nd; simpa using this
 first := by
  intro p h
  rcases Y7 h with h | ⟨e, rfl⟩
  ·exact w.first p (Y9 h)
  ·have := w.first (a, s) (by rw [e]; exact Ww _ _)
   exact this
 chain := by
  intro i p q h1 h2
  rcases Y7 h2 with h2 | ⟨e, rfl⟩
  ·rcases Y7 h1 with h1 | ⟨e1, rfl⟩
   ·exact w.chain i p q (Y9 h1) (Y9 h2)
   ·have := (List.getElem?_eq_some_iff.mp h2).1
    omega
  ·rcases Y7 h1 with h1 | ⟨e1, rfl⟩
   ·exact w.chain i p (a, s) (Y9 h1) (by rw [e]; exact Ww _ _)
   ·omega
 steps := by
  intro b t h
  rcases List.mem_append.mp h with h | h
  ·exact w.steps b t (List.mem_append_left _ h)
  ·rw [List.mem_singleton] at h
   cases h
   obtain ⟨h1, h2⟩ := w.steps a s (by simp)
   refine ⟨(List.getElem?_eq_some_iff.mp hy).1, fun j z hj hz => ?_⟩
   by_cases e : j = s
   ·subst e; rw [hy] at hz; cases hz; exact hb
   ·exact h2 j z (by omega) hz
 fin := w.fin
 par := w.par
theorem Wk.open {g : Nat → List Nat} {n a s y : Nat} {B F : List Nat} {T : List (Nat × Nat)} (w : Wk g n B (T ++ [(a, s)]) F) (hy : (g a)[s]? = some y) (hn : y < n) (hb : y ∉ B) : Wk g n (B ++ [y]) (T ++ [(a, s + 1), (y, 0)]) F where
 bn := by
  rw [List.nodup_append]
  refine ⟨w.bn, by simp, fun x hx z hz => ?_⟩
  simp at hz
  subst hz
  exact fun e => hb (e ▸ hx)
 bl := by
  intro x hx
  rcases List.mem_append.mp hx with h | h
  ·exact w.bl x h
  ·simp at h; omega
 z := List.mem_append_left _ w.z
 mem := by
  intro x
  rw [List.mem_append, w.mem x]
  simp only [List.mem_append, List.mem_singleton, List.mem_cons, Prod.mk.injEq, List.not_mem_nil, or_false]
  constructor
  ·rintro ((⟨s', h | ⟨rfl, rfl⟩⟩ | h) | rfl)
   ·exact .inl ⟨s', .inl h⟩
   ·exact .inl ⟨s' + 1, .inr (.inl ⟨rfl, rfl⟩)⟩
   ·exact .inr h
   ·exact .inl ⟨0, .inr (.inr ⟨rfl, rfl⟩)⟩
  ·rintro (⟨s', h | ⟨rfl, rfl⟩ | ⟨rfl, rfl⟩⟩ | h)
   ·exact .inl (.inl ⟨s', .inl h⟩)
   ·exact .inl (.inl ⟨s, .inr ⟨rfl, rfl⟩⟩)
   ·exact .inr rfl
   ·exact .inl (.inr h)
 nd := by
  have h1 := w.nd
  have h2 : y ∉ (T ++ [(a, s)]).map (·.1) ++ F := by
   intro h
   apply hb
   rw [w.mem y]
   rcases List.mem_append.mp h with h | h
   ·obtain ⟨⟨b, t⟩, hp, e⟩ := List.mem_map.mp h
    simp at e
    subst e
    exact .inl ⟨t, hp⟩
   ·exact .inr h
  have p : ((T ++ [(a, s + 1), (y, 0)]).map (·.1) ++ F).Perm (y :: ((T ++ [(a, s)]).map (·.1) ++ F)) := by
   simp only [List.map_append, List.map_cons, List.map_nil, List.append_assoc, List.cons_append, List.nil_append]
   have q := List.perm_middle (a := y) (l₁ := List.map (fun x => x.1) T ++ [a]) (l₂ := F)
   simpa only [List.append_assoc, List.cons_append, List.nil_append] using q
  exact p.nodup_iff.mpr (List.nodup_cons.mpr ⟨h2, h1⟩)
 first := by
  intro p h
  have : T ++ [(a, s + 1), (y, 0)] = (T ++ [(a, s + 1)]) ++ [(y, 0)] := by simp
  rw [this] at h
  rcases Y7 h with h | ⟨e, rfl⟩
  ·rcases Y7 h with h | ⟨e, rfl⟩
   ·exact w.first p (Y9 h)
   ·exact w.first (a, s) (by rw [e]; exact Ww _ _)
  ·simp at e
 chain := by
  intro i p q h1 h2
  have : T ++ [(a, s + 1), (y, 0)] = (T ++ [(a, s + 1)]) ++ [(y, 0)] := by simp
  rw [this] at h1 h2
  rcases Y7 h2 with h2 | ⟨e, rfl⟩
  ·rcases Y7 h1 with h1 | ⟨e1, rfl⟩
   ·rcases Y7 h2 with h2 | ⟨e, rfl⟩
    ·rcases Y7 h1 with h1 | ⟨e1, rfl⟩
     ·exact w.chain i p q (Y9 h1) (Y9 h2)
     ·have := (List.getElem?_eq_some_iff.mp h2).1
      omega
    ·rcases Y7 h1 with h1 | ⟨e1, rfl⟩
     ·exact w.chain i p (a, s) (Y9 h1) (by rw [e]; exact Ww _ _)
     ·omega
   ·have := (List.getElem?_eq_some_iff.mp h2).1
    omega
  ·rcases Y7 h1 with h1 | ⟨e1, rfl⟩
   ·rcases Y7 h1 with h1 | ⟨e1, rfl⟩
    ·have := (List.getElem?_eq_some_iff.mp h1).1
     simp at e
     omega
    ·exact List.mem_of_getElem? hy
   ·omega
 steps := by
  intro b t h
  simp only [List.mem_append, List.mem_cons, List.not_mem_nil, or_false, Prod.mk.injEq] at h
  rcases h with h | ⟨rfl, rfl⟩ | ⟨rfl, rfl⟩
  ·obtain ⟨h1, h2⟩ := w.steps b t (List.mem_append_left _ h)
   exact ⟨h1, fun j z hj hz => List.mem_append_left _ (h2 j z hj hz)⟩
  ·obtain ⟨h1, h2⟩ := w.steps b s (by simp)
   refine ⟨(List.getElem?_eq_some_iff.mp hy).1, fun j z hj hz => ?_⟩
   by_cases e : j = s
   ·subst e; rw [hy] at hz; cases hz; simp
   ·exact List.mem_append_left _ (h2 j z (by omega) hz)
  ·exact ⟨Nat.zero_le _, fun j y h => by omega⟩
 fin := fun d h z hz => List.mem_append_left _ (w.fin d h z hz)
 par := by
  intro i x h hx
  obtain ⟨p, h1, h2, h3⟩ := w.par i x h hx
  exact ⟨p, h1, List.mem_append_left _ h2, h3⟩
theorem Wa : ∀ {n : Nat} {B : List Nat}, B.Nodup → (∀ x ∈ B, x < n) → B.length ≤ n := by
 intro n B h1 h2
 have : B.length ≤ (List.range n).length := List.Nodup.length_le_of_subset h1 (fun x hx => List.mem_range.mpr (h2 x hx))
 simpa using this
theorem Wk.room {g : Nat → List Nat} {n : Nat} {B F : List Nat} {T : List (Nat × Nat)} (w : Wk g n B T F) : B.length ≤ n := Wa w.bn w.bl
theorem Wk.small {g : Nat → List Nat} {n : Nat} {B F : List Nat} {T : List (Nat × Nat)} (w : Wk g n B T F) : T.length + F.length ≤ n := by
 have h := Wa (n := n) w.nd fun x hx => w.bl x ((w.mem x).mpr (by
  rcases List.mem_append.mp hx with h | h
  ·obtain ⟨⟨b, t⟩, hp, e⟩ := List.mem_map.mp h
   simp at e
   subst e
   exact .inl ⟨t, hp⟩
  ·exact .inr h))
 simpa using h
theorem Z57 {n a s : Nat} {B : List Nat} {T : List (Nat × Nat)} (hs : s ≤ 2) : wkM n B T < wkM n B (T ++ [(a, s)]) := by
 unfold wkM
 simp only [List.map_append, List.sum_append, List.map_cons, List.map_nil, List.sum_cons, List.sum_nil]
 omega
theorem Zh8 {n a s : Nat} {B : List Nat} {T : List (Nat × Nat)} (hs : s < 2) : wkM n B (T ++ [(a, s + 1)]) < wkM n B (T ++ [(a, s)]) := by
 unfold wkM
 simp only [List.map_append, List.sum_append, List.map_cons, List.map_nil, List.sum_cons, List.sum_nil]
 omega
theorem Z91 {n a s y : Nat} {B : List Nat} {T : List (Nat × Nat)} (hs : s < 2) (hB : B.length < n) : wkM n (B ++ [y]) (T ++ [(a, s + 1), (y, 0)]) < wkM n B (T ++ [(a, s)]) := by
 unfold wkM
 simp only [List.map_append, List.sum_append, List.map_cons, List.map_nil, List.sum_cons, List.sum_nil, List.length_append, List.length_cons, List.length_nil]
 omega
theorem Sm {O : List Nat} (nd : O.Nodup) {k x : Nat} (h : O[k]? = some x) : O.idxOf x = k := by
 obtain ⟨h1, h2⟩ := List.getElem?_eq_some_iff.mp h
 rw [← h2]
 exact List.Nodup.idxOf_getElem nd k h1
structure Ord (g : Nat → List Nat) (n : Nat) (O : List Nat) : Prop where
 nd : O.Nodup
 lt : ∀ x ∈ O, x < n
 z : O[0]? = some 0
 cl : ∀ x ∈ O, ∀ y ∈ g x, y ∈ O
 up : ∀ (k : Nat) x, O[k]? = some x → k ≠ 0 → ∃ (j : Nat) (p : Nat), j < k ∧ O[j]? = some p ∧ x ∈ g p
theorem Wk.ord {g : Nat → List Nat} {n : Nat} {B F : List Nat} (w : Wk g n B [] F) : Ord g n F.reverse := by
 have mem : ∀ x, x ∈ B ↔ x ∈ F := by intro x; rw [w.mem x]; simp
 have nd : F.Nodup := by have := w.nd; simpa using this
 have z : F[F.length - 1]? = some 0 := by
  have h0 := (mem 0).mp w.z
  have hl : 0 < F.length := List.length_pos_of_mem h0
  rw [List.getElem?_eq_getElem (by omega)]
  by_cases e : F[F.length - 1] = 0
  ·rw [e]
  ·obtain ⟨p, _, h2, h3⟩ := w.par (F.length - 1) _ (List.getElem?_eq_getElem (by omega)) e
   rw [List.take_of_length_le (by omega)] at h3
   exact absurd ((mem p).mp h2) h3
 have hl : 0 < F.length := List.length_pos_of_mem ((mem 0).mp w.z)
 have rv : ∀ k, k < F.length → F.reverse[k]? = F[F.length - 1 - k]? := fun k hk => List.getElem?_reverse hk
 refine ⟨(List.reverse_perm F).nodup_iff.mpr nd, fun x hx => w.bl x ((mem x).mpr (by simpa using hx)), ?_, fun x hx y hy => ?_, fun k x hk h0 => ?_⟩
 ·rw [rv 0 hl]; exact z
 ·rw [List.mem_reverse] at *
  exact (mem y).mp (w.fin x hx y hy)
 ·have hkl : k < F.length := by
   have := (List.getElem?_eq_some_iff.mp hk).1
   simpa using this
  rw [rv k hkl] at hk
  have hx : x ≠ 0 := by
   rintro rfl
   have h1 := Sm nd hk
   have h2 := Sm nd z
   omega
  obtain ⟨p, h1, h2, h3⟩ := w.par _ x hk hx
  obtain ⟨j, hj⟩ := List.getElem?_of_mem ((mem p).mp h2)
  have hjl := (List.getElem?_eq_some_iff.mp hj).1
  have hge : F.length - 1 - k + 1 ≤ j := by
   by_cases e : F.length - 1 - k + 1 ≤ j
   ·exact e
   ·exfalso
    apply h3
    apply List.mem_of_getElem? (i := j)
    rw [List.getElem?_take_of_lt (by omega)]
    exact hj
  refine ⟨F.length - 1 - j, p, by omega, ?_, h1⟩
  rw [rv _ (by omega), show F.length - 1 - (F.length - 1 - j) = j by omega]
  exact hj
def N0 (g : Nat → List Nat) (O : List Nat) (k : Nat) : List Nat := match O[k]? with
 | some x => (g x).map fun y => O.idxOf y
 | none => []
theorem Ord.num {g : Nat → List Nat} {n : Nat} {O : List Nat} (o : Ord g n O) : Num (N0 g O) O.length where
 pos := (List.getElem?_eq_some_iff.mp o.z).1
 cl := by
  intro k hk y hy
  unfold N0 at hy
  rw [List.getElem?_eq_getElem hk] at hy
  obtain ⟨u, hu, rfl⟩ := List.mem_map.mp hy
  exact List.idxOf_lt_length_of_mem (o.cl _ (List.getElem_mem hk) u hu)
 up := by
  intro k hk h0
  obtain ⟨j, p, h1, h2, h3⟩ := o.up k _ (List.getElem?_eq_getElem hk) h0
  refine ⟨j, h1, ?_⟩
  unfold N0
  rw [h2]
  exact List.mem_map.mpr ⟨_, h3, Sm o.nd (List.getElem?_eq_getElem hk)⟩
theorem Ord.le {g : Nat → List Nat} {n : Nat} {O : List Nat} (o : Ord g n O) : O.length ≤ n := Wa o.nd o.lt
structure Fd (g : Nat → List Nat) (n a : Nat) (L : List Nat) (t : Nat) : Prop where
 nd : L.Nodup
 z : L[0]? = some 0
 av : ∀ x ∈ L, Av g a x
 done : ∀ (i : Nat) x, i < t → L[i]? = some x → ∀ y ∈ g x, y = a ∨ y ∈ L
 le : t ≤ L.length
theorem Fd.next {g : Nat → List Nat} {n a t x : Nat} {L : List Nat} (f : Fd g n a L t) (hx : L[t]? = some x) (h : ∀ y ∈ g x, y = a ∨ y ∈ L) : Fd g n a L (t + 1) where
 nd := f.nd
 z := f.z
 av := f.av
 done := by
  intro i u h1 h2 v hv
  by_cases e : i = t
  ·subst e; rw [hx] at h2; cases h2; exact h v hv
  ·exact f.done i u (by omega) h2 v hv
 le := (List.getElem?_eq_some_iff.mp hx).1
end GT
namespace BF
structure Ok (E : Nat → Nat → Prop) (b : Nat) (B : List (Nat × Option Nat)) : Prop where
 hd : B[0]? = some (b, none)
 nd : (B.map (·.1)).Nodup
 up : ∀ (i g p : Nat), B[i]? = some (g, some p) → E p g ∧ ∃ (j : Nat) (o : Option Nat), j < i ∧ B[j]? = some (p, o)
 top : ∀ (i g : Nat), B[i]? = some (g, none) → i = 0 ∧ g = b
def keys (B : List (Nat × Option Nat)) : List Nat := B.map (·.1)
theorem Rq {B : List (Nat × Option Nat)} {x : Nat} : x ∈ keys B ↔ ∃ (i : Nat) (o : Option Nat), B[i]? = some (x, o) := by
 unfold keys
 rw [List.mem_map]
 constructor
 ·rintro ⟨⟨y, o⟩, h, rfl⟩
  obtain ⟨i, hi⟩ := List.getElem?_of_mem h
  exact ⟨i, o, hi⟩
 ·rintro ⟨i, o, h⟩
  exact ⟨(x, o), List.mem_of_getElem? h, rfl⟩
theorem Ok.begin (E : Nat → Nat → Prop) (b : Nat) : Ok E b [(b, none)] where
 hd := rfl
 nd := by simp
 up := fun i g p h => by
  have := List.mem_of_getElem? h
  simp at this
 top := fun i g h => by
  have h1 := (List.getElem?_eq_some_iff.mp h).1
  have hi : i = 0 := by simp at h1; exact h1
  subst hi
  simp at h
  exact ⟨rfl, h.symm⟩
theorem Tp (B : List (Nat × Option Nat)) (g : Nat) (o : Option Nat) : keys (B ++ [(g, o)]) = keys B ++ [g] := by unfold keys; simp
theorem Ok.more {E : Nat → Nat → Prop} {b : Nat} {B : List (Nat × Option Nat)} (h : Ok E b B) {p g : Nat} (hp : p ∈ keys B) (e : E p g) (n : g ∉ keys B) : Ok E b (B ++ [(g, some p)]) where
 hd := GT.Y9 h.hd
 nd := by
  rw [List.map_append, List.nodup_append]
  refine ⟨h.nd, by simp, ?_⟩
  intro x hx y hy
  simp at hy
  subst hy
  rintro rfl
  exact n hx
 up := fun i g' p' q => by
  rcases GT.Y7 q with q | ⟨z, q⟩
  ·obtain ⟨a, j, o, b1, b2⟩ := h.up i g' p' q
   exact ⟨a, j, o, b1, GT.Y9 b2⟩
  ·cases q
   subst z
   obtain ⟨j, o, hj⟩ := Rq.mp hp
   exact ⟨e, j, o, (List.getElem?_eq_some_iff.mp hj).1, GT.Y9 hj⟩
 top := fun i g' q => by
  rcases GT.Y7 q with q | ⟨_, q⟩
  ·exact h.top i g' q
  ·cases q
inductive Rc (E : Nat → Nat → Prop) (b : Nat) : Nat → Prop
 | here : Rc E b b
 | step {x y : Nat} : Rc E b x → E x y → Rc E b y
theorem Ok.reach {E : Nat → Nat → Prop} {b : Nat} {B : List (Nat × Option Nat)} (h : Ok E b B) : ∀ (i x : Nat) (o : Option Nat), B[i]? = some (x, o) → Rc E b x := by
 intro i
 induction i using Nat.strongRecOn with
 | ind i ih =>
  intro x o q
  cases o with
  | none => obtain ⟨_, rfl⟩ := h.top i x q; exact .here
  | some p =>
   obtain ⟨e, j, o', hj, q'⟩ := h.up i x p q
   exact .step (ih j hj p o' q') e
theorem Ok.all {E : Nat → Nat → Prop} {b : Nat} {B : List (Nat × Option Nat)} (h : Ok E b B) (cl : ∀ x ∈ keys B, ∀ y, E x y → y ∈ keys B) (x : Nat) : x ∈ keys B ↔ Rc E b x := by
 constructor
 ·intro hx
  obtain ⟨i, o, q⟩ := Rq.mp hx
  exact h.reach i x o q
 ·intro r
  induction r with
  | here => exact Rq.mpr ⟨0, none, h.hd⟩
  | step _ e ih => exact cl _ ih _ e
theorem Ok.same {E : Nat → Nat → Prop} {b : Nat} {B : List (Nat × Option Nat)} (h : Ok E b B) {i j x : Nat} {o o' : Option Nat} (hi : B[i]? = some (x, o)) (hj : B[j]? = some (x, o')) : i = j := by
 have h1 : (B.map (·.1))[i]? = some x := by rw [List.getElem?_map, hi]; rfl
 have h2 : (B.map (·.1))[j]? = some x := by rw [List.getElem?_map, hj]; rfl
 rw [← GT.Sm h.nd h1, ← GT.Sm h.nd h2]
structure Way (E : Nat → Nat → Prop) (b l : Nat) (W : List Nat) : Prop where
 fst : W[0]? = some b
 lst : W[W.length - 1]? = some l
 go : ∀ (i x y : Nat), W[i]? = some x → W[i + 1]? = some y → E x y
 nd : W.Nodup
theorem Way.pos {E : Nat → Nat → Prop} {b l : Nat} {W : List Nat} (h : Way E b l W) : 0 < W.length := (List.getElem?_eq_some_iff.mp h.fst).1
structure Bk (E : Nat → Nat → Prop) (b l : Nat) (B : List (Nat × Option Nat)) (T : List Nat) (c : Option Nat) (m : Nat) : Prop where
 cur : (m = 0 ∧ c = none ∧ T[T.length - 1]? = some b) ∨ ∃ (p : Nat) (o : Option Nat), 0 < m ∧ c = some p ∧ B[m - 1]? = some (p, o) ∧ ((T = [] ∧ p = l) ∨ ∃ x, T[T.length - 1]? = some x ∧ E p x)
 fst : T = [] ∨ T[0]? = some l
 go : ∀ (i x y : Nat), T[i]? = some x → T[i + 1]? = some y → E y x
 nd : T.Nodup
 old : ∀ x ∈ T, ∃ (j : Nat) (o : Option Nat), m ≤ j ∧ B[j]? = some (x, o)
theorem Bk.begin (E : Nat → Nat → Prop) (b : Nat) {l : Nat} {B : List (Nat × Option Nat)} {i : Nat} {o : Option Nat} (h : B[i]? = some (l, o)) : Bk E b l B [] (some l) (i + 1) where
 cur := .inr ⟨l, o, Nat.succ_pos i, rfl, h, .inl ⟨rfl, rfl⟩⟩
 fst := .inl rfl
 go := fun i x y q => by simp at q
 nd := List.nodup_nil
 old := fun x hx => by simp at hx
theorem Bk.step {E : Nat → Nat → Prop} {b l : Nat} {B : List (Nat × Option Nat)} {T : List Nat} {p m : Nat} (h : Ok E b B) (k : Bk E b l B T (some p) m) : ∃ (o : Option Nat) (m' : Nat), 0 < m ∧ B[m - 1]? = some (p, o) ∧ m' < m ∧ Bk E b l B (T ++ [p]) o m' := by
 obtain ⟨_, e, _⟩ | ⟨p', o, hm, e, hp, ht⟩ := k.cur
 ·cases e
 cases e
 have last : (T ++ [p])[(T ++ [p]).length - 1]? = some p := by simp
 have fst : (T ++ [p])[0]? = some l := by
  rcases ht with ⟨rfl, rfl⟩ | ⟨x, hx, _⟩
  ·rfl
  ·rcases k.fst with z | z
   ·subst z; simp at hx
   ·exact GT.Y9 z
 have go : ∀ (i x y : Nat), (T ++ [p])[i]? = some x → (T ++ [p])[i + 1]? = some y → E y x := by
  intro i x y h1 h2
  rcases GT.Y7 h2 with h2 | ⟨h2, rfl⟩
  ·rcases GT.Y7 h1 with h1 | ⟨h1, _⟩
   ·exact k.go i x y h1 h2
   ·have := (List.getElem?_eq_some_iff.mp h2).1
    omega
  ·rcases GT.Y7 h1 with h1 | ⟨h1, _⟩
   ·rcases ht with ⟨rfl, _⟩ | ⟨z, hz, e⟩
    ·simp at h1
    ·have : T.length - 1 = i := by omega
     rw [this, h1] at hz
     cases hz
     exact e
   ·omega
 have np : p ∉ T := fun z => by
  obtain ⟨j, o', hj, q⟩ := k.old p z
  have := h.same hp q
  omega
 have nd : (T ++ [p]).Nodup := by
  rw [List.nodup_append]
  refine ⟨k.nd, by simp, fun x hx y hy => ?_⟩
  simp at hy
  subst hy
  rintro rfl
  exact np hx
 have old : ∀ m', m' ≤ m - 1 → ∀ x ∈ T ++ [p], ∃ (j : Nat) (o : Option Nat), m' ≤ j ∧ B[j]? = some (x, o) := by
  intro m' hm' x hx
  rcases List.mem_append.mp hx with hx | hx
  ·obtain ⟨j, o', hj, q⟩ := k.old x hx
   exact ⟨j, o', by omega, q⟩
  ·simp at hx
   subst hx
   exact ⟨m - 1, o, hm', hp⟩
 cases o with
 | none =>
  obtain ⟨h0, rfl⟩ := h.top _ _ hp
  exact ⟨none, 0, hm, hp, hm, .inl ⟨rfl, rfl, last⟩, .inr fst, go, nd, old 0 (Nat.zero_le _)⟩
 | some g =>
  obtain ⟨e, j, o', hj, q⟩ := h.up _ _ _ hp
  exact ⟨some g, j + 1, hm, hp, by omega, .inr ⟨g, o', Nat.succ_pos j, rfl, q, .inr ⟨p, last, e⟩⟩, .inr fst, go, nd, old (j + 1) (by omega)⟩
theorem Bk.done {E : Nat → Nat → Prop} {b l : Nat} {B : List (Nat × Option Nat)} {T : List Nat} {m : Nat} (k : Bk E b l B T none m) : Way E b l T.reverse := by
 have hb : T[T.length - 1]? = some b := by
  rcases k.cur with ⟨_, _, hb⟩ | ⟨_, _, _, e, _⟩
  ·exact hb
  ·cases e
 have hn : 0 < T.length := by have := (List.getElem?_eq_some_iff.mp hb).1; omega
 have at' : ∀ i, i < T.length → T.reverse[i]? = T[T.length - 1 - i]? := fun i hi => by rw [List.getElem?_reverse hi]
 refine ⟨?_, ?_, fun i x y h1 h2 => ?_, List.pairwise_reverse.mpr (List.Pairwise.imp (fun h => Ne.symm h) k.nd)⟩
 ·rw [at' 0 hn]; exact hb
 ·rw [List.length_reverse, at' _ (by omega)]
  rcases k.fst with z | z
  ·subst z; simp at hn
  ·rw [show T.length - 1 - (T.length - 1) = 0 by omega]; exact z
 ·have l1 := (List.getElem?_eq_some_iff.mp h1).1
  have l2 := (List.getElem?_eq_some_iff.mp h2).1
  rw [List.length_reverse] at l1 l2
  rw [at' _ l1] at h1
  rw [at' _ l2] at h2
  refine k.go (T.length - 1 - (i + 1)) y x h2 ?_
  rw [show T.length - 1 - (i + 1) + 1 = T.length - 1 - i by omega]
  exact h1
theorem Bk.small {E : Nat → Nat → Prop} {b l : Nat} {B : List (Nat × Option Nat)} {T : List Nat} {c : Option Nat} {m : Nat} (h : Ok E b B) (k : Bk E b l B T c m) : T.length ≤ B.length := by
 have h4 := GT.Wa (n := B.length) (B := T.map fun x => (B.map (·.1)).idxOf x) ?_ ?_
 ·rwa [List.length_map] at h4
 ·unfold List.Nodup
  rw [List.pairwise_map]
  refine List.Pairwise.imp_of_mem (fun {a c} ha hb hne => ?_) k.nd
  obtain ⟨j1, o1, _, e1⟩ := k.old _ ha
  obtain ⟨j2, o2, _, e2⟩ := k.old _ hb
  rw [GT.Sm h.nd (k := j1) (by rw [List.getElem?_map, e1]; rfl), GT.Sm h.nd (k := j2) (by rw [List.getElem?_map, e2]; rfl)]
  intro e
  subst e
  rw [e1] at e2
  cases e2
  exact hne rfl
 ·intro x hx
  obtain ⟨y, hy, rfl⟩ := List.mem_map.mp hx
  obtain ⟨j1, o1, _, e1⟩ := k.old _ hy
  rw [GT.Sm h.nd (k := j1) (by rw [List.getElem?_map, e1]; rfl)]
  exact (List.getElem?_eq_some_iff.mp e1).1
theorem Y36 {g : Nat → List Nat} {a : Nat} (ha : a ≠ 0) (x : Nat) : Rc (fun p y => y ∈ g p ∧ y ≠ a) 0 x ↔ GT.Av g a x := by
 constructor
 ·intro r
  induction r with
  | here => exact .zero ha
  | step _ e ih => exact .step ih e.1 e.2
 ·intro r
  induction r with
  | zero _ => exact .here
  | step _ h1 h2 ih => exact .step ih ⟨h1, h2⟩
end BF
namespace GT
inductive Up (g : Nat → List Nat) (a : Nat) : Nat → Prop
 | refl : Up g a a
 | step {x y : Nat} : Up g a x → y ∈ g x → a < y → Up g a y
theorem Up.le {g : Nat → List Nat} {a x : Nat} (h : Up g a x) : a ≤ x := by
 induction h with
 | refl => exact Nat.le_refl _
 | step _ _ h _ => omega
theorem Up.trans {g : Nat → List Nat} {a b c : Nat} (h1 : Up g a b) (h2 : Up g b c) : Up g a c := by
 have hab := h1.le
 induction h2 with
 | refl => exact h1
 | step _ hy hl ih => exact .step ih hy (by omega)
theorem Up.av {g : Nat → List Nat} {a x d : Nat} (h : Up g a x) (hd : d < a) (h0 : Av g d a) : Av g d x := by
 induction h with
 | refl => exact h0
 | step _ hy hl ih => exact .step ih hy (by omega)
inductive Ch (t : Nat → Option Nat) : Nat → Nat → Prop
 | refl (x : Nat) : Ch t x x
 | step {x m a : Nat} : t x = some m → Ch t m a → Ch t x a
structure Tr (g : Nat → List Nat) (n : Nat) (t : Nat → Option Nat) : Prop where
 z : t 0 = none
 dn : ∀ x, (t x).isSome = true → x < n
 lt : ∀ x m, t x = some m → m < x
 cl : ∀ x m, t x = some m → m = 0 ∨ (t m).isSome = true
 up : ∀ x m, t x = some m → Up g m x
 dom : ∀ x, (x = 0 ∨ (t x).isSome = true) → ∀ d, ¬ Av g d x → x < n → Ch t x d
 mono : ∀ x m, t x = some m → ∀ a, (∀ p, p < n → x ∈ g p → (p = 0 ∨ (t p).isSome = true) → Ch t p a) → Ch t m a
theorem Ch.le {t : Nat → Option Nat} (lt : ∀ x m, t x = some m → m < x) {x a : Nat} (h : Ch t x a) : a ≤ x := by
 induction h with
 | refl => exact Nat.le_refl _
 | step e _ ih => have := lt _ _ e; omega
theorem Ch.trans {t : Nat → Option Nat} {x y a : Nat} (h1 : Ch t x y) (h2 : Ch t y a) : Ch t x a := by
 induction h1 with
 | refl => exact h2
 | step e _ ih => exact .step e (ih h2)
theorem Ch.linear {t : Nat → Option Nat} {x a b : Nat} (h1 : Ch t x a) (h2 : Ch t x b) : Ch t a b ∨ Ch t b a := by
 induction h1 with
 | refl => exact .inl h2
 | step e h3 ih =>
  cases h2 with
  | refl => exact .inr (.step e h3)
  | step e2 h4 => rw [e] at e2; cases e2; exact ih h4
theorem Ch.up {g : Nat → List Nat} {t : Nat → Option Nat} (up : ∀ x m, t x = some m → Up g m x) {x a : Nat} (h : Ch t x a) : Up g a x := by
 induction h with
 | refl => exact .refl
 | step e _ ih => exact ih.trans (up _ _ e)
theorem Ch.told {t : Nat → Option Nat} (cl : ∀ x m, t x = some m → m = 0 ∨ (t m).isSome = true) {x a : Nat} (h : Ch t x a) (hx : x = 0 ∨ (t x).isSome = true) : a = 0 ∨ (t a).isSome = true := by
 induction h with
 | refl => exact hx
 | step e _ ih => exact ih (cl _ _ e)
theorem Jy {t : Nat → Option Nat} (lt : ∀ x m, t x = some m → m < x) {a b m : Nat} (h : a < b) (e : t b = some m) (c : Nat) : (Ch t a c ∧ Ch t b c) ↔ (Ch t a c ∧ Ch t m c) := by
 constructor
 ·rintro ⟨h1, h2⟩
  refine ⟨h1, ?_⟩
  cases h2 with
  | refl => have := h1.le lt; omega
  | step e2 h3 => rw [e] at e2; cases e2; exact h3
 ·rintro ⟨h1, h2⟩
  exact ⟨h1, .step e h2⟩
def Lca (t : Nat → Option Nat) (l : List Nat) (r : Nat) : Prop := ∀ a, Ch t r a ↔ ∀ p ∈ l, Ch t p a
theorem Lca.one (t : Nat → Option Nat) (p : Nat) : Lca t [p] p := by intro a; simp
theorem Lca.more {t : Nat → Option Nat} {l : List Nat} {r p u : Nat} (h : Lca t l r) (hu : ∀ a, Ch t u a ↔ (Ch t r a ∧ Ch t p a)) : Lca t (l ++ [p]) u := by
 intro a
 rw [hu a, h a]
 constructor
 ·rintro ⟨h1, h2⟩ q hq
  rcases List.mem_append.mp hq with z | z
  ·exact h1 q z
  ·rw [List.mem_singleton] at z; subst z; exact h2
 ·intro h1
  exact ⟨fun q hq => h1 q (List.mem_append_left _ hq), h1 p (by simp)⟩
def set1 (t : Nat → Option Nat) (k m : Nat) : Nat → Option Nat := fun x => if x = k then some m else t x
theorem Y5 {t : Nat → Option Nat} {k m x : Nat} (h : x ≠ k) : set1 t k m x = t x := if_neg h
theorem Yp {t : Nat → Option Nat} {k m : Nat} : set1 t k m k = some m := if_pos rfl
theorem V7 {t : Nat → Option Nat} {k m : Nat} (lt : ∀ x m, t x = some m → m < x) {y a : Nat} (hy : y < k) : Ch (set1 t k m) y a ↔ Ch t y a := by
 constructor
 ·intro h
  induction h with
  | refl => exact .refl _
  | step e _ ih =>
   rw [Y5 (by omega)] at e
   have := lt _ _ e
   exact .step e (ih (by omega))
 ·intro h
  induction h with
  | refl => exact .refl _
  | step e _ ih =>
   have := lt _ _ e
   exact .step (by rw [Y5 (by omega)]; exact e) (ih (by omega))
theorem Sb {t : Nat → Option Nat} {k m : Nat} (lt : ∀ x m, t x = some m → m < x) (hm : m < k) {y a : Nat} (ha : k ≤ a) : Ch (set1 t k m) y a ↔ Ch t y a := by
 have lt' : ∀ x u, set1 t k m x = some u → u < x := by
  intro x u e
  by_cases hx : x = k
  ·subst hx; rw [Yp] at e; cases e; exact hm
  ·rw [Y5 hx] at e; exact lt x u e
 constructor
 ·intro h
  induction h with
  | refl => exact .refl _
  | step e h2 ih =>
   rename_i x u a
   by_cases hx : x = k
   ·subst hx
    have h3 := h2.le lt'
    rw [Yp] at e
    cases e
    omega
   ·rw [Y5 hx] at e
    exact .step e (ih ha)
 ·intro h
  induction h with
  | refl => exact .refl _
  | step e h2 ih =>
   rename_i x u a
   by_cases hx : x = k
   ·subst hx
    have h3 := h2.le lt
    have h4 := lt _ _ e
    omega
   ·exact .step (by rw [Y5 hx]; exact e) (ih ha)
theorem Z04 {t : Nat → Option Nat} {k m : Nat} (lt : ∀ x m, t x = some m → m < x) (hm : m < k) {y a : Nat} (h : Ch t y k) (ha : Ch t m a) : Ch (set1 t k m) y a :=
 Ch.trans ((Sb lt hm (Nat.le_refl k)).mpr h) (.step Yp ((V7 lt hm).mpr ha))
theorem Zj3 {t : Nat → Option Nat} {k m : Nat} {y a : Nat} (h : ¬ Ch t y k) (ha : Ch t y a) : Ch (set1 t k m) y a := by
 induction ha with
 | refl => exact .refl _
 | step e h2 ih =>
  rename_i x u a
  by_cases hx : x = k
  ·subst hx; exact absurd (.refl _) h
  ·exact .step (by rw [Y5 hx]; exact e) (ih fun z => h (.step e z))
theorem Zq3 {t : Nat → Option Nat} {k m : Nat} (lt : ∀ x m, t x = some m → m < x) (hm : m < k) {y a : Nat} (h : Ch (set1 t k m) y a) : (Ch t y k ∧ (a = k ∨ Ch t m a)) ∨ Ch t y a := by
 induction h with
 | refl => exact .inr (.refl _)
 | step e h2 ih =>
  rename_i x u a
  by_cases hx : x = k
  ·subst hx
   rw [Yp] at e
   cases e
   exact .inl ⟨.refl _, .inr ((V7 lt hm).mp h2)⟩
  ·rw [Y5 hx] at e
   rcases ih with ⟨z1, z2⟩ | z
   ·exact .inl ⟨.step e z1, z2⟩
   ·exact .inr (.step e z)
def From (g : Nat → List Nat) (n : Nat) (t : Nat → Option Nat) (k : Nat) (l : List Nat) : Prop := ∀ p, p ∈ l ↔ p < n ∧ k ∈ g p ∧ (p = 0 ∨ (t p).isSome = true)
theorem Tr.put {g : Nat → List Nat} {n : Nat} {t : Nat → Option Nat} {k m : Nat} {l : List Nat} (N : Num g n) (T : Tr g n t) (hk : k < n) (h0 : k ≠ 0) (hl : From g n t k l) (hm : Lca t l m) (hlt : m < k) (hne : l ≠ [])
  (J : ∀ x, x < n → Ch t x k → x ≠ k → (t x).isSome = true → ∃ p, p < x ∧ x ∈ g p ∧ (p = 0 ∨ (t p).isSome = true) ∧ (∀ u, t x = some u → Ch t u k → Ch t p k)) : Tr g n (set1 t k m) := by
 obtain ⟨p0, hp0⟩ := List.exists_mem_of_ne_nil l hne
 obtain ⟨hp1, hp2, hp3⟩ := (hl p0).mp hp0
 have mp0 : Ch t p0 m := ((hm m).mp (.refl m)) p0 hp0
 have mt : m = 0 ∨ (t m).isSome = true := mp0.told T.cl hp3
 have some' : ∀ x, (x = 0 ∨ (set1 t k m x).isSome = true) → x = k ∨ (x = 0 ∨ (t x).isSome = true) := by
  intro x h
  by_cases e : x = k
  ·exact .inl e
  ·rw [Y5 e] at h; exact .inr h
 have lt' : ∀ x u, set1 t k m x = some u → u < x := by
  intro x u e
  by_cases hx : x = k
  ·subst hx; rw [Yp] at e; cases e; exact hlt
  ·rw [Y5 hx] at e; exact T.lt x u e
 have domk : ∀ d, ¬ Av g d k → d ≠ k → Ch t m d := by
  intro d hd hdk
  rw [hm d]
  intro p hp
  obtain ⟨q1, q2, q3⟩ := (hl p).mp hp
  refine T.dom p q3 d (fun z => hd ?_) q1
  exact .step z q2 (Ne.symm hdk)
 have low : ∀ u, t k = some u → Ch t u m := by
  intro u hu
  exact T.mono k u hu m fun p a b c => (hm m).mp (.refl m) p ((hl p).mpr ⟨a, b, c⟩)
 have sub : ∀ y a, Ch (set1 t k m) y a → y ≠ k → Ch t y a := by
  intro y a h hy
  rcases Zq3 T.lt hlt h with ⟨h1, h2⟩ | h1
  ·rcases h2 with rfl | h2
   ·exact h1
   ·-- k is told, as it stands in y's chain
    have hk2 : (t k).isSome = true := by
     cases h1 with
     | refl => exact absurd rfl hy
     | step e h3 =>
      rcases h3.told T.cl (T.cl _ _ e) with z | z
      ·exact absurd z h0
      ·exact z
    obtain ⟨u, hu⟩ := Option.isSome_iff_exists.mp hk2
    exact h1.trans (.step hu ((low u hu).trans h2))
  ·exact h1
 refine ⟨by rw [Y5 (Ne.symm h0)]; exact T.z, fun x h => ?_, lt', ?_, ?_, ?_, ?_⟩
 ·by_cases e : x = k
  ·subst e; exact hk
  ·rw [Y5 e] at h; exact T.dn x h
 ·intro x u e
  by_cases hx : x = k
  ·subst hx
   rw [Yp] at e
   cases e
   rcases mt with z | z
   ·exact .inl z
   ·exact .inr (by rw [Y5 (by omega)]; exact z)
  ·rw [Y5 hx] at e
   by_cases hu : u = k
   ·subst hu; exact .inr (by rw [Yp]; rfl)
   ·rcases T.cl x u e with z | z
    ·exact .inl z
    ·exact .inr (by rw [Y5 hu]; exact z)
 ·intro x u e
  by_cases hx : x = k
  ·subst hx
   rw [Yp] at e
   cases e
   exact .step (mp0.up T.up) hp2 hlt
  ·rw [Y5 hx] at e; exact T.up x u e
 ·intro x hx d hd hxn
  by_cases e : x = k
  ·subst e
   by_cases ed : d = x
   ·subst ed; exact .refl _
   ·exact .step Yp ((V7 T.lt hlt).mpr (domk d hd ed))
  ·have old := T.dom x ((some' x hx).resolve_left e) d hd hxn
   by_cases hdk : k ≤ d
   ·exact (Sb T.lt hlt hdk).mpr old
   ·by_cases hc : Ch t x k
    ·refine Z04 T.lt hlt hc (domk d (fun z => hd ?_) (by omega))
     exact (hc.up T.up).av (by omega) z
    ·exact Zj3 hc old
 ·intro x u e a ha
  by_cases hx : x = k
  ·subst hx
   rw [Yp] at e
   cases e
   refine (V7 T.lt hlt).mpr ((hm a).mpr fun p hp => ?_)
   obtain ⟨q1, q2, q3⟩ := (hl p).mp hp
   have := ha p q1 q2 (by
    rcases q3 with z | z
    ·exact .inl z
    ·by_cases e : p = x
     ·subst e; exact .inr (by rw [Yp]; rfl)
     ·exact .inr (by rw [Y5 e]; exact z))
   by_cases e : p = x
   ·subst e
    by_cases hap : a = p
    ·subst hap; exact .refl _
    ·cases this with
     | refl => exact absurd rfl hap
     | step e2 h3 =>
      rw [Yp] at e2
      cases e2
      have h4 := (V7 T.lt hlt).mp h3
      have hk2 : (t p).isSome = true := q3.resolve_left h0
      obtain ⟨u, hu⟩ := Option.isSome_iff_exists.mp hk2
      exact .step hu ((low u hu).trans h4)
   ·exact sub p a this e
  ·rw [Y5 hx] at e
   have hxn : (t x).isSome = true := by rw [e]; rfl
   have old : ∀ p, p < n → x ∈ g p → (p = 0 ∨ (t p).isSome = true) → p ≠ k → Ch t p a := fun p q1 q2 q3 q4 => sub p a (ha p q1 q2 (q3.imp id fun z => by rw [Y5 q4]; exact z)) q4
   have oldk : k < n → x ∈ g k → (k = 0 ∨ (t k).isSome = true) → Ch t k a := by
    intro q1 q2 q3
    have := ha k q1 q2 (.inr (by rw [Yp]; rfl))
    cases this with
    | refl => exact .refl _
    | step e2 h3 =>
     rw [Yp] at e2
     cases e2
     have h4 := (V7 T.lt hlt).mp h3
     obtain ⟨v, hv⟩ := Option.isSome_iff_exists.mp (q3.resolve_left h0)
     exact .step hv ((low v hv).trans h4)
   have base : Ch t u a := T.mono x u e a fun p q1 q2 q3 => by
    by_cases e : p = k
    ·subst e; exact oldk q1 q2 q3
    ·exact old p q1 q2 q3 e
   by_cases hc : Ch t u k
   ·by_cases hak : k ≤ a
    ·exact (Sb T.lt hlt hak).mpr base
    ·-- the node ahead of x has k in its chain too
     obtain ⟨p, j1, j2, j3, j4⟩ := J x (T.dn x hxn) (.step e hc) hx hxn
     have hxl := T.dn x hxn
     have hpk := j4 u e hc
     have hap := ha p (by omega) j2 (by
      rcases j3 with z | z
      ·exact .inl z
      ·by_cases e : p = k
       ·subst e; exact .inr (by rw [Yp]; rfl)
       ·exact .inr (by rw [Y5 e]; exact z))
     refine Z04 T.lt hlt hc ?_
     rcases ((Sb T.lt hlt (Nat.le_refl k)).mpr hpk).linear hap with z | z
     ·cases z with
      | refl => omega
      | step e2 h3 => rw [Yp] at e2; cases e2; exact (V7 T.lt hlt).mp h3
     ·have := z.le lt'; omega
   ·exact Zj3 hc base
theorem Tr.begin {g : Nat → List Nat} {n : Nat} (N : Num g n) : Tr g n fun _ => none where
 z := rfl
 dn := fun x h => by cases h
 lt := fun x m h => by cases h
 cl := fun x m h => by cases h
 up := fun x m h => by cases h
 dom := fun x hx d hd hn => by
  rcases hx with rfl | hx
  ·have := Z71 N N.pos hd
   have e : d = 0 := by omega
   subst e
   exact .refl 0
  ·cases hx
 mono := fun x m h => by cases h
structure Turn (g : Nat → List Nat) (n : Nat) (first : Prop) (t : Nat → Option Nat) (k : Nat) : Prop where
 tr : Tr g n t
 told : ∀ x, 0 < x → x < n → (x < k ∨ ¬ first) → (t x).isSome = true
 none : first → ∀ x, k ≤ x → t x = none
 low : ∀ x u p, x < k → t x = some u → p < x → x ∈ g p → ∀ a, Ch t u a → Ch t p a
 high : ∀ x u p, k ≤ x → t x = some u → p < x → x ∈ g p → ∀ a, k ≤ a → Ch t u a → Ch t p a
theorem Turn.from {g : Nat → List Nat} {n k p : Nat} {first : Prop} {t : Nat → Option Nat} (U : Turn g n first t k) (hk : k < n) (hp : p < k) : p = 0 ∨ (t p).isSome = true := by
 by_cases e : p = 0
 ·exact .inl e
 ·exact .inr (U.told p (by omega) (by omega) (.inl hp))
theorem Turn.put {g : Nat → List Nat} {n k m : Nat} {first : Prop} {t : Nat → Option Nat} {l : List Nat} (N : Num g n) (U : Turn g n first t k) (hk : k < n) (h0 : k ≠ 0) (hl : From g n t k l) (hm : Lca t l m) : m < k ∧ Turn g n first (set1 t k m) (k + 1) ∧ ∀ u, t k = some u → m ≤ u := by
 have T := U.tr
 obtain ⟨p0, hp, he⟩ := N.up k hk h0
 have hp0 : p0 ∈ l := (hl p0).mpr ⟨by omega, he, U.from hk hp⟩
 have mp0 : Ch t p0 m := (hm m).mp (.refl m) p0 hp0
 have hlt : m < k := by have := mp0.le T.lt; omega
 have T' : Tr g n (set1 t k m) := by
  refine T.put N hk h0 hl hm hlt (List.ne_nil_of_mem hp0) fun x hx hc hxk hxt => ?_
  have hkx : k < x := by have := hc.le T.lt; omega
  obtain ⟨p, q1, q2⟩ := N.up x hx (by omega)
  refine ⟨p, q1, q2, ?_, fun u hu hcu => ?_⟩
  ·by_cases e : p = 0
   ·exact .inl e
   ·refine .inr (U.told p (by omega) (by omega) (.inr fun f => ?_))
    have := U.none f x (by omega)
    rw [this] at hxt
    cases hxt
  ·exact U.high x u p (by omega) hu q1 q2 k (Nat.le_refl k) hcu
 refine ⟨hlt, ⟨T', fun x h1 h2 h3 => ?_, fun f x hx => ?_, fun x u p hx hu hpx hg a ha => ?_, fun x u p hx hu hpx hg a ha hca => ?_⟩, fun u hu => ?_⟩
 ·by_cases e : x = k
  ·subst e; rw [Yp]; rfl
  ·rw [Y5 e]
   exact U.told x h1 h2 (h3.imp (fun z => by omega) id)
 ·rw [Y5 (by omega)]; exact U.none f x (by omega)
 ·by_cases e : x = k
  ·subst e
   rw [Yp] at hu
   cases hu
   have h1 := (V7 T.lt hlt).mp ha
   refine (V7 T.lt hpx).mpr ((hm a).mp h1 p ((hl p).mpr ⟨by omega, hg, U.from hk hpx⟩))
  ·rw [Y5 e] at hu
   have hux := T.lt x u hu
   exact (V7 T.lt (by omega)).mpr (U.low x u p (by omega) hu hpx hg a ((V7 T.lt (by omega)).mp ha))
 ·rw [Y5 (by omega)] at hu
  have h1 := (Sb T.lt hlt (by omega : k ≤ a)).mp hca
  exact (Sb T.lt hlt (by omega : k ≤ a)).mpr (U.high x u p (by omega) hu hpx hg a (by omega) h1)
 ·exact (T.mono k u hu m fun p a b c => (hm m).mp (.refl m) p ((hl p).mpr ⟨a, b, c⟩)).le T.lt
theorem Turn.pass {g : Nat → List Nat} {n k m : Nat} {first : Prop} {t : Nat → Option Nat} {l : List Nat} (N : Num g n) (U : Turn g n first t k) (hk : k < n) (h0 : k ≠ 0) (hl : From g n t k l) (hm : Lca t l m) (e : t k = some m) : Turn g n first t (k + 1) := by
 have h := (U.put N hk h0 hl hm).2.1
 have : set1 t k m = t := by
  funext x
  by_cases hx : x = k
  ·subst hx; rw [Yp, e]
  ·rw [Y5 hx]
 rw [this] at h
 exact h
theorem Turn.again {g : Nat → List Nat} {n : Nat} {first : Prop} {t : Nat → Option Nat} (U : Turn g n first t n) : Turn g n False t 1 where
 tr := U.tr
 told := fun x h1 h2 _ => U.told x h1 h2 (.inl h2)
 none := fun f => f.elim
 low := fun x u p hx hu hpx => by
  have e : x = 0 := by omega
  subst e
  rw [U.tr.z] at hu
  cases hu
 high := fun x u p hx hu hpx hg a _ hca => U.low x u p (U.tr.dn x (by rw [hu]; rfl)) hu hpx hg a hca
theorem Turn.begin {g : Nat → List Nat} {n : Nat} (N : Num g n) : Turn g n True (fun _ => Option.none) 1 where
 tr := Tr.begin N
 told := fun x h1 h2 h => by
  rcases h with h | h
  ·omega
  ·exact absurd trivial h
 none := fun _ _ _ => rfl
 low := fun x u p _ h => by cases h
 high := fun x u p _ h => by cases h
theorem Tr.done {g : Nat → List Nat} {n : Nat} {t : Nat → Option Nat} (N : Num g n) (T : Tr g n t) (all : ∀ x, 0 < x → x < n → (t x).isSome = true) (fix : ∀ x m, t x = some m → ∃ l, From g n t x l ∧ Lca t l m) : ∀ k m, t k = some m → Must g k m := by
 have key : ∀ a x, Av g a x → ¬ Ch t x a := by
  intro a x h
  induction h with
  | zero h0 =>
   intro z
   have := z.le T.lt
   omega
  | step hx hy hn ih =>
   rename_i x y
   intro z
   cases z with
   | refl => exact hn rfl
   | step e h3 =>
    obtain ⟨l, f1, f2⟩ := fix y _ e
    have hxn := hx.lt N
    refine ih ((f2 a).mp h3 x ((f1 x).mpr ⟨hxn, hy, ?_⟩))
    by_cases e0 : x = 0
    ·exact .inl e0
    ·exact .inr (all x (by omega) hxn)
 intro k m e
 have hk := T.dn k (by rw [e]; rfl)
 have hlt := T.lt k m e
 refine ⟨by omega, fun z => key m k z (.step e (.refl m)), fun d hd hdom => ?_⟩
 have := T.dom k (.inr (by rw [e]; rfl)) d hdom hk
 cases this with
 | refl => exact absurd rfl hd
 | step e2 h3 =>
  rw [e] at e2
  cases e2
  exact h3.le T.lt
end GT
namespace ND
structure St where
 b : List Nat
 s : List (Nat × List Nat)
 d : List Nat
def stp (g : Nat → List Nat) : St → St
 | ⟨b, [], d⟩ => ⟨b, [], d⟩
 | ⟨b, (x, []) :: s, d⟩ => ⟨b, s, d ++ [x]⟩
 | ⟨b, (x, t :: r) :: s, d⟩ => if t ∈ b then ⟨b, (x, r) :: s, d⟩ else ⟨b ++ [t], (t, g t) :: (x, r) :: s, d⟩
def itr (g : Nat → List Nat) : Nat → St → St
 | 0, s => s
 | k + 1, s => stp g (itr g k s)
def Ends (g : Nat → List Nat) (x : Nat) (d : List Nat) : Prop := ∃ k b, itr g k ⟨[x], [(x, g x)], []⟩ = ⟨b, [], d⟩
def mp (π : Nat → Nat) (s : St) : St := ⟨s.b.map π, s.s.map fun p => (π p.1, p.2.map π), s.d.map π⟩
structure In (S : Nat → Prop) (z : St) : Prop where
 b : ∀ x ∈ z.b, S x
 s : ∀ p ∈ z.s, S p.1 ∧ ∀ t ∈ p.2, S t
 d : ∀ x ∈ z.d, S x
theorem In.stp {g : Nat → List Nat} {S : Nat → Prop} (cl : ∀ x, S x → ∀ t ∈ g x, S t) {s : St} (h : In S s) : In S (stp g s) := by
 obtain ⟨b, s, d⟩ := s
 cases s with
 | nil => exact h
 | cons p s =>
  obtain ⟨x, r⟩ := p
  have hx := h.s (x, r) List.mem_cons_self
  cases r with
  | nil => exact ⟨h.b, fun p hp => h.s p (List.mem_cons_of_mem _ hp), fun y hy => (List.mem_append.mp hy).elim (h.d y) fun z => by rw [List.mem_singleton] at z; subst z; exact hx.1⟩
  | cons t r =>
   show In S (if t ∈ b then _ else _)
   split
   ·refine ⟨h.b, fun p hp => ?_, h.d⟩
    rcases List.mem_cons.mp hp with rfl | hp
    ·exact ⟨hx.1, fun u hu => hx.2 u (List.mem_cons_of_mem _ hu)⟩
    ·exact h.s p (List.mem_cons_of_mem _ hp)
   ·have ht := hx.2 t List.mem_cons_self
    refine ⟨fun y hy => (List.mem_append.mp hy).elim (h.b y) fun z => by rw [List.mem_singleton] at z; subst z; exact ht, fun p hp => ?_, h.d⟩
    rcases List.mem_cons.mp hp with rfl | hp
    ·exact ⟨ht, cl t ht⟩
    ·rcases List.mem_cons.mp hp with rfl | hp
     ·exact ⟨hx.1, fun u hu => hx.2 u (List.mem_cons_of_mem _ hu)⟩
     ·exact h.s p (List.mem_cons_of_mem _ hp)
theorem Y08 {g g' : Nat → List Nat} {S : Nat → Prop} {π : Nat → Nat} (inj : ∀ x y, S x → S y → π x = π y → x = y) (hg : ∀ x, S x → g' (π x) = (g x).map π) {s : St} (h : In S s) : stp g' (mp π s) = mp π (stp g s) := by
 obtain ⟨b, s, d⟩ := s
 cases s with
 | nil => rfl
 | cons p s =>
  obtain ⟨x, r⟩ := p
  have hx := h.s (x, r) List.mem_cons_self
  cases r with
  | nil => show St.mk (b.map π) _ (d.map π ++ [π x]) = St.mk (b.map π) _ ((d ++ [x]).map π); rw [List.map_append]; rfl
  | cons t r =>
   have ht := hx.2 t List.mem_cons_self
   have e : π t ∈ b.map π ↔ t ∈ b := by
    constructor
    ·intro z
     obtain ⟨y, hy, e⟩ := List.mem_map.mp z
     rw [← inj y t (h.b y hy) ht e]; exact hy
    ·exact fun z => List.mem_map.mpr ⟨t, z, rfl⟩
   show (if π t ∈ b.map π then _ else _) = mp π (if t ∈ b then _ else _)
   by_cases hb : t ∈ b
   ·rw [if_pos (e.mpr hb), if_pos hb]; rfl
   ·rw [if_neg (fun z => hb (e.mp z)), if_neg hb]
    show St.mk (b.map π ++ [π t]) ((π t, g' (π t)) :: _) (d.map π) = St.mk ((b ++ [t]).map π) ((π t, (g t).map π) :: _) (d.map π)
    rw [List.map_append, hg t ht]; rfl
theorem Zk2 {g g' : Nat → List Nat} {S : Nat → Prop} {π : Nat → Nat} (cl : ∀ x, S x → ∀ t ∈ g x, S t) (inj : ∀ x y, S x → S y → π x = π y → x = y) (hg : ∀ x, S x → g' (π x) = (g x).map π) {s : St} (h : In S s) : ∀ k, itr g' k (mp π s) = mp π (itr g k s) ∧ In S (itr g k s)
 | 0 => ⟨rfl, h⟩
 | k + 1 => by
  obtain ⟨h1, h2⟩ := Zk2 cl inj hg h k
  exact ⟨by show stp g' (itr g' k (mp π s)) = mp π (stp g (itr g k s)); rw [h1, Y08 inj hg h2], h2.stp cl⟩
theorem Ends.map {g g' : Nat → List Nat} {S : Nat → Prop} {π : Nat → Nat} {x : Nat} {d : List Nat} (cl : ∀ x, S x → ∀ t ∈ g x, S t) (inj : ∀ x y, S x → S y → π x = π y → x = y) (hg : ∀ x, S x → g' (π x) = (g x).map π) (hx : S x) (h : Ends g x d) : Ends g' (π x) (d.map π) := by
 obtain ⟨k, b, h⟩ := h
 have i0 : In S ⟨[x], [(x, g x)], []⟩ := ⟨fun y hy => by rw [List.mem_singleton] at hy; subst hy; exact hx, fun p hp => by rw [List.mem_singleton] at hp; subst hp; exact ⟨hx, cl x hx⟩, fun y hy => by simp at hy⟩
 have := (Zk2 cl inj hg i0 k).1
 rw [h] at this
 refine ⟨k, b.map π, ?_⟩
 rw [hg x hx]
 exact this
structure Ok (g : Nat → List Nat) (x : Nat) (s : St) : Prop where
 nb : s.b.Nodup
 nd : (s.s.map (·.1) ++ s.d).Nodup
 eq : ∀ y, y ∈ s.b ↔ y ∈ s.s.map (·.1) ∨ y ∈ s.d
 cl : ∀ y ∈ s.d, ∀ t ∈ g y, t ∈ s.b
 op : ∀ p ∈ s.s, (∀ t ∈ p.2, t ∈ g p.1) ∧ ∀ t ∈ g p.1, t ∈ p.2 ∨ t ∈ s.b
 bot : s.s.getLast?.map (·.1) = some x ∨ (s.s = [] ∧ s.d.getLast? = some x)
theorem Ok.begin (g : Nat → List Nat) (x : Nat) : Ok g x ⟨[x], [(x, g x)], []⟩ where
 nb := by simp
 nd := by simp
 eq := by simp
 cl := by simp
 op := by
  intro p hp
  rw [List.mem_singleton] at hp
  subst hp
  exact ⟨fun t h => h, fun t h => .inl h⟩
 bot := .inl rfl
theorem Ok.stp {g : Nat → List Nat} {x : Nat} {s : St} (h : Ok g x s) : Ok g x (stp g s) := by
 obtain ⟨b, s, d⟩ := s
 cases s with
 | nil => exact h
 | cons p s =>
  obtain ⟨y, r⟩ := p
  obtain ⟨h1, h2, h3, h4, h5, h6⟩ := h
  simp only [List.map_cons] at h2 h3 h4 h5 h6
  cases r with
  | nil =>
   show Ok g x ⟨b, s, d ++ [y]⟩
   refine ⟨h1, ?_, fun z => ?_, fun z hz t ht => ?_, fun p hp => h5 p (List.mem_cons_of_mem _ hp), ?_⟩
   ·show (s.map (·.1) ++ (d ++ [y])).Nodup
    rw [← List.append_assoc]
    have h2' : (y :: (s.map (·.1) ++ d)).Nodup := h2
    rw [List.nodup_cons] at h2'
    exact List.nodup_append.mpr ⟨h2'.2, by simp, fun a ha c hc => by rw [List.mem_singleton] at hc; subst hc; exact fun e => h2'.1 (e ▸ ha)⟩
   ·show z ∈ b ↔ z ∈ s.map (·.1) ∨ z ∈ d ++ [y]
    rw [h3 z]
    simp only [List.mem_cons, List.mem_append, List.not_mem_nil, or_false]
    constructor
    ·rintro ((h | h) | h)
     ·exact .inr (.inr h)
     ·exact .inl h
     ·exact .inr (.inl h)
    ·rintro (h | h | h)
     ·exact .inl (.inr h)
     ·exact .inr h
     ·exact .inl (.inl h)
   ·rcases List.mem_append.mp hz with hz | hz
    ·exact h4 z hz t ht
    ·rw [List.mem_singleton] at hz
     subst hz
     exact ((h5 (z, []) List.mem_cons_self).2 t ht).resolve_left (by simp)
   ·cases s with
    | nil =>
     refine .inr ⟨rfl, ?_⟩
     rcases h6 with h6 | ⟨h6, _⟩
     ·show (d ++ [y]).getLast? = some x
      rw [List.getLast?_append]
      simpa using h6
     ·cases h6
    | cons q s =>
     refine .inl ?_
     rcases h6 with h6 | ⟨h6, _⟩
     ·show (q :: s).getLast?.map (·.1) = some x
      rw [List.getLast?_cons_cons] at h6
      exact h6
     ·cases h6
  | cons t r =>
   have hy := h5 (y, t :: r) List.mem_cons_self
   show Ok g x (if t ∈ b then ⟨b, (y, r) :: s, d⟩ else ⟨b ++ [t], (t, g t) :: (y, r) :: s, d⟩)
   split
   ·rename_i hb
    refine ⟨h1, h2, h3, h4, fun p hp => ?_, ?_⟩
    ·rcases List.mem_cons.mp hp with rfl | hp
     ·refine ⟨fun u hu => hy.1 u (List.mem_cons_of_mem _ hu), fun u hu => ?_⟩
      rcases hy.2 u hu with z | z
      ·rcases List.mem_cons.mp z with rfl | z
       ·exact .inr hb
       ·exact .inl z
      ·exact .inr z
     ·exact h5 p (List.mem_cons_of_mem _ hp)
    ·rcases h6 with h6 | ⟨h6, _⟩
     ·refine .inl ?_
      cases s with
      | nil => exact h6
      | cons q s => rw [List.getLast?_cons_cons] at h6 ⊢; exact h6
     ·cases h6
   ·rename_i hb
    have hn : ¬ (t = y ∨ t ∈ s.map (·.1)) ∧ t ∉ d := by
     have := fun z => hb ((h3 t).mpr z)
     simp only [List.mem_cons] at this
     exact ⟨fun z => this (.inl z), fun z => this (.inr z)⟩
    refine ⟨?_, ?_, fun z => ?_, fun z hz u hu => List.mem_append_left _ (h4 z hz u hu), fun p hp => ?_, ?_⟩
    ·exact List.nodup_append.mpr ⟨h1, by simp, fun a ha c hc => by rw [List.mem_singleton] at hc; subst hc; exact fun e => hb (e ▸ ha)⟩
    ·show (t :: (y :: s.map (·.1) ++ d)).Nodup
     rw [List.nodup_cons]
     refine ⟨fun z => ?_, h2⟩
     rcases List.mem_append.mp z with z | z
     ·exact hn.1 (List.mem_cons.mp z)
     ·exact hn.2 z
    ·show z ∈ b ++ [t] ↔ z ∈ t :: y :: s.map (·.1) ∨ z ∈ d
     rw [List.mem_append, h3 z, List.mem_singleton, List.mem_cons (a := z) (b := t)]
     constructor
     ·rintro ((h | h) | h)
      ·exact .inl (.inr h)
      ·exact .inr h
      ·exact .inl (.inl h)
     ·rintro ((h | h) | h)
      ·exact .inr h
      ·exact .inl (.inl h)
      ·exact .inl (.inr h)
    ·rcases List.mem_cons.mp hp with rfl | hp
     ·exact ⟨fun u hu => hu, fun u hu => .inl hu⟩
     ·rcases List.mem_cons.mp hp with rfl | hp
      ·refine ⟨fun u hu => hy.1 u (List.mem_cons_of_mem _ hu), fun u hu => ?_⟩
       rcases hy.2 u hu with z | z
       ·rcases List.mem_cons.mp z with rfl | z
        ·exact .inr (List.mem_append_right _ (by simp))
        ·exact .inl z
       ·exact .inr (List.mem_append_left _ z)
      ·obtain ⟨a1, a2⟩ := h5 p (List.mem_cons_of_mem _ hp)
       exact ⟨a1, fun u hu => (a2 u hu).imp id (List.mem_append_left _)⟩
    ·rcases h6 with h6 | ⟨h6, _⟩
     ·refine .inl ?_
      rw [List.getLast?_cons_cons]
      cases s with
      | nil => exact h6
      | cons q s => rw [List.getLast?_cons_cons] at h6 ⊢; exact h6
     ·cases h6
theorem Ok.itr {g : Nat → List Nat} {x : Nat} {s : St} (h : Ok g x s) : ∀ k, Ok g x (itr g k s)
 | 0 => h
 | k + 1 => (Ok.itr h k).stp
theorem Ends.facts {g : Nat → List Nat} {x : Nat} {d : List Nat} (h : Ends g x d) : d.Nodup ∧ (∀ y ∈ d, ∀ t ∈ g y, t ∈ d) ∧ d.getLast? = some x := by
 obtain ⟨k, b, h⟩ := h
 have o := (Ok.begin g x).itr k
 rw [h] at o
 have e : ∀ y, y ∈ b ↔ y ∈ d := fun y => by have := o.eq y; simpa using this
 refine ⟨by simpa using o.nd, fun y hy t ht => (e t).mp (o.cl y hy t ht), ?_⟩
 rcases o.bot with z | ⟨_, z⟩
 ·cases z
 ·exact z
theorem Zs0 {l : List Nat} (nd : l.Nodup) {i : Nat} (h : i < l.length) : l.idxOf l[i] = i := nd.idxOf_getElem i h
theorem N0 {g g' : Nat → List Nat} {x : Nat} {d : List Nat} (h : Ends g x d) (hg : ∀ i (hi : i < d.reverse.length), g' i = (g d.reverse[i]).map d.reverse.idxOf) : Ends g' 0 (List.range d.length).reverse := by
 obtain ⟨nd, cl, last⟩ := h.facts
 have nr : d.reverse.Nodup := by first | exact List.pairwise_reverse.mpr (nd.imp fun h => Ne.symm h) | exact nd.reverse
 have hxd : x ∈ d := List.mem_of_getLast? last
 have get : ∀ y ∈ d, ∃ (hy : d.reverse.idxOf y < d.reverse.length), d.reverse[d.reverse.idxOf y] = y := fun y hy =>
  ⟨List.idxOf_lt_length_of_mem (List.mem_reverse.mpr hy), List.getElem_idxOf _⟩
 have h0 : d.reverse.idxOf x = 0 := by
  have e : d.reverse.head? = some x := by rw [List.head?_reverse]; exact last
  cases hr : d.reverse with
  | nil => rw [hr] at e; cases e
  | cons a r => rw [hr] at e; cases e; simp
 have key := Ends.map (g' := g') (S := (· ∈ d)) (π := d.reverse.idxOf) cl
  (fun a b ha hb e => by
   obtain ⟨p1, q1⟩ := get a ha
   obtain ⟨p2, q2⟩ := get b hb
   rw [← q1, ← q2]
   congr 1)
  (fun y hy => by
   obtain ⟨p1, q1⟩ := get y hy
   rw [hg _ p1, q1]) hxd h
 rw [h0] at key
 have e : d.map d.reverse.idxOf = (List.range d.length).reverse := by
  rw [← List.reverse_reverse (d.map _)]
  congr 1
  rw [← List.map_reverse]
  apply List.ext_getElem (by simp)
  intro i h1 h2
  rw [List.getElem_map, List.getElem_range, Zs0 nr]
 rw [e] at key
 exact key
end ND
namespace DF
open ND
def Pre (O : List Nat) (a b : Nat) : Prop := List.Sublist [a, b] O
inductive Pth (g : Nat → List Nat) (O : List Nat) (y : Nat) : Nat → Prop
 | here : Pth g O y y
 | step {a b : Nat} : Pth g O y a → b ∈ g a → Pre O b a → Pth g O y b
theorem Pth.mono {g : Nat → List Nat} {O O' : List Nat} {y x : Nat} (h : Pth g O y x) (k : List.Sublist O O') : Pth g O' y x := by
 induction h with
 | here => exact .here
 | step _ e p ih => exact .step ih e (p.trans k)
def row (s : St) : List Nat := s.d ++ s.s.map (·.1)
def Chn (g : Nat → List Nat) : List (Nat × List Nat) → Prop
 | [] => True
 | [_] => True
 | p :: q :: r => p.1 ∈ g q.1 ∧ Chn g (q :: r)
theorem Chn.tail {g : Nat → List Nat} {p : Nat × List Nat} {r : List (Nat × List Nat)} (h : Chn g (p :: r)) : Chn g r := by
 cases r with
 | nil => trivial
 | cons q r => exact h.2
theorem Chn.head {g : Nat → List Nat} {x : Nat} {u v : List Nat} {r : List (Nat × List Nat)} (h : Chn g ((x, u) :: r)) : Chn g ((x, v) :: r) := by
 cases r with
 | nil => trivial
 | cons q r => exact ⟨h.1, h.2⟩
theorem Chn.path {g : Nat → List Nat} {O : List Nat} : ∀ (p : Nat × List Nat) (r : List (Nat × List Nat)), Chn g (p :: r) → List.Sublist ((p :: r).map (·.1)) O → ∀ q ∈ p :: r, Pth g O q.1 p.1
 | p, [], _, _, q, hq => by
  rw [List.mem_singleton] at hq
  subst hq
  exact .here
 | p, p' :: r, h, hs, q, hq => by
  rcases List.mem_cons.mp hq with rfl | hq
  ·exact .here
  ·have hs' : List.Sublist ((p' :: r).map (·.1)) O := (List.sublist_cons_self _ _).trans hs
   refine .step (Chn.path p' r h.2 hs' q hq) h.1 (List.Sublist.trans ?_ hs)
   simp only [List.map_cons]
   exact .cons_cons _ (.cons_cons _ (List.nil_sublist _))
structure I (g : Nat → List Nat) (s : St) : Prop where
 ex : ∀ x ∈ s.d, ∀ y ∈ g x, Pre (row s) y x ∨ Pth g (row s) y x
 op : ∀ p ∈ s.s, ∀ y ∈ g p.1, y ∈ p.2 ∨ Pre (row s) y p.1 ∨ Pth g (row s) y p.1
 ch : Chn g s.s
theorem I.begin (g : Nat → List Nat) (x : Nat) : I g ⟨[x], [(x, g x)], []⟩ where
 ex := fun x h => by simp at h
 op := fun p hp y hy => by
  rw [List.mem_singleton] at hp
  subst hp
  exact .inl hy
 ch := trivial
theorem I.stp {g : Nat → List Nat} {x : Nat} {s : St} (o : Ok g x s) (h : I g s) : I g (stp g s) := by
 obtain ⟨b, s, d⟩ := s
 cases s with
 | nil => exact h
 | cons p s =>
  obtain ⟨y, r⟩ := p
  have hop := h.op (y, r) List.mem_cons_self
  cases r with
  | nil =>
   show I g ⟨b, s, d ++ [y]⟩
   have er : row ⟨b, s, d ++ [y]⟩ = row ⟨b, (y, []) :: s, d⟩ := by unfold row; simp
   refine ⟨fun z hz t ht => ?_, fun p hp t ht => ?_, h.ch.tail⟩
   ·rw [er]
    rcases List.mem_append.mp hz with hz | hz
    ·exact h.ex z hz t ht
    ·rw [List.mem_singleton] at hz
     subst hz
     rcases hop t ht with z | z
     ·simp at z
     ·exact z
   ·rw [er]
    exact h.op p (List.mem_cons_of_mem _ hp) t ht
  | cons t r =>
   show I g (if t ∈ b then _ else _)
   by_cases hb : t ∈ b
   ·rw [if_pos hb]
    have er : row ⟨b, (y, r) :: s, d⟩ = row ⟨b, (y, t :: r) :: s, d⟩ := rfl
    refine ⟨fun z hz u hu => by rw [er]; exact h.ex z hz u hu, fun p hp u hu => ?_, h.ch.head⟩
    rw [er]
    rcases List.mem_cons.mp hp with rfl | hp
    ·rcases hop u hu with z | z
     ·rcases List.mem_cons.mp z with rfl | z
      ·right
       rcases (o.eq u).mp hb with z | z
       ·right
        obtain ⟨q, hq, rfl⟩ := List.mem_map.mp z
        exact Chn.path _ _ h.ch (List.sublist_append_right _ _) q hq
       ·left
        unfold Pre row
        exact List.Sublist.append (l₁ := [u]) (l₂ := d) (r₁ := [y]) (List.singleton_sublist.mpr z) (List.singleton_sublist.mpr List.mem_cons_self)
      ·exact .inl z
     ·exact .inr z
    ·exact h.op p (List.mem_cons_of_mem _ hp) u hu
   ·rw [if_neg hb]
    have hs : List.Sublist (row ⟨b, (y, t :: r) :: s, d⟩) (row ⟨b ++ [t], (t, g t) :: (y, r) :: s, d⟩) := by
     unfold row
     exact List.Sublist.append (List.Sublist.refl _) (List.sublist_cons_self _ _)
    have up : ∀ {u v : Nat}, (Pre (row ⟨b, (y, t :: r) :: s, d⟩) u v ∨ Pth g (row ⟨b, (y, t :: r) :: s, d⟩) u v) → Pre (row ⟨b ++ [t], (t, g t) :: (y, r) :: s, d⟩) u v ∨ Pth g (row ⟨b ++ [t], (t, g t) :: (y, r) :: s, d⟩) u v :=
     fun h => h.imp (fun z => z.trans hs) fun z => z.mono hs
    refine ⟨fun z hz u hu => up (h.ex z hz u hu), fun p hp u hu => ?_, (o.op (y, t :: r) List.mem_cons_self).1 t List.mem_cons_self, h.ch.head⟩
    rcases List.mem_cons.mp hp with rfl | hp
    ·exact .inl hu
    ·rcases List.mem_cons.mp hp with rfl | hp
     ·rcases hop u hu with z | z
      ·rcases List.mem_cons.mp z with rfl | z
       ·right
        left
        unfold Pre row
        refine List.Sublist.trans ?_ (List.sublist_append_right _ _)
        exact .cons_cons _ (.cons_cons _ (List.nil_sublist _))
       ·exact .inl z
      ·exact .inr (up z)
     ·exact (h.op p (List.mem_cons_of_mem _ hp) u hu).imp id up
theorem I.itr {g : Nat → List Nat} (x : Nat) : ∀ k, Ok g x (itr g k ⟨[x], [(x, g x)], []⟩) ∧ I g (itr g k ⟨[x], [(x, g x)], []⟩)
 | 0 => ⟨Ok.begin g x, I.begin g x⟩
 | k + 1 => ⟨(I.itr x k).1.stp, (I.itr x k).2.stp (I.itr x k).1⟩
abbrev On (g : Nat → List Nat) : Nat → Nat → Prop := fun p y => y ∈ g p ∧ p < y
theorem back {g : Nat → List Nat} {n : Nat} (h : Ends g 0 (List.range n).reverse) {x y : Nat} (hx : x < n) (hy : y ∈ g x) (hl : y ≤ x) : BF.Rc (On g) y x := by
 obtain ⟨k, b, e⟩ := h
 have i := (I.itr (g := g) 0 k).2
 rw [e] at i
 have pw : List.Pairwise (fun a b => b < a) (List.range n).reverse := List.pairwise_reverse.mpr List.pairwise_lt_range
 have er : row ⟨b, [], (List.range n).reverse⟩ = (List.range n).reverse := by unfold row; simp
 have gt : ∀ {a c : Nat}, Pre (List.range n).reverse a c → c < a := fun {a c} p => by
  have := pw.sublist p
  simp at this
  exact this
 have key : ∀ z, Pth g (List.range n).reverse y z → BF.Rc (On g) y z := by
  intro z hz
  induction hz with
  | here => exact .here
  | step _ e p ih => exact .step ih ⟨e, gt p⟩
 have hd : x ∈ (List.range n).reverse := List.mem_reverse.mpr (List.mem_range.mpr hx)
 have q := i.ex x hd y hy
 rw [er] at q
 rcases q with q | q
 ·exact absurd (gt q) (by omega)
 ·exact key x q
theorem straight {g : Nat → List Nat} {n : Nat} (N : GT.Num g n) : ∀ x, x < n → BF.Rc (On g) 0 x := by
 intro x
 induction x using Nat.strongRecOn with
 | ind x ih =>
  intro hx
  by_cases h0 : x = 0
  ·subst h0; exact .here
  ·obtain ⟨p, hp, e⟩ := N.up x hx h0
   exact .step (ih p hp (by omega)) ⟨e, hp⟩
theorem Zx4 {g : Nat → List Nat} {b l : Nat} {W : List Nat} (h : BF.Way (On g) b l W) : ∀ (j i x y : Nat), i < j → W[i]? = some x → W[j]? = some y → x < y := by
 intro j
 induction j with
 | zero => intro i x y h; omega
 | succ j ih =>
  intro i x y hij hx hy
  have hj := (List.getElem?_eq_some_iff.mp hy).1
  obtain ⟨z, hz⟩ : ∃ z, W[j]? = some z := ⟨_, List.getElem?_eq_getElem (by omega)⟩
  have e := (h.go j z y hz hy).2
  by_cases hi : i = j
  ·subst hi
   rw [hz] at hx
   cases hx
   exact e
  ·have := ih i x z (by omega) hx hz
   omega
theorem Zd3 {g : Nat → List Nat} {b l : Nat} {W : List Nat} (h : BF.Way (On g) b l W) {x : Nat} (hx : x ∈ W) : b ≤ x := by
 obtain ⟨i, hi⟩ := List.getElem?_of_mem hx
 by_cases h0 : i = 0
 ·subst h0
  rw [h.fst] at hi
  cases hi
  exact Nat.le_refl _
 ·exact Nat.le_of_lt (Zx4 h i 0 b x (by omega) h.fst hi)
end DF
namespace K35
open PySem PySem.Spec PyProof.Rows L2 L3 U
abbrev RR (c : Cfg) (b : Ss) (N : List Str) (sp : DSp) : Prop := ∀ ds M Q Z, sp ds M Q Z → tss c noX b { nx := fun _ M => Q .non M, rt := Q } (start0 N ds) M
def top (i : Nat) : Stmt := PySem.Challenge.pw_unjump_k35_whole_orderly_or_two_ways.main.body.getD i (.Pass ⟨0, 0, 0, 0⟩)
def FN : List Str := "ways" :: "comings" :: "last_above" :: "last_above_all" :: "musts" :: "stands_above" :: "traced" :: "is_onward" :: "way_by" :: "way_round" :: "ways_back" :: "strange_way" :: "orderly" :: "up_to_first" :: "two_ways" :: "_law_draws" :: "_law_next" :: "_law_great" :: "_law_far" :: "_law_near" :: "_law_node" :: "_law_goals" :: "_law_order" :: "_law_graph" :: "_law_drawn" :: "_law_back" :: "_law_is_way" :: "_law_whole" :: "_law_above" :: "_law_is_tree" :: "_law_is_orderly" :: "_law_is_ring" :: "_law_comes_to" :: "_law_two_ways" :: "law" :: []
def GN : List Str := ["is_onward"]
def BN : List Str := ["enumerate", "range", "len", "list", "max", "min", "set", "zip", "isinstance", "bool", "int", "tuple"]
abbrev R6 : Stmt := top 1
def Fn : List Str := ["node"]
theorem Zq8 : FnScope Fn ["node"] (Z1 R6) := ⟨rfl, rfl, rfl, by decide +kernel, rfl, by decide +kernel, by decide +kernel⟩
def Na : Ss :=
 (.cons (.ret (.tup .nil))
 .nil)
def Rs : Ss :=
 (.cons (.ite (.cmp .eq (.ix (.var 0) (.int 0)) (.str "test")) (.cons (.ret (.tup (.cons (.ix (.var 0) (.int 4)) (.cons (.ix (.var 0) (.int 5)) .nil))))
 .nil) .nil)
 Na)
def b_ways : Ss :=
 (.cons (.ite (.cmp .eq (.ix (.var 0) (.int 0)) (.str "sum")) (.cons (.ret (.tup (.cons (.ix (.var 0) (.int 5)) .nil)))
 .nil) .nil)
 Rs)
theorem Zz4 : Yl (ck0 Fn R6 FN GN BN) b_ways (Z4 R6) = true := by decide +kernel
abbrev Xg : Stmt := top 2
def Te : List Str := ["graph", "told", "place", "node", "goal"]
theorem Co : FnScope Te ["graph"] (Z1 Xg) := ⟨rfl, rfl, rfl, by decide +kernel, rfl, by decide +kernel, by decide +kernel⟩
def Qm : Ss :=
 (.cons (.ret (.var 1))
 .nil)
def Ry : Ss :=
 (.cons (.expr (.mt .append (.ix (.var 1) (.var 4)) (.cons (.var 2) .nil)))
 .nil)
def Qy : Ss :=
 (.cons (.for_ [4] (.seq (.call 0 (.cons (.var 3) .nil))) Ry)
 .nil)
def b_comings : Ss :=
 (.cons (.set [1] (.comp ["node"] [none] [0] (.seq (.var 0)) .no (.lst .nil)))
 (.cons (.for_ [2, 3] (.enm (.var 0)) Qy)
 Qm))
theorem B7 : Yl (ck0 Te Xg FN GN BN) b_comings (Z4 Xg) = true := by decide +kernel
abbrev Yr : Stmt := top 6
def Wb : List Str := ["told", "one", "other"]
theorem Of : FnScope Wb ["told", "one", "other"] (Z1 Yr) := ⟨rfl, rfl, rfl, by decide +kernel, rfl, by decide +kernel, by decide +kernel⟩
def Vx : Ss :=
 (.cons (.ret (.var 1))
 .nil)
def Vy : Ss :=
 (.cons (.ite (.cmp .lt (.var 1) (.var 2)) (.cons (.set [2] (.ix (.var 0) (.var 2)))
 .nil) (.cons (.set [1] (.ix (.var 0) (.var 1)))
 .nil))
 .nil)
def b_last_above : Ss :=
 (.cons (.while_ (.cmp .ne (.var 1) (.var 2)) Vy)
 Vx)
theorem Nv : Yl (ck0 Wb Yr FN GN BN) b_last_above (Z4 Yr) = true := by decide +kernel
abbrev Zv : Stmt := top 5
def X5 : List Str := ["told", "places", "last", "place"]
theorem Sg : FnScope X5 ["told", "places"] (Z1 Zv) := ⟨rfl, rfl, rfl, by decide +kernel, rfl, by decide +kernel, by decide +kernel⟩
def Wd : Ss :=
 (.cons (.ret (.var 2))
 .nil)
def Wg : Ss :=
 (.cons (.ite (.bop false (.cons (.cmp .eq (.var 3) (.int 0)) (.cons (.cmp .isnot (.ix (.var 0) (.var 3)) .non) .nil))) (.cons (.set [2] (.ife (.cmp .is (.var 2) .non) (.var 3) (.call 2 (.cons (.var 0) (.cons (.var 2) (.cons (.var 3) .nil))))))
 .nil) .nil)
 .nil)
def b_last_above_all : Ss :=
 (.cons (.set [2] .non)
 (.cons (.for_ [3] (.seq (.var 1)) Wg)
 Wd))
theorem Rf : Yl (ck0 X5 Zv FN GN BN) b_last_above_all (Z4 Zv) = true := by decide +kernel
abbrev V8 : Stmt := top 4
def Nb : List Str := ["graph", "froms", "told", "changed", "place", "last"]
theorem Zc9 : FnScope Nb ["graph"] (Z1 V8) := ⟨rfl, rfl, rfl, by decide +kernel, rfl, by decide +kernel, by decide +kernel⟩
def Nw : Ss :=
 (.cons (.ret (.var 2))
 .nil)
def J6 : Ss :=
 (.cons (.set [5] (.call 3 (.cons (.var 2) (.cons (.ix (.var 1) (.var 4)) .nil))))
 (.cons (.ite (.cmp .ne (.var 5) (.ix (.var 2) (.var 4))) (.cons (.put (.var 2) (.var 4) (.var 5))
 (.cons (.set [3] (.bl true))
 .nil)) .nil)
 .nil))
def Jr : Ss :=
 (.cons (.set [3] (.bl false))
 (.cons (.for_ [4] (.rng2 (.int 1) (.bf .len (.cons (.var 0) .nil))) J6)
 .nil))
def b_musts : Ss :=
 (.cons (.set [1] (.call 1 (.cons (.var 0) .nil)))
 (.cons (.set [2] (.bin .mul (.lst (.cons .non .nil)) (.bf .len (.cons (.var 0) .nil))))
 (.cons (.set [3] (.bl true))
 (.cons (.while_ (.var 3) Jr)
 Nw))))
theorem Zp1 : Yl (ck0 Nb V8 FN GN BN) b_musts (Z4 V8) = true := by decide +kernel
abbrev Y8 : Stmt := top 7
def Xf : List Str := ["musts", "one", "other", "place"]
theorem Q7 : FnScope Xf ["musts", "one", "other"] (Z1 Y8) := ⟨rfl, rfl, rfl, by decide +kernel, rfl, by decide +kernel, by decide +kernel⟩
def V2 : Ss :=
 (.cons (.ret (.cmp .eq (.var 3) (.var 1)))
 .nil)
def V3 : Ss :=
 (.cons (.set [3] (.ix (.var 0) (.var 3)))
 .nil)
def b_stands_above : Ss :=
 (.cons (.set [3] (.var 2))
 (.cons (.while_ (.cmp .gt (.var 3) (.var 1)) V3)
 V2))
theorem Pc : Yl (ck0 Xf Y8 FN GN BN) b_stands_above (Z4 Y8) = true := by decide +kernel
abbrev Wh : Stmt := top 10
def Ri : List Str := ["befores", "last", "told", "place"]
theorem Z58 : FnScope Ri ["befores", "last"] (Z1 Wh) := ⟨rfl, rfl, rfl, by decide +kernel, rfl, by decide +kernel, by decide +kernel⟩
def Pj : Ss :=
 (.cons (.expr (.mt .reverse (.var 2) .nil))
 (.cons (.ret (.var 2))
 .nil))
def Oc : Ss :=
 (.cons (.expr (.mt .append (.var 2) (.cons (.var 3) .nil)))
 (.cons (.set [3] (.ix (.var 0) (.var 3)))
 .nil))
def b_traced : Ss :=
 (.cons (.set [2] (.lst .nil))
 (.cons (.set [3] (.var 1))
 (.cons (.while_ (.cmp .isnot (.var 3) .non) Oc)
 Pj)))
theorem Zg0 : Yl (ck0 Ri Wh FN GN BN) b_traced (Z4 Wh) = true := by decide +kernel
abbrev Yx : Stmt := top 16
def Wz : List Str := ["place", "goal"]
theorem Jt : FnScope Wz ["place", "goal"] (Z1 Yx) := ⟨rfl, rfl, rfl, by decide +kernel, rfl, by decide +kernel, by decide +kernel⟩
def b_is_onward : Ss :=
 (.cons (.ret (.cmp .lt (.var 0) (.var 1)))
 .nil)
theorem Gn : Yl (ck0 Wz Yx FN GN BN) b_is_onward (Z4 Yx) = true := by decide +kernel
abbrev Wl : Stmt := top 9
def Rl : List Str := ["graph", "begin", "last", "allowed", "befores", "reached", "beyond", "place", "goal"]
theorem Z44 : FnScope Rl ["graph", "begin", "last", "allowed"] (Z1 Wl) := ⟨rfl, rfl, rfl, by decide +kernel, rfl, by decide +kernel, by decide +kernel⟩
def O8 : Ss :=
 (.cons (.ret (.call 6 (.cons (.var 4) (.cons (.var 2) .nil))))
 .nil)
def Pg : Ss :=
 (.cons (.ite (.cmp .notin (.var 2) (.var 4)) (.cons (.ret .non)
 .nil) .nil)
 O8)
def O0 : Ss :=
 (.cons (.set [5] (.var 6))
 .nil)
def Po : Ss :=
 (.cons (.ite (.bop true (.cons (.cmp .notin (.var 8) (.var 4)) (.cons (.callw 3 7 0 (.cons (.var 7) (.cons (.var 8) .nil))) .nil))) (.cons (.put (.var 4) (.var 8) (.var 7))
 (.cons (.expr (.mt .append (.var 6) (.cons (.var 8) .nil)))
 .nil)) .nil)
 .nil)
def Od : Ss :=
 (.cons (.for_ [8] (.seq (.call 0 (.cons (.ix (.var 0) (.var 7)) .nil))) Po)
 .nil)
def Pp : Ss :=
 (.cons (.set [6] (.lst .nil))
 (.cons (.for_ [7] (.seq (.var 5)) Od)
 O0))
def b_way_by : Ss :=
 (.cons (.set [4] (.dct (.var 1) .non))
 (.cons (.set [5] (.lst (.cons (.var 1) .nil)))
 (.cons (.while_ (.cmp .ne (.var 5) (.lst .nil)) Pp)
 Pg)))
theorem Ze7 : Yl (ck0 Rl Wl FN GN BN) b_way_by (Z4 Wl) = true := by decide +kernel
abbrev Xw : Stmt := top 8
abbrev Yy : Stmt := top 14
def Wx : List Str := ["graph", "told", "place", "node", "goal"]
theorem G2 : FnScope Wx ["graph"] (Z1 Yy) := ⟨rfl, rfl, rfl, by decide +kernel, rfl, by decide +kernel, by decide +kernel⟩
def Tn : Ss :=
 (.cons (.ret (.var 1))
 .nil)
def Tj : Ss :=
 (.cons (.ite (.cmp .le (.var 4) (.var 2)) (.cons (.expr (.mt .append (.var 1) (.cons (.tup (.cons (.var 2) (.cons (.var 4) .nil))) .nil)))
 .nil) .nil)
 .nil)
def S0 : Ss :=
 (.cons (.for_ [4] (.seq (.call 0 (.cons (.var 3) .nil))) Tj)
 .nil)
def b_ways_back : Ss :=
 (.cons (.set [1] (.lst .nil))
 (.cons (.for_ [2, 3] (.enm (.var 0)) S0)
 Tn))
theorem Gi : Yl (ck0 Wx Yy FN GN BN) b_ways_back (Z4 Yy) = true := by decide +kernel
abbrev Yg : Stmt := top 13
def Xs : List Str := ["graph", "tree", "place", "goal"]
theorem Pb : FnScope Xs ["graph"] (Z1 Yg) := ⟨rfl, rfl, rfl, by decide +kernel, rfl, by decide +kernel, by decide +kernel⟩
def Vi : Ss :=
 (.cons (.ret .non)
 .nil)
def V6 : Ss :=
 (.cons (.ite (.not (.call 5 (.cons (.var 1) (.cons (.var 3) (.cons (.var 2) .nil))))) (.cons (.ret (.tup (.cons (.var 2) (.cons (.var 3) .nil))))
 .nil) .nil)
 .nil)
def b_strange_way : Ss :=
 (.cons (.set [1] (.call 4 (.cons (.var 0) .nil)))
 (.cons (.for_ [2, 3] (.seq (.call 10 (.cons (.var 0) .nil))) V6)
 Vi))
theorem Ow : Yl (ck0 Xs Yg FN GN BN) b_strange_way (Z4 Yg) = true := by decide +kernel
abbrev Xi : Stmt := top 12
def Tf : List Str := ["graph"]
theorem Eu : FnScope Tf ["graph"] (Z1 Xi) := ⟨rfl, rfl, rfl, by decide +kernel, rfl, by decide +kernel, by decide +kernel⟩
def b_orderly : Ss :=
 (.cons (.ret (.cmp .is (.call 11 (.cons (.var 0) .nil)) .non))
 .nil)
theorem Z34 : Yl (ck0 Tf Xi FN GN BN) b_orderly (Z4 Xi) = true := by decide +kernel
abbrev Ye : Stmt := top 17
def Xq : List Str := ["way", "around", "told", "place"]
theorem Pa : FnScope Xq ["way", "around"] (Z1 Ye) := ⟨rfl, rfl, rfl, by decide +kernel, rfl, by decide +kernel, by decide +kernel⟩
def Qg : Ss :=
 (.cons (.ret (.var 2))
 .nil)
def V9 : Ss :=
 (.cons (.expr (.mt .append (.var 2) (.cons (.var 3) .nil)))
 (.cons (.ite (.cmp .isin (.var 3) (.var 1)) (.cons (.ret (.var 2))
 .nil) .nil)
 .nil))
def b_up_to_first : Ss :=
 (.cons (.set [2] (.lst .nil))
 (.cons (.for_ [3] (.seq (.var 0)) V9)
 Qg))
theorem Ou : Yl (ck0 Xq Ye FN GN BN) b_up_to_first (Z4 Ye) = true := by decide +kernel
abbrev X9 : Stmt := top 15
def Vm : List Str := ["graph", "strange", "place", "goal", "around", "straight"]
theorem Gk : FnScope Vm ["graph"] (Z1 X9) := ⟨rfl, rfl, rfl, by decide +kernel, rfl, by decide +kernel, by decide +kernel⟩
def R8 : Ss :=
 (.cons (.set [2, 3] (.var 1))
 (.cons (.set [4] (.call 8 (.cons (.var 0) (.cons (.var 3) (.cons (.var 2) (.cons (.glb 0) .nil))))))
 (.cons (.set [5] (.call 8 (.cons (.var 0) (.cons (.int 0) (.cons (.var 3) (.cons (.glb 0) .nil))))))
 (.cons (.ret (.tup (.cons (.var 4) (.cons (.var 5) (.cons (.call 13 (.cons (.call 9 (.cons (.var 0) (.cons (.var 3) (.cons (.var 2) .nil)))) (.cons (.var 4) .nil))) .nil)))))
 .nil))))
def b_two_ways : Ss :=
 (.cons (.set [1] (.call 11 (.cons (.var 0) .nil)))
 (.cons (.ite (.cmp .is (.var 1) .non) (.cons (.ret .non)
 .nil) .nil)
 R8))
theorem C6 : Yl (ck0 Vm X9 FN GN BN) b_two_ways (Z4 X9) = true := by decide +kernel
abbrev W5 : Stmt := top 19
def Rv : List Str := ["_law_script", "_law_cells", "_law_by_digits", "_law_left", "_law_found", "_law_k", "_law_at", "_law_number"]
theorem Z05 : FnScope Rv ["_law_script"] (Z1 W5) := ⟨rfl, rfl, rfl, by decide +kernel, rfl, by decide +kernel, by decide +kernel⟩
def O5 : Ss :=
 (.cons (.ret (.rev (.var 4)))
 .nil)
def Vr : Ss :=
 (.cons (.expr (.mt .append (.var 4) (.cons (.var 7) .nil)))
 .nil)
def O7 : Ss :=
 (.cons (.set [6] (.bin .mod (.var 5) (.bf .len (.cons (.var 1) .nil))))
 (.cons (.set [7] (.bin .mod (.ix (.var 3) (.var 6)) (.int 2147483629)))
 (.cons (.ite (.bop true (.cons (.var 2) (.cons (.cmp .notin (.ix (.var 3) (.var 6)) (.lst (.cons (.int 0) (.cons (.neg (.int 1)) .nil)))) .nil))) (.cons (.put (.var 3) (.var 6) (.bin .fdiv (.ix (.var 3) (.var 6)) (.int 2147483629)))
 .nil) (.cons (.set [7] (.bin .mod (.bin .add (.bin .add (.bin .mul (.bin .mod (.ix (.var 1) (.var 6)) (.int 2147483629)) (.int 48271)) (.bin .mul (.bin .mul (.int 7919) (.var 5)) (.var 5))) (.int 104729)) (.int 2147483647)))
 (.cons (.set [7] (.bin .mod (.bin .mul (.var 7) (.var 7)) (.int 2147483629)))
 (.cons (.set [7] (.bin .mod (.bin .mul (.bin .mod (.bin .add (.bin .mul (.var 7) (.int 69621)) (.bin .mul (.int 3571) (.var 5))) (.int 2147483563)) (.var 7)) (.int 2147483629)))
 .nil))))
 Vr)))
def b_Ldraws : Ss :=
 (.cons (.set [1] (.sl (.bin .add (.bf .list1 (.cons (.sl (.var 0) .no (.yes (.int 63))) .nil)) (.lst (.cons (.int 0) .nil))) .no (.yes (.bf .max2 (.cons (.int 1) (.cons (.bf .min2 (.cons (.bf .len (.cons (.var 0) .nil)) (.cons (.int 63) .nil))) .nil))))))
 (.cons (.set [2] (.cmp .eq (.bin .mod (.ix (.var 1) (.int 0)) (.int 2)) (.int 1)))
 (.cons (.put (.var 1) (.int 0) (.bin .fdiv (.ix (.var 1) (.int 0)) (.int 2)))
 (.cons (.set [3] (.bf .list1 (.cons (.var 1) .nil)))
 (.cons (.set [4] (.lst .nil))
 (.cons (.for_ [5] (.rng1 (.int 900)) O7)
 O5))))))
theorem Zc3 : Yl (ck0 Rv W5 FN GN BN) b_Ldraws (Z4 W5) = true := by decide +kernel
abbrev V4 : Stmt := top 20
def N9 : List Str := ["_law_drawn_here"]
theorem Zb2 : FnScope N9 ["_law_drawn_here"] (Z1 V4) := ⟨rfl, rfl, rfl, by decide +kernel, rfl, by decide +kernel, by decide +kernel⟩
def Nr : Ss :=
 (.cons (.ret (.mt .pop0 (.var 0) .nil))
 .nil)
def b_Lnext : Ss :=
 (.cons (.ite (.cmp .eq (.var 0) (.lst .nil)) (.cons (.ret (.int 0))
 .nil) .nil)
 Nr)
theorem Zn2 : Yl (ck0 N9 V4 FN GN BN) b_Lnext (Z4 V4) = true := by decide +kernel
abbrev W7 : Stmt := top 21
def Rp : List Str := ["_law_drawn_here", "_law_number"]
theorem Z72 : FnScope Rp ["_law_drawn_here"] (Z1 W7) := ⟨rfl, rfl, rfl, by decide +kernel, rfl, by decide +kernel, by decide +kernel⟩
def b_Lgreat : Ss :=
 (.cons (.set [1] (.bin .mul (.call 16 (.cons (.var 0) .nil)) (.int 2147483629)))
 (.cons (.ret (.bin .sub (.bin .mod (.bin .add (.var 1) (.call 16 (.cons (.var 0) .nil))) (.bin .add (.bin .mul (.int 2) (.bin .pow (.int 10) (.int 18))) (.int 1))) (.bin .pow (.int 10) (.int 18))))
 .nil))
theorem Zg4 : Yl (ck0 Rp W7 FN GN BN) b_Lgreat (Z4 W7) = true := by decide +kernel
abbrev Re : Stmt := top 22
def Fi : List Str := ["_law_drawn_here", "_law_k", "_law_many", "_law_mode", "_law_number", "_law_to"]
theorem Zl4 : FnScope Fi ["_law_drawn_here", "_law_k", "_law_many", "_law_mode"] (Z1 Re) := ⟨rfl, rfl, rfl, by decide +kernel, rfl, by decide +kernel, by decide +kernel⟩
def N7 : Ss :=
 (.cons (.ret (.bin .mod (.var 4) (.var 2)))
 .nil)
def N5 : Ss :=
 (.cons (.ite (.cmp .eq (.var 3) (.int 2)) (.cons (.ret (.bin .sub (.var 1) (.bin .mod (.var 1) (.ix (.lst (.cons (.int 1) (.cons (.int 2) (.cons (.int 4) (.cons (.int 8) .nil))))) (.bin .mod (.bin .fdiv (.var 4) (.int 2)) (.int 4))))))
 .nil) .nil)
 N7)
def Ox : Ss :=
 (.cons (.ite (.bop true (.cons (.cmp .eq (.var 3) (.int 2)) (.cons (.cmp .eq (.bin .mod (.var 4) (.int 2)) (.int 0)) .nil))) (.cons (.ret (.bf .min2 (.cons (.bin .add (.bin .add (.var 1) (.int 1)) (.bin .mod (.bin .fdiv (.var 4) (.int 2)) (.int 3))) (.cons (.bin .sub (.var 2) (.int 1)) .nil))))
 .nil) .nil)
 N5)
def Ea : Ss :=
 (.cons (.ret (.ix (.lst (.cons (.int 0) (.cons (.var 1) .nil))) (.bin .mod (.var 4) (.int 2))))
 .nil)
def b_Lfar : Ss :=
 (.cons (.set [4] (.call 16 (.cons (.var 0) .nil)))
 (.cons (.ite (.cmp .eq (.var 3) (.int 1)) (.cons (.set [5] (.bin .add (.bin .add (.var 1) (.int 1)) (.bin .mod (.bin .fdiv (.var 4) (.int 2)) (.bin .sub (.var 2) (.var 1)))))
 (.cons (.ite (.cmp .lt (.var 5) (.var 2)) (.cons (.ret (.var 5))
 .nil) .nil)
 Ea)) .nil)
 Ox))
theorem Zy4 : Yl (ck0 Fi Re FN GN BN) b_Lfar (Z4 Re) = true := by decide +kernel
abbrev V5 : Stmt := top 23
def Ot : List Str := ["_law_drawn_here", "_law_k", "_law_many", "_law_mode"]
theorem Z87 : FnScope Ot ["_law_drawn_here", "_law_k", "_law_many", "_law_mode"] (Z1 V5) := ⟨rfl, rfl, rfl, by decide +kernel, rfl, by decide +kernel, by decide +kernel⟩
def Jd : Ss :=
 (.cons (.ret (.bf .min2 (.cons (.bin .add (.var 1) (.int 1)) (.cons (.bin .sub (.var 2) (.int 1)) .nil))))
 .nil)
def b_Lnear : Ss :=
 (.cons (.ite (.cmp .eq (.bin .mod (.call 16 (.cons (.var 0) .nil)) (.int 4)) (.int 3)) (.cons (.ret (.call 18 (.cons (.var 0) (.cons (.var 1) (.cons (.var 2) (.cons (.var 3) .nil))))))
 .nil) .nil)
 Jd)
theorem Zs1 : Yl (ck0 Ot V5 FN GN BN) b_Lnear (Z4 V5) = true := by decide +kernel
abbrev Vb : Stmt := top 24
def Ol : List Str := ["_law_drawn_here", "_law_k", "_law_many", "_law_mode", "_law_names", "_law_kind", "_law_one", "_law_other", "_law_sign", "_law_to"]
theorem Z90 : FnScope Ol ["_law_drawn_here", "_law_k", "_law_many", "_law_mode"] (Z1 Vb) := ⟨rfl, rfl, rfl, by decide +kernel, rfl, by decide +kernel, by decide +kernel⟩
def Nj : Ss :=
 (.cons (.set [8] (.ix (.lst (.cons (.str "<") (.cons (.str "=") .nil))) (.bin .mod (.call 16 (.cons (.var 0) .nil)) (.int 2))))
 (.cons (.set [9] (.call 18 (.cons (.var 0) (.cons (.var 1) (.cons (.var 2) (.cons (.var 3) .nil))))))
 (.cons (.ret (.tup (.cons (.str "test") (.cons (.var 6) (.cons (.var 8) (.cons (.var 7) (.cons (.var 9) (.cons (.call 19 (.cons (.var 0) (.cons (.var 1) (.cons (.var 2) (.cons (.var 3) .nil))))) .nil))))))))
 .nil)))
def Qq : Ss :=
 (.cons (.ite (.cmp .lt (.var 5) (.int 13)) (.cons (.set [8] (.ix (.lst (.cons (.str "+") (.cons (.str "-") (.cons (.str "/") (.cons (.str "rest") (.cons (.str "&") (.cons (.str "^") .nil))))))) (.bin .mod (.call 16 (.cons (.var 0) .nil)) (.int 6))))
 (.cons (.ret (.tup (.cons (.str "sum") (.cons (.ix (.var 4) (.bin .mod (.call 16 (.cons (.var 0) .nil)) (.int 4))) (.cons (.var 6) (.cons (.var 8) (.cons (.var 7) (.cons (.call 19 (.cons (.var 0) (.cons (.var 1) (.cons (.var 2) (.cons (.var 3) .nil))))) .nil))))))))
 .nil)) .nil)
 Nj)
def Qz : Ss :=
 (.cons (.set [7] (.ix (.var 4) (.bin .mod (.call 16 (.cons (.var 0) .nil)) (.int 4))))
 (.cons (.ite (.cmp .eq (.bin .mod (.call 16 (.cons (.var 0) .nil)) (.int 4)) (.int 3)) (.cons (.set [7] (.call 17 (.cons (.var 0) .nil)))
 .nil) .nil)
 Qq))
def G1 : Ss :=
 (.cons (.set [6] (.ix (.var 4) (.bin .mod (.call 16 (.cons (.var 0) .nil)) (.int 4))))
 (.cons (.ite (.cmp .eq (.bin .mod (.call 16 (.cons (.var 0) .nil)) (.int 4)) (.int 3)) (.cons (.set [6] (.bin .sub (.bin .mod (.call 16 (.cons (.var 0) .nil)) (.int 9)) (.int 4)))
 .nil) .nil)
 Qz))
def b_Lnode : Ss :=
 (.cons (.set [4] (.lst (.cons (.str "x") (.cons (.str "y") (.cons (.str "z1") (.cons (.str "z") .nil))))))
 (.cons (.set [5] (.bin .mod (.call 16 (.cons (.var 0) .nil)) (.int 32)))
 (.cons (.ite (.cmp .gt (.var 5) (.int 29)) (.cons (.ret (.ix (.lst (.cons (.tup (.cons (.str "end") .nil)) (.cons (.tup (.cons (.str "spin") .nil)) .nil))) (.bin .sub (.var 5) (.int 30))))
 .nil) .nil)
 G1)))
theorem Zl0 : Yl (ck0 Ol Vb FN GN BN) b_Lnode (Z4 Vb) = true := by decide +kernel
abbrev Wi : Stmt := top 25
def Rj : List Str := ["_law_node_here"]
theorem Z14 : FnScope Rj ["_law_node_here"] (Z1 Wi) := ⟨rfl, rfl, rfl, by decide +kernel, rfl, by decide +kernel, by decide +kernel⟩
def Si : Ss :=
 (.cons (.ret (.lst .nil))
 .nil)
def Vt : Ss :=
 (.cons (.ite (.cmp .eq (.ix (.var 0) (.int 0)) (.str "test")) (.cons (.ret (.lst (.cons (.ix (.var 0) (.int 5)) (.cons (.ix (.var 0) (.int 4)) .nil))))
 .nil) .nil)
 Si)
def b_Lgoals : Ss :=
 (.cons (.ite (.cmp .eq (.ix (.var 0) (.int 0)) (.str "sum")) (.cons (.ret (.lst (.cons (.ix (.var 0) (.int 5)) .nil)))
 .nil) .nil)
 Vt)
theorem Za1 : Yl (ck0 Rj Wi FN GN BN) b_Lgoals (Z4 Wi) = true := by decide +kernel
abbrev Wj : Stmt := top 26
def Rr : List Str := ["_law_raw", "_law_begun", "_law_trail", "_law_done", "_law_here", "_law_step", "_law_goals_here"]
theorem Z74 : FnScope Rr ["_law_raw"] (Z1 Wj) := ⟨rfl, rfl, rfl, by decide +kernel, rfl, by decide +kernel, by decide +kernel⟩
def Py : Ss :=
 (.cons (.ret (.rev (.var 3)))
 .nil)
def Se : Ss :=
 (.cons (.set [4, 5] (.mt .pop0 (.var 2) .nil))
 (.cons (.set [6] (.call 21 (.cons (.ix (.var 0) (.var 4)) .nil)))
 (.cons (.ite (.cmp .eq (.var 5) (.bf .len (.cons (.var 6) .nil))) (.cons (.expr (.mt .append (.var 3) (.cons (.var 4) .nil)))
 .nil) (.cons (.expr (.mt .append (.var 2) (.cons (.tup (.cons (.var 4) (.cons (.bin .add (.var 5) (.int 1)) .nil))) .nil)))
 (.cons (.ite (.cmp .notin (.ix (.var 6) (.var 5)) (.var 1)) (.cons (.expr (.mt .append (.var 1) (.cons (.ix (.var 6) (.var 5)) .nil)))
 (.cons (.expr (.mt .append (.var 2) (.cons (.tup (.cons (.ix (.var 6) (.var 5)) (.cons (.int 0) .nil))) .nil)))
 .nil)) .nil)
 .nil)))
 .nil)))
def b_Lorder : Ss :=
 (.cons (.set [1] (.lst (.cons (.int 0) .nil)))
 (.cons (.set [2] (.lst (.cons (.tup (.cons (.int 0) (.cons (.int 0) .nil))) .nil)))
 (.cons (.set [3] (.lst .nil))
 (.cons (.while_ (.cmp .ne (.var 2) (.lst .nil)) Se)
 Py))))
theorem Ze4 : Yl (ck0 Rr Wj FN GN BN) b_Lorder (Z4 Wj) = true := by decide +kernel
abbrev Wc : Stmt := top 27
def Rw : List Str := ["_law_raw", "_law_order_here", "_law_graph_here", "_law_old", "_law_node_here"]
theorem Cy : FnScope Rw ["_law_raw"] (Z1 Wc) := ⟨rfl, rfl, rfl, by decide +kernel, rfl, by decide +kernel, by decide +kernel⟩
def Oa : Ss :=
 (.cons (.ret (.var 2))
 .nil)
def Sl : Ss :=
 (.cons (.expr (.mt .append (.var 2) (.cons (.var 4) .nil)))
 .nil)
def Wp : Ss :=
 (.cons (.ite (.cmp .eq (.ix (.var 4) (.int 0)) (.str "test")) (.cons (.set [4] (.bin .add (.sl (.var 4) .no (.yes (.int 4))) (.tup (.cons (.mt .index1 (.var 1) (.cons (.ix (.var 4) (.int 4)) .nil)) (.cons (.mt .index1 (.var 1) (.cons (.ix (.var 4) (.int 5)) .nil)) .nil)))))
 .nil) .nil)
 Sl)
def O3 : Ss :=
 (.cons (.set [4] (.ix (.var 0) (.var 3)))
 (.cons (.ite (.cmp .eq (.ix (.var 4) (.int 0)) (.str "sum")) (.cons (.set [4] (.bin .add (.sl (.var 4) .no (.yes (.int 5))) (.tup (.cons (.mt .index1 (.var 1) (.cons (.ix (.var 4) (.int 5)) .nil)) .nil))))
 .nil) .nil)
 Wp))
def b_Lgraph : Ss :=
 (.cons (.set [1] (.call 22 (.cons (.var 0) .nil)))
 (.cons (.set [2] (.lst .nil))
 (.cons (.for_ [3] (.seq (.var 1)) O3)
 Oa)))
theorem Zc8 : Yl (ck0 Rw Wc FN GN BN) b_Lgraph (Z4 Wc) = true := by decide +kernel
abbrev W8 : Stmt := top 28
def Rk : List Str := ["_law_drawn_here", "_law_most", "_law_many", "_law_mode"]
theorem B5 : FnScope Rk ["_law_drawn_here", "_law_most"] (Z1 W8) := ⟨rfl, rfl, rfl, by decide +kernel, rfl, by decide +kernel, by decide +kernel⟩
def b_Ldrawn : Ss :=
 (.cons (.set [2] (.bin .add (.int 1) (.bin .mod (.call 16 (.cons (.var 0) .nil)) (.var 1))))
 (.cons (.set [3] (.bin .mod (.call 16 (.cons (.var 0) .nil)) (.int 3)))
 (.cons (.ret (.call 23 (.cons (.comp ["_law_k", "_law_drawn_here", "_law_many", "_law_mode"] [none, (some 0), (some 2), (some 3)] [0] (.rng1 (.var 2)) .no (.call 20 (.cons (.var 1) (.cons (.var 0) (.cons (.var 2) (.cons (.var 3) .nil)))))) .nil)))
 .nil)))
theorem Zc2 : Yl (ck0 Rk W8 FN GN BN) b_Ldrawn (Z4 W8) = true := by decide +kernel
abbrev Vl : Stmt := top 29
def Oi : List Str := ["_law_graph_here", "_law_found", "_law_k", "_law_to"]
theorem Zc7 : FnScope Oi ["_law_graph_here"] (Z1 Vl) := ⟨rfl, rfl, rfl, by decide +kernel, rfl, by decide +kernel, by decide +kernel⟩
def Jk : Ss :=
 (.cons (.ret (.var 1))
 .nil)
def Jq : Ss :=
 (.cons (.ite (.cmp .le (.var 3) (.var 2)) (.cons (.expr (.mt .append (.var 1) (.cons (.tup (.cons (.var 2) (.cons (.var 3) .nil))) .nil)))
 .nil) .nil)
 .nil)
def Jw : Ss :=
 (.cons (.for_ [3] (.seq (.call 21 (.cons (.ix (.var 0) (.var 2)) .nil))) Jq)
 .nil)
def b_Lback : Ss :=
 (.cons (.set [1] (.lst .nil))
 (.cons (.for_ [2] (.rng1 (.bf .len (.cons (.var 0) .nil))) Jw)
 Jk))
theorem Zs2 : Yl (ck0 Oi Vl FN GN BN) b_Lback (Z4 Vl) = true := by decide +kernel
abbrev Xh : Stmt := top 30
def To : List Str := ["_law_found", "_law_graph_here", "_law_last", "_law_k", "_law_one", "_law_other"]
theorem Ct : FnScope To ["_law_found", "_law_graph_here", "_law_last"] (Z1 Xh) := ⟨rfl, rfl, rfl, by decide +kernel, rfl, by decide +kernel, by decide +kernel⟩
def Q6 : Ss :=
 (.cons (.ret (.bop true (.cons (.cmp .eq (.ix (.var 0) (.int 0)) (.int 0)) (.cons (.cmp .eq (.ix (.var 0) (.neg (.int 1))) (.var 2)) (.cons (.cmp .eq (.setf false (.var 0)) (.bf .len (.cons (.var 0) .nil))) .nil)))))
 .nil)
def Q5 : Ss :=
 (.cons (.ite (.cmp .notin (.var 5) (.call 21 (.cons (.ix (.var 1) (.var 4)) .nil))) (.cons (.ret (.bl false))
 .nil) .nil)
 .nil)
def Qs : Ss :=
 (.cons (.for_ [4, 5] (.zip (.cons (.sl (.var 0) .no (.yes (.neg (.int 1)))) (.cons (.sl (.var 0) (.yes (.int 1)) .no) .nil))) Q5)
 Q6)
def Qx : Ss :=
 (.cons (.ite (.bop false (.cons (.not (.bf .isinst (.cons (.var 3) (.cons (.ty .int) .nil)))) (.cons (.bf .isinst (.cons (.var 3) (.cons (.ty .bool) .nil))) (.cons (.cmp .lt (.var 3) (.int 0)) (.cons (.cmp .ge (.var 3) (.bf .len (.cons (.var 1) .nil))) .nil))))) (.cons (.ret (.bl false))
 .nil) .nil)
 .nil)
def Qf : Ss :=
 (.cons (.for_ [3] (.seq (.var 0)) Qx)
 Qs)
def b_Lis_way : Ss :=
 (.cons (.ite (.bop false (.cons (.not (.bf .isinst (.cons (.var 0) (.cons (.ty .list) .nil)))) (.cons (.cmp .eq (.bf .len (.cons (.var 0) .nil)) (.int 0)) .nil))) (.cons (.ret (.bl false))
 .nil) .nil)
 Qf)
theorem Z30 : Yl (ck0 To Xh FN GN BN) b_Lis_way (Z4 Xh) = true := by decide +kernel
abbrev Wf : Stmt := top 31
def Rn : List Str := ["_law_found"]
theorem Z35 : FnScope Rn ["_law_found"] (Z1 Wf) := ⟨rfl, rfl, rfl, by decide +kernel, rfl, by decide +kernel, by decide +kernel⟩
def b_Lwhole : Ss :=
 (.cons (.ret (.bop true (.cons (.bf .isinst (.cons (.var 0) (.cons (.ty .int) .nil))) (.cons (.not (.bf .isinst (.cons (.var 0) (.cons (.ty .bool) .nil)))) .nil))))
 .nil)
theorem Zf1 : Yl (ck0 Rn Wf FN GN BN) b_Lwhole (Z4 Wf) = true := by decide +kernel
abbrev W6 : Stmt := top 32
def Ru : List Str := ["_law_tree", "_law_one", "_law_other"]
theorem Bc : FnScope Ru ["_law_tree", "_law_one", "_law_other"] (Z1 W6) := ⟨rfl, rfl, rfl, by decide +kernel, rfl, by decide +kernel, by decide +kernel⟩
def Pw : Ss :=
 (.cons (.ret (.cmp .eq (.var 2) (.var 1)))
 .nil)
def Pv : Ss :=
 (.cons (.set [2] (.ix (.var 0) (.var 2)))
 .nil)
def b_Labove : Ss :=
 (.cons (.while_ (.bop true (.cons (.cmp .isnot (.var 2) .non) (.cons (.cmp .gt (.var 2) (.var 1)) .nil))) Pv)
 Pw)
theorem Zg7 : Yl (ck0 Ru W6 FN GN BN) b_Labove (Z4 W6) = true := by decide +kernel
abbrev X7 : Stmt := top 33
def Vu : List Str := ["_law_tree", "_law_graph_here", "_law_k", "_law_to"]
theorem Gs : FnScope Vu ["_law_tree", "_law_graph_here"] (Z1 X7) := ⟨rfl, rfl, rfl, by decide +kernel, rfl, by decide +kernel, by decide +kernel⟩
def Sn : Ss :=
 (.cons (.ret (.bl true))
 .nil)
def Sq : Ss :=
 (.cons (.ite (.bop true (.cons (.cmp .ne (.var 3) (.int 0)) (.cons (.not (.call 28 (.cons (.var 0) (.cons (.ix (.var 0) (.var 3)) (.cons (.var 2) .nil))))) .nil))) (.cons (.ret (.bl false))
 .nil) .nil)
 .nil)
def Sy : Ss :=
 (.cons (.for_ [3] (.seq (.call 21 (.cons (.ix (.var 1) (.var 2)) .nil))) Sq)
 .nil)
def Sr : Ss :=
 (.cons (.for_ [2] (.rng1 (.bf .len (.cons (.var 1) .nil))) Sy)
 Sn)
def Su : Ss :=
 (.cons (.ite (.bop false (.cons (.not (.call 27 (.cons (.ix (.var 0) (.var 2)) .nil))) (.cons (.cmp .lt (.ix (.var 0) (.var 2)) (.int 0)) (.cons (.cmp .ge (.ix (.var 0) (.var 2)) (.var 2)) .nil)))) (.cons (.ret (.bl false))
 .nil) .nil)
 .nil)
def R9 : Ss :=
 (.cons (.for_ [2] (.rng2 (.int 1) (.bf .len (.cons (.var 1) .nil))) Su)
 Sr)
def b_Lis_tree : Ss :=
 (.cons (.ite (.bop false (.cons (.not (.bf .isinst (.cons (.var 0) (.cons (.ty .list) .nil)))) (.cons (.cmp .ne (.bf .len (.cons (.var 0) .nil)) (.bf .len (.cons (.var 1) .nil))) (.cons (.cmp .isnot (.ix (.var 0) (.int 0)) .non) .nil)))) (.cons (.ret (.bl false))
 .nil) .nil)
 R9)
theorem En : Yl (ck0 Vu X7 FN GN BN) b_Lis_tree (Z4 X7) = true := by decide +kernel
abbrev Yd : Stmt := top 34
def Xp : List Str := ["_law_graph_here", "_law_tree", "_law_k", "_law_to"]
theorem Pd : FnScope Xp ["_law_graph_here"] (Z1 Yd) := ⟨rfl, rfl, rfl, by decide +kernel, rfl, by decide +kernel, by decide +kernel⟩
def Vf : Ss :=
 (.cons (.ret (.bl true))
 .nil)
def Vj : Ss :=
 (.cons (.ite (.not (.call 28 (.cons (.var 1) (.cons (.var 3) (.cons (.var 2) .nil))))) (.cons (.ret (.bl false))
 .nil) .nil)
 .nil)
def Ve : Ss :=
 (.cons (.for_ [2, 3] (.seq (.call 25 (.cons (.var 0) .nil))) Vj)
 Vf)
def b_Lis_orderly : Ss :=
 (.cons (.set [1] (.call 4 (.cons (.var 0) .nil)))
 (.cons (.ite (.not (.call 29 (.cons (.var 1) (.cons (.var 0) .nil)))) (.cons (.ret (.bl false))
 .nil) .nil)
 Ve))
theorem Oy : Yl (ck0 Xp Yd FN GN BN) b_Lis_orderly (Z4 Yd) = true := by decide +kernel
abbrev Xa : Stmt := top 35
def Vq : List Str := ["_law_found", "_law_graph_here", "_law_k", "_law_one", "_law_other"]
theorem Gf : FnScope Vq ["_law_found", "_law_graph_here"] (Z1 Xa) := ⟨rfl, rfl, rfl, by decide +kernel, rfl, by decide +kernel, by decide +kernel⟩
def So : Ss :=
 (.cons (.ret (.bl true))
 .nil)
def Sz : Ss :=
 (.cons (.ite (.cmp .notin (.var 4) (.call 21 (.cons (.ix (.var 1) (.var 3)) .nil))) (.cons (.ret (.bl false))
 .nil) .nil)
 .nil)
def Rb : Ss :=
 (.cons (.for_ [3, 4] (.zip (.cons (.var 0) (.cons (.bin .add (.sl (.var 0) (.yes (.int 1)) .no) (.sl (.var 0) .no (.yes (.int 1)))) .nil))) Sz)
 So)
def Sw : Ss :=
 (.cons (.ite (.bop false (.cons (.not (.call 27 (.cons (.var 2) .nil))) (.cons (.cmp .lt (.var 2) (.int 0)) (.cons (.cmp .ge (.var 2) (.bf .len (.cons (.var 1) .nil))) .nil)))) (.cons (.ret (.bl false))
 .nil) .nil)
 .nil)
def Ra : Ss :=
 (.cons (.for_ [2] (.seq (.var 0)) Sw)
 Rb)
def b_Lis_ring : Ss :=
 (.cons (.ite (.bop false (.cons (.not (.bf .isinst (.cons (.var 0) (.cons (.ty .list) .nil)))) (.cons (.cmp .eq (.bf .len (.cons (.var 0) .nil)) (.int 0)) (.cons (.cmp .ne (.setf false (.var 0)) (.bf .len (.cons (.var 0) .nil))) .nil)))) (.cons (.ret (.bl false))
 .nil) .nil)
 Ra)
theorem Cv : Yl (ck0 Vq Xa FN GN BN) b_Lis_ring (Z4 Xa) = true := by decide +kernel
abbrev X0 : Stmt := top 36
def Wv : List Str := ["_law_found", "_law_graph_here", "_law_around"]
theorem Nu : FnScope Wv ["_law_found", "_law_graph_here", "_law_around"] (Z1 X0) := ⟨rfl, rfl, rfl, by decide +kernel, rfl, by decide +kernel, by decide +kernel⟩
def Tk : Ss :=
 (.cons (.ret (.cmp .eq (.comp ["_law_k", "_law_around"] [none, (some 2)] [0] (.seq (.var 0)) (.yes (.cmp .isin (.var 0) (.var 1))) (.var 0)) (.sl (.var 0) (.yes (.neg (.int 1))) .no)))
 .nil)
def Tl : Ss :=
 (.cons (.ite (.not (.call 26 (.cons (.var 0) (.cons (.var 1) (.cons (.ix (.var 0) (.neg (.int 1))) .nil))))) (.cons (.ret (.bl false))
 .nil) .nil)
 Tk)
def b_Lcomes_to : Ss :=
 (.cons (.ite (.bop false (.cons (.not (.bf .isinst (.cons (.var 0) (.cons (.ty .list) .nil)))) (.cons (.cmp .eq (.bf .len (.cons (.var 0) .nil)) (.int 0)) (.cons (.cmp .notin (.ix (.var 0) (.neg (.int 1))) (.var 2)) .nil)))) (.cons (.ret (.bl false))
 .nil) .nil)
 Tl)
theorem G6 : Yl (ck0 Wv X0 FN GN BN) b_Lcomes_to (Z4 X0) = true := by decide +kernel
abbrev Yz : Stmt := top 37
def Wt : List Str := ["_law_found", "_law_graph_here"]
theorem Jz : FnScope Wt ["_law_found", "_law_graph_here"] (Z1 Yz) := ⟨rfl, rfl, rfl, by decide +kernel, rfl, by decide +kernel, by decide +kernel⟩
def Tm : Ss :=
 (.cons (.ret (.cmp .ne (.ix (.ix (.var 0) (.int 1)) (.neg (.int 1))) (.ix (.ix (.var 0) (.int 2)) (.neg (.int 1)))))
 .nil)
def T7 : Ss :=
 (.cons (.ite (.bop false (.cons (.not (.call 32 (.cons (.ix (.var 0) (.int 1)) (.cons (.var 1) (.cons (.ix (.var 0) (.int 0)) .nil))))) (.cons (.not (.call 32 (.cons (.ix (.var 0) (.int 2)) (.cons (.var 1) (.cons (.ix (.var 0) (.int 0)) .nil))))) .nil))) (.cons (.ret (.bl false))
 .nil) .nil)
 Tm)
def b_Ltwo_ways : Ss :=
 (.cons (.ite (.bop false (.cons (.not (.bf .isinst (.cons (.var 0) (.cons (.ty .tuple) .nil)))) (.cons (.cmp .ne (.bf .len (.cons (.var 0) .nil)) (.int 3)) (.cons (.not (.call 31 (.cons (.ix (.var 0) (.int 0)) (.cons (.var 1) .nil)))) .nil)))) (.cons (.ret (.bl false))
 .nil) .nil)
 T7)
theorem G8 : Yl (ck0 Wt Yz FN GN BN) b_Ltwo_ways (Z4 Yz) = true := by decide +kernel
abbrev Jl : Stmt := top 38
def Zf4 : List Str := ["_law_script", "_law_graph_here", "_law_handed", "_law_truth", "_law_found", "_law_part"]
theorem Y22 : FnScope Zf4 ["_law_script"] (Z1 Jl) := ⟨rfl, rfl, rfl, by decide +kernel, rfl, by decide +kernel, by decide +kernel⟩
def Bt : Ss :=
 (.cons (.ret (.bop true (.cons (.call 33 (.cons (.call 14 (.cons (.var 2) .nil)) (.cons (.var 1) .nil))) (.cons (.cmp .eq (.var 2) (.var 1)) .nil))))
 .nil)
def Z11 : Ss :=
 (.cons (.ite (.cmp .isnot (.call 14 (.cons (.lst (.cons (.tup (.cons (.str "sum") (.cons (.str "x") (.cons (.str "x") (.cons (.str "+") (.cons (.int 1) (.cons (.int 1) .nil))))))) (.cons (.tup (.cons (.str "test") (.cons (.str "x") (.cons (.str "<") (.cons (.int 9) (.cons (.int 0) (.cons (.int 1) .nil))))))) .nil))) .nil)) .non) (.cons (.ret (.bl false))
 .nil) .nil)
 Bt)
def Z64 : Ss :=
 (.cons (.expr (.mt .clear (.var 5) .nil))
 .nil)
def B9 : Ss :=
 (.cons (.for_ [5] (.seq (.var 4)) Z64)
 Z11)
def Z62 : Ss :=
 (.cons (.ite (.not (.call 33 (.cons (.var 4) (.cons (.var 1) .nil)))) (.cons (.ret (.bl false))
 .nil) .nil)
 B9)
def Gh : Ss :=
 (.cons (.ite (.var 3) (.cons (.ret (.bop true (.cons (.cmp .is (.var 4) .non) (.cons (.call 30 (.cons (.var 1) .nil)) .nil))))
 .nil) .nil)
 Z62)
def b_law : Ss :=
 (.cons (.set [1] (.call 24 (.cons (.call 15 (.cons (.var 0) .nil)) (.cons (.int 40) .nil))))
 (.cons (.set [2] (.bf .list1 (.cons (.var 1) .nil)))
 (.cons (.set [3] (.call 12 (.cons (.var 2) .nil)))
 (.cons (.set [4] (.call 14 (.cons (.var 2) .nil)))
 (.cons (.ite (.bop false (.cons (.not (.bf .isinst (.cons (.var 3) (.cons (.ty .bool) .nil)))) (.cons (.cmp .ne (.var 2) (.var 1)) .nil))) (.cons (.ret (.bl false))
 .nil) .nil)
 Gh)))))
theorem Y27 : Yl (ck0 Zf4 Jl FN GN BN) b_law (Z4 Jl) = true := by decide +kernel
set_option genInjectivity false in
structure Adr where
 mk ::
 a_ways : Addr
 d_ways : FuncData
 a_comings : Addr
 d_comings : FuncData
 a_last_above : Addr
 d_last_above : FuncData
 a_last_above_all : Addr
 d_last_above_all : FuncData
 a_musts : Addr
 d_musts : FuncData
 a_stands_above : Addr
 d_stands_above : FuncData
 a_traced : Addr
 d_traced : FuncData
 a_is_onward : Addr
 d_is_onward : FuncData
 a_way_by : Addr
 d_way_by : FuncData
 a_way_round : Addr
 d_way_round : FuncData
 a_ways_back : Addr
 d_ways_back : FuncData
 a_strange_way : Addr
 d_strange_way : FuncData
 a_orderly : Addr
 d_orderly : FuncData
 a_up_to_first : Addr
 d_up_to_first : FuncData
 a_two_ways : Addr
 d_two_ways : FuncData
 a_Ldraws : Addr
 d_Ldraws : FuncData
 a_Lnext : Addr
 d_Lnext : FuncData
 a_Lgreat : Addr
 d_Lgreat : FuncData
 a_Lfar : Addr
 d_Lfar : FuncData
 a_Lnear : Addr
 d_Lnear : FuncData
 a_Lnode : Addr
 d_Lnode : FuncData
 a_Lgoals : Addr
 d_Lgoals : FuncData
 a_Lorder : Addr
 d_Lorder : FuncData
 a_Lgraph : Addr
 d_Lgraph : FuncData
 a_Ldrawn : Addr
 d_Ldrawn : FuncData
 a_Lback : Addr
 d_Lback : FuncData
 a_Lis_way : Addr
 d_Lis_way : FuncData
 a_Lwhole : Addr
 d_Lwhole : FuncData
 a_Labove : Addr
 d_Labove : FuncData
 a_Lis_tree : Addr
 d_Lis_tree : FuncData
 a_Lis_orderly : Addr
 d_Lis_orderly : FuncData
 a_Lis_ring : Addr
 d_Lis_ring : FuncData
 a_Lcomes_to : Addr
 d_Lcomes_to : FuncData
 a_Ltwo_ways : Addr
 d_Ltwo_ways : FuncData
 a_law : Addr
 d_law : FuncData
structure Tx (K : PySem.W.Frag) (mg : Str → Option Value) (t : Adr) : Prop where
 mk ::
 F_ways : Fun K "ways" "ways" R6 t.a_ways t.d_ways
 g_ways : mg "ways" = some (.ref t.a_ways)
 k_ways : PySem.W.keepIn K (.ref t.a_ways) = true
 b_ways : Ya K t.d_ways ["node"] []
 F_comings : Fun K "comings" "comings" Xg t.a_comings t.d_comings
 g_comings : mg "comings" = some (.ref t.a_comings)
 k_comings : PySem.W.keepIn K (.ref t.a_comings) = true
 b_comings : Ya K t.d_comings ["graph"] []
 F_last_above : Fun K "last_above" "last_above" Yr t.a_last_above t.d_last_above
 g_last_above : mg "last_above" = some (.ref t.a_last_above)
 k_last_above : PySem.W.keepIn K (.ref t.a_last_above) = true
 b_last_above : Ya K t.d_last_above ["told", "one", "other"] []
 F_last_above_all : Fun K "last_above_all" "last_above_all" Zv t.a_last_above_all t.d_last_above_all
 g_last_above_all : mg "last_above_all" = some (.ref t.a_last_above_all)
 k_last_above_all : PySem.W.keepIn K (.ref t.a_last_above_all) = true
 b_last_above_all : Ya K t.d_last_above_all ["told", "places"] []
 F_musts : Fun K "musts" "musts" V8 t.a_musts t.d_musts
 g_musts : mg "musts" = some (.ref t.a_musts)
 k_musts : PySem.W.keepIn K (.ref t.a_musts) = true
 b_musts : Ya K t.d_musts ["graph"] []
 F_stands_above : Fun K "stands_above" "stands_above" Y8 t.a_stands_above t.d_stands_above
 g_stands_above : mg "stands_above" = some (.ref t.a_stands_above)
 k_stands_above : PySem.W.keepIn K (.ref t.a_stands_above) = true
 b_stands_above : Ya K t.d_stands_above ["musts", "one", "other"] []
 F_traced : Fun K "traced" "traced" Wh t.a_traced t.d_traced
 g_traced : mg "traced" = some (.ref t.a_traced)
 k_traced : PySem.W.keepIn K (.ref t.a_traced) = true
 b_traced : Ya K t.d_traced ["befores", "last"] []
 F_is_onward : Fun K "is_onward" "is_onward" Yx t.a_is_onward t.d_is_onward
 g_is_onward : mg "is_onward" = some (.ref t.a_is_onward)
 k_is_onward : PySem.W.keepIn K (.ref t.a_is_onward) = true
 b_is_onward : Ya K t.d_is_onward ["place", "goal"] []
 F_way_by : Fun K "way_by" "way_by" Wl t.a_way_by t.d_way_by
 g_way_by : mg "way_by" = some (.ref t.a_way_by)
 k_way_by : PySem.W.keepIn K (.ref t.a_way_by) = true
 b_way_by : Ya K t.d_way_by ["graph", "begin", "last", "allowed"] []
 F_way_round : Fun K "way_round" "way_round" Xw t.a_way_round t.d_way_round
 g_way_round : mg "way_round" = some (.ref t.a_way_round)
 k_way_round : PySem.W.keepIn K (.ref t.a_way_round) = true
 b_way_round : Ya K t.d_way_round ["graph", "one", "other"] []
 F_ways_back : Fun K "ways_back" "ways_back" Yy t.a_ways_back t.d_ways_back
 g_ways_back : mg "ways_back" = some (.ref t.a_ways_back)
 k_ways_back : PySem.W.keepIn K (.ref t.a_ways_back) = true
 b_ways_back : Ya K t.d_ways_back ["graph"] []
 F_strange_way : Fun K "strange_way" "strange_way" Yg t.a_strange_way t.d_strange_way
 g_strange_way : mg "strange_way" = some (.ref t.a_strange_way)
 k_strange_way : PySem.W.keepIn K (.ref t.a_strange_way) = true
 b_strange_way : Ya K t.d_strange_way ["graph"] []
 F_orderly : Fun K "orderly" "orderly" Xi t.a_orderly t.d_orderly
 g_orderly : mg "orderly" = some (.ref t.a_orderly)
 k_orderly : PySem.W.keepIn K (.ref t.a_orderly) = true
 b_orderly : Ya K t.d_orderly ["graph"] []
 F_up_to_first : Fun K "up_to_first" "up_to_first" Ye t.a_up_to_first t.d_up_to_first
 g_up_to_first : mg "up_to_first" = some (.ref t.a_up_to_first)
 k_up_to_first : PySem.W.keepIn K (.ref t.a_up_to_first) = true
 b_up_to_first : Ya K t.d_up_to_first ["way", "around"] []
 F_two_ways : Fun K "two_ways" "two_ways" X9 t.a_two_ways t.d_two_ways
 g_two_ways : mg "two_ways" = some (.ref t.a_two_ways)
 k_two_ways : PySem.W.keepIn K (.ref t.a_two_ways) = true
 b_two_ways : Ya K t.d_two_ways ["graph"] []
 F_Ldraws : Fun K "_law_draws" "_law_draws" W5 t.a_Ldraws t.d_Ldraws
 g_Ldraws : mg "_law_draws" = some (.ref t.a_Ldraws)
 k_Ldraws : PySem.W.keepIn K (.ref t.a_Ldraws) = true
 b_Ldraws : Ya K t.d_Ldraws ["_law_script"] []
 F_Lnext : Fun K "_law_next" "_law_next" V4 t.a_Lnext t.d_Lnext
 g_Lnext : mg "_law_next" = some (.ref t.a_Lnext)
 k_Lnext : PySem.W.keepIn K (.ref t.a_Lnext) = true
 b_Lnext : Ya K t.d_Lnext ["_law_drawn_here"] []
 F_Lgreat : Fun K "_law_great" "_law_great" W7 t.a_Lgreat t.d_Lgreat
 g_Lgreat : mg "_law_great" = some (.ref t.a_Lgreat)
 k_Lgreat : PySem.W.keepIn K (.ref t.a_Lgreat) = true
 b_Lgreat : Ya K t.d_Lgreat ["_law_drawn_here"] []
 F_Lfar : Fun K "_law_far" "_law_far" Re t.a_Lfar t.d_Lfar
 g_Lfar : mg "_law_far" = some (.ref t.a_Lfar)
 k_Lfar : PySem.W.keepIn K (.ref t.a_Lfar) = true
 b_Lfar : Ya K t.d_Lfar ["_law_drawn_here", "_law_k", "_law_many", "_law_mode"] []
 F_Lnear : Fun K "_law_near" "_law_near" V5 t.a_Lnear t.d_Lnear
 g_Lnear : mg "_law_near" = some (.ref t.a_Lnear)
 k_Lnear : PySem.W.keepIn K (.ref t.a_Lnear) = true
 b_Lnear : Ya K t.d_Lnear ["_law_drawn_here", "_law_k", "_law_many", "_law_mode"] []
 F_Lnode : Fun K "_law_node" "_law_node" Vb t.a_Lnode t.d_Lnode
 g_Lnode : mg "_law_node" = some (.ref t.a_Lnode)
 k_Lnode : PySem.W.keepIn K (.ref t.a_Lnode) = true
 b_Lnode : Ya K t.d_Lnode ["_law_drawn_here", "_law_k", "_law_many", "_law_mode"] []
 F_Lgoals : Fun K "_law_goals" "_law_goals" Wi t.a_Lgoals t.d_Lgoals
 g_Lgoals : mg "_law_goals" = some (.ref t.a_Lgoals)
 k_Lgoals : PySem.W.keepIn K (.ref t.a_Lgoals) = true
 b_Lgoals : Ya K t.d_Lgoals ["_law_node_here"] []
 F_Lorder : Fun K "_law_order" "_law_order" Wj t.a_Lorder t.d_Lorder
 g_Lorder : mg "_law_order" = some (.ref t.a_Lorder)
 k_Lorder : PySem.W.keepIn K (.ref t.a_Lorder) = true
 b_Lorder : Ya K t.d_Lorder ["_law_raw"] []
 F_Lgraph : Fun K "_law_graph" "_law_graph" Wc t.a_Lgraph t.d_Lgraph
 g_Lgraph : mg "_law_graph" = some (.ref t.a_Lgraph)
 k_Lgraph : PySem.W.keepIn K (.ref t.a_Lgraph) = true
 b_Lgraph : Ya K t.d_Lgraph ["_law_raw"] []
 F_Ldrawn : Fun K "_law_drawn" "_law_drawn" W8 t.a_Ldrawn t.d_Ldrawn
 g_Ldrawn : mg "_law_drawn" = some (.ref t.a_Ldrawn)
 k_Ldrawn : PySem.W.keepIn K (.ref t.a_Ldrawn) = true
 b_Ldrawn : Ya K t.d_Ldrawn ["_law_drawn_here", "_law_most"] []
 F_Lback : Fun K "_law_back" "_law_back" Vl t.a_Lback t.d_Lback
 g_Lback : mg "_law_back" = some (.ref t.a_Lback)
 k_Lback : PySem.W.keepIn K (.ref t.a_Lback) = true
 b_Lback : Ya K t.d_Lback ["_law_graph_here"] []
 F_Lis_way : Fun K "_law_is_way" "_law_is_way" Xh t.a_Lis_way t.d_Lis_way
 g_Lis_way : mg "_law_is_way" = some (.ref t.a_Lis_way)
 k_Lis_way : PySem.W.keepIn K (.ref t.a_Lis_way) = true
 b_Lis_way : Ya K t.d_Lis_way ["_law_found", "_law_graph_here", "_law_last"] []
 F_Lwhole : Fun K "_law_whole" "_law_whole" Wf t.a_Lwhole t.d_Lwhole
 g_Lwhole : mg "_law_whole" = some (.ref t.a_Lwhole)
 k_Lwhole : PySem.W.keepIn K (.ref t.a_Lwhole) = true
 b_Lwhole : Ya K t.d_Lwhole ["_law_found"] []
 F_Labove : Fun K "_law_above" "_law_above" W6 t.a_Labove t.d_Labove
 g_Labove : mg "_law_above" = some (.ref t.a_Labove)
 k_Labove : PySem.W.keepIn K (.ref t.a_Labove) = true
 b_Labove : Ya K t.d_Labove ["_law_tree", "_law_one", "_law_other"] []
 F_Lis_tree : Fun K "_law_is_tree" "_law_is_tree" X7 t.a_Lis_tree t.d_Lis_tree
 g_Lis_tree : mg "_law_is_tree" = some (.ref t.a_Lis_tree)
 k_Lis_tree : PySem.W.keepIn K (.ref t.a_Lis_tree) = true
 b_Lis_tree : Ya K t.d_Lis_tree ["_law_tree", "_law_graph_here"] []
 F_Lis_orderly : Fun K "_law_is_orderly" "_law_is_orderly" Yd t.a_Lis_orderly t.d_Lis_orderly
 g_Lis_orderly : mg "_law_is_orderly" = some (.ref t.a_Lis_orderly)
 k_Lis_orderly : PySem.W.keepIn K (.ref t.a_Lis_orderly) = true
 b_Lis_orderly : Ya K t.d_Lis_orderly ["_law_graph_here"] []
 F_Lis_ring : Fun K "_law_is_ring" "_law_is_ring" Xa t.a_Lis_ring t.d_Lis_ring
 g_Lis_ring : mg "_law_is_ring" = some (.ref t.a_Lis_ring)
 k_Lis_ring : PySem.W.keepIn K (.ref t.a_Lis_ring) = true
 b_Lis_ring : Ya K t.d_Lis_ring ["_law_found", "_law_graph_here"] []
 F_Lcomes_to : Fun K "_law_comes_to" "_law_comes_to" X0 t.a_Lcomes_to t.d_Lcomes_to
 g_Lcomes_to : mg "_law_comes_to" = some (.ref t.a_Lcomes_to)
 k_Lcomes_to : PySem.W.keepIn K (.ref t.a_Lcomes_to) = true
 b_Lcomes_to : Ya K t.d_Lcomes_to ["_law_found", "_law_graph_here", "_law_around"] []
 F_Ltwo_ways : Fun K "_law_two_ways" "_law_two_ways" Yz t.a_Ltwo_ways t.d_Ltwo_ways
 g_Ltwo_ways : mg "_law_two_ways" = some (.ref t.a_Ltwo_ways)
 k_Ltwo_ways : PySem.W.keepIn K (.ref t.a_Ltwo_ways) = true
 b_Ltwo_ways : Ya K t.d_Ltwo_ways ["_law_found", "_law_graph_here"] []
 F_law : Fun K "law" "law" Jl t.a_law t.d_law
 g_law : mg "law" = some (.ref t.a_law)
 k_law : PySem.W.keepIn K (.ref t.a_law) = true
 b_law : Ya K t.d_law ["_law_script"] []
 z_enumerate : mg "enumerate" = none
 z_range : mg "range" = none
 z_len : mg "len" = none
 z_list : mg "list" = none
 z_max : mg "max" = none
 z_min : mg "min" = none
 z_set : mg "set" = none
 z_zip : mg "zip" = none
 z_isinstance : mg "isinstance" = none
 z_bool : mg "bool" = none
 z_int : mg "int" = none
 z_tuple : mg "tuple" = none
theorem ents {K : PySem.W.Frag} {mg : Str → Option Value} {t : Adr} (T : Tx K mg t) : ∀ x ∈ FN, Ent K mg x :=
 all_cons ⟨_, _, _, T.g_ways, T.k_ways, T.b_ways⟩ (all_cons ⟨_, _, _, T.g_comings, T.k_comings, T.b_comings⟩ (all_cons ⟨_, _, _, T.g_last_above, T.k_last_above, T.b_last_above⟩ (all_cons ⟨_, _, _, T.g_last_above_all, T.k_last_above_all, T.b_last_above_all⟩ (all_cons ⟨_, _, _, T.g_musts, T.k_musts, T.b_musts⟩ (all_cons ⟨_, _, _, T.g_stands_above, T.k_stands_above, T.b_stands_above⟩ (all_cons ⟨_, _, _, T.g_traced, T.k_traced, T.b_traced⟩ (all_cons ⟨_, _, _, T.g_is_onward, T.k_is_onward, T.b_is_onward⟩ (all_cons ⟨_, _, _, T.g_way_by, T.k_way_by, T.b_way_by⟩ (all_cons ⟨_, _, _, T.g_way_round, T.k_way_round, T.b_way_round⟩ (all_cons ⟨_, _, _, T.g_ways_back, T.k_ways_back, T.b_ways_back⟩ (all_cons ⟨_, _, _, T.g_strange_way, T.k_strange_way, T.b_strange_way⟩ (all_cons ⟨_, _, _, T.g_orderly, T.k_orderly, T.b_orderly⟩ (all_cons ⟨_, _, _, T.g_up_to_first, T.k_up_to_first, T.b_up_to_first⟩ (all_cons ⟨_, _, _, T.g_two_ways, T.k_two_ways, T.b_two_ways⟩ (all_cons ⟨_, _, _, T.g_Ldraws, T.k_Ldraws, T.b_Ldraws⟩ (all_cons ⟨_, _, _, T.g_Lnext, T.k_Lnext, T.b_Lnext⟩ (all_cons ⟨_, _, _, T.g_Lgreat, T.k_Lgreat, T.b_Lgreat⟩ (all_cons ⟨_, _, _, T.g_Lfar, T.k_Lfar, T.b_Lfar⟩ (all_cons ⟨_, _, _, T.g_Lnear, T.k_Lnear, T.b_Lnear⟩ (all_cons ⟨_, _, _, T.g_Lnode, T.k_Lnode, T.b_Lnode⟩ (all_cons ⟨_, _, _, T.g_Lgoals, T.k_Lgoals, T.b_Lgoals⟩ (all_cons ⟨_, _, _, T.g_Lorder, T.k_Lorder, T.b_Lorder⟩ (all_cons ⟨_, _, _, T.g_Lgraph, T.k_Lgraph, T.b_Lgraph⟩ (all_cons ⟨_, _, _, T.g_Ldrawn, T.k_Ldrawn, T.b_Ldrawn⟩ (all_cons ⟨_, _, _, T.g_Lback, T.k_Lback, T.b_Lback⟩ (all_cons ⟨_, _, _, T.g_Lis_way, T.k_Lis_way, T.b_Lis_way⟩ (all_cons ⟨_, _, _, T.g_Lwhole, T.k_Lwhole, T.b_Lwhole⟩ (all_cons ⟨_, _, _, T.g_Labove, T.k_Labove, T.b_Labove⟩ (all_cons ⟨_, _, _, T.g_Lis_tree, T.k_Lis_tree, T.b_Lis_tree⟩ (all_cons ⟨_, _, _, T.g_Lis_orderly, T.k_Lis_orderly, T.b_Lis_orderly⟩ (all_cons ⟨_, _, _, T.g_Lis_ring, T.k_Lis_ring, T.b_Lis_ring⟩ (all_cons ⟨_, _, _, T.g_Lcomes_to, T.k_Lcomes_to, T.b_Lcomes_to⟩ (all_cons ⟨_, _, _, T.g_Ltwo_ways, T.k_Ltwo_ways, T.b_Ltwo_ways⟩ (all_cons ⟨_, _, _, T.g_law, T.k_law, T.b_law⟩ Bq))))))))))))))))))))))))))))))))))
theorem blts {K : PySem.W.Frag} {mg : Str → Option Value} {t : Adr} (T : Tx K mg t) : ∀ x ∈ BN, mg x = none :=
 all_cons T.z_enumerate (all_cons T.z_range (all_cons T.z_len (all_cons T.z_list (all_cons T.z_max (all_cons T.z_min (all_cons T.z_set (all_cons T.z_zip (all_cons T.z_isinstance (all_cons T.z_bool (all_cons T.z_int (all_cons T.z_tuple Bq)))))))))))
set_option maxHeartbeats 0 in
theorem Y25 {K : PySem.W.Frag} {h : Heap} {mg : Str → Option Value} {f0 f1 f2 f3 f4 f5 f6 f7 f8 f9 f10 f11 f12 f13 f14 f15 f16 f17 f18 f19 f20 f21 f22 f23 f24 f25 f26 f27 f28 f29 f30 f31 f32 f33 f34 : Addr} (X : K.In h) (G : h.Ns mainGlobals mg)
  {od0 an0 od1 an1 od2 an2 od3 an3 od4 an4 od5 an5 od6 an6 od7 an7 od8 an8 od9 an9 od10 an10 od11 an11 od12 an12 od13 an13 od14 an14 od15 an15 od16 an16 od17 an17 od18 an18 od19 an19 od20 an20 od21 an21 od22 an22 od23 an23 od24 an24 od25 an25 od26 an26 od27 an27 od28 an28 od29 an29 od30 an30 od31 an31 od32 an32 od33 an33 od34 an34 : Option Addr} {sl0 sl1 sl2 sl3 sl4 sl5 sl6 sl7 sl8 sl9 sl10 sl11 sl12 sl13 sl14 sl15 sl16 sl17 sl18 sl19 sl20 sl21 sl22 sl23 sl24 sl25 sl26 sl27 sl28 sl29 sl30 sl31 sl32 sl33 sl34 : Array (Option Value)} {oc0 kV0 dc0 pm0 cd0 ct0 oc1 kV1 dc1 pm1 cd1 ct1 oc2 kV2 dc2 pm2 cd2 ct2 oc3 kV3 dc3 pm3 cd3 ct3 oc4 kV4 dc4 pm4 cd4 ct4 oc5 kV5 dc5 pm5 cd5 ct5 oc6 kV6 dc6 pm6 cd6 ct6 oc7 kV7 dc7 pm7 cd7 ct7 oc8 kV8 dc8 pm8 cd8 ct8 oc9 kV9 dc9 pm9 cd9 ct9 oc10 kV10 dc10 pm10 cd10 ct10 oc11 kV11 dc11 pm11 cd11 ct11 oc12 kV12 dc12 pm12 cd12 ct12 oc13 kV13 dc13 pm13 cd13 ct13 oc14 kV14 dc14 pm14 cd14 ct14 oc15 kV15 dc15 pm15 cd15 ct15 oc16 kV16 dc16 pm16 cd16 ct16 oc17 kV17 dc17 pm17 cd17 ct17 oc18 kV18 dc18 pm18 cd18 ct18 oc19 kV19 dc19 pm19 cd19 ct19 oc20 kV20 dc20 pm20 cd20 ct20 oc21 kV21 dc21 pm21 cd21 ct21 oc22 kV22 dc22 pm22 cd22 ct22 oc23 kV23 dc23 pm23 cd23 ct23 oc24 kV24 dc24 pm24 cd24 ct24 oc25 kV25 dc25 pm25 cd25 ct25 oc26 kV26 dc26 pm26 cd26 ct26 oc27 kV27 dc27 pm27 cd27 ct27 oc28 kV28 dc28 pm28 cd28 ct28 oc29 kV29 dc29 pm29 cd29 ct29 oc30 kV30 dc30 pm30 cd30 ct30 oc31 kV31 dc31 pm31 cd31 ct31 oc32 kV32 dc32 pm32 cd32 ct32 oc33 kV33 dc33 pm33 cd33 ct33 oc34 kV34 dc34 pm34 cd34 ct34 : Value}
  (a0 : PySem.W.nsIn K mainGlobals "ways" = some (some (.ref f0))) (l0 : K.lookup f0 = some ⟨oc0, od0, .func (PySem.W.fnOf "ways" "ways" (Zi R6) (Z4 R6) (Z1 R6) .none kV0 dc0 pm0 an0 cd0 ct0), sl0⟩) (c0 : PySem.W.codeIn K cd0 "ways" = true) (k0 : PySem.W.keepIn K (.ref f0) = true)
  (a1 : PySem.W.nsIn K mainGlobals "comings" = some (some (.ref f1))) (l1 : K.lookup f1 = some ⟨oc1, od1, .func (PySem.W.fnOf "comings" "comings" (Zi Xg) (Z4 Xg) (Z1 Xg) .none kV1 dc1 pm1 an1 cd1 ct1), sl1⟩) (c1 : PySem.W.codeIn K cd1 "comings" = true) (k1 : PySem.W.keepIn K (.ref f1) = true)
  (a2 : PySem.W.nsIn K mainGlobals "last_above" = some (some (.ref f2))) (l2 : K.lookup f2 = some ⟨oc2, od2, .func (PySem.W.fnOf "last_above" "last_above" (Zi Yr) (Z4 Yr) (Z1 Yr) .none kV2 dc2 pm2 an2 cd2 ct2), sl2⟩) (c2 : PySem.W.codeIn K cd2 "last_above" = true) (k2 : PySem.W.keepIn K (.ref f2) = true)
  (a3 : PySem.W.nsIn K mainGlobals "last_above_all" = some (some (.ref f3))) (l3 : K.lookup f3 = some ⟨oc3, od3, .func (PySem.W.fnOf "last_above_all" "last_above_all" (Zi Zv) (Z4 Zv) (Z1 Zv) .none kV3 dc3 pm3 an3 cd3 ct3), sl3⟩) (c3 : PySem.W.codeIn K cd3 "last_above_all" = true) (k3 : PySem.W.keepIn K (.ref f3) = true)
  (a4 : PySem.W.nsIn K mainGlobals "musts" = some (some (.ref f4))) (l4 : K.lookup f4 = some ⟨oc4, od4, .func (PySem.W.fnOf "musts" "musts" (Zi V8) (Z4 V8) (Z1 V8) .none kV4 dc4 pm4 an4 cd4 ct4), sl4⟩) (c4 : PySem.W.codeIn K cd4 "musts" = true) (k4 : PySem.W.keepIn K (.ref f4) = true)
  (a5 : PySem.W.nsIn K mainGlobals "stands_above" = some (some (.ref f5))) (l5 : K.lookup f5 = some ⟨oc5, od5, .func (PySem.W.fnOf "stands_above" "stands_above" (Zi Y8) (Z4 Y8) (Z1 Y8) .none kV5 dc5 pm5 an5 cd5 ct5), sl5⟩) (c5 : PySem.W.codeIn K cd5 "stands_above" = true) (k5 : PySem.W.keepIn K (.ref f5) = true)
  (a6 : PySem.W.nsIn K mainGlobals "traced" = some (some (.ref f6))) (l6 : K.lookup f6 = some ⟨oc6, od6, .func (PySem.W.fnOf "traced" "traced" (Zi Wh) (Z4 Wh) (Z1 Wh) .none kV6 dc6 pm6 an6 cd6 ct6), sl6⟩) (c6 : PySem.W.codeIn K cd6 "traced" = true) (k6 : PySem.W.keepIn K (.ref f6) = true)
  (a7 : PySem.W.nsIn K mainGlobals "is_onward" = some (some (.ref f7))) (l7 : K.lookup f7 = some ⟨oc7, od7, .func (PySem.W.fnOf "is_onward" "is_onward" (Zi Yx) (Z4 Yx) (Z1 Yx) .none kV7 dc7 pm7 an7 cd7 ct7), sl7⟩) (c7 : PySem.W.codeIn K cd7 "is_onward" = true) (k7 : PySem.W.keepIn K (.ref f7) = true)
  (a8 : PySem.W.nsIn K mainGlobals "way_by" = some (some (.ref f8))) (l8 : K.lookup f8 = some ⟨oc8, od8, .func (PySem.W.fnOf "way_by" "way_by" (Zi Wl) (Z4 Wl) (Z1 Wl) .none kV8 dc8 pm8 an8 cd8 ct8), sl8⟩) (c8 : PySem.W.codeIn K cd8 "way_by" = true) (k8 : PySem.W.keepIn K (.ref f8) = true)
  (a9 : PySem.W.nsIn K mainGlobals "way_round" = some (some (.ref f9))) (l9 : K.lookup f9 = some ⟨oc9, od9, .func (PySem.W.fnOf "way_round" "way_round" (Zi Xw) (Z4 Xw) (Z1 Xw) .none kV9 dc9 pm9 an9 cd9 ct9), sl9⟩) (c9 : PySem.W.codeIn K cd9 "way_round" = true) (k9 : PySem.W.keepIn K (.ref f9) = true)
  (a10 : PySem.W.nsIn K mainGlobals "ways_back" = some (some (.ref f10))) (l10 : K.lookup f10 = some ⟨oc10, od10, .func (PySem.W.fnOf "ways_back" "ways_back" (Zi Yy) (Z4 Yy) (Z1 Yy) .none kV10 dc10 pm10 an10 cd10 ct10), sl10⟩) (c10 : PySem.W.codeIn K cd10 "ways_back" = true) (k10 : PySem.W.keepIn K (.ref f10) = true)
  (a11 : PySem.W.nsIn K mainGlobals "strange_way" = some (some (.ref f11))) (l11 : K.lookup f11 = some ⟨oc11, od11, .func (PySem.W.fnOf "strange_way" "strange_way" (Zi Yg) (Z4 Yg) (Z1 Yg) .none kV11 dc11 pm11 an11 cd11 ct11), sl11⟩) (c11 : PySem.W.codeIn K cd11 "strange_way" = true) (k11 : PySem.W.keepIn K (.ref f11) = true)
  (a12 : PySem.W.nsIn K mainGlobals "orderly" = some (some (.ref f12))) (l12 : K.lookup f12 = some ⟨oc12, od12, .func (PySem.W.fnOf "orderly" "orderly" (Zi Xi) (Z4 Xi) (Z1 Xi) .none kV12 dc12 pm12 an12 cd12 ct12), sl12⟩) (c12 : PySem.W.codeIn K cd12 "orderly" = true) (k12 : PySem.W.keepIn K (.ref f12) = true)
  (a13 : PySem.W.nsIn K mainGlobals "up_to_first" = some (some (.ref f13))) (l13 : K.lookup f13 = some ⟨oc13, od13, .func (PySem.W.fnOf "up_to_first" "up_to_first" (Zi Ye) (Z4 Ye) (Z1 Ye) .none kV13 dc13 pm13 an13 cd13 ct13), sl13⟩) (c13 : PySem.W.codeIn K cd13 "up_to_first" = true) (k13 : PySem.W.keepIn K (.ref f13) = true)
  (a14 : PySem.W.nsIn K mainGlobals "two_ways" = some (some (.ref f14))) (l14 : K.lookup f14 = some ⟨oc14, od14, .func (PySem.W.fnOf "two_ways" "two_ways" (Zi X9) (Z4 X9) (Z1 X9) .none kV14 dc14 pm14 an14 cd14 ct14), sl14⟩) (c14 : PySem.W.codeIn K cd14 "two_ways" = true) (k14 : PySem.W.keepIn K (.ref f14) = true)
  (a15 : PySem.W.nsIn K mainGlobals "_law_draws" = some (some (.ref f15))) (l15 : K.lookup f15 = some ⟨oc15, od15, .func (PySem.W.fnOf "_law_draws" "_law_draws" (Zi W5) (Z4 W5) (Z1 W5) .none kV15 dc15 pm15 an15 cd15 ct15), sl15⟩) (c15 : PySem.W.codeIn K cd15 "_law_draws" = true) (k15 : PySem.W.keepIn K (.ref f15) = true)
  (a16 : PySem.W.nsIn K mainGlobals "_law_next" = some (some (.ref f16))) (l16 : K.lookup f16 = some ⟨oc16, od16, .func (PySem.W.fnOf "_law_next" "_law_next" (Zi V4) (Z4 V4) (Z1 V4) .none kV16 dc16 pm16 an16 cd16 ct16), sl16⟩) (c16 : PySem.W.codeIn K cd16 "_law_next" = true) (k16 : PySem.W.keepIn K (.ref f16) = true)
  (a17 : PySem.W.nsIn K mainGlobals "_law_great" = some (some (.ref f17))) (l17 : K.lookup f17 = some ⟨oc17, od17, .func (PySem.W.fnOf "_law_great" "_law_great" (Zi W7) (Z4 W7) (Z1 W7) .none kV17 dc17 pm17 an17 cd17 ct17), sl17⟩) (c17 : PySem.W.codeIn K cd17 "_law_great" = true) (k17 : PySem.W.keepIn K (.ref f17) = true)
  (a18 : PySem.W.nsIn K mainGlobals "_law_far" = some (some (.ref f18))) (l18 : K.lookup f18 = some ⟨oc18, od18, .func (PySem.W.fnOf "_law_far" "_law_far" (Zi Re) (Z4 Re) (Z1 Re) .none kV18 dc18 pm18 an18 cd18 ct18), sl18⟩) (c18 : PySem.W.codeIn K cd18 "_law_far" = true) (k18 : PySem.W.keepIn K (.ref f18) = true)
  (a19 : PySem.W.nsIn K mainGlobals "_law_near" = some (some (.ref f19))) (l19 : K.lookup f19 = some ⟨oc19, od19, .func (PySem.W.fnOf "_law_near" "_law_near" (Zi V5) (Z4 V5) (Z1 V5) .none kV19 dc19 pm19 an19 cd19 ct19), sl19⟩) (c19 : PySem.W.codeIn K cd19 "_law_near" = true) (k19 : PySem.W.keepIn K (.ref f19) = true)
  (a20 : PySem.W.nsIn K mainGlobals "_law_node" = some (some (.ref f20))) (l20 : K.lookup f20 = some ⟨oc20, od20, .func (PySem.W.fnOf "_law_node" "_law_node" (Zi Vb) (Z4 Vb) (Z1 Vb) .none kV20 dc20 pm20 an20 cd20 ct20), sl20⟩) (c20 : PySem.W.codeIn K cd20 "_law_node" = true) (k20 : PySem.W.keepIn K (.ref f20) = true)
  (a21 : PySem.W.nsIn K mainGlobals "_law_goals" = some (some (.ref f21))) (l21 : K.lookup f21 = some ⟨oc21, od21, .func (PySem.W.fnOf "_law_goals" "_law_goals" (Zi Wi) (Z4 Wi) (Z1 Wi) .none kV21 dc21 pm21 an21 cd21 ct21), sl21⟩) (c21 : PySem.W.codeIn K cd21 "_law_goals" = true) (k21 : PySem.W.keepIn K (.ref f21) = true)
  (a22 : PySem.W.nsIn K mainGlobals "_law_order" = some (some (.ref f22))) (l22 : K.lookup f22 = some ⟨oc22, od22, .func (PySem.W.fnOf "_law_order" "_law_order" (Zi Wj) (Z4 Wj) (Z1 Wj) .none kV22 dc22 pm22 an22 cd22 ct22), sl22⟩) (c22 : PySem.W.codeIn K cd22 "_law_order" = true) (k22 : PySem.W.keepIn K (.ref f22) = true)
  (a23 : PySem.W.nsIn K mainGlobals "_law_graph" = some (some (.ref f23))) (l23 : K.lookup f23 = some ⟨oc23, od23, .func (PySem.W.fnOf "_law_graph" "_law_graph" (Zi Wc) (Z4 Wc) (Z1 Wc) .none kV23 dc23 pm23 an23 cd23 ct23), sl23⟩) (c23 : PySem.W.codeIn K cd23 "_law_graph" = true) (k23 : PySem.W.keepIn K (.ref f23) = true)
  (a24 : PySem.W.nsIn K mainGlobals "_law_drawn" = some (some (.ref f24))) (l24 : K.lookup f24 = some ⟨oc24, od24, .func (PySem.W.fnOf "_law_drawn" "_law_drawn" (Zi W8) (Z4 W8) (Z1 W8) .none kV24 dc24 pm24 an24 cd24 ct24), sl24⟩) (c24 : PySem.W.codeIn K cd24 "_law_drawn" = true) (k24 : PySem.W.keepIn K (.ref f24) = true)
  (a25 : PySem.W.nsIn K mainGlobals "_law_back" = some (some (.ref f25))) (l25 : K.lookup f25 = some ⟨oc25, od25, .func (PySem.W.fnOf "_law_back" "_law_back" (Zi Vl) (Z4 Vl) (Z1 Vl) .none kV25 dc25 pm25 an25 cd25 ct25), sl25⟩) (c25 : PySem.W.codeIn K cd25 "_law_back" = true) (k25 : PySem.W.keepIn K (.ref f25) = true)
  (a26 : PySem.W.nsIn K mainGlobals "_law_is_way" = some (some (.ref f26))) (l26 : K.lookup f26 = some ⟨oc26, od26, .func (PySem.W.fnOf "_law_is_way" "_law_is_way" (Zi Xh) (Z4 Xh) (Z1 Xh) .none kV26 dc26 pm26 an26 cd26 ct26), sl26⟩) (c26 : PySem.W.codeIn K cd26 "_law_is_way" = true) (k26 : PySem.W.keepIn K (.ref f26) = true)
  (a27 : PySem.W.nsIn K mainGlobals "_law_whole" = some (some (.ref f27))) (l27 : K.lookup f27 = some ⟨oc27, od27, .func (PySem.W.fnOf "_law_whole" "_law_whole" (Zi Wf) (Z4 Wf) (Z1 Wf) .none kV27 dc27 pm27 an27 cd27 ct27), sl27⟩) (c27 : PySem.W.codeIn K cd27 "_law_whole" = true) (k27 : PySem.W.keepIn K (.ref f27) = true)
  (a28 : PySem.W.nsIn K mainGlobals "_law_above" = some (some (.ref f28))) (l28 : K.lookup f28 = some ⟨oc28, od28, .func (PySem.W.fnOf "_law_above" "_law_above" (Zi W6) (Z4 W6) (Z1 W6) .none kV28 dc28 pm28 an28 cd28 ct28), sl28⟩) (c28 : PySem.W.codeIn K cd28 "_law_above" = true) (k28 : PySem.W.keepIn K (.ref f28) = true)
  (a29 : PySem.W.nsIn K mainGlobals "_law_is_tree" = some (some (.ref f29))) (l29 : K.lookup f29 = some ⟨oc29, od29, .func (PySem.W.fnOf "_law_is_tree" "_law_is_tree" (Zi X7) (Z4 X7) (Z1 X7) .none kV29 dc29 pm29 an29 cd29 ct29), sl29⟩) (c29 : PySem.W.codeIn K cd29 "_law_is_tree" = true) (k29 : PySem.W.keepIn K (.ref f29) = true)
  (a30 : PySem.W.nsIn K mainGlobals "_law_is_orderly" = some (some (.ref f30))) (l30 : K.lookup f30 = some ⟨oc30, od30, .func (PySem.W.fnOf "_law_is_orderly" "_law_is_orderly" (Zi Yd) (Z4 Yd) (Z1 Yd) .none kV30 dc30 pm30 an30 cd30 ct30), sl30⟩) (c30 : PySem.W.codeIn K cd30 "_law_is_orderly" = true) (k30 : PySem.W.keepIn K (.ref f30) = true)
  (a31 : PySem.W.nsIn K mainGlobals "_law_is_ring" = some (some (.ref f31))) (l31 : K.lookup f31 = some ⟨oc31, od31, .func (PySem.W.fnOf "_law_is_ring" "_law_is_ring" (Zi Xa) (Z4 Xa) (Z1 Xa) .none kV31 dc31 pm31 an31 cd31 ct31), sl31⟩) (c31 : PySem.W.codeIn K cd31 "_law_is_ring" = true) (k31 : PySem.W.keepIn K (.ref f31) = true)
  (a32 : PySem.W.nsIn K mainGlobals "_law_comes_to" = some (some (.ref f32))) (l32 : K.lookup f32 = some ⟨oc32, od32, .func (PySem.W.fnOf "_law_comes_to" "_law_comes_to" (Zi X0) (Z4 X0) (Z1 X0) .none kV32 dc32 pm32 an32 cd32 ct32), sl32⟩) (c32 : PySem.W.codeIn K cd32 "_law_comes_to" = true) (k32 : PySem.W.keepIn K (.ref f32) = true)
  (a33 : PySem.W.nsIn K mainGlobals "_law_two_ways" = some (some (.ref f33))) (l33 : K.lookup f33 = some ⟨oc33, od33, .func (PySem.W.fnOf "_law_two_ways" "_law_two_ways" (Zi Yz) (Z4 Yz) (Z1 Yz) .none kV33 dc33 pm33 an33 cd33 ct33), sl33⟩) (c33 : PySem.W.codeIn K cd33 "_law_two_ways" = true) (k33 : PySem.W.keepIn K (.ref f33) = true)
  (a34 : PySem.W.nsIn K mainGlobals "law" = some (some (.ref f34))) (l34 : K.lookup f34 = some ⟨oc34, od34, .func (PySem.W.fnOf "law" "law" (Zi Jl) (Z4 Jl) (Z1 Jl) .none kV34 dc34 pm34 an34 cd34 ct34), sl34⟩) (c34 : PySem.W.codeIn K cd34 "law" = true) (k34 : PySem.W.keepIn K (.ref f34) = true)
  (z0 : PySem.W.nsIn K mainGlobals "enumerate" = some none) (z1 : PySem.W.nsIn K mainGlobals "range" = some none) (z2 : PySem.W.nsIn K mainGlobals "len" = some none) (z3 : PySem.W.nsIn K mainGlobals "list" = some none) (z4 : PySem.W.nsIn K mainGlobals "max" = some none) (z5 : PySem.W.nsIn K mainGlobals "min" = some none) (z6 : PySem.W.nsIn K mainGlobals "set" = some none) (z7 : PySem.W.nsIn K mainGlobals "zip" = some none) (z8 : PySem.W.nsIn K mainGlobals "isinstance" = some none) (z9 : PySem.W.nsIn K mainGlobals "bool" = some none) (z10 : PySem.W.nsIn K mainGlobals "int" = some none) (z11 : PySem.W.nsIn K mainGlobals "tuple" = some none)
  : ∃ t : Adr, Tx K mg t ∧ t.a_law = f34 ∧ ∀ (s : Shared) (v : Value), BindsTo s t.d_law ⟨[v], []⟩ [("_law_script", v)] := by
 have F0 := Y1 (st := R6) l0 c0 k0
 have F1 := Y1 (st := Xg) l1 c1 k1
 have F2 := Y1 (st := Yr) l2 c2 k2
 have F3 := Y1 (st := Zv) l3 c3 k3
 have F4 := Y1 (st := V8) l4 c4 k4
 have F5 := Y1 (st := Y8) l5 c5 k5
 have F6 := Y1 (st := Wh) l6 c6 k6
 have F7 := Y1 (st := Yx) l7 c7 k7
 have F8 := Y1 (st := Wl) l8 c8 k8
 have F9 := Y1 (st := Xw) l9 c9 k9
 have F10 := Y1 (st := Yy) l10 c10 k10
 have F11 := Y1 (st := Yg) l11 c11 k11
 have F12 := Y1 (st := Xi) l12 c12 k12
 have F13 := Y1 (st := Ye) l13 c13 k13
 have F14 := Y1 (st := X9) l14 c14 k14
 have F15 := Y1 (st := W5) l15 c15 k15
 have F16 := Y1 (st := V4) l16 c16 k16
 have F17 := Y1 (st := W7) l17 c17 k17
 have F18 := Y1 (st := Re) l18 c18 k18
 have F19 := Y1 (st := V5) l19 c19 k19
 have F20 := Y1 (st := Vb) l20 c20 k20
 have F21 := Y1 (st := Wi) l21 c21 k21
 have F22 := Y1 (st := Wj) l22 c22 k22
 have F23 := Y1 (st := Wc) l23 c23 k23
 have F24 := Y1 (st := W8) l24 c24 k24
 have F25 := Y1 (st := Vl) l25 c25 k25
 have F26 := Y1 (st := Xh) l26 c26 k26
 have F27 := Y1 (st := Wf) l27 c27 k27
 have F28 := Y1 (st := W6) l28 c28 k28
 have F29 := Y1 (st := X7) l29 c29 k29
 have F30 := Y1 (st := Yd) l30 c30 k30
 have F31 := Y1 (st := Xa) l31 c31 k31
 have F32 := Y1 (st := X0) l32 c32 k32
 have F33 := Y1 (st := Yz) l33 c33 k33
 have F34 := Y1 (st := Jl) l34 c34 k34
 exact ⟨⟨f0, _, f1, _, f2, _, f3, _, f4, _, f5, _, f6, _, f7, _, f8, _, f9, _, f10, _, f11, _, f12, _, f13, _, f14, _, f15, _, f16, _, f17, _, f18, _, f19, _, f20, _, f21, _, f22, _, f23, _, f24, _, f25, _, f26, _, f27, _, f28, _, f29, _, f30, _, f31, _, f32, _, f33, _, f34, _⟩, ⟨F0, PySem.W.mg_of X G a0, k0, .all (Xd (fun _ => rfl)),
  F1, PySem.W.mg_of X G a1, k1, .all (Xd (fun _ => rfl)),
  F2, PySem.W.mg_of X G a2, k2, .all (Qd (fun _ _ _ => rfl)),
  F3, PySem.W.mg_of X G a3, k3, .all (S4 (fun _ _ => rfl)),
  F4, PySem.W.mg_of X G a4, k4, .all (Xd (fun _ => rfl)),
  F5, PySem.W.mg_of X G a5, k5, .all (Qd (fun _ _ _ => rfl)),
  F6, PySem.W.mg_of X G a6, k6, .all (S4 (fun _ _ => rfl)),
  F7, PySem.W.mg_of X G a7, k7, .all (S4 (fun _ _ => rfl)),
  F8, PySem.W.mg_of X G a8, k8, .all (E2 (fun _ _ _ _ => rfl)),
  F9, PySem.W.mg_of X G a9, k9, .all (Qd (fun _ _ _ => rfl)),
  F10, PySem.W.mg_of X G a10, k10, .all (Xd (fun _ => rfl)),
  F11, PySem.W.mg_of X G a11, k11, .all (Xd (fun _ => rfl)),
  F12, PySem.W.mg_of X G a12, k12, .all (Xd (fun _ => rfl)),
  F13, PySem.W.mg_of X G a13, k13, .all (S4 (fun _ _ => rfl)),
  F14, PySem.W.mg_of X G a14, k14, .all (Xd (fun _ => rfl)),
  F15, PySem.W.mg_of X G a15, k15, .all (Xd (fun _ => rfl)),
  F16, PySem.W.mg_of X G a16, k16, .all (Xd (fun _ => rfl)),
  F17, PySem.W.mg_of X G a17, k17, .all (Xd (fun _ => rfl)),
  F18, PySem.W.mg_of X G a18, k18, .all (E2 (fun _ _ _ _ => rfl)),
  F19, PySem.W.mg_of X G a19, k19, .all (E2 (fun _ _ _ _ => rfl)),
  F20, PySem.W.mg_of X G a20, k20, .all (E2 (fun _ _ _ _ => rfl)),
  F21, PySem.W.mg_of X G a21, k21, .all (Xd (fun _ => rfl)),
  F22, PySem.W.mg_of X G a22, k22, .all (Xd (fun _ => rfl)),
  F23, PySem.W.mg_of X G a23, k23, .all (Xd (fun _ => rfl)),
  F24, PySem.W.mg_of X G a24, k24, .all (S4 (fun _ _ => rfl)),
  F25, PySem.W.mg_of X G a25, k25, .all (Xd (fun _ => rfl)),
  F26, PySem.W.mg_of X G a26, k26, .all (Qd (fun _ _ _ => rfl)),
  F27, PySem.W.mg_of X G a27, k27, .all (Xd (fun _ => rfl)),
  F28, PySem.W.mg_of X G a28, k28, .all (Qd (fun _ _ _ => rfl)),
  F29, PySem.W.mg_of X G a29, k29, .all (S4 (fun _ _ => rfl)),
  F30, PySem.W.mg_of X G a30, k30, .all (Xd (fun _ => rfl)),
  F31, PySem.W.mg_of X G a31, k31, .all (S4 (fun _ _ => rfl)),
  F32, PySem.W.mg_of X G a32, k32, .all (Qd (fun _ _ _ => rfl)),
  F33, PySem.W.mg_of X G a33, k33, .all (S4 (fun _ _ => rfl)),
  F34, PySem.W.mg_of X G a34, k34, .all (Xd (fun _ => rfl)),
  PySem.W.mg_none_of X G z0,
  PySem.W.mg_none_of X G z1,
  PySem.W.mg_none_of X G z2,
  PySem.W.mg_none_of X G z3,
  PySem.W.mg_none_of X G z4,
  PySem.W.mg_none_of X G z5,
  PySem.W.mg_none_of X G z6,
  PySem.W.mg_none_of X G z7,
  PySem.W.mg_none_of X G z8,
  PySem.W.mg_none_of X G z9,
  PySem.W.mg_none_of X G z10,
  PySem.W.mg_none_of X G z11⟩, rfl, fun s v => .of_eq rfl⟩
set_option hygiene false
local macro_rules | `(tactic| walk_at "ev") => do
 let ids := ("tss ts te tes teo tit tcd tbop tt op_add_i op_add_s op_add_t op_add_l op_sub_i op_mul_i op_mul_l op_fdiv_i op_mod_i op_pow_i cm_lt_i cm_le_i cm_gt_i cm_ge_i cm_eq cm_ne cm_in cm_notin cm_is_n cm_is_i cm_is_s cm_is_b cm_is_t cm_is_r cm_isnot_n cm_isnot_i cm_isnot_s cm_isnot_b cm_isnot_t cm_isnot_r eq_i eq_s eq_b eq_nn eq_is eq_si tru_b tru_i tru_n tru_t ix_t ix_g ix_s sl_s sl_t sl_l is_non is_bl is_int is_str is_tup tyNon tyBl tyInt tyStr tyTup tyLst tyDct bf_len_t bf_len_s bf_is bf_min bf_max bf_list on_ref set_f at2_xy mt_append_r mt_get2_r mt_pop_r mt_clear_r mt_reverse_r mt_index_r mk_append mk_pop mk_clear mk_reverse mk_get2 mk_index tg_one tg_two it_r it_t it_g key_i key_s in_ss start0 List.map_cons List.map_nil List.length_cons List.length_nil List.cons_append List.nil_append List.append_nil List.replicate List.set_cons_zero List.set_cons_succ List.getElem?_cons_zero List.getElem?_cons_succ Nat.reduceAdd Nat.reduceSub Nat.sub_self Nat.zero_add decide_eq_true_eq ne_eq Int.reduceEq not_false_eq_true true_and Bool.not_eq_true' decide_eq_false_iff_not Bool.false_eq_true if_true if_false Bool.not_true Bool.not_false".splitOn " ").toArray.map fun s => Lean.mkIdent s.toName
 `(tactic| simp only [$[$ids:ident],*])
def Kp (M M' : Z3) : Prop := ∃ N, M' = M ++ N
theorem Kp.refl (M : Z3) : Kp M M := ⟨[], (List.append_nil M).symm⟩
theorem Kp.app {M M' : Z3} (h : Kp M M') (N : Z3) : Kp M (M' ++ N) := by obtain ⟨L, rfl⟩ := h; exact ⟨L ++ N, by rw [List.append_assoc]⟩
theorem Kp.trans {M M' M2 : Z3} (h : Kp M M') (g : Kp M' M2) : Kp M M2 := by obtain ⟨L, rfl⟩ := h; obtain ⟨L2, rfl⟩ := g; exact ⟨L ++ L2, by rw [List.append_assoc]⟩
theorem Kp.new (M N : Z3) : Kp M (M ++ N) := ⟨N, rfl⟩
theorem Kp.L {M M' : Z3} {a : Nat} {xs : List D} (h : Kp M M') (e : Z6 M a = some xs) : Z6 M' a = some xs := by obtain ⟨L, rfl⟩ := h; exact Z5 e
theorem Kp.W {M M' : Z3} {a : Nat} {xs : List D} (h : Kp M M') (e : Zc M a = some xs) : Zc M' a = some xs := by obtain ⟨L, rfl⟩ := h; exact Y3 e
theorem qm {i j : Int} (h : 0 < j) : qmod i j = i % j := Zh2 h
theorem qd {i j : Int} (h : 0 < j) : qdiv i j = i / j := Zd6 h
theorem Zz0 {xs : List D} {i : Int} {d : D} (h0 : 0 ≤ i) (h : xs[i.toNat]? = some d) : atI xs i = some d := by
 have := G9 h
 rwa [Int.toNat_of_nonneg h0] at this
theorem Zp3 {xs : List D} {i : Int} (h0 : 0 ≤ i) (h : i < xs.length) : ∃ d, atI xs i = some d ∧ d ∈ xs := by
 have hl : i.toNat < xs.length := by omega
 exact ⟨xs[i.toNat], Zz0 h0 (List.getElem?_eq_getElem hl), List.getElem_mem hl⟩
inductive Opd where
 | nm (x : Str) | no (i : Int)
def Opd.d : Opd → D
 | .nm x => .str x
 | .no i => .int i
inductive Nd where
 | sum (x : Str) (a : Opd) (sg : Str) (b : Opd) (t : Nat) | test (a : Opd) (sg : Str) (b : Opd) (y n : Nat) | fin | spin
def Nd.d : Nd → D
 | .sum x a sg b t => .tup [.str "sum", .str x, a.d, .str sg, b.d, .int t]
 | .test a sg b y n => .tup [.str "test", a.d, .str sg, b.d, .int y, .int n]
 | .fin => .tup [.str "end"]
 | .spin => .tup [.str "spin"]
def Opd.ok : Opd → Bool
 | .nm x => PyData.canLay0 (.str x)
 | .no _ => true
def Nd.ok : Nd → Bool
 | .sum x a sg b _ => PyData.canLay0 (.str x) && a.ok && PyData.canLay0 (.str sg) && b.ok
 | .test a sg b _ _ => a.ok && PyData.canLay0 (.str sg) && b.ok
 | .fin => true
 | .spin => true
def Nd.gs : Nd → List Nat
 | .sum _ _ _ _ t => [t]
 | .test _ _ _ y n => [n, y]
 | .fin => []
 | .spin => []
def Nd.to (f : Nat → Nat) : Nd → Nd
 | .sum x a sg b t => .sum x a sg b (f t)
 | .test a sg b y n => .test a sg b (f y) (f n)
 | .fin => .fin
 | .spin => .spin
theorem Nd.gs_to (f : Nat → Nat) (d : Nd) : (d.to f).gs = d.gs.map f := by cases d <;> rfl
theorem Nd.ok_to (f : Nat → Nat) (d : Nd) : (d.to f).ok = d.ok := by cases d <;> rfl
theorem Nd.gs_two (d : Nd) : d.gs.length ≤ 2 := by cases d <;> simp [Nd.gs]
def natD (l : List Nat) : List D := l.map fun (x : Nat) => D.int (x : Int)
theorem Z8 (l : List Nat) : (natD l).length = l.length := by unfold natD; simp
theorem Zp {l : List Nat} {k x : Nat} (h : l[k]? = some x) : (natD l)[k]? = some (.int x) := by unfold natD; rw [List.getElem?_map, h]; rfl
theorem E7 (l m : List Nat) : natD (l ++ m) = natD l ++ natD m := by unfold natD; rw [List.map_append]
theorem Nh (l : List Nat) : (natD l).all Xr = true := by
 rw [List.all_eq_true]
 intro d h
 unfold natD at h
 obtain ⟨x, _, rfl⟩ := List.mem_map.mp h
 rfl
theorem Zr2 (x : Nat) (l : List Nat) : inD (.int x) (natD l) = decide (x ∈ l) := by
 unfold inD natD
 rw [List.any_map]
 induction l with
 | nil => rfl
 | cons y r ih =>
  rw [List.any_cons, ih]
  show (((y : Int) == (x : Int)) || decide (x ∈ r)) = decide (x ∈ y :: r)
  by_cases h : x = y
  ·subst h; simp
  ·have h' : ¬ (y : Int) = (x : Int) := by omega
   simp [h, h']
theorem Q2 {M : Z3} {a x : Nat} {l : List Nat} {B : Bool → Prop} (h : Z6 M a = some (natD l)) (q : B (decide (x ∈ l))) : inQ M (.int x) (.ref a) B :=
 .inl ⟨_, h, rfl, Nh l, by rw [Zr2]; exact q⟩
def wy (gr : List Nd) (k : Nat) : List Nat := match gr[k]? with
 | some d => d.gs
 | none => []
theorem Q9 {gr : List Nd} {k : Nat} {d : Nd} (h : gr[k]? = some d) : wy gr k = d.gs := by unfold wy; rw [h]
theorem T8 {gr : List Nd} {k : Nat} {d : Nd} (h : gr[k]? = some d) : (gr.map Nd.d)[k]? = some d.d := by rw [List.getElem?_map, h]; rfl
def Yh : DSp := fun ds M Q _ => ∃ d : Nd, ds = [d.d] ∧ Q (.ref M.length) (M ++ [.lst (natD d.gs)])
def X6 : DSp := fun ds M Q _ => ∃ (a : Nat) (raw : List Nd), ds = [.ref a] ∧ Z6 M a = some (raw.map Nd.d) ∧ 0 < raw.length ∧ raw.length ≤ 1000 ∧ (∀ d ∈ raw, ∀ t ∈ d.gs, t < raw.length) ∧
 ∀ O M' r, GT.Ord (wy raw) raw.length O → ND.Ends (wy raw) 0 O.reverse → Kp M M' → Zc M' r = some (natD O) → M.length ≤ r → Q (.ref r) M'
def Xc : DSp := fun ds M Q _ => ∃ (a : Nat) (raw : List Nd), ds = [.ref a] ∧ Z6 M a = some (raw.map Nd.d) ∧ 0 < raw.length ∧ raw.length ≤ 1000 ∧ (∀ d ∈ raw, ∀ t ∈ d.gs, t < raw.length) ∧ (∀ d ∈ raw, d.ok = true) ∧
 ∀ (gr : List Nd) M' r, GT.Num (wy gr) gr.length → ND.Ends (wy gr) 0 (List.range gr.length).reverse → gr.length ≤ raw.length → (∀ d ∈ gr, d.ok = true) → Kp M M' → Zc M' r = some (gr.map Nd.d) → M.length ≤ r → Q (.ref r) M'
section
variable {K : PySem.W.Frag}
theorem Za6 {Γ G} : RR ⟨K, Γ, G⟩ b_Lgoals Rj Yh := by
 rintro ds M Q Z ⟨d, rfl, q⟩
 simp only [b_Lgoals, Rj]
 cases d with
 | sum x a sg b t =>
  simp only [Nd.d]
  walk_at "ev"
  refine ⟨_, rfl, ?_⟩
  walk_at "ev"
  exact ⟨_, rfl, Z0 (by decide), q⟩
 | test a sg b y n =>
  simp only [Nd.d]
  walk_at "ev"
  refine ⟨_, rfl, ?_⟩
  walk_at "ev"
  rw [if_neg (by decide +kernel)]
  simp only [Vt]
  walk_at "ev"
  refine ⟨_, rfl, ?_⟩
  walk_at "ev"
  exact ⟨_, rfl, _, rfl, Z0 (by decide), q⟩
 | fin =>
  simp only [Nd.d]
  walk_at "ev"
  refine ⟨_, rfl, ?_⟩
  walk_at "ev"
  rw [if_neg (by decide +kernel)]
  simp only [Vt]
  walk_at "ev"
  refine ⟨_, rfl, ?_⟩
  walk_at "ev"
  rw [if_neg (by decide +kernel)]
  simp only [Si]
  walk_at "ev"
  exact ⟨Z0 (by decide), q⟩
 | spin =>
  simp only [Nd.d]
  walk_at "ev"
  refine ⟨_, rfl, ?_⟩
  walk_at "ev"
  rw [if_neg (by decide +kernel)]
  simp only [Vt]
  walk_at "ev"
  refine ⟨_, rfl, ?_⟩
  walk_at "ev"
  rw [if_neg (by decide +kernel)]
  simp only [Si]
  walk_at "ev"
  exact ⟨Z0 (by decide), q⟩
theorem pick {M : Z3} {a : Nat} {xs : List D} {i : Int} {F : D → Prop} (h : Z6 M a = some xs) (h0 : 0 ≤ i) (h1 : i < xs.length) (q : ∀ d ∈ xs, F d) : ixD M (.ref a) (.int i) F := by
 obtain ⟨d, e1, e2⟩ := Zp3 h0 h1
 exact N6 h e1 (q d e2)
theorem Tu {M : Z3} {a : Nat} {xs : List D} {i m : Int} {F : D → Prop} (h : Z6 M a = some xs) (h1 : m = xs.length) (h2 : 0 < m) (q : ∀ d ∈ xs, F d) : ixD M (.ref a) (.int (qmod i m)) F := by
 rw [qm h2]
 exact pick h (Int.emod_nonneg _ (by omega)) (by rw [← h1]; exact Int.emod_lt_of_pos _ h2) q
theorem Z76 {xs : List Str} {d : D} (h : d ∈ xs.map D.str) (ok : (xs.all fun x => PyData.canLay0 (.str x)) = true) : ∃ x, d = .str x ∧ PyData.canLay0 (.str x) = true := by
 obtain ⟨x, hx, rfl⟩ := List.mem_map.mp h
 rw [List.all_eq_true] at ok
 exact ⟨x, rfl, ok x hx⟩
end
section
variable {K : PySem.W.Frag}
def trD (T : List (Nat × Nat)) : List D := T.map fun p => D.tup [.int (p.1 : Nat), .int (p.2 : Nat)]
theorem Z23 (T U : List (Nat × Nat)) : trD (T ++ U) = trD T ++ trD U := by unfold trD; rw [List.map_append]
theorem Fu (T : List (Nat × Nat)) (h s : Nat) : trD (T ++ [(h, s)]) = trD T ++ [.tup [.int (h : Nat), .int (s : Nat)]] := Z23 _ _
theorem Ym (l : List Nat) (x : Nat) : natD (l ++ [x]) = natD l ++ [.int (x : Nat)] := E7 _ _
theorem Bp (T : List (Nat × Nat)) : (trD T).length = T.length := by unfold trD; simp
def trP (T : List (Nat × Nat)) : List PyData := T.map fun p => PyData.tuple [.int (p.1 : Nat), .int (p.2 : Nat)]
theorem Zi5 {M : Z3} : ∀ T : List (Nat × Nat), PDs M (trP T) (trD T)
 | [] => rfl
 | p :: r => ⟨_, _, rfl, ⟨_, rfl, ⟨_, _, rfl, rfl, ⟨_, _, rfl, rfl, rfl⟩⟩⟩, Zi5 r⟩
theorem Z21 : ∀ T : List (Nat × Nat), PyData.canLayAll0 (trP T) = true
 | [] => rfl
 | p :: r => by
  show PyData.canLayAll0 (PyData.tuple [.int (p.1 : Nat), .int (p.2 : Nat)] :: trP r) = true
  unfold PyData.canLayAll0
  rw [Z21 r]
  rfl
theorem Bj {M : Z3} {x y : Nat} {T : List (Nat × Nat)} {B : Bool → Prop} (h1 : Z6 M x = some (trD T)) (h2 : Z6 M y = some []) (q : B T.isEmpty) : eqD M (.ref x) (.ref y) B := by
 refine .inl ⟨.list (trP T), .list [], ⟨x, _, rfl, h1, Zi5 T⟩, ⟨y, _, rfl, h2, rfl⟩, Z21 T, rfl, ?_, ?_⟩
 ·exact Nat.le_trans (Nat.min_le_right _ _) (by decide)
 ·cases T with
  | nil => exact q
  | cons p r => exact q
def toS (g : Nat → List Nat) (T : List (Nat × Nat)) : List (Nat × List Nat) := T.reverse.map fun p => (p.1, (g p.1).drop p.2)
theorem Vv (g : Nat → List Nat) (T : List (Nat × Nat)) (h s : Nat) : toS g (T ++ [(h, s)]) = (h, (g h).drop s) :: toS g T := by unfold toS; rw [List.reverse_append]; rfl
def At (g : Nat → List Nat) (B : List Nat) (T : List (Nat × Nat)) (F : List Nat) : Prop := ∃ k, ND.itr g k ⟨[0], [(0, g 0)], []⟩ = ⟨B, toS g T, F⟩
theorem At.begin (g : Nat → List Nat) : At g [0] [(0, 0)] [] := ⟨0, rfl⟩
theorem At.close {g : Nat → List Nat} {B F : List Nat} {T : List (Nat × Nat)} {h s : Nat} (a : At g B (T ++ [(h, s)]) F) (hs : s = (g h).length) : At g B T (F ++ [h]) := by
 obtain ⟨k, e⟩ := a
 refine ⟨k + 1, ?_⟩
 show ND.stp g (ND.itr g k _) = _
 rw [e, Vv, hs, List.drop_length]
 rfl
theorem At.pass {g : Nat → List Nat} {B F : List Nat} {T : List (Nat × Nat)} {h s y : Nat} (a : At g B (T ++ [(h, s)]) F) (hy : (g h)[s]? = some y) (hb : y ∈ B) : At g B (T ++ [(h, s + 1)]) F := by
 obtain ⟨k, e⟩ := a
 refine ⟨k + 1, ?_⟩
 show ND.stp g (ND.itr g k _) = _
 obtain ⟨h1, h2⟩ := List.getElem?_eq_some_iff.mp hy
 rw [e, Vv, Vv, List.drop_eq_getElem_cons h1, h2]
 show (if y ∈ B then _ else _) = _
 rw [if_pos hb]
theorem At.open {g : Nat → List Nat} {B F : List Nat} {T : List (Nat × Nat)} {h s y : Nat} (a : At g B (T ++ [(h, s)]) F) (hy : (g h)[s]? = some y) (hb : ¬ y ∈ B) : At g (B ++ [y]) (T ++ [(h, s + 1), (y, 0)]) F := by
 obtain ⟨k, e⟩ := a
 refine ⟨k + 1, ?_⟩
 show ND.stp g (ND.itr g k _) = _
 obtain ⟨h1, h2⟩ := List.getElem?_eq_some_iff.mp hy
 rw [show T ++ [(h, s + 1), (y, 0)] = (T ++ [(h, s + 1)]) ++ [(y, 0)] by simp, e, Vv, Vv, Vv, List.drop_eq_getElem_cons h1, h2]
 show (if y ∈ B then _ else _) = _
 rw [if_neg hb, List.drop_zero]
theorem At.ends {g : Nat → List Nat} {B F : List Nat} (a : At g B [] F) : ND.Ends g 0 F := by
 obtain ⟨k, e⟩ := a
 exact ⟨k, B, e⟩
theorem Et {Γ G} (g6 : Γ[21]? = some Yh) {M : Z3} {a h s : Nat} {raw : List Nd} (hr : Z6 M a = some (raw.map Nd.d)) (h1 : raw.length ≤ 1000) (hg : ∀ d ∈ raw, ∀ t ∈ d.gs, t < raw.length) {B F : List Nat} {T : List (Nat × Nat)} {Q : DK} {C bk : DEnv → Z3 → Prop} {d4 d5 d6 : Option D}
  (w : GT.Wk (wy raw) raw.length B (T ++ [(h, s)]) F) (am : At (wy raw) B (T ++ [(h, s)]) F) (N : Z3)
  (q : ∀ B2 T2 F2 N2 d4 d5 d6, GT.wkM raw.length B2 T2 < GT.wkM raw.length B (T ++ [(h, s)]) → GT.Wk (wy raw) raw.length B2 T2 F2 → At (wy raw) B2 T2 F2 → C [some (.ref a), some (.ref M.length), some (.ref (M.length + 1)), some (.ref (M.length + 2)), d4, d5, d6] (M ++ (.lst (natD B2) :: .lst (trD T2) :: .lst (natD F2) :: N2))) :
  tss ⟨K, Γ, G⟩ noX Se { nx := C, rt := Q, bk := bk, ct := C } [some (.ref a), some (.ref M.length), some (.ref (M.length + 1)), some (.ref (M.length + 2)), d4, d5, d6] (M ++ (.lst (natD B) :: .lst (trD (T ++ [(h, s)])) :: .lst (natD F) :: N)) := by
 have hB : h ∈ B := (w.mem h).mpr (.inl ⟨s, by simp⟩)
 have hh := w.bl h hB
 obtain ⟨d, hd⟩ : ∃ d, raw[h]? = some d := ⟨_, List.getElem?_eq_getElem hh⟩
 have ew : wy raw h = d.gs := Q9 hd
 have hst := w.steps h s (by simp)
 rw [ew] at hst
 have two := d.gs_two
 have small := w.small
 rw [List.length_append] at small
 have room := w.room
 have eT : trD (T ++ [(h, s)]) = trD T ++ [.tup [.int h, .int s]] := Z23 _ _
 simp only [Se]
 walk_at "ev"
 refine ⟨Zq (by rw [X2]; rfl), _, .tup [.int h, .int s], by rw [Xu]; rfl, by rw [eT]; simp, ?_⟩
 walk_at "ev"
 rw [Wy, eT, List.dropLast_concat]
 walk_at "ev"
 refine ix_l (Z5 hr) (T8 hd) ?_
 simp only [g6]
 refine ⟨d, rfl, ?_⟩
 walk_at "ev"
 rw [List.append_assoc]
 simp only [List.cons_append]
 have el : (M ++ .lst (natD B) :: .lst (trD T) :: .lst (natD F) :: N).length = M.length + (N.length + 3) := by simp
 rw [el]
 have rG : ∀ b t f, Z6 (M ++ .lst b :: .lst t :: .lst f :: (N ++ [.lst (natD d.gs)])) (M.length + (N.length + 3)) = some (natD d.gs) := by
  intro b t f
  rw [X2]
  exact Z9 N _ []
 have rB : ∀ b N', Z6 (M ++ .lst b :: N') M.length = some b := fun b N' => Z9 M _ _
 have rT : ∀ b t N', Z6 (M ++ .lst b :: .lst t :: N') (M.length + 1) = some t := fun b t N' => by rw [X2]; rfl
 have rF : ∀ b t f N', Z6 (M ++ .lst b :: .lst t :: .lst f :: N') (M.length + 2) = some f := fun b t f N' => by rw [X2]; rfl
 have wT : ∀ b t N', Zc (M ++ .lst b :: .lst t :: N') (M.length + 1) = some t := fun b t N' => by rw [Xu]; rfl
 have wF : ∀ b t f N', Zc (M ++ .lst b :: .lst t :: .lst f :: N') (M.length + 2) = some f := fun b t f N' => by rw [Xu]; rfl
 generalize M.length + (N.length + 3) = gp at rG
 refine Yc (rG _ _ _) ?_
 walk_at "ev"
 rw [Z8]
 simp only [List.length_cons, List.length_nil] at small
 split
 ·rename_i e
  have es : s = d.gs.length := by omega
  refine ⟨Zq (rF _ _ _ _), _, wF _ _ _ _, by rw [Z8]; exact Zn (by omega), ?_⟩
  rw [Wy]
  walk_at "ev"
  rw [← Ym]
  exact q _ _ _ _ _ _ _ (GT.Z57 (by omega)) (w.close (by rw [ew]; exact es)) (am.close (by rw [ew]; exact es))
 ·rename_i e
  have es : s < d.gs.length := by omega
  obtain ⟨y, hy⟩ : ∃ y, d.gs[s]? = some y := ⟨_, List.getElem?_eq_getElem es⟩
  have hyn : y < raw.length := hg d (List.mem_of_getElem? hd) y (List.mem_of_getElem? hy)
  refine ⟨Zq (rT _ _ _), Z0 (by decide), _, wT _ _ _, by rw [Bp]; exact Zn (by omega), ?_⟩
  rw [Wy]
  walk_at "ev"
  refine ix_l (rG _ _ _) (Zp hy) ?_
  refine Q2 (rB _ _) ?_
  have e1 : trD T ++ [.tup [.int h, .int ((s : Int) + 1)]] = trD (T ++ [(h, s + 1)]) := (Fu T h (s + 1)).symm
  rw [e1]
  by_cases hyB : y ∈ B
  ·rw [decide_eq_true hyB, if_neg (by decide)]
   exact q _ _ _ _ _ _ _ (GT.Zh8 (by omega)) (w.pass (by rw [ew]; exact hy) hyB) (am.pass (by rw [ew]; exact hy) hyB)
  ·rw [decide_eq_false hyB, if_pos rfl]
   have w2 := w.open (by rw [ew]; exact hy) hyn hyB
   have rm := w2.room
   rw [List.length_append, List.length_singleton] at rm
   refine ⟨Zq (rB _ _), ix_l (rG _ _ _) (Zp hy) ⟨_, Zg M _ _, by rw [Z8]; exact Zn (by omega), ?_⟩⟩
   rw [Xm]
   refine ⟨Zq (rT _ _ _), ix_l (rG _ _ _) (Zp hy) ⟨Z0 (by decide), _, wT _ _ _, by rw [Bp, List.length_append, List.length_singleton]; exact Zn (by omega), ?_⟩⟩
   rw [Wy]
   walk_at "ev"
   have e2 : trD (T ++ [(h, s + 1)]) ++ [.tup [.int y, .int 0]] = trD (T ++ [(h, s + 1), (y, 0)]) := by
    rw [show T ++ [(h, s + 1), (y, 0)] = (T ++ [(h, s + 1)]) ++ [(y, 0)] by simp, Fu (T ++ [(h, s + 1)])]
    rfl
   rw [← Ym, e2]
   exact q _ _ _ _ _ _ _ (GT.Z91 (by omega) (by omega)) w2 (am.open (by rw [ew]; exact hy) hyB)
theorem Zg5 {Γ G} (g6 : Γ[21]? = some Yh) : RR ⟨K, Γ, G⟩ b_Lorder Rr X6 := by
 rintro ds M Q Z ⟨a, raw, rfl, hr, h0, h1, hg, q⟩
 simp only [b_Lorder, Rr]
 walk_at "ev"
 refine ⟨Z0 (by decide), Z0 (by decide), Z0 (by decide), Z0 (by decide), ?_⟩
 simp only [List.length_append, List.length_cons, List.length_nil, List.append_assoc, List.cons_append, List.nil_append, Nat.zero_add, Nat.add_assoc, Nat.reduceAdd]
 refine ⟨fun m σ M' => ∃ B T F N d4 d5 d6, m = GT.wkM raw.length B T ∧ σ = [some (.ref a), some (.ref M.length), some (.ref (M.length + 1)), some (.ref (M.length + 2)), d4, d5, d6] ∧ M' = M ++ (.lst (natD B) :: .lst (trD T) :: .lst (natD F) :: N) ∧ GT.Wk (wy raw) raw.length B T F ∧ At (wy raw) B T F,
  ⟨_, [0], [(0, 0)], [], [], none, none, none, rfl, rfl, rfl, GT.Wk.begin _ h0, At.begin _⟩, ?_⟩
 rintro m σ M' ⟨B, T, F, N, d4, d5, d6, rfl, rfl, rfl, w, am⟩
 walk_at "ev"
 refine ⟨Z0 (by decide), ?_⟩
 rw [List.append_assoc]
 simp only [List.cons_append]
 have rT : ∀ N' : Z3, Z6 (M ++ .lst (natD B) :: .lst (trD T) :: .lst (natD F) :: N') (M.length + 1) = some (trD T) := fun N' => by rw [X2]; rfl
 refine Bj (rT _) (by rw [show M ++ .lst (natD B) :: .lst (trD T) :: .lst (natD F) :: (N ++ [.lst []]) = (M ++ .lst (natD B) :: .lst (trD T) :: .lst (natD F) :: N) ++ [.lst []] by simp]; exact Z9 _ _ []) ?_
 cases hT : T.isEmpty with
 | true =>
  rw [if_neg (by decide)]
  have eT : T = [] := List.isEmpty_iff.mp hT
  subst eT
  simp only [Py]
  walk_at "ev"
  refine ⟨natD F, by rw [X2]; rfl, ?_⟩
  refine q F.reverse _ _ w.ord (by rw [List.reverse_reverse]; exact am.ends) (((Kp.new M _)).app _) ?_ ?_
  ·rw [show natD F.reverse = (natD F).reverse by unfold natD; rw [List.map_reverse]]
   exact Zg _ _ []
  ·rw [List.length_append]; omega
 | false =>
  rw [if_pos rfl]
  have hne : T ≠ [] := by rintro rfl; cases hT
  obtain ⟨T', ⟨h, s⟩, rfl⟩ : ∃ T' p, T = T' ++ [p] := ⟨T.dropLast, T.getLast hne, (List.dropLast_concat_getLast hne).symm⟩
  refine Et g6 hr h1 hg w am _ fun B2 T2 F2 N2 d4 d5 d6 lt w2 am2 => ⟨_, lt, B2, T2, F2, N2, d4, d5, d6, rfl, rfl, rfl, w2, am2⟩
end
section
variable {K : PySem.W.Frag}
theorem Qk {M : Z3} {P : Nat → Prop} {a x : Nat} {O : List Nat} (h : Z6 M a = some (natD O)) (hx : x ∈ O) (q : P (O.idxOf x)) :
  ∃ xs k z, Z6 M a = some xs ∧ Xr (.int (x : Nat)) = true ∧ xs.all Xr = true ∧ xs[k]? = some z ∧ eqF z (.int (x : Nat)) = true ∧ (∀ (j : Nat) u, j < k → xs[j]? = some u → eqF u (.int (x : Nat)) = false) ∧ P k := by
 have hl : O.idxOf x < O.length := List.idxOf_lt_length_of_mem hx
 refine ⟨natD O, O.idxOf x, .int (x : Nat), h, rfl, Nh O, Zp ?_, by simp [eqF], fun j u hj hu => ?_, q⟩
 ·rw [List.getElem?_eq_getElem hl, List.getElem_idxOf hl]
 ·have hjl : j < O.length := by omega
  rw [Zp (List.getElem?_eq_getElem hjl)] at hu
  cases hu
  have hne : O[j] ≠ x := by
   have := List.not_of_lt_findIdx (p := (· == x)) (xs := O) (i := j) hj
   simpa using this
  show (((O[j] : Nat) : Int) == ((x : Nat) : Int)) = false
  rw [beq_eq_false_iff_ne]
  omega
def gra (raw : List Nd) (O : List Nat) : List Nd := O.map fun x => (raw.getD x .fin).to fun y => O.idxOf y
theorem Qa (raw : List Nd) (O : List Nat) : (gra raw O).length = O.length := by unfold gra; simp
theorem Zj8 (raw : List Nd) (O : List Nat) : wy (gra raw O) = GT.N0 (wy raw) O := by
 funext k
 unfold wy gra GT.N0
 rw [List.getElem?_map]
 cases e : O[k]? with
 | none => rfl
 | some x =>
  simp only [Option.map_some]
  rw [Nd.gs_to, List.getD_eq_getElem?_getD]
  cases e2 : raw[x]? with
  | none => rfl
  | some d => rfl
theorem Zl2 {raw : List Nd} {O : List Nat} {n : Nat} (o : GT.Ord (wy raw) n O) : GT.Num (wy (gra raw O)) (gra raw O).length := by
 rw [Zj8, Qa]; exact o.num
theorem Zb7 {raw : List Nd} {O : List Nat} {n : Nat} (o : GT.Ord (wy raw) n O) (e : ND.Ends (wy raw) 0 O.reverse) : ND.Ends (wy (gra raw O)) 0 (List.range (gra raw O).length).reverse := by
 rw [Zj8, Qa]
 have := ND.N0 (g' := GT.N0 (wy raw) O) e (fun i hi => ?_)
 ·rw [List.length_reverse] at this; exact this
 ·have hi' : i < O.length := by rwa [List.reverse_reverse] at hi
  simp only [List.reverse_reverse]
  unfold GT.N0
  rw [List.getElem?_eq_getElem hi']
theorem Zv0 {raw : List Nd} {O : List Nat} (h : ∀ d ∈ raw, d.ok = true) : ∀ d ∈ gra raw O, d.ok = true := by
 intro d hd
 unfold gra at hd
 obtain ⟨x, _, rfl⟩ := List.mem_map.mp hd
 rw [Nd.ok_to, List.getD_eq_getElem?_getD]
 cases e : raw[x]? with
 | none => rfl
 | some d => exact h d (List.mem_of_getElem? e)
theorem Zs8 {raw : List Nd} {O : List Nat} {i x : Nat} {d : Nd} (h : O[i]? = some x) (hd : raw[x]? = some d) : (gra raw O)[i]? = some (d.to fun y => O.idxOf y) := by
 unfold gra
 rw [List.getElem?_map, h, Option.map_some, List.getD_eq_getElem?_getD, hd]
 rfl
theorem X1 {α : Type} {l : List α} {i : Nat} {x : α} (h : l[i]? = some x) : l.take (i + 1) = l.take i ++ [x] := by
 obtain ⟨h1, h2⟩ := List.getElem?_eq_some_iff.mp h
 rw [← h2]
 exact List.take_succ_eq_append_getElem h1
theorem Z96 {Γ G} (g7 : Γ[22]? = some X6) : RR ⟨K, Γ, G⟩ b_Lgraph Rw Xc := by
 rintro ds M Q Z ⟨a, raw, rfl, hr, h0, h1, hg, hok, q⟩
 simp only [b_Lgraph, Rw]
 walk_at "ev"
 simp only [g7]
 refine ⟨a, raw, rfl, hr, h0, h1, hg, fun O M1 ro ord ends kp hO hro => ?_⟩
 have hOL := Z2 hO
 have aL := kp.L hr
 have ol := ord.le
 walk_at "ev"
 refine ⟨Z0 (by decide), _, Z5 hOL, ?_⟩
 refine Ys (fun i σ M' => ∃ d3 d4, σ = [some (.ref a), some (.ref ro), some (.ref M1.length), d3, d4] ∧ M' = M1 ++ [.lst (((gra raw O).take i).map Nd.d)]) ⟨none, none, rfl, rfl⟩ ?_ ?_ ?_
 ·rintro i σ M' _ ⟨d3, d4, rfl, rfl⟩
  exact Z5 hOL
 ·rintro i dx σ M' C hx ⟨d3, d4, rfl, rfl⟩ hC
  have hi : i < O.length := by have := (List.getElem?_eq_some_iff.mp hx).1; rwa [Z8] at this
  rw [Zp (List.getElem?_eq_getElem hi)] at hx
  cases hx
  have hxi : O[i]? = some O[i] := List.getElem?_eq_getElem hi
  generalize O[i] = x at hxi
  have hxn : x < raw.length := ord.lt x (List.mem_of_getElem? hxi)
  obtain ⟨d, hd⟩ : ∃ d, raw[x]? = some d := ⟨_, List.getElem?_eq_getElem hxn⟩
  have cl : ∀ y ∈ d.gs, y ∈ O := fun y hy => ord.cl x (List.mem_of_getElem? hxi) y (by rw [Q9 hd]; exact hy)
  have fin : ∀ d3 d4, C [some (.ref a), some (.ref ro), some (.ref M1.length), d3, d4] (M1 ++ [.lst (((gra raw O).take i).map Nd.d ++ [(d.to fun y => O.idxOf y).d])]) := by
   intro d3 d4
   refine hC _ _ ⟨d3, d4, rfl, ?_⟩
   rw [X1 (Zs8 hxi hd), List.map_append]
   rfl
  have len : (((gra raw O).take i).map Nd.d).length < sizeLine := by
   rw [List.length_map, List.length_take, Qa]
   exact Zn (by omega)
  simp only [O3]
  walk_at "ev"
  refine ix_l (Z5 aL) (T8 hd) ?_
  have last : ∀ d3 v bk, v = (d.to fun y => O.idxOf y).d → tss ⟨K, Γ, G⟩ noX Sl { nx := C, rt := Q, bk := bk, ct := C } [some (.ref a), some (.ref ro), some (.ref M1.length), d3, some v] (M1 ++ [.lst (((gra raw O).take i).map Nd.d)]) := by
   rintro d3 v bk rfl
   simp only [Sl]
   walk_at "ev"
   refine ⟨Zq (Z9 _ _ []), _, Zg _ _ [], len, ?_⟩
   rw [Xm]
   exact fin _ _
  cases d with
  | sum nm o1 sg o2 t =>
   simp only [Nd.d]
   walk_at "ev"
   refine ⟨_, rfl, ?_⟩
   walk_at "ev"
   rw [show U.cutD [.str "sum", .str nm, o1.d, .str sg, o2.d, .int t] none (some 5) = [.str "sum", .str nm, o1.d, .str sg, o2.d] from rfl]
   refine ⟨by decide, Zq (Z5 hOL), _, rfl, Qk (Z5 hOL) (cl t (by simp [Nd.gs])) ?_⟩
   refine ⟨Z0 (by decide), by simp, Z0 (by simp), ?_⟩
   simp only [Wp]
   walk_at "ev"
   refine ⟨_, rfl, ?_⟩
   walk_at "ev"
   rw [if_neg (by decide +kernel)]
   exact last _ _ _ rfl
  | test o1 sg o2 y n =>
   simp only [Nd.d]
   walk_at "ev"
   refine ⟨_, rfl, ?_⟩
   walk_at "ev"
   rw [if_neg (by decide +kernel)]
   simp only [Wp]
   walk_at "ev"
   refine ⟨_, rfl, ?_⟩
   walk_at "ev"
   rw [show U.cutD [.str "test", o1.d, .str sg, o2.d, .int y, .int n] none (some 4) = [.str "test", o1.d, .str sg, o2.d] from rfl]
   refine ⟨by decide, Zq (Z5 hOL), _, rfl, Qk (Z5 hOL) (cl y (by simp [Nd.gs])) ?_⟩
   refine ⟨Zq (Z5 hOL), _, rfl, Qk (Z5 hOL) (cl n (by simp [Nd.gs])) ?_⟩
   refine ⟨Z0 (by decide), by simp, Z0 (by simp), ?_⟩
   exact last _ _ _ rfl
  | fin =>
   simp only [Nd.d]
   walk_at "ev"
   refine ⟨_, rfl, ?_⟩
   walk_at "ev"
   rw [if_neg (by decide +kernel)]
   simp only [Wp]
   walk_at "ev"
   refine ⟨_, rfl, ?_⟩
   walk_at "ev"
   rw [if_neg (by decide +kernel)]
   exact last _ _ _ rfl
  | spin =>
   simp only [Nd.d]
   walk_at "ev"
   refine ⟨_, rfl, ?_⟩
   walk_at "ev"
   rw [if_neg (by decide +kernel)]
   simp only [Wp]
   walk_at "ev"
   refine ⟨_, rfl, ?_⟩
   walk_at "ev"
   rw [if_neg (by decide +kernel)]
   exact last _ _ _ rfl
 ·rintro σ M' ⟨d3, d4, rfl, rfl⟩
  simp only [Oa]
  walk_at "ev"
  refine q (gra raw O) _ _ (Zl2 ord) (Zb7 ord ends) (by rw [Qa]; exact ol) (Zv0 hok) (kp.app _) ?_ ?_
  ·rw [show (natD O).length = (gra raw O).length by rw [Z8, Qa], List.take_length]
   exact Zg _ _ []
  ·obtain ⟨L, rfl⟩ := kp; rw [List.length_append]; omega
end
def Opd.p : Opd → PyData
 | .nm x => .str x
 | .no i => .int i
theorem Opd.pd {M : Z3} (o : Opd) : PD M o.p o.d := by cases o <;> rfl
def Nd.p : Nd → PyData
 | .sum x a sg b t => .tuple [.str "sum", .str x, a.p, .str sg, b.p, .int t]
 | .test a sg b y n => .tuple [.str "test", a.p, .str sg, b.p, .int y, .int n]
 | .fin => .tuple [.str "end"]
 | .spin => .tuple [.str "spin"]
theorem Nd.pd {M : Z3} (d : Nd) : PD M d.p d.d := by
 cases d with
 | sum x a sg b t => exact ⟨_, rfl, _, _, rfl, rfl, _, _, rfl, rfl, _, _, rfl, a.pd, _, _, rfl, rfl, _, _, rfl, b.pd, _, _, rfl, rfl, rfl⟩
 | test a sg b y n => exact ⟨_, rfl, _, _, rfl, rfl, _, _, rfl, a.pd, _, _, rfl, rfl, _, _, rfl, b.pd, _, _, rfl, rfl, _, _, rfl, rfl, rfl⟩
 | fin => exact ⟨_, rfl, _, _, rfl, rfl, rfl⟩
 | spin => exact ⟨_, rfl, _, _, rfl, rfl, rfl⟩
theorem Z36 {M : Z3} : ∀ gr : List Nd, PDs M (gr.map Nd.p) (gr.map Nd.d)
 | [] => rfl
 | d :: r => ⟨_, _, rfl, d.pd, Z36 r⟩
theorem Opd.lay (o : Opd) (h : o.ok = true) : PyData.canLay0 o.p = true := by
 cases o with
 | nm x => exact h
 | no i => rfl
theorem Nd.lay (d : Nd) (h : d.ok = true) : PyData.canLay0 d.p = true := by
 have i : ∀ t : Int, PyData.canLay0 (.int t) = true := fun _ => rfl
 have s1 : PyData.canLay0 (.str "sum") = true := by decide +kernel
 have s2 : PyData.canLay0 (.str "test") = true := by decide +kernel
 have s3 : PyData.canLay0 (.str "end") = true := by decide +kernel
 have s4 : PyData.canLay0 (.str "spin") = true := by decide +kernel
 have tup : ∀ l, PyData.canLay0 (.tuple l) = PyData.canLayAll0 l := fun _ => by rw [PyData.canLay0]
 have cons : ∀ x l, PyData.canLayAll0 (x :: l) = (PyData.canLay0 x && PyData.canLayAll0 l) := fun _ _ => by rw [PyData.canLayAll0]
 have nil : PyData.canLayAll0 [] = true := by rw [PyData.canLayAll0]
 cases d with
 | sum x a sg b t =>
  simp only [Nd.ok, Bool.and_eq_true] at h
  simp only [Nd.p, tup, cons, nil, s1, i, h.1.1.1, h.1.2, a.lay h.1.1.2, b.lay h.2, Bool.and_self]
 | test a sg b y n =>
  simp only [Nd.ok, Bool.and_eq_true] at h
  simp only [Nd.p, tup, cons, nil, s2, i, h.1.2, a.lay h.1.1, b.lay h.2, Bool.and_self]
 | fin => simp only [Nd.p, tup, cons, nil, s3, Bool.and_self]
 | spin => simp only [Nd.p, tup, cons, nil, s4, Bool.and_self]
theorem Z54 : ∀ gr : List Nd, (∀ d ∈ gr, d.ok = true) → PyData.canLayAll0 (gr.map Nd.p) = true
 | [], _ => by rw [List.map_nil, PyData.canLayAll0]
 | d :: r, h => by
  rw [List.map_cons]
  unfold PyData.canLayAll0
  rw [Z54 r fun x hx => h x (List.mem_cons_of_mem _ hx), d.lay (h d List.mem_cons_self)]
  rfl
theorem Nd.dep (d : Nd) : PyData.depth d.p ≤ 5 := by
 cases d with
 | sum x a sg b t => cases a <;> cases b <;> (simp only [Nd.p, Opd.p, PyData.depth, PyData.depthAll]; decide)
 | test a sg b y n => cases a <;> cases b <;> (simp only [Nd.p, Opd.p, PyData.depth, PyData.depthAll]; decide)
 | fin => simp only [Nd.p, PyData.depth, PyData.depthAll]; decide
 | spin => simp only [Nd.p, PyData.depth, PyData.depthAll]; decide
theorem Z26 : ∀ gr : List Nd, PyData.depthAll (gr.map Nd.p) ≤ 5
 | [] => by simp [PyData.depthAll]
 | d :: r => by
  rw [List.map_cons]
  unfold PyData.depthAll
  have h1 := Z26 r
  have h2 := d.dep
  omega
theorem Zm5 {M : Z3} {m n : Nat} {gr : List Nd} {B : Bool → Prop} (ok : ∀ d ∈ gr, d.ok = true) (h1 : Z6 M m = some (gr.map Nd.d)) (h2 : Z6 M n = some (gr.map Nd.d)) (q : B true) : eqD M (.ref m) (.ref n) B := by
 have hc : PyData.canLay0 (.list (gr.map Nd.p)) = true := by unfold PyData.canLay0; exact Z54 gr ok
 refine .inl ⟨.list (gr.map Nd.p), .list (gr.map Nd.p), ⟨m, _, rfl, h1, Z36 gr⟩, ⟨n, _, rfl, h2, Z36 gr⟩, hc, hc, ?_, ?_⟩
 ·unfold PyData.depth
  have := Z26 gr
  omega
 ·rw [PySem.SeqAt.eqv_refl _ hc]
  exact q
def V0 (b n : Nat) : List D := (List.range n).map fun i => D.ref (b + i)
theorem Bx (b n : Nat) : (V0 b n).length = n := by unfold V0; simp
theorem C0 (b n : Nat) : V0 b (n + 1) = V0 b n ++ [.ref (b + n)] := by unfold V0; rw [List.range_succ, List.map_append]; rfl
theorem Jj {b n i : Nat} (h : i < n) : (V0 b n)[i]? = some (.ref (b + i)) := by unfold V0; rw [List.getElem?_map, List.getElem?_range h]; rfl
def Yv (n : Nat) (F : Nat → List Nat) : Z3 := (List.range n).map fun t => Cell.lst (natD (F t))
theorem Wq (n : Nat) (F : Nat → List Nat) : (Yv n F).length = n := by unfold Yv; simp
theorem Sk {n t : Nat} (F : Nat → List Nat) (h : t < n) : (Yv n F)[t]? = some (.lst (natD (F t))) := by unfold Yv; rw [List.getElem?_map, List.getElem?_range h]; rfl
theorem Nl {n : Nat} {F G : Nat → List Nat} (h : ∀ t, t < n → F t = G t) : Yv n F = Yv n G := by
 unfold Yv
 apply List.map_congr_left
 intro t ht
 rw [h t (List.mem_range.mp ht)]
theorem Ew {n g : Nat} (F : Nat → List Nat) (l : List Nat) : (Yv n F).set g (.lst (natD l)) = Yv n fun t => if t = g then l else F t := by
 apply List.ext_getElem?
 intro i
 by_cases hi : i < n
 ·rw [Sk _ hi]
  by_cases e : g = i
  ·subst e
   rw [List.getElem?_set_self (by rw [Wq]; exact hi), if_pos rfl]
  ·rw [List.getElem?_set_ne e, Sk _ hi, if_neg (fun z => e z.symm)]
 ·rw [List.getElem?_eq_none (by rw [List.length_set, Wq]; omega), List.getElem?_eq_none (by rw [Wq]; omega)]
theorem Z03 {M : Z3} {c : Cell} {n t : Nat} {F : Nat → List Nat} {N : Z3} (h : t < n) : Zc (M ++ c :: (Yv n F ++ N)) (M.length + 1 + t) = some (natD (F t)) := by
 rw [show M.length + 1 + t = M.length + (t + 1) by omega, Xu]
 show Zc (Yv n F ++ N) t = _
 unfold Zc
 rw [List.getElem?_append_left (by rw [Wq]; exact h), Sk F h]
def Wo (gr : List Nd) (i t : Nat) : List Nat := (List.range i).flatMap fun k => List.replicate ((wy gr k).count t) k
theorem Px (gr : List Nd) (i t : Nat) : Wo gr (i + 1) t = Wo gr i t ++ List.replicate ((wy gr i).count t) i := by
 unfold Wo; rw [List.range_succ, List.flatMap_append]; simp
theorem Y05 (gr : List Nd) (k : Nat) : (wy gr k).length ≤ 2 := by
 unfold wy
 split
 ·exact Nd.gs_two _
 ·simp
theorem Nt (gr : List Nd) (t : Nat) : ∀ i, (Wo gr i t).length ≤ 2 * i
 | 0 => by simp [Wo]
 | i + 1 => by
  rw [Px, List.length_append, List.length_replicate]
  have h1 := Nt gr t i
  have h2 := Y05 gr i
  have h3 : (wy gr i).count t ≤ (wy gr i).length := List.count_le_length
  omega
theorem Za5 (l : List Nat) (j t i : Nat) {g : Nat} (h : l[j]? = some g) : List.replicate ((l.take (j + 1)).count t) i = List.replicate ((l.take j).count t) i ++ (if t = g then [i] else []) := by
 rw [X1 h, List.count_append]
 by_cases e : t = g
 ·subst e
  rw [if_pos rfl, List.count_singleton_self, List.replicate_succ']
 ·rw [if_neg e, List.count_singleton, if_neg (by simpa using fun z : g = t => e z.symm)]
  simp
theorem Rh {M : Z3} {c : Cell} {n : Nat} {F G : Nat → List Nat} (h : ∀ t, t < n → F t = G t) : M ++ c :: Yv n F = M ++ c :: Yv n G := by rw [Nl h]
def Zs : DSp := fun ds M Q _ => ∃ d : Nd, ds = [d.d] ∧ Q (.tup (natD d.gs.reverse)) M
def Z7 : DSp := fun ds M Q _ => ∃ (a : Nat) (gr : List Nd), ds = [.ref a] ∧ Z6 M a = some (gr.map Nd.d) ∧ gr.length ≤ 1000 ∧ (∀ k, k < gr.length → ∀ t ∈ wy gr k, t < gr.length) ∧
 Q (.ref M.length) (M ++ .lst (V0 (M.length + 1) gr.length) :: Yv gr.length (Wo gr gr.length))
section
variable {K : PySem.W.Frag}
theorem Y12 {Γ G} : RR ⟨K, Γ, G⟩ b_ways Fn Zs := by
 rintro ds M Q Z ⟨d, rfl, q⟩
 simp only [b_ways, Fn]
 cases d with
 | sum x a sg b t =>
  simp only [Nd.d]
  walk_at "ev"
  refine ⟨_, rfl, ?_⟩
  walk_at "ev"
  exact ⟨_, rfl, Z0 (by decide), q⟩
 | test a sg b y n =>
  simp only [Nd.d]
  walk_at "ev"
  refine ⟨_, rfl, ?_⟩
  walk_at "ev"
  rw [if_neg (by decide +kernel)]
  simp only [Rs]
  walk_at "ev"
  refine ⟨_, rfl, ?_⟩
  walk_at "ev"
  exact ⟨_, rfl, _, rfl, Z0 (by decide), q⟩
 | fin =>
  simp only [Nd.d]
  walk_at "ev"
  refine ⟨_, rfl, ?_⟩
  walk_at "ev"
  rw [if_neg (by decide +kernel)]
  simp only [Rs]
  walk_at "ev"
  refine ⟨_, rfl, ?_⟩
  walk_at "ev"
  rw [if_neg (by decide +kernel)]
  simp only [Na]
  walk_at "ev"
  exact ⟨Z0 (by decide), q⟩
 | spin =>
  simp only [Nd.d]
  walk_at "ev"
  refine ⟨_, rfl, ?_⟩
  walk_at "ev"
  rw [if_neg (by decide +kernel)]
  simp only [Rs]
  walk_at "ev"
  refine ⟨_, rfl, ?_⟩
  walk_at "ev"
  rw [if_neg (by decide +kernel)]
  simp only [Na]
  walk_at "ev"
  exact ⟨Z0 (by decide), q⟩
theorem E8 {xs : List D} {i : Nat} {d : D} (h : (Ni xs)[i]? = some d) : ∃ x, xs[i]? = some x ∧ d = .tup [.int (i : Nat), x] := by
 unfold Ni at h
 rw [List.getElem?_mapIdx, Option.map_eq_some_iff] at h
 obtain ⟨x, h1, rfl⟩ := h
 exact ⟨x, h1, rfl⟩
theorem E9 (xs : List D) : (Ni xs).length = xs.length := by unfold Ni; simp
theorem Z48 {Γ G} (g0 : Γ[0]? = some Zs) : RR ⟨K, Γ, G⟩ b_comings Te Z7 := by
 rintro ds M Q Z ⟨a, gr, rfl, hr, hn, hcl, q⟩
 simp only [b_comings, Te]
 walk_at "ev"
 refine ⟨_, hr, ?_⟩
 refine Oq (fun i σ M' => ∃ d, σ = [d] ∧ M' = M ++ .lst (V0 (M.length + 1) i) :: Yv i (fun _ => [])) ⟨none, rfl, rfl⟩ ?_ ?_ ?_
 ·rintro i σ M' _ ⟨d, rfl, rfl⟩
  exact Z5 hr
 ·rintro i dx σ M' C hx ⟨d, rfl, rfl⟩ hC
  have hi : i < gr.length := by have := (List.getElem?_eq_some_iff.mp hx).1; rwa [List.length_map] at this
  walk_at "ev"
  rw [List.append_assoc, List.cons_append]
  refine ⟨Z0 (by decide), _, Zg _ _ _, by rw [Bx]; exact Zn (by omega), ?_⟩
  rw [Xm]
  refine hC _ _ ⟨_, rfl, ?_⟩
  rw [C0]
  have e1 : Yv (i + 1) (fun _ => []) = Yv i (fun _ => []) ++ [.lst []] := by unfold Yv; rw [List.range_succ, List.map_append]; rfl
  have e2 : (M ++ .lst (V0 (M.length + 1) i) :: Yv i (fun _ => [])).length = M.length + 1 + i := by simp [Wq]; omega
  rw [e1, e2]
 ·rintro σ M' ⟨d, rfl, rfl⟩
  rw [List.length_map]
  refine ⟨_, Z5 hr, ?_⟩
  refine Ys (fun i σ M' => ∃ d2 d3 d4, σ = [some (.ref a), some (.ref M.length), d2, d3, d4] ∧ M' = M ++ .lst (V0 (M.length + 1) gr.length) :: Yv gr.length (Wo gr i)) ⟨none, none, none, rfl, ?_⟩ ?_ ?_ ?_
  ·exact Rh fun t _ => by simp [Wo]
  ·rintro i σ M' _ ⟨d2, d3, d4, rfl, rfl⟩
   exact ⟨_, Z5 hr, rfl⟩
  ·rintro i dx σ M' C hx ⟨d2, d3, d4, rfl, rfl⟩ hC
   obtain ⟨x, hx2, rfl⟩ := E8 hx
   have hi : i < gr.length := by have := (List.getElem?_eq_some_iff.mp hx2).1; rwa [List.length_map] at this
   obtain ⟨nd, hd⟩ : ∃ nd, gr[i]? = some nd := ⟨_, List.getElem?_eq_getElem hi⟩
   rw [T8 hd] at hx2
   cases hx2
   simp only [Qy]
   walk_at "ev"
   simp only [g0]
   refine ⟨nd, rfl, ?_⟩
   walk_at "ev"
   refine Ys (fun j σ M' => ∃ d4, σ = [some (.ref a), some (.ref M.length), some (.int i), some nd.d, d4] ∧ M' = M ++ .lst (V0 (M.length + 1) gr.length) :: Yv gr.length (fun t => Wo gr i t ++ List.replicate ((nd.gs.reverse.take j).count t) i)) ⟨_, rfl, ?_⟩ (fun _ _ _ _ _ => trivial) ?_ ?_
   ·exact Rh fun t _ => by simp
   ·rintro j dx σ M' C2 hx ⟨d4, rfl, rfl⟩ hC2
    have hj : j < nd.gs.reverse.length := by have := (List.getElem?_eq_some_iff.mp hx).1; rwa [Z8] at this
    have hgj : nd.gs.reverse[j]? = some nd.gs.reverse[j] := List.getElem?_eq_getElem hj
    generalize nd.gs.reverse[j] = g at hgj
    rw [Zp hgj] at hx
    cases hx
    have hgn : g < gr.length := hcl i hi g (by rw [Q9 hd]; exact List.mem_reverse.mp (List.mem_of_getElem? hgj))
    simp only [Ry]
    walk_at "ev"
    refine ix_l (Z9 _ _ _) (Jj hgn) ?_
    walk_at "ev"
    have hW := Z03 (M := M) (c := .lst (V0 (M.length + 1) gr.length)) (F := fun t => Wo gr i t ++ List.replicate ((nd.gs.reverse.take j).count t) i) (N := []) hgn
    rw [List.append_nil] at hW
    refine ⟨Zq (Z2 hW), _, hW, ?_, ?_⟩
    ·rw [Z8, List.length_append, List.length_replicate]
     have h1 := Nt gr g i
     have h2 : (nd.gs.reverse.take j).count g ≤ (nd.gs.reverse.take j).length := List.count_le_length
     have h3 : (nd.gs.reverse.take j).length ≤ nd.gs.reverse.length := by rw [List.length_take]; omega
     have h4 := nd.gs_two
     rw [List.length_reverse] at h3
     exact Zn (by omega)
    ·rw [show M.length + 1 + g = M.length + (g + 1) by omega, Wy, List.set_cons_succ, ← Ym, Ew]
     refine hC2 _ _ ⟨_, rfl, Rh fun t _ => ?_⟩
     rw [Za5 _ j t i hgj]
     by_cases e : t = g
     ·subst e; simp
     ·simp [e]
   ·rintro σ M' ⟨d4, rfl, rfl⟩
    refine hC _ _ ⟨_, _, _, rfl, Rh fun t _ => ?_⟩
    rw [Z8, List.take_length, Px, Q9 hd, List.count_reverse]
  ·rintro σ M' ⟨d2, d3, d4, rfl, rfl⟩
   simp only [Qm]
   walk_at "ev"
   rw [E9, List.length_map]
   exact q
end
theorem Zs6 (M N : Z3) (c : Cell) (j : Nat) : Z6 (M ++ c :: N) (M.length + (j + 1)) = Z6 N j := by rw [X2]; rfl
theorem O2 {M : Z3} {x y : Nat} {l : List Nat} {B : Bool → Prop} (h1 : Z6 M x = some (natD l)) (h2 : Z6 M y = some []) (q : B l.isEmpty) : eqD M (.ref x) (.ref y) B := by
 have pd : ∀ l : List Nat, PDs M (l.map fun (x : Nat) => PyData.int (x : Int)) (natD l) := by
  intro l
  induction l with
  | nil => rfl
  | cons x r ih => exact ⟨_, _, rfl, rfl, ih⟩
 have lay : ∀ l : List Nat, PyData.canLayAll0 (l.map fun (x : Nat) => PyData.int (x : Int)) = true := by
  intro l
  induction l with
  | nil => rw [List.map_nil, PyData.canLayAll0]
  | cons x r ih => rw [List.map_cons]; unfold PyData.canLayAll0; rw [ih]; rfl
 refine .inl ⟨.list (l.map fun (x : Nat) => PyData.int (x : Int)), .list [], ⟨x, _, rfl, h1, pd l⟩, ⟨y, _, rfl, h2, rfl⟩, lay l, rfl, ?_, ?_⟩
 ·exact Nat.le_trans (Nat.min_le_right _ _) (by decide)
 ·cases l with
  | nil => exact q
  | cons p r => exact q
theorem Tv {α : Type} (xs : List α) (d : α) : atI (xs ++ [d]) (-1) = some d := by
 have h : ixN (xs ++ [d]).length (-1) = some xs.length := by
  unfold ixN
  rw [if_neg (by omega), if_pos (by rw [List.length_append, List.length_singleton]; omega)]
  congr 1
  rw [List.length_append, List.length_singleton]
  omega
 unfold atI
 rw [h]
 simp
def oD : Option Nat → D
 | none => .non
 | some p => .int (p : Nat)
def kv (B : List (Nat × Option Nat)) : List (Key × D) := B.map fun p => ((Sum.inl (p.1 : Int), oD p.2) : Key × D)
theorem Zx0 (B : List (Nat × Option Nat)) : (kv B).length = B.length := by unfold kv; simp
theorem Zj6 : ∀ (B : List (Nat × Option Nat)) (i g : Nat) (o : Option Nat), (B.map (·.1)).Nodup → B[i]? = some (g, o) → valD (kv B) (Sum.inl (g : Int)) = some (oD o)
 | [], _, _, _, _, h => by simp at h
 |(x, u) :: r, i, g, o, nd, h => by
  unfold valD kv
  rw [List.map_cons, List.find?_cons]
  cases i with
  | zero =>
   simp at h
   obtain ⟨rfl, rfl⟩ := h
   simp
  | succ i =>
   have h' : r[i]? = some (g, o) := by simpa using h
   have nx : x ≠ g := fun e => by
    rw [List.map_cons, List.nodup_cons] at nd
    exact nd.1 (e ▸ List.mem_map.mpr ⟨(g, o), List.mem_of_getElem? h', rfl⟩)
   have : decide ((Sum.inl (x : Int) : Key) = Sum.inl (g : Int)) = false := by
    rw [decide_eq_false_iff_not]; intro z; exact nx (by have := Sum.inl.inj z; omega)
   rw [this]
   simp only
   exact Zj6 r i g o (by rw [List.map_cons, List.nodup_cons] at nd; exact nd.2) h'
theorem Y29 (B : List (Nat × Option Nat)) (y : Nat) : (valD (kv B) (Sum.inl (y : Int))).isSome = decide (y ∈ BF.keys B) := by
 unfold valD kv BF.keys
 induction B with
 | nil => rfl
 | cons x r ih =>
  rw [List.map_cons, List.find?_cons, List.map_cons]
  by_cases e : x.1 = y
  ·subst e; simp
  ·have : decide ((Sum.inl (x.1 : Int) : Key) = Sum.inl (y : Int)) = false := by
    rw [decide_eq_false_iff_not]; intro z; exact e (by have := Sum.inl.inj z; omega)
   rw [this]
   simp only
   rw [ih]
   have e' : ¬ y = x.1 := fun z => e z.symm
   simp [e']
theorem Zx2 {B : List (Nat × Option Nat)} {y p : Nat} (h : y ∉ BF.keys B) : putD (kv B) (Sum.inl (y : Int)) (.int (p : Nat)) = kv (B ++ [(y, some p)]) := by
 unfold putD
 rw [if_neg]
 ·unfold kv; rw [List.map_append]; rfl
 ·intro z
  obtain ⟨e, h1, h2⟩ := List.any_eq_true.mp z
  unfold kv at h1
  obtain ⟨x, hx, rfl⟩ := List.mem_map.mp h1
  rw [decide_eq_true_eq] at h2
  have := Sum.inl.inj h2
  have e : x.1 = y := by omega
  exact h (e ▸ List.mem_map.mpr ⟨x, hx, rfl⟩)
theorem Zz1 {M : Z3} {d y : Nat} {B : List (Nat × Option Nat)} {F : Bool → Prop} (h : Xl M d = some (kv B)) (q : F (decide (y ∈ BF.keys B))) : inQ M (.int y) (.ref d) F :=
 .inr ⟨_, _, h, rfl, by rw [Y29]; exact q⟩
def Zh : DSp := fun ds M Q _ => ∃ (d l i b : Nat) (o : Option Nat) (B : List (Nat × Option Nat)) (E : Nat → Nat → Prop), ds = [.ref d, .int l] ∧ Xl M d = some (kv B) ∧ BF.Ok E b B ∧ B[i]? = some (l, o) ∧ B.length ≤ 1000 ∧
 ∀ W M' r, BF.Way E b l W → Kp M M' → Zc M' r = some (natD W) → M.length ≤ r → Q (.ref r) M'
def Rd1 (gr : List Nd) (one : Nat) : Nat → Nat → Prop := fun p y => y ∈ wy gr p ∧ y ≠ one
section
variable {K : PySem.W.Frag}
theorem Zg6 {Γ G} : RR ⟨K, Γ, G⟩ b_traced Ri Zh := by
 rintro ds M Q Z ⟨d, l, i, b, o, B, E, rfl, hd, ok, hl, hn, q⟩
 simp only [b_traced, Ri]
 walk_at "ev"
 refine ⟨Z0 (by decide), ?_⟩
 refine ⟨fun m σ M' => ∃ T c, σ = [some (.ref d), some (.int l), some (.ref M.length), some (oD c)] ∧ M' = M ++ [.lst (natD T)] ∧ BF.Bk E b l B T c m, ⟨_, [], some l, rfl, rfl, BF.Bk.begin E b hl⟩, ?_⟩
 rintro m σ M' ⟨T, c, rfl, rfl, bk⟩
 cases c with
 | none =>
  simp only [oD]
  walk_at "ev"
  simp only [Pj]
  walk_at "ev"
  refine ⟨Zq (Z9 _ _ []), _, Zg _ _ [], ?_⟩
  rw [Xm]
  try walk_at "ev"
  refine q T.reverse _ _ bk.done (Kp.new _ _) ?_ (Nat.le_refl _)
  rw [Zg]
  unfold natD
  rw [List.map_reverse]
 | some p =>
  obtain ⟨o, m', h0, h1, h2, h3⟩ := bk.step ok
  have sm := bk.small ok
  simp only [oD]
  walk_at "ev"
  simp only [Oc]
  walk_at "ev"
  refine ⟨Zq (Z9 _ _ []), _, Zg _ _ [], by rw [Z8]; exact Zn (by omega), ?_⟩
  rw [Xm, ← Ym]
  try walk_at "ev"
  refine ix_d (Z81 hd) rfl (Zj6 B _ _ _ ok.nd h1) ?_
  exact ⟨m', h2, T ++ [p], o, rfl, rfl, h3⟩
end
def Zk : DSp := fun ds M Q _ => ∃ p y : Nat, ds = [.int p, .int y] ∧ Q (.bl (decide ((p : Int) < (y : Int)))) M
def Al (gr : List Nd) (ok : Nat → Nat → Prop) : Nat → Nat → Prop := fun p y => y ∈ wy gr p ∧ ok p y
def AlD (G : List D) (al : D) (ok : Nat → Nat → Prop) : Prop := (∃ f cc c one, al = .lam f cc c (one : Nat) ∧ ∀ p y, ok p y ↔ y ≠ one) ∨ ∃ A, al = .cls A ∧ G[0]? = some (.cls A) ∧ ∀ p y, ok p y ↔ p < y
def Zw (G : List D) : DSp := fun ds M Q _ => ∃ (a b l : Nat) (al : D) (ok : Nat → Nat → Prop) (gr : List Nd), ds = [.ref a, .int b, .int l, al] ∧ AlD G al ok ∧ Z6 M a = some (gr.map Nd.d) ∧ gr.length ≤ 1000 ∧ GT.Num (wy gr) gr.length ∧ b < gr.length ∧ l < gr.length ∧
 (¬ BF.Rc (Al gr ok) b l → ∀ M', Kp M M' → Q .non M') ∧ ∀ W M' r, BF.Way (Al gr ok) b l W → Kp M M' → Zc M' r = some (natD W) → M.length ≤ r → Q (.ref r) M'
section
variable {K : PySem.W.Frag}
theorem Zh5 {Γ G} : RR ⟨K, Γ, G⟩ b_is_onward Wz Zk := by
 rintro ds M Q Z ⟨p, y, rfl, q⟩
 simp only [b_is_onward, Wz]
 walk_at "ev"
 exact q
theorem Z94 {Γ G} (g0 : Γ[0]? = some Zs) (g1 : Γ[6]? = some Zh) (gO : Γ[7]? = some Zk) : RR ⟨K, Γ, G⟩ b_way_by Rl (Zw G) := by
 rintro ds M Q Z ⟨a, b, l, al, ok_, gr, rfl, hal, hr, hn, num, hb, hl, qn, qw⟩
 simp only [b_way_by, Rl]
 walk_at "ev"
 refine ⟨_, rfl, Vh _ _ [], Z0 (by decide), ?_⟩
 rw [Xm]
 refine ⟨fun m σ M' => ∃ B R N rr d6 d7 d8, m = 2 * (gr.length - B.length) + (if R.isEmpty then 0 else 1) ∧ σ = [some (.ref a), some (.int b), some (.int l), some al, some (.ref M.length), some (.ref (M.length + (rr + 1))), d6, d7, d8] ∧
   M' = M ++ .dct (kv B) :: N ∧ Z6 N rr = some (natD R) ∧ BF.Ok (Al gr ok_) b B ∧ (∀ x ∈ R, x ∈ BF.keys B) ∧ (∀ x ∈ BF.keys B, x < gr.length) ∧ (∀ x ∈ BF.keys B, x ∉ R → ∀ y, Al gr ok_ x y → y ∈ BF.keys B),
  ⟨_, [(b, none)], [b], [.lst [.int b]], 0, none, none, none, rfl, ?_, ?_, rfl, BF.Ok.begin _ _, ?_, ?_, ?_⟩, ?_⟩
 ·rw [List.length_append]; rfl
 ·rw [List.append_assoc]; rfl
 ·simp [BF.keys]
 ·intro x hx
  simp [BF.keys] at hx
  rw [hx]; exact hb
 ·intro x hx hn
  simp [BF.keys] at hx
  exact absurd (by rw [hx]; simp) hn
 rintro m σ M' ⟨B, R, N, rr, d6, d7, d8, rfl, rfl, rfl, hR, ok, hRB, hlt, hcl⟩
 have hBs : B.length ≤ gr.length := by
  have := GT.Wa ok.nd hlt
  rwa [List.length_map] at this
 walk_at "ev"
 refine ⟨Z0 (by decide), ?_⟩
 refine O2 (l := R) (Z5 (by rw [Zs6]; exact hR)) (Z9 _ _ []) ?_
 rw [List.append_assoc, List.cons_append]
 have hR1 : Z6 (N ++ [.lst []]) rr = some (natD R) := Z5 hR
 generalize N ++ [Cell.lst []] = N1 at hR1
 cases R with
 | nil =>
  rw [if_neg (by decide)]
  simp only [Pg]
  walk_at "ev"
  refine Zz1 (Vh _ _ _) ?_
  have all := fun x => ok.all (fun x hx y e => hcl x hx (by simp) y e) x
  by_cases hm : l ∈ BF.keys B
  ·rw [decide_eq_true hm, if_neg (by decide)]
   simp only [O8]
   walk_at "ev"
   simp only [g1]
   obtain ⟨i, o, hi⟩ := BF.Rq.mp hm
   refine ⟨_, l, i, b, o, B, Al gr ok_, rfl, Vh _ _ _, ok, hi, by omega, fun W M' r w k hw hr2 => ?_⟩
   refine qw W M' r w ((Kp.new _ _).trans k) hw ?_
   rw [List.length_append] at hr2
   omega
  ·rw [decide_eq_false hm, if_pos rfl]
   try walk_at "ev"
   exact qn (fun z => hm ((all l).mpr z)) _ (Kp.new _ _)
 | cons r0 R0 =>
  generalize hRR : r0 :: R0 = R at *
  have hne : R.isEmpty = false := by rw [← hRR]; rfl
  rw [if_pos hne]
  simp only [Pp]
  walk_at "ev"
  refine ⟨Z0 (by decide), _, Z5 (by rw [Zs6]; exact hR1), ?_⟩
  rw [List.append_assoc, List.cons_append]
  have el : (M ++ .dct (kv B) :: N1).length = M.length + (N1.length + 1) := by simp
  rw [el]
  have rR : ∀ c' L, Z6 (M ++ c' :: (N1 ++ L)) (M.length + (rr + 1)) = some (natD R) := fun c' L => by rw [Zs6]; exact Z5 hR1
  have wY : ∀ c' L, Zc (M ++ c' :: (N1 ++ [.lst L])) (M.length + (N1.length + 1)) = some L := fun c' L => by rw [Xu]; exact Zg N1 _ []
  have sY : ∀ c' L (e : Cell), (M ++ c' :: (N1 ++ [.lst L])).set (M.length + (N1.length + 1)) e = M ++ c' :: (N1 ++ [e]) := fun c' L e => by rw [Wy, List.set_cons_succ, Xm]
  refine Ys (fun i σ M' => ∃ B' Y d7 d8, σ = [some (.ref a), some (.int b), some (.int l), some al, some (.ref M.length), some (.ref (M.length + (rr + 1))), some (.ref (M.length + (N1.length + 1))), d7, d8] ∧ M' = M ++ .dct (kv B') :: (N1 ++ [.lst (natD Y)]) ∧
   BF.Ok (Al gr ok_) b B' ∧ BF.keys B' = BF.keys B ++ Y ∧ (∀ x ∈ BF.keys B', x < gr.length) ∧ (∀ x ∈ BF.keys B, (x ∉ R ∨ x ∈ R.take i) → ∀ y, Al gr ok_ x y → y ∈ BF.keys B')) ⟨B, [], d7, d8, rfl, rfl, ok, by simp, hlt, fun x hx h => hcl x hx (h.elim id fun z => by simp at z)⟩ ?_ ?_ ?_
  ·rintro i σ M' _ ⟨B', Y, d7, d8, rfl, rfl, _⟩
   exact rR _ _
  ·rintro i dx σ M' C hx ⟨B', Y, d7, d8, rfl, rfl, ok', hk', hlt', hcl'⟩ hC
   have hi : i < R.length := by have := (List.getElem?_eq_some_iff.mp hx).1; rwa [Z8] at this
   have hxi : R[i]? = some R[i] := List.getElem?_eq_getElem hi
   generalize R[i] = x at hxi
   rw [Zp hxi] at hx
   cases hx
   have hxB : x ∈ BF.keys B := hRB x (List.mem_of_getElem? hxi)
   have hxn : x < gr.length := hlt x hxB
   obtain ⟨nd, hd⟩ : ∃ nd, gr[x]? = some nd := ⟨_, List.getElem?_eq_getElem hxn⟩
   simp only [Od]
   walk_at "ev"
   refine ix_l (Z5 hr) (T8 hd) ?_
   simp only [g0]
   refine ⟨nd, rfl, ?_⟩
   walk_at "ev"
   refine Ys (fun j σ M' => ∃ B' Y d8, σ = [some (.ref a), some (.int b), some (.int l), some al, some (.ref M.length), some (.ref (M.length + (rr + 1))), some (.ref (M.length + (N1.length + 1))), some (.int x), d8] ∧ M' = M ++ .dct (kv B') :: (N1 ++ [.lst (natD Y)]) ∧
    BF.Ok (Al gr ok_) b B' ∧ BF.keys B' = BF.keys B ++ Y ∧ (∀ x ∈ BF.keys B', x < gr.length) ∧ (∀ x ∈ BF.keys B, (x ∉ R ∨ x ∈ R.take i) → ∀ y, Al gr ok_ x y → y ∈ BF.keys B') ∧ ∀ y ∈ nd.gs.reverse.take j, ok_ x y → y ∈ BF.keys B') ⟨B', Y, d8, rfl, rfl, ok', hk', hlt', hcl', by simp⟩ (fun _ _ _ _ _ => trivial) ?_ ?_
   ·rintro j dy σ M' C2 hy ⟨B2, Y2, d8, rfl, rfl, ok2, hk2, hlt2, hcl2, hg2⟩ hC2
    have hj : j < nd.gs.reverse.length := by have := (List.getElem?_eq_some_iff.mp hy).1; rwa [Z8] at this
    have hyj : nd.gs.reverse[j]? = some nd.gs.reverse[j] := List.getElem?_eq_getElem hj
    generalize nd.gs.reverse[j] = y at hyj
    rw [Zp hyj] at hy
    cases hy
    have tk := X1 hyj
    have hyx : y ∈ wy gr x := by rw [Q9 hd]; exact List.mem_reverse.mp (List.mem_of_getElem? hyj)
    have stay : (ok_ x y → y ∈ BF.keys B2) → ∀ z ∈ nd.gs.reverse.take (j + 1), ok_ x z → z ∈ BF.keys B2 := by
     intro h z hz
     rw [tk] at hz
     rcases List.mem_append.mp hz with h2 | h2
     ·exact hg2 z h2
     ·rw [List.mem_singleton] at h2; subst h2; exact h
    rcases hal with ⟨f, cc, c, one, rfl, hok⟩ | ⟨A, rfl, hG, hok⟩
    all_goals
     simp only [Po]
     walk_at "ev"
     refine Zz1 (Vh _ _ _) ?_
     by_cases hm : y ∈ BF.keys B2
     ·rw [decide_eq_true hm, if_neg (by decide)]
      try walk_at "ev"
      exact hC2 _ _ ⟨B2, Y2, _, rfl, rfl, ok2, hk2, hlt2, hcl2, stay fun _ => hm⟩
     ·rw [decide_eq_false hm, if_pos (by decide)]
      try walk_at "ev"
      first | (refine ⟨hG, ?_⟩; simp only [gO]; refine ⟨x, y, rfl, ?_⟩) | refine ⟨_, _, rfl, ?_⟩
      try walk_at "ev"
      by_cases ho : ok_ x y
      ·have hc := (hok x y).mp ho
       rw [if_pos (by omega)]
       have ok3 := ok2.more (by rw [hk2]; exact List.mem_append_left _ hxB) ⟨hyx, ho⟩ hm
       have hB3 : B2.length ≤ gr.length := by
        have := GT.Wa ok2.nd hlt2
        rwa [List.length_map] at this
       have hY3 : Y2.length ≤ B2.length := by
        have := congrArg List.length hk2
        unfold BF.keys at this
        rw [List.length_append, List.length_map, List.length_map] at this
        omega
       refine .inr ⟨_, _, Vh _ _ _, rfl, by rw [Zx0]; exact Zn (by omega), ?_⟩
       rw [Xm, Zx2 hm]
       try walk_at "ev"
       refine ⟨Zq (Z2 (wY _ _)), _, wY _ _, by rw [Z8]; exact Zn (by omega), ?_⟩
       rw [sY, ← Ym]
       have hk3 : BF.keys (B2 ++ [(y, some x)]) = BF.keys B ++ (Y2 ++ [y]) := by rw [BF.Tp, hk2, List.append_assoc]
       have up : ∀ z, z ∈ BF.keys B2 → z ∈ BF.keys (B2 ++ [(y, some x)]) := fun z hz => by rw [BF.Tp]; exact List.mem_append_left _ hz
       refine hC2 _ _ ⟨B2 ++ [(y, some x)], Y2 ++ [y], _, rfl, rfl, ok3, hk3, fun z hz => ?_, fun z hz h w e => up w (hcl2 z hz h w e), fun z hz hzo => ?_⟩
       ·rw [BF.Tp, List.mem_append, List.mem_singleton] at hz
        rcases hz with hz | rfl
        ·exact hlt2 z hz
        ·exact num.cl x hxn z hyx
       ·rw [tk] at hz
        rcases List.mem_append.mp hz with h2 | h2
        ·exact up z (hg2 z h2 hzo)
        ·rw [List.mem_singleton] at h2
         subst h2
         rw [BF.Tp]
         simp
      ·have hc := mt (hok x y).mpr ho
       rw [if_neg (by omega)]
       exact hC2 _ _ ⟨B2, Y2, _, rfl, rfl, ok2, hk2, hlt2, hcl2, stay fun z => absurd z ho⟩
   ·rintro σ M' ⟨B2, Y2, d8, rfl, rfl, ok2, hk2, hlt2, hcl2, hg2⟩
    rw [Z8, List.take_length] at hg2
    refine hC _ _ ⟨B2, Y2, _, _, rfl, rfl, ok2, hk2, hlt2, fun z hz h y e => ?_⟩
    rw [X1 hxi, List.mem_append, List.mem_singleton] at h
    rcases h with h | h | rfl
    ·exact hcl2 z hz (.inl h) y e
    ·exact hcl2 z hz (.inr h) y e
    ·refine hg2 y ?_ e.2
     rw [List.mem_reverse, ← Q9 hd]
     exact e.1
  ·rintro σ M' ⟨B', Y, d7, d8, rfl, rfl, ok', hk', hlt', hcl'⟩
   rw [Z8, List.take_length] at hcl'
   simp only [O0]
   walk_at "ev"
   have hBs' : B'.length ≤ gr.length := by
    have := GT.Wa ok'.nd hlt'
    rwa [List.length_map] at this
   have hlen : B'.length = B.length + Y.length := by
    have := congrArg List.length hk'
    unfold BF.keys at this
    rwa [List.length_append, List.length_map, List.length_map] at this
   refine ⟨_, ?_, B', Y, N1 ++ [.lst (natD Y)], N1.length, _, _, _, rfl, rfl, rfl, Z9 N1 _ [], ok', fun x hx => by rw [hk']; exact List.mem_append_right _ hx, hlt', fun x hx hn y e => ?_⟩
   ·rw [hne, if_neg Bool.false_ne_true]
    cases Y with
    | nil => simp only [List.isEmpty_nil, if_true]; rw [List.length_nil] at hlen; omega
    | cons y0 Y0 => simp only [List.isEmpty_cons, Bool.false_eq_true, if_false]; rw [List.length_cons] at hlen; omega
   ·rw [hk', List.mem_append] at hx
    rcases hx with hx | hx
    ·exact hcl' x hx (by by_cases z : x ∈ R; exact .inr z; exact .inl z) y e
    ·exact absurd hx hn
end
theorem Ce {M : Z3} {a b : Nat} {c : Cell} (h : a ≠ b) : Zc (M.set a c) b = Zc M b := by unfold Zc; rw [List.getElem?_set_ne h]
theorem Z41 {M : Z3} {a : Nat} {xs : List D} (h : Zc M a = some xs) : a < M.length := by
 unfold Zc at h
 by_cases z : a < M.length
 ·exact z
 ·rw [List.getElem?_eq_none (by omega)] at h; cases h
theorem Y30 {M : Z3} {a : Nat} {xs : List D} (h : Z6 M a = some xs) : a < M.length := by
 unfold Z6 at h
 by_cases z : a < M.length
 ·exact z
 ·rw [List.getElem?_eq_none (by omega)] at h; cases h
theorem Z69 {M : Z3} {a : Nat} {ys xs : List D} (h : Zc M a = some ys) : Zc (M.set a (.lst xs)) a = some xs := by
 have := Z41 h
 unfold Zc
 rw [List.getElem?_set_self this]
def Dr (M : Z3) (r : Nat) : Prop := ∃ l : List Nat, Zc M r = some (natD l)
structure Ke (r : Nat) (M M' : Z3) : Prop where
 len : M.length ≤ M'.length
 same : ∀ x, x < M.length → x ≠ r → M'[x]? = M[x]?
 dr : Dr M' r
section
variable {r a z : Nat} {M M' M1 M2 : Z3} {xs : List D}
theorem Ke.refl (h : Dr M r) : Ke r M M := ⟨Nat.le_refl _, fun _ _ _ => rfl, h⟩
theorem Ke.trans (h : Ke r M M1) (g : Ke r M1 M2) : Ke r M M2 := ⟨Nat.le_trans h.len g.len, fun x hx hn => by rw [g.same x (Nat.lt_of_lt_of_le hx h.len) hn, h.same x hx hn], g.dr⟩
theorem Ke.app (h : Ke r M M1) (N : Z3) : Ke r M (M1 ++ N) := ⟨by rw [List.length_append]; have := h.len; omega, fun x hx hn => by rw [List.getElem?_append_left (by have := h.len; omega)]; exact h.same x hx hn, by obtain ⟨l, e⟩ := h.dr; exact ⟨l, Y3 e⟩⟩
theorem Ke.kp (h : Ke r M M1) (k : Kp M1 M2) : Ke r M M2 := by obtain ⟨N, rfl⟩ := k; exact h.app N
theorem Ke.W (h : Ke r M M') (hx : a ≠ r) (e : Zc M a = some xs) : Zc M' a = some xs := by
 have := Z41 e
 unfold Zc at e ⊢
 rw [h.same a this hx]
 exact e
theorem Ke.L (h : Ke r M M') (hx : a ≠ r) (e : Z6 M a = some xs) : Z6 M' a = some xs := by
 have := Y30 e
 unfold Z6 at e ⊢
 rw [h.same a this hx]
 exact e
theorem Ke.set (h : Ke r M M') (hz : M.length ≤ z) (hr : z ≠ r) (c : Cell) : Ke r M (M'.set z c) := ⟨by rw [List.length_set]; exact h.len, fun x hx hn => by rw [List.getElem?_set_ne (by omega)]; exact h.same x hx hn, by obtain ⟨l, e⟩ := h.dr; exact ⟨l, by rw [Ce hr]; exact e⟩⟩
theorem Dr.lt (h : Dr M r) : r < M.length := by obtain ⟨l, e⟩ := h; exact Z41 e
theorem Dr.app (h : Dr M r) (N : Z3) : Dr (M ++ N) r := by obtain ⟨l, e⟩ := h; exact ⟨l, Y3 e⟩
theorem Ke.take {l : List Nat} (h : r < M.length) (N : Z3) : Ke r M ((M ++ N).set r (.lst (natD l))) := by
 refine ⟨by rw [List.length_set, List.length_append]; omega, fun x hx hn => ?_, l, ?_⟩
 ·rw [List.getElem?_set_ne (fun e => hn e.symm), List.getElem?_append_left hx]
 ·unfold Zc; rw [List.getElem?_set_self (by rw [List.length_append]; omega)]
end
def Yo : DSp := fun ds M Q _ => ∃ r : Nat, ds = [.ref r] ∧ Dr M r ∧ ∀ (x : Nat) M', Ke r M M' → Q (.int x) M'
def Yj : DSp := fun ds M Q _ => ∃ r : Nat, ds = [.ref r] ∧ Dr M r ∧ ∀ (v : Int) M', Ke r M M' → Q (.int v) M'
section
variable {K : PySem.W.Frag}
theorem Zq6 {Γ G} : RR ⟨K, Γ, G⟩ b_Lnext N9 Yo := by
 rintro ds M Q Z ⟨r, rfl, ⟨l, hl⟩, q⟩
 have hlt := Z41 hl
 simp only [b_Lnext, N9]
 walk_at "ev"
 refine ⟨Z0 (by decide), ?_⟩
 refine O2 (l := l) (Z5 (Z2 hl)) (Z9 _ _ []) ?_
 cases hT : l.isEmpty with
 | true =>
  rw [if_pos rfl]
  exact q 0 _ ((Ke.refl ⟨l, hl⟩).app _)
 | false =>
  rw [if_neg (by decide)]
  have hne : l ≠ [] := by rintro rfl; cases hT
  obtain ⟨l', x, rfl⟩ : ∃ l' x, l = l' ++ [x] := ⟨l.dropLast, l.getLast hne, (List.dropLast_concat_getLast hne).symm⟩
  rw [Ym] at hl
  simp only [Nr]
  walk_at "ev"
  refine ⟨Zq (Z5 (Z2 hl)), _, .int (x : Nat), Y3 hl, by simp, ?_⟩
  rw [List.dropLast_concat]
  exact q x _ (Ke.take hlt _)
theorem Z99 {Γ G} (g12 : Γ[16]? = some Yo) : RR ⟨K, Γ, G⟩ b_Lgreat Rp Yj := by
 rintro ds M Q Z ⟨r, rfl, hd, q⟩
 simp only [b_Lgreat, Rp]
 walk_at "ev"
 simp only [g12]
 refine ⟨r, rfl, hd, fun x M1 k1 => ?_⟩
 walk_at "ev"
 refine ⟨mulR (by decide) (by decide), r, rfl, k1.dr, fun y M2 k2 => ?_⟩
 walk_at "ev"
 exact ⟨⟨by decide, by decide, by decide⟩, mulL (by decide) (by decide), by decide, ⟨by decide, by decide, by decide⟩, q _ _ (k1.trans k2)⟩
end
theorem Z61 {α β : Type} (f : α → β) (xs : List α) (lo hi : Option Int) : U.cutD (xs.map f) lo hi = (U.cutD xs lo hi).map f := by
 unfold U.cutD
 rw [List.length_map, List.map_take, List.map_drop]
theorem Zl7 {α : Type} {xs : List α} (h : 0 < xs.length) {m : Int} (hm : 1 ≤ m) : 0 < (U.cutD xs none (some m)).length := by
 unfold U.cutD
 have e1 : HT.sIx xs.length 0 none = 0 := rfl
 have e2 : HT.sIx xs.length xs.length (some m) = min m.toNat xs.length := by
  show (if m < 0 then (m + (xs.length : Int)).toNat else min m.toNat xs.length) = _
  rw [if_neg (by omega)]
 rw [e1, e2, List.length_take, List.drop_zero]
 omega
theorem Kp.set {M M' : Z3} {r : Nat} (h : Kp M M') (hr : M.length ≤ r) (c : Cell) : Kp M (M'.set r c) := by
 obtain ⟨L, rfl⟩ := h
 exact ⟨L.set (r - M.length) c, by rw [List.set_append_right _ _ hr]⟩
def Yb : DSp := fun ds M Q _ => ∃ (a : Nat) (ns : List Int), ds = [.ref a] ∧ Z6 M a = some (ns.map .int) ∧ ns.length ≤ 63 ∧ ∀ M' r, Dr M' r → Kp M M' → M.length ≤ r → Q (.ref r) M'
section
variable {K : PySem.W.Frag}
theorem Zu0 {α : Type} (xs : List α) (lo hi : Option Int) : (U.cutD xs lo hi).length ≤ xs.length := by
 unfold U.cutD
 rw [List.length_take, List.length_drop]
 omega
theorem Zh7 {Γ G} : RR ⟨K, Γ, G⟩ b_Ldraws Rv Yb := by
 rintro ds M Q Z ⟨a, ns, rfl, ha, hl, q⟩
 simp only [b_Ldraws, Rv]
 walk_at "ev"
 refine ⟨_, ha, _, Z9 M _ [], Z0 (by decide), _, _, Y3 (Zg _ _ []), Zg _ _ [], ?_, Yc (Z5 (Z5 (Z5 (Z5 ha)))) ?_⟩
 ·have := Zu0 (ns.map D.int) none (some 63)
  rw [List.length_map] at this
  exact Z0 (by simp; omega)
 walk_at "ev"
 refine ⟨_, Z9 _ _ [], ?_⟩
 obtain ⟨mx, hmx, emx⟩ : ∃ m : Int, 1 ≤ m ∧ (if (if (63 : Int) < ((ns.map D.int).length : Int) then (63 : Int) else ((ns.map D.int).length : Int)) > 1 then (if (63 : Int) < ((ns.map D.int).length : Int) then (63 : Int) else ((ns.map D.int).length : Int)) else 1) = m := ⟨_, by split <;> omega, rfl⟩
 rw [emx]
 obtain ⟨ys, hys, hy0⟩ : ∃ ys : List Int, U.cutD (U.cutD (ns.map D.int) none (some 63) ++ [.int 0]) none (some mx) = ys.map .int ∧ 0 < ys.length := by
  refine ⟨U.cutD (U.cutD ns none (some 63) ++ [0]) none (some mx), ?_, Zl7 (by simp) hmx⟩
  rw [← Z61, List.map_append, ← Z61]
  rfl
 rw [hys]
 generalize hMd : M ++ [Cell.lst (U.cutD (ns.map D.int) none (some 63))] ++ [Cell.lst (U.cutD (ns.map D.int) none (some 63))] ++ [Cell.lst [D.int 0]] ++ [Cell.lst (U.cutD (ns.map D.int) none (some 63) ++ [D.int 0])] = Md
 have kd : Kp M Md := by rw [← hMd]; exact (((Kp.new _ _).app _).app _).app _
 clear hMd
 have k5 := kd.app [Cell.lst (ys.map D.int)]
 have w5 := Zg Md (ys.map D.int) []
 have he : M.length ≤ Md.length := by obtain ⟨N, rfl⟩ := kd; rw [List.length_append]; omega
 generalize Md ++ [Cell.lst (ys.map D.int)] = M5 at k5 w5
 generalize Md.length = e at w5 he
 obtain ⟨y0, hy⟩ : ∃ y, ys[0]? = some y := ⟨_, List.getElem?_eq_getElem hy0⟩
 have ihy : (ys.map D.int)[0]? = some (.int y0) := by rw [List.getElem?_map, hy]; rfl
 try walk_at "ev"
 refine ix_l (k := 0) (Z2 w5) ihy ?_
 try walk_at "ev"
 generalize decide (qmod y0 2 = 1) = b
 refine ix_l (k := 0) (Z2 w5) ihy ?_
 try walk_at "ev"
 refine ⟨T6 (by decide) (by decide), .inl ⟨_, 0, 0, rfl, w5, by unfold ixN; rw [if_pos (by omega), if_pos (by rw [List.length_map]; omega)]; rfl, ?_⟩⟩
 have w6 : Zc (M5.set e (.lst ((ys.map D.int).set 0 (.int (qdiv y0 2))))) e = some ((ys.set 0 (qdiv y0 2)).map .int) := by rw [Z69 w5, List.map_set]
 have k6 := k5.set he (.lst ((ys.map D.int).set 0 (.int (qdiv y0 2))))
 have l6 : 0 < (ys.set 0 (qdiv y0 2)).length := by rw [List.length_set]; exact hy0
 generalize ys.set 0 (qdiv y0 2) = zs at w6 l6
 generalize M5.set e (.lst ((ys.map D.int).set 0 (.int (qdiv y0 2)))) = M6 at w6 k6
 have le6 := Z41 w6
 have lm6 : M.length ≤ M6.length := by obtain ⟨N, rfl⟩ := k6; rw [List.length_append]; omega
 try walk_at "ev"
 refine ⟨_, Z2 w6, Z0 (by decide), by decide, by decide, ?_⟩
 have e900 : (900 : Int).toNat = 900 := rfl
 rw [e900]
 have wf := Y3 (N := [Cell.lst []]) (Zg M6 (zs.map D.int) [])
 have wg := Zg (M6 ++ [Cell.lst (zs.map D.int)]) [] []
 have we := Y3 (N := [Cell.lst []]) (Y3 (N := [Cell.lst (zs.map D.int)]) w6)
 have k8 := (k6.app [Cell.lst (zs.map D.int)]).app [Cell.lst []]
 generalize M6 ++ [Cell.lst (zs.map D.int)] ++ [Cell.lst []] = M8 at wf wg we k8
 have hgl : (M6 ++ [Cell.lst (zs.map D.int)] : Z3).length = M6.length + 1 := by simp
 rw [hgl] at wg ⊢
 generalize hf : M6.length = f at wf wg le6 lm6
 clear hgl hf
 have nef : e ≠ f := by omega
 have neg : e ≠ f + 1 := by omega
 have nfg : f ≠ f + 1 := by omega
 refine Th (fun i σ M' => ∃ (us : List Int) (fo : List Nat) (d5 d6 d7 : Option D), σ = [some (.ref a), some (.ref e), some (.bl b), some (.ref f), some (.ref (f + 1)), d5, d6, d7] ∧ Kp M M' ∧ Zc M' e = some (zs.map .int) ∧ Zc M' f = some (us.map .int) ∧ us.length = zs.length ∧ Zc M' (f + 1) = some (natD fo) ∧ fo.length = i) ⟨zs, [], none, none, none, rfl, k8, we, wf, rfl, wg, rfl⟩ ?_ ?_
 ·rintro i σ M' C hi ⟨us, fo, d5, d6, d7, rfl, kp, we, wf, hul, wg, hfo⟩ hC
  have fin : ∀ (M2 : Z3) (us : List Int) (nn : Nat) (d5 d6 : Option D) bk, Kp M M2 → Zc M2 e = some (zs.map .int) → Zc M2 f = some (us.map .int) → us.length = zs.length → Zc M2 (f + 1) = some (natD fo) → tss ⟨K, Γ, G⟩ noX Vr { nx := C, rt := Q, bk := bk, ct := C } [some (.ref a), some (.ref e), some (.bl b), some (.ref f), some (.ref (f + 1)), d5, d6, some (.int nn)] M2 := by
   intro M2 us nn d5 d6 bk kp we wf hul wg
   simp only [Vr]
   walk_at "ev"
   refine ⟨Zq (Z2 wg), _, wg, by rw [Z8]; exact Zn (by omega), ?_⟩
   rw [← Ym]
   refine hC _ _ ⟨us, fo ++ [nn], _, _, _, rfl, kp.set (by omega) _, by rw [Ce (Ne.symm neg)]; exact we, by rw [Ce (Ne.symm nfg)]; exact wf, hul, Z69 wg, by rw [List.length_append, hfo]; rfl⟩
  simp only [O7, Int.zero_add]
  walk_at "ev"
  refine Yc (Z2 we) ?_
  rw [List.length_map]
  walk_at "ev"
  refine ⟨by omega, ?_⟩
  rw [qm (show (0 : Int) < zs.length by omega)]
  have m1 := Int.emod_nonneg (i : Int) (show (zs.length : Int) ≠ 0 by omega)
  have m2 := Int.emod_lt_of_pos (i : Int) (show (0 : Int) < zs.length by omega)
  obtain ⟨p, hp, ep⟩ : ∃ p : Nat, p < zs.length ∧ (i : Int) % zs.length = p := ⟨((i : Int) % zs.length).toNat, by omega, by omega⟩
  rw [ep]
  obtain ⟨u, hu⟩ : ∃ u, us[p]? = some u := ⟨_, List.getElem?_eq_getElem (by omega)⟩
  obtain ⟨v, hv⟩ : ∃ v, zs[p]? = some v := ⟨_, List.getElem?_eq_getElem hp⟩
  have ihu : (us.map D.int)[p]? = some (.int u) := by rw [List.getElem?_map, hu]; rfl
  have ihv : (zs.map D.int)[p]? = some (.int v) := by rw [List.getElem?_map, hv]; rfl
  refine ix_l (Z2 wf) ihu ?_
  rw [op_mod_i, qm (show (0 : Int) < 2147483629 by decide)]
  refine ⟨by decide, ?_⟩
  try walk_at "ev"
  have nat : ∀ (c j : Int), 0 < j → ∃ n : Nat, c % j = (n : Int) ∧ (n : Int) < j := fun c j hj => ⟨(c % j).toNat, by have := Int.emod_nonneg c (show j ≠ 0 by omega); omega, by have := Int.emod_nonneg c (show j ≠ 0 by omega); have := Int.emod_lt_of_pos c hj; omega⟩
  obtain ⟨n0, e0, _⟩ := nat u 2147483629 (by decide)
  rw [e0]
  have els : ∀ (M2 : Z3) (bk : DEnv → Z3 → Prop), Kp M M2 → Zc M2 e = some (zs.map .int) → Zc M2 f = some (us.map .int) → Zc M2 (f + 1) = some (natD fo) →
    ixD M2 (D.ref e) (D.int p) fun d => U.opD Op.mod d (D.int 2147483629) M2 fun x M1 => U.opD Op.mul x (D.int 48271) M1 fun x M1 => IntMulOk 7919 i ∧ IntMulOk (7919 * i) i ∧
     U.opD Op.add x (D.int (7919 * i * i)) M1 fun x M1 => U.opD Op.add x (D.int 104729) M1 fun x M1 => U.opD Op.mod x (D.int 2147483647) M1 fun d M1 => U.opD Op.mul d d M1 fun x M1 => U.opD Op.mod x (D.int 2147483629) M1 fun d M1 =>
     U.opD Op.mul d (D.int 69621) M1 fun x M1 => IntMulOk 3571 i ∧ U.opD Op.add x (D.int (3571 * i)) M1 fun x M1 => U.opD Op.mod x (D.int 2147483563) M1 fun x M1 => U.opD Op.mul x d M1 fun x M1 => U.opD Op.mod x (D.int 2147483629) M1 fun d M1 =>
     tss ⟨K, Γ, G⟩ noX Vr { nx := C, rt := Q, bk := bk, ct := C } [some (.ref a), some (.ref e), some (.bl b), some (.ref f), some (.ref (f + 1)), some (.int i), some (.int p), some d] M1 := by
   intro M2 bk kp we wf wg
   refine ix_l (Z2 we) ihv ?_
   walk_at "ev"
   rw [qm (show (0 : Int) < 2147483647 by decide)]
   refine ⟨mulR (by decide) (by decide), mulL (by decide) (by decide), mulR (by omega) (by omega), ?_⟩
   obtain ⟨n1, e1, b1⟩ := nat (qmod v 2147483629 * 48271 + 7919 * (i : Int) * (i : Int) + 104729) 2147483647 (by decide)
   rw [e1]
   refine ⟨mulR (by omega) (by omega), ?_⟩
   rw [qm (show (0 : Int) < 2147483629 by decide)]
   obtain ⟨n2, e2, b2⟩ := nat ((n1 : Int) * (n1 : Int)) 2147483629 (by decide)
   rw [e2]
   refine ⟨mulR (by decide) (by decide), mulL (by decide) (by decide), mulR (by omega) (by omega), ?_⟩
   rw [qm (show (0 : Int) < 2147483629 by decide)]
   obtain ⟨n3, e3, b3⟩ := nat (qmod ((n2 : Int) * 69621 + 3571 * (i : Int)) 2147483563 * (n2 : Int)) 2147483629 (by decide)
   rw [e3]
   exact fin _ us n3 _ _ _ kp we wf hul wg
  cases b with
  | false =>
   try walk_at "ev"
   exact els M' _ kp we wf wg
  | true =>
   try walk_at "ev"
   refine ix_l (Z2 wf) ihu ?_
   try walk_at "ev"
   refine ⟨Z0 (by decide), .inl ⟨_, Z9 M' _ [], rfl, rfl, ?_⟩⟩
   generalize inD (D.int u) [D.int 0, D.int (-1)] = cc
   show (if cc = false then _ else _)
   split
   ·refine ix_l (Z5 (Z2 wf)) ihu ?_
    try walk_at "ev"
    refine ⟨T6 (by decide) (by decide), .inl ⟨_, p, p, rfl, Y3 wf, by unfold ixN; rw [if_pos (by omega), if_pos (by rw [List.length_map]; omega)]; rfl, ?_⟩⟩
    refine fin _ (us.set p (qdiv u 2147483629)) n0 _ _ _ ((kp.app _).set (by omega) _) (by rw [Ce (Ne.symm nef)]; exact Y3 we) (by rw [Z69 (Y3 wf), List.map_set]) (by rw [List.length_set]; exact hul) (by rw [Ce nfg]; exact Y3 wg)
   ·exact els _ _ (kp.app _) (Y3 we) (Y3 wf) (Y3 wg)
 ·rintro σ M' ⟨us, fo, d5, d6, d7, rfl, kp, we, wf, hul, wg, hfo⟩
  simp only [O5]
  walk_at "ev"
  refine ⟨natD fo, Z2 wg, ?_⟩
  refine q _ _ ⟨fo.reverse, ?_⟩ (kp.app _) ?_
  ·rw [show natD fo.reverse = (natD fo).reverse by unfold natD; rw [List.map_reverse]]
   exact Zg _ _ []
  ·obtain ⟨N, rfl⟩ := kp; rw [List.length_append]; omega
end
def Yk : DSp := fun ds M Q _ => ∃ (r : Nat) (m : Int) (k n : Nat), ds = [.ref r, .int k, .int n, .int m] ∧ Dr M r ∧ k < n ∧ n ≤ 1000 ∧ ∀ (t : Nat) M', t < n → Ke r M M' → Q (.int t) M'
def Xj : DSp := fun ds M Q _ => ∃ (r : Nat) (m : Int) (k n : Nat), ds = [.ref r, .int k, .int n, .int m] ∧ Dr M r ∧ k < n ∧ n ≤ 1000 ∧ ∀ (d : Nd) M', (∀ t ∈ d.gs, t < n) → d.ok = true → Ke r M M' → Q d.d M'
section
variable {K : PySem.W.Frag}
theorem Y23 {Γ G} {M : Z3} {Q : DK} {c m : Int} {rr : D} {k n : Nat} {d : Option D} (hk : k < n) (hn : n ≤ 1000) (q : ∀ (t : Nat) M', t < n → Kp M M' → Q (.int t) M') :
  tss ⟨K, Γ, G⟩ noX Ox { nx := fun _ M => Q .non M, rt := Q } [some rr, some (.int k), some (.int n), some (.int m), some (.int c), d] M := by
 have qn : ∀ (i : Int) M', 0 ≤ i → i < n → Kp M M' → Q (.int i) M' := fun i M' a b k => by
  have := q i.toNat M' (by omega) k
  rwa [Int.toNat_of_nonneg a] at this
 have l1 : tss ⟨K, Γ, G⟩ noX N7 { nx := fun _ M => Q .non M, rt := Q } [some rr, some (.int k), some (.int n), some (.int m), some (.int c), d] M := by
  simp only [N7]
  try walk_at "ev"
  have hp : (0 : Int) < n := by omega
  rw [qm hp]
  exact ⟨by omega, qn _ _ (Int.emod_nonneg _ (by omega)) (Int.emod_lt_of_pos _ hp) (Kp.refl M)⟩
 have l2 : tss ⟨K, Γ, G⟩ noX N5 { nx := fun _ M => Q .non M, rt := Q } [some rr, some (.int k), some (.int n), some (.int m), some (.int c), d] M := by
  simp only [N5]
  try walk_at "ev"
  split
  ·rw [qm (show (0 : Int) < 4 by decide), qd (show (0 : Int) < 2 by decide)]
   have r1 := Int.emod_nonneg (c / 2) (show (4 : Int) ≠ 0 by decide)
   have r2 := Int.emod_lt_of_pos (c / 2) (show (0 : Int) < 4 by decide)
   refine ⟨Z0 (by decide), T6 (by decide) (by decide), ?_⟩
   obtain ⟨d', e1, e2⟩ := Zp3 (xs := [.int 1, .int 2, .int 4, .int 8]) r1 (by simpa using r2)
   refine N6 (Z9 M _ []) e1 ?_
   simp only [List.mem_cons, List.not_mem_nil, or_false] at e2
   have kk := Kp.new M [.lst [.int 1, .int 2, .int 4, .int 8]]
   have fin : ∀ j : Int, 0 < j → U.opD .mod (.int k) (.int j) (M ++ [.lst [.int 1, .int 2, .int 4, .int 8]]) (fun x M1 => U.opD .sub (.int k) x M1 Q) := by
    intro j hj
    rw [op_mod_i, op_sub_i, qm hj]
    have a1 := Int.emod_nonneg (k : Int) (show j ≠ 0 by omega)
    have a2 : (k : Int) % j ≤ k := by
     have := Int.emod_add_mul_ediv (k : Int) j
     have h2 : 0 ≤ j * ((k : Int) / j) := Int.mul_nonneg (by omega) (Int.ediv_nonneg (by omega) (by omega))
     omega
    exact ⟨by omega, qn _ _ (by omega) (by omega) kk⟩
   rcases e2 with rfl | rfl | rfl | rfl <;> exact fin _ (by decide)
  ·exact l1
 simp only [Ox]
 try walk_at "ev"
 have r1 := Int.emod_nonneg (c / 2) (show (3 : Int) ≠ 0 by decide)
 have mn : ∀ x : Int, 0 ≤ x → 0 ≤ (if (n : Int) - 1 < x then (n : Int) - 1 else x) ∧ (if (n : Int) - 1 < x then (n : Int) - 1 else x) < n := by
  intro x hx
  split <;> omega
 split
 ·split
  ·rw [qm (show (0 : Int) < 3 by decide), qd (show (0 : Int) < 2 by decide)]
   refine ⟨T6 (by decide) (by decide), ?_⟩
   obtain ⟨b1, b2⟩ := mn ((k : Int) + 1 + c / 2 % 3) (by omega)
   exact qn _ _ b1 b2 (Kp.refl M)
  ·exact l2
 ·exact l2
theorem Zv8 {Γ G} (g12 : Γ[16]? = some Yo) : RR ⟨K, Γ, G⟩ b_Lfar Fi Yk := by
 rintro ds M Q Z ⟨r, m, k, n, rfl, hd, hk, hn, q⟩
 simp only [b_Lfar, Fi]
 try walk_at "ev"
 try simp only [g12]
 refine ⟨r, rfl, hd, fun x M1 k1 => ?_⟩
 generalize (x : Int) = c
 have q1 : ∀ (t : Nat) M', t < n → Kp M1 M' → Q (.int t) M' := fun t M' ht kp => q t M' ht (k1.kp kp)
 try walk_at "ev"
 split
 ·have hp : (0 : Int) < (n : Int) - k := by omega
  rw [qd (by decide), qm hp]
  have a1 := Int.emod_nonneg (c / 2) (show (n : Int) - k ≠ 0 by omega)
  have a2 := Int.emod_lt_of_pos (c / 2) hp
  refine ⟨T6 (by decide) (by decide), by omega, ?_⟩
  generalize c / 2 % ((n : Int) - k) = u at a1 a2
  split
  ·have := q1 ((k : Int) + 1 + u).toNat M1 (by omega) (Kp.refl M1)
   rwa [Int.toNat_of_nonneg (by omega)] at this
  ·simp only [Ea]
   try walk_at "ev"
   rw [qm (by decide)]
   have r1 := Int.emod_nonneg c (show (2 : Int) ≠ 0 by decide)
   have r2 := Int.emod_lt_of_pos c (show (0 : Int) < 2 by decide)
   refine ⟨Z0 (by decide), ?_⟩
   obtain ⟨d', e1, e2⟩ := Zp3 (xs := [.int 0, .int k]) r1 (by simpa using r2)
   refine N6 (Z9 M1 _ []) e1 ?_
   simp only [List.mem_cons, List.not_mem_nil, or_false] at e2
   rcases e2 with rfl | rfl
   ·exact q1 0 _ (by omega) (Kp.new M1 _)
   ·exact q1 k _ hk (Kp.new M1 _)
 ·exact Y23 hk hn q1
theorem Zo6 {Γ G} (g12 : Γ[16]? = some Yo) (g18 : Γ[18]? = some Yk) : RR ⟨K, Γ, G⟩ b_Lnear Ot Yk := by
 rintro ds M Q Z ⟨r, m, k, n, rfl, hd, hk, hn, q⟩
 simp only [b_Lnear, Ot]
 try walk_at "ev"
 try simp only [g12, g18]
 refine ⟨r, rfl, hd, fun x M1 k1 => ?_⟩
 try walk_at "ev"
 split
 ·refine ⟨r, m, k, n, rfl, k1.dr, hk, hn, fun t M2 ht k2 => q t M2 ht (k1.trans k2)⟩
 ·simp only [Jd]
  try walk_at "ev"
  split
  ·have := q (n - 1) M1 (by omega) k1
   rwa [show ((n - 1 : Nat) : Int) = (n : Int) - 1 by omega] at this
  ·have := q (k + 1) M1 (by omega) k1
   rwa [show ((k + 1 : Nat) : Int) = (k : Int) + 1 by omega] at this
def nmsD : List D := [.str "x", .str "y", .str "z1", .str "z"]
theorem Z07 {d : D} (h : d ∈ nmsD) : ∃ x, d = .str x ∧ PyData.canLay0 (.str x) = true := Z76 (xs := ["x", "y", "z1", "z"]) h (by decide +kernel)
theorem Zk5 {Γ G} (g12 : Γ[16]? = some Yo) (g18 : Γ[18]? = some Yk) (g19 : Γ[19]? = some Yk) {M : Z3} {Q : DK} {r nm k n : Nat} {m u : Int} {o1 o2 : Opd} {d8 d9 : Option D} (hnm : nm ≠ r) (nmL : Z6 M nm = some nmsD) (hd : Dr M r) (hk : k < n) (hn : n ≤ 1000) (ok1 : o1.ok = true) (ok2 : o2.ok = true)
  (q : ∀ (d : Nd) M', (∀ t ∈ d.gs, t < n) → d.ok = true → Ke r M M' → Q d.d M') :
  tss ⟨K, Γ, G⟩ noX Qq { nx := fun _ M => Q .non M, rt := Q } [some (.ref r), some (.int k), some (.int n), some (.int m), some (.ref nm), some (.int u), some o1.d, some o2.d, d8, d9] M := by
 have hne : M.length ≠ r := by have := hd.lt; omega
 simp only [Qq]
 try walk_at "ev"
 try simp only [g12, g18, g19]
 split
 ·refine ⟨Z0 (by decide), r, rfl, hd.app _, fun x M1 k1 => ?_⟩
  have K1 := ((Ke.refl hd).app _).trans k1
  try walk_at "ev"
  refine Tu (k1.L hne (Z9 M _ [])) rfl (by decide) fun d4 h4 => ?_
  obtain ⟨sg, rfl, ok_sg⟩ := Z76 (xs := ["+", "-", "/", "rest", "&", "^"]) h4 (by decide +kernel)
  try walk_at "ev"
  try simp only [g12, g18, g19]
  refine ⟨r, rfl, K1.dr, fun x2 M2 k2 => ?_⟩
  try walk_at "ev"
  refine Tu (k2.L hnm (K1.L hnm nmL)) rfl (by decide) fun d5 h5 => ?_
  obtain ⟨x5, rfl, ok_x5⟩ := Z07 h5
  refine ⟨r, m, k, n, rfl, k2.dr, hk, hn, fun t M3 ht k3 => ?_⟩
  refine ⟨Z0 (by decide), q (.sum x5 o1 sg o2 t) _ ?_ (by simp only [Nd.ok, ok_x5, ok1, ok_sg, ok2, Bool.and_self]) ((K1.trans k2).trans k3)⟩
  intro y hy
  simp only [Nd.gs, List.mem_singleton] at hy
  omega
 ·simp only [Nj]
  try walk_at "ev"
  try simp only [g12, g18, g19]
  refine ⟨Z0 (by decide), r, rfl, hd.app _, fun x M1 k1 => ?_⟩
  have K1 := ((Ke.refl hd).app _).trans k1
  try walk_at "ev"
  refine Tu (k1.L hne (Z9 M _ [])) rfl (by decide) fun d4 h4 => ?_
  obtain ⟨sg, rfl, ok_sg⟩ := Z76 (xs := ["<", "="]) h4 (by decide +kernel)
  try walk_at "ev"
  try simp only [g12, g18, g19]
  refine ⟨r, m, k, n, rfl, K1.dr, hk, hn, fun t M2 ht k2 => ?_⟩
  try walk_at "ev"
  try simp only [g12, g18, g19]
  refine ⟨r, m, k, n, rfl, k2.dr, hk, hn, fun t2 M3 ht2 k3 => ?_⟩
  refine ⟨Z0 (by decide), q (.test o1 sg o2 t t2) _ ?_ (by simp only [Nd.ok, ok1, ok_sg, ok2, Bool.and_self]) ((K1.trans k2).trans k3)⟩
  intro y hy
  simp only [Nd.gs, List.mem_cons, List.not_mem_nil, or_false] at hy
  omega
theorem Zk4 {Γ G} (g12 : Γ[16]? = some Yo) (g14 : Γ[17]? = some Yj) (g18 : Γ[18]? = some Yk) (g19 : Γ[19]? = some Yk) {M : Z3} {Q : DK} {r nm k n : Nat} {m u : Int} {o1 : Opd} {d7 d8 d9 : Option D} (hnm : nm ≠ r) (nmL : Z6 M nm = some nmsD) (hd : Dr M r) (hk : k < n) (hn : n ≤ 1000) (ok1 : o1.ok = true)
  (q : ∀ (d : Nd) M', (∀ t ∈ d.gs, t < n) → d.ok = true → Ke r M M' → Q d.d M') :
  tss ⟨K, Γ, G⟩ noX Qz { nx := fun _ M => Q .non M, rt := Q } [some (.ref r), some (.int k), some (.int n), some (.int m), some (.ref nm), some (.int u), some o1.d, d7, d8, d9] M := by
 simp only [Qz]
 try walk_at "ev"
 try simp only [g12, g14]
 refine ⟨r, rfl, hd, fun x M1 k1 => ?_⟩
 try walk_at "ev"
 refine Tu (k1.L hnm nmL) rfl (by decide) fun d4 h4 => ?_
 obtain ⟨x4, rfl, ok_x4⟩ := Z07 h4
 try walk_at "ev"
 try simp only [g12, g14]
 refine ⟨r, rfl, k1.dr, fun x2 M2 k2 => ?_⟩
 have K2 := k1.trans k2
 try walk_at "ev"
 split
 ·try simp only [g14]
  refine ⟨r, rfl, k2.dr, fun v M3 k3 => ?_⟩
  try walk_at "ev"
  exact Zk5 (o2 := .no v) g12 g18 g19 hnm (k3.L hnm (K2.L hnm nmL)) k3.dr hk hn ok1 rfl fun d M' a b c => q d M' a b ((K2.trans k3).trans c)
 ·exact Zk5 (o2 := .nm x4) g12 g18 g19 hnm (K2.L hnm nmL) K2.dr hk hn ok1 ok_x4 fun d M' a b c => q d M' a b (K2.trans c)
theorem Zn0 {Γ G} (g12 : Γ[16]? = some Yo) (g14 : Γ[17]? = some Yj) (g18 : Γ[18]? = some Yk) (g19 : Γ[19]? = some Yk) : RR ⟨K, Γ, G⟩ b_Lnode Ol Xj := by
 rintro ds M Q Z ⟨r, m, k, n, rfl, hd, hk, hn, q⟩
 have hnm : M.length ≠ r := by have := hd.lt; omega
 simp only [b_Lnode, Ol]
 try walk_at "ev"
 try simp only [g12]
 refine ⟨Z0 (by decide), r, rfl, hd.app _, fun x M1 k1 => ?_⟩
 have K1 := ((Ke.refl hd).app _).trans k1
 have nmL : Z6 M1 M.length = some nmsD := k1.L hnm (Z9 M _ [])
 have r1 := Int.emod_nonneg (x : Int) (show (32 : Int) ≠ 0 by decide)
 have r2 := Int.emod_lt_of_pos (x : Int) (show (0 : Int) < 32 by decide)
 try walk_at "ev"
 rw [qm (show (0 : Int) < 32 by decide)]
 generalize (x : Int) % 32 = u at r1 r2
 split
 ·rename_i hu
  refine ⟨Z0 (by decide), Z0 (by decide), Z0 (by decide), pick (Z9 _ _ []) (by omega) (by simp only [List.length_cons, List.length_nil]; omega) fun d6 h6 => ?_⟩
  simp only [List.mem_cons, List.not_mem_nil, or_false] at h6
  rcases h6 with rfl | rfl
  ·exact q .fin _ (fun y hy => by cases hy) rfl (K1.app _)
  ·exact q .spin _ (fun y hy => by cases hy) rfl (K1.app _)
 ·simp only [G1]
  try walk_at "ev"
  try simp only [g12]
  refine ⟨r, rfl, k1.dr, fun x2 M2 k2 => ?_⟩
  try walk_at "ev"
  refine Tu (k2.L hnm nmL) rfl (by decide) fun d4 h4 => ?_
  obtain ⟨x4, rfl, ok_x4⟩ := Z07 h4
  try walk_at "ev"
  try simp only [g12]
  refine ⟨r, rfl, k2.dr, fun x3 M3 k3 => ?_⟩
  have K3 := k2.trans k3
  try walk_at "ev"
  split
  ·try simp only [g12]
   refine ⟨r, rfl, k3.dr, fun v M4 k4 => ?_⟩
   try walk_at "ev"
   exact Zk4 (o1 := .no _) g12 g14 g18 g19 hnm (k4.L hnm (K3.L hnm nmL)) k4.dr hk hn rfl fun d M' a b c => q d M' a b ((K1.trans (K3.trans k4)).trans c)
  ·exact Zk4 (o1 := .nm x4) g12 g14 g18 g19 hnm (K3.L hnm nmL) K3.dr hk hn ok_x4 fun d M' a b c => q d M' a b ((K1.trans K3).trans c)
end
def Xe : DSp := fun ds M Q _ => ∃ (r most : Nat), ds = [.ref r, .int most] ∧ Dr M r ∧ 0 < most ∧ most ≤ 40 ∧
 ∀ (gr : List Nd) M' z, GT.Num (wy gr) gr.length → ND.Ends (wy gr) 0 (List.range gr.length).reverse → gr.length ≤ most → (∀ d ∈ gr, d.ok = true) → Ke r M M' → Zc M' z = some (gr.map Nd.d) → M.length ≤ z → Q (.ref z) M'
section
variable {K : PySem.W.Frag}
theorem Ze5 {Γ G} (g12 : Γ[16]? = some Yo) (g20 : Γ[20]? = some Xj) (g23 : Γ[23]? = some Xc) : RR ⟨K, Γ, G⟩ b_Ldrawn Rk Xe := by
 rintro ds M Q Z ⟨r, most, rfl, hd, h0, h40, q⟩
 simp only [b_Ldrawn, Rk]
 try walk_at "ev"
 try simp only [g12]
 refine ⟨r, rfl, hd, fun x M1 k1 => ?_⟩
 try walk_at "ev"
 refine ⟨by omega, ?_⟩
 rw [qm (show (0 : Int) < most by omega)]
 have r1 := Int.emod_nonneg (x : Int) (show (most : Int) ≠ 0 by omega)
 have r2 := Int.emod_lt_of_pos (x : Int) (show (0 : Int) < most by omega)
 obtain ⟨many, hm0, hm1, e⟩ : ∃ many : Nat, 0 < many ∧ many ≤ most ∧ (1 : Int) + (x : Int) % most = many := ⟨(1 + (x : Int) % most).toNat, by omega, by omega, by omega⟩
 rw [e]
 try simp only [g12]
 refine ⟨r, rfl, k1.dr, fun y M2 k2 => ?_⟩
 have K2 := k1.trans k2
 have hne : M2.length ≠ r := by have := K2.dr.lt; omega
 try walk_at "ev"
 generalize qmod (y : Int) 3 = mo
 refine ⟨by omega, by omega, ?_⟩
 simp only [capD, List.map_cons, List.map_nil, Option.bind_none, Option.bind_some, List.getElem?_cons_zero, List.getElem?_cons_succ, Option.join_some]
 refine Oq (fun i σ M' => ∃ d nds, σ = [d, some (.ref r), some (.int many), some (.int mo)] ∧ Ke r M2 M' ∧ Zc M' M2.length = some (nds.map Nd.d) ∧ nds.length = i ∧ (∀ x ∈ nds, ∀ t ∈ x.gs, t < many) ∧ ∀ x ∈ nds, x.ok = true) ⟨none, [], rfl, (Ke.refl K2.dr).app _, Zg _ _ [], rfl, by simp, by simp⟩ (fun _ _ _ _ _ => trivial) ?_ ?_
 ·rintro i dx σ M' C hx ⟨d, nds, rfl, ke, hw, hlen, hgs, hok⟩ hC
  have hi : i < many := by
   have := (List.getElem?_eq_some_iff.mp hx).1
   rw [W9] at this
   omega
  rw [G0 (by omega)] at hx
  cases hx
  simp only [Int.zero_add]
  try walk_at "ev"
  try simp only [g20]
  refine ⟨r, mo, i, many, rfl, ke.dr, hi, by omega, fun nd M3 gs ok k3 => ?_⟩
  have hw3 := k3.W hne hw
  refine ⟨_, hw3, by rw [List.length_map]; exact Zn (by omega), ?_⟩
  refine hC _ _ ⟨_, nds ++ [nd], rfl, (ke.trans k3).set (Nat.le_refl _) hne _, by rw [Z69 hw3, List.map_append]; rfl, by rw [List.length_append, hlen]; rfl, fun x hx => ?_, fun x hx => ?_⟩
  ·rcases List.mem_append.mp hx with h | h
   ·exact hgs x h
   ·rw [List.mem_singleton] at h; subst h; exact gs
  ·rcases List.mem_append.mp hx with h | h
   ·exact hok x h
   ·rw [List.mem_singleton] at h; subst h; exact ok
 ·rintro σ M' ⟨d, nds, rfl, ke, hw, hlen, hgs, hok⟩
  rw [W9, Int.toNat_natCast] at hlen
  try simp only [g23]
  refine ⟨_, nds, rfl, Z2 hw, by omega, by omega, by rw [hlen]; exact hgs, hok, fun gr M3 z n1 ne n2 n3 k3 hw3 hz => ?_⟩
  refine q gr M3 z n1 ne (by omega) n3 ((K2.trans ke).kp k3) hw3 ?_
  have := (K2.trans ke).len
  omega
end
def optD : Option Nat → D
 | none => .non
 | some m => .int (m : Nat)
def tf (tl : List (Option Nat)) (x : Nat) : Option Nat := (tl[x]?).join
theorem Z97 {tl : List (Option Nat)} {x : Nat} (h : x < tl.length) : (tl.map optD)[x]? = some (optD (tf tl x)) := by
 unfold tf
 rw [List.getElem?_map, List.getElem?_eq_getElem h]
 rfl
theorem Zy9 {tl : List (Option Nat)} {k m : Nat} (h : k < tl.length) : tf (tl.set k (some m)) = GT.set1 (tf tl) k m := by
 funext x
 unfold tf
 by_cases e : x = k
 ·subst e; rw [List.getElem?_set_self h, GT.Yp]; rfl
 ·rw [List.getElem?_set_ne (Ne.symm e), GT.Y5 e]
def told (t : Nat → Option Nat) (p : Nat) : Bool := p == 0 || (t p).isSome
theorem Tt {t : Nat → Option Nat} {p : Nat} : told t p = true ↔ p = 0 ∨ (t p).isSome = true := by unfold told; rw [Bool.or_eq_true, beq_iff_eq]
def S8 (t : Nat → Option Nat) (l : List Nat) : List Nat := l.filter (told t)
theorem Fz {t : Nat → Option Nat} {l : List Nat} {i p : Nat} (h : l[i]? = some p) (hp : told t p = true) : S8 t (l.take (i + 1)) = S8 t (l.take i) ++ [p] := by
 unfold S8; rw [X1 h, List.filter_append, List.filter_cons_of_pos hp]; rfl
theorem Zq5 {t : Nat → Option Nat} {l : List Nat} {i p : Nat} (h : l[i]? = some p) (hp : ¬ told t p = true) : S8 t (l.take (i + 1)) = S8 t (l.take i) := by
 unfold S8; rw [X1 h, List.filter_append, List.filter_cons_of_neg hp]; simp
def mu (n : Nat) (tl : List (Option Nat)) : Nat := (tl.map fun o => o.getD (n + 1)).sum
theorem Z73 : ∀ (l : List Nat) (k v : Nat) (h : k < l.length), (l.set k v).sum + l[k] = l.sum + v
 | x :: r, 0, v, _ => by simp; omega
 | x :: r, k + 1, v, h => by
  have := Z73 r k v (by simpa using h)
  simp only [List.set_cons_succ, List.sum_cons, List.getElem_cons_succ]
  omega
theorem Zz5 {n : Nat} {tl : List (Option Nat)} {k m : Nat} (h : k < tl.length) (hm : m ≤ n) (lt : ∀ u, tf tl k = some u → m < u) : mu n (tl.set k (some m)) < mu n tl := by
 unfold mu
 rw [List.map_set]
 have hl : k < (tl.map fun o => o.getD (n + 1)).length := by rw [List.length_map]; exact h
 have := Z73 (tl.map fun o => o.getD (n + 1)) k ((some m).getD (n + 1)) hl
 rw [List.getElem_map] at this
 have e : tf tl k = tl[k] := by unfold tf; rw [List.getElem?_eq_getElem h]; rfl
 rw [e] at lt
 cases h2 : tl[k] with
 | none => rw [h2] at this; simp only [Option.getD_none, Option.getD_some] at this ⊢; omega
 | some u =>
  have h3 := lt u h2
  rw [h2] at this
  simp only [Option.getD_some] at this ⊢
  omega
def J8 (ms : List Nat) : List D := .non :: natD ms
def Sh (g : Nat → List Nat) (n : Nat) (ms : List Nat) : Prop := ms.length + 1 = n ∧ ∀ (k m : Nat), ms[k]? = some m → GT.Must g (k + 1) m
def Zz : DSp := fun ds M Q _ => ∃ (a one other n : Nat) (g : Nat → List Nat) (tl : List (Option Nat)), ds = [.ref a, .int one, .int other] ∧ Z6 M a = some (tl.map optD) ∧ tl.length = n ∧ GT.Tr g n (tf tl) ∧ told (tf tl) one = true ∧ told (tf tl) other = true ∧
 ∀ r, (∀ c, GT.Ch (tf tl) r c ↔ (GT.Ch (tf tl) one c ∧ GT.Ch (tf tl) other c)) → told (tf tl) r = true → Q (.int (r : Nat)) M
def Za : DSp := fun ds M Q _ => ∃ (a b n : Nat) (g : Nat → List Nat) (tl : List (Option Nat)) (l : List Nat), ds = [.ref a, .ref b] ∧ Z6 M a = some (tl.map optD) ∧ Z6 M b = some (natD l) ∧ tl.length = n ∧ 0 < n ∧ (∀ p ∈ l, p < n) ∧ GT.Tr g n (tf tl) ∧
 ∀ o, ((o = none ∧ S8 (tf tl) l = []) ∨ ∃ r, o = some r ∧ GT.Lca (tf tl) (S8 (tf tl) l) r) → Q (optD o) M
def Zm : DSp := fun ds M Q _ => ∃ (a : Nat) (gr : List Nd), ds = [.ref a] ∧ Z6 M a = some (gr.map Nd.d) ∧ gr.length ≤ 1000 ∧ GT.Num (wy gr) gr.length ∧
 ∀ ms M' r, Sh (wy gr) gr.length ms → Kp M M' → Zc M' r = some (J8 ms) → M.length ≤ r → Q (.ref r) M'
section
variable {K : PySem.W.Frag}
theorem Zy7 {Γ G} : RR ⟨K, Γ, G⟩ b_last_above Wb Zz := by
 rintro ds M Q Z ⟨a, one, other, n, g, tl, rfl, hr, hl, T, h1, h2, q⟩
 have val : ∀ y, told (tf tl) y = true → y ≠ 0 → ∃ m, tf tl y = some m ∧ m < y ∧ told (tf tl) m = true ∧ y < tl.length := by
  intro y hy h0
  obtain ⟨m, e⟩ := Option.isSome_iff_exists.mp ((Tt.mp hy).resolve_left h0)
  exact ⟨m, e, T.lt y m e, Tt.mpr (T.cl y m e), by rw [hl]; exact T.dn y (by rw [e]; rfl)⟩
 simp only [b_last_above, Wb]
 walk_at "ev"
 refine ⟨fun m σ M' => ∃ x y : Nat, m = x + y ∧ σ = [some (.ref a), some (.int (x : Nat)), some (.int (y : Nat))] ∧ M' = M ∧ told (tf tl) x = true ∧ told (tf tl) y = true ∧ ∀ c, (GT.Ch (tf tl) x c ∧ GT.Ch (tf tl) y c) ↔ (GT.Ch (tf tl) one c ∧ GT.Ch (tf tl) other c),
  ⟨_, one, other, rfl, rfl, rfl, h1, h2, fun _ => Iff.rfl⟩, ?_⟩
 rintro m σ M' ⟨x, y, rfl, rfl, rfl, hx, hy, hi⟩
 walk_at "ev"
 split
 ·rename_i hne
  simp only [Vy]
  walk_at "ev"
  split
  ·rename_i hlt
   have hlt : x < y := by omega
   obtain ⟨u, e, lt, tu, yl⟩ := val y hy (by omega)
   refine ix_l hr (Z97 yl) ?_
   rw [e]
   refine ⟨x + u, by omega, x, u, rfl, rfl, ?_⟩
   refine ⟨hx, tu, fun c => (GT.Jy T.lt hlt e c).symm.trans (hi c)⟩
  ·rename_i hge
   have hlt : y < x := by omega
   obtain ⟨u, e, lt, tu, xl⟩ := val x hx (by omega)
   refine ix_l hr (Z97 xl) ?_
   rw [e]
   refine ⟨u + y, by omega, u, y, rfl, rfl, ?_⟩
   refine ⟨tu, hy, fun c => ?_⟩
   rw [← hi c, And.comm, ← GT.Jy T.lt hlt e c, And.comm]
 ·rename_i hne
  have e : x = y := by omega
  subst e
  simp only [Vx]
  walk_at "ev"
  exact q x (fun c => by rw [← hi c, and_self]) hx
theorem Bh {Γ G} (g2 : Γ[2]? = some Zz) : RR ⟨K, Γ, G⟩ b_last_above_all X5 Za := by
 rintro ds M Q Z ⟨a, b, n, g, tl, l, rfl, hr, hb, hl, hn, hp, T, q⟩
 simp only [b_last_above_all, X5]
 walk_at "ev"
 refine ⟨_, hb, ?_⟩
 refine Ys (fun i σ M' => ∃ o d3, σ = [some (.ref a), some (.ref b), some (optD o), d3] ∧ M' = M ∧ ((o = none ∧ S8 (tf tl) (l.take i) = []) ∨ ∃ r, o = some r ∧ GT.Lca (tf tl) (S8 (tf tl) (l.take i)) r ∧ told (tf tl) r = true)) ⟨none, none, rfl, rfl, .inl ⟨rfl, rfl⟩⟩ ?_ ?_ ?_
 ·rintro i σ M' _ ⟨o, d3, rfl, rfl, _⟩
  exact hb
 ·rintro i dx σ M' C hx ⟨o, d3, rfl, rfl, ho⟩ hC
  have hi : i < l.length := by have := (List.getElem?_eq_some_iff.mp hx).1; rwa [Z8] at this
  have hgi : l[i]? = some l[i] := List.getElem?_eq_getElem hi
  generalize l[i] = p at hgi
  rw [Zp hgi] at hx
  cases hx
  have hpn : p < tl.length := by rw [hl]; exact hp p (List.mem_of_getElem? hgi)
  simp only [Wg]
  walk_at "ev"
  have yes : told (tf tl) p = true → (cmD M' .is (optD o) .non fun r => if r = true then C [some (.ref a), some (.ref b), some (.int (p : Nat)), some (.int (p : Nat))] M' else
    Zz [.ref a, optD o, .int (p : Nat)] M' (fun d M1 => C [some (.ref a), some (.ref b), some d, some (.int (p : Nat))] M1) noX) := by
   intro hpt
   rcases ho with ⟨rfl, hc⟩ | ⟨r, rfl, hc, hr2⟩
   ·simp only [optD, cm_is_n, if_true]
    refine hC _ _ ⟨some p, _, rfl, rfl, .inr ⟨p, rfl, ?_, hpt⟩⟩
    rw [Fz hgi hpt, hc]
    exact GT.Lca.one _ p
   ·simp only [optD, cm_is_i, Bool.false_eq_true, if_false]
    refine ⟨a, r, p, n, g, tl, rfl, hr, hl, T, hr2, hpt, fun u hu hut => ?_⟩
    refine hC _ _ ⟨some u, _, rfl, rfl, .inr ⟨u, rfl, ?_, hut⟩⟩
    rw [Fz hgi hpt]
    exact hc.more hu
  have no : ¬ told (tf tl) p = true → C [some (.ref a), some (.ref b), some (optD o), some (.int (p : Nat))] M' := by
   intro hpt
   refine hC _ _ ⟨o, _, rfl, rfl, ?_⟩
   rw [Zq5 hgi hpt]
   exact ho
  simp only [g2]
  by_cases h0 : p = 0
  ·subst h0
   rw [if_neg (by simp), if_pos (by simp)]
   exact yes rfl
  ·have h0' : ¬ (p : Int) = 0 := by omega
   rw [if_pos h0']
   refine ix_l hr (Z97 hpn) ?_
   cases e : tf tl p with
   | none =>
    simp only [optD, cm_isnot_n, Bool.false_eq_true, if_false]
    refine no fun z => ?_
    rcases Tt.mp z with z | z
    ·exact h0 z
    ·rw [e] at z; cases z
   | some u =>
    simp only [optD, cm_isnot_i, if_true]
    exact yes (Tt.mpr (.inr (by rw [e]; rfl)))
 ·rintro σ M' ⟨o, d3, rfl, rfl, ho⟩
  rw [Z8, List.take_length] at ho
  simp only [Wd]
  walk_at "ev"
  exact q o (ho.imp id fun ⟨r, h1, h2, _⟩ => ⟨r, h1, h2⟩)
theorem Ft {gr : List Nd} {n k p : Nat} : p ∈ Wo gr n k ↔ p < n ∧ k ∈ wy gr p := by
 unfold Wo
 rw [List.mem_flatMap]
 constructor
 ·rintro ⟨q, hq, hp⟩
  obtain ⟨h1, rfl⟩ := List.mem_replicate.mp hp
  exact ⟨List.mem_range.mp hq, List.count_pos_iff.mp (by omega)⟩
 ·rintro ⟨h1, h2⟩
  refine ⟨p, List.mem_range.mpr h1, List.mem_replicate.mpr ⟨?_, rfl⟩⟩
  have := List.count_pos_iff.mpr h2
  omega
theorem B6 {gr : List Nd} {n k : Nat} {t : Nat → Option Nat} : GT.From (wy gr) n t k (S8 t (Wo gr n k)) := by
 intro p
 unfold S8
 rw [List.mem_filter, Ft, Tt, and_assoc]
def Fin (g : Nat → List Nat) (n : Nat) (tl : List (Option Nat)) : Prop := GT.Tr g n (tf tl) ∧ (∀ x, 0 < x → x < n → (tf tl x).isSome = true) ∧ ∀ x m, tf tl x = some m → ∃ l, GT.From g n (tf tl) x l ∧ GT.Lca (tf tl) l m
theorem Z00 {g : Nat → List Nat} {n : Nat} {tl : List (Option Nat)} (N : GT.Num g n) (hl : tl.length = n) (h : Fin g n tl) : ∃ ms, Sh g n ms ∧ tl.map optD = J8 ms := by
 obtain ⟨T, all, fix⟩ := h
 have must := T.done N all fix
 cases tl with
 | nil => have := N.pos; simp at hl; omega
 | cons o r =>
  have ho : o = none := by have := T.z; exact this
  subst ho
  have hr : ∀ i (h : i < r.length), ∃ m, r[i] = some m := by
   intro i h
   have := all (i + 1) (by omega) (by rw [← hl]; simpa using h)
   obtain ⟨m, e⟩ := Option.isSome_iff_exists.mp this
   refine ⟨m, ?_⟩
   have e2 : tf (none :: r) (i + 1) = r[i] := by unfold tf; rw [List.getElem?_cons_succ, List.getElem?_eq_getElem h]; rfl
   rw [← e2]; exact e
  refine ⟨r.map fun o => o.getD 0, ⟨by rw [List.length_map]; simpa using hl, fun k m hk => ?_⟩, ?_⟩
  ·rw [List.getElem?_map, Option.map_eq_some_iff] at hk
   obtain ⟨o, h1, rfl⟩ := hk
   obtain ⟨h2, h3⟩ := List.getElem?_eq_some_iff.mp h1
   obtain ⟨m, e⟩ := hr k h2
   rw [h3] at e
   subst e
   refine must (k + 1) m ?_
   unfold tf
   rw [List.getElem?_cons_succ, h1]
   rfl
  ·show D.non :: r.map optD = .non :: natD (r.map fun o => o.getD 0)
   congr 1
   unfold natD
   rw [List.map_map]
   apply List.ext_getElem (by simp)
   intro i h1 h2
   rw [List.getElem_map, List.getElem_map]
   obtain ⟨m, e⟩ := hr i (by simpa using h1)
   rw [e]
   rfl
theorem Zr0 {Γ G} (g1 : Γ[1]? = some Z7) (g3 : Γ[3]? = some Za) : RR ⟨K, Γ, G⟩ b_musts Nb Zm := by
 rintro ds M Q Z ⟨a, gr, rfl, hr, hn, num, q⟩
 have hpos := num.pos
 simp only [b_musts, Nb]
 walk_at "ev"
 simp only [g1]
 refine ⟨a, gr, rfl, hr, hn, num.cl, ?_⟩
 have kp : Kp M (M ++ .lst (V0 (M.length + 1) gr.length) :: Yv gr.length (Wo gr gr.length)) := Kp.new _ _
 have hf : Z6 (M ++ .lst (V0 (M.length + 1) gr.length) :: Yv gr.length (Wo gr gr.length)) M.length = some (V0 (M.length + 1) gr.length) := Z9 _ _ _
 have hrow : ∀ k, k < gr.length → Z6 (M ++ .lst (V0 (M.length + 1) gr.length) :: Yv gr.length (Wo gr gr.length)) (M.length + 1 + k) = some (natD (Wo gr gr.length k)) := by
  intro k hk
  have := Z03 (M := M) (c := .lst (V0 (M.length + 1) gr.length)) (F := Wo gr gr.length) (N := []) hk
  rw [List.append_nil] at this
  exact Z2 this
 generalize M ++ .lst (V0 (M.length + 1) gr.length) :: Yv gr.length (Wo gr gr.length) = M1 at kp hf hrow
 have hr1 := kp.L hr
 walk_at "ev"
 refine ⟨Z0 (by decide), Yc (Z5 hr1) ?_⟩
 rw [List.length_map, op_mul_l]
 refine ⟨_, Zg _ _ [], by omega, by omega, Z0 (by simp; omega), ?_⟩
 rw [List.append_assoc, List.length_append, Int.toNat_natCast]
 simp only [List.cons_append, List.nil_append, List.length_cons, List.length_nil]
 have e0 : (List.replicate gr.length [D.non]).flatten = (List.replicate gr.length (none : Option Nat)).map optD := by
  rw [List.map_replicate]
  induction gr.length with
  | zero => rfl
  | succ n ih => rw [List.replicate_succ, List.flatten_cons, ih, List.replicate_succ]; rfl
 rw [e0]
 have rT : ∀ tl : List D, Z6 (M1 ++ [.lst [.non], .lst tl]) (M1.length + (0 + 1)) = some tl := fun tl => by rw [X2]; rfl
 have wT : ∀ tl : List D, Zc (M1 ++ [.lst [.non], .lst tl]) (M1.length + (0 + 1)) = some tl := fun tl => by rw [Xu]; rfl
 refine ⟨fun m σ M' => ∃ (tl : List (Option Nat)) (ch : Bool) (d4 d5 : Option D) (fs : Prop), m = 2 * mu gr.length tl + (if ch = true then 1 else 0) ∧ σ = [some (.ref a), some (.ref M.length), some (.ref (M1.length + (0 + 1))), some (.bl ch), d4, d5] ∧ M' = M1 ++ [.lst [.non], .lst (tl.map optD)] ∧ tl.length = gr.length ∧
   (ch = true → GT.Turn (wy gr) gr.length fs (tf tl) 1) ∧ (ch = false → Fin (wy gr) gr.length tl),
  ⟨_, List.replicate gr.length none, true, none, none, True, rfl, rfl, rfl, by simp, fun _ => ?_, fun h => by cases h⟩, ?_⟩
 ·have : tf (List.replicate gr.length none) = fun _ => none := by
   funext x
   unfold tf
   rw [List.getElem?_replicate]
   split <;> rfl
  rw [this]
  exact GT.Turn.begin num
 rintro m σ M' ⟨tl, ch, d4, d5, fs, rfl, rfl, rfl, htl, hturn, hfin⟩
 walk_at "ev"
 cases ch with
 | false =>
  rw [if_neg (by decide)]
  obtain ⟨ms, h1, h2⟩ := Z00 num htl (hfin rfl)
  simp only [Nw]
  walk_at "ev"
  rw [h2]
  refine q ms _ _ h1 (kp.app _) (wT _) ?_
  obtain ⟨X, rfl⟩ := kp
  rw [List.length_append]
  omega
 | true =>
  have U0 := hturn rfl
  have z0 : ∀ x m, x < 0 + 1 → tf tl x = some m → ∃ l, GT.From (wy gr) gr.length (tf tl) x l ∧ GT.Lca (tf tl) l m := by
   intro x m hx hm
   have e : x = 0 := by omega
   subst e
   rw [U0.tr.z] at hm
   cases hm
  rw [if_pos rfl]
  simp only [Jr]
  walk_at "ev"
  refine Yc (Z5 hr1) ⟨⟨by decide, by decide, by omega, by rw [List.length_map]; omega⟩, ?_⟩
  rw [List.length_map]
  refine Th (fun i σ M' => ∃ (tl' : List (Option Nat)) (ch : Bool) (d4 d5 : Option D), σ = [some (.ref a), some (.ref M.length), some (.ref (M1.length + (0 + 1))), some (.bl ch), d4, d5] ∧ M' = M1 ++ [.lst [.non], .lst (tl'.map optD)] ∧ tl'.length = gr.length ∧
    GT.Turn (wy gr) gr.length fs (tf tl') (i + 1) ∧ mu gr.length tl' ≤ mu gr.length tl ∧ (ch = true → mu gr.length tl' < mu gr.length tl) ∧ (ch = false → ∀ x m, x < i + 1 → tf tl' x = some m → ∃ l, GT.From (wy gr) gr.length (tf tl') x l ∧ GT.Lca (tf tl') l m))
   ⟨tl, false, _, _, rfl, rfl, htl, U0, Nat.le_refl _, fun h => (by cases h), fun _ => z0⟩ ?_ ?_
  ·rintro i σ M' C hi ⟨tl', ch, d4, d5, rfl, rfl, htl', U, hmu, hch, hnc⟩ hC
   have hk : i + 1 < gr.length := by omega
   rw [show (1 : Int) + (i : Int) = ((i + 1 : Nat) : Int) by omega]
   simp only [J6]
   walk_at "ev"
   refine ix_l (Z5 hf) (Jj hk) ?_
   simp only [g3]
   refine ⟨_, _, gr.length, wy gr, tl', Wo gr gr.length (i + 1), rfl, rT _, Z5 (hrow _ hk), htl', hpos, fun p hp => (Ft.mp hp).1, U.tr, fun o ho => ?_⟩
   have fr := B6 (gr := gr) (n := gr.length) (k := i + 1) (t := tf tl')
   obtain ⟨p0, hp1, hp2⟩ := num.up (i + 1) hk (by omega)
   have hp0 : p0 ∈ S8 (tf tl') (Wo gr gr.length (i + 1)) := (fr p0).mpr ⟨by omega, hp2, U.from hk hp1⟩
   rcases ho with ⟨_, hnil⟩ | ⟨r, rfl, lca⟩
   ·rw [hnil] at hp0; exact absurd hp0 List.not_mem_nil
   obtain ⟨hlt, U2, hle⟩ := U.put num hk (by omega) fr lca
   have hkl : i + 1 < tl'.length := by omega
   simp only [optD]
   try walk_at "ev"
   refine ix_l (rT _) (Z97 hkl) ?_
   have change : (∀ u, tf tl' (i + 1) = some u → r < u) → C [some (.ref a), some (.ref M.length), some (.ref (M1.length + (0 + 1))), some (.bl true), some (.int ((i + 1 : Nat) : Int)), some (.int (r : Nat))] (M1 ++ [.lst [.non], .lst ((tl'.set (i + 1) (some r)).map optD)]) := by
    intro hu
    have := Zz5 (n := gr.length) (m := r) hkl (by omega) hu
    refine hC _ _ ⟨tl'.set (i + 1) (some r), true, _, _, rfl, rfl, by rw [List.length_set]; exact htl', ?_, by omega, fun _ => by omega, fun h => by cases h⟩
    rw [Zy9 hkl]
    exact U2
   have put : (∀ u, tf tl' (i + 1) = some u → r < u) → ((∃ xs k j, D.int ((i + 1 : Nat) : Int) = .int k ∧ Zc (M1 ++ [.lst [.non], .lst (tl'.map optD)]) (M1.length + (0 + 1)) = some xs ∧ ixN xs.length k = some j ∧
     C [some (.ref a), some (.ref M.length), some (.ref (M1.length + (0 + 1))), some (.bl true), some (.int ((i + 1 : Nat) : Int)), some (.int (r : Nat))] ((M1 ++ [.lst [.non], .lst (tl'.map optD)] : Z3).set (M1.length + (0 + 1)) (Cell.lst (xs.set j (.int (r : Nat)))))) ∨
     (∃ kvs k, Xl (M1 ++ [.lst [.non], .lst (tl'.map optD)]) (M1.length + (0 + 1)) = some kvs ∧ keyD (.int ((i + 1 : Nat) : Int)) = some k ∧ kvs.length < sizeLine ∧ C [some (.ref a), some (.ref M.length), some (.ref (M1.length + (0 + 1))), some (.bl true), some (.int ((i + 1 : Nat) : Int)), some (.int (r : Nat))] ((M1 ++ [.lst [.non], .lst (tl'.map optD)] : Z3).set (M1.length + (0 + 1)) (Cell.dct (putD kvs k (.int (r : Nat))))))) := by
    intro hu
    refine .inl ⟨_, _, i + 1, rfl, wT _, ?_, ?_⟩
    ·unfold ixN
     rw [if_pos (by omega), if_pos (by rw [List.length_map]; omega), Int.toNat_natCast]
    ·rw [Wy]
     have := change hu
     rw [List.map_set] at this
     exact this
   cases e : tf tl' (i + 1) with
   | none =>
    simp only [optD]
    rw [show ∀ (M : Z3) (i : Int) (B : Bool → Prop), eqD M (.int i) .non B = B false from fun _ _ _ => rfl]
    rw [if_pos rfl]
    exact put (by intro u hu; rw [e] at hu; cases hu)
   | some u =>
    simp only [optD]
    rw [eq_i]
    by_cases eu : r = u
    ·subst eu
     rw [if_neg (by simp)]
     refine hC _ _ ⟨tl', ch, _, _, rfl, rfl, htl', U.pass num hk (by omega) fr lca e, hmu, hch, fun hc x m hx hm => ?_⟩
     by_cases hxi : x < i + 1
     ·exact hnc hc x m hxi hm
     ·have ex : x = i + 1 := by omega
      subst ex
      rw [e] at hm
      cases hm
      exact ⟨_, fr, lca⟩
    ·rw [if_pos (by simp; omega)]
     refine put fun v hv => ?_
     have := hle v hv
     rw [e] at hv
     cases hv
     omega
  ·rintro σ M' ⟨tl', ch, d4, d5, rfl, rfl, htl', U, hmu, hch, hnc⟩
   have en : ((gr.length : Int) - 1).toNat + 1 = gr.length := by omega
   rw [en] at U hnc
   refine ⟨2 * mu gr.length tl' + (if ch = true then 1 else 0), ?_, tl', ch, d4, d5, False, rfl, rfl, rfl, htl', fun _ => U.again, fun hc => ⟨U.tr, fun x h1 h2 => U.told x h1 h2 (.inl h2), fun x m hm => hnc hc x m (U.tr.dn x (by rw [hm]; rfl)) hm⟩⟩
   cases ch with
   | true => have := hch rfl; simp; omega
   | false => simp; omega
end
def Zd : DSp := fun ds M Q _ => ∃ (a one other n : Nat) (g : Nat → List Nat) (ms : List Nat), ds = [.ref a, .int one, .int other] ∧ Z6 M a = some (J8 ms) ∧ GT.Num g n ∧ Sh g n ms ∧ other < n ∧ ∀ b : Bool, (b = true ↔ ¬ GT.Av g one other) → Q (.bl b) M
def prT (p : Nat × Nat) : D := .tup [.int p.1, .int p.2]
theorem Z08 {ps : List (Nat × Nat)} {i : Nat} {d : D} (h : (ps.map prT)[i]? = some d) : ∃ p, ps[i]? = some p ∧ d = .tup [.int p.1, .int p.2] := by
 rw [List.getElem?_map, Option.map_eq_some_iff] at h
 obtain ⟨p, h1, rfl⟩ := h
 exact ⟨p, h1, rfl⟩
def Zj5 (gr : List Nd) (ps : List (Nat × Nat)) : Prop := (∀ a b, (a, b) ∈ ps ↔ a < gr.length ∧ b ∈ wy gr a ∧ b ≤ a) ∧ ps.length ≤ 2 * gr.length
def Zr : DSp := fun ds M Q _ => ∃ (a : Nat) (gr : List Nd), ds = [.ref a] ∧ Z6 M a = some (gr.map Nd.d) ∧ gr.length ≤ 1000 ∧
 ∀ ps M' r, Zj5 gr ps → Kp M M' → Zc M' r = some (ps.map prT) → M.length ≤ r → Q (.ref r) M'
def Xb (gr : List Nd) (i : Nat) (l : List Nat) (ps : List (Nat × Nat)) : Prop := ∀ a b, (a, b) ∈ ps ↔ (a < i ∧ b ∈ wy gr a ∧ b ≤ a) ∨ (a = i ∧ b ∈ l ∧ b ≤ i)
theorem Xb.yes {gr : List Nd} {i j g : Nat} {l : List Nat} {ps : List (Nat × Nat)} (h : Xb gr i (l.take j) ps) (hg : l[j]? = some g) (hl : g ≤ i) : Xb gr i (l.take (j + 1)) (ps ++ [(i, g)]) := by
 intro a b
 rw [List.mem_append, List.mem_singleton, h a b, X1 hg, List.mem_append, List.mem_singleton, Prod.mk.injEq]
 constructor
 ·rintro ((h | ⟨h1, h2, h3⟩) | ⟨rfl, rfl⟩)
  ·exact .inl h
  ·exact .inr ⟨h1, .inl h2, h3⟩
  ·exact .inr ⟨rfl, .inr rfl, hl⟩
 ·rintro (h | ⟨h1, h2 | h2, h3⟩)
  ·exact .inl (.inl h)
  ·exact .inl (.inr ⟨h1, h2, h3⟩)
  ·exact .inr ⟨h1, h2⟩
theorem Xb.no {gr : List Nd} {i j g : Nat} {l : List Nat} {ps : List (Nat × Nat)} (h : Xb gr i (l.take j) ps) (hg : l[j]? = some g) (hl : ¬ g ≤ i) : Xb gr i (l.take (j + 1)) ps := by
 intro a b
 rw [h a b, X1 hg, List.mem_append, List.mem_singleton]
 constructor
 ·rintro (h | ⟨h1, h2, h3⟩)
  ·exact .inl h
  ·exact .inr ⟨h1, .inl h2, h3⟩
 ·rintro (h | ⟨h1, h2 | h2, h3⟩)
  ·exact .inl h
  ·exact .inr ⟨h1, h2, h3⟩
  ·exact absurd (h2 ▸ h3) hl
theorem Xb.next {gr : List Nd} {i : Nat} {l : List Nat} {ps : List (Nat × Nat)} (h : Xb gr i l ps) (hl : ∀ b, b ∈ l ↔ b ∈ wy gr i) : Xb gr (i + 1) [] ps := by
 intro a b
 rw [h a b, hl b]
 constructor
 ·rintro (⟨h1, h2⟩ | ⟨rfl, h2⟩)
  ·exact .inl ⟨by omega, h2⟩
  ·exact .inl ⟨by omega, h2⟩
 ·rintro (⟨h1, h2⟩ | ⟨_, h2, _⟩)
  ·by_cases e : a = i
   ·subst e; exact .inr ⟨rfl, h2⟩
   ·exact .inl ⟨by omega, h2⟩
  ·cases h2
theorem Xb.zero (gr : List Nd) : Xb gr 0 [] [] := by
 intro a b
 constructor
 ·intro h; cases h
 ·rintro (⟨h, _⟩ | ⟨_, h, _⟩)
  ·omega
  ·cases h
theorem Xb.all {gr : List Nd} {ps : List (Nat × Nat)} (h : Xb gr gr.length [] ps) (hl : ps.length ≤ 2 * gr.length) : Zj5 gr ps := by
 refine ⟨fun a b => ?_, hl⟩
 rw [h a b]
 constructor
 ·rintro (h | ⟨_, h, _⟩)
  ·exact h
  ·cases h
 ·exact .inl
section
variable {K : PySem.W.Frag}
theorem Zt2 {Γ G} : RR ⟨K, Γ, G⟩ b_stands_above Xf Zd := by
 rintro ds M Q Z ⟨a, one, other, n, g, ms, rfl, hr, num, mo, ho, q⟩
 simp only [b_stands_above, Xf]
 walk_at "ev"
 refine ⟨fun m σ M' => ∃ p : Nat, m = p ∧ σ = [some (.ref a), some (.int one), some (.int other), some (.int (p : Nat))] ∧ M' = M ∧ p < n ∧ (GT.Av g one p ↔ GT.Av g one other), ⟨_, other, rfl, rfl, rfl, ho, Iff.rfl⟩, ?_⟩
 rintro p σ M' ⟨_, rfl, rfl, rfl, hp, hi⟩
 walk_at "ev"
 split
 ·rename_i hlt
  have hlt : one < p := by omega
  obtain ⟨k, rfl⟩ : ∃ k, p = k + 1 := ⟨p - 1, by omega⟩
  have hk : k < ms.length := by have := mo.1; omega
  have hm : ms[k]? = some ms[k] := List.getElem?_eq_getElem hk
  generalize ms[k] = u at hm
  have must := mo.2 k u hm
  have lt := must.lt num hp
  simp only [V3]
  walk_at "ev"
  refine ix_l (k := k + 1) hr (show (J8 ms)[k + 1]? = some (.int (u : Nat)) from Zp hm) ?_
  exact ⟨u, lt, u, rfl, rfl, by omega, (GT.Must.step num hp must hlt).symm.trans hi⟩
 ·rename_i hge
  simp only [V2]
  walk_at "ev"
  refine q _ ?_
  rw [decide_eq_true_eq]
  constructor
  ·intro e
   have e : p = one := by omega
   subst e
   intro z
   exact GT.Rt (hi.mpr z)
  ·intro h
   by_cases e : p = one
   ·rw [e]
   ·exact absurd (hi.mp (GT.Zp7 num p hp (by omega))) h
theorem Y09 {Γ G} (g0 : Γ[0]? = some Zs) : RR ⟨K, Γ, G⟩ b_ways_back Wx Zr := by
 rintro ds M Q Z ⟨a, gr, rfl, hr, hn, q⟩
 simp only [b_ways_back, Wx]
 walk_at "ev"
 refine ⟨Z0 (by decide), _, Z5 hr, ?_⟩
 refine Ys (fun i σ M' => ∃ d2 d3 d4 ps, σ = [some (.ref a), some (.ref M.length), d2, d3, d4] ∧ M' = M ++ [.lst (ps.map prT)] ∧ Xb gr i [] ps ∧ ps.length ≤ 2 * i) ⟨none, none, none, [], rfl, rfl, Xb.zero gr, Nat.le_refl _⟩ ?_ ?_ ?_
 ·rintro i σ M' _ ⟨d2, d3, d4, ps, rfl, rfl, _⟩
  exact ⟨_, Z5 hr, rfl⟩
 ·rintro i dx σ M' C hx ⟨d2, d3, d4, ps, rfl, rfl, hb, hl⟩ hC
  obtain ⟨x, hx2, rfl⟩ := E8 hx
  have hi : i < gr.length := by have := (List.getElem?_eq_some_iff.mp hx2).1; rwa [List.length_map] at this
  obtain ⟨nd, hd⟩ : ∃ nd, gr[i]? = some nd := ⟨_, List.getElem?_eq_getElem hi⟩
  rw [T8 hd] at hx2
  cases hx2
  simp only [S0]
  walk_at "ev"
  simp only [g0]
  refine ⟨nd, rfl, ?_⟩
  walk_at "ev"
  refine Ys (fun j σ M' => ∃ d4 ps, σ = [some (.ref a), some (.ref M.length), some (.int i), some nd.d, d4] ∧ M' = M ++ [.lst (ps.map prT)] ∧ Xb gr i (nd.gs.reverse.take j) ps ∧ ps.length ≤ 2 * i + j) ⟨_, ps, rfl, rfl, hb, hl⟩ (fun _ _ _ _ _ => trivial) ?_ ?_
  ·rintro j dx σ M' C2 hx ⟨d4, ps, rfl, rfl, hb, hl⟩ hC2
   have hj : j < nd.gs.reverse.length := by have := (List.getElem?_eq_some_iff.mp hx).1; rwa [Z8] at this
   have hj2 : j < 2 := by have := nd.gs_two; rw [List.length_reverse] at hj; omega
   have hgj : nd.gs.reverse[j]? = some nd.gs.reverse[j] := List.getElem?_eq_getElem hj
   generalize nd.gs.reverse[j] = g at hgj
   rw [Zp hgj] at hx
   cases hx
   simp only [Tj]
   walk_at "ev"
   split
   ·rename_i hle
    refine ⟨Zq (Z9 _ _ []), Z0 (by decide), _, Zg _ _ [], by rw [List.length_map]; exact Zn (by omega), ?_⟩
    rw [Xm]
    refine hC2 _ _ ⟨_, ps ++ [(i, g)], rfl, by rw [List.map_append]; rfl, hb.yes hgj (by omega), by rw [List.length_append, List.length_singleton]; omega⟩
   ·rename_i hle
    exact hC2 _ _ ⟨_, ps, rfl, rfl, hb.no hgj (by omega), by omega⟩
  ·rintro σ M' ⟨d4, ps, rfl, rfl, hb, hl⟩
   rw [Z8] at hb hl
   rw [List.take_length] at hb
   refine hC _ _ ⟨_, _, _, ps, rfl, rfl, hb.next fun b => by rw [Q9 hd, List.mem_reverse], ?_⟩
   have := nd.gs_two
   rw [List.length_reverse] at hl
   omega
 ·rintro σ M' ⟨d2, d3, d4, ps, rfl, rfl, hb, hl⟩
  simp only [Tn]
  walk_at "ev"
  rw [E9, List.length_map] at hb hl
  exact q ps _ _ (hb.all hl) (Kp.new _ _) (Zg _ _ []) (Nat.le_refl _)
theorem Zl6 {Γ G} (g0 : Γ[21]? = some Yh) : RR ⟨K, Γ, G⟩ b_Lback Oi Zr := by
 rintro ds M Q Z ⟨a, gr, rfl, hr, hn, q⟩
 simp only [b_Lback, Oi]
 walk_at "ev"
 refine ⟨Z0 (by decide), Yc (Z5 hr) ⟨by omega, by rw [List.length_map]; omega, ?_⟩⟩
 rw [Int.toNat_natCast, List.length_map]
 refine Th (fun i σ M' => ∃ d2 d3 ps N, σ = [some (.ref a), some (.ref M.length), d2, d3] ∧ M' = M ++ .lst (ps.map prT) :: N ∧ Xb gr i [] ps ∧ ps.length ≤ 2 * i) ⟨none, none, [], [], rfl, rfl, Xb.zero gr, Nat.le_refl _⟩ ?_ ?_
 ·rintro i σ M' C hi ⟨d2, d3, ps, N, rfl, rfl, hb, hl⟩ hC
  obtain ⟨nd, hd⟩ : ∃ nd, gr[i]? = some nd := ⟨_, List.getElem?_eq_getElem hi⟩
  simp only [Jw, Int.zero_add]
  walk_at "ev"
  refine ix_l (Z5 hr) (T8 hd) ?_
  simp only [g0]
  refine ⟨nd, rfl, ?_⟩
  walk_at "ev"
  rw [List.append_assoc, List.cons_append]
  have el : (M ++ .lst (ps.map prT) :: N).length = M.length + (N.length + 1) := by simp
  rw [el]
  have rd : ∀ ps : List (Nat × Nat), Z6 (M ++ .lst (ps.map prT) :: (N ++ [.lst (natD nd.gs)])) (M.length + (N.length + 1)) = some (natD nd.gs) := fun ps => by
   rw [X2]
   exact Z9 N _ []
  refine ⟨_, rd ps, ?_⟩
  refine Ys (fun j σ M' => ∃ d3 ps, σ = [some (.ref a), some (.ref M.length), some (.int i), d3] ∧ M' = M ++ .lst (ps.map prT) :: (N ++ [.lst (natD nd.gs)]) ∧ Xb gr i (nd.gs.take j) ps ∧ ps.length ≤ 2 * i + j) ⟨_, ps, rfl, rfl, hb, hl⟩ ?_ ?_ ?_
  ·rintro j σ M' _ ⟨d3, ps, rfl, rfl, _⟩
   exact rd ps
  ·rintro j dx σ M' C2 hx ⟨d3, ps, rfl, rfl, hb, hl⟩ hC2
   have hj : j < nd.gs.length := by have := (List.getElem?_eq_some_iff.mp hx).1; rwa [Z8] at this
   have hj2 : j < 2 := by have := nd.gs_two; omega
   have hgj : nd.gs[j]? = some nd.gs[j] := List.getElem?_eq_getElem hj
   generalize nd.gs[j] = g at hgj
   rw [Zp hgj] at hx
   cases hx
   simp only [Jq]
   walk_at "ev"
   split
   ·rename_i hle
    refine ⟨Zq (Z9 _ _ _), Z0 (by decide), _, Zg _ _ _, by rw [List.length_map]; exact Zn (by omega), ?_⟩
    rw [Xm]
    refine hC2 _ _ ⟨_, ps ++ [(i, g)], rfl, by rw [List.map_append]; rfl, hb.yes hgj (by omega), by rw [List.length_append, List.length_singleton]; omega⟩
   ·rename_i hle
    exact hC2 _ _ ⟨_, ps, rfl, rfl, hb.no hgj (by omega), by omega⟩
  ·rintro σ M' ⟨d3, ps, rfl, rfl, hb, hl⟩
   rw [Z8] at hb hl
   rw [List.take_length] at hb
   refine hC _ _ ⟨_, _, ps, _, rfl, rfl, hb.next fun b => by rw [Q9 hd], ?_⟩
   have := nd.gs_two
   omega
 ·rintro σ M' ⟨d2, d3, ps, N, rfl, rfl, hb, hl⟩
  simp only [Jk]
  walk_at "ev"
  exact q ps _ _ (hb.all hl) (Kp.new _ _) (Zg _ _ _) (Nat.le_refl _)
end
theorem E1 {E E' : Nat → Nat → Prop} {b l : Nat} {W : List Nat} (h : BF.Way E b l W) (k : ∀ x y, E x y → E' x y) : BF.Way E' b l W := ⟨h.fst, h.lst, fun i x y a c => k _ _ (h.go i x y a c), h.nd⟩
theorem Zj1 {gr : List Nd} {one l : Nat} {W : List Nat} (num : GT.Num (wy gr) gr.length) (h1 : one ≠ 0) (h : BF.Way (Rd1 gr one) 0 l W) : ∀ (i x : Nat), W[i]? = some x → x < gr.length ∧ x ≠ one := by
 intro i
 induction i with
 | zero =>
  intro x hx
  rw [h.fst] at hx
  cases hx
  exact ⟨num.pos, Ne.symm h1⟩
 | succ i ih =>
  intro x hx
  have hi := (List.getElem?_eq_some_iff.mp hx).1
  obtain ⟨p, hp⟩ : ∃ p, W[i]? = some p := ⟨_, List.getElem?_eq_getElem (by omega)⟩
  have e := h.go i p x hp hx
  exact ⟨num.cl p (ih p hp).1 x e.1, e.2⟩
theorem Zv2 {g : Nat → List Nat} {n b l : Nat} {W : List Nat} (cl : ∀ x, x < n → ∀ y ∈ g x, y < n) (hb : b < n) (h : BF.Way (DF.On g) b l W) : ∀ (i x : Nat), W[i]? = some x → x < n := by
 intro i
 induction i with
 | zero =>
  intro x hx
  rw [h.fst] at hx
  cases hx
  exact hb
 | succ i ih =>
  intro x hx
  have hi := (List.getElem?_eq_some_iff.mp hx).1
  obtain ⟨p, hp⟩ : ∃ p, W[i]? = some p := ⟨_, List.getElem?_eq_getElem (by omega)⟩
  exact cl p (ih p hp) x (h.go i p x hp hx).1
theorem N3 {E : Nat → Nat → Prop} {n b l : Nat} {W : List Nat} (h : BF.Way E b l W) (k : ∀ (i x : Nat), W[i]? = some x → x < n) : W.length ≤ n := GT.Wa h.nd fun x hx => by
 obtain ⟨i, hi⟩ := List.getElem?_of_mem hx
 exact k i x hi
def Ordl (gr : List Nd) : Prop := ∀ a b, a < gr.length → b ∈ wy gr a → b ≤ a → ¬ GT.Av (wy gr) b a
def Zf : DSp := fun ds M Q _ => ∃ (a : Nat) (gr : List Nd), ds = [.ref a] ∧ Z6 M a = some (gr.map Nd.d) ∧ gr.length ≤ 1000 ∧ GT.Num (wy gr) gr.length ∧
 ∀ d M', (d = .non ∧ Ordl gr) ∨ (∃ x y : Nat, d = .tup [.int x, .int y] ∧ x < gr.length ∧ y ∈ wy gr x ∧ y ≤ x ∧ GT.Av (wy gr) y x) → Kp M M' → Q d M'
def Zj : DSp := fun ds M Q _ => ∃ (a : Nat) (gr : List Nd), ds = [.ref a] ∧ Z6 M a = some (gr.map Nd.d) ∧ gr.length ≤ 1000 ∧ GT.Num (wy gr) gr.length ∧
 ∀ (b : Bool) M', (b = true ↔ Ordl gr) → Kp M M' → Q (.bl b) M'
def UpTo (W A P : List Nat) : Prop := ∃ (i x : Nat), W[i]? = some x ∧ x ∈ A ∧ P = W.take (i + 1) ∧ ∀ (j z : Nat), j < i → W[j]? = some z → z ∉ A
def Yw : DSp := fun ds M Q _ => ∃ (w a : Nat) (W A : List Nat), ds = [.ref w, .ref a] ∧ Z6 M w = some (natD W) ∧ Z6 M a = some (natD A) ∧ W.length ≤ 1000 ∧ (∃ x ∈ W, x ∈ A) ∧
 ∀ P M' r, UpTo W A P → Kp M M' → Zc M' r = some (natD P) → M.length ≤ r → Q (.ref r) M'
def Bck (gr : List Nd) : Prop := ∀ x y, x < gr.length → y ∈ wy gr x → y ≤ x → BF.Rc (DF.On (wy gr)) y x
structure Two (gr : List Nd) (A S P : List Nat) : Prop where
 ex : ∃ x y W, x < gr.length ∧ y ∈ wy gr x ∧ y ≤ x ∧ y ≠ 0 ∧ BF.Way (DF.On (wy gr)) y x A ∧ BF.Way (DF.On (wy gr)) 0 y S ∧ BF.Way (Rd1 gr y) 0 x W ∧ UpTo W A P
def W4 : DSp := fun ds M Q _ => ∃ (a : Nat) (gr : List Nd), ds = [.ref a] ∧ Z6 M a = some (gr.map Nd.d) ∧ gr.length ≤ 1000 ∧ GT.Num (wy gr) gr.length ∧ Bck gr ∧
 (Ordl gr → ∀ M', Kp M M' → Q .non M') ∧ ∀ A S P M' r1 r2 r3, ¬ Ordl gr → Two gr A S P → Kp M M' → Zc M' r1 = some (natD A) → Zc M' r2 = some (natD S) → Zc M' r3 = some (natD P) → M.length ≤ r1 → M.length ≤ r2 → M.length ≤ r3 → Q (.tup [.ref r1, .ref r2, .ref r3]) M'
section
variable {K : PySem.W.Frag}
theorem Z38 {Γ G} (g4 : Γ[4]? = some Zm) (g5 : Γ[5]? = some Zd) (g6 : Γ[10]? = some Zr) : RR ⟨K, Γ, G⟩ b_strange_way Xs Zf := by
 rintro ds M Q Z ⟨a, gr, rfl, hr, hn, num, q⟩
 simp only [b_strange_way, Xs]
 walk_at "ev"
 simp only [g4, g6]
 refine ⟨a, gr, rfl, hr, by omega, num, fun ms M1 r1 mo k1 hw1 _ => ?_⟩
 walk_at "ev"
 refine ⟨a, gr, rfl, k1.L hr, by omega, fun ps M2 r2 hb k2 hw2 _ => ?_⟩
 walk_at "ev"
 have h1 := k2.L (Z2 hw1)
 have h2 := Z2 hw2
 have k := k1.trans k2
 refine ⟨_, h2, ?_⟩
 refine Ys (fun i σ M' => ∃ d2 d3, σ = [some (.ref a), some (.ref r1), d2, d3] ∧ M' = M2 ∧ ∀ x y, (x, y) ∈ ps.take i → ¬ GT.Av (wy gr) y x) ⟨none, none, rfl, rfl, fun x y h => by simp at h⟩ ?_ ?_ ?_
 ·rintro i σ M' _ ⟨d2, d3, rfl, rfl, _⟩
  exact h2
 ·rintro i dx σ M' C hx ⟨d2, d3, rfl, rfl, hok⟩ hC
  obtain ⟨⟨x, y⟩, hp, rfl⟩ := Z08 hx
  obtain ⟨hx1, hx2, hx3⟩ := (hb.1 x y).mp (List.mem_of_getElem? hp)
  simp only [V6]
  walk_at "ev"
  simp only [g5]
  refine ⟨r1, y, x, gr.length, wy gr, ms, rfl, h1, num, mo, hx1, fun b hb' => ?_⟩
  walk_at "ev"
  cases b with
  | true =>
   try walk_at "ev"
   refine hC _ _ ⟨_, _, rfl, rfl, fun u v huv => ?_⟩
   rw [X1 hp, List.mem_append, List.mem_singleton, Prod.mk.injEq] at huv
   rcases huv with h | ⟨rfl, rfl⟩
   ·exact hok u v h
   ·exact hb'.mp rfl
  | false =>
   try walk_at "ev"
   refine ⟨Z0 (by decide), q _ _ (.inr ⟨x, y, rfl, hx1, hx2, hx3, ?_⟩) k⟩
   by_cases av : GT.Av (wy gr) y x
   ·exact av
   ·exact absurd (hb'.mpr av) Bool.false_ne_true
 ·rintro σ M' ⟨d2, d3, rfl, rfl, hok⟩
  rw [List.length_map, List.take_length] at hok
  simp only [Vi]
  walk_at "ev"
  exact q _ _ (.inl ⟨rfl, fun x y h1 h2 h3 => hok x y ((hb.1 x y).mpr ⟨h1, h2, h3⟩)⟩) k
theorem Z68 {Γ G} (g7 : Γ[11]? = some Zf) : RR ⟨K, Γ, G⟩ b_orderly Tf Zj := by
 rintro ds M Q Z ⟨a, gr, rfl, hr, hn, num, q⟩
 simp only [b_orderly, Tf]
 walk_at "ev"
 simp only [g7]
 refine ⟨a, gr, rfl, hr, hn, num, fun d M1 hd k1 => ?_⟩
 rcases hd with ⟨rfl, ho⟩ | ⟨x, y, rfl, h1, h2, h3, av⟩
 ·walk_at "ev"
  exact q _ _ ⟨fun _ => ho, fun _ => rfl⟩ k1
 ·walk_at "ev"
  exact q _ _ ⟨fun z => absurd z Bool.false_ne_true, fun z => absurd av (z x y h1 h2 h3)⟩ k1
theorem Y18 {Γ G} : RR ⟨K, Γ, G⟩ b_up_to_first Xq Yw := by
 rintro ds M Q Z ⟨w, a, W, A, rfl, hw, ha, hn, ⟨x0, hx0, hA0⟩, q⟩
 simp only [b_up_to_first, Xq]
 walk_at "ev"
 refine ⟨Z0 (by decide), _, Z5 hw, ?_⟩
 refine Ys (fun i σ M' => ∃ d, σ = [some (.ref w), some (.ref a), some (.ref M.length), d] ∧ M' = M ++ [.lst (natD (W.take i))] ∧ ∀ (j z : Nat), j < i → W[j]? = some z → z ∉ A) ⟨none, rfl, rfl, fun j z h => by omega⟩ ?_ ?_ ?_
 ·rintro i σ M' _ ⟨d, rfl, rfl, _⟩
  exact Z5 hw
 ·rintro i dx σ M' C hx ⟨d, rfl, rfl, hno⟩ hC
  have hi : i < W.length := by have := (List.getElem?_eq_some_iff.mp hx).1; rwa [Z8] at this
  have hxi : W[i]? = some W[i] := List.getElem?_eq_getElem hi
  generalize W[i] = x at hxi
  rw [Zp hxi] at hx
  cases hx
  simp only [V9]
  walk_at "ev"
  refine ⟨Zq (Z9 _ _ []), _, Zg _ _ [], by rw [Z8, List.length_take]; exact Zn (by omega), ?_⟩
  rw [Xm, ← Ym, ← X1 hxi]
  try walk_at "ev"
  refine Q2 (Z5 ha) ?_
  by_cases hm : x ∈ A
  ·rw [decide_eq_true hm, if_pos rfl]
   try walk_at "ev"
   exact q _ _ _ ⟨i, x, hxi, hm, rfl, hno⟩ (Kp.new _ _) (Zg _ _ []) (Nat.le_refl _)
  ·rw [decide_eq_false hm, if_neg Bool.false_ne_true]
   try walk_at "ev"
   refine hC _ _ ⟨_, rfl, rfl, fun j z hj hz => ?_⟩
   by_cases e : j = i
   ·subst e
    rw [hxi] at hz
    cases hz
    exact hm
   ·exact hno j z (by omega) hz
 ·rintro σ M' ⟨d, rfl, rfl, hno⟩
  rw [Z8] at hno
  obtain ⟨j, hj⟩ := List.getElem?_of_mem hx0
  exact absurd hA0 (hno j x0 (List.getElem?_eq_some_iff.mp hj).1 hj)
theorem Y38 {Γ : List DSp} {G : List D} {A0 : Addr} (hG : G[0]? = some (.cls A0)) (g8 : Γ[8]? = some (Zw G)) (g9 : Γ[9]? = some (Ze (Zw G))) (g11 : Γ[11]? = some Zf) (g13 : Γ[13]? = some Yw) : RR ⟨K, Γ, G⟩ b_two_ways Vm W4 := by
 rintro ds M Q Z ⟨a, gr, rfl, hr, hn, num, bck, qn, qt⟩
 simp only [b_two_ways, Vm]
 walk_at "ev"
 simp only [g11]
 refine ⟨a, gr, rfl, hr, hn, num, fun d M1 hd k1 => ?_⟩
 rcases hd with ⟨rfl, ho⟩ | ⟨x, y, rfl, hx, hy, hyx, av⟩
 ·try walk_at "ev"
  exact qn ho M1 k1
 ·try walk_at "ev"
  simp only [R8]
  try walk_at "ev"
  have hyn := num.cl x hx y hy
  have hy0 : y ≠ 0 := fun z => by rw [z] at av; exact GT.Fg av
  have nord : ¬ Ordl gr := fun o => o x y hx hy hyx av
  simp only [hG, g8]
  refine ⟨a, y, x, .cls A0, fun p q => p < q, gr, rfl, .inr ⟨A0, rfl, hG, fun _ _ => Iff.rfl⟩, k1.L hr, hn, num, hyn, hx, fun no => absurd (bck x y hx hy hyx) no, fun A M2 r2 wA k2 hw2 hr2 => ?_⟩
  try walk_at "ev"
  try simp only [hG, g8]
  refine ⟨a, 0, y, .cls A0, fun p q => p < q, gr, rfl, .inr ⟨A0, rfl, hG, fun _ _ => Iff.rfl⟩, k2.L (k1.L hr), hn, num, num.pos, hyn, fun no => absurd (DF.straight num y hyn) no, fun S M3 r3 wS k3 hw3 hr3 => ?_⟩
  try walk_at "ev"
  try simp only [g9, g13]
  refine ⟨_, (y : Int), _, rfl, fun h => absurd h (by omega), fun _ f cc c => ?_⟩
  refine ⟨a, 0, x, .lam f cc c (y : Nat), fun _ q => q ≠ y, gr, rfl, .inl ⟨f, cc, c, y, rfl, fun _ _ => Iff.rfl⟩, k3.L (k2.L (k1.L hr)), hn, num, num.pos, hx, fun no => absurd ((BF.Y36 hy0 x).mpr av) no, fun W M4 r4 wW k4 hw4 hr4 => ?_⟩
  have wl := N3 wW fun i u hu => (Zj1 num hy0 wW i u hu).1
  have wA' : BF.Way (DF.On (wy gr)) y x A := wA
  have wS' : BF.Way (DF.On (wy gr)) 0 y S := wS
  refine ⟨r4, r2, W, A, rfl, Z2 hw4, k4.L (k3.L (Z2 hw2)), by omega, ⟨x, List.mem_of_getElem? wW.lst, List.mem_of_getElem? wA.lst⟩, fun P M5 r5 up k5 hw5 hr5 => ?_⟩
  refine ⟨Z0 (by decide), qt A S P M5 r2 r3 r5 nord ⟨x, y, W, hx, hy, hyx, hy0, wA', wS', wW, up⟩ (k1.trans (k2.trans (k3.trans (k4.trans k5)))) (k5.W (k4.W (k3.W hw2))) (k5.W (k4.W hw3)) hw5 ?_ ?_ ?_⟩
  ·obtain ⟨X, rfl⟩ := k1
   rw [List.length_append] at hr2
   omega
  ·obtain ⟨X, rfl⟩ := k1.trans k2
   rw [List.length_append] at hr3
   omega
  ·obtain ⟨X, rfl⟩ := k1.trans (k2.trans (k3.trans k4))
   rw [List.length_append] at hr5
   omega
end
def W1 : DSp := fun ds M Q _ => ∃ i : Int, ds = [.int i] ∧ Q (.bl true) M
def We : DSp := fun ds M Q _ => ∃ (t a : Nat) (gr : List Nd) (ms : List Nat), ds = [.ref t, .ref a] ∧ Zc M t = some (J8 ms) ∧ Z6 M a = some (gr.map Nd.d) ∧ gr.length ≤ 1000 ∧ GT.Num (wy gr) gr.length ∧ Sh (wy gr) gr.length ms ∧ ∀ M', Kp M M' → Q (.bl true) M'
def T3 : DSp := fun ds M Q _ => ∃ (a : Nat) (gr : List Nd), ds = [.ref a] ∧ Z6 M a = some (gr.map Nd.d) ∧ gr.length ≤ 1000 ∧ GT.Num (wy gr) gr.length ∧ Ordl gr ∧ ∀ M', Kp M M' → Q (.bl true) M'
section
variable {K : PySem.W.Frag}
theorem Gv {g : Nat → List Nat} {n k : Nat} {ms : List Nat} (mo : Sh g n ms) (hk : k < n) (h0 : k ≠ 0) : ∃ m, (J8 ms)[k]? = some (.int (m : Nat)) ∧ GT.Must g k m := by
 obtain ⟨j, rfl⟩ : ∃ j, k = j + 1 := ⟨k - 1, by omega⟩
 have hj : j < ms.length := by have := mo.1; omega
 have hm : ms[j]? = some ms[j] := List.getElem?_eq_getElem hj
 exact ⟨ms[j], Zp hm, mo.2 j _ hm⟩
theorem Zi3 {Γ G} : RR ⟨K, Γ, G⟩ b_Labove Ru Zd := by
 rintro ds M Q Z ⟨a, one, other, n, g, ms, rfl, hr, num, mo, ho, q⟩
 simp only [b_Labove, Ru]
 walk_at "ev"
 refine ⟨fun m σ M' => ∃ p : Nat, m = p ∧ σ = [some (.ref a), some (.int one), some (.int (p : Nat))] ∧ M' = M ∧ p < n ∧ (GT.Av g one p ↔ GT.Av g one other), ⟨_, other, rfl, rfl, rfl, ho, Iff.rfl⟩, ?_⟩
 rintro p σ M' ⟨_, rfl, rfl, rfl, hp, hi⟩
 walk_at "ev"
 split
 ·rename_i hlt
  have hlt : one < p := by omega
  obtain ⟨u, hu, must⟩ := Gv mo hp (by omega)
  have lt := must.lt num hp
  simp only [Pv]
  walk_at "ev"
  refine ix_l hr hu ?_
  exact ⟨u, lt, u, rfl, rfl, by omega, (GT.Must.step num hp must hlt).symm.trans hi⟩
 ·rename_i hge
  simp only [Pw]
  walk_at "ev"
  refine q _ ?_
  rw [decide_eq_true_eq]
  constructor
  ·intro e
   have e : p = one := by omega
   subst e
   intro z
   exact GT.Rt (hi.mpr z)
  ·intro h
   by_cases e : p = one
   ·rw [e]
   ·exact absurd (hi.mp (GT.Zp7 num p hp (by omega))) h
theorem Z93 {Γ G} : RR ⟨K, Γ, G⟩ b_Lwhole Rn W1 := by
 rintro ds M Q Z ⟨i, rfl, q⟩
 simp only [b_Lwhole, Rn]
 walk_at "ev"
 exact q
theorem Zf3 {g : Nat → List Nat} {n : Nat} {ms : List Nat} (mo : Sh g n ms) : (J8 ms).length = n := by
 have := mo.1
 unfold J8
 rw [List.length_cons, Z8]
 exact this
theorem Cg {Γ G} (g15 : Γ[21]? = some Yh) (g21 : Γ[28]? = some Zd) (g19 : Γ[27]? = some W1) : RR ⟨K, Γ, G⟩ b_Lis_tree Vu We := by
 rintro ds M Q Z ⟨t, a, gr, ms, rfl, ht, hr, hn, num, mo, q⟩
 have htl := Z2 ht
 simp only [b_Lis_tree, Vu]
 walk_at "ev"
 rw [Fa ht]
 try walk_at "ev"
 refine Yc htl (Yc hr ?_)
 rw [Zf3 mo, List.length_map]
 try walk_at "ev"
 rw [if_pos (by decide)]
 refine ix_l (k := 0) htl rfl ?_
 try walk_at "ev"
 simp only [R9]
 try walk_at "ev"
 refine Yc hr ?_
 rw [List.length_map]
 refine ⟨⟨by omega, by omega, by omega, by omega⟩, ?_⟩
 refine Th (fun i σ M' => ∃ d, σ = [some (.ref t), some (.ref a), d, none] ∧ M' = M) ⟨none, rfl, rfl⟩ ?_ ?_
 ·rintro i σ M' C hi ⟨d, rfl, rfl⟩ hC
  have hk : i + 1 < gr.length := by omega
  obtain ⟨m, hm, must⟩ := Gv mo hk (by omega)
  have lt := must.lt num hk
  have e : (1 : Int) + (i : Int) = ((i + 1 : Nat) : Int) := by omega
  rw [e]
  simp only [Su]
  walk_at "ev"
  refine ix_l htl hm ?_
  simp only [g19]
  refine ⟨_, rfl, ?_⟩
  try walk_at "ev"
  refine ix_l htl hm ?_
  try walk_at "ev"
  rw [if_pos (by omega)]
  refine ix_l htl hm ?_
  try walk_at "ev"
  rw [if_neg (by omega)]
  exact hC _ _ ⟨_, rfl, rfl⟩
 rintro σ M' ⟨d, rfl, e⟩
 have e := e.symm
 subst e
 simp only [Sr]
 walk_at "ev"
 refine Yc hr ⟨by omega, by rw [List.length_map]; omega, ?_⟩
 rw [Int.toNat_natCast, List.length_map]
 refine Th (fun i σ M' => ∃ d2 d3, σ = [some (.ref t), some (.ref a), d2, d3] ∧ Kp M M') ⟨_, _, rfl, Kp.refl _⟩ ?_ ?_
 ·rintro k σ M' C hk ⟨d2, d3, rfl, kM⟩ hC
  obtain ⟨nd, hd⟩ : ∃ nd, gr[k]? = some nd := ⟨_, List.getElem?_eq_getElem hk⟩
  simp only [Sy, Int.zero_add]
  walk_at "ev"
  refine ix_l (kM.L hr) (T8 hd) ?_
  simp only [g15]
  refine ⟨nd, rfl, ?_⟩
  try walk_at "ev"
  have rG := Z9 M' (natD nd.gs) []
  have k2 : Kp M (M' ++ [.lst (natD nd.gs)]) := kM.app _
  generalize M' ++ [Cell.lst (natD nd.gs)] = M2 at rG k2
  generalize M'.length = gp at rG
  refine ⟨_, rG, ?_⟩
  refine Ys (fun i σ M' => ∃ d3, σ = [some (.ref t), some (.ref a), some (.int k), d3] ∧ M' = M2) ⟨_, rfl, rfl⟩ ?_ ?_ ?_
  ·rintro i σ M' _ ⟨d3, rfl, rfl⟩
   exact rG
  ·rintro i dx σ M' C2 hx ⟨d3, rfl, rfl⟩ hC2
   have hi : i < nd.gs.length := by have := (List.getElem?_eq_some_iff.mp hx).1; rwa [Z8] at this
   have hyi : nd.gs[i]? = some nd.gs[i] := List.getElem?_eq_getElem hi
   generalize nd.gs[i] = y at hyi
   rw [Zp hyi] at hx
   cases hx
   have hyx : y ∈ wy gr k := by rw [Q9 hd]; exact List.mem_of_getElem? hyi
   have hyn := num.cl k hk y hyx
   simp only [Sq]
   walk_at "ev"
   by_cases h0 : y = 0
   ·subst h0
    rw [if_neg (by decide)]
    exact hC2 _ _ ⟨_, rfl, rfl⟩
   ·rw [if_pos (show ¬ (y : Int) = 0 by omega)]
    obtain ⟨m, hm, must⟩ := Gv mo hyn h0
    refine ix_l (k2.L htl) hm ?_
    simp only [g21]
    refine ⟨t, m, k, gr.length, wy gr, ms, rfl, k2.L htl, num, mo, hk, fun b hb => ?_⟩
    have : b = true := hb.mpr fun av => must.dom (.step av hyx (Ne.symm must.ne))
    subst this
    try walk_at "ev"
    exact hC2 _ _ ⟨_, rfl, rfl⟩
  ·rintro σ M' ⟨d3, rfl, rfl⟩
   exact hC _ _ ⟨_, _, rfl, k2⟩
 ·rintro σ M' ⟨d2, d3, rfl, kM⟩
  simp only [Sn]
  walk_at "ev"
  exact q M' kM
theorem Bg {Γ G} (g4 : Γ[4]? = some Zm) (g25 : Γ[25]? = some Zr) (g28 : Γ[28]? = some Zd) (g29 : Γ[29]? = some We) : RR ⟨K, Γ, G⟩ b_Lis_orderly Xp T3 := by
 rintro ds M Q Z ⟨a, gr, rfl, hr, hn, num, ord, q⟩
 simp only [b_Lis_orderly, Xp]
 walk_at "ev"
 simp only [g4]
 refine ⟨a, gr, rfl, hr, hn, num, fun ms M1 t mo k1 hw1 _ => ?_⟩
 try walk_at "ev"
 simp only [g29]
 refine ⟨t, a, gr, ms, rfl, hw1, k1.L hr, hn, num, mo, fun M2 k2 => ?_⟩
 try walk_at "ev"
 simp only [Ve]
 try walk_at "ev"
 simp only [g25]
 have k12 := k1.trans k2
 refine ⟨a, gr, rfl, k12.L hr, hn, fun ps M3 r3 hb k3 hw3 _ => ?_⟩
 try walk_at "ev"
 have h3 := Z2 hw3
 refine ⟨_, h3, ?_⟩
 refine Ys (fun i σ M' => ∃ d2 d3, σ = [some (.ref a), some (.ref t), d2, d3] ∧ M' = M3) ⟨_, _, rfl, rfl⟩ ?_ ?_ ?_
 ·rintro i σ M' _ ⟨d2, d3, rfl, rfl⟩
  exact h3
 ·rintro i dx σ M' C hx ⟨d2, d3, rfl, rfl⟩ hC
  obtain ⟨⟨x, y⟩, hp, rfl⟩ := Z08 hx
  obtain ⟨hx1, hx2, hx3⟩ := (hb.1 x y).mp (List.mem_of_getElem? hp)
  simp only [Vj]
  walk_at "ev"
  simp only [g28]
  refine ⟨t, y, x, gr.length, wy gr, ms, rfl, k3.L (k2.L (Z2 hw1)), num, mo, hx1, fun b hb' => ?_⟩
  have : b = true := hb'.mpr (ord x y hx1 hx2 hx3)
  subst this
  try walk_at "ev"
  exact hC _ _ ⟨_, _, rfl, rfl⟩
 ·rintro σ M' ⟨d2, d3, rfl, rfl⟩
  simp only [Vf]
  try walk_at "ev"
  exact q _ (k12.trans k3)
end
def Xy : DSp := fun ds M Q _ => ∃ (r a l : Nat) (gr : List Nd) (W : List Nat), ds = [.ref r, .ref a, .int l] ∧ Zc M r = some (natD W) ∧ Z6 M a = some (gr.map Nd.d) ∧ gr.length ≤ 1000 ∧ W.length ≤ 1000 ∧ (∀ x ∈ W, x < gr.length) ∧ BF.Way (fun p y => y ∈ wy gr p) 0 l W ∧ ∀ M', Kp M M' → Q (.bl true) M'
theorem Za9 (xs : List D) : U.cutD xs none (some (-1)) = xs.take (xs.length - 1) := by
 have e1 : HT.sIx xs.length 0 none = 0 := rfl
 have e2 : HT.sIx xs.length xs.length (some (-1)) = xs.length - 1 := by
  show (if (-1 : Int) < 0 then ((-1 : Int) + (xs.length : Int)).toNat else min (-1 : Int).toNat xs.length) = _
  rw [if_pos (by decide)]
  omega
 unfold U.cutD
 rw [e1, e2, List.drop_zero, Nat.sub_zero]
theorem Eh (xs : List D) : U.cutD xs (some 1) none = xs.drop 1 := by
 have e1 : HT.sIx xs.length xs.length none = xs.length := rfl
 have e2 : HT.sIx xs.length 0 (some 1) = min 1 xs.length := HT.Z33 xs.length 0 1
 unfold U.cutD
 rw [e1, e2]
 cases xs with
 | nil => rfl
 | cons x r =>
  rw [Nat.min_eq_left (by simp)]
  exact List.take_of_length_le (by rw [List.length_drop]; exact Nat.le_refl _)
theorem Ek {W : List Nat} (nd : W.Nodup) {ks' : List Key} (h1 : ks'.Nodup) (h2 : ∀ k, k ∈ ks' ↔ k ∈ W.map fun (x : Nat) => (Sum.inl (x : Int) : Key)) : ks'.length = W.length := by
 have ndW : (W.map fun (x : Nat) => (Sum.inl (x : Int) : Key)).Nodup := by
  unfold List.Nodup
  rw [List.pairwise_map]
  exact List.Pairwise.imp (fun h e => h (by have := Sum.inl.inj e; omega)) nd
 have p : ks'.Perm (W.map fun (x : Nat) => (Sum.inl (x : Int) : Key)) := (List.perm_ext_iff_of_nodup h1 ndW).mpr h2
 rw [p.length_eq, List.length_map]
theorem E3 (W : List Nat) : (W.map fun (x : Nat) => (Sum.inl (x : Int) : Key)).map kD = natD W := by
 unfold natD
 rw [List.map_map]
 rfl
section
variable {K : PySem.W.Frag}
theorem Bd {Γ G} (g6 : Γ[21]? = some Yh) : RR ⟨K, Γ, G⟩ b_Lis_way To Xy := by
 rintro ds M Q Z ⟨r, a, l, gr, W, rfl, hw, hr, hn, hW, hlt, way, q⟩
 have pos := way.pos
 have hwl := Z2 hw
 simp only [b_Lis_way, To]
 walk_at "ev"
 rw [Fa hw]
 try walk_at "ev"
 refine Yc hwl ?_
 rw [Z8]
 walk_at "ev"
 rw [if_neg (by omega)]
 simp only [Qf]
 walk_at "ev"
 refine ⟨_, hwl, ?_⟩
 refine Ys (fun i σ M' => ∃ d, σ = [some (.ref r), some (.ref a), some (.int l), d, none, none] ∧ M' = M) ⟨none, rfl, rfl⟩ ?_ ?_ ?_
 ·rintro i σ M' _ ⟨d, rfl, rfl⟩
  exact hwl
 ·rintro i dx σ M' C hx ⟨d, rfl, rfl⟩ hC
  have hi : i < W.length := by have := (List.getElem?_eq_some_iff.mp hx).1; rwa [Z8] at this
  have hxi : W[i]? = some W[i] := List.getElem?_eq_getElem hi
  generalize W[i] = x at hxi
  rw [Zp hxi] at hx
  cases hx
  have hxn := hlt x (List.mem_of_getElem? hxi)
  simp only [Qx]
  walk_at "ev"
  rw [if_pos (show ¬ (x : Int) < 0 by omega)]
  refine Yc hr ?_
  rw [List.length_map]
  try walk_at "ev"
  rw [if_neg (by omega)]
  exact hC _ _ ⟨_, rfl, rfl⟩
 rintro σ M' ⟨d, rfl, e⟩
 have e := e.symm
 subst e
 simp only [Qs]
 walk_at "ev"
 refine ⟨_, hwl, ?_⟩
 try walk_at "ev"
 refine ⟨_, Z5 hwl, ?_⟩
 rw [Za9, Eh, Z8]
 have e1 : (natD W).take (W.length - 1) = natD (W.take (W.length - 1)) := by unfold natD; rw [List.map_take]
 have e2 : (natD W).drop 1 = natD (W.drop 1) := by unfold natD; rw [List.map_drop]
 rw [e1, e2]
 refine ⟨_, _, Z5 (Z9 _ _ []), Z9 _ _ [], ?_⟩
 have k1 : Kp M (M ++ [Cell.lst (natD (W.take (W.length - 1)))] ++ [Cell.lst (natD (W.drop 1))]) := (Kp.new _ _).app _
 have r1 : Z6 (M ++ [Cell.lst (natD (W.take (W.length - 1)))] ++ [Cell.lst (natD (W.drop 1))]) M.length = some (natD (W.take (W.length - 1))) := Z5 (Z9 _ _ [])
 have r2 : Z6 (M ++ [Cell.lst (natD (W.take (W.length - 1)))] ++ [Cell.lst (natD (W.drop 1))]) (M ++ [Cell.lst (natD (W.take (W.length - 1)))]).length = some (natD (W.drop 1)) := Z9 _ _ []
 generalize M ++ [Cell.lst (natD (W.take (W.length - 1)))] ++ [Cell.lst (natD (W.drop 1))] = M1 at k1 r1 r2
 generalize (M ++ [Cell.lst (natD (W.take (W.length - 1)))]).length = p2 at r2
 have zl : (zipT (natD (W.take (W.length - 1))) (natD (W.drop 1))).length = W.length - 1 := by
  unfold zipT
  rw [List.length_map, List.length_zip, Z8, Z8, List.length_take, List.length_drop]
  omega
 have zg : ∀ (i x y : Nat), W[i]? = some x → W[i + 1]? = some y → (zipT (natD (W.take (W.length - 1))) (natD (W.drop 1)))[i]? = some (.tup [.int x, .int y]) := by
  intro i x y h1 h2
  have hi := (List.getElem?_eq_some_iff.mp h2).1
  unfold zipT
  rw [List.getElem?_map]
  have : (List.zip (natD (W.take (W.length - 1))) (natD (W.drop 1)))[i]? = some (.int x, .int y) := by
   rw [List.getElem?_zip_eq_some]
   refine ⟨Zp ?_, Zp ?_⟩
   ·rw [List.getElem?_take_of_lt (by omega)]; exact h1
   ·rw [List.getElem?_drop, Nat.add_comm 1 i]; exact h2
  rw [this]
  rfl
 refine Ys (fun i σ M' => ∃ d4 d5, σ = [some (.ref r), some (.ref a), some (.int l), d, d4, d5] ∧ Kp M1 M') ⟨none, none, rfl, Kp.refl _⟩ ?_ ?_ ?_
 ·rintro i σ M' _ ⟨d4, d5, rfl, k⟩
  exact ⟨_, _, k.L r1, k.L r2, rfl⟩
 ·rintro i dx σ M' C hx ⟨d4, d5, rfl, k⟩ hC
  have hi : i < W.length - 1 := by have := (List.getElem?_eq_some_iff.mp hx).1; rwa [zl] at this
  have hxi : W[i]? = some W[i] := List.getElem?_eq_getElem (by omega)
  have hyi : W[i + 1]? = some W[i + 1] := List.getElem?_eq_getElem (by omega)
  generalize W[i] = x at hxi
  generalize W[i + 1] = y at hyi
  rw [zg i x y hxi hyi] at hx
  cases hx
  have hxn := hlt x (List.mem_of_getElem? hxi)
  have hgo := way.go i x y hxi hyi
  obtain ⟨nd, hd⟩ : ∃ nd, gr[x]? = some nd := ⟨_, List.getElem?_eq_getElem hxn⟩
  rw [Q9 hd] at hgo
  simp only [Q5]
  walk_at "ev"
  try simp only [List.zip_cons_cons, List.zip_nil_right, List.foldl_cons, List.foldl_nil, List.set_cons_succ, List.set_cons_zero, List.getElem?_cons_succ, List.getElem?_cons_zero]
  try walk_at "ev"
  refine ix_l (k.L (k1.L hr)) (T8 hd) ?_
  simp only [g6]
  refine ⟨nd, rfl, ?_⟩
  refine Q2 (Z9 _ _ []) ?_
  rw [decide_eq_true hgo, if_neg (by decide)]
  exact hC _ _ ⟨_, _, rfl, k.app _⟩
 rintro σ M' ⟨d4, d5, rfl, k⟩
 simp only [Q6]
 walk_at "ev"
 have hw2 := k.L (k1.L hwl)
 refine N6 hw2 (G9 (j := 0) (Zp way.fst)) ?_
 try walk_at "ev"
 have hlast : atI (natD W) (-1) = some (.int l) := by
  have h1 : W = W.dropLast ++ [l] := by
   have hne : W ≠ [] := fun z => by rw [z] at pos; simp at pos
   have h2 := List.dropLast_concat_getLast hne
   have h3 : W.getLast hne = l := by
    have h4 := way.lst
    rw [List.getLast_eq_getElem]
    rw [List.getElem?_eq_getElem (by omega)] at h4
    exact Option.some.inj h4
   rw [h3] at h2
   exact h2.symm
  rw [h1, Ym]
  exact Tv _ _
 have hpos : ((0 : Nat) : Int) = 0 := rfl
 rw [if_pos (by decide)]
 refine N6 hw2 hlast ?_
 try walk_at "ev"
 refine ⟨W.map fun (x : Nat) => (Sum.inl (x : Int) : Key), by rw [E3]; exact hw2, by rw [List.length_map]; exact Nat.lt_of_le_of_lt (Nat.succ_le_succ hW) (by decide), fun ks' n1 n2 => ?_⟩
 refine Yc hw2 ?_
 rw [Z8, Ek way.nd n1 n2]
 try walk_at "ev"
 have := q M' (k1.trans k)
 simpa using this
end
def natP (ms : List Nat) : List PyData := ms.map fun (x : Nat) => PyData.int (x : Int)
theorem Gx {M : Z3} : ∀ l : List Nat, PDs M (natP l) (natD l)
 | [] => rfl
 | _ :: r => ⟨_, _, rfl, rfl, Gx r⟩
theorem Fl : ∀ l : List Nat, PyData.canLayAll0 (natP l) = true
 | [] => by unfold natP; rw [List.map_nil, PyData.canLayAll0]
 | x :: r => by
  show PyData.canLayAll0 (PyData.int (x : Int) :: natP r) = true
  unfold PyData.canLayAll0
  rw [Fl r]
  rfl
theorem Ee : ∀ l : List Nat, PyData.depthAll (natP l) ≤ 4
 | [] => by simp [natP, PyData.depthAll]
 | x :: r => by
  show PyData.depthAll (PyData.int (x : Int) :: natP r) ≤ 4
  unfold PyData.depthAll
  have := Ee r
  simp only [PyData.depth]
  omega
theorem Zm0 {M : Z3} {m n : Nat} {ms : List Nat} {B : Bool → Prop} (h1 : Z6 M m = some (natD ms)) (h2 : Z6 M n = some (natD ms)) (q : B true) : eqD M (.ref m) (.ref n) B := by
 have hc : PyData.canLay0 (.list (natP ms)) = true := by unfold PyData.canLay0; exact Fl ms
 refine .inl ⟨.list (natP ms), .list (natP ms), ⟨m, _, rfl, h1, Gx ms⟩, ⟨n, _, rfl, h2, Gx ms⟩, hc, hc, ?_, ?_⟩
 ·unfold PyData.depth
  have := Ee ms
  omega
 ·rw [PySem.SeqAt.eqv_refl _ hc]
  exact q
theorem Zn7 (xs : List D) : U.cutD xs none (some 1) = xs.take 1 := by
 have e1 : HT.sIx xs.length 0 none = 0 := rfl
 have e2 : HT.sIx xs.length xs.length (some 1) = min 1 xs.length := HT.Z33 xs.length xs.length 1
 unfold U.cutD
 rw [e1, e2, List.drop_zero, Nat.sub_zero]
 cases xs with
 | nil => rfl
 | cons x r => rw [Nat.min_eq_left (by simp)]
theorem Zg3 (xs : List D) (d : D) : U.cutD (xs ++ [d]) (some (-1)) none = [d] := by
 have e1 : HT.sIx (xs ++ [d]).length (xs ++ [d]).length none = (xs ++ [d]).length := rfl
 have e2 : HT.sIx (xs ++ [d]).length 0 (some (-1)) = xs.length := by
  show (if (-1 : Int) < 0 then ((-1 : Int) + ((xs ++ [d]).length : Int)).toNat else min (-1 : Int).toNat (xs ++ [d]).length) = _
  rw [if_pos (by decide), List.length_append, List.length_singleton]
  omega
 unfold U.cutD
 rw [e1, e2, List.drop_left]
 exact List.take_of_length_le (by rw [List.length_append]; simp)
def Ps : DSp := fun ds M Q _ => ∃ (r a : Nat) (gr : List Nd) (A : List Nat), ds = [.ref r, .ref a] ∧ Zc M r = some (natD A) ∧ Z6 M a = some (gr.map Nd.d) ∧ gr.length ≤ 1000 ∧ A.length ≤ 1000 ∧ 0 < A.length ∧ (∀ x ∈ A, x < gr.length) ∧ A.Nodup ∧ (∀ (i x y : Nat), A[i]? = some x → A[i + 1]? = some y → y ∈ wy gr x) ∧ (∀ x y : Nat, A[A.length - 1]? = some x → A[0]? = some y → y ∈ wy gr x) ∧ ∀ M', Kp M M' → Q (.bl true) M'
def Q0 : DSp := fun ds M Q _ => ∃ (r a c x : Nat) (gr : List Nd) (W0 A : List Nat), ds = [.ref r, .ref a, .ref c] ∧ Zc M r = some (natD (W0 ++ [x])) ∧ Z6 M a = some (gr.map Nd.d) ∧ Z6 M c = some (natD A) ∧ gr.length ≤ 1000 ∧ W0.length < 1000 ∧ (∀ u ∈ W0 ++ [x], u < gr.length) ∧ x ∈ A ∧ (∀ z ∈ W0, z ∉ A) ∧ BF.Way (fun p y => y ∈ wy gr p) 0 x (W0 ++ [x]) ∧ ∀ M', Kp M M' → Q (.bl true) M'
section
variable {K : PySem.W.Frag}
theorem Zl8 {Γ G} (g21 : Γ[21]? = some Yh) (g27 : Γ[27]? = some W1) : RR ⟨K, Γ, G⟩ b_Lis_ring Vq Ps := by
 rintro ds M Q Z ⟨r, a, gr, A, rfl, hw, hr, hn, hA, pos, hlt, nd, go, cls, q⟩
 have hwl := Z2 hw
 simp only [b_Lis_ring, Vq]
 walk_at "ev"
 rw [Fa hw]
 try walk_at "ev"
 refine Yc hwl ?_
 rw [Z8]
 try walk_at "ev"
 rw [if_pos (by omega)]
 refine ⟨A.map fun (x : Nat) => (Sum.inl (x : Int) : Key), by rw [E3]; exact hwl, by rw [List.length_map]; exact Nat.lt_of_le_of_lt (Nat.succ_le_succ hA) (by decide), fun ks' n1 n2 => ?_⟩
 refine Yc hwl ?_
 rw [Z8, Ek nd n1 n2]
 try walk_at "ev"
 rw [if_neg (fun z => z trivial)]
 simp only [Ra]
 walk_at "ev"
 refine ⟨_, hwl, ?_⟩
 refine Ys (fun i σ M' => ∃ d, σ = [some (.ref r), some (.ref a), d, none, none] ∧ M' = M) ⟨none, rfl, rfl⟩ ?_ ?_ ?_
 ·rintro i σ M' _ ⟨d, rfl, rfl⟩
  exact hwl
 ·rintro i dx σ M' C hx ⟨d, rfl, rfl⟩ hC
  have hi : i < A.length := by have := (List.getElem?_eq_some_iff.mp hx).1; rwa [Z8] at this
  have hxi : A[i]? = some A[i] := List.getElem?_eq_getElem hi
  generalize A[i] = x at hxi
  rw [Zp hxi] at hx
  cases hx
  have hxn := hlt x (List.mem_of_getElem? hxi)
  simp only [Sw]
  walk_at "ev"
  simp only [g27]
  refine ⟨_, rfl, ?_⟩
  try walk_at "ev"
  rw [if_pos (show ¬ (x : Int) < 0 by omega)]
  refine Yc hr ?_
  rw [List.length_map]
  try walk_at "ev"
  rw [if_neg (by omega)]
  exact hC _ _ ⟨_, rfl, rfl⟩
 rintro σ M' ⟨d, rfl, e⟩
 have e := e.symm
 subst e
 simp only [Rb]
 walk_at "ev"
 refine ⟨_, hwl, ?_⟩
 rw [Eh]
 try walk_at "ev"
 refine ⟨_, Z5 hwl, ?_⟩
 rw [Zn7]
 have e1 : (natD A).drop 1 = natD (A.drop 1) := by unfold natD; rw [List.map_drop]
 have e2 : (natD A).take 1 = natD (A.take 1) := by unfold natD; rw [List.map_take]
 rw [e1, e2]
 try walk_at "ev"
 refine ⟨natD (A.drop 1), natD (A.take 1), Y3 (Zg _ _ []), Zg _ _ [], by rw [Z8, Z8, List.length_drop, List.length_take]; exact Z0 (by omega), ?_⟩
 rw [← E7]
 have k1 : Kp M (M ++ [Cell.lst (natD (A.drop 1))] ++ [Cell.lst (natD (A.take 1))] ++ [Cell.lst (natD (A.drop 1 ++ A.take 1))]) := ((Kp.new _ _).app _).app _
 have r2 := Z9 (M ++ [Cell.lst (natD (A.drop 1))] ++ [Cell.lst (natD (A.take 1))]) (natD (A.drop 1 ++ A.take 1)) []
 generalize M ++ [Cell.lst (natD (A.drop 1))] ++ [Cell.lst (natD (A.take 1))] ++ [Cell.lst (natD (A.drop 1 ++ A.take 1))] = M1 at k1 r2
 generalize (M ++ [Cell.lst (natD (A.drop 1))] ++ [Cell.lst (natD (A.take 1))]).length = p2 at r2
 have r1 := k1.L hwl
 refine ⟨_, _, r1, r2, ?_⟩
 have zl : (zipT (natD A) (natD (A.drop 1 ++ A.take 1))).length = A.length := by
  unfold zipT
  rw [List.length_map, List.length_zip, Z8, Z8, List.length_append, List.length_take, List.length_drop]
  omega
 have zg : ∀ (i x : Nat), A[i]? = some x → ∃ y, (zipT (natD A) (natD (A.drop 1 ++ A.take 1)))[i]? = some (.tup [.int x, .int (y : Nat)]) ∧ y ∈ wy gr x := by
  intro i x h1
  have hi := (List.getElem?_eq_some_iff.mp h1).1
  obtain ⟨y, hy, hyw⟩ : ∃ y, (A.drop 1 ++ A.take 1)[i]? = some y ∧ y ∈ wy gr x := by
   by_cases hl : i + 1 < A.length
   ·refine ⟨A[i + 1], ?_, go i x _ h1 (List.getElem?_eq_getElem hl)⟩
    rw [List.getElem?_append_left (by rw [List.length_drop]; omega), List.getElem?_drop, Nat.add_comm 1 i, List.getElem?_eq_getElem hl]
   ·have ei : i = A.length - 1 := by omega
    refine ⟨A[0], ?_, cls x _ (by rw [← ei]; exact h1) (List.getElem?_eq_getElem pos)⟩
    rw [List.getElem?_append_right (by rw [List.length_drop]; omega), List.length_drop, ei, Nat.sub_self, List.getElem?_take_of_lt (by omega), List.getElem?_eq_getElem pos]
  refine ⟨y, ?_, hyw⟩
  unfold zipT
  rw [List.getElem?_map]
  have : (List.zip (natD A) (natD (A.drop 1 ++ A.take 1)))[i]? = some (.int x, .int y) := by
   rw [List.getElem?_zip_eq_some]
   exact ⟨Zp h1, Zp hy⟩
  rw [this]
  rfl
 refine Ys (fun i σ M' => ∃ d4 d5, σ = [some (.ref r), some (.ref a), d, d4, d5] ∧ Kp M1 M') ⟨none, none, rfl, Kp.refl _⟩ ?_ ?_ ?_
 ·rintro i σ M' _ ⟨d4, d5, rfl, k⟩
  exact ⟨_, _, k.L r1, k.L r2, rfl⟩
 ·rintro i dx σ M' C hx ⟨d4, d5, rfl, k⟩ hC
  have hi : i < A.length := by have := (List.getElem?_eq_some_iff.mp hx).1; rwa [zl] at this
  have hxi : A[i]? = some A[i] := List.getElem?_eq_getElem hi
  generalize A[i] = x at hxi
  obtain ⟨y, hy, hyw⟩ := zg i x hxi
  rw [hy] at hx
  cases hx
  have hxn := hlt x (List.mem_of_getElem? hxi)
  obtain ⟨nd', hd⟩ : ∃ nd', gr[x]? = some nd' := ⟨_, List.getElem?_eq_getElem hxn⟩
  rw [Q9 hd] at hyw
  simp only [Sz]
  walk_at "ev"
  try simp only [List.zip_cons_cons, List.zip_nil_right, List.foldl_cons, List.foldl_nil, List.set_cons_succ, List.set_cons_zero, List.getElem?_cons_succ, List.getElem?_cons_zero]
  try walk_at "ev"
  refine ix_l (k.L (k1.L hr)) (T8 hd) ?_
  simp only [g21]
  refine ⟨nd', rfl, ?_⟩
  refine Q2 (Z9 _ _ []) ?_
  rw [decide_eq_true hyw, if_neg (by decide)]
  exact hC _ _ ⟨_, _, rfl, k.app _⟩
 rintro σ M' ⟨d4, d5, rfl, k⟩
 simp only [So]
 try walk_at "ev"
 exact q M' (k1.trans k)
end
section
variable {K : PySem.W.Frag}
theorem Zc1 {Γ G} (g26 : Γ[26]? = some Xy) : RR ⟨K, Γ, G⟩ b_Lcomes_to Wv Q0 := by
 rintro ds M Q Z ⟨r, a, c, x, gr, W0, A, rfl, hw, hr, hc, hn, hW, hlt, hx, hno, way, q⟩
 have hwl := Z2 hw
 have hla : atI (natD (W0 ++ [x])) (-1) = some (.int x) := by rw [Ym]; exact Tv _ _
 simp only [b_Lcomes_to, Wv]
 walk_at "ev"
 rw [Fa hw]
 try walk_at "ev"
 refine Yc hwl ?_
 rw [Z8, List.length_append, List.length_singleton]
 try walk_at "ev"
 rw [if_pos (by omega)]
 refine N6 hwl hla ?_
 refine Q2 hc ?_
 rw [decide_eq_true hx]
 try walk_at "ev"
 simp only [Tl]
 try walk_at "ev"
 refine N6 hwl hla ?_
 simp only [g26]
 refine ⟨r, a, x, gr, W0 ++ [x], rfl, hw, hr, hn, by rw [List.length_append, List.length_singleton]; omega, hlt, way, fun M1 k1 => ?_⟩
 try walk_at "ev"
 simp only [Tk]
 try walk_at "ev"
 have hw1 := k1.L hwl
 have hc1 := k1.L hc
 refine ⟨_, hw1, ?_⟩
 simp only [capD, List.map_cons, List.map_nil, Option.bind_none, Option.bind_some, List.getElem?_cons_zero, List.getElem?_cons_succ, Option.join_some]
 refine Oq (fun i σ M' => ∃ d, σ = [d, some (.ref c)] ∧ M' = M1 ++ [.lst (natD (if i ≤ W0.length then [] else [x]))]) ⟨none, rfl, by rw [if_pos (Nat.zero_le _)]; rfl⟩ ?_ ?_ ?_
 ·rintro i σ M' _ ⟨d, rfl, rfl⟩
  exact Z5 hw1
 ·rintro i dx σ M' C hd ⟨d, rfl, rfl⟩ hC
  have hi : i < W0.length + 1 := by have := (List.getElem?_eq_some_iff.mp hd).1; rwa [Z8, List.length_append] at this
  rw [if_pos (by omega)]
  by_cases hl : i < W0.length
  ·have hxi : W0[i]? = some W0[i] := List.getElem?_eq_getElem hl
   generalize W0[i] = u at hxi
   rw [Zp (GT.Y9 hxi)] at hd
   cases hd
   try walk_at "ev"
   refine Q2 (Z5 hc1) ?_
   rw [decide_eq_false (hno u (List.mem_of_getElem? hxi)), if_neg Bool.false_ne_true]
   refine hC _ _ ⟨_, rfl, ?_⟩
   rw [if_pos (by omega)]
  ·have ei : i = W0.length := by omega
   subst ei
   rw [Zp (GT.Ww W0 x)] at hd
   cases hd
   try walk_at "ev"
   refine Q2 (Z5 hc1) ?_
   rw [decide_eq_true hx, if_pos rfl]
   refine ⟨_, Zg _ _ [], by rw [Z8]; exact Zn (by simp), ?_⟩
   rw [Xm]
   refine hC _ _ ⟨_, rfl, ?_⟩
   rw [if_neg (by omega)]
   rfl
 ·rintro σ M' ⟨d, rfl, rfl⟩
  rw [Z8, List.length_append, List.length_singleton, if_neg (by omega)]
  try walk_at "ev"
  refine ⟨_, Z5 hw1, ?_⟩
  rw [Ym, Zg3]
  try walk_at "ev"
  refine Zm0 (ms := [x]) (Z5 (Z9 _ _ [])) (Z9 _ _ []) ?_
  exact q _ ((k1.trans (Kp.new _ _)).app _)
def Eb : DSp := fun ds M Q _ => ∃ (r1 r2 r3 a : Nat) (gr : List Nd) (A S P : List Nat), ds = [.tup [.ref r1, .ref r2, .ref r3], .ref a] ∧ Zc M r1 = some (natD A) ∧ Zc M r2 = some (natD S) ∧ Zc M r3 = some (natD P) ∧ Z6 M a = some (gr.map Nd.d) ∧ gr.length ≤ 1000 ∧ GT.Num (wy gr) gr.length ∧ Two gr A S P ∧ ∀ M', Kp M M' → Q (.bl true) M'
theorem Z63 {E : Nat → Nat → Prop} {b l : Nat} {W : List Nat} (h : BF.Way E b l W) : W = W.dropLast ++ [l] := by
 have pos := h.pos
 have hne : W ≠ [] := fun z => by rw [z] at pos; simp at pos
 have h2 := List.dropLast_concat_getLast hne
 have h3 : W.getLast hne = l := by
  have h4 := h.lst
  rw [List.getLast_eq_getElem]
  rw [List.getElem?_eq_getElem (by omega)] at h4
  exact Option.some.inj h4
 rw [h3] at h2
 exact h2.symm
theorem Zd0 {E : Nat → Nat → Prop} {b l i u : Nat} {W : List Nat} (h : BF.Way E b l W) (hu : W[i]? = some u) : BF.Way E b u (W.take (i + 1)) ∧ W.take (i + 1) = W.take i ++ [u] := by
 have hi := (List.getElem?_eq_some_iff.mp hu).1
 have at' : ∀ j, j < i + 1 → (W.take (i + 1))[j]? = W[j]? := fun j hj => List.getElem?_take_of_lt hj
 have len : (W.take (i + 1)).length = i + 1 := by rw [List.length_take]; omega
 refine ⟨⟨by rw [at' 0 (by omega)]; exact h.fst, by rw [len, at' _ (by omega)]; exact hu, fun j x y h1 h2 => ?_, h.nd.sublist (List.take_sublist _ _)⟩, X1 hu⟩
 have l2 := (List.getElem?_eq_some_iff.mp h2).1
 rw [len] at l2
 rw [at' _ (by omega)] at h1
 rw [at' _ l2] at h2
 exact h.go j x y h1 h2
theorem Zt9 {Γ G} (g31 : Γ[31]? = some Ps) (g32 : Γ[32]? = some Q0) : RR ⟨K, Γ, G⟩ b_Ltwo_ways Wt Eb := by
 rintro ds M Q Z ⟨r1, r2, r3, a, gr, A, S, P, rfl, h1, h2, h3, hr, hn, num, ⟨x, y, W, hx, hy, hyx, hy0, wA, wS, wW, i, u, hu, hA, rfl, hno⟩, q⟩
 have hyn := num.cl x hx y hy
 have inA := Zv2 num.cl hyn wA
 have inS := Zv2 num.cl num.pos wS
 have inW := Zj1 num hy0 wW
 obtain ⟨wP, eP⟩ := Zd0 wW hu
 have eS := Z63 wS
 have lA := N3 wA inA
 have lS := N3 wS inS
 have lW := N3 wW fun j z hz => (inW j z hz).1
 have hi := (List.getElem?_eq_some_iff.mp hu).1
 simp only [b_Ltwo_ways, Wt]
 walk_at "ev"
 refine ⟨_, rfl, ?_⟩
 simp only [g31]
 refine ⟨r1, a, gr, A, rfl, h1, hr, hn, by omega, wA.pos, fun z hz => ?_, wA.nd, fun j z w e1 e2 => (wA.go j z w e1 e2).1, fun z w e1 e2 => ?_, fun M1 k1 => ?_⟩
 ·obtain ⟨j, hj⟩ := List.getElem?_of_mem hz
  exact inA j z hj
 ·rw [wA.lst] at e1
  rw [wA.fst] at e2
  cases e1
  cases e2
  exact hy
 try walk_at "ev"
 simp only [T7]
 try walk_at "ev"
 refine ⟨_, rfl, _, rfl, ?_⟩
 simp only [g32]
 refine ⟨r2, a, r1, y, gr, S.dropLast, A, rfl, by rw [← eS]; exact k1.W h2, k1.L hr, k1.L (Z2 h1), hn, by rw [List.length_dropLast]; have := wS.pos; omega, fun z hz => ?_, List.mem_of_getElem? wA.fst, fun z hz hzA => ?_, ?_, fun M2 k2 => ?_⟩
 ·rw [← eS] at hz
  obtain ⟨j, hj⟩ := List.getElem?_of_mem hz
  exact inS j z hj
 ·have h5 := DF.Zd3 wA hzA
  obtain ⟨j, hj⟩ := List.getElem?_of_mem hz
  have jl := (List.getElem?_eq_some_iff.mp hj).1
  rw [List.length_dropLast] at jl
  have hj2 : S[j]? = some z := by rw [eS]; exact GT.Y9 hj
  have := DF.Zx4 wS (S.length - 1) j z y jl hj2 wS.lst
  omega
 ·rw [← eS]
  exact E1 wS fun _ _ e => e.1
 try walk_at "ev"
 refine ⟨_, rfl, _, rfl, ?_⟩
 try simp only [g32]
 refine ⟨r3, a, r1, u, gr, W.take i, A, rfl, by rw [← eP]; exact k2.W (k1.W h3), k2.L (k1.L hr), k2.L (k1.L (Z2 h1)), hn, by rw [List.length_take]; omega, fun z hz => ?_, hA, fun z hz hzA => ?_, ?_, fun M3 k3 => ?_⟩
 ·rw [← eP] at hz
  obtain ⟨j, hj⟩ := List.getElem?_of_mem (List.mem_of_mem_take hz)
  exact (inW j z hj).1
 ·obtain ⟨j, hj⟩ := List.getElem?_of_mem hz
  have jl := (List.getElem?_eq_some_iff.mp hj).1
  rw [List.length_take] at jl
  rw [List.getElem?_take_of_lt (by omega)] at hj
  exact hno j z (by omega) hj hzA
 ·rw [← eP]
  exact E1 wP fun _ _ e => e.1
 try walk_at "ev"
 simp only [Tm]
 try walk_at "ev"
 rw [if_neg (by decide)]
 have nS : natD S = natD S.dropLast ++ [.int y] := by rw [← Ym, ← eS]
 have nP : natD (W.take (i + 1)) = natD (W.take i) ++ [.int u] := by rw [← Ym, ← eP]
 refine ⟨_, rfl, N6 (k3.L (k2.L (k1.L (Z2 h2)))) (by rw [nS]; exact Tv _ _) ⟨_, rfl, N6 (k3.L (k2.L (k1.L (Z2 h3)))) (by rw [nP]; exact Tv _ _) ?_⟩⟩
 try walk_at "ev"
 have huy := (inW i u hu).2
 rw [decide_eq_false (show ¬ (y : Int) = (u : Int) by omega)]
 exact q M3 (k1.trans (k2.trans k3))
end
def gS : List Nd := [.sum "x" (.nm "x") "+" (.no 1) 1, .test (.nm "x") "<" (.no 9) 0 1]
theorem Zw0 : GT.Num (wy gS) gS.length where
 pos := by decide
 cl := by
  intro x hx
  have hx : x < 2 := hx
  match x, hx with
  | 0, _ => decide
  | 1, _ => decide
 up := by
  intro k hk h0
  have hk : k < 2 := hk
  exact ⟨0, by omega, by rw [show k = 1 by omega]; decide⟩
theorem Zy8 : Ordl gS := by
 intro a b ha hb hl
 have ha : a < 2 := ha
 match a, ha with
 | 0, _ =>
  have : b ∈ ([1] : List Nat) := hb
  simp at this
  omega
 | 1, _ =>
  have : b ∈ ([1, 0] : List Nat) := hb
  simp at this
  rcases this with rfl | rfl
  ·exact GT.Rt
  ·exact GT.Fg
theorem Zt8 : Bck gS := by
 intro a b ha hb hl
 have ha : a < 2 := ha
 match a, ha with
 | 0, _ =>
  have : b ∈ ([1] : List Nat) := hb
  simp at this
  omega
 | 1, _ =>
  have : b ∈ ([1, 0] : List Nat) := hb
  simp at this
  rcases this with rfl | rfl
  ·exact .here
  ·exact .step .here ⟨by decide, by decide⟩
section
variable {K : PySem.W.Frag}
theorem Y45 {Γ G} (g12 : Γ[12]? = some Zj) (g14 : Γ[14]? = some W4) (g15 : Γ[15]? = some Yb) (g24 : Γ[24]? = some Xe) (g30 : Γ[30]? = some T3) (g33 : Γ[33]? = some Eb) :
  RR ⟨K, Γ, G⟩ b_law Zf4 Z49 := by
 rintro ds M Q Z ⟨ns, rfl, rfl, hl, hb, q⟩
 simp only [b_law, Zf4]
 walk_at "ev"
 simp only [g15]
 refine ⟨0, ns, rfl, rfl, hl, fun M1 r hdr k1 hr1 => ?_⟩
 try walk_at "ev"
 simp only [g24]
 refine ⟨r, 40, rfl, hdr, by decide, by decide, fun gr M2 a num ends hn ok k2 hw2 hr2 => ?_⟩
 try walk_at "ev"
 refine ⟨_, Z2 hw2, ?_⟩
 have hd := Zg M2 (gr.map Nd.d) []
 have ha := Y3 (N := [.lst (gr.map Nd.d)]) hw2
 generalize M2 ++ [Cell.lst (gr.map Nd.d)] = M3 at hd ha
 generalize M2.length = h0 at hd
 have bck : Bck gr := fun x y hx hy hyx => DF.back ends hx hy hyx
 simp only [g12]
 refine ⟨h0, gr, rfl, Z2 hd, by omega, num, fun b M4 hb4 k4 => ?_⟩
 try walk_at "ev"
 simp only [g14]
 refine ⟨h0, gr, rfl, k4.L (Z2 hd), by omega, num, bck, fun ord M5 k5 => ?_, fun A S P M5 q1 q2 q3 nord two k5 w1 w2 w3 l1 l2 l3 => ?_⟩
 ·have : b = true := hb4.mpr ord
  subst this
  have k45 := k4.trans k5
  try walk_at "ev"
  refine Zm5 ok (k45.L (Z2 hd)) (k45.L (Z2 ha)) ?_
  try walk_at "ev"
  rw [if_neg (by decide)]
  simp only [Gh]
  try walk_at "ev"
  simp only [g30]
  exact ⟨a, gr, rfl, k45.L (Z2 ha), by omega, num, ord, fun M6 _ => q M6⟩
 ·have : b = false := by
   cases b with
   | false => rfl
   | true => exact absurd (hb4.mp rfl) nord
  subst this
  have k45 := k4.trans k5
  try walk_at "ev"
  refine Zm5 ok (k45.L (Z2 hd)) (k45.L (Z2 ha)) ?_
  try walk_at "ev"
  rw [if_neg (by decide)]
  simp only [Gh]
  try walk_at "ev"
  simp only [Z62]
  try walk_at "ev"
  simp only [g33]
  refine ⟨q1, q2, q3, a, gr, A, S, P, rfl, w1, w2, w3, k45.L (Z2 ha), by omega, num, two, fun M6 k6 => ?_⟩
  try walk_at "ev"
  simp only [B9]
  try walk_at "ev"
  have l4 : M3.length ≤ M4.length := by obtain ⟨X, rfl⟩ := k4; rw [List.length_append]; omega
  have k46 := k45.trans k6
  refine Ys (fun i σ M' => ∃ d5, σ = [some (.ref 0), some (.ref a), some (.ref h0), some (.bl false), some (.tup [.ref q1, .ref q2, .ref q3]), d5] ∧ Kp M3 M' ∧ ∀ p ∈ [q1, q2, q3], ∃ L, Zc M' p = some L) ⟨none, rfl, k46, fun p hp => ?_⟩ (fun _ _ _ _ _ => trivial) ?_ ?_
  ·simp only [List.mem_cons, List.not_mem_nil, or_false] at hp
   rcases hp with rfl | rfl | rfl
   ·exact ⟨_, k6.W w1⟩
   ·exact ⟨_, k6.W w2⟩
   ·exact ⟨_, k6.W w3⟩
  ·rintro i dx σ M' C hx ⟨d5, rfl, kM, hL⟩ hC
   obtain ⟨p, hp, hp2, rfl⟩ : ∃ p, p ∈ [q1, q2, q3] ∧ M3.length ≤ p ∧ dx = .ref p := by
    match i, hx with
    | 0, hx => cases hx; exact ⟨q1, by simp, by omega, rfl⟩
    | 1, hx => cases hx; exact ⟨q2, by simp, by omega, rfl⟩
    | 2, hx => cases hx; exact ⟨q3, by simp, by omega, rfl⟩
    | n + 3, hx => simp at hx
   obtain ⟨L, hLp⟩ := hL p hp
   simp only [Z64]
   walk_at "ev"
   refine ⟨Zq (Z2 hLp), _, hLp, ?_⟩
   refine hC _ _ ⟨_, rfl, Kp.set kM hp2 _, fun p' hp' => ?_⟩
   by_cases e : p = p'
   ·subst e
    exact ⟨_, Z69 hLp⟩
   ·rw [Ce e]
    exact hL p' hp'
  ·rintro σ M' ⟨d5, rfl, kM, _⟩
   simp only [Z11]
   try walk_at "ev"
   simp only [g14]
   refine ⟨Z0 (by decide), Z0 (by decide), Z0 (by decide), M'.length, gS, rfl, Z9 M' (gS.map Nd.d) [], by decide, Zw0, Zt8, fun _ M7 k7 => ?_, fun _ _ _ _ _ _ _ no => absurd Zy8 no⟩
   have kN : Kp M3 M7 := (kM.app _).trans k7
   try walk_at "ev"
   simp only [Bt]
   try walk_at "ev"
   simp only [g14]
   refine ⟨h0, gr, rfl, kN.L (Z2 hd), by omega, num, bck, fun o => absurd o nord, fun A S P M8 q1 q2 q3 _ two k8 w1 w2 w3 _ _ _ => ?_⟩
   try walk_at "ev"
   simp only [g33]
   have k38 := kN.trans k8
   refine ⟨q1, q2, q3, a, gr, A, S, P, rfl, w1, w2, w3, k38.L (Z2 ha), by omega, num, two, fun M9 k9 => ?_⟩
   try walk_at "ev"
   have k39 := k38.trans k9
   exact Zm5 ok (k39.L (Z2 hd)) (k39.L (Z2 ha)) (q _)
end
set_option maxHeartbeats 0 in
theorem Zx8 {P : Program} {w : World} {K : PySem.W.Frag} {mg : Str → Option Value} {base : Heap} {t : Adr} (T : Tx K mg t) {c0 T0 : Addr} (KX : K.In base) (GB : base.Ns mainGlobals mg) (BB : Bs K mg base) (hT : PySem.W.tabIn K "way_round" = some (c0, T0)) : FnOk P w K mg base (CX1 P w) 35 t.a_law t.d_law ["_law_script"] (spF K Z49) := by
 have PZ : Prg P w K mg base ⟨K, [bot, bot, bot, bot, bot, bot, bot, bot, bot, bot, bot, bot, bot, bot, bot, bot, bot, bot, bot, bot, bot, bot, bot, bot, bot, bot, bot, bot, bot, bot, bot, bot, bot, bot, bot], [.cls t.a_is_onward]⟩ FN GN BN 0 := Prg.zero (ents T) rfl (by intro sp h; simp only [List.mem_cons, List.not_mem_nil, or_false, or_self] at h; exact h) (fun g x d h1 h2 => match g, h1, h2 with | 0, h1, h2 => by cases h1; cases h2; exact ⟨.ref _, .ref _, T.g_is_onward, rfl, fun w _ => Jh.mpr rfl⟩ | n + 1, h1, h2 => by cases h2) (blts T)
 have P0 := PZ.up (show 0 ≤ 0 by decide)
 have F0 := fn0 P0 T.F_ways Zq8 Zz4 (sp := Zs) (by rintro _ _ _ _ ⟨_, rfl, _⟩; rfl) Y12
 have P1 : Prg P w K mg base ⟨K, [Zs, bot, bot, bot, bot, bot, bot, bot, bot, bot, bot, bot, bot, bot, bot, bot, bot, bot, bot, bot, bot, bot, bot, bot, bot, bot, bot, bot, bot, bot, bot, bot, bot, bot, bot], [.cls t.a_is_onward]⟩ FN GN BN 1 := P0.add 0 (x := "ways") rfl F0 (Nat.le_refl _) (Nat.le_succ _) T.g_ways T.k_ways T.b_ways
 have F1 := fn0 P1 T.F_comings Co B7 (sp := Z7) (by rintro _ _ _ _ ⟨_, _, rfl, _⟩; rfl) (Z48 rfl)
 have P2 : Prg P w K mg base ⟨K, [Zs, Z7, bot, bot, bot, bot, bot, bot, bot, bot, bot, bot, bot, bot, bot, bot, bot, bot, bot, bot, bot, bot, bot, bot, bot, bot, bot, bot, bot, bot, bot, bot, bot, bot, bot], [.cls t.a_is_onward]⟩ FN GN BN 2 := P1.add 1 (x := "comings") rfl F1 (Nat.le_refl _) (Nat.le_succ _) T.g_comings T.k_comings T.b_comings
 have F2 := fn0 P2 T.F_last_above Of Nv (sp := Zz) (by rintro _ _ _ _ ⟨_, _, _, _, _, _, rfl, _⟩; rfl) Zy7
 have P3 : Prg P w K mg base ⟨K, [Zs, Z7, Zz, bot, bot, bot, bot, bot, bot, bot, bot, bot, bot, bot, bot, bot, bot, bot, bot, bot, bot, bot, bot, bot, bot, bot, bot, bot, bot, bot, bot, bot, bot, bot, bot], [.cls t.a_is_onward]⟩ FN GN BN 3 := P2.add 2 (x := "last_above") rfl F2 (Nat.le_refl _) (Nat.le_succ _) T.g_last_above T.k_last_above T.b_last_above
 have F3 := fn0 P3 T.F_last_above_all Sg Rf (sp := Za) (by rintro _ _ _ _ ⟨_, _, _, _, _, _, rfl, _⟩; rfl) (Bh rfl)
 have P4 : Prg P w K mg base ⟨K, [Zs, Z7, Zz, Za, bot, bot, bot, bot, bot, bot, bot, bot, bot, bot, bot, bot, bot, bot, bot, bot, bot, bot, bot, bot, bot, bot, bot, bot, bot, bot, bot, bot, bot, bot, bot], [.cls t.a_is_onward]⟩ FN GN BN 4 := P3.add 3 (x := "last_above_all") rfl F3 (Nat.le_refl _) (Nat.le_succ _) T.g_last_above_all T.k_last_above_all T.b_last_above_all
 have F4 := fn0 P4 T.F_musts Zc9 Zp1 (sp := Zm) (by rintro _ _ _ _ ⟨_, _, rfl, _⟩; rfl) (Zr0 rfl rfl)
 have P5 : Prg P w K mg base ⟨K, [Zs, Z7, Zz, Za, Zm, bot, bot, bot, bot, bot, bot, bot, bot, bot, bot, bot, bot, bot, bot, bot, bot, bot, bot, bot, bot, bot, bot, bot, bot, bot, bot, bot, bot, bot, bot], [.cls t.a_is_onward]⟩ FN GN BN 5 := P4.add 4 (x := "musts") rfl F4 (Nat.le_refl _) (Nat.le_succ _) T.g_musts T.k_musts T.b_musts
 have F5 := fn0 P5 T.F_stands_above Q7 Pc (sp := Zd) (by rintro _ _ _ _ ⟨_, _, _, _, _, _, rfl, _⟩; rfl) Zt2
 have P6 : Prg P w K mg base ⟨K, [Zs, Z7, Zz, Za, Zm, Zd, bot, bot, bot, bot, bot, bot, bot, bot, bot, bot, bot, bot, bot, bot, bot, bot, bot, bot, bot, bot, bot, bot, bot, bot, bot, bot, bot, bot, bot], [.cls t.a_is_onward]⟩ FN GN BN 6 := P5.add 5 (x := "stands_above") rfl F5 (Nat.le_refl _) (Nat.le_succ _) T.g_stands_above T.k_stands_above T.b_stands_above
 have F6 := fn0 P6 T.F_traced Z58 Zg0 (sp := Zh) (by rintro _ _ _ _ ⟨_, _, _, _, _, _, _, rfl, _⟩; rfl) Zg6
 have P7 : Prg P w K mg base ⟨K, [Zs, Z7, Zz, Za, Zm, Zd, Zh, bot, bot, bot, bot, bot, bot, bot, bot, bot, bot, bot, bot, bot, bot, bot, bot, bot, bot, bot, bot, bot, bot, bot, bot, bot, bot, bot, bot], [.cls t.a_is_onward]⟩ FN GN BN 7 := P6.add 6 (x := "traced") rfl F6 (Nat.le_refl _) (Nat.le_succ _) T.g_traced T.k_traced T.b_traced
 have F7 := fn0 P7 T.F_is_onward Jt Gn (sp := Zk) (by rintro _ _ _ _ ⟨_, _, rfl, _⟩; rfl) Zh5
 have P8 : Prg P w K mg base ⟨K, [Zs, Z7, Zz, Za, Zm, Zd, Zh, Zk, bot, bot, bot, bot, bot, bot, bot, bot, bot, bot, bot, bot, bot, bot, bot, bot, bot, bot, bot, bot, bot, bot, bot, bot, bot, bot, bot], [.cls t.a_is_onward]⟩ FN GN BN 8 := P7.add 7 (x := "is_onward") rfl F7 (Nat.le_refl _) (Nat.le_succ _) T.g_is_onward T.k_is_onward T.b_is_onward
 have F8 := fn0 P8 T.F_way_by Z44 Ze7 (sp := (Zw [.cls t.a_is_onward])) (by rintro _ _ _ _ ⟨_, _, _, _, _, _, rfl, _⟩; rfl) (Z94 rfl rfl rfl)
 have P9 : Prg P w K mg base ⟨K, [Zs, Z7, Zz, Za, Zm, Zd, Zh, Zk, (Zw [.cls t.a_is_onward]), bot, bot, bot, bot, bot, bot, bot, bot, bot, bot, bot, bot, bot, bot, bot, bot, bot, bot, bot, bot, bot, bot, bot, bot, bot, bot], [.cls t.a_is_onward]⟩ FN GN BN 9 := P8.add 8 (x := "way_by") rfl F8 (Nat.le_refl _) (Nat.le_succ _) T.g_way_by T.k_way_by T.b_way_by
 have F9 := Za3 (lv := 9) KX GB BB hT T.g_way_round T.F_way_round rfl rfl F8 (by decide) T.g_way_by T.k_way_by T.b_way_by
 have P10 : Prg P w K mg base ⟨K, [Zs, Z7, Zz, Za, Zm, Zd, Zh, Zk, (Zw [.cls t.a_is_onward]), (Ze (Zw [.cls t.a_is_onward])), bot, bot, bot, bot, bot, bot, bot, bot, bot, bot, bot, bot, bot, bot, bot, bot, bot, bot, bot, bot, bot, bot, bot, bot, bot], [.cls t.a_is_onward]⟩ FN GN BN 10 := P9.add 9 (x := "way_round") rfl F9 (Nat.le_refl _) (Nat.le_succ _) T.g_way_round T.k_way_round T.b_way_round
 have F10 := fn0 P10 T.F_ways_back G2 Gi (sp := Zr) (by rintro _ _ _ _ ⟨_, _, rfl, _⟩; rfl) (Y09 rfl)
 have P11 : Prg P w K mg base ⟨K, [Zs, Z7, Zz, Za, Zm, Zd, Zh, Zk, (Zw [.cls t.a_is_onward]), (Ze (Zw [.cls t.a_is_onward])), Zr, bot, bot, bot, bot, bot, bot, bot, bot, bot, bot, bot, bot, bot, bot, bot, bot, bot, bot, bot, bot, bot, bot, bot, bot], [.cls t.a_is_onward]⟩ FN GN BN 11 := P10.add 10 (x := "ways_back") rfl F10 (Nat.le_refl _) (Nat.le_succ _) T.g_ways_back T.k_ways_back T.b_ways_back
 have F11 := fn0 P11 T.F_strange_way Pb Ow (sp := Zf) (by rintro _ _ _ _ ⟨_, _, rfl, _⟩; rfl) (Z38 rfl rfl rfl)
 have P12 : Prg P w K mg base ⟨K, [Zs, Z7, Zz, Za, Zm, Zd, Zh, Zk, (Zw [.cls t.a_is_onward]), (Ze (Zw [.cls t.a_is_onward])), Zr, Zf, bot, bot, bot, bot, bot, bot, bot, bot, bot, bot, bot, bot, bot, bot, bot, bot, bot, bot, bot, bot, bot, bot, bot], [.cls t.a_is_onward]⟩ FN GN BN 12 := P11.add 11 (x := "strange_way") rfl F11 (Nat.le_refl _) (Nat.le_succ _) T.g_strange_way T.k_strange_way T.b_strange_way
 have F12 := fn0 P12 T.F_orderly Eu Z34 (sp := Zj) (by rintro _ _ _ _ ⟨_, _, rfl, _⟩; rfl) (Z68 rfl)
 have P13 : Prg P w K mg base ⟨K, [Zs, Z7, Zz, Za, Zm, Zd, Zh, Zk, (Zw [.cls t.a_is_onward]), (Ze (Zw [.cls t.a_is_onward])), Zr, Zf, Zj, bot, bot, bot, bot, bot, bot, bot, bot, bot, bot, bot, bot, bot, bot, bot, bot, bot, bot, bot, bot, bot, bot], [.cls t.a_is_onward]⟩ FN GN BN 13 := P12.add 12 (x := "orderly") rfl F12 (Nat.le_refl _) (Nat.le_succ _) T.g_orderly T.k_orderly T.b_orderly
 have F13 := fn0 P13 T.F_up_to_first Pa Ou (sp := Yw) (by rintro _ _ _ _ ⟨_, _, _, _, rfl, _⟩; rfl) Y18
 have P14 : Prg P w K mg base ⟨K, [Zs, Z7, Zz, Za, Zm, Zd, Zh, Zk, (Zw [.cls t.a_is_onward]), (Ze (Zw [.cls t.a_is_onward])), Zr, Zf, Zj, Yw, bot, bot, bot, bot, bot, bot, bot, bot, bot, bot, bot, bot, bot, bot, bot, bot, bot, bot, bot, bot, bot], [.cls t.a_is_onward]⟩ FN GN BN 14 := P13.add 13 (x := "up_to_first") rfl F13 (Nat.le_refl _) (Nat.le_succ _) T.g_up_to_first T.k_up_to_first T.b_up_to_first
 have F14 := fn0 P14 T.F_two_ways Gk C6 (sp := W4) (by rintro _ _ _ _ ⟨_, _, rfl, _⟩; rfl) (Y38 (A0 := t.a_is_onward) rfl rfl rfl rfl rfl)
 have P15 : Prg P w K mg base ⟨K, [Zs, Z7, Zz, Za, Zm, Zd, Zh, Zk, (Zw [.cls t.a_is_onward]), (Ze (Zw [.cls t.a_is_onward])), Zr, Zf, Zj, Yw, W4, bot, bot, bot, bot, bot, bot, bot, bot, bot, bot, bot, bot, bot, bot, bot, bot, bot, bot, bot, bot], [.cls t.a_is_onward]⟩ FN GN BN 15 := P14.add 14 (x := "two_ways") rfl F14 (Nat.le_refl _) (Nat.le_succ _) T.g_two_ways T.k_two_ways T.b_two_ways
 have F15 := fn0 P15 T.F_Ldraws Z05 Zc3 (sp := Yb) (by rintro _ _ _ _ ⟨_, _, rfl, _⟩; rfl) Zh7
 have P16 : Prg P w K mg base ⟨K, [Zs, Z7, Zz, Za, Zm, Zd, Zh, Zk, (Zw [.cls t.a_is_onward]), (Ze (Zw [.cls t.a_is_onward])), Zr, Zf, Zj, Yw, W4, Yb, bot, bot, bot, bot, bot, bot, bot, bot, bot, bot, bot, bot, bot, bot, bot, bot, bot, bot, bot], [.cls t.a_is_onward]⟩ FN GN BN 16 := P15.add 15 (x := "_law_draws") rfl F15 (Nat.le_refl _) (Nat.le_succ _) T.g_Ldraws T.k_Ldraws T.b_Ldraws
 have F16 := fn0 P16 T.F_Lnext Zb2 Zn2 (sp := Yo) (by rintro _ _ _ _ ⟨_, rfl, _⟩; rfl) Zq6
 have P17 : Prg P w K mg base ⟨K, [Zs, Z7, Zz, Za, Zm, Zd, Zh, Zk, (Zw [.cls t.a_is_onward]), (Ze (Zw [.cls t.a_is_onward])), Zr, Zf, Zj, Yw, W4, Yb, Yo, bot, bot, bot, bot, bot, bot, bot, bot, bot, bot, bot, bot, bot, bot, bot, bot, bot, bot], [.cls t.a_is_onward]⟩ FN GN BN 17 := P16.add 16 (x := "_law_next") rfl F16 (Nat.le_refl _) (Nat.le_succ _) T.g_Lnext T.k_Lnext T.b_Lnext
 have F17 := fn0 P17 T.F_Lgreat Z72 Zg4 (sp := Yj) (by rintro _ _ _ _ ⟨_, rfl, _⟩; rfl) (Z99 rfl)
 have P18 : Prg P w K mg base ⟨K, [Zs, Z7, Zz, Za, Zm, Zd, Zh, Zk, (Zw [.cls t.a_is_onward]), (Ze (Zw [.cls t.a_is_onward])), Zr, Zf, Zj, Yw, W4, Yb, Yo, Yj, bot, bot, bot, bot, bot, bot, bot, bot, bot, bot, bot, bot, bot, bot, bot, bot, bot], [.cls t.a_is_onward]⟩ FN GN BN 18 := P17.add 17 (x := "_law_great") rfl F17 (Nat.le_refl _) (Nat.le_succ _) T.g_Lgreat T.k_Lgreat T.b_Lgreat
 have F18 := fn0 P18 T.F_Lfar Zl4 Zy4 (sp := Yk) (by rintro _ _ _ _ ⟨_, _, _, _, rfl, _⟩; rfl) (Zv8 rfl)
 have P19 : Prg P w K mg base ⟨K, [Zs, Z7, Zz, Za, Zm, Zd, Zh, Zk, (Zw [.cls t.a_is_onward]), (Ze (Zw [.cls t.a_is_onward])), Zr, Zf, Zj, Yw, W4, Yb, Yo, Yj, Yk, bot, bot, bot, bot, bot, bot, bot, bot, bot, bot, bot, bot, bot, bot, bot, bot], [.cls t.a_is_onward]⟩ FN GN BN 19 := P18.add 18 (x := "_law_far") rfl F18 (Nat.le_refl _) (Nat.le_succ _) T.g_Lfar T.k_Lfar T.b_Lfar
 have F19 := fn0 P19 T.F_Lnear Z87 Zs1 (sp := Yk) (by rintro _ _ _ _ ⟨_, _, _, _, rfl, _⟩; rfl) (Zo6 rfl rfl)
 have P20 : Prg P w K mg base ⟨K, [Zs, Z7, Zz, Za, Zm, Zd, Zh, Zk, (Zw [.cls t.a_is_onward]), (Ze (Zw [.cls t.a_is_onward])), Zr, Zf, Zj, Yw, W4, Yb, Yo, Yj, Yk, Yk, bot, bot, bot, bot, bot, bot, bot, bot, bot, bot, bot, bot, bot, bot, bot], [.cls t.a_is_onward]⟩ FN GN BN 20 := P19.add 19 (x := "_law_near") rfl F19 (Nat.le_refl _) (Nat.le_succ _) T.g_Lnear T.k_Lnear T.b_Lnear
 have F20 := fn0 P20 T.F_Lnode Z90 Zl0 (sp := Xj) (by rintro _ _ _ _ ⟨_, _, _, _, rfl, _⟩; rfl) (Zn0 rfl rfl rfl rfl)
 have P21 : Prg P w K mg base ⟨K, [Zs, Z7, Zz, Za, Zm, Zd, Zh, Zk, (Zw [.cls t.a_is_onward]), (Ze (Zw [.cls t.a_is_onward])), Zr, Zf, Zj, Yw, W4, Yb, Yo, Yj, Yk, Yk, Xj, bot, bot, bot, bot, bot, bot, bot, bot, bot, bot, bot, bot, bot, bot], [.cls t.a_is_onward]⟩ FN GN BN 21 := P20.add 20 (x := "_law_node") rfl F20 (Nat.le_refl _) (Nat.le_succ _) T.g_Lnode T.k_Lnode T.b_Lnode
 have F21 := fn0 P21 T.F_Lgoals Z14 Za1 (sp := Yh) (by rintro _ _ _ _ ⟨_, rfl, _⟩; rfl) Za6
 have P22 : Prg P w K mg base ⟨K, [Zs, Z7, Zz, Za, Zm, Zd, Zh, Zk, (Zw [.cls t.a_is_onward]), (Ze (Zw [.cls t.a_is_onward])), Zr, Zf, Zj, Yw, W4, Yb, Yo, Yj, Yk, Yk, Xj, Yh, bot, bot, bot, bot, bot, bot, bot, bot, bot, bot, bot, bot, bot], [.cls t.a_is_onward]⟩ FN GN BN 22 := P21.add 21 (x := "_law_goals") rfl F21 (Nat.le_refl _) (Nat.le_succ _) T.g_Lgoals T.k_Lgoals T.b_Lgoals
 have F22 := fn0 P22 T.F_Lorder Z74 Ze4 (sp := X6) (by rintro _ _ _ _ ⟨_, _, rfl, _⟩; rfl) (Zg5 rfl)
 have P23 : Prg P w K mg base ⟨K, [Zs, Z7, Zz, Za, Zm, Zd, Zh, Zk, (Zw [.cls t.a_is_onward]), (Ze (Zw [.cls t.a_is_onward])), Zr, Zf, Zj, Yw, W4, Yb, Yo, Yj, Yk, Yk, Xj, Yh, X6, bot, bot, bot, bot, bot, bot, bot, bot, bot, bot, bot, bot], [.cls t.a_is_onward]⟩ FN GN BN 23 := P22.add 22 (x := "_law_order") rfl F22 (Nat.le_refl _) (Nat.le_succ _) T.g_Lorder T.k_Lorder T.b_Lorder
 have F23 := fn0 P23 T.F_Lgraph Cy Zc8 (sp := Xc) (by rintro _ _ _ _ ⟨_, _, rfl, _⟩; rfl) (Z96 rfl)
 have P24 : Prg P w K mg base ⟨K, [Zs, Z7, Zz, Za, Zm, Zd, Zh, Zk, (Zw [.cls t.a_is_onward]), (Ze (Zw [.cls t.a_is_onward])), Zr, Zf, Zj, Yw, W4, Yb, Yo, Yj, Yk, Yk, Xj, Yh, X6, Xc, bot, bot, bot, bot, bot, bot, bot, bot, bot, bot, bot], [.cls t.a_is_onward]⟩ FN GN BN 24 := P23.add 23 (x := "_law_graph") rfl F23 (Nat.le_refl _) (Nat.le_succ _) T.g_Lgraph T.k_Lgraph T.b_Lgraph
 have F24 := fn0 P24 T.F_Ldrawn B5 Zc2 (sp := Xe) (by rintro _ _ _ _ ⟨_, _, rfl, _⟩; rfl) (Ze5 rfl rfl rfl)
 have P25 : Prg P w K mg base ⟨K, [Zs, Z7, Zz, Za, Zm, Zd, Zh, Zk, (Zw [.cls t.a_is_onward]), (Ze (Zw [.cls t.a_is_onward])), Zr, Zf, Zj, Yw, W4, Yb, Yo, Yj, Yk, Yk, Xj, Yh, X6, Xc, Xe, bot, bot, bot, bot, bot, bot, bot, bot, bot, bot], [.cls t.a_is_onward]⟩ FN GN BN 25 := P24.add 24 (x := "_law_drawn") rfl F24 (Nat.le_refl _) (Nat.le_succ _) T.g_Ldrawn T.k_Ldrawn T.b_Ldrawn
 have F25 := fn0 P25 T.F_Lback Zc7 Zs2 (sp := Zr) (by rintro _ _ _ _ ⟨_, _, rfl, _⟩; rfl) (Zl6 rfl)
 have P26 : Prg P w K mg base ⟨K, [Zs, Z7, Zz, Za, Zm, Zd, Zh, Zk, (Zw [.cls t.a_is_onward]), (Ze (Zw [.cls t.a_is_onward])), Zr, Zf, Zj, Yw, W4, Yb, Yo, Yj, Yk, Yk, Xj, Yh, X6, Xc, Xe, Zr, bot, bot, bot, bot, bot, bot, bot, bot, bot], [.cls t.a_is_onward]⟩ FN GN BN 26 := P25.add 25 (x := "_law_back") rfl F25 (Nat.le_refl _) (Nat.le_succ _) T.g_Lback T.k_Lback T.b_Lback
 have F26 := fn0 P26 T.F_Lis_way Ct Z30 (sp := Xy) (by rintro _ _ _ _ ⟨_, _, _, _, _, rfl, _⟩; rfl) (Bd rfl)
 have P27 : Prg P w K mg base ⟨K, [Zs, Z7, Zz, Za, Zm, Zd, Zh, Zk, (Zw [.cls t.a_is_onward]), (Ze (Zw [.cls t.a_is_onward])), Zr, Zf, Zj, Yw, W4, Yb, Yo, Yj, Yk, Yk, Xj, Yh, X6, Xc, Xe, Zr, Xy, bot, bot, bot, bot, bot, bot, bot, bot], [.cls t.a_is_onward]⟩ FN GN BN 27 := P26.add 26 (x := "_law_is_way") rfl F26 (Nat.le_refl _) (Nat.le_succ _) T.g_Lis_way T.k_Lis_way T.b_Lis_way
 have F27 := fn0 P27 T.F_Lwhole Z35 Zf1 (sp := W1) (by rintro _ _ _ _ ⟨_, rfl, _⟩; rfl) Z93
 have P28 : Prg P w K mg base ⟨K, [Zs, Z7, Zz, Za, Zm, Zd, Zh, Zk, (Zw [.cls t.a_is_onward]), (Ze (Zw [.cls t.a_is_onward])), Zr, Zf, Zj, Yw, W4, Yb, Yo, Yj, Yk, Yk, Xj, Yh, X6, Xc, Xe, Zr, Xy, W1, bot, bot, bot, bot, bot, bot, bot], [.cls t.a_is_onward]⟩ FN GN BN 28 := P27.add 27 (x := "_law_whole") rfl F27 (Nat.le_refl _) (Nat.le_succ _) T.g_Lwhole T.k_Lwhole T.b_Lwhole
 have F28 := fn0 P28 T.F_Labove Bc Zg7 (sp := Zd) (by rintro _ _ _ _ ⟨_, _, _, _, _, _, rfl, _⟩; rfl) Zi3
 have P29 : Prg P w K mg base ⟨K, [Zs, Z7, Zz, Za, Zm, Zd, Zh, Zk, (Zw [.cls t.a_is_onward]), (Ze (Zw [.cls t.a_is_onward])), Zr, Zf, Zj, Yw, W4, Yb, Yo, Yj, Yk, Yk, Xj, Yh, X6, Xc, Xe, Zr, Xy, W1, Zd, bot, bot, bot, bot, bot, bot], [.cls t.a_is_onward]⟩ FN GN BN 29 := P28.add 28 (x := "_law_above") rfl F28 (Nat.le_refl _) (Nat.le_succ _) T.g_Labove T.k_Labove T.b_Labove
 have F29 := fn0 P29 T.F_Lis_tree Gs En (sp := We) (by rintro _ _ _ _ ⟨_, _, _, _, rfl, _⟩; rfl) (Cg rfl rfl rfl)
 have P30 : Prg P w K mg base ⟨K, [Zs, Z7, Zz, Za, Zm, Zd, Zh, Zk, (Zw [.cls t.a_is_onward]), (Ze (Zw [.cls t.a_is_onward])), Zr, Zf, Zj, Yw, W4, Yb, Yo, Yj, Yk, Yk, Xj, Yh, X6, Xc, Xe, Zr, Xy, W1, Zd, We, bot, bot, bot, bot, bot], [.cls t.a_is_onward]⟩ FN GN BN 30 := P29.add 29 (x := "_law_is_tree") rfl F29 (Nat.le_refl _) (Nat.le_succ _) T.g_Lis_tree T.k_Lis_tree T.b_Lis_tree
 have F30 := fn0 P30 T.F_Lis_orderly Pd Oy (sp := T3) (by rintro _ _ _ _ ⟨_, _, rfl, _⟩; rfl) (Bg rfl rfl rfl rfl)
 have P31 : Prg P w K mg base ⟨K, [Zs, Z7, Zz, Za, Zm, Zd, Zh, Zk, (Zw [.cls t.a_is_onward]), (Ze (Zw [.cls t.a_is_onward])), Zr, Zf, Zj, Yw, W4, Yb, Yo, Yj, Yk, Yk, Xj, Yh, X6, Xc, Xe, Zr, Xy, W1, Zd, We, T3, bot, bot, bot, bot], [.cls t.a_is_onward]⟩ FN GN BN 31 := P30.add 30 (x := "_law_is_orderly") rfl F30 (Nat.le_refl _) (Nat.le_succ _) T.g_Lis_orderly T.k_Lis_orderly T.b_Lis_orderly
 have F31 := fn0 P31 T.F_Lis_ring Gf Cv (sp := Ps) (by rintro _ _ _ _ ⟨_, _, _, _, rfl, _⟩; rfl) (Zl8 rfl rfl)
 have P32 : Prg P w K mg base ⟨K, [Zs, Z7, Zz, Za, Zm, Zd, Zh, Zk, (Zw [.cls t.a_is_onward]), (Ze (Zw [.cls t.a_is_onward])), Zr, Zf, Zj, Yw, W4, Yb, Yo, Yj, Yk, Yk, Xj, Yh, X6, Xc, Xe, Zr, Xy, W1, Zd, We, T3, Ps, bot, bot, bot], [.cls t.a_is_onward]⟩ FN GN BN 32 := P31.add 31 (x := "_law_is_ring") rfl F31 (Nat.le_refl _) (Nat.le_succ _) T.g_Lis_ring T.k_Lis_ring T.b_Lis_ring
 have F32 := fn0 P32 T.F_Lcomes_to Nu G6 (sp := Q0) (by rintro _ _ _ _ ⟨_, _, _, _, _, _, _, rfl, _⟩; rfl) (Zc1 rfl)
 have P33 : Prg P w K mg base ⟨K, [Zs, Z7, Zz, Za, Zm, Zd, Zh, Zk, (Zw [.cls t.a_is_onward]), (Ze (Zw [.cls t.a_is_onward])), Zr, Zf, Zj, Yw, W4, Yb, Yo, Yj, Yk, Yk, Xj, Yh, X6, Xc, Xe, Zr, Xy, W1, Zd, We, T3, Ps, Q0, bot, bot], [.cls t.a_is_onward]⟩ FN GN BN 33 := P32.add 32 (x := "_law_comes_to") rfl F32 (Nat.le_refl _) (Nat.le_succ _) T.g_Lcomes_to T.k_Lcomes_to T.b_Lcomes_to
 have F33 := fn0 P33 T.F_Ltwo_ways Jz G8 (sp := Eb) (by rintro _ _ _ _ ⟨_, _, _, _, _, _, _, _, rfl, _⟩; rfl) (Zt9 rfl rfl)
 have P34 : Prg P w K mg base ⟨K, [Zs, Z7, Zz, Za, Zm, Zd, Zh, Zk, (Zw [.cls t.a_is_onward]), (Ze (Zw [.cls t.a_is_onward])), Zr, Zf, Zj, Yw, W4, Yb, Yo, Yj, Yk, Yk, Xj, Yh, X6, Xc, Xe, Zr, Xy, W1, Zd, We, T3, Ps, Q0, Eb, bot], [.cls t.a_is_onward]⟩ FN GN BN 34 := P33.add 33 (x := "_law_two_ways") rfl F33 (Nat.le_refl _) (Nat.le_succ _) T.g_Ltwo_ways T.k_Ltwo_ways T.b_Ltwo_ways
 have F34 := fn0 P34 T.F_law Y22 Y27 (sp := Z49) (by rintro _ _ _ _ ⟨_, rfl, _⟩; rfl) (Y45 rfl rfl rfl rfl rfl rfl)
 exact F34
theorem Zl3 {l : PySem.W.OpenLaw} {w : World} {fa f : Addr} {K : PySem.W.Frag} {mg : Str → Option Value} {c0 T0 : Addr} (hT : PySem.W.tabIn K "way_round" = some (c0, T0)) (hfa : mg "law" = some (.ref fa)) (h : ∃ t : Adr, Tx K mg t ∧ t.a_law = f ∧ ∀ (s : Shared) (v : Value), BindsTo s t.d_law ⟨[v], []⟩ [("_law_script", v)])
  : ∃ fd : FuncData, (∀ (s : Shared) (v : Value), BindsTo s fd ⟨[v], []⟩ [("_law_script", v)]) ∧ ∀ base : Heap, K.In base → base.Ns mainGlobals mg → Bs K mg base → FnOk l.prog w K mg base (CX1 l.prog w) 35 fa fd ["_law_script"] (spF K Z49) := by
 obtain ⟨t, T, e, hb⟩ := h
 have e2 := hfa.symm.trans T.g_law
 cases e2
 exact ⟨t.d_law, hb, fun base kx gb bb => Zx8 T kx gb bb hT⟩
end K35
namespace Hand
open PySem PySem.Spec PyProof.Rows L2 L3 U K35
noncomputable def kf (n : Str) (i : Nat) (dV kV dc pm : Value) (an : Option Addr) (cd ct : Value) : Obj := ⟨.type "function", none, .func (PySem.W.fnOf n n (Zi (top i)) (Z4 (top i)) (Z1 (top i)) dV kV dc pm an cd ct), #[]⟩
noncomputable def kg (n : Str) (i : Nat) (m : Str) (t c : Nat) : Obj := kf n i .none .none .none (.str m t) none (.ref c) .none
noncomputable def kc (n : Str) (t : Nat) (l a : Int) (r : Nat) (x y : Int) (z : Nat) : Obj := ⟨.type "code", none, .fields #[.str n t, .str n (t + 1), .str "/claim/cut.py" (t + 2), .int l 0, .int a 0, .int 0 0, .int 0 0, .int 3 0, .ref r, .bool true, .int x 0, .ref (r + 1), .none, .ref (r + 2), .ref (r + 3), .ref (r + 4), .int y 0, .int l 0, .str "/claim/cut.py" z], #[]⟩
noncomputable def ke (P : Params) (x : Str) (t : Nat) (v : Value) : DictEntry := ⟨PyData.keyHash P x, .str x t, v⟩
abbrev kd : Value := .type "dict"
abbrev kR (a : Nat) : Value := .ref a
abbrev kS (x : Str) (t : Nat) : Value := .str x t
noncomputable def KH (P : Params) : PySem.W.Frag := (nat_lit 2, ⟨.none, none, .dict #[] 0, #[]⟩) :: (nat_lit 3, ⟨kd, none, .dict #[ke P "__name__" 165 (kS "law_unjump_k35_whole_orderly_or_two_ways" 340), ke P "__doc__" 166 .none, ke P "__package__" 167 .none, ke P "__loader__" 168 (.builtin "__main__.__loader__#opaque"), ke P "__spec__" 169 .none, ke P "__annotations__" 170 (kR 6), ke P "__builtins__" 171 (kR 4), ke P "__file__" 173 (kS "/claim/cut.py" 172), ke P "__cached__" 174 .none, ke P "ways" 195 (kR 21), ke P "comings" 201 (kR 26), ke P "musts" 215 (kR 33), ke P "last_above_all" 225 (kR 40), ke P "last_above" 234 (kR 47), ke P "stands_above" 244 (kR 54), ke P "way_round" 254 (kR 61), ke P "way_by" 269 (kR 68), ke P "traced" 279 (kR 75), ke P "orderly" 288 (kR 82), ke P "strange_way" 298 (kR 89), ke P "ways_back" 309 (kR 96), ke P "two_ways" 321 (kR 103), ke P "is_onward" 329 (kR 110), ke P "up_to_first" 339 (kR 117), ke P "_law_draws" 355 (kR 124), ke P "_law_next" 362 (kR 131), ke P "_law_great" 370 (kR 138), ke P "_law_far" 382 (kR 145), ke P "_law_near" 392 (kR 152), ke P "_law_node" 408 (kR 159), ke P "_law_goals" 415 (kR 166), ke P "_law_order" 428 (kR 173), ke P "_law_graph" 439 (kR 180), ke P "_law_drawn" 445 (kR 185), ke P "_law_back" 455 (kR 192), ke P "_law_is_way" 467 (kR 199), ke P "_law_whole" 474 (kR 206), ke P "_law_above" 483 (kR 213), ke P "_law_is_tree" 493 (kR 220), ke P "_law_is_orderly" 503 (kR 227), ke P "_law_is_ring" 514 (kR 234), ke P "_law_comes_to" 520 (kR 239), ke P "_law_two_ways" 528 (kR 246), ke P "law" 540 (kR 253)] 44, #[]⟩) :: (nat_lit 20, kc "ways" 189 2 1 15 181 193 194) :: (nat_lit 21, kg "ways" 1 "unjump.nodes" 187 20) :: (nat_lit 25, ⟨(.type "code"), none, .fields #[(.str "comings" 196), (.str "comings" 197), (.str "/claim/cut.py" 198), (.int 8 0), (.int 1 0), (.int 0 0), (.int 0 0), (.int 3 0), (.ref 22), (.bool true), (.int 181 0), (.ref 23), .none, .none, .none, (.ref 24), (.int 199 0), (.int 8 0), (.str "/claim/cut.py" 200)], #[]⟩) :: (nat_lit 26, kg "comings" 2 "unjump.nodes" 187 25) :: (nat_lit 32, kc "musts" 204 15 1 27 181 213 214) :: (nat_lit 33, kg "musts" 4 "unjump.musts" 202 32) :: (nat_lit 39, kc "last_above_all" 216 27 2 34 181 223 224) :: (nat_lit 40, kg "last_above_all" 5 "unjump.musts" 202 39) :: (nat_lit 46, kc "last_above" 226 33 3 41 181 232 233) :: (nat_lit 47, kg "last_above" 6 "unjump.musts" 202 46) :: (nat_lit 53, kc "stands_above" 235 40 3 48 181 242 243) :: (nat_lit 54, kg "stands_above" 7 "unjump.musts" 202 53) :: (nat_lit 60, kc "way_round" 245 45 3 55 181 252 253) :: (nat_lit 61, kg "way_round" 8 "unjump.musts" 202 60) :: (nat_lit 67, kc "way_by" 255 49 4 62 181 267 268) :: (nat_lit 68, kg "way_by" 9 "unjump.musts" 202 67) :: (nat_lit 74, kc "traced" 270 63 2 69 181 277 278) :: (nat_lit 75, kg "traced" 10 "unjump.musts" 202 74) :: (nat_lit 81, kc "orderly" 282 72 1 76 181 286 287) :: (nat_lit 82, kg "orderly" 12 "unjump.rings" 280 81) :: (nat_lit 88, kc "strange_way" 289 74 1 83 181 296 297) :: (nat_lit 89, kg "strange_way" 13 "unjump.rings" 280 88) :: (nat_lit 95, kc "ways_back" 299 80 1 90 181 307 308) :: (nat_lit 96, kg "ways_back" 14 "unjump.rings" 280 95) :: (nat_lit 102, kc "two_ways" 310 87 1 97 181 319 320) :: (nat_lit 103, kg "two_ways" 15 "unjump.rings" 280 102) :: (nat_lit 109, kc "is_onward" 322 95 2 104 181 327 328) :: (nat_lit 110, kg "is_onward" 16 "unjump.rings" 280 109) :: (nat_lit 116, kc "up_to_first" 330 97 2 111 181 337 338) :: (nat_lit 117, kg "up_to_first" 17 "unjump.rings" 280 116) :: (nat_lit 123, kc "_law_draws" 342 105 1 118 181 353 354) :: (nat_lit 124, kg "_law_draws" 19 "law_unjump_k35_whole_orderly_or_two_ways" 340 123) :: (nat_lit 130, kc "_law_next" 356 122 1 125 181 360 361) :: (nat_lit 131, kg "_law_next" 20 "law_unjump_k35_whole_orderly_or_two_ways" 340 130) :: (nat_lit 137, kc "_law_great" 363 126 1 132 181 368 369) :: (nat_lit 138, kg "_law_great" 21 "law_unjump_k35_whole_orderly_or_two_ways" 340 137) :: (nat_lit 144, kc "_law_far" 371 129 4 139 181 380 381) :: (nat_lit 145, kg "_law_far" 22 "law_unjump_k35_whole_orderly_or_two_ways" 340 144) :: (nat_lit 151, kc "_law_near" 383 141 4 146 181 390 391) :: (nat_lit 152, kg "_law_near" 23 "law_unjump_k35_whole_orderly_or_two_ways" 340 151) :: (nat_lit 158, kc "_law_node" 393 145 4 153 181 406 407) :: (nat_lit 159, kg "_law_node" 24 "law_unjump_k35_whole_orderly_or_two_ways" 340 158) :: (nat_lit 165, kc "_law_goals" 409 162 1 160 181 413 414) :: (nat_lit 166, kg "_law_goals" 25 "law_unjump_k35_whole_orderly_or_two_ways" 340 165) :: (nat_lit 172, kc "_law_order" 416 168 1 167 181 426 427) :: (nat_lit 173, kg "_law_order" 26 "law_unjump_k35_whole_orderly_or_two_ways" 340 172) :: (nat_lit 179, kc "_law_graph" 429 183 1 174 181 437 438) :: (nat_lit 180, kg "_law_graph" 27 "law_unjump_k35_whole_orderly_or_two_ways" 340 179) :: (nat_lit 184, ⟨(.type "code"), none, .fields #[(.str "_law_drawn" 440), (.str "_law_drawn" 441), (.str "/claim/cut.py" 442), (.int 194 0), (.int 2 0), (.int 0 0), (.int 0 0), (.int 3 0), (.ref 181), (.bool true), (.int 181 0), (.ref 182), .none, .none, .none, (.ref 183), (.int 443 0), (.int 194 0), (.str "/claim/cut.py" 444)], #[]⟩) :: (nat_lit 185, kg "_law_drawn" 28 "law_unjump_k35_whole_orderly_or_two_ways" 340 184) :: (nat_lit 191, kc "_law_back" 446 198 1 186 181 453 454) :: (nat_lit 192, kg "_law_back" 29 "law_unjump_k35_whole_orderly_or_two_ways" 340 191) :: (nat_lit 198, kc "_law_is_way" 456 205 3 193 181 465 466) :: (nat_lit 199, kg "_law_is_way" 30 "law_unjump_k35_whole_orderly_or_two_ways" 340 198) :: (nat_lit 205, kc "_law_whole" 468 215 1 200 181 472 473) :: (nat_lit 206, kg "_law_whole" 31 "law_unjump_k35_whole_orderly_or_two_ways" 340 205) :: (nat_lit 212, kc "_law_above" 475 217 3 207 181 481 482) :: (nat_lit 213, kg "_law_above" 32 "law_unjump_k35_whole_orderly_or_two_ways" 340 212) :: (nat_lit 219, kc "_law_is_tree" 484 221 2 214 181 491 492) :: (nat_lit 220, kg "_law_is_tree" 33 "law_unjump_k35_whole_orderly_or_two_ways" 340 219) :: (nat_lit 226, kc "_law_is_orderly" 494 232 1 221 181 501 502) :: (nat_lit 227, kg "_law_is_orderly" 34 "law_unjump_k35_whole_orderly_or_two_ways" 340 226) :: (nat_lit 233, kc "_law_is_ring" 504 240 2 228 181 512 513) :: (nat_lit 234, kg "_law_is_ring" 35 "law_unjump_k35_whole_orderly_or_two_ways" 340 233) :: (nat_lit 238, ⟨(.type "code"), none, .fields #[(.str "_law_comes_to" 515), (.str "_law_comes_to" 516), (.str "/claim/cut.py" 517), (.int 250 0), (.int 3 0), (.int 0 0), (.int 0 0), (.int 3 0), (.ref 235), (.bool true), (.int 181 0), (.ref 236), .none, .none, .none, (.ref 237), (.int 518 0), (.int 250 0), (.str "/claim/cut.py" 519)], #[]⟩) :: (nat_lit 239, kg "_law_comes_to" 36 "law_unjump_k35_whole_orderly_or_two_ways" 340 238) :: (nat_lit 245, kc "_law_two_ways" 521 256 2 240 181 526 527) :: (nat_lit 246, kg "_law_two_ways" 37 "law_unjump_k35_whole_orderly_or_two_ways" 340 245) :: (nat_lit 252, kc "law" 529 262 1 247 181 538 539) :: (nat_lit 253, kg "law" 38 "law_unjump_k35_whole_orderly_or_two_ways" 340 252) :: []
noncomputable def qH : Program := { PySem.Challenge.pw_unjump_k35_whole_orderly_or_two_ways with main := { PySem.Challenge.pw_unjump_k35_whole_orderly_or_two_ways.main with body := [top 38] } }
noncomputable def lH : List Str := "ways" :: "comings" :: "musts" :: "last_above_all" :: "last_above" :: "stands_above" :: "way_round" :: "way_by" :: "traced" :: "orderly" :: "strange_way" :: "ways_back" :: "two_ways" :: "is_onward" :: "up_to_first" :: "_law_draws" :: "_law_next" :: "_law_great" :: "_law_far" :: "_law_near" :: "_law_node" :: "_law_goals" :: "_law_order" :: "_law_graph" :: "_law_drawn" :: "_law_back" :: "_law_is_way" :: "_law_whole" :: "_law_above" :: "_law_is_tree" :: "_law_is_orderly" :: "_law_is_ring" :: "_law_comes_to" :: "_law_two_ways" :: []
noncomputable def aH : List Addr := 2 :: 3 :: 20 :: 21 :: 25 :: 26 :: 32 :: 33 :: 39 :: 40 :: 46 :: 47 :: 53 :: 54 :: 60 :: 61 :: 67 :: 68 :: 74 :: 75 :: 81 :: 82 :: 88 :: 89 :: 95 :: 96 :: 102 :: 103 :: 109 :: 110 :: 116 :: 117 :: 123 :: 124 :: 130 :: 131 :: 137 :: 138 :: 144 :: 145 :: 151 :: 152 :: 158 :: 159 :: 165 :: 166 :: 172 :: 173 :: 179 :: 180 :: 184 :: 185 :: 191 :: 192 :: 198 :: 199 :: 205 :: 206 :: 212 :: 213 :: 219 :: 220 :: 226 :: 227 :: 233 :: 234 :: 238 :: 239 :: 245 :: 246 :: 252 :: 253 :: []
theorem eH (P : Params) : aH = (KH P).map (·.1) := by kernel_rfl
set_option maxHeartbeats 0 in
theorem hlH : PySem.W.LeftO PySem.Challenge.pw_unjump_k35_whole_orderly_or_two_ways qH lH (fun s => PySem.W.xlAt qH [] s && PySem.W.recOk [] s) (PySem.W.Hook.obs (PySem.W.kmHook KH aH eH [56])) (PySem.W.Hook.val (PySem.W.kmHook KH aH eH [56])) 2418 := by intro w; kernel_rfl
end Hand
open PySem PySem.W PyProof.Rows
set_option maxRecDepth 100000 in
set_option maxHeartbeats 0 in
theorem PySem.Challenge.cw_unjump_k35_whole_orderly_or_two_ways_holds : PySem.Challenge.rw_unjump_k35_whole_orderly_or_two_ways.Holds := by
 w_on; o_law; refine holds_open (q := Hand.qH) (loose := Hand.lH) (Xt := fun s => xlAt Hand.qH [] s && recOk [] s) (XP := XL Hand.qH []) (Yf := Hook.obs (kmHook Hand.KH Hand.aH Hand.eH [56])) (Ya := Hook.val (kmHook Hand.KH Hand.aH Hand.eH [56])) (YP := Hook.says (kmHook Hand.KH Hand.aH Hand.eH [56])) (N := 2418) Hand.hlH (Hook.of _) (Hook.keeps _) (fun s e => xl_of s (Bool.and_eq_true_iff.mp e).1) XL.keeps (by rfl) (by rfl) (by rfl) (fun s e => recFacts_of (Bool.and_eq_true_iff.mp e).2) (by rfl) (by first | assumption | decide +kernel) (by decide +kernel) ⟨rfl, rfl, rfl, rfl, rfl, by decide +kernel⟩ ?hw ?hc; (case hw => w_witness2)
 k_fill
 refine' U.Z42 (l := PySem.Challenge.rw_unjump_k35_whole_orderly_or_two_ways) (k := 35) (x := "_law_script") (c0 := 60) (T := 56) rfl rfl ⟨rfl, by decide, by decide⟩ (fun w h Y => PySem.W.km_in_of Y) (fun w h Y => PySem.W.km_tabs_of Y _ List.mem_cons_self) ?TT ?F
 case TT => exact fun w h KX => ⟨by kernel_rfl, by kernel_rfl, by kernel_rfl⟩
 case F =>
  intro w mg fa h KX G hmg
  refine' K35.Zl3 (c0 := 60) (T0 := 56) ?hT hmg (K35.Y25 KX G ?a0 ?l0 ?c0 ?k0 ?a1 ?l1 ?c1 ?k1 ?a2 ?l2 ?c2 ?k2 ?a3 ?l3 ?c3 ?k3 ?a4 ?l4 ?c4 ?k4 ?a5 ?l5 ?c5 ?k5 ?a6 ?l6 ?c6 ?k6 ?a7 ?l7 ?c7 ?k7 ?a8 ?l8 ?c8 ?k8 ?a9 ?l9 ?c9 ?k9 ?a10 ?l10 ?c10 ?k10 ?a11 ?l11 ?c11 ?k11 ?a12 ?l12 ?c12 ?k12 ?a13 ?l13 ?c13 ?k13 ?a14 ?l14 ?c14 ?k14 ?a15 ?l15 ?c15 ?k15 ?a16 ?l16 ?c16 ?k16 ?a17 ?l17 ?c17 ?k17 ?a18 ?l18 ?c18 ?k18 ?a19 ?l19 ?c19 ?k19 ?a20 ?l20 ?c20 ?k20 ?a21 ?l21 ?c21 ?k21 ?a22 ?l22 ?c22 ?k22 ?a23 ?l23 ?c23 ?k23 ?a24 ?l24 ?c24 ?k24 ?a25 ?l25 ?c25 ?k25 ?a26 ?l26 ?c26 ?k26 ?a27 ?l27 ?c27 ?k27 ?a28 ?l28 ?c28 ?k28 ?a29 ?l29 ?c29 ?k29 ?a30 ?l30 ?c30 ?k30 ?a31 ?l31 ?c31 ?k31 ?a32 ?l32 ?c32 ?k32 ?a33 ?l33 ?c33 ?k33 ?a34 ?l34 ?c34 ?k34 ?z0 ?z1 ?z2 ?z3 ?z4 ?z5 ?z6 ?z7 ?z8 ?z9 ?z10 ?z11)
  (case hT => kernel_rfl)
  (case a0 => k_is); (case l0 => k_is); (case c0 => k_is); (case k0 => k_is)
  (case a1 => k_is); (case l1 => k_is); (case c1 => k_is); (case k1 => k_is)
  (case a2 => k_is); (case l2 => k_is); (case c2 => k_is); (case k2 => k_is)
  (case a3 => k_is); (case l3 => k_is); (case c3 => k_is); (case k3 => k_is)
  (case a4 => k_is); (case l4 => k_is); (case c4 => k_is); (case k4 => k_is)
  (case a5 => k_is); (case l5 => k_is); (case c5 => k_is); (case k5 => k_is)
  (case a6 => k_is); (case l6 => k_is); (case c6 => k_is); (case k6 => k_is)
  (case a7 => k_is); (case l7 => k_is); (case c7 => k_is); (case k7 => k_is)
  (case a8 => k_is); (case l8 => k_is); (case c8 => k_is); (case k8 => k_is)
  (case a9 => k_is); (case l9 => k_is); (case c9 => k_is); (case k9 => k_is)
  (case a10 => k_is); (case l10 => k_is); (case c10 => k_is); (case k10 => k_is)
  (case a11 => k_is); (case l11 => k_is); (case c11 => k_is); (case k11 => k_is)
  (case a12 => k_is); (case l12 => k_is); (case c12 => k_is); (case k12 => k_is)
  (case a13 => k_is); (case l13 => k_is); (case c13 => k_is); (case k13 => k_is)
  (case a14 => k_is); (case l14 => k_is); (case c14 => k_is); (case k14 => k_is)
  (case a15 => k_is); (case l15 => k_is); (case c15 => k_is); (case k15 => k_is)
  (case a16 => k_is); (case l16 => k_is); (case c16 => k_is); (case k16 => k_is)
  (case a17 => k_is); (case l17 => k_is); (case c17 => k_is); (case k17 => k_is)
  (case a18 => k_is); (case l18 => k_is); (case c18 => k_is); (case k18 => k_is)
  (case a19 => k_is); (case l19 => k_is); (case c19 => k_is); (case k19 => k_is)
  (case a20 => k_is); (case l20 => k_is); (case c20 => k_is); (case k20 => k_is)
  (case a21 => k_is); (case l21 => k_is); (case c21 => k_is); (case k21 => k_is)
  (case a22 => k_is); (case l22 => k_is); (case c22 => k_is); (case k22 => k_is)
  (case a23 => k_is); (case l23 => k_is); (case c23 => k_is); (case k23 => k_is)
  (case a24 => k_is); (case l24 => k_is); (case c24 => k_is); (case k24 => k_is)
  (case a25 => k_is); (case l25 => k_is); (case c25 => k_is); (case k25 => k_is)
  (case a26 => k_is); (case l26 => k_is); (case c26 => k_is); (case k26 => k_is)
  (case a27 => k_is); (case l27 => k_is); (case c27 => k_is); (case k27 => k_is)
  (case a28 => k_is); (case l28 => k_is); (case c28 => k_is); (case k28 => k_is)
  (case a29 => k_is); (case l29 => k_is); (case c29 => k_is); (case k29 => k_is)
  (case a30 => k_is); (case l30 => k_is); (case c30 => k_is); (case k30 => k_is)
  (case a31 => k_is); (case l31 => k_is); (case c31 => k_is); (case k31 => k_is)
  (case a32 => k_is); (case l32 => k_is); (case c32 => k_is); (case k32 => k_is)
  (case a33 => k_is); (case l33 => k_is); (case c33 => k_is); (case k33 => k_is)
  (case a34 => k_is); (case l34 => k_is); (case c34 => k_is); (case k34 => k_is)
  (case z0 => k_is); (case z1 => k_is); (case z2 => k_is); (case z3 => k_is); (case z4 => k_is); (case z5 => k_is); (case z6 => k_is); (case z7 => k_is); (case z8 => k_is); (case z9 => k_is); (case z10 => k_is); (case z11 => k_is)
