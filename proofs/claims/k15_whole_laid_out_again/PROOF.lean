import PyProof.Rows.All
import Wide.All
import OpenK.AllK
import Wide.FinOn
import Lean
import PyProof.EqAt
import PyProof.EqKinds
import PyProof.TupleCall
import PyProof.CompFree
import PyProof.StationsW
import PyProof.ExcClass3
import PyProof.Commute
import OpenK.KGet
import OpenK.KMeth
import PyProof.ExcArgs
import PyProof.ZipIter
import PyProof.ListNew
import PyProof.EnumMake
import PyProof.EnumStmt
import KE.KRevSl
import PyProof.WalkInts
import PyProof.Rows.MinMaxN
import PyProof.AttrMissHeap
import PyProof.DictList
import PyProof.DictUpdate
import KE.KDictOf
import PyProof.DictWalks
import PySem.Challenge.RW_unjump_k15_whole_laid_out_again
set_option Elab.async false
set_option linter.all false
set_option maxRecDepth 100000
set_option genSizeOf false
set_option compiler.extract_closed false
namespace L2
open PySem PySem.Spec PyProof.Rows
noncomputable abbrev Key := Sum Int Str
noncomputable def Ed : Key → Value → Bool
  | .inl k, v => Value.isInt k v
  | .inr x, v => Value.isStrOf x v
noncomputable def keyH (w : World) : Key → Int
  | .inl k => hashInt k
  | .inr x => hashStr w x
theorem Y6 : ∀ {k : Key} {v : Value}, Ed k v = true → (∃ i t, k = Sum.inl i ∧ v = Value.int i t) ∨ (∃ x t, k = Sum.inr x ∧ v = Value.str x t)
  | .inl i, v, h => by
    obtain ⟨t, e⟩ := Value.isInt_shape (k := i) (v := v) h
    exact .inl ⟨i, t, rfl, e⟩
  | .inr x, v, h => by
    obtain ⟨t, e⟩ := Value.isStrOf_shape (x := x) (v := v) h
    exact .inr ⟨x, t, rfl, e⟩
theorem Z13 (i : Int) (t : Tok) : Ed (.inl i) (.int i t) = true := by simp [Ed, Value.isInt]
theorem Cz (x : Str) (t : Tok) : Ed (.inr x) (.str x t) = true := by simp [Ed, Value.isStrOf]
theorem Zx7 (a b : Int) : decide ((Sum.inl a : Key) = Sum.inl b) = (a == b) := by
  by_cases e : a = b
  · subst e; simp
  · have h : ¬ (Sum.inl a : Key) = Sum.inl b := fun q => e (Sum.inl.inj q)
    rw [decide_eq_false h]
    exact (beq_eq_false_iff_ne.mpr e).symm
theorem Zp2 (a b : Str) : decide ((Sum.inr a : Key) = Sum.inr b) = decide (a = b) := by
  by_cases e : a = b
  · subst e; simp
  · have h : ¬ (Sum.inr a : Key) = Sum.inr b := fun q => e (Sum.inr.inj q)
    rw [decide_eq_false h, decide_eq_false e]
theorem Zv8 (a : Int) (b : Str) : decide ((Sum.inl a : Key) = Sum.inr b) = false := decide_eq_false (fun q => nomatch q)
theorem Zt9 (a : Str) (b : Int) : decide ((Sum.inr a : Key) = Sum.inl b) = false := decide_eq_false (fun q => nomatch q)
noncomputable def Yb (prog : Program) (w : World) : PySem.KeyKind prog w Key where
  is := Ed
  hash := keyH w
  inj := fun v a b ha hb => by
    rcases Y6 ha with ⟨i, t, rfl, rfl⟩ | ⟨x, t, rfl, rfl⟩
    · rcases Y6 hb with ⟨j, u, rfl, e⟩ | ⟨y, u, rfl, e⟩
      · injection e with e1 _; rw [e1]
      · exact nomatch e
    · rcases Y6 hb with ⟨j, u, rfl, e⟩ | ⟨y, u, rfl, e⟩
      · exact nomatch e
      · injection e with e1 _; rw [e1]
  byValue := fun k v h => by
    rcases Y6 h with ⟨i, t, rfl, rfl⟩ | ⟨x, t, rfl, rfl⟩ <;> rfl
  pyHash := fun hv h => by
    rcases Y6 hv with ⟨i, t, rfl, rfl⟩ | ⟨x, t, rfl, rfl⟩
    · exact wpAny_pyHash_int h
    · exact wpAny_pyHash_str h
  eqBool := fun hu hv h => by
    rcases Y6 hu with ⟨i, t, rfl, rfl⟩ | ⟨x, t, rfl, rfl⟩
    · rcases Y6 hv with ⟨j, u, rfl, rfl⟩ | ⟨y, u, rfl, rfl⟩
      · rw [Zx7] at h; exact wpAny_eqBool_int h
      · rw [Zv8] at h; exact SeqAt.EqAt.int_str i t y u _ _ _ _ h
    · rcases Y6 hv with ⟨j, u, rfl, rfl⟩ | ⟨y, u, rfl, rfl⟩
      · rw [Zt9] at h; exact SeqAt.EqAt.str_int x t j u _ _ _ _ h
      · rw [Zp2] at h; exact wpAny_eqBool_str h
  «strs» := fun k x t v h => by
    rcases Y6 h with ⟨i, u, rfl, e⟩ | ⟨y, u, rfl, e⟩
    · exact nomatch e
    · injection e with e1 _
      subst e1
      cases v <;> rfl
theorem Jm (prog : Program) (w : World) (i : Int) (t : Tok) : (Yb prog w).is (.inl i) (.int i t) = true := Z13 i t
theorem J3 (prog : Program) (w : World) (x : Str) (t : Tok) : (Yb prog w).is (.inr x) (.str x t) = true := Cz x t
inductive V where
  | non | bl (b : Bool) | int (i : Int) | str (x : Str) | byt (b : Array UInt8) | flt (b : UInt64) | ref (a : Addr) | ty (n : String)
  deriving DecidableEq
def RelV : V → Value → Prop
  | .non, u => u = Value.none
  | .bl b, u => u = Value.bool b
  | .int i, u => ∃ t, u = Value.int i t
  | .str x, u => ∃ t, u = Value.str x t
  | .byt b, u => ∃ t, u = Value.bytes b t
  | .flt b, u => ∃ t, u = Value.float b t
  | .ref a, u => u = Value.ref a
  | .ty n, u => u = Value.type n
abbrev Vals : List V → List Value → Prop := Paired RelV
theorem Vals.length {xs : List V} {us : List Value} (r : Vals xs us) : xs.length = us.length := Paired.length r
theorem Vals.get : ∀ {xs : List V} {us : List Value} {i : Nat} {x : V}, Vals xs us → xs[i]? = some x → ∃ u, us[i]? = some u ∧ RelV x u
  | _, _, _, _, .nil, e => by simp at e
  | _, _, 0, _, .cons r _, e => by simp at e; subst e; exact ⟨_, rfl, r⟩
  | _, _, i + 1, x, .cons _ t, e => by
    obtain ⟨u, h1, h2⟩ := Vals.get (i := i) (x := x) t (by simpa using e)
    exact ⟨u, by simpa using h1, h2⟩
theorem Vals.set {x : V} {u : Value} (r : RelV x u) : ∀ {xs : List V} {us : List Value} (i : Nat), Vals xs us → Vals (xs.set i x) (us.set i u)
  | _, _, _, .nil => .nil
  | _, _, 0, .cons _ t => .cons r t
  | _, _, i + 1, .cons q t => .cons q (Vals.set r i t)
theorem Vals.append : ∀ {xs ys : List V} {us ws : List Value}, Vals xs us → Vals ys ws → Vals (xs ++ ys) (us ++ ws)
  | _, _, _, _, .nil, s => s
  | _, _, _, _, .cons r t, s => .cons r (Vals.append t s)
theorem Vals.take : ∀ {xs : List V} {us : List Value} (n : Nat), Vals xs us → Vals (xs.take n) (us.take n)
  | _, _, 0, _ => .nil
  | _, _, _ + 1, .nil => .nil
  | _, _, n + 1, .cons r t => .cons r (Vals.take n t)
theorem Vals.drop : ∀ {xs : List V} {us : List Value} (n : Nat), Vals xs us → Vals (xs.drop n) (us.drop n)
  | _, _, 0, r => r
  | _, _, _ + 1, .nil => .nil
  | _, _, n + 1, .cons _ t => Vals.drop n t
def RelO : Option V → Option Value → Prop
  | some v, some u => RelV v u
  | none, none => True
  | _, _ => False
def KV {κ : Type} : List (κ × V) → List (κ × Value) → Prop := Paired fun (p : κ × V) (q : κ × Value) => p.1 = q.1 ∧ RelV p.2 q.2
noncomputable def kV : Key → V
  | .inl i => .int i
  | .inr x => .str x
inductive HO where
  /-- a list -/
  | lst (xs : List V)
  /-- a tuple (never changes) -/
  | tup (xs : List V)
  /-- a dict whose keys are ints and texts; one whose keys are tuples of ints and texts (the empty one is both) -/
  | dK (kvs : List (Key × V)) | dT (kvs : List (List Key × V))
  /-- a set of ints: its members, its size -/
  | set (S : Int → Bool) (n : Nat)
  /-- an instance of the class at C, its dict at dx, its attributes -/
  | ins (C dx : Addr) (fs : List (Str × V))
  /-- the dict of the instance at x -/
  | own (x : Addr)
  /-- the dict of an exception -/
  | xd (fs : List (Str × V))
  /-- a bound method, f of x -/
  | met (f x : Addr)
  /-- a range object lo, lo + 1, .. below hi -/
  | rng (lo hi : Int)
  /-- a thing that is known to the object (the script; a dict while a loop walks it): read, never written while it is so -/
  | frz (o : Obj) (u : HO)
  /-- a code object's table -/
  | tbl (ps : Array Value)
  /-- any other thing, by what is true of its one object (a def of one's own: SetO a S n := HO.ext fun h => ..) -/
  | ext (φ : Heap → Prop)
noncomputable abbrev Hp := Addr → Option HO
noncomputable def upd (H : Hp) (a : Addr) (o : HO) : Hp := fun b => if b = a then some o else H b
theorem Yp {H : Hp} {a : Addr} {o : HO} : upd H a o a = some o := by unfold upd; rw [if_pos rfl]
theorem Zj {H : Hp} {a b : Addr} {o : HO} (h : b ≠ a) : upd H a o b = H b := by unfold upd; rw [if_neg h]
theorem Zz7 {H : Hp} {a b : Addr} {o u : HO} (h : H a = some o) (h' : H b = some u) (d : o ≠ u) : a ≠ b := by
  intro e; subst e; rw [h] at h'; exact d (Option.some.inj h')
theorem Wg {H : Hp} {a b : Addr} {o : HO} (h : H a = some o) (h' : H b = none) : a ≠ b := by
  intro e; subst e; rw [h] at h'; cases h'
section
variable (P : Program) (w : World)
def X6 (H : Hp) (h : Heap) (a : Addr) : HO → Prop
  | .lst xs => xs.length ≤ sizeLine ∧ ∃ (its : List Value) (n : Nat), Vals xs its ∧ h.get? a = some { cls := .type "list", data := .seq its.toArray n }
  | .tup xs => xs.length ≤ sizeLine ∧ ∃ its : List Value, Vals xs its ∧ IsTup h a its.toArray
  | .dK kvs => kvs.length ≤ sizeLine ∧ (a == sysModules) = false ∧ ∃ vs, KV kvs vs ∧ h.DictOf (Yb P w) a vs
  | .dT kvs => kvs.length ≤ sizeLine ∧ (a == sysModules) = false ∧ ∃ xs : List (List Key × Addr × Value),
      Paired (fun (p : List Key × V) (q : List Key × Addr × Value) => p.1 = q.1 ∧ H q.2.1 = some (.tup (p.1.map kV)) ∧ RelV p.2 q.2.2) kvs xs ∧
      ∃ o es ep, h.get? a = some o ∧ o.ExactDict ∧ o.data = .dict es ep ∧ es.toList = xs.map (entryOfKey (tupleKind (Yb P w))) ∧ (xs.map (·.1)).Nodup
  | .set S n => h.SetOf (intKind P w) a S n
  | .ins C dx fs => H dx = some (.own a) ∧ fs.length ≤ 1000 ∧ dx ≠ a ∧ h.get? a = some (PySem.W.instObj C dx) ∧
      ∃ mA, h.Ns1 dx mA ∧ (∀ f, RelO (fs.lookup f) (mA f)) ∧ PySem.Within mA (fs.map (·.1))
  | .own _ => ∃ o, h.get? a = some o
  | .xd fs => ∃ mA, h.Ns1 a mA ∧ ∀ f, RelO (fs.lookup f) (mA f)
  | .rng lo hi => ∃ t u v, h.get? a = some { cls := .type "range", data := .fields #[.int lo t, .int hi u, .int 1 v] }
  | .frz o u => h.get? a = some o ∧ X6 H h a u
  | .tbl ps => h.get? a = some { cls := .none, data := .fields ps }
  | .met f x => h.get? a = some (PySem.W.methodObj (.ref f) (.ref x))
  | .ext φ => φ h ∧ (∃ o, h.get? a = some o) ∧ ∀ h1 h2 : Heap, φ h1 → (∀ o, h1.get? a = some o → h2.get? a = some o) → φ h2
def HOk (H : Hp) (h : Heap) : Prop := ∀ a o, H a = some o → X6 P w H h a o
end
section
variable {P : Program} {w : World} {H H' : Hp} {h h' : Heap} {a : Addr} {o : HO}
theorem X6.lt (x : X6 P w H h a o) : a < h.objs.size := by
  cases o with
  | lst xs => obtain ⟨_, _, _, _, e⟩ := x; exact Heap.lt_size e
  | tup xs => obtain ⟨_, _, _, p⟩ := x; exact p.lt
  | dK kvs => obtain ⟨_, _, _, _, o, _, _, e, _⟩ := x; exact Heap.lt_size e
  | dT kvs => obtain ⟨_, _, _, _, o, _, _, e, _⟩ := x; exact Heap.lt_size e
  | set S n => obtain ⟨o, _, _, _, e, _⟩ := x; exact Heap.lt_size e
  | ins C dx fs => obtain ⟨_, _, _, e, _⟩ := x; exact Heap.lt_size e
  | own y => obtain ⟨_, e⟩ := x; exact Heap.lt_size e
  | xd fs => obtain ⟨_, ⟨_, _, _, e, _⟩, _⟩ := x; exact Heap.lt_size e
  | rng lo hi => obtain ⟨_, _, _, e⟩ := x; exact Heap.lt_size e
  | frz ob u => obtain ⟨e, _⟩ := x; exact Heap.lt_size e
  | tbl ps => exact Heap.lt_size (show h.get? a = some _ from x)
  | met f y => exact Heap.lt_size (show h.get? a = some _ from x)
  | ext φ => obtain ⟨_, ⟨_, e⟩, _⟩ := x; exact Heap.lt_size e
theorem Paired.mapP {α β : Type} {F G : α → β → Prop} : ∀ {l₁ : List α} {l₂ : List β}, Paired F l₁ l₂ → (∀ a b, F a b → G a b) → Paired G l₁ l₂
  | _, _, .nil, _ => .nil
  | _, _, .cons r t, f => .cons (f _ _ r) (Paired.mapP t f)
theorem X6.stay (x : X6 P w H h a o) (k : ∀ b u, (b = a ∨ H b = some (.own a)) → h.get? b = some u → h'.get? b = some u)
    (ho : ∀ b, H b = some (.own a) → H' b = some (.own a)) (ht : ∀ b xs, H b = some (.tup xs) → H' b = some (.tup xs)) : X6 P w H' h' a o := by
  induction o with
  | lst xs => obtain ⟨z, its, n, r, e⟩ := x; exact ⟨z, its, n, r, k _ _ (.inl rfl) e⟩
  | tup xs => obtain ⟨z, its, r, ob, e, c⟩ := x; exact ⟨z, its, r, ob, k _ _ (.inl rfl) e, c⟩
  | dK kvs => obtain ⟨z, y, vs, r, ob, es, ep, e, c⟩ := x; exact ⟨z, y, vs, r, ob, es, ep, k _ _ (.inl rfl) e, c⟩
  | dT kvs =>
    obtain ⟨z, y, xs, r, ob, es, ep, e, c⟩ := x
    exact ⟨z, y, xs, Paired.mapP r fun p q z => ⟨z.1, ht _ _ z.2.1, z.2.2⟩, ob, es, ep, k _ _ (.inl rfl) e, c⟩
  | set S n => obtain ⟨ob, es, ep, t, e, c⟩ := x; exact ⟨ob, es, ep, t, k _ _ (.inl rfl) e, c⟩
  | ins C dx fs =>
    obtain ⟨d, z, ne, e, mA, ⟨od, es, ep, e2, c⟩, r⟩ := x
    exact ⟨ho _ d, z, ne, k _ _ (.inl rfl) e, mA, ⟨od, es, ep, k _ _ (.inr d) e2, c⟩, r⟩
  | own y => obtain ⟨ob, e⟩ := x; exact ⟨ob, k _ _ (.inl rfl) e⟩
  | xd fs => obtain ⟨mA, ⟨od, es, ep, e, c⟩, r⟩ := x; exact ⟨mA, ⟨od, es, ep, k _ _ (.inl rfl) e, c⟩, r⟩
  | rng lo hi => obtain ⟨t, u, v, e⟩ := x; exact ⟨t, u, v, k _ _ (.inl rfl) e⟩
  | frz ob u ih => obtain ⟨e, q⟩ := x; exact ⟨k _ _ (.inl rfl) e, ih q⟩
  | tbl ps =>
    have e : h.get? a = some { cls := .none, data := .fields ps } := x
    show h'.get? a = some { cls := .none, data := .fields ps }
    exact k a _ (.inl rfl) e
  | met f y =>
    have e : h.get? a = some (PySem.W.methodObj (.ref f) (.ref y)) := x
    show h'.get? a = some (PySem.W.methodObj (.ref f) (.ref y))
    exact k a _ (.inl rfl) e
  | ext φ => obtain ⟨p, ⟨o, e⟩, st⟩ := x; exact ⟨st _ _ p fun o q => k _ _ (.inl rfl) q, ⟨o, k _ _ (.inl rfl) e⟩, st⟩
theorem HOk.lt (x : HOk P w H h) (e : H a = some o) : a < h.objs.size := (x a o e).lt
theorem HOk.fresh (x : HOk P w H h) (e : h.objs.size ≤ a) : H a = none := by
  cases q : H a with
  | none => rfl
  | some u => exact absurd (Nat.lt_of_lt_of_le (x.lt q) e) (Nat.lt_irrefl _)
theorem HOk.kept (x : HOk P w H h) (k : ∀ b u, h.get? b = some u → h'.get? b = some u) : HOk P w H h' := fun a o e =>
  (x a o e).stay (fun b u _ q => k b u q) (fun _ q => q) fun _ _ q => q
theorem HOk.laid (x : HOk P w H h) (k : ∀ b u, h.get? b = some u → h'.get? b = some u) (hp : h.objs.size ≤ a) (new : X6 P w (upd H a o) h' a o) : HOk P w (upd H a o) h' := fun b u e => by
  have hn := x.fresh hp
  by_cases hb : b = a
  · subst hb; rw [Yp] at e; cases e; exact new
  · rw [Zj hb] at e
    exact (x b u e).stay (fun c v _ q => k c v q) (fun c q => by rw [Zj (Wg q hn)]; exact q) fun c xs q => by rw [Zj (Wg q hn)]; exact q
end
def Rd (H : Hp) (a : Addr) (u : HO) : Prop := H a = some u ∨ ∃ o, H a = some (.frz o u)
theorem Rd.ok {P : Program} {w : World} {H : Hp} {h : Heap} {a : Addr} {u : HO} (r : Rd H a u) (x : HOk P w H h) : X6 P w H h a u := by
  rcases r with r | ⟨o, r⟩
  · exact x a u r
  · obtain ⟨_, q⟩ := x a _ r
    exact q
def Mut : Option HO → Prop
  | some (.lst _) => True
  | some (.dK _) => True
  | some (.dT _) => True
  | some (.set _ _) => True
  | some (.ins _ _ _) => True
  | some (.ext _) => True
  | _ => False
section
variable {P : Program} {w : World} {H : Hp} {h h' : Heap} {x e : Addr} {o' : HO}
theorem HOk.write (ok : HOk P w H h) (mu : Mut (H x)) (he : e = x ∨ H e = some (.own x)) (k : ∀ b u, b ≠ e → h.get? b = some u → h'.get? b = some u) (heo : ∃ u, h'.get? e = some u)
    (new : X6 P w (upd H x o') h' x o') : HOk P w (upd H x o') h' := fun b u q => by
  have nown : ∀ c y, H c = some (.own y) → c ≠ x := fun c y r z => by subst z; rw [r] at mu; exact mu
  have ntup : ∀ c xs, H c = some (.tup xs) → c ≠ x := fun c xs r z => by subst z; rw [r] at mu; exact mu
  by_cases hb : b = x
  · subst hb; rw [Yp] at q; cases q; exact new
  · rw [Zj hb] at q
    by_cases hbe : b = e
    · have q' : H b = some (.own x) := by
        rcases he with z | z
        · exact absurd (hbe.trans z) hb
        · rw [hbe]; exact z
      rw [q] at q'; cases q'
      obtain ⟨v, hv⟩ := heo
      exact ⟨v, by rw [hbe]; exact hv⟩
    · refine (ok b u q).stay (fun c v hc r => k c v ?_ r) (fun c r => by rw [Zj (nown c b r)]; exact r) fun c xs r => by rw [Zj (ntup c xs r)]; exact r
      rcases hc with rfl | hc
      · exact hbe
      · rintro rfl
        rcases he with z | z
        · exact nown c b hc z
        · rw [hc] at z; cases z; exact hb rfl
end
structure Un (fs ex : List Addr) (H H' : Hp) (h h' : Heap) : Prop where
  keep : ∀ b o, h.get? b = some o → H b = none → b ∉ fs → b ∉ ex → h'.get? b = some o
  slot : ∀ b o, h.get? b = some o → H b = none → b ∈ fs → b ∉ ex → ∃ sl, h'.get? b = some { o with slots := sl }
  free : ∀ b o, h.get? b = some o → H b = none → b ∉ ex → H' b = none
  there : ∀ b o, h.get? b = some o → b ∉ ex → ∃ o', h'.get? b = some o'
  tups : ∀ b xs, H b = some (.tup xs) → H' b = some (.tup xs)
  frzs : ∀ b o u, H b = some (.frz o u) → H' b = some (.frz o u)
  tbls : ∀ b ps, H b = some (.tbl ps) → ∃ more, H' b = some (.tbl (ps ++ more))
section
variable {fs fs' ex ex' : List Addr} {H H1 H2 : Hp} {h h1 h2 h' : Heap} {a x e : Addr} {o : HO}
theorem Un.any (u : Un fs ex H H1 h h1) {b : Addr} {ob : Obj} (q : h.get? b = some ob) (n : H b = none) (hx : b ∉ ex) : ∃ sl, h1.get? b = some { ob with slots := sl } := by
  by_cases hb : b ∈ fs
  · exact u.slot b ob q n hb hx
  · exact ⟨ob.slots, u.keep b ob q n hb hx⟩
theorem Un.trans (a : Un fs ex H H1 h h1) (b : Un fs ex H1 H2 h1 h2) : Un fs ex H H2 h h2 where
  keep := fun c ob q n hc hx => b.keep c ob (a.keep c ob q n hc hx) (a.free c ob q n hx) hc hx
  slot := fun c ob q n hc hx => by
    obtain ⟨sl, e1⟩ := a.slot c ob q n hc hx
    obtain ⟨sl', e2⟩ := b.slot c _ e1 (a.free c ob q n hx) hc hx
    exact ⟨sl', e2⟩
  free := fun c ob q n hx => by
    obtain ⟨o', e1⟩ := a.there c ob q hx
    exact b.free c o' e1 (a.free c ob q n hx) hx
  there := fun c ob q hx => by
    obtain ⟨o', e1⟩ := a.there c ob q hx
    exact b.there c o' e1 hx
  tups := fun c xs q => b.tups c xs (a.tups c xs q)
  frzs := fun c ob xs q => b.frzs c ob xs (a.frzs c ob xs q)
  tbls := fun c ps q => by
    obtain ⟨m1, e1⟩ := a.tbls c ps q
    obtain ⟨m2, e2⟩ := b.tbls c _ e1
    exact ⟨m1 ++ m2, by rw [e2, Array.append_assoc]⟩
theorem Un.kept (k : ∀ b u, h.get? b = some u → h'.get? b = some u) : Un fs ex H H h h' :=
  ⟨fun b ob q _ _ _ => k b ob q, fun b ob q _ _ _ => ⟨ob.slots, k b ob q⟩, fun _ _ _ n _ => n, fun b ob q _ => ⟨ob, k b ob q⟩, fun _ _ q => q, fun _ _ _ q => q, fun _ ps q => ⟨#[], by rw [q]; simp⟩⟩
theorem Un.refl : Un fs ex H H h h := Un.kept fun _ _ q => q
theorem Un.laid (k : ∀ b u, h.get? b = some u → h'.get? b = some u) (hp : h.objs.size ≤ a) (hn : H a = none) : Un fs ex H (upd H a o) h h' where
  keep := fun b u q _ _ _ => k b u q
  slot := fun b u q _ _ _ => ⟨u.slots, k b u q⟩
  free := fun b u q n _ => by rw [Zj (Nat.ne_of_lt (Nat.lt_of_lt_of_le (Heap.lt_size q) hp))]; exact n
  there := fun b u q _ => ⟨u, k b u q⟩
  tups := fun b xs q => by rw [Zj (Wg q hn)]; exact q
  frzs := fun b u xs q => by rw [Zj (Wg q hn)]; exact q
  tbls := fun b ps q => ⟨#[], by rw [Zj (Wg q hn), q]; simp⟩
theorem Un.write (mu : Mut (H x)) (he : e = x ∨ H e = some (.own x)) (k : ∀ b u, b ≠ e → h.get? b = some u → h'.get? b = some u) (heo : ∃ u, h'.get? e = some u) : Un fs ex H (upd H x o) h h' := by
  have hx : ∀ b, H b = none → b ≠ x := fun b n z => by subst z; rw [n] at mu; exact mu
  have hb : ∀ b, H b = none → b ≠ e := fun b n z => by
    subst z
    rcases he with r | r
    · exact hx b n r
    · rw [n] at r; cases r
  have hm : ∀ b u, H b = some u → ¬ Mut (some u) → b ≠ x := fun b u q nm z => by subst z; rw [q] at mu; exact nm mu
  refine ⟨fun b u q n _ _ => k b u (hb b n) q, fun b u q n _ _ => ⟨u.slots, k b u (hb b n) q⟩, fun b u q n _ => by rw [Zj (hx b n)]; exact n, fun b u q _ => ?_,
    fun b xs q => by rw [Zj (hm b _ q fun z => z)]; exact q, fun b u xs q => by rw [Zj (hm b _ q fun z => z)]; exact q, fun b ps q => ⟨#[], by rw [Zj (hm b _ q fun z => z), q]; simp⟩⟩
  by_cases hbe : b = e
  · subst hbe; exact heo
  · exact ⟨u, k b u hbe q⟩
end
noncomputable def trk (h : Heap) (H : Hp) : List Addr := (List.range h.objs.size).filter fun a => (H a).isSome
noncomputable def hidT (h : Heap) (H : Hp) : Heap := PySem.W.hideAll h (trk h H)
theorem Bc (h : Heap) (H : Hp) : (hidT h H).objs.size = h.objs.size := PySem.W.hideAll_size _ _
theorem Z78 {h : Heap} {H : Hp} {b : Addr} {o : Obj} (e : h.get? b = some o) (n : H b = none) : (hidT h H).get? b = some o :=
  PySem.W.hideAll_get _ e fun hm => by
    have q : (H b).isSome = true := (List.mem_filter.mp hm).2
    rw [n] at q; simp at q
theorem Zk7 {h : Heap} {H : Hp} {b : Addr} {o : Obj} (e : (hidT h H).get? b = some o) : h.get? b = some o ∧ H b = none := by
  have e' : h.get? b = some o := PySem.W.of_hideAll (trk h H) e
  refine ⟨e', ?_⟩
  cases q : H b with
  | none => rfl
  | some x =>
    have hm : b ∈ trk h H := List.mem_filter.mpr ⟨List.mem_range.mpr (Heap.lt_size e'), by simp [q]⟩
    have z : (hidT h H).get? b = none := PySem.W.hideAll_none (trk h H) hm
    rw [z] at e; cases e
noncomputable def Zg6 (g h : Heap) (L : Addr) : List (Addr × Obj) := (List.range h.objs.size).filterMap fun a => if a = L ∨ (g.get? a).isSome = true then none else (h.get? a).map fun o => (a, o)
noncomputable def rest (g h : Heap) (L d : Addr) : List (Addr × Obj) := (Zg6 g h L).filter fun p => decide (p.1 ≠ d)
structure Mod (K : PySem.W.Frag) (mg : Str → Option Value) (base : Heap) : Prop where
  kin : K.In base
  glob : base.Ns mainGlobals mg
  blt : ∃ mb, base.Ns builtinsNs mb ∧ ∀ x : Str, x ≠ "__name__" → mb x = bootBuiltins x
  nolimit : base.NoLimit
structure Cx where
  prog : Program
  w : World
  K : PySem.W.Frag
  mg : Str → Option Value
  base : Heap
  A : Around
  N : List Str
  s₀ : Shared
  H₀ : Hp
  env : Env
  outer : List Env
  stack : List Env
  ex : List Addr
  fn : Str → Bool
  calm : Bool
  pn : List (Addr × Obj)
  xe : Value → Shared → Prop
noncomputable def frs (l : List Env) : List Addr := l.filterMap (·.frame)
noncomputable abbrev Cx.fs (X : Cx) : List Addr := frs X.outer
def Vis (sc : Scope) (x : Str) : Prop := sc.names.lookup x = some .local ∨ sc.names.lookup x = some .cell ∨ sc.names.lookup x = some .free
def Loc (sc : Scope) (x : Str) : Prop := sc.names.lookup x = some .local ∨ sc.names.lookup x = some .cell
def Look (env : Env) (h : Heap) (m : Str → Option Value) (x : Str) (u : Value) : Prop :=
  (env.kindOf x = some .local ∧ m x = some u) ∨ ((env.kindOf x = some .cell ∨ env.kindOf x = some .free) ∧ ∃ c, env.cells.lookup x = some c ∧ h.IsCell c (some u))
structure Cx.Ok (X : Cx) : Prop where
  mod : Mod X.K X.mg X.base
  kind : X.env.scope.kind = .function
  glob : X.env.globals = mainGlobals
  blt : X.env.builtins = builtinsNs
  above : X.s₀.heap.objs.size ≤ X.env.locals
  inj : ∀ x y c, X.env.cells.lookup x = some c → X.env.cells.lookup y = some c → x = y
  has : ∀ x, (X.env.kindOf x = some .cell ∨ X.env.kindOf x = some .free) → ∃ c, X.env.cells.lookup x = some c
  cab : ∀ x c, X.fn x = true → X.env.cells.lookup x = some c → X.s₀.heap.objs.size ≤ c
  hd : X.calm = true → X.A.handled = none
  frames : X.A.frames = some X.stack
  stk : X.stack = X.outer ∨ (X.stack = X.env :: X.outer ∧ X.env.frame = some X.env.locals)
  exf : ∀ b ∈ X.ex, b ≠ X.env.locals ∧ ∀ x c, X.env.cells.lookup x = some c → c ≠ b
  bs : ∀ b o, X.base.get? b = some o → X.s₀.heap.get? b = some o ∧ X.H₀ b = none
  bsz : X.base.objs.size ≤ X.s₀.heap.objs.size
  noex : ∀ b o, X.base.get? b = some o → b ∉ X.ex
  exfs : ∀ b ∈ X.ex, b ∉ X.fs
  funs : X.s₀.heap.FunFrames X.base X.outer
  frf : ∀ b ∈ X.fs, X.H₀ b = none
structure Inv (X : Cx) (pins : List (Addr × Obj)) (σ : List (Option V)) (H : Hp) (s : Shared) : Prop where
  ok : X.Ok
  os : s.os = X.s₀.os
  bare : AllBare s.gens
  base : Un X.fs X.ex X.H₀ H X.s₀.heap s.heap
  loc : ∃ m, s.heap.Ns X.env.locals m ∧ ∀ (i : Nat) (x : Str) (v : V), X.N[i]? = some x → σ[i]? = some (some v) → Vis X.env.scope x → ∃ u, RelV v u ∧ Look X.env s.heap m x u
  cell : ∀ x c, X.env.cells.lookup x = some c → ∃ v, s.heap.IsCell c v
  free : H X.env.locals = none
  freeC : ∀ x c, X.env.cells.lookup x = some c → H c = none
  pin : ∀ p ∈ X.pn ++ pins, s.heap.get? p.1 = some p.2 ∧ H p.1 = none ∧ p.1 ≠ X.env.locals ∧ p.1 ∉ X.fs ∧ ∀ v, p.2.data ≠ .cell v
  hok : HOk X.prog X.w H s.heap
  len : σ.length = X.N.length
section
variable {X : Cx} {pins : List (Addr × Obj)} {σ : List (Option V)} {H H' : Hp} {s : Shared} {h' : Heap}
theorem Cx.Ok.nofr (ok : X.Ok) {b : Addr} {o : Obj} (e : X.base.get? b = some o) : b ∉ X.fs := fun hb => by
  have := (ok.funs.mem hb).1
  rw [e] at this; cases this
theorem Inv.bs (I : Inv X pins σ H s) : ∀ b o, X.base.get? b = some o → s.heap.get? b = some o ∧ H b = none := fun b o e =>
  ⟨I.base.keep b o (I.ok.bs b o e).1 (I.ok.bs b o e).2 (I.ok.nofr e) (I.ok.noex b o e), I.base.free b o (I.ok.bs b o e).1 (I.ok.bs b o e).2 (I.ok.noex b o e)⟩
theorem Inv.bk (I : Inv X pins σ H s) : ∀ b o, X.base.get? b = some o → s.heap.get? b = some o := fun b o e => (I.bs b o e).1
theorem Inv.mod (I : Inv X pins σ H s) : Mod X.K X.mg X.base := I.ok.mod
theorem Inv.kIn (I : Inv X pins σ H s) : X.K.In s.heap := I.ok.mod.kin.keeps I.bk
theorem Inv.lt (I : Inv X pins σ H s) : X.env.locals < s.heap.objs.size := by obtain ⟨_, hn, _⟩ := I.loc; exact hn.lt
theorem Inv.sz (I : Inv X pins σ H s) : X.s₀.heap.objs.size ≤ s.heap.objs.size := Nat.le_trans I.ok.above (Nat.le_of_lt I.lt)
theorem Inv.nofs (I : Inv X pins σ H s) {a : Addr} (h : s.heap.objs.size ≤ a) : a ∉ X.fs := fun hb => by
  obtain ⟨_, o, ho, _⟩ := I.ok.funs.mem hb
  exact absurd (Nat.lt_of_lt_of_le (Heap.lt_size ho) (Nat.le_trans I.sz h)) (Nat.lt_irrefl _)
theorem Inv.cne (I : Inv X pins σ H s) : ∀ x c, X.env.cells.lookup x = some c → c ≠ X.env.locals := fun x c e z => by
  obtain ⟨v, o, ho, hd⟩ := I.cell x c e
  obtain ⟨m, ⟨o', es, ep, ho', hd', _⟩, _⟩ := I.loc
  rw [z, ho'] at ho; cases ho; rw [hd'] at hd; cases hd
theorem Inv.funs (I : Inv X pins σ H s) : s.heap.FunFrames X.base X.outer := by
  have all : ∀ (l : List Env), (∀ b ∈ frs l, b ∈ X.fs) → X.s₀.heap.FunFrames X.base l → s.heap.FunFrames X.base l := by
    intro l
    induction l with
    | nil => intro _ _; trivial
    | cons env r ih =>
      intro hs hl
      obtain ⟨hk, ⟨L, o, hf, hn, ho, hd⟩, hr⟩ := hl
      have hL : L ∈ X.fs := hs L (by unfold frs; rw [List.filterMap_cons, hf]; exact List.mem_cons_self)
      obtain ⟨sl, e⟩ := I.base.slot L o ho (I.ok.frf L hL) hL fun z => I.ok.exfs L z hL
      exact ⟨hk, ⟨L, _, hf, hn, e, hd⟩, ih (fun b hb => hs b (by unfold frs; rw [List.filterMap_cons, hf]; exact List.mem_cons_of_mem _ hb)) hr⟩
  exact all X.outer (fun _ hb => hb) I.ok.funs
theorem Inv.stack (I : Inv X pins σ H s) : s.heap.FunFrames X.base X.stack := by
  rcases I.ok.stk with e | ⟨e, hf⟩
  · rw [e]; exact I.funs
  · rw [e]
    obtain ⟨m, hn, _⟩ := I.loc
    refine .cons (by rw [I.ok.kind]; decide) hf hn ?_ I.funs
    exact Heap.get?_none_of_le (Nat.le_trans I.ok.bsz I.ok.above)
theorem Inv.stkSub (I : Inv X pins σ H s) : ∀ b ∈ frs X.stack, b ∈ X.env.locals :: X.fs := fun b hb => by
  rcases I.ok.stk with e | ⟨e, hf⟩
  · rw [e] at hb; exact List.mem_cons_of_mem _ hb
  · rw [e] at hb
    unfold frs at hb
    rw [List.filterMap_cons, hf] at hb
    exact hb
theorem Inv.stkFree (I : Inv X pins σ H s) : ∀ b ∈ frs X.stack, H b = none := fun b hb => by
  rcases List.mem_cons.mp (I.stkSub b hb) with e | hb
  · rw [e]; exact I.free
  · obtain ⟨_, o, ho, _⟩ := I.ok.funs.mem hb
    exact I.base.free b o ho (I.ok.frf b hb) fun z => I.ok.exfs b z hb
theorem Inv.step {g' : Array GenState} {t' : Nat} {d' : Drawn} {ch : List Addr} (I : Inv X pins σ H s)
    (hch : ∀ b ∈ ch, (b ∈ X.ex ∨ X.s₀.heap.objs.size ≤ b) ∧ b ≠ X.env.locals ∧ (∀ x c, X.env.cells.lookup x = some c → c ≠ b) ∧ ∀ p ∈ X.pn ++ pins, p.1 ≠ b)
    (keep : ∀ b o, b ≠ X.env.locals → b ∉ X.fs → b ∉ ch → s.heap.get? b = some o → H b = none → h'.get? b = some o)
    (slot : ∀ b o, b ≠ X.env.locals → b ∈ X.fs → b ∉ ch → s.heap.get? b = some o → H b = none → ∃ sl, h'.get? b = some { o with slots := sl }) (free : ∀ b o, b ∉ ch → s.heap.get? b = some o → H b = none → H' b = none)
    (there : ∀ b o, b ∉ ch → s.heap.get? b = some o → ∃ o', h'.get? b = some o')
    (tups : ∀ b xs, H b = some (.tup xs) → H' b = some (.tup xs)) (frzs : ∀ b o u, H b = some (.frz o u) → H' b = some (.frz o u)) (tbls : ∀ b ps, H b = some (.tbl ps) → ∃ more, H' b = some (.tbl (ps ++ more)))
    (ns : ∀ m, s.heap.Ns X.env.locals m → h'.Ns X.env.locals m) (hok : HOk X.prog X.w H' h') (hg : AllBare g') :
    Inv X pins σ H' { s with heap := h', gens := g', drawn := d', toks := t' } := by
  have neL : ∀ b o, X.s₀.heap.get? b = some o → b ≠ X.env.locals := fun b o e => Nat.ne_of_lt (Nat.lt_of_lt_of_le (Heap.lt_size e) I.ok.above)
  have neC : ∀ b o, X.s₀.heap.get? b = some o → b ∉ X.ex → b ∉ ch := fun b o e hx hb => by
    rcases (hch b hb).1 with z | z
    · exact hx z
    · exact absurd (Nat.lt_of_lt_of_le (Heap.lt_size e) z) (Nat.lt_irrefl _)
  have cellK : ∀ x c, X.env.cells.lookup x = some c → ∀ v, s.heap.IsCell c v → h'.IsCell c v := fun x c e v ⟨o, ho, hd⟩ => by
    have nch : c ∉ ch := fun z => (hch c z).2.2.1 x c e rfl
    by_cases hc : c ∈ X.fs
    · obtain ⟨sl, q⟩ := slot c o (I.cne x c e) hc nch ho (I.freeC x c e)
      exact ⟨_, q, hd⟩
    · exact ⟨o, keep c o (I.cne x c e) hc nch ho (I.freeC x c e), hd⟩
  refine ⟨I.ok, I.os, hg, ⟨fun b o e n hb hx => ?_, fun b o e n hb hx => ?_, fun b o e n hx => ?_, fun b o e hx => ?_, fun b xs e => tups b xs (I.base.tups b xs e), fun b o xs e => frzs b o xs (I.base.frzs b o xs e), fun b ps e => ?_⟩, ?_, fun x c e => ?_, ?_, fun x c e => ?_, fun p hp => ?_, hok, I.len⟩
  · exact keep b o (neL b o e) hb (neC b o e hx) (I.base.keep b o e n hb hx) (I.base.free b o e n hx)
  · obtain ⟨sl, e1⟩ := I.base.slot b o e n hb hx
    obtain ⟨sl', e2⟩ := slot b _ (neL b o e) hb (neC b o e hx) e1 (I.base.free b o e n hx)
    exact ⟨sl', e2⟩
  · obtain ⟨o', e1⟩ := I.base.there b o e hx
    exact free b o' (neC b o e hx) e1 (I.base.free b o e n hx)
  · obtain ⟨o', e1⟩ := I.base.there b o e hx
    exact there b o' (neC b o e hx) e1
  · obtain ⟨m1, e1⟩ := I.base.tbls b ps e
    obtain ⟨m2, e2⟩ := tbls b _ e1
    exact ⟨m1 ++ m2, by rw [e2, Array.append_assoc]⟩
  · obtain ⟨m, hn, hl⟩ := I.loc
    refine ⟨m, ns m hn, fun i x v e1 e2 e3 => ?_⟩
    obtain ⟨u, r, l⟩ := hl i x v e1 e2 e3
    refine ⟨u, r, ?_⟩
    rcases l with l | ⟨k, c, e, z⟩
    · exact .inl l
    · exact .inr ⟨k, c, e, cellK x c e _ z⟩
  · obtain ⟨v, z⟩ := I.cell x c e
    exact ⟨v, cellK x c e v z⟩
  · obtain ⟨m, ⟨o, _, _, ho, _⟩, _⟩ := I.loc
    exact free _ o (fun z => (hch _ z).2.1 rfl) ho I.free
  · obtain ⟨v, o, ho, hd⟩ := I.cell x c e
    exact free c o (fun z => (hch c z).2.2.1 x c e rfl) ho (I.freeC x c e)
  · obtain ⟨e, n, ne, nf, d⟩ := I.pin p hp
    have nch : p.1 ∉ ch := fun z => (hch p.1 z).2.2.2 p hp rfl
    exact ⟨keep p.1 p.2 ne nf nch e n, free p.1 p.2 nch e n, ne, nf, d⟩
theorem Inv.un {t' : Nat} (I : Inv X pins σ H s) (u : Un X.fs [] H H' s.heap h') (hok : HOk X.prog X.w H' h') : Inv X pins σ H' { s with heap := h', toks := t' } := by
  obtain ⟨m, ⟨o, es, ep, ho, r⟩, _⟩ := id I.loc
  obtain ⟨sl, hL⟩ := u.any ho I.free (by simp)
  exact I.step (g' := s.gens) (d' := s.drawn) (ch := []) (fun _ z => nomatch z) (fun b o _ hb _ e n => u.keep b o e n hb (by simp)) (fun b o _ hb _ e n => u.slot b o e n hb (by simp)) (fun b o _ e n => u.free b o e n (by simp)) (fun b o _ e => u.there b o e (by simp)) u.tups u.frzs u.tbls (fun m' hm => by
    obtain ⟨o', es', ep', ho', r'⟩ := hm
    rw [ho] at ho'; cases ho'
    exact ⟨_, es', ep', hL, r'⟩) hok I.bare
theorem Inv.call {g' : Array GenState} {t' : Nat} {d' : Drawn} {ch : List Addr} (I : Inv X pins σ H s) (u : Un (frs X.stack) ch H H' s.heap h') (hok : HOk X.prog X.w H' h') (hg : AllBare g')
    (hch : ∀ b ∈ ch, (b ∈ X.ex ∨ X.s₀.heap.objs.size ≤ b) ∧ b ≠ X.env.locals ∧ (∀ x c, X.env.cells.lookup x = some c → c ≠ b) ∧ ∀ p ∈ X.pn ++ pins, p.1 ≠ b) :
    Inv X pins σ H' { s with heap := h', gens := g', drawn := d', toks := t' } := by
  obtain ⟨m, ⟨o, es, ep, ho, r⟩, _⟩ := id I.loc
  obtain ⟨sl, hL⟩ := u.any ho I.free fun z => (hch _ z).2.1 rfl
  exact I.step (ch := ch) hch (fun b o hL hb hc e n => u.keep b o e n (fun z => (List.mem_cons.mp (I.stkSub b z)).elim hL hb) hc) (fun b o _ _ hc e n => u.any e n hc) (fun b o hc e n => u.free b o e n hc) (fun b o hc e => u.there b o e hc) u.tups u.frzs u.tbls (fun m' hm => by
    obtain ⟨o', es', ep', ho', r'⟩ := hm
    rw [ho] at ho'; cases ho'
    exact ⟨_, es', ep', hL, r'⟩) hok hg
theorem Inv.turned {t' : Nat} {it : Addr} (I : Inv X pins σ H s) (k : ∀ b o, b ≠ it → s.heap.get? b = some o → h'.get? b = some o) (hn : H it = none) (hL : it ≠ X.env.locals)
    (h1 : it ∈ X.ex ∨ X.s₀.heap.objs.size ≤ it) (h2 : ∀ x c, X.env.cells.lookup x = some c → c ≠ it) (h3 : ∀ p ∈ X.pn ++ pins, p.1 ≠ it) : Inv X pins σ H { s with heap := h', toks := t' } := by
  have nit : ∀ b u, H b = some u → b ≠ it := fun b u e z => by rw [z, hn] at e; cases e
  refine I.step (g' := s.gens) (d' := s.drawn) (ch := [it]) (fun b hb => ?_) (fun b o _ _ hc e _ => k b o (fun z => hc (by simp [z])) e) (fun b o _ _ hc e _ => ⟨o.slots, k b o (fun z => hc (by simp [z])) e⟩) (fun _ _ _ _ n => n)
    (fun b o hc e => ⟨o, k b o (fun z => hc (by simp [z])) e⟩) (fun _ _ e => e) (fun _ _ _ e => e) (fun b ps e => ⟨#[], by rw [e]; simp⟩) (fun m hm => ?_) (fun b u e => ?_) I.bare
  · have e : b = it := by simpa using hb
    subst e
    exact ⟨h1, hL, h2, h3⟩
  · obtain ⟨o, es, ep, ho, r⟩ := hm
    exact ⟨o, es, ep, k _ o (Ne.symm hL) ho, r⟩
  · refine (I.hok b u e).stay (fun c v hc q => k c v ?_ q) (fun _ q => q) fun _ _ q => q
    rcases hc with z | z
    · rw [z]; exact nit b u e
    · exact nit c _ z
theorem Inv.tok (I : Inv X pins σ H s) (t : Nat) : Inv X pins σ H { s with toks := t } := I.un (h' := s.heap) (t' := t) Un.refl I.hok
theorem Inv.kept {t' : Nat} (I : Inv X pins σ H s) (k : ∀ b u, s.heap.get? b = some u → h'.get? b = some u) : Inv X pins σ H { s with heap := h', toks := t' } := I.un (Un.kept k) (I.hok.kept k)
theorem Inv.laid {a : Addr} {o : HO} {t' : Nat} (I : Inv X pins σ H s) (k : ∀ b u, s.heap.get? b = some u → h'.get? b = some u) (hp : s.heap.objs.size ≤ a) (new : X6 X.prog X.w (upd H a o) h' a o) :
    Inv X pins σ (upd H a o) { s with heap := h', toks := t' } := I.un (Un.laid k hp (I.hok.fresh hp)) (I.hok.laid k hp new)
theorem Inv.write {x e : Addr} {o : HO} {t' : Nat} (I : Inv X pins σ H s) (mu : Mut (H x)) (he : e = x ∨ H e = some (.own x)) (k : ∀ b u, b ≠ e → s.heap.get? b = some u → h'.get? b = some u) (heo : ∃ u, h'.get? e = some u)
    (new : X6 X.prog X.w (upd H x o) h' x o) : Inv X pins σ (upd H x o) { s with heap := h', toks := t' } := I.un (Un.write mu he k heo) (I.hok.write mu he k heo new)
theorem Inv.pins_of {pins' : List (Addr × Obj)} (I : Inv X pins σ H s) (h : ∀ p ∈ pins', s.heap.get? p.1 = some p.2 ∧ H p.1 = none ∧ p.1 ≠ X.env.locals ∧ p.1 ∉ X.fs ∧ ∀ v, p.2.data ≠ .cell v) : Inv X pins' σ H s :=
  ⟨I.ok, I.os, I.bare, I.base, I.loc, I.cell, I.free, I.freeC, fun p hp => (List.mem_append.mp hp).elim (fun z => I.pin p (List.mem_append_left _ z)) (h p), I.hok, I.len⟩
theorem G8 {N : List Str} (hN : N.Nodup) {i j : Nat} {x : Str} (a : N[i]? = some x) (b : N[j]? = some x) : i = j := by
  obtain ⟨h1, e1⟩ := List.getElem?_eq_some_iff.mp a
  obtain ⟨h2, e2⟩ := List.getElem?_eq_some_iff.mp b
  exact (List.getElem_inj hN).mp (e1.trans e2.symm)
theorem Ru {M : Model} {A : Around} {E : Value → Shared → Prop} {i : Nat} {x : Str} {v : V} {u : Value} {Q : Unit → Shared → Prop} (I : Inv X pins σ H s) (hN : X.N.Nodup) (hi : X.N[i]? = some x) (hx : Loc X.env.scope x) (r : RelV v u)
    (h : ∀ s', Inv X pins (σ.set i (some v)) H s' → (∃ a, Heap.SameBut a s.heap s'.heap ∧ (a = X.env.locals ∨ X.env.cells.lookup x = some a)) → Q () s') (hf : X.fn x = true ∨ X.env.scope.names.lookup x = some .local := by first | exact .inl rfl | exact .inr rfl | assumption) : wpAny M A (storeName X.env x u) Q E s := by
  obtain ⟨m, hn, hl⟩ := id I.loc
  have hcls : (X.env.scope.kind == .class || (X.env.scope.kind == .module && X.env.locals != X.env.globals)) = false := by rw [I.ok.kind]; rfl
  have hiσ : i < σ.length := by rw [I.len]; exact (List.getElem?_eq_some_iff.mp hi).1
  have cne := I.cne
  have tracked : ∀ {a : Addr} {h' : Heap}, (∃ o, s.heap.get? a = some o ∧ H a = none) → Heap.SameBut a s.heap h' → HOk X.prog X.w H h' := fun {a h'} ha hs b ob e => by
    obtain ⟨_, _, hfree⟩ := ha
    refine (I.hok b ob e).stay (fun c w' hc q => (hs.2 c ?_).trans q) (fun _ q => q) fun _ _ q => q
    rintro rfl
    rcases hc with rfl | hc
    · rw [hfree] at e; cases e
    · rw [hfree] at hc; cases hc
  rcases hx with hk | hk
  · refine wpAny_storeName_local hk hn (fun h' hn' hs => ?_) hcls
    obtain ⟨oL, _, _, hoL, _⟩ := id hn
    refine h _ ⟨I.ok, I.os, I.bare, ⟨fun b o e n hb hx => ?_, fun b o e n hb hx => ?_, I.base.free, fun b o e hx => ?_, I.base.tups, I.base.frzs, I.base.tbls⟩, ⟨_, hn', fun j y v' e1 e2 e3 => ?_⟩, fun y c e => ?_, I.free, I.freeC, fun p hp => ?_, tracked ⟨oL, hoL, I.free⟩ hs, by simpa using I.len⟩ ⟨_, hs, .inl rfl⟩
    · exact (hs.2 b (Nat.ne_of_lt (Nat.lt_of_lt_of_le (Heap.lt_size e) I.ok.above))).trans (I.base.keep b o e n hb hx)
    · obtain ⟨sl, e1⟩ := I.base.slot b o e n hb hx
      exact ⟨sl, (hs.2 b (Nat.ne_of_lt (Nat.lt_of_lt_of_le (Heap.lt_size e) I.ok.above))).trans e1⟩
    · obtain ⟨o', e1⟩ := I.base.there b o e hx
      exact ⟨o', (hs.2 b (Nat.ne_of_lt (Nat.lt_of_lt_of_le (Heap.lt_size e) I.ok.above))).trans e1⟩
    · by_cases hj : j = i
      · subst hj
        rw [hi] at e1; cases e1
        rw [List.getElem?_set_self hiσ] at e2
        cases e2
        exact ⟨u, r, .inl ⟨hk, by simp⟩⟩
      · rw [List.getElem?_set_ne (Ne.symm hj)] at e2
        obtain ⟨u', r', q⟩ := hl j y v' e1 e2 e3
        refine ⟨u', r', ?_⟩
        rcases q with ⟨k, e⟩ | ⟨k, c, e, z⟩
        · refine .inl ⟨k, ?_⟩
          have : y ≠ x := fun e => hj (G8 hN e1 (e ▸ hi))
          simp [this, e]
        · exact .inr ⟨k, c, e, z.sameBut hs (cne y c e)⟩
    · obtain ⟨w', z⟩ := I.cell y c e
      exact ⟨w', z.sameBut hs (cne y c e)⟩
    · obtain ⟨e, n, ne, nf, d⟩ := I.pin p hp
      exact ⟨(hs.2 p.1 ne).trans e, n, ne, nf, d⟩
  · have hfn : X.fn x = true := by
      rcases hf with z | z
      · exact z
      · rw [z] at hk; cases hk
    obtain ⟨c, hc⟩ := I.ok.has x (.inl hk)
    obtain ⟨w', z⟩ := I.cell x c hc
    refine wpAny_storeName_cell I.ok.kind hk hc z (fun h' hc' hs => ?_)
    obtain ⟨oc, hoc, hocd⟩ := id z
    refine h { s with heap := h' } ⟨I.ok, I.os, I.bare, ⟨fun b o e n hb hx => ?_, fun b o e n hb hx => ?_, I.base.free, fun b o e hx => ?_, I.base.tups, I.base.frzs, I.base.tbls⟩, ⟨m, hn.sameBut hs (Ne.symm (cne x c hc)), fun j y v' e1 e2 e3 => ?_⟩, fun y c' e => ?_, I.free, I.freeC, fun p hp => ?_, tracked ⟨oc, hoc, I.freeC x c hc⟩ hs, by simpa using I.len⟩ ⟨c, hs, .inr hc⟩
    · exact (hs.2 b (Nat.ne_of_lt (Nat.lt_of_lt_of_le (Heap.lt_size e) (I.ok.cab x c hfn hc)))).trans (I.base.keep b o e n hb hx)
    · obtain ⟨sl, e1⟩ := I.base.slot b o e n hb hx
      exact ⟨sl, (hs.2 b (Nat.ne_of_lt (Nat.lt_of_lt_of_le (Heap.lt_size e) (I.ok.cab x c hfn hc)))).trans e1⟩
    · obtain ⟨o', e1⟩ := I.base.there b o e hx
      exact ⟨o', (hs.2 b (Nat.ne_of_lt (Nat.lt_of_lt_of_le (Heap.lt_size e) (I.ok.cab x c hfn hc)))).trans e1⟩
    · by_cases hj : j = i
      · subst hj
        rw [hi] at e1; cases e1
        rw [List.getElem?_set_self hiσ] at e2
        cases e2
        exact ⟨u, r, .inr ⟨.inl hk, c, hc, hc'⟩⟩
      · rw [List.getElem?_set_ne (Ne.symm hj)] at e2
        obtain ⟨u', r', q⟩ := hl j y v' e1 e2 e3
        refine ⟨u', r', ?_⟩
        rcases q with q | ⟨k, c', e, z'⟩
        · exact .inl q
        · refine .inr ⟨k, c', e, z'.sameBut hs ?_⟩
          rintro rfl
          exact hj (G8 hN e1 (I.ok.inj _ _ _ e hc ▸ hi))
    · by_cases hcc : c' = c
      · subst hcc; exact ⟨_, hc'⟩
      · obtain ⟨w2, z2⟩ := I.cell y c' e
        exact ⟨w2, z2.sameBut hs hcc⟩
    · obtain ⟨e, n, ne, nf, d⟩ := I.pin p hp
      refine ⟨(hs.2 p.1 ?_).trans e, n, ne, nf, d⟩
      intro q
      rw [q, hoc] at e
      have q' : oc = p.2 := Option.some.inj e
      exact d w' (by rw [← q']; exact hocd)
theorem Gu {M : Model} {A : Around} {E : Value → Shared → Prop} {i : Nat} {x : Str} {v : V} {u : Value} {Q : Unit → Shared → Prop} (I : Inv X pins σ H s) (hN : X.N.Nodup) (hi : X.N[i]? = some x) (hx : Loc X.env.scope x) (r : RelV v u)
    (h : ∀ s', Inv X pins (σ.set i (some v)) H s' → Q () s') (hf : X.fn x = true ∨ X.env.scope.names.lookup x = some .local := by first | exact .inl rfl | exact .inr rfl | assumption) : wpAny M A (storeName X.env x u) Q E s :=
  Ru I hN hi hx r (fun s' I' _ => h s' I') hf
theorem Inv.call' {s' : Shared} {ch : List Addr} (I : Inv X pins σ H s) (ho : s'.os = s.os) (u : Un (frs X.stack) ch H H' s.heap s'.heap) (hok : HOk X.prog X.w H' s'.heap) (hg : AllBare s'.gens)
    (hch : ∀ b ∈ ch, (b ∈ X.ex ∨ X.s₀.heap.objs.size ≤ b) ∧ b ≠ X.env.locals ∧ (∀ x c, X.env.cells.lookup x = some c → c ≠ b) ∧ ∀ p ∈ X.pn ++ pins, p.1 ≠ b) : Inv X pins σ H' s' := by
  obtain ⟨h', g', d', t', o'⟩ := s'
  have e : o' = s.os := ho
  subst e
  exact I.call (g' := g') (t' := t') (d' := d') u hok hg hch
end
abbrev XK := Value → Option Addr → Hp → Prop
noncomputable abbrev St := List (Option V)
abbrev VK := V → Hp → Prop
abbrev TE := St → Hp → VK → Prop
abbrev TT := St → Hp → (Bool → Hp → Prop) → Prop
abbrev TA := St → Hp → (List V → Hp → Prop) → Prop
structure Ends where
  nx : St → Hp → Prop
  rt : VK
  bk : St → Hp → Prop := fun _ _ => False
  ct : St → Hp → Prop := fun _ _ => False
abbrev TS := Ends → St → Hp → Prop
def EP (X : Cx) (pins : List (Addr × Obj)) (σ : St) (Q : VK) (u : Value) (s' : Shared) : Prop := ∃ v H', Inv X pins σ H' s' ∧ RelV v u ∧ Q v H'
def TP (X : Cx) (pins : List (Addr × Obj)) (σ : St) (Q : Bool → Hp → Prop) (b : Bool) (s' : Shared) : Prop := ∃ H', Inv X pins σ H' s' ∧ Q b H'
def AP (X : Cx) (pins : List (Addr × Obj)) (σ : St) (Q : List V → Hp → Prop) (us : List Value) (s' : Shared) : Prop := ∃ vs H', Inv X pins σ H' s' ∧ Vals vs us ∧ Q vs H'
def SP (X : Cx) (pins : List (Addr × Obj)) (D : Ends) (f : Flow) (s' : Shared) : Prop :=
  match f with
  | .next => ∃ σ' H', Inv X pins σ' H' s' ∧ D.nx σ' H'
  | .brk => ∃ σ' H', Inv X pins σ' H' s' ∧ D.bk σ' H'
  | .cont => ∃ σ' H', Inv X pins σ' H' s' ∧ D.ct σ' H'
  | .ret u => ∃ v σ' H', Inv X pins σ' H' s' ∧ RelV v u ∧ D.rt v H'
def PE (X : Cx) (e : Expr) (t : TE) : Prop :=
  ∀ (pins : List (Addr × Obj)) (s : Shared) (σ : St) (H : Hp) (Q : VK), Inv X pins σ H s → t σ H Q → wpAny (model X.prog X.w) X.A (eval e X.env) (EP X pins σ Q) X.xe s
def PT (X : Cx) (e : Expr) (t : TT) : Prop :=
  ∀ (pins : List (Addr × Obj)) (s : Shared) (σ : St) (H : Hp) (Q : Bool → Hp → Prop), Inv X pins σ H s → t σ H Q → wpAny (model X.prog X.w) X.A (isTrue e X.env (eval e X.env)) (TP X pins σ Q) X.xe s
def PW (X : Cx) (e : Expr) (t : TT) : Prop :=
  ∀ (whole : Sem Value) (pins : List (Addr × Obj)) (s : Shared) (σ : St) (H : Hp) (Q : Bool → Hp → Prop), Inv X pins σ H s → t σ H Q → wpAny (model X.prog X.w) X.A (isTrue e X.env whole) (TP X pins σ Q) X.xe s
theorem PW.pt {X : Cx} {e : Expr} {t : TT} (h : PW X e t) : PT X e t := h _
def PA (X : Cx) (es : List Expr) (t : TA) : Prop :=
  ∀ (pos : Pos) (pins : List (Addr × Obj)) (s : Shared) (σ : St) (H : Hp) (Q : List V → Hp → Prop), Inv X pins σ H s → t σ H Q → wpAny (model X.prog X.w) X.A (spliced (backTo pos (starEach es X.env))) (AP X pins σ Q) X.xe s
def PS (X : Cx) (st : Stmt) (t : TS) : Prop :=
  ∀ (pins : List (Addr × Obj)) (s : Shared) (σ : St) (H : Hp) (D : Ends), Inv X pins σ H s → t D σ H → wpAny (model X.prog X.w) X.A (exec st X.env) (SP X pins D) X.xe s
def PSs (X : Cx) (st : List Stmt) (t : TS) : Prop :=
  ∀ (pins : List (Addr × Obj)) (s : Shared) (σ : St) (H : Hp) (D : Ends), Inv X pins σ H s → t D σ H → wpAny (model X.prog X.w) X.A (execs st X.env) (SP X pins D) X.xe s
theorem thn {α : Type} {t : Sem α} {Q Q' : α → Shared → Prop} {M : Model} {A : Around} {E : Value → Shared → Prop} {s : Shared} (h : wpAny M A t Q E s) (hQ : ∀ a s, Q a s → Q' a s) : wpAny M A t Q' E s := wpAny_mono h hQ fun _ _ x => x
section
variable {X : Cx}
theorem bin {a b : Expr} {ta tb : TE} (ha : PE X a ta) (hb : PE X b tb) {pins : List (Addr × Obj)} {s : Shared} {σ : St} {H : Hp} {R : V → V → Hp → Prop} (I : Inv X pins σ H s) (h : ta σ H fun x H1 => tb σ H1 fun y H2 => R x y H2)
    {α : Type} {Q : α → Shared → Prop} {f : Value → Value → Sem α}
    (hf : ∀ v u s2 x y H2, Inv X pins σ H2 s2 → RelV x v → RelV y u → R x y H2 → wpAny (model X.prog X.w) X.A (f v u) Q X.xe s2) :
    wpAny (model X.prog X.w) X.A (eval a X.env) (fun v s₁ => wpAny (model X.prog X.w) X.A (eval b X.env) (fun u s₂ => wpAny (model X.prog X.w) X.A (f v u) Q X.xe s₂) X.xe s₁) X.xe s := by
  refine thn (ha pins s σ H _ I h) fun v s1 zz2 => ?_
  obtain ⟨x, H1, I1, r1, q1⟩ := zz2
  refine thn (hb pins s1 σ H1 _ I1 q1) fun u s2 zz3 => ?_
  obtain ⟨y, H2, I2, r2, q2⟩ := zz3
  exact hf v u s2 x y H2 I2 r1 r2 q2
def tVar (i : Nat) : TE := fun σ H Q => ∃ v, σ[i]? = some (some v) ∧ Q v H
def tC (v : V) : TE := fun _ H Q => Q v H
theorem Zr1 {i : Nat} {x : Str} {pos : Pos} (hN : X.N[i]? = some x) (hv : Vis X.env.scope x) (hd : (x == ("__debug__" : Str)) = false := by decide) (hcd : (x == ("__classdict__" : Str)) = false := by decide) : PE X (.Name x pos) (tVar i) := by
  intro pins s σ H Q I h
  obtain ⟨v, e, h⟩ := h
  obtain ⟨m, hn, hl⟩ := I.loc
  obtain ⟨u, r, l⟩ := hl i x v hN e hv
  have fin : EP X pins σ Q u s := ⟨v, H, I, r, h⟩
  rcases l with ⟨hk, hm⟩ | ⟨hk, c, hc, hcell⟩
  · exact wpAny_Name (wpAny_loadName_local I.ok.kind hk hn hm fin) hd
  · rcases hk with hk | hk
    · exact wpAny_Name (wpAny_loadName_cell I.ok.kind hk hc hcell fin) hd
    · exact wpAny_Name (wpAny_loadName_free I.ok.kind hk hc hcell fin hcd) hd
theorem Zd3 {i j pos} : PE X (.Constant (.int i) j pos) (tC (.int i)) := fun _ _ _ H _ I h => wpAny_Constant_int ⟨.int i, H, I.tok _, ⟨_, rfl⟩, h⟩
theorem Zy6 {b j pos} : PE X (.Constant (.bool b) j pos) (tC (.bl b)) := fun _ _ _ H _ I h => Constant_bool ⟨.bl b, H, I, rfl, h⟩
theorem Zw0 {j pos} : PE X (.Constant .none j pos) (tC .non) := fun _ _ _ H _ I h => Constant_none ⟨.non, H, I, rfl, h⟩
theorem Zs2 {x j pos} : PE X (.Constant (.str x) j pos) (tC (.str x)) := fun _ _ _ H _ I h => Calls.Constant_str ⟨.str x, H, I.tok _, ⟨_, rfl⟩, h⟩
def Gl (X : Cx) (x : Str) : Prop := X.env.kindOf x = some .globalImplicit
theorem Ja {E : Value → Shared → Prop} {pins : List (Addr × Obj)} {s : Shared} {σ : St} {H : Hp} {x : Str} {u : Value} {pos : Pos} {Q : Value → Shared → Prop} (I : Inv X pins σ H s) (hg : Gl X x) (hm : X.mg x = some u) (h : Q u s)
    (hd : (x == ("__debug__" : Str)) = false := by decide) : wpAny (model X.prog X.w) X.A (eval (.Name x pos) X.env) Q E s :=
  Calls.Name_function_global I.ok.kind hg (Calls.loadGlobal_global (by rw [I.ok.glob]; exact I.mod.glob.keeps I.bk) hm h) hd
theorem Q7 {E : Value → Shared → Prop} {pins : List (Addr × Obj)} {s : Shared} {σ : St} {H : Hp} {x : Str} {u : Value} {pos : Pos} {Q : Value → Shared → Prop} (I : Inv X pins σ H s) (hg : Gl X x) (hm : X.mg x = none) (hv : bootBuiltins x = some u) (h : Q u s)
    (hn : x ≠ "__name__" := by decide) (hd : (x == ("__debug__" : Str)) = false := by decide) : wpAny (model X.prog X.w) X.A (eval (.Name x pos) X.env) Q E s := by
  obtain ⟨mb, h1, h2⟩ := I.mod.blt
  exact Calls.Name_function_global I.ok.kind hg (Calls.loadGlobal_builtin (by rw [I.ok.glob]; exact I.mod.glob.keeps I.bk) hm (by rw [I.ok.blt]; exact h1.keeps I.bk) ((h2 x hn).trans hv) h) hd
theorem Zn1 {x : Str} {v : V} {u : Value} {pos : Pos} (hg : Gl X x) (hm : X.mg x = some u) (r : RelV v u) (hd : (x == ("__debug__" : Str)) = false := by decide) : PE X (.Name x pos) (tC v) :=
  fun _ _ _ H _ I h => Ja I hg hm ⟨v, H, I, r, h⟩ hd
theorem Zl2 {x : Str} {v : V} {u : Value} {pos : Pos} (hg : Gl X x) (hm : X.mg x = none) (hv : bootBuiltins x = some u) (r : RelV v u) (hn : x ≠ "__name__" := by decide) (hd : (x == ("__debug__" : Str)) = false := by decide) : PE X (.Name x pos) (tC v) :=
  fun _ _ _ H _ I h => Q7 I hg hm hv ⟨v, H, I, r, h⟩ hn hd
variable {a b : Expr} {ta tb : TE} {pos : Pos}
variable {tA tB' : TT} {rest : List Expr}
def tAnd (t u : TT) : TT := fun σ H Q => t σ H fun c H1 => if c = true then u σ H1 Q else Q false H1
def tOr (t u : TT) : TT := fun σ H Q => t σ H fun c H1 => if c = true then Q true H1 else u σ H1 Q
def tNot (t : TT) : TT := fun σ H Q => t σ H fun c H1 => Q (!c) H1
theorem Zh5 (ha : PT X a tA) : PW X (.BoolOp .And [a] pos) tA := by
  intro wh pins s σ H Q I h
  refine isTrue_and (thn (ha pins s σ H Q I h) fun c s1 e => ?_)
  cases c with
  | true => exact isTrue_and_nil e
  | false => exact e
theorem Zv1 (ha : PT X a tA) : PW X (.BoolOp .Or [a] pos) tA := by
  intro wh pins s σ H Q I h
  refine isTrue_or (thn (ha pins s σ H Q I h) fun c s1 e => ?_)
  cases c with
  | false => exact isTrue_or_nil e
  | true => exact e
theorem Zw4 (ha : PT X a tA) (hb : PW X (.BoolOp .And (b :: rest) pos) tB') : PW X (.BoolOp .And (a :: b :: rest) pos) (tAnd tA tB') := by
  intro wh pins s σ H Q I h
  refine isTrue_and (thn (ha pins s σ H _ I h) fun c s1 zz4 => ?_)
  obtain ⟨H1, I1, q1⟩ := zz4
  cases c with
  | true => exact hb wh pins s1 σ H1 Q I1 q1
  | false => exact ⟨H1, I1, q1⟩
theorem Zz8 (ha : PT X a tA) (hb : PW X (.BoolOp .Or (b :: rest) pos) tB') : PW X (.BoolOp .Or (a :: b :: rest) pos) (tOr tA tB') := by
  intro wh pins s σ H Q I h
  refine isTrue_or (thn (ha pins s σ H _ I h) fun c s1 zz5 => ?_)
  obtain ⟨H1, I1, q1⟩ := zz5
  cases c with
  | true => exact ⟨H1, I1, q1⟩
  | false => exact hb wh pins s1 σ H1 Q I1 q1
theorem Zu9 (ha : PT X a tA) : PT X (.UnaryOp .Not a pos) (tNot tA) := by
  intro pins s σ H Q I h
  exact isTrue_not (ha pins s σ H (fun c H1 => Q (!c) H1) I h)
theorem Zs9 {op} {t : TE} (h : PE X a t) : PE X (.BoolOp op [a] pos) t := fun pins s σ H Q I hw => BoolOp_one (h pins s σ H Q I hw)
def tIf (t : TT) (ta tb : TE) : TE := fun σ H Q => t σ H fun c H1 => if c = true then ta σ H1 Q else tb σ H1 Q
theorem Z56 {c : Expr} (hc : PT X c tA) (ha : PE X a ta) (hb : PE X b tb) : PE X (.IfExp c a b pos) (tIf tA ta tb) := by
  intro pins s σ H Q I h
  refine wpAny_IfExp (thn (hc pins s σ H _ I h) fun d s1 zz6 => ?_)
  obtain ⟨H1, I1, q1⟩ := zz6
  cases d with
  | true => exact ha pins s1 σ H1 Q I1 q1
  | false => exact hb pins s1 σ H1 Q I1 q1
end
def SqL (K : PySem.W.Frag) (H : Hp) (a : Addr) (xs : List V) : Prop :=
  Rd H a (.lst xs) ∨
    ∃ (o : Obj) (its : Array Value) (n : Nat), K.lookup a = some o ∧ o.cls = .type "list" ∧ o.dict = none ∧ o.data = .seq its n ∧ its.size ≤ sizeLine ∧ Vals xs its.toList
def SqT (K : PySem.W.Frag) (H : Hp) (a : Addr) (xs : List V) : Prop :=
  Rd H a (.tup xs) ∨
    ∃ (o : Obj) (its : Array Value) (n : Nat), K.lookup a = some o ∧ o.cls = .type "tuple" ∧ o.data = .seq its n ∧ its.size ≤ sizeLine ∧ Vals xs its.toList
noncomputable def absV : Value → Option V
  | .none => some .non
  | .bool b => some (.bl b)
  | .int i _ => some (.int i)
  | .str x _ => some (.str x)
  | .bytes b _ => some (.byt b)
  | .float b _ => some (.flt b)
  | .ref a => some (.ref a)
  | .type n => some (.ty n)
  | _ => none
theorem RelV.abs {x : V} {u : Value} (r : RelV x u) : absV u = some x := by
  cases x with
  | non => cases r; rfl
  | bl _ => cases r; rfl
  | int _ => obtain ⟨t, rfl⟩ := r; rfl
  | str _ => obtain ⟨t, rfl⟩ := r; rfl
  | byt _ => obtain ⟨t, rfl⟩ := r; rfl
  | flt _ => obtain ⟨t, rfl⟩ := r; rfl
  | ref _ => cases r; rfl
  | ty _ => cases r; rfl
theorem RelV.inj {x y : V} {u : Value} (r : RelV x u) (q : RelV y u) : x = y := Option.some.inj (r.abs.symm.trans q.abs)
theorem Vals.inj : ∀ {xs ys : List V} {us : List Value}, Vals xs us → Vals ys us → xs = ys
  | _, _, _, .nil, .nil => rfl
  | _, _, _, .cons r t, .cons r' t' => by rw [r.inj r', Vals.inj t t']
section
variable {X : Cx} {pins : List (Addr × Obj)} {σ : St} {H : Hp} {s : Shared} {a : Addr} {xs ys : List V}
theorem SqT.of {K : PySem.W.Frag} (h : H a = some (.tup xs)) : SqT K H a xs := .inl (.inl h)
theorem Inv.list (I : Inv X pins σ H s) (h : SqL X.K H a xs) : ∃ its : List Value, Vals xs its ∧ PlainL s.heap a its.toArray ∧ xs.length ≤ sizeLine := by
  rcases h with h | ⟨o, its, n, hk, hc, hd, hs, hz, r⟩
  · obtain ⟨z, its, n, r, e⟩ := h.ok I.hok
    exact ⟨its, r, ⟨_, n, e, rfl, rfl, rfl⟩, z⟩
  · refine ⟨its.toList, r, ⟨o, n, I.kIn a o hk, hc, hd, by simpa using hs⟩, ?_⟩
    have e := r.length
    simp only [Array.length_toList] at e
    omega
theorem Inv.tuple (I : Inv X pins σ H s) (h : SqT X.K H a xs) : ∃ its : List Value, Vals xs its ∧ IsTup s.heap a its.toArray ∧ xs.length ≤ sizeLine := by
  rcases h with h | ⟨o, its, n, hk, hc, hs, hz, r⟩
  · obtain ⟨z, its, r, p⟩ := h.ok I.hok
    exact ⟨its, r, p, z⟩
  · refine ⟨its.toList, r, ⟨o, I.kIn a o hk, hc, n, by simpa using hs⟩, ?_⟩
    have e := r.length
    simp only [Array.length_toList] at e
    omega
theorem Inv.list_inj (I : Inv X pins σ H s) (h : SqL X.K H a xs) (h' : SqL X.K H a ys) : xs = ys := by
  obtain ⟨its, r, ⟨o, n, e, _, _, d⟩, _⟩ := I.list h
  obtain ⟨its', r', ⟨o', n', e', _, _, d'⟩, _⟩ := I.list h'
  rw [e] at e'; cases e'
  rw [d] at d'
  injection d' with d1 _
  have : its = its' := by simpa using congrArg Array.toList d1
  subst this
  exact r.inj r'
theorem Inv.tuple_inj (I : Inv X pins σ H s) (h : SqT X.K H a xs) (h' : SqT X.K H a ys) : xs = ys := by
  obtain ⟨its, r, ⟨o, e, _, n, d⟩, _⟩ := I.tuple h
  obtain ⟨its', r', ⟨o', e', _, n', d'⟩, _⟩ := I.tuple h'
  rw [e] at e'; cases e'
  rw [d] at d'
  injection d' with d1 _
  have : its = its' := by simpa using congrArg Array.toList d1
  subst this
  exact r.inj r'
end
abbrev Cx.wish (X : Cx) (E : Value → Shared → Prop) : Cx := { X with xe := E }
noncomputable abbrev Cx.nox (X : Cx) : Cx := X.wish fun _ _ => False
theorem Cx.Ok.wish {X : Cx} (ok : X.Ok) (E : Value → Shared → Prop) : (X.wish E).Ok :=
  ⟨ok.mod, ok.kind, ok.glob, ok.blt, ok.above, ok.inj, ok.has, ok.cab, ok.hd, ok.frames, ok.stk, ok.exf, ok.bs, ok.bsz, ok.noex, ok.exfs, ok.funs, ok.frf⟩
theorem Cx.Ok.unwish {X : Cx} {E : Value → Shared → Prop} (ok : (X.wish E).Ok) : X.Ok :=
  ⟨ok.mod, ok.kind, ok.glob, ok.blt, ok.above, ok.inj, ok.has, ok.cab, ok.hd, ok.frames, ok.stk, ok.exf, ok.bs, ok.bsz, ok.noex, ok.exfs, ok.funs, ok.frf⟩
section
variable {X : Cx} {pins : List (Addr × Obj)} {σ : St} {H : Hp} {s : Shared} {E : Value → Shared → Prop}
theorem Inv.wish (I : Inv X pins σ H s) (E : Value → Shared → Prop) : Inv (X.wish E) pins σ H s := ⟨I.ok.wish E, I.os, I.bare, I.base, I.loc, I.cell, I.free, I.freeC, I.pin, I.hok, I.len⟩
theorem Inv.unwish (I : Inv (X.wish E) pins σ H s) : Inv X pins σ H s := ⟨I.ok.unwish, I.os, I.bare, I.base, I.loc, I.cell, I.free, I.freeC, I.pin, I.hok, I.len⟩
theorem SP.unwish {D : Ends} {f : Flow} {s' : Shared} (h : SP (X.wish E) pins D f s') : SP X pins D f s' := by
  cases f with
  | next => obtain ⟨σ', H', I, q⟩ := h; exact ⟨σ', H', I.unwish, q⟩
  | brk => obtain ⟨σ', H', I, q⟩ := h; exact ⟨σ', H', I.unwish, q⟩
  | cont => obtain ⟨σ', H', I, q⟩ := h; exact ⟨σ', H', I.unwish, q⟩
  | ret u => obtain ⟨v, σ', H', I, r, q⟩ := h; exact ⟨v, σ', H', I.unwish, r, q⟩
theorem PSs.nox {st : List Stmt} {t : TS} (h : PSs X.nox st t) : PSs X st t := fun pins s σ H D I hw =>
  wpAny_mono (h pins s σ H D (I.wish _) hw) (fun _ _ q => q.unwish) fun _ _ z => False.elim z
end
section
variable {X : Cx} {st : Stmt} {rest : List Stmt} {t u : TS} {e : Expr} {te : TE} {pos : Pos}
def Y06 : TS := fun D σ H => D.nx σ H
def tSeq (t u : TS) : TS := fun D σ H => t { D with nx := u D } σ H
theorem Zn5 : PSs X [] Y06 := fun _ _ σ H _ I h => wpAny_execs_nil ⟨σ, H, I, h⟩
theorem Za3 (h1 : PS X st t) (h2 : PSs X rest u) : PSs X (st :: rest) (tSeq t u) := by
  intro pins s σ H D I h
  refine wpAny_execs_cons (thn (h1 pins s σ H { D with nx := u D } I h) fun f s1 q => ?_)
  cases f with
  | next =>
    obtain ⟨σ', H', I', q⟩ := q
    exact h2 pins s1 σ' H' D I' q
  | ret v => exact q
  | brk => exact q
  | cont => exact q
theorem Inv.quiet {pins : List (Addr × Obj)} {σ : St} {H : Hp} {s : Shared} (I : Inv X pins σ H s) : interactive X.env = false := by simp [interactive, I.ok.kind]
def Zy5 (te : TE) : TS := fun D σ H => te σ H fun _ H1 => D.nx σ H1
theorem Zj5 (he : PE X e te) (hs : swapsWith e none pos.line X.env = pure false := by rfl) : PS X (.Expr e pos) (Zy5 te) := by
  intro pins s σ H D I h
  exact wpAny_Expr_any (thn (he pins s σ H _ I h) fun v s1 zz7 => by obtain ⟨x, H1, I1, r1, q1⟩ := zz7; exact ⟨σ, H1, I1, q1⟩) I.quiet hs
def tRet (te : TE) : TS := fun D σ H => te σ H D.rt
theorem Zq4 (he : PE X e te) : PS X (.Return (some e) pos) (tRet te) := by
  intro pins s σ H D I h
  exact wpAny_Return_some (thn (he pins s σ H _ I h) fun v s1 zz8 => by obtain ⟨x, H1, I1, r1, q1⟩ := zz8; exact ⟨x, σ, H1, I1, r1, q1⟩)
def tIfS (c : TT) (t u : TS) : TS := fun D σ H => c σ H fun b H1 => if b = true then t D σ H1 else u D σ H1
theorem Y08 {c : Expr} {a b : List Stmt} {tc : TT} (hc : PT X c tc) (ha : PSs X a t) (hb : PSs X b u) : PS X (.If c a b pos) (tIfS tc t u) := by
  intro pins s σ H D I h
  refine wpAny_If (thn (hc pins s σ H _ I h) fun d s1 zz9 => ?_)
  obtain ⟨H1, I1, q1⟩ := zz9
  cases d with
  | true => exact ha pins s1 σ H1 D I1 q1
  | false => exact hb pins s1 σ H1 D I1 q1
def Zt8 : TS := fun _ _ _ => False
theorem Z93 : PS X st Zt8 := fun _ _ _ _ _ _ h => h.elim
end
abbrev TG := V → St → Hp → (St → Hp → Prop) → Prop
abbrev TGs := List V → St → Hp → (St → Hp → Prop) → Prop
def PG (X : Cx) (target : Expr) (t : TG) : Prop :=
  ∀ (pins : List (Addr × Obj)) (s : Shared) (σ : St) (H : Hp) (v : V) (u : Value) (Q : St → Hp → Prop), Inv X pins σ H s → RelV v u → t v σ H Q →
    wpAny (model X.prog X.w) X.A (assign target X.env u) (fun _ s' => ∃ σ' H', Inv X pins σ' H' s' ∧ Q σ' H') X.xe s
def PGs (X : Cx) (ts : List Expr) (t : TGs) : Prop :=
  ∀ (pins : List (Addr × Obj)) (s : Shared) (σ : St) (H : Hp) (vs : List V) (us : List Value) (Q : St → Hp → Prop), Inv X pins σ H s → Vals vs us → t vs σ H Q →
    wpAny (model X.prog X.w) X.A (assignInOrder ((assignEach ts X.env).map (·.2)) us) (fun _ s' => ∃ σ' H', Inv X pins σ' H' s' ∧ Q σ' H') X.xe s
abbrev TSet := V → V → V → Hp → (Hp → Prop) → Prop
def PSet (X : Cx) (t : TSet) : Prop :=
  ∀ (pins : List (Addr × Obj)) (s : Shared) (σ : St) (H : Hp) (o i v : V) (ov iv u : Value) (Q : Hp → Prop), Inv X pins σ H s → RelV o ov → RelV i iv → RelV v u → t o i v H Q →
    wpAny (model X.prog X.w) X.A (setItem ov iv u) (fun _ s' => ∃ H', Inv X pins σ H' s' ∧ Q H') X.xe s
abbrev TIp := V → V → Hp → VK → Prop
def PIp (X : Cx) (op : Operator) (t : TIp) : Prop :=
  ∀ (pins : List (Addr × Obj)) (s : Shared) (σ : St) (H : Hp) (x y : V) (v u : Value) (Q : VK), Inv X pins σ H s → RelV x v → RelV y u → t x y H Q →
    wpAny (model X.prog X.w) X.A (inplaceOp op v u) (EP X pins σ Q) X.xe s
section
variable {X : Cx} {pos : Pos}
noncomputable def Zb8 (i : Nat) : TG := fun v σ H Q => Q (σ.set i (some v)) H
theorem Zl6 {i : Nat} {x : Str} (hN : X.N.Nodup) (hi : X.N[i]? = some x) (hx : Loc X.env.scope x) (hf : X.fn x = true ∨ X.env.scope.names.lookup x = some .local := by first | exact .inl rfl | exact .inr rfl | assumption) : PG X (.Name x pos) (Zb8 i) := by
  intro pins s σ H v u Q I r h
  exact wpAny_assign_Name (Gu I hN hi hx r (fun s' I' => ⟨_, H, I', h⟩) hf)
noncomputable def gNil : TGs := fun vs σ H Q => vs = [] ∧ Q σ H
noncomputable def Zp7 (t : TG) (u : TGs) : TGs := fun vs σ H Q => ∃ v r, vs = v :: r ∧ t v σ H fun σ' H' => u r σ' H' Q
theorem Zh7 : PGs X [] gNil := by
  intro pins s σ H vs us Q I r h
  obtain ⟨e, h⟩ := h
  subst e
  cases r
  exact assignInOrder_nil ⟨σ, H, I, h⟩
theorem Za7 {e : Expr} {es : List Expr} {t : TG} {u : TGs} (h1 : PG X e t) (h2 : PGs X es u)
    (hs : (assignEach (e :: es) X.env).map (·.2) = assign e X.env :: (assignEach es X.env).map (·.2) := by rfl) : PGs X (e :: es) (Zp7 t u) := by
  intro pins s σ H vs us Q I r h
  obtain ⟨v, vr, e1, h⟩ := h
  subst e1
  cases r with
  | cons r rr =>
    rw [hs]
    refine assignInOrder_cons (thn (h1 pins s σ H _ _ _ I r h) fun _ s1 zz10 => ?_)
    obtain ⟨σ1, H1, I1, q1⟩ := zz10
    exact h2 pins s1 σ1 H1 _ _ Q I1 rr q1
noncomputable def gTup (K : PySem.W.Frag) (n : Nat) (t : TGs) : TG := fun v σ H Q => ∃ a xs, v = .ref a ∧ SqT K H a xs ∧ xs.length = n ∧ t xs σ H Q
theorem Zo2 {es : List Expr} {k : Nat} {t : TGs} {n : Nat} (hc : X.calm = true) (h : PGs X es t)
    (hn : (assignEach es X.env).length = n := by rfl) (hst : (assignEach es X.env).findIdx? (·.1) = none := by rfl) : PG X (.Tuple es k pos) (gTup X.K n t) := by
  intro pins s σ H v u Q I r hw
  obtain ⟨a, xs, e1, hq, hl, hw⟩ := hw
  subst e1
  cases r
  obtain ⟨its, rv, ht, hz⟩ := I.tuple hq
  refine assign_Tuple_tuple (I.ok.hd hc) ht (by simp [hn, ← hl, rv.length]) hst fun h' hx => ?_
  have I1 : Inv X pins σ H { s with heap := h' } := I.kept (t' := s.toks) fun b o e => hx b o (Nat.ne_of_lt (Heap.lt_size e)) e
  exact h pins _ σ H xs _ Q I1 (by simpa using rv) hw
def tAsg (te : TE) (g : TG) : TS := fun D σ H => te σ H fun x H1 => g x σ H1 D.nx
theorem Ze9 {tg e : Expr} {te : TE} {g : TG} (he : PE X e te) (hg : PG X tg g) (hs : swapsWithSole [tg] e pos.line X.env = pure false := by rfl) (hw : swappedStores [tg] e X.env = pure none := by rfl)
    (h1 : (assignEach [tg] X.env).map (·.2) = [assign tg X.env] := by rfl) : PS X (.Assign [tg] e pos) (tAsg te g) := by
  intro pins s σ H D I h
  refine wpAny_Assign_stores (thn (he pins s σ H _ I h) fun v s1 zz11 => ?_) hs hw
  obtain ⟨x, H1, I1, r1, q1⟩ := zz11
  rw [h1]
  exact thn (hg pins s1 σ H1 x v _ I1 r1 q1) fun _ s2 q => q
def tAug (i : Nat) (te : TE) (ti : TIp) : TS := fun D σ H => ∃ x, σ[i]? = some (some x) ∧ te σ H fun y H1 => ti x y H1 fun z H2 => D.nx (σ.set i (some z)) H2
theorem Zt6 {i : Nat} {x : Str} {e : Expr} {te : TE} {op : Operator} {ti : TIp} {pos' : Pos} (hN : X.N.Nodup) (hi : X.N[i]? = some x) (hx : Loc X.env.scope x) (he : PE X e te) (ho : PIp X op ti) (hf : X.fn x = true ∨ X.env.scope.names.lookup x = some .local := by first | exact .inl rfl | exact .inr rfl | assumption) :
    PS X (.AugAssign (.Name x pos') op e pos) (tAug i te ti) := by
  intro pins s σ H D I h
  obtain ⟨v, e1, h⟩ := h
  obtain ⟨m, hn, hl⟩ := I.loc
  have vis : Vis X.env.scope x := by rcases hx with k | k; exact .inl k; exact .inr (.inl k)
  obtain ⟨u, r, l⟩ := hl i x v hi e1 vis
  refine wpAny_AugAssign_Name ?_
  have go : wpAny (model X.prog X.w) X.A (eval e X.env) (fun w s₂ => wpAny (model X.prog X.w) X.A (inplaceOp op u w) (fun r s₃ => wpAny (model X.prog X.w) X.A (storeName X.env x r) (fun _ => SP X pins D .next) X.xe s₃) X.xe s₂) X.xe s := by
    refine thn (he pins s σ H _ I h) fun w s1 zz12 => ?_
    obtain ⟨y, H1, I1, r1, q1⟩ := zz12
    refine thn (ho pins s1 σ H1 v y u w _ I1 r r1 q1) fun z s2 zz13 => ?_
    obtain ⟨zv, H2, I2, r2, q2⟩ := zz13
    exact Gu I2 hN hi hx r2 (fun s3 I3 => ⟨_, H2, I3, q2⟩) hf
  rcases l with ⟨hk, hm⟩ | ⟨hk, c, hc, hcell⟩
  · exact wpAny_loadName_local I.ok.kind hk hn hm go
  · rcases hk with hk | hk
    · exact wpAny_loadName_cell I.ok.kind hk hc hcell go
    · rcases hx with k | k
      · have : X.env.scope.names.lookup x = some .free := hk
        rw [k] at this; cases this
      · have : X.env.scope.names.lookup x = some .free := hk
        rw [k] at this; cases this
noncomputable def ipI (f : Int → Int → Int) : TIp := fun x y H Q => ∃ i j, x = .int i ∧ y = .int j ∧ Q (.int (f i j)) H
theorem Zs4 : PIp X .Add (ipI fun i j => i + j) := by
  intro pins s σ H x y v u Q I r1 r2 h
  obtain ⟨i, j, e1, e2, q⟩ := h
  subst e1; subst e2
  obtain ⟨t, rfl⟩ := r1
  obtain ⟨t', rfl⟩ := r2
  exact iadd_int ⟨.int _, H, I.tok _, ⟨_, rfl⟩, q⟩
theorem Zu3 : PIp X .Sub (ipI fun i j => i - j) := by
  intro pins s σ H x y v u Q I r1 r2 h
  obtain ⟨i, j, e1, e2, q⟩ := h
  subst e1; subst e2
  obtain ⟨t, rfl⟩ := r1
  obtain ⟨t', rfl⟩ := r2
  exact isub_int ⟨.int _, H, I.tok _, ⟨_, rfl⟩, q⟩
end
section
variable {X : Cx} {pos : Pos}
def Zw6 (c : TT) (tb : TS) : TS := fun D σ H => ∃ W : Nat → St → Hp → Prop, (∃ m, W m σ H) ∧ ∀ m σ H, W m σ H →
  c σ H fun b H1 => if b = true then ∃ N : St → Hp → Prop, (∀ σ' H', N σ' H' → ∃ m', m' < m ∧ W m' σ' H') ∧ tb { D with nx := N, ct := N, bk := D.nx } σ H1 else D.nx σ H1
theorem Z99 {c : Expr} {body : List Stmt} {tc : TT} {tb : TS} (hp : PassesOwn (model X.prog X.w) X.A X.env X.xe) (hc : PT X c tc) (hb : PSs X body tb) : PS X (.While c body [] pos) (Zw6 tc tb) := by
  intro pins s σ H D I h
  obtain ⟨W, ⟨m0, w0⟩, turn⟩ := h
  refine wpAny_While (codeAny_whileLoop (fun n s' => ∃ σ' H', Inv X pins σ' H' s' ∧ W n σ' H') ?_ m0 ⟨σ, H, I, w0⟩)
  rintro n s1 ⟨σ1, H1, I1, w1⟩
  refine wpAny_passesOwn hp (thn (hc pins s1 σ1 H1 _ I1 (turn n σ1 H1 w1)) fun b s2 zz14 => ?_)
  obtain ⟨H2, I2, q2⟩ := zz14
  cases b with
  | true =>
    obtain ⟨N, hN, q2⟩ := q2
    rw [if_pos rfl]
    refine wpAny_passesOwn hp (thn (hb pins s2 σ1 H2 _ I2 q2) fun f s3 q3 => ?_)
    cases f with
    | next =>
      obtain ⟨σ3, H3, I3, n3⟩ := q3
      obtain ⟨m', hm, w3⟩ := hN σ3 H3 n3
      exact ⟨m', hm, σ3, H3, I3, w3⟩
    | cont =>
      obtain ⟨σ3, H3, I3, n3⟩ := q3
      obtain ⟨m', hm, w3⟩ := hN σ3 H3 n3
      exact ⟨m', hm, σ3, H3, I3, w3⟩
    | brk => exact q3
    | ret v => exact q3
  | false =>
    rw [if_neg Bool.false_ne_true]
    exact wpAny_execs_nil ⟨σ1, H2, I2, q2⟩
end
structure It where
  go : Nat → Hp → Prop
  yld : Nat → Hp → V → Hp → Prop
  stop : Nat → Hp → Prop
def FpOk (X : Cx) (pins : List (Addr × Obj)) (H : Hp) (b : Addr) : Prop :=
  H b = none ∧ b ≠ X.env.locals ∧ b ∉ X.fs ∧ (b ∈ X.ex ∨ X.s₀.heap.objs.size ≤ b) ∧ (∀ x c, X.env.cells.lookup x = some c → c ≠ b) ∧ ∀ p ∈ X.pn ++ pins, p.1 ≠ b
theorem Inv.fpOk {X : Cx} {pins : List (Addr × Obj)} {σ : St} {H H' : Hp} {s : Shared} {b : Addr} (I : Inv X pins σ H s) (hb : s.heap.objs.size ≤ b) (hn : H' b = none) : FpOk X pins H' b := by
  refine ⟨hn, Nat.ne_of_gt (Nat.lt_of_lt_of_le I.lt hb), I.nofs hb, .inr (Nat.le_trans I.sz hb), fun x c e z => ?_, fun p hp z => ?_⟩
  · obtain ⟨v, q⟩ := I.cell x c e
    exact absurd (Nat.lt_of_lt_of_le q.lt (by rw [z]; exact hb)) (Nat.lt_irrefl _)
  · exact absurd (Nat.lt_of_lt_of_le (Heap.lt_size (I.pin p hp).1) (by rw [z]; exact hb)) (Nat.lt_irrefl _)
structure Turn (P : Program) (w : World) (K : PySem.W.Frag) (tg : Expr) (J : It) (fp : List Addr) (it : Addr) (tn : Nat → Heap → Prop) : Prop where
  mem : it ∈ fp
  obj : ∀ i h, tn i h → ∀ b ∈ fp, ∃ o, h.get? b = some o ∧ ∀ v, o.data ≠ .cell v
  keep : ∀ i h h', tn i h → (∀ b ∈ fp, ∀ o, h.get? b = some o → h'.get? b = some o) → tn i h'
  item : ∀ (X : Cx), X.prog = P → X.w = w → X.K = K → X.calm = true → ∀ (i : Nat) (pins : List (Addr × Obj)) (s : Shared) (σ : St) (H : Hp) (E : Value → Shared → Prop), Inv X pins σ H s → (∀ b ∈ fp, FpOk X pins H b) → tn i s.heap → J.go i H →
    wpAny (model P w) X.A (pyNext (.ref it)) (fun r s1 => ∃ u, r = some u ∧
      wpAny (model P w) X.A (letOwnedTupleGo tg (.ref it) u) (fun _ s2 => ∃ x H', Inv X pins σ H' s2 ∧ RelV x u ∧ J.yld i H x H' ∧ tn (i + 1) s2.heap ∧ ∀ b ∈ fp, H' b = none) E s1) E s
  done : ∀ (X : Cx), X.prog = P → X.w = w → X.K = K → X.calm = true → ∀ (i : Nat) (pins : List (Addr × Obj)) (s : Shared) (σ : St) (H : Hp) (E : Value → Shared → Prop), Inv X pins σ H s → (∀ b ∈ fp, FpOk X pins H b) → tn i s.heap → J.stop i H →
    wpAny (model P w) X.A (pyNext (.ref it)) (fun r s1 => r = none ∧ Inv X pins σ H s1) E s
  self : ∀ (A : Around) (i : Nat) (s : Shared) (Q : Value → Shared → Prop) (E : Value → Shared → Prop), tn i s.heap → Q (.ref it) s → wpAny (model P w) A (pyIter (.ref it)) Q E s
abbrev TI := St → Hp → (It → Hp → Prop) → Prop
def PIE (X : Cx) (pins : List (Addr × Obj)) (σ : St) (tg : Expr) (R : It → Hp → Prop) (itv : Value) (s2 : Shared) : Prop :=
  ∃ (it : Addr) (fp : List Addr) (tn : Nat → Heap → Prop) (J : It) (H' : Hp), itv = .ref it ∧ Inv X pins σ H' s2 ∧ Turn X.prog X.w X.K tg J fp it tn ∧ tn 0 s2.heap ∧ (∀ b ∈ fp, FpOk X pins H' b) ∧ R J H'
def PI (X : Cx) (tg iter : Expr) (wi : TI) : Prop :=
  ∀ (pins : List (Addr × Obj)) (s : Shared) (σ : St) (H : Hp) (R : It → Hp → Prop), Inv X pins σ H s → wi σ H R →
    wpAny (model X.prog X.w) X.A (eval iter X.env) (fun v s1 => wpAny (model X.prog X.w) X.A (pyIter v) (PIE X pins σ tg R) X.xe s1) X.xe s
theorem Z64 {M : Model} {A : Around} {E : Value → Shared → Prop} {s : Shared} {tg : Expr} {it : Addr} {u : Value} {o : Obj} {n : String} {vs : Array Value} {Q : Unit → Shared → Prop} (ho : s.heap.get? it = some o) (hc : o.cls = .type n) (hd : o.data = .fields vs)
    (hn : ["enumerate", "zip", "dict_itemiterator", "dict_reverseitemiterator", "odict_iterator", "itertools.zip_longest", "itertools.pairwise"].contains n = false) (hQ : Q () s) : wpAny M A (letOwnedTupleGo tg (.ref it) u) Q E s := by
  unfold letOwnedTupleGo
  cases tg <;> first
    | exact wpAny_pure hQ
    | (cases u <;> first
        | exact wpAny_pure hQ
        | (refine wpAny_bind (wpAny_load ho ?_)
           rw [hc, hd]
           show wpAny M A (if (["enumerate", "zip", "dict_itemiterator", "dict_reverseitemiterator", "odict_iterator", "itertools.zip_longest", "itertools.pairwise"].contains n && vs[0]? == some (rawInt _)) = true then _ else _) Q E s
           rw [if_neg (by intro h; rw [hn, Bool.false_and] at h; cases h)]
           exact wpAny_pure hQ))
noncomputable def Itl (K : PySem.W.Frag) (a : Addr) : It :=
  ⟨fun i H => ∃ xs x, SqL K H a xs ∧ xs[i]? = some x, fun i H x H' => H' = H ∧ ∀ xs, SqL K H a xs → xs[i]? = some x, fun i H => ∃ xs, SqL K H a xs ∧ xs.length ≤ i⟩
noncomputable def Itt (K : PySem.W.Frag) (a : Addr) : It :=
  ⟨fun i H => ∃ xs x, SqT K H a xs ∧ xs[i]? = some x, fun i H x H' => H' = H ∧ ∀ xs, SqT K H a xs → xs[i]? = some x, fun i H => ∃ xs, SqT K H a xs ∧ xs.length ≤ i⟩
noncomputable def Itr (lo : Int) (n : Nat) : It := ⟨fun i _ => i < n, fun i H x H' => H' = H ∧ x = .int (lo + i), fun i _ => n ≤ i⟩
theorem Z03 {P : Program} {w : World} {K : PySem.W.Frag} {tg : Expr} (a it : Addr) : Turn P w K tg (Itl K a) [it] it (fun i h => h.IsListIter it a i) where
  mem := by simp
  obj := fun i h st b hb => by
    have e : b = it := by simpa using hb
    subst e
    obtain ⟨o, e, c, d⟩ := st
    exact ⟨o, e, fun v z => by rw [d] at z; cases z⟩
  keep := fun i h h' st k => st.at fun o e => k it (by simp) o e
  item := by
    intro X hP hw hK hc i pins s σ H E I hf st hg
    subst hP hw hK
    obtain ⟨xs, x, hq, hx⟩ := hg
    obtain ⟨its, rv, p, hz⟩ := I.list hq
    obtain ⟨u, hu, ru⟩ := rv.get hx
    obtain ⟨f0, f1, f2, f3, f4, f5⟩ := hf it (by simp)
    refine wpAny_pyNext_list_item st p.isList (x := u) (by simpa using hu) fun h' st' sb => ?_
    have I1 : Inv X pins σ H { s with heap := h' } := I.turned (t' := s.toks) (fun b o hb e => (sb.2 b hb).trans e) f0 f1 f3 f4 f5
    obtain ⟨o, e, c, d⟩ := id st'
    exact ⟨u, rfl, Z64 (s := { s with heap := h' }) e c d (by decide) ⟨x, H, I1, ru, ⟨rfl, fun ys hy => by rw [I.list_inj hy hq]; exact hx⟩, st', fun b hb => (hf b hb).1⟩⟩
  done := by
    intro X hP hw hK hc i pins s σ H E I hf st hg
    subst hP hw hK
    obtain ⟨xs, hq, hx⟩ := hg
    obtain ⟨its, rv, p, hz⟩ := I.list hq
    obtain ⟨f0, f1, f2, f3, f4, f5⟩ := hf it (by simp)
    have hl := rv.length
    exact wpAny_pyNext_list_end (I.ok.hd hc) st p.isList (by simp; omega) fun h' eb => ⟨rfl, I.turned (t' := s.toks) (fun b o hb e => eb b o hb e) f0 f1 f3 f4 f5⟩
  self := fun _ _ _ _ _ st h => wpAny_pyIter_listiter st h
theorem E8 {P : Program} {w : World} {K : PySem.W.Frag} {tg : Expr} (a it : Addr) : Turn P w K tg (Itt K a) [it] it (fun i h => h.IsTupleIter it a i) where
  mem := by simp
  obj := fun i h st b hb => by
    have e : b = it := by simpa using hb
    subst e
    obtain ⟨o, e, c, d⟩ := st
    exact ⟨o, e, fun v z => by rw [d] at z; cases z⟩
  keep := fun i h h' st k => st.at fun o e => k it (by simp) o e
  item := by
    intro X hP hw hK hc i pins s σ H E I hf st hg
    subst hP hw hK
    obtain ⟨xs, x, hq, hx⟩ := hg
    obtain ⟨its, rv, p, hz⟩ := I.tuple hq
    obtain ⟨u, hu, ru⟩ := rv.get hx
    obtain ⟨f0, f1, f2, f3, f4, f5⟩ := hf it (by simp)
    refine wpAny_pyNext_tuple_item st (show s.heap.IsTuple a its.toArray from p) (x := u) (by simpa using hu) fun h' st' sb => ?_
    have I1 : Inv X pins σ H { s with heap := h' } := I.turned (t' := s.toks) (fun b o hb e => (sb.2 b hb).trans e) f0 f1 f3 f4 f5
    obtain ⟨o, e, c, d⟩ := id st'
    exact ⟨u, rfl, Z64 (s := { s with heap := h' }) e c d (by decide) ⟨x, H, I1, ru, ⟨rfl, fun ys hy => by rw [I.tuple_inj hy hq]; exact hx⟩, st', fun b hb => (hf b hb).1⟩⟩
  done := by
    intro X hP hw hK hc i pins s σ H E I hf st hg
    subst hP hw hK
    obtain ⟨xs, hq, hx⟩ := hg
    obtain ⟨its, rv, p, hz⟩ := I.tuple hq
    obtain ⟨f0, f1, f2, f3, f4, f5⟩ := hf it (by simp)
    have hl := rv.length
    exact wpAny_pyNext_tuple_end (I.ok.hd hc) st (show s.heap.IsTuple a its.toArray from p) (by simp; omega) fun h' eb => ⟨rfl, I.turned (t' := s.toks) (fun b o hb e => eb b o hb e) f0 f1 f3 f4 f5⟩
  self := fun _ _ _ _ _ st h => wpAny_pyIter_tupleiter st h
theorem Fq {P : Program} {w : World} {K : PySem.W.Frag} {tg : Expr} (it : Addr) (lo : Int) (n : Nat) : Turn P w K tg (Itr lo n) [it] it (fun i h => IsRangeIter h it (lo + (i : Nat) * 1) ((n : Int) - (i : Nat)) 1) where
  mem := by simp
  obj := fun i h st b hb => by
    have e : b = it := by simpa using hb
    subst e
    exact ⟨_, st, fun v z => by
      have z' : Data.fields _ = Data.cell v := z
      cases z'⟩
  keep := fun i h h' st k => k it (by simp) _ st
  item := by
    intro X hP hw hK hc i pins s σ H E I hf st hg
    subst hP hw hK
    obtain ⟨f0, f1, f2, f3, f4, f5⟩ := hf it (by simp)
    have W := Walks.range (prog := X.prog) (w := X.w) (I.ok.hd hc) it lo 1 n
    refine W.item i s _ _ hg st fun v h' tk hv st' kk => ?_
    obtain ⟨t, rfl⟩ := hv
    have I1 : Inv X pins σ H { s with heap := h', toks := tk } := I.turned (fun b o hb e => kk b o (by simpa using hb) e) f0 f1 f3 f4 f5
    refine ⟨_, rfl, Z64 (s := { s with heap := h', toks := tk }) (n := "range_iterator") st' rfl rfl (by decide) ⟨.int (lo + i), H, I1, ⟨t, ?_⟩, ⟨rfl, rfl⟩, st', fun b hb => (hf b hb).1⟩⟩
    rw [Int.mul_one]
  done := by
    intro X hP hw hK hc i pins s σ H E I hf st hg
    subst hP hw hK
    obtain ⟨f0, f1, f2, f3, f4, f5⟩ := hf it (by simp)
    exact wpAny_pyNext_range_end (I.ok.hd hc) st (by have : n ≤ i := hg; omega) fun h' eb => ⟨rfl, I.turned (t' := s.toks) (fun b o hb e => eb b o hb e) f0 f1 f3 f4 f5⟩
  self := fun _ _ _ _ _ st h => wpAny_pyIter_rangeiter st h
section
variable {X : Cx} {tg : Expr}
theorem G5 {pins : List (Addr × Obj)} {σ : St} {H : Hp} {s : Shared} {R : It → Hp → Prop} {E : Value → Shared → Prop} {lo hi : Int} {t u v : Tok} {tk : Nat} (I : Inv X pins σ H s) (h1 : -(2 ^ 62) ≤ lo) (h2 : lo < 2 ^ 62) (h3 : -(2 ^ 62) ≤ hi) (h4 : hi < 2 ^ 62)
    (q : R (Itr lo (hi - lo).toNat) H) : wpAny (model X.prog X.w) X.A (pyIter (.ref s.heap.objs.size)) (PIE X pins σ tg R) E { s with heap := s.heap.push { cls := .type "range", data := .fields #[.int lo t, .int hi u, .int 1 v] }, toks := tk } := by
  refine wpAny_pyIter_range (IsRange.new ..) (small_one h1 h2 h3 h4) ?_
  have I1 : Inv X pins σ H { s with heap := s.heap.push { cls := .type "range", data := .fields #[.int lo t, .int hi u, .int 1 v] }, toks := tk } := I.kept fun b o e => Heap.get?_push_of_some _ e
  refine ⟨(s.heap.push { cls := .type "range", data := .fields #[.int lo t, .int hi u, .int 1 v] }).objs.size, [(s.heap.push { cls := .type "range", data := .fields #[.int lo t, .int hi u, .int 1 v] }).objs.size], _, _, H, rfl,
    I1.kept (t' := tk) fun b o e => Heap.get?_push_of_some _ e, Fq _ lo (hi - lo).toNat, ?_, fun b hb => ?_, q⟩
  · have e1 : lo + ((0 : Nat) : Int) * 1 = lo := by simp
    have e2 : (((hi - lo).toNat : Nat) : Int) - ((0 : Nat) : Int) = Builtin.Range.rangeSize lo hi 1 := by rw [rangeSize_one]; split <;> omega
    show IsRangeIter _ _ (lo + ((0 : Nat) : Int) * 1) ((((hi - lo).toNat : Nat) : Int) - ((0 : Nat) : Int)) 1
    rw [e1, e2]
    exact Heap.get?_push_size _ rfl
  · have e : b = (s.heap.push { cls := .type "range", data := .fields #[.int lo t, .int hi u, .int 1 v] }).objs.size := by simpa using hb
    subst e
    exact I1.fpOk (Nat.le_refl _) (I1.hok.fresh (Nat.le_refl _))
def Zy7 (ta : TA) : TI := fun σ H R => ta σ H fun vs H1 => ∃ j : Int, vs = [.int j] ∧ -(2 ^ 62) ≤ j ∧ j < 2 ^ 62 ∧ R (Itr 0 j.toNat) H1
def Y10 (ta : TA) : TI := fun σ H R => ta σ H fun vs H1 => ∃ i j : Int, vs = [.int i, .int j] ∧ (-(2 ^ 62) ≤ i ∧ i < 2 ^ 62 ∧ -(2 ^ 62) ≤ j ∧ j < 2 ^ 62) ∧ R (Itr i (j - i).toNat) H1
theorem Z16 {a : Expr} {ta : TA} {p pos : Pos} (hg : Gl X "range") (hm : X.mg "range" = none) (ha : PA X [a] ta) (hs : starEach [a] X.env = [(false, eval a X.env)] := by rfl) : PI X tg (.Call (.Name "range" p) [a] [] pos) (Zy7 ta) := by
  intro pins s σ H R I h
  refine Call_ (Q7 I hg hm boot_range (PyProof.Rows.callWith_type1 (thn (ha pos pins s σ H _ I h) fun us s1 zz15 => ?_) hs rfl))
  obtain ⟨vs, H1, I1, r1, q1⟩ := zz15
  obtain ⟨j, e, q1, q2, q⟩ := q1
  subst e
  cases r1 with
  | cons r rr =>
    cases rr
    obtain ⟨t, rfl⟩ := r
    exact call_range_1 (G5 I1 (by omega) (by omega) q1 q2 (by simpa using q))
theorem Z30 {a b : Expr} {ta : TA} {p pos : Pos} (hg : Gl X "range") (hm : X.mg "range" = none) (ha : PA X [a, b] ta) (hs : starEach [a, b] X.env = [(false, eval a X.env), (false, eval b X.env)] := by rfl) (hs2 : starEach [b] X.env = [(false, eval b X.env)] := by rfl) :
    PI X tg (.Call (.Name "range" p) [a, b] [] pos) (Y10 ta) := by
  intro pins s σ H R I h
  refine Call_ (Q7 I hg hm boot_range (PyProof.Rows.callWith_type1 (thn (ha pos pins s σ H _ I h) fun us s1 zz16 => ?_) (by rw [hs, hs2]) (by rw [hs2]; rfl)))
  obtain ⟨vs, H1, I1, r1, q1⟩ := zz16
  obtain ⟨i, j, e, ⟨q1, q2, q3, q4⟩, q⟩ := q1
  subst e
  cases r1 with
  | cons r rr =>
    cases rr with
    | cons r' rr =>
      cases rr
      obtain ⟨t, rfl⟩ := r
      obtain ⟨t', rfl⟩ := r'
      exact call_range_2 (G5 I1 q1 q2 q3 q4 q)
def tFor (wi : TI) (g : TG) (tb : TS) : TS := fun D σ H => wi σ H fun J H1 => ∃ W : Nat → Nat → St → Hp → Prop, (∃ m, W 0 m σ H1) ∧ ∀ i m σ H, W i m σ H →
  (J.stop i H ∧ D.nx σ H) ∨ (J.go i H ∧ ∃ N : St → Hp → Prop, (∀ σ' H', N σ' H' → ∃ m', m' < m ∧ W (i + 1) m' σ' H') ∧ ∀ x H', J.yld i H x H' → g x σ H' fun σ2 H2 => tb { D with nx := N, ct := N, bk := D.nx } σ2 H2)
noncomputable def Gh (fp : List Addr) (h : Heap) : List (Addr × Obj) := fp.filterMap fun b => (h.get? b).map fun o => (b, o)
theorem Yy {fp : List Addr} {h : Heap} {b : Addr} {o : Obj} (hb : b ∈ fp) (e : h.get? b = some o) : (b, o) ∈ Gh fp h := List.mem_filterMap.mpr ⟨b, hb, by rw [e]; rfl⟩
theorem Em {fp : List Addr} {h : Heap} {p : Addr × Obj} (hp : p ∈ Gh fp h) : p.1 ∈ fp ∧ h.get? p.1 = some p.2 := by
  obtain ⟨b, hb, e⟩ := List.mem_filterMap.mp hp
  cases q : h.get? b with
  | none => rw [q] at e; cases e
  | some o =>
    rw [q] at e
    have e' : (b, o) = p := Option.some.inj e
    subst e'
    exact ⟨hb, q⟩
theorem Inv.pinned {pins : List (Addr × Obj)} {σ : St} {H : Hp} {s : Shared} {fp : List Addr} (I : Inv X pins σ H s) (hf : ∀ b ∈ fp, FpOk X pins H b) (ho : ∀ b ∈ fp, ∃ o, s.heap.get? b = some o ∧ ∀ v, o.data ≠ .cell v) : Inv X (pins ++ Gh fp s.heap) σ H s :=
  I.pins_of fun p hp => (List.mem_append.mp hp).elim (fun z => I.pin p (List.mem_append_right _ z)) fun z => by
    obtain ⟨hb, e⟩ := Em z
    obtain ⟨f0, f1, f2, _⟩ := hf p.1 hb
    obtain ⟨o, e', d⟩ := ho p.1 hb
    rw [e] at e'; cases e'
    exact ⟨e, f0, f1, f2, d⟩
theorem Inv.unpinned {pins pl : List (Addr × Obj)} {σ : St} {H : Hp} {s : Shared} (I : Inv X (pins ++ pl) σ H s) : Inv X pins σ H s := I.pins_of fun p hp => I.pin p (List.mem_append_right _ (List.mem_append_left _ hp))
theorem Zf3 {iter : Expr} {body : List Stmt} {wi : TI} {g : TG} {tb : TS} {pos : Pos} (hp : PassesOwn (model X.prog X.w) X.A X.env X.xe) (hc : X.calm = true) (hi : PI X tg iter wi) (hg : PG X tg g) (hb : PSs X body tb)
    (hs : ∀ x, foldedSetIterable iter X.env x = pure x := by intro _; rfl) : PS X (.For tg iter body [] pos) (tFor wi g tb) := by
  intro pins s σ H D I h
  refine wpAny_For (thn (hi pins s σ H _ I h) fun v s1 h1 => thn h1 fun itv s2 h2 => ?_) hs
  obtain ⟨it, fp, tn, J, H2, e, I2, T, st2, f2, W, ⟨m0, w0⟩, turn⟩ := h2
  subst e
  have stat : ∀ {H' : Hp}, (∀ b ∈ fp, H' b = none) → ∀ b ∈ fp, FpOk X pins H' b := fun hn b hb => ⟨hn b hb, (f2 b hb).2⟩
  refine codeAny_forLoop_any (fun n s' => ∃ i σ' H', Inv X pins σ' H' s' ∧ tn i s'.heap ∧ (∀ b ∈ fp, H' b = none) ∧ W i n σ' H') ?_ m0 ⟨0, σ, H2, I2, st2, fun b hb => (f2 b hb).1, w0⟩
  rintro n s3 ⟨i, σ3, H3, I3, st3, fr3, w3⟩
  rcases turn i n σ3 H3 w3 with ⟨stop, qn⟩ | ⟨go, N, hN, step⟩
  · refine wpAny_passesOwn hp (thn (T.done X rfl rfl rfl hc i pins s3 σ3 H3 X.xe I3 (stat fr3) st3 stop) fun r s4 zz17 => ?_)
    obtain ⟨hr, I4⟩ := zz17
    subst hr
    exact wpAny_execs_nil ⟨σ3, H3, I4, qn⟩
  · refine wpAny_passesOwn hp (thn (T.item X rfl rfl rfl hc i pins s3 σ3 H3 X.xe I3 (stat fr3) st3 go) fun r s4 zz18 => ?_)
    obtain ⟨u, hr, h4⟩ := zz18
    subst hr
    refine wpAny_passesOwn hp (thn h4 fun _ s5 zz19 => ?_)
    obtain ⟨x, H5, I5, r5, y5, st5, fr5⟩ := zz19
    have I5' := I5.pinned (stat fr5) (T.obj _ _ st5)
    refine wpAny_passesOwn hp (thn (hg _ s5 σ3 H5 x u _ I5' r5 (step x H5 y5)) fun _ s6 zz20 => ?_)
    obtain ⟨σ6, H6, I6, q6⟩ := zz20
    refine wpAny_passesOwn hp (thn (hb _ s6 σ6 H6 _ I6 q6) fun f s7 q7 => ?_)
    have again : ∀ {σ7 : St} {H7 : Hp}, Inv X (pins ++ Gh fp s5.heap) σ7 H7 s7 → N σ7 H7 → ∃ m, m < n ∧ ∃ i σ' H', Inv X pins σ' H' s7 ∧ tn i s7.heap ∧ (∀ b ∈ fp, H' b = none) ∧ W i m σ' H' := fun {σ7 H7} I7 n7 => by
      obtain ⟨m', hm, w7⟩ := hN σ7 H7 n7
      refine ⟨m', hm, i + 1, σ7, H7, I7.unpinned, T.keep _ _ _ st5 fun b hb o e => (I7.pin (b, o) (List.mem_append_right _ (List.mem_append_right _ (Yy hb e)))).1, fun b hb => ?_, w7⟩
      obtain ⟨o, e, d⟩ := T.obj _ _ st5 b hb
      exact (I7.pin (b, o) (List.mem_append_right _ (List.mem_append_right _ (Yy hb e)))).2.1
    cases f with
    | next => obtain ⟨σ7, H7, I7, n7⟩ := q7; exact again I7 n7
    | cont => obtain ⟨σ7, H7, I7, n7⟩ := q7; exact again I7 n7
    | brk => obtain ⟨σ7, H7, I7, q7⟩ := q7; exact ⟨σ7, H7, I7.unpinned, q7⟩
    | ret v => obtain ⟨x7, σ7, H7, I7, r7, q7⟩ := q7; exact ⟨x7, σ7, H7, I7.unpinned, r7, q7⟩
end
abbrev R2 := V → V → Hp → VK → Prop
def OpR (X : Cx) (f : Value → Value → Sem Value) (r : R2) : Prop :=
  ∀ (pins : List (Addr × Obj)) (s : Shared) (σ : St) (H : Hp) (x y : V) (v u : Value) (Q : VK), Inv X pins σ H s → RelV x v → RelV y u → r x y H Q →
    wpAny (model X.prog X.w) X.A (f v u) (EP X pins σ Q) X.xe s
def UnR (X : Cx) (f : Value → Sem Value) (r : V → Hp → VK → Prop) : Prop :=
  ∀ (pins : List (Addr × Obj)) (s : Shared) (σ : St) (H : Hp) (x : V) (v : Value) (Q : VK), Inv X pins σ H s → RelV x v → r x H Q →
    wpAny (model X.prog X.w) X.A (f v) (EP X pins σ Q) X.xe s
def Vs (X : Cx) (f : Value) (r : List V → Hp → VK → Prop) : Prop :=
  ∀ (pins : List (Addr × Obj)) (s : Shared) (σ : St) (H : Hp) (xs : List V) (us : List Value) (Q : VK), Inv X pins σ H s → Vals xs us → r xs H Q →
    wpAny (model X.prog X.w) X.A (call f us) (EP X pins σ Q) X.xe s
def TruR (X : Cx) (r : V → Hp → (Bool → Hp → Prop) → Prop) : Prop :=
  ∀ (pins : List (Addr × Obj)) (s : Shared) (σ : St) (H : Hp) (x : V) (v : Value) (Q : Bool → Hp → Prop), Inv X pins σ H s → RelV x v → r x H Q →
    wpAny (model X.prog X.w) X.A (truthy v) (TP X pins σ Q) X.xe s
def tOp (r : R2) (ta tb : TE) : TE := fun σ H Q => ta σ H fun x H1 => tb σ H1 fun y H2 => r x y H2 Q
def tUn (r : V → Hp → VK → Prop) (ta : TE) : TE := fun σ H Q => ta σ H fun x H1 => r x H1 Q
def rI (C : Int → Int → Prop) (g : Int → Int → V) : R2 := fun x y H Q => ∃ i j, x = .int i ∧ y = .int j ∧ C i j ∧ Q (g i j) H
def rI0 (g : Int → Int → V) : R2 := fun x y H Q => ∃ i j, x = .int i ∧ y = .int j ∧ Q (g i j) H
def rU (g : Int → V) : V → Hp → VK → Prop := fun x H Q => ∃ i, x = .int i ∧ Q (g i) H
section
variable {X : Cx} {a b c : Expr} {ta tb tc : TE} {pos : Pos}
theorem binT (ha : PE X a ta) (hb : PE X b tb) {pins : List (Addr × Obj)} {s : Shared} {σ : St} {H : Hp} {R : V → V → Hp → Prop} (I : Inv X pins σ H s)
    (h : ta σ H fun x H1 => tb σ H1 fun y H2 => R x y H2) {Q : Value → Shared → Prop} {f : Value → Value → Sem Value}
    (hf : ∀ v u s2 x y H2, Inv X pins σ H2 s2 → RelV x v → RelV y u → R x y H2 → wpAny (model X.prog X.w) X.A (f v u) Q X.xe s2) :
    wpAny (model X.prog X.w) X.A (eval a X.env) (fun v s₁ => wpAny (model X.prog X.w) X.A (eval b X.env) (fun u s₂ => wpAny (model X.prog X.w) X.A (f v u) Q X.xe s₂) X.xe s₁) X.xe s := by
  refine thn (ha pins s σ H _ I h) fun v s1 zz21 => ?_
  obtain ⟨x, H1, I1, r1, q1⟩ := zz21
  refine thn (hb pins s1 σ H1 _ I1 q1) fun u s2 zz22 => ?_
  obtain ⟨y, H2, I2, r2, q2⟩ := zz22
  exact hf v u s2 x y H2 I2 r1 r2 q2
theorem Zz3 {op : Operator} {r : R2} (ho : OpR X (binaryOp op) r) (ha : PE X a ta) (hb : PE X b tb) : PE X (.BinOp a op b pos) (tOp r ta tb) := by
  intro pins s σ H Q I h
  exact wpAny_BinOp (binT ha hb I h fun v u s2 x y H2 I2 rx ry q => ho pins s2 σ H2 x y v u Q I2 rx ry q)
theorem Zr2 {op : UnaryOp} {r : V → Hp → VK → Prop} (ho : UnR X (unaryOp op) r) (ha : PE X a ta) : PE X (.UnaryOp op a pos) (tUn r ta) := by
  intro pins s σ H Q I h
  exact UnaryOp_ (thn (ha pins s σ H _ I h) fun v s1 zz23 => by obtain ⟨x, H1, I1, r1, q1⟩ := zz23; exact ho pins s1 σ H1 x v Q I1 r1 q1)
theorem opI {f : Value → Value → Sem Value} {C : Int → Int → Prop} {g : Int → Int → Int}
    (rule : ∀ (i j : Int) (t u : Tok) (s : Shared) (Q : Value → Shared → Prop) (E : Value → Shared → Prop), C i j → Q (.int (g i j) s.toks) { s with toks := s.toks + 1 } → wpAny (model X.prog X.w) X.A (f (.int i t) (.int j u)) Q E s) :
    OpR X f (rI C fun i j => .int (g i j)) := by
  intro pins s σ H x y v u Q I rx ry h
  obtain ⟨i, j, rfl, rfl, hc, q⟩ := h
  obtain ⟨t, rfl⟩ := rx
  obtain ⟨t', rfl⟩ := ry
  exact rule i j t t' s _ _ hc ⟨.int (g i j), H, I.tok _, ⟨_, rfl⟩, q⟩
theorem opI0 {f : Value → Value → Sem Value} {g : Int → Int → Int}
    (rule : ∀ (i j : Int) (t u : Tok) (s : Shared) (Q : Value → Shared → Prop) (E : Value → Shared → Prop), Q (.int (g i j) s.toks) { s with toks := s.toks + 1 } → wpAny (model X.prog X.w) X.A (f (.int i t) (.int j u)) Q E s) :
    OpR X f (rI0 fun i j => .int (g i j)) := by
  intro pins s σ H x y v u Q I rx ry h
  obtain ⟨i, j, rfl, rfl, q⟩ := h
  obtain ⟨t, rfl⟩ := rx
  obtain ⟨t', rfl⟩ := ry
  exact rule i j t t' s _ _ ⟨.int (g i j), H, I.tok _, ⟨_, rfl⟩, q⟩
theorem opB0 {f : Value → Value → Sem Value} {g : Int → Int → Bool}
    (rule : ∀ (i j : Int) (t u : Tok) (s : Shared) (Q : Value → Shared → Prop) (E : Value → Shared → Prop), Q (.bool (g i j)) s → wpAny (model X.prog X.w) X.A (f (.int i t) (.int j u)) Q E s) :
    OpR X f (rI0 fun i j => .bl (g i j)) := by
  intro pins s σ H x y v u Q I rx ry h
  obtain ⟨i, j, rfl, rfl, q⟩ := h
  obtain ⟨t, rfl⟩ := rx
  obtain ⟨t', rfl⟩ := ry
  exact rule i j t t' s _ _ ⟨.bl (g i j), H, I, rfl, q⟩
def CPow (i j : Int) : Prop := 0 ≤ j ∧ j ≤ 1000000 ∧ i.natAbs < 2 ^ 64
def CMul (i j : Int) : Prop := (-(2 ^ 64) < i ∧ i < 2 ^ 64) ∨ (-(2 ^ 64) < j ∧ j < 2 ^ 64)
theorem CMul.ok {i j : Int} (h : CMul i j) : IntMulOk i j := by
  rcases h with ⟨h1, h2⟩ | ⟨h1, h2⟩
  · exact .of_left (intBits_le_64 h1 h2)
  · exact .of_right (intBits_le_64 h1 h2)
theorem Zu2 : OpR X (binaryOp .Add) (rI0 fun i j => .int (i + j)) := opI0 fun _ _ _ _ _ _ _ q => add_int q
theorem Zt3 : OpR X (binaryOp .Sub) (rI0 fun i j => .int (i - j)) := opI0 fun _ _ _ _ _ _ _ q => sub_int q
theorem Zi8 : OpR X (binaryOp .Mod) (rI (fun _ j => j ≠ 0) fun i j => .int (i.fmod j)) := opI fun _ _ _ _ _ _ _ hc q => mod_int' hc q
theorem Zu4 : OpR X (binaryOp .Pow) (rI CPow fun i j => .int (i ^ j.toNat)) := opI fun _ _ _ _ _ _ _ hc q => pow_int_small hc.1 hc.2.1 hc.2.2 q
theorem unI {f : Value → Sem Value} {g : Int → Int}
    (rule : ∀ (i : Int) (t : Tok) (s : Shared) (Q : Value → Shared → Prop) (E : Value → Shared → Prop), Q (.int (g i) s.toks) { s with toks := s.toks + 1 } → wpAny (model X.prog X.w) X.A (f (.int i t)) Q E s) :
    UnR X f (rU fun i => .int (g i)) := by
  intro pins s σ H x v Q I rx h
  obtain ⟨i, rfl, q⟩ := h
  obtain ⟨t, rfl⟩ := rx
  exact rule i t s _ _ ⟨.int (g i), H, I.tok _, ⟨_, rfl⟩, q⟩
theorem Zf5 : UnR X (unaryOp .USub) (rU fun i => .int (-i)) := unI fun _ _ _ _ _ q => neg_int q
end
noncomputable def scal : V → V → Bool
  | .non, .non => true | .non, .int _ => true | .int _, .non => true | .non, .bl _ => true | .bl _, .non => true | .non, .str _ => true | .str _, .non => true
  | .int _, .int _ => true | .bl _, .bl _ => true | .str _, .str _ => true | .byt _, .byt _ => true
  | .int _, .str _ => true | .str _, .int _ => true | .bl _, .str _ => true | .str _, .bl _ => true
  | _, _ => false
def rEq : R2 := fun x y H Q => scal x y = true ∧ Q (.bl (decide (x = y))) H
def rNe : R2 := fun x y H Q => scal x y = true ∧ Q (.bl (!decide (x = y))) H
theorem Z35 {i j : Int} : decide (V.int i = V.int j) = (i == j) := by
  rw [Bool.eq_iff_iff]
  simp
theorem Zd2 {i j : Bool} : decide (V.bl i = V.bl j) = (i == j) := by
  rw [Bool.eq_iff_iff]
  simp
theorem Cg {i j : Str} : decide (V.str i = V.str j) = (i == j) := by
  rw [Bool.eq_iff_iff]
  simp
theorem B7 {i j : Array UInt8} : decide (V.byt i = V.byt j) = (i.toList == j.toList) := by
  rw [Bool.eq_iff_iff]
  cases i
  cases j
  simp
section
variable {X : Cx} {a b c : Expr} {ta tb tc : TE} {pos : Pos}
theorem Zu {pins : List (Addr × Obj)} {σ : St} {H : Hp} {s : Shared} {Q : VK} {k k' : Bool} (I : Inv X pins σ H s) (q : Q (.bl k) H) (e : k = k') : EP X pins σ Q (.bool k') s := by
  subst e
  exact ⟨.bl k, H, I, rfl, q⟩
theorem Y04 : OpR X (compareOp .Eq) rEq := by
  intro pins s σ H x y v u Q I rx ry h
  obtain ⟨hs, q⟩ := h
  cases x with
  | non =>
    cases rx
    cases y with
    | non => cases ry; exact PySem.EqNone.eq_none_none (Zu I q (by simp))
    | bl j => cases ry; exact PySem.EqNone.eq_none_bool (Zu I q (by simp))
    | int j => obtain ⟨t', rfl⟩ := ry; exact PySem.EqNone.eq_none_int (Zu I q (by simp))
    | str j => obtain ⟨t', rfl⟩ := ry; exact PySem.EqNone.eq_none_str (Zu I q (by simp))
    | _ => exact absurd (show false = true from hs) Bool.false_ne_true
  | bl i =>
    cases rx
    cases y with
    | non => cases ry; exact PySem.EqNone.eq_bool_none (Zu I q (by simp))
    | bl j => cases ry; exact eq_bool (Zu I q Zd2)
    | str j => obtain ⟨t', rfl⟩ := ry; exact PySem.EqMixed.eq_bool_str (Zu I q (by simp))
    | _ => exact absurd (show false = true from hs) Bool.false_ne_true
  | int i =>
    obtain ⟨t, rfl⟩ := rx
    cases y with
    | non => cases ry; exact PySem.EqNone.eq_int_none (Zu I q (by simp))
    | int j => obtain ⟨t', rfl⟩ := ry; exact eq_int (Zu I q Z35)
    | str j => obtain ⟨t', rfl⟩ := ry; exact PySem.EqMixed.eq_int_str (Zu I q (by simp))
    | _ => exact absurd (show false = true from hs) Bool.false_ne_true
  | str i =>
    obtain ⟨t, rfl⟩ := rx
    cases y with
    | non => cases ry; exact PySem.EqNone.eq_str_none (Zu I q (by simp))
    | bl j => cases ry; exact PySem.EqMixed.eq_str_bool (Zu I q (by simp))
    | int j => obtain ⟨t', rfl⟩ := ry; exact PySem.EqMixed.eq_str_int (Zu I q (by simp))
    | str j => obtain ⟨t', rfl⟩ := ry; exact eq_str (Zu I q Cg)
    | _ => exact absurd (show false = true from hs) Bool.false_ne_true
  | byt i =>
    obtain ⟨t, rfl⟩ := rx
    cases y with
    | byt j => obtain ⟨t', rfl⟩ := ry; exact PySem.W.eq_bytes (Zu I q B7)
    | _ => exact absurd (show false = true from hs) Bool.false_ne_true
  | _ => cases y <;> exact absurd (show false = true from hs) Bool.false_ne_true
theorem Y14 : OpR X (compareOp .NotEq) rNe := by
  intro pins s σ H x y v u Q I rx ry h
  obtain ⟨hs, q⟩ := h
  cases x with
  | non =>
    cases rx
    cases y with
    | non => cases ry; exact PySem.EqNone.ne_none_none (Zu I q (by simp))
    | bl j => cases ry; exact PySem.EqNone.ne_none_bool (Zu I q (by simp))
    | int j => obtain ⟨t', rfl⟩ := ry; exact PySem.EqNone.ne_none_int (Zu I q (by simp))
    | str j => obtain ⟨t', rfl⟩ := ry; exact PySem.EqNone.ne_none_str (Zu I q (by simp))
    | _ => exact absurd (show false = true from hs) Bool.false_ne_true
  | bl i =>
    cases rx
    cases y with
    | non => cases ry; exact PySem.EqNone.ne_bool_none (Zu I q (by simp))
    | bl j => cases ry; exact ne_bool (Zu I q (congrArg not Zd2))
    | str j => obtain ⟨t', rfl⟩ := ry; exact PySem.EqMixed.ne_bool_str (Zu I q (by simp))
    | _ => exact absurd (show false = true from hs) Bool.false_ne_true
  | int i =>
    obtain ⟨t, rfl⟩ := rx
    cases y with
    | non => cases ry; exact PySem.EqNone.ne_int_none (Zu I q (by simp))
    | int j => obtain ⟨t', rfl⟩ := ry; exact ne_int (Zu I q (congrArg not Z35))
    | str j => obtain ⟨t', rfl⟩ := ry; exact PySem.EqMixed.ne_int_str (Zu I q (by simp))
    | _ => exact absurd (show false = true from hs) Bool.false_ne_true
  | str i =>
    obtain ⟨t, rfl⟩ := rx
    cases y with
    | non => cases ry; exact PySem.EqNone.ne_str_none (Zu I q (by simp))
    | bl j => cases ry; exact PySem.EqMixed.ne_str_bool (Zu I q (by simp))
    | int j => obtain ⟨t', rfl⟩ := ry; exact PySem.EqMixed.ne_str_int (Zu I q (by simp))
    | str j => obtain ⟨t', rfl⟩ := ry; exact ne_str (Zu I q (congrArg not Cg))
    | _ => exact absurd (show false = true from hs) Bool.false_ne_true
  | byt i =>
    obtain ⟨t, rfl⟩ := rx
    cases y with
    | byt j => obtain ⟨t', rfl⟩ := ry; exact PySem.W.ne_bytes (Zu I q (congrArg not B7))
    | _ => exact absurd (show false = true from hs) Bool.false_ne_true
  | _ => cases y <;> exact absurd (show false = true from hs) Bool.false_ne_true
theorem Y05 : OpR X (compareOp .Lt) (rI0 fun i j => .bl (decide (i < j))) := opB0 fun _ _ _ _ _ _ _ q => lt_int q
theorem Y01 : OpR X (compareOp .Gt) (rI0 fun i j => .bl (decide (j < i))) := opB0 fun _ _ _ _ _ _ _ q => gt_int q
theorem En : OpR X (compareOp .In) (fun x y H Q => ∃ i j, x = .str i ∧ y = .str j ∧ Q (.bl (!(Builtin.Str.occurrences j i 0 j.length 1).isEmpty)) H) := by
  intro pins s σ H x y v u Q I rx ry h
  obtain ⟨i, j, rfl, rfl, q⟩ := h
  obtain ⟨t, rfl⟩ := rx
  obtain ⟨t', rfl⟩ := ry
  exact in_str (Zu I q rfl)
theorem Rz : OpR X (compareOp .Is) (fun x y H Q => y = .non ∧ Q (.bl (decide (x = .non))) H) := by
  intro pins s σ H x y v u Q I rx ry h
  obtain ⟨rfl, q⟩ := h
  cases ry
  refine is_none_gen (Zu I q ?_)
  cases x <;> first
    | (cases rx; rfl)
    | (obtain ⟨t, rfl⟩ := rx; rfl)
theorem N7 : OpR X (compareOp .NotIn) (fun x y H Q => ∃ i j, x = .str i ∧ y = .str j ∧ Q (.bl (!(!(Builtin.Str.occurrences j i 0 j.length 1).isEmpty))) H) := by
  intro pins s σ H x y v u Q I rx ry h
  obtain ⟨i, j, rfl, rfl, q⟩ := h
  obtain ⟨t, rfl⟩ := rx
  obtain ⟨t', rfl⟩ := ry
  exact notIn_str (Zu I q rfl)
theorem Zj9 {op : CmpOp} {r : R2} (ho : OpR X (compareOp op) r) (ha : PE X a ta) (hb : PE X b tb) (hm : behindInMarks op b = false) : PE X (.Compare a [op] [b] pos) (tOp r ta tb) := by
  intro pins s σ H Q I h
  exact wpAny_Compare1 (binT ha hb I h fun v u s2 x y H2 I2 rx ry q => ho pins s2 σ H2 x y v u Q I2 rx ry q) hm
def Zy0 (t : TE) : TT := fun σ H Q => t σ H fun x H' => ∃ k, x = .bl k ∧ Q k H'
theorem Zn4 {op : CmpOp} {r : R2} (ho : OpR X (compareOp op) r) (ha : PE X a ta) (hb : PE X b tb) (hm : behindInMarks op b = false) : PT X (.Compare a [op] [b] pos) (Zy0 (tOp r ta tb)) := by
  intro pins s σ H Q I h
  refine wpAny_isTrue_Compare1 (thn (ha pins s σ H _ I h) fun v s1 ⟨x, H1, I1, r1, q1⟩ => thn (hb pins s1 σ H1 _ I1 q1) fun u s2 ⟨y, H2, I2, r2, q2⟩ =>
    thn (ho pins s2 σ H2 x y v u _ I2 r1 r2 q2) fun c s3 ⟨z, H3, I3, r3, k, e, q3⟩ => ?_) hm
  subst e
  cases r3
  exact wpAny_truthy_bool ⟨H3, I3, q3⟩
def TruV (K : PySem.W.Frag) (x : V) (H : Hp) (k : Bool) : Prop :=
  match x with
  | .non => k = false
  | .bl b => k = b
  | .int i => k = (i != 0)
  | .str y => y.length ≤ sizeLine ∧ k = ((y.length : Int) != 0)
  | .byt y => y.size ≤ sizeLine ∧ k = ((y.size : Int) != 0)
  | .ref p => (∃ xs, SqL K H p xs ∧ k = !xs.isEmpty) ∨ (∃ xs, SqT K H p xs ∧ k = !xs.isEmpty) ∨ ∃ kvs, H p = some (.dK kvs) ∧ k = !kvs.isEmpty
  | _ => False
theorem Fs {κ : Type} {kvs : List (κ × V)} {vs : List (κ × Value)} (r : KV kvs vs) : (!vs.isEmpty) = !kvs.isEmpty := by
  cases r <;> rfl
theorem Qj {xs : List V} {its : List Value} (r : Vals xs its) : (!its.toArray.isEmpty) = !xs.isEmpty := by
  cases r <;> simp
theorem S0 : (sizeLine : Nat) < 2 ^ 63 := by rw [sizeLine_eq]; decide
theorem Jv : TruR X (fun x H Q => ∃ k, TruV X.K x H k ∧ Q k H) := by
  intro pins s σ H x v Q I rx h
  obtain ⟨k, e, q⟩ := h
  have hl := S0
  have hs : sizeLine = 16777216 := sizeLine_eq
  cases x with
  | non =>
    cases rx
    have e' : k = false := e
    subst e'
    exact truthy_none ⟨H, I, q⟩
  | bl b =>
    cases rx
    have e' : k = b := e
    subst e'
    exact wpAny_truthy_bool ⟨H, I, q⟩
  | int i =>
    obtain ⟨t, rfl⟩ := rx
    have e' : k = (i != 0) := e
    subst e'
    exact PySem.P.truthy_int ⟨H, I, q⟩
  | str y =>
    obtain ⟨t, rfl⟩ := rx
    obtain ⟨hy, e'⟩ : y.length ≤ sizeLine ∧ k = ((y.length : Int) != 0) := e
    subst e'
    exact PySem.P.truthy_str (by omega) ⟨H, I.tok _, q⟩
  | byt y =>
    obtain ⟨t, rfl⟩ := rx
    obtain ⟨hy, e'⟩ : y.size ≤ sizeLine ∧ k = ((y.size : Int) != 0) := e
    subst e'
    exact PySem.W.truthy_bytes (by omega) ⟨H, I.tok _, q⟩
  | ref p =>
    cases rx
    have e' : (∃ xs, SqL X.K H p xs ∧ k = !xs.isEmpty) ∨ (∃ xs, SqT X.K H p xs ∧ k = !xs.isEmpty) ∨ ∃ kvs, H p = some (.dK kvs) ∧ k = !kvs.isEmpty := e
    rcases e' with ⟨xs, hx, e'⟩ | ⟨xs, hx, e'⟩ | ⟨kvs, hx, e'⟩
    · subst e'
      obtain ⟨its, r, pl, hz⟩ := I.list hx
      have hlen := r.length
      exact wpAny_truthy_list pl.isList (by simp only [List.size_toArray]; omega) ⟨H, I.tok _, by rw [Qj r]; exact q⟩
    · subst e'
      obtain ⟨its, r, pl, hz⟩ := I.tuple hx
      have hlen := r.length
      exact truthy_tuple pl (by simp only [List.size_toArray]; omega) ⟨H, I.tok _, by rw [Qj r]; exact q⟩
    · subst e'
      obtain ⟨hz, hS, vs, r, m⟩ : kvs.length ≤ sizeLine ∧ (p == sysModules) = false ∧ ∃ vs, KV kvs vs ∧ s.heap.DictOf (Yb X.prog X.w) p vs := I.hok p _ hx
      have hlen : kvs.length = vs.length := Paired.length r
      exact wpAny_truthy_dict hS m (by omega) ⟨H, I.tok _, by rw [Fs r]; exact q⟩
  | _ => exact (show False from e).elim
theorem Z57 (ha : PE X a ta) (he : ∀ whole, isTrue a X.env whole = (do let v ← whole; standAt a.pos; holding [v] (truthy v))) :
    PT X a (fun σ H Q => ta σ H fun x H' => ∃ k, TruV X.K x H' k ∧ Q k H') := by
  intro pins s σ H Q I h
  exact isTrue_plain (thn (ha pins s σ H _ I h) fun v s1 zz25 => by obtain ⟨x, H1, I1, r1, q1⟩ := zz25; exact Jv pins s1 σ H1 x v Q I1 r1 q1) (he _)
theorem Eh : OpR X (binaryOp .Add) (fun x y H Q => ∃ i j, x = .str i ∧ y = .str j ∧ i.length + j.length ≤ sizeLine ∧ Q (.str (i ++ j)) H) := by
  intro pins s σ H x y v u Q I rx ry h
  obtain ⟨i, j, rfl, rfl, hz, q⟩ := h
  obtain ⟨t, rfl⟩ := rx
  obtain ⟨t', rfl⟩ := ry
  exact add_str (fun t' tk => ⟨.str (i ++ j), H, I.tok _, ⟨_, rfl⟩, q⟩) hz
theorem O5 {x : V} {us : List Value} (r : Vals [x] us) : ∃ u, us = [u] ∧ RelV x u := by
  cases r with
  | cons r1 r2 => cases r2; exact ⟨_, rfl, r1⟩
theorem J6 {x y : V} {us : List Value} (r : Vals [x, y] us) : ∃ u w', us = [u, w'] ∧ RelV x u ∧ RelV y w' := by
  cases r with
  | cons r1 r2 =>
    cases r2 with
    | cons r3 r4 => cases r4; exact ⟨_, _, rfl, r1, r3⟩
theorem Cq (hc : X.calm = true) : Vs X (.builtin "max") (fun xs H Q => ∃ i j, xs = [.int i, .int j] ∧ Q (.int (if j > i then j else i)) H) := by
  intro pins s σ H xs us Q I r h
  obtain ⟨i, j, rfl, q⟩ := h
  obtain ⟨u, w', rfl, ⟨t, rfl⟩, ⟨t', rfl⟩⟩ := J6 r
  refine max_two_ints (I.ok.hd hc) fun h' tk k => ⟨_, H, I.kept k, ?_, q⟩
  by_cases hj : j > i
  · rw [if_pos hj, if_pos hj]; exact ⟨_, rfl⟩
  · rw [if_neg hj, if_neg hj]; exact ⟨_, rfl⟩
theorem Z06 (hc : X.calm = true) : Vs X (.builtin "min") (fun xs H Q => ∃ i j, xs = [.int i, .int j] ∧ Q (.int (if j < i then j else i)) H) := by
  intro pins s σ H xs us Q I r h
  obtain ⟨i, j, rfl, q⟩ := h
  obtain ⟨u, w', rfl, ⟨t, rfl⟩, ⟨t', rfl⟩⟩ := J6 r
  refine min_two_ints (I.ok.hd hc) fun h' tk k => ⟨_, H, I.kept k, ?_, q⟩
  by_cases hj : j < i
  · rw [if_pos hj, if_pos hj]; exact ⟨_, rfl⟩
  · rw [if_neg hj, if_neg hj]; exact ⟨_, rfl⟩
end
structure ObjM (h : Heap) (x dx C : Addr) (mA : Str → Option Value) : Prop where
  obj : h.get? x = some (PySem.W.instObj C dx)
  ns : h.Ns1 dx mA
  ne : dx ≠ x
theorem Oo {h : Heap} {dx : Addr} {mA : Str → Option Value} (n : h.Ns1 dx mA) : ∃ od, h.get? dx = some od ∧ ∀ name, PySem.W.lookIn name od = some (mA name) := by
  obtain ⟨o, es, ep, ho, hd, hk, _, hm⟩ := n
  refine ⟨o, ho, fun name => ?_⟩
  have e := hm name
  unfold nsFind findBy at e
  rw [← Array.find?_toList] at e
  unfold PySem.W.lookIn
  rw [hd]
  dsimp only
  split
  · rename_i y q
    rw [q] at e
    exact congrArg some e
  · rename_i q
    rw [q] at e
    have a : es.toList.any (·.refKey) = false := by
      rw [List.any_eq_false]
      intro y hy
      obtain ⟨z, t, hkey⟩ := hk y (Array.mem_toList_iff.mp hy)
      simp [DictEntry.refKey, hkey]
    have a' : ¬ es.toList.any (·.refKey) = true := by rw [a]; exact Bool.false_ne_true
    rw [if_neg a']
    exact congrArg some e
theorem ObjM.look {h : Heap} {x dx C : Addr} {mA : Str → Option Value} (I : ObjM h x dx C mA) : ∃ od, PySem.W.InstAt h x (PySem.W.instObj C dx) C (some od) ∧ ∀ name, PySem.W.lookIn name od = some (mA name) :=
  let ⟨od, ho, hl⟩ := Oo I.ns
  ⟨od, ⟨I.obj, rfl, rfl, ho⟩, hl⟩
section
variable {prog : Program} {w : World} {A : Around} {E : Value → Shared → Prop} {s : Shared} {K : PySem.W.Frag} {x dx C f : Addr} {mA : Str → Option Value} {name : Str} {v : Value}
end
theorem RelO.some_of {v : V} {o : Option Value} (r : RelO (some v) o) : ∃ u, o = some u ∧ RelV v u := by
  cases o with
  | none => exact (show False from r).elim
  | some u => exact ⟨u, rfl, r⟩
theorem RelO.none_of {o : Option Value} (r : RelO none o) : o = none := by
  cases o with
  | none => rfl
  | some u => exact (show False from r).elim
theorem Z23 {v : V} {u : Value} (r : RelV v u) : PySem.W.handedIn u = true := by
  cases v with
  | non => cases (show u = Value.none from r); rfl
  | bl b => cases (show u = Value.bool b from r); rfl
  | int i => obtain ⟨t, e⟩ := (show ∃ t, u = Value.int i t from r); cases e; rfl
  | str x => obtain ⟨t, e⟩ := (show ∃ t, u = Value.str x t from r); cases e; rfl
  | byt b => obtain ⟨t, e⟩ := (show ∃ t, u = Value.bytes b t from r); cases e; rfl
  | flt b => obtain ⟨t, e⟩ := (show ∃ t, u = Value.float b t from r); cases e; rfl
  | ref a => cases (show u = Value.ref a from r); rfl
  | ty n => cases (show u = Value.type n from r); rfl
section
variable {P : Program} {w : World} {H H' : Hp} {h h' : Heap} {a C dx : Addr} {fs fs' : List (Str × V)}
theorem Zf9 (hok : HOk P w H h) (e : H a = some (.ins C dx fs)) : ∃ mA, ObjM h a dx C mA ∧ (∀ f, RelO (fs.lookup f) (mA f)) ∧ PySem.Within mA (fs.map (·.1)) ∧ fs.length ≤ 1000 ∧ H dx = some (.own a) := by
  obtain ⟨d, z, ne, ob, mA, n, r, q⟩ := (show X6 P w H h a (.ins C dx fs) from hok a _ e)
  exact ⟨mA, ⟨ob, n, ne⟩, r, q, z, d⟩
end
structure Cls (K : PySem.W.Frag) (C : Addr) : Prop where
  pg : PySem.W.plainGet K C Str.empty = true
  hd : PySem.W.hasDictIn K C = true
  po : PySem.W.plainOver K C = true
  sa : PySem.W.findIn K (.ref C) "__setattr__" = some (some (.builtin "object.__setattr__"))
theorem Cls.get {K : PySem.W.Frag} {C : Addr} (c : Cls K C) (f : Str) : PySem.W.plainGet K C f = true := c.pg
structure Con (K : PySem.W.Frag) (C : Addr) (f : Str) (v : V) (u : Value) : Prop where
  at_ : PySem.W.findIn K (.ref C) f = some (some u)
  rel : RelV v u
  get : PySem.W.specialIn K u "__get__" = some none
  cp : PySem.W.copiedNames.contains f = false
structure Meth (K : PySem.W.Frag) (C : Addr) (m : Str) (f : Addr) : Prop where
  at_ : PySem.W.findIn K (.ref C) m = some (some (.ref f))
  fn : PySem.W.isFn K (.ref f) = true
  kp : PySem.W.keepIn K (.ref f) = true
section
variable {X : Cx} {pins : List (Addr × Obj)} {σ : St} {H : Hp} {s : Shared} {a C dx : Addr} {fs : List (Str × V)} {f : Str} {v : V} {A : Around} {E : Value → Shared → Prop}
theorem Zf6 {prog : Program} {w : World} {env : Env} {e : Expr} {f : Str} {pos : Pos} {s : Shared} {Q : Value → Shared → Prop} (hb : attributeBase e f env (eval e env) = eval e env)
    (h : wpAny (model prog w) A (eval e env) (fun o s₁ => wpAny (model prog w) A (getAttr o f true) Q E s₁) E s) : wpAny (model prog w) A (eval (.Attribute e f pos) env) Q E s :=
  Attribute_any_ h (by rw [arm_eval_Attribute, hb])
end
section
variable {X : Cx} {o e value : Expr} {f : Str} {pos pos' tpos : Pos} {ta tv : TE}
end
section
variable {X : Cx} {pins : List (Addr × Obj)} {σ : St} {H : Hp} {s : Shared} {A : Around} {E : Value → Shared → Prop} {Q : Value → Shared → Prop} {c : Value} {b : Bool}
inductive TyOf (K : PySem.W.Frag) (H : Hp) : V → Value → Prop where
  | non : TyOf K H .non (.type "NoneType")
  | bl (x : Bool) : TyOf K H (.bl x) (.type "bool")
  | int (i : Int) : TyOf K H (.int i) (.type "int")
  | str (x : Str) : TyOf K H (.str x) (.type "str")
  | flt (x : UInt64) : TyOf K H (.flt x) (.type "float")
  | lst {a : Addr} {xs : List V} (e : H a = some (.lst xs)) : TyOf K H (.ref a) (.type "list")
  | frz {a : Addr} {o : Obj} {xs : List V} (e : H a = some (.frz o (.lst xs))) : TyOf K H (.ref a) (.type "list")
  | tup {a : Addr} {xs : List V} (e : H a = some (.tup xs)) : TyOf K H (.ref a) (.type "tuple")
  | dK {a : Addr} {kvs : List (Key × V)} (e : H a = some (.dK kvs)) : TyOf K H (.ref a) (.type "dict")
  | dT {a : Addr} {kvs : List (List Key × V)} (e : H a = some (.dT kvs)) : TyOf K H (.ref a) (.type "dict")
  | ins {a C dx : Addr} {fs : List (Str × V)} (e : H a = some (.ins C dx fs)) (cl : Cls K C) (ha : PySem.W.findIn K (.ref C) "__class__" = some (some (.builtin "object.__class__")))
      (hn : PySem.W.specialIn K (.builtin "object.__class__") "__get__" = some (some (.builtin "getset_descriptor.__get__"))) (htk : PySem.W.takesIn K (.builtin "object.__class__") = some true)
      (hm : PySem.W.mroIn K C (.type "object") = some true) : TyOf K H (.ref a) (.ref C)
theorem C8 {x : V} {u t : Value} (I : Inv X pins σ H s) (rx : RelV x u) (ty : TyOf X.K H x t) (e : PySem.W.kitOne X.K t c = some b) (h : ∀ tk, Q (.bool b) { s with toks := tk }) :
    wpAny (model X.prog X.w) A (call (.builtin "isinstance") [u, c]) Q E s := by
  cases ty with
  | non => cases (show u = Value.none from rx); exact PySem.W.kia_one PySem.W.kitx_none I.kIn True.intro e (fun z => nomatch z) h
  | bl y => cases (show u = Value.bool y from rx); exact PySem.W.kia_one PySem.W.kitx_bool I.kIn True.intro e (fun z => nomatch z) h
  | int i => obtain ⟨t, q⟩ := (show ∃ t, u = Value.int i t from rx); cases q; exact PySem.W.kia_one PySem.W.kitx_int I.kIn True.intro e (fun z => nomatch z) h
  | str y => obtain ⟨t, q⟩ := (show ∃ t, u = Value.str y t from rx); cases q; exact PySem.W.kia_one PySem.W.kitx_str I.kIn True.intro e (fun z => nomatch z) h
  | flt y => obtain ⟨t, q⟩ := (show ∃ t, u = Value.float y t from rx); cases q; exact PySem.W.kia_one PySem.W.kitx_float I.kIn True.intro e (fun z => nomatch z) h
  | @lst a xs ea =>
    cases (show u = Value.ref a from rx)
    obtain ⟨_, _, n, _, h1⟩ := (show X6 X.prog X.w H s.heap a (.lst xs) from I.hok a _ ea)
    exact PySem.W.kia_one PySem.W.kitx_list I.kIn ⟨_, h1, rfl⟩ e (fun z => nomatch z) h
  | @frz a ob xs ea =>
    cases (show u = Value.ref a from rx)
    obtain ⟨_, _, _, n, _, h1⟩ := (show X6 X.prog X.w H s.heap a (.frz ob (.lst xs)) from I.hok a _ ea)
    exact PySem.W.kia_one PySem.W.kitx_list I.kIn ⟨_, h1, rfl⟩ e (fun z => nomatch z) h
  | @tup a xs ea =>
    cases (show u = Value.ref a from rx)
    obtain ⟨_, _, _, p⟩ := (show X6 X.prog X.w H s.heap a (.tup xs) from I.hok a _ ea)
    obtain ⟨o, h1, h2, _⟩ := p
    exact PySem.W.kia_one PySem.W.kitx_tuple I.kIn ⟨o, h1, h2⟩ e (fun z => nomatch z) h
  | @dK a kvs ea =>
    cases (show u = Value.ref a from rx)
    obtain ⟨_, _, vs, _, p⟩ := (show X6 X.prog X.w H s.heap a (.dK kvs) from I.hok a _ ea)
    obtain ⟨o, es, ep, h1, h2, _⟩ := p
    exact PySem.W.kia_one PySem.W.kitx_dict I.kIn ⟨o, h1, h2.1⟩ e (fun z => nomatch z) h
  | @dT a kvs ea =>
    cases (show u = Value.ref a from rx)
    obtain ⟨_, _, xs, _, o, es, ep, h1, h2, _⟩ := (show X6 X.prog X.w H s.heap a (.dT kvs) from I.hok a _ ea)
    exact PySem.W.kia_one PySem.W.kitx_dict I.kIn ⟨o, h1, h2.1⟩ e (fun z => nomatch z) h
  | @ins a C dx fs ea cl ha hn htk hm =>
    cases (show u = Value.ref a from rx)
    obtain ⟨mA, O, _⟩ := Zf9 I.hok ea
    obtain ⟨od, J, _⟩ := O.look
    exact PySem.W.kia_one (PySem.W.kitx_own (cl.get _) cl.hd ha hn htk hm) I.kIn J e (fun z => nomatch z) h
end
structure Room (k : Nat) (A : Around) : Prop where
  hd : A.handled = none
  dp : A.depth + 3 * k + 5 < recursionLimit
  un : A.units + 16 * k + 200 < cLine
theorem Room.mono {j k : Nat} {A : Around} (r : Room k A) (h : j ≤ k) : Room j A := ⟨r.hd, by have := r.dp; omega, by have := r.un; omega⟩
theorem Room.deeper {k : Nat} {A : Around} (r : Room (k + 1) A) (env : Env) : Room k (A.deeper env) :=
  ⟨r.hd, by have := r.dp; show A.depth + 1 + 3 * k + 5 < _; omega, by have := r.un; show A.units + 3 + 16 * k + 200 < _; omega⟩
theorem Room.depth {k : Nat} {A : Around} (r : Room k A) : A.depth < recursionLimit := by have := r.dp; omega
theorem Room.units {k : Nat} {A : Around} (r : Room k A) : A.units + 64 < cLine := by have := r.un; omega
def tNil : TA := fun _ H Q => Q [] H
def Y02 (ta : TE) (tr : TA) : TA := fun σ H Q => ta σ H fun x H1 => tr σ H1 fun xs H2 => Q (x :: xs) H2
section
variable {X : Cx} {e : Expr} {es : List Expr} {te : TE} {t : TA} {pos : Pos}
theorem Gv : PA X [] tNil := fun _ _ _ _ H Q I h => Calls.spliced_nil ⟨[], H, I, .nil, h⟩
theorem Rk (ha : PE X e te) (hr : PA X es t) (hs : starEach (e :: es) X.env = (false, eval e X.env) :: starEach es X.env := by rfl) : PA X (e :: es) (Y02 te t) := by
  intro pos pins s σ H Q I h
  rw [hs]
  show wpAny _ _ (spliced ((false, eval e X.env) :: backTo pos (starEach es X.env))) _ _ s
  refine Calls.spliced_cons (thn (ha pins s σ H _ I h) fun u s1 zz26 => ?_)
  obtain ⟨x, H1, I1, r1, q1⟩ := zz26
  exact thn (hr pos pins s1 σ H1 _ I1 q1) fun us s2 zz27 => by obtain ⟨xs, H2, I2, r2, q2⟩ := zz27; exact ⟨x :: xs, H2, I2, .cons r1 r2, q2⟩
def tTup (t : TA) : TE := fun σ H Q => t σ H fun xs H1 => xs.length ≤ sizeLine ∧ ∀ p, H1 p = none → Q (.ref p) (upd H1 p (.tup xs))
def tLst (t : TA) : TE := fun σ H Q => t σ H fun xs H1 => xs.length ≤ sizeLine ∧ ∀ p, H1 p = none → Q (.ref p) (upd H1 p (.lst xs))
theorem Zt7 {x1} (h : PA X es t) : PE X (.Tuple es x1 pos) (tTup t) := by
  intro pins s σ H Q I hq
  refine wpAny_Tuple_spliced (thn (h pos pins s σ H _ I hq) fun us s1 ⟨xs, H1, I1, r, z, q⟩ => ⟨by rw [← r.length]; exact z, ?_⟩)
  have hf : H1 s1.heap.objs.size = none := I1.hok.fresh (Nat.le_refl _)
  refine ⟨.ref s1.heap.objs.size, upd H1 s1.heap.objs.size (.tup xs), I1.laid (t' := s1.toks) (fun b u e => Heap.get?_push_of_some _ e) (Nat.le_refl _) ?_, rfl, q _ hf⟩
  exact ⟨z, us, r, ⟨_, Heap.get?_push_size _ rfl, rfl, _, rfl⟩⟩
theorem Zq1 (h : PA X es t) : PE X (.List es pos) (tLst t) := by
  intro pins s σ H Q I hq
  refine wpAny_List_spliced (thn (h pos pins s σ H _ I hq) fun us s1 ⟨xs, H1, I1, r, z, q⟩ => ⟨by rw [← r.length]; exact z, ?_⟩)
  have hf : H1 s1.heap.objs.size = none := I1.hok.fresh (Nat.le_refl _)
  refine ⟨.ref s1.heap.objs.size, upd H1 s1.heap.objs.size (.lst xs), I1.laid (t' := s1.toks) (fun b u e => Heap.get?_push_of_some _ e) (Nat.le_refl _) ?_, rfl, q _ hf⟩
  exact ⟨z, us, 0, r, Heap.get?_push_size _ rfl⟩
end
abbrev Sp := List V → Hp → VK → XK → Prop
abbrev CXT := List Env → Hp → Shared → XK → Value → Shared → Prop
structure Env0 (P : Program) (w : World) (K : PySem.W.Frag) (mg : Str → Option Value) (base : Heap) (A : Around) (outer : List Env) (s : Shared) (H : Hp) : Prop where
  frames : A.frames = some outer
  mod : Mod K mg base
  bs : ∀ b o, base.get? b = some o → s.heap.get? b = some o ∧ H b = none
  bsz : base.objs.size ≤ s.heap.objs.size
  funs : s.heap.FunFrames base outer
  frf : ∀ b ∈ frs outer, H b = none
  hok : HOk P w H s.heap
  bare : AllBare s.gens
def CE (outer : List Env) (P : Program) (w : World) (H : Hp) (s : Shared) (Q : VK) (u : Value) (s' : Shared) : Prop :=
  ∃ v H', s'.os = s.os ∧ AllBare s'.gens ∧ Un (frs outer) [] H H' s.heap s'.heap ∧ HOk P w H' s'.heap ∧ RelV v u ∧ Q v H'
def CR (CX : CXT) (outer : List Env) (P : Program) (w : World) (H : Hp) (s : Shared) (Q : VK) (E : XK) (r : Result) (s' : Shared) : Prop :=
  match r with
  | .ok (.ret u) => CE outer P w H s Q u s'
  | .ok _ => False
  | .error e => CX outer H s E e s'
structure FnOk (P : Program) (w : World) (K : PySem.W.Frag) (mg : Str → Option Value) (base : Heap) (CX : CXT) (k : Nat) (f : Addr) (fd : FuncData) (ps : List Str) (sp : Sp) : Prop where
  len : ∀ vs H Q E, sp vs H Q E → vs.length = ps.length
  run : ∀ (A : Around) (outer : List Env) (s : Shared) (H : Hp) (args : Args) (us : List Value) (vs : List V) (Q : VK) (E : XK), Room k A → Env0 P w K mg base A outer s H → BindsTo s fd args (ps.zip us) → Vals vs us → sp vs H Q E →
    codeAny (model P w) A (.call (.ref f) args) (CR CX outer P w H s Q E) s
theorem FnOk.imp {P : Program} {w : World} {K : PySem.W.Frag} {mg : Str → Option Value} {base : Heap} {CX : CXT} {k : Nat} {f : Addr} {fd : FuncData} {ps : List Str} {sp sp' : Sp} (F : FnOk P w K mg base CX k f fd ps sp)
    (h : ∀ vs H Q E, sp' vs H Q E → sp vs H Q E) : FnOk P w K mg base CX k f fd ps sp' :=
  ⟨fun vs H Q E q => F.len vs H Q E (h _ _ _ _ q), fun A outer s H args us vs Q E hr he hb hv hs => F.run A outer s H args us vs Q E hr he hb hv (h _ _ _ _ hs)⟩
section
variable {X : Cx} {pins : List (Addr × Obj)} {σ : St} {H : Hp} {s s' : Shared}
theorem Inv.env0 (I : Inv X pins σ H s) : Env0 X.prog X.w X.K X.mg X.base X.A X.stack s H :=
  ⟨I.ok.frames, I.ok.mod, I.bs, Nat.le_trans I.ok.bsz I.sz, I.stack, I.stkFree, I.hok, I.bare⟩
theorem Inv.after {Q : VK} {u : Value} (I : Inv X pins σ H s) (h : CE X.stack X.prog X.w H s Q u s') : EP X pins σ Q u s' := by
  obtain ⟨v, H', os, bare, un, hok, r, q⟩ := h
  obtain ⟨hh, g, d, t, os'⟩ := s'
  obtain rfl : os' = s.os := os
  exact ⟨v, H', I.call (h' := hh) (g' := g) (d' := d) (t' := t) (ch := []) un hok bare (fun b z => absurd z (by simp)), r, q⟩
end
def Zs6 (sp : Sp) (dvs : List V) (E : XK) (t : TA) : TE := fun σ H Q => t σ H fun vs H1 => sp (vs ++ dvs) H1 Q E
def Yl (K : PySem.W.Frag) (fd : FuncData) (ps : List Str) (ds : List Value) : Prop :=
  ∀ (s : Shared) (us : List Value), K.In s.heap → (us ++ ds).length = ps.length → BindsTo s fd ⟨us, []⟩ (ps.zip (us ++ ds))
theorem Yl.all {K : PySem.W.Frag} {fd : FuncData} {ps : List Str} (h : ∀ us : List Value, us.length = ps.length → bindArgs fd ⟨us, []⟩ = pure (ps.zip us)) : Yl K fd ps [] := fun s us _ hl => by
  rw [List.append_nil] at hl ⊢
  exact .of_eq (h us hl)
def Jx (CX : CXT) (X : Cx) (E : XK) : Prop := ∀ (pins : List (Addr × Obj)) (σ : St) (H : Hp) (s : Shared) (e : Value) (s' : Shared), Inv X pins σ H s → CX X.stack H s E e s' → X.xe e s'
section
variable {X : Cx} {CX : CXT} {k : Nat} {f C : Addr} {fd : FuncData} {ps : List Str} {sp : Sp} {dvs : List V} {ds : List Value} {E : XK} {x m : Str} {p pos apos : Pos} {e o : Expr} {es : List Expr} {ta : TE} {t : TA}
theorem Ze8 {pins : List (Addr × Obj)} {σ : St} {H : Hp} {s : Shared} {Q : VK} {us : List Value} {vs : List V} (F : FnOk X.prog X.w X.K X.mg X.base CX k f fd ps sp) (hr : Room k X.A) (hb : Yl X.K fd ps ds) (hd : Vals dvs ds) (hx : Jx CX X E)
    (I : Inv X pins σ H s) (r : Vals vs us) (h : sp (vs ++ dvs) H Q E) : wpAny (model X.prog X.w) X.A (call (.ref f) us) (EP X pins σ Q) X.xe s := by
  have r2 : Vals (vs ++ dvs) (us ++ ds) := r.append hd
  have hl : (us ++ ds).length = ps.length := by rw [← r2.length]; exact F.len _ _ _ _ h
  refine wpAny_call (codeAny_mono (F.run X.A X.stack s H ⟨us, []⟩ (us ++ ds) (vs ++ dvs) Q E hr I.env0 (hb s us I.kIn hl) r2 h) fun r s' hq => ?_)
  cases r with
  | error e => exact hx pins σ H s e s' I hq
  | ok fl =>
    cases fl with
    | ret u => exact I.after hq
    | next => exact False.elim hq
    | brk => exact False.elim hq
    | cont => exact False.elim hq
theorem Zi0 (F : FnOk X.prog X.w X.K X.mg X.base CX k f fd ps sp) (hr : Room k X.A) (hg : Gl X x) (hm : X.mg x = some (.ref f)) (hk : PySem.W.keepIn X.K (.ref f) = true) (hb : Yl X.K fd ps ds) (hd : Vals dvs ds) (hx : Jx CX X E)
    (ha : PA X (e :: es) t) (hdb : (x == ("__debug__" : Str)) = false := by decide) (he : starEach (e :: es) X.env = (false, eval e X.env) :: starEach es X.env := by rfl) (hpl : (backTo pos (starEach es X.env)).any (·.1) = false := by rfl) :
    PE X (.Call (.Name x p) (e :: es) [] pos) (Zs6 sp dvs E t) := by
  intro pins s σ H Q I h
  refine wpAny_Call_Name_kw (Ja I hg hm ?_ hdb)
  refine PySem.W.callWith_K (h₀ := X.base) I.ok.mod.kin hk (thn (ha pos pins s σ H _ I h) fun us s1 ⟨vs, H1, I1, r, q⟩ => ⟨I1.kIn, ?_⟩) he hpl
  exact Ze8 F hr hb hd hx I1 r q
theorem Z51 (F : FnOk X.prog X.w X.K X.mg X.base CX k f fd ps sp) (hr : Room k X.A) (hg : Gl X x) (hm : X.mg x = some (.ref f)) (hk : PySem.W.keepIn X.K (.ref f) = true) (hb : Yl X.K fd ps ds) (hd : Vals dvs ds) (hx : Jx CX X E)
    (hdb : (x == ("__debug__" : Str)) = false := by decide) : PE X (.Call (.Name x p) [] [] pos) (Zs6 sp dvs E tNil) := by
  intro pins s σ H Q I h
  refine wpAny_Call_Name_kw (Ja I hg hm ?_ hdb)
  exact PySem.W.callWith_K0 I.kIn hk (Ze8 (us := []) F hr hb hd hx I .nil h)
structure Mk (K : PySem.W.Frag) (C f : Addr) : Prop where
  makes : PySem.W.makesIn K C = true
  init : PySem.W.findIn K (.ref C) "__init__" = some (some (.ref f))
  fn : PySem.W.isFn K (.ref f) = true
  kp : PySem.W.keepIn K (.ref C) = true
end
section
variable {X : Cx} {CX : CXT} {k : Nat} {f C : Addr} {fd : FuncData} {ps ks : List Str} {sp : Sp} {E : XK} {x m : Str} {p pos apos kpos : Pos} {e o : Expr} {es : List Expr} {kws : List Keyword} {te ta : TE} {t tk : TA} {nm : Option Str}
structure KBinds (K : PySem.W.Frag) (fd : FuncData) (ps ks : List Str) (g : List Value → List Value → List Value) (gV : List V → List V → List V) : Prop where
  to : ∀ (s : Shared) (us ws : List Value), K.In s.heap → (g us ws).length = ps.length → BindsTo s fd ⟨us, ks.zip ws⟩ (ps.zip (g us ws))
  rel : ∀ {vs : List V} {us : List Value} {zs : List V} {ws : List Value}, Vals vs us → Vals zs ws → Vals (gV vs zs) (g us ws)
variable {g : List Value → List Value → List Value} {gV : List V → List V → List V}
end
structure FnScope (N P : List Str) (sc : Scope) : Prop where
  kind : sc.kind = .function
  co : sc.isCoroutine = false
  gen : sc.isGenerator = false
  nd : N.Nodup
  pre : N.take P.length = P
  par : ∀ x ∈ P, sc.names.lookup x = some .local ∨ sc.names.lookup x = some .cell
  nofree : ∀ y ∈ sc.names, y.2 ≠ .free
theorem Oi {kindOf : Str → Option NameKind} {x : Str} : ∀ {binds : List (Str × Value)} {m : Str → Option Value}, (∀ v, (x, v) ∉ binds) → bindL kindOf binds m x = m x
  | [], _, _ => rfl
  | (n, v) :: r, m, h => by
    unfold bindL
    rw [Oi fun w hw => h w (List.mem_cons_of_mem _ hw)]
    split
    · have : x ≠ n := by rintro rfl; exact h v List.mem_cons_self
      simp [this]
    · rfl
theorem Oy {kindOf : Str → Option NameKind} {x : Str} : ∀ {binds : List (Str × Value)} {m : Str → Option Value}, (∀ v, (x, v) ∉ binds) → bindC kindOf binds m x = m x
  | [], _, _ => rfl
  | (n, v) :: r, m, h => by
    unfold bindC
    rw [Oy fun w hw => h w (List.mem_cons_of_mem _ hw)]
    split
    · rfl
    · have : x ≠ n := by rintro rfl; exact h v List.mem_cons_self
      simp [this]
theorem Nc {kindOf : Str → Option NameKind} {x : Str} {v : Value} : ∀ {P : List Str} {vs : List Value} {i : Nat} {m : Str → Option Value}, P.Nodup → P[i]? = some x → vs[i]? = some v → kindOf x = some .local →
    bindL kindOf (P.zip vs) m x = some v
  | [], _, _, _, _, h, _, _ => by simp at h
  | _ :: _, [], _, _, _, _, h, _ => by simp at h
  | p :: P, w :: vs, 0, m, nd, h1, h2, hk => by
    simp at h1 h2; subst h1; subst h2
    show bindL kindOf ((p, w) :: P.zip vs) m p = _
    unfold bindL
    rw [Oi fun v hv => (List.nodup_cons.mp nd).1 (List.of_mem_zip hv).1, if_pos hk]
    simp
  | p :: P, w :: vs, i + 1, m, nd, h1, h2, hk => by
    show bindL kindOf ((p, w) :: P.zip vs) m x = _
    unfold bindL
    exact Nc (i := i) (List.nodup_cons.mp nd).2 (by simpa using h1) (by simpa using h2) hk
theorem Nk {kindOf : Str → Option NameKind} {x : Str} {v : Value} : ∀ {P : List Str} {vs : List Value} {i : Nat} {m : Str → Option Value}, P.Nodup → P[i]? = some x → vs[i]? = some v → kindOf x ≠ some .local →
    bindC kindOf (P.zip vs) m x = some v
  | [], _, _, _, _, h, _, _ => by simp at h
  | _ :: _, [], _, _, _, _, h, _ => by simp at h
  | p :: P, w :: vs, 0, m, nd, h1, h2, hk => by
    simp at h1 h2; subst h1; subst h2
    show bindC kindOf ((p, w) :: P.zip vs) m p = _
    unfold bindC
    rw [Oy fun v hv => (List.nodup_cons.mp nd).1 (List.of_mem_zip hv).1, if_neg hk]
    simp
  | p :: P, w :: vs, i + 1, m, nd, h1, h2, hk => by
    show bindC kindOf ((p, w) :: P.zip vs) m x = _
    unfold bindC
    exact Nk (i := i) (List.nodup_cons.mp nd).2 (by simpa using h1) (by simpa using h2) hk
noncomputable def start (N : List Str) (vs : List V) : St := vs.map some ++ List.replicate (N.length - vs.length) none
def cxOf (CX : CXT) (P : Program) (w : World) (K : PySem.W.Frag) (mg : Str → Option Value) (base : Heap) (N : List Str) (qual : Str) (scope : Scope) (f : Addr) (cd : Value) (A : Around) (outer : List Env) (s : Shared) (H : Hp) (E : XK) : Cx where
  prog := P
  w := w
  K := K
  mg := mg
  base := base
  A := A.deeper (envOfC qual scope s.heap.objs.size f cd)
  N := N
  s₀ := s
  H₀ := H
  env := envOfC qual scope s.heap.objs.size f cd
  outer := outer
  stack := envOfC qual scope s.heap.objs.size f cd :: outer
  ex := []
  calm := true
  fn := fun _ => true
  pn := []
  xe := fun e s' => wpAny (model P w) (A.deeper (envOfC qual scope s.heap.objs.size f cd)) (leaving (envOfC qual scope s.heap.objs.size f cd) e) (fun _ s'' => CX outer H s E e s'') (fun e' s'' => CX outer H s E e' s'') s'
theorem Jw {sc : Scope} {n : Nat} {x : Str} (h : sc.names.lookup x = some .cell) : ∃ c, (cellsFrom n sc.names []).lookup x = some c := by
  have q := PySem.W.cellsFrom_some sc.names n [] (.inl h)
  exact Option.isSome_iff_exists.mp q
theorem Ev {CX : CXT} {P : Program} {w : World} {K : PySem.W.Frag} {mg : Str → Option Value} {base : Heap} {N ps : List Str} {qual : Str} {scope : Scope} {f : Addr} {cd : Value} {A : Around} {outer : List Env} {s s1 : Shared} {H : Hp} {E : XK} {us : List Value} {vs : List V}
    (S : FnScope N ps scope) (hd : A.handled = none) (e0 : Env0 P w K mg base A outer s H) (hl : vs.length = ps.length) (r : Vals vs us)
    (x : InCallC s s.heap.objs.size (bindL (envOfC qual scope s.heap.objs.size f cd).kindOf (ps.zip us) fun _ => none) (cellsFrom (s.heap.objs.size + 1) scope.names []) (bindC (envOfC qual scope s.heap.objs.size f cd).kindOf (ps.zip us) fun _ => none) s1) :
    Inv (cxOf CX P w K mg base N qual scope f cd A outer s H E) [] (start N vs) H s1 := by
  have hpl : ps.length ≤ N.length := by have := congrArg List.length S.pre; rw [List.length_take] at this; omega
  obtain ⟨h1, tk, rfl, hk⟩ := x.done
  have noA : ∀ b : Addr, b ∉ (cxOf CX P w K mg base N qual scope f cd A outer s H E).ex := fun b z => absurd (show b ∈ ([] : List Addr) from z) (by simp)
  refine ⟨⟨e0.mod, S.kind, rfl, rfl, Nat.le_refl _, fun y z c h1 h2 => ?_, fun y hy => ?_, fun y c _ h => ?_, fun _ => hd, Around.frames_deeper e0.frames, .inr ⟨rfl, rfl⟩, fun b z => absurd z (noA b), e0.bs, e0.bsz, fun b _ _ => noA b, fun b z => absurd z (noA b), e0.funs, e0.frf⟩,
    rfl, e0.bare, Un.kept hk, ⟨_, x.toInCall.ns, fun i y v h1 h2 h3 => ?_⟩, fun y c h => ⟨_, x.cell y c h⟩, e0.hok.fresh (Nat.le_refl _), fun y c h => ?_, fun p hp => absurd (show p ∈ ([] : List (Addr × Obj)) from hp) (by simp), e0.hok.kept hk, ?_⟩
  · exact name_of_addr x.apart (PySem.mem_of_lookup h1) (PySem.mem_of_lookup h2)
  · have hy : scope.names.lookup y = some .cell ∨ scope.names.lookup y = some .free := hy
    rcases hy with hy | hy
    · exact Jw hy
    · exact absurd rfl (S.nofree _ (PySem.mem_of_lookup hy))
  · exact Nat.le_of_lt (x.above y c (PySem.mem_of_lookup h))
  · have hi : i < vs.length := by
      unfold start at h2
      by_cases hi : i < vs.length
      · exact hi
      · rw [List.getElem?_append_right (by simpa using hi)] at h2
        rw [List.getElem?_replicate] at h2
        split at h2 <;> cases h2
    have ha : vs[i]? = some v := by
      unfold start at h2
      rw [List.getElem?_append_left (by simpa using hi), List.getElem?_map] at h2
      cases e : vs[i]? with
      | none => rw [e] at h2; cases h2
      | some a => rw [e] at h2; cases h2; rfl
    obtain ⟨u, hu, rv⟩ := r.get ha
    have hp : ps[i]? = some y := by
      rw [← S.pre, List.getElem?_take_of_lt (by omega)]; exact h1
    have ndP : ps.Nodup := by rw [← S.pre]; exact S.nd.sublist (List.take_sublist _ _)
    refine ⟨u, rv, ?_⟩
    rcases S.par y (List.mem_of_getElem? hp) with k | k
    · exact .inl ⟨k, Nc ndP hp hu k⟩
    · obtain ⟨c, e⟩ := Jw (n := s.heap.objs.size + 1) k
      refine .inr ⟨.inl k, c, e, ?_⟩
      have q := x.cell y c e
      rw [Nk ndP hp hu (by show scope.names.lookup y ≠ _; rw [k]; decide)] at q
      exact q
  · exact e0.hok.fresh (Nat.le_of_lt (x.above y c (PySem.mem_of_lookup h)))
  · unfold start
    show _ = N.length
    rw [List.length_append, List.length_map, List.length_replicate]
    omega
theorem Zz1 {CX : CXT} {P : Program} {w : World} {K : PySem.W.Frag} {mg : Str → Option Value} {base : Heap} {k : Nat} {f : Addr} {name qual : Str} {params : Arguments} {body : List Stmt} {scope : Scope} {dV kV doc pm cdv ct oc : Value} {an od : Option Addr}
    {osl : Array (Option Value)} {N ps : List Str} {sp : Sp} (lk : K.lookup f = some ⟨oc, od, .func (PySem.W.fnOf name qual params body scope dV kV doc pm an cdv ct), osl⟩) (hcd : PySem.W.codeIn K cdv qual = true) (S : FnScope N ps scope)
    (len : ∀ vs H Q E, sp vs H Q E → vs.length = ps.length)
    (hbody : ∀ (A : Around) (outer : List Env) (s : Shared) (H : Hp) (vs : List V) (Q : VK) (E : XK), Room k (A.deeper (envOfC qual scope s.heap.objs.size f cdv)) → sp vs H Q E →
      ∃ t, PSs (cxOf CX P w K mg base N qual scope f cdv A outer s H E) body t ∧ t { nx := fun _ H' => Q .non H', rt := Q } (start N vs) H) :
    FnOk P w K mg base CX (k + 1) f (PySem.W.fnOf name qual params body scope dV kV doc pm an cdv ct) ps sp := by
  refine ⟨len, fun A outer s H args us vs Q E hr e0 hb r hsp => ?_⟩
  have hl := len _ _ _ _ hsp
  have KX : K.In s.heap := e0.mod.kin.keeps fun b o e => (e0.bs b o e).1
  have lim : s.heap.NoLimit := e0.mod.nolimit.keeps fun b o e => (e0.bs b o e).1
  have hkind : ∀ y ∈ ps.zip us, scope.names.lookup y.1 = some .local ∨ (scope.names.lookup y.1 = some .cell ∧ ((cellsFrom (s.heap.objs.size + 1) scope.names []).lookup y.1).isSome = true) := fun ⟨n, v⟩ hy => by
    rcases S.par n (List.of_mem_zip hy).1 with q | q
    · exact .inl q
    · exact .inr ⟨q, PySem.W.cellsFrom_some _ _ _ (.inl q)⟩
  refine codeAny_call_function hr.depth (KX _ _ lk) rfl S.co S.gen rfl (PySem.W.codeRec_of KX hcd) (hb _ _ _ _ ?_)
  refine wpAny_newFunctionEnv_cells S.kind hkind fun env he s1 x => ?_
  subst he
  refine ⟨lim.keeps x.toInCall.keep, codeAny_func ?_⟩
  obtain ⟨t, ht, hq⟩ := hbody A outer s H vs Q E (hr.deeper _) hsp
  have I : Inv (cxOf CX P w K mg base N qual scope f cdv A outer s H E) [] (start N vs) H s1 := Ev S hr.hd e0 hl r x
  refine wpAny_mono (ht [] s1 (start N vs) H _ I hq) (fun fl s' hs => ?_) fun e s' hs => hs
  have fin : ∀ {σ' : St} {H' : Hp} {v : V} {u : Value}, Inv (cxOf CX P w K mg base N qual scope f cdv A outer s H E) [] σ' H' s' → RelV v u → Q v H' → CE outer P w H s Q u s' :=
    fun {σ' H' v u} J rv q => ⟨v, H', J.os, J.bare, J.base, J.hok, rv, q⟩
  cases fl with
  | ret u =>
    obtain ⟨v, σ', H', J, rv, q⟩ := hs
    exact fin J rv q
  | next =>
    obtain ⟨σ', H', J, q⟩ := hs
    exact fin (v := V.non) (u := Value.none) J rfl q
  | brk =>
    obtain ⟨_, _, _, q⟩ := hs
    exact False.elim q
  | cont =>
    obtain ⟨_, _, _, q⟩ := hs
    exact False.elim q
section
variable {X : Cx} {x : Str} {p pos : Pos} {e : Expr} {es : List Expr} {t : TA} {id T : String} {r : List V → Hp → VK → Prop}
def tCB (r : List V → Hp → VK → Prop) (t : TA) : TE := fun σ H Q => t σ H fun vs H1 => r vs H1 Q
theorem Z85 (hc : Vs X (.builtin id) r) (hg : Gl X x) (hm : X.mg x = none) (hv : bootBuiltins x = some (.builtin id)) (ha : PA X (e :: es) t) (hn : x ≠ "__name__" := by decide) (hdb : (x == ("__debug__" : Str)) = false := by decide)
    (he : starEach (e :: es) X.env = (false, eval e X.env) :: starEach es X.env := by rfl) (hpl : (backTo pos (starEach es X.env)).any (·.1) = false := by rfl) : PE X (.Call (.Name x p) (e :: es) [] pos) (tCB r t) := by
  intro pins s σ H Q I h
  refine wpAny_Call_Name_kw (Q7 I hg hm hv ?_ hn hdb)
  exact PyProof.Rows.callWith_builtin1 (thn (ha pos pins s σ H _ I h) fun us s1 zz32 => by obtain ⟨vs, H1, I1, r1, q1⟩ := zz32; exact hc pins s1 σ H1 vs us Q I1 r1 q1) he hpl
theorem Bb (hc : Vs X (.type T) r) (hg : Gl X x) (hm : X.mg x = none) (hv : bootBuiltins x = some (.type T)) (ha : PA X (e :: es) t) (hn : x ≠ "__name__" := by decide) (hdb : (x == ("__debug__" : Str)) = false := by decide)
    (he : starEach (e :: es) X.env = (false, eval e X.env) :: starEach es X.env := by rfl) (hpl : (backTo pos (starEach es X.env)).any (·.1) = false := by rfl) : PE X (.Call (.Name x p) (e :: es) [] pos) (tCB r t) := by
  intro pins s σ H Q I h
  refine wpAny_Call_Name_kw (Q7 I hg hm hv ?_ hn hdb)
  exact PyProof.Rows.callWith_type1 (thn (ha pos pins s σ H _ I h) fun us s1 zz33 => by obtain ⟨vs, H1, I1, r1, q1⟩ := zz33; exact hc pins s1 σ H1 vs us Q I1 r1 q1) he hpl
end
end L2
namespace HT
open PySem PyProof.Rows
section
open PySem.SeqAt
open PySem.AutoSeq1 (wpAny_loadPart')
open PySem.MeetsSeq PySem.MeetsSeq2 PySem.MeetsSeq3
end
section
variable {prog : Program} {w : World} {A : Around} {E : Value → Shared → Prop} {s : Shared}
theorem Zi5 {t b : Addr} {vs ws : List Value} {Q : Value → Shared → Prop} (ht : IsTup s.heap t vs.toArray) (hb : IsTup s.heap b ws.toArray) (hv : vs ≠ [])
    (h1 : ws = [] → Q (.ref t) s) (h2 : ws ≠ [] → Q (.ref s.heap.objs.size) { s with heap := s.heap.push { cls := .type "tuple", data := .seq (vs ++ ws).toArray } })
    (hsz : vs.length + ws.length ≤ sizeLine) : wpAny (model prog w) A (binaryOp .Add (.ref t) (.ref b)) Q E s := by
  obtain ⟨⟨cls, dd, data, sl⟩, ho, hc, n, hd⟩ := id ht
  obtain ⟨⟨cls2, dd2, data2, sl2⟩, ho2, hc2, n2, hd2⟩ := id hb
  simp only at hc hd hc2 hd2
  subst hc hd hc2 hd2
  have e : vs.toArray ++ ws.toArray = (vs ++ ws).toArray := by simp
  by_cases hw : ws = []
  · exact concat_meets ⟨_, ho, rfl⟩ ⟨_, ho2, rfl⟩ noFill_tuple_add seq_tuple_add PySem.F.slot_tuple_add PySem.F.entry_tuple_add (PySem.F.args_tuple_add_2 _ _)
      (tuple_addW1 t b vs.toArray ws.toArray n n2 dd dd2 sl sl2 (by simpa using hv) (by simp [hw])) ⟨ho, ho2, h1 hw⟩
  · refine concat_meets ⟨_, ho, rfl⟩ ⟨_, ho2, rfl⟩ noFill_tuple_add seq_tuple_add PySem.F.slot_tuple_add PySem.F.entry_tuple_add (PySem.F.args_tuple_add_2 _ _)
      (tuple_addW2 t b vs.toArray ws.toArray n n2 dd dd2 sl sl2 (by simpa using hv) (by simpa using hw) (by rw [List.size_toArray, List.size_toArray]; exact hsz)) ⟨ho, ho2, ?_⟩
    rw [e]
    exact h2 hw
noncomputable def sIx (n d : Nat) : Option Int → Nat
  | none => d
  | some v => if v < 0 then (v + (n : Int)).toNat else min v.toNat n
theorem Zo4 (n d : Nat) (hd : d ≤ n) (o : Option Int) : sIx n d o ≤ n := by
  cases o with
  | none => exact hd
  | some v =>
    show (if v < 0 then (v + (n : Int)).toNat else min v.toNat n) ≤ n
    by_cases hv : v < 0
    · rw [if_pos hv]; omega
    · rw [if_neg hv]; exact Nat.min_le_right _ _
theorem Ba (v : Int) (n d : Nat) : (if v < 0 then max (v + (n : Int)) 0 else min v (n : Int)) = ((sIx n d (some v) : Nat) : Int) := by
  show (if v < 0 then max (v + (n : Int)) 0 else min v (n : Int)) = (((if v < 0 then (v + (n : Int)).toNat else min v.toNat n) : Nat) : Int)
  by_cases hv : v < 0
  · simp only [if_pos hv]; omega
  · simp only [if_neg hv]; omega
theorem E1 (lo hi : Option Int) (n : Nat) : Builtin.Slice.sliceAdjust lo hi 1 (n : Int) = (((sIx n 0 lo : Nat) : Int), ((sIx n n hi : Nat) : Int)) := by
  have h1 : ¬ ((1 : Int) < 0) := by omega
  unfold Builtin.Slice.sliceAdjust
  simp only [h1, if_false]
  refine Prod.ext ?_ ?_
  · cases lo with
    | none => rfl
    | some v => exact Ba v n 0
  · cases hi with
    | none => rfl
    | some v => exact Ba v n n
theorem Ej (i j : Nat) : Builtin.Slice.slicePlaces (i : Int) (j : Int) 1 = j - i := by
  unfold Builtin.Slice.slicePlaces
  have h1 : (1 : Int) > 0 := by omega
  simp only [h1, if_true, Int.ediv_one]
  split <;> omega
theorem Ql {v : Value} {o : Option Int} {Q : Option Int → Shared → Prop} (p : IsPart v o) (h : Q o s) : wpAny (model prog w) A (Builtin.Slice.slicePartIndex v) Q E s := by
  cases p with
  | none => exact slicePart_none h
  | int i t => exact slicePart_int h
theorem Sf {sl : Addr} {vl vu : Value} {lo hi : Option Int} {n : Nat} {Q : Int × Int × Nat → Shared → Prop} (hs : s.heap.IsSliceOf sl vl vu .none) (pl : IsPart vl lo) (pu : IsPart vu hi)
    (h : Q (((sIx n 0 lo : Nat) : Int), 1, sIx n n hi - sIx n 0 lo) s) : wpAny (model prog w) A (Builtin.Slice.sliceApplied (.ref sl) (pure (n : Int))) Q E s := by
  obtain ⟨os, hos, hcs, hds⟩ := id hs
  unfold Builtin.Slice.sliceApplied Builtin.Slice.sliceFields
  refine wpAny_bind (wpAny_bind (wpAny_field hos hds (x := vl) rfl (wpAny_bind (wpAny_field hos hds (x := vu) rfl (wpAny_bind (wpAny_field hos hds (x := .none) rfl (wpAny_pure ?_)))))))
  refine wpAny_bind (slicePart_none ?_)
  show wpAny _ _ (if ((1 : Int) == 0) = true then _ else _) _ _ s
  rw [if_neg (by decide)]
  refine wpAny_bind (Ql pl (wpAny_bind (Ql pu (wpAny_bind (wpAny_pure ?_)))))
  show wpAny _ _ (match Builtin.Slice.sliceAdjust lo hi 1 (n : Int) with | (lo, hi) => pure (lo, (1 : Int), Builtin.Slice.slicePlaces lo hi 1)) _ _ s
  rw [E1 lo hi n]
  show wpAny _ _ (pure (((sIx n 0 lo : Nat) : Int), (1 : Int), Builtin.Slice.slicePlaces ((sIx n 0 lo : Nat) : Int) ((sIx n n hi : Nat) : Int) 1)) _ _ s
  rw [Ej]
  exact wpAny_pure h
theorem Z89 (xs : Array Value) (i k : Nat) : ((List.range k).filterMap fun (m : Nat) => xs[((i : Int) + (m : Int) * 1).toNat]?).toArray = ((xs.toList.drop i).take k).toArray := by
  have e : (fun (m : Nat) => xs[((i : Int) + (m : Int) * 1).toNat]?) = fun m => xs[i + m]? := by
    funext m
    have : ((i : Int) + (m : Int) * 1).toNat = i + m := by omega
    rw [this]
  rw [e]
  have := pick_run xs i k
  rw [List.filterMap_map] at this
  have e2 : ((fun x => xs[x]?) ∘ fun x => i + x) = fun m => xs[i + m]? := rfl
  rw [e2] at this
  rw [this]
theorem Tp {t sl : Addr} {items : Array Value} {vl vu : Value} {lo hi : Option Int} {Q : Value → Shared → Prop} (ht : IsTup s.heap t items) (hs : s.heap.IsSliceOf sl vl vu .none) (pl : IsPart vl lo) (pu : IsPart vu hi)
    (hw : ¬ (sIx items.size 0 lo = 0 ∧ sIx items.size items.size hi = items.size))
    (h : Q (.ref s.heap.objs.size) { s with heap := s.heap.push { cls := .type "tuple", data := .seq ((items.toList.drop (sIx items.size 0 lo)).take (sIx items.size items.size hi - sIx items.size 0 lo)).toArray } })
    (hsz : items.size ≤ sizeLine) : wpAny (model prog w) A (getItem (.ref t) (.ref sl)) Q E s := by
  have htake : sizeOk (.seq ((items.toList.drop (sIx items.size 0 lo)).take (sIx items.size items.size hi - sIx items.size 0 lo)).toArray) := by
    show ((items.toList.drop (sIx items.size 0 lo)).take (sIx items.size items.size hi - sIx items.size 0 lo)).toArray.size ≤ sizeLine
    rw [List.size_toArray, List.length_take, List.length_drop, Array.length_toList]
    omega
  have hj : sIx items.size items.size hi ≤ items.size := Zo4 _ _ (Nat.le_refl _) hi
  obtain ⟨os, hos, hcs, hds⟩ := id hs
  have hTs : s.TypeIs (.ref sl) "slice" := ⟨os, hos, hcs⟩
  unfold getItem
  try with_reducible refine wpAny_holding ?_
  first | refine wpAny_bind (wpAny_pure ?_) | skip
  refine wpAny_bind (wpAny_sequenceKey ht.typeIs (by decide) ?_)
  refine wpAny_bind (wpAny_callSpecial?_slot (name := Str.ofString "__getitem__") ht.typeIs PyProof.Rows.slot_tuple_getitem
    (wpAny_call_entry PyProof.Rows.slot_tuple_getitem ht.typeIs entry_tuple_getitem ?_ (args_tuple_getitem _ _)))
  show wpAny _ _ (Builtin.Tuple.tupleItemsOf (.ref t) >>= _) _ _ s
  refine wpAny_bind (tupleItemsOf_ ht ?_)
  refine wpAny_bind (wpAny_typeOf hTs ?_)
  rw [if_pos (by decide)]
  refine wpAny_bind (Sf hs pl pu ?_)
  have hno : ¬ ((((sIx items.size 0 lo : Nat) : Int) == 0 && (1 : Int) == 1 && (sIx items.size items.size hi - sIx items.size 0 lo) == items.size) = true) := by
    intro q
    rw [Bool.and_eq_true, Bool.and_eq_true] at q
    have q1 : ((sIx items.size 0 lo : Nat) : Int) = 0 := eq_of_beq q.1.1
    have q2 : sIx items.size items.size hi - sIx items.size 0 lo = items.size := eq_of_beq q.2
    exact hw ⟨by omega, by omega⟩
  show wpAny _ _ (if (((sIx items.size 0 lo : Nat) : Int) == 0 && (1 : Int) == 1 && (sIx items.size items.size hi - sIx items.size 0 lo) == items.size) = true then _ else _) _ _ s
  rw [if_neg hno, Z89]
  first
    | exact wpAny_bind (m := Builtin.Tuple.tupleExact _) (wpAny_newObj_type (wpAny_pure ⟨_, rfl, wpAny_pure h⟩) htake)
    | exact wpAny_bind (m := Builtin.Tuple.tupleExact _) (wpAny_newObj_type (wpAny_bind (wpAny_pure (wpAny_pure ⟨_, rfl, wpAny_pure h⟩))) htake)
    | exact wpAny_bind (wpAny_bind (m := Builtin.Tuple.tupleExact _) (wpAny_newObj_type (wpAny_pure (wpAny_pure ⟨_, rfl, wpAny_pure h⟩)) htake))
    | exact wpAny_bind (wpAny_bind (m := Builtin.Tuple.tupleExact _) (wpAny_newObj_type (wpAny_pure ⟨_, rfl, wpAny_pure h⟩) htake))
end
end HT
namespace L2
open PySem PySem.Spec PyProof.Rows
abbrev TO := St → Hp → (Option Int → Hp → Prop) → Prop
def PO (X : Cx) (e : Option Expr) (t : TO) : Prop :=
  ∀ (pins : List (Addr × Obj)) (s : Shared) (σ : St) (H : Hp) (Q : Option Int → Hp → Prop), Inv X pins σ H s → t σ H Q →
    wpAny (model X.prog X.w) X.A (evalPart e X.env) (fun u s' => ∃ o H', Inv X pins σ H' s' ∧ IsPart u o ∧ Q o H') X.xe s
def Zg5 : TO := fun _ H Q => Q none H
def Zz0 (t : TE) : TO := fun σ H Q => t σ H fun x H1 => ∃ i, x = .int i ∧ Q (some i) H1
section
variable {X : Cx} {e : Expr} {te : TE} {lo hi : Option Expr} {tl th : TO} {pos p2 : Pos}
theorem Zl5 : PO X none Zg5 := by
  intro pins s σ H Q I h
  rw [evalPart_none]
  exact wpAny_pure ⟨none, H, I, .none, h⟩
theorem Z01 (h : PE X e te) : PO X (some e) (Zz0 te) := by
  intro pins s σ H Q I hw
  rw [evalPart_some]
  refine thn (h pins s σ H _ I hw) fun u s1 zz34 => ?_
  obtain ⟨x, H1, I1, r1, q1⟩ := zz34
  obtain ⟨i, rfl, q⟩ := q1
  obtain ⟨t, rfl⟩ := r1
  exact ⟨some i, H1, I1, .int i t, q⟩
def SlR (X : Cx) (r : V → Option Int → Option Int → Hp → VK → Prop) : Prop :=
  ∀ (pins : List (Addr × Obj)) (s : Shared) (σ : St) (H : Hp) (x : V) (v vl vu : Value) (lo hi : Option Int) (sl : Addr) (Q : VK), Inv X pins σ H s → RelV x v → s.heap.IsSliceOf sl vl vu .none → IsPart vl lo → IsPart vu hi → r x lo hi H Q →
    ∃ T id, typeLookup (.type T) "__getitem__" = pure (some (.builtin id)) ∧ s.TypeIs v T ∧ wpAny (model X.prog X.w) X.A (getItem v (.ref sl)) (EP X pins σ Q) X.xe s
def tSl (r : V → Option Int → Option Int → Hp → VK → Prop) (te : TE) (tl th : TO) : TE := fun σ H Q => te σ H fun x H1 => tl σ H1 fun l H2 => th σ H2 fun u H3 => r x l u H3 Q
theorem Z79 {r : V → Option Int → Option Int → Hp → VK → Prop} (hr : SlR X r) (he : PE X e te) (hl : PO X lo tl) (hu : PO X hi th) : PE X (.Subscript e (.Slice lo hi none p2) pos) (tSl r te tl th) := by
  intro pins s σ H Q I h
  refine Subscript_ (thn (he pins s σ H _ I h) fun v s1 zz35 => ?_)
  obtain ⟨x, H1, I1, r1, q1⟩ := zz35
  refine wpAny_Slice (thn (hl pins s1 σ H1 _ I1 q1) fun vl s2 ⟨l, H2, I2, pl, q2⟩ => thn (hu pins s2 σ H2 _ I2 q2) fun vu s3 zz37 => ?_)
  obtain ⟨u, H3, I3, pu, q3⟩ := zz37
  rw [evalPart_none]
  refine wpAny_pure ?_
  have I4 : Inv X pins σ H3 { s3 with heap := s3.heap.push { cls := .type "slice", data := .fields #[vl, vu, .none] } } := I3.kept (t' := s3.toks) fun b ob q => Heap.get?_push_of_some _ q
  obtain ⟨T, id, hT, ht, hg⟩ := hr pins { s3 with heap := s3.heap.push { cls := .type "slice", data := .fields #[vl, vu, .none] } } σ H3 x v vl vu l u s3.heap.objs.size Q I4 r1 (Heap.IsSliceOf.new ..) pl pu q3
  show wpAny (model X.prog X.w) X.A (subscriptTail e (.Slice lo hi none p2) v (.ref s3.heap.objs.size)) (EP X pins σ Q) X.xe { s3 with heap := s3.heap.push { cls := .type "slice", data := .fields #[vl, vu, .none] } }
  exact tail_any (ops := [.ref s3.heap.objs.size, v]) ht hT hg (by with_unfolding_all rfl)
noncomputable def cutV (xs : List V) (lo hi : Option Int) : List V := (xs.drop (HT.sIx xs.length 0 lo)).take (HT.sIx xs.length xs.length hi - HT.sIx xs.length 0 lo)
theorem Re (xs : List V) (lo hi : Option Int) : (cutV xs lo hi).length ≤ xs.length := by
  unfold cutV
  rw [List.length_take, List.length_drop]
  omega
def rSlT (K : PySem.W.Frag) : V → Option Int → Option Int → Hp → VK → Prop := fun x lo hi H Q => ∃ a xs, x = .ref a ∧ SqT K H a xs ∧
  ¬ (HT.sIx xs.length 0 lo = 0 ∧ HT.sIx xs.length xs.length hi = xs.length) ∧ ∀ p, H p = none → Q (.ref p) (upd H p (.tup (cutV xs lo hi)))
theorem Zu8 : SlR X (rSlT X.K) := by
  intro pins s σ H x v vl vu lo hi sl Q I rx hs pl pu h
  obtain ⟨a, xs, rfl, hx, hw, q⟩ := h
  cases rx
  obtain ⟨its, r, ht, hz⟩ := I.tuple hx
  have hlen : its.toArray.size = xs.length := by rw [List.size_toArray]; exact r.length.symm
  refine ⟨"tuple", _, PyProof.Rows.slot_tuple_getitem.lookup, ht.typeIs, ?_⟩
  refine HT.Tp ht hs pl pu (by rw [hlen]; exact hw) ?_ (by rw [hlen]; exact hz)
  rw [hlen]
  refine ⟨.ref s.heap.objs.size, _, I.laid (t' := s.toks) (o := .tup (cutV xs lo hi)) (fun b ob q => Heap.get?_push_of_some _ q) (Nat.le_refl _) ?_, rfl, q _ (I.hok.fresh (Nat.le_refl _))⟩
  exact ⟨Nat.le_trans (Re xs lo hi) hz, _, (r.drop (HT.sIx xs.length 0 lo)).take (HT.sIx xs.length xs.length hi - HT.sIx xs.length 0 lo), IsTup.new _ _⟩
def Zy8 (K : PySem.W.Frag) : R2 := fun x y H Q => ∃ a b xs ys, x = .ref a ∧ y = .ref b ∧ SqT K H a xs ∧ SqT K H b ys ∧ xs ≠ [] ∧ xs.length + ys.length ≤ sizeLine ∧
  (ys = [] → Q (.ref a) H) ∧ (ys ≠ [] → ∀ p, H p = none → Q (.ref p) (upd H p (.tup (xs ++ ys))))
theorem Vals.nil_iff {xs : List V} {us : List Value} (r : Vals xs us) : us = [] ↔ xs = [] := by
  cases r with
  | nil => simp
  | cons _ _ => simp
theorem Zn0 : OpR X (binaryOp .Add) (Zy8 X.K) := by
  intro pins s σ H x y v u Q I rx ry h
  obtain ⟨a, b, xs, ys, rfl, rfl, ha, hb, hx, hz, q1, q2⟩ := h
  cases rx
  cases ry
  obtain ⟨its, r1, p1, _⟩ := I.tuple ha
  obtain ⟨its2, r2, p2, _⟩ := I.tuple hb
  refine HT.Zi5 p1 p2 (fun z => hx (r1.nil_iff.mp z)) (fun z => ⟨.ref a, H, I, rfl, q1 (r2.nil_iff.mp z)⟩) (fun z => ?_) (by rw [← r1.length, ← r2.length]; exact hz)
  refine ⟨.ref s.heap.objs.size, _, I.laid (t' := s.toks) (o := .tup (xs ++ ys)) (fun b ob q => Heap.get?_push_of_some _ q) (Nat.le_refl _) ?_, rfl, q2 (fun w => z (r2.nil_iff.mpr w)) _ (I.hok.fresh (Nat.le_refl _))⟩
  exact ⟨by rw [List.length_append]; exact hz, _, r1.append r2, IsTup.new _ _⟩
end
noncomputable def ixN (n : Nat) (i : Int) : Option Nat := if 0 ≤ i then (if i < n then some i.toNat else none) else if -(n : Int) ≤ i then some (i + n).toNat else none
noncomputable def atI {α : Type} (xs : List α) (i : Int) : Option α := (ixN xs.length i).bind fun j => xs[j]?
theorem C0 {n : Nat} {i : Int} {j : Nat} (h : ixN n i = some j) : seqIndex? i n = some j ∧ j < n ∧ -(n : Int) ≤ i ∧ i < n := by
  unfold ixN at h
  by_cases h0 : 0 ≤ i
  · rw [if_pos h0] at h
    by_cases h1 : i < n
    · rw [if_pos h1] at h
      have e : i.toNat = j := Option.some.inj h
      exact ⟨by rw [seqIndex_of h0 h1, e], by omega, by omega, h1⟩
    · rw [if_neg h1] at h; cases h
  · rw [if_neg h0] at h
    by_cases h1 : -(n : Int) ≤ i
    · rw [if_pos h1] at h
      have e : (i + n).toNat = j := Option.some.inj h
      exact ⟨by rw [seqIndex_neg (by omega) h1, e], by omega, h1, by omega⟩
    · rw [if_neg h1] at h; cases h
theorem Jd {α : Type} {xs : List α} {i : Int} {v : α} (h : atI xs i = some v) : ∃ j, seqIndex? i xs.length = some j ∧ xs[j]? = some v ∧ j < xs.length ∧ -(xs.length : Int) ≤ i ∧ i < xs.length := by
  unfold atI at h
  cases e : ixN xs.length i with
  | none => rw [e] at h; cases h
  | some j =>
    rw [e] at h
    obtain ⟨h1, h2, h3, h4⟩ := C0 e
    exact ⟨j, h1, h, h2, h3, h4⟩
theorem Pv {α : Type} {xs : List α} {j : Nat} {v : α} (h : xs[j]? = some v) : atI xs (j : Int) = some v := by
  have hj : j < xs.length := (List.getElem?_eq_some_iff.mp h).1
  have e : ixN xs.length (j : Int) = some j := by
    unfold ixN
    rw [if_pos (by omega), if_pos (by omega)]; simp
  unfold atI; rw [e]; exact h
theorem Pf {α : Type} (xs : List α) (v : α) : atI (xs ++ [v]) (-1) = some v := by
  have hl : (xs ++ [v]).length = xs.length + 1 := by simp
  have e : ixN (xs ++ [v]).length (-1) = some xs.length := by
    unfold ixN
    rw [hl, if_neg (by decide), if_pos (by omega)]
    congr 1
    omega
  unfold atI
  rw [e]
  show (xs ++ [v])[xs.length]? = some v
  simp
def Z10 (b : Expr) : Prop := ∀ o i, subscripted b false o i = operate [o, i] (getItem o i)
def IxR (X : Cx) (r : R2) : Prop :=
  ∀ (value slice : Expr) (pins : List (Addr × Obj)) (s : Shared) (σ : St) (H : Hp) (x y : V) (v u : Value) (Q : VK), Inv X pins σ H s → RelV x v → RelV y u → r x y H Q →
    subscripted slice false v u = operate [v, u] (getItem v u) → wpAny (model X.prog X.w) X.A (subscriptTail value slice v u) (EP X pins σ Q) X.xe s
def MtR (X : Cx) (id : String) (r : V → List V → Hp → VK → Prop) : Prop :=
  ∀ (pins : List (Addr × Obj)) (s : Shared) (σ : St) (H : Hp) (x : V) (xs : List V) (v : Value) (us : List Value) (Q : VK), Inv X pins σ H s → RelV x v → Vals xs us → r x xs H Q →
    wpAny (model X.prog X.w) X.A (call (.builtin id) (v :: us)) (EP X pins σ Q) X.xe s
section
variable {X : Cx} {a b : Expr} {ta tb : TE} {pos : Pos}
theorem Y03 {r : R2} (hr : IxR X r) (ha : PE X a ta) (hb : PE X b tb) (hs : Z10 b) : PE X (.Subscript a b pos) (tOp r ta tb) := by
  intro pins s σ H Q I h
  exact Subscript_ (binT ha hb I h fun v u s2 x y H2 I2 rx ry q => hr a b pins s2 σ H2 x y v u Q I2 rx ry q (hs _ _))
def rIxL (K : PySem.W.Frag) : R2 := fun x y H Q => ∃ p xs i v, x = .ref p ∧ y = .int i ∧ SqL K H p xs ∧ atI xs i = some v ∧ Q v H
def rIxT (K : PySem.W.Frag) : R2 := fun x y H Q => ∃ p xs i v, x = .ref p ∧ y = .int i ∧ SqT K H p xs ∧ atI xs i = some v ∧ Q v H
def rIxS : R2 := fun x y H Q => ∃ z i c, x = .str z ∧ y = .int i ∧ z.length ≤ sizeLine ∧ atI z.cps.toList i = some c ∧ Q (.str ⟨#[c]⟩) H
theorem Zl7 : IxR X (rIxL X.K) := by
  intro value slice pins s σ H x y v u Q I rx ry h hs
  obtain ⟨p, xs, i, z, rfl, rfl, hq, he, q⟩ := h
  cases rx
  obtain ⟨t, rfl⟩ := ry
  obtain ⟨its, r, pl, hz⟩ := I.list hq
  obtain ⟨j, h1, h2, h3, h4, h5⟩ := Jd he
  obtain ⟨w, ew, rw'⟩ := r.get h2
  have hl := r.length
  have hn := S0
  have fin : EP X pins σ Q w s := ⟨z, H, I, rw', q⟩
  by_cases h0 : 0 ≤ i
  · have hj : i.toNat = j := by
      rw [seqIndex_of h0 h5] at h1
      exact Option.some.inj h1
    exact item_listR pl.isList h0 (by omega) (by rw [hj]; simpa using ew) fin hs
  · have hj : (i + (its.toArray.size : Int)).toNat = j := by
      rw [seqIndex_neg (by omega) h4] at h1
      rw [List.size_toArray, ← hl]
      exact Option.some.inj h1
    exact subscriptTail_builtinR (x := w) pl.isList.typeIs slot_list_getitem.lookup
      (wpAny_getItem_list_neg (Q := fun r s' => r = w ∧ EP X pins σ Q r s') pl.isList (by omega) (by rw [List.size_toArray] <;> omega) (by omega) (by rw [hj]; simpa using ew) ⟨rfl, fin⟩) hs
theorem Zf4 : IxR X (rIxT X.K) := by
  intro value slice pins s σ H x y v u Q I rx ry h hs
  obtain ⟨p, xs, i, z, rfl, rfl, hq, he, q⟩ := h
  cases rx
  obtain ⟨t, rfl⟩ := ry
  obtain ⟨its, r, pl, hz⟩ := I.tuple hq
  obtain ⟨j, h1, h2, h3, h4, h5⟩ := Jd he
  obtain ⟨w, ew, rw'⟩ := r.get h2
  have hl := r.length
  have hn := S0
  have fin : EP X pins σ Q w s := ⟨z, H, I, rw', q⟩
  exact subscriptTail_builtinR (x := w) pl.typeIs slot_tuple_getitem.lookup
    (getItem_tuple (j := j) (Q := fun r s' => r = w ∧ EP X pins σ Q r s') pl (by omega) (by omega) (by rw [List.size_toArray, ← hl]; exact h1) (by simpa using ew) ⟨rfl, fin⟩) hs
theorem Zv2 : IxR X rIxS := by
  intro value slice pins s σ H x y v u Q I rx ry h hs
  obtain ⟨z, i, c, rfl, rfl, hz, he, q⟩ := h
  obtain ⟨t, rfl⟩ := rx
  obtain ⟨t', rfl⟩ := ry
  obtain ⟨j, h1, h2, h3, h4, h5⟩ := Jd he
  have hl : z.cps.toList.length = z.length := by simp [Str.length]
  rw [hl] at h1 h4 h5
  have hn := S0
  exact tail_any (typeIs_str s z t) slot_str_getitem.lookup (getItem_str (c := c) (by
    have e1 : decide (i < -(2 ^ 63 : Int)) = false := decide_eq_false (by omega)
    have e2 : decide (i ≥ 2 ^ 63) = false := decide_eq_false (by omega)
    rw [e1, e2, Bool.or_false]) (by rw [h1]; simpa using h2) ⟨.str ⟨#[c]⟩, H, I.tok _, ⟨_, rfl⟩, q⟩) hs
theorem Fn (its : List Value) (n j : Nat) (u : Value) : Obj.mapSeq (·.setIfInBounds j u) { cls := .type "list", data := .seq its.toArray n } = { cls := .type "list", data := .seq (its.set j u).toArray n } := by
  simp [Obj.mapSeq]
theorem Inv.lst {pins : List (Addr × Obj)} {σ : St} {H : Hp} {s : Shared} {p : Addr} {xs : List V} (I : Inv X pins σ H s) (h : H p = some (.lst xs)) :
    ∃ (its : List Value) (n : Nat), Vals xs its ∧ s.heap.get? p = some { cls := .type "list", data := .seq its.toArray n } ∧ xs.length ≤ sizeLine := by
  obtain ⟨z, its, n, r, e⟩ := I.hok p _ h
  exact ⟨its, n, r, e, z⟩
theorem Inv.lstUpd {pins : List (Addr × Obj)} {σ : St} {H : Hp} {s : Shared} {p : Addr} {xs ys : List V} {its its' : List Value} {n n' : Nat} {f : Obj → Obj} (I : Inv X pins σ H s) (h : H p = some (.lst xs))
    (ho : s.heap.get? p = some { cls := .type "list", data := .seq its.toArray n }) (hf : f { cls := .type "list", data := .seq its.toArray n } = { cls := .type "list", data := .seq its'.toArray n' }) (r : Vals ys its') (hz : ys.length ≤ sizeLine) (t : Nat) :
    Inv X pins σ (upd H p (.lst ys)) { s with heap := s.heap.update p f, toks := t } := by
  have e : (s.heap.update p f).get? p = some { cls := .type "list", data := .seq its'.toArray n' } := by
    rw [Heap.get?_update_self f ho (by rw [hf] <;> rfl), hf]
  refine I.write (x := p) (e := p) (by rw [h]; trivial) (.inl rfl) (fun b u hb q => (Heap.get?_update_other _ _ (Ne.symm hb)).trans q) ⟨_, e⟩ ?_
  exact ⟨hz, its', n', r, e⟩
def Zu1 : V → V → V → Hp → (Hp → Prop) → Prop := fun o i v H Q => ∃ p xs k j, o = .ref p ∧ i = .int k ∧ H p = some (.lst xs) ∧ ixN xs.length k = some j ∧ Q (upd H p (.lst (xs.set j v)))
theorem Z62 : PSet X Zu1 := by
  intro pins s σ H o i v ov iv u Q I ro ri rv h
  obtain ⟨p, xs, k, j, rfl, rfl, hp, hj, q⟩ := h
  cases ro
  obtain ⟨t, rfl⟩ := ri
  obtain ⟨its, n, r, ho, hz⟩ := I.lst hp
  obtain ⟨h1, h2, h3, h4⟩ := C0 hj
  have hl := r.length
  have hn := S0
  have I' : Inv X pins σ (upd H p (.lst (xs.set j v))) { s with heap := s.heap.update p (Obj.mapSeq (·.setIfInBounds j u)) } :=
    I.lstUpd hp ho (Fn its n j u) (r.set rv j) (by rw [List.length_set]; exact hz) s.toks
  by_cases h0 : 0 ≤ k
  · have hk : k.toNat = j := by
      rw [seqIndex_of h0 h4] at h1
      exact Option.some.inj h1
    exact PySem.W.ki_setAt ho h0 (by omega) (by rw [List.size_toArray, ← hl]; exact h4) (by rw [hk]; exact ⟨_, I', q⟩)
  · have hk : (k + (its.toArray.size : Int)).toNat = j := by
      rw [seqIndex_neg (by omega) h3] at h1
      rw [List.size_toArray, ← hl]
      exact Option.some.inj h1
    exact PySem.W.ki_setBack ho (by omega) (by rw [List.size_toArray, ← hl]; exact h3) (by omega) (by rw [hk]; exact ⟨_, I', q⟩)
theorem Nj (lo hi : Option Int) (n : Nat) : (sliceBounds lo hi none n).1 = ((HT.sIx n 0 lo : Nat) : Int) ∧ (sliceBounds lo hi none n).2.1 = ((HT.sIx n n hi : Nat) : Int) ∧ (sliceBounds lo hi none n).2.2 = 1 := by
  refine ⟨?_, ?_, rfl⟩
  · cases lo with
    | none => simp [sliceBounds, HT.sIx]
    | some i =>
      simp only [sliceBounds, HT.sIx, Option.getD_none, show (1 : Int) > 0 by decide, if_true]
      by_cases h : i < 0
      · simp only [h, if_true] <;> omega
      · simp only [h, if_false] <;> omega
  · cases hi with
    | none => simp [sliceBounds, HT.sIx]
    | some i =>
      simp only [sliceBounds, HT.sIx, Option.getD_none, show (1 : Int) > 0 by decide, if_true]
      by_cases h : i < 0
      · simp only [h, if_true] <;> omega
      · simp only [h, if_false] <;> omega
theorem O3 (its : List Value) (lo hi : Option Int) : slicePick its.toArray lo hi none = ((its.drop (HT.sIx its.length 0 lo)).take (HT.sIx its.length its.length hi - HT.sIx its.length 0 lo)).toArray := by
  obtain ⟨h1, h2, h3⟩ := Nj lo hi its.toArray.size
  unfold slicePick
  rw [h1, h2, h3]
  simp only [sliceRange_one, pick_run, List.size_toArray] <;> rfl
def rSlL (K : PySem.W.Frag) : V → Option Int → Option Int → Hp → VK → Prop := fun x lo hi H Q => ∃ a xs, x = .ref a ∧ SqL K H a xs ∧ ∀ p, H p = none → Q (.ref p) (upd H p (.lst (cutV xs lo hi)))
theorem Zj8 : SlR X (rSlL X.K) := by
  intro pins s σ H x v vl vu lo hi sl Q I rx hs pl pu h
  obtain ⟨a, xs, rfl, hx, q⟩ := h
  cases rx
  obtain ⟨its, r, ht, hz⟩ := I.list hx
  have hlen := r.length
  refine ⟨"list", _, slot_list_getitem.lookup, ht.isList.typeIs, ?_⟩
  refine wpAny_getItem_list_slice ht.isList hs pl pu .none (by simp) ?_ (by rw [List.size_toArray] <;> omega)
  rw [O3, ← hlen]
  refine ⟨.ref s.heap.objs.size, _, I.laid (t' := s.toks) (o := .lst (cutV xs lo hi)) (fun b ob q => Heap.get?_push_of_some _ q) (Nat.le_refl _) ?_, rfl, q _ (I.hok.fresh (Nat.le_refl _))⟩
  exact ⟨Nat.le_trans (Re xs lo hi) hz, _, 0, (r.drop (HT.sIx xs.length 0 lo)).take (HT.sIx xs.length xs.length hi - HT.sIx xs.length 0 lo), Heap.get?_push_size _ rfl⟩
noncomputable def Tq : V → Bool
  | .non => true
  | .bl _ => true
  | .int _ => true
  | .str _ => true
  | _ => false
noncomputable def eqV : V → V → Bool
  | .non, .non => true
  | .bl a, .bl b => a == b
  | .bl a, .int b => (if a then 1 else 0) == b
  | .int a, .bl b => a == (if b then 1 else 0)
  | .int a, .int b => a == b
  | .str a, .str b => a == b
  | _, _ => false
theorem Zd7 {A : Around} {s : Shared} {y x : V} {u v : Value} (ry : RelV y u) (rx : RelV x v) (fy : Tq y = true) (fx : Tq x = true) : SeqAt.EqAt A s u v (eqV y x) := by
  cases y with
  | non =>
    cases ry
    cases x with
    | non => cases rx; exact SeqAt.EqAt.same _
    | bl b => cases rx; exact SeqAt.EqAt.none_bool b
    | int b => obtain ⟨t, rfl⟩ := rx; exact SeqAt.EqAt.none_int b t
    | str b => obtain ⟨t, rfl⟩ := rx; exact SeqAt.EqAt.none_str b t
    | _ => exact absurd (show false = true from fx) Bool.false_ne_true
  | bl a =>
    cases ry
    cases x with
    | non => cases rx; exact SeqAt.EqAt.bool_none a
    | bl b => cases rx; exact SeqAt.EqAt.bool_bool a b
    | int b => obtain ⟨t, rfl⟩ := rx; exact SeqAt.EqAt.bool_int a b t
    | str b => obtain ⟨t, rfl⟩ := rx; exact SeqAt.EqAt.bool_str a b t
    | _ => exact absurd (show false = true from fx) Bool.false_ne_true
  | int a =>
    obtain ⟨t', rfl⟩ := ry
    cases x with
    | non => cases rx; exact SeqAt.EqAt.int_none a t'
    | bl b => cases rx; exact SeqAt.EqAt.int_bool a t' b
    | int b => obtain ⟨t, rfl⟩ := rx; exact SeqAt.EqAt.int_int a t' b t
    | str b => obtain ⟨t, rfl⟩ := rx; exact SeqAt.EqAt.int_str a t' b t
    | _ => exact absurd (show false = true from fx) Bool.false_ne_true
  | str a =>
    obtain ⟨t', rfl⟩ := ry
    cases x with
    | non => cases rx; exact SeqAt.EqAt.str_none a t'
    | bl b => cases rx; exact SeqAt.EqAt.str_bool a t' b
    | int b => obtain ⟨t, rfl⟩ := rx; exact SeqAt.EqAt.str_int a t' b t
    | str b => obtain ⟨t, rfl⟩ := rx; exact SeqAt.EqAt.str_str a t' b t
    | _ => exact absurd (show false = true from fx) Bool.false_ne_true
  | _ => exact absurd (show false = true from fy) Bool.false_ne_true
noncomputable def eqU (x : V) (u : Value) : Bool := match u with
  | .none => eqV .non x
  | .bool b => eqV (.bl b) x
  | .int i _ => eqV (.int i) x
  | .str z _ => eqV (.str z) x
  | _ => false
theorem Eu {x y : V} {u : Value} (r : RelV y u) (f : Tq y = true) : eqU x u = eqV y x := by
  cases y with
  | non => cases r; rfl
  | bl b => cases r; rfl
  | int i => obtain ⟨t, rfl⟩ := r; rfl
  | str z => obtain ⟨t, rfl⟩ := r; rfl
  | _ => exact absurd (show false = true from f) Bool.false_ne_true
theorem R7 {x : V} : ∀ {xs : List V} {us : List Value}, Vals xs us → xs.all Tq = true → us.any (eqU x) = xs.any fun y => eqV y x
  | _, _, .nil, _ => rfl
  | y :: xs, u :: us, .cons r t, f => by
    rw [List.all_cons, Bool.and_eq_true] at f
    rw [List.any_cons, List.any_cons, Eu r f.1, R7 t f.2]
theorem V8 {A : Around} {s : Shared} {x : V} {v : Value} (rx : RelV x v) (fx : Tq x = true) : ∀ {xs : List V} {us : List Value}, Vals xs us → xs.all Tq = true → ∀ u ∈ us, SeqAt.EqAt A s u v (eqU x u)
  | _, _, .nil, _ => fun u hu => by cases hu
  | y :: xs, u :: us, .cons r t, f => fun u' hu => by
    rw [List.all_cons, Bool.and_eq_true] at f
    rcases List.mem_cons.mp hu with rfl | hu
    · rw [Eu r f.1]; exact Zd7 r rx f.1 fx
    · exact V8 rx fx t f.2 u' hu
noncomputable def inV (x : V) (xs : List V) : Bool := xs.any fun y => eqV y x
def rIn (K : PySem.W.Frag) (neg : Bool) : R2 := fun x y H Q => ∃ p xs, y = .ref p ∧ (SqL K H p xs ∨ SqT K H p xs) ∧ Tq x = true ∧ xs.all Tq = true ∧ Q (.bl (if neg then !inV x xs else inV x xs)) H
theorem Cr : OpR X (compareOp .In) (rIn X.K false) := by
  intro pins s σ H x y v u Q I rx ry h
  obtain ⟨p, xs, rfl, hq, fx, fs, q⟩ := h
  cases ry
  rcases hq with hq | hq
  · obtain ⟨its, r, pl, hz⟩ := I.list hq
    refine SeqAt.in_listAt (eqU x) pl.isList (fun w hw => V8 rx fx r fs w (by simpa using hw)) ⟨.bl _, H, I, rfl, ?_⟩
    rw [show its.toArray.any (eqU x) = its.any (eqU x) by simp, R7 r fs]
    exact q
  · obtain ⟨its, r, pl, hz⟩ := I.tuple hq
    refine SeqAt.in_tupleAt (eqU x) pl (fun w hw => V8 rx fx r fs w (by simpa using hw)) ⟨.bl _, H, I, rfl, ?_⟩
    rw [show its.toArray.any (eqU x) = its.any (eqU x) by simp, R7 r fs]
    exact q
theorem Ol : OpR X (compareOp .NotIn) (rIn X.K true) := by
  intro pins s σ H x y v u Q I rx ry h
  obtain ⟨p, xs, rfl, hq, fx, fs, q⟩ := h
  cases ry
  rcases hq with hq | hq
  · obtain ⟨its, r, pl, hz⟩ := I.list hq
    refine SeqAt.notIn_listAt (eqU x) pl.isList (fun w hw => V8 rx fx r fs w (by simpa using hw)) ⟨.bl _, H, I, rfl, ?_⟩
    rw [show its.toArray.any (eqU x) = its.any (eqU x) by simp, R7 r fs]
    exact q
  · obtain ⟨its, r, pl, hz⟩ := I.tuple hq
    refine SeqAt.notIn_tupleAt (eqU x) pl (fun w hw => V8 rx fx r fs w (by simpa using hw)) ⟨.bl _, H, I, rfl, ?_⟩
    rw [show its.toArray.any (eqU x) = its.any (eqU x) by simp, R7 r fs]
    exact q
theorem S7 : Vs X (.builtin "len") (fun xs H Q => ∃ p ys, xs = [.ref p] ∧ (SqL X.K H p ys ∨ SqT X.K H p ys) ∧ Q (.int ys.length) H) := by
  intro pins s σ H xs us Q I r h
  obtain ⟨p, ys, rfl, hq, q⟩ := h
  obtain ⟨u, rfl, rx⟩ := O5 r
  cases rx
  have hn := S0
  rcases hq with hq | hq
  · obtain ⟨its, r', pl, hz⟩ := I.list hq
    have hlen := r'.length
    exact Calls.call_len_list pl.isList (by simp only [List.size_toArray] <;> omega) ⟨.int ys.length, H, I.tok _, ⟨s.toks + 1, by rw [List.size_toArray, hlen]⟩, q⟩
  · obtain ⟨its, r', pl, hz⟩ := I.tuple hq
    have hlen := r'.length
    exact len_tuple pl (by simp only [List.size_toArray] <;> omega) ⟨.int ys.length, H, I.tok _, ⟨s.toks + 1, by rw [List.size_toArray, hlen]⟩, q⟩
theorem Ow : Vs X (.builtin "len") (fun xs H Q => ∃ z, xs = [.str z] ∧ z.length ≤ sizeLine ∧ Q (.int z.length) H) := by
  intro pins s σ H xs us Q I r h
  obtain ⟨z, rfl, hz, q⟩ := h
  obtain ⟨u, rfl, t, rfl⟩ := O5 r
  have hn := S0
  exact len_str (by omega) ⟨.int z.length, H, I.tok _, ⟨_, rfl⟩, q⟩
theorem Oe : Vs X (.type "list") (fun xs H Q => ∃ p ys, xs = [.ref p] ∧ (SqL X.K H p ys ∨ SqT X.K H p ys) ∧ ∀ l, H l = none → Q (.ref l) (upd H l (.lst ys))) := by
  intro pins s σ H xs us Q I r h
  obtain ⟨p, ys, rfl, hq, q⟩ := h
  obtain ⟨u, rfl, rx⟩ := O5 r
  cases rx
  have fin : ∀ (its : List Value), Vals ys its → ys.length ≤ sizeLine → ∀ (h' : Heap) (c' : Nat), (∀ b o', s.heap.get? b = some o' → h'.get? b = some o') →
      h'.get? s.heap.objs.size = some { cls := .type "list", dict := none, data := .seq its.toArray c', slots := #[] } → EP X pins σ Q (.ref s.heap.objs.size) { s with heap := h' } := fun its r' hz h' c' kp e =>
    ⟨.ref s.heap.objs.size, _, I.laid (t' := s.toks) kp (Nat.le_refl _) (show X6 X.prog X.w _ h' _ (.lst ys) from ⟨hz, its, c', r', e⟩), rfl, q _ (I.hok.fresh (Nat.le_refl _))⟩
  rcases hq with hq | hq
  · obtain ⟨its, r', pl, hz⟩ := I.list hq
    have hlen := r'.length
    obtain ⟨o, ho, hc, n, hd⟩ := pl.isList
    exact call_list_seq p (.inl rfl) ho hc hd (fun h' c' kp e => fin its r' hz h' c' kp e) (by simp only [List.size_toArray] <;> omega)
  · obtain ⟨its, r', pl, hz⟩ := I.tuple hq
    have hlen := r'.length
    obtain ⟨o, ho, hc, n, hd⟩ := pl
    exact call_list_seq p (.inr rfl) ho hc hd (fun h' c' kp e => fin its r' hz h' c' kp e) (by simp only [List.size_toArray] <;> omega)
theorem Ps : Vs X (.type "tuple") (fun xs H Q => ∃ p ys, xs = [.ref p] ∧ ((SqL X.K H p ys ∧ ∀ l, H l = none → Q (.ref l) (upd H l (.tup ys))) ∨ (SqT X.K H p ys ∧ Q (.ref p) H))) := by
  intro pins s σ H xs us Q I r h
  obtain ⟨p, ys, rfl, h⟩ := h
  obtain ⟨u, rfl, rx⟩ := O5 r
  cases rx
  rcases h with ⟨hq, q⟩ | ⟨hq, q⟩
  · obtain ⟨its, r', pl, hz⟩ := I.list hq
    have hlen := r'.length
    refine call_tuple_list pl.isList (fun h' kp => ?_) (by simp only [List.size_toArray] <;> omega)
    have I1 : Inv X pins σ H { s with heap := h' } := I.kept (t' := s.toks) kp
    have I2 : Inv X pins σ (upd H h'.objs.size (.tup ys)) { s with heap := h'.push { cls := .type "tuple", data := .seq its.toArray } } :=
      I1.laid (t' := s.toks) (fun b o e => Heap.get?_push_of_some _ e) (Nat.le_refl _) (show X6 X.prog X.w _ _ _ (.tup ys) from ⟨hz, its, r', IsTup.new _ _⟩)
    exact ⟨.ref h'.objs.size, _, I2, rfl, q _ (I1.hok.fresh (Nat.le_refl _))⟩
  · obtain ⟨its, r', pl, hz⟩ := I.tuple hq
    exact call_tuple_same pl ⟨.ref p, H, I, rfl, q⟩
def tyV (K : PySem.W.Frag) (T : String) (x : V) (H : Hp) : Prop := match x with
  | .str _ => T = "str"
  | .int _ => T = "int"
  | .ref p => (T = "list" ∧ ∃ xs, SqL K H p xs) ∨ (T = "tuple" ∧ ∃ o, K.lookup p = some o ∧ o.cls = .type "tuple" ∧ o.dict = none) ∨
      (T = "dict" ∧ ((∃ kvs, H p = some (.dK kvs)) ∨ ∃ kvs, H p = some (.dT kvs))) ∨ (T = "set" ∧ ∃ S n, H p = some (.set S n))
  | _ => False
theorem Zd5 {pins : List (Addr × Obj)} {σ : St} {H : Hp} {s : Shared} {T : String} {x : V} {v : Value} (I : Inv X pins σ H s) (r : RelV x v) (ty : tyV X.K T x H) :
    s.TypeIs v T ∧ ∀ a, v = .ref a → ∃ ob, s.heap.get? a = some ob ∧ ob.dict = none := by
  cases x with
  | str z =>
    obtain ⟨t, rfl⟩ := r
    cases (show T = "str" from ty)
    exact ⟨typeIs_str s z t, fun _ e => nomatch e⟩
  | int i =>
    obtain ⟨t, rfl⟩ := r
    cases (show T = "int" from ty)
    exact ⟨typeIs_int s i t, fun _ e => nomatch e⟩
  | ref p =>
    cases r
    rcases ty with ⟨rfl, xs, hq⟩ | ⟨rfl, o, hk, hc, hd⟩ | ⟨rfl, hk⟩ | ⟨rfl, S, n, hk⟩
    · obtain ⟨its, _, pl, _⟩ := I.list hq
      refine ⟨pl.isList.typeIs, fun a e => ?_⟩
      cases e
      obtain ⟨o, n, e, c, hd, _⟩ := pl
      exact ⟨o, e, hd⟩
    · refine ⟨⟨o, I.kIn p o hk, hc⟩, fun a e => ?_⟩
      cases e
      exact ⟨o, I.kIn _ o hk, hd⟩
    · have z : ∃ o, s.heap.get? p = some o ∧ o.ExactDict := by
        rcases hk with ⟨kvs, hk⟩ | ⟨kvs, hk⟩
        · obtain ⟨_, _, _, _, o, _, _, e, ex, _⟩ := I.hok p _ hk
          exact ⟨o, e, ex⟩
        · obtain ⟨_, _, _, _, o, _, _, e, ex, _⟩ := I.hok p _ hk
          exact ⟨o, e, ex⟩
      obtain ⟨o, e, ex⟩ := z
      refine ⟨⟨o, e, ex.1⟩, fun a e2 => ?_⟩
      cases e2
      exact ⟨o, e, ex.2.1⟩
    · obtain ⟨o, _, _, _, e, ex, _⟩ := I.hok p _ hk
      refine ⟨⟨o, e, ex.1⟩, fun a e2 => ?_⟩
      cases e2
      exact ⟨o, e, ex.2.1⟩
  | _ => exact False.elim ty
def tBM0 (K : PySem.W.Frag) (T : String) (r : V → List V → Hp → VK → Prop) (to : TE) : TE := fun σ H Q => to σ H fun x H1 => tyV K T x H1 ∧ r x [] H1 Q
def tBM (K : PySem.W.Frag) (T : String) (r : V → List V → Hp → VK → Prop) (to : TE) (t : TA) : TE := fun σ H Q => to σ H fun x H1 => tyV K T x H1 ∧ t σ H1 fun xs H2 => r x xs H2 Q
variable {o e : Expr} {es : List Expr} {to : TE} {t : TA} {name : Str} {apos cpos : Pos} {T id : String} {r : V → List V → Hp → VK → Prop}
theorem Zp0 (pa : PlainAttrs T) (slot : Slot T name id) (hty : typeOf (.builtin id) = pure (.type "method_descriptor")) (hm : MtR X id r) (ho : PE X o to)
    (hbase : attributeBase o name X.env (eval o X.env) = eval o X.env := by rfl) (hline : (apos.endLine == cpos.line) = true := by rfl) : PE X (.Call (.Attribute o name apos) [] [] cpos) (tBM0 X.K T r to) := by
  intro pins s σ H Q I h
  refine wpAny_Call_method0_late hbase hline (thn (ho pins s σ H _ I h) fun v s1 zz38 => ?_)
  obtain ⟨x, H1, I1, r1, ty, q1⟩ := zz38
  obtain ⟨h1, h2⟩ := Zd5 I1 r1 ty
  exact ⟨T, id, pa, slot, hty, h1, h2, Calls.callWith_builtin rfl (PySem.evalArgs_none (hm pins s1 σ H1 x [] v [] Q I1 r1 .nil q1))⟩
theorem Y12 (pa : PlainAttrs T) (slot : Slot T name id) (hty : typeOf (.builtin id) = pure (.type "method_descriptor")) (hm : MtR X id r) (ho : PE X o to) (ha : PA X (e :: es) t)
    (hbase : attributeBase o name X.env (eval o X.env) = eval o X.env := by rfl)
    (hfew : ((backTo cpos (starEach (e :: es) X.env)).all (fun x => !x.1) && (backToKw cpos (keywordEach [] X.env)).all (fun x => x.1.isSome)
      && decide ((e :: es).length + ([] : List Keyword).length + (if ([] : List Keyword).isEmpty then 0 else 1) < 30)) = true := by rfl)
    (hline : (apos.endLine == cpos.line) = true := by rfl) (hs : starEach (e :: es) X.env = (false, eval e X.env) :: starEach es X.env := by rfl) (hplain : (backTo cpos (starEach es X.env)).any (·.1) = false := by rfl) :
    PE X (.Call (.Attribute o name apos) (e :: es) [] cpos) (tBM X.K T r to t) := by
  intro pins s σ H Q I h
  refine wpAny_Call_method_late hbase hfew hline rfl (thn (ho pins s σ H _ I h) fun v s1 zz39 => ?_)
  obtain ⟨x, H1, I1, r1, ty, q1⟩ := zz39
  obtain ⟨h1, h2⟩ := Zd5 I1 r1 ty
  refine ⟨T, id, pa, slot, hty, h1, h2, ?_⟩
  have hA := ha cpos pins s1 σ H1 _ I1 q1
  rw [hs] at hA ⊢
  refine Calls.callWith_builtin (by show (false || (backTo cpos (starEach es X.env)).any (·.1)) = false; rw [hplain] <;> rfl) (Calls.evalArgs_plain ?_)
  exact thn hA fun us s2 zz40 => by obtain ⟨vs, H2, I2, r2, q2⟩ := zz40; exact hm pins s2 σ H2 x vs v us Q I2 r1 r2 q2
/- xs.append(e), list.index on a module's tuple .. are MtR facts of 06m -/
end
def MtM (X : Cx) (id : String) (r : V → List V → Hp → VK → Prop) : Prop :=
  ∀ (pins : List (Addr × Obj)) (s : Shared) (σ : St) (H : Hp) (x : V) (xs : List V) (v : Value) (us : List Value) (Q : VK), Inv X pins σ H s → RelV x v → Vals xs us → r x xs H Q →
    wpAny (model X.prog X.w) X.A (call (.builtin id) (v :: us)) (EP X pins σ Q) X.xe s
theorem Vals.one : ∀ {x : V} {us : List Value}, Vals [x] us → ∃ u, us = [u] ∧ RelV x u
  | _, _, .cons r .nil => ⟨_, rfl, r⟩
theorem Vals.zero : ∀ {us : List Value}, Vals [] us → us = []
  | _, .nil => rfl
theorem Vals.dropLast {xs : List V} {us : List Value} (h : Vals xs us) : Vals xs.dropLast us.dropLast := by
  induction h with
  | nil => exact .nil
  | cons r t ih =>
    cases t with
    | nil => exact .nil
    | cons q t' => exact .cons r ih
theorem Vals.reverse {xs : List V} {us : List Value} (h : Vals xs us) : Vals xs.reverse us.reverse := by
  induction h with
  | nil => exact .nil
  | cons r t ih => rw [List.reverse_cons, List.reverse_cons]; exact Vals.append ih (.cons r .nil)
theorem Vals.rep {xs : List V} {us : List Value} (h : Vals xs us) : ∀ k : Nat, Vals (List.replicate k xs).flatten (List.replicate k us).flatten
  | 0 => .nil
  | k + 1 => by
    rw [List.replicate_succ, List.replicate_succ, List.flatten_cons, List.flatten_cons]
    exact Vals.append h (Vals.rep h k)
theorem Fp {α : Type} (l : List α) : l.eraseIdx (l.length - 1) = l.dropLast := by
  induction l with
  | nil => rfl
  | cons a r ih =>
    cases r with
    | nil => rfl
    | cons b r =>
      have e : (a :: b :: r).length - 1 = ((b :: r).length - 1) + 1 := by
        have h1 : (a :: b :: r).length = r.length + 2 := rfl
        have h2 : (b :: r).length = r.length + 1 := rfl
        omega
      rw [e, List.eraseIdx_cons_succ, ih]
      all_goals rfl
theorem N5 (its : List Value) : ∀ (k : Nat) (acc : List Value),
    List.foldl (fun x1 x2 => x1 ++ x2) acc.toArray (List.replicate k its.toArray) = (acc ++ (List.replicate k its).flatten).toArray
  | 0, acc => by simp
  | k + 1, acc => by
    have e : acc.toArray ++ its.toArray = (acc ++ its).toArray := by simp
    have e2 : (acc ++ its) ++ (List.replicate k its).flatten = acc ++ (List.replicate (k + 1) its).flatten := by
      rw [List.replicate_succ, List.flatten_cons, List.append_assoc]
    rw [← e2, ← N5 its k (acc ++ its), ← e, List.replicate_succ, List.foldl_cons]
section
variable {X : Cx} {pins : List (Addr × Obj)} {σ : St} {H : Hp} {s : Shared} {l b : Addr} {xs ys zs : List V}
theorem Inv.lset {its its' : List Value} {n : Nat} {f : Array Value → Array Value} {t' : Nat} (I : Inv X pins σ H s) (hH : H l = some (.lst xs))
    (e : s.heap.get? l = some { cls := .type "list", data := .seq its.toArray n }) (hf : f its.toArray = its'.toArray) (hv : Vals ys its') (hz : ys.length ≤ sizeLine) :
    Inv X pins σ (upd H l (.lst ys)) { s with heap := s.heap.update l (Obj.mapSeq f), toks := t' } := by
  have q := PySem.IsL.update e f
  rw [hf] at q
  refine I.write (x := l) (e := l) (by rw [hH]; exact trivial) (.inl rfl) (fun b' u hb hu => (Heap.get?_update_other s.heap (Obj.mapSeq f) (Ne.symm hb)).trans hu) ⟨_, q⟩ ?_
  exact ⟨hz, its', _, hv, q⟩
theorem Inv.lnew {its : List Value} {t' : Nat} (I : Inv X pins σ H s) (hv : Vals ys its) (hz : ys.length ≤ sizeLine) :
    Inv X pins σ (upd H s.heap.objs.size (.lst ys)) { s with heap := s.heap.push { cls := .type "list", data := .seq its.toArray }, toks := t' } :=
  I.laid (fun _ _ q => Heap.get?_push_of_some _ q) (Nat.le_refl _) ⟨hz, its, 0, hv, Heap.get?_push_size _ rfl⟩
theorem Inv.fresh (I : Inv X pins σ H s) : H s.heap.objs.size = none := I.hok.fresh (Nat.le_refl _)
theorem Inv.lstM (I : Inv X pins σ H s) (hH : H l = some (.lst xs)) : xs.length ≤ sizeLine ∧ ∃ (its : List Value) (n : Nat), Vals xs its ∧ xs.length = its.length ∧ s.heap.get? l = some { cls := .type "list", data := .seq its.toArray n } := by
  obtain ⟨z, its, n, r, e⟩ := I.hok l _ hH
  exact ⟨z, its, n, r, r.length, e⟩
theorem Gi {n : Nat} (h : n ≤ sizeLine) : Builtin.List.listTooLong n = false := by
  unfold Builtin.List.listTooLong
  exact decide_eq_false (by omega)
end
section
variable {X : Cx}
def Zk2 : V → List V → Hp → VK → Prop := fun x vs H Q => ∃ l xs y, x = .ref l ∧ vs = [y] ∧ H l = some (.lst xs) ∧ xs.length < sizeLine ∧ Q .non (upd H l (.lst (xs ++ [y])))
theorem Rq : MtM X "list.append" Zk2 := by
  intro pins s σ H x vs v us Q I rx rv h
  obtain ⟨l, xs, y, rfl, rfl, hH, hz, q⟩ := h
  cases rx
  obtain ⟨u, rfl, ru⟩ := rv.one
  obtain ⟨z, its, n, r, hl, e⟩ := I.lstM hH
  refine call_meets F.slot_list_append ⟨_, e, rfl⟩ F.entry_list_append (F.args_list_append_2 _ _) (PySem.list_append l its.toArray n u (by rw [List.size_toArray]; omega)) ⟨e, ?_⟩
  refine ⟨.non, _, I.lset (its' := its ++ [u]) hH e (by simp) (r.append (.cons ru .nil)) ?_, rfl, q⟩
  rw [List.length_append, List.length_singleton]
  omega
def Zm5 : V → List V → Hp → VK → Prop := fun x vs H Q => ∃ l b xs zs, x = .ref l ∧ vs = [.ref b] ∧ H l = some (.lst xs) ∧ H b = some (.lst zs) ∧ xs.length + zs.length ≤ sizeLine ∧ Q .non (upd H l (.lst (xs ++ zs)))
theorem B9 : MtM X "list.extend" Zm5 := by
  intro pins s σ H x vs v us Q I rx rv h
  obtain ⟨l, b, xs, zs, rfl, rfl, hH, hB, hz, q⟩ := h
  cases rx
  obtain ⟨u, rfl, ru⟩ := rv.one
  cases ru
  obtain ⟨z, its, n, r, hl, e⟩ := I.lstM hH
  obtain ⟨z2, its2, n2, r2, hl2, e2⟩ := I.lstM hB
  have hsz : its.toArray.size + its2.toArray.size ≤ sizeLine := by rw [List.size_toArray, List.size_toArray]; omega
  have hlong : ¬ (!its.toArray.isEmpty && Builtin.List.listTooLong (its.toArray.size + its2.toArray.size)) = true := by
    rw [Gi hsz, Bool.and_false]
    exact Bool.false_ne_true
  refine call_meets F.slot_list_extend ⟨_, e, rfl⟩ F.entry_list_extend (F.args_list_extend_2 _ _)
    (AutoSeq1.list_extend_list_list_0 l its.toArray n b its2.toArray n2 hlong (by rw [List.size_toArray]; omega) (by omega)) ⟨e, e2, ?_⟩
  refine ⟨.non, _, I.lset (its' := its ++ its2) hH e (by simp) (r.append r2) ?_, rfl, q⟩
  rw [List.length_append]
  omega
def rPop : V → List V → Hp → VK → Prop := fun x vs H Q => ∃ l xs y, x = .ref l ∧ vs = [] ∧ H l = some (.lst xs) ∧ xs[xs.length - 1]? = some y ∧ Q y (upd H l (.lst xs.dropLast))
theorem Zv9 : MtM X "list.pop" rPop := by
  intro pins s σ H x vs v us Q I rx rv h
  obtain ⟨l, xs, y, rfl, rfl, hH, hy, q⟩ := h
  cases rx
  have hus := rv.zero
  subst hus
  obtain ⟨z, its, n, r, hl, e⟩ := I.lstM hH
  obtain ⟨u, hu, ru⟩ := r.get hy
  have hy' : its.toArray[its.toArray.size - 1]? = some u := by
    show its.toArray[its.length - 1]? = some u
    rw [← Array.getElem?_toList, ← hl]
    exact hu
  refine call_meets F.slot_list_pop ⟨_, e, rfl⟩ F.entry_list_pop (F.args_list_pop_1 _) (MeetsSeq.list_pop_last l its.toArray n u hy' (by rw [List.size_toArray]; omega)) ⟨e, ?_⟩
  refine ⟨y, _, I.lset (its' := its.dropLast) hH e ?_ r.dropLast ?_, ru, q⟩
  · show its.toArray.eraseIdxIfInBounds (its.toArray.size - 1) = its.dropLast.toArray
    rw [List.size_toArray, List.eraseIdxIfInBounds_toArray, Fp]
  · rw [List.length_dropLast]
    omega
def Za6 : V → List V → Hp → VK → Prop := fun x vs H Q => ∃ l xs, x = .ref l ∧ vs = [] ∧ H l = some (.lst xs) ∧ Q .non (upd H l (.lst xs.reverse))
theorem Fl : MtM X "list.reverse" Za6 := by
  intro pins s σ H x vs v us Q I rx rv h
  obtain ⟨l, xs, rfl, rfl, hH, q⟩ := h
  cases rx
  have hus := rv.zero
  subst hus
  obtain ⟨z, its, n, r, hl, e⟩ := I.lstM hH
  refine call_meets F.slot_list_reverse ⟨_, e, rfl⟩ F.entry_list_reverse (F.args_list_reverse_1 _) (AutoSeq1.list_reverse_list_0 l its.toArray n (by rw [List.size_toArray]; omega)) ⟨e, ?_⟩
  refine ⟨.non, _, I.lset (its' := its.reverse) hH e (by simp) r.reverse ?_, rfl, q⟩
  rw [List.length_reverse]
  omega
def rCat : R2 := fun x y H Q => ∃ l b xs zs, x = .ref l ∧ y = .ref b ∧ H l = some (.lst xs) ∧ H b = some (.lst zs) ∧ xs.length + zs.length ≤ sizeLine ∧ ∀ p, H p = none → Q (.ref p) (upd H p (.lst (xs ++ zs)))
theorem Zr0 : OpR X (binaryOp .Add) rCat := by
  intro pins s σ H x y v u Q I rx ry h
  obtain ⟨l, b, xs, zs, rfl, rfl, hH, hB, hz, q⟩ := h
  cases rx
  cases ry
  obtain ⟨z, its, n, r, hl, e⟩ := I.lstM hH
  obtain ⟨z2, its2, n2, r2, hl2, e2⟩ := I.lstM hB
  refine PySem.P.add_list e e2 ?_ (by rw [List.size_toArray, List.size_toArray]; omega)
  have ea : its.toArray ++ its2.toArray = (its ++ its2).toArray := by simp
  rw [ea]
  exact ⟨.ref _, _, I.lnew (t' := s.toks) (r.append r2) (by rw [List.length_append]; omega), rfl, q _ I.fresh⟩
def rRep : R2 := fun x y H Q => ∃ l k xs, x = .ref l ∧ y = .int k ∧ H l = some (.lst xs) ∧ -(2 ^ 63) ≤ k ∧ k < 2 ^ 63 ∧ xs.length * k.toNat ≤ sizeLine ∧
  ∀ p, H p = none → Q (.ref p) (upd H p (.lst (List.replicate k.toNat xs).flatten))
theorem Zj3 {α : Type} (xs : List α) (k : Nat) : (List.replicate k xs).flatten.length = k * xs.length := by
  induction k with
  | zero => simp
  | succ k ih => rw [List.replicate_succ, List.flatten_cons, List.length_append, ih, Nat.succ_mul, Nat.add_comm]
theorem Zu0 : OpR X (binaryOp .Mult) rRep := by
  intro pins s σ H x y v u Q I rx ry h
  obtain ⟨l, k, xs, rfl, rfl, hH, h1, h2, hz, q⟩ := h
  cases rx
  obtain ⟨t, rfl⟩ := ry
  obtain ⟨z, its, n, r, hl, e⟩ := I.lstM hH
  have hlen : its.toArray.size * k.toNat ≤ sizeLine := by rw [List.size_toArray, ← hl]; exact hz
  have hcap : ¬ its.toArray.size * k.toNat > (2 ^ 63 - 1) / 8 := by
    have : (sizeLine : Nat) ≤ (2 ^ 63 - 1) / 8 := by decide
    omega
  have hfit : ¬ (!Builtin.List.listFitsIndex k) = true := by
    rw [fitsIndex_both h1 h2]
    exact Bool.false_ne_true
  have hlong : ¬ Builtin.List.listTooLong (its.toArray.size * k.toNat) = true := by
    rw [Gi hlen]
    exact Bool.false_ne_true
  have hnew : List.foldl (fun x1 x2 => x1 ++ x2) #[] (List.replicate (if its.toArray.isEmpty = true then 0 else k.toNat) its.toArray) = (List.replicate k.toNat its).flatten.toArray := by
    have f0 : ∀ m : Nat, List.foldl (fun x1 x2 => x1 ++ x2) #[] (List.replicate m its.toArray) = (List.replicate m its).flatten.toArray := fun m => by
      have := N5 its m []
      rw [List.nil_append] at this
      exact this
    rw [f0]
    cases its with
    | nil => simp
    | cons a r' => rw [if_neg (by simp)]
  refine wpAny_binaryOp_repeat_ref (T := "list") (U := "int") (by decide) ⟨_, e, rfl⟩ (fun s' => typeIs_int s' k t) noFill_list_mul F.fills_int_mul F.slot_int_rmul repeat_list F.slot_int_index.lookup
    (call_meets F.slot_int_rmul (typeIs_int s k t) F.entry_int_rmul (F.args_int_rmul_2 _ _) (int___rmul___int_list k t l its.toArray n)
      ⟨e, rfl, ⟨_, e, rfl⟩, call_meets F.slot_list_mul ⟨_, e, rfl⟩ F.entry_list_mul (F.args_list_mul_2 _ _) (AutoListH.list___mul___list_int_3 l its.toArray n k t hfit hcap hlong) ⟨e, ?_⟩⟩)
  rw [hnew]
  exact ⟨.ref _, _, I.lnew (t' := s.toks) (r.rep k.toNat) (by rw [Zj3, Nat.mul_comm]; exact hz), rfl, q _ I.fresh⟩
end
section
variable {prog : Program} {w : World} {A : Around} {E : Value → Shared → Prop} {s : Shared}
set_option maxRecDepth 100000 in
end
section
variable {X : Cx}
end
section
variable {κ : Type} [DecidableEq κ]
noncomputable def valV (kvs : List (κ × V)) (k : κ) : Option V := (kvs.find? fun kv => decide (kv.1 = k)).map (·.2)
noncomputable def putK (kvs : List (κ × V)) (k : κ) (v : V) : List (κ × V) :=
  if (kvs.any fun kv => decide (kv.1 = k)) = true then kvs.map (fun kv => if kv.1 = k then (kv.1, v) else kv) else kvs ++ [(k, v)]
theorem O0 {p : κ × V} {r : List (κ × V)} {k : κ} (e : p.1 = k) : valV (p :: r) k = some p.2 := by simp [valV, List.find?_cons, e]
theorem Pb {p : κ × V} {r : List (κ × V)} {k : κ} (e : ¬ p.1 = k) : valV (p :: r) k = valV r k := by simp [valV, List.find?_cons, e]
theorem Gp (k : κ) : ∀ kvs : List (κ × V), (kvs.any fun kv => decide (kv.1 = k)) = (valV kvs k).isSome
  | [] => rfl
  | p :: r => by
    rw [List.any_cons]
    by_cases e : p.1 = k
    · simp only [O0 e, decide_eq_true e, Bool.true_or, Option.isSome_some]
    · rw [Pb e, decide_eq_false e, Bool.false_or]; exact Gp k r
theorem Vr (kvs : List (κ × V)) (k : κ) (v : V) : (putK kvs k v).length ≤ kvs.length + 1 := by
  unfold putK
  split
  · rw [List.length_map]; omega
  · rw [List.length_append, List.length_cons, List.length_nil]; omega
theorem RelO.isSome_eq {o : Option V} {u : Option Value} (r : RelO o u) : o.isSome = u.isSome := by
  cases o with
  | none => cases u with
    | none => rfl
    | some _ => exact (show False from r).elim
  | some _ => cases u with
    | none => exact (show False from r).elim
    | some _ => rfl
theorem RelO.getD {o : Option V} {u : Option Value} {d : V} {d' : Value} (r : RelO o u) (rd : RelV d d') : RelV (o.getD d) (u.getD d') := by
  cases o with
  | none => cases u with
    | none => exact rd
    | some _ => exact (show False from r).elim
  | some _ => cases u with
    | none => exact (show False from r).elim
    | some _ => exact r
theorem KV.val {kvs : List (κ × V)} {vs : List (κ × Value)} (r : KV kvs vs) (k : κ) : RelO (valV kvs k) (valueAt vs k) := by
  unfold KV at r
  induction r with
  | nil => exact True.intro
  | @cons p q ps qs h t ih =>
    obtain ⟨h1, h2⟩ := h
    by_cases e : p.1 = k
    · have e' : q.1 = k := h1.symm.trans e
      have b : valueAt (q :: qs) k = some q.2 := by simp [valueAt, List.find?_cons, e']
      rw [O0 e, b]; exact h2
    · have e' : ¬ q.1 = k := fun z => e (h1.trans z)
      have b : valueAt (q :: qs) k = valueAt qs k := by simp [valueAt, List.find?_cons, e']
      rw [Pb e, b]; exact ih
theorem KV.any {kvs : List (κ × V)} {vs : List (κ × Value)} (r : KV kvs vs) (k : κ) : (kvs.any fun kv => decide (kv.1 = k)) = vs.any fun kv => decide (kv.1 = k) := by
  unfold KV at r
  induction r with
  | nil => rfl
  | cons h t ih => rw [List.any_cons, List.any_cons, ih, h.1]
theorem KV.repl {kvs : List (κ × V)} {vs : List (κ × Value)} (r : KV kvs vs) (k : κ) {y : V} {u : Value} (ry : RelV y u) :
    KV (kvs.map fun kv => if kv.1 = k then (kv.1, y) else kv) (vs.map fun kv => if kv.1 = k then (kv.1, u) else kv) := by
  unfold KV at r ⊢
  induction r with
  | nil => exact .nil
  | @cons p q ps qs h t ih =>
    rw [List.map_cons, List.map_cons]
    refine .cons ?_ ih
    obtain ⟨h1, h2⟩ := h
    by_cases e : p.1 = k
    · rw [if_pos e, if_pos (h1.symm.trans e)]; exact ⟨h1, ry⟩
    · rw [if_neg e, if_neg (fun z => e (h1.trans z))]; exact ⟨h1, h2⟩
theorem KV.put {kvs : List (κ × V)} {vs : List (κ × Value)} (r : KV kvs vs) (k : κ) {y : V} {u : Value} (ry : RelV y u) : KV (putK kvs k y) (stored vs k u) := by
  unfold putK stored
  rw [r.any k]
  by_cases e : (vs.any fun kv => decide (kv.1 = k)) = true
  · rw [if_pos e, if_pos e]; exact r.repl k ry
  · rw [if_neg e, if_neg e]; exact Paired.snoc r ⟨rfl, ry⟩
theorem KV.length {kvs : List (κ × V)} {vs : List (κ × Value)} (r : KV kvs vs) : kvs.length = vs.length := Paired.length r
end
theorem Jj {P : Program} {w : World} {k : Key} {u : Value} (r : RelV (kV k) u) : (Yb P w).is k u = true := by
  cases k with
  | inl i => obtain ⟨t, e⟩ := (show ∃ t, u = Value.int i t from r); subst e; exact Jm P w i t
  | inr x => obtain ⟨t, e⟩ := (show ∃ t, u = Value.str x t from r); subst e; exact J3 P w x t
theorem Ob {P : Program} {w : World} : ∀ {ks : List Key} {us : List Value}, Vals (ks.map kV) us → ItemsAre (Yb P w) ks us
  | [], _, r => by rw [List.map_nil] at r; cases r; exact .nil
  | k :: ks, _, r => by
    rw [List.map_cons] at r
    cases r with
    | cons h t => exact .cons (Jj h) (Ob t)
abbrev KT (H : Hp) : List (List Key × V) → List (List Key × Addr × Value) → Prop := Paired fun p q => p.1 = q.1 ∧ H q.2.1 = some (.tup (p.1.map kV)) ∧ RelV p.2 q.2.2
theorem KT.val {H : Hp} {kvs : List (List Key × V)} {xs : List (List Key × Addr × Value)} (r : KT H kvs xs) (k : List Key) : RelO (valV kvs k) ((atKey xs k).map (·.2)) := by
  induction r with
  | nil => exact True.intro
  | @cons p q ps qs h t ih =>
    obtain ⟨h1, _, h2⟩ := h
    by_cases e : p.1 = k
    · have e' : q.1 = k := h1.symm.trans e
      have b : atKey (q :: qs) k = some q.2 := by simp [atKey, List.find?_cons, e']
      rw [O0 e, b]; exact h2
    · have e' : ¬ q.1 = k := fun z => e (h1.trans z)
      have b : atKey (q :: qs) k = atKey qs k := by simp [atKey, List.find?_cons, e']
      rw [Pb e, b]; exact ih
theorem KT.repl {H : Hp} {kvs : List (List Key × V)} {xs : List (List Key × Addr × Value)} (r : KT H kvs xs) (k : List Key) {y : V} {u : Value} (ry : RelV y u) :
    KT H (kvs.map fun kv => if kv.1 = k then (kv.1, y) else kv) (xs.map (putAt k u)) := by
  induction r with
  | nil => exact .nil
  | @cons p q ps qs h t ih =>
    rw [List.map_cons, List.map_cons]
    refine .cons ?_ ih
    obtain ⟨h1, h2, h3⟩ := h
    unfold putAt
    by_cases e : p.1 = k
    · rw [if_pos e, if_pos (h1.symm.trans e)]; exact ⟨h1, h2, ry⟩
    · rw [if_neg e, if_neg (fun z => e (h1.trans z))]; exact ⟨h1, h2, h3⟩
theorem KT.put {H : Hp} {kvs : List (List Key × V)} {xs : List (List Key × Addr × Value)} (r : KT H kvs xs) (k : List Key) {b : Addr} {y : V} {u : Value} (hb : H b = some (.tup (k.map kV))) (ry : RelV y u) :
    KT H (putK kvs k y) (storedH xs k b u) := by
  have e : (kvs.any fun kv => decide (kv.1 = k)) = (atKey xs k).isSome := by
    rw [Gp, (r.val k).isSome_eq, Option.isSome_map]
  unfold putK storedH
  rw [e]
  by_cases q : (atKey xs k).isSome = true
  · rw [if_pos q, if_pos q]; exact r.repl k ry
  · rw [if_neg q, if_neg q]; exact Paired.snoc r ⟨rfl, hb, ry⟩
theorem KT.keeps {H H' : Hp} {kvs : List (List Key × V)} {xs : List (List Key × Addr × Value)} (r : KT H kvs xs) (ht : ∀ b ys, H b = some (.tup ys) → H' b = some (.tup ys)) : KT H' kvs xs :=
  Paired.mapP r fun _ _ z => ⟨z.1, ht _ _ z.2.1, z.2.2⟩
section
variable {P : Program} {w : World} {H : Hp} {h : Heap} {a : Addr}
theorem Zo6 {u : HO} (ok : HOk P w H h) (e : Rd H a u) : X6 P w H h a u := e.ok ok
theorem N0 {kvs : List (Key × V)} (ok : HOk P w H h) (e : Rd H a (.dK kvs)) : kvs.length ≤ sizeLine ∧ (a == sysModules) = false ∧ ∃ vs, KV kvs vs ∧ h.DictOf (Yb P w) a vs :=
  show X6 P w H h a (.dK kvs) from Zo6 ok e
theorem B6 {kvs : List (Key × V)} (ok : HOk P w H h) (e : H a = some (.dK kvs)) : kvs.length ≤ sizeLine ∧ (a == sysModules) = false ∧ ∃ vs, KV kvs vs ∧ h.DictOf (Yb P w) a vs := N0 ok (.inl e)
theorem Qt {ks : List Key} (ok : HOk P w H h) (e : H a = some (.tup (ks.map kV))) : (tupleKind (Yb P w)).is h ks a := by
  obtain ⟨_, its, r, o, h1, h2, n, h3⟩ := (show X6 P w H h a (.tup (ks.map kV)) from ok a _ e)
  exact ⟨o, its.toArray, n, h1, h2, h3, by simpa using Ob r⟩
theorem E3 {kvs : List (List Key × V)} (ok : HOk P w H h) (e : Rd H a (.dT kvs)) : kvs.length ≤ sizeLine ∧ (a == sysModules) = false ∧
    ∃ xs, KT H kvs xs ∧ h.DictOfH (tupleKind (Yb P w)) a xs := by
  obtain ⟨z, y, xs, r, o, es, ep, h1, h2, h3, h4, h5⟩ := (show X6 P w H h a (.dT kvs) from Zo6 ok e)
  refine ⟨z, y, xs, r, o, es, ep, h1, h2, h3, h4, fun x hx => ?_, h5⟩
  have all : ∀ {l : List (List Key × V)} {m : List (List Key × Addr × Value)}, KT H l m → ∀ x ∈ m, (tupleKind (Yb P w)).is h x.1 x.2.1 := by
    intro l m q
    induction q with
    | nil => intro x hx; exact nomatch hx
    | @cons p q ps qs hq t ih =>
      intro x hx
      rcases List.mem_cons.mp hx with e | hx
      · subst e
        exact Qt ok (by rw [← hq.1]; exact hq.2.1)
      · exact ih x hx
  exact all r x hx
theorem Zz6 {kvs : List (List Key × V)} (ok : HOk P w H h) (e : H a = some (.dT kvs)) : kvs.length ≤ sizeLine ∧ (a == sysModules) = false ∧
    ∃ xs, KT H kvs xs ∧ h.DictOfH (tupleKind (Yb P w)) a xs := E3 ok (.inl e)
end
def DGet (H : Hp) (a : Addr) (y : V) (r : Option V) : Prop :=
  (∃ kvs k, Rd H a (.dK kvs) ∧ y = kV k ∧ r = valV kvs k) ∨ ∃ kvs k b, Rd H a (.dT kvs) ∧ y = .ref b ∧ H b = some (.tup (k.map kV)) ∧ r = valV kvs k
def DPut (H : Hp) (a : Addr) (y v : V) (H' : Hp) : Prop :=
  (∃ kvs k, H a = some (.dK kvs) ∧ y = kV k ∧ kvs.length < sizeLine ∧ H' = upd H a (.dK (putK kvs k v))) ∨
  ∃ kvs k b, H a = some (.dT kvs) ∧ y = .ref b ∧ H b = some (.tup (k.map kV)) ∧ kvs.length < sizeLine ∧ H' = upd H a (.dT (putK kvs k v))
theorem DGet.k {H : Hp} {a : Addr} {kvs : List (Key × V)} {k : Key} (e : H a = some (.dK kvs)) : DGet H a (kV k) (valV kvs k) := .inl ⟨kvs, k, .inl e, rfl, rfl⟩
theorem DGet.t {H : Hp} {a b : Addr} {kvs : List (List Key × V)} {k : List Key} (e : H a = some (.dT kvs)) (eb : H b = some (.tup (k.map kV))) : DGet H a (.ref b) (valV kvs k) := .inr ⟨kvs, k, b, .inl e, rfl, eb, rfl⟩
theorem DPut.k {H : Hp} {a : Addr} {kvs : List (Key × V)} {k : Key} {v : V} (e : H a = some (.dK kvs)) (hl : kvs.length < sizeLine) : DPut H a (kV k) v (upd H a (.dK (putK kvs k v))) := .inl ⟨kvs, k, e, rfl, hl, rfl⟩
theorem DPut.t {H : Hp} {a b : Addr} {kvs : List (List Key × V)} {k : List Key} {v : V} (e : H a = some (.dT kvs)) (eb : H b = some (.tup (k.map kV))) (hl : kvs.length < sizeLine) :
    DPut H a (.ref b) v (upd H a (.dT (putK kvs k v))) := .inr ⟨kvs, k, b, e, rfl, eb, hl, rfl⟩
section
variable {X : Cx} {pins : List (Addr × Obj)} {σ : St} {H : Hp} {s : Shared} {a : Addr} {y v : V} {u r : Value} {o : Option V} {A : Around} {E : Value → Shared → Prop}
theorem Inv.big (I : Inv X pins σ H s) : sysModules < s.heap.objs.size := by
  have h : mainGlobals < s.heap.objs.size := (I.mod.glob.keeps I.bk).lt
  exact Nat.lt_trans (by decide) h
theorem Co {Q : Value → Shared → Prop} (hu : A.units + 1 < cLine) (I : Inv X pins σ H s) (g : DGet H a y (some v)) (ry : RelV y u) (h : ∀ w' s', Inv X pins σ H s' → RelV v w' → Q w' s') :
    wpAny (model X.prog X.w) A (getItem (.ref a) u) Q E s := by
  rcases g with ⟨kvs, k, e, ey, l⟩ | ⟨kvs, k, b, e, ey, eb, l⟩
  · subst ey
    obtain ⟨z, hd, vs, rel, dd⟩ := N0 I.hok e
    obtain ⟨w', hw, rw'⟩ := RelO.some_of (v := v) (o := valueAt vs k) (by rw [l]; exact rel.val k)
    exact wpAny_getItem_of (Jj ry) dd.mapOf hw (h w' _ (I.tok _) rw')
  · subst ey
    cases (show u = Value.ref b from ry)
    obtain ⟨z, hd, xs, rel, dd⟩ := E3 I.hok e
    obtain ⟨w', hw, rw'⟩ := RelO.some_of (v := v) (o := (atKey xs k).map (·.2)) (by rw [l]; exact rel.val k)
    obtain ⟨p, hp, hp2⟩ := Option.map_eq_some_iff.mp hw
    refine wpAny_getItem_heap (tupleKind_room_in1 hu) (Qt I.hok eb) dd hp ?_
    rw [hp2]
    exact h w' _ (I.tok _) rw'
theorem d_in {Q : Value → Shared → Prop} (hu : A.units + 1 < cLine) (I : Inv X pins σ H s) (g : DGet H a y o) (ry : RelV y u) (h : ∀ s', Inv X pins σ H s' → Q (.bool o.isSome) s') :
    wpAny (model X.prog X.w) A (compareOp .In u (.ref a)) Q E s := by
  rcases g with ⟨kvs, k, e, ey, l⟩ | ⟨kvs, k, b, e, ey, eb, l⟩
  · subst ey
    obtain ⟨z, hd, vs, rel, dd⟩ := N0 I.hok e
    refine wpAny_in_of (Jj ry) hd dd.mapOf ?_
    rw [← (rel.val k).isSome_eq, ← l]
    exact h _ (I.tok _)
  · subst ey
    cases (show u = Value.ref b from ry)
    obtain ⟨z, hd, xs, rel, dd⟩ := E3 I.hok e
    refine wpAny_in_heap (tupleKind_room_in1 hu) (Qt I.hok eb) hd dd ?_
    have q := (rel.val k).isSome_eq
    rw [Option.isSome_map] at q
    rw [← q, ← l]
    exact h _ (I.tok _)
theorem Zh8 {Q : Value → Shared → Prop} (hu : A.units + 1 < cLine) (I : Inv X pins σ H s) (g : DGet H a y o) (ry : RelV y u) (h : ∀ s', Inv X pins σ H s' → Q (.bool (!o.isSome)) s') :
    wpAny (model X.prog X.w) A (compareOp .NotIn u (.ref a)) Q E s := by
  rcases g with ⟨kvs, k, e, ey, l⟩ | ⟨kvs, k, b, e, ey, eb, l⟩
  · subst ey
    obtain ⟨z, hd, vs, rel, dd⟩ := N0 I.hok e
    refine wpAny_notIn_of (Jj ry) hd dd.mapOf ?_
    rw [← (rel.val k).isSome_eq, ← l]
    exact h _ (I.tok _)
  · subst ey
    cases (show u = Value.ref b from ry)
    obtain ⟨z, hd, xs, rel, dd⟩ := E3 I.hok e
    refine wpAny_notIn_heap (tupleKind_room_in1 hu) (Qt I.hok eb) hd dd ?_
    have q := (rel.val k).isSome_eq
    rw [Option.isSome_map] at q
    rw [← q, ← l]
    exact h _ (I.tok _)
theorem Cu {h' : Heap} {t' : Nat} {ob : HO} (I : Inv X pins σ H s) (mu : Mut (H a)) (hs : Heap.SameBut a s.heap h') (he : ∃ q, h'.get? a = some q) (new : X6 X.prog X.w (upd H a ob) h' a ob) :
    Inv X pins σ (upd H a ob) { s with heap := h', toks := t' } :=
  I.write (x := a) (e := a) mu (.inl rfl) (fun b q hb z => (hs.2 b hb).trans z) he new
theorem Bg {P : Program} {w : World} {H' : Hp} {h' : Heap} {kvs : List (Key × V)} {vs : List (Key × Value)} (z : kvs.length ≤ sizeLine) (hd : (a == sysModules) = false) (rel : KV kvs vs) (dd : h'.DictOf (Yb P w) a vs) :
    X6 P w H' h' a (.dK kvs) := ⟨z, hd, vs, rel, dd⟩
theorem Z24 {H' : Hp} {Q : Unit → Shared → Prop} (hu : A.units + 1 < cLine) (I : Inv X pins σ H s) (g : DPut H a y v H') (ry : RelV y u) (rv : RelV v r) (h : ∀ s', Inv X pins σ H' s' → Q () s') :
    wpAny (model X.prog X.w) A (setItem (.ref a) u r) Q E s := by
  rcases g with ⟨kvs, k, e, ey, l, eH⟩ | ⟨kvs, k, b, e, ey, eb, l, eH⟩
  · subst ey eH
    obtain ⟨z, hd, vs, rel, dd⟩ := B6 I.hok e
    have hz : vs.length ≤ sizeLine := by rw [← rel.length]; exact z
    have hl : (putK kvs k v).length ≤ sizeLine := by have := Vr kvs k v; omega
    refine wpAny_setItem_pairs (hsz := hz) (Jj ry) dd fun h' dd' hs => h _ ?_
    have he : ∃ q, h'.get? a = some q := by obtain ⟨q, _, _, hq, _⟩ := dd'; exact ⟨q, hq⟩
    exact Cu I (by rw [e]; exact True.intro) hs he (Bg hl hd (rel.put k rv) dd')
  · subst ey eH
    cases (show u = Value.ref b from ry)
    obtain ⟨z, hd, xs, rel, dd⟩ := Zz6 I.hok e
    have hz : xs.length ≤ sizeLine := by rw [← Paired.length rel]; exact z
    have hl : (putK kvs k v).length ≤ sizeLine := by have := Vr kvs k v; omega
    refine wpAny_setItem_heap (hsz := hz) (tupleKind_room_in1 hu) (Qt I.hok eb) dd fun h' dd' hs => h _ ?_
    obtain ⟨q, es, ep, hq, h2, h3, h4, _, h5⟩ := dd'
    refine Cu I (by rw [e]; exact True.intro) hs ⟨q, hq⟩ ⟨hl, hd, _, (rel.put k eb rv).keeps fun c ys ec => ?_, q, es, ep, hq, h2, h3, h4, h5⟩
    rw [Zj (Zz7 ec e (fun z => nomatch z))]
    exact ec
end
section
variable {X : Cx} {pins : List (Addr × Obj)} {σ : St} {H : Hp} {s : Shared} {a : Addr} {kvs : List (Key × V)} {k : Key} {u : Value} {A : Around} {E : Value → Shared → Prop}
theorem Zz9 {Q : Value → Shared → Prop} (I : Inv X pins σ H s) (e : Rd H a (.dK kvs)) (h : ∀ t s', Inv X pins σ H s' → Q (.int kvs.length t) s') : wpAny (model X.prog X.w) A (call (.builtin "len") [.ref a]) Q E s := by
  obtain ⟨z, hd, vs, rel, dd⟩ := N0 I.hok e
  refine call_len_dict hd dd (by rw [← rel.length]; rw [sizeLine_eq] at z; omega) ?_
  rw [← rel.length]
  exact h _ _ (I.tok _)
end
theorem Nr {X : Cx} {pins : List (Addr × Obj)} {σ : St} {H : Hp} {s : Shared} {a : Addr} {y : V} {o : Option V} (I : Inv X pins σ H s) (g : DGet H a y o) : s.TypeIs (.ref a) "dict" := by
  rcases g with ⟨kvs, k, e, _, _⟩ | ⟨kvs, k, b, e, _, _, _⟩
  · obtain ⟨_, _, vs, _, dd⟩ := N0 I.hok e
    exact dd.typeIs
  · obtain ⟨_, _, xs, _, dd⟩ := E3 I.hok e
    exact dd.typeIs
section
variable {X : Cx} {o i e value : Expr} {pos pos' tpos : Pos} {td ty tv : TE}
end
theorem Z76 {P : Program} {w : World} {H : Hp} (h : Heap) (hb : sysModules < h.objs.size) : X6 P w H (h.push { cls := .type "dict", data := .dict #[] }) h.objs.size (.dK []) :=
  ⟨Nat.zero_le _, beq_eq_false_iff_ne.mpr (Ne.symm (Nat.ne_of_lt hb)), [], .nil, Heap.DictOf.new h⟩
def Zo3 : TE := fun _ H Q => ∀ p, H p = none → Q (.ref p) (upd H p (.dK []))
section
variable {X : Cx} {pos : Pos}
theorem Zb2 : PE X (.Dict [] [] pos) Zo3 := fun pins s σ H Q I h =>
  wpAny_Dict_empty ⟨.ref s.heap.objs.size, _, I.laid (a := s.heap.objs.size) (o := .dK []) (t' := s.toks) (fun _ _ q => Heap.get?_push_of_some _ q) (Nat.le_refl _) (Z76 s.heap I.big), rfl, h _ (I.hok.fresh (Nat.le_refl _))⟩
end
structure M1 (X : Cx) (o : Expr) (m : Str) (apos : Pos) (e : Expr) (cpos : Pos) : Prop where
  base : attributeBase o m X.env (eval o X.env) = eval o X.env
  few : ((backTo cpos (starEach [e] X.env)).all (fun x => !x.1) && (backToKw cpos (keywordEach [] X.env)).all (fun x => x.1.isSome)
    && decide (([e] : List Expr).length + ([] : List Keyword).length + (if ([] : List Keyword).isEmpty then 0 else 1) < 30)) = true
  line : (apos.endLine == cpos.line) = true
  trees : backTo cpos (starEach [e] X.env) = [(false, eval e X.env)]
structure M2 (X : Cx) (o : Expr) (m : Str) (apos : Pos) (e f : Expr) (cpos : Pos) : Prop where
  base : attributeBase o m X.env (eval o X.env) = eval o X.env
  few : ((backTo cpos (starEach [e, f] X.env)).all (fun x => !x.1) && (backToKw cpos (keywordEach [] X.env)).all (fun x => x.1.isSome)
    && decide (([e, f] : List Expr).length + ([] : List Keyword).length + (if ([] : List Keyword).isEmpty then 0 else 1) < 30)) = true
  line : (apos.endLine == cpos.line) = true
  trees : backTo cpos (starEach [e, f] X.env) = [(false, eval e X.env), (false, eval f X.env)]
section
variable {X : Cx} {pins : List (Addr × Obj)} {σ : St} {H : Hp} {s : Shared} {a : Addr} {y d : V} {u r : Value} {o : Option V} {A : Around} {E : Value → Shared → Prop}
theorem Zr9 {Q : Value → Shared → Prop} (hu : A.units + 1 < cLine) (I : Inv X pins σ H s) (g : DGet H a y o) (ry : RelV y u) (rd : RelV d r) (h : ∀ w' s', Inv X pins σ H s' → RelV (o.getD d) w' → Q w' s') :
    wpAny (model X.prog X.w) A (call (.builtin "dict.get") [.ref a, u, r]) Q E s := by
  rcases g with ⟨kvs, k, e, ey, l⟩ | ⟨kvs, k, b, e, ey, eb, l⟩
  · subst ey
    obtain ⟨z, hd, vs, rel, dd⟩ := N0 I.hok e
    refine call_meetsIn PySem.F.slot_dict_get dd.typeIs PySem.F.entry_dict_get (PySem.F.args_dict_get_3 _ _ _) (meets_dict_get_default (Yb X.prog X.w) a (Jj ry) hd r) ⟨_, dd.mapOf, h _ _ (I.tok _) ?_⟩
    rw [l]
    exact (rel.val k).getD rd
  · subst ey
    cases (show u = Value.ref b from ry)
    obtain ⟨z, hd, xs, rel, dd⟩ := E3 I.hok e
    refine call_meetsIn PySem.F.slot_dict_get dd.typeIs PySem.F.entry_dict_get (PySem.F.args_dict_get_3 _ _ _) (meetsH_dict_get_default (tupleKind (Yb X.prog X.w)) a b hd r) ⟨tupleKind_room_in1 hu, k, xs, Qt I.hok eb, dd, h _ _ (I.tok _) ?_⟩
    rw [l]
    exact (rel.val k).getD rd
end
section
variable {X : Cx} {o e f : Expr} {apos cpos : Pos} {td ty tx : TE}
end
section
variable {X : Cx} {pins : List (Addr × Obj)} {σ : St} {H : Hp} {s : Shared} {a : Addr} {kvs : List (Key × V)} {A : Around} {E : Value → Shared → Prop}
theorem Z46 {Q : Value → Shared → Prop} (I : Inv X pins σ H s) (e : Rd H a (.dK kvs)) (h : ∀ p s', H p = none → Inv X pins σ (upd H p (.dK kvs)) s' → Q (.ref p) s') : wpAny (model X.prog X.w) A (call (.type "dict") [.ref a]) Q E s := by
  obtain ⟨z, hd, vs, rel, dd⟩ := N0 I.hok e
  refine kt_call_dict hd dd (by rw [← rel.length]; exact z) fun h' dd' hs => ?_
  refine h _ _ (I.hok.fresh (Nat.le_refl _)) (I.laid (a := s.heap.objs.size) (o := .dK kvs) (t' := s.toks) (fun b q hq => ?_) (Nat.le_refl _) (Bg z (beq_eq_false_iff_ne.mpr (Ne.symm (Nat.ne_of_lt I.big))) rel dd'))
  exact (hs.2 b (Nat.ne_of_lt (Heap.lt_size hq))).trans (Heap.get?_push_of_some _ hq)
end
section
variable {X : Cx} {pins : List (Addr × Obj)} {σ : St} {H : Hp} {s : Shared} {a : Addr} {y : V} {u : Value} {A : Around} {E : Value → Shared → Prop}
end
end L2
namespace Att
open PySem PySem.W PySem.Calls PyProof.Rows
theorem Rr {P : Params} {h : Heap} : ∀ (ns : List Int) (vs : List Value), WellAll P h vs (ns.map WData.int) → IntsAre vs ns := by
  intro ns
  induction ns with
  | nil =>
    intro vs w
    rw [List.map_nil] at w
    cases w
    exact .nil
  | cons n ns ih =>
    intro vs w
    rw [List.map_cons] at w
    cases w with
    | cons a b =>
      cases a
      exact .cons _ _ (ih _ b)
theorem script_of {l : OpenLaw} {n : Nat} (hn : l.most = some n) {P : Params} {h : Heap} {args : List WData} {vals : List Value}
    (hpre : l.row.toRowW.claim.pre args = true) (hwl : WellAll P h vals args) :
    ∃ a vs ns, vals = [Value.ref a] ∧ args = [WData.list (ns.map WData.int)] ∧ h.get? a = some { cls := .type "list", data := .seq vs.toArray } ∧ IntsAre vs ns ∧ ns.length ≤ n := by
  have hsh : WShape.hasAll [] args [.list .int] = true := (pre_splitW hpre).1
  have hc : l.pre.holds [] { args := args } = true := (pre_splitW hpre).2
  obtain ⟨d, r, rfl, h1, h2⟩ := hasAllW_cons hsh
  obtain rfl := hasAllW_nil h2
  obtain ⟨xs, rfl, h3⟩ := hasW_list h1
  obtain ⟨ns, rfl⟩ := items_int h3
  have hlen : ns.length ≤ n := by
    unfold OpenLaw.pre at hc
    have h4 : (WTm.not (.lt (.lit (.int (n : Int))) (.len (.arg 0)))).holds [] { args := [.list (ns.map .int)] } = true := by
      have h4 := (holds_andW hc).1
      rw [hn] at h4
      exact h4
    have h5 := condW_of h4 (w_not (w_lt w_lit (w_len_list (w_arg rfl))))
    rw [List.length_map] at h5
    refine Nat.le_of_not_lt fun q => ?_
    have q' : (n : Int) < ((ns.length : Nat) : Int) := by omega
    first
      | (rw [decide_eq_true q'] at h5; exact absurd h5 (by decide))
      | (simp at h5; omega)
  cases hwl with
  | cons w1 w2 =>
    cases w2
    cases w1 with
    | list ho hall => exact ⟨_, _, ns, rfl, rfl, ho, Rr ns _ hall, hlen⟩
theorem post_true (l : OpenLaw) (args : List WData) : l.row.toRowW.claim.post args (.bool true) args = true :=
  postW_of (r := l.row.toRowW) (X := (true == true))
    (show WShape.has [] (.bool true) .bool = true by first | rfl | decide | simp [WShape.has, WShape.arms, WShape.armsAll])
    (show (WTm.eq .res (.lit (.bool true))).value [] { args := args, res := some (.bool true), after := args } = some (.bool (true == true)) from w_eq_bool (w_res rfl) w_lit) rfl
section
variable {prog : Program} {w : World} {A : Around} {E : Value → Shared → Prop} {s : Shared} {K : Frag}
end
end Att
namespace L2
open PySem PySem.Spec PyProof.Rows
theorem Og : ∀ {vs : List Value} {ns : List Int}, IntsAre vs ns → Vals (ns.map V.int) vs
  | _, _, .nil => .nil
  | _, _, .cons n t h => .cons ⟨t, rfl⟩ (Og h)
def Only (H : Hp) : Prop := ∀ b, H b = none ∨ ∃ o xs, H b = some (.frz o (.lst xs))
theorem Z50 {P : Program} {w : World} {K : PySem.W.Frag} {mg mb : Str → Option Value} {CX : CXT} {k : Nat} {fa a : Addr} {fd : FuncData} {x : Str} {sp : Sp} {s₁ : Shared} {vs : List Value} {ns : List Int}
    (KX : K.In s₁.heap) (hns : s₁.heap.Ns mainGlobals mg) (hb : s₁.heap.Ns builtinsNs mb) (hbb : ∀ x : Str, x ≠ "__name__" → mb x = bootBuiltins x) (hlim : s₁.heap.NoLimit) (hg : s₁.gens = #[])
    (ha : s₁.heap.get? a = some { cls := .type "list", data := .seq vs.toArray }) (hi : IntsAre vs ns) (hl : ns.length ≤ sizeLine) (hr : Room k callerA)
    (F : ∀ base : Heap, K.In base → base.Ns mainGlobals mg → FnOk P w K mg base CX k fa fd [x] sp) (hbind : ∀ (s : Shared) (u : Value), BindsTo s fd ⟨[u], []⟩ [(x, u)])
    (hsp : ∀ H : Hp, Only H → SqL K H a (ns.map V.int) → sp [.ref a] H (fun v _ => v = .bl true) fun _ _ _ => False)
    (hCX : ∀ H e s', CX [] H s₁ (fun _ _ _ => False) e s' → False) :
    codeAny (model P w) callerA (.call (.ref fa) ⟨[.ref a], []⟩) (fun r s' => r = .ok (.ret (.bool true)) ∧ OldK s₁.heap s'.heap ∧ s'.os = s₁.os ∧ AllBare s'.gens) s₁ := by
  have rv := Og hi
  have lenV := hi.length
  have core : ∀ H : Hp, Only H → SqL K H a (ns.map V.int) → HOk P w H s₁.heap → (∀ b, H b ≠ none → b = a) → (H a ≠ none → K.lookup a = none) →
      codeAny (model P w) callerA (.call (.ref fa) ⟨[.ref a], []⟩) (fun r s' => r = .ok (.ret (.bool true)) ∧ OldK s₁.heap s'.heap ∧ s'.os = s₁.os ∧ AllBare s'.gens) s₁ := by
    intro H hO hS hok hA hK
    have base_of : ∀ {b : Addr} {o : Obj}, s₁.heap.get? b = some o → H b = none → (hidT s₁.heap H).get? b = some o := fun e n => Z78 e n
    have noA : ∀ {b : Addr} {o : Obj} {es : Array DictEntry} {ep : Nat}, s₁.heap.get? b = some o → o.data = .dict es ep → H b = none := fun {b o es ep} e d => by
      cases q : H b with
      | none => rfl
      | some u =>
        have e' : b = a := hA b (by rw [q]; simp)
        subst e'
        rw [ha] at e; cases e
        have d' : Data.seq vs.toArray _ = Data.dict es ep := d
        cases d'
    have nsK : ∀ {b : Addr} {m : Str → Option Value}, s₁.heap.Ns b m → (hidT s₁.heap H).Ns b m := fun {b m} zz41 => by obtain ⟨o, es, ep, e, d, r⟩ := zz41; exact ⟨o, es, ep, base_of e (noA e d), d, r⟩
    have hKb : K.In (hidT s₁.heap H) := fun b o e => base_of (KX b o e) (by
      cases q : H b with
      | none => rfl
      | some u =>
        have e' : b = a := hA b (by rw [q]; simp)
        subst e'
        rw [hK (by rw [q]; simp)] at e; cases e)
    have hM : Mod K mg (hidT s₁.heap H) := ⟨hKb, nsK hns, ⟨mb, nsK hb, hbb⟩, let ⟨mc, h1, h2⟩ := hlim; ⟨mc, nsK h1, h2⟩⟩
    have e0 : Env0 P w K mg (hidT s₁.heap H) callerA [] s₁ H := ⟨rfl, hM, fun b o e => Zk7 e, Nat.le_of_eq (Bc _ _), trivial, fun b hb => absurd (show b ∈ ([] : List Addr) from hb) (by simp), hok, .of_eq hg⟩
    refine codeAny_mono ((F _ hKb (nsK hns)).run callerA [] s₁ H ⟨[.ref a], []⟩ [.ref a] [.ref a] _ _ hr e0 (hbind s₁ (.ref a)) (.cons rfl .nil) (hsp H hO hS)) fun r s' h => ?_
    cases r with
    | error e => exact (hCX H e s' h).elim
    | ok fl =>
      cases fl with
      | next => exact False.elim h
      | brk => exact False.elim h
      | cont => exact False.elim h
      | ret u =>
        obtain ⟨v, H', os, bare, un, hok', r', q⟩ := h
        have q' : v = .bl true := q
        subst q'
        obtain rfl : u = Value.bool true := r'
        refine ⟨rfl, OldK.of_keep fun b o e => ?_, os, bare⟩
        cases q : H b with
        | none => exact un.keep b o e q (by intro z; exact absurd (show b ∈ ([] : List Addr) from z) (by simp)) (by simp)
        | some u =>
          rcases hO b with z | ⟨ob, xs, z⟩
          · rw [q] at z; cases z
          · have z2 := un.frzs b ob _ z
            obtain ⟨e1, _⟩ := hok b _ z
            obtain ⟨e2, _⟩ := hok' b _ z2
            rw [e] at e1; cases e1
            exact e2
  cases hk : K.lookup a with
  | some o =>
    have e := KX a o hk
    rw [ha] at e
    cases e
    refine core (fun _ => none) (fun _ => .inl rfl) (.inr ⟨_, vs.toArray, _, hk, rfl, rfl, rfl, by rw [List.size_toArray, lenV]; exact hl, by simpa using rv⟩) (fun b u z => by have z' : (none : Option HO) = some u := z; cases z') (fun b z => absurd rfl z) fun z => absurd rfl z
  | none =>
    refine core (fun b => if b = a then some (.frz { cls := .type "list", data := .seq vs.toArray } (.lst (ns.map V.int))) else none) (fun b => ?_) (.inl (.inr ⟨{ cls := .type "list", data := .seq vs.toArray }, if_pos rfl⟩)) (fun b u z => ?_) (fun b z => ?_) fun _ => hk
    · by_cases hb : b = a
      · exact .inr ⟨_, _, if_pos hb⟩
      · exact .inl (if_neg hb)
    · by_cases hb : b = a
      · have z' := (if_pos hb).symm.trans z
        cases z'
        subst hb
        exact ⟨ha, by rw [List.length_map]; exact hl, vs, _, rv, ha⟩
      · have z' := (if_neg hb).symm.trans z
        cases z'
    · by_cases hb : b = a
      · exact hb
      · exact absurd (if_neg hb) z
end L2
/- THE LAST THEOREM (shape; LID, My.* are yours):
   My.Adr: a structure of the addresses that your layer names (classes, functions); My.Txt K t: a structure (Prop) of the equations over K;
   My.txt_mk : {K} {implicit addresses ..} (e1 : nsIn K mainGlobals "law" = some (some (.ref f))) (e2 : K.lookup f = some ⟨oc, od, .func (fnOf "law" "law" params body scope dV kV doc pm an cdv ct), sl⟩) (e3 : codeIn K cdv "law" = true) .. : ∃ t, My.Txt K t
set_option maxRecDepth 100000 in
set_option maxHeartbeats 0 in
theorem PySem.Challenge.cw_LID_holds : PySem.Challenge.rw_LID.Holds := by
  w_on; o_law; k_head; (case hw => w_witness2)
  k_fill
  refine L2.walk_of (l := PySem.Challenge.rw_LID) (n := 63) (k := 40) (x := "script") (CX := fun w => ..) (sp := fun _ => My.sp_law) rfl (by decide) rfl ⟨rfl, by decide, by decide⟩ (fun w h Y => PySem.W.kIn_of Y) ?F ?S ?C
  case F =>
    intro w mg fa h KX G hmg
    have T : ∃ t, My.Txt (L2.KOf KX) t := by
      dsimp only [L2.KOf]                          -- K must stand as «<heap const> w.params» for k_is
      refine' My.txt_mk ?e1 ?e2 ?e3 ..
      (case e1 => PySem.W.k_is)                    -- in the order: a name -> its address -> its object -> its parts
      (case e2 => PySem.W.k_is)
      ..
    obtain ⟨t, T⟩ := T
    have e0 := hmg.symm.trans (PySem.W.mg_of KX G T.law)
    cases e0                                       -- fa is the law's own address
    exact ⟨_, fun s u => .of_eq rfl, fun base kb nb => My.law_fn T kb nb⟩     -- if «.of_eq rfl» comes too early: refine' ⟨_, ?b, fun base kb nb => My.law_fn T kb nb⟩; exact fun s u => .of_eq rfl
  case S => exact fun w H a ns hl hO hS => ..
  case C => exact ..
(the tactic k_is has no namespace: write k_is) -/
namespace L2
open PySem PySem.Spec PyProof.Rows
noncomputable def Zi (s : Stmt) : Arguments := match s with
  | .FunctionDef _ a _ _ _ _ _ _ _ _ => a
  | _ => { posonlyargs := [], args := [], vararg := none, kwonlyargs := [], kw_defaults := [], kwarg := none, defaults := [] }
noncomputable def Z5 (s : Stmt) : List Stmt := match s with
  | .FunctionDef _ _ b _ _ _ _ _ _ _ => b
  | _ => []
noncomputable def Z3 (s : Stmt) : Scope := match s with
  | .FunctionDef _ _ _ _ _ _ sc _ _ _ => sc
  | _ => { kind := .function, names := [], isGenerator := false, isCoroutine := false }
noncomputable abbrev CX0 : CXT := fun _ _ _ _ _ _ => False
abbrev E0 : XK := fun _ _ _ => False
structure Fun (K : PySem.W.Frag) (x qual : Str) (st : Stmt) (f : Addr) (fd : FuncData) : Prop where
  ex : ∃ (oc : Value) (od : Option Addr) (dV kV doc pm : Value) (an : Option Addr) (cdv ct : Value) (osl : Array (Option Value)),
    fd = PySem.W.fnOf x qual (Zi st) (Z5 st) (Z3 st) dV kV doc pm an cdv ct ∧ K.lookup f = some ⟨oc, od, .func fd, osl⟩ ∧ PySem.W.codeIn K cdv qual = true
  kp : PySem.W.keepIn K (.ref f) = true
section
variable {P : Program} {w : World} {K : PySem.W.Frag} {mg : Str → Option Value} {base : Heap}
theorem Fun.ok {x qual : Str} {st : Stmt} {f : Addr} {fd : FuncData} {N ps : List Str} {k : Nat} {sp : Sp} (F : Fun K x qual st f fd) (S : FnScope N ps (Z3 st)) (len : ∀ vs H Q E, sp vs H Q E → vs.length = ps.length)
    (hbody : ∀ (cdv : Value) (A : Around) (outer : List Env) (s : Shared) (H : Hp) (vs : List V) (Q : VK) (E : XK), Room k (A.deeper (envOfC qual (Z3 st) s.heap.objs.size f cdv)) → sp vs H Q E →
      ∃ t, PSs (cxOf CX0 P w K mg base N qual (Z3 st) f cdv A outer s H E).nox (Z5 st) t ∧ t { nx := fun _ H' => Q .non H', rt := Q } (start N vs) H) : FnOk P w K mg base CX0 (k + 1) f fd ps sp := by
  obtain ⟨oc, od, dV, kV, doc, pm, an, cdv, ct, osl, rfl, lk, hcd⟩ := F.ex
  refine Zz1 lk hcd S len fun A outer s H vs Q E hr hsp => ?_
  obtain ⟨t, h, q⟩ := hbody cdv A outer s H vs Q E hr hsp
  exact ⟨t, h.nox, q⟩
theorem Yc {x qual : Str} {st : Stmt} {f : Addr} {oc : Value} {od an : Option Addr} {osl : Array (Option Value)} {dV kV doc pm cdv ct : Value} (l : K.lookup f = some ⟨oc, od, .func (PySem.W.fnOf x qual (Zi st) (Z5 st) (Z3 st) dV kV doc pm an cdv ct), osl⟩)
    (c : PySem.W.codeIn K cdv qual = true) (k : PySem.W.keepIn K (.ref f) = true) : Fun K x qual st f (PySem.W.fnOf x qual (Zi st) (Z5 st) (Z3 st) dV kV doc pm an cdv ct) := ⟨⟨oc, od, dV, kV, doc, pm, an, cdv, ct, osl, rfl, l, c⟩, k⟩
end
section
variable {X : Cx}
end
def Same (H H' : Hp) : Prop := ∀ b o, H b = some o → H' b = some o
theorem Same.refl (H : Hp) : Same H H := fun _ _ h => h
theorem Same.trans {H H1 H2 : Hp} (a : Same H H1) (b : Same H1 H2) : Same H H2 := fun c o h => b c o (a c o h)
section
variable {X : Cx}
theorem Z29 : Vs X (.builtin "len") (fun xs H Q => ∃ a kvs, xs = [V.ref a] ∧ H a = some (.dK kvs) ∧ Q (.int kvs.length) H) := by
  intro pins s σ H xs us Q I r h
  obtain ⟨a, kvs, rfl, ha, q⟩ := h
  obtain ⟨u, rfl, ru⟩ := O5 r
  cases ru
  exact Zz9 I (.inl ha) fun t s' I' => ⟨.int kvs.length, H, I', ⟨t, rfl⟩, q⟩
end
section
variable {κ : Type} [DecidableEq κ]
end
end L2
namespace L3
open PySem PySem.Spec PyProof.Rows L2
def Bits (n : Nat) (x : Int) : Prop := x.natAbs < 2 ^ n
theorem Fx {m n : Nat} (h : m < 2 ^ n) (hn : 0 < n) : m.log2 < n := by
  rcases Nat.eq_zero_or_pos m with h0 | h0
  · rw [h0]; exact hn
  · exact (Nat.log2_lt (Nat.ne_of_gt h0)).mpr h
section
variable {X : Cx}
def Bv (_ j : Int) : Prop := j ≠ 0 ∧ j.natAbs.log2 < 9000
theorem Z60 : OpR X (binaryOp .FloorDiv) (rI Bv fun i j => .int (i.fdiv j)) := opI fun _ _ _ _ _ _ _ hc q => floordiv_int hc.1 q (.inl (PyProof.noPylong_of_log2 hc.2))
theorem Zg7 : OpR X (binaryOp .Mult) (rI IntMulOk fun i j => .int (i * j)) := opI fun _ _ _ _ _ _ _ hc q => mul_int q hc
def rIsB (K : PySem.W.Frag) : List V → Hp → VK → Prop := fun xs H Q => ∃ x n t b, xs = [x, .ty n] ∧ TyOf K H x t ∧ PySem.W.kitOne K t (.type n) = some b ∧ Q (.bl b) H
theorem Zb4 : Vs X (.builtin "isinstance") (rIsB X.K) := by
  intro pins s σ H xs us Q I r h
  obtain ⟨x, n, t, b, rfl, ty, e, q⟩ := h
  obtain ⟨u, v, rfl, ru, rv⟩ := J6 r
  obtain rfl : v = Value.type n := rv
  exact C8 I ru ty e fun tk => ⟨.bl b, H, I.tok tk, rfl, q⟩
end
mutual
def Rep (K : PySem.W.Frag) (H : Hp) : PyData → V → Prop
  | .none, v => v = .non
  | .bool b, v => v = .bl b
  | .int i, v => v = .int i
  | .str x, v => v = .str x
  | .list ds, v => ∃ a xs, v = .ref a ∧ SqL K H a xs ∧ Wl K H ds xs
  | .tuple ds, v => ∃ a xs, v = .ref a ∧ SqT K H a xs ∧ Wl K H ds xs
  | .dict _, _ => False
def Wl (K : PySem.W.Frag) (H : Hp) : List PyData → List V → Prop
  | [], xs => xs = []
  | d :: ds, xs => ∃ v vs, xs = v :: vs ∧ Rep K H d v ∧ Wl K H ds vs
end
section
variable {X : Cx} {pins : List (Addr × Obj)} {σ : L2.St} {H : Hp} {s : Shared}
mutual
theorem Rep.reads (I : Inv X pins σ H s) : ∀ (d : PyData) (v : V) (u : Value), Rep X.K H d v → RelV v u → ∃ as, Reads s.heap u d as
  | .none, v, u, h, r => by
    unfold Rep at h; subst h
    cases (show u = Value.none from r)
    exact ⟨[], .none⟩
  | .bool b, v, u, h, r => by
    unfold Rep at h; subst h
    cases (show u = Value.bool b from r)
    exact ⟨[], .bool b⟩
  | .int i, v, u, h, r => by
    unfold Rep at h; subst h
    obtain ⟨t, rfl⟩ := (show ∃ t, u = Value.int i t from r)
    exact ⟨[], .int i t⟩
  | .str x, v, u, h, r => by
    unfold Rep at h; subst h
    obtain ⟨t, rfl⟩ := (show ∃ t, u = Value.str x t from r)
    exact ⟨[], .str x t⟩
  | .list ds, v, u, h, r => by
    unfold Rep at h
    obtain ⟨a, xs, rfl, hq, ha⟩ := h
    cases (show u = Value.ref a from r)
    obtain ⟨its, rv, ⟨o, n, h1, h2, _, h4⟩, _⟩ := I.list hq
    obtain ⟨as, hr⟩ := Wl.reads I ds xs its ha rv
    exact ⟨_, .list h1 h2 h4 hr⟩
  | .tuple ds, v, u, h, r => by
    unfold Rep at h
    obtain ⟨a, xs, rfl, hq, ha⟩ := h
    cases (show u = Value.ref a from r)
    obtain ⟨its, rv, ⟨o, h1, h2, n, h4⟩, _⟩ := I.tuple hq
    obtain ⟨as, hr⟩ := Wl.reads I ds xs its ha rv
    exact ⟨_, .tuple h1 h2 h4 hr⟩
  | .dict kvs, v, u, h, r => by
    unfold Rep at h
    exact h.elim
theorem Wl.reads (I : Inv X pins σ H s) : ∀ (ds : List PyData) (xs : List V) (us : List Value), Wl X.K H ds xs → Vals xs us → ∃ as, ReadsAll s.heap us ds as
  | [], xs, us, h, r => by
    unfold Wl at h; subst h
    cases r
    exact ⟨[], .nil⟩
  | d :: ds, xs, us, h, r => by
    unfold Wl at h
    obtain ⟨v, vs, rfl, h1, h2⟩ := h
    cases r with
    | cons r1 r2 =>
      obtain ⟨as, q1⟩ := Rep.reads I d v _ h1 r1
      obtain ⟨bs, q2⟩ := Wl.reads I ds vs _ h2 r2
      exact ⟨_, .cons q1 q2⟩
end
end
section
variable {X : Cx}
def rEqD (K : PySem.W.Frag) (neg : Bool) : R2 := fun x y H Q => ∃ da db, Rep K H da x ∧ Rep K H db y ∧ da.canLay0 = true ∧ db.canLay0 = true ∧ min da.depth db.depth ≤ 60 ∧ Q (.bl (if neg then !PyData.eqv da db else PyData.eqv da db)) H
theorem Zo5 (hu : X.A.units + 64 < cLine) : OpR X (compareOp .Eq) (rEqD X.K false) := by
  intro pins s σ H x y v u Q I rx ry h
  obtain ⟨da, db, h1, h2, h3, h4, h5, q⟩ := h
  obtain ⟨as, q1⟩ := Rep.reads I da x v h1 rx
  obtain ⟨bs, q2⟩ := Rep.reads I db y u h2 ry
  exact PySem.SeqAt.compareEq_reads q1 q2 h3 h4 (by omega) ⟨.bl _, H, I, rfl, q⟩
end
end L3
namespace L3
open PySem PySem.W PySem.Calls PyProof.Rows L2
noncomputable def bigN : Nat := 1048576
theorem Ry : ∀ (ns : List Int) (i : Int), i ∈ ns → WData.weight (.int i) ≤ WData.weightAll (ns.map WData.int)
  | [], _, h => nomatch h
  | n :: r, i, h => by
    rw [List.map_cons]
    have e : WData.weightAll (WData.int n :: r.map WData.int) = WData.weight (.int n) + 1 + WData.weightAll (r.map WData.int) := by simp [WData.weightAll]
    rw [e]
    rcases List.mem_cons.mp h with q | q
    · subst q; omega
    · have := Ry r i q; omega
theorem Ra {ns : List Int} (h : WData.layableAll [WData.list (ns.map WData.int)] = true) : ∀ i ∈ ns, Bits bigN i := by
  intro i hi
  have h1 : WData.layable (WData.list (ns.map WData.int)) = true := by simpa [WData.layableAll] using h
  unfold WData.layable at h1
  rw [Bool.and_eq_true] at h1
  have h2 : WData.weight (WData.list (ns.map WData.int)) ≤ 2 ^ 20 := of_decide_eq_true h1.2
  have h3 : WData.weight (WData.list (ns.map WData.int)) = WData.weightAll (ns.map WData.int) := by simp [WData.weight]
  have h4 := Ry ns i hi
  have h5 : WData.weight (.int i) = if i == 0 then 0 else i.natAbs.log2 + 1 := by simp [WData.weight]
  unfold Bits bigN
  by_cases h0 : i = 0
  · subst h0; exact Nat.two_pow_pos _
  · have hb : (i == 0) = false := by simpa using h0
    rw [hb] at h5
    have h6 : i.natAbs.log2 < 1048576 := by
      have : (2 : Nat) ^ 20 = 1048576 := by decide
      simp only [Bool.false_eq_true, if_false] at h5
      omega
    exact (Nat.log2_lt (by omega)).mp h6
theorem N6 {l : OpenLaw} {n : Nat} {q : Program} {loose : List Str} {XP : (Str → Option Value) → Heap → Prop} {YP : World → Heap → Prop} {d : DefRec} (hn : l.most = some n) (hdf : d.params.defaults = [])
    (call : ∀ (w : World) (s₀ s₁ : Shared) (mg mb : Str → Option Value) (fa : Addr) (o : Obj) (pm cd doc : Value) (a : Addr) (vs : List Value) (ns : List Int),
      Ground q loose [] XP w s₀ mg mb s₁.heap → YP w s₁.heap → mg d.name = some (.ref fa) →
      s₁.heap.get? a = some { cls := .type "list", data := .seq vs.toArray } → IntsAre vs ns → ns.length ≤ n → (∀ i ∈ ns, Bits bigN i) → s₁.gens = #[] →
      codeAny (model l.prog w) callerA (.call (.ref fa) ⟨[.ref a], []⟩) (fun r s' => r = .ok (.ret (.bool true)) ∧ OldK s₁.heap s'.heap ∧ s'.os = s₁.os ∧ AllBare s'.gens) s₁) :
    WalkO q loose XP YP l.row.toRowW d [] (fun f vs => PySem.call f vs) := by
  intro w s₀ s₁ mg mb G Y fa o pm cd doc dV kV ho hd hcd hD hmg hg args vals as hpre hlay hrd hwl hlo
  obtain ⟨a, vs, ns, rfl, rfl, hobj, hints, hlen⟩ := Att.script_of hn hpre hwl
  refine enter_call (codeAny_mono (call w s₀ s₁ mg mb fa o pm cd doc a vs ns G Y hmg hobj hints hlen (Ra hlay) hg) fun r s' hq => ?_)
  obtain ⟨rfl, h2, h3, h4⟩ := hq
  exact ⟨.inl ⟨.bool true, .bool true, [], rfl, fun _ => rfl, .bool true, Att.post_true l _, fun _ => ⟨List.Pairwise.nil, fun _ hm => (nomatch hm)⟩⟩, h2, h3, h4⟩
theorem Zw2 {l : PySem.W.OpenLaw} {n k : Nat} {q : Program} {loose : List Str} {XP : (Str → Option Value) → Heap → Prop} {YP : World → Heap → Prop} {d : DefRec} {K : Params → PySem.W.Frag} {CX : World → CXT} {sp : World → Sp} {x : Str}
    (hn : l.most = some n) (hn2 : n ≤ sizeLine) (hdf : d.params.defaults = []) (hr : Room k callerA) (hY : ∀ (w : World) (h : Heap), YP w h → (K w.params).In h)
    (F : ∀ (w : World) (mg : Str → Option Value) (fa : Addr) (h : Heap), (K w.params).In h → h.Ns mainGlobals mg → mg d.name = some (.ref fa) →
      ∃ fd : FuncData, (∀ (s : Shared) (u : Value), BindsTo s fd ⟨[u], []⟩ [(x, u)]) ∧ ∀ base : Heap, (K w.params).In base → base.Ns mainGlobals mg → FnOk l.prog w (K w.params) mg base (CX w) k fa fd [x] (sp w))
    (hsp : ∀ (w : World) (H : Hp) (a : Addr) (ns : List Int), ns.length ≤ n → (∀ i ∈ ns, Bits bigN i) → Only H → SqL (K w.params) H a (ns.map V.int) → sp w [.ref a] H (fun v _ => v = .bl true) fun _ _ _ => False)
    (hCX : ∀ (w : World) (H : Hp) (s : Shared) (e : Value) (s' : Shared), CX w [] H s (fun _ _ _ => False) e s' → False) :
    PySem.W.WalkO q loose XP YP l.row.toRowW d [] (fun f vs => PySem.call f vs) := by
  refine N6 hn hdf fun w s₀ s₁ mg mb fa o pm cd doc a vs ns G Y hmg hobj hints hlen hbits hg => ?_
  have KX := hY w _ Y
  obtain ⟨fd, hb, hF⟩ := F w mg fa _ KX G.T.g hmg
  exact Z50 KX G.T.g G.T.b G.T.builtins G.T.nolimit hg hobj hints (Nat.le_trans hlen hn2) hr hF hb (fun H hO hS => hsp w H a ns hlen hbits hO hS) fun H e s' => hCX w H s₁ e s'
end L3
namespace L3
open PySem
section
variable {P : Program} {w : World} {A : Around} {R : Result → Shared → Prop} {s : Shared} {elt tg iter c : Expr} {scope : Scope} {pos : Pos} {it acc : Value} {env : Env}
abbrev noE : Value → Shared → Prop := fun _ _ => False
theorem Fj (I : Nat → Shared → Prop)
    (turn : ∀ n s, I n s → wpAny (model P w) A (pyNext it) (fun r s1 => match r with
      | none => R (.ok .next) s1
      | some v => wpAny (model P w) A (letOwnedTupleGo tg it v) (fun _ s2 => wpAny (model P w) A (assign tg env v) (fun _ s3 => wpAny (model P w) A (eval elt env) (fun x s4 =>
          wpAny (model P w) A (call (.builtin "list.append") [acc, x]) (fun _ s5 => ∃ m, m < n ∧ I m s5) noE s4) noE s3) noE s2) noE s1) noE s)
    (n : Nat) (h : I n s) : codeAny (model P w) A (.compLoop (.ListComp elt [⟨tg, iter, [], 0⟩] scope pos) 0 it acc env) R s := by
  refine codeAny_loop rfl I (fun m z hI => ?_) n h
  show wpAny _ A ((compTurn (.ListComp elt [⟨tg, iter, [], 0⟩] scope pos) 0 it acc env).onRaise fun x => do noteFrame x env; theTreesLotGoes x) _ _ z
  refine wpAny_noted ?_
  rw [compTurn_list1]
  refine wpAny_bind (wpAny_standAt (wpAny_bind (wpAny_mono (turn m z hI) (fun r s1 h1 => ?_) fun _ _ f => f.elim)))
  cases r with
  | none => exact wpAny_pure h1
  | some v =>
    refine wpAny_bind (wpAny_mono h1 (fun _ s2 h2 => ?_) fun _ _ f => f.elim)
    refine wpAny_bind (wpAny_mono h2 (fun _ s3 h3 => ?_) fun _ _ f => f.elim)
    refine wpAny_bind (wpAny_bind (wpAny_mono h3 (fun x s4 h4 => ?_) fun _ _ f => f.elim))
    exact wpAny_bind (wpAny_mono h4 (fun _ s5 h5 => wpAny_pure (wpAny_pure ⟨rfl, h5⟩)) fun _ _ f => f.elim)
theorem Eb (I : Nat → Shared → Prop)
    (turn : ∀ n s, I n s → wpAny (model P w) A (pyNext it) (fun r s1 => match r with
      | none => R (.ok .next) s1
      | some v => wpAny (model P w) A (letOwnedTupleGo tg it v) (fun _ s2 => wpAny (model P w) A (assign tg env v) (fun _ s3 => wpAny (model P w) A (isTrue c env (eval c env)) (fun ok s4 =>
          if ok = true then wpAny (model P w) A (eval elt env) (fun x s5 => wpAny (model P w) A (call (.builtin "list.append") [acc, x]) (fun _ s6 => ∃ m, m < n ∧ I m s6) noE s5) noE s4
          else ∃ m, m < n ∧ I m s4) noE s3) noE s2) noE s1) noE s)
    (n : Nat) (h : I n s) : codeAny (model P w) A (.compLoop (.ListComp elt [⟨tg, iter, [c], 0⟩] scope pos) 0 it acc env) R s := by
  refine codeAny_loop rfl I (fun m z hI => ?_) n h
  show wpAny _ A ((compTurn (.ListComp elt [⟨tg, iter, [c], 0⟩] scope pos) 0 it acc env).onRaise fun x => do noteFrame x env; theTreesLotGoes x) _ _ z
  refine wpAny_noted ?_
  rw [compTurn_list]
  refine wpAny_bind (wpAny_standAt (wpAny_bind (wpAny_mono (turn m z hI) (fun r s1 h1 => ?_) fun _ _ f => f.elim)))
  cases r with
  | none => exact wpAny_pure h1
  | some v =>
    refine wpAny_bind (wpAny_mono h1 (fun _ s2 h2 => ?_) fun _ _ f => f.elim)
    refine wpAny_bind (wpAny_mono h2 (fun _ s3 h3 => ?_) fun _ _ f => f.elim)
    refine wpAny_bind (wpAny_tests_one (wpAny_mono h3 (fun ok s4 h4 => ?_) fun _ _ f => f.elim))
    cases ok with
    | false => exact wpAny_pure ⟨rfl, h4⟩
    | true =>
      refine wpAny_bind (wpAny_bind (wpAny_mono h4 (fun x s5 h5 => ?_) fun _ _ f => f.elim))
      exact wpAny_bind (wpAny_mono h5 (fun _ s6 h6 => wpAny_pure (wpAny_pure ⟨rfl, h6⟩)) fun _ _ f => f.elim)
end
theorem Ti {env : Env} : ∀ (names : List (Str × NameKind)) (acc : List (Str × Addr)), (∀ n, (n, NameKind.free) ∈ names → ∃ c, env.cells.lookup n = some c) →
    (∀ x c, acc.lookup x = some c → env.cells.lookup x = some c) →
    ∃ cl, (forIn names acc fun (x : Str × NameKind) (cs : List (Str × Addr)) => match x with
      | (name, kind) => if (kind == NameKind.free) = true then do let c ← cellOf env name; pure (ForInStep.yield ((name, c) :: cs)) else pure (ForInStep.yield cs) : Sem (List (Str × Addr))) = pure cl ∧
      (∀ x c, cl.lookup x = some c → env.cells.lookup x = some c) ∧ (∀ n, (n, NameKind.free) ∈ names → ∃ c, cl.lookup n = some c) ∧ ∀ x c, acc.lookup x = some c → ∃ c', cl.lookup x = some c'
  | [], acc, _, ha => ⟨acc, rfl, ha, (fun _ h => nomatch h), fun x c e => ⟨c, e⟩⟩
  | (n, k) :: r, acc, hn, ha => by
    by_cases hk : k = .free
    · subst hk
      obtain ⟨c, hc⟩ := hn n List.mem_cons_self
      obtain ⟨cl, e, h1, h2, h3⟩ := Ti r ((n, c) :: acc) (fun m hm => hn m (List.mem_cons_of_mem _ hm)) (fun x d hx => by
        rw [List.lookup_cons] at hx
        cases q : x == n with
        | true => rw [q] at hx; cases hx; rw [eq_of_beq q]; exact hc
        | false => rw [q] at hx; exact ha x d hx)
      refine ⟨cl, ?_, h1, fun m hm => ?_, fun x d hx => ?_⟩
      · rw [List.forIn_cons]
        show (bind (bind (cellOf env n) _) _ : Sem _) = _
        unfold cellOf
        rw [hc]
        exact e
      · rcases List.mem_cons.mp hm with q | q
        · cases q; exact h3 n c (by simp [List.lookup_cons])
        · exact h2 m q
      · cases q : x == n with
        | true => exact h3 x c (by rw [List.lookup_cons, q])
        | false => exact h3 x d (by rw [List.lookup_cons, q]; exact hx)
    · have hb : (k == NameKind.free) = false := by simpa using hk
      obtain ⟨cl, e, h1, h2, h3⟩ := Ti r acc (fun m hm => hn m (List.mem_cons_of_mem _ hm)) ha
      refine ⟨cl, ?_, h1, fun m hm => ?_, h3⟩
      · rw [List.forIn_cons]
        show (bind (if (k == NameKind.free) = true then _ else _) _ : Sem _) = _
        rw [hb]
        exact e
      · rcases List.mem_cons.mp hm with q | q
        · cases q; exact absurd rfl hk
        · exact h2 m q
theorem Vg {env : Env} {scope : Scope} (hn : ∀ n, (n, NameKind.free) ∈ scope.names → ∃ c, env.cells.lookup n = some c) :
    ∃ cl, closureFor scope env = pure cl ∧ (∀ x c, cl.lookup x = some c → env.cells.lookup x = some c) ∧ ∀ n, (n, NameKind.free) ∈ scope.names → ∃ c, cl.lookup n = some c := by
  obtain ⟨cl, e, h1, h2, _⟩ := Ti scope.names [] hn (fun x c h => by cases h)
  refine ⟨cl, ?_, h1, h2⟩
  exact (congrArg (fun t : Sem (List (Str × Addr)) => bind t fun z => pure z) e).trans rfl
end L3
namespace L3
open PySem PySem.Spec PyProof.Rows L2
noncomputable def cxC (X : Cx) (N' : List Str) (scope : Scope) (cl : List (Str × Addr)) (C : Addr) (fp : List Addr) (pins : List (Addr × Obj)) (s : Shared) (H : Hp) : Cx where
  prog := X.prog
  w := X.w
  K := X.K
  mg := X.mg
  base := X.base
  A := X.A
  N := N'
  s₀ := s
  H₀ := H
  env := compEnvC scope cl C X.env
  outer := X.stack
  stack := X.stack
  ex := fp
  fn := fun x => scope.names.any fun y => y.1 == x && y.2 == .cell
  calm := X.calm
  pn := X.pn ++ pins
  xe := noE
noncomputable def Wu (scope dsc : Scope) : Scope :=
  { scope with names := scope.names.map fun (n, k) => if (k == .free && dsc.kind == .function && dsc.names.lookup n == some .cell) then (n, .cell) else (n, k) }
noncomputable def Tj (js : List (Option Nat)) (σ : L2.St) : L2.St := js.map fun o => o.bind fun j => (σ[j]?).join
structure CompScope (dsc : Scope) (dN N' : List Str) (js : List (Option Nat)) (scope : Scope) : Prop where
  kind : scope.kind = .function
  nd : (scope.names.map (·.1)).Nodup
  loc : ∀ y ∈ scope.names, y.2 = .local → scope.names.lookup y.1 = some .local
  len : js.length = N'.length
  cap : ∀ (i : Nat) (x : Str) (j : Nat), N'[i]? = some x → js[i]? = some (some j) → dN[j]? = some x ∧ (x, NameKind.free) ∈ scope.names
  free : ∀ n, (n, NameKind.free) ∈ scope.names → dsc.names.lookup n = some .cell ∨ dsc.names.lookup n = some .free
  seen : ∀ n, (n, NameKind.free) ∈ scope.names → (Wu scope dsc).names.lookup n = some .cell ∨ (Wu scope dsc).names.lookup n = some .free
noncomputable def T4 (dsc : Scope) (dN N' : List Str) (js : List (Option Nat)) (scope : Scope) : Bool :=
  scope.kind == .function && decide ((scope.names.map (·.1)).Nodup) && scope.names.all (fun y => y.2 != .local || scope.names.lookup y.1 == some .local) && js.length == N'.length &&
  (N'.zip js).all (fun p => match p.2 with | some j => dN[j]? == some p.1 && scope.names.contains (p.1, NameKind.free) | none => true) &&
  scope.names.all (fun y => y.2 != .free || ((dsc.names.lookup y.1 == some .cell || dsc.names.lookup y.1 == some .free) && ((Wu scope dsc).names.lookup y.1 == some .cell || (Wu scope dsc).names.lookup y.1 == some .free)))
theorem CompScope.of {dsc : Scope} {dN N' : List Str} {js : List (Option Nat)} {scope : Scope} (h : T4 dsc dN N' js scope = true) : CompScope dsc dN N' js scope := by
  unfold T4 at h
  simp only [Bool.and_eq_true, List.all_eq_true, beq_iff_eq, bne_iff_ne, Bool.or_eq_true, decide_eq_true_eq] at h
  obtain ⟨⟨⟨⟨⟨h1, h2⟩, h3⟩, h4⟩, h5⟩, h6⟩ := h
  refine ⟨h1, h2, fun y hy hl => (h3 y hy).resolve_left fun z => z hl, h4, fun i x j e1 e2 => ?_, fun n hn => ?_, fun n hn => ?_⟩
  · have hm : (x, some j) ∈ N'.zip js := List.mem_of_getElem? (i := i) (by rw [List.getElem?_zip_eq_some]; exact ⟨e1, e2⟩)
    have q := h5 _ hm
    simp only [Bool.and_eq_true, beq_iff_eq, List.contains_iff_mem] at q
    exact q
  · exact ((h6 _ hn).resolve_left fun z => z rfl).1
  · exact ((h6 _ hn).resolve_left fun z => z rfl).2
theorem Vt {env : Env} {x : Str} {k : NameKind} : ∀ {names : List (Str × NameKind)},
    (names.map fun (n, k) => if (k == NameKind.free && env.scope.kind == .function && env.kindOf n == some .cell) then (n, NameKind.cell) else (n, k)).lookup x = some k → (k = .cell ∨ k = .free) → (x, NameKind.free) ∈ names ∨ (x, NameKind.cell) ∈ names
  | [], h, _ => by simp at h
  | (n, q) :: r, h, hk => by
    rw [List.map_cons] at h
    by_cases hx : x = n
    · subst hx
      have hq : q = .free ∨ q = .cell := by
        by_cases c : (q == NameKind.free && env.scope.kind == .function && env.kindOf x == some .cell) = true
        · rw [Bool.and_eq_true, Bool.and_eq_true] at c
          exact .inl (eq_of_beq c.1.1)
        · simp only [if_neg c] at h
          rw [List.lookup_cons, beq_self_eq_true] at h
          have e : q = k := Option.some.inj h
          rcases hk with z | z
          · exact .inr (e.trans z)
          · exact .inl (e.trans z)
      rcases hq with rfl | rfl
      · exact .inl List.mem_cons_self
      · exact .inr List.mem_cons_self
    · have hb : (x == n) = false := by simpa using hx
      have rest : (r.map fun (n, k) => if (k == NameKind.free && env.scope.kind == .function && env.kindOf n == some .cell) then (n, NameKind.cell) else (n, k)).lookup x = some k := by
        by_cases c : (q == NameKind.free && env.scope.kind == .function && env.kindOf n == some .cell) = true
        · simp only [if_pos c] at h
          rw [List.lookup_cons, hb] at h
          exact h
        · simp only [if_neg c] at h
          rw [List.lookup_cons, hb] at h
          exact h
      exact (Vt (env := env) rest hk).imp (List.mem_cons_of_mem _) (List.mem_cons_of_mem _)
structure BlockCells (X : Cx) (scope : Scope) (cl : List (Str × Addr)) (sz : Nat) (h1 : Heap) : Prop where
  each : ∀ x c, cl.lookup x = some c → X.env.cells.lookup x = some c ∨ (sz < c ∧ h1.IsCell c none)
  free : ∀ n, (n, NameKind.free) ∈ scope.names → ∃ c, cl.lookup n = some c ∧ X.env.cells.lookup n = some c
  own : ∀ n, (n, NameKind.cell) ∈ scope.names → ∃ c, cl.lookup n = some c ∧ sz < c
  inj : ∀ x y c, cl.lookup x = some c → cl.lookup y = some c → sz < c → x = y
theorem Ta {x : Str} : ∀ (names : List (Str × NameKind)) (n : Nat) (acc : List (Str × Addr)), (x, NameKind.cell) ∉ names → (cellsFrom n names acc).lookup x = acc.lookup x
  | [], _, _, _ => rfl
  | (y, k) :: r, n, acc, h => by
    have hr : (x, NameKind.cell) ∉ r := fun z => h (List.mem_cons_of_mem _ z)
    unfold cellsFrom
    split
    · rename_i hk
      have hxy : (x == y) = false := by
        rw [beq_eq_false_iff_ne]
        intro e
        apply h
        rw [e, ← eq_of_beq hk]
        exact List.mem_cons_self
      rw [Ta r _ _ hr, List.lookup_cons, hxy]
    · exact Ta r n acc hr
theorem Rs {x : Str} : ∀ (names : List (Str × NameKind)) (n : Nat) (acc : List (Str × Addr)), (x, NameKind.cell) ∈ names → ∃ c, (cellsFrom n names acc).lookup x = some c ∧ n ≤ c
  | [], _, _, h => by cases h
  | (y, k) :: r, n, acc, h => by
    unfold cellsFrom
    by_cases hr : (x, NameKind.cell) ∈ r
    · split
      · obtain ⟨c, e, l⟩ := Rs r (n + 1) ((y, n) :: acc) hr
        exact ⟨c, e, by omega⟩
      · exact Rs r n acc hr
    · rcases List.mem_cons.mp h with e | e
      · cases e
        rw [if_pos (by rfl), Ta r _ _ hr, List.lookup_cons, beq_self_eq_true]
        exact ⟨n, rfl, Nat.le_refl _⟩
      · exact absurd e hr
theorem Vu : ∀ (names : List (Str × NameKind)) (n : Nat) (acc cl : List (Str × Addr)), ∃ own, cellsFrom n names (acc ++ cl) = own ++ cl ∧ cellsFrom n names acc = own
  | [], n, acc, cl => ⟨acc, rfl, rfl⟩
  | (y, k) :: r, n, acc, cl => by
    unfold cellsFrom
    split
    · exact Vu r (n + 1) ((y, n) :: acc) cl
    · exact Vu r n acc cl
theorem Vf {x : Str} {c : Addr} : ∀ {a b : List (Str × Addr)}, (a ++ b).lookup x = some c → a.lookup x = some c ∨ b.lookup x = some c
  | [], b, h => .inr h
  | (y, d) :: a, b, h => by
    rw [List.cons_append, List.lookup_cons] at h
    rw [List.lookup_cons]
    cases e : x == y with
    | true => rw [e] at h; exact .inl h
    | false => rw [e] at h; exact Vf h
theorem Qi {X : Cx} {pins : List (Addr × Obj)} {σ : L2.St} {H : Hp} {s : Shared} {scope : Scope} {cl : List (Str × Addr)} (nd : (scope.names.map (·.1)).Nodup) (I : Inv X pins σ H s) (o : Obj)
    (c1 : ∀ x c, cl.lookup x = some c → X.env.cells.lookup x = some c) (c2 : ∀ n, (n, NameKind.free) ∈ scope.names → ∃ c, cl.lookup n = some c) :
    BlockCells X scope (cellsFrom (s.heap.objs.size + 1) scope.names cl) s.heap.objs.size (pushCells (s.heap.push o) scope.names) := by
  obtain ⟨own, e1, e2⟩ := Vu scope.names (s.heap.objs.size + 1) [] cl
  rw [List.nil_append] at e1
  have ok := cellsFrom_ok scope.names (s.heap.push o) (s.heap.objs.size + 1) [] ⟨fun _ _ hm => (nomatch hm), List.Pairwise.nil⟩ (by rw [Heap.size_push]; exact Nat.le_refl _)
  rw [Heap.size_push, e2] at ok
  have old : ∀ x c, cl.lookup x = some c → c < s.heap.objs.size := by
    intro x c e
    obtain ⟨v, q⟩ := I.cell x c (c1 x c e)
    exact q.lt
  have one : ∀ {n : Str}, (n, NameKind.free) ∈ scope.names → (n, NameKind.cell) ∉ scope.names := by
    intro n h1 h2
    have key : ∀ (l : List (Str × NameKind)), (l.map (·.1)).Nodup → (n, NameKind.free) ∈ l → (n, NameKind.cell) ∈ l → False := by
      intro l
      induction l with
      | nil => intro _ h; cases h
      | cons y r ih =>
        intro hn a b
        rw [List.map_cons, List.nodup_cons] at hn
        rcases List.mem_cons.mp a with e1 | a2
        · rcases List.mem_cons.mp b with e2 | b2
          · rw [← e1] at e2; cases e2
          · exact hn.1 (List.mem_map.mpr ⟨_, b2, by rw [← e1]⟩)
        · rcases List.mem_cons.mp b with e2 | b2
          · exact hn.1 (List.mem_map.mpr ⟨_, a2, by rw [← e2]⟩)
          · exact ih hn.2 a2 b2
    exact key _ nd h1 h2
  refine ⟨fun x c e => ?_, fun n hn => ?_, fun n hn => ?_, fun x y c hx hy hc => ?_⟩
  · rw [e1] at e
    rcases Vf e with z | z
    · obtain ⟨a, b⟩ := ok.empty x c (mem_of_lookup z)
      exact .inr ⟨b, a⟩
    · exact .inl (c1 x c z)
  · obtain ⟨c, hc⟩ := c2 n hn
    refine ⟨c, ?_, c1 n c hc⟩
    rw [Ta _ _ _ (one hn)]
    exact hc
  · obtain ⟨c, a, b⟩ := Rs scope.names (s.heap.objs.size + 1) cl hn
    exact ⟨c, a, b⟩
  · rw [e1] at hx hy
    rcases Vf hx with z | z
    · rcases Vf hy with z2 | z2
      · exact name_of_addr ok.apart (mem_of_lookup z) (mem_of_lookup z2)
      · exact absurd (old y c z2) (Nat.lt_asymm hc)
    · exact absurd (old x c z) (Nat.lt_asymm hc)
theorem Qu {M : Model} {A : Around} {E : Value → Shared → Prop} {s : Shared} {scope : Scope} {globals : Addr} {cl : List (Str × Addr)} {qual : Str} {o : Env} {Q : Env → Shared → Prop}
    (hQ : Q { scope := scope, locals := s.heap.objs.size, globals := globals, cells := cellsFrom (s.heap.objs.size + 1) scope.names cl, qual := qual, func := none, code := o.code, frame := o.frame, builtins := o.builtins } { s with heap := pushCells (s.heap.push { cls := .type "dict", data := .dict #[] }) scope.names }) :
    wpAny M A (newFunctionEnv scope globals cl [] qual none .none (some o)) Q E s := by
  simp only [newFunctionEnv, Option.isSome_some, if_true]
  refine wpAny_bind (wpAny_alloc ?_)
  refine wpAny_bind (wpAny_layCells _ (fun name kind cells => by cases hkc : kind == NameKind.cell <;> simp [hkc]) _ _ _ _ ?_)
  rw [show ({ s with heap := s.heap.push { cls := .type "dict", data := .dict #[] } } : Shared).heap.objs.size = s.heap.objs.size + 1 from Heap.size_push ..]
  rw [List.forIn_nil]
  exact wpAny_bind (wpAny_pure (wpAny_pure hQ))
section
variable {X : Cx} {elt tg iter c : Expr} {scope : Scope} {pos : Pos} {N' : List Str} {js : List (Option Nat)} {wi : TI} {g : TG} {te : TE} {tc : TT}
theorem Q5 {N' : List Str} {js : List (Option Nat)} {pins : List (Addr × Obj)} {σ : L2.St} {H : Hp} {s : Shared} {cl : List (Str × Addr)} {fp : List Addr} {h1 : Heap} {tk : Nat} (S : CompScope X.env.scope X.N N' js scope) (I : Inv X pins σ H s)
    (bc : BlockCells X scope cl s.heap.objs.size h1) (hf : ∀ b ∈ fp, FpOk X pins H b) (hlt : ∀ b ∈ fp, b < s.heap.objs.size)
    {m : Str → Option Value} (hn : h1.Ns s.heap.objs.size m) (hk : ∀ b o, s.heap.get? b = some o → h1.get? b = some o) :
    Inv (cxC X N' scope cl s.heap.objs.size fp pins s H) [] (Tj js σ) H { s with heap := h1, toks := tk } := by
  have ok : (cxC X N' scope cl s.heap.objs.size fp pins s H).Ok := by
    refine ⟨I.ok.mod, S.kind, I.ok.glob, I.ok.blt, Nat.le_refl _, fun x y c h1 h2 => ?_, fun x hx => ?_, fun x c hx e => ?_, I.ok.hd, I.ok.frames, .inl rfl, fun b hb => ⟨Nat.ne_of_lt (hlt b hb), fun x c e => ?_⟩,
      I.bs, Nat.le_trans I.ok.bsz I.sz, fun b o e hb => ?_, fun b hb hx => ?_, I.stack, I.stkFree⟩
    · rcases bc.each x c h1 with z | z
      · rcases bc.each y c h2 with z2 | z2
        · exact I.ok.inj x y c z z2
        · exact bc.inj x y c h1 h2 z2.1
      · exact bc.inj x y c h1 h2 z.1
    · have hx' : (relabel scope X.env).names.lookup x = some .cell ∨ (relabel scope X.env).names.lookup x = some .free := hx
      have hm : (x, NameKind.free) ∈ scope.names ∨ (x, NameKind.cell) ∈ scope.names := by
        rcases hx' with z | z
        · exact Vt z (.inl rfl)
        · exact Vt z (.inr rfl)
      rcases hm with z | z
      · obtain ⟨c, e, _⟩ := bc.free x z; exact ⟨c, e⟩
      · obtain ⟨c, e, _⟩ := bc.own x z; exact ⟨c, e⟩
    · have hx' : (scope.names.any fun y => y.1 == x && y.2 == NameKind.cell) = true := hx
      rw [List.any_eq_true] at hx'
      obtain ⟨⟨y, k⟩, hm, hy⟩ := hx'
      rw [Bool.and_eq_true] at hy
      have e1 : y = x := eq_of_beq hy.1
      have e2 : k = .cell := eq_of_beq hy.2
      subst e1 e2
      obtain ⟨c', e', l⟩ := bc.own _ hm
      have : c' = c := Option.some.inj (e'.symm.trans e)
      subst this
      exact Nat.le_of_lt l
    · rcases bc.each x c e with z | z
      · exact (hf b hb).2.2.2.2.1 x c z
      · exact fun q => absurd z.1 (Nat.lt_asymm (by rw [q]; exact hlt b hb))
    · obtain ⟨_, _, _, f3, _⟩ := hf b hb
      rcases f3 with z | z
      · exact I.ok.noex b o e z
      · exact absurd (Nat.lt_of_lt_of_le (Heap.lt_size e) (Nat.le_trans I.ok.bsz z)) (Nat.lt_irrefl _)
    · obtain ⟨_, f1, f2, _⟩ := hf b hb
      rcases List.mem_cons.mp (I.stkSub b hx) with z | z
      · exact f1 z
      · exact f2 z
  refine ⟨ok, rfl, I.bare, Un.kept hk, ⟨m, hn, fun i x v e1 e2 e3 => ?_⟩, fun x c e => ?_, I.hok.fresh (Nat.le_refl _), fun x c e => (bc.each x c e).elim (fun z => I.freeC x c z) (fun z => I.hok.fresh (Nat.le_of_lt z.1)), fun p hp => ?_, I.hok.kept hk, ?_⟩
  · have e2' : (Tj js σ)[i]? = some (some v) := e2
    unfold Tj at e2'
    rw [List.getElem?_map] at e2'
    cases q : js[i]? with
    | none => rw [q] at e2'; cases e2'
    | some o =>
      rw [q] at e2'
      cases o with
      | none => cases e2'
      | some j =>
        have e4 : (σ[j]?).join = some v := Option.some.inj e2'
        obtain ⟨hN, hm⟩ := S.cap i x j e1 q
        have hσ : σ[j]? = some (some v) := by
          cases z : σ[j]? with
          | none => rw [z] at e4; cases e4
          | some o => rw [z] at e4; exact congrArg some e4
        obtain ⟨m0, hn0, hl⟩ := I.loc
        obtain ⟨c, hc, hc0⟩ := bc.free x hm
        have hv : Vis X.env.scope x := (S.free x hm).elim (fun z => .inr (.inl z)) fun z => .inr (.inr z)
        obtain ⟨u, r, l⟩ := hl j x v hN hσ hv
        refine ⟨u, r, .inr ⟨?_, c, hc, ?_⟩⟩
        · exact S.seen x hm
        · rcases l with ⟨kl, _⟩ | ⟨_, c', hc', cell⟩
          · rcases S.free x hm with y | y <;> (have z := y.symm.trans (show X.env.scope.names.lookup x = some .local from kl); cases z)
          · rw [hc0] at hc'
            cases hc'
            obtain ⟨o, ho, hd⟩ := cell
            exact ⟨o, hk _ _ ho, hd⟩
  · rcases bc.each x c e with z | z
    · obtain ⟨v, o, ho, hd⟩ := I.cell x c z
      exact ⟨v, o, hk _ _ ho, hd⟩
    · exact ⟨none, z.2⟩
  · have hp' : p ∈ X.pn ++ pins := (List.mem_append.mp hp).elim (fun z => z) fun z => absurd z (by simp)
    obtain ⟨e, n, ne, nf, d⟩ := I.pin p hp'
    refine ⟨hk _ _ e, n, Nat.ne_of_lt (Heap.lt_size e), fun z => ?_, d⟩
    rcases List.mem_cons.mp (I.stkSub p.1 z) with y | y
    · exact ne y
    · exact nf y
  · show (Tj js σ).length = N'.length
    unfold Tj
    rw [List.length_map]; exact S.len
end
section
variable {X : Cx} {elt tg iter c : Expr} {scope : Scope} {pos : Pos} {N' : List Str} {js : List (Option Nat)} {wi : TI} {g : TG} {te : TE} {tc : TT}
def Z37 (js : List (Option Nat)) (wi : TI) (g : TG) (te : TE) : TE := fun σ H Q => wi σ H fun J H1 => ∀ D, H1 D = none → ∃ W : Nat → Nat → L2.St → Hp → Prop, (∃ m, W 0 m (Tj js σ) (upd H1 D (.lst []))) ∧
  ∀ i m σc Hc, W i m σc Hc → (J.stop i Hc ∧ Q (.ref D) Hc) ∨ (J.go i Hc ∧ ∀ x H', J.yld i Hc x H' → g x σc H' fun σ2 H2 => te σ2 H2 fun y H4 => ∃ acc, H4 D = some (.lst acc) ∧ acc.length < sizeLine ∧
    ∃ m', m' < m ∧ W (i + 1) m' σ2 (upd H4 D (.lst (acc ++ [y]))))
def Zf0 (js : List (Option Nat)) (wi : TI) (g : TG) (tc : TT) (te : TE) : TE := fun σ H Q => wi σ H fun J H1 => ∀ D, H1 D = none → ∃ W : Nat → Nat → L2.St → Hp → Prop, (∃ m, W 0 m (Tj js σ) (upd H1 D (.lst []))) ∧
  ∀ i m σc Hc, W i m σc Hc → (J.stop i Hc ∧ Q (.ref D) Hc) ∨ (J.go i Hc ∧ ∀ x H', J.yld i Hc x H' → g x σc H' fun σ2 H2 => tc σ2 H2 fun b H3 => if b = true then te σ2 H3 fun y H4 => ∃ acc, H4 D = some (.lst acc) ∧ acc.length < sizeLine ∧
    ∃ m', m' < m ∧ W (i + 1) m' σ2 (upd H4 D (.lst (acc ++ [y]))) else ∃ m', m' < m ∧ W (i + 1) m' σ2 H3)
theorem R6 {pins : List (Addr × Obj)} {σ : L2.St} {H2 : Hp} {s2 : Shared} {cl : List (Str × Addr)} {it : Addr} {fp : List Addr} {tn : Nat → Heap → Prop} {J : It} {QD : Addr → Hp → Prop} {R : Value → Addr → Result → Shared → Prop} {E : Value → Shared → Prop}
    (hc : X.calm = true) (S : CompScope X.env.scope X.N N' js scope) (c1 : ∀ x c, cl.lookup x = some c → X.env.cells.lookup x = some c) (c2 : ∀ n, (n, NameKind.free) ∈ scope.names → ∃ c, cl.lookup n = some c)
    (hg : ∀ cl C fp pins s H, PG (cxC X N' scope cl C fp pins s H) tg g) (he : ∀ cl C fp pins s H, PE (cxC X N' scope cl C fp pins s H) elt te)
    (I2 : Inv X pins σ H2 s2) (T : Turn X.prog X.w X.K tg J fp it tn) (st2 : tn 0 s2.heap) (f2 : ∀ b ∈ fp, FpOk X pins H2 b)
    (q : ∀ D, H2 D = none → ∃ W : Nat → Nat → L2.St → Hp → Prop, (∃ m, W 0 m (Tj js σ) (upd H2 D (.lst []))) ∧
      ∀ i m σc Hc, W i m σc Hc → (J.stop i Hc ∧ QD D Hc) ∨ (J.go i Hc ∧ ∀ x H', J.yld i Hc x H' → g x σc H' fun σ2 H2 => te σ2 H2 fun y H4 => ∃ acc, H4 D = some (.lst acc) ∧ acc.length < sizeLine ∧
        ∃ m', m' < m ∧ W (i + 1) m' σ2 (upd H4 D (.lst (acc ++ [y])))))
    (back : ∀ (D C : Addr) (Hc : Hp) (s4 : Shared), (∃ m, s4.heap.Ns C m) → Inv X pins σ Hc s4 → Hc C = none → C ≠ X.env.locals → X.s₀.heap.objs.size ≤ C → (∀ x c, X.env.cells.lookup x = some c → c ≠ C) → (∀ p ∈ X.pn ++ pins, p.1 ≠ C) → QD D Hc → R (.ref D) C (.ok .next) s4) :
    wpAny (model X.prog X.w) X.A (newList []) (fun acc s3 => wpAny (model X.prog X.w) X.A (newFunctionEnv scope X.env.globals cl [] X.env.qual none .none (some X.env)) (fun cenv s4 =>
      codeAny (model X.prog X.w) X.A (.compStart (.ListComp elt [⟨tg, iter, [], 0⟩] scope pos) 0 (.ref it) acc { cenv with scope := relabel scope X.env }) (R acc cenv.locals) s4) E s3) E s2 := by
  refine wpAny_newObj_type (Qu ?_)
  dsimp only
  have I3 : Inv X pins σ (upd H2 s2.heap.objs.size (.lst [])) { s2 with heap := s2.heap.push { cls := .type "list", data := .seq ([] : List Value).toArray } } := I2.lnew (its := []) (t' := s2.toks) .nil (Nat.zero_le _)
  obtain ⟨W, ⟨m0, w0⟩, turn⟩ := q s2.heap.objs.size I2.fresh
  have hob := T.obj 0 _ st2
  have f3 : ∀ b ∈ fp, FpOk X pins (upd H2 s2.heap.objs.size (.lst [])) b := fun b hb => by
    obtain ⟨o, e, _⟩ := hob b hb
    exact ⟨by rw [Zj (Nat.ne_of_lt (Heap.lt_size e))]; exact (f2 b hb).1, (f2 b hb).2⟩
  generalize hS3 : (s2.heap.push { cls := .type "list", data := .seq ([] : List Value).toArray } : Heap) = h3 at *
  have k23 : ∀ b o, s2.heap.get? b = some o → h3.get? b = some o := fun b o e => by rw [← hS3]; exact Heap.get?_push_of_some _ e
  have hlt : ∀ b ∈ fp, b < h3.objs.size := fun b hb => by
    obtain ⟨o, e, _⟩ := hob b hb
    exact Heap.lt_size (k23 b o e)
  have bc := Qi S.nd I3 { cls := .type "dict", data := .dict #[] } c1 c2
  have hns : (pushCells (h3.push { cls := .type "dict", data := .dict #[] }) scope.names).Ns h3.objs.size (fun _ => none) := (Heap.Ns.new h3 (.type "dict")).keeps (pushCells_keeps _ _)
  have k31 : ∀ b o, h3.get? b = some o → (pushCells (h3.push { cls := .type "dict", data := .dict #[] }) scope.names).get? b = some o := fun b o e => pushCells_keeps _ _ b o (Heap.get?_push_of_some _ e)
  dsimp only at bc
  generalize cellsFrom (h3.objs.size + 1) scope.names cl = cl' at bc ⊢
  generalize pushCells (h3.push { cls := .type "dict", data := .dict #[] }) scope.names = h1 at bc hns k31 ⊢
  have I4 := Q5 (tk := s2.toks) S I3 bc f3 hlt hns k31
  have st4 : tn 0 h1 := T.keep 0 _ h1 st2 fun b hb o e => k31 b o (k23 b o e)
  have nofs : ∀ b ∈ fp, b ∉ (cxC X N' scope cl' h3.objs.size fp pins { s2 with heap := h3 } (upd H2 s2.heap.objs.size (.lst []))).fs := I4.ok.exfs
  have stat : ∀ {H' : Hp}, (∀ b ∈ fp, H' b = none) → ∀ b ∈ fp, FpOk (cxC X N' scope cl' h3.objs.size fp pins { s2 with heap := h3 } (upd H2 s2.heap.objs.size (.lst []))) [] H' b := fun {H'} hn b hb =>
    ⟨hn b hb, Nat.ne_of_lt (hlt b hb), nofs b hb, .inl hb, fun x c e => (bc.each x c e).elim (fun z => (f3 b hb).2.2.2.2.1 x c z) (fun z q => absurd z.1 (Nat.lt_asymm (by rw [q]; exact hlt b hb))), fun p hp => (f3 b hb).2.2.2.2.2 p (by simpa [cxC] using hp)⟩
  have loop : codeAny (model X.prog X.w) X.A (.compLoop (.ListComp elt [⟨tg, iter, [], 0⟩] scope pos) 0 (.ref it) (.ref s2.heap.objs.size) (compEnvC scope cl' h3.objs.size X.env))
      (R (.ref s2.heap.objs.size) h3.objs.size) { s2 with heap := h1, toks := s2.toks } := by
    refine Fj (fun n s' => ∃ i σc Hc, Inv (cxC X N' scope cl' h3.objs.size fp pins { s2 with heap := h3 } (upd H2 s2.heap.objs.size (.lst []))) [] σc Hc s' ∧ tn i s'.heap ∧ (∀ b ∈ fp, Hc b = none) ∧ W i n σc Hc) ?_ m0
      ⟨0, _, _, I4, st4, fun b hb => (f3 b hb).1, w0⟩
    rintro n z ⟨i, σc, Hc, Iz, stz, frz, wz⟩
    rcases turn i n σc Hc wz with ⟨stop, qd⟩ | ⟨go, step⟩
    · refine thn (T.done (cxC X N' scope cl' h3.objs.size fp pins { s2 with heap := h3 } (upd H2 s2.heap.objs.size (.lst []))) rfl rfl rfl hc i [] z σc Hc noE Iz (stat frz) stz stop) fun r s4 zz42 => ?_
      obtain ⟨hr, I5⟩ := zz42
      subst hr
      have J5 : Inv X pins σ Hc s4 := I3.call' (s' := s4) I5.os I5.base I5.hok I5.bare fun b hb => ⟨(f3 b hb).2.2.2.1, (f3 b hb).2.1, (f3 b hb).2.2.2.2.1, (f3 b hb).2.2.2.2.2⟩
      obtain ⟨m, hm, _⟩ := I5.loc
      refine back _ _ Hc s4 ⟨m, hm⟩ J5 I5.free (Nat.ne_of_gt I3.lt) (Nat.le_trans I3.ok.above (Nat.le_of_lt I3.lt)) (fun x c e z => ?_) (fun p hp z => ?_) qd
      · obtain ⟨v, q⟩ := I3.cell x c e
        exact absurd q.lt (by rw [z]; exact Nat.lt_irrefl _)
      · exact absurd (Heap.lt_size (I3.pin p hp).1) (by rw [z]; exact Nat.lt_irrefl _)
    · refine thn (T.item (cxC X N' scope cl' h3.objs.size fp pins { s2 with heap := h3 } (upd H2 s2.heap.objs.size (.lst []))) rfl rfl rfl hc i [] z σc Hc noE Iz (stat frz) stz go) fun r s4 zz43 => ?_
      obtain ⟨u, hr, h4⟩ := zz43
      subst hr
      refine thn h4 fun _ s5 zz44 => ?_
      obtain ⟨x, H5, I5, r5, y5, st5, fr5⟩ := zz44
      have I5' := I5.pinned (stat fr5) (T.obj _ _ st5)
      refine thn (hg _ _ _ _ _ _ _ s5 σc H5 x u _ I5' r5 (step x H5 y5)) fun _ s6 zz45 => ?_
      obtain ⟨σ6, H6, I6, q6⟩ := zz45
      refine thn (he _ _ _ _ _ _ _ s6 σ6 H6 _ I6 q6) fun v s7 zz46 => ?_
      obtain ⟨y, H7, I7, r7, acc, hD, hlen, m', hm, w7⟩ := zz46
      refine thn (Rq _ s7 σ6 H7 (.ref s2.heap.objs.size) [y] (.ref s2.heap.objs.size) [v] (fun _ H8 => H8 = upd H7 s2.heap.objs.size (.lst (acc ++ [y]))) I7 rfl (.cons r7 .nil) ⟨_, acc, y, rfl, rfl, hD, hlen, rfl⟩) fun _ s8 zz47 => ?_
      obtain ⟨_, H8, I8, _, e8⟩ := zz47
      subst e8
      refine ⟨m', hm, i + 1, σ6, _, I8.unpinned, T.keep _ _ _ st5 fun b hb o e => (I8.pin (b, o) (List.mem_append_right _ (List.mem_append_right _ (Yy hb e)))).1, fun b hb => ?_, w7⟩
      obtain ⟨o, e, d⟩ := T.obj _ _ st5 b hb
      exact (I8.pin (b, o) (List.mem_append_right _ (List.mem_append_right _ (Yy hb e)))).2.1
  exact codeAny_compStart_list loop (T.self _ 0 _ _ _ st4 loop)
theorem Z86 (hc : X.calm = true) (ho : T4 X.env.scope X.N N' js scope = true) (hi : PI X tg iter wi) (hg : ∀ cl C fp pins s H, PG (cxC X N' scope cl C fp pins s H) tg g) (he : ∀ cl C fp pins s H, PE (cxC X N' scope cl C fp pins s H) elt te)
    (hs : ∀ x, foldedSetIterable iter X.env x = pure x := by intro _; rfl) : PE X (.ListComp elt [⟨tg, iter, [], 0⟩] scope pos) (Z37 js wi g te) := by
  intro pins s σ H Q I h
  have S := CompScope.of ho
  obtain ⟨cl, hcl, c1, c2⟩ := Vg (scope := scope) (env := X.env) fun n hn => I.ok.has n (S.free n hn)
  rw [eval_ListComp]
  refine wpAny_comprehension_free (use := none) rfl hs hcl S.kind S.loc (thn (hi pins s σ H _ I h) fun v s1 h1 => thn h1 fun itv s2 h2 => ?_)
  obtain ⟨it, fp, tn, J, H2, e, I2, T, st2, f2, q2⟩ := h2
  subst e
  refine R6 (QD := fun D Hc => Q (.ref D) Hc) (R := fun acc C => compPost (model X.prog X.w) X.A X.xe none (EP X pins σ Q) acc C) hc S c1 c2 hg he I2 T st2 f2 q2 ?_
  rintro D C Hc s4 ⟨m, hm⟩ J4 fC nL sC cC pC qd
  refine ⟨m, hm, fun h' hs' => ⟨.ref D, Hc, ?_, rfl, qd⟩⟩
  exact J4.turned (t' := s4.toks) (fun b o hb e => (hs'.2 b hb).trans e) fC nL (.inr sC) cC pC
def Zq3 (i : Nat) (js : List (Option Nat)) (wi : TI) (g : TG) (te : TE) : TS := fun D σ H => Z37 js wi g te σ H fun v H1 => D.nx (σ.set i (some v)) H1
theorem Z95 {i : Nat} {x : Str} {px spos : Pos} (hc : X.calm = true) (ho : T4 X.env.scope X.N N' js scope = true) (hN : X.N.Nodup) (hx : X.N[i]? = some x) (hl : X.env.scope.names.lookup x = some .local) (hi : PI X tg iter wi)
    (hg : ∀ cl C fp pins s H, PG (cxC X N' scope cl C fp pins s H) tg g) (he : ∀ cl C fp pins s H, PE (cxC X N' scope cl C fp pins s H) elt te)
    (hsw : swapsWith (.ListComp elt [⟨tg, iter, [], 0⟩] scope pos) (some (.Name x px)) spos.line X.env = pure true)
    (hs : ∀ x, foldedSetIterable iter X.env x = pure x := by intro _; rfl) : PS X (.Assign [.Name x px] (.ListComp elt [⟨tg, iter, [], 0⟩] scope pos) spos) (Zq3 i js wi g te) := by
  intro pins s σ H D I h
  have S := CompScope.of ho
  obtain ⟨cl, hcl, c1, c2⟩ := Vg (scope := scope) (env := X.env) fun n hn => I.ok.has n (S.free n hn)
  rw [exec_Assign_Name_used _ _ _ _ hsw]
  refine wpAny_bind (wpAny_standAt (wpAny_bind ?_))
  show wpAny _ _ (do let _ ← comprehension (.ListComp elt [⟨tg, iter, [], 0⟩] scope pos) scope X.env _ (newList []) false (eval iter X.env) (some (assign (.Name x px) X.env))) _ _ s
  refine wpAny_bind (wpAny_mono (wpAny_comprehension_free (use := some (assign (.Name x px) X.env)) (Q := fun _ s' => SP X pins D .next s') rfl hs hcl S.kind S.loc (thn (hi pins s σ H _ I h) fun v s1 h1 => thn h1 fun itv s2 h2 => ?_)) (fun _ s' hq => wpAny_pure (wpAny_pure hq)) fun _ _ e => e)
  obtain ⟨it, fp, tn, J, H2, e, I2, T, st2, f2, q2⟩ := h2
  subst e
  refine R6 (QD := fun E' Hc => D.nx (σ.set i (some (.ref E'))) Hc) (R := fun acc C => compPost (model X.prog X.w) X.A X.xe (some (assign (.Name x px) X.env)) (fun _ s' => SP X pins D .next s') acc C) hc S c1 c2 hg he I2 T st2 f2 q2 ?_
  rintro E' C Hc s4 ⟨m, hm⟩ J4 fC nL sC cC pC qd
  show wpAny _ _ (assign (.Name x px) X.env (.ref E')) _ _ s4
  refine wpAny_assign_Name (Ru J4 hN hx (.inl hl) (v := .ref E') rfl (fun s5 J5 zz48 => ?_) (.inr hl))
  obtain ⟨a, sb, ha⟩ := zz48
  have hCa : C ≠ a := by
    rcases ha with z | z
    · rw [z]; exact nL
    · exact (cC x a z).symm
  refine ⟨m, hm.sameBut sb hCa, fun h' hs' => ⟨σ.set i (some (.ref E')), Hc, ?_, qd⟩⟩
  exact J5.turned (t' := s5.toks) (fun b o hb e => (hs'.2 b hb).trans e) fC nL (.inr sC) cC pC
theorem Rj {pins : List (Addr × Obj)} {σ : L2.St} {H2 : Hp} {s2 : Shared} {cl : List (Str × Addr)} {it : Addr} {fp : List Addr} {tn : Nat → Heap → Prop} {J : It} {QD : Addr → Hp → Prop} {R : Value → Addr → Result → Shared → Prop} {E : Value → Shared → Prop}
    (hc : X.calm = true) (S : CompScope X.env.scope X.N N' js scope) (c1 : ∀ x c, cl.lookup x = some c → X.env.cells.lookup x = some c) (c2 : ∀ n, (n, NameKind.free) ∈ scope.names → ∃ c, cl.lookup n = some c)
    (hg : ∀ cl C fp pins s H, PG (cxC X N' scope cl C fp pins s H) tg g) (hq : ∀ cl C fp pins s H, PT (cxC X N' scope cl C fp pins s H) c tc) (he : ∀ cl C fp pins s H, PE (cxC X N' scope cl C fp pins s H) elt te)
    (I2 : Inv X pins σ H2 s2) (T : Turn X.prog X.w X.K tg J fp it tn) (st2 : tn 0 s2.heap) (f2 : ∀ b ∈ fp, FpOk X pins H2 b)
    (q : ∀ D, H2 D = none → ∃ W : Nat → Nat → L2.St → Hp → Prop, (∃ m, W 0 m (Tj js σ) (upd H2 D (.lst []))) ∧
      ∀ i m σc Hc, W i m σc Hc → (J.stop i Hc ∧ QD D Hc) ∨ (J.go i Hc ∧ ∀ x H', J.yld i Hc x H' → g x σc H' fun σ2 H2 => tc σ2 H2 fun b H3 => if b = true then te σ2 H3 fun y H4 => ∃ acc, H4 D = some (.lst acc) ∧ acc.length < sizeLine ∧
        ∃ m', m' < m ∧ W (i + 1) m' σ2 (upd H4 D (.lst (acc ++ [y]))) else ∃ m', m' < m ∧ W (i + 1) m' σ2 H3))
    (back : ∀ (D C : Addr) (Hc : Hp) (s4 : Shared), (∃ m, s4.heap.Ns C m) → Inv X pins σ Hc s4 → Hc C = none → C ≠ X.env.locals → X.s₀.heap.objs.size ≤ C → (∀ x c, X.env.cells.lookup x = some c → c ≠ C) → (∀ p ∈ X.pn ++ pins, p.1 ≠ C) → QD D Hc → R (.ref D) C (.ok .next) s4) :
    wpAny (model X.prog X.w) X.A (newList []) (fun acc s3 => wpAny (model X.prog X.w) X.A (newFunctionEnv scope X.env.globals cl [] X.env.qual none .none (some X.env)) (fun cenv s4 =>
      codeAny (model X.prog X.w) X.A (.compStart (.ListComp elt [⟨tg, iter, [c], 0⟩] scope pos) 0 (.ref it) acc { cenv with scope := relabel scope X.env }) (R acc cenv.locals) s4) E s3) E s2 := by
  refine wpAny_newObj_type (Qu ?_)
  dsimp only
  have I3 : Inv X pins σ (upd H2 s2.heap.objs.size (.lst [])) { s2 with heap := s2.heap.push { cls := .type "list", data := .seq ([] : List Value).toArray } } := I2.lnew (its := []) (t' := s2.toks) .nil (Nat.zero_le _)
  obtain ⟨W, ⟨m0, w0⟩, turn⟩ := q s2.heap.objs.size I2.fresh
  have hob := T.obj 0 _ st2
  have f3 : ∀ b ∈ fp, FpOk X pins (upd H2 s2.heap.objs.size (.lst [])) b := fun b hb => by
    obtain ⟨o, e, _⟩ := hob b hb
    exact ⟨by rw [Zj (Nat.ne_of_lt (Heap.lt_size e))]; exact (f2 b hb).1, (f2 b hb).2⟩
  generalize hS3 : (s2.heap.push { cls := .type "list", data := .seq ([] : List Value).toArray } : Heap) = h3 at *
  have k23 : ∀ b o, s2.heap.get? b = some o → h3.get? b = some o := fun b o e => by rw [← hS3]; exact Heap.get?_push_of_some _ e
  have hlt : ∀ b ∈ fp, b < h3.objs.size := fun b hb => by
    obtain ⟨o, e, _⟩ := hob b hb
    exact Heap.lt_size (k23 b o e)
  have bc := Qi S.nd I3 { cls := .type "dict", data := .dict #[] } c1 c2
  have hns : (pushCells (h3.push { cls := .type "dict", data := .dict #[] }) scope.names).Ns h3.objs.size (fun _ => none) := (Heap.Ns.new h3 (.type "dict")).keeps (pushCells_keeps _ _)
  have k31 : ∀ b o, h3.get? b = some o → (pushCells (h3.push { cls := .type "dict", data := .dict #[] }) scope.names).get? b = some o := fun b o e => pushCells_keeps _ _ b o (Heap.get?_push_of_some _ e)
  dsimp only at bc
  generalize cellsFrom (h3.objs.size + 1) scope.names cl = cl' at bc ⊢
  generalize pushCells (h3.push { cls := .type "dict", data := .dict #[] }) scope.names = h1 at bc hns k31 ⊢
  have I4 := Q5 (tk := s2.toks) S I3 bc f3 hlt hns k31
  have st4 : tn 0 h1 := T.keep 0 _ h1 st2 fun b hb o e => k31 b o (k23 b o e)
  have nofs : ∀ b ∈ fp, b ∉ (cxC X N' scope cl' h3.objs.size fp pins { s2 with heap := h3 } (upd H2 s2.heap.objs.size (.lst []))).fs := I4.ok.exfs
  have stat : ∀ {H' : Hp}, (∀ b ∈ fp, H' b = none) → ∀ b ∈ fp, FpOk (cxC X N' scope cl' h3.objs.size fp pins { s2 with heap := h3 } (upd H2 s2.heap.objs.size (.lst []))) [] H' b := fun {H'} hn b hb =>
    ⟨hn b hb, Nat.ne_of_lt (hlt b hb), nofs b hb, .inl hb, fun x c e => (bc.each x c e).elim (fun z => (f3 b hb).2.2.2.2.1 x c z) (fun z q => absurd z.1 (Nat.lt_asymm (by rw [q]; exact hlt b hb))), fun p hp => (f3 b hb).2.2.2.2.2 p (by simpa [cxC] using hp)⟩
  have loop : codeAny (model X.prog X.w) X.A (.compLoop (.ListComp elt [⟨tg, iter, [c], 0⟩] scope pos) 0 (.ref it) (.ref s2.heap.objs.size) (compEnvC scope cl' h3.objs.size X.env))
      (R (.ref s2.heap.objs.size) h3.objs.size) { s2 with heap := h1, toks := s2.toks } := by
    refine Eb (fun n s' => ∃ i σc Hc, Inv (cxC X N' scope cl' h3.objs.size fp pins { s2 with heap := h3 } (upd H2 s2.heap.objs.size (.lst []))) [] σc Hc s' ∧ tn i s'.heap ∧ (∀ b ∈ fp, Hc b = none) ∧ W i n σc Hc) ?_ m0
      ⟨0, _, _, I4, st4, fun b hb => (f3 b hb).1, w0⟩
    rintro n z ⟨i, σc, Hc, Iz, stz, frz, wz⟩
    rcases turn i n σc Hc wz with ⟨stop, qd⟩ | ⟨go, step⟩
    · refine thn (T.done (cxC X N' scope cl' h3.objs.size fp pins { s2 with heap := h3 } (upd H2 s2.heap.objs.size (.lst []))) rfl rfl rfl hc i [] z σc Hc noE Iz (stat frz) stz stop) fun r s4 zz49 => ?_
      obtain ⟨hr, I5⟩ := zz49
      subst hr
      have J5 : Inv X pins σ Hc s4 := I3.call' (s' := s4) I5.os I5.base I5.hok I5.bare fun b hb => ⟨(f3 b hb).2.2.2.1, (f3 b hb).2.1, (f3 b hb).2.2.2.2.1, (f3 b hb).2.2.2.2.2⟩
      obtain ⟨m, hm, _⟩ := I5.loc
      refine back _ _ Hc s4 ⟨m, hm⟩ J5 I5.free (Nat.ne_of_gt I3.lt) (Nat.le_trans I3.ok.above (Nat.le_of_lt I3.lt)) (fun x c e z => ?_) (fun p hp z => ?_) qd
      · obtain ⟨v, q⟩ := I3.cell x c e
        exact absurd q.lt (by rw [z]; exact Nat.lt_irrefl _)
      · exact absurd (Heap.lt_size (I3.pin p hp).1) (by rw [z]; exact Nat.lt_irrefl _)
    · refine thn (T.item (cxC X N' scope cl' h3.objs.size fp pins { s2 with heap := h3 } (upd H2 s2.heap.objs.size (.lst []))) rfl rfl rfl hc i [] z σc Hc noE Iz (stat frz) stz go) fun r s4 zz50 => ?_
      obtain ⟨u, hr, h4⟩ := zz50
      subst hr
      refine thn h4 fun _ s5 zz51 => ?_
      obtain ⟨x, H5, I5, r5, y5, st5, fr5⟩ := zz51
      have I5' := I5.pinned (stat fr5) (T.obj _ _ st5)
      refine thn (hg _ _ _ _ _ _ _ s5 σc H5 x u _ I5' r5 (step x H5 y5)) fun _ s6 zz52 => ?_
      obtain ⟨σ6, H6, I6, q6⟩ := zz52
      refine thn (hq _ _ _ _ _ _ _ s6 σ6 H6 _ I6 q6) fun ok s6' zz53 => ?_
      obtain ⟨H6', I6', q6'⟩ := zz53
      cases ok with
      | false =>
        rw [if_neg Bool.false_ne_true] at q6' ⊢
        obtain ⟨m', hm, w7⟩ := q6'
        refine ⟨m', hm, i + 1, σ6, _, I6'.unpinned, T.keep _ _ _ st5 fun b hb o e => (I6'.pin (b, o) (List.mem_append_right _ (List.mem_append_right _ (Yy hb e)))).1, fun b hb => ?_, w7⟩
        obtain ⟨o, e, d⟩ := T.obj _ _ st5 b hb
        exact (I6'.pin (b, o) (List.mem_append_right _ (List.mem_append_right _ (Yy hb e)))).2.1
      | true =>
      rw [if_pos rfl] at q6' ⊢
      refine thn (he _ _ _ _ _ _ _ s6' σ6 H6' _ I6' q6') fun v s7 zz54 => ?_
      obtain ⟨y, H7, I7, r7, acc, hD, hlen, m', hm, w7⟩ := zz54
      refine thn (Rq _ s7 σ6 H7 (.ref s2.heap.objs.size) [y] (.ref s2.heap.objs.size) [v] (fun _ H8 => H8 = upd H7 s2.heap.objs.size (.lst (acc ++ [y]))) I7 rfl (.cons r7 .nil) ⟨_, acc, y, rfl, rfl, hD, hlen, rfl⟩) fun _ s8 zz55 => ?_
      obtain ⟨_, H8, I8, _, e8⟩ := zz55
      subst e8
      refine ⟨m', hm, i + 1, σ6, _, I8.unpinned, T.keep _ _ _ st5 fun b hb o e => (I8.pin (b, o) (List.mem_append_right _ (List.mem_append_right _ (Yy hb e)))).1, fun b hb => ?_, w7⟩
      obtain ⟨o, e, d⟩ := T.obj _ _ st5 b hb
      exact (I8.pin (b, o) (List.mem_append_right _ (List.mem_append_right _ (Yy hb e)))).2.1
  exact codeAny_compStart_list loop (T.self _ 0 _ _ _ st4 loop)
theorem Z70 (hc : X.calm = true) (ho : T4 X.env.scope X.N N' js scope = true) (hi : PI X tg iter wi) (hg : ∀ cl C fp pins s H, PG (cxC X N' scope cl C fp pins s H) tg g) (hq : ∀ cl C fp pins s H, PT (cxC X N' scope cl C fp pins s H) c tc) (he : ∀ cl C fp pins s H, PE (cxC X N' scope cl C fp pins s H) elt te)
    (hs : ∀ x, foldedSetIterable iter X.env x = pure x := by intro _; rfl) : PE X (.ListComp elt [⟨tg, iter, [c], 0⟩] scope pos) (Zf0 js wi g tc te) := by
  intro pins s σ H Q I h
  have S := CompScope.of ho
  obtain ⟨cl, hcl, c1, c2⟩ := Vg (scope := scope) (env := X.env) fun n hn => I.ok.has n (S.free n hn)
  rw [eval_ListComp]
  refine wpAny_comprehension_free (use := none) rfl hs hcl S.kind S.loc (thn (hi pins s σ H _ I h) fun v s1 h1 => thn h1 fun itv s2 h2 => ?_)
  obtain ⟨it, fp, tn, J, H2, e, I2, T, st2, f2, q2⟩ := h2
  subst e
  refine Rj (QD := fun D Hc => Q (.ref D) Hc) (R := fun acc C => compPost (model X.prog X.w) X.A X.xe none (EP X pins σ Q) acc C) hc S c1 c2 hg hq he I2 T st2 f2 q2 ?_
  rintro D C Hc s4 ⟨m, hm⟩ J4 fC nL sC cC pC qd
  refine ⟨m, hm, fun h' hs' => ⟨.ref D, Hc, ?_, rfl, qd⟩⟩
  exact J4.turned (t' := s4.toks) (fun b o hb e => (hs'.2 b hb).trans e) fC nL (.inr sC) cC pC
def Zx8 (i : Nat) (js : List (Option Nat)) (wi : TI) (g : TG) (tc : TT) (te : TE) : TS := fun D σ H => Zf0 js wi g tc te σ H fun v H1 => D.nx (σ.set i (some v)) H1
theorem Z87 {i : Nat} {x : Str} {px spos : Pos} (hc : X.calm = true) (ho : T4 X.env.scope X.N N' js scope = true) (hN : X.N.Nodup) (hx : X.N[i]? = some x) (hl : X.env.scope.names.lookup x = some .local) (hi : PI X tg iter wi)
    (hg : ∀ cl C fp pins s H, PG (cxC X N' scope cl C fp pins s H) tg g) (hq : ∀ cl C fp pins s H, PT (cxC X N' scope cl C fp pins s H) c tc) (he : ∀ cl C fp pins s H, PE (cxC X N' scope cl C fp pins s H) elt te)
    (hsw : swapsWith (.ListComp elt [⟨tg, iter, [c], 0⟩] scope pos) (some (.Name x px)) spos.line X.env = pure true)
    (hs : ∀ x, foldedSetIterable iter X.env x = pure x := by intro _; rfl) : PS X (.Assign [.Name x px] (.ListComp elt [⟨tg, iter, [c], 0⟩] scope pos) spos) (Zx8 i js wi g tc te) := by
  intro pins s σ H D I h
  have S := CompScope.of ho
  obtain ⟨cl, hcl, c1, c2⟩ := Vg (scope := scope) (env := X.env) fun n hn => I.ok.has n (S.free n hn)
  rw [exec_Assign_Name_used _ _ _ _ hsw]
  refine wpAny_bind (wpAny_standAt (wpAny_bind ?_))
  show wpAny _ _ (do let _ ← comprehension (.ListComp elt [⟨tg, iter, [c], 0⟩] scope pos) scope X.env _ (newList []) false (eval iter X.env) (some (assign (.Name x px) X.env))) _ _ s
  refine wpAny_bind (wpAny_mono (wpAny_comprehension_free (use := some (assign (.Name x px) X.env)) (Q := fun _ s' => SP X pins D .next s') rfl hs hcl S.kind S.loc (thn (hi pins s σ H _ I h) fun v s1 h1 => thn h1 fun itv s2 h2 => ?_)) (fun _ s' hq => wpAny_pure (wpAny_pure hq)) fun _ _ e => e)
  obtain ⟨it, fp, tn, J, H2, e, I2, T, st2, f2, q2⟩ := h2
  subst e
  refine Rj (QD := fun E' Hc => D.nx (σ.set i (some (.ref E'))) Hc) (R := fun acc C => compPost (model X.prog X.w) X.A X.xe (some (assign (.Name x px) X.env)) (fun _ s' => SP X pins D .next s') acc C) hc S c1 c2 hg hq he I2 T st2 f2 q2 ?_
  rintro E' C Hc s4 ⟨m, hm⟩ J4 fC nL sC cC pC qd
  show wpAny _ _ (assign (.Name x px) X.env (.ref E')) _ _ s4
  refine wpAny_assign_Name (Ru J4 hN hx (.inl hl) (v := .ref E') rfl (fun s5 J5 zz56 => ?_) (.inr hl))
  obtain ⟨a, sb, ha⟩ := zz56
  have hCa : C ≠ a := by
    rcases ha with z | z
    · rw [z]; exact nL
    · exact (cC x a z).symm
  refine ⟨m, hm.sameBut sb hCa, fun h' hs' => ⟨σ.set i (some (.ref E')), Hc, ?_, qd⟩⟩
  exact J5.turned (t' := s5.toks) (fun b o hb e => (hs'.2 b hb).trans e) fC nL (.inr sC) cC pC
end
end L3
namespace L3
open PySem
def ExAt (h : Heap) (e : Addr) (cls : Value) (dd : Option Addr) (tb : Value) : Prop := ∃ oe vs, h.get? e = some oe ∧ (oe.cls = cls ∧ oe.dict = dd) ∧ oe.data = .fields vs ∧ vs[1]? = some tb
def TbAt (h : Heap) (T : Addr) (fl : Value) : Prop := ∃ oT ts, h.get? T = some oT ∧ oT.data = .fields ts ∧ ts[3]? = some fl
theorem ExAt.at {h h' : Heap} {e : Addr} {cls : Value} {dd : Option Addr} {tb : Value} (x : ExAt h e cls dd tb) (k : ∀ o, h.get? e = some o → h'.get? e = some o) : ExAt h' e cls dd tb :=
  let ⟨oe, vs, he, r⟩ := x; ⟨oe, vs, k _ he, r⟩
theorem TbAt.at {h h' : Heap} {T : Addr} {fl : Value} (x : TbAt h T fl) (k : ∀ o, h.get? T = some o → h'.get? T = some o) : TbAt h' T fl :=
  let ⟨o, ts, he, r⟩ := x; ⟨o, ts, k _ he, r⟩
structure Flown (fs xs : List Addr) (h h' : Heap) : Prop where
  keep : ∀ b o, h.get? b = some o → b ∉ fs → b ∉ xs → h'.get? b = some o
  slot : ∀ b o, h.get? b = some o → b ∈ fs → b ∉ xs → ∃ sl, h'.get? b = some { o with slots := sl }
  there : ∀ b o, h.get? b = some o → ∃ o', h'.get? b = some o'
theorem Flown.refl (fs xs : List Addr) (h : Heap) : Flown fs xs h h := ⟨fun _ _ e _ _ => e, fun _ o e _ _ => ⟨o.slots, e⟩, fun _ o e => ⟨o, e⟩⟩
theorem Flown.trans {fs xs ys : List Addr} {h h1 h2 : Heap} (a : Flown fs xs h h1) (b : Flown fs ys h1 h2) (hy : ∀ z ∈ ys, z ∈ xs ∨ h.get? z = none) : Flown fs xs h h2 where
  keep := fun c o e hf hx => b.keep c o (a.keep c o e hf hx) hf fun z => (hy c z).elim hx fun q => by rw [q] at e; cases e
  slot := fun c o e hf hx => by
    obtain ⟨sl, e1⟩ := a.slot c o e hf hx
    obtain ⟨sl', e2⟩ := b.slot c _ e1 hf fun z => (hy c z).elim hx fun q => by rw [q] at e; cases e
    exact ⟨sl', e2⟩
  there := fun c o e => by obtain ⟨o1, e1⟩ := a.there c o e; exact b.there c o1 e1
section
variable {M : Model} {A : Around} {E : Value → Shared → Prop} {s : Shared} {base : Heap} {env : Env} {outer : List Env} {L e : Addr} {cls : Value} {dd : Option Addr} {tb : Value}
end
end L3
namespace L3
open PySem PySem.W
section
variable {prog : Program} {w : World} {A : Around} {h : Heap} {g : Array GenState} {d : Drawn} {t : Nat} {os : OsState}
variable {nm q : Str} {C N f : Addr} {bs bm : List Value} {hdct : Bool} {sn : List Str} {sub : List Value} {ab : Bool} {col : Option Bool} {dd : Option Addr} {k0 k1 k2 k3 k5 : Option Value} {Bn newId inN : String} {bmN : List Value}
structure ExcCls (h : Heap) (C : Addr) (nm q : Str) (N : Addr) (bs bm : List Value) (hdct : Bool) (sn : List Str) (sub : List Value) (ab : Bool) (col : Option Bool) (dd : Option Addr) (k0 k1 k2 k3 k5 : Option Value) (Bn newId : String) : Prop where
  obj : h.get? C = some (excClassObj nm q C N bs bm hdct sn sub ab col dd k0 k1 k2 k3 k5 newId)
  hB : (Value.ref C :: bm).contains (.type Bn) = true
  hA : (Value.ref C :: bm).contains (.type "AttributeError") = false
  hN : (Value.ref C :: bm).contains (.type "NameError") = false
  hE : (Value.ref C :: bm).contains (.type "BaseException") = true
end
end L3
namespace L3
open PySem PySem.W PySem.Calls PyProof.Rows Builtin Builtin.ObjectAttr
structure ExcSet (K : Frag) (C : Addr) (name : Str) : Prop where
  cls : ∃ cd own, clsIn K C = some cd ∧ cd.hasDict = true ∧ cd.mro = own ++ [.type "ValueError", .type "Exception", .type "BaseException", .type "object"] ∧ ∀ v ∈ own, ∃ a, v = Value.ref a
  no : findIn K (.ref C) name = some none
  set : findIn K (.ref C) "__setattr__" = some (some (.builtin "object.__setattr__"))
section
variable {prog : Program} {w : World} {A : Around} {K : Frag} {C e : Addr} {s : Shared} {name : Str} {R : Result → Shared → Prop}
structure ExcGet (K : Frag) (C : Addr) (name : Str) : Prop where
  cls : ∃ cd, clsIn K C = some cd ∧ cd.hasDict = true
  no : findIn K (.ref C) name = some none
  ga : findIn K (.ref C) "__getattribute__" = some (some (.builtin "BaseException.__getattribute__"))
  gh : findIn K (.ref C) "__getattr__" = some none
  base : mroIn K C (.type "BaseException") = some true
theorem Cn (self : Value) : bindSpecial (.builtin "BaseException.__getattribute__") self = pure (.builtin "BaseException.__getattribute__", [self]) := by kernel_rfl
theorem Er : builtinKind "BaseException.__getattribute__" = some .slot := by decide +kernel
theorem Gy : splitId "BaseException.__getattribute__" = some ("BaseException", "__getattribute__") := by decide +kernel
theorem Gk : plainId "BaseException.__getattribute__" = true := by decide +kernel
theorem Cs (a b : Value) : argsOk "BaseException.__getattribute__" ⟨[a, b], []⟩ := by unfold argsOk; kernel_rfl
theorem Nu {v : Value} {oe od : Obj} {expr : Bool} {E : Value → Shared → Prop} {Q : Value → Shared → Prop} (X : K.In s.heap) (S : ExcGet K C name) (J : InstAt s.heap e oe C (some od))
    (hl : lookIn name od = some (some v)) (hh : handedIn v = true) (h : Q v { s with toks := s.toks + 1 }) : wpAny (model prog w) A (getAttr (.ref e) name expr) Q E s := by
  obtain ⟨⟨cd, hcd, hdict⟩, hno, hga, hgh, hbase⟩ := S
  obtain ⟨hp, g, d, t, os⟩ := s
  have hf : findObj K C (some od) name = some (.value v) := by
    unfold findObj
    rw [hcd, Option.bind_some, hno, Option.bind_some]
    show (W.ownOf cd (some od) name).bind _ = _
    unfold W.ownOf
    rw [hdict]
    simp only [if_true, hl]
    rfl
  have L0 := J.type (M := model prog w)
  have L1 := looks_findIn (M := model prog w) X hga
  have L2 := looks_findIn (M := model prog w) X hgh
  have L3' := looks_find (M := model prog w) X J hf
  have sub : Looks (model prog w) hp (isInstance (.ref e) (.type "BaseException")) true := L0.andThen (looks_mroIn X hbase)
  unfold getAttr getAttrBy
  refine wpAny_bind (wpAny_mkText (wpAny_holding (wpAny_bind (L0.at (wpAny_bind (L1.at ?_))))))
  show wpAny _ _ (getAttrByItsOwn _ _ _ _ _ _) _ _ _
  unfold getAttrByItsOwn
  refine wpAny_bind (L2.at (wpAny_bind (wpAny_attempt (wpAny_holding ?_))))
  have hx0 : ¬ (expr && onTheHeap (Value.builtin "BaseException.__getattribute__")) = true := by cases expr <;> decide
  unfold callGetattribute
  rw [if_neg hx0]
  unfold boundAndCalled
  rw [Cn]
  refine wpAny_bind (wpAny_pure (wpAny_call ?_))
  refine codeAny_call_builtin Gk F.entry_bexc_ga (@check_slot (model prog w) _ _ _ "BaseException.__getattribute__" "BaseException" "__getattribute__" (.ref e) [.str name t] [] _ Er Gy sub (Cs (.ref e) (.str name t)) ?_)
  show wpAny _ _ (typeOf (.ref e) >>= fun tp => find (.ref e) tp name >>= _) _ _ _
  refine wpAny_bind (L0.at (wpAny_bind (L3'.at ?_)))
  refine wpAny_pure ?_
  show wpAny _ _ (handedOut v) _ _ _
  rw [handedOut_of hh]
  exact wpAny_pure h
end
end L3
namespace L3
open PySem PySem.Spec PyProof.Rows L2
noncomputable def XO (e : Addr) (cls : Value) (dd : Option Addr) : HO := .ext fun h => ∃ oe vs tb, h.get? e = some oe ∧ (oe.cls = cls ∧ oe.dict = dd) ∧ oe.data = .fields vs ∧ vs[1]? = some tb
theorem XO.at {P : Program} {w : World} {H : Hp} {h : Heap} {e : Addr} {cls : Value} {dd : Option Addr} (x : X6 P w H h e (XO e cls dd)) : ∃ tb, ExAt h e cls dd tb := by
  obtain ⟨⟨oe, vs, tb, q1, q2, q3, q4⟩, _⟩ := x
  exact ⟨tb, oe, vs, q1, q2, q3, q4⟩
noncomputable def CX1 (P : Program) (w : World) : CXT := fun outer H s E e s' => ∃ (ea T : Addr) (cls : Value) (dd : Option Addr) (H' : Hp), e = .ref ea ∧ s'.os = s.os ∧ AllBare s'.gens ∧ Un (frs outer) [] H H' s.heap s'.heap ∧ HOk P w H' s'.heap ∧
  (s.heap.objs.size ≤ ea ∧ s.heap.objs.size ≤ T) ∧ H' ea = some (XO ea cls dd) ∧ (H' T = none ∧ T ≠ ea) ∧ ExAt s'.heap ea cls dd (.ref T) ∧ TbAt s'.heap T .none ∧ E cls dd H'
structure Leaves (X : Cx) (E : XK) : Prop where
  stk : X.stack = X.env :: X.outer
  fr : X.env.frame = some X.env.locals
  ex : X.ex = []
  xe : ∀ e s', wpAny (model X.prog X.w) X.A (leaving X.env e) (fun _ s'' => CX1 X.prog X.w X.outer X.H₀ X.s₀ E e s'') (fun e' s'' => CX1 X.prog X.w X.outer X.H₀ X.s₀ E e' s'') s' → X.xe e s'
section
variable {X : Cx} {E : XK} {pins : List (Addr × Obj)} {σ : L2.St} {H : Hp} {s : Shared} {e T : Addr} {cls : Value} {dd : Option Addr} {xs : List Addr} {h1 : Heap} {fl : Value}
end
section
variable {X : Cx} {pos pos' : Pos} {o value : Expr} {f : Str} {ta tv : TE}
end
structure ExcMk (K : PySem.W.Frag) (C f : Addr) : Prop where
  cls : ∃ nm q N bs bm hdct sn sub ab col dd k0 k1 k2 k3 k5, K.lookup C = some (excClassObj nm q C N bs bm hdct sn sub ab col dd k0 k1 k2 k3 k5 "ValueError.__new__") ∧ (Value.ref C :: bm).contains (.type "ValueError") = true ∧
    (Value.ref C :: bm).contains (.type "AttributeError") = false ∧ (Value.ref C :: bm).contains (.type "NameError") = false ∧ (Value.ref C :: bm).contains (.type "BaseException") = true
  init : PySem.W.findIn K (.ref C) "__init__" = some (some (.ref f))
  fn : PySem.W.isFn K (.ref f) = true
  kp : PySem.W.keepIn K (.ref C) = true
theorem ExcMk.at {K : PySem.W.Frag} {C f : Addr} (M : ExcMk K C f) {h : Heap} (k : K.In h) : ∃ nm q N bs bm hdct sn sub ab col dd k0 k1 k2 k3 k5, ExcCls h C nm q N bs bm hdct sn sub ab col dd k0 k1 k2 k3 k5 "ValueError" "ValueError.__new__" := by
  obtain ⟨nm, q, N, bs, bm, hdct, sn, sub, ab, col, dd, k0, k1, k2, k3, k5, h1, h2, h3, h4, h5⟩ := M.cls
  exact ⟨nm, q, N, bs, bm, hdct, sn, sub, ab, col, dd, k0, k1, k2, k3, k5, k _ _ h1, h2, h3, h4, h5⟩
section
variable {X : Cx} {k : Nat} {f C : Addr} {fd : FuncData} {ps : List Str} {sp : Sp} {dvs : List V} {ds : List Value} {pins : List (Addr × Obj)} {σ : L2.St} {H : Hp} {s : Shared} {us : List Value} {vs : List V}
end
end L3
namespace L3
open PySem PySem.W PySem.Calls PyProof.Rows Builtin Builtin.ObjectAttr
section
variable {prog : Program} {w : World} {A : Around} {E : Value → Shared → Prop} {K : Frag} {C D e : Addr} {s : Shared}
structure ExcIs (K : Frag) (C : Addr) : Prop where
  cls : ∃ cd, clsIn K C = some cd ∧ cd.hasDict = true
  ga : findIn K (.ref C) "__getattribute__" = some (some (.builtin "BaseException.__getattribute__"))
  gh : findIn K (.ref C) "__getattr__" = some none
  base : mroIn K C (.type "BaseException") = some true
  own : findIn K (.ref C) "__class__" = some (some (.builtin "object.__class__"))
  ds : specialIn K (.builtin "object.__class__") "__get__" = some (some (.builtin "getset_descriptor.__get__"))
  tk : takesIn K (.builtin "object.__class__") = some true
  obj : mroIn K C (.type "object") = some true
theorem Be {oe : Obj} {od : Obj} {Q : Option Value → Shared → Prop} (X : K.In s.heap) (S : ExcIs K C) (J : InstAt s.heap e oe C (some od)) (h : Q (some (.ref C)) { s with toks := s.toks + 1 }) :
    wpAny (model prog w) A (getAttr? (.ref e) "__class__") Q E s := by
  obtain ⟨⟨cd, hcd, hdict⟩, hga, hgh, hbase, hown, hds, htk, hobj⟩ := S
  obtain ⟨hp, g, d, t, os⟩ := s
  have hf : findObj K C (some od) "__class__" = some (.bind (.builtin "getset_descriptor.__get__") (.builtin "object.__class__")) := findObj_data (by rw [hcd]; rfl) hown hds htk
  have L0 := J.type (M := model prog w)
  have L1 := looks_findIn (M := model prog w) X hga
  have L2 := looks_findIn (M := model prog w) X hgh
  have L3' := looks_find (M := model prog w) X J hf
  have sub : Looks (model prog w) hp (isInstance (.ref e) (.type "BaseException")) true := L0.andThen (looks_mroIn X hbase)
  unfold getAttr? getAttrBy? getAttrBy
  refine wpAny_bind (wpAny_mkText (wpAny_bind (wpAny_attempt (wpAny_holding (wpAny_bind (L0.at (wpAny_bind (L1.at ?_))))))))
  show wpAny _ _ (getAttrByItsOwn _ _ _ _ _ _) _ _ _
  unfold getAttrByItsOwn
  refine wpAny_bind (L2.at (wpAny_bind (wpAny_attempt (wpAny_holding ?_))))
  unfold callGetattribute
  rw [if_neg (by decide)]
  unfold boundAndCalled
  rw [Cn]
  refine wpAny_bind (wpAny_pure (wpAny_call ?_))
  refine codeAny_call_builtin Gk F.entry_bexc_ga (@check_slot (model prog w) _ _ _ "BaseException.__getattribute__" "BaseException" "__getattribute__" (.ref e) [.str "__class__" t] [] _ Er Gy sub (Cs (.ref e) (.str "__class__" t)) ?_)
  show wpAny _ _ (typeOf (.ref e) >>= fun tp => find (.ref e) tp "__class__" >>= _) _ _ _
  refine wpAny_bind (L0.at (wpAny_bind (L3'.at ?_)))
  have hcall := class_get (prog := prog) (w := w) (A := A.in1) (s := ⟨hp, g, d, t + 1, os⟩) (tp := .ref C) (R := fun r s' => r = .ok (.ret (.ref C)) ∧ s' = ⟨hp, g, d, t + 1, os⟩) X J hobj ⟨rfl, rfl⟩
  unfold bindTo
  refine wpAny_bind (wpAny_holding (wpAny_call (codeAny_mono hcall fun r s' z => ?_)))
  obtain ⟨rfl, rfl⟩ := z
  refine wpAny_pure ?_
  show wpAny _ _ (handedOut (.ref C)) _ _ _
  exact handed_on rfl (wpAny_pure h)
end
end L3
namespace L3
open PySem PySem.Spec PyProof.Rows L2
section
variable {K : PySem.W.Frag} {C e : Addr}
theorem Fa {oe od : Obj} (S : ExcIs K C) : PySem.W.KitX K (.ref e) (.ref C) (fun h => PySem.W.InstAt h e oe C (some od)) where
  ty := fun _ _ _ I => I.type
  it := fun _ _ X _ => by
    obtain ⟨cd, hcd, _⟩ := S.cls
    unfold PySem.W.clsIn at hcd
    split at hcd
    · rename_i ho
      intro A' Q' E' s' k q
      unfold isType loadHead
      exact wpAny_bind (wpAny_loadPart (k _ _ (X _ _ ho)) (wpAny_pure q))
    · cases hcd
  ne := fun h tp dd its n sl X htp => by
    obtain ⟨cd, hcd, _⟩ := S.cls
    refine Bool.eq_false_iff.mpr fun q => ?_
    have z : C = tp := Value.ref.inj (beq_iff_eq.mp q)
    subst z
    unfold PySem.W.clsIn at hcd
    split at hcd
    · rename_i ho
      have y := (X _ _ ho).symm.trans htp
      cases y
    · cases hcd
  ca := fun X I k => Be X S I k
variable {X : Cx} {pins : List (Addr × Obj)} {σ : L2.St} {H : Hp} {s : Shared} {dx : Addr} {fs : List (Str × V)}
theorem Pk (I : Inv X pins σ H s) (he : H e = some (XO e (.ref C) (some dx))) (hd : H dx = some (.xd fs)) : ∃ (oe od : Obj) (mA : Str → Option Value), PySem.W.InstAt s.heap e oe C (some od) ∧ (∀ name, PySem.W.lookIn name od = some (mA name)) ∧ ∀ f, RelO (fs.lookup f) (mA f) := by
  obtain ⟨tb, oe, vs, h1, ⟨h2, h3⟩, h4, _⟩ := XO.at (I.hok e _ he)
  obtain ⟨mA, hn, hr⟩ := (show X6 X.prog X.w H s.heap dx (.xd fs) from I.hok dx _ hd)
  obtain ⟨od, q1, q2⟩ := Oo hn
  refine ⟨oe, od, mA, ⟨h1, h2, by unfold PySem.W.notCls; rw [h4], by rw [h3]; exact q1⟩, q2, hr⟩
def rIsX (K : PySem.W.Frag) : List V → Hp → VK → Prop := fun xs H Q => ∃ e C dx fs c cv b, xs = [.ref e, c] ∧ H e = some (XO e (.ref C) (some dx)) ∧ H dx = some (.xd fs) ∧ ExcIs K C ∧ (∀ u, RelV c u → u = cv) ∧ PySem.W.kitOne K (.ref C) cv = some b ∧ Q (.bl b) H
theorem Gr : Vs X (.builtin "isinstance") (rIsX X.K) := by
  intro pins s σ H xs us Q I r h
  obtain ⟨e, C, dx, fs, c, cv, b, rfl, he, hd, S, hc, k, q⟩ := h
  obtain ⟨u, v, rfl, ru, rv⟩ := J6 r
  obtain rfl : u = Value.ref e := ru
  cases hc v rv
  obtain ⟨oe, od, mA, J, _⟩ := Pk I he hd
  exact PySem.W.kia_one (Fa S) I.kIn J k (fun z => nomatch z) fun tk => ⟨.bl b, H, I.tok tk, rfl, q⟩
def Zy3 (K : PySem.W.Frag) (ta : TE) (f : Str) : TE := fun σ H Q => ta σ H fun x H1 => ∃ e C dx fs v, x = .ref e ∧ H1 e = some (XO e (.ref C) (some dx)) ∧ H1 dx = some (.xd fs) ∧ ExcGet K C f ∧ fs.lookup f = some v ∧ Q v H1
theorem Zh0 {a : Expr} {f : Str} {ta : TE} {pos : Pos} (ha : PE X a ta) (hb : attributeBase a f X.env (eval a X.env) = eval a X.env) : PE X (.Attribute a f pos) (Zy3 X.K ta f) := by
  intro pins s σ H Q I h
  refine Zf6 hb (thn (ha pins s σ H _ I h) fun u s1 zz57 => ?_)
  obtain ⟨x, H1, I1, rx, e, C, dx, fs, v, ex, he, hd, S, l, q⟩ := zz57
  subst ex
  obtain rfl : u = Value.ref e := rx
  obtain ⟨oe, od, mA, J, hl, hr⟩ := Pk I1 he hd
  have r := hr f
  rw [l] at r
  obtain ⟨z, ez, rz⟩ := r.some_of
  exact Nu I1.kIn S J (by rw [hl, ez]) (Z23 rz) ⟨v, H1, I1.tok _, rz, q⟩
end
section
variable {X : Cx} {k : Nat} {f : Addr} {fd : FuncData} {ps : List Str} {sp : Sp} {dvs : List V} {ds : List Value} {x : Str} {p pos : Pos} {e : Expr} {es : List Expr} {t : TA}
variable {te : TEX}
end
section
variable {X : Cx} {pins : List (Addr × Obj)} {σ : L2.St} {H : Hp} {s : Shared} {e : Addr}
end
structure Catch (K : PySem.W.Frag) (C D : Addr) (b : Bool) : Prop where
  ty : PySem.W.typeIn K (.ref D) = some (.type "type")
  cls : (PySem.W.clsIn K D).isSome = true
  exc : PySem.W.mroIn K D (.type "BaseException") = some true
  sub : PySem.W.mroIn K C (.ref D) = some b
section
open PySem.W
end
section
variable {X : Cx} {body suite : List Stmt} {b₀ : Stmt} {x n : Str} {np hpos pos : Pos} {D : Addr} {i : Nat} {tb : TSX} {ts : TS}
end
end L3
namespace L3
open PySem PyProof.Rows
section
variable {prog : Program} {w : World} {A : Around} {E : Value → Shared → Prop} {s : Shared}
abbrev Zd4 (h : Heap) (z TI TO : Addr) (f0 : Value) (b : Bool) : Prop :=
  h.get? z = some { cls := .type "zip", dict := none, data := .fields #[f0, .bool b, .bool false, .ref TI, .ref TO], slots := #[] }
end
section
variable {prog : Program} {w : World} {A : Around} {E : Value → Shared → Prop} {s : Shared}
structure ZS (h0 h : Heap) (S z TI TO i1 i2 l1 l2 : Addr) (xs ys : Array Value) (Ts : List Addr) : Prop where
  kept : ∀ b o, h0.get? b = some o → h.get? b = some o
  zp : (Ts = [] ∧ Zd4 h z TI TO .none false ∧ ∃ a b, IsPair h TO a b) ∨ ∃ (T : Addr) (b : Bool) (oT : Obj), Zd4 h z TI TO (rawInt T) b ∧ h.get? T = some oT
  ti : IsPair h TI (.ref i1) (.ref i2)
  to : ∃ o, h.get? TO = some o
  t1 : h.IsListIter i1 l1 Ts.length
  t2 : h.IsListIter i2 l2 Ts.length
  nd : Ts.Nodup
  tp : ∀ (j : Nat) T, Ts[j]? = some T → ∃ x y, xs[j]? = some x ∧ ys[j]? = some y ∧ IsPair h T x y
  tb : ∀ T ∈ Ts, h0.objs.size ≤ T ∧ T ≠ z ∧ T ≠ TO ∧ T ≠ i1 ∧ T ≠ i2 ∧ T ≠ S
structure ZF (h0 : Heap) (S z TI TO i1 i2 l1 l2 : Addr) (xs ys : Array Value) : Prop where
  D : ZipApart z TI TO i1 i2 l1 l2
  l1 : h0.IsList l1 xs
  l2 : h0.IsList l2 ys
  nz : h0.objs.size ≤ z
  nTO : h0.objs.size ≤ TO
  n1 : h0.objs.size ≤ i1
  n2 : h0.objs.size ≤ i2
  nS : h0.objs.size ≤ S
  sz : S ≠ z
  sTI : S ≠ TI
  sTO : S ≠ TO
  s1 : S ≠ i1
  s2 : S ≠ i2
end
structure ZEnd (h0 h : Heap) (S : Addr) (xs ys : Array Value) (Ts : List Addr) : Prop where
  kept : ∀ b o, h0.get? b = some o → h.get? b = some o
  len : Ts.length = min xs.size ys.size
  nd : Ts.Nodup
  tp : ∀ (j : Nat) T, Ts[j]? = some T → ∃ x y, xs[j]? = some x ∧ ys[j]? = some y ∧ IsPair h T x y
  tb : ∀ T ∈ Ts, h0.objs.size ≤ T ∧ T ≠ S
  so : ∃ c, h.get? S = some { cls := .type "list", dict := none, data := .seq (Ts.map Value.ref).toArray c, slots := #[] }
section
variable {prog : Program} {w : World} {A : Around} {R : Result → Shared → Prop}
end
section
variable {prog : Program} {w : World} {A : Around} {E : Value → Shared → Prop} {s : Shared} {R : Result → Shared → Prop}
end
end L3
namespace L3
open PySem PySem.Spec PyProof.Rows L2
section
variable {X : Cx} {pins : List (Addr × Obj)} {σ : L2.St} {H H' : Hp} {s : Shared} {h' : Heap}
end
section
variable {X : Cx}
end
section
variable {X : Cx}
def tRev (K : PySem.W.Frag) (te : TE) (tk : TO) : TE := fun σ H Q => te σ H fun x H1 => tk σ H1 fun o H2 => o = some (-1) ∧ ∃ a xs, x = V.ref a ∧ SqL K H2 a xs ∧ ∀ p, H2 p = none → Q (.ref p) (upd H2 p (.lst xs.reverse))
theorem Zv5 {e k : Expr} {te : TE} {tk : TO} {p2 pos : Pos} (he : PE X e te) (hk : PO X (some k) tk) : PE X (.Subscript e (.Slice none none (some k) p2) pos) (tRev X.K te tk) := by
  intro pins s σ H Q I h
  refine Subscript_ (thn (he pins s σ H _ I h) fun v s1 zz58 => ?_)
  obtain ⟨x, H1, I1, r1, q1⟩ := zz58
  refine wpAny_Slice ?_
  simp only [evalPart_none]
  refine wpAny_pure (wpAny_pure ?_)
  refine thn (hk pins s1 σ H1 _ I1 q1) fun vk s2 zz59 => ?_
  obtain ⟨o, H2, I2, pk, q2⟩ := zz59
  obtain ⟨rfl, a, xs, rfl, hx, q⟩ := q2
  cases r1
  have I3 : Inv X pins σ H2 { s2 with heap := s2.heap.push { cls := .type "slice", data := .fields #[.none, .none, vk] } } := I2.kept (t' := s2.toks) fun b ob q => Heap.get?_push_of_some _ q
  obtain ⟨its, r, ht, hz⟩ := I3.list hx
  have hlen := r.length
  show wpAny (model X.prog X.w) X.A (subscriptTail e (.Slice none none (some k) p2) (.ref a) (.ref s2.heap.objs.size)) (EP X pins σ Q) X.xe { s2 with heap := s2.heap.push { cls := .type "slice", data := .fields #[.none, .none, vk] } }
  refine tail_any (ops := [.ref a, .ref s2.heap.objs.size]) ht.isList.typeIs slot_list_getitem.lookup ?_ (by with_unfolding_all rfl)
  refine wpAny_getItem_list_slice ht.isList (Heap.IsSliceOf.new ..) .none .none pk (by simp) ?_ (by rw [List.size_toArray] <;> omega)
  rw [PySem.W.krv_pick]
  refine ⟨.ref _, _, I3.laid (t' := s2.toks) (o := .lst xs.reverse) (fun b ob q => Heap.get?_push_of_some _ q) (Nat.le_refl _) ?_, rfl, q _ (I3.hok.fresh (Nat.le_refl _))⟩
  exact ⟨by rw [List.length_reverse]; exact hz, _, 0, r.reverse, Heap.get?_push_size _ rfl⟩
def Zt2 (K : PySem.W.Frag) : V → List V → Hp → VK → Prop := fun x vs H Q => ∃ l xs y k z, x = .ref l ∧ vs = [y] ∧ SqL K H l xs ∧ Tq y = true ∧ xs.all Tq = true ∧ xs[k]? = some z ∧ eqV z y = true ∧ (∀ (j : Nat) u, j < k → xs[j]? = some u → eqV u y = false) ∧ Q (.int k) H
theorem Z88 : MtR X "list.index" (Zt2 X.K) := by
  intro pins s σ H x vs v us Q I rx rv h
  obtain ⟨l, xs, y, k, z, rfl, rfl, hx, fy, fs, hk, he, hno, q⟩ := h
  cases rx
  obtain ⟨u, rfl, ru⟩ := O5 rv
  obtain ⟨its, r, p, hz⟩ := I.list hx
  obtain ⟨⟨cls, dd, data, sl⟩, ho, hc, n, hd⟩ := p.isList
  simp only at hc hd
  subst hc hd
  have hlen := r.length
  have hkl := (List.getElem?_eq_some_iff.mp hk).1
  have ev : ∀ (j : Nat) (w : V), xs[j]? = some w → ∀ hj : j < its.toArray.size, eqU y its.toArray[j] = eqV w y := by
    intro j w hw hj
    obtain ⟨u', hu', ru'⟩ := r.get hw
    have hf : Tq w = true := by
      rw [List.all_eq_true] at fs
      exact fs w (List.mem_of_getElem? hw)
    have e : its.toArray[j] = u' := by
      have := (List.getElem?_eq_some_iff.mp hu').2
      simpa using this
    rw [e]; exact Eu ru' hf
  have h63 := S0
  refine call_meets PySem.F.slot_list_index ⟨_, ho, rfl⟩ PySem.F.entry_list_index (PySem.F.args_list_index_2 _ _)
    (SeqAt.list_indexAt l its.toArray n dd sl u (eqU y) k (by rw [List.size_toArray]; omega) (by omega) ?_ ?_) ⟨ho, fun w hw => V8 ru fy r fs w (by simpa using hw), ⟨.int k, H, I.tok _, ⟨_, rfl⟩, q⟩⟩
  · rw [ev k z hk]; exact he
  · intro j hj hlt
    have hj' : j < xs.length := by rw [List.size_toArray] at hj; omega
    rw [ev j _ (List.getElem?_eq_getElem hj')]
    exact hno j _ hlt (List.getElem?_eq_getElem hj')
theorem Zj2 {pins : List (Addr × Obj)} {σ : L2.St} {H : Hp} {s : Shared} {h' : Heap} {t' : Nat} {a b : Addr} (I : Inv X pins σ H s) (k : ∀ c o, c ≠ a → c ≠ b → s.heap.get? c = some o → h'.get? c = some o) (fa : FpOk X pins H a) (fb : FpOk X pins H b) : Inv X pins σ H { s with heap := h', toks := t' } := by
  have na : ∀ c u, H c = some u → c ≠ a := by
    intro c u e z
    rw [z, fa.1] at e
    cases e
  have nb : ∀ c u, H c = some u → c ≠ b := by
    intro c u e z
    rw [z, fb.1] at e
    cases e
  have kk : ∀ c o, c ∉ [a, b] → s.heap.get? c = some o → h'.get? c = some o := by
    intro c o hc e
    refine k c o ?_ ?_ e
    · intro z; apply hc; rw [z]; simp
    · intro z; apply hc; rw [z]; simp
  refine I.step (ch := [a, b]) (g' := s.gens) (d' := s.drawn) ?_ ?_ ?_ ?_ ?_ ?_ ?_ ?_ ?_ ?_ I.bare
  · intro c hc
    have : c = a ∨ c = b := by simpa using hc
    rcases this with rfl | rfl
    · exact ⟨fa.2.2.2.1, fa.2.1, fa.2.2.2.2.1, fa.2.2.2.2.2⟩
    · exact ⟨fb.2.2.2.1, fb.2.1, fb.2.2.2.2.1, fb.2.2.2.2.2⟩
  · intro c o _ _ hc e _; exact kk c o hc e
  · intro c o _ _ hc e _; exact ⟨o.slots, kk c o hc e⟩
  · intro _ _ _ _ n; exact n
  · intro c o hc e; exact ⟨o, kk c o hc e⟩
  · intro _ _ e; exact e
  · intro _ _ _ e; exact e
  · intro c ps e; exact ⟨#[], by rw [e]; simp⟩
  · rintro m ⟨o, es, ep, ho, r⟩
    exact ⟨o, es, ep, k _ o (Ne.symm fa.2.1) (Ne.symm fb.2.1) ho, r⟩
  · intro c u e
    refine (I.hok c u e).stay ?_ (fun _ q => q) fun _ _ q => q
    intro d v hd q
    rcases hd with z | z
    · subst z; exact k d v (na d u e) (nb d u e) q
    · exact k d v (na d _ z) (nb d _ z) q
noncomputable def Ite (K : PySem.W.Frag) (a : Addr) : It :=
  ⟨fun i H => ∃ xs x, SqL K H a xs ∧ xs[i]? = some x, fun i H x H' => ∃ p y, H p = none ∧ H' = upd H p (.tup [.int i, y]) ∧ x = .ref p ∧ ∀ xs, SqL K H a xs → xs[i]? = some y, fun i H => ∃ xs, SqL K H a xs ∧ xs.length ≤ i⟩
theorem Eg {h : Heap} {o u : Obj} {b : Addr} (e : (h.push o).get? b = some u) : h.get? b = some u ∨ b = h.objs.size := by
  by_cases hb : b = h.objs.size
  · exact .inr hb
  · refine .inl ?_
    have hl := Heap.lt_size e
    rw [Heap.size_push] at hl
    obtain ⟨e1, e2⟩ := Heap.get?_some_iff.mp e
    refine Heap.get?_some_iff.mpr ⟨?_, e2⟩
    cases h
    simpa [Heap.push, Array.getElem?_push, hb] using e1
theorem Z05 {P : Program} {w : World} {K : PySem.W.Frag} {elts : List Expr} {x1 : Nat} {tp : Pos} (a e it : Addr) (hne : e ≠ it) :
    Turn P w K (.Tuple elts x1 tp) (Ite K a) [e, it] e (fun i h => (∃ old, IsEnum h e it i old) ∧ h.IsListIter it a i) where
  mem := by simp
  obj := by
    rintro i h ⟨⟨old, he⟩, hit⟩ b hb
    have : b = e ∨ b = it := by simpa using hb
    rcases this with rfl | rfl
    · exact ⟨_, he, fun v z => by cases z⟩
    · obtain ⟨o, e, c, d⟩ := hit
      exact ⟨o, e, fun v z => by rw [d] at z; cases z⟩
  keep := by
    rintro i h h' ⟨⟨old, he⟩, hit⟩ k
    exact ⟨⟨old, k e (by simp) _ he⟩, hit.at fun o z => k it (by simp) o z⟩
  item := by
    rintro X rfl rfl rfl hc i pins s σ H E I hf ⟨⟨old, he⟩, hit⟩ ⟨xs, x, hq, hx⟩
    obtain ⟨its, rv, p, hz⟩ := I.list hq
    obtain ⟨u, hu, ru⟩ := rv.get hx
    have fe := hf e (by simp)
    have fi := hf it (by simp)
    have le : e < s.heap.objs.size := Heap.lt_size he
    have li : it < s.heap.objs.size := by obtain ⟨o, z, _⟩ := hit; exact Heap.lt_size z
    refine wpAny_pyNext_enum_item he hit p.isList (x := u) (by simpa using hu) hne fun h1 ho hit1 hT hsz hk => ?_
    refine ⟨_, rfl, wpAny_letOwnedTupleGo_enum ho fun h2 he2 hs2 => ?_⟩
    replace hs2 : Heap.SameBut e h1 h2 := hs2
    have hT2 : h2.get? s.heap.objs.size = some { cls := .type "tuple", data := .seq #[.int i s.toks, u] } := (hs2.2 _ (Nat.ne_of_gt le)).trans hT
    have hn : H s.heap.objs.size = none := I.hok.fresh (Nat.le_refl _)
    have I1 : Inv X pins σ (upd H s.heap.objs.size (.tup [.int i, x])) { s with heap := s.heap.push { cls := .type "tuple", data := .seq #[.int i s.toks, u] }, toks := s.toks + 1 } := by
      refine I.laid (fun b ob q => Heap.get?_push_of_some _ q) (Nat.le_refl _) ⟨show 2 ≤ sizeLine by rw [sizeLine_eq]; omega, [.int i s.toks, u], .cons ⟨_, rfl⟩ (.cons ru .nil), ⟨_, Heap.get?_push_size _ rfl, rfl, _, rfl⟩⟩
    have up : ∀ b, b < s.heap.objs.size → FpOk X pins H b → FpOk X pins (upd H s.heap.objs.size (.tup [.int i, x])) b := by
      rintro b lb ⟨f0, f⟩
      refine ⟨?_, f⟩
      rw [Zj (Nat.ne_of_lt lb)]
      exact f0
    have I2 := Zj2 (h' := h2) (t' := s.toks + 1) I1 (fun c o ha hb e' => by
      rcases Eg e' with z | z
      · exact (hs2.2 c ha).trans (hk c o ha hb z)
      · subst z
        have z2 : (s.heap.push { cls := .type "tuple", data := .seq #[.int i s.toks, u] }).get? s.heap.objs.size = some o := e'
        rw [Heap.get?_push_size _ rfl] at z2
        cases z2
        exact hT2) (up e le fe) (up it li fi)
    refine ⟨.ref s.heap.objs.size, _, I2, rfl, ⟨_, x, hn, rfl, rfl, fun ys hy => by rw [I.list_inj hy hq]; exact hx⟩, ⟨⟨_, by simpa using he2⟩, hit1.at fun o z => (hs2.2 it (Ne.symm hne)).trans z⟩, fun b hb => ?_⟩
    have : b = e ∨ b = it := by simpa using hb
    rcases this with rfl | rfl
    · exact (up _ le fe).1
    · exact (up _ li fi).1
  done := by
    rintro X rfl rfl rfl hc i pins s σ H E I hf ⟨⟨old, he⟩, hit⟩ ⟨xs, hq, hx⟩
    obtain ⟨its, rv, p, hz⟩ := I.list hq
    obtain ⟨f0, f1, f2, f3, f4, f5⟩ := hf it (by simp)
    have hl := rv.length
    exact wpAny_pyNext_enum_end (I.ok.hd hc) he hit p.isList (by simp; omega) fun h' eb => ⟨rfl, I.turned (t' := s.toks) (fun b o hb e => eb b o hb e) f0 f1 f3 f4 f5⟩
  self := by
    rintro A i s Q E ⟨⟨old, he⟩, hit⟩ h
    exact wpAny_pyIter_enum he h
def Zz4 (K : PySem.W.Frag) (ta : TA) : TI := fun σ H R => ta σ H fun vs H1 => ∃ a, vs = [V.ref a] ∧ (∃ xs, SqL K H1 a xs) ∧ R (Ite K a) H1
theorem Zg9 {elts : List Expr} {x1 : Nat} {tp : Pos} {l : Expr} {ta : TA} {p pos : Pos} (hg : Gl X "enumerate") (hm : X.mg "enumerate" = none) (ha : PA X [l] ta) (hs : starEach [l] X.env = [(false, eval l X.env)]) :
    PI X (.Tuple elts x1 tp) (.Call (.Name "enumerate" p) [l] [] pos) (Zz4 X.K ta) := by
  intro pins s σ H R I h
  refine Call_ (Q7 I hg hm (u := .type "enumerate") (by kernel_rfl) (PyProof.Rows.callWith_type1 (thn (ha pos pins s σ H _ I h) fun us s1 zz60 => ?_) hs rfl))
  obtain ⟨vs, H1, I1, r1, q1⟩ := zz60
  obtain ⟨a, rfl, ⟨xs, hq⟩, q⟩ := q1
  obtain ⟨u, rfl, ru⟩ := O5 r1
  cases ru
  obtain ⟨its, rv, pl, hz⟩ := I1.list hq
  refine call_enumerate_list pl.isList fun h' he hit hsz hk => ?_
  refine wpAny_pyIter_enum he ?_
  have hne : s1.heap.objs.size + 1 ≠ s1.heap.objs.size := by omega
  refine ⟨s1.heap.objs.size + 1, [s1.heap.objs.size + 1, s1.heap.objs.size], _, _, H1, rfl, I1.kept (t' := s1.toks) hk, Z05 a _ _ hne, ⟨⟨_, he⟩, hit⟩, fun b hb => ?_, q⟩
  have hb' : s1.heap.objs.size ≤ b := by
    have : b = s1.heap.objs.size + 1 ∨ b = s1.heap.objs.size := by simpa using hb
    rcases this with rfl | rfl
    · exact Nat.le_succ _
    · exact Nat.le_refl _
  exact I1.fpOk hb' (I1.hok.fresh hb')
end
end L3
namespace PySem
theorem Oz : typeLookup (.type "list") "keys" = pure none := by rw [typeLookup_type, builtinLookup_eq_fast]; kernel_rfl
theorem Zh9 {prog : Program} {w : World} {A : Around} {E : Value → Shared → Prop} {s : Shared} {a : Addr} {o : Obj} {xs : Array Value} {k : Nat} {name : Str} {u : Tok} {Q : Value → Shared → Prop}
    (hx : s.heap.get? a = some o) (hc : o.cls = .type "list") (hdat : o.data = .seq xs k) (hd : o.dict = none) (hmiss : typeLookup (.type "list") name = pure none) (hname : (["__module__", "__name__", "__qualname__", "__doc__", "__annotations__"] : List Str).contains name = false) (hA : A.handled = none)
    (h : ∀ h' tk e, Heap.NewExcOf s.heap h' e "AttributeError" → E (.ref e) { s with heap := h', toks := tk }) (hsz : name.length + 100 ≤ sizeLine := by size_fits) :
    wpAny (model prog w) A (getAttrBy (.ref a) (.str name u) false) Q E s := by
  obtain ⟨c, dct, dat, sl⟩ := o
  simp only at hc hdat hd
  subst hc hdat hd
  obtain ⟨hp, g, d, tk, os⟩ := s
  have hT : ∀ tk', (⟨hp, g, d, tk', os⟩ : Shared).TypeIs (.ref a) "list" := fun _ => ⟨_, hx, rfl⟩
  have f1 := sub_AttributeError
  have f3 := F.slot_list_getattribute.lookup
  have f4 := F.slot_list_getattribute.bind (.ref a)
  have f5 := am_list_getattr_none
  unfold getAttrBy
  repeat (any_goals (first | assumption | exact hT _ | ((with_reducible show wpAny _ _ (call (Value.builtin "list.__getattribute__") _ _) _ _ _); refine call_meets F.slot_list_getattribute (hT _) am_entry_list_getattribute (F.args_list_getattribute_2 _ _) (meets_getattribute_miss_list a xs k sl name _ hmiss hname hsz) ⟨hx, hA, fun h' tk' e hx' => ?_⟩) | wp_step))
  obtain ⟨t', u', he⟩ := hx'.there
  show wpAny _ _ (getattributeRaised _ _ _ _ _ _ _) _ _ _
  unfold getattributeRaised
  repeat (any_goals (first | assumption | wp_step))
  exact h _ _ _ hx'.of
theorem Zi6 {prog : Program} {w : World} {A : Around} {E : Value → Shared → Prop} {s : Shared} {a : Addr} {o : Obj} {xs : Array Value} {k : Nat} {Q : Option Value → Shared → Prop}
    (hx : s.heap.get? a = some o) (hc : o.cls = .type "list") (hdat : o.data = .seq xs k) (hd : o.dict = none) (hA : A.handled = none)
    (h : ∀ h' tk, (∀ b o, s.heap.get? b = some o → h'.get? b = some o) → Q none { s with heap := h', toks := tk }) : wpAny (model prog w) A (getAttr? (.ref a) "keys") Q E s := by
  obtain ⟨hp, g, d, tk, os⟩ := s
  unfold getAttr? getAttrBy?
  have f1 := sub_AttributeError
  repeat (any_goals (first | assumption | ((with_reducible show wpAny _ _ (getAttrBy _ _ false) _ _ _); refine Zh9 hx hc hdat hd Oz (by decide +kernel) hA fun h' tk' e hx' => ?_; obtain ⟨ob, vs, he, hcl, _, _⟩ := hx'.there; refine wpAny_bind (wpAny_isInstance (T := "AttributeError") ⟨ob, he, hcl⟩ f1 ?_); exact wpAny_pure (h h' tk' hx'.keeps)) | wp_step))
section
variable {prog : Program} {w : World} {A : Around} {E : Value → Shared → Prop} {R : Result → Shared → Prop}
theorem Tb : entryFor table "dict.update.loop" = some Builtin.«dict.update.loop» := entryFor_of_tree (by kernel_rfl)
theorem Xk : plainId "dict.update.loop" = true := by decide +kernel
def Zl3 {K : Type} [DecidableEq K] (knd : KeyKind prog w K) (h : Heap) (v : Value) (p : K × Value) : Prop := ∃ t u, v = .ref t ∧ h.IsTuple t #[u, p.2] ∧ knd.is p.1 u = true
theorem Jo {K : Type} [DecidableEq K] {knd : KeyKind prog w K} {h : Heap} {d I l : Addr} {i : Nat} {kvs : List (K × Value)} (hd : h.DictOf knd d kvs) (hI : h.IsListIter I l i) : d ≠ I := by
  rintro rfl
  obtain ⟨o, _, _, ho, _, hc, _⟩ := hd
  obtain ⟨o2, ho2, _, hc2⟩ := hI
  rw [ho] at ho2
  cases ho2
  rw [hc] at hc2
  cases hc2
theorem Zk3 {K : Type} [DecidableEq K] {knd : KeyKind prog w K} {l I d : Addr} {items : Array Value} {ps : List (K × Value)} (hh : A.in1.handled = none) (hsz : items.size < sizeLine) (hps : ps.length = items.size) :
    ∀ (k i : Nat) (s : Shared) (kvs : List (K × Value)) (t : Tok), items.size - i = k → i ≤ items.size → kvs.length ≤ i →
    s.heap.IsListIter I l i → s.heap.IsList l items → s.heap.DictOf knd d kvs → (∀ (j : Nat) v p, items[j]? = some v → ps[j]? = some p → Zl3 knd s.heap v p) →
    (∀ h' tk, h'.DictOf knd d ((ps.drop i).foldl (fun m p => stored m p.1 p.2) kvs) → (∀ b o, b ≠ I → b ≠ d → s.heap.get? b = some o → h'.get? b = some o) → R (.ok (.ret .none)) { s with heap := h', toks := tk }) →
    codeAny (model prog w) A (.builtin "dict.update.loop" ⟨[.ref d, .ref I, .int i t, .none], []⟩) R s := by
  intro k
  induction k with
  | zero =>
    intro i s kvs t hk hi hkv hI hl hd hp q
    have hin : i = items.size := by omega
    refine codeAny_builtin Tb ?_
    rw [Around.under_plainId Xk _]
    show wpAny _ A.in1 (pyNext (.ref I) >>= _) _ _ s
    refine wpAny_bind (wpAny_pyNext_list_end hh hI hl (by rw [hin]; simp) fun h' he => ?_)
    show wpAny _ _ (Builtin.Dict.addKeywords d [] >>= _) _ _ _
    refine wpAny_bind (wpAny_pure (wpAny_pure ?_))
    have hdI := Jo hd hI
    refine q h' _ ?_ fun b o h1 _ e => he b o h1 e
    rw [List.drop_of_length_le (by omega)]
    exact hd.extBut he hdI
  | succ k ih =>
    intro i s kvs t hk hi hkv hI hl hd hp q
    have hlt : i < items.size := by omega
    obtain ⟨v, hv⟩ : ∃ v, items[i]? = some v := ⟨_, Array.getElem?_eq_getElem hlt⟩
    obtain ⟨p, hpi⟩ : ∃ p, ps[i]? = some p := ⟨_, List.getElem?_eq_getElem (by omega)⟩
    refine codeAny_builtin Tb ?_
    rw [Around.under_plainId Xk _]
    show wpAny _ A.in1 (pyNext (.ref I) >>= _) _ _ s
    refine wpAny_bind (wpAny_pyNext_list_item hI hl hv fun h' hI' hs' => ?_)
    obtain ⟨tt, u, rfl, htp, hku⟩ := hp i v p hv hpi
    have hdI := Jo hd hI
    have keepI : ∀ b o, b ≠ I → s.heap.get? b = some o → h'.get? b = some o := fun b o hb e => (hs'.2 b hb).trans e
    have tI : tt ≠ I := by
      rintro rfl
      obtain ⟨o, ho, _, n, hc⟩ := htp
      obtain ⟨o2, ho2, _, hc2⟩ := hI
      rw [ho] at ho2; cases ho2; rw [hc] at hc2; cases hc2
    have lI : l ≠ I := by
      rintro rfl
      obtain ⟨o, ho, _, n, hc⟩ := hl
      obtain ⟨o2, ho2, _, hc2⟩ := hI
      rw [ho] at ho2; cases ho2; rw [hc] at hc2; cases hc2
    have nd : ∀ (b : Addr) (o : Obj) xs n, s.heap.get? b = some o → o.data = .seq xs n → b ≠ d ∧ b ≠ I := by
      intro b o xs n ho hc
      constructor
      · rintro rfl
        obtain ⟨o2, _, _, ho2, _, hc2, _⟩ := hd
        rw [ho] at ho2; cases ho2; rw [hc] at hc2; cases hc2
      · rintro rfl
        obtain ⟨o2, ho2, _, hc2⟩ := hI
        rw [ho] at ho2; cases ho2; rw [hc] at hc2; cases hc2
    obtain ⟨ot, hot, hct, nt, hdt⟩ := id htp
    show wpAny _ _ (holding [.ref tt] _ >>= _) _ _ _
    refine wpAny_bind (wpAny_holding (wpAny_bind (wpAny_tryCatch ?_)))
    unfold Builtin.Dict.pairItems
    refine wpAny_bind (wpAny_typeOf (T := "tuple") ⟨ot, keepI _ _ tI hot, hct⟩ ?_)
    rw [if_pos (by decide)]
    refine wpAny_bind (wpAny_seqItems (keepI _ _ tI hot) hdt ?_)
    refine wpAny_pure ?_
    show wpAny _ _ (holding [u, p.2] (dictSet d u p.2)) _ _ _
    have hd' : h'.DictOf knd d kvs := hd.extBut (fun b o hb e => keepI b o hb e) hdI
    refine wpAny_holding (wpAny_dictSet_pairs hku hd' (fun h2 hd2 hs2 => ?_) (by omega))
    refine wpAny_pure ⟨plainId_quiet Xk _, ?_⟩
    have keep2 : ∀ b o, b ≠ I → b ≠ d → s.heap.get? b = some o → h2.get? b = some o := fun b o h1 h3 e => (hs2.2 b h3).trans (keepI b o h1 e)
    have := ih (i + 1) { s with heap := h2, toks := s.toks + 1 } (stored kvs p.1 p.2) 0 (by omega) (by omega) ?_ ?_ ?_ hd2 ?_ ?_
    · exact this
    · unfold stored
      split
      · rw [List.length_map]; omega
      · rw [List.length_append, List.length_singleton]; omega
    · obtain ⟨o, ho, r⟩ := hI'
      exact ⟨o, (hs2.2 I (Ne.symm hdI)).trans ho, r⟩
    · obtain ⟨o, ho, hc, n, r⟩ := hl
      exact ⟨o, keep2 _ _ (nd _ _ _ _ ho r).2 (nd _ _ _ _ ho r).1 ho, hc, n, r⟩
    · intro j v p' h1 h3
      obtain ⟨t3, u3, e3, ⟨o, ho, hc, n, r⟩, g3⟩ := hp j v p' h1 h3
      exact ⟨t3, u3, e3, ⟨o, keep2 _ _ (nd _ _ _ _ ho r).2 (nd _ _ _ _ ho r).1 ho, hc, n, r⟩, g3⟩
    · intro h3 tk3 hd3 k3
      refine q h3 tk3 ?_ fun b o h1 h4 e => k3 b o h1 h4 (keep2 b o h1 h4 e)
      rw [List.drop_eq_getElem_cons (by omega : i < ps.length)]
      rw [List.getElem?_eq_getElem (by omega)] at hpi
      cases hpi
      exact hd3
variable {s : Shared}
theorem Zk0 {K : Type} [DecidableEq K] {knd : KeyKind prog w K} {l : Addr} {o : Obj} {n : Nat} {items : Array Value} {ps : List (K × Value)} {Q : Value → Shared → Prop} (hh : A.handled = none)
    (ho : s.heap.get? l = some o) (hc : o.cls = .type "list") (hdat : o.data = .seq items n) (hdi : o.dict = none) (hsz : items.size < sizeLine) (hps : ps.length = items.size)
    (hp : ∀ (j : Nat) v p, items[j]? = some v → ps[j]? = some p → Zl3 knd s.heap v p)
    (h : ∀ h' tk, h'.DictOf knd s.heap.objs.size (ps.foldl (fun m p => stored m p.1 p.2) []) → (∀ b o, s.heap.get? b = some o → h'.get? b = some o) → Q (.ref s.heap.objs.size) { s with heap := h', toks := tk }) :
    wpAny (model prog w) A (call (.type "dict") [.ref l]) Q E s := by
  refine callType_codes (Q₁ := fun obj s₁ => obj = .ref s.heap.objs.size ∧ s₁ = { s with heap := s.heap.push { cls := .type "dict", data := .dict #[] } }) F.kt_called_dict (F.kt_typeCall_dict_1 _) F.entry_dict_init (kt_code_dict_new _ ⟨rfl, rfl⟩) ?_
  rintro obj s₁ ⟨rfl, rfl⟩
  have hnew : (s.heap.push { cls := .type "dict", data := .dict #[] }).DictOf knd s.heap.objs.size [] := Heap.DictOf.new s.heap
  refine ⟨hnew.typeIs, F.args_dict_init_2 _ _, ?_⟩
  unfold Builtin.«dict.__init__»
  refine wpAny_bind ?_
  unfold Builtin.Dict.selfAndRest
  refine wpAny_bind (wpAny_notOrdered_dict hnew.typeIs ?_)
  show wpAny _ _ (pure (s.heap.objs.size, [Value.ref l])) _ _ _
  refine wpAny_pure ?_
  show wpAny _ _ (Builtin.Dict.updateFrom "dict.__init__" s.heap.objs.size (.ref l) [] .none) _ _ _
  unfold Builtin.Dict.updateFrom
  have ho' : (s.heap.push { cls := .type "dict", data := .dict #[] }).get? l = some o := Heap.get?_push_of_some _ ho
  refine wpAny_bind (wpAny_typeOf (T := "list") ⟨o, ho', hc⟩ ?_)
  rw [if_pos (by decide)]
  refine wpAny_bind (Zi6 ho' hc hdat hdi (by first | exact hh | rfl) fun h1 tk1 k1 => ?_)
  simp only [Option.isNone_none, if_true]
  have hl1 : h1.IsList l items := ⟨o, k1 _ _ ho', hc, n, hdat⟩
  have hd1 : h1.DictOf knd s.heap.objs.size [] := by
    obtain ⟨q, es, ep, hq, r⟩ := hnew
    exact ⟨q, es, ep, k1 _ _ hq, r⟩
  have old : ∀ b o, s.heap.get? b = some o → h1.get? b = some o := fun b o e => k1 b o (Heap.get?_push_of_some _ e)
  refine wpAny_bind (wpAny_rule ?_)
  refine wpAny_bind (wpAny_pyIter_list hl1 ?_)
  refine wpAny_pure ⟨plainId_quiet Xk _, ?_⟩
  refine Zk3 (A := A.in1) (knd := knd) (ps := ps) hh hsz hps _ 0 _ [] 0 rfl (Nat.zero_le _) (Nat.zero_le _) ⟨_, Heap.get?_push_size _ rfl, rfl, rfl⟩ (hl1.push _) (hd1.push _) ?_ ?_
  · intro j v p h2 h3
    obtain ⟨t, u, e, ⟨q, hq, r⟩, g⟩ := hp j v p h2 h3
    exact ⟨t, u, e, ⟨q, Heap.get?_push_of_some _ (old _ _ hq), r⟩, g⟩
  · intro h' tk hd' hk
    refine ⟨rfl, h h' tk hd' fun b o e => hk b o ?_ ?_ (Heap.get?_push_of_some _ (old _ _ e))⟩
    · exact Nat.ne_of_lt (Heap.lt_size (old _ _ e))
    · exact Nat.ne_of_lt (Heap.lt_size e)
end
end PySem
namespace L3
open PySem PySem.Spec PyProof.Rows L2
section
variable {X : Cx} {pins : List (Addr × Obj)} {σ : L2.St} {H : Hp} {s : Shared}
def Ng (K : PySem.W.Frag) (H : Hp) : List V → List (Key × V) → Prop
  | [], [] => True
  | v :: r, p :: q => (∃ t, v = .ref t ∧ SqT K H t [kV p.1, p.2]) ∧ Ng K H r q
  | _, _ => False
theorem Jq (I : Inv X pins σ H s) : ∀ (vs : List V) (its : List Value) (ps : List (Key × V)), Vals vs its → Ng X.K H vs ps → ∃ ps', KV ps ps' ∧ ps'.length = its.length ∧ ∀ (j : Nat) v p, its[j]? = some v → ps'[j]? = some p → Zl3 (Yb X.prog X.w) s.heap v p
  | [], its, ps, r, h => by
    cases ps with
    | cons _ _ => exact h.elim
    | nil =>
      have := r.length
      cases its with
      | cons _ _ => simp at this
      | nil => exact ⟨[], by constructor, rfl, fun j v p h => by simp at h⟩
  | v :: vs, its, ps, r, h => by
    cases ps with
    | nil => exact h.elim
    | cons p ps =>
      obtain ⟨⟨t, rfl, ht⟩, h⟩ := h
      cases r with
      | @cons _ u _ its ru r =>
      cases (show u = Value.ref t from ru)
      obtain ⟨w2, r2, ht2, _⟩ := I.tuple ht
      obtain ⟨u1, u2, rfl, s1, s2⟩ := J6 r2
      obtain ⟨ps', k1, k2, k3⟩ := Jq I vs its ps r h
      refine ⟨(p.1, u2) :: ps', .cons ⟨rfl, s2⟩ k1, by rw [List.length_cons, List.length_cons, k2], fun j v q h1 h2 => ?_⟩
      cases j with
      | zero =>
        cases h1; cases h2
        exact ⟨t, u1, rfl, ht2, Jj s1⟩
      | succ j => exact k3 j v q h1 h2
theorem Bw : ∀ {ps : List (Key × V)} {ps' : List (Key × Value)} {kvs : List (Key × V)} {vs : List (Key × Value)}, KV ps ps' → KV kvs vs → KV (ps.foldl (fun m p => putK m p.1 p.2) kvs) (ps'.foldl (fun m p => stored m p.1 p.2) vs)
  | _, _, _, _, .nil, h => h
  | _, _, _, _, .cons e r, h => by
    rw [List.foldl_cons, List.foldl_cons]
    refine Bw r ?_
    rw [e.1]
    exact h.put _ e.2
theorem Gz : ∀ (ps : List (Key × V)) (kvs : List (Key × V)), (ps.foldl (fun m p => putK m p.1 p.2) kvs).length ≤ kvs.length + ps.length
  | [], kvs => Nat.le_refl _
  | p :: ps, kvs => by
    rw [List.foldl_cons, List.length_cons]
    have := Gz ps (putK kvs p.1 p.2)
    have := Vr kvs p.1 p.2
    omega
theorem Ox {K : PySem.W.Frag} : ∀ {vs : List V} {ps : List (Key × V)}, Ng K H vs ps → vs.length = ps.length
  | [], [], _ => rfl
  | _ :: _, _ :: _, h => by rw [List.length_cons, List.length_cons, Ox h.2]
theorem Fh (hc : X.calm = true) : Vs X (.type "dict") (fun xs H Q => ∃ (a : Addr) (vs : List V) (ps : List (Key × V)), xs = [V.ref a] ∧ SqL X.K H a vs ∧ Ng X.K H vs ps ∧ vs.length < sizeLine ∧
    ∀ p, H p = none → Q (.ref p) (upd H p (.dK (ps.foldl (fun m p => putK m p.1 p.2) [])))) := by
  intro pins s σ H xs us Q I r h
  obtain ⟨a, vs, ps, rfl, hx, hp, hz, q⟩ := h
  obtain ⟨u, rfl, ru⟩ := O5 r
  cases ru
  obtain ⟨its, rv, ⟨o, n, ho, h1, h2, h3⟩, _⟩ := I.list hx
  obtain ⟨ps', k1, k2, k3⟩ := Jq I vs its ps rv hp
  have hl := rv.length
  have hl2 := Ox hp
  refine Zk0 (knd := Yb X.prog X.w) (ps := ps') (I.ok.hd hc) ho h1 h3 h2 (by rw [List.size_toArray]; omega) (by rw [List.size_toArray]; exact k2) (fun j v p e1 e2 => k3 j v p (by simpa using e1) e2) fun h' tk dd keep => ?_
  have lf := Gz ps []
  refine ⟨.ref _, _, I.laid (a := s.heap.objs.size) (o := .dK (ps.foldl (fun m p => putK m p.1 p.2) [])) (t' := tk) keep (Nat.le_refl _) (Bg (by rw [List.length_nil] at lf; omega) (beq_eq_false_iff_ne.mpr (Ne.symm (Nat.ne_of_lt I.big))) (Bw k1 .nil) dd), rfl, q _ (I.hok.fresh (Nat.le_refl _))⟩
end
noncomputable def Itd (a : Addr) (o : Obj) : It := ⟨fun i H => ∃ kvs p, H a = some (.frz o (.dK kvs)) ∧ kvs[i]? = some p, fun i H x H' => H' = H ∧ ∀ kvs, H a = some (.frz o (.dK kvs)) → ∃ p, kvs[i]? = some p ∧ x = kV p.1, fun i H => ∃ kvs, H a = some (.frz o (.dK kvs)) ∧ kvs.length ≤ i⟩
theorem Bm {P : Program} {w : World} {H : Hp} {h : Heap} {a : Addr} {o : Obj} {kvs : List (Key × V)} {es : Array DictEntry} {ep : Nat} (x : X6 P w H h a (.frz o (.dK kvs))) (hd : o.data = .dict es ep) :
    ∃ vs, KV kvs vs ∧ h.DictAt (Yb P w) a vs ep ∧ vs.length = es.size := by
  obtain ⟨e, _, _, vs, rel, o', es', ep', e', h1, h2, h3, h4, h5⟩ := x
  rw [e] at e'
  cases e'
  rw [hd] at h2
  cases h2
  refine ⟨vs, rel, ⟨o, es, e, h1, hd, h3, h4, h5⟩, ?_⟩
  have := h4.length
  simpa using this.symm
theorem Y00 {P : Program} {w : World} {k : Key} {u : Value} (h : (Yb P w).is k u = true) : L2.RelV (kV k) u := by
  rcases Y6 h with ⟨i, t, rfl, rfl⟩ | ⟨x, t, rfl, rfl⟩
  · exact ⟨t, rfl⟩
  · exact ⟨t, rfl⟩
theorem Zy4 {kvs : List (Key × V)} {vs : List (Key × Value)} (r : KV kvs vs) : ∀ {i : Nat} {p : Key × V}, kvs[i]? = some p → ∃ u, vs[i]? = some (p.1, u) ∧ L2.RelV p.2 u := by
  unfold KV at r
  induction r with
  | nil => intro i p e; simp at e
  | @cons p q ps qs h t ih =>
    intro i p e
    cases i with
    | zero =>
      cases e
      exact ⟨q.2, by rw [h.1]; rfl, h.2⟩
    | succ i => exact ih (by simpa using e)
theorem Et {P : Program} {w : World} {K : PySem.W.Frag} {tg : Expr} (a it : Addr) {o : Obj} {es : Array DictEntry} {ep : Nat} (hd : o.data = .dict es ep) : Turn P w K tg (Itd a o) [it] it (fun i h => h.IsKeyIter it a i es.size ep) where
  mem := by simp
  obj := fun i h st b hb => by
    have e : b = it := by simpa using hb
    subst e
    obtain ⟨o, e, c, d⟩ := st
    exact ⟨o, e, fun v z => by rw [d] at z; cases z⟩
  keep := fun i h h' st k => st.at fun o e => k it (by simp) o e
  item := by
    intro X hP hw hK hc i pins s σ H E I hf st hg
    subst hP hw hK
    obtain ⟨kvs, p, hq, hx⟩ := hg
    obtain ⟨vs, rel, dd, hl⟩ := Bm (I.hok a _ hq) hd
    obtain ⟨q, hx2, e2⟩ := Zy4 rel hx
    obtain ⟨f0, f1, f2, f3, f4, f5⟩ := hf it (by simp)
    rw [← hl] at st
    refine wpAny_pyNext_dict_item st dd hx2 fun key h' hkey st' sb => ?_
    have I1 : Inv X pins σ H { s with heap := h' } := I.turned (t' := s.toks) (fun b o hb e => (sb.2 b hb).trans e) f0 f1 f3 f4 f5
    obtain ⟨ob, e, c, d⟩ := id st'
    rw [hl] at st'
    exact ⟨key, rfl, Z64 (s := { s with heap := h' }) e c d (by decide) ⟨kV p.1, H, I1, Y00 hkey, ⟨rfl, fun ys hy => by rw [hq] at hy; cases hy; exact ⟨p, hx, rfl⟩⟩, st', fun b hb => (hf b hb).1⟩⟩
  done := by
    intro X hP hw hK hc i pins s σ H E I hf st hg
    subst hP hw hK
    obtain ⟨kvs, hq, hx⟩ := hg
    obtain ⟨vs, rel, dd, hl⟩ := Bm (I.hok a _ hq) hd
    obtain ⟨f0, f1, f2, f3, f4, f5⟩ := hf it (by simp)
    have hl2 := rel.length
    rw [← hl] at st
    exact wpAny_pyNext_dict_end (I.ok.hd hc) st dd (by simp; omega) fun h' eb => ⟨rfl, I.turned (t' := s.toks) (fun b o hb e => eb b o hb e) f0 f1 f3 f4 f5⟩
  self := fun _ _ _ _ _ st h => wpAny_pyIter_keyiter st h
section
variable {X : Cx} {pins : List (Addr × Obj)} {σ : L2.St} {H : Hp} {s : Shared} {a : Addr}
theorem Zb0 {kvs : List (Key × V)} (I : Inv X pins σ H s) (e : H a = some (.dK kvs)) :
    ∃ o es ep, o.data = .dict es ep ∧ s.heap.get? a = some o ∧ Inv X pins σ (upd H a (.frz o (.dK kvs))) s ∧ (∀ o u, X.H₀ a ≠ some (.frz o u)) := by
  obtain ⟨z, hd, vs, rel, dd⟩ := B6 I.hok e
  obtain ⟨o, es, ep, ho, h1, h2, h3⟩ := id dd
  refine ⟨o, es, ep, h2, ho, ?_, fun o' u q => ?_⟩
  · exact I.write (x := a) (e := a) (o := .frz o (.dK kvs)) (h' := s.heap) (t' := s.toks) (by rw [e]; exact True.intro) (.inl rfl) (fun b q _ r => r) ⟨o, ho⟩ ⟨ho, z, hd, vs, rel, dd⟩
  · have := I.base.frzs a o' u q
    rw [e] at this
    cases this
theorem Ze4 {kvs : List (Key × V)} {o : Obj} (I : Inv X pins σ H s) (e : H a = some (.frz o (.dK kvs))) (nf : ∀ o u, X.H₀ a ≠ some (.frz o u)) : Inv X pins σ (upd H a (.dK kvs)) s where
  ok := I.ok
  os := I.os
  bare := I.bare
  base := by
    have ne : ∀ b, H b = none → b ≠ a := fun b n z => by subst z; rw [e] at n; cases n
    refine ⟨I.base.keep, I.base.slot, fun b q h n hx => ?_, I.base.there, fun b xs h => ?_, fun b q u h => ?_, fun b ps h => ?_⟩
    · have := I.base.free b q h n hx
      rw [Zj (ne b this)]; exact this
    · have := I.base.tups b xs h
      rw [Zj (fun z => by subst z; rw [e] at this; cases this)]; exact this
    · have := I.base.frzs b q u h
      rw [Zj (fun z => by subst z; exact nf q u h)]; exact this
    · obtain ⟨m, this⟩ := I.base.tbls b ps h
      exact ⟨m, by rw [Zj (fun z => by subst z; rw [e] at this; cases this)]; exact this⟩
  loc := I.loc
  cell := I.cell
  free := by rw [Zj (fun z => by have := I.free; rw [z, e] at this; cases this)]; exact I.free
  freeC := fun x c h => by
    have := I.freeC x c h
    rw [Zj (fun z => by subst z; rw [e] at this; cases this)]; exact this
  pin := fun p hp => by
    obtain ⟨h1, h2, h3⟩ := I.pin p hp
    exact ⟨h1, by rw [Zj (fun z => by rw [z, e] at h2; cases h2)]; exact h2, h3⟩
  hok := by
    intro b u h
    by_cases hb : b = a
    · subst hb
      rw [Yp] at h
      cases h
      obtain ⟨_, q⟩ := I.hok b _ e
      exact q
    · rw [Zj hb] at h
      refine (I.hok b u h).stay (fun c v _ r => r) (fun c r => ?_) fun c xs r => ?_
      · rw [Zj (fun z => by subst z; rw [e] at r; cases r)]; exact r
      · rw [Zj (fun z => by subst z; rw [e] at r; cases r)]; exact r
  len := I.len
end
end L3
namespace U
open PySem PySem.Spec PyProof.Rows L2 L3
inductive D where
  | non | bl (b : Bool) | int (i : Int) | str (x : Str) | tup (ds : List D) | ref (n : Nat) | ty (n : String) | gtup (ds : List D) | cls (a : Addr) | exn (e C dx : Addr) (row : D)
inductive Cell where
  | lst (ds : List D) | frz (ds : List D) | dct (kvs : List (Key × D)) | fdc (kvs : List (Key × D))
noncomputable abbrev Z1 := List Cell
noncomputable abbrev DEnv := List (Option D)
abbrev DK := D → Z1 → Prop
abbrev DX := Addr → D → Z1 → Prop
abbrev DE := DEnv → Z1 → DK → Prop
abbrev DA := DEnv → Z1 → (List D → Z1 → Prop) → Prop
abbrev DT := DEnv → Z1 → (Bool → Z1 → Prop) → Prop
abbrev DSp := List D → Z1 → DK → DX → Prop
structure DEnds where
  nx : DEnv → Z1 → Prop
  rt : DK
  bk : DEnv → Z1 → Prop := fun _ _ => False
  ct : DEnv → Z1 → Prop := fun _ _ => False
abbrev DS := DEnds → DEnv → Z1 → Prop
structure Vw where
  K : PySem.W.Frag
  H : Hp
  μ : Nat → Addr
  n : Nat
mutual
def RD (w : Vw) : D → V → Prop
  | .non, v => v = .non
  | .bl b, v => v = .bl b
  | .int i, v => v = .int i
  | .str x, v => v = .str x
  | .tup ds, v => ∃ a vs, v = .ref a ∧ w.H a = some (.tup vs) ∧ RDs w ds vs
  | .ref i, v => i < w.n ∧ v = .ref (w.μ i)
  | .ty n, v => v = .ty n
  | .gtup ds, v => ∃ a vs, v = .ref a ∧ SqT w.K w.H a vs ∧ RDs w ds vs
  | .cls a, v => v = .ref a
  | .exn e C dx row, v => v = .ref e ∧ w.H e = some (XO e (.ref C) (some dx)) ∧ ∃ r, w.H dx = some (.xd [("row", r)]) ∧ RD w row r
def RDs (w : Vw) : List D → List V → Prop
  | [], vs => vs = []
  | d :: ds, vs => ∃ v r, vs = v :: r ∧ RD w d v ∧ RDs w ds r
end
def RKV (w : Vw) : List (Key × D) → List (Key × V) → Prop
  | [], vs => vs = []
  | (k, d) :: ds, vs => ∃ v r, vs = (k, v) :: r ∧ RD w d v ∧ RKV w ds r
def SqF (K : PySem.W.Frag) (H : Hp) (a : Addr) (vs : List V) : Prop := (∃ o, H a = some (.frz o (.lst vs))) ∨ SqL K (fun _ => none) a vs
noncomputable def Cell.mut : Cell → Bool
  | .frz _ => false
  | _ => true
def Po (w : Vw) : Cell → Addr → Prop
  | .lst ds, a => ∃ vs, w.H a = some (.lst vs) ∧ RDs w ds vs
  | .frz ds, a => ∃ vs, SqF w.K w.H a vs ∧ RDs w ds vs
  | .dct kvs, a => ∃ vs, w.H a = some (.dK vs) ∧ RKV w kvs vs
  | .fdc kvs, a => ∃ o vs, w.H a = some (.frz o (.dK vs)) ∧ RKV w kvs vs
structure RS (w : Vw) (M : Z1) : Prop where
  len : w.n = M.length
  inj : ∀ (i j : Nat) (ci cj : Cell), M[i]? = some ci → M[j]? = some cj → ci.mut = true → cj.mut = true → w.μ i = w.μ j → i = j
  cell : ∀ i c, M[i]? = some c → Po w c (w.μ i)
noncomputable def Imm : HO → Bool
  | .tup _ | .xd _ | .ext _ | .frz _ _ => true
  | _ => false
structure Ext (w w' : Vw) : Prop where
  K : w'.K = w.K
  n : w.n ≤ w'.n
  μ : ∀ i, i < w.n → w'.μ i = w.μ i
  imm : ∀ a o, w.H a = some o → Imm o = true → w'.H a = some o
theorem Ext.refl (w : Vw) : Ext w w := ⟨rfl, Nat.le_refl _, fun _ _ => rfl, fun _ _ h _ => h⟩
theorem Ext.trans {a b c : Vw} (x : Ext a b) (y : Ext b c) : Ext a c :=
  ⟨y.K.trans x.K, Nat.le_trans x.n y.n, fun i h => (y.μ i (Nat.lt_of_lt_of_le h x.n)).trans (x.μ i h), fun p o h q => y.imm p o (x.imm p o h q) q⟩
theorem Ext.sqT {w w' : Vw} (x : Ext w w') {a : Addr} {vs : List V} (h : SqT w.K w.H a vs) : SqT w'.K w'.H a vs := by
  rw [x.K]
  rcases h with (h | ⟨o, h⟩) | h
  · exact .inl (.inl (x.imm _ _ h rfl))
  · exact .inl (.inr ⟨o, x.imm _ _ h rfl⟩)
  · exact .inr h
mutual
theorem RD.ext {w w' : Vw} (x : Ext w w') : ∀ {d : D} {v : V}, RD w d v → RD w' d v
  | .non, v, h => by unfold RD at *; exact h
  | .bl b, v, h => by unfold RD at *; exact h
  | .int i, v, h => by unfold RD at *; exact h
  | .str _, v, h => by unfold RD at *; exact h
  | .tup ds, v, h => by
    unfold RD at *
    obtain ⟨a, vs, e, q, r⟩ := h
    exact ⟨a, vs, e, x.imm _ _ q rfl, RDs.ext x r⟩
  | .ref i, v, h => by
    unfold RD at *
    exact ⟨Nat.lt_of_lt_of_le h.1 x.n, by rw [x.μ i h.1]; exact h.2⟩
  | .ty n, v, h => by unfold RD at *; exact h
  | .gtup ds, v, h => by
    unfold RD at *
    obtain ⟨a, vs, e, q, r⟩ := h
    exact ⟨a, vs, e, x.sqT q, RDs.ext x r⟩
  | .cls a, v, h => by unfold RD at *; exact h
  | .exn e C dx row, v, h => by
    unfold RD at *
    obtain ⟨e1, q, r, q2, q3⟩ := h
    exact ⟨e1, x.imm _ _ q rfl, r, x.imm _ _ q2 rfl, RD.ext x q3⟩
theorem RDs.ext {w w' : Vw} (x : Ext w w') : ∀ {ds : List D} {vs : List V}, RDs w ds vs → RDs w' ds vs
  | [], vs, h => by unfold RDs at *; exact h
  | d :: ds, vs, h => by
    unfold RDs at *
    obtain ⟨v, r, e, h1, h2⟩ := h
    exact ⟨v, r, e, RD.ext x h1, RDs.ext x h2⟩
end
theorem RKV.ext {w w' : Vw} (x : Ext w w') : ∀ {ds : List (Key × D)} {vs : List (Key × V)}, RKV w ds vs → RKV w' ds vs
  | [], vs, h => by unfold RKV at *; exact h
  | (k, d) :: ds, vs, h => by
    unfold RKV at *
    obtain ⟨v, r, e, h1, h2⟩ := h
    exact ⟨v, r, e, RD.ext x h1, RKV.ext x h2⟩
structure Ext0 (w w' : Vw) : Prop where
  K : w'.K = w.K
  n : w.n ≤ w'.n
  μ : ∀ i, i < w.n → w'.μ i = w.μ i
  imm : ∀ a o, w.H a = some o → Imm o = true → (∀ ob kvs, o ≠ .frz ob (.dK kvs)) → w'.H a = some o
mutual
theorem RD.ext0 {w w' : Vw} (x : Ext0 w w') : ∀ {d : D} {v : V}, RD w d v → RD w' d v
  | .non, v, h => by unfold RD at *; exact h
  | .bl b, v, h => by unfold RD at *; exact h
  | .int i, v, h => by unfold RD at *; exact h
  | .str _, v, h => by unfold RD at *; exact h
  | .tup ds, v, h => by
    unfold RD at *
    obtain ⟨a, vs, e, q, r⟩ := h
    exact ⟨a, vs, e, x.imm _ _ q rfl (fun _ _ z => by cases z), RDs.ext0 x r⟩
  | .ref i, v, h => by
    unfold RD at *
    exact ⟨Nat.lt_of_lt_of_le h.1 x.n, by rw [x.μ i h.1]; exact h.2⟩
  | .ty n, v, h => by unfold RD at *; exact h
  | .gtup ds, v, h => by
    unfold RD at *
    obtain ⟨a, vs, e, q, r⟩ := h
    refine ⟨a, vs, e, ?_, RDs.ext0 x r⟩
    rw [x.K]
    rcases q with (h | ⟨o, h⟩) | h
    · exact .inl (.inl (x.imm _ _ h rfl (fun _ _ z => by cases z)))
    · exact .inl (.inr ⟨o, x.imm _ _ h rfl (fun _ _ z => by cases z)⟩)
    · exact .inr h
  | .cls a, v, h => by unfold RD at *; exact h
  | .exn e C dx row, v, h => by
    unfold RD at *
    obtain ⟨e1, q, r, q2, q3⟩ := h
    exact ⟨e1, x.imm _ _ q rfl (fun _ _ z => by cases z), r, x.imm _ _ q2 rfl (fun _ _ z => by cases z), RD.ext0 x q3⟩
theorem RDs.ext0 {w w' : Vw} (x : Ext0 w w') : ∀ {ds : List D} {vs : List V}, RDs w ds vs → RDs w' ds vs
  | [], vs, h => by unfold RDs at *; exact h
  | d :: ds, vs, h => by
    unfold RDs at *
    obtain ⟨v, r, e, h1, h2⟩ := h
    exact ⟨v, r, e, RD.ext0 x h1, RDs.ext0 x h2⟩
end
theorem RKV.ext0 {w w' : Vw} (x : Ext0 w w') : ∀ {ds : List (Key × D)} {vs : List (Key × V)}, RKV w ds vs → RKV w' ds vs
  | [], vs, h => by unfold RKV at *; exact h
  | (k, d) :: ds, vs, h => by
    unfold RKV at *
    obtain ⟨v, r, e, h1, h2⟩ := h
    exact ⟨v, r, e, RD.ext0 x h1, RKV.ext0 x h2⟩
theorem RDs.nil (w : Vw) : RDs w [] [] := by unfold RDs; rfl
theorem RDs.cons {w : Vw} {d : D} {v : V} {ds : List D} {vs : List V} (h : RD w d v) (r : RDs w ds vs) : RDs w (d :: ds) (v :: vs) := by unfold RDs; exact ⟨v, vs, rfl, h, r⟩
theorem RDs.length {w : Vw} : ∀ {ds : List D} {vs : List V}, RDs w ds vs → vs.length = ds.length
  | [], vs, h => by unfold RDs at h; subst h; rfl
  | d :: ds, vs, h => by
    unfold RDs at h
    obtain ⟨v, r, rfl, _, h2⟩ := h
    simp [h2.length]
theorem RDs.get {w : Vw} : ∀ {ds : List D} {vs : List V} {i : Nat} {d : D}, RDs w ds vs → ds[i]? = some d → ∃ v, vs[i]? = some v ∧ RD w d v
  | [], vs, i, d, h, e => by simp at e
  | d :: ds, vs, i, d', h, e => by
    unfold RDs at h
    obtain ⟨v, r, rfl, h1, h2⟩ := h
    cases i with
    | zero => simp at e; subst e; exact ⟨v, rfl, h1⟩
    | succ i => simpa using RDs.get h2 (by simpa using e)
theorem RDs.append {w : Vw} : ∀ {ds es : List D} {vs us : List V}, RDs w ds vs → RDs w es us → RDs w (ds ++ es) (vs ++ us)
  | [], es, vs, us, h, g => by unfold RDs at h; subst h; exact g
  | d :: ds, es, vs, us, h, g => by
    unfold RDs at h
    obtain ⟨v, r, rfl, h1, h2⟩ := h
    exact RDs.cons h1 (RDs.append h2 g)
theorem RDs.take {w : Vw} : ∀ {ds : List D} {vs : List V} (n : Nat), RDs w ds vs → RDs w (ds.take n) (vs.take n)
  | _, _, 0, _ => by simp [RDs.nil]
  | [], vs, n + 1, h => by unfold RDs at h; subst h; simp [RDs.nil]
  | d :: ds, vs, n + 1, h => by
    unfold RDs at h
    obtain ⟨v, r, rfl, h1, h2⟩ := h
    exact RDs.cons h1 (RDs.take n h2)
theorem RDs.drop {w : Vw} : ∀ {ds : List D} {vs : List V} (n : Nat), RDs w ds vs → RDs w (ds.drop n) (vs.drop n)
  | _, _, 0, h => by simpa using h
  | [], vs, n + 1, h => by unfold RDs at h; subst h; simp [RDs.nil]
  | d :: ds, vs, n + 1, h => by
    unfold RDs at h
    obtain ⟨v, r, rfl, h1, h2⟩ := h
    simpa using RDs.drop n h2
theorem RDs.set {w : Vw} {d : D} {v : V} (q : RD w d v) : ∀ {ds : List D} {vs : List V} (n : Nat), RDs w ds vs → RDs w (ds.set n d) (vs.set n v)
  | [], vs, n, h => by unfold RDs at h; subst h; simp [RDs.nil]
  | d :: ds, vs, 0, h => by
    unfold RDs at h
    obtain ⟨v, r, rfl, h1, h2⟩ := h
    exact RDs.cons q h2
  | d :: ds, vs, n + 1, h => by
    unfold RDs at h
    obtain ⟨v, r, rfl, h1, h2⟩ := h
    exact RDs.cons h1 (RDs.set q n h2)
theorem RDs.reverse {w : Vw} : ∀ {ds : List D} {vs : List V}, RDs w ds vs → RDs w ds.reverse vs.reverse
  | [], vs, h => by unfold RDs at h; subst h; simp [RDs.nil]
  | d :: ds, vs, h => by
    unfold RDs at h
    obtain ⟨v, r, rfl, h1, h2⟩ := h
    simp only [List.reverse_cons]
    exact (RDs.reverse h2).append (RDs.cons h1 (RDs.nil w))
noncomputable def Vw.push (w : Vw) (a : Addr) (o : HO) : Vw := ⟨w.K, upd w.H a o, fun i => if i = w.n then a else w.μ i, w.n + 1⟩
noncomputable def Vw.alloc (w : Vw) (a : Addr) (o : HO) : Vw := { w with H := upd w.H a o }
theorem Ri {w : Vw} {a : Addr} {o : HO} (h : w.H a = none) : Ext w (w.alloc a o) :=
  ⟨rfl, Nat.le_refl _, fun _ _ => rfl, fun b u q _ => by
    show upd w.H a o b = some u
    rw [Zj (by rintro rfl; rw [h] at q; cases q)]; exact q⟩
theorem T5 {w : Vw} {a : Addr} {o : HO} (h : w.H a = none) : Ext w (w.push a o) :=
  ⟨rfl, Nat.le_succ _, fun i hi => by show (if i = w.n then a else w.μ i) = _; rw [if_neg (by omega)], fun b u q _ => by
    show upd w.H a o b = some u
    rw [Zj (by rintro rfl; rw [h] at q; cases q)]; exact q⟩
theorem SqF.stay {w w' : Vw} {a : Addr} {vs : List V} (x : Ext w w') (h : SqF w.K w.H a vs) : SqF w'.K w'.H a vs := by
  rcases h with ⟨o, h⟩ | h
  · exact .inl ⟨o, x.imm _ _ h rfl⟩
  · rw [x.K]; exact .inr h
theorem SqF.sq {K : PySem.W.Frag} {H : Hp} {a : Addr} {vs : List V} (h : SqF K H a vs) : SqL K H a vs := by
  rcases h with ⟨o, h⟩ | (h | ⟨o, h⟩) | h
  · exact .inl (.inr ⟨o, h⟩)
  · cases h
  · cases h
  · exact .inr h
theorem Po.some {w : Vw} {c : Cell} {a : Addr} (hm : c.mut = true) (h : Po w c a) : ∃ o, w.H a = some o := by
  cases c with
  | lst ds => obtain ⟨vs, q, _⟩ := h; exact ⟨_, q⟩
  | frz ds => cases hm
  | dct ds => obtain ⟨vs, q, _⟩ := h; exact ⟨_, q⟩
  | fdc ds => obtain ⟨o, vs, q, _⟩ := h; exact ⟨_, q⟩
theorem Po.stay {w w' : Vw} {c : Cell} {a : Addr} (x : Ext w w') (h : Po w c a) (k : c.mut = true → w'.H a = w.H a) : Po w' c a := by
  cases c with
  | lst ds => obtain ⟨vs, q, r⟩ := h; exact ⟨vs, (k rfl).trans q, r.ext x⟩
  | frz ds => obtain ⟨vs, q, r⟩ := h; exact ⟨vs, q.stay x, r.ext x⟩
  | dct ds => obtain ⟨vs, q, r⟩ := h; exact ⟨vs, (k rfl).trans q, r.ext x⟩
  | fdc ds => obtain ⟨o, vs, q, r⟩ := h; exact ⟨o, vs, (k rfl).trans q, r.ext x⟩
theorem RS.alloc {w : Vw} {M : Z1} {a : Addr} {o : HO} (R : RS w M) (h : w.H a = none) : RS (w.alloc a o) M :=
  ⟨R.len, R.inj, fun i c e => by
    have q := R.cell i c e
    refine q.stay (Ri h) fun hm => ?_
    obtain ⟨u, hu⟩ := q.some hm
    exact Zj (fun z => by have z : w.μ i = a := z; rw [z, h] at hu; cases hu)⟩
theorem RS.push {w : Vw} {M : Z1} {a : Addr} {o : HO} {c : Cell} (R : RS w M) (h : w.H a = none) (new : Po (w.push a o) c a) : RS (w.push a o) (M ++ [c]) := by
  have old : ∀ (i : Nat) (ci : Cell), (M ++ [c])[i]? = some ci → (i = w.n ∧ ci = c) ∨ (i < w.n ∧ M[i]? = some ci) := fun i ci e => by
    by_cases hi : i < M.length
    · rw [List.getElem?_append_left hi] at e
      exact .inr ⟨by rw [R.len]; exact hi, e⟩
    · rw [List.getElem?_append_right (by omega)] at e
      have hz : i - M.length = 0 := by
        have := (List.getElem?_eq_some_iff.mp e).1
        simp at this
        omega
      rw [hz] at e
      simp at e
      exact .inl ⟨by rw [R.len]; omega, e.symm⟩
  have no : ∀ (i : Nat) (ci : Cell), M[i]? = some ci → ci.mut = true → w.μ i ≠ a := fun i ci e hm z => by
    obtain ⟨u, hu⟩ := (R.cell i ci e).some hm
    rw [z, h] at hu; cases hu
  refine ⟨by show w.n + 1 = _; rw [R.len]; simp, fun i j ci cj ei ej mi mj e => ?_, fun i c' e => ?_⟩
  · change (if i = w.n then a else w.μ i) = (if j = w.n then a else w.μ j) at e
    rcases old i ci ei with ⟨h1, _⟩ | ⟨h1, h1'⟩
    · rcases old j cj ej with ⟨h2, _⟩ | ⟨h2, h2'⟩
      · omega
      · rw [if_pos h1, if_neg (by omega)] at e
        exact absurd e.symm (no j cj h2' mj)
    · rcases old j cj ej with ⟨h2, _⟩ | ⟨h2, h2'⟩
      · rw [if_neg (by omega), if_pos h2] at e
        exact absurd e (no i ci h1' mi)
      · rw [if_neg (by omega), if_neg (by omega)] at e
        exact R.inj i j ci cj h1' h2' mi mj e
  · show Po _ c' (if i = w.n then a else w.μ i)
    rcases old i c' e with ⟨h1, rfl⟩ | ⟨h1, h1'⟩
    · rw [if_pos h1]; exact new
    · rw [if_neg (by omega)]
      have q := R.cell i c' h1'
      exact q.stay (T5 h) fun hm => Zj (no i c' h1' hm)
theorem Wb {w : Vw} {a : Addr} {u o : HO} (h : w.H a = some u) (hu : Imm u = false) : Ext w (w.alloc a o) :=
  ⟨rfl, Nat.le_refl _, fun _ _ => rfl, fun b v q z => by
    show upd w.H a o b = some v
    rw [Zj (by rintro rfl; rw [h] at q; cases q; rw [hu] at z; cases z)]; exact q⟩
theorem RS.write {w : Vw} {M : Z1} {i : Nat} {u o : HO} {c0 c : Cell} (R : RS w M) (h0 : M[i]? = some c0) (hm : c0.mut = true) (hc : c.mut = true) (h : w.H (w.μ i) = some u) (hu : Imm u = false) (new : Po (w.alloc (w.μ i) o) c (w.μ i)) : RS (w.alloc (w.μ i) o) (M.set i c) := by
  have hi : i < M.length := (List.getElem?_eq_some_iff.mp h0).1
  have old : ∀ (j : Nat) (cj : Cell), (M.set i c)[j]? = some cj → cj.mut = true → ∃ cj', M[j]? = some cj' ∧ cj'.mut = true := fun j cj e mj => by
    by_cases h1 : j = i
    · subst h1; exact ⟨c0, h0, hm⟩
    · rw [List.getElem?_set_ne (Ne.symm h1)] at e
      exact ⟨cj, e, mj⟩
  refine ⟨by show w.n = _; rw [R.len]; simp, fun a b ca cb ea eb ma mb e => ?_, fun j c' e => ?_⟩
  · obtain ⟨ca', ea', ma'⟩ := old a ca ea ma
    obtain ⟨cb', eb', mb'⟩ := old b cb eb mb
    exact R.inj a b ca' cb' ea' eb' ma' mb' e
  · by_cases h1 : j = i
    · subst h1
      rw [List.getElem?_set_self hi] at e
      cases e
      exact new
    · rw [List.getElem?_set_ne (Ne.symm h1)] at e
      have q := R.cell j c' e
      exact q.stay (Wb h hu) fun mj => Zj (fun z => h1 (R.inj j i c' c0 e h0 mj hm z))
theorem Ni {w : Vw} {a : Addr} {o : Obj} {vs : List (Key × V)} {u : HO} (h : w.H a = some (.frz o (.dK vs))) : Ext0 w (w.alloc a u) :=
  ⟨rfl, Nat.le_refl _, fun _ _ => rfl, fun b v q _ n => by
    show upd w.H a u b = some v
    rw [Zj (by rintro rfl; rw [h] at q; cases q; exact n _ _ rfl)]; exact q⟩
theorem RS.thaw {w : Vw} {M : Z1} {i : Nat} {o : Obj} {vs : List (Key × V)} {kvs : List (Key × D)} (R : RS w M) (h0 : M[i]? = some (.fdc kvs)) (h : w.H (w.μ i) = some (.frz o (.dK vs))) (r : RKV w kvs vs) : RS (w.alloc (w.μ i) (.dK vs)) (M.set i (.dct kvs)) := by
  have hi : i < M.length := (List.getElem?_eq_some_iff.mp h0).1
  have x := Ni (u := .dK vs) h
  have old : ∀ (j : Nat) (cj : Cell), (M.set i (.dct kvs))[j]? = some cj → cj.mut = true → ∃ cj', M[j]? = some cj' ∧ cj'.mut = true := fun j cj e mj => by
    by_cases h1 : j = i
    · subst h1; exact ⟨_, h0, rfl⟩
    · rw [List.getElem?_set_ne (Ne.symm h1)] at e
      exact ⟨cj, e, mj⟩
  refine ⟨by show w.n = _; rw [R.len]; simp, fun a b ca cb ea eb ma mb e => ?_, fun j c' e => ?_⟩
  · obtain ⟨ca', ea', ma'⟩ := old a ca ea ma
    obtain ⟨cb', eb', mb'⟩ := old b cb eb mb
    exact R.inj a b ca' cb' ea' eb' ma' mb' e
  · by_cases h1 : j = i
    · subst h1
      rw [List.getElem?_set_self hi] at e
      cases e
      exact ⟨vs, Yp, r.ext0 x⟩
    · rw [List.getElem?_set_ne (Ne.symm h1)] at e
      have q := R.cell j c' e
      have ne : c'.mut = true → w.μ j ≠ w.μ i := fun mj z => h1 (R.inj j i c' _ e h0 mj rfl z)
      cases c' with
      | lst ds => obtain ⟨us, q, r⟩ := q; exact ⟨us, (Zj (ne rfl)).trans q, r.ext0 x⟩
      | dct ds => obtain ⟨us, q, r⟩ := q; exact ⟨us, (Zj (ne rfl)).trans q, r.ext0 x⟩
      | fdc ds => obtain ⟨o, us, q, r⟩ := q; exact ⟨o, us, (Zj (ne rfl)).trans q, r.ext0 x⟩
      | frz ds =>
        obtain ⟨us, q, r⟩ := q
        refine ⟨us, ?_, r.ext0 x⟩
        rcases q with ⟨o, q⟩ | q
        · exact .inl ⟨o, x.imm _ _ q rfl (fun _ _ z => by cases z)⟩
        · exact .inr q
theorem Zc7 {w1 w2 : Vw} {a : Addr} {u f o : HO} (h : w1.H a = some u) (hu : Imm u = false) (x : Ext (w1.alloc a f) w2) : Ext w1 (w2.alloc a o) :=
  ⟨x.K, x.n, x.μ, fun b v q z => by
    have hb : b ≠ a := by rintro rfl; rw [h] at q; cases q; rw [hu] at z; cases z
    show upd w2.H a o b = some v
    rw [Zj hb]
    exact x.imm b v ((Zj hb).trans q) z⟩
inductive Op where
  | add | sub | mul | fdiv | mod | pow
  deriving DecidableEq
inductive Cm where
  | lt | gt | eq | ne | is | notin
  deriving DecidableEq
inductive Bf where
  | len | isinst | min2 | max2 | list1 | tuple1 | dict1
  deriving DecidableEq
inductive Mt where
  | append | get2 | pop0 | reverse | index1 | extend
  deriving DecidableEq
inductive Ty where
  | int | str | bool | list | tuple | dict | valueError
  deriving DecidableEq
noncomputable def X9 : Ty → String
  | .int => "int" | .str => "str" | .bool => "bool" | .list => "list" | .tuple => "tuple" | .dict => "dict" | .valueError => "ValueError"
set_option genInjectivity false in
mutual
inductive E where
  | var (i : Nat) | int (i : Int) | bl (b : Bool) | non | str (x : Str) | ty (x : Ty) | glb (k : Nat)
  | bin (op : Op) (a b : E) | neg (a : E) | not (a : E) | cmp (op : Cm) (a b : E) | bop (isAnd : Bool) (es : Es) | ife (c a b : E)
  | lst (es : Es) | tup (es : Es) | dict0 | ix (a b : E) | sl (a : E) (lo hi : Eo)
  | call (f : Nat) (es : Es) | bf (b : Bf) (es : Es) | mt (m : Mt) (o : E) (es : Es) | fld (o : E) (f : Str)
  | comp (N' : List Str) (js : List (Option Nat)) (tg : List Nat) (it : It) (cd : Eo) (e : E)
  | rev (a : E)
inductive Es where
  | nil | cons (e : E) (r : Es)
inductive Eo where
  | no | yes (e : E)
inductive It where
  | seq (e : E) | rng1 (a : E) | rng2 (a b : E) | enm (e : E)
end
set_option genInjectivity false in
mutual
inductive S where
  | never | ret (e : E) | expr (e : E)
  | set (tg : List Nat) (e : E)
  | aug (op : Op) (j : Nat) (e : E)
  | put (o i v : E)
  | ite (c : E) (a b : Ss) | for_ (tg : List Nat) (it : It) (b : Ss) | forK (tg : List Nat) (e : E) (b : Ss) | while_ (c : E) (b : Ss)
inductive Ss where
  | nil | cons (s : S) (r : Ss)
end
noncomputable def Z7 (M : Z1) (n : Nat) : Option (List D) := match M[n]? with
  | some (.lst xs) => some xs
  | some (.frz xs) => some xs
  | _ => none
noncomputable def Za (M : Z1) (n : Nat) : Option (List D) := match M[n]? with
  | some (.lst xs) => some xs
  | _ => none
noncomputable def Y4 (M : Z1) (n : Nat) : Option (List (Key × D)) := match M[n]? with
  | some (.dct xs) => some xs
  | _ => none
noncomputable def valD (kvs : List (Key × D)) (k : Key) : Option D := (kvs.find? fun kv => decide (kv.1 = k)).map (·.2)
noncomputable def putD (kvs : List (Key × D)) (k : Key) (v : D) : List (Key × D) :=
  if (kvs.any fun kv => decide (kv.1 = k)) = true then kvs.map (fun kv => if kv.1 = k then (kv.1, v) else kv) else kvs ++ [(k, v)]
noncomputable def keyD : D → Option Key
  | .int i => some (.inl i)
  | .str x => some (.inr x)
  | _ => none
noncomputable def kD : Key → D
  | .inl i => .int i
  | .inr x => .str x
noncomputable def Xq (ps : List (Key × D)) : List D := ps.map fun p => .tup [kD p.1, p.2]
noncomputable def Vq (ps : List (Key × D)) : List (Key × D) := ps.foldl (fun m p => putD m p.1 p.2) []
noncomputable def qdiv (i j : Int) : Int := if 0 < j then i / j else i.fdiv j
noncomputable def qmod (i j : Int) : Int := if 0 < j then i % j else i.fmod j
theorem Zk9 (i j : Int) : i.fdiv j = qdiv i j := by
  unfold qdiv
  split
  · exact Int.fdiv_eq_ediv_of_nonneg _ (by omega)
  · rfl
theorem Zo0 (i j : Int) : i.fmod j = qmod i j := by
  unfold qmod
  split
  · exact Int.fmod_eq_emod_of_nonneg _ (by omega)
  · rfl
theorem Z52 {i j : Int} (h : 0 < j) : qdiv i j = i / j := if_pos h
theorem Z77 {i j : Int} (h : 0 < j) : qmod i j = i % j := if_pos h
def Ei (x : D) (F : Int → Prop) : Prop := match x with
  | .int i => F i
  | _ => False
def J1 (x : D) (F : Nat → Prop) : Prop := match x with
  | .ref n => F n
  | _ => False
def Zs1 (x : D) (F : List D → Prop) : Prop := match x with
  | .tup l => F l
  | _ => False
def Pw (x y : D) (F : Int → Int → Prop) : Prop := Ei x fun i => Ei y fun j => F i j
def at0 (l : List D) (P : Prop) : Prop := match l with
  | [] => P
  | _ :: _ => False
def at1 (l : List D) (F : D → Prop) : Prop := match l with
  | [] => False
  | a :: r => at0 r (F a)
def at2 (l : List D) (F : D → D → Prop) : Prop := match l with
  | [] => False
  | a :: r => at1 r (F a)
theorem Ww {x : D} {F : Int → Prop} (h : Ei x F) : ∃ i, x = .int i ∧ F i := by
  cases x with
  | int i => exact ⟨i, rfl, h⟩
  | _ => exact False.elim h
theorem Wj {x : D} {F : Nat → Prop} (h : J1 x F) : ∃ n, x = .ref n ∧ F n := by
  cases x with
  | ref n => exact ⟨n, rfl, h⟩
  | _ => exact False.elim h
theorem Z43 {x : D} {F : List D → Prop} (h : Zs1 x F) : ∃ l, x = .tup l ∧ F l := by
  cases x with
  | tup l => exact ⟨l, rfl, h⟩
  | _ => exact False.elim h
theorem Xc {x y : D} {F : Int → Int → Prop} (h : Pw x y F) : ∃ i j, x = .int i ∧ y = .int j ∧ F i j := by
  obtain ⟨i, rfl, h1⟩ := Ww h
  obtain ⟨j, rfl, h2⟩ := Ww h1
  exact ⟨i, j, rfl, rfl, h2⟩
theorem Jf {l : List D} {P : Prop} (h : at0 l P) : l = [] ∧ P := by
  cases l with
  | nil => exact ⟨rfl, h⟩
  | cons _ _ => exact False.elim h
theorem V7 {l : List D} {F : D → Prop} (h : at1 l F) : ∃ a, l = [a] ∧ F a := by
  cases l with
  | nil => exact False.elim h
  | cons a r => obtain ⟨rfl, h1⟩ := Jf h; exact ⟨a, rfl, h1⟩
theorem Px {l : List D} {F : D → D → Prop} (h : at2 l F) : ∃ a b, l = [a, b] ∧ F a b := by
  cases l with
  | nil => exact False.elim h
  | cons a r => obtain ⟨b, rfl, h1⟩ := V7 h; exact ⟨a, b, rfl, h1⟩
def addD (x y : D) (M : Z1) (Q : DK) : Prop := match x with
  | .int i => Ei y fun j => Q (.int (i + j)) M
  | .str a => match y with
    | .str b => a.length + b.length ≤ sizeLine ∧ Q (.str (a ++ b)) M
    | _ => False
  | .tup a => Zs1 y fun b => a ≠ [] ∧ a.length + b.length ≤ sizeLine ∧ Q (.tup (a ++ b)) M
  | .ref a => J1 y fun b => ∃ xs ys, Za M a = some xs ∧ Za M b = some ys ∧ xs.length + ys.length ≤ sizeLine ∧ Q (.ref M.length) (M ++ [.lst (xs ++ ys)])
  | _ => False
def mulD (x y : D) (M : Z1) (Q : DK) : Prop := match x with
  | .int i => Ei y fun j => IntMulOk i j ∧ Q (.int (i * j)) M
  | .ref a => Ei y fun k => ∃ xs, Za M a = some xs ∧ 0 ≤ k ∧ k < 2 ^ 62 ∧ xs.length * k.toNat ≤ sizeLine ∧ Q (.ref M.length) (M ++ [.lst (List.replicate k.toNat xs).flatten])
  | _ => False
def opD (op : Op) (x y : D) (M : Z1) (Q : DK) : Prop := match op with
  | .add => addD x y M Q
  | .mul => mulD x y M Q
  | .sub => Pw x y fun i j => Q (.int (i - j)) M
  | .fdiv => Pw x y fun i j => Bv i j ∧ Q (.int (qdiv i j)) M
  | .mod => Pw x y fun i j => j ≠ 0 ∧ Q (.int (qmod i j)) M
  | .pow => Pw x y fun i j => CPow i j ∧ Q (.int (i ^ j.toNat)) M
mutual
def PD (M : Z1) : PyData → D → Prop
  | .none, d => d = .non
  | .bool b, d => d = .bl b
  | .int i, d => d = .int i
  | .str x, d => d = .str x
  | .list xs, d => ∃ n ds, d = .ref n ∧ Z7 M n = some ds ∧ PDs M xs ds
  | .tuple xs, d => ∃ ds, d = .tup ds ∧ PDs M xs ds
  | .dict _, _ => False
def PDs (M : Z1) : List PyData → List D → Prop
  | [], ds => ds = []
  | x :: xs, ds => ∃ d r, ds = d :: r ∧ PD M x d ∧ PDs M xs r
end
noncomputable def Y5 : D → Bool
  | .non | .bl _ | .int _ | .str _ => true
  | _ => false
noncomputable def eqF : D → D → Bool
  | .non, .non => true
  | .bl a, .bl b => a == b
  | .bl a, .int b => (if a then 1 else 0) == b
  | .int a, .bl b => a == (if b then 1 else 0)
  | .int a, .int b => a == b
  | .str a, .str b => a == b
  | _, _ => false
noncomputable def inD (x : D) (xs : List D) : Bool := xs.any fun y => eqF y x
noncomputable def eqKV (a b : List (Key × D)) : Bool := a.length == b.length && a.all fun kv => match valD b kv.1 with
  | some y => eqF kv.2 y
  | none => false
noncomputable def eqS (x y : D) : Option Bool := match x with
  | .int i => match y with
    | .int j => some (decide (i = j))
    | .str _ => some false
    | .non => some false
    | _ => none
  | .str i => match y with
    | .str j => some (decide (i = j))
    | .int _ => some false
    | .non => some false
    | .bl _ => some false
    | _ => none
  | .bl i => match y with
    | .bl j => some (decide (i = j))
    | .non => some false
    | .str _ => some false
    | _ => none
  | .non => match y with
    | .non => some true
    | .int _ => some false
    | .bl _ => some false
    | .str _ => some false
    | _ => none
  | _ => none
def eqD (M : Z1) (x y : D) (Q : Bool → Prop) : Prop := match eqS x y with
  | some b => Q b
  | none => (∃ da db, PD M da x ∧ PD M db y ∧ da.canLay0 = true ∧ db.canLay0 = true ∧ min da.depth db.depth ≤ 60 ∧ Q (PyData.eqv da db)) ∨
      ∃ m n a b, x = .ref m ∧ y = .ref n ∧ Y4 M m = some a ∧ Y4 M n = some b ∧ (a.all fun kv => Y5 kv.2) = true ∧ (b.all fun kv => Y5 kv.2) = true ∧ Q (eqKV a b)
noncomputable def Cj (M : Z1) : D → Option (List D)
  | .ref n => Z7 M n
  | .tup xs => some xs
  | .gtup xs => some xs
  | _ => none
def inQ (M : Z1) : D → D → (Bool → Prop) → Prop
  | .str a, .str b, Q => Q (!(Builtin.Str.occurrences b a 0 b.length 1).isEmpty)
  | x, .ref n, Q => (∃ xs, Z7 M n = some xs ∧ Y5 x = true ∧ xs.all Y5 = true ∧ Q (inD x xs)) ∨ (∃ kvs k, Y4 M n = some kvs ∧ keyD x = some k ∧ Q (valD kvs k).isSome)
  | x, .tup xs, Q => Y5 x = true ∧ xs.all Y5 = true ∧ Q (inD x xs)
  | x, .gtup xs, Q => Y5 x = true ∧ xs.all Y5 = true ∧ Q (inD x xs)
  | _, _, _ => False
def nonD (x y : D) (Q : Bool → Prop) : Prop := match y with
  | .non => match x with
    | .non => Q true
    | .bl _ => Q false
    | .int _ => Q false
    | .str _ => Q false
    | .tup _ => Q false
    | .ref _ => Q false
    | .exn _ _ _ _ => Q false
    | _ => False
  | _ => False
def cmD (M : Z1) (op : Cm) (x y : D) (Q : Bool → Prop) : Prop := match op with
  | .lt => Pw x y fun i j => Q (decide (i < j))
  | .gt => Pw x y fun i j => Q (decide (j < i))
  | .eq => eqD M x y Q
  | .ne => eqD M x y fun b => Q (!b)
  | .is => nonD x y Q
  | .notin => inQ M x y fun b => Q (!b)
def truD (M : Z1) : D → (Bool → Prop) → Prop
  | .non, Q => Q false
  | .bl b, Q => Q b
  | .int i, Q => Q (i != 0)
  | .str x, Q => x.length ≤ sizeLine ∧ Q ((x.length : Int) != 0)
  | .tup xs, Q => Q (!xs.isEmpty)
  | .ref n, Q => (∃ xs, Z7 M n = some xs ∧ Q (!xs.isEmpty)) ∨ (∃ xs, Y4 M n = some xs ∧ Q (!xs.isEmpty))
  | _, _ => False
def ixD (M : Z1) : D → D → (D → Prop) → Prop
  | .ref n, k, Q => (∃ xs i d, k = .int i ∧ Z7 M n = some xs ∧ atI xs i = some d ∧ Q d) ∨ (∃ kvs y d, Y4 M n = some kvs ∧ keyD k = some y ∧ valD kvs y = some d ∧ Q d)
  | .tup xs, .int i, Q => ∃ d, atI xs i = some d ∧ Q d
  | .gtup xs, .int i, Q => ∃ d, atI xs i = some d ∧ Q d
  | .str z, .int i, Q => z.length ≤ sizeLine ∧ ∃ c, atI z.cps.toList i = some c ∧ Q (.str ⟨#[c]⟩)
  | _, _, _ => False
noncomputable def cutD {α : Type} (xs : List α) (lo hi : Option Int) : List α := (xs.drop (HT.sIx xs.length 0 lo)).take (HT.sIx xs.length xs.length hi - HT.sIx xs.length 0 lo)
def slD : D → Option Int → Option Int → Z1 → DK → Prop
  | .str z, lo, hi, M, Q => z.length ≤ sizeLine ∧ Q (.str (Txt.slice z lo hi)) M
  | .ref n, lo, hi, M, Q => ∃ xs, Z7 M n = some xs ∧ Q (.ref M.length) (M ++ [.lst (cutD xs lo hi)])
  | .tup xs, lo, hi, M, Q => ¬ (HT.sIx xs.length 0 lo = 0 ∧ HT.sIx xs.length xs.length hi = xs.length) ∧ Q (.tup (cutD xs lo hi)) M
  | _, _, _, _, _ => False
noncomputable def tyD (M : Z1) : D → Option String
  | .non => some "NoneType"
  | .bl _ => some "bool"
  | .int _ => some "int"
  | .str _ => some "str"
  | .tup _ => some "tuple"
  | .ref n => match M[n]? with
    | some (.lst _) => some "list"
    | some (.frz _) => none
    | some (.dct _) => some "dict"
    | some (.fdc _) => none
    | none => none
  | _ => none
def isD (K : PySem.W.Frag) (M : Z1) : D → D → (Bool → Prop) → Prop
  | .exn _ C _ _, .cls c, Q => ∃ b, ExcIs K C ∧ PySem.W.kitOne K (.ref C) (.ref c) = some b ∧ Q b
  | .exn _ C _ _, .ty c, Q => ∃ b, ExcIs K C ∧ PySem.W.kitOne K (.ref C) (.type c) = some b ∧ Q b
  | .exn _ C _ _, .tup cs, Q => ∃ (as : List Addr) (b : Bool), cs = as.map D.cls ∧ ExcIs K C ∧ PySem.W.kitAny K (.ref C) (as.map Value.ref) = some b ∧ Q b
  | d, .ty c, Q => ∃ t b, tyD M d = some t ∧ PySem.W.kitOne K (.type t) (.type c) = some b ∧ Q b
  | _, _, _ => False
def lenD (x : D) (M : Z1) (Q : DK) : Prop := match x with
  | .ref n => (∃ xs, Z7 M n = some xs ∧ Q (.int xs.length) M) ∨ (∃ xs, Y4 M n = some xs ∧ Q (.int xs.length) M)
  | .tup xs => Q (.int xs.length) M
  | .str x => x.length ≤ sizeLine ∧ Q (.int x.length) M
  | _ => False
def bfD (K : PySem.W.Frag) (b : Bf) (l : List D) (M : Z1) (Q : DK) : Prop := match b with
  | .len => at1 l fun x => lenD x M Q
  | .isinst => at2 l fun d c => isD K M d c fun b => Q (.bl b) M
  | .min2 => at2 l fun x y => Pw x y fun i j => Q (.int (if j < i then j else i)) M
  | .max2 => at2 l fun x y => Pw x y fun i j => Q (.int (if j > i then j else i)) M
  | .list1 => at1 l fun d => ∃ xs, Cj M d = some xs ∧ Q (.ref M.length) (M ++ [.lst xs])
  | .tuple1 => at1 l fun x => J1 x fun n => ∃ xs, Z7 M n = some xs ∧ Q (.tup xs) M
  | .dict1 => at1 l fun x => J1 x fun n => (∃ xs, Y4 M n = some xs ∧ Q (.ref M.length) (M ++ [.dct xs])) ∨ (∃ ps : List (Key × D), Z7 M n = some (Xq ps) ∧ ps.length < sizeLine ∧ Q (.ref M.length) (M ++ [.dct (Vq ps)]))
def mtD (m : Mt) (o : D) (l : List D) (M : Z1) (Q : DK) : Prop := J1 o fun n => match m with
  | .append => at1 l fun d => ∃ xs, Za M n = some xs ∧ xs.length < sizeLine ∧ Q .non (M.set n (.lst (xs ++ [d])))
  | .get2 => at2 l fun k z => ∃ kvs y, Y4 M n = some kvs ∧ keyD k = some y ∧ Q ((valD kvs y).getD z) M
  | .pop0 => at0 l (∃ xs d, Za M n = some xs ∧ xs[xs.length - 1]? = some d ∧ Q d (M.set n (.lst xs.dropLast)))
  | .reverse => at0 l (∃ xs, Za M n = some xs ∧ Q .non (M.set n (.lst xs.reverse)))
  | .index1 => at1 l fun d => ∃ xs k z, Z7 M n = some xs ∧ Y5 d = true ∧ xs.all Y5 = true ∧ xs[k]? = some z ∧ eqF z d = true ∧ (∀ (j : Nat) u, j < k → xs[j]? = some u → eqF u d = false) ∧ Q (.int k) M
  | .extend => at1 l fun t => J1 t fun m => ∃ xs ys, Za M n = some xs ∧ Za M m = some ys ∧ xs.length + ys.length ≤ sizeLine ∧ Q .non (M.set n (.lst (xs ++ ys)))
def mtK (m : Mt) (o : D) (M : Z1) : Prop := J1 o fun n => match m with
  | .get2 => (Y4 M n).isSome = true
  | _ => (Z7 M n).isSome = true
def fldD (K : PySem.W.Frag) : D → Str → (D → Prop) → Prop
  | .exn _ C _ row, f, Q => f = "row" ∧ ExcGet K C f ∧ Q row
  | _, _, _ => False
def tgD : List Nat → D → DEnv → (DEnv → Prop) → Prop
  | [i], d, σ, Q => Q (σ.set i (some d))
  | is, .tup ds, σ, Q => ds.length = is.length ∧ Q ((is.zip ds).foldl (fun σ p => σ.set p.1 (some p.2)) σ)
  | _, _, _, _ => False
inductive Own where
  | no | lst (n : Nat) | enm (n : Nat) | dct (n : Nat)
noncomputable def Q2 (kvs : List (Key × D)) : List D := kvs.map fun p => kD p.1
def Zv4 (n : Nat) (M : Z1) (Q : Z1 → Prop) : Prop := ∃ kvs, M[n]? = some (.fdc kvs) ∧ Q (M.set n (.dct kvs))
noncomputable def Zo8 (n : Nat) (R : DEnds) : DEnds := { nx := fun σ M => Zv4 n M (R.nx σ), rt := fun d M => Zv4 n M (R.rt d), bk := fun _ _ => False, ct := fun _ _ => False }
noncomputable def Pn (xs : List D) : List D := xs.mapIdx fun i d => .tup [.int i, d]
def itD (M : Z1) : D → (Own → List D → Prop) → Prop
  | .ref n, R => ∃ xs, Z7 M n = some xs ∧ R (.lst n) xs
  | .tup xs, R => R .no xs
  | .gtup xs, R => R .no xs
  | _, _ => False
noncomputable def Se (lo : Int) (n : Nat) : List D := (List.range n).map fun (k : Nat) => D.int (lo + (k : Int))
def Qz (own : Own) (xs : List D) (M : Z1) : Prop := match own with
  | .lst n => Z7 M n = some xs
  | .enm n => ∃ ys, Z7 M n = some ys ∧ xs = Pn ys
  | .dct n => ∃ kvs, M[n]? = some (.fdc kvs) ∧ xs = Q2 kvs
  | .no => True
def forD (own : Own) (xs : List D) (tg : List Nat) (body : DS) : List D → DEnds → DEnv → Z1 → Prop
  | [], R, σ, M => Qz own xs M ∧ R.nx σ M
  | d :: r, R, σ, M => Qz own xs M ∧ tgD tg d σ fun σ' => body { nx := fun σ2 M2 => forD own xs tg body r R σ2 M2, rt := R.rt, bk := R.nx, ct := fun σ2 M2 => forD own xs tg body r R σ2 M2 } σ' M
def Ph (own : Own) (xs : List D) (tg : List Nat) (cd : DT) (el : DE) (z : Nat) : List D → DEnv → Z1 → (Z1 → Prop) → Prop
  | [], _, M, Q => Qz own xs M ∧ Q M
  | d :: r, σ, M, Q => Qz own xs M ∧ tgD tg d σ fun σ' => cd σ' M fun b M1 => if b = true then
      el σ' M1 fun y M2 => ∃ acc, Za M2 z = some acc ∧ acc.length < sizeLine ∧ Ph own xs tg cd el z r σ' (M2.set z (.lst (acc ++ [y]))) Q
      else Ph own xs tg cd el z r σ' M1 Q
noncomputable def capD (js : List (Option Nat)) (σ : DEnv) : DEnv := js.map fun o => o.bind fun j => (σ[j]?).join
abbrev noX : DX := fun _ _ _ => False
structure Cfg where
  K : PySem.W.Frag
  Γ : List DSp
  G : List D
mutual
def te (c : Cfg) (X : DX) : E → DE
  | .var i, σ, M, Q => match σ[i]? with
    | some (some d) => Q d M
    | _ => False
  | .int i, _, M, Q => Q (.int i) M
  | .bl b, _, M, Q => Q (.bl b) M
  | .non, _, M, Q => Q .non M
  | .str x, _, M, Q => Q (.str x) M
  | .ty n, _, M, Q => Q (.ty (X9 n)) M
  | .glb k, _, M, Q => match c.G[k]? with
    | some d => Q d M
    | none => False
  | .bin op a b, σ, M, Q => te c X a σ M fun x M1 => te c X b σ M1 fun y M2 => opD op x y M2 Q
  | .neg a, σ, M, Q => te c X a σ M fun x M1 => match x with
    | .int i => Q (.int (-i)) M1
    | _ => False
  | .not a, σ, M, Q => te c X a σ M fun x M1 => truD M1 x fun b => Q (.bl (!b)) M1
  | .cmp op a b, σ, M, Q => te c X a σ M fun x M1 => te c X b σ M1 fun y M2 => cmD M2 op x y fun r => Q (.bl r) M2
  | .bop k es, σ, M, Q => tbop c X k es σ M Q
  | .ife t a b, σ, M, Q => te c X t σ M fun x M1 => truD M1 x fun r => if r = true then te c X a σ M1 Q else te c X b σ M1 Q
  | .lst es, σ, M, Q => tes c X es σ M fun ds M1 => ds.length ≤ sizeLine ∧ Q (.ref M1.length) (M1 ++ [.lst ds])
  | .tup es, σ, M, Q => tes c X es σ M fun ds M1 => ds.length ≤ sizeLine ∧ Q (.tup ds) M1
  | .dict0, _, M, Q => Q (.ref M.length) (M ++ [.dct []])
  | .ix a b, σ, M, Q => te c X a σ M fun x M1 => te c X b σ M1 fun y M2 => ixD M2 x y fun d => Q d M2
  | .sl a lo hi, σ, M, Q => te c X a σ M fun x M1 => teo c X lo σ M1 fun l M2 => teo c X hi σ M2 fun h M3 => slD x l h M3 Q
  | .call f es, σ, M, Q => tes c X es σ M fun ds M1 => match c.Γ[f]? with
    | some sp => sp ds M1 Q X
    | none => False
  | .bf b es, σ, M, Q => tes c X es σ M fun ds M1 => bfD c.K b ds M1 Q
  | .rev a, σ, M, Q => te c X a σ M fun x M1 => match x with
    | .ref n => ∃ xs, Z7 M1 n = some xs ∧ Q (.ref M1.length) (M1 ++ [.lst xs.reverse])
    | _ => False
  | .mt m o es, σ, M, Q => te c X o σ M fun x M1 => mtK m x M1 ∧ tes c X es σ M1 fun ds M2 => mtD m x ds M2 Q
  | .fld o f, σ, M, Q => te c X o σ M fun x M1 => fldD c.K x f fun d => Q d M1
  | .comp _ js tg it cd e, σ, M, Q => tit c X it σ M fun own xs M1 => Ph own xs tg (tcd c noX cd) (te c noX e) M1.length xs (capD js σ) (M1 ++ [.lst []]) fun M2 => Q (.ref M1.length) M2
def tbop (c : Cfg) (X : DX) (k : Bool) : Es → DE
  | .nil, _, _, _ => False
  | .cons e .nil, σ, M, Q => te c X e σ M Q
  | .cons e (.cons e2 r), σ, M, Q => te c X e σ M fun x M1 => truD M1 x fun b => if b = k then tbop c X k (.cons e2 r) σ M1 Q else Q x M1
def tes (c : Cfg) (X : DX) : Es → DA
  | .nil, _, M, Q => Q [] M
  | .cons e r, σ, M, Q => te c X e σ M fun d M1 => tes c X r σ M1 fun ds M2 => Q (d :: ds) M2
def teo (c : Cfg) (X : DX) : Eo → DEnv → Z1 → (Option Int → Z1 → Prop) → Prop
  | .no, _, M, Q => Q none M
  | .yes e, σ, M, Q => te c X e σ M fun d M1 => match d with
    | .int i => Q (some i) M1
    | _ => False
def tcd (c : Cfg) (X : DX) : Eo → DT
  | .no, _, M, Q => Q true M
  | .yes e, σ, M, Q => te c X e σ M fun x M1 => truD M1 x fun b => Q b M1
def tit (c : Cfg) (X : DX) : It → DEnv → Z1 → (Own → List D → Z1 → Prop) → Prop
  | .seq e, σ, M, Q => te c X e σ M fun d M1 => itD M1 d fun own xs => Q own xs M1
  | .rng1 a, σ, M, Q => te c X a σ M fun d M1 => match d with
    | .int j => -(2 ^ 62) ≤ j ∧ j < 2 ^ 62 ∧ Q .no (Se 0 j.toNat) M1
    | _ => False
  | .rng2 a b, σ, M, Q => te c X a σ M fun d M1 => te c X b σ M1 fun d2 M2 => match d, d2 with
    | .int i, .int j => (-(2 ^ 62) ≤ i ∧ i < 2 ^ 62 ∧ -(2 ^ 62) ≤ j ∧ j < 2 ^ 62) ∧ Q .no (Se i (j - i).toNat) M2
    | _, _ => False
  | .enm e, σ, M, Q => te c X e σ M fun d M1 => match d with
    | .ref n => ∃ xs, Z7 M1 n = some xs ∧ Q (.enm n) (Pn xs) M1
    | _ => False
end
def augD : Op → D → D → (D → Prop) → Prop
  | .add, .int i, .int j, Q => Q (.int (i + j))
  | .sub, .int i, .int j, Q => Q (.int (i - j))
  | _, _, _, _ => False
def tt (c : Cfg) (X : DX) (e : E) : DT := fun σ M Q => te c X e σ M fun x M1 => truD M1 x fun b => Q b M1
mutual
def ts (c : Cfg) (X : DX) : S → DS
  | .never, _, _, _ => False
  | .ret e, R, σ, M => te c X e σ M R.rt
  | .expr e, R, σ, M => te c X e σ M fun _ M1 => R.nx σ M1
  | .set tg e, R, σ, M => te c X e σ M fun d M1 => tgD tg d σ fun σ' => R.nx σ' M1
  | .aug op j e, R, σ, M => match σ[j]? with
    | some (some x) => te c X e σ M fun y M1 => augD op x y fun z => R.nx (σ.set j (some z)) M1
    | _ => False
  | .put o i v, R, σ, M => te c X v σ M fun d M1 => te c X o σ M1 fun x M2 => te c X i σ M2 fun y M3 => match x with
    | .ref n => (∃ xs k j, y = .int k ∧ Za M3 n = some xs ∧ ixN xs.length k = some j ∧ R.nx σ (M3.set n (.lst (xs.set j d)))) ∨
        (∃ kvs k, Y4 M3 n = some kvs ∧ keyD y = some k ∧ kvs.length < sizeLine ∧ R.nx σ (M3.set n (.dct (putD kvs k d))))
    | _ => False
  | .ite t a b, R, σ, M => tt c X t σ M fun r M1 => if r = true then tss c X a R σ M1 else tss c X b R σ M1
  | .for_ tg it b, R, σ, M => tit c X it σ M fun own xs M1 => forD own xs tg (tss c X b) xs R σ M1
  | .forK tg e b, R, σ, M => te c X e σ M fun d M1 => match d with
    | .ref n => ∃ kvs, Y4 M1 n = some kvs ∧ forD (.dct n) (Q2 kvs) tg (tss c X b) (Q2 kvs) (Zo8 n R) σ (M1.set n (.fdc kvs))
    | _ => False
  | .while_ t b, R, σ, M => ∃ W : Nat → DEnv → Z1 → Prop, (∃ m, W m σ M) ∧ ∀ m σ M, W m σ M → tt c X t σ M fun r M1 => if r = true then
      tss c X b { nx := fun σ2 M2 => ∃ m', m' < m ∧ W m' σ2 M2, rt := R.rt, bk := R.nx, ct := fun σ2 M2 => ∃ m', m' < m ∧ W m' σ2 M2 } σ M1 else R.nx σ M1
def tss (c : Cfg) (X : DX) : Ss → DS
  | .nil, R, σ, M => R.nx σ M
  | .cons s r, R, σ, M => ts c X s { R with nx := fun σ' M' => tss c X r R σ' M' } σ M
end
def REnv (w : Vw) (σD : DEnv) (σ : L2.St) : Prop := σD.length = σ.length ∧ ∀ (i : Nat) d, σD[i]? = some (some d) → ∃ v, σ[i]? = some (some v) ∧ RD w d v
theorem REnv.ext {w w' : Vw} {σD : DEnv} {σ : L2.St} (h : REnv w σD σ) (x : Ext w w') : REnv w' σD σ :=
  ⟨h.1, fun i d e => by obtain ⟨v, q, r⟩ := h.2 i d e; exact ⟨v, q, r.ext x⟩⟩
theorem REnv.set {w : Vw} {σD : DEnv} {σ : L2.St} {d : D} {v : V} (h : REnv w σD σ) (i : Nat) (r : RD w d v) : REnv w (σD.set i (some d)) (σ.set i (some v)) := by
  refine ⟨by simp [h.1], fun j d' e => ?_⟩
  by_cases hj : i = j
  · subst hj
    by_cases hl : i < σD.length
    · rw [List.getElem?_set_self hl] at e
      cases e
      exact ⟨v, by rw [List.getElem?_set_self (by rw [← h.1]; exact hl)], r⟩
    · rw [List.getElem?_eq_none (by simp; omega)] at e
      cases e
  · rw [List.getElem?_set_ne hj] at e
    rw [List.getElem?_set_ne hj]
    exact h.2 j d' e
structure StOk (w0 w : Vw) (σD : DEnv) (M : Z1) (σ : L2.St) (H : Hp) : Prop where
  heap : w.H = H
  ext : Ext w0 w
  rs : RS w M
  env : REnv w σD σ
theorem StOk.next {w0 w w' : Vw} {σD : DEnv} {M M' : Z1} {σ : L2.St} {H : Hp} (s : StOk w0 w σD M σ H) (x : Ext w w') (r : RS w' M') : StOk w0 w' σD M' σ w'.H :=
  ⟨rfl, s.ext.trans x, r, s.env.ext x⟩
def Aft (w : Vw) (QD : DK) (Q : VK) : Prop := ∀ v w' d M', Ext w w' → RS w' M' → RD w' d v → QD d M' → Q v w'.H
def tF (w0 : Vw) (f : DE) : TE := fun σ H Q => ∃ w σD M QD, StOk w0 w σD M σ H ∧ f σD M QD ∧ Aft w QD Q
def tFA (w0 : Vw) (f : DA) : TA := fun σ H Q => ∃ w σD M QD, StOk w0 w σD M σ H ∧ f σD M QD ∧ ∀ vs w' ds M', Ext w w' → RS w' M' → RDs w' ds vs → QD ds M' → Q vs w'.H
def tFT (w0 : Vw) (f : DT) : TT := fun σ H Q => ∃ w σD M QD, StOk w0 w σD M σ H ∧ f σD M QD ∧ ∀ b w' M', Ext w w' → RS w' M' → QD b M' → Q b w'.H
def tFO (w0 : Vw) (f : DEnv → Z1 → (Option Int → Z1 → Prop) → Prop) : TO := fun σ H Q => ∃ w σD M QD, StOk w0 w σD M σ H ∧ f σD M QD ∧ ∀ b w' M', Ext w w' → RS w' M' → QD b M' → Q b w'.H
def tFS (w0 : Vw) (f : DS) : TS := fun R σ H => ∃ w σD M RD', StOk w0 w σD M σ H ∧ f RD' σD M ∧
  (∀ σ' w' σD' M', Ext w w' → RS w' M' → REnv w' σD' σ' → RD'.nx σD' M' → R.nx σ' w'.H) ∧ Aft w RD'.rt R.rt ∧
  (∀ σ' w' σD' M', Ext w w' → RS w' M' → REnv w' σD' σ' → RD'.bk σD' M' → R.bk σ' w'.H) ∧
  (∀ σ' w' σD' M', Ext w w' → RS w' M' → REnv w' σD' σ' → RD'.ct σD' M' → R.ct σ' w'.H)
def xkOf (w : Vw) (Z : DX) : XK := fun cls dd H' => ∃ C dx r w' row M', cls = .ref C ∧ dd = some dx ∧ w'.H = H' ∧ Ext w w' ∧ RS w' M' ∧ H' dx = some (.xd [("row", r)]) ∧ RD w' row r ∧ Z C row M'
def spF (K : PySem.W.Frag) (sp : DSp) : Sp := fun vs H Q E => ∃ w ds M QD Z, w.K = K ∧ w.H = H ∧ RS w M ∧ RDs w ds vs ∧ sp ds M QD Z ∧ Aft w QD Q ∧ ∀ cls dd H', xkOf w Z cls dd H' → E cls dd H'
theorem Aft.ext {w w' : Vw} {QD : DK} {Q : VK} (h : Aft w QD Q) (x : Ext w w') : Aft w' QD Q := fun v w2 d M y r q p => h v w2 d M (x.trans y) r q p
section
variable {X : Cx} {e : Expr} {w0 : Vw}
theorem PE.imp {t t' : TE} (h : PE X e t) (k : ∀ σ H Q, t' σ H Q → t σ H Q) : PE X e t' := fun pins s σ H Q I q => h pins s σ H Q I (k σ H Q q)
theorem PT.imp {t t' : TT} (h : PT X e t) (k : ∀ σ H Q, t' σ H Q → t σ H Q) : PT X e t' := fun pins s σ H Q I q => h pins s σ H Q I (k σ H Q q)
theorem PA.imp {es : List Expr} {t t' : TA} (h : PA X es t) (k : ∀ σ H Q, t' σ H Q → t σ H Q) : PA X es t' := fun pos pins s σ H Q I q => h pos pins s σ H Q I (k σ H Q q)
theorem PS.imp {st : Stmt} {t t' : TS} (h : PS X st t) (k : ∀ R σ H, t' R σ H → t R σ H) : PS X st t' := fun pins s σ H R I q => h pins s σ H R I (k R σ H q)
theorem PSs.imp {st : List Stmt} {t t' : TS} (h : PSs X st t) (k : ∀ R σ H, t' R σ H → t R σ H) : PSs X st t' := fun pins s σ H R I q => h pins s σ H R I (k R σ H q)
end
def rF (w0 : Vw) (g : D → D → Z1 → DK → Prop) : R2 := fun x y H Q => ∃ w M dx dy QD, w.H = H ∧ Ext w0 w ∧ RS w M ∧ RD w dx x ∧ RD w dy y ∧ g dx dy M QD ∧ Aft w QD Q
theorem Zc {w : Vw} {i : Int} {v : V} : RD w (.int i) v ↔ v = .int i := by unfold RD; exact Iff.rfl
theorem Yd {w : Vw} {i : Str} {v : V} : RD w (.str i) v ↔ v = .str i := by unfold RD; exact Iff.rfl
theorem Wd {w : Vw} {i : Bool} {v : V} : RD w (.bl i) v ↔ v = .bl i := by unfold RD; exact Iff.rfl
theorem Yk {w : Vw} {v : V} : RD w .non v ↔ v = .non := by unfold RD; exact Iff.rfl
theorem Zi2 {w : Vw} {n : String} {v : V} : RD w (.ty n) v ↔ v = .ty n := by unfold RD; exact Iff.rfl
theorem Ze0 {w : Vw} {n : Addr} {v : V} : RD w (.cls n) v ↔ v = .ref n := by unfold RD; exact Iff.rfl
theorem Zr {w : Vw} {i : Nat} {v : V} : RD w (.ref i) v ↔ i < w.n ∧ v = .ref (w.μ i) := by unfold RD; exact Iff.rfl
theorem Xj {w : Vw} {ds : List D} {v : V} : RD w (.tup ds) v ↔ ∃ a vs, v = .ref a ∧ w.H a = some (.tup vs) ∧ RDs w ds vs := by unfold RD; exact Iff.rfl
theorem Pm {w : Vw} {ds : List D} {v : V} : RD w (.gtup ds) v ↔ ∃ a vs, v = .ref a ∧ SqT w.K w.H a vs ∧ RDs w ds vs := by unfold RD; exact Iff.rfl
theorem Om {w : Vw} {e C dx : Addr} {row : D} {v : V} : RD w (.exn e C dx row) v ↔ v = .ref e ∧ w.H e = some (XO e (.ref C) (some dx)) ∧ ∃ r, w.H dx = some (.xd [("row", r)]) ∧ RD w row r := Iff.of_eq (by rw [RD])
theorem RDs.empty {w : Vw} {ds : List D} (h : RDs w ds []) : ds = [] := by
  have := h.length
  exact List.length_eq_zero_iff.mp this.symm
theorem Zm2 {M : Z1} {n : Nat} {xs : List D} (h : Za M n = some xs) : Z7 M n = some xs := by
  unfold Za at h
  unfold Z7
  split at h
  · rename_i e; rw [e]; exact h
  · cases h
theorem Pz {M : Z1} {n : Nat} {xs : List D} (h : Za M n = some xs) : M[n]? = some (.lst xs) := by
  unfold Za at h
  split at h
  · rename_i e; rw [e]; cases h; rfl
  · cases h
theorem G4 {M : Z1} {n : Nat} {xs : List (Key × D)} (h : Y4 M n = some xs) : M[n]? = some (.dct xs) := by
  unfold Y4 at h
  split at h
  · rename_i e; rw [e]; cases h; rfl
  · cases h
theorem RS.list {w : Vw} {M : Z1} {n : Nat} {xs : List D} (R : RS w M) (h : Za M n = some xs) : M[n]? = some (.lst xs) ∧ ∃ vs, w.H (w.μ n) = some (.lst vs) ∧ RDs w xs vs :=
  ⟨Pz h, R.cell n _ (Pz h)⟩
theorem RS.listL {w : Vw} {M : Z1} {n : Nat} {xs : List D} (R : RS w M) (h : Z7 M n = some xs) : n < w.n ∧ ∃ vs, SqL w.K w.H (w.μ n) vs ∧ RDs w xs vs ∧ True := by
  unfold Z7 at h
  split at h
  · rename_i ys e
    cases h
    obtain ⟨vs, q, r⟩ := R.cell n _ e
    exact ⟨by rw [R.len]; exact (List.getElem?_eq_some_iff.mp e).1, vs, .inl (.inl q), r, trivial⟩
  · rename_i ys e
    cases h
    obtain ⟨vs, q, r⟩ := R.cell n _ e
    exact ⟨by rw [R.len]; exact (List.getElem?_eq_some_iff.mp e).1, vs, q.sq, r, trivial⟩
  · cases h
theorem RS.dict {w : Vw} {M : Z1} {n : Nat} {xs : List (Key × D)} (R : RS w M) (h : Y4 M n = some xs) : M[n]? = some (.dct xs) ∧ ∃ vs, w.H (w.μ n) = some (.dK vs) ∧ RKV w xs vs :=
  ⟨G4 h, R.cell n _ (G4 h)⟩
theorem Wn {w : Vw} {M : Z1} {p : Addr} {xs : List D} {vs : List V} (R : RS w M) (hp : w.H p = none) (r : RDs w xs vs) : Ext w (w.push p (.lst vs)) ∧ RS (w.push p (.lst vs)) (M ++ [.lst xs]) ∧ RD (w.push p (.lst vs)) (.ref M.length) (.ref p) := by
  refine ⟨T5 hp, R.push hp ⟨vs, Yp, r.ext (T5 hp)⟩, Zr.mpr ⟨?_, ?_⟩⟩
  · show M.length < w.n + 1
    rw [R.len]; omega
  · show V.ref p = V.ref (if M.length = w.n then p else w.μ M.length)
    rw [if_pos R.len.symm]
theorem Pc {w : Vw} {M : Z1} {p : Addr} {xs : List (Key × D)} {vs : List (Key × V)} (R : RS w M) (hp : w.H p = none) (r : RKV w xs vs) : Ext w (w.push p (.dK vs)) ∧ RS (w.push p (.dK vs)) (M ++ [.dct xs]) ∧ RD (w.push p (.dK vs)) (.ref M.length) (.ref p) := by
  refine ⟨T5 hp, R.push hp ⟨vs, Yp, r.ext (T5 hp)⟩, Zr.mpr ⟨?_, ?_⟩⟩
  · show M.length < w.n + 1
    rw [R.len]; omega
  · show V.ref p = V.ref (if M.length = w.n then p else w.μ M.length)
    rw [if_pos R.len.symm]
theorem Rt {w : Vw} {M : Z1} {p : Addr} {xs : List D} {vs : List V} (R : RS w M) (hp : w.H p = none) (r : RDs w xs vs) : Ext w (w.alloc p (.tup vs)) ∧ RS (w.alloc p (.tup vs)) M ∧ RD (w.alloc p (.tup vs)) (.tup xs) (.ref p) :=
  ⟨Ri hp, R.alloc hp, Xj.mpr ⟨p, vs, rfl, Yp, r.ext (Ri hp)⟩⟩
theorem Xn {w : Vw} {M : Z1} {n : Nat} {us vs : List V} {ys xs : List D} (R : RS w M) (hn : M[n]? = some (.lst ys)) (h : w.H (w.μ n) = some (.lst us)) (r : RDs w xs vs) : Ext w (w.alloc (w.μ n) (.lst vs)) ∧ RS (w.alloc (w.μ n) (.lst vs)) (M.set n (.lst xs)) :=
  ⟨Wb h rfl, R.write hn rfl rfl h rfl ⟨vs, Yp, r.ext (Wb h rfl)⟩⟩
theorem Fu {w : Vw} {M : Z1} {n : Nat} {us vs : List (Key × V)} {ys xs : List (Key × D)} (R : RS w M) (hn : M[n]? = some (.dct ys)) (h : w.H (w.μ n) = some (.dK us)) (r : RKV w xs vs) : Ext w (w.alloc (w.μ n) (.dK vs)) ∧ RS (w.alloc (w.μ n) (.dK vs)) (M.set n (.dct xs)) :=
  ⟨Wb h rfl, R.write hn rfl rfl h rfl ⟨vs, Yp, r.ext (Wb h rfl)⟩⟩
section
variable {X : Cx} {w0 : Vw}
theorem Tf {f : Value → Value → Sem Value} {g : Int → Int → V} {o : D → D → Z1 → DK → Prop} {C : Int → Int → Prop} {k : Int → Int → D} (h : OpR X f (rI C g)) (hk : ∀ w i j, RD w (k i j) (g i j))
    {pins : List (Addr × Obj)} {s : Shared} {σ : L2.St} {x y : V} {v u : Value} {Q : VK} {w : Vw} {M : Z1} {QD : DK} {i j : Int} (I : Inv X pins σ w.H s) (rx : RelV x v) (ry : RelV y u) (R : RS w M) (hx : RD w (.int i) x) (hy : RD w (.int j) y)
    (hc : C i j) (q : QD (k i j) M) (a : Aft w QD Q) : wpAny (model X.prog X.w) X.A (f v u) (EP X pins σ Q) X.xe s := by
  cases Zc.mp hx
  cases Zc.mp hy
  exact h pins s σ w.H _ _ v u Q I rx ry ⟨i, j, rfl, rfl, hc, a _ w _ M (Ext.refl w) R (hk w i j) q⟩
noncomputable def opOf : Op → Operator
  | .add => .Add | .sub => .Sub | .mul => .Mult | .fdiv => .FloorDiv | .mod => .Mod | .pow => .Pow
theorem Zr7 {f : Value → Value → Sem Value} {g : Int → Int → V} (h : OpR X f (rI0 g)) : OpR X f (rI (fun _ _ => True) g) := fun pins s σ H x y v u Q I rx ry zz61 => by obtain ⟨i, j, e1, e2, _, q⟩ := zz61; exact h pins s σ H x y v u Q I rx ry ⟨i, j, e1, e2, q⟩
theorem RDs.rep {w : Vw} {xs : List D} {vs : List V} (h : RDs w xs vs) : ∀ n : Nat, RDs w (List.replicate n xs).flatten (List.replicate n vs).flatten
  | 0 => RDs.nil w
  | n + 1 => by
    rw [List.replicate_succ, List.replicate_succ, List.flatten_cons, List.flatten_cons]
    exact h.append (RDs.rep h n)
theorem Z92 (op : Op) : OpR X (binaryOp (opOf op)) (rF w0 (opD op)) := by
  intro pins s σ H x y v u Q I rx ry h
  obtain ⟨w, M, dx, dy, QD, rfl, e0, R, hx, hy, g, a⟩ := h
  have ri : ∀ w (i : Int), RD w (.int i) (.int i) := fun w i => Zc.mpr rfl
  cases op with
  | add =>
    cases dx with
    | int i =>
      obtain ⟨j, rfl, g2⟩ := Ww g; clear g; have g := g2
      exact Tf (o := opD .add) (C := fun _ _ => True) (k := fun i j => .int (i + j)) (Zr7 Zu2) (fun w i j => ri w _) I rx ry R hx hy trivial g a
    | str z =>
      cases dy with
      | str z2 =>
        cases Yd.mp hx; cases Yd.mp hy
        exact Eh pins s σ w.H _ _ v u Q I rx ry ⟨_, _, rfl, rfl, g.1, a _ w _ M (Ext.refl w) R (Yd.mpr rfl) g.2⟩
      | _ => exact False.elim g
    | tup l =>
      obtain ⟨l2, rfl, g2⟩ := Z43 g; clear g; have g := g2
      obtain ⟨a1, vs1, rfl, h1, r1⟩ := Xj.mp hx
      obtain ⟨a2, vs2, rfl, h2, r2⟩ := Xj.mp hy
      obtain ⟨g1, g2, g3⟩ := g
      refine Zn0 pins s σ w.H _ _ v u Q I rx ry ⟨a1, a2, vs1, vs2, rfl, rfl, .of h1, .of h2, ?_, by rw [r1.length, r2.length]; exact g2, fun z => ?_, fun _ p hp => ?_⟩
      · intro z; subst z; have := r1.length; simp at this; exact g1 (List.length_eq_zero_iff.mp this.symm)
      · subst z
        cases r2.empty
        rw [List.append_nil] at g3
        exact a _ w _ M (Ext.refl w) R hx g3
      · obtain ⟨x1, x2, x3⟩ := Rt R hp (r1.append r2)
        exact a _ _ _ M x1 x2 x3 g3
    | ref n =>
      obtain ⟨n2, rfl, g2⟩ := Wj g; clear g; have g := g2
      obtain ⟨h1, rfl⟩ := Zr.mp hx
      obtain ⟨h2, rfl⟩ := Zr.mp hy
      obtain ⟨xs, ys, g1, g2, g3, g4⟩ := g
      obtain ⟨_, vs1, q1, r1⟩ := R.list g1
      obtain ⟨_, vs2, q2, r2⟩ := R.list g2
      refine Zr0 pins s σ w.H _ _ v u Q I rx ry ⟨_, _, vs1, vs2, rfl, rfl, q1, q2, by rw [r1.length, r2.length]; exact g3, fun p hp => ?_⟩
      obtain ⟨x1, x2, x3⟩ := Wn R hp (r1.append r2)
      exact a _ _ _ _ x1 x2 x3 g4
    | _ => exact False.elim g
  | mul =>
    cases dx with
    | int i =>
      obtain ⟨j, rfl, g2⟩ := Ww g; clear g; have g := g2
      exact Tf (o := opD .add) (C := IntMulOk) (k := fun i j => .int (i * j)) Zg7 (fun w i j => ri w _) I rx ry R hx hy g.1 g.2 a
    | ref n =>
      obtain ⟨k, rfl, g2⟩ := Ww g; clear g; have g := g2
      obtain ⟨h1, rfl⟩ := Zr.mp hx
      cases Zc.mp hy
      obtain ⟨xs, g1, g2, g3, g4, g5⟩ := g
      obtain ⟨_, vs1, q1, r1⟩ := R.list g1
      refine Zu0 pins s σ w.H _ _ v u Q I rx ry ⟨_, _, vs1, rfl, rfl, q1, by omega, by omega, by rw [r1.length]; exact g4, fun p hp => ?_⟩
      obtain ⟨x1, x2, x3⟩ := Wn R hp (r1.rep _)
      exact a _ _ _ _ x1 x2 x3 g5
    | _ => exact False.elim g
  | sub =>
    obtain ⟨i, j, rfl, rfl, g2⟩ := Xc g; clear g; have g := g2
    exact Tf (o := opD .add) (C := fun _ _ => True) (k := fun i j => .int (i - j)) (Zr7 Zt3) (fun w i j => ri w _) I rx ry R hx hy trivial g a
  | fdiv =>
    obtain ⟨i, j, rfl, rfl, g2⟩ := Xc g; clear g; have g := g2
    exact Tf (o := opD .add) (C := Bv) (k := fun i j => .int (qdiv i j)) Z60 (fun w i j => by rw [Zk9]; exact ri w _) I rx ry R hx hy g.1 g.2 a
  | mod =>
    obtain ⟨i, j, rfl, rfl, g2⟩ := Xc g; clear g; have g := g2
    exact Tf (o := opD .add) (C := fun _ j => j ≠ 0) (k := fun i j => .int (qmod i j)) Zi8 (fun w i j => by rw [Zo0]; exact ri w _) I rx ry R hx hy g.1 g.2 a
  | pow =>
    obtain ⟨i, j, rfl, rfl, g2⟩ := Xc g; clear g; have g := g2
    exact Tf (o := opD .add) (C := CPow) (k := fun i j => .int (i ^ j.toNat)) Zu4 (fun w i j => ri w _) I rx ry R hx hy g.1 g.2 a
end
def rB (w0 : Vw) (g : Z1 → D → D → (Bool → Prop) → Prop) : R2 := fun x y H Q => ∃ w M dx dy QD, w.H = H ∧ w.K = w0.K ∧ RS w M ∧ RD w dx x ∧ RD w dy y ∧ g M dx dy QD ∧ ∀ b, QD b → Q (.bl b) H
mutual
theorem C9 {w : Vw} {M : Z1} (R : RS w M) : ∀ (da : PyData) {d : D} {v : V}, PD M da d → RD w d v → Rep w.K w.H da v
  | .none, d, v, h, r => by unfold PD at h; subst h; unfold Rep; exact Yk.mp r
  | .bool b, d, v, h, r => by unfold PD at h; subst h; unfold Rep; exact Wd.mp r
  | .int b, d, v, h, r => by unfold PD at h; subst h; unfold Rep; exact Zc.mp r
  | .str b, d, v, h, r => by unfold PD at h; subst h; unfold Rep; exact Yd.mp r
  | .list xs, d, v, h, r => by
    unfold PD at h
    obtain ⟨n, ds, rfl, h1, h2⟩ := h
    obtain ⟨_, rfl⟩ := Zr.mp r
    obtain ⟨_, vs, q1, q2, _⟩ := R.listL h1
    unfold Rep
    exact ⟨_, vs, rfl, q1, Sw R xs h2 q2⟩
  | .tuple xs, d, v, h, r => by
    unfold PD at h
    obtain ⟨ds, rfl, h2⟩ := h
    obtain ⟨a, vs, rfl, q1, q2⟩ := Xj.mp r
    unfold Rep
    exact ⟨_, vs, rfl, .of q1, Sw R xs h2 q2⟩
  | .dict _, d, v, h, r => by unfold PD at h; exact h.elim
theorem Sw {w : Vw} {M : Z1} (R : RS w M) : ∀ (xs : List PyData) {ds : List D} {vs : List V}, PDs M xs ds → RDs w ds vs → Wl w.K w.H xs vs
  | [], ds, vs, h, r => by unfold PDs at h; subst h; unfold RDs at r; unfold Wl; exact r
  | x :: xs, ds, vs, h, r => by
    unfold PDs at h
    obtain ⟨d, r', rfl, h1, h2⟩ := h
    unfold RDs at r
    obtain ⟨v, r2, rfl, q1, q2⟩ := r
    unfold Wl
    exact ⟨v, r2, rfl, C9 R x h1 q1, Sw R xs h2 q2⟩
end
theorem Vd {w : Vw} {d : D} {v : V} (f : Y5 d = true) (r : RD w d v) : Tq v = true := by
  cases d <;> simp [Y5] at f
  · cases Yk.mp r; rfl
  · cases Wd.mp r; rfl
  · cases Zc.mp r; rfl
  · cases Yd.mp r; rfl
theorem O1 {w : Vw} {d e : D} {v u : V} (f : Y5 d = true) (g : Y5 e = true) (r : RD w d v) (q : RD w e u) : eqV v u = eqF d e := by
  cases d <;> simp [Y5] at f
  all_goals (cases e <;> simp [Y5] at g)
  all_goals first
    | (first | cases Yk.mp r | cases Wd.mp r | cases Zc.mp r | cases Yd.mp r)
  all_goals first
    | (first | cases Yk.mp q | cases Wd.mp q | cases Zc.mp q | cases Yd.mp q)
  all_goals rfl
theorem Bz {w : Vw} {x : D} {v : V} (f : Y5 x = true) (r : RD w x v) : ∀ {ds : List D} {vs : List V}, ds.all Y5 = true → RDs w ds vs → inV v vs = inD x ds ∧ vs.all Tq = true
  | [], vs, _, h => by unfold RDs at h; subst h; exact ⟨rfl, rfl⟩
  | d :: ds, vs, g, h => by
    unfold RDs at h
    obtain ⟨v1, r1, rfl, h1, h2⟩ := h
    simp only [List.all_cons, Bool.and_eq_true] at g
    obtain ⟨i1, i2⟩ := Bz f r g.2 h2
    refine ⟨?_, by simp only [List.all_cons, Bool.and_eq_true]; exact ⟨Vd g.1 h1, i2⟩⟩
    unfold inV inD at *
    rw [List.any_cons, List.any_cons, O1 g.1 f h1 r, i1]
theorem RKV.val {w : Vw} : ∀ {ds : List (Key × D)} {vs : List (Key × V)} (k : Key), RKV w ds vs → (valD ds k = none ∧ valV vs k = none) ∨ ∃ d v, valD ds k = some d ∧ valV vs k = some v ∧ RD w d v
  | [], vs, k, h => by unfold RKV at h; subst h; exact .inl ⟨rfl, rfl⟩
  | (k', d) :: ds, vs, k, h => by
    unfold RKV at h
    obtain ⟨v, r, rfl, h1, h2⟩ := h
    by_cases e : k' = k
    · exact .inr ⟨d, v, by simp [valD, List.find?_cons, e], by simp [valV, List.find?_cons, e], h1⟩
    · have := RKV.val k h2
      simpa [valD, valV, List.find?_cons, e] using this
theorem RKV.length {w : Vw} : ∀ {ds : List (Key × D)} {vs : List (Key × V)}, RKV w ds vs → vs.length = ds.length
  | [], vs, h => by unfold RKV at h; subst h; rfl
  | (k', d) :: ds, vs, h => by
    unfold RKV at h
    obtain ⟨v, r, rfl, h1, h2⟩ := h
    simp [RKV.length h2]
theorem RKV.any {w : Vw} (k : Key) : ∀ {ds : List (Key × D)} {vs : List (Key × V)}, RKV w ds vs → (vs.any fun kv => decide (kv.1 = k)) = (ds.any fun kv => decide (kv.1 = k))
  | [], vs, h => by unfold RKV at h; subst h; rfl
  | (k', d) :: ds, vs, h => by
    unfold RKV at h
    obtain ⟨v, r, rfl, h1, h2⟩ := h
    simp [RKV.any k h2]
theorem RKV.repl {w : Vw} {k : Key} {d : D} {v : V} (q : RD w d v) : ∀ {ds : List (Key × D)} {vs : List (Key × V)}, RKV w ds vs → RKV w (ds.map fun kv => if kv.1 = k then (kv.1, d) else kv) (vs.map fun kv => if kv.1 = k then (kv.1, v) else kv)
  | [], vs, h => by unfold RKV at h; subst h; unfold RKV; rfl
  | (k', d') :: ds, vs, h => by
    unfold RKV at h
    obtain ⟨v', r, rfl, h1, h2⟩ := h
    simp only [List.map_cons]
    by_cases e : k' = k
    · rw [if_pos e, if_pos e]
      unfold RKV
      exact ⟨v, _, rfl, q, RKV.repl q h2⟩
    · rw [if_neg e, if_neg e]
      unfold RKV
      exact ⟨v', _, rfl, h1, RKV.repl q h2⟩
theorem RKV.snoc {w : Vw} {k : Key} {d : D} {v : V} (q : RD w d v) : ∀ {ds : List (Key × D)} {vs : List (Key × V)}, RKV w ds vs → RKV w (ds ++ [(k, d)]) (vs ++ [(k, v)])
  | [], vs, h => by unfold RKV at h; subst h; unfold RKV; exact ⟨v, [], rfl, q, by unfold RKV; rfl⟩
  | (k', d') :: ds, vs, h => by
    unfold RKV at h
    obtain ⟨v', r, rfl, h1, h2⟩ := h
    show RKV w ((k', d') :: (ds ++ [(k, d)])) _
    unfold RKV
    exact ⟨v', _, rfl, h1, RKV.snoc q h2⟩
theorem RKV.put {w : Vw} {k : Key} {d : D} {v : V} (q : RD w d v) {ds : List (Key × D)} {vs : List (Key × V)} (h : RKV w ds vs) : RKV w (putD ds k d) (putK vs k v) := by
  unfold putD putK
  rw [h.any k]
  split
  · exact h.repl q
  · exact h.snoc q
theorem Pj {w : Vw} {d : D} {k : Key} {v : V} (h : keyD d = some k) (r : RD w d v) : v = kV k := by
  cases d <;> simp [keyD] at h
  · subst h; exact Zc.mp r
  · subst h; exact Yd.mp r
section
variable {X : Cx} {w0 : Vw}
noncomputable def cmOf : Cm → CmpOp
  | .lt => .Lt | .gt => .Gt | .eq => .Eq | .ne => .NotEq | .is => .Is | .notin => .NotIn
theorem Zx9 (hu : X.A.units + 64 < cLine) : OpR X (compareOp .NotEq) (rEqD X.K true) := by
  intro pins s σ H x y v u Q I rx ry h
  obtain ⟨da, db, h1, h2, h3, h4, h5, q⟩ := h
  obtain ⟨as, q1⟩ := Rep.reads I da x v h1 rx
  obtain ⟨bs, q2⟩ := Rep.reads I db y u h2 ry
  exact PySem.SeqAt.compareNe_reads q1 q2 h3 h4 (by omega) ⟨.bl _, H, I, rfl, q⟩
theorem Ov {w : Vw} {pins : List (Addr × Obj)} {σ : L2.St} {s : Shared} {A : Around} {b : List (Key × D)} {vb : List (Key × V)} {ub : List (Key × Value)} (rb : RKV w b vb) (kb : KV vb ub) (fb : (b.all fun kv => Y5 kv.2) = true) :
    ∀ {a : List (Key × D)} {va : List (Key × V)} {ua : List (Key × Value)}, (a.all fun kv => Y5 kv.2) = true → RKV w a va → KV va ua → PySem.W.KeqHits A s ub ua (a.all fun kv => match valD b kv.1 with
      | some y => eqF kv.2 y
      | none => false)
  | [], va, ua, _, h, k => by
    unfold RKV at h; subst h
    cases k
    exact .nil
  | (k0, d) :: a, va, ua, f, h, k => by
    unfold RKV at h
    obtain ⟨v, r, rfl, h1, h2⟩ := h
    simp only [List.all_cons, Bool.and_eq_true] at f
    cases k with
    | @cons _ q _ ur hk kr =>
      obtain ⟨k1, u⟩ := q
      obtain ⟨e1, e2⟩ := hk
      dsimp only at e1 e2
      subst e1
      have ih := Ov (A := A) (s := s) (pins := pins) (σ := σ) rb kb fb f.2 h2 kr
      rw [List.all_cons]
      rcases rb.val k0 with ⟨n1, n2⟩ | ⟨y, vy, n1, n2, n3⟩
      · have hz := kb.val k0
        rw [n2] at hz
        have hz' : valueAt ub k0 = none := RelO.none_of hz
        simp only [n1, Bool.false_and]
        exact .miss hz'
      · have hz := kb.val k0
        rw [n2] at hz
        obtain ⟨uy, ey, ry⟩ := hz.some_of
        have fy : Y5 y = true := by
          have hm : (k0, y) ∈ b := by
            unfold valD at n1
            obtain ⟨p, hp, e⟩ := Option.map_eq_some_iff.mp n1
            have := List.find?_some hp
            have hk : p.1 = k0 := of_decide_eq_true this
            have := List.mem_of_find?_eq_some hp
            rw [← e, ← hk]; exact this
          exact (List.all_eq_true.mp fb) _ hm
        simp only [n1]
        refine .hit ey ?_ ih
        rw [← O1 f.1 fy h1 n3]
        exact Zd7 e2 ry (Vd f.1 h1) (Vd fy n3)
theorem G1 (hK : X.K = w0.K) (hu : X.A.units + 64 < cLine) (neg : Bool) : OpR X (compareOp (if neg then .NotEq else .Eq)) (rB w0 fun M x y Q => eqD M x y fun b => Q (if neg then !b else b)) := by
  intro pins s σ H x y v u Q I rx ry h
  obtain ⟨w, M, dx, dy, QD, rfl, e0, R, hx, hy, g, a⟩ := h
  have key : ∀ b : Bool, (scal x y = true ∧ decide (x = y) = b) → QD (if neg then !b else b) → wpAny (model X.prog X.w) X.A (compareOp (if neg then .NotEq else .Eq) v u) (EP X pins σ Q) X.xe s := by
    rintro b ⟨h1, h2⟩ hq
    cases neg with
    | true => exact Y14 pins s σ w.H x y v u Q I rx ry ⟨h1, by rw [h2]; exact a _ hq⟩
    | false => exact Y04 pins s σ w.H x y v u Q I rx ry ⟨h1, by rw [h2]; exact a _ hq⟩
  have hs : ∀ b, eqS dx dy = some b → scal x y = true ∧ decide (x = y) = b := by
    intro b h
    cases dx with
    | int i =>
      cases Zc.mp hx
      cases dy with
      | int j => cases Zc.mp hy; cases h; exact ⟨rfl, by simp⟩
      | str j => cases Yd.mp hy; cases h; exact ⟨rfl, by simp⟩
      | non => cases Yk.mp hy; cases h; exact ⟨rfl, by simp⟩
      | _ => cases h
    | str i =>
      cases Yd.mp hx
      cases dy with
      | str j => cases Yd.mp hy; cases h; exact ⟨rfl, by simp⟩
      | int j => cases Zc.mp hy; cases h; exact ⟨rfl, by simp⟩
      | non => cases Yk.mp hy; cases h; exact ⟨rfl, by simp⟩
      | bl j => cases Wd.mp hy; cases h; exact ⟨rfl, by simp⟩
      | _ => cases h
    | bl i =>
      cases Wd.mp hx
      cases dy with
      | bl j => cases Wd.mp hy; cases h; exact ⟨rfl, by simp⟩
      | non => cases Yk.mp hy; cases h; exact ⟨rfl, by simp⟩
      | str j => cases Yd.mp hy; cases h; exact ⟨rfl, by simp⟩
      | _ => cases h
    | non =>
      cases Yk.mp hx
      cases dy with
      | non => cases Yk.mp hy; cases h; exact ⟨rfl, by simp⟩
      | int j => cases Zc.mp hy; cases h; exact ⟨rfl, by simp⟩
      | bl j => cases Wd.mp hy; cases h; exact ⟨rfl, by simp⟩
      | str j => cases Yd.mp hy; cases h; exact ⟨rfl, by simp⟩
      | _ => cases h
    | _ => cases h
  unfold eqD at g
  cases hb : eqS dx dy with
  | some b =>
    rw [hb] at g
    exact key b (hs b hb) g
  | none =>
    rw [hb] at g
    rcases g with ⟨da, db, p1, p2, p3, p4, p5, g⟩ | ⟨m, n, ka, kb, rfl, rfl, p1, p2, f1, f2, g⟩
    · have q1 := C9 R da p1 hx
      have q2 := C9 R db p2 hy
      rw [e0, ← hK] at q1 q2
      cases neg with
      | true => exact Zx9 hu pins s σ w.H x y v u Q I rx ry ⟨da, db, q1, q2, p3, p4, p5, a _ g⟩
      | false => exact Zo5 hu pins s σ w.H x y v u Q I rx ry ⟨da, db, q1, q2, p3, p4, p5, a _ g⟩
    · obtain ⟨_, rfl⟩ := Zr.mp hx
      obtain ⟨_, rfl⟩ := Zr.mp hy
      obtain ⟨_, va, ha, ra⟩ := R.dict p1
      obtain ⟨_, vb, hb, rb⟩ := R.dict p2
      cases (show v = Value.ref (w.μ m) from rx)
      cases (show u = Value.ref (w.μ n) from ry)
      obtain ⟨_, s1, ua, k1, d1⟩ := B6 I.hok ha
      obtain ⟨_, s2, ub, k2, d2⟩ := B6 I.hok hb
      have hits := Ov (A := X.A.in1) (s := s) (pins := pins) (σ := σ) rb k2 f2 f1 ra k1
      have hl : (ua.length == ub.length && (ka.all fun kv => match valD kb kv.1 with
        | some y => eqF kv.2 y
        | none => false)) = eqKV ka kb := by
        unfold eqKV
        rw [← k1.length, ← k2.length, ra.length, rb.length]
        all_goals rfl
      cases neg with
      | true => exact PySem.W.keq_ne s1 s2 d1 d2 (by omega) (fun _ => hits) ⟨.bl _, w.H, I, rfl, by rw [hl]; exact a _ g⟩
      | false => exact PySem.W.keq_eq s1 s2 d1 d2 (by omega) (fun _ => hits) ⟨.bl _, w.H, I, rfl, by rw [hl]; exact a _ g⟩
theorem Zc9 (hK : X.K = w0.K) (hu : X.A.units + 64 < cLine) (neg : Bool) : OpR X (compareOp (if neg then .NotIn else .In)) (rB w0 fun M x y Q => inQ M x y fun b => Q (if neg then !b else b)) := by
  intro pins s σ H x y v u Q I rx ry h
  obtain ⟨w, M, dx, dy, QD, rfl, e0, R, hx, hy, g, a⟩ := h
  have seq : ∀ {p : Addr} {vs : List V} {xs : List D}, y = .ref p → (SqL X.K w.H p vs ∨ SqT X.K w.H p vs) → RDs w xs vs → Y5 dx = true → xs.all Y5 = true → QD (if neg then !inD dx xs else inD dx xs) →
      wpAny (model X.prog X.w) X.A (compareOp (if neg then .NotIn else .In) v u) (EP X pins σ Q) X.xe s := by
    intro p vs xs ey q1 q2 g2 g3 g4
    obtain ⟨i1, i2⟩ := Bz g2 hx g3 q2
    cases neg with
    | true => exact Ol pins s σ w.H _ _ v u Q I rx ry ⟨p, vs, ey, q1, Vd g2 hx, i2, by rw [i1]; exact a _ g4⟩
    | false => exact Cr pins s σ w.H _ _ v u Q I rx ry ⟨p, vs, ey, q1, Vd g2 hx, i2, by rw [i1]; exact a _ g4⟩
  unfold inQ at g
  split at g
  · cases Yd.mp hx; cases Yd.mp hy
    cases neg with
    | true => exact N7 pins s σ w.H _ _ v u Q I rx ry ⟨_, _, rfl, rfl, a _ g⟩
    | false => exact En pins s σ w.H _ _ v u Q I rx ry ⟨_, _, rfl, rfl, a _ g⟩
  · obtain ⟨_, rfl⟩ := Zr.mp hy
    rcases g with ⟨xs, g1, g2, g3, g4⟩ | ⟨kvs, k, g1, g2, g3⟩
    · obtain ⟨_, vs, q1, q2, _⟩ := R.listL g1
      rw [e0, ← hK] at q1
      exact seq rfl (.inl q1) q2 g2 g3 g4
    · obtain ⟨_, vs, q1, q2⟩ := R.dict g1
      cases Pj g2 hx
      cases (show u = Value.ref _ from ry)
      have hv : valV vs k = none ∧ valD kvs k = none ∨ ∃ d v', valD kvs k = some d ∧ valV vs k = some v' := by
        rcases q2.val k with ⟨n1, n2⟩ | ⟨d, v', n1, n2, _⟩
        · exact .inl ⟨n2, n1⟩
        · exact .inr ⟨d, v', n1, n2⟩
      have hb : (valV vs k).isSome = (valD kvs k).isSome := by
        rcases hv with ⟨n1, n2⟩ | ⟨d, v', n1, n2⟩
        · rw [n1, n2]; rfl
        · rw [n1, n2]; rfl
      have hu1 : X.A.units + 1 < cLine := by omega
      cases neg with
      | true => exact Zh8 hu1 I (DGet.k (k := k) q1) rx fun s' I' => ⟨.bl (!(valV vs k).isSome), w.H, I', rfl, by rw [hb]; exact a _ g3⟩
      | false => exact d_in hu1 I (DGet.k (k := k) q1) rx fun s' I' => ⟨.bl (valV vs k).isSome, w.H, I', rfl, by rw [hb]; exact a _ g3⟩
  · obtain ⟨p, vs, e, q1, q2⟩ := Xj.mp hy
    exact seq e (.inr (.of q1)) q2 g.1 g.2.1 g.2.2
  · obtain ⟨p, vs, e, q1, q2⟩ := Pm.mp hy
    rw [e0, ← hK] at q1
    exact seq e (.inr q1) q2 g.1 g.2.1 g.2.2
  · exact g.elim
theorem Gw (hK : X.K = w0.K) (hu : X.A.units + 64 < cLine) (op : Cm) : OpR X (compareOp (cmOf op)) (rB w0 fun M => cmD M op) := by
  intro pins s σ H x y v u Q I rx ry h
  obtain ⟨w, M, dx, dy, QD, rfl, e0, R, hx, hy, g, a⟩ := h
  cases op with
  | lt =>
    obtain ⟨i, j, rfl, rfl, g2⟩ := Xc g; clear g; have g := g2
    cases Zc.mp hx; cases Zc.mp hy
    exact Y05 pins s σ w.H _ _ v u Q I rx ry ⟨_, _, rfl, rfl, a _ g⟩
  | gt =>
    obtain ⟨i, j, rfl, rfl, g2⟩ := Xc g; clear g; have g := g2
    cases Zc.mp hx; cases Zc.mp hy
    exact Y01 pins s σ w.H _ _ v u Q I rx ry ⟨_, _, rfl, rfl, a _ g⟩
  | eq =>
    exact G1 hK hu false pins s σ w.H x y v u Q I rx ry ⟨w, M, _, _, QD, rfl, e0, R, hx, hy, g, a⟩
  | ne =>
    exact G1 hK hu true pins s σ w.H x y v u Q I rx ry ⟨w, M, _, _, QD, rfl, e0, R, hx, hy, g, a⟩
  | is =>
    cases dy with
    | non =>
      cases dx with
      | non =>
        cases Yk.mp hx; cases Yk.mp hy
        exact Rz pins s σ w.H _ _ v u Q I rx ry ⟨rfl, a _ g⟩
      | bl b =>
        cases Wd.mp hx; cases Yk.mp hy
        exact Rz pins s σ w.H _ _ v u Q I rx ry ⟨rfl, a _ g⟩
      | int i =>
        cases Zc.mp hx; cases Yk.mp hy
        exact Rz pins s σ w.H _ _ v u Q I rx ry ⟨rfl, a _ g⟩
      | str z =>
        cases Yd.mp hx; cases Yk.mp hy
        exact Rz pins s σ w.H _ _ v u Q I rx ry ⟨rfl, a _ g⟩
      | tup l =>
        obtain ⟨_, _, rfl, _⟩ := Xj.mp hx; cases Yk.mp hy
        exact Rz pins s σ w.H _ _ v u Q I rx ry ⟨rfl, a _ g⟩
      | ref n =>
        obtain ⟨_, rfl⟩ := Zr.mp hx; cases Yk.mp hy
        exact Rz pins s σ w.H _ _ v u Q I rx ry ⟨rfl, a _ g⟩
      | exn e C d q =>
        obtain ⟨rfl, _⟩ := Om.mp hx; cases Yk.mp hy
        exact Rz pins s σ w.H _ _ v u Q I rx ry ⟨rfl, a _ g⟩
      | _ => exact False.elim g
    | _ => exact False.elim g
  | notin =>
    exact Zc9 hK hu true pins s σ w.H x y v u Q I rx ry ⟨w, M, _, _, QD, rfl, e0, R, hx, hy, g, a⟩
end
theorem RKV.isEmpty {w : Vw} {ds : List (Key × D)} {vs : List (Key × V)} (h : RKV w ds vs) : vs.isEmpty = ds.isEmpty := by
  cases ds with
  | nil => unfold RKV at h; subst h; rfl
  | cons p ds => obtain ⟨k, d⟩ := p; unfold RKV at h; obtain ⟨v, r, rfl, _⟩ := h; rfl
theorem RDs.isEmpty {w : Vw} {ds : List D} {vs : List V} (h : RDs w ds vs) : vs.isEmpty = ds.isEmpty := by
  cases ds with
  | nil => unfold RDs at h; subst h; rfl
  | cons d ds => unfold RDs at h; obtain ⟨v, r, rfl, _⟩ := h; rfl
theorem T7 {K : PySem.W.Frag} {w : Vw} {M : Z1} {d : D} {x : V} {QD : Bool → Prop} (hK : w.K = K) (R : RS w M) (r : RD w d x) (g : truD M d QD) : ∃ k, TruV K x w.H k ∧ QD k := by
  unfold truD at g
  split at g
  · cases Yk.mp r; exact ⟨_, rfl, g⟩
  · cases Wd.mp r; exact ⟨_, rfl, g⟩
  · cases Zc.mp r; exact ⟨_, rfl, g⟩
  · cases Yd.mp r; exact ⟨_, ⟨g.1, rfl⟩, g.2⟩
  · obtain ⟨a, vs, rfl, q1, q2⟩ := Xj.mp r
    exact ⟨_, .inr (.inl ⟨vs, .of q1, rfl⟩), by rw [q2.isEmpty]; exact g⟩
  · obtain ⟨_, rfl⟩ := Zr.mp r
    rcases g with ⟨xs, g1, g2⟩ | ⟨xs, g1, g2⟩
    · obtain ⟨_, vs, q1, q2, _⟩ := R.listL g1
      rw [hK] at q1
      exact ⟨_, .inl ⟨vs, q1, rfl⟩, by rw [q2.isEmpty]; exact g2⟩
    · obtain ⟨_, vs, q1, q2⟩ := R.dict g1
      exact ⟨_, .inr (.inr ⟨vs, q1, rfl⟩), by rw [q2.isEmpty]; exact g2⟩
  · exact g.elim
theorem Jn {w : Vw} {xs : List D} {vs : List V} {i : Int} {d : D} (r : RDs w xs vs) (h : atI xs i = some d) : ∃ v, atI vs i = some v ∧ RD w d v := by
  unfold atI at *
  rw [r.length]
  obtain ⟨j, h1, h2⟩ := Option.bind_eq_some_iff.mp h
  obtain ⟨v, q1, q2⟩ := r.get h2
  exact ⟨v, by rw [h1]; exact q1, q2⟩
theorem Z42 {w : Vw} {xs : List D} {vs : List V} {lo hi : Option Int} (r : RDs w xs vs) : RDs w (cutD xs lo hi) (cutV vs lo hi) := by
  unfold cutD cutV
  rw [r.length]
  exact (r.drop _).take _
section
variable {X : Cx} {w0 : Vw}
theorem Zi1 (hu : X.A.units + 1 < cLine) : IxR X (fun x y H Q => ∃ a v, x = .ref a ∧ DGet H a y (some v) ∧ Q v H) := by
  intro value slice pins s σ H x y v u Q I rx ry h hs
  obtain ⟨a, vv, rfl, g, q⟩ := h
  cases rx
  have hT := Nr I g
  have h₂ : wpAny (model X.prog X.w) X.A (getItem (.ref a) u) (EP X pins σ Q) X.xe s := Co hu I g ry fun w' s3 I3 rw' => ⟨vv, H, I3, rw', q⟩
  unfold subscriptTail
  refine wpAny_bind ?_
  rw [getitemInPython_of_ne hT.not_modules]
  refine wpAny_bind (wpAny_specialOf hT PySem.F.slot_dict_getitem.lookup ?_)
  have fin : wpAny (model X.prog X.w) X.A (subscripted slice false (.ref a) u) (fun r s₃ => wpAny (model X.prog X.w) X.A (letTemporaryGo value (.ref a) r >>= fun _ => pure r) (EP X pins σ Q) X.xe s₃) X.xe s := by
    rw [hs]
    exact wpAny_operating (wpAny_mono h₂ (fun r s₃ h₃ => wpAny_bind (wpAny_letTemporaryGo (wpAny_pure h₃))) fun _ _ x => x)
  first
    | exact wpAny_pure (wpAny_bind fin)
    | exact wpAny_bind (wpAny_pure (wpAny_bind fin))
    | exact wpAny_bind fin
def rX (w0 : Vw) : R2 := fun x y H Q => ∃ w M dx dy QD, w.H = H ∧ w.K = w0.K ∧ RS w M ∧ RD w dx x ∧ RD w dy y ∧ ixD M dx dy QD ∧ ∀ d v, QD d → RD w d v → Q v H
theorem Zc8 (hK : X.K = w0.K) (hu : X.A.units + 64 < cLine) : IxR X (rX w0) := by
  intro value slice pins s σ H x y v u Q I rx ry h hs
  obtain ⟨w, M, dx, dy, QD, rfl, e0, R, hx, hy, g, a⟩ := h
  unfold ixD at g
  split at g
  · obtain ⟨_, rfl⟩ := Zr.mp hx
    rcases g with ⟨xs, i, d, rfl, g1, g2, g3⟩ | ⟨kvs, k, d, g1, g2, g3, g4⟩
    · cases Zc.mp hy
      obtain ⟨_, vs, q1, q2, _⟩ := R.listL g1
      rw [e0, ← hK] at q1
      obtain ⟨vv, z1, z2⟩ := Jn q2 g2
      exact Zl7 value slice pins s σ w.H _ _ v u Q I rx ry ⟨_, vs, i, vv, rfl, rfl, q1, z1, a _ _ g3 z2⟩ hs
    · obtain ⟨_, vs, q1, q2⟩ := R.dict g1
      cases Pj g2 hy
      rcases q2.val k with ⟨n1, n2⟩ | ⟨d', v', n1, n2, n3⟩
      · rw [n1] at g3; cases g3
      · rw [n1] at g3; cases g3
        refine Zi1 (by omega) value slice pins s σ w.H _ _ v u Q I rx ry ⟨_, v', rfl, ?_, a _ _ g4 n3⟩ hs
        have := DGet.k (k := k) q1
        rw [n2] at this
        exact this
  · cases Zc.mp hy
    obtain ⟨p, vs, rfl, q1, q2⟩ := Xj.mp hx
    obtain ⟨d, g1, g2⟩ := g
    obtain ⟨vv, z1, z2⟩ := Jn q2 g1
    exact Zf4 value slice pins s σ w.H _ _ v u Q I rx ry ⟨_, vs, _, vv, rfl, rfl, .of q1, z1, a _ _ g2 z2⟩ hs
  · cases Zc.mp hy
    obtain ⟨p, vs, rfl, q1, q2⟩ := Pm.mp hx
    rw [e0, ← hK] at q1
    obtain ⟨d, g1, g2⟩ := g
    obtain ⟨vv, z1, z2⟩ := Jn q2 g1
    exact Zf4 value slice pins s σ w.H _ _ v u Q I rx ry ⟨_, vs, _, vv, rfl, rfl, q1, z1, a _ _ g2 z2⟩ hs
  · cases Zc.mp hy; cases Yd.mp hx
    obtain ⟨g0, c, g1, g2⟩ := g
    exact Zv2 value slice pins s σ w.H _ _ v u Q I rx ry ⟨_, _, c, rfl, rfl, g0, g1, a _ _ g2 (Yd.mpr rfl)⟩ hs
  · exact g.elim
theorem Zy1 : SlR X (fun x lo hi H Q => ∃ z, x = .str z ∧ z.length ≤ sizeLine ∧ Q (.str (Txt.slice z lo hi)) H) := by
  intro pins s σ H x v vl vu lo hi sl Q I rx hs pl pu h
  obtain ⟨z, rfl, hz, q⟩ := h
  obtain ⟨t, rfl⟩ := rx
  have key : ∀ l u : Option (Int × Tok), l.map (·.1) = lo → u.map (·.1) = hi → vl = partValue l → vu = partValue u → wpAny (model X.prog X.w) X.A (getItem (.str z t) (.ref sl)) (EP X pins σ Q) X.xe s := by
    intro l u e1 e2 e3 e4
    subst e1 e2 e3 e4
    refine wpAny_getItem_str_slice (l := l) (u := u) (st := none) hs rfl ?_
    exact post_val_or_str ⟨Nat.le_trans (Txt.slice_le z _ _) hz, fun t' k => ⟨.str (Txt.slice z _ _), H, I.tok _, ⟨_, rfl⟩, q⟩⟩
  refine ⟨"str", _, PySem.F.slot_str_getitem.lookup, typeIs_str _ _ _, ?_⟩
  cases pl with
  | none =>
    cases pu with
    | none => exact key none none rfl rfl rfl rfl
    | int j tj => exact key none (some (j, tj)) rfl rfl rfl rfl
  | int i ti =>
    cases pu with
    | none => exact key (some (i, ti)) none rfl rfl rfl rfl
    | int j tj => exact key (some (i, ti)) (some (j, tj)) rfl rfl rfl rfl
def rSl (w0 : Vw) : V → Option Int → Option Int → Hp → VK → Prop := fun x lo hi H Q => ∃ w M dx QD, w.H = H ∧ w.K = w0.K ∧ RS w M ∧ RD w dx x ∧ slD dx lo hi M QD ∧ Aft w QD Q
theorem Z82 (hK : X.K = w0.K) : SlR X (rSl w0) := by
  intro pins s σ H x v vl vu lo hi sl Q I rx hs pl pu h
  obtain ⟨w, M, dx, QD, rfl, e0, R, hx, g, a⟩ := h
  unfold slD at g
  split at g
  · cases Yd.mp hx
    exact Zy1 pins s σ w.H _ v vl vu _ _ sl Q I rx hs pl pu ⟨_, rfl, g.1, a _ w _ M (Ext.refl w) R (Yd.mpr rfl) g.2⟩
  · obtain ⟨_, rfl⟩ := Zr.mp hx
    obtain ⟨xs, g1, g2⟩ := g
    obtain ⟨_, vs, q1, q2, _⟩ := R.listL g1
    rw [e0, ← hK] at q1
    refine Zj8 pins s σ w.H _ v vl vu _ _ sl Q I rx hs pl pu ⟨_, vs, rfl, q1, fun p hp => ?_⟩
    obtain ⟨x1, x2, x3⟩ := Wn R hp (Z42 (lo := lo) (hi := hi) q2)
    exact a _ _ _ _ x1 x2 x3 g2
  · obtain ⟨p, vs, rfl, q1, q2⟩ := Xj.mp hx
    refine Zu8 pins s σ w.H _ v vl vu _ _ sl Q I rx hs pl pu ⟨_, vs, rfl, .of q1, by rw [q2.length]; exact g.1, fun p hp => ?_⟩
    obtain ⟨x1, x2, x3⟩ := Rt R hp (Z42 (lo := lo) (hi := hi) q2)
    exact a _ _ _ _ x1 x2 x3 g.2
  · exact g.elim
def rC (w0 : Vw) (g : List D → Z1 → DK → Prop) : List V → Hp → VK → Prop := fun xs H Q => ∃ w M ds QD, w.H = H ∧ w.K = w0.K ∧ RS w M ∧ RDs w ds xs ∧ g ds M QD ∧ Aft w QD Q
noncomputable def bfOf : Bf → Str × Value
  | .len => ("len", .builtin "len") | .isinst => ("isinstance", .builtin "isinstance") | .min2 => ("min", .builtin "min") | .max2 => ("max", .builtin "max")
  | .list1 => ("list", .type "list") | .tuple1 => ("tuple", .type "tuple") | .dict1 => ("dict", .type "dict")
theorem rds1 {w : Vw} {d : D} {xs : List V} (h : RDs w [d] xs) : ∃ v, xs = [v] ∧ RD w d v := by
  unfold RDs at h
  obtain ⟨v, r, rfl, h1, h2⟩ := h
  unfold RDs at h2
  subst h2
  exact ⟨v, rfl, h1⟩
theorem rds2 {w : Vw} {d e : D} {xs : List V} (h : RDs w [d, e] xs) : ∃ v u, xs = [v, u] ∧ RD w d v ∧ RD w e u := by
  unfold RDs at h
  obtain ⟨v, r, rfl, h1, h2⟩ := h
  obtain ⟨u, rfl, h3⟩ := rds1 h2
  exact ⟨v, u, rfl, h1, h3⟩
theorem rds0 {w : Vw} {xs : List V} (h : RDs w [] xs) : xs = [] := by unfold RDs at h; exact h
theorem Z34 {w : Vw} : ∀ {as : List Addr} {vs : List V}, RDs w (as.map D.cls) vs → vs = as.map V.ref
  | [], vs, h => rds0 h
  | a :: r, vs, h => by
    rw [List.map_cons] at h
    unfold RDs at h
    obtain ⟨v, vs', rfl, h1, h2⟩ := h
    rw [Ze0.mp h1, Z34 h2]
    rfl
def Y09 (K : PySem.W.Frag) : List V → Hp → VK → Prop := fun xs H Q => ∃ (e C dx : Addr) (fs : List (Str × V)) (p : Addr) (as : List Addr) (b : Bool), xs = [.ref e, .ref p] ∧ H e = some (XO e (.ref C) (some dx)) ∧ H dx = some (.xd fs) ∧ ExcIs K C ∧ H p = some (.tup (as.map V.ref)) ∧ PySem.W.kitAny K (.ref C) (as.map Value.ref) = some b ∧ Q (.bl b) H
theorem Oc : ∀ {as : List Addr} {us : List Value}, Vals (as.map V.ref) us → us = as.map Value.ref
  | [], us, h => by cases h; rfl
  | a :: r, us, h => by
    cases h with
    | cons h1 h2 =>
      obtain rfl : _ = Value.ref a := h1
      rw [Oc h2]
      rfl
theorem Ct {X : Cx} : Vs X (.builtin "isinstance") (Y09 X.K) := by
  intro pins s σ H xs us Q I r h
  obtain ⟨e, C, dx, fs, p, as, b, rfl, he, hd, S, hp, k, q⟩ := h
  obtain ⟨u, v, rfl, ru, rv⟩ := J6 r
  obtain rfl : u = Value.ref e := ru
  obtain rfl : v = Value.ref p := rv
  obtain ⟨oe, od, mA, J, _⟩ := Pk I he hd
  obtain ⟨its, r', ⟨⟨oc, odd, dat, sl⟩, g1, g2, n, g3⟩, hz⟩ := I.tuple (.of hp)
  cases Oc r'
  dsimp only at g2 g3
  subst g2 g3
  exact PySem.W.kia_tup (Fa S) I.kIn J g1 k (fun z => nomatch z) fun tk => ⟨.bl b, H, I.tok tk, rfl, q⟩
theorem Zp9 {K : PySem.W.Frag} {w : Vw} {M : Z1} {d : D} {x : V} {t : String} (R : RS w M) (r : RD w d x) (h : tyD M d = some t) : TyOf K w.H x (.type t) := by
  unfold tyD at h
  split at h
  · cases h; cases Yk.mp r; exact .non
  · cases h; cases Wd.mp r; exact .bl _
  · cases h; cases Zc.mp r; exact .int _
  · cases h; cases Yd.mp r; exact .str _
  · cases h; obtain ⟨a, vs, rfl, q, _⟩ := Xj.mp r; exact .tup q
  · obtain ⟨_, rfl⟩ := Zr.mp r
    split at h
    · rename_i e; cases h; obtain ⟨vs, q, _⟩ := R.cell _ _ e; exact .lst q
    · cases h
    · rename_i e; cases h; obtain ⟨vs, q, _⟩ := R.cell _ _ e; exact .dK q
    · cases h
    · cases h
  · cases h
theorem E4 : Vs X (.type "dict") (fun xs H Q => ∃ a kvs, xs = [V.ref a] ∧ H a = some (.dK kvs) ∧ ∀ p, H p = none → Q (.ref p) (upd H p (.dK kvs))) := by
  intro pins s σ H xs us Q I r h
  obtain ⟨a, kvs, rfl, e, q⟩ := h
  obtain ⟨u, rfl, ru⟩ := O5 r
  cases ru
  exact Z46 I (.inl e) fun p s' hp I' => ⟨.ref p, _, I', rfl, q p hp⟩
theorem Gq {w : Vw} : ∀ {ps : List (Key × D)} {vs : List V}, RDs w (Xq ps) vs → ∃ qs, Ng w.K w.H vs qs ∧ RKV w ps qs
  | [], vs, h => by
    cases vs with
    | nil => exact ⟨[], trivial, by unfold RKV; rfl⟩
    | cons _ _ => have := h.length; simp [Xq] at this
  | p :: ps, vs, h => by
    change RDs w (D.tup [kD p.1, p.2] :: Xq ps) vs at h
    unfold RDs at h
    obtain ⟨v, vr, rfl, r1, r2⟩ := h
    obtain ⟨t, us, rfl, q1, q2⟩ := Xj.mp r1
    obtain ⟨u1, u2, rfl, s1, s2⟩ := rds2 q2
    obtain ⟨qs, h1, h2⟩ := Gq r2
    have e : u1 = kV p.1 := by
      cases hk : p.1 with
      | inl i => rw [hk] at s1; exact Zc.mp s1
      | inr x => rw [hk] at s1; exact Yd.mp s1
    subst e
    exact ⟨(p.1, u2) :: qs, ⟨⟨t, rfl, .of q1⟩, h1⟩, by unfold RKV; exact ⟨u2, qs, rfl, s2, h2⟩⟩
theorem Ga {w : Vw} : ∀ {ps : List (Key × D)} {qs : List (Key × V)} {ds : List (Key × D)} {vs : List (Key × V)}, RKV w ps qs → RKV w ds vs → RKV w (ps.foldl (fun m p => putD m p.1 p.2) ds) (qs.foldl (fun m p => putK m p.1 p.2) vs)
  | [], qs, ds, vs, h, g => by unfold RKV at h; subst h; exact g
  | p :: ps, qs, ds, vs, h, g => by
    unfold RKV at h
    obtain ⟨v, r, rfl, h1, h2⟩ := h
    rw [List.foldl_cons, List.foldl_cons]
    exact Ga (ps := ps) (qs := r) h2 (RKV.put (k := p.1) h1 g)
noncomputable def Tl : Bf → Bool
  | .min2 | .max2 | .dict1 => false
  | _ => true
theorem Z90 (hK : X.K = w0.K) (b : Bf) (hc : X.calm = true ∨ Tl b = true) : Vs X (bfOf b).2 (rC w0 (bfD w0.K b)) := by
  intro pins s σ H xs us Q I r h
  obtain ⟨w, M, ds, QD, rfl, e0, R, hx, g, a⟩ := h
  cases b with
  | len =>
    obtain ⟨x, rfl, g2⟩ := V7 g; clear g; have g := g2
    cases x with
    | ref n =>
      obtain ⟨v, rfl, r1⟩ := rds1 hx
      obtain ⟨_, rfl⟩ := Zr.mp r1
      rcases g with ⟨xs, g1, g2⟩ | ⟨xs, g1, g2⟩
      · obtain ⟨_, vs, q1, q2, _⟩ := R.listL g1
        rw [e0, ← hK] at q1
        exact S7 pins s σ w.H _ us Q I r ⟨_, vs, rfl, .inl q1, a _ w _ M (Ext.refl w) R (Zc.mpr (by rw [q2.length])) g2⟩
      · obtain ⟨_, vs, q1, q2⟩ := R.dict g1
        exact Z29 pins s σ w.H _ us Q I r ⟨_, vs, rfl, q1, a _ w _ M (Ext.refl w) R (Zc.mpr (by rw [q2.length])) g2⟩
    | tup l =>
      obtain ⟨v, rfl, r1⟩ := rds1 hx
      obtain ⟨p, vs, rfl, q1, q2⟩ := Xj.mp r1
      exact S7 pins s σ w.H _ us Q I r ⟨_, vs, rfl, .inr (.of q1), a _ w _ M (Ext.refl w) R (Zc.mpr (by rw [q2.length])) g⟩
    | str z =>
      obtain ⟨v, rfl, r1⟩ := rds1 hx
      cases Yd.mp r1
      exact Ow pins s σ w.H _ us Q I r ⟨_, rfl, g.1, a _ w _ M (Ext.refl w) R (Zc.mpr rfl) g.2⟩
    | _ => exact False.elim g
  | isinst =>
    obtain ⟨x, y, rfl, g2⟩ := Px g; clear g; have g := g2
    obtain ⟨v, u, rfl, r1, r2⟩ := rds2 hx
    unfold isD at g
    split at g
    · obtain ⟨b, g1, g2, g3⟩ := g
      obtain ⟨rfl, q1, row, q2, q3⟩ := Om.mp r1
      cases Ze0.mp r2
      rw [← hK] at g1 g2
      exact Gr pins s σ w.H _ us Q I r ⟨_, _, _, _, _, _, b, rfl, q1, q2, g1, fun u hu => hu, g2, a _ w _ M (Ext.refl w) R (Wd.mpr rfl) g3⟩
    · obtain ⟨b, g1, g2, g3⟩ := g
      obtain ⟨rfl, q1, row, q2, q3⟩ := Om.mp r1
      cases Zi2.mp r2
      rw [← hK] at g1 g2
      exact Gr pins s σ w.H _ us Q I r ⟨_, _, _, _, _, _, b, rfl, q1, q2, g1, fun u hu => hu, g2, a _ w _ M (Ext.refl w) R (Wd.mpr rfl) g3⟩
    · obtain ⟨as, b, rfl, g1, g2, g3⟩ := g
      obtain ⟨rfl, q1, row, q2, q3⟩ := Om.mp r1
      obtain ⟨p, vs, rfl, q4, q5⟩ := Xj.mp r2
      cases Z34 q5
      rw [← hK] at g1 g2
      exact Ct pins s σ w.H _ us Q I r ⟨_, _, _, _, _, _, b, rfl, q1, q2, g1, q4, g2, a _ w _ M (Ext.refl w) R (Wd.mpr rfl) g3⟩
    · obtain ⟨t, b, g1, g2, g3⟩ := g
      cases Zi2.mp r2
      rw [← hK] at g2
      exact Zb4 pins s σ w.H _ us Q I r ⟨_, _, _, b, rfl, Zp9 R r1 g1, g2, a _ w _ M (Ext.refl w) R (Wd.mpr rfl) g3⟩
    · exact g.elim
  | min2 =>
    obtain ⟨x, y, rfl, g2⟩ := Px g; clear g; have g := g2
    obtain ⟨i, j, rfl, rfl, g2⟩ := Xc g; clear g; have g := g2
    obtain ⟨v, u, rfl, r1, r2⟩ := rds2 hx
    cases Zc.mp r1; cases Zc.mp r2
    exact Z06 (hc.resolve_right (by simp [Tl])) pins s σ w.H _ us Q I r ⟨_, _, rfl, a _ w _ M (Ext.refl w) R (Zc.mpr rfl) g⟩
  | max2 =>
    obtain ⟨x, y, rfl, g2⟩ := Px g; clear g; have g := g2
    obtain ⟨i, j, rfl, rfl, g2⟩ := Xc g; clear g; have g := g2
    obtain ⟨v, u, rfl, r1, r2⟩ := rds2 hx
    cases Zc.mp r1; cases Zc.mp r2
    exact Cq (hc.resolve_right (by simp [Tl])) pins s σ w.H _ us Q I r ⟨_, _, rfl, a _ w _ M (Ext.refl w) R (Zc.mpr rfl) g⟩
  | list1 =>
    obtain ⟨x, rfl, g2⟩ := V7 g; clear g; have g := g2
    obtain ⟨v, rfl, r1⟩ := rds1 hx
    obtain ⟨xs, g1, g2⟩ := g
    have : ∃ p vs, v = .ref p ∧ (SqL X.K w.H p vs ∨ SqT X.K w.H p vs) ∧ RDs w xs vs := by
      rw [hK, ← e0]
      unfold Cj at g1
      split at g1
      · obtain ⟨_, rfl⟩ := Zr.mp r1
        obtain ⟨_, vs, q1, q2, _⟩ := R.listL g1
        exact ⟨_, vs, rfl, .inl q1, q2⟩
      · cases g1
        obtain ⟨p, vs, rfl, q1, q2⟩ := Xj.mp r1
        exact ⟨_, vs, rfl, .inr (.of q1), q2⟩
      · cases g1
        obtain ⟨p, vs, rfl, q1, q2⟩ := Pm.mp r1
        exact ⟨_, vs, rfl, .inr q1, q2⟩
      · cases g1
    obtain ⟨p, vs, rfl, q1, q2⟩ := this
    refine Oe pins s σ w.H _ us Q I r ⟨p, vs, rfl, q1, fun l hl => ?_⟩
    obtain ⟨x1, x2, x3⟩ := Wn R hl q2
    exact a _ _ _ _ x1 x2 x3 g2
  | tuple1 =>
    obtain ⟨x, rfl, g2⟩ := V7 g; clear g; have g := g2
    obtain ⟨n, rfl, g2⟩ := Wj g; clear g; have g := g2
    obtain ⟨v, rfl, r1⟩ := rds1 hx
    obtain ⟨_, rfl⟩ := Zr.mp r1
    obtain ⟨xs, g1, g2⟩ := g
    obtain ⟨_, vs, q1, q2, _⟩ := R.listL g1
    rw [e0, ← hK] at q1
    refine Ps pins s σ w.H _ us Q I r ⟨_, vs, rfl, .inl ⟨q1, fun l hl => ?_⟩⟩
    obtain ⟨x1, x2, x3⟩ := Rt R hl q2
    exact a _ _ _ _ x1 x2 x3 g2
  | dict1 =>
    obtain ⟨x, rfl, g2⟩ := V7 g; clear g; have g := g2
    obtain ⟨n, rfl, g2⟩ := Wj g; clear g; have g := g2
    obtain ⟨v, rfl, r1⟩ := rds1 hx
    obtain ⟨_, rfl⟩ := Zr.mp r1
    rcases g with ⟨xs, g1, g2⟩ | ⟨ps, g1, g2, g3⟩
    · obtain ⟨_, vs, q1, q2⟩ := R.dict g1
      refine E4 pins s σ w.H _ us Q I r ⟨_, vs, rfl, q1, fun l hl => ?_⟩
      obtain ⟨x1, x2, x3⟩ := Pc R hl q2
      exact a _ _ _ _ x1 x2 x3 g2
    · obtain ⟨_, vs, q1, q2, _⟩ := R.listL g1
      obtain ⟨qs, z1, z2⟩ := Gq q2
      have hl2 := q2.length
      unfold Xq at hl2
      rw [List.length_map] at hl2
      rw [e0, ← hK] at q1 z1
      refine Fh (hc.resolve_right (by simp [Tl])) pins s σ w.H _ us Q I r ⟨_, vs, qs, rfl, q1, z1, by omega, fun l hl => ?_⟩
      obtain ⟨x1, x2, x3⟩ := Pc R hl (Ga z2 (show RKV w [] [] by unfold RKV; rfl))
      exact a _ _ _ _ x1 x2 x3 g3
end
noncomputable def mtT : Mt → String
  | .append | .pop0 | .reverse | .index1 | .extend => "list"
  | .get2 => "dict"
noncomputable def mtN : Mt → Str
  | .append => "append" | .pop0 => "pop" | .reverse => "reverse" | .index1 => "index" | .extend => "extend" | .get2 => "get"
noncomputable def mtI : Mt → String
  | .append => "list.append" | .pop0 => "list.pop" | .reverse => "list.reverse" | .index1 => "list.index" | .extend => "list.extend" | .get2 => "dict.get"
theorem Zq6 : ∀ m : Mt, PlainAttrs (mtT m)
  | .append | .pop0 | .reverse | .index1 | .extend => PySem.F.plainAttrs_list
  | .get2 => PySem.F.plainAttrs_dict
theorem Bx : ∀ m : Mt, Slot (mtT m) (mtN m) (mtI m)
  | .append => PySem.F.slot_list_append | .pop0 => PySem.F.slot_list_pop | .reverse => PySem.F.slot_list_reverse | .index1 => PySem.F.slot_list_index | .extend => PySem.F.slot_list_extend
  | .get2 => PySem.F.slot_dict_get
theorem Zr6 : ∀ m : Mt, typeOf (.builtin (mtI m)) = pure (.type "method_descriptor")
  | .append => PySem.F.type_list_append | .pop0 => PySem.F.type_list_pop | .reverse => PySem.F.type_list_reverse | .index1 => PySem.F.type_list_index | .extend => PySem.F.type_list_extend
  | .get2 => PySem.F.type_dict_get
def rM (w0 : Vw) (m : Mt) : V → List V → Hp → VK → Prop := fun x xs H Q => ∃ w M dx ds QD, w.H = H ∧ w.K = w0.K ∧ RS w M ∧ RD w dx x ∧ RDs w ds xs ∧ mtD m dx ds M QD ∧ Aft w QD Q
theorem Ze7 {w : Vw} {M : Z1} {m : Mt} {d : D} {x : V} (R : RS w M) (r : RD w d x) (h : mtK m d M) : tyV w.K (mtT m) x w.H := by
  have L : ∀ {n : Nat}, RD w (.ref n) x → (Z7 M n).isSome = true → tyV w.K "list" x w.H := by
    intro n r h
    obtain ⟨_, rfl⟩ := Zr.mp r
    obtain ⟨xs, e⟩ := Option.isSome_iff_exists.mp h
    obtain ⟨_, vs, q1, _⟩ := R.listL e
    exact .inl ⟨rfl, vs, q1⟩
  have K : ∀ {n : Nat}, RD w (.ref n) x → (Y4 M n).isSome = true → tyV w.K "dict" x w.H := by
    intro n r h
    obtain ⟨_, rfl⟩ := Zr.mp r
    obtain ⟨xs, e⟩ := Option.isSome_iff_exists.mp h
    obtain ⟨_, vs, q1, _⟩ := R.dict e
    exact .inr (.inr (.inl ⟨rfl, .inl ⟨vs, q1⟩⟩))
  obtain ⟨n, rfl, h⟩ := Wj h
  cases m with
  | get2 => exact K r h
  | _ => exact L r h
theorem RDs.dropLast {w : Vw} {xs : List D} {vs : List V} (r : RDs w xs vs) : RDs w xs.dropLast vs.dropLast := by
  rw [List.dropLast_eq_take, List.dropLast_eq_take, r.length]
  exact r.take _
section
variable {X : Cx} {w0 : Vw}
theorem Z81 (hK : X.K = w0.K) (hu : X.A.units + 64 < cLine) (m : Mt) : MtR X (mtI m) (rM w0 m) := by
  intro pins s σ H x xs v us Q I rx r h
  obtain ⟨w, M, dx, ds, QD, rfl, e0, R, hx, hs, g, a⟩ := h
  obtain ⟨n, rfl, g2⟩ := Wj g; clear g; have g := g2
  cases m with
  | append =>
    obtain ⟨x, rfl, g2⟩ := V7 g; clear g; have g := g2
    obtain ⟨_, rfl⟩ := Zr.mp hx
    obtain ⟨y, rfl, ry⟩ := rds1 hs
    obtain ⟨ds, g1, g2, g3⟩ := g
    obtain ⟨hn, vs, q1, q2⟩ := R.list g1
    obtain ⟨x1, x2⟩ := Xn R hn q1 (q2.append (RDs.cons ry (RDs.nil w)))
    exact Rq pins s σ w.H _ _ v us Q I rx r ⟨_, vs, y, rfl, rfl, q1, by rw [q2.length]; exact g2, a _ _ _ _ x1 x2 (Yk.mpr rfl) g3⟩
  | index1 =>
    obtain ⟨x, rfl, g2⟩ := V7 g; clear g; have g := g2
    obtain ⟨_, rfl⟩ := Zr.mp hx
    obtain ⟨y, rfl, ry⟩ := rds1 hs
    obtain ⟨ds, k, z, g1, fd, fs, g2, g4, g5, g3⟩ := g
    obtain ⟨hn, vs, q1, q2, _⟩ := R.listL g1
    rw [e0, ← hK] at q1
    obtain ⟨zv, z1, z2⟩ := q2.get g2
    have fl := (Bz fd ry fs q2).2
    have fz : ∀ {u : D} {j : Nat}, ds[j]? = some u → Y5 u = true := fun {u j} h => by
      rw [List.all_eq_true] at fs
      exact fs _ (List.mem_of_getElem? h)
    refine Z88 pins s σ w.H _ _ v us Q I rx r ⟨_, vs, y, k, zv, rfl, rfl, q1, Vd fd ry, fl, z1, ?_, ?_, a _ w _ M (Ext.refl w) R (Zc.mpr rfl) g3⟩
    · rw [O1 (fz g2) fd z2 ry]; exact g4
    · intro j u hj hu
      have hjl : j < ds.length := by rw [← q2.length]; exact (List.getElem?_eq_some_iff.mp hu).1
      obtain ⟨u', w1, w2⟩ := q2.get (List.getElem?_eq_getElem hjl)
      rw [hu] at w1
      cases w1
      rw [O1 (fz (List.getElem?_eq_getElem hjl)) fd w2 ry]
      exact g5 j _ hj (List.getElem?_eq_getElem hjl)
  | get2 =>
    obtain ⟨x, y, rfl, g2⟩ := Px g; clear g; have g := g2
    obtain ⟨_, rfl⟩ := Zr.mp hx
    obtain ⟨y, z, rfl, ry, rz⟩ := rds2 hs
    obtain ⟨kvs, k, g1, g2, g3⟩ := g
    obtain ⟨hn, vs, q1, q2⟩ := R.dict g1
    obtain ⟨u, u2, rfl, ru, ru2⟩ := J6 r
    cases (show v = Value.ref _ from rx)
    cases Pj g2 ry
    refine Zr9 (by omega) I (DGet.k (k := k) q1) ru ru2 fun w' s' I' rw' => ⟨_, w.H, I', rw', ?_⟩
    rcases q2.val k with ⟨n1, n2⟩ | ⟨d', v', n1, n2, n3⟩
    · rw [n1] at g3
      rw [n2]
      exact a _ w _ M (Ext.refl w) R rz g3
    · rw [n1] at g3
      rw [n2]
      exact a _ w _ M (Ext.refl w) R n3 g3
  | pop0 =>
    obtain ⟨rfl, g2⟩ := Jf g; clear g; have g := g2
    obtain ⟨_, rfl⟩ := Zr.mp hx
    cases rds0 hs
    obtain ⟨ds, d, g1, g2, g3⟩ := g
    obtain ⟨hn, vs, q1, q2⟩ := R.list g1
    obtain ⟨y, z1, z2⟩ := q2.get g2
    obtain ⟨x1, x2⟩ := Xn R hn q1 q2.dropLast
    exact Zv9 pins s σ w.H _ _ v us Q I rx r ⟨_, vs, y, rfl, rfl, q1, by rw [q2.length]; exact z1, a _ _ _ _ x1 x2 (z2.ext x1) g3⟩
  | reverse =>
    obtain ⟨rfl, g2⟩ := Jf g; clear g; have g := g2
    obtain ⟨_, rfl⟩ := Zr.mp hx
    cases rds0 hs
    obtain ⟨ds, g1, g3⟩ := g
    obtain ⟨hn, vs, q1, q2⟩ := R.list g1
    obtain ⟨x1, x2⟩ := Xn R hn q1 q2.reverse
    exact Fl pins s σ w.H _ _ v us Q I rx r ⟨_, vs, rfl, rfl, q1, a _ _ _ _ x1 x2 (Yk.mpr rfl) g3⟩
  | extend =>
    obtain ⟨x, rfl, g2⟩ := V7 g; clear g; have g := g2
    obtain ⟨m2, rfl, g2⟩ := Wj g; clear g; have g := g2
    obtain ⟨_, rfl⟩ := Zr.mp hx
    obtain ⟨y, rfl, ry⟩ := rds1 hs
    obtain ⟨_, rfl⟩ := Zr.mp ry
    obtain ⟨ds, es, g1, g2, g4, g3⟩ := g
    obtain ⟨hn, vs, q1, q2⟩ := R.list g1
    obtain ⟨hn', vs', q1', q2'⟩ := R.list g2
    obtain ⟨x1, x2⟩ := Xn R hn q1 (q2.append q2')
    exact B9 pins s σ w.H _ _ v us Q I rx r ⟨_, _, vs, vs', rfl, rfl, q1, q1', by rw [q2.length, q2'.length]; exact g4, a _ _ _ _ x1 x2 (Yk.mpr rfl) g3⟩
end
noncomputable def gF (w0 : Vw) (tg : List Nat) : TG := fun v σ H Q => ∃ w σD M d QD, StOk w0 w σD M σ H ∧ RD w d v ∧ tgD tg d σD QD ∧ ∀ σ' σD', REnv w σD' σ' → QD σD' → Q σ' H
noncomputable def gAll : List Nat → TGs
  | [] => gNil
  | i :: is => Zp7 (Zb8 i) (gAll is)
theorem Gb {w : Vw} {H : Hp} {Q : L2.St → Hp → Prop} {QD : DEnv → Prop} (k : ∀ σ' σD', REnv w σD' σ' → QD σD' → Q σ' H) : ∀ (is : List Nat) {ds : List D} {vs : List V} {σ : L2.St} {σD : DEnv}, RDs w ds vs → ds.length = is.length → REnv w σD σ →
    QD ((is.zip ds).foldl (fun σ p => σ.set p.1 (some p.2)) σD) → gAll is vs σ H Q
  | [], ds, vs, σ, σD, r, hl, e, q => by
    cases List.length_eq_zero_iff.mp hl
    cases rds0 r
    exact ⟨rfl, k _ _ e q⟩
  | i :: is, ds, vs, σ, σD, r, hl, e, q => by
    cases ds with
    | nil => simp at hl
    | cons d ds =>
      unfold RDs at r
      obtain ⟨v, vr, rfl, h1, h2⟩ := r
      refine ⟨v, vr, rfl, ?_⟩
      show gAll is vr (σ.set i (some v)) H Q
      exact Gb k is h2 (by simpa using hl) (e.set i h1) q
section
variable {X : Cx} {w0 : Vw}
theorem PG.imp {e : Expr} {t t' : TG} (h : PG X e t) (k : ∀ v σ H Q, t' v σ H Q → t v σ H Q) : PG X e t' := fun pins s σ H v u Q I r q => h pins s σ H v u Q I r (k v σ H Q q)
theorem Zw9 {i : Nat} {e : Expr} (h : PG X e (Zb8 i)) : PG X e (gF w0 [i]) := PG.imp h fun v σ H Q zz62 => by obtain ⟨w, σD, M, d, QD, S, r, g, k⟩ := zz62; exact k _ _ (S.env.set i r) g
theorem Zh4 {is : List Nat} {e : Expr} (hl : 2 ≤ is.length) (h : PG X e (gTup X.K is.length (gAll is))) : PG X e (gF w0 is) := PG.imp h fun v σ H Q ⟨w, σD, M, d, QD, S, r, g, k⟩ => by
  unfold tgD at g
  split at g
  · simp at hl
  · obtain ⟨a, vs, rfl, q1, q2⟩ := Xj.mp r
    obtain ⟨g1, g2⟩ := g
    rw [S.heap] at q1
    exact ⟨a, vs, rfl, .of q1, by rw [q2.length]; exact g1, Gb k is q2 g1 S.env g2⟩
  · exact g.elim
end
structure Ck where
  N : List Str
  sc : Scope
  FN : List Str
  GN : List Str
  BN : List Str
  loops : Bool
  calm : Bool
  tries : Bool
  raises : List Nat
  cells : Bool
  own : List Str
noncomputable def ownOf (scope : Scope) : List Str := (scope.names.filter fun y => y.2 == .cell).map (·.1)
noncomputable def Ck.vis (k : Ck) (x : Str) : Bool := (k.sc.names.lookup x == some .local || k.sc.names.lookup x == some .cell || k.sc.names.lookup x == some .free) && !(x == ("__debug__" : Str)) && !(x == ("__classdict__" : Str))
noncomputable def Ck.glob (k : Ck) (x : Str) : Bool := k.sc.names.lookup x == some .globalImplicit && !(x == ("__debug__" : Str)) && !(x == ("__name__" : Str))
noncomputable def Ck.loc (k : Ck) (x : Str) : Bool := k.sc.names.lookup x == some .local
noncomputable def Ck.locC (k : Ck) (x : Str) : Bool := k.loc x || ((k.cells || k.own.contains x) && k.sc.names.lookup x == some .cell)
noncomputable def Rn : Expr → Bool
  | .Call (.Name x _) [] [] _ => x != ("super" : Str)
  | _ => true
noncomputable def Rx : Expr → Bool
  | .Slice .. => false
  | _ => true
noncomputable def O7 : Expr → Bool
  | .Set .. => false
  | _ => true
noncomputable def Rb : Expr → Bool
  | .Starred .. => false
  | _ => true
noncomputable def isIn : Cm → Bool
  | .notin => true
  | _ => false
noncomputable def Zm4 (k : Ck) : List Nat → List Expr → Bool
  | [], [] => true
  | i :: is, .Name x _ :: es => k.N[i]? == some x && k.locC x && Zm4 k is es
  | _, _ => false
noncomputable def Rf (k : Ck) (is : List Nat) : Expr → Bool
  | .Name x _ => match is with
    | [i] => k.N[i]? == some x && k.locC x
    | _ => false
  | .Tuple es _ _ => k.calm && decide (2 ≤ is.length) && Zm4 k is es
  | _ => false
theorem Zm {c : Prop} [Decidable c] {F : c → Bool} (h : (if q : c then F q else false) = true) : ∃ q : c, F q = true := by
  by_cases q : c
  · rw [dif_pos q] at h; exact ⟨q, h⟩
  · rw [dif_neg q] at h; exact absurd h Bool.false_ne_true
noncomputable def Wt (zz : Expr) (F : Str → Bool) : Bool := if q : zz.ctorIdx = 23 then Expr.Name.elim (motive_1 := fun _ => Bool) zz q (fun x _ => F x) else false
theorem Y9 {zz : Expr} {F : Str → Bool} (h : Wt zz F = true) : ∃ x p, zz = .Name x p ∧ F x = true := by
  obtain ⟨q, h⟩ := Zm h
  exact Expr.Name.elim (motive_1 := fun zz => ∀ q : zz.ctorIdx = 23, Expr.Name.elim (motive_1 := fun _ => Bool) zz q (fun x _ => F x) = true → ∃ x p, zz = .Name x p ∧ F x = true) zz q (fun x p _ h => ⟨x, p, rfl, h⟩) q h
noncomputable def Th (zz : Expr) (F : Const → Bool) : Bool := if q : zz.ctorIdx = 19 then Expr.Constant.elim (motive_1 := fun _ => Bool) zz q (fun v _ _ => F v) else false
theorem Xr {zz : Expr} {F : Const → Bool} (h : Th zz F = true) : ∃ v j p, zz = .Constant v j p ∧ F v = true := by
  obtain ⟨q, h⟩ := Zm h
  exact Expr.Constant.elim (motive_1 := fun zz => ∀ q : zz.ctorIdx = 19, Expr.Constant.elim (motive_1 := fun _ => Bool) zz q (fun v _ _ => F v) = true → ∃ v j p, zz = .Constant v j p ∧ F v = true) zz q (fun v j p _ h => ⟨v, j, p, rfl, h⟩) q h
noncomputable def Zv3 (zz : Expr) (F : Expr → Operator → Expr → Bool) : Bool := if q : zz.ctorIdx = 2 then Expr.BinOp.elim (motive_1 := fun _ => Bool) zz q (fun l o r _ => F l o r) else false
theorem Z45 {zz : Expr} {F : Expr → Operator → Expr → Bool} (h : Zv3 zz F = true) : ∃ l o r p, zz = .BinOp l o r p ∧ F l o r = true := by
  obtain ⟨q, h⟩ := Zm h
  exact Expr.BinOp.elim (motive_1 := fun zz => ∀ q : zz.ctorIdx = 2, Expr.BinOp.elim (motive_1 := fun _ => Bool) zz q (fun l o r _ => F l o r) = true → ∃ l o r p, zz = .BinOp l o r p ∧ F l o r = true) zz q (fun l o r p _ h => ⟨l, o, r, p, rfl, h⟩) q h
noncomputable def onUn (zz : Expr) (F : UnaryOp → Expr → Bool) : Bool := if q : zz.ctorIdx = 3 then Expr.UnaryOp.elim (motive_1 := fun _ => Bool) zz q (fun o l _ => F o l) else false
theorem Pp {zz : Expr} {F : UnaryOp → Expr → Bool} (h : onUn zz F = true) : ∃ o l p, zz = .UnaryOp o l p ∧ F o l = true := by
  obtain ⟨q, h⟩ := Zm h
  exact Expr.UnaryOp.elim (motive_1 := fun zz => ∀ q : zz.ctorIdx = 3, Expr.UnaryOp.elim (motive_1 := fun _ => Bool) zz q (fun o l _ => F o l) = true → ∃ o l p, zz = .UnaryOp o l p ∧ F o l = true) zz q (fun o l p _ h => ⟨o, l, p, rfl, h⟩) q h
noncomputable def Zp8 (zz : Expr) (F : Expr → (List CmpOp) → (List Expr) → Bool) : Bool := if q : zz.ctorIdx = 15 then Expr.Compare.elim (motive_1 := fun _ => Bool) zz q (fun l os rs _ => F l os rs) else false
theorem B1 {zz : Expr} {F : Expr → (List CmpOp) → (List Expr) → Bool} (h : Zp8 zz F = true) : ∃ l os rs p, zz = .Compare l os rs p ∧ F l os rs = true := by
  obtain ⟨q, h⟩ := Zm h
  exact Expr.Compare.elim (motive_1 := fun zz => ∀ q : zz.ctorIdx = 15, Expr.Compare.elim (motive_1 := fun _ => Bool) zz q (fun l os rs _ => F l os rs) = true → ∃ l os rs p, zz = .Compare l os rs p ∧ F l os rs = true) zz q (fun l os rs p _ h => ⟨l, os, rs, p, rfl, h⟩) q h
noncomputable def Ze1 (zz : Expr) (F : BoolOp → (List Expr) → Bool) : Bool := if q : zz.ctorIdx = 0 then Expr.BoolOp.elim (motive_1 := fun _ => Bool) zz q (fun o ls _ => F o ls) else false
theorem Ft {zz : Expr} {F : BoolOp → (List Expr) → Bool} (h : Ze1 zz F = true) : ∃ o ls p, zz = .BoolOp o ls p ∧ F o ls = true := by
  obtain ⟨q, h⟩ := Zm h
  exact Expr.BoolOp.elim (motive_1 := fun zz => ∀ q : zz.ctorIdx = 0, Expr.BoolOp.elim (motive_1 := fun _ => Bool) zz q (fun o ls _ => F o ls) = true → ∃ o ls p, zz = .BoolOp o ls p ∧ F o ls = true) zz q (fun o ls p _ h => ⟨o, ls, p, rfl, h⟩) q h
noncomputable def onIf (zz : Expr) (F : Expr → Expr → Expr → Bool) : Bool := if q : zz.ctorIdx = 5 then Expr.IfExp.elim (motive_1 := fun _ => Bool) zz q (fun x l r _ => F x l r) else false
theorem Z71 {zz : Expr} {F : Expr → Expr → Expr → Bool} (h : onIf zz F = true) : ∃ x l r p, zz = .IfExp x l r p ∧ F x l r = true := by
  obtain ⟨q, h⟩ := Zm h
  exact Expr.IfExp.elim (motive_1 := fun zz => ∀ q : zz.ctorIdx = 5, Expr.IfExp.elim (motive_1 := fun _ => Bool) zz q (fun x l r _ => F x l r) = true → ∃ x l r p, zz = .IfExp x l r p ∧ F x l r = true) zz q (fun x l r p _ h => ⟨x, l, r, p, rfl, h⟩) q h
noncomputable def Zu7 (zz : Expr) (F : (List Expr) → Bool) : Bool := if q : zz.ctorIdx = 24 then Expr.List.elim (motive_1 := fun _ => Bool) zz q (fun ls _ => F ls) else false
theorem Cp {zz : Expr} {F : (List Expr) → Bool} (h : Zu7 zz F = true) : ∃ ls p, zz = .List ls p ∧ F ls = true := by
  obtain ⟨q, h⟩ := Zm h
  exact Expr.List.elim (motive_1 := fun zz => ∀ q : zz.ctorIdx = 24, Expr.List.elim (motive_1 := fun _ => Bool) zz q (fun ls _ => F ls) = true → ∃ ls p, zz = .List ls p ∧ F ls = true) zz q (fun ls p _ h => ⟨ls, p, rfl, h⟩) q h
noncomputable def Zk6 (zz : Expr) (F : (List Expr) → Bool) : Bool := if q : zz.ctorIdx = 25 then Expr.Tuple.elim (motive_1 := fun _ => Bool) zz q (fun ls _ _ => F ls) else false
theorem Nb {zz : Expr} {F : (List Expr) → Bool} (h : Zk6 zz F = true) : ∃ ls j p, zz = .Tuple ls j p ∧ F ls = true := by
  obtain ⟨q, h⟩ := Zm h
  exact Expr.Tuple.elim (motive_1 := fun zz => ∀ q : zz.ctorIdx = 25, Expr.Tuple.elim (motive_1 := fun _ => Bool) zz q (fun ls _ _ => F ls) = true → ∃ ls j p, zz = .Tuple ls j p ∧ F ls = true) zz q (fun ls j p _ h => ⟨ls, j, p, rfl, h⟩) q h
noncomputable def Zv0 (zz : Expr) (F : (List (Option Expr)) → (List Expr) → Bool) : Bool := if q : zz.ctorIdx = 6 then Expr.Dict.elim (motive_1 := fun _ => Bool) zz q (fun ks vs _ => F ks vs) else false
theorem Bo {zz : Expr} {F : (List (Option Expr)) → (List Expr) → Bool} (h : Zv0 zz F = true) : ∃ ks vs p, zz = .Dict ks vs p ∧ F ks vs = true := by
  obtain ⟨q, h⟩ := Zm h
  exact Expr.Dict.elim (motive_1 := fun zz => ∀ q : zz.ctorIdx = 6, Expr.Dict.elim (motive_1 := fun _ => Bool) zz q (fun ks vs _ => F ks vs) = true → ∃ ks vs p, zz = .Dict ks vs p ∧ F ks vs = true) zz q (fun ks vs p _ h => ⟨ks, vs, p, rfl, h⟩) q h
noncomputable def B5 (zz : Expr) (F : Expr → Expr → Bool) : Bool := if q : zz.ctorIdx = 21 then Expr.Subscript.elim (motive_1 := fun _ => Bool) zz q (fun l r _ => F l r) else false
theorem T6 {zz : Expr} {F : Expr → Expr → Bool} (h : B5 zz F = true) : ∃ l r p, zz = .Subscript l r p ∧ F l r = true := by
  obtain ⟨q, h⟩ := Zm h
  exact Expr.Subscript.elim (motive_1 := fun zz => ∀ q : zz.ctorIdx = 21, Expr.Subscript.elim (motive_1 := fun _ => Bool) zz q (fun l r _ => F l r) = true → ∃ l r p, zz = .Subscript l r p ∧ F l r = true) zz q (fun l r p _ h => ⟨l, r, p, rfl, h⟩) q h
noncomputable def Zk1 (zz : Expr) (F : (Option Expr) → (Option Expr) → (Option Expr) → Bool) : Bool := if q : zz.ctorIdx = 26 then Expr.Slice.elim (motive_1 := fun _ => Bool) zz q (fun x y z _ => F x y z) else false
theorem N1 {zz : Expr} {F : (Option Expr) → (Option Expr) → (Option Expr) → Bool} (h : Zk1 zz F = true) : ∃ x y z p, zz = .Slice x y z p ∧ F x y z = true := by
  obtain ⟨q, h⟩ := Zm h
  exact Expr.Slice.elim (motive_1 := fun zz => ∀ q : zz.ctorIdx = 26, Expr.Slice.elim (motive_1 := fun _ => Bool) zz q (fun x y z _ => F x y z) = true → ∃ x y z p, zz = .Slice x y z p ∧ F x y z = true) zz q (fun x y z p _ h => ⟨x, y, z, p, rfl, h⟩) q h
noncomputable def Rm (zz : Expr) (F : Expr → (List Expr) → (List Keyword) → Pos → Bool) : Bool := if q : zz.ctorIdx = 16 then Expr.Call.elim (motive_1 := fun _ => Bool) zz q (fun fn ls kws p => F fn ls kws p) else false
theorem Xp {zz : Expr} {F : Expr → (List Expr) → (List Keyword) → Pos → Bool} (h : Rm zz F = true) : ∃ fn ls kws p, zz = .Call fn ls kws p ∧ F fn ls kws p = true := by
  obtain ⟨q, h⟩ := Zm h
  exact Expr.Call.elim (motive_1 := fun zz => ∀ q : zz.ctorIdx = 16, Expr.Call.elim (motive_1 := fun _ => Bool) zz q (fun fn ls kws p => F fn ls kws p) = true → ∃ fn ls kws p, zz = .Call fn ls kws p ∧ F fn ls kws p = true) zz q (fun fn ls kws p _ h => ⟨fn, ls, kws, p, rfl, h⟩) q h
noncomputable def Z36 (zz : Expr) (F : Expr → Str → Pos → Bool) : Bool := if q : zz.ctorIdx = 20 then Expr.Attribute.elim (motive_1 := fun _ => Bool) zz q (fun l g p => F l g p) else false
theorem Qs {zz : Expr} {F : Expr → Str → Pos → Bool} (h : Z36 zz F = true) : ∃ l g p, zz = .Attribute l g p ∧ F l g p = true := by
  obtain ⟨q, h⟩ := Zm h
  exact Expr.Attribute.elim (motive_1 := fun zz => ∀ q : zz.ctorIdx = 20, Expr.Attribute.elim (motive_1 := fun _ => Bool) zz q (fun l g p => F l g p) = true → ∃ l g p, zz = .Attribute l g p ∧ F l g p = true) zz q (fun l g p _ h => ⟨l, g, p, rfl, h⟩) q h
noncomputable def onLC (zz : Expr) (F : Expr → (List Comprehension) → Scope → Bool) : Bool := if q : zz.ctorIdx = 8 then Expr.ListComp.elim (motive_1 := fun _ => Bool) zz q (fun el gens scope _ => F el gens scope) else false
theorem Sg {zz : Expr} {F : Expr → (List Comprehension) → Scope → Bool} (h : onLC zz F = true) : ∃ el gens scope p, zz = .ListComp el gens scope p ∧ F el gens scope = true := by
  obtain ⟨q, h⟩ := Zm h
  exact Expr.ListComp.elim (motive_1 := fun zz => ∀ q : zz.ctorIdx = 8, Expr.ListComp.elim (motive_1 := fun _ => Bool) zz q (fun el gens scope _ => F el gens scope) = true → ∃ el gens scope p, zz = .ListComp el gens scope p ∧ F el gens scope = true) zz q (fun el gens scope p _ h => ⟨el, gens, scope, p, rfl, h⟩) q h
noncomputable def isU (o : UnaryOp) : Bool := match o with
  | .USub => true
  | _ => false
noncomputable def isI1 (v : Const) : Bool := match v with
  | .int j => j == 1
  | _ => false
noncomputable def isM1 (z : Expr) : Bool := onUn z fun o l => isU o && Th l fun v => isI1 v
noncomputable def itTg (it : It) (t : Expr) : Bool := match it with
  | .enm _ => Zk6 t fun _ => true
  | _ => true
noncomputable def on0 {α : Type} (l : List α) (b : Bool) : Bool := match l with
  | [] => b
  | _ :: _ => false
noncomputable def on1 {α : Type} (l : List α) (F : α → Bool) : Bool := match l with
  | [] => false
  | x :: r => on0 r (F x)
noncomputable def onC {α : Type} (l : List α) (F : α → List α → Bool) : Bool := match l with
  | [] => false
  | x :: r => F x r
theorem Xg {α : Type} {l : List α} {b : Bool} (h : on0 l b = true) : l = [] ∧ b = true := by
  cases l with
  | nil => exact ⟨rfl, h⟩
  | cons _ _ => exact absurd h Bool.false_ne_true
theorem Wm {α : Type} {l : List α} {F : α → Bool} (h : on1 l F = true) : ∃ x, l = [x] ∧ F x = true := by
  cases l with
  | nil => exact absurd h Bool.false_ne_true
  | cons x r => obtain ⟨rfl, h⟩ := Xg h; exact ⟨x, rfl, h⟩
theorem C3 {α : Type} {l : List α} {F : α → List α → Bool} (h : onC l F = true) : ∃ x r, l = x :: r ∧ F x r = true := by
  cases l with
  | nil => exact absurd h Bool.false_ne_true
  | cons x r => exact ⟨x, r, rfl, h⟩
noncomputable def noO {α : Type} (o : Option α) (b : Bool) : Bool := match o with
  | none => b
  | some _ => false
theorem Nv {α : Type} {o : Option α} {b : Bool} (h : noO o b = true) : o = none ∧ b = true := by
  cases o with
  | none => exact ⟨rfl, h⟩
  | some _ => exact absurd h Bool.false_ne_true
noncomputable def onZ (i : Int) (b : Bool) : Bool := match i with
  | .ofNat 0 => b
  | _ => false
theorem Z11 {i : Int} {b : Bool} (h : onZ i b = true) : i = 0 ∧ b = true := by
  rcases i with (_ | n) | n
  · exact ⟨rfl, h⟩
  · exact absurd h Bool.false_ne_true
  · exact absurd h Bool.false_ne_true
noncomputable def soO {α : Type} (o : Option α) (F : α → Bool) : Bool := match o with
  | none => false
  | some x => F x
theorem Z41 {α : Type} {o : Option α} {F : α → Bool} (h : soO o F = true) : ∃ x, o = some x ∧ F x = true := by
  cases o with
  | none => exact absurd h Bool.false_ne_true
  | some x => exact ⟨x, rfl, h⟩
mutual
noncomputable def chkE (k : Ck) : E → Expr → Bool
  | .var i, ex => Wt ex fun x => k.N[i]? == some x && k.vis x
  | .int i, ex => Th ex fun v => match v with
    | .int j => i == j
    | _ => false
  | .bl b, ex => Th ex fun v => match v with
    | .bool c => b == c
    | _ => false
  | .non, ex => Th ex fun v => match v with
    | .none => true
    | _ => false
  | .str x, ex => Th ex fun v => match v with
    | .str y => x == y
    | _ => false
  | .ty t, ex => Wt ex fun x => x == Str.ofString (X9 t) && k.glob x && k.BN.contains x
  | .glb g, ex => Wt ex fun x => k.GN[g]? == some x && k.glob x
  | .bin op a b, ex => Zv3 ex fun l o r => o == opOf op && chkE k a l && chkE k b r
  | .neg a, ex => onUn ex fun o l => o == .USub && chkE k a l
  | .not a, ex => onUn ex fun o l => o == .Not && chkE k a l
  | .cmp op a b, ex => Zp8 ex fun l os rs => on1 os fun o => on1 rs fun r => o == cmOf op && (!isIn op || O7 r) && chkE k a l && chkE k b r
  | .bop b es, ex => Ze1 ex fun o ls => o == (if b then .And else .Or) && To k es ls
  | .ife t a b, ex => onIf ex fun x l r => chkE k t x && chkE k a l && chkE k b r && noIf t
  | .lst es, ex => Zu7 ex fun ls => To k es ls
  | .tup es, ex => Zk6 ex fun ls => To k es ls
  | .dict0, ex => Zv0 ex fun ks vs => on0 ks (on0 vs true)
  | .ix a b, ex => B5 ex fun l r => Rx r && chkE k a l && chkE k b r
  | .sl a lo hi, ex => B5 ex fun l r => Zk1 r fun x y z => noO z (chkE k a l && chkO k lo x && chkO k hi y)
  | .rev a, ex => B5 ex fun l r => Zk1 r fun x y z => noO x (noO y (soO z fun z => chkE k a l && isM1 z))
  | .call f es, ex => Rm ex fun fn ls kws _ => Wt fn fun x => on0 kws (k.calm && k.FN[f]? == some x && k.glob x && To k es ls)
  | .bf b es, ex => Rm ex fun fn ls kws _ => Wt fn fun x => on0 kws (onC ls fun l ls => (k.calm || Tl b) && x == (bfOf b).1 && k.glob x && k.BN.contains x && To k es (l :: ls))
  | .mt m o es, ex => Rm ex fun fn ls kws cp => Z36 fn fun l nm ap => on0 kws (nm == mtN m && Rn l && ap.endLine == cp.line && decide (ls.length < 30) && chkE k o l && To k es ls)
  | .fld o f, ex => Z36 ex fun l g _ => f == g && Rn l && chkE k o l
  | .comp N' js tg it cd e, ex => onLC ex fun el gens scope => on1 gens fun g => match g with
    | ⟨t, iter, ifs, as⟩ => onZ as (k.calm && T4 k.sc k.N N' js scope && O7 iter && Zn2 k it iter && decide N'.Nodup &&
      Rf { k with N := N', sc := Wu scope k.sc, cells := false, own := ownOf scope, tries := false, raises := [] } tg t && chkC { k with N := N', sc := Wu scope k.sc, cells := false, own := ownOf scope, tries := false, raises := [] } cd ifs && chkE { k with N := N', sc := Wu scope k.sc, cells := false, own := ownOf scope, tries := false, raises := [] } e el && itTg it t)
noncomputable def To (k : Ck) : Es → List Expr → Bool
  | .nil, [] => true
  | .cons e r, x :: xs => chkE k e x && Rb x && To k r xs
  | _, _ => false
noncomputable def chkO (k : Ck) : Eo → Option Expr → Bool
  | .no, none => true
  | .yes e, some x => chkE k e x
  | _, _ => false
noncomputable def chkC (k : Ck) : Eo → List Expr → Bool
  | .no, [] => true
  | .yes e, [x] => chkE k e x && noIf e
  | _, _ => false
noncomputable def Zn2 (k : Ck) : It → Expr → Bool
  | .seq e, x => chkE k e x
  | .rng1 a, ex => Rm ex fun fn ls kws _ => Wt fn fun x => on0 kws (on1 ls fun l => x == ("range" : Str) && k.glob x && k.BN.contains x && Rb l && chkE k a l)
  | .rng2 a b, ex => Rm ex fun fn ls kws _ => Wt fn fun x => on0 kws (onC ls fun l ls => on1 ls fun r => x == ("range" : Str) && k.glob x && k.BN.contains x && Rb l && Rb r && chkE k a l && chkE k b r)
  | .enm e, ex => Rm ex fun fn ls kws _ => Wt fn fun x => on0 kws (on1 ls fun l => x == ("enumerate" : Str) && k.glob x && k.BN.contains x && Rb l && chkE k e l)
noncomputable def noIf : E → Bool
  | .ife _ _ _ => false
  | .not a => noIf a
  | .bop _ es => Z14 es
  | _ => true
noncomputable def Z14 : Es → Bool
  | .nil => true
  | .cons e r => noIf e && Z14 r
end
def Za8 (X : Cx) (x : Str) (sp : DSp) : Prop :=
  ∃ (kk : Nat) (f : Addr) (fd : FuncData) (ps : List Str) (ds : List Value) (dvs : List V) (dD : List D) (sp0 : DSp), FnOk X.prog X.w X.K X.mg X.base (CX1 X.prog X.w) kk f fd ps (spF X.K sp0) ∧ Room kk X.A ∧ X.mg x = some (.ref f) ∧ PySem.W.keepIn X.K (.ref f) = true ∧
    Yl X.K fd ps ds ∧ Vals dvs ds ∧ (∀ w : Vw, w.K = X.K → RDs w dD dvs) ∧ ∀ as M Q Z, sp as M Q Z → sp0 (as ++ dD) M Q Z
structure Good (c : Cfg) (k : Ck) (Z : DX) (w0 : Vw) (X : Cx) : Prop where
  hK : X.K = c.K
  wK : w0.K = c.K
  N : X.N = k.N
  nd : X.N.Nodup
  sc : X.env.scope = k.sc
  calm : k.calm = true → X.calm = true
  units : X.A.units + 64 < cLine
  fns : k.calm = true → ∀ (f : Nat) (x : Str) (sp : DSp), k.FN[f]? = some x → c.Γ[f]? = some sp → Za8 X x sp
  flen : k.FN.length = c.Γ.length
  glb : ∀ (g : Nat) (x : Str) (d : D), k.GN[g]? = some x → c.G[g]? = some d → ∃ v u, X.mg x = some u ∧ RelV v u ∧ ∀ w : Vw, w.K = X.K → RD w d v
  blt : ∀ x, x ∈ k.BN → X.mg x = none
  exc : ∃ E, Jx (CX1 X.prog X.w) X E ∧ ∀ cls dd H', xkOf w0 Z cls dd H' → E cls dd H'
  stk : k.tries = true → X.stack = X.env :: X.outer ∧ X.env.frame = some X.env.locals
  po : k.loops = true → PassesOwn (model X.prog X.w) X.A X.env X.xe
  fnc : k.cells = true → ∀ x, X.fn x = true
  fno : ∀ x, x ∈ k.own → X.fn x = true
theorem Bh {w w' : Vw} {Z : DX} {cls : Value} {dd : Option Addr} {H' : Hp} (x : Ext w w') (h : xkOf w' Z cls dd H') : xkOf w Z cls dd H' := by
  obtain ⟨C, dx, r, w2, row, M, e1, e2, e3, e4, h5⟩ := h
  exact ⟨C, dx, r, w2, row, M, e1, e2, e3, x.trans e4, h5⟩
def ttD (f : DE) : DT := fun σ M Q => f σ M fun x M1 => truD M1 x fun b => Q b M1
section
variable {c : Cfg} {k : Ck} {Z : DX} {w0 : Vw} {X : Cx}
theorem Good.gl (G : Good c k Z w0 X) {x : Str} (h : k.glob x = true) : Gl X x ∧ (x == ("__debug__" : Str)) = false ∧ x ≠ "__name__" := by
  unfold Ck.glob at h
  simp only [Bool.and_eq_true, beq_iff_eq, Bool.not_eq_true', beq_eq_false_iff_ne] at h
  refine ⟨?_, by simpa using h.1.2, h.2⟩
  unfold Gl Env.kindOf
  rw [G.sc]; exact h.1.1
theorem Good.vis (G : Good c k Z w0 X) {x : Str} (h : k.vis x = true) : Vis X.env.scope x ∧ (x == ("__debug__" : Str)) = false ∧ (x == ("__classdict__" : Str)) = false := by
  unfold Ck.vis at h
  simp only [Bool.and_eq_true, beq_iff_eq, Bool.not_eq_true', Bool.or_eq_true] at h
  refine ⟨?_, h.1.2, h.2⟩
  unfold Vis
  rw [G.sc]
  rcases h.1.1 with (q | q) | q
  · exact .inl q
  · exact .inr (.inl q)
  · exact .inr (.inr q)
theorem Good.locC (G : Good c k Z w0 X) {x : Str} (h : k.locC x = true) : Loc X.env.scope x ∧ (X.fn x = true ∨ X.env.scope.names.lookup x = some .local) := by
  unfold Ck.locC Ck.loc at h
  rw [Bool.or_eq_true, Bool.and_eq_true] at h
  rcases h with h | ⟨h1, h2⟩
  · have hl : X.env.scope.names.lookup x = some .local := by rw [G.sc]; exact eq_of_beq h
    exact ⟨.inl hl, .inr hl⟩
  · refine ⟨.inr (by rw [G.sc]; exact eq_of_beq h2), .inl ?_⟩
    rw [Bool.or_eq_true, List.contains_iff_mem] at h1
    rcases h1 with z | z
    · exact G.fnc z x
    · exact G.fno x z
theorem Good.eK (G : Good c k Z w0 X) : X.K = w0.K := G.hK.trans G.wK.symm
theorem StOk.K {w w0 : Vw} {σD : DEnv} {M : Z1} {σ : L2.St} {H : Hp} (S : StOk w0 w σD M σ H) : w.K = w0.K := S.ext.K
theorem Yg {f : DE} {σ : L2.St} {w : Vw} {σD : DEnv} {M : Z1} {H : Hp} {Q : VK} {QD : DK} (S : StOk w0 w σD M σ H) (h : f σD M QD) (a : Aft w QD Q) : tF w0 f σ H Q := ⟨w, σD, M, QD, S, h, a⟩
theorem R9 {l : Expr} {nm : Str} {env : Env} (h : Rn l = true) : attributeBase l nm env (eval l env) = eval l env := by
  revert h
  refine Expr.casesOn (motive_1 := fun l => Rn l = true → attributeBase l nm env (eval l env) = eval l env) l ?_ ?_ ?_ ?_ ?_ ?_ ?_ ?_ ?_ ?_ ?_ ?_ ?_ ?_ ?_ ?_ ?_ ?_ ?_ ?_ ?_ ?_ ?_ ?_ ?_ ?_ ?_ <;> first | (intros; rfl) | skip
  intro fn as kws pos
  refine Expr.casesOn (motive_1 := fun fn => Rn (.Call fn as kws pos) = true → attributeBase (.Call fn as kws pos) nm env (eval (.Call fn as kws pos) env) = eval (.Call fn as kws pos) env) fn ?_ ?_ ?_ ?_ ?_ ?_ ?_ ?_ ?_ ?_ ?_ ?_ ?_ ?_ ?_ ?_ ?_ ?_ ?_ ?_ ?_ ?_ ?_ ?_ ?_ ?_ ?_ <;> first | (intros; rfl) | skip
  intro id np
  cases as with
  | cons _ _ => exact fun _ => rfl
  | nil =>
    cases kws with
    | cons _ _ => exact fun _ => rfl
    | nil =>
      intro h
      have q : (id != ("super" : Str)) = true := h
      have q2 : (id != "super" || nm == "__class__" || env.kindOf "super" != some .globalImplicit || env.kindOf "__class__" != some .free) = true := by rw [q]; rfl
      exact if_pos q2
theorem Y2 {x : Expr} {xs : List Expr} {env : Env} (h : Rb x = true) : starEach (x :: xs) env = (false, eval x env) :: starEach xs env := by
  revert h
  refine Expr.casesOn (motive_1 := fun x => Rb x = true → starEach (x :: xs) env = (false, eval x env) :: starEach xs env) x ?_ ?_ ?_ ?_ ?_ ?_ ?_ ?_ ?_ ?_ ?_ ?_ ?_ ?_ ?_ ?_ ?_ ?_ ?_ ?_ ?_ ?_ ?_ ?_ ?_ ?_ ?_ <;> intros <;> first | rfl | exact absurd (by assumption) Bool.false_ne_true
theorem Wx {k : Ck} {env : Env} : ∀ (es : Es) (xs : List Expr), To k es xs = true → (starEach xs env).all (fun p => !p.1) = true
  | .nil, [], _ => rfl
  | .nil, _ :: _, h => absurd h Bool.false_ne_true
  | .cons e r, [], h => absurd h Bool.false_ne_true
  | .cons e r, x :: xs, h => by
    simp only [To, Bool.and_eq_true] at h
    rw [Y2 h.1.2]
    simp only [List.all_cons, Bool.not_false, Bool.true_and]
    exact Wx r xs h.2
theorem Qw {pos : Pos} {l : List (Bool × Sem Value)} (h : l.all (fun p => !p.1) = true) : (backTo pos l).any (·.1) = false := by
  induction l with
  | nil => rfl
  | cons p r ih =>
    simp only [List.all_cons, Bool.and_eq_true, Bool.not_eq_true'] at h
    show (p.1 || (backTo pos r).any (·.1)) = false
    rw [h.1, ih h.2]; rfl
theorem Z65 {pos : Pos} {l : List (Bool × Sem Value)} (h : l.all (fun p => !p.1) = true) : (backTo pos l).all (fun x => !x.1) = true := by
  induction l with
  | nil => rfl
  | cons p r ih =>
    simp only [List.all_cons, Bool.and_eq_true] at h
    show ((!p.1) && (backTo pos r).all (fun x => !x.1)) = true
    rw [h.1, ih h.2]; rfl
theorem Zz2 {f : DE} {ex : Expr} (G : Good c k Z w0 X) (h : PE X ex (tF w0 f)) (he : ∀ whole, isTrue ex X.env whole = (do let v ← whole; standAt ex.pos; holding [v] (truthy v))) : PT X ex (tFT w0 (ttD f)) := by
  refine PT.imp (Z57 h he) fun σ H Q zz64 => ?_
  obtain ⟨w, σD, M, QD, S, g, a⟩ := zz64
  refine Yg S g fun v w' d M' x r rd q => ?_
  obtain ⟨b, t1, t2⟩ := T7 (K := X.K) (by rw [x.K, S.K, G.eK]) r rd q
  exact ⟨b, t1, a b w' M' x r t2⟩
theorem Zm7 {f : DE} {ex : Expr} (h : PT X ex (Zy0 (tF w0 f))) (hb : ∀ σD M QD, f σD M QD → f σD M fun d M' => (∃ b, d = .bl b) ∧ QD d M') : PT X ex (tFT w0 (ttD f)) := by
  refine PT.imp h fun σ H Q zz65 => ?_
  obtain ⟨w, σD, M, QD, S, g, a⟩ := zz65
  refine Yg S (hb _ _ _ g) fun v w' d M' x r rd q => ?_
  obtain ⟨⟨b, rfl⟩, q⟩ := q
  cases Wd.mp rd
  exact ⟨b, rfl, a b w' M' x r q⟩
theorem C4 {fa fb : DE} {g : D → D → Z1 → DK → Prop} {σ : L2.St} {H : Hp} {Q : VK} (h : tF w0 (fun σD M QD => fa σD M fun x M1 => fb σD M1 fun y M2 => g x y M2 QD) σ H Q) : tOp (rF w0 g) (tF w0 fa) (tF w0 fb) σ H Q := by
  obtain ⟨w, σD, M, QD, S, g0, a⟩ := h
  refine Yg S g0 fun x w1 dx M1 x1 r1 rx q1 => ?_
  refine Yg (S.next x1 r1) q1 fun y w2 dy M2 x2 r2 ry q2 => ?_
  exact ⟨w2, M2, dx, dy, QD, rfl, (S.ext.trans x1).trans x2, r2, rx.ext x2, ry, q2, a.ext (x1.trans x2)⟩
theorem Od {fa fb : DE} {g : Z1 → D → D → (Bool → Prop) → Prop} {σ : L2.St} {H : Hp} {Q : VK} (h : tF w0 (fun σD M QD => fa σD M fun x M1 => fb σD M1 fun y M2 => g M2 x y fun b => QD (.bl b) M2) σ H Q) : tOp (rB w0 g) (tF w0 fa) (tF w0 fb) σ H Q := by
  obtain ⟨w, σD, M, QD, S, g0, a⟩ := h
  refine Yg S g0 fun x w1 dx M1 x1 r1 rx q1 => ?_
  refine Yg (S.next x1 r1) q1 fun y w2 dy M2 x2 r2 ry q2 => ?_
  exact ⟨w2, M2, dx, dy, _, rfl, ((S.ext.trans x1).trans x2).K, r2, rx.ext x2, ry, q2, fun b hb => a _ w2 _ M2 (x1.trans x2) r2 (Wd.mpr rfl) hb⟩
theorem Zg8 {a : Expr} {ta : TE} {pos : Pos} (ha : PE X a ta) : PE X (.UnaryOp .Not a pos) (fun σ H Q => ta σ H fun x H1 => ∃ b, TruV X.K x H1 b ∧ Q (.bl (!b)) H1) := by
  intro pins s σ H Q I h
  refine UnaryOp_ (thn (ha pins s σ H _ I h) fun v s1 zz66 => ?_)
  obtain ⟨x, H1, I1, r1, q1⟩ := zz66
  refine not_of (thn (Jv pins s1 σ H1 x v (fun b H2 => Q (.bl (!b)) H2) I1 r1 q1) fun b s2 zz67 => by obtain ⟨H2, I2, q2⟩ := zz67; exact ⟨.bl (!b), H2, I2, rfl, q2⟩)
theorem Zf8 (t : Ty) : bootBuiltins (Str.ofString (X9 t)) = some (.type (X9 t)) := by
  cases t
  · exact boot_int
  · exact boot_str
  · exact boot_bool
  · exact boot_list
  · exact boot_tuple
  · exact boot_dict
  · show bootBuiltins "ValueError" = some (.type "ValueError")
    decide +kernel
theorem Zl9 (b : Bf) : bootBuiltins (bfOf b).1 = some (bfOf b).2 := by
  cases b <;> first | exact PySem.boot_len | exact boot_isinstance | exact PyProof.Rows.boot_min | exact PyProof.Rows.boot_max | exact boot_list | exact boot_tuple | exact boot_dict | exact boot_str
end
def JOk (w1 : Vw) (J : L2.It) (own : Own) (xs : List D) : Prop := ∀ w M, Ext w1 w → RS w M → Qz own xs M → ∀ i : Nat,
  (∀ d, xs[i]? = some d → J.go i w.H ∧ ∀ x H', J.yld i w.H x H' → ∃ w', w'.H = H' ∧ Ext w w' ∧ RS w' M ∧ RD w' d x) ∧ (xs.length ≤ i → J.stop i w.H)
def iF (w0 : Vw) (f : DEnv → Z1 → (Own → List D → Z1 → Prop) → Prop) : TI := fun σ H R => ∃ w σD M QD, StOk w0 w σD M σ H ∧ f σD M QD ∧
  ∀ J w' own xs M', Ext w w' → RS w' M' → JOk w' J own xs → QD own xs M' → R J w'.H
section
variable {c : Cfg} {k : Ck} {Z : DX} {w0 : Vw} {X : Cx}
theorem PI.imp {tg it : Expr} {t t' : TI} (h : PI X tg it t) (q : ∀ σ H R, t' σ H R → t σ H R) : PI X tg it t' := fun pins s σ H R I z => h pins s σ H R I (q σ H R z)
theorem Zx2 {tg l : Expr} {tl : TE} (hl : PE X l tl) : PI X tg l (fun σ H R => tl σ H fun x H1 => (∃ a, x = .ref a ∧ (∃ xs, SqL X.K H1 a xs) ∧ R (Itl X.K a) H1) ∨ ∃ a, x = .ref a ∧ (∃ xs, SqT X.K H1 a xs) ∧ R (Itt X.K a) H1) := by
  intro pins s σ H R I h
  refine thn (hl pins s σ H _ I h) fun v s1 zz68 => ?_
  obtain ⟨x, H1, I1, r1, q1⟩ := zz68
  have fp : ∀ b ∈ [s1.heap.objs.size], FpOk X pins H1 b := fun b hb => by
    have e : b = s1.heap.objs.size := by simpa using hb
    subst e
    exact I1.fpOk (Nat.le_refl _) (I1.hok.fresh (Nat.le_refl _))
  rcases q1 with ⟨a, e, ⟨xs, hq⟩, q⟩ | ⟨a, e, ⟨xs, hq⟩, q⟩
  · subst e
    cases r1
    obtain ⟨its, rv, p, hz⟩ := I1.list hq
    refine wpAny_pyIter_list p.isList ?_
    exact ⟨s1.heap.objs.size, [s1.heap.objs.size], _, _, H1, rfl, I1.kept (t' := s1.toks) fun b o e => Heap.get?_push_of_some _ e, Z03 a _, ⟨_, Heap.get?_push_size _ rfl, rfl, rfl⟩, fp, q⟩
  · subst e
    cases r1
    obtain ⟨its, rv, p, hz⟩ := I1.tuple hq
    refine wpAny_pyIter_tuple (show s1.heap.IsTuple a its.toArray from p) ?_
    exact ⟨s1.heap.objs.size, [s1.heap.objs.size], _, _, H1, rfl, I1.kept (t' := s1.toks) fun b o e => Heap.get?_push_of_some _ e, E8 a _, ⟨_, Heap.get?_push_size _ rfl, rfl, rfl⟩, fp, q⟩
theorem Zn7 {tg l : Expr} {tl : TE} (hl : PE X l tl) : PI X tg l (fun σ H R => tl σ H fun x H1 => ∃ a kvs, x = .ref a ∧ H1 a = some (.dK kvs) ∧ ∀ o, (∀ o' u, X.H₀ a ≠ some (.frz o' u)) → R (Itd a o) (upd H1 a (.frz o (.dK kvs)))) := by
  intro pins s σ H R I h
  refine thn (hl pins s σ H _ I h) fun v s1 zz69 => ?_
  obtain ⟨x, H1, I1, r1, a, kvs, e, hq, q⟩ := zz69
  subst e
  cases r1
  obtain ⟨o, es, ep, hd, ho, I2, nf⟩ := Zb0 I1 hq
  obtain ⟨vs, rel, dd, hlen⟩ := Bm (I2.hok a _ Yp) hd
  obtain ⟨_, hs, _⟩ := B6 I1.hok hq
  refine wpAny_pyIter_dict hs dd ?_
  have fresh : upd H1 a (.frz o (.dK kvs)) s1.heap.objs.size = none := I2.hok.fresh (Nat.le_refl _)
  have fp : ∀ b ∈ [s1.heap.objs.size], FpOk X pins (upd H1 a (.frz o (.dK kvs))) b := fun b hb => by
    have e : b = s1.heap.objs.size := by simpa using hb
    subst e
    exact I2.fpOk (Nat.le_refl _) fresh
  rw [hlen]
  exact ⟨s1.heap.objs.size, [s1.heap.objs.size], _, _, _, rfl, I2.kept (t' := s1.toks) fun b o e => Heap.get?_push_of_some _ e, Et a _ hd, ⟨_, Heap.get?_push_size _ rfl, rfl, rfl⟩, fp, q o nf⟩
theorem Zd6 {w : Vw} : ∀ {ds : List (Key × D)} {vs : List (Key × V)} {i : Nat} {d : D}, RKV w ds vs → (Q2 ds)[i]? = some d → ∃ p, vs[i]? = some p ∧ RD w d (kV p.1)
  | [], vs, i, d, h, e => by simp [Q2] at e
  | (k, x) :: ds, vs, i, d, h, e => by
    unfold RKV at h
    obtain ⟨v, r, rfl, h1, h2⟩ := h
    cases i with
    | zero =>
      cases e
      refine ⟨(k, v), rfl, ?_⟩
      cases k with
      | inl i => exact Zc.mpr rfl
      | inr x => exact Yd.mpr rfl
    | succ i => exact Zd6 (i := i) h2 e
theorem Z80 {w1 : Vw} {n : Nat} {xs : List D} {o : Obj} {vs : List (Key × V)} (hn : n < w1.n) (h : w1.H (w1.μ n) = some (.frz o (.dK vs))) : JOk w1 (Itd (w1.μ n) o) (.dct n) xs := by
  intro w M x R st i
  obtain ⟨kvs, st, rfl⟩ := st
  have q := x.imm _ _ h rfl
  obtain ⟨o', us, q1, q2⟩ := R.cell n _ st
  rw [x.μ n hn, q] at q1
  cases q1
  refine ⟨fun d e => ?_, fun hl => ⟨vs, q, by rw [q2.length]; unfold Q2 at hl; rw [List.length_map] at hl; exact hl⟩⟩
  obtain ⟨p, z1, z2⟩ := Zd6 q2 e
  refine ⟨⟨vs, p, q, z1⟩, fun y H' ⟨e1, e2⟩ => ⟨w, e1.symm, Ext.refl w, R, ?_⟩⟩
  obtain ⟨p', z3, z4⟩ := e2 vs q
  rw [z1] at z3
  cases z3
  rw [z4]
  exact z2
theorem Zb3 {w1 : Vw} {n : Nat} {xs : List D} (hK : X.K = w1.K) (hn : n < w1.n) : JOk w1 (Itl X.K (w1.μ n)) (.lst n) xs := by
  intro w M x R st i
  obtain ⟨_, vs, q1, q2, _⟩ := R.listL st
  rw [x.μ n hn, x.K, ← hK] at q1
  refine ⟨fun d e => ?_, fun hl => ⟨vs, q1, by rw [q2.length]; exact hl⟩⟩
  obtain ⟨v, z1, z2⟩ := q2.get e
  refine ⟨⟨vs, v, q1, z1⟩, fun y H' ⟨e1, e2⟩ => ⟨w, e1.symm, Ext.refl w, R, ?_⟩⟩
  have := e2 vs q1
  rw [z1] at this
  cases this
  exact z2
theorem Z59 {w1 : Vw} {n : Nat} {xs : List D} (hK : X.K = w1.K) (hn : n < w1.n) : JOk w1 (Ite X.K (w1.μ n)) (.enm n) xs := by
  intro w M x R st i
  obtain ⟨ys, st, rfl⟩ := st
  obtain ⟨_, vs, q1, q2, _⟩ := R.listL st
  rw [x.μ n hn, x.K, ← hK] at q1
  refine ⟨fun d e => ?_, fun hl => ⟨vs, q1, by rw [q2.length]; unfold Pn at hl; rw [List.length_mapIdx] at hl; exact hl⟩⟩
  unfold Pn at e
  rw [List.getElem?_mapIdx, Option.map_eq_some_iff] at e
  obtain ⟨d, e, rfl⟩ := e
  obtain ⟨v, z1, z2⟩ := q2.get e
  refine ⟨⟨vs, v, q1, z1⟩, fun y H' zz72 => ?_⟩
  obtain ⟨p, u, hp, e1, e2, e3⟩ := zz72
  have := e3 vs q1
  rw [z1] at this
  cases this
  subst e1 e2
  obtain ⟨a1, a2, a3⟩ := Rt R hp (RDs.cons (Zc.mpr (rfl : V.int (i : Int) = _)) (RDs.cons z2 (RDs.nil w)))
  exact ⟨_, rfl, a1, a2, a3⟩
theorem Z26 {w1 : Vw} {a : Addr} {vs : List V} {xs : List D} (hK : X.K = w1.K) (h : SqT w1.K w1.H a vs) (r : RDs w1 xs vs) : JOk w1 (Itt X.K a) .no xs := by
  intro w M x R st i
  have q1 := x.sqT h
  rw [x.K, ← hK] at q1
  have q2 := r.ext x
  refine ⟨fun d e => ?_, fun hl => ⟨vs, q1, by rw [q2.length]; exact hl⟩⟩
  obtain ⟨v, z1, z2⟩ := q2.get e
  refine ⟨⟨vs, v, q1, z1⟩, fun y H' ⟨e1, e2⟩ => ⟨w, e1.symm, Ext.refl w, R, ?_⟩⟩
  have := e2 vs q1
  rw [z1] at this
  cases this
  exact z2
theorem Ez {w1 : Vw} {lo : Int} {n : Nat} : JOk w1 (Itr lo n) .no (Se lo n) := by
  intro w M x R st i
  unfold Se
  refine ⟨fun d e => ?_, fun hl => ?_⟩
  · rw [List.getElem?_map, Option.map_eq_some_iff] at e
    obtain ⟨j, h1, rfl⟩ := e
    obtain ⟨h2, h3⟩ := List.getElem?_eq_some_iff.mp h1
    have hj : j = i := by simpa using h3.symm
    subst hj
    have h4 : j < n := by simpa using h2
    exact ⟨h4, fun y H' zz74 => by obtain ⟨e1, e2⟩ := zz74; exact ⟨w, e1.symm, Ext.refl w, R, by rw [e2]; exact Zc.mpr rfl⟩⟩
  · have : n ≤ i := by simpa using hl
    exact this
theorem Ew {X : Cx} {N' : List Str} {scope : Scope} {cl : List (Str × Addr)} {C : Addr} {fp : List Addr} {pins : List (Addr × Obj)} {s : Shared} {H : Hp} : (cxC X N' scope cl C fp pins s H).env.scope = Wu scope X.env.scope := rfl
theorem Good.block (G : Good c k Z w0 X) (hc : k.calm = true) {N' : List Str} {scope : Scope} (hn : N'.Nodup) (cl : List (Str × Addr)) (C : Addr) (fp : List Addr) (pins : List (Addr × Obj)) (s : Shared) (H : Hp) :
    Good c { k with N := N', sc := Wu scope k.sc, cells := false, own := ownOf scope, tries := false, raises := [] } noX w0 (cxC X N' scope cl C fp pins s H) where
  hK := G.hK
  wK := G.wK
  N := rfl
  nd := hn
  sc := by rw [Ew, G.sc]
  calm := fun _ => G.calm hc
  units := G.units
  fns := fun _ f x sp h1 h2 => by
    obtain ⟨kk, f, fd, ps, ds, dvs, dD, sp0, h⟩ := G.fns hc f x sp h1 h2
    exact ⟨kk, f, fd, ps, ds, dvs, dD, sp0, h⟩
  flen := G.flen
  glb := G.glb
  blt := G.blt
  exc := ⟨E0, fun _ _ _ _ _ _ _ h => by
    obtain ⟨_, _, _, _, _, _, _, _, _, _, _, _, _, _, _, h⟩ := h
    exact h.elim, fun cls dd H' h => by
    obtain ⟨_, _, _, _, _, _, _, _, _, _, _, _, _, h⟩ := h
    exact h.elim⟩
  stk := fun h => by cases h
  po := fun _ => PassesOwn.never
  fnc := fun h => by cases h
  fno := fun x hx => by
    show (scope.names.any fun y => y.1 == x && y.2 == NameKind.cell) = true
    have hx : x ∈ (scope.names.filter fun y => y.2 == NameKind.cell).map (·.1) := hx
    obtain ⟨y, hy, rfl⟩ := List.mem_map.mp hx
    obtain ⟨h1, h2⟩ := List.mem_filter.mp hy
    rw [List.any_eq_true]
    exact ⟨y, h1, by rw [beq_self_eq_true, Bool.true_and]; exact h2⟩
theorem Good.tgt (G : Good c k Z w0 X) : ∀ (is : List Nat) (ex : Expr), Rf k is ex = true → PG X ex (gF w0 is) := by
  have one : ∀ (i : Nat) (x : Str) (pos : Pos), k.N[i]? = some x → k.locC x = true → PG X (.Name x pos) (Zb8 i) := fun i x pos h1 h2 => by
    obtain ⟨l1, l2⟩ := G.locC h2
    exact Zl6 G.nd (by rw [G.N]; exact h1) l1 l2
  have many : ∀ (is : List Nat) (es : List Expr), Zm4 k is es = true → PGs X es (gAll is) ∧ (assignEach es X.env).length = is.length ∧ (assignEach es X.env).findIdx? (·.1) = none := by
    intro is
    induction is with
    | nil =>
      intro es h
      cases es with
      | nil => exact ⟨Zh7, rfl, rfl⟩
      | cons e es => exact absurd h Bool.false_ne_true
    | cons i is ih =>
      intro es h
      cases es with
      | nil => exact absurd h Bool.false_ne_true
      | cons e es =>
        cases e with
        | Name x pos =>
          change (_ && _) = true at h
          simp only [Bool.and_eq_true, beq_iff_eq] at h
          obtain ⟨h1, h2, h3⟩ := ih es h.2
          refine ⟨Za7 (one i x pos h.1.1 h.1.2) h1 rfl, ?_, ?_⟩
          · show (assignEach es X.env).length + 1 = is.length + 1
            rw [h2]
          · show ((false, _) :: assignEach es X.env).findIdx? (·.1) = none
            rw [List.findIdx?_cons, h3]
            rfl
        | _ => exact absurd h Bool.false_ne_true
  intro is ex h
  cases ex with
  | Name x pos =>
    match is, h with
    | [i], h =>
      change (_ && _) = true at h
      simp only [Bool.and_eq_true, beq_iff_eq] at h
      exact Zw9 (one _ x pos h.1 h.2)
    | [], h => exact absurd h Bool.false_ne_true
    | _ :: _ :: _, h => exact absurd h Bool.false_ne_true
  | Tuple es kk pos =>
    change (_ && _) = true at h
    simp only [Bool.and_eq_true, decide_eq_true_eq] at h
    obtain ⟨h1, h2, h3⟩ := many is es h.2
    exact Zh4 h.1.2 (Zo2 (G.calm h.1.1) h1 h2 h3)
  | _ => exact absurd h Bool.false_ne_true
theorem Zh6 {w : Vw} {js : List (Option Nat)} {σD : DEnv} {σ : L2.St} (h : REnv w σD σ) : REnv w (capD js σD) (Tj js σ) := by
  refine ⟨by unfold capD Tj; simp, fun i d e => ?_⟩
  unfold capD at e
  unfold Tj
  rw [List.getElem?_map] at e ⊢
  cases hj : js[i]? with
  | none => rw [hj] at e; cases e
  | some o =>
    rw [hj] at e
    simp only [Option.map_some, Option.some.injEq] at e ⊢
    cases o with
    | none => cases e
    | some j =>
      simp only [Option.bind_some] at e ⊢
      cases hz : σD[j]? with
      | none => rw [hz] at e; cases e
      | some z =>
        rw [hz] at e
        have e' : z = some d := e
        subst e'
        obtain ⟨v, q1, q2⟩ := h.2 j d hz
        exact ⟨v, by rw [q1]; rfl, q2⟩
theorem Zc0 {w1 : Vw} {J : L2.It} {own : Own} {xs : List D} {tg : List Nat} {cd : DT} {el : DE} {M1 : Z1} {H1 : Hp} {σD : DEnv} {σ : L2.St} {QD : Z1 → Prop} {Q : VK} (e0 : Ext w0 w1) (hH : w1.H = H1) (R1 : RS w1 M1) (env : REnv w1 σD σ) (jk : JOk w1 J own xs)
    (h : Ph own xs tg cd el M1.length xs σD (M1 ++ [.lst []]) QD) (a : Aft w1 (fun d M => d = .ref M1.length ∧ QD M) Q) : ∀ p, H1 p = none → ∃ W : Nat → Nat → L2.St → Hp → Prop, (∃ m, W 0 m σ (upd H1 p (.lst []))) ∧
      ∀ i m σc Hc, W i m σc Hc → (J.stop i Hc ∧ Q (.ref p) Hc) ∨ (J.go i Hc ∧ ∀ x H', J.yld i Hc x H' → gF w0 tg x σc H' fun σ2 H2 => tFT w0 cd σ2 H2 fun b H3 => if b = true then tF w0 el σ2 H3 fun y H4 => ∃ acc, H4 p = some (.lst acc) ∧ acc.length < sizeLine ∧
        ∃ m', m' < m ∧ W (i + 1) m' σ2 (upd H4 p (.lst (acc ++ [y]))) else ∃ m', m' < m ∧ W (i + 1) m' σ2 H3) := by
  intro p hp
  subst hH
  obtain ⟨x1, R2, rz⟩ := Wn (xs := []) R1 hp (RDs.nil w1)
  have hz : M1.length < (w1.push p (.lst [])).n ∧ p = (w1.push p (.lst [])).μ M1.length := by
    obtain ⟨z1, z2⟩ := Zr.mp rz
    exact ⟨z1, by injection z2⟩
  refine ⟨fun i m σc Hc => ∃ w σE M, StOk w0 w σE M σc Hc ∧ Ext (w1.push p (.lst [])) w ∧ i ≤ xs.length ∧ m = xs.length - i ∧ Ph own xs tg cd el M1.length (xs.drop i) σE M QD, ⟨xs.length, w1.push p (.lst []), σD, _, ⟨rfl, e0.trans x1, R2, env.ext x1⟩, Ext.refl _, Nat.zero_le _, rfl, h⟩, ?_⟩
  rintro i m σc Hc ⟨w, σE, M, S, x2, hi, rfl, hc⟩
  have x12 : Ext w1 w := x1.trans x2
  have hp' : w.μ M1.length = p := (x2.μ _ hz.1).trans hz.2.symm
  have hlt : M1.length < w.n := Nat.lt_of_lt_of_le hz.1 x2.n
  have stp : ∀ st : Qz own xs M, _ := fun st => jk w M x12 S.rs st i
  rw [S.heap] at stp
  by_cases hil : i < xs.length
  · rw [List.drop_eq_getElem_cons hil] at hc
    obtain ⟨st, hc⟩ := hc
    obtain ⟨j1, j2⟩ := (stp st).1 xs[i] (List.getElem?_eq_getElem hil)
    refine .inr ⟨j1, fun x H' hy => ?_⟩
    obtain ⟨w3, rfl, x3, R3, rd3⟩ := j2 x H' hy
    refine ⟨w3, σE, M, xs[i], _, ⟨rfl, S.ext.trans x3, R3, S.env.ext x3⟩, rd3, hc, fun σ2 σE2 env2 q2 => ?_⟩
    refine ⟨w3, σE2, M, _, ⟨rfl, S.ext.trans x3, R3, env2⟩, q2, fun b w4 M4 x4 R4 q4 => ?_⟩
    cases b with
    | true =>
      rw [if_pos rfl] at q4 ⊢
      refine Yg ⟨rfl, (S.ext.trans x3).trans x4, R4, env2.ext x4⟩ q4 fun y w5 dy M5 x5 R5 rd5 q5 => ?_
      obtain ⟨acc, g1, g2, g3⟩ := q5
      obtain ⟨hn, vs, z1, z2⟩ := R5.list g1
      have x35 : Ext w w5 := (x3.trans x4).trans x5
      have hp5 : w5.μ M1.length = p := (x35.μ _ hlt).trans hp'
      obtain ⟨y1, y2⟩ := Xn R5 hn z1 (z2.append (RDs.cons rd5 (RDs.nil w5)))
      rw [hp5] at z1 y1 y2
      refine ⟨vs, z1, by rw [z2.length]; exact g2, xs.length - (i + 1), by omega, w5.alloc p (.lst (vs ++ [y])), σE2, _, ⟨rfl, (S.ext.trans x35).trans y1, y2, (env2.ext (x4.trans x5)).ext y1⟩, (x2.trans x35).trans y1, hil, rfl, g3⟩
    | false =>
      rw [if_neg Bool.false_ne_true] at q4 ⊢
      exact ⟨xs.length - (i + 1), by omega, w4, σE2, M4, ⟨rfl, (S.ext.trans x3).trans x4, R4, env2.ext x4⟩, (x2.trans x3).trans x4, hil, rfl, q4⟩
  · rw [List.drop_eq_nil_of_le (by omega)] at hc
    obtain ⟨st, hq⟩ := hc
    refine .inl ⟨(stp st).2 (by omega), ?_⟩
    have := a (.ref p) w (.ref M1.length) M x12 S.rs (Zr.mpr ⟨hlt, by rw [hp']⟩) ⟨rfl, hq⟩
    rw [S.heap] at this
    exact this
end
def Zf1 (c : Cfg) (e : E) : Prop := ∀ (k : Ck) (Z : DX) (w0 : Vw) (X : Cx) (ex : Expr), Good c k Z w0 X → chkE k e ex = true → PE X ex (tF w0 (te c Z e)) ∧ (noIf e = true → PT X ex (tFT w0 (ttD (te c Z e))))
def Zg0 (c : Cfg) (es : Es) : Prop := ∀ (k : Ck) (Z : DX) (w0 : Vw) (X : Cx) (ls : List Expr), Good c k Z w0 X → To k es ls = true → PA X ls (tFA w0 (tes c Z es)) ∧
  ∀ (b : Bool) (pos : Pos), PE X (.BoolOp (if b then .And else .Or) ls pos) (tF w0 (tbop c Z b es)) ∧ (Z14 es = true → PW X (.BoolOp (if b then .And else .Or) ls pos) (tFT w0 (ttD (tbop c Z b es))))
def Zd8 (c : Cfg) (eo : Eo) : Prop := (∀ (k : Ck) (Z : DX) (w0 : Vw) (X : Cx) (lo : Option Expr), Good c k Z w0 X → chkO k eo lo = true → PO X lo (tFO w0 (teo c Z eo))) ∧
  ∀ (k : Ck) (Z : DX) (w0 : Vw) (X : Cx) (ls : List Expr), Good c k Z w0 X → chkC k eo ls = true → (∃ x, ls = [x] ∧ PT X x (tFT w0 (tcd c Z eo))) ∨ (ls = [] ∧ eo = .no)
def Zr8 (c : Cfg) (it : It) : Prop := ∀ (k : Ck) (Z : DX) (w0 : Vw) (X : Cx) (tg ex : Expr), Good c k Z w0 X → Zn2 k it ex = true → itTg it tg = true → PI X tg ex (iF w0 (tit c Z it))
section
variable {c : Cfg} {k : Ck} {Z : DX} {w0 : Vw} {X : Cx}
theorem Qp {d : D} {v : V} {σ : L2.St} {H : Hp} {Q : VK} (hv : ∀ w : Vw, w.K = w0.K → RD w d v) (h : tF w0 (fun _ M Q => Q d M) σ H Q) : tC v σ H Q := by
  obtain ⟨w, σD, M, QD, S, g, a⟩ := h
  have := a v w d M (Ext.refl w) S.rs (hv w S.K) g
  rw [S.heap] at this
  exact this
theorem both {f : DE} {ex : Expr} {b : Bool} (G : Good c k Z w0 X) (h : PE X ex (tF w0 f)) (he : ∀ whole, isTrue ex X.env whole = (do let v ← whole; standAt ex.pos; holding [v] (truthy v))) :
    PE X ex (tF w0 f) ∧ (b = true → PT X ex (tFT w0 (ttD f))) := ⟨h, fun _ => Zz2 G h he⟩
theorem Fg {f : Nat} {es : Es} {x : Str} {np pos : Pos} {ls : List Expr} (G : Good c k Z w0 X) (hc : k.calm = true) (hf : k.FN[f]? = some x) (hg : k.glob x = true) (hs : To k es ls = true) (ih : PA X ls (tFA w0 (tes c Z es))) :
    PE X (.Call (.Name x np) ls [] pos) (tF w0 (te c Z (.call f es))) := by
  obtain ⟨g1, g2, g3⟩ := G.gl hg
  obtain ⟨E, ps, xk⟩ := G.exc
  cases hsp : c.Γ[f]? with
  | none =>
    have h1 := (List.getElem?_eq_some_iff.mp hf).1
    have h2 := List.getElem?_eq_none_iff.mp hsp
    rw [G.flen] at h1
    omega
  | some sp =>
    obtain ⟨kk, fa, fd, pr, ds, dvs, dD, sp0, F, hr, hm, hk, hb, hd, hD, hsp0⟩ := G.fns hc f x sp hf hsp
    have key : ∀ σ H Q, tF w0 (te c Z (.call f es)) σ H Q → tFA w0 (tes c Z es) σ H fun vs H1 => spF X.K sp0 (vs ++ dvs) H1 Q E := by
      rintro σ H Q ⟨w, σD, M, QD, S, g, a⟩
      refine ⟨w, σD, M, _, S, g, fun vs w' ds' M' x' r' rd' q' => ?_⟩
      have q' : sp ds' M' QD Z := by
        have := q'
        simp only [hsp] at this
        exact this
      have hKw : w'.K = X.K := by rw [x'.K, S.K, G.eK]
      exact ⟨w', ds' ++ dD, M', QD, Z, hKw, rfl, r', rd'.append (hD w' hKw), hsp0 _ _ _ _ q', a.ext x', fun cls dd H' hx => xk cls dd H' (Bh (S.ext.trans x') hx)⟩
    cases ls with
    | nil =>
      refine PE.imp (Z51 F hr g1 hm hk hb hd ps g2) fun σ H Q h => ?_
      have h2 := key σ H Q h
      obtain ⟨w, σD, M, QD, S, g, a⟩ := h2
      cases es with
      | nil =>
        have := a [] w [] M (Ext.refl w) S.rs (RDs.nil w) g
        rw [S.heap] at this
        exact this
      | cons e r => exact absurd hs Bool.false_ne_true
    | cons l ls =>
      cases es with
      | nil => exact absurd hs Bool.false_ne_true
      | cons e r =>
        change (_ && _) = true at hs
        simp only [Bool.and_eq_true] at hs
        exact PE.imp (Zi0 F hr g1 hm hk hb hd ps ih g2 (Y2 hs.1.2) (Qw (Wx r ls hs.2))) key
theorem te_var {i : Nat} {σ : DEnv} {M : Z1} {Q : DK} : te c Z (.var i) σ M Q = (match σ[i]? with | some (some d) => Q d M | _ => False) := rfl
theorem te_glb {g : Nat} {σ : DEnv} {M : Z1} {Q : DK} : te c Z (.glb g) σ M Q = (match c.G[g]? with | some d => Q d M | none => False) := rfl
theorem Bd {i : Nat} {x : Str} {pos : Pos} (G : Good c k Z w0 X) (h1 : k.N[i]? = some x) (h2 : k.vis x = true) : PE X (.Name x pos) (tF w0 (te c Z (.var i))) := by
  obtain ⟨v1, v2, v3⟩ := G.vis h2
  refine PE.imp (Zr1 (i := i) (by rw [G.N]; exact h1) v1 v2 v3) fun σ H Q zz75 => ?_
  obtain ⟨w, σD, M, QD, S, g, a⟩ := zz75
  rw [te_var] at g
  split at g
  · rename_i d e
    obtain ⟨v, q1, q2⟩ := S.env.2 i d e
    have := a v w d M (Ext.refl w) S.rs q2 g
    rw [S.heap] at this
    exact ⟨v, q1, this⟩
  · exact g.elim
theorem Ep {g : Nat} {x : Str} {pos : Pos} (G : Good c k Z w0 X) (h1 : k.GN[g]? = some x) (h2 : k.glob x = true) : PE X (.Name x pos) (tF w0 (te c Z (.glb g))) := by
  obtain ⟨g1, g2, g3⟩ := G.gl h2
  cases hd : c.G[g]? with
  | none =>
    refine PE.imp (t := fun _ _ _ => False) (fun _ _ _ _ _ _ h => h.elim) fun σ H Q zz76 => ?_
    obtain ⟨w, σD, M, QD, S, q, a⟩ := zz76
    rw [te_glb] at q
    rw [hd] at q
    exact q
  | some d =>
    obtain ⟨v, u, q1, q2, q3⟩ := G.glb g x d h1 hd
    refine PE.imp (Zn1 g1 q1 q2 g2) fun σ H Q h => Qp (d := d) (fun w hw => q3 w (by rw [hw, G.eK])) ?_
    obtain ⟨w, σD, M, QD, S, q, a⟩ := h
    rw [te_glb] at q
    rw [hd] at q
    exact ⟨w, σD, M, QD, S, q, a⟩
theorem Z94 {b : Bf} {es : Es} {x : Str} {np pos : Pos} {l : Expr} {ls : List Expr} (G : Good c k Z w0 X) (hc : k.calm = true ∨ Tl b = true) (hx : x = (bfOf b).1) (hg : k.glob x = true) (hB : x ∈ k.BN) (hs : To k es (l :: ls) = true) (ih : PA X (l :: ls) (tFA w0 (tes c Z es))) :
    PE X (.Call (.Name x np) (l :: ls) [] pos) (tF w0 (te c Z (.bf b es))) := by
  obtain ⟨g1, g2, g3⟩ := G.gl hg
  have hm := G.blt x hB
  have hb : bootBuiltins x = some (bfOf b).2 := by rw [hx]; exact Zl9 b
  have snd := Z90 (w0 := w0) G.eK b (hc.imp G.calm id)
  have st : starEach (l :: ls) X.env = (false, eval l X.env) :: starEach ls X.env ∧ (backTo pos (starEach ls X.env)).any (·.1) = false := by
    cases es with
    | nil => exact absurd hs Bool.false_ne_true
    | cons e r =>
      change (_ && _) = true at hs
      simp only [Bool.and_eq_true] at hs
      exact ⟨Y2 hs.1.2, Qw (Wx r ls hs.2)⟩
  have key : ∀ σ H Q, tF w0 (te c Z (.bf b es)) σ H Q → tCB (rC w0 (bfD w0.K b)) (tFA w0 (tes c Z es)) σ H Q := by
    rintro σ H Q ⟨w, σD, M, QD, S, g, a⟩
    refine ⟨w, σD, M, _, S, g, fun vs w' ds M' x' r' rd' q' => ?_⟩
    rw [← G.wK] at q'
    exact ⟨w', M', ds, QD, rfl, by rw [x'.K, S.K], r', rd', q', a.ext x'⟩
  cases hv : (bfOf b).2 with
  | builtin id =>
    rw [hv] at hb snd
    exact PE.imp (Z85 snd g1 hm hb ih g3 g2 st.1 st.2) key
  | type T =>
    rw [hv] at hb snd
    exact PE.imp (Bb snd g1 hm hb ih g3 g2 st.1 st.2) key
  | _ => cases b <;> cases hv
theorem Z55 {m : Mt} {o : E} {es : Es} {l : Expr} {ap cp : Pos} {ls : List Expr} (G : Good c k Z w0 X) (hb : Rn l = true) (hl : (ap.endLine == cp.line) = true) (hn : ls.length < 30) (hs : To k es ls = true) (ho : PE X l (tF w0 (te c Z o))) (ih : PA X ls (tFA w0 (tes c Z es))) :
    PE X (.Call (.Attribute l (mtN m) ap) ls [] cp) (tF w0 (te c Z (.mt m o es))) := by
  have snd := Z81 (w0 := w0) G.eK G.units m
  cases ls with
  | nil =>
    refine PE.imp (Zp0 (Zq6 m) (Bx m) (Zr6 m) snd ho (R9 hb) hl) fun σ H Q zz77 => ?_
    obtain ⟨w, σD, M, QD, S, g, a⟩ := zz77
    refine Yg S g fun x w1 dx M1 x1 r1 rx q1 => ?_
    have ty := Ze7 r1 rx q1.1
    rw [x1.K, S.K, ← G.eK] at ty
    refine ⟨ty, ?_⟩
    cases es with
    | nil => exact ⟨w1, M1, dx, [], QD, rfl, by rw [x1.K, S.K], r1, rx, RDs.nil w1, q1.2, a.ext x1⟩
    | cons e r => exact absurd hs Bool.false_ne_true
  | cons l' ls =>
    cases es with
    | nil => exact absurd hs Bool.false_ne_true
    | cons e r =>
      have hs' := hs
      change (_ && _) = true at hs'
      simp only [Bool.and_eq_true] at hs'
      have few : ((backTo cp (starEach (l' :: ls) X.env)).all (fun x => !x.1) && (backToKw cp (keywordEach [] X.env)).all (fun x => x.1.isSome)
          && decide ((l' :: ls).length + ([] : List Keyword).length + (if ([] : List Keyword).isEmpty then 0 else 1) < 30)) = true := by
        rw [Z65 (Wx _ _ hs)]
        show (true && true && decide ((l' :: ls).length + 0 + 0 < 30)) = true
        simpa using hn
      refine PE.imp (Y12 (Zq6 m) (Bx m) (Zr6 m) snd ho ih (R9 hb) few hl (Y2 hs'.1.2) (Qw (Wx r ls hs'.2))) fun σ H Q zz78 => ?_
      obtain ⟨w, σD, M, QD, S, g, a⟩ := zz78
      refine Yg S g fun x w1 dx M1 x1 r1 rx q1 => ?_
      have ty := Ze7 r1 rx q1.1
      rw [x1.K, S.K, ← G.eK] at ty
      refine ⟨ty, w1, σD, M1, _, S.next x1 r1, q1.2, fun vs w2 ds M2 x2 r2 rd2 q2 => ?_⟩
      exact ⟨w2, M2, dx, ds, QD, rfl, by rw [x2.K, x1.K, S.K], r2, rx.ext x2, rd2, q2, a.ext (x1.trans x2)⟩
theorem Z21 {o : E} {f : Str} {l : Expr} {pos : Pos} (G : Good c k Z w0 X) (hb : Rn l = true) (ho : PE X l (tF w0 (te c Z o))) : PE X (.Attribute l f pos) (tF w0 (te c Z (.fld o f))) := by
  refine PE.imp (Zh0 ho (R9 hb)) fun σ H Q zz79 => ?_
  obtain ⟨w, σD, M, QD, S, g, a⟩ := zz79
  refine Yg S g fun x w1 dx M1 x1 r1 rx q1 => ?_
  unfold fldD at q1
  split at q1
  · obtain ⟨rfl, z1, r, z2, z3⟩ := Om.mp rx
    obtain ⟨e1, e2, q1⟩ := q1
    refine ⟨_, _, _, _, r, rfl, z1, z2, by rw [G.hK]; exact e2, ?_, a r w1 _ M1 x1 r1 z3 q1⟩
    rw [e1]; simp
  · exact q1.elim
theorem Za4 {a : E} {lo hi : Eo} {l : Expr} {x y : Option Expr} {p2 pos : Pos} (G : Good c k Z w0 X) (ha : PE X l (tF w0 (te c Z a))) (h1 : PO X x (tFO w0 (teo c Z lo))) (h2 : PO X y (tFO w0 (teo c Z hi))) :
    PE X (.Subscript l (.Slice x y none p2) pos) (tF w0 (te c Z (.sl a lo hi))) := by
  refine PE.imp (Z79 (Z82 (w0 := w0) G.eK) ha h1 h2) fun σ H Q zz80 => ?_
  obtain ⟨w, σD, M, QD, S, g, aq⟩ := zz80
  refine Yg S g fun x w1 dx M1 x1 r1 rx q1 => ?_
  refine ⟨w1, σD, M1, _, S.next x1 r1, q1, fun l w2 M2 x2 r2 q2 => ?_⟩
  refine ⟨w2, σD, M2, _, (S.next x1 r1).next x2 r2, q2, fun h w3 M3 x3 r3 q3 => ?_⟩
  exact ⟨w3, M3, dx, QD, rfl, by rw [x3.K, x2.K, x1.K, S.K], r3, rx.ext (x2.trans x3), q3, aq.ext ((x1.trans x2).trans x3)⟩
theorem Z49 {z : Expr} (h : isM1 z = true) : ∃ y p q, z = .UnaryOp .USub (.Constant (.int 1) y p) q := by
  replace h := Pp h
  obtain ⟨o, l, q, rfl, h⟩ := h
  simp only [Bool.and_eq_true] at h
  obtain ⟨h1, h⟩ := h
  replace h := Xr h
  obtain ⟨v, y, p, rfl, h⟩ := h
  cases o with
  | USub =>
    cases v with
    | int j =>
      obtain rfl : j = 1 := eq_of_beq h
      exact ⟨y, p, q, rfl⟩
    | _ => exact absurd h Bool.false_ne_true
  | _ => exact absurd h1 Bool.false_ne_true
theorem Z09 {a : E} {l z : Expr} {p2 pos : Pos} (G : Good c k Z w0 X) (ha : PE X l (tF w0 (te c Z a))) (hz : isM1 z = true) : PE X (.Subscript l (.Slice none none (some z) p2) pos) (tF w0 (te c Z (.rev a))) := by
  obtain ⟨y, p, q, rfl⟩ := Z49 hz
  refine PE.imp (Zv5 ha (Z01 (Zr2 Zf5 Zd3))) fun σ H Q zz81 => ?_
  obtain ⟨w, σD, M, QD, S, g, aq⟩ := zz81
  refine Yg S g fun x w1 dx M1 x1 r1 rx q1 => ?_
  split at q1
  · obtain ⟨xs, z1, z2⟩ := q1
    obtain ⟨_, rfl⟩ := Zr.mp rx
    obtain ⟨_, vs, y1, y2, _⟩ := r1.listL z1
    have hK : w1.K = X.K := by rw [x1.K, S.K, G.eK]
    rw [hK] at y1
    refine ⟨1, rfl, -1, rfl, rfl, _, vs, rfl, y1, fun p hp => ?_⟩
    obtain ⟨t1, t2, t3⟩ := Wn r1 hp y2.reverse
    exact aq _ _ _ _ (x1.trans t1) t2 t3 z2
  · exact q1.elim
theorem Z96 {r : Expr} (h : Rx r = true) : Z10 r := by
  revert h
  refine Expr.casesOn (motive_1 := fun r => Rx r = true → ∀ o i, subscripted r false o i = operate [o, i] (getItem o i)) r ?_ ?_ ?_ ?_ ?_ ?_ ?_ ?_ ?_ ?_ ?_ ?_ ?_ ?_ ?_ ?_ ?_ ?_ ?_ ?_ ?_ ?_ ?_ ?_ ?_ ?_ ?_ <;> intros <;> first | rfl | exact absurd (by assumption) Bool.false_ne_true
theorem Zc3 {a b : E} {l r : Expr} {pos : Pos} (G : Good c k Z w0 X) (hn : Rx r = true) (ha : PE X l (tF w0 (te c Z a))) (hb : PE X r (tF w0 (te c Z b))) : PE X (.Subscript l r pos) (tF w0 (te c Z (.ix a b))) := by
  have pl := Z96 hn
  refine PE.imp (Y03 (Zc8 (w0 := w0) G.eK G.units) ha hb pl) fun σ H Q zz82 => ?_
  obtain ⟨w, σD, M, QD, S, g, aq⟩ := zz82
  refine Yg S g fun x w1 dx M1 x1 r1 rx q1 => ?_
  refine Yg (S.next x1 r1) q1 fun y w2 dy M2 x2 r2 ry q2 => ?_
  exact ⟨w2, M2, dx, dy, _, rfl, by rw [x2.K, x1.K, S.K], r2, rx.ext x2, ry, q2, fun d v hq hr => aq v w2 d M2 (x1.trans x2) r2 hr hq⟩
theorem Qa {N' : List Str} {js : List (Option Nat)} {tg : List Nat} {it : It} {cd : Eo} {e : E} {el t iter : Expr} {ifs : List Expr} {scope : Scope} {pos : Pos} (G : Good c k Z w0 X) (hc : k.calm = true) (ho : T4 k.sc k.N N' js scope = true) (hns : O7 iter = true) (hn : N'.Nodup)
    (hi : PI X t iter (iF w0 (tit c Z it))) (ht : Rf { k with N := N', sc := Wu scope k.sc, cells := false, own := ownOf scope, tries := false, raises := [] } tg t = true) (hd : chkC { k with N := N', sc := Wu scope k.sc, cells := false, own := ownOf scope, tries := false, raises := [] } cd ifs = true) (he : chkE { k with N := N', sc := Wu scope k.sc, cells := false, own := ownOf scope, tries := false, raises := [] } e el = true) (ihe : Zf1 c e) (ihd : Zd8 c cd) :
    PE X (.ListComp el [⟨t, iter, ifs, 0⟩] scope pos) (tF w0 (te c Z (.comp N' js tg it cd e))) ∧
    ∀ (i : Nat) (x : Str) (px spos : Pos), X.N[i]? = some x → X.env.scope.names.lookup x = some .local → swapsWith (.ListComp el [⟨t, iter, ifs, 0⟩] scope pos) (some (.Name x px)) spos.line X.env = pure true →
      PS X (.Assign [.Name x px] (.ListComp el [⟨t, iter, ifs, 0⟩] scope pos) spos) (fun R σ H => tF w0 (te c Z (.comp N' js tg it cd e)) σ H fun v H1 => R.nx (σ.set i (some v)) H1) := by
  have ho' : T4 X.env.scope X.N N' js scope = true := by rw [G.sc, G.N]; exact ho
  have hf : ∀ x, foldedSetIterable iter X.env x = pure x := by
    intro x
    cases iter <;> first | rfl | cases hns
  have hg := fun cl C fp pins s H => (Good.block G hc (scope := scope) hn cl C fp pins s H).tgt tg t ht
  have hel := fun cl C fp pins s H => (ihe _ _ _ _ el (Good.block G hc (scope := scope) hn cl C fp pins s H) he).1
  have key : ∀ σ H Q, tF w0 (te c Z (.comp N' js tg it cd e)) σ H Q → iF w0 (tit c Z it) σ H fun J H1 => ∀ p, H1 p = none → ∃ W : Nat → Nat → L2.St → Hp → Prop, (∃ m, W 0 m (Tj js σ) (upd H1 p (.lst []))) ∧
      ∀ i m σc Hc, W i m σc Hc → (J.stop i Hc ∧ Q (.ref p) Hc) ∨ (J.go i Hc ∧ ∀ x H', J.yld i Hc x H' → gF w0 tg x σc H' fun σ2 H2 => tFT w0 (tcd c noX cd) σ2 H2 fun b H3 => if b = true then tF w0 (te c noX e) σ2 H3 fun y H4 => ∃ acc, H4 p = some (.lst acc) ∧ acc.length < sizeLine ∧
        ∃ m', m' < m ∧ W (i + 1) m' σ2 (upd H4 p (.lst (acc ++ [y]))) else ∃ m', m' < m ∧ W (i + 1) m' σ2 H3) := by
    rintro σ H Q ⟨w, σD, M, QD, S, g, a⟩
    refine ⟨w, σD, M, _, S, g, fun J w1 own xs M1 x1 R1 jk q1 => ?_⟩
    exact Zc0 (S.ext.trans x1) rfl R1 (Zh6 (S.env.ext x1)) jk q1 fun v w2 d M2 x2 r2 rd2 zz83 => by obtain ⟨e2, q2⟩ := zz83; exact a v w2 d M2 (x1.trans x2) r2 rd2 (by rw [e2]; exact q2)
  have nocd : ∀ {σ : L2.St} {H : Hp} {P : Bool → Hp → Prop}, cd = .no → tFT w0 (tcd c noX cd) σ H P → P true H := by
    intro σ H P e h
    subst e
    obtain ⟨w, σD, M, QD, S, g, a⟩ := h
    have := a true w M (Ext.refl w) S.rs g
    rw [S.heap] at this
    exact this
  cases ifs with
  | nil =>
    have hcd : cd = .no := by
      cases cd with
      | no => rfl
      | yes e' => exact absurd hd Bool.false_ne_true
    have key0 : ∀ σ H Q, tF w0 (te c Z (.comp N' js tg it cd e)) σ H Q → Z37 js (iF w0 (tit c Z it)) (gF w0 tg) (tF w0 (te c noX e)) σ H Q := by
      intro σ H Q h
      obtain ⟨w, σD, M, QD, S, g, a⟩ := key σ H Q h
      refine ⟨w, σD, M, QD, S, g, fun J w' own xs M' x' r' jk q p hp => ?_⟩
      obtain ⟨W, w1, w2⟩ := a J w' own xs M' x' r' jk q p hp
      refine ⟨W, w1, fun i m σc Hc hW => (w2 i m σc Hc hW).imp id fun ⟨z1, z2⟩ => ⟨z1, fun x H' hy => ?_⟩⟩
      obtain ⟨v1, v2, v3, v4, v5, v6, v7, v8, v9⟩ := z2 x H' hy
      refine ⟨v1, v2, v3, v4, v5, v6, v7, v8, fun σ' σD' en q' => ?_⟩
      have := nocd hcd (v9 σ' σD' en q')
      rw [if_pos rfl] at this
      exact this
    exact ⟨PE.imp (Z86 (G.calm hc) ho' hi hg hel hf) key0, fun i x px spos h1 h2 h3 => PS.imp (Z95 (G.calm hc) ho' G.nd h1 h2 hi hg hel h3 hf) fun R σ H h => key0 σ H _ h⟩
  | cons x0 ifs =>
    have hq : ∀ cl C fp pins s H, ∃ x, x0 :: ifs = [x] ∧ PT (cxC X N' scope cl C fp pins s H) x (tFT w0 (tcd c noX cd)) := fun cl C fp pins s H => by
      rcases ihd.2 _ _ _ _ (x0 :: ifs) (Good.block G hc (scope := scope) hn cl C fp pins s H) hd with h | ⟨h, _⟩
      · exact h
      · cases h
    have e0 : ifs = [] := by
      cases cd with
      | no => exact absurd hd Bool.false_ne_true
      | yes e' =>
        cases ifs with
        | nil => rfl
        | cons _ _ => exact absurd hd Bool.false_ne_true
    subst e0
    have hq' : ∀ cl C fp pins s H, PT (cxC X N' scope cl C fp pins s H) x0 (tFT w0 (tcd c noX cd)) := fun cl C fp pins s H => by
      obtain ⟨x, h1, h2⟩ := hq cl C fp pins s H
      cases h1
      exact h2
    exact ⟨PE.imp (Z70 (G.calm hc) ho' hi hg hq' hel hf) key, fun i x px spos h1 h2 h3 => PS.imp (Z87 (G.calm hc) ho' G.nd h1 h2 hi hg hq' hel h3 hf) fun R σ H h => key σ H _ h⟩
end
section
variable {c : Cfg} {k : Ck} {Z : DX} {w0 : Vw} {X : Cx}
theorem te_cmp_bl {op : Cm} {a b : E} (σD : DEnv) (M : Z1) (QD : DK) (h : te c Z (.cmp op a b) σD M QD) : te c Z (.cmp op a b) σD M fun d M' => (∃ b, d = .bl b) ∧ QD d M' := by
  have e : (fun (d : D) (M' : Z1) => QD d M') = QD := rfl
  show te c Z a σD M fun x M1 => te c Z b σD M1 fun y M2 => cmD M2 op x y fun r => (∃ b, D.bl r = .bl b) ∧ QD (.bl r) M2
  have h : te c Z a σD M (fun x M1 => te c Z b σD M1 fun y M2 => cmD M2 op x y fun r => QD (.bl r) M2) := h
  have : (fun (x : D) (M1 : Z1) => te c Z b σD M1 fun y M2 => cmD M2 op x y fun r => QD (.bl r) M2) = fun x M1 => te c Z b σD M1 fun y M2 => cmD M2 op x y fun r => (∃ b, D.bl r = .bl b) ∧ QD (.bl r) M2 := by
    funext x M1
    congr 1
    funext y M2
    congr 1
    funext r
    exact propext ⟨fun h => ⟨⟨r, rfl⟩, h⟩, fun h => h.2⟩
  rw [this] at h
  exact h
theorem Zl0 {a b : Expr} {rest : List Expr} {pos : Pos} {ta tb : TE} (ha : PE X a ta) (hb : PE X (.BoolOp .And (b :: rest) pos) tb) : PE X (.BoolOp .And (a :: b :: rest) pos) (fun σ H Q => ta σ H fun x H1 => ∃ z, TruV X.K x H1 z ∧ if z = true then tb σ H1 Q else Q x H1) := by
  intro pins s σ H Q I h
  refine BoolOp_and (thn (ha pins s σ H _ I h) fun v s1 zz85 => ?_)
  obtain ⟨x, H1, I1, r1, q1⟩ := zz85
  refine thn (Jv pins s1 σ H1 x v (fun z H2 => if z = true then tb σ H2 Q else Q x H2) I1 r1 q1) fun z s2 zz86 => ?_
  obtain ⟨H2, I2, q2⟩ := zz86
  cases z with
  | true => exact hb pins s2 σ H2 Q I2 (by rw [if_pos rfl] at q2; exact q2)
  | false => exact ⟨x, H2, I2, r1, by rw [if_neg Bool.false_ne_true] at q2; exact q2⟩
theorem Zo7 {a b : Expr} {rest : List Expr} {pos : Pos} {ta tb : TE} (ha : PE X a ta) (hb : PE X (.BoolOp .Or (b :: rest) pos) tb) : PE X (.BoolOp .Or (a :: b :: rest) pos) (fun σ H Q => ta σ H fun x H1 => ∃ z, TruV X.K x H1 z ∧ if z = true then Q x H1 else tb σ H1 Q) := by
  intro pins s σ H Q I h
  refine BoolOp_or (thn (ha pins s σ H _ I h) fun v s1 zz87 => ?_)
  obtain ⟨x, H1, I1, r1, q1⟩ := zz87
  refine thn (Jv pins s1 σ H1 x v (fun z H2 => if z = true then Q x H2 else tb σ H2 Q) I1 r1 q1) fun z s2 zz88 => ?_
  obtain ⟨H2, I2, q2⟩ := zz88
  cases z with
  | false => exact hb pins s2 σ H2 Q I2 (by rw [if_neg Bool.false_ne_true] at q2; exact q2)
  | true => exact ⟨x, H2, I2, r1, by rw [if_pos rfl] at q2; exact q2⟩
theorem Oh {M : Z1} {n : Nat} {xs : List D} {ys : List (Key × D)} (h1 : Z7 M n = some xs) (h2 : Y4 M n = some ys) : False := by
  unfold Z7 at h1
  unfold Y4 at h2
  cases h : M[n]? with
  | none => rw [h] at h2; cases h2
  | some c => rw [h] at h1 h2; cases c <;> simp at h1 h2
theorem G2 {M : Z1} {x : D} {k : Bool} {A : Prop} {P : Bool → Prop} : truD M x (fun b => if b = k then A else truD M x P) = truD M x (fun b => if b = k then A else P b) := by
  cases x with
  | str y =>
    apply propext
    show (y.length ≤ sizeLine ∧ if ((y.length : Int) != 0) = k then A else (y.length ≤ sizeLine ∧ P ((y.length : Int) != 0))) ↔ (y.length ≤ sizeLine ∧ if ((y.length : Int) != 0) = k then A else P ((y.length : Int) != 0))
    split <;> simp (config := { contextual := true })
  | ref n =>
    apply propext
    have key : ∀ Q : Bool → Prop, truD M (.ref n) Q ↔ (∃ xs, Z7 M n = some xs ∧ Q (!xs.isEmpty)) ∨ (∃ xs, Y4 M n = some xs ∧ Q (!xs.isEmpty)) := fun Q => Iff.rfl
    constructor
    · intro h
      rcases (key _).mp h with ⟨xs, h1, h2⟩ | ⟨xs, h1, h2⟩
      · refine (key _).mpr (.inl ⟨xs, h1, ?_⟩)
        split at h2
        · rename_i e; rw [if_pos e]; exact h2
        · rename_i e
          rw [if_neg e]
          rcases (key _).mp h2 with ⟨ys, g1, g2⟩ | ⟨ys, g1, g2⟩
          · rw [h1] at g1; cases g1; exact g2
          · exact (Oh h1 g1).elim
      · refine (key _).mpr (.inr ⟨xs, h1, ?_⟩)
        split at h2
        · rename_i e; rw [if_pos e]; exact h2
        · rename_i e
          rw [if_neg e]
          rcases (key _).mp h2 with ⟨ys, g1, g2⟩ | ⟨ys, g1, g2⟩
          · exact (Oh g1 h1).elim
          · rw [h1] at g1; cases g1; exact g2
    · intro h
      rcases (key _).mp h with ⟨xs, h1, h2⟩ | ⟨xs, h1, h2⟩
      · refine (key _).mpr (.inl ⟨xs, h1, ?_⟩)
        split at h2
        · rename_i e; rw [if_pos e]; exact h2
        · rename_i e; rw [if_neg e]; exact (key _).mpr (.inl ⟨xs, h1, h2⟩)
      · refine (key _).mpr (.inr ⟨xs, h1, ?_⟩)
        split at h2
        · rename_i e; rw [if_pos e]; exact h2
        · rename_i e; rw [if_neg e]; exact (key _).mpr (.inr ⟨xs, h1, h2⟩)
  | non => rfl
  | bl b => rfl
  | int i => rfl
  | tup xs => rfl
  | _ => rfl
theorem te_bop_tt {e e2 : E} {r : Es} {σD : DEnv} {M : Z1} {QD : Bool → Z1 → Prop} (h : ttD (tbop c Z true (.cons e (.cons e2 r))) σD M QD) :
    ttD (te c Z e) σD M fun z M1 => if z = true then ttD (tbop c Z true (.cons e2 r)) σD M1 QD else QD false M1 := by
  have hh : (fun (x : D) (M1 : Z1) => truD M1 x fun b => if b = true then ttD (tbop c Z true (.cons e2 r)) σD M1 QD else truD M1 x fun b => QD b M1) =
      fun x M1 => truD M1 x fun z => if z = true then ttD (tbop c Z true (.cons e2 r)) σD M1 QD else QD false M1 := by
    funext x M1
    rw [G2]
    congr 1
    funext b
    cases b <;> rfl
  have h' : te c Z e σD M fun (x : D) (M1 : Z1) => truD M1 x fun b => if b = true then ttD (tbop c Z true (.cons e2 r)) σD M1 QD else truD M1 x fun b => QD b M1 := h
  rw [hh] at h'
  exact h'
theorem te_bop_ff {e e2 : E} {r : Es} {σD : DEnv} {M : Z1} {QD : Bool → Z1 → Prop} (h : ttD (tbop c Z false (.cons e (.cons e2 r))) σD M QD) :
    ttD (te c Z e) σD M fun z M1 => if z = true then QD true M1 else ttD (tbop c Z false (.cons e2 r)) σD M1 QD := by
  have hh : (fun (x : D) (M1 : Z1) => truD M1 x fun b => if b = false then ttD (tbop c Z false (.cons e2 r)) σD M1 QD else truD M1 x fun b => QD b M1) =
      fun x M1 => truD M1 x fun z => if z = true then QD true M1 else ttD (tbop c Z false (.cons e2 r)) σD M1 QD := by
    funext x M1
    rw [G2]
    congr 1
    funext b
    cases b <;> rfl
  have h' : te c Z e σD M fun (x : D) (M1 : Z1) => truD M1 x fun b => if b = false then ttD (tbop c Z false (.cons e2 r)) σD M1 QD else truD M1 x fun b => QD b M1 := h
  rw [hh] at h'
  exact h'
end
theorem Zb7 {op : Cm} {r : Expr} (h : (!isIn op || O7 r) = true) : behindInMarks (cmOf op) r = false := by
  revert h
  refine Expr.casesOn (motive_1 := fun r => (!isIn op || O7 r) = true → behindInMarks (cmOf op) r = false) r ?_ ?_ ?_ ?_ ?_ ?_ ?_ ?_ ?_ ?_ ?_ ?_ ?_ ?_ ?_ ?_ ?_ ?_ ?_ ?_ ?_ ?_ ?_ ?_ ?_ ?_ ?_ <;> first | (intros; rfl) | skip
  intro es kk p h
  cases op <;> first | exact absurd h Bool.false_ne_true | simp [behindInMarks, cmOf]
mutual
theorem Zp (c : Cfg) : ∀ e : E, Zf1 c e
  | .var i, k, Z, w0, X, ex, G, h => by
    replace h := Y9 h
    obtain ⟨x, pos, rfl, h⟩ := h
    change (_ && _) = true at h
    simp only [Bool.and_eq_true, beq_iff_eq] at h
    exact both G (Bd G h.1 h.2) fun _ => rfl
  | .int i, k, Z, w0, X, ex, G, h => by
    replace h := Xr h
    obtain ⟨v, j, pos, rfl, h⟩ := h
    cases v with
    | int m =>
      have h : (i == m) = true := h
      simp only [beq_iff_eq] at h
      subst h
      exact both G (PE.imp Zd3 fun σ H Q q => Qp (fun _ _ => Zc.mpr rfl) q) fun _ => rfl
    | _ => exact absurd h Bool.false_ne_true
  | .bl i, k, Z, w0, X, ex, G, h => by
    replace h := Xr h
    obtain ⟨v, j, pos, rfl, h⟩ := h
    cases v with
    | bool m =>
      have h : (i == m) = true := h
      simp only [beq_iff_eq] at h
      subst h
      exact both G (PE.imp Zy6 fun σ H Q q => Qp (fun _ _ => Wd.mpr rfl) q) fun _ => rfl
    | _ => exact absurd h Bool.false_ne_true
  | .non, k, Z, w0, X, ex, G, h => by
    replace h := Xr h
    obtain ⟨v, j, pos, rfl, h⟩ := h
    cases v with
    | none => exact both G (PE.imp Zw0 fun σ H Q q => Qp (fun _ _ => Yk.mpr rfl) q) fun _ => rfl
    | _ => exact absurd h Bool.false_ne_true
  | .str i, k, Z, w0, X, ex, G, h => by
    replace h := Xr h
    obtain ⟨v, j, pos, rfl, h⟩ := h
    cases v with
    | str m =>
      have h : (i == m) = true := h
      simp only [beq_iff_eq] at h
      subst h
      exact both G (PE.imp Zs2 fun σ H Q q => Qp (fun _ _ => Yd.mpr rfl) q) fun _ => rfl
    | _ => exact absurd h Bool.false_ne_true
  | .ty t, k, Z, w0, X, ex, G, h => by
    replace h := Y9 h
    obtain ⟨x, pos, rfl, h⟩ := h
    change (_ && _) = true at h
    simp only [Bool.and_eq_true, beq_iff_eq, List.contains_iff_mem] at h
    obtain ⟨g1, g2, g3⟩ := G.gl h.1.2
    exact both G (PE.imp (Zl2 (v := .ty (X9 t)) g1 (G.blt x h.2) (by rw [h.1.1]; exact Zf8 t) rfl g3 g2) fun σ H Q q => Qp (fun _ _ => Zi2.mpr rfl) q) fun _ => rfl
  | .glb g, k, Z, w0, X, ex, G, h => by
    replace h := Y9 h
    obtain ⟨x, pos, rfl, h⟩ := h
    change (_ && _) = true at h
    simp only [Bool.and_eq_true, beq_iff_eq] at h
    exact both G (Ep G h.1 h.2) fun _ => rfl
  | .bin op a b, k, Z, w0, X, ex, G, h => by
    replace h := Z45 h
    obtain ⟨l, o, r, pos, rfl, h⟩ := h
    change (_ && _) = true at h
    simp only [Bool.and_eq_true, beq_iff_eq] at h
    obtain ⟨⟨rfl, h1⟩, h2⟩ := h
    exact both G (PE.imp (Zz3 (Z92 (w0 := w0) op) (Zp c a k Z w0 X l G h1).1 (Zp c b k Z w0 X r G h2).1) fun σ H Q q => C4 q) fun _ => rfl
  | .neg a, k, Z, w0, X, ex, G, h => by
    replace h := Pp h
    obtain ⟨o, l, pos, rfl, h⟩ := h
    change (_ && _) = true at h
    simp only [Bool.and_eq_true, beq_iff_eq] at h
    obtain ⟨rfl, h1⟩ := h
    refine both G (PE.imp (Zr2 Zf5 (Zp c a k Z w0 X l G h1).1) fun σ H Q zz89 => ?_) fun _ => rfl
    obtain ⟨w, σD, M, QD, S, g, aq⟩ := zz89
    refine Yg S g fun x w1 dx M1 x1 r1 rx q1 => ?_
    split at q1
    · cases Zc.mp rx
      exact ⟨_, rfl, aq _ w1 _ M1 x1 r1 (Zc.mpr rfl) q1⟩
    · exact q1.elim
  | .not a, k, Z, w0, X, ex, G, h => by
    replace h := Pp h
    obtain ⟨o, l, pos, rfl, h⟩ := h
    change (_ && _) = true at h
    simp only [Bool.and_eq_true, beq_iff_eq] at h
    obtain ⟨rfl, h1⟩ := h
    obtain ⟨i1, i2⟩ := Zp c a k Z w0 X l G h1
    refine ⟨PE.imp (Zg8 i1) fun σ H Q ⟨w, σD, M, QD, S, g, aq⟩ => ?_, fun hn => PT.imp (Zu9 (i2 hn)) fun σ H Q ⟨w, σD, M, QD, S, g, aq⟩ => ?_⟩
    · refine Yg S g fun x w1 dx M1 x1 r1 rx q1 => ?_
      obtain ⟨b, t1, t2⟩ := T7 (K := X.K) (by rw [x1.K, S.K, G.eK]) r1 rx q1
      exact ⟨b, t1, aq _ w1 _ M1 x1 r1 (Wd.mpr rfl) t2⟩
    · exact ⟨w, σD, M, fun b M1 => QD (!b) M1, S, g, fun b w' M' x' r' q' => aq _ w' M' x' r' q'⟩
  | .cmp op a b, k, Z, w0, X, ex, G, h => by
    replace h := B1 h
    obtain ⟨l, os, rs, pos, rfl, h⟩ := h
    replace h := Wm h
    obtain ⟨o, rfl, h⟩ := h
    replace h := Wm h
    obtain ⟨r, rfl, h⟩ := h
    change (_ && _) = true at h
    simp only [Bool.and_eq_true, beq_iff_eq] at h
    obtain ⟨⟨⟨rfl, h0⟩, h1⟩, h2⟩ := h
    have hm := Zb7 h0
    have ia := (Zp c a k Z w0 X l G h1).1
    have ib := (Zp c b k Z w0 X r G h2).1
    refine ⟨PE.imp (Zj9 (Gw (w0 := w0) G.eK G.units op) ia ib hm) fun σ H Q q => Od q, fun _ => Zm7 (PT.imp (Zn4 (Gw (w0 := w0) G.eK G.units op) ia ib hm) fun σ H Q q => Od q) te_cmp_bl⟩
  | .bop b es, k, Z, w0, X, ex, G, h => by
    replace h := Ft h
    obtain ⟨o, ls, pos, rfl, h⟩ := h
    change (_ && _) = true at h
    simp only [Bool.and_eq_true, beq_iff_eq] at h
    obtain ⟨rfl, h⟩ := h
    cases b with
    | true =>
      obtain ⟨i1, i2⟩ := (V1 c es k Z w0 X ls G h).2 true pos
      exact ⟨i1, fun hn => (i2 hn).pt⟩
    | false =>
      obtain ⟨i1, i2⟩ := (V1 c es k Z w0 X ls G h).2 false pos
      exact ⟨i1, fun hn => (i2 hn).pt⟩
  | .ife t a b, k, Z, w0, X, ex, G, h => by
    replace h := Z71 h
    obtain ⟨x, l, r, pos, rfl, h⟩ := h
    change (_ && _) = true at h
    simp only [Bool.and_eq_true] at h
    refine ⟨PE.imp (Z56 ((Zp c t k Z w0 X x G h.1.1.1).2 h.2) (Zp c a k Z w0 X l G h.1.1.2).1 (Zp c b k Z w0 X r G h.1.2).1) fun σ H Q zz92 => ?_, fun hn => absurd hn Bool.false_ne_true⟩
    obtain ⟨w, σD, M, QD, S, g, aq⟩ := zz92
    refine ⟨w, σD, M, fun r M1 => if r = true then te c Z a σD M1 QD else te c Z b σD M1 QD, S, g, fun r w1 M1 x1 r1 q1 => ?_⟩
    cases r with
    | true => rw [if_pos rfl] at q1 ⊢; exact Yg (S.next x1 r1) q1 (aq.ext x1)
    | false => rw [if_neg Bool.false_ne_true] at q1 ⊢; exact Yg (S.next x1 r1) q1 (aq.ext x1)
  | .lst es, k, Z, w0, X, ex, G, h => by
    replace h := Cp h
    obtain ⟨ls, pos, rfl, h⟩ := h
    refine both G (PE.imp (Zq1 (V1 c es k Z w0 X ls G h).1) fun σ H Q zz93 => ?_) fun _ => rfl
    obtain ⟨w, σD, M, QD, S, g, aq⟩ := zz93
    refine ⟨w, σD, M, _, S, g, fun vs w1 ds M1 x1 r1 rd1 q1 => ⟨by rw [rd1.length]; exact q1.1, fun p hp => ?_⟩⟩
    obtain ⟨y1, y2, y3⟩ := Wn r1 hp rd1
    exact aq _ _ _ _ (x1.trans y1) y2 y3 q1.2
  | .tup es, k, Z, w0, X, ex, G, h => by
    replace h := Nb h
    obtain ⟨ls, kk, pos, rfl, h⟩ := h
    refine both G (PE.imp (Zt7 (V1 c es k Z w0 X ls G h).1) fun σ H Q zz94 => ?_) fun _ => rfl
    obtain ⟨w, σD, M, QD, S, g, aq⟩ := zz94
    refine ⟨w, σD, M, _, S, g, fun vs w1 ds M1 x1 r1 rd1 q1 => ⟨by rw [rd1.length]; exact q1.1, fun p hp => ?_⟩⟩
    obtain ⟨y1, y2, y3⟩ := Rt r1 hp rd1
    exact aq _ _ _ _ (x1.trans y1) y2 y3 q1.2
  | .dict0, k, Z, w0, X, ex, G, h => by
    replace h := Bo h
    obtain ⟨ks, vs, pos, rfl, h⟩ := h
    replace h := Xg h
    obtain ⟨rfl, h⟩ := h
    replace h := Xg h
    obtain ⟨rfl, _⟩ := h
    refine both G (PE.imp Zb2 fun σ H Q zz95 => ?_) fun _ => rfl
    obtain ⟨w, σD, M, QD, S, g, aq⟩ := zz95
    intro p hp
    rw [← S.heap] at hp
    obtain ⟨y1, y2, y3⟩ := Pc (xs := []) (vs := []) S.rs hp (by unfold RKV; rfl)
    have := aq _ _ _ _ y1 y2 y3 g
    rw [← S.heap]
    exact this
  | .ix a b, k, Z, w0, X, ex, G, h => by
    replace h := T6 h
    obtain ⟨l, r, pos, rfl, h⟩ := h
    change (_ && _) = true at h
    simp only [Bool.and_eq_true] at h
    exact both G (Zc3 G h.1.1 (Zp c a k Z w0 X l G h.1.2).1 (Zp c b k Z w0 X r G h.2).1) fun _ => rfl
  | .sl a lo hi, k, Z, w0, X, ex, G, h => by
    replace h := T6 h
    obtain ⟨l, r, pos, rfl, h⟩ := h
    replace h := N1 h
    obtain ⟨x, y, z, p2, rfl, h⟩ := h
    replace h := Nv h
    obtain ⟨rfl, h⟩ := h
    change (_ && _) = true at h
    simp only [Bool.and_eq_true] at h
    exact both G (Za4 G (Zp c a k Z w0 X l G h.1.1).1 ((G3 c lo).1 k Z w0 X x G h.1.2) ((G3 c hi).1 k Z w0 X y G h.2)) fun _ => rfl
  | .rev a, k, Z, w0, X, ex, G, h => by
    replace h := T6 h
    obtain ⟨l, r, pos, rfl, h⟩ := h
    replace h := N1 h
    obtain ⟨x, y, z, p2, rfl, h⟩ := h
    replace h := Nv h
    obtain ⟨rfl, h⟩ := h
    replace h := Nv h
    obtain ⟨rfl, h⟩ := h
    replace h := Z41 h
    obtain ⟨z, rfl, h2⟩ := h
    change (_ && _) = true at h2
    rw [Bool.and_eq_true] at h2
    exact both G (Z09 G (Zp c a k Z w0 X l G h2.1).1 h2.2) fun _ => rfl
  | .call f es, k, Z, w0, X, ex, G, h => by
    replace h := Xp h
    obtain ⟨fn, ls, kws, pos, rfl, h⟩ := h
    replace h := Y9 h
    obtain ⟨x, np, rfl, h⟩ := h
    replace h := Xg h
    obtain ⟨rfl, h⟩ := h
    change (_ && _) = true at h
    simp only [Bool.and_eq_true, beq_iff_eq] at h
    exact both G (Fg G h.1.1.1 h.1.1.2 h.1.2 h.2 (V1 c es k Z w0 X ls G h.2).1) fun _ => rfl
  | .bf b es, k, Z, w0, X, ex, G, h => by
    replace h := Xp h
    obtain ⟨fn, ls, kws, pos, rfl, h⟩ := h
    replace h := Y9 h
    obtain ⟨x, np, rfl, h⟩ := h
    replace h := Xg h
    obtain ⟨rfl, h⟩ := h
    replace h := C3 h
    obtain ⟨l, ls, rfl, h⟩ := h
    change (_ && _) = true at h
    simp only [Bool.and_eq_true, beq_iff_eq, Bool.or_eq_true, List.contains_iff_mem] at h
    exact both G (Z94 G h.1.1.1.1 h.1.1.1.2 h.1.1.2 h.1.2 h.2 (V1 c es k Z w0 X (l :: ls) G h.2).1) fun _ => rfl
  | .mt m o es, k, Z, w0, X, ex, G, h => by
    replace h := Xp h
    obtain ⟨fn, ls, kws, pos, rfl, h⟩ := h
    replace h := Qs h
    obtain ⟨l, nm, ap, rfl, h⟩ := h
    replace h := Xg h
    obtain ⟨rfl, h⟩ := h
    change (_ && _) = true at h
    simp only [Bool.and_eq_true, beq_iff_eq, decide_eq_true_eq] at h
    obtain ⟨⟨⟨⟨⟨rfl, h1⟩, h2⟩, h3⟩, h4⟩, h5⟩ := h
    exact both G (Z55 G h1 (by rw [h2]; simp) h3 h5 (Zp c o k Z w0 X l G h4).1 (V1 c es k Z w0 X ls G h5).1) fun _ => rfl
  | .fld o f, k, Z, w0, X, ex, G, h => by
    replace h := Qs h
    obtain ⟨l, g, pos, rfl, h⟩ := h
    change (_ && _) = true at h
    simp only [Bool.and_eq_true, beq_iff_eq] at h
    obtain ⟨⟨rfl, h1⟩, h2⟩ := h
    exact both G (Z21 G h1 (Zp c o k Z w0 X l G h2).1) fun _ => rfl
  | .comp N' js tg it cd e, k, Z, w0, X, ex, G, h => by
    replace h := Sg h
    obtain ⟨el, gens, scope, pos, rfl, h⟩ := h
    replace h := Wm h
    obtain ⟨g, rfl, h⟩ := h
    obtain ⟨t, iter, ifs, as⟩ := g
    replace h := Z11 h
    obtain ⟨rfl, h⟩ := h
    change (_ && _) = true at h
    simp only [Bool.and_eq_true, decide_eq_true_eq] at h
    obtain ⟨⟨⟨⟨⟨⟨⟨⟨h1, h2⟩, h3⟩, h4⟩, h5⟩, h6⟩, h7⟩, h8⟩, h9⟩ := h
    exact both G (Qa G h1 h2 h3 h5 (Z18 c it k Z w0 X t iter G h4 h9) h6 h7 h8 (Zp c e) (G3 c cd)).1 fun _ => rfl
theorem V1 (c : Cfg) : ∀ es : Es, Zg0 c es
  | .nil, k, Z, w0, X, ls, G, h => by
    cases ls with
    | nil =>
      refine ⟨PA.imp Gv fun σ H Q zz96 => ?_, fun b pos => ⟨PE.imp (t := fun _ _ _ => False) (fun _ _ _ _ _ _ h => h.elim) fun σ H Q zz97 => by obtain ⟨w, σD, M, QD, S, g, aq⟩ := zz97; exact g, fun _ whole pins s σ H Q I zz98 => by obtain ⟨w, σD, M, QD, S, g, aq⟩ := zz98; exact g.elim⟩⟩
      obtain ⟨w, σD, M, QD, S, g, aq⟩ := zz96
      have := aq [] w [] M (Ext.refl w) S.rs (RDs.nil w) g
      rw [S.heap] at this
      exact this
    | cons l ls => exact absurd h Bool.false_ne_true
  | .cons e r, k, Z, w0, X, ls, G, h => by
    cases ls with
    | nil => exact absurd h Bool.false_ne_true
    | cons l ls =>
      change (_ && _) = true at h
      simp only [Bool.and_eq_true] at h
      obtain ⟨ie, it⟩ := Zp c e k Z w0 X l G h.1.1
      obtain ⟨ir, ib⟩ := V1 c r k Z w0 X ls G h.2
      refine ⟨PA.imp (Rk ie ir (Y2 h.1.2)) fun σ H Q ⟨w, σD, M, QD, S, g, aq⟩ => ?_, fun b pos => ?_⟩
      · refine Yg S g fun v w1 d M1 x1 r1 rd1 q1 => ?_
        refine ⟨w1, σD, M1, _, S.next x1 r1, q1, fun vs w2 ds M2 x2 r2 rd2 q2 => ?_⟩
        exact aq _ w2 _ M2 (x1.trans x2) r2 (RDs.cons (rd1.ext x2) rd2) q2
      · cases r with
        | nil =>
          cases ls with
          | cons _ _ => exact absurd h.2 Bool.false_ne_true
          | nil =>
            refine ⟨PE.imp (Zs9 ie) fun σ H Q q => q, fun hn => ?_⟩
            have hn' : noIf e = true := (Bool.and_eq_true_iff.mp hn).1
            cases b with
            | true => exact fun whole pins s σ H Q I q => Zh5 (it hn') whole pins s σ H Q I q
            | false => exact fun whole pins s σ H Q I q => Zv1 (it hn') whole pins s σ H Q I q
        | cons e2 r2 =>
          cases ls with
          | nil => exact absurd h.2 Bool.false_ne_true
          | cons l2 ls =>
            obtain ⟨jb, jw⟩ := ib b pos
            constructor
            · cases b with
              | true =>
                refine PE.imp (Zl0 ie jb) fun σ H Q zz100 => ?_
                obtain ⟨w, σD, M, QD, S, g, aq⟩ := zz100
                refine Yg S g fun v w1 d M1 x1 r1 rd1 q1 => ?_
                obtain ⟨z, t1, t2⟩ := T7 (K := X.K) (by rw [x1.K, S.K, G.eK]) r1 rd1 q1
                refine ⟨z, t1, ?_⟩
                cases z with
                | true => rw [if_pos rfl] at t2 ⊢; exact Yg (S.next x1 r1) t2 (aq.ext x1)
                | false => rw [if_neg Bool.false_ne_true] at t2 ⊢; exact aq _ w1 _ M1 x1 r1 rd1 t2
              | false =>
                refine PE.imp (Zo7 ie jb) fun σ H Q zz101 => ?_
                obtain ⟨w, σD, M, QD, S, g, aq⟩ := zz101
                refine Yg S g fun v w1 d M1 x1 r1 rd1 q1 => ?_
                obtain ⟨z, t1, t2⟩ := T7 (K := X.K) (by rw [x1.K, S.K, G.eK]) r1 rd1 q1
                refine ⟨z, t1, ?_⟩
                cases z with
                | false => rw [if_pos rfl] at t2; rw [if_neg Bool.false_ne_true]; exact Yg (S.next x1 r1) t2 (aq.ext x1)
                | true => rw [if_neg (by decide)] at t2; rw [if_pos rfl]; exact aq _ w1 _ M1 x1 r1 rd1 t2
            · intro hn
              have hn' : noIf e = true ∧ Z14 (.cons e2 r2) = true := by
                have : (noIf e && Z14 (.cons e2 r2)) = true := hn
                simpa using this
              have jw' := jw hn'.2
              cases b with
              | true =>
                rintro whole pins s σ H Q I ⟨w, σD, M, QD, S, g, aq⟩
                refine Zw4 (it hn'.1) jw' whole pins s σ H Q I ?_
                refine ⟨w, σD, M, fun z M1 => if z = true then ttD (tbop c Z true (.cons e2 r2)) σD M1 QD else QD false M1, S, ?_, fun z w1 M1 x1 r1 q1 => ?_⟩
                · exact te_bop_tt g
                · cases z with
                  | true => rw [if_pos rfl] at q1 ⊢; exact ⟨w1, σD, M1, QD, S.next x1 r1, q1, fun z w2 M2 x2 r2 q2 => aq z w2 M2 (x1.trans x2) r2 q2⟩
                  | false => rw [if_neg Bool.false_ne_true] at q1 ⊢; exact aq _ w1 M1 x1 r1 q1
              | false =>
                rintro whole pins s σ H Q I ⟨w, σD, M, QD, S, g, aq⟩
                refine Zz8 (it hn'.1) jw' whole pins s σ H Q I ?_
                refine ⟨w, σD, M, fun z M1 => if z = true then QD true M1 else ttD (tbop c Z false (.cons e2 r2)) σD M1 QD, S, ?_, fun z w1 M1 x1 r1 q1 => ?_⟩
                · exact te_bop_ff g
                · cases z with
                  | true => rw [if_pos rfl] at q1 ⊢; exact aq _ w1 M1 x1 r1 q1
                  | false => rw [if_neg Bool.false_ne_true] at q1 ⊢; exact ⟨w1, σD, M1, QD, S.next x1 r1, q1, fun z w2 M2 x2 r2 q2 => aq z w2 M2 (x1.trans x2) r2 q2⟩
theorem G3 (c : Cfg) : ∀ eo : Eo, Zd8 c eo
  | .no => ⟨fun k Z w0 X lo G h => by
      cases lo with
      | none =>
        rintro pins s σ H Q I ⟨w, σD, M, QD, S, g, aq⟩
        refine Zl5 pins s σ H Q I ?_
        have := aq none w M (Ext.refl w) S.rs g
        rw [S.heap] at this
        exact this
      | some _ => exact absurd h Bool.false_ne_true, fun k Z w0 X ls G h => by
      cases ls with
      | nil => exact .inr ⟨rfl, rfl⟩
      | cons _ _ => exact absurd h Bool.false_ne_true⟩
  | .yes e => ⟨fun k Z w0 X lo G h => by
      cases lo with
      | none => exact absurd h Bool.false_ne_true
      | some x =>
        rintro pins s σ H Q I ⟨w, σD, M, QD, S, g, aq⟩
        refine Z01 (Zp c e k Z w0 X x G h).1 pins s σ H Q I ?_
        refine Yg S g fun v w1 d M1 x1 r1 rd1 q1 => ?_
        split at q1
        · cases Zc.mp rd1
          exact ⟨_, rfl, aq _ w1 M1 x1 r1 q1⟩
        · exact q1.elim, fun k Z w0 X ls G h => by
      match ls, h with
      | [x], h =>
        change (_ && _) = true at h
        simp only [Bool.and_eq_true] at h
        exact .inl ⟨x, rfl, (Zp c e k Z w0 X x G h.1).2 h.2⟩
      | [], h => exact absurd h Bool.false_ne_true
      | _ :: _ :: _, h => exact absurd h Bool.false_ne_true⟩
theorem Z18 (c : Cfg) : ∀ it : It, Zr8 c it
  | .seq e, k, Z, w0, X, tg, ex, G, h, _ => by
    refine PI.imp (Zx2 (Zp c e k Z w0 X ex G h).1) fun σ H R zz102 => ?_
    obtain ⟨w, σD, M, QD, S, g, aq⟩ := zz102
    refine Yg S g fun v w1 d M1 x1 r1 rd1 q1 => ?_
    have hK : X.K = w1.K := by rw [x1.K, S.K, G.eK]
    unfold itD at q1
    split at q1
    · obtain ⟨hn, rfl⟩ := Zr.mp rd1
      obtain ⟨xs, z1, z2⟩ := q1
      obtain ⟨_, vs, y1, y2, _⟩ := r1.listL z1
      rw [← hK] at y1
      exact .inl ⟨_, rfl, ⟨vs, y1⟩, aq _ w1 _ _ M1 x1 r1 (Zb3 hK hn) z2⟩
    · obtain ⟨a, vs, rfl, y1, y2⟩ := Xj.mp rd1
      exact .inr ⟨a, rfl, ⟨vs, .of y1⟩, aq _ w1 _ _ M1 x1 r1 (Z26 hK (.of y1) y2) q1⟩
    · obtain ⟨a, vs, rfl, y1, y2⟩ := Pm.mp rd1
      exact .inr ⟨a, rfl, ⟨vs, by rw [hK]; exact y1⟩, aq _ w1 _ _ M1 x1 r1 (Z26 hK y1 y2) q1⟩
    · exact q1.elim
  | .rng1 a, k, Z, w0, X, tg, ex, G, h, _ => by
    replace h := Xp h
    obtain ⟨fn, ls, kws, pos, rfl, h⟩ := h
    replace h := Y9 h
    obtain ⟨x, np, rfl, h⟩ := h
    replace h := Xg h
    obtain ⟨rfl, h⟩ := h
    replace h := Wm h
    obtain ⟨l, rfl, h⟩ := h
    change (_ && _) = true at h
    simp only [Bool.and_eq_true, beq_iff_eq, List.contains_iff_mem] at h
    obtain ⟨⟨⟨⟨rfl, h1⟩, h2⟩, h3⟩, h4⟩ := h
    obtain ⟨g1, g2, g3⟩ := G.gl h1
    refine PI.imp (Z16 g1 (G.blt _ h2) (Rk (Zp c a k Z w0 X l G h4).1 Gv (Y2 h3)) (Y2 h3)) fun σ H R zz103 => ?_
    obtain ⟨w, σD, M, QD, S, g, aq⟩ := zz103
    refine Yg S g fun v w1 d M1 x1 r1 rd1 q1 => ?_
    split at q1
    · cases Zc.mp rd1
      exact ⟨_, rfl, q1.1, q1.2.1, aq _ w1 _ _ M1 x1 r1 Ez q1.2.2⟩
    · exact q1.elim
  | .rng2 a b, k, Z, w0, X, tg, ex, G, h, _ => by
    replace h := Xp h
    obtain ⟨fn, ls, kws, pos, rfl, h⟩ := h
    replace h := Y9 h
    obtain ⟨x, np, rfl, h⟩ := h
    replace h := Xg h
    obtain ⟨rfl, h⟩ := h
    replace h := C3 h
    obtain ⟨l, ls, rfl, h⟩ := h
    replace h := Wm h
    obtain ⟨r, rfl, h⟩ := h
    change (_ && _) = true at h
    simp only [Bool.and_eq_true, beq_iff_eq, List.contains_iff_mem] at h
    obtain ⟨⟨⟨⟨⟨⟨rfl, h1⟩, h2⟩, h3⟩, h5⟩, h4⟩, h6⟩ := h
    obtain ⟨g1, g2, g3⟩ := G.gl h1
    refine PI.imp (Z30 g1 (G.blt _ h2) (Rk (Zp c a k Z w0 X l G h4).1 (Rk (Zp c b k Z w0 X r G h6).1 Gv (Y2 h5)) (Y2 h3)) (by rw [Y2 h3, Y2 h5]; rfl) (Y2 h5)) fun σ H R zz104 => ?_
    obtain ⟨w, σD, M, QD, S, g, aq⟩ := zz104
    refine Yg S g fun v w1 d M1 x1 r1 rd1 q1 => ?_
    refine Yg (S.next x1 r1) q1 fun v2 w2 d2 M2 x2 r2 rd2 q2 => ?_
    split at q2
    · cases Zc.mp rd1
      cases Zc.mp rd2
      exact ⟨_, _, rfl, q2.1, aq _ w2 _ _ M2 (x1.trans x2) r2 Ez q2.2⟩
    · exact q2.elim
  | .enm a, k, Z, w0, X, tg, ex, G, h, ht => by
    obtain ⟨elts, ctx, tp, rfl, _⟩ := Nb ht
    replace h := Xp h
    obtain ⟨fn, ls, kws, pos, rfl, h⟩ := h
    replace h := Y9 h
    obtain ⟨x, np, rfl, h⟩ := h
    replace h := Xg h
    obtain ⟨rfl, h⟩ := h
    replace h := Wm h
    obtain ⟨l, rfl, h⟩ := h
    change (_ && _) = true at h
    simp only [Bool.and_eq_true, beq_iff_eq, List.contains_iff_mem] at h
    obtain ⟨⟨⟨⟨rfl, h1⟩, h2⟩, h3⟩, h4⟩ := h
    obtain ⟨g1, g2, g3⟩ := G.gl h1
    refine PI.imp (Zg9 g1 (G.blt _ h2) (Rk (Zp c a k Z w0 X l G h4).1 Gv (Y2 h3)) (Y2 h3)) fun σ H R zz105 => ?_
    obtain ⟨w, σD, M, QD, S, g, aq⟩ := zz105
    refine Yg S g fun v w1 d M1 x1 r1 rd1 q1 => ?_
    have hK : X.K = w1.K := by rw [x1.K, S.K, G.eK]
    split at q1
    · obtain ⟨hn, rfl⟩ := Zr.mp rd1
      obtain ⟨xs, z1, z2⟩ := q1
      obtain ⟨_, vs, y1, y2, _⟩ := r1.listL z1
      rw [← hK] at y1
      exact ⟨_, rfl, ⟨vs, y1⟩, aq _ w1 _ _ M1 x1 r1 (Z59 hK hn) z2⟩
    · exact q1.elim
end
noncomputable def Nm : Expr → Bool
  | .ListComp .. | .SetComp .. | .DictComp .. => false
  | _ => true
noncomputable def Py : Expr → Bool
  | .Tuple .. => false
  | _ => true
noncomputable def Zf2 : Expr → Bool
  | .Name .. => true
  | _ => false
noncomputable def Zq2 (zz : Stmt) (F : (Option Expr) → Bool) : Bool := if q : zz.ctorIdx = 3 then Stmt.Return.elim (motive_2 := fun _ => Bool) zz q (fun v _ => F v) else false
theorem Z44 {zz : Stmt} {F : (Option Expr) → Bool} (h : Zq2 zz F = true) : ∃ v p, zz = .Return v p ∧ F v = true := by
  obtain ⟨q, h⟩ := Zm h
  exact Stmt.Return.elim (motive_2 := fun zz => ∀ q : zz.ctorIdx = 3, Stmt.Return.elim (motive_2 := fun _ => Bool) zz q (fun v _ => F v) = true → ∃ v p, zz = .Return v p ∧ F v = true) zz q (fun v p _ h => ⟨v, p, rfl, h⟩) q h
noncomputable def Zi9 (zz : Stmt) (F : (List Expr) → Expr → Bool) : Bool := if q : zz.ctorIdx = 5 then Stmt.Assign.elim (motive_2 := fun _ => Bool) zz q (fun ts x _ => F ts x) else false
theorem Oq {zz : Stmt} {F : (List Expr) → Expr → Bool} (h : Zi9 zz F = true) : ∃ ts x p, zz = .Assign ts x p ∧ F ts x = true := by
  obtain ⟨q, h⟩ := Zm h
  exact Stmt.Assign.elim (motive_2 := fun zz => ∀ q : zz.ctorIdx = 5, Stmt.Assign.elim (motive_2 := fun _ => Bool) zz q (fun ts x _ => F ts x) = true → ∃ ts x p, zz = .Assign ts x p ∧ F ts x = true) zz q (fun ts x p _ h => ⟨ts, x, p, rfl, h⟩) q h
noncomputable def Zs3 (zz : Stmt) (F : Expr → Operator → Expr → Bool) : Bool := if q : zz.ctorIdx = 7 then Stmt.AugAssign.elim (motive_2 := fun _ => Bool) zz q (fun t o y _ => F t o y) else false
theorem Ce {zz : Stmt} {F : Expr → Operator → Expr → Bool} (h : Zs3 zz F = true) : ∃ t o y p, zz = .AugAssign t o y p ∧ F t o y = true := by
  obtain ⟨q, h⟩ := Zm h
  exact Stmt.AugAssign.elim (motive_2 := fun zz => ∀ q : zz.ctorIdx = 7, Stmt.AugAssign.elim (motive_2 := fun _ => Bool) zz q (fun t o y _ => F t o y) = true → ∃ t o y p, zz = .AugAssign t o y p ∧ F t o y = true) zz q (fun t o y p _ h => ⟨t, o, y, p, rfl, h⟩) q h
noncomputable def Zn6 (zz : Stmt) (F : Expr → Expr → (List Stmt) → (List Stmt) → Bool) : Bool := if q : zz.ctorIdx = 9 then Stmt.For.elim (motive_2 := fun _ => Bool) zz q (fun t x ls rs _ => F t x ls rs) else false
theorem N8 {zz : Stmt} {F : Expr → Expr → (List Stmt) → (List Stmt) → Bool} (h : Zn6 zz F = true) : ∃ t x ls rs p, zz = .For t x ls rs p ∧ F t x ls rs = true := by
  obtain ⟨q, h⟩ := Zm h
  exact Stmt.For.elim (motive_2 := fun zz => ∀ q : zz.ctorIdx = 9, Stmt.For.elim (motive_2 := fun _ => Bool) zz q (fun t x ls rs _ => F t x ls rs) = true → ∃ t x ls rs p, zz = .For t x ls rs p ∧ F t x ls rs = true) zz q (fun t x ls rs p _ h => ⟨t, x, ls, rs, p, rfl, h⟩) q h
noncomputable def Zq0 (zz : Stmt) (F : Expr → (List Stmt) → (List Stmt) → Bool) : Bool := if q : zz.ctorIdx = 11 then Stmt.While.elim (motive_2 := fun _ => Bool) zz q (fun x ls rs _ => F x ls rs) else false
theorem B4 {zz : Stmt} {F : Expr → (List Stmt) → (List Stmt) → Bool} (h : Zq0 zz F = true) : ∃ x ls rs p, zz = .While x ls rs p ∧ F x ls rs = true := by
  obtain ⟨q, h⟩ := Zm h
  exact Stmt.While.elim (motive_2 := fun zz => ∀ q : zz.ctorIdx = 11, Stmt.While.elim (motive_2 := fun _ => Bool) zz q (fun x ls rs _ => F x ls rs) = true → ∃ x ls rs p, zz = .While x ls rs p ∧ F x ls rs = true) zz q (fun x ls rs p _ h => ⟨x, ls, rs, p, rfl, h⟩) q h
noncomputable def Zs5 (zz : Stmt) (F : Expr → (List Stmt) → (List Stmt) → Bool) : Bool := if q : zz.ctorIdx = 12 then Stmt.If.elim (motive_2 := fun _ => Bool) zz q (fun x ls rs _ => F x ls rs) else false
theorem Bt {zz : Stmt} {F : Expr → (List Stmt) → (List Stmt) → Bool} (h : Zs5 zz F = true) : ∃ x ls rs p, zz = .If x ls rs p ∧ F x ls rs = true := by
  obtain ⟨q, h⟩ := Zm h
  exact Stmt.If.elim (motive_2 := fun zz => ∀ q : zz.ctorIdx = 12, Stmt.If.elim (motive_2 := fun _ => Bool) zz q (fun x ls rs _ => F x ls rs) = true → ∃ x ls rs p, zz = .If x ls rs p ∧ F x ls rs = true) zz q (fun x ls rs p _ h => ⟨x, ls, rs, p, rfl, h⟩) q h
noncomputable def Zv7 (zz : Stmt) (F : PySem.Expr → Bool) : Bool := if q : zz.ctorIdx = 24 then Stmt.Expr.elim (motive_2 := fun _ => Bool) zz q (fun x _ => F x) else false
theorem Ca {zz : Stmt} {F : PySem.Expr → Bool} (h : Zv7 zz F = true) : ∃ x p, zz = .Expr x p ∧ F x = true := by
  obtain ⟨q, h⟩ := Zm h
  exact Stmt.Expr.elim (motive_2 := fun zz => ∀ q : zz.ctorIdx = 24, Stmt.Expr.elim (motive_2 := fun _ => Bool) zz q (fun x _ => F x) = true → ∃ x p, zz = .Expr x p ∧ F x = true) zz q (fun x p _ h => ⟨x, p, rfl, h⟩) q h
noncomputable def Zx3 (k : Ck) (t x : Expr) : Bool := Wt t fun n => onLC x fun _ _ scope => k.sc.kind == .function && k.loc n && t.pos.line == x.pos.line && !(scope.names.any fun (m, j) => m == n && (j == .local || j == .cell))
noncomputable def Zr5 (k : Ck) (t x : Expr) : Bool := Wt t fun n => onLC x fun _ _ _ => k.sc.names.lookup n == some .cell
noncomputable def Zu6 : Op → Bool
  | .add | .sub => true
  | _ => false
mutual
noncomputable def chkS (k : Ck) : S → Stmt → Bool
  | .never, _ => true
  | .ret e, st => Zq2 st fun v => soO v fun x => chkE k e x
  | .expr e, st => Zv7 st fun x => Nm x && chkE k e x
  | .set tg e, st => Zi9 st fun ts x => on1 ts fun t => Rf k tg t && chkE k e x && ((Nm x && (Zf2 t || Py x)) || (Zx3 k t x && decide (tg.length = 1)) || Zr5 k t x)
  | .aug op j e, st => Zs3 st fun t o y => Wt t fun x => o == opOf op && Zu6 op && k.N[j]? == some x && k.locC x && chkE k e y
  | .put o i v, st => Zi9 st fun ts x => on1 ts fun t => B5 t fun l r => Rx r && Nm x && chkE k v x && chkE k o l && chkE k i r
  | .ite t a b, st => Zs5 st fun x ls rs => chkE k t x && noIf t && Ym k a ls && Ym k b rs
  | .for_ tg it b, st => Zn6 st fun t x ls rs => on0 rs (k.calm && k.loops && O7 x && Rf k tg t && Zn2 k it x && Ym k b ls && itTg it t)
  | .forK tg e b, st => Zn6 st fun t x ls rs => on0 rs (k.calm && k.loops && O7 x && Rf k tg t && chkE k e x && Ym k b ls)
  | .while_ t b, st => Zq0 st fun x ls rs => on0 rs (k.loops && chkE k t x && noIf t && Ym k b ls)
noncomputable def Ym (k : Ck) : Ss → List Stmt → Bool
  | .nil, [] => true
  | .cons s r, x :: xs => chkS k s x && Ym k r xs
  | _, _ => false
end
section
variable {c : Cfg} {k : Ck} {Z : DX} {w0 : Vw} {X : Cx}
theorem Jh {x : Expr} {t : Option Expr} {line : Nat} {env : Env} (h : Nm x = true) : swapsWith x t line env = pure false := by
  revert h
  refine Expr.casesOn (motive_1 := fun x => Nm x = true → swapsWith x t line env = pure false) x ?_ ?_ ?_ ?_ ?_ ?_ ?_ ?_ ?_ ?_ ?_ ?_ ?_ ?_ ?_ ?_ ?_ ?_ ?_ ?_ ?_ ?_ ?_ ?_ ?_ ?_ ?_ <;> intros <;> first | rfl | exact absurd (by assumption) Bool.false_ne_true
theorem Z31 {x : Expr} {env : Env} (h : O7 x = true) : ∀ v, foldedSetIterable x env v = pure v := by
  intro v
  revert h
  refine Expr.casesOn (motive_1 := fun x => O7 x = true → foldedSetIterable x env v = pure v) x ?_ ?_ ?_ ?_ ?_ ?_ ?_ ?_ ?_ ?_ ?_ ?_ ?_ ?_ ?_ ?_ ?_ ?_ ?_ ?_ ?_ ?_ ?_ ?_ ?_ ?_ ?_ <;> intros <;> first | rfl | exact absurd (by assumption) Bool.false_ne_true
theorem Os {f : DS} {σ : L2.St} {w : Vw} {σD : DEnv} {M : Z1} {H : Hp} {R : Ends} {RR : DEnds} (S : StOk w0 w σD M σ H) (h : f RR σD M)
    (h1 : ∀ σ' w' σD' M', Ext w w' → RS w' M' → REnv w' σD' σ' → RR.nx σD' M' → R.nx σ' w'.H) (h2 : Aft w RR.rt R.rt)
    (h3 : ∀ σ' w' σD' M', Ext w w' → RS w' M' → REnv w' σD' σ' → RR.bk σD' M' → R.bk σ' w'.H)
    (h4 : ∀ σ' w' σD' M', Ext w w' → RS w' M' → REnv w' σD' σ' → RR.ct σD' M' → R.ct σ' w'.H) : tFS w0 f R σ H := ⟨w, σD, M, RR, S, h, h1, h2, h3, h4⟩
noncomputable def Zi7 (X : Cx) (R : Ends) : Ends := { nx := fun σ H => ∃ a o kvs, H a = some (.frz o (.dK kvs)) ∧ (∀ o u, X.H₀ a ≠ some (.frz o u)) ∧ R.nx σ (upd H a (.dK kvs)), rt := fun v H => ∃ a o kvs, H a = some (.frz o (.dK kvs)) ∧ (∀ o u, X.H₀ a ≠ some (.frz o u)) ∧ R.rt v (upd H a (.dK kvs)) }
theorem Zn3 {st : Stmt} {t : TS} (h : PS X st t) : PS X st (fun R σ H => t (Zi7 X R) σ H) := by
  intro pins s σ H D I q
  refine thn (h pins s σ H (Zi7 X D) I q) fun f s' hp => ?_
  cases f with
  | next =>
    obtain ⟨σ', H', I', a, o, kvs, e, nf, q⟩ := hp
    exact ⟨σ', _, Ze4 I' e nf, q⟩
  | brk => obtain ⟨σ', H', I', q⟩ := hp; exact q.elim
  | cont => obtain ⟨σ', H', I', q⟩ := hp; exact q.elim
  | ret u =>
    obtain ⟨v, σ', H', I', r, a, o, kvs, e, nf, q⟩ := hp
    exact ⟨v, σ', _, Ze4 I' e nf, r, q⟩
theorem REnv.ext0 {w w' : Vw} {σD : DEnv} {σ : L2.St} (h : REnv w σD σ) (x : Ext0 w w') : REnv w' σD σ :=
  ⟨h.1, fun i d e => by obtain ⟨v, q, r⟩ := h.2 i d e; exact ⟨v, q, r.ext0 x⟩⟩
theorem Oj {w1 w' : Vw} {M' : Z1} {n : Nat} {o : Obj} {vs : List (Key × V)} {kvs : List (Key × D)} (hn : n < w1.n) (y1 : w1.H (w1.μ n) = some (.dK vs)) (x : Ext (w1.alloc (w1.μ n) (.frz o (.dK vs))) w') (r : RS w' M') (t : M'[n]? = some (.fdc kvs)) :
    w'.H (w1.μ n) = some (.frz o (.dK vs)) ∧ Ext w1 (w'.alloc (w1.μ n) (.dK vs)) ∧ Ext0 w' (w'.alloc (w1.μ n) (.dK vs)) ∧ RS (w'.alloc (w1.μ n) (.dK vs)) (M'.set n (.dct kvs)) := by
  have q := x.imm (w1.μ n) _ Yp rfl
  have eμ : w'.μ n = w1.μ n := x.μ n hn
  obtain ⟨o', us, q1, q2⟩ := r.cell n _ t
  rw [eμ, q] at q1
  cases q1
  refine ⟨q, Zc7 y1 rfl x, Ni q, ?_⟩
  have := r.thaw t (by rw [eμ]; exact q) q2
  rw [eμ] at this
  exact this
theorem Bj {w1 : Vw} {J : L2.It} {own : Own} {xs : List D} {tg : List Nat} {body : DS} {M1 : Z1} {H1 : Hp} {σD : DEnv} {σ : L2.St} {RR : DEnds} {R : Ends} (S : StOk w0 w1 σD M1 σ H1) (jk : JOk w1 J own xs)
    (h : forD own xs tg body xs RR σD M1)
    (h1 : ∀ σ' w' σD' M', Ext w1 w' → RS w' M' → REnv w' σD' σ' → RR.nx σD' M' → R.nx σ' w'.H) (h2 : Aft w1 RR.rt R.rt) :
    ∃ W : Nat → Nat → L2.St → Hp → Prop, (∃ m, W 0 m σ H1) ∧ ∀ i m σ H, W i m σ H →
      (J.stop i H ∧ R.nx σ H) ∨ (J.go i H ∧ ∃ N : L2.St → Hp → Prop, (∀ σ' H', N σ' H' → ∃ m', m' < m ∧ W (i + 1) m' σ' H') ∧ ∀ x H', J.yld i H x H' → gF w0 tg x σ H' fun σ2 H2 => tFS w0 body { R with nx := N, ct := N, bk := R.nx } σ2 H2) := by
  refine ⟨fun i m σ H => ∃ w σE M, StOk w0 w σE M σ H ∧ Ext w1 w ∧ i ≤ xs.length ∧ m = xs.length - i ∧ forD own xs tg body (xs.drop i) RR σE M, ⟨xs.length, w1, σD, M1, S, Ext.refl _, Nat.zero_le _, rfl, h⟩, ?_⟩
  rintro i m σc Hc ⟨w, σE, M, S1, x1, hi, rfl, hc⟩
  have stp : ∀ st : Qz own xs M, _ := fun st => jk w M x1 S1.rs st i
  rw [S1.heap] at stp
  by_cases hil : i < xs.length
  · rw [List.drop_eq_getElem_cons hil] at hc
    obtain ⟨st, hc⟩ := hc
    obtain ⟨j1, j2⟩ := (stp st).1 xs[i] (List.getElem?_eq_getElem hil)
    refine .inr ⟨j1, fun σ' H' => ∃ w σE M, StOk w0 w σE M σ' H' ∧ Ext w1 w ∧ i + 1 ≤ xs.length ∧ forD own xs tg body (xs.drop (i + 1)) RR σE M, ?_, fun x H' hy => ?_⟩
    · rintro σ' H' ⟨w2, σ2, M2, S2, x2, l2, f2⟩
      exact ⟨xs.length - (i + 1), by omega, w2, σ2, M2, S2, x2, l2, rfl, f2⟩
    · obtain ⟨w3, rfl, x3, R3, rd3⟩ := j2 x H' hy
      refine ⟨w3, σE, M, xs[i], _, ⟨rfl, S1.ext.trans x3, R3, S1.env.ext x3⟩, rd3, hc, fun σ2 σE2 env2 q2 => ?_⟩
      have nxt : ∀ σ' w' σD' M', Ext w3 w' → RS w' M' → REnv w' σD' σ' → forD own xs tg body (xs.drop (i + 1)) RR σD' M' →
          ∃ w σE M, StOk w0 w σE M σ' w'.H ∧ Ext w1 w ∧ i + 1 ≤ xs.length ∧ forD own xs tg body (xs.drop (i + 1)) RR σE M :=
        fun σ' w' σD' M' x' r' e' q' => ⟨w', σD', M', ⟨rfl, (S1.ext.trans x3).trans x', r', e'⟩, (x1.trans x3).trans x', hil, q'⟩
      exact Os ⟨rfl, S1.ext.trans x3, R3, env2⟩ q2 nxt (fun v w' d M' x' r' rd' q' => h2 v w' d M' ((x1.trans x3).trans x') r' rd' q')
        (fun σ' w' σD' M' x' r' e' q' => h1 σ' w' σD' M' ((x1.trans x3).trans x') r' e' q') nxt
  · rw [List.drop_eq_nil_of_le (by omega)] at hc
    obtain ⟨st, hq⟩ := hc
    refine .inl ⟨(stp st).2 (by omega), ?_⟩
    have := h1 σc w σE M x1 S1.rs S1.env hq
    rw [S1.heap] at this
    exact this
theorem Zt4 {o i value : Expr} {td ty tv : TE} {pos pos' : Pos} (hu : X.A.units + 1 < cLine) (ho : PE X o td) (hi : PE X i ty) (hv : PE X value tv) (hs : swapsWith value (some (.Subscript o i pos')) pos.line X.env = pure false) :
    PS X (.Assign [.Subscript o i pos'] value pos) (fun R σ H => tv σ H fun v H1 => td σ H1 fun x H2 => ty σ H2 fun y H3 => Zu1 x y v H3 (fun H4 => R.nx σ H4) ∨ ∃ a H4, x = .ref a ∧ DPut H3 a y v H4 ∧ R.nx σ H4) := by
  intro pins s σ H D I h
  refine wpAny_Assign_Subscript (thn (hv pins s σ H _ I h) fun r s1 ⟨v, H1, I1, rv, q1⟩ => thn (ho pins s1 σ H1 _ I1 q1) fun u s2 ⟨x, H2, I2, rx, q2⟩ => thn (hi pins s2 σ H2 _ I2 q2) fun iv s3 zz108 => ?_) hs
  obtain ⟨y, H3, I3, ry, q3⟩ := zz108
  rcases q3 with q3 | ⟨a, H4, ex, g, q3⟩
  · exact thn (Z62 pins s3 σ H3 x y v u iv r (fun H4 => D.nx σ H4) I3 rx ry rv q3) fun _ s4 zz109 => by obtain ⟨H4, I4, q4⟩ := zz109; exact ⟨σ, H4, I4, q4⟩
  · subst ex
    obtain rfl : u = Value.ref a := rx
    exact Z24 hu I3 g ry rv fun s4 I4 => ⟨σ, H4, I4, q3⟩
end
def Gf (c : Cfg) (s : S) : Prop := ∀ (k : Ck) (Z : DX) (w0 : Vw) (X : Cx) (st : Stmt), Good c k Z w0 X → chkS k s st = true → PS X st (tFS w0 (ts c Z s))
def Zm6 (c : Cfg) (s : Ss) : Prop := ∀ (k : Ck) (Z : DX) (w0 : Vw) (X : Cx) (st : List Stmt), Good c k Z w0 X → Ym k s st = true → PSs X st (tFS w0 (tss c Z s))
section
variable {c : Cfg} {k : Ck} {Z : DX} {w0 : Vw} {X : Cx}
end
theorem Fo {k : Ck} {t x : Expr} (h : Zx3 k t x = true) : ∃ n np el gens scope p, t = .Name n np ∧ x = .ListComp el gens scope p := by
  replace h := Y9 h
  obtain ⟨n, np, rfl, h⟩ := h
  replace h := Sg h
  obtain ⟨el, gens, scope, p, rfl, h⟩ := h
  exact ⟨_, _, _, _, _, _, rfl, rfl⟩
theorem Ff {k : Ck} {t x : Expr} (h : Zr5 k t x = true) : ∃ n np el gens scope p, t = .Name n np ∧ x = .ListComp el gens scope p ∧ k.sc.names.lookup n = some .cell := by
  replace h := Y9 h
  obtain ⟨n, np, rfl, h⟩ := h
  replace h := Sg h
  obtain ⟨el, gens, scope, p, rfl, h⟩ := h
  exact ⟨_, _, _, _, _, _, rfl, rfl, eq_of_beq h⟩
theorem Ec {k : Ck} {e : E} {el : Expr} {gens : List Comprehension} {scope : Scope} {p : Pos} (h : chkE k e (.ListComp el gens scope p) = true) :
    ∃ N' js tg it cd e' t iter ifs, e = .comp N' js tg it cd e' ∧ gens = [⟨t, iter, ifs, 0⟩] := by
  cases e with
  | comp N' js tg it cd e' =>
    replace h := Sg h
    obtain ⟨_, _, _, _, he, h⟩ := h
    cases he
    replace h := Wm h
    obtain ⟨g, rfl, h⟩ := h
    obtain ⟨t, iter, ifs, as⟩ := g
    replace h := Z11 h
    obtain ⟨rfl, _⟩ := h
    exact ⟨_, _, _, _, _, _, _, _, _, rfl, rfl⟩
  | _ => exact absurd h Bool.false_ne_true
theorem Zg4 {n : Str} {p : Pos} {x : Expr} {env : Env} : swappedStores [.Name n p] x env = pure none := by
  refine Expr.casesOn (motive_1 := fun x => swappedStores [.Name n p] x env = pure none) x ?_ ?_ ?_ ?_ ?_ ?_ ?_ ?_ ?_ ?_ ?_ ?_ ?_ ?_ ?_ ?_ ?_ ?_ ?_ ?_ ?_ ?_ ?_ ?_ ?_ ?_ ?_ <;> intros <;> rfl
theorem Zw8 {es : List Expr} {k : Nat} {p : Pos} {x : Expr} {env : Env} (h : Py x = true) : swappedStores [.Tuple es k p] x env = pure none := by
  revert h
  refine Expr.casesOn (motive_1 := fun x => Py x = true → swappedStores [.Tuple es k p] x env = pure none) x ?_ ?_ ?_ ?_ ?_ ?_ ?_ ?_ ?_ ?_ ?_ ?_ ?_ ?_ ?_ ?_ ?_ ?_ ?_ ?_ ?_ ?_ ?_ ?_ ?_ ?_ ?_ <;> intros <;> first | rfl | exact absurd (by assumption) Bool.false_ne_true
theorem Z38 {k : Ck} {tg : List Nat} {t x : Expr} {env : Env} (ht : Rf k tg t = true) (hs : Zf2 t = true ∨ Py x = true) : swappedStores [t] x env = pure none ∧ (assignEach [t] env).map (·.2) = [assign t env] := by
  cases t with
  | Name n p => exact ⟨Zg4, rfl⟩
  | Tuple es kk p => exact ⟨Zw8 (hs.resolve_left Bool.false_ne_true), rfl⟩
  | _ => exact absurd ht Bool.false_ne_true
theorem Bq (c : Cfg) (tg : List Nat) (e : E) : Gf c (.set tg e) := by
    intro k Z w0 X st G h
    replace h := Oq h
    obtain ⟨ts', x, pos, rfl, h⟩ := h
    replace h := Wm h
    obtain ⟨t, rfl, h⟩ := h
    change (_ && _) = true at h
    simp only [Bool.and_eq_true, Bool.or_eq_true, decide_eq_true_eq] at h
    obtain ⟨⟨ht, he⟩, h⟩ := h
    rcases h with (⟨hc, hs⟩ | ⟨hs, hl⟩) | hs
    rotate_left 2
    · obtain ⟨n, np, el, gens, scope, p, rfl, rfl, hcell⟩ := Ff hs
      have h1 : swapsWithSole [.Name n np] (.ListComp el gens scope p) pos.line X.env = pure false := by
        have hk : X.env.kindOf n = some .cell := by
          unfold Env.kindOf
          rw [G.sc]; exact hcell
        have hk' : (X.env.kindOf n == some NameKind.local) = false := by rw [hk]; rfl
        unfold swapsWithSole swapsWith
        simp only [hk', Bool.and_false, Bool.false_and]
      refine PS.imp (Ze9 (Zp c e k Z w0 X _ G he).1 (G.tgt tg _ ht) h1 rfl rfl) fun R σ H zz110 => ?_
      obtain ⟨w, σD, M, RR, S, q, q1, q2, q3, q4⟩ := zz110
      refine Yg S q fun v w' d M' x' r' rd' q' => ?_
      exact ⟨w', σD, M', d, _, S.next x' r', rd', q', fun σ' σD' e' z => q1 σ' w' σD' M' x' r' e' z⟩
    · have h1 : swapsWithSole [t] x pos.line X.env = pure false := Jh hc
      obtain ⟨h2, h3⟩ := Z38 (env := X.env) ht hs
      refine PS.imp (Ze9 (Zp c e k Z w0 X x G he).1 (G.tgt tg t ht) h1 h2 h3) fun R σ H zz111 => ?_
      obtain ⟨w, σD, M, RR, S, q, q1, q2, q3, q4⟩ := zz111
      refine Yg S q fun v w' d M' x' r' rd' q' => ?_
      exact ⟨w', σD, M', d, _, S.next x' r', rd', q', fun σ' σD' e' z => q1 σ' w' σD' M' x' r' e' z⟩
    · obtain ⟨i, rfl⟩ := List.length_eq_one_iff.mp hl
      obtain ⟨n, np, el, gens, scope, p, rfl, rfl⟩ := Fo hs
      obtain ⟨N', js, tg, it, cd, e, t2, iter, ifs, rfl, rfl⟩ := Ec he
      change (_ && _) = true at he
      simp only [Bool.and_eq_true, decide_eq_true_eq] at he
      obtain ⟨⟨⟨⟨⟨⟨⟨⟨h1, h2⟩, h3⟩, h4⟩, h5⟩, h6⟩, h7⟩, h8⟩, h9⟩ := he
      change (_ && _) = true at ht
      simp only [Bool.and_eq_true, beq_iff_eq] at ht
      change (_ && _) = true at hs
      simp only [Bool.and_eq_true, beq_iff_eq, Bool.not_eq_true'] at hs
      obtain ⟨⟨⟨s1, s2⟩, s3⟩, s4⟩ := hs
      have hl' : X.env.scope.names.lookup n = some .local := by
        unfold Ck.loc at s2
        rw [G.sc]; exact eq_of_beq s2
      have hsw : swapsWith (.ListComp el [⟨t2, iter, ifs, 0⟩] scope p) (some (.Name n np)) pos.line X.env = pure true := by
        unfold swapsWith
        have hb : (X.env.blockKind == ScopeKind.function) = true := by
          unfold Env.blockKind
          rw [G.sc, s1]; rfl
        have hk : (X.env.kindOf n == some NameKind.local) = true := by
          unfold Env.kindOf
          rw [hl']; rfl
        have hp : (np.line == (Expr.ListComp el [⟨t2, iter, ifs, 0⟩] scope p).pos.line) = true := by
          change np.line = p.line at s3
          show (np.line == p.line) = true
          rw [s3]; simp
        simp only [hb, hk, hp, s4, Bool.not_false, Bool.and_self]
      refine PS.imp ((Qa G h1 h2 h3 h5 (Z18 c it k Z w0 X t2 iter G h4 h9) h6 h7 h8 (Zp c e) (G3 c cd)).2 i n np pos (by rw [G.N]; exact ht.1) hl' hsw) fun R σ H zz112 => ?_
      obtain ⟨w, σD, M, RR, S, q, q1, q2, q3, q4⟩ := zz112
      have q : te c Z (.comp N' js tg it cd e) σD M fun d M1 => RR.nx (σD.set i (some d)) M1 := q
      refine Yg S q fun v w' d M' x' r' rd' q' => ?_
      exact q1 _ w' _ M' x' r' ((S.env.ext x').set i rd') q'
theorem Bi {k : Ck} {op : Op} {j : Nat} {e : E} {st : Stmt} (h : chkS k (.aug op j e) st = true) : ∃ x p o y pos, st = .AugAssign (.Name x p) o y pos ∧ (o == opOf op && Zu6 op && k.N[j]? == some x && k.locC x && chkE k e y) = true := by
  replace h := Ce h
  obtain ⟨t, o, y, pos, rfl, h⟩ := h
  replace h := Y9 h
  obtain ⟨x, p, rfl, h⟩ := h
  exact ⟨_, _, _, _, _, rfl, h⟩
theorem Zw7 {c : Cfg} {Z : DX} {op : Op} {j : Nat} {e : E} {R : DEnds} {σ : DEnv} {M : Z1} : ts c Z (.aug op j e) R σ M = (match σ[j]? with
    | some (some x) => te c Z e σ M fun y M1 => augD op x y fun z => R.nx (σ.set j (some z)) M1
    | _ => False) := rfl
theorem Cc (c : Cfg) (op : Op) (j : Nat) (e : E) : Gf c (.aug op j e) := by
  intro k Z w0 X st G h
  obtain ⟨x, p, o, y, pos, rfl, hh⟩ := Bi h
  simp only [Bool.and_eq_true, beq_iff_eq] at hh
  obtain ⟨⟨⟨⟨rfl, h1⟩, h2⟩, h3⟩, h4⟩ := hh
  obtain ⟨l1, l2⟩ := G.locC h3
  have hi : X.N[j]? = some x := by rw [G.N]; exact h2
  have ip : ∀ f : Int → Int → Int, PIp X (opOf op) (ipI f) → (∀ a b Q, augD op a b Q → ∃ m n, a = .int m ∧ b = .int n ∧ Q (.int (f m n))) → PS X (.AugAssign (.Name x p) (opOf op) y pos) (tFS w0 (ts c Z (.aug op j e))) := by
    intro f hf ha
    refine PS.imp (Zt6 G.nd hi l1 (Zp c e k Z w0 X y G h4).1 hf l2) fun R σ H zz113 => ?_
    obtain ⟨w, σD, M, RR, S, q, q1, q2, q3, q4⟩ := zz113
    rw [Zw7] at q
    split at q
    · rename_i d hd
      obtain ⟨v, e1, rv⟩ := S.env.2 j d hd
      refine ⟨v, e1, Yg S q fun u w1 d2 M1 x1 r1 rd1 z => ?_⟩
      obtain ⟨m, n, rfl, rfl, zz⟩ := ha _ _ _ z
      cases Zc.mp rv
      cases Zc.mp rd1
      refine ⟨_, _, rfl, rfl, q1 _ w1 _ M1 x1 r1 ((S.env.ext x1).set j (Zc.mpr rfl)) zz⟩
    · exact q.elim
  cases op with
  | add =>
    refine ip _ Zs4 fun a b Q g => ?_
    unfold augD at g
    split at g
    · exact ⟨_, _, rfl, rfl, g⟩
    · contradiction
    · exact g.elim
  | sub =>
    refine ip _ Zu3 fun a b Q g => ?_
    unfold augD at g
    split at g
    · contradiction
    · exact ⟨_, _, rfl, rfl, g⟩
    · exact g.elim
  | _ => exact absurd h1 Bool.false_ne_true
theorem Z12 (c : Cfg) (o i v : E) : Gf c (.put o i v) := by
    intro k Z w0 X st G h
    replace h := Oq h
    obtain ⟨ts', x, pos, rfl, h⟩ := h
    replace h := Wm h
    obtain ⟨t, rfl, h⟩ := h
    replace h := T6 h
    obtain ⟨l, r, p, rfl, h⟩ := h
    change (_ && _) = true at h
    simp only [Bool.and_eq_true] at h
    obtain ⟨⟨⟨⟨h1, h2⟩, h3⟩, h4⟩, h5⟩ := h
    refine PS.imp (Zt4 (by have := G.units; omega) (Zp c o k Z w0 X l G h4).1 (Zp c i k Z w0 X r G h5).1 (Zp c v k Z w0 X x G h3).1 (Jh h2)) fun R σ H zz114 => ?_
    obtain ⟨w, σD, M, RR, S, q, q1, q2, q3, q4⟩ := zz114
    refine Yg S q fun vv w1 dv M1 x1 r1 rd1 z1 => ?_
    refine Yg (S.next x1 r1) z1 fun vo w2 dob M2 x2 r2 rd2 z2 => ?_
    refine Yg ((S.next x1 r1).next x2 r2) z2 fun vi w3 di M3 x3 r3 rd3 z3 => ?_
    split at z3
    · obtain ⟨hn, rfl⟩ := Zr.mp (rd2.ext x3)
      rcases z3 with ⟨xs, kk, j, rfl, y1, y2, y3⟩ | ⟨kvs, kk, y1, y2, y3, y4⟩
      · cases Zc.mp rd3
        obtain ⟨hn, vs, u1, u2⟩ := r3.list y1
        obtain ⟨t1, t2⟩ := Xn r3 hn u1 (u2.set (rd1.ext (x2.trans x3)) j)
        exact .inl ⟨_, vs, kk, j, rfl, rfl, u1, by rw [u2.length]; exact y2, q1 σ _ σD _ (((x1.trans x2).trans x3).trans t1) t2 (S.env.ext (((x1.trans x2).trans x3).trans t1)) y3⟩
      · obtain ⟨hn, vs, u1, u2⟩ := r3.dict y1
        cases Pj y2 rd3
        obtain ⟨t1, t2⟩ := Fu r3 hn u1 (u2.put (k := kk) (rd1.ext (x2.trans x3)))
        exact .inr ⟨_, _, rfl, DPut.k (k := kk) u1 (by rw [u2.length]; exact y3), q1 σ _ σD _ (((x1.trans x2).trans x3).trans t1) t2 (S.env.ext (((x1.trans x2).trans x3).trans t1)) y4⟩
    · exact z3.elim
mutual
theorem Zx4 (c : Cfg) : ∀ s : S, Gf c s
  | .never, k, Z, w0, X, st, G, h => PS.imp Z93 fun R σ H zz115 => by obtain ⟨w, σD, M, RR, S, q, _⟩ := zz115; exact q
  | .ret e, k, Z, w0, X, st, G, h => by
    replace h := Z44 h
    obtain ⟨v, pos, rfl, h⟩ := h
    replace h := Z41 h
    obtain ⟨x, rfl, h⟩ := h
    exact PS.imp (Zq4 (Zp c e k Z w0 X x G h).1) fun R σ H zz116 => by obtain ⟨w, σD, M, RR, S, q, h1, h2, h3, h4⟩ := zz116; exact Yg S q h2
  | .expr e, k, Z, w0, X, st, G, h => by
    replace h := Ca h
    obtain ⟨x, pos, rfl, h⟩ := h
    change (_ && _) = true at h
    simp only [Bool.and_eq_true] at h
    exact PS.imp (Zj5 (Zp c e k Z w0 X x G h.2).1 (Jh h.1)) fun R σ H zz117 => by obtain ⟨w, σD, M, RR, S, q, h1, h2, h3, h4⟩ := zz117; exact Yg S q fun v w' d M' x' r' rd' q' => h1 σ w' σD M' x' r' (S.env.ext x') q'
  | .set tg e, k, Z, w0, X, st, G, h => Bq c tg e k Z w0 X st G h
  | .aug op j e, k, Z, w0, X, st, G, h => Cc c op j e k Z w0 X st G h
  | .put o i v, k, Z, w0, X, st, G, h => Z12 c o i v k Z w0 X st G h
  | .ite t a b, k, Z, w0, X, st, G, h => by
    replace h := Bt h
    obtain ⟨x, ls, rs, pos, rfl, h⟩ := h
    change (_ && _) = true at h
    simp only [Bool.and_eq_true] at h
    obtain ⟨⟨⟨h1, h2⟩, h3⟩, h4⟩ := h
    refine PS.imp (Y08 ((Zp c t k Z w0 X x G h1).2 h2) (Vx c a k Z w0 X ls G h3) (Vx c b k Z w0 X rs G h4)) fun R σ H zz118 => ?_
    obtain ⟨w, σD, M, RR, S, q, q1, q2, q3, q4⟩ := zz118
    refine ⟨w, σD, M, _, S, q, fun z w1 M1 x1 r1 y1 => ?_⟩
    have fin : ∀ {f : DS}, f RR σD M1 → tFS w0 f R σ w1.H := fun hf => Os (S.next x1 r1) hf (fun σ' w' σD' M' x' r' e' z => q1 σ' w' σD' M' (x1.trans x') r' e' z) (q2.ext x1)
      (fun σ' w' σD' M' x' r' e' z => q3 σ' w' σD' M' (x1.trans x') r' e' z) (fun σ' w' σD' M' x' r' e' z => q4 σ' w' σD' M' (x1.trans x') r' e' z)
    cases z with
    | true =>
      rw [if_pos rfl] at y1
      show if (true : Bool) = true then _ else _
      rw [if_pos rfl]; exact fin y1
    | false =>
      rw [if_neg Bool.false_ne_true] at y1
      show if (false : Bool) = true then _ else _
      rw [if_neg Bool.false_ne_true]; exact fin y1
  | .for_ tg it b, k, Z, w0, X, st, G, h => by
    replace h := N8 h
    obtain ⟨t, x, ls, els, pos, rfl, h⟩ := h
    replace h := Xg h
    obtain ⟨rfl, h⟩ := h
    change (_ && _) = true at h
    simp only [Bool.and_eq_true] at h
    obtain ⟨⟨⟨⟨⟨⟨h1, h2⟩, h3⟩, h4⟩, h5⟩, h6⟩, h7⟩ := h
    have hf := Z31 (env := X.env) h3
    refine PS.imp (Zf3 (G.po h2) (G.calm h1) (Z18 c it k Z w0 X t x G h5 h7) (G.tgt tg t h4) (Vx c b k Z w0 X ls G h6) hf) fun R σ H zz119 => ?_
    obtain ⟨w, σD, M, RR, S, q, q1, q2, q3, q4⟩ := zz119
    refine ⟨w, σD, M, _, S, q, fun J w1 own xs M1 x1 r1 jk z => ?_⟩
    exact Bj (S.next x1 r1) jk z (fun σ' w' σD' M' x' r' e' z => q1 σ' w' σD' M' (x1.trans x') r' e' z) (q2.ext x1)
  | .forK tg e b, k, Z, w0, X, st, G, h => by
    replace h := N8 h
    obtain ⟨t, x, ls, els, pos, rfl, h⟩ := h
    replace h := Xg h
    obtain ⟨rfl, h⟩ := h
    change (_ && _) = true at h
    simp only [Bool.and_eq_true] at h
    obtain ⟨⟨⟨⟨⟨h1, h2⟩, h3⟩, h4⟩, h5⟩, h6⟩ := h
    have hf := Z31 (env := X.env) h3
    refine PS.imp (Zn3 (Zf3 (G.po h2) (G.calm h1) (Zn7 (Zp c e k Z w0 X x G h5).1) (G.tgt tg t h4) (Vx c b k Z w0 X ls G h6) hf)) fun R σ H zz120 => ?_
    obtain ⟨w, σD, M, RR, S, q, q1, q2, q3, q4⟩ := zz120
    refine Yg S q fun v w1 d M1 x1 r1 rd1 z => ?_
    split at z
    · obtain ⟨hn, rfl⟩ := Zr.mp rd1
      obtain ⟨kvs, z1, z2⟩ := z
      obtain ⟨hM, vs, y1, y2⟩ := r1.dict z1
      refine ⟨_, vs, rfl, y1, fun o nf => ?_⟩
      rename_i _ n
      have x2 : Ext w1 (w1.alloc (w1.μ n) (.frz o (.dK vs))) := Wb y1 rfl
      have r2 : RS (w1.alloc (w1.μ n) (.frz o (.dK vs))) (M1.set n (.fdc kvs)) := r1.write hM rfl rfl y1 rfl ⟨o, vs, Yp, y2.ext x2⟩
      refine Bj (R := Zi7 X R) (S.next (x1.trans x2) r2) (Z80 (w1 := w1.alloc (w1.μ n) (.frz o (.dK vs))) (n := n) hn Yp) z2 (fun σ' w' σD' M' x' r' e' ⟨kvs', t1, t2⟩ => ?_) (fun v w' d M' x' r' rd' ⟨kvs', t1, t2⟩ => ?_)
      · obtain ⟨a1, a2, a3, a4⟩ := Oj hn y1 x' r' t1
        exact ⟨_, o, vs, a1, nf, q1 σ' _ σD' _ (x1.trans a2) a4 (e'.ext0 a3) t2⟩
      · obtain ⟨a1, a2, a3, a4⟩ := Oj hn y1 x' r' t1
        exact ⟨_, o, vs, a1, nf, q2 v _ d _ (x1.trans a2) a4 (rd'.ext0 a3) t2⟩
    · exact z.elim
  | .while_ t b, k, Z, w0, X, st, G, h => by
    replace h := B4 h
    obtain ⟨x, ls, els, pos, rfl, h⟩ := h
    replace h := Xg h
    obtain ⟨rfl, h⟩ := h
    change (_ && _) = true at h
    simp only [Bool.and_eq_true] at h
    obtain ⟨⟨⟨h1, h2⟩, h3⟩, h4⟩ := h
    refine PS.imp (Z99 (G.po h1) ((Zp c t k Z w0 X x G h2).2 h3) (Vx c b k Z w0 X ls G h4)) fun R σ H zz123 => ?_
    obtain ⟨w, σD, M, RR, S, q, q1, q2, q3, q4⟩ := zz123
    obtain ⟨W, ⟨m0, hm0⟩, step⟩ := q
    refine ⟨fun m σ H => ∃ w2 σE M2, StOk w0 w2 σE M2 σ H ∧ Ext w w2 ∧ W m σE M2, ⟨m0, w, σD, M, S, Ext.refl w, hm0⟩, ?_⟩
    rintro m σ2 H2 ⟨w2, σE, M2, S2, x2, hW⟩
    refine ⟨w2, σE, M2, _, S2, step m σE M2 hW, fun z w3 M3 x3 r3 y3 => ?_⟩
    cases z with
    | false =>
      rw [if_neg Bool.false_ne_true] at y3 ⊢
      exact q1 σ2 w3 σE M3 (x2.trans x3) r3 (S2.env.ext x3) y3
    | true =>
      rw [if_pos rfl] at y3 ⊢
      have nxt : ∀ σ' w' σD' M', Ext w3 w' → RS w' M' → REnv w' σD' σ' → (∃ m', m' < m ∧ W m' σD' M') → ∃ m', m' < m ∧ ∃ w2 σE M2, StOk w0 w2 σE M2 σ' w'.H ∧ Ext w w2 ∧ W m' σE M2 :=
        fun σ' w' σD' M' x' r' e' zz124 => by obtain ⟨m', l', z'⟩ := zz124; exact ⟨m', l', w', σD', M', ⟨rfl, (S2.ext.trans x3).trans x', r', e'⟩, (x2.trans x3).trans x', z'⟩
      refine ⟨fun σ' H' => ∃ m', m' < m ∧ ∃ w2 σE M2, StOk w0 w2 σE M2 σ' H' ∧ Ext w w2 ∧ W m' σE M2, fun σ' H' z => z, ?_⟩
      exact Os (S2.next x3 r3) y3 nxt (fun v w' d M' x' r' rd' z' => q2 v w' d M' ((x2.trans x3).trans x') r' rd' z') (fun σ' w' σD' M' x' r' e' z' => q1 σ' w' σD' M' ((x2.trans x3).trans x') r' e' z') nxt
theorem Vx (c : Cfg) : ∀ s : Ss, Zm6 c s
  | .nil, k, Z, w0, X, st, G, h => by
    cases st with
    | nil =>
      refine PSs.imp Zn5 fun R σ H zz125 => ?_
      obtain ⟨w, σD, M, RR, S, q, h1, _⟩ := zz125
      have := h1 σ w σD M (Ext.refl w) S.rs S.env q
      rw [S.heap] at this
      exact this
    | cons _ _ => exact absurd h Bool.false_ne_true
  | .cons s r, k, Z, w0, X, st, G, h => by
    cases st with
    | nil => exact absurd h Bool.false_ne_true
    | cons x xs =>
      change (_ && _) = true at h
      simp only [Bool.and_eq_true] at h
      refine PSs.imp (Za3 (Zx4 c s k Z w0 X x G h.1) (Vx c r k Z w0 X xs G h.2)) fun R σ H zz126 => ?_
      obtain ⟨w, σD, M, RR, S, q, h1, h2, h3, h4⟩ := zz126
      refine Os S q ?_ h2 h3 h4
      intro σ' w' σD' M' x' r' e' q'
      exact Os ⟨rfl, S.ext.trans x', r', e'⟩ q' (fun σ2 w2 σD2 M2 x2 r2 e2 z => h1 σ2 w2 σD2 M2 (x'.trans x2) r2 e2 z) (h2.ext x') (fun σ2 w2 σD2 M2 x2 r2 e2 z => h3 σ2 w2 σD2 M2 (x'.trans x2) r2 e2 z) (fun σ2 w2 σD2 M2 x2 r2 e2 z => h4 σ2 w2 σD2 M2 (x'.trans x2) r2 e2 z)
end
theorem FnOk.cx {P : Program} {w : World} {K : PySem.W.Frag} {mg : Str → Option Value} {base : Heap} {CX : CXT} {k : Nat} {f : Addr} {fd : FuncData} {ps : List Str} {sp : Sp} (F : FnOk P w K mg base CX0 k f fd ps sp) : FnOk P w K mg base CX k f fd ps sp :=
  ⟨F.len, fun A outer s H args us vs Q E hr he hb hv hs => codeAny_mono (F.run A outer s H args us vs Q E hr he hb hv hs) fun r s' h => by
    cases r with
    | error e => exact False.elim h
    | ok fl => cases fl <;> exact h⟩
structure Prg (P : Program) (w : World) (K : PySem.W.Frag) (mg : Str → Option Value) (base : Heap) (c : Cfg) (FN GN BN : List Str) (lv : Nat) : Prop where
  hK : c.K = K
  fns : ∀ (f : Nat) (x : Str) (sp : DSp), FN[f]? = some x → c.Γ[f]? = some sp → ∃ (kk : Nat) (f : Addr) (fd : FuncData) (ps : List Str) (ds : List Value) (dvs : List V) (dD : List D) (sp0 : DSp), FnOk P w K mg base (CX1 P w) kk f fd ps (spF K sp0) ∧ kk ≤ lv ∧ mg x = some (.ref f) ∧ PySem.W.keepIn K (.ref f) = true ∧
    Yl K fd ps ds ∧ Vals dvs ds ∧ (∀ w : Vw, w.K = K → RDs w dD dvs) ∧ ∀ as M Q Z, sp as M Q Z → sp0 (as ++ dD) M Q Z
  flen : FN.length = c.Γ.length
  glb : ∀ (g : Nat) (x : Str) (d : D), GN[g]? = some x → c.G[g]? = some d → ∃ v u, mg x = some u ∧ RelV v u ∧ ∀ w : Vw, w.K = K → RD w d v
  blt : ∀ x, x ∈ BN → mg x = none
noncomputable def start0 (N : List Str) (ds : List D) : DEnv := ds.map some ++ List.replicate (N.length - ds.length) none
theorem Z39 {w : Vw} {N : List Str} {ds : List D} {vs : List V} (r : RDs w ds vs) : REnv w (start0 N ds) (L2.start N vs) := by
  refine ⟨by unfold start0 L2.start; simp [r.length], fun i d e => ?_⟩
  unfold start0 at e
  unfold L2.start
  by_cases hi : i < ds.length
  · rw [List.getElem?_append_left (by simpa using hi), List.getElem?_map] at e
    rw [List.getElem?_append_left (by rw [List.length_map, r.length]; exact hi), List.getElem?_map]
    cases hd : ds[i]? with
    | none => rw [hd] at e; cases e
    | some d' =>
      rw [hd] at e
      have e' : d' = d := by simpa using e
      subst e'
      obtain ⟨v, q1, q2⟩ := r.get hd
      exact ⟨v, by rw [q1]; rfl, q2⟩
  · rw [List.getElem?_append_right (by simpa using hi)] at e
    have := List.getElem?_eq_some_iff.mp e
    simp at this
section
variable {P : Program} {w : World} {K : PySem.W.Frag} {mg : Str → Option Value} {base : Heap} {c : Cfg} {FN GN BN : List Str} {lv : Nat} {x qual : Str} {st : Stmt} {f : Addr} {fd : FuncData} {N ps : List Str}
noncomputable abbrev ck0 (N : List Str) (st : Stmt) (FN GN BN : List Str) : Ck := ⟨N, Z3 st, FN, GN, BN, true, true, true, [], true, []⟩
theorem fn0 (Pr : Prg P w K mg base c FN GN BN lv) (F : Fun K x qual st f fd) (S : FnScope N ps (Z3 st)) {body : Ss} (hc : Ym (ck0 N st FN GN BN) body (Z5 st) = true) {sp : DSp} (hl : ∀ ds M Q Z, sp ds M Q Z → ds.length = ps.length)
    (hb : ∀ ds M Q Z, sp ds M Q Z → tss c noX body { nx := fun _ M => Q .non M, rt := Q } (start0 N ds) M) : FnOk P w K mg base (CX1 P w) (lv + 1) f fd ps (spF K sp) := by
  refine FnOk.cx (F.ok S (fun vs H Q E h => ?_) fun cdv A outer s H vs Q E hr h => ?_)
  · obtain ⟨w, ds, M, QD, Z, _, _, _, r, h, _⟩ := h
    rw [r.length]; exact hl _ _ _ _ h
  obtain ⟨w', ds, M, QD, Z, hK', rfl, R, r, h, a, xk⟩ := h
  have G : Good c (ck0 N st FN GN BN) noX w' (cxOf CX0 P w K mg base N qual (Z3 st) f cdv A outer s w'.H E).nox :=
    { hK := Pr.hK.symm
      wK := hK'.trans Pr.hK.symm
      N := rfl
      nd := S.nd
      sc := rfl
      calm := fun _ => rfl
      units := hr.units
      fns := fun _ f x sp h1 h2 => by
        obtain ⟨kk, f, fd, ps, ds, dvs, dD, sp0, F, hk, h⟩ := Pr.fns f x sp h1 h2
        exact ⟨kk, f, fd, ps, ds, dvs, dD, sp0, F, hr.mono hk, h⟩
      flen := Pr.flen
      glb := Pr.glb
      blt := Pr.blt
      exc := ⟨E0, fun _ _ _ _ _ _ _ h => by
        obtain ⟨_, _, _, _, _, _, _, _, _, _, _, _, _, _, _, h⟩ := h
        exact h.elim, fun cls dd H' h => by
        obtain ⟨_, _, _, _, _, _, _, _, _, _, _, _, _, h⟩ := h
        exact h.elim⟩
      stk := fun _ => ⟨rfl, rfl⟩
      po := fun _ => PassesOwn.never
      fnc := fun _ _ => rfl
      fno := fun _ h => by cases h }
  refine ⟨_, Vx c body _ _ w' _ _ G hc, w', start0 N ds, M, { nx := fun _ M => QD .non M, rt := QD }, ⟨rfl, Ext.refl w', R, Z39 r⟩, hb _ _ _ _ h, ?_, a, ?_, ?_⟩
  · exact fun σ' w2 σD' M' x' r' e' q' => a .non w2 .non M' x' r' (Yk.mpr rfl) q'
  · exact fun σ' w2 σD' M' x' r' e' q' => q'.elim
  · exact fun σ' w2 σD' M' x' r' e' q' => q'.elim
end
def Fi : DSp := fun ds M Q _ => ∃ ns : List Int, ds = [.ref 0] ∧ M = [.frz (ns.map .int)] ∧ ns.length ≤ 63 ∧ (∀ i ∈ ns, Bits bigN i) ∧ ∀ M', Q (.bl true) M'
theorem Gx (w : Vw) : ∀ ns : List Int, RDs w (ns.map .int) (ns.map V.int)
  | [] => RDs.nil w
  | _ :: r => RDs.cons (Zc.mpr rfl) (Gx w r)
theorem Za0 {l : PySem.W.OpenLaw} {k : Nat} {q : Program} {loose : List Str} {XP : (Str → Option Value) → Heap → Prop} {YP : World → Heap → Prop} {d : DefRec} {K : Params → PySem.W.Frag} {x : Str} (hn : l.most = some 63) (hdf : d.params.defaults = []) (hr : Room k callerA)
    (hY : ∀ (w : World) (h : Heap), YP w h → (K w.params).In h)
    (F : ∀ (w : World) (mg : Str → Option Value) (fa : Addr) (h : Heap), (K w.params).In h → h.Ns mainGlobals mg → mg d.name = some (.ref fa) →
      ∃ fd : FuncData, (∀ (s : Shared) (u : Value), BindsTo s fd ⟨[u], []⟩ [(x, u)]) ∧ ∀ base : Heap, (K w.params).In base → base.Ns mainGlobals mg → FnOk l.prog w (K w.params) mg base (CX1 l.prog w) k fa fd [x] (spF (K w.params) Fi)) :
    PySem.W.WalkO q loose XP YP l.row.toRowW d [] (fun f vs => PySem.call f vs) := by
  refine Zw2 (n := 63) (k := k) (x := x) (CX := fun w => CX1 l.prog w) (sp := fun w => spF (K w.params) Fi) hn (by decide) hdf hr hY F (fun w H a ns hl hb hO hS => ?_) fun w H s e s' h => ?_
  · have hF : SqF (K w.params) H a (ns.map V.int) := by
      rcases hS with (h | ⟨o, h⟩) | h
      · rcases hO a with z | ⟨o, xs, z⟩
        · rw [z] at h; cases h
        · rw [z] at h; cases h
      · exact .inl ⟨o, h⟩
      · exact .inr (.inr h)
    refine ⟨⟨K w.params, H, fun _ => a, 1⟩, [.ref 0], [.frz (ns.map .int)], fun d _ => d = .bl true, noX, rfl, rfl, ⟨rfl, fun i j ci cj ei ej mi mj _ => ?_, fun i c' e => ?_⟩, RDs.cons (Zr.mpr ⟨Nat.one_pos, rfl⟩) (RDs.nil _), ⟨ns, rfl, rfl, hl, hb, fun _ => rfl⟩, fun v w' d M' _ _ rd e => ?_, fun cls dd H' h => ?_⟩
    · have h1 := (List.getElem?_eq_some_iff.mp ei).1
      have h2 := (List.getElem?_eq_some_iff.mp ej).1
      simp at h1 h2
      omega
    · have h1 := (List.getElem?_eq_some_iff.mp e).1
      have hi : i = 0 := by simp at h1; exact h1
      subst hi
      simp at e
      subst e
      exact ⟨_, hF, Gx _ ns⟩
    · subst e
      exact Wd.mp rd
    · obtain ⟨_, _, _, _, _, _, _, _, _, _, _, _, _, h⟩ := h
      exact h.elim
  · obtain ⟨_, _, _, _, _, _, _, _, _, _, _, _, _, _, _, h⟩ := h
    exact h.elim
def bot : DSp := fun _ _ _ _ => False
def Ent (K : PySem.W.Frag) (mg : Str → Option Value) (x : Str) : Prop := ∃ (f : Addr) (fd : FuncData) (ps : List Str), mg x = some (.ref f) ∧ PySem.W.keepIn K (.ref f) = true ∧ Yl K fd ps []
section
variable {P : Program} {w : World} {K : PySem.W.Frag} {mg : Str → Option Value} {base : Heap} {Γ : List DSp} {G : List D} {FN GN BN : List Str} {lv : Nat}
theorem Prg.zero (hF : ∀ x ∈ FN, Ent K mg x) (hl : FN.length = Γ.length) (hb : ∀ sp ∈ Γ, sp = bot) (hg : ∀ (g : Nat) (x : Str) (d : D), GN[g]? = some x → G[g]? = some d → ∃ v u, mg x = some u ∧ RelV v u ∧ ∀ w : Vw, w.K = K → RD w d v) (hB : ∀ x ∈ BN, mg x = none) :
    Prg P w K mg base ⟨K, Γ, G⟩ FN GN BN 0 where
  hK := rfl
  fns := fun f x sp h1 h2 => by
    obtain ⟨fa, fd, ps, e1, e2, e3⟩ := hF x (List.mem_of_getElem? h1)
    have hs : sp = bot := hb sp (List.mem_of_getElem? h2)
    subst hs
    have no : ∀ vs H Q E, ¬ spF K bot vs H Q E := fun vs H Q E zz127 => by obtain ⟨_, _, _, _, _, _, _, _, _, h, _⟩ := zz127; exact h
    exact ⟨0, fa, fd, ps, [], [], [], bot, ⟨fun vs H Q E h => absurd h (no vs H Q E), fun A outer s H args us vs Q E _ _ _ _ h => absurd h (no vs H Q E)⟩, Nat.le_refl _, e1, e2, e3, .nil, fun w _ => RDs.nil w, fun _ _ _ _ h => h.elim⟩
  flen := hl
  glb := hg
  blt := hB
theorem Prg.add (Pr : Prg P w K mg base ⟨K, Γ, G⟩ FN GN BN lv) (n : Nat) {x : Str} {sp : DSp} {kk lv' : Nat} {f : Addr} {fd : FuncData} {ps : List Str} (hx : FN[n]? = some x) (F : FnOk P w K mg base (CX1 P w) kk f fd ps (spF K sp)) (h1 : kk ≤ lv') (h2 : lv ≤ lv') (hm : mg x = some (.ref f)) (hk : PySem.W.keepIn K (.ref f) = true) (hb : Yl K fd ps []) :
    Prg P w K mg base ⟨K, Γ.set n sp, G⟩ FN GN BN lv' where
  hK := rfl
  fns := fun m y sp' e1 e2 => by
    by_cases hmn : n = m
    · subst hmn
      rw [hx] at e1
      cases e1
      have hl : n < Γ.length := by rw [← Pr.flen]; exact (List.getElem?_eq_some_iff.mp hx).1
      have e2 : (Γ.set n sp)[n]? = some sp' := e2
      rw [List.getElem?_set_self hl] at e2
      cases e2
      exact ⟨kk, f, fd, ps, [], [], [], sp, F, h1, hm, hk, hb, .nil, fun w _ => RDs.nil w, fun as M Q Z h => by rw [List.append_nil]; exact h⟩
    · have e2 : (Γ.set n sp)[m]? = some sp' := e2
      rw [List.getElem?_set_ne hmn] at e2
      obtain ⟨kk, f, fd, ps, ds, dvs, dD, sp0, F, hk, h⟩ := Pr.fns m y sp' e1 e2
      exact ⟨kk, f, fd, ps, ds, dvs, dD, sp0, F, Nat.le_trans hk h2, h⟩
  flen := by rw [Pr.flen]; simp
  glb := Pr.glb
  blt := Pr.blt
end
theorem Z4 {M N : Z1} {a : Nat} {xs : List D} (h : Z7 M a = some xs) : Z7 (M ++ N) a = some xs := by
  unfold Z7 at *
  have ha : a < M.length := by
    cases e : M[a]? with
    | none => rw [e] at h; cases h
    | some c => exact (List.getElem?_eq_some_iff.mp e).1
  rw [List.getElem?_append_left ha]; exact h
theorem Zw {M N : Z1} {a : Nat} {xs : List D} (h : Za M a = some xs) : Za (M ++ N) a = some xs := by
  unfold Za at *
  have ha : a < M.length := by
    cases e : M[a]? with
    | none => rw [e] at h; cases h
    | some c => exact (List.getElem?_eq_some_iff.mp e).1
  rw [List.getElem?_append_left ha]; exact h
theorem Wz {M N : Z1} {a : Nat} {xs : List (Key × D)} (h : Y4 M a = some xs) : Y4 (M ++ N) a = some xs := by
  unfold Y4 at *
  have ha : a < M.length := by
    cases e : M[a]? with
    | none => rw [e] at h; cases h
    | some c => exact (List.getElem?_eq_some_iff.mp e).1
  rw [List.getElem?_append_left ha]; exact h
theorem Ju (M : Z1) (c : Cell) (N : Z1) : (M ++ c :: N)[M.length]? = some c := by simp
theorem J9 (M N : Z1) (k : Nat) : (M ++ N)[M.length + k]? = N[k]? := by rw [List.getElem?_append_right (by omega)]; congr 1; omega
theorem Zb (M : Z1) (xs : List D) (N : Z1) : Z7 (M ++ .lst xs :: N) M.length = some xs := by unfold Z7; rw [Ju]
theorem Ze (M : Z1) (xs : List D) (N : Z1) : Za (M ++ .lst xs :: N) M.length = some xs := by unfold Za; rw [Ju]
theorem Xd (M : Z1) (xs : List (Key × D)) (N : Z1) : Y4 (M ++ .dct xs :: N) M.length = some xs := by unfold Y4; rw [Ju]
theorem Zl (M N : Z1) (k : Nat) : Z7 (M ++ N) (M.length + k) = Z7 N k := by unfold Z7; rw [J9]
theorem Zn (M N : Z1) (k : Nat) : Za (M ++ N) (M.length + k) = Za N k := by unfold Za; rw [J9]
theorem Fe (M N : Z1) (k : Nat) : Y4 (M ++ N) (M.length + k) = Y4 N k := by unfold Y4; rw [J9]
theorem Yo (M : Z1) (c d : Cell) (N : Z1) : (M ++ c :: N).set M.length d = M ++ d :: N := by
  rw [List.set_append_right _ _ (Nat.le_refl _)]; simp
theorem Y7 (M N : Z1) (k : Nat) (d : Cell) : (M ++ N).set (M.length + k) d = M ++ N.set k d := by
  rw [List.set_append_right _ _ (by omega)]; congr 2; omega
theorem Z2 {M : Z1} {n : Nat} {xs : List D} (h : Za M n = some xs) : Z7 M n = some xs := Zm2 h
theorem Rh {lo : Int} {n i : Nat} (h : i < n) : (Se lo n)[i]? = some (.int (lo + i)) := by
  unfold Se; rw [List.getElem?_map, List.getElem?_range h]; rfl
theorem X0 (lo : Int) (n : Nat) : (Se lo n).length = n := by unfold Se; simp
theorem Vv {own : Own} {xs : List D} {tg : List Nat} {body : DS} {R : DEnds} {σ : DEnv} {M : Z1} (I : Nat → DEnv → Z1 → Prop) (h0 : I 0 σ M) (hs : ∀ i σ M, i ≤ xs.length → I i σ M → Qz own xs M)
    (step : ∀ (i : Nat) (d : D) σ M (C : DEnv → Z1 → Prop), xs[i]? = some d → I i σ M → (∀ σ2 M2, I (i + 1) σ2 M2 → C σ2 M2) → tgD tg d σ fun σ' => body { nx := C, rt := R.rt, bk := R.nx, ct := C } σ' M)
    (fin : ∀ σ M, I xs.length σ M → R.nx σ M) : forD own xs tg body xs R σ M := by
  have key : ∀ (j : Nat) σ M, j ≤ xs.length → I (xs.length - j) σ M → forD own xs tg body (xs.drop (xs.length - j)) R σ M := by
    intro j
    induction j with
    | zero =>
      intro σ M _ h
      rw [Nat.sub_zero] at h ⊢
      rw [List.drop_length]
      exact ⟨hs _ σ M (Nat.le_refl _) h, fin σ M h⟩
    | succ j ih =>
      intro σ M hj h
      have hi : xs.length - (j + 1) < xs.length := by omega
      have e : xs.length - (j + 1) + 1 = xs.length - j := by omega
      rw [List.drop_eq_getElem_cons hi]
      refine ⟨hs _ σ M (by omega) h, step _ _ σ M _ (List.getElem?_eq_getElem hi) h fun σ2 M2 h2 => ?_⟩
      rw [e] at h2 ⊢
      exact ih σ2 M2 (by omega) h2
  have := key xs.length σ M (Nat.le_refl _) (by rw [Nat.sub_self]; exact h0)
  rw [Nat.sub_self] at this
  exact this
theorem Su {lo : Int} {n : Nat} {tg : List Nat} {body : DS} {R : DEnds} {σ : DEnv} {M : Z1} (I : Nat → DEnv → Z1 → Prop) (h0 : I 0 σ M)
    (step : ∀ (i : Nat) σ M (C : DEnv → Z1 → Prop), i < n → I i σ M → (∀ σ2 M2, I (i + 1) σ2 M2 → C σ2 M2) → tgD tg (.int (lo + i)) σ fun σ' => body { nx := C, rt := R.rt, bk := R.nx, ct := C } σ' M)
    (fin : ∀ σ M, I n σ M → R.nx σ M) : forD .no (Se lo n) tg body (Se lo n) R σ M := by
  refine Vv I h0 (fun _ _ _ _ _ => trivial) (fun i d σ M C hd hI hC => ?_) (fun σ M h => fin σ M (by rw [X0] at h; exact h))
  have hi : i < n := by
    have := (List.getElem?_eq_some_iff.mp hd).1
    rwa [X0] at this
  rw [Rh hi] at hd
  cases hd
  exact step i σ M C hi hI hC
theorem Wr {own : Own} {xs : List D} {tg : List Nat} {cd : DT} {el : DE} {z : Nat} {Q : Z1 → Prop} {σ : DEnv} {M : Z1} (I : Nat → DEnv → Z1 → Prop) (h0 : I 0 σ M) (hs : ∀ i σ M, i ≤ xs.length → I i σ M → Qz own xs M)
    (step : ∀ (i : Nat) (d : D) σ M (C : DEnv → Z1 → Prop), xs[i]? = some d → I i σ M → (∀ σ2 M2, I (i + 1) σ2 M2 → C σ2 M2) → tgD tg d σ fun σ' => cd σ' M fun b M1 => if b = true then
      el σ' M1 fun y M2 => ∃ acc, Za M2 z = some acc ∧ acc.length < sizeLine ∧ C σ' (M2.set z (.lst (acc ++ [y]))) else C σ' M1)
    (fin : ∀ σ M, I xs.length σ M → Q M) : Ph own xs tg cd el z xs σ M Q := by
  have key : ∀ (j : Nat) σ M, j ≤ xs.length → I (xs.length - j) σ M → Ph own xs tg cd el z (xs.drop (xs.length - j)) σ M Q := by
    intro j
    induction j with
    | zero =>
      intro σ M _ h
      rw [Nat.sub_zero] at h ⊢
      rw [List.drop_length]
      exact ⟨hs _ σ M (Nat.le_refl _) h, fin σ M h⟩
    | succ j ih =>
      intro σ M hj h
      have hi : xs.length - (j + 1) < xs.length := by omega
      have e : xs.length - (j + 1) + 1 = xs.length - j := by omega
      rw [List.drop_eq_getElem_cons hi]
      refine ⟨hs _ σ M (by omega) h, step _ _ σ M (fun σ2 M2 => Ph own xs tg cd el z (xs.drop (xs.length - (j + 1) + 1)) σ2 M2 Q) (List.getElem?_eq_getElem hi) h fun σ2 M2 h2 => ?_⟩
      rw [e] at h2 ⊢
      exact ih σ2 M2 (by omega) h2
  have := key xs.length σ M (Nat.le_refl _) (by rw [Nat.sub_self]; exact h0)
  rw [Nat.sub_self] at this
  exact this
theorem mulR {i j : Int} (h1 : -(2 ^ 64) < j) (h2 : j < 2 ^ 64) : IntMulOk i j := CMul.ok (.inr ⟨h1, h2⟩)
theorem mulL {i j : Int} (h1 : -(2 ^ 64) < i) (h2 : i < 2 ^ 64) : IntMulOk i j := CMul.ok (.inl ⟨h1, h2⟩)
theorem T0 {i j : Int} (h1 : 0 < j) (h2 : j < 2 ^ 64) : Bv i j := by
  refine ⟨by omega, ?_⟩
  have h3 : j.natAbs < 2 ^ 64 := by omega
  exact Nat.lt_trans (Fx h3 (by decide)) (by decide)
theorem Z0 {n : Nat} (h : n ≤ 16000000) : n ≤ sizeLine := by rw [sizeLine_eq]; omega
theorem Z6 {n : Nat} (h : n ≤ 16000000) : n < sizeLine := by rw [sizeLine_eq]; omega
section
variable {M : Z1} {Q : DK} {B : Bool → Prop} {i j : Int} {a b : Str} {p q : Bool} {xs ys : List D} {n m : Nat} {K : PySem.W.Frag}
theorem op_add_i : opD .add (.int i) (.int j) M Q = Q (.int (i + j)) M := rfl
theorem op_add_s : opD .add (.str a) (.str b) M Q = (a.length + b.length ≤ sizeLine ∧ Q (.str (a ++ b)) M) := rfl
theorem op_add_t : opD .add (.tup xs) (.tup ys) M Q = (xs ≠ [] ∧ xs.length + ys.length ≤ sizeLine ∧ Q (.tup (xs ++ ys)) M) := rfl
theorem op_add_l : opD .add (.ref n) (.ref m) M Q = ∃ xs ys, Za M n = some xs ∧ Za M m = some ys ∧ xs.length + ys.length ≤ sizeLine ∧ Q (.ref M.length) (M ++ [.lst (xs ++ ys)]) := rfl
theorem op_sub_i : opD .sub (.int i) (.int j) M Q = Q (.int (i - j)) M := rfl
theorem op_mul_i : opD .mul (.int i) (.int j) M Q = (IntMulOk i j ∧ Q (.int (i * j)) M) := rfl
theorem op_mul_l : opD .mul (.ref n) (.int i) M Q = ∃ xs, Za M n = some xs ∧ 0 ≤ i ∧ i < 2 ^ 62 ∧ xs.length * i.toNat ≤ sizeLine ∧ Q (.ref M.length) (M ++ [.lst (List.replicate i.toNat xs).flatten]) := rfl
theorem op_fdiv_i : opD .fdiv (.int i) (.int j) M Q = (Bv i j ∧ Q (.int (qdiv i j)) M) := rfl
theorem op_mod_i : opD .mod (.int i) (.int j) M Q = (j ≠ 0 ∧ Q (.int (qmod i j)) M) := rfl
theorem op_pow_i : opD .pow (.int i) (.int j) M Q = (CPow i j ∧ Q (.int (i ^ j.toNat)) M) := rfl
theorem cm_lt_i : cmD M .lt (.int i) (.int j) B = B (decide (i < j)) := rfl
theorem cm_gt_i : cmD M .gt (.int i) (.int j) B = B (decide (j < i)) := rfl
theorem cm_eq {x y : D} : cmD M .eq x y B = eqD M x y B := rfl
theorem cm_ne {x y : D} : cmD M .ne x y B = eqD M x y fun b => B (!b) := rfl
theorem cm_notin {x y : D} : cmD M .notin x y B = inQ M x y fun b => B (!b) := rfl
theorem cm_is_n : cmD M .is .non .non B = B true := rfl
theorem cm_is_i : cmD M .is (.int i) .non B = B false := rfl
theorem cm_is_s : cmD M .is (.str a) .non B = B false := rfl
theorem cm_is_b : cmD M .is (.bl p) .non B = B false := rfl
theorem cm_is_t : cmD M .is (.tup xs) .non B = B false := rfl
theorem cm_is_r : cmD M .is (.ref n) .non B = B false := rfl
theorem eq_i : eqD M (.int i) (.int j) B = B (decide (i = j)) := rfl
theorem eq_s : eqD M (.str a) (.str b) B = B (decide (a = b)) := rfl
theorem eq_b : eqD M (.bl p) (.bl q) B = B (decide (p = q)) := rfl
theorem eq_nn : eqD M .non .non B = B true := rfl
theorem eq_is : eqD M (.int i) (.str b) B = B false := rfl
theorem eq_si : eqD M (.str b) (.int i) B = B false := rfl
theorem tru_b : truD M (.bl p) B = B p := rfl
theorem tru_i : truD M (.int i) B = B (i != 0) := rfl
theorem tru_n : truD M .non B = B false := rfl
theorem tru_t : truD M (.tup xs) B = B (!xs.isEmpty) := rfl
theorem ix_t {F : D → Prop} : ixD M (.tup xs) (.int i) F = ∃ d, atI xs i = some d ∧ F d := rfl
theorem ix_g {F : D → Prop} : ixD M (.gtup xs) (.int i) F = ∃ d, atI xs i = some d ∧ F d := rfl
theorem ix_s {F : D → Prop} : ixD M (.str a) (.int i) F = (a.length ≤ sizeLine ∧ ∃ c, atI a.cps.toList i = some c ∧ F (.str ⟨#[c]⟩)) := rfl
theorem ix_l {F : D → Prop} {k : Nat} (h : Z7 M n = some xs) {d : D} (hd : xs[k]? = some d) (hF : F d) : ixD M (.ref n) (.int k) F := .inl ⟨xs, k, d, rfl, h, Pv hd, hF⟩
theorem Zg1 {F : D → Prop} (h : Z7 M n = some xs) {d : D} (hd : atI xs i = some d) (hF : F d) : ixD M (.ref n) (.int i) F := .inl ⟨xs, i, d, rfl, h, hd, hF⟩
theorem ix_d {F : D → Prop} {kvs : List (Key × D)} {k : D} {y : Key} (h : Y4 M n = some kvs) (hk : keyD k = some y) {d : D} (hd : valD kvs y = some d) (hF : F d) : ixD M (.ref n) k F := .inr ⟨kvs, y, d, h, hk, hd, hF⟩
theorem sl_s {lo hi : Option Int} : slD (.str a) lo hi M Q = (a.length ≤ sizeLine ∧ Q (.str (Txt.slice a lo hi)) M) := rfl
theorem sl_t {lo hi : Option Int} : slD (.tup xs) lo hi M Q = (¬ (HT.sIx xs.length 0 lo = 0 ∧ HT.sIx xs.length xs.length hi = xs.length) ∧ Q (.tup (cutD xs lo hi)) M) := rfl
theorem sl_l {lo hi : Option Int} : slD (.ref n) lo hi M Q = ∃ xs, Z7 M n = some xs ∧ Q (.ref M.length) (M ++ [.lst (cutD xs lo hi)]) := rfl
noncomputable def tyNon : Ty → Bool := fun _ => false
noncomputable def tyBl : Ty → Bool
  | .bool => true | .int => true | _ => false
noncomputable def tyInt : Ty → Bool
  | .int => true | _ => false
noncomputable def tyStr : Ty → Bool
  | .str => true | _ => false
noncomputable def tyTup : Ty → Bool
  | .tuple => true | _ => false
noncomputable def tyLst : Ty → Bool
  | .list => true | _ => false
noncomputable def tyDct : Ty → Bool
  | .dict => true | _ => false
theorem Qq {d : D} {t : Ty} {s : String} {v : Bool} (hd : ∀ e C dx r, d ≠ .exn e C dx r) (h1 : tyD M d = some s) (h2 : PySem.W.kitOne K (.type s) (.type (X9 t)) = some v) : isD K M d (.ty (X9 t)) B = B v := by
  have : isD K M d (.ty (X9 t)) B = ∃ t' b, tyD M d = some t' ∧ PySem.W.kitOne K (.type t') (.type (X9 t)) = some b ∧ B b := by
    cases d <;> first | rfl | exact absurd rfl (hd _ _ _ _)
  rw [this]
  apply propext
  constructor
  · rintro ⟨t', b, e1, e2, h⟩
    rw [h1] at e1
    cases e1
    rw [h2] at e2
    cases e2
    exact h
  · intro h; exact ⟨s, v, h1, h2, h⟩
theorem is_non {t : Ty} : isD K M .non (.ty (X9 t)) B = B (tyNon t) := Qq (fun _ _ _ _ h => nomatch h) rfl (by cases t <;> rfl)
theorem is_bl {t : Ty} : isD K M (.bl p) (.ty (X9 t)) B = B (tyBl t) := Qq (fun _ _ _ _ h => nomatch h) rfl (by cases t <;> rfl)
theorem is_int {t : Ty} : isD K M (.int i) (.ty (X9 t)) B = B (tyInt t) := Qq (fun _ _ _ _ h => nomatch h) rfl (by cases t <;> rfl)
theorem is_str {t : Ty} : isD K M (.str a) (.ty (X9 t)) B = B (tyStr t) := Qq (fun _ _ _ _ h => nomatch h) rfl (by cases t <;> rfl)
theorem is_tup {t : Ty} : isD K M (.tup xs) (.ty (X9 t)) B = B (tyTup t) := Qq (fun _ _ _ _ h => nomatch h) rfl (by cases t <;> rfl)
theorem Ze3 {t : Ty} (h : Za M n = some xs) : isD K M (.ref n) (.ty (X9 t)) B = B (tyLst t) := Qq (s := "list") (fun _ _ _ _ h => nomatch h) (by simp only [tyD, Pz h]) (by cases t <;> rfl)
theorem Xa (h : Z7 M n = some xs) (hq : Q (.int xs.length) M) : bfD K .len [.ref n] M Q := .inl ⟨xs, h, hq⟩
theorem bf_len_t : bfD K .len [.tup xs] M Q = Q (.int xs.length) M := rfl
theorem bf_len_s : bfD K .len [.str a] M Q = (a.length ≤ sizeLine ∧ Q (.int a.length) M) := rfl
theorem bf_is {d c : D} : bfD K .isinst [d, c] M Q = isD K M d c fun b => Q (.bl b) M := rfl
theorem bf_min : bfD K .min2 [.int i, .int j] M Q = Q (.int (if j < i then j else i)) M := rfl
theorem bf_max : bfD K .max2 [.int i, .int j] M Q = Q (.int (if j > i then j else i)) M := rfl
theorem bf_list {d : D} : bfD K .list1 [d] M Q = ∃ xs, Cj M d = some xs ∧ Q (.ref M.length) (M ++ [.lst xs]) := rfl
theorem bf_tuple : bfD K .tuple1 [.ref n] M Q = ∃ xs, Z7 M n = some xs ∧ Q (.tup xs) M := rfl
theorem bf_dict : bfD K .dict1 [.ref n] M Q = ((∃ xs, Y4 M n = some xs ∧ Q (.ref M.length) (M ++ [.dct xs])) ∨ (∃ ps : List (Key × D), Z7 M n = some (Xq ps) ∧ ps.length < sizeLine ∧ Q (.ref M.length) (M ++ [.dct (Vq ps)]))) := rfl
theorem mt_append_r {d : D} : mtD .append (.ref n) [d] M Q = ∃ xs, Za M n = some xs ∧ xs.length < sizeLine ∧ Q .non (M.set n (.lst (xs ++ [d]))) := rfl
theorem mt_get2_r {k z : D} : mtD .get2 (.ref n) [k, z] M Q = ∃ kvs y, Y4 M n = some kvs ∧ keyD k = some y ∧ Q ((valD kvs y).getD z) M := rfl
theorem mt_pop_r : mtD .pop0 (.ref n) [] M Q = ∃ xs d, Za M n = some xs ∧ xs[xs.length - 1]? = some d ∧ Q d (M.set n (.lst xs.dropLast)) := rfl
theorem mt_reverse_r : mtD .reverse (.ref n) [] M Q = ∃ xs, Za M n = some xs ∧ Q .non (M.set n (.lst xs.reverse)) := rfl
theorem mt_index_r {d : D} : mtD .index1 (.ref n) [d] M Q = ∃ xs k z, Z7 M n = some xs ∧ Y5 d = true ∧ xs.all Y5 = true ∧ xs[k]? = some z ∧ eqF z d = true ∧ (∀ (j : Nat) u, j < k → xs[j]? = some u → eqF u d = false) ∧ Q (.int k) M := rfl
theorem mt_extend_r {m : Nat} : mtD .extend (.ref n) [.ref m] M Q = ∃ xs ys, Za M n = some xs ∧ Za M m = some ys ∧ xs.length + ys.length ≤ sizeLine ∧ Q .non (M.set n (.lst (xs ++ ys))) := rfl
theorem mk_index : mtK .index1 (.ref n) M = ((Z7 M n).isSome = true) := rfl
theorem mk_extend : mtK .extend (.ref n) M = ((Z7 M n).isSome = true) := rfl
theorem aug_add {B : D → Prop} : augD .add (.int i) (.int j) B = B (.int (i + j)) := rfl
theorem aug_sub {B : D → Prop} : augD .sub (.int i) (.int j) B = B (.int (i - j)) := rfl
theorem mk_append : mtK .append (.ref n) M = ((Z7 M n).isSome = true) := rfl
theorem mk_pop : mtK .pop0 (.ref n) M = ((Z7 M n).isSome = true) := rfl
theorem mk_reverse : mtK .reverse (.ref n) M = ((Z7 M n).isSome = true) := rfl
theorem mk_get2 : mtK .get2 (.ref n) M = ((Y4 M n).isSome = true) := rfl
theorem tg_one {k : Nat} {d : D} {σ : DEnv} {F : DEnv → Prop} : tgD [k] d σ F = F (σ.set k (some d)) := by cases d <;> rfl
theorem tg_two {k l : Nat} {d e : D} {σ : DEnv} {F : DEnv → Prop} : tgD [k, l] (.tup [d, e]) σ F = F ((σ.set k (some d)).set l (some e)) := by
  show ([d, e].length = [k, l].length ∧ F _) = _
  simp
theorem it_r {R : Own → List D → Prop} : itD M (.ref n) R = ∃ xs, Z7 M n = some xs ∧ R (.lst n) xs := rfl
theorem it_t {R : Own → List D → Prop} : itD M (.tup xs) R = R .no xs := rfl
theorem it_g {R : Own → List D → Prop} : itD M (.gtup xs) R = R .no xs := rfl
theorem key_i : keyD (.int i) = some (.inl i) := rfl
theorem key_s : keyD (.str a) = some (.inr a) := rfl
theorem in_ss : inQ M (.str a) (.str b) B = B (!(Builtin.Str.occurrences b a 0 b.length 1).isEmpty) := rfl
end
theorem Zf {α : Type} {o : Option α} {x : α} (h : o = some x) : o.isSome = true := by rw [h]; rfl
theorem q_te_1 {c X i σ M Q} : te c X (.var i) σ M Q = (match σ[i]? with
    | some (some d) => Q d M
    | _ => False) := rfl
theorem q_te_2 {c X i u1 M Q} : te c X (.int i) u1 M Q = (Q (.int i) M) := rfl
theorem q_te_3 {c X b u1 M Q} : te c X (.bl b) u1 M Q = (Q (.bl b) M) := rfl
theorem q_te_4 {c X u1 M Q} : te c X (.non) u1 M Q = (Q .non M) := rfl
theorem q_te_5 {c X x u1 M Q} : te c X (.str x) u1 M Q = (Q (.str x) M) := rfl
theorem q_te_6 {c X n u1 M Q} : te c X (.ty n) u1 M Q = (Q (.ty (X9 n)) M) := rfl
theorem q_te_7 {c X k u1 M Q} : te c X (.glb k) u1 M Q = (match c.G[k]? with
    | some d => Q d M
    | none => False) := rfl
theorem q_te_8 {c X op a b σ M Q} : te c X (.bin op a b) σ M Q = (te c X a σ M fun x M1 => te c X b σ M1 fun y M2 => opD op x y M2 Q) := rfl
theorem q_te_9 {c X a σ M Q} : te c X (.neg a) σ M Q = (te c X a σ M fun x M1 => match x with
    | .int i => Q (.int (-i)) M1
    | _ => False) := rfl
theorem q_te_10 {c X a σ M Q} : te c X (.not a) σ M Q = (te c X a σ M fun x M1 => truD M1 x fun b => Q (.bl (!b)) M1) := rfl
theorem q_te_11 {c X op a b σ M Q} : te c X (.cmp op a b) σ M Q = (te c X a σ M fun x M1 => te c X b σ M1 fun y M2 => cmD M2 op x y fun r => Q (.bl r) M2) := rfl
theorem q_te_12 {c X k es σ M Q} : te c X (.bop k es) σ M Q = (tbop c X k es σ M Q) := rfl
theorem q_te_13 {c X t a b σ M Q} : te c X (.ife t a b) σ M Q = (te c X t σ M fun x M1 => truD M1 x fun r => if r = true then te c X a σ M1 Q else te c X b σ M1 Q) := rfl
theorem q_te_14 {c X es σ M Q} : te c X (.lst es) σ M Q = (tes c X es σ M fun ds M1 => ds.length ≤ sizeLine ∧ Q (.ref M1.length) (M1 ++ [.lst ds])) := rfl
theorem q_te_15 {c X es σ M Q} : te c X (.tup es) σ M Q = (tes c X es σ M fun ds M1 => ds.length ≤ sizeLine ∧ Q (.tup ds) M1) := rfl
theorem q_te_16 {c X u1 M Q} : te c X (.dict0) u1 M Q = (Q (.ref M.length) (M ++ [.dct []])) := rfl
theorem q_te_17 {c X a b σ M Q} : te c X (.ix a b) σ M Q = (te c X a σ M fun x M1 => te c X b σ M1 fun y M2 => ixD M2 x y fun d => Q d M2) := rfl
theorem q_te_18 {c X a lo hi σ M Q} : te c X (.sl a lo hi) σ M Q = (te c X a σ M fun x M1 => teo c X lo σ M1 fun l M2 => teo c X hi σ M2 fun h M3 => slD x l h M3 Q) := rfl
theorem q_te_19 {c X f es σ M Q} : te c X (.call f es) σ M Q = (tes c X es σ M fun ds M1 => match c.Γ[f]? with
    | some sp => sp ds M1 Q X
    | none => False) := rfl
theorem q_te_20 {c X b es σ M Q} : te c X (.bf b es) σ M Q = (tes c X es σ M fun ds M1 => bfD c.K b ds M1 Q) := rfl
theorem q_te_21 {c X a σ M Q} : te c X (.rev a) σ M Q = (te c X a σ M fun x M1 => match x with
    | .ref n => ∃ xs, Z7 M1 n = some xs ∧ Q (.ref M1.length) (M1 ++ [.lst xs.reverse])
    | _ => False) := rfl
theorem q_te_22 {c X m o es σ M Q} : te c X (.mt m o es) σ M Q = (te c X o σ M fun x M1 => mtK m x M1 ∧ tes c X es σ M1 fun ds M2 => mtD m x ds M2 Q) := rfl
theorem q_te_23 {c X o f σ M Q} : te c X (.fld o f) σ M Q = (te c X o σ M fun x M1 => fldD c.K x f fun d => Q d M1) := rfl
theorem q_te_24 {c X u1 js tg it cd e σ M Q} : te c X (.comp u1 js tg it cd e) σ M Q = (tit c X it σ M fun own xs M1 => Ph own xs tg (tcd c noX cd) (te c noX e) M1.length xs (capD js σ) (M1 ++ [.lst []]) fun M2 => Q (.ref M1.length) M2) := rfl
theorem q_tbop_1 {c X k u1 u2 u3} : tbop c X k (.nil) u1 u2 u3 = (False) := rfl
theorem q_tbop_2 {c X k e σ M Q} : tbop c X k (.cons e .nil) σ M Q = (te c X e σ M Q) := rfl
theorem q_tbop_3 {c X k e e2 r σ M Q} : tbop c X k (.cons e (.cons e2 r)) σ M Q = (te c X e σ M fun x M1 => truD M1 x fun b => if b = k then tbop c X k (.cons e2 r) σ M1 Q else Q x M1) := rfl
theorem q_tes_1 {c X u1 M Q} : tes c X (.nil) u1 M Q = (Q [] M) := rfl
theorem q_tes_2 {c X e r σ M Q} : tes c X (.cons e r) σ M Q = (te c X e σ M fun d M1 => tes c X r σ M1 fun ds M2 => Q (d :: ds) M2) := rfl
theorem q_teo_1 {c X u1 M Q} : teo c X (.no) u1 M Q = (Q none M) := rfl
theorem q_teo_2 {c X e σ M Q} : teo c X (.yes e) σ M Q = (te c X e σ M fun d M1 => match d with
    | .int i => Q (some i) M1
    | _ => False) := rfl
theorem q_tcd_1 {c X u1 M Q} : tcd c X (.no) u1 M Q = (Q true M) := rfl
theorem q_tcd_2 {c X e σ M Q} : tcd c X (.yes e) σ M Q = (te c X e σ M fun x M1 => truD M1 x fun b => Q b M1) := rfl
theorem q_tit_1 {c X e σ M Q} : tit c X (.seq e) σ M Q = (te c X e σ M fun d M1 => itD M1 d fun own xs => Q own xs M1) := rfl
theorem q_tit_2 {c X a σ M Q} : tit c X (.rng1 a) σ M Q = (te c X a σ M fun d M1 => match d with
    | .int j => -(2 ^ 62) ≤ j ∧ j < 2 ^ 62 ∧ Q .no (Se 0 j.toNat) M1
    | _ => False) := rfl
theorem q_tit_3 {c X a b σ M Q} : tit c X (.rng2 a b) σ M Q = (te c X a σ M fun d M1 => te c X b σ M1 fun d2 M2 => match d, d2 with
    | .int i, .int j => (-(2 ^ 62) ≤ i ∧ i < 2 ^ 62 ∧ -(2 ^ 62) ≤ j ∧ j < 2 ^ 62) ∧ Q .no (Se i (j - i).toNat) M2
    | _, _ => False) := rfl
theorem q_tit_4 {c X e σ M Q} : tit c X (.enm e) σ M Q = (te c X e σ M fun d M1 => match d with
    | .ref n => ∃ xs, Z7 M1 n = some xs ∧ Q (.enm n) (Pn xs) M1
    | _ => False) := rfl
theorem q_ts_1 {c X u1 u2 u3} : ts c X (.never) u1 u2 u3 = (False) := rfl
theorem q_ts_2 {c X e R σ M} : ts c X (.ret e) R σ M = (te c X e σ M R.rt) := rfl
theorem q_ts_3 {c X e R σ M} : ts c X (.expr e) R σ M = (te c X e σ M fun _ M1 => R.nx σ M1) := rfl
theorem q_ts_4 {c X tg e R σ M} : ts c X (.set tg e) R σ M = (te c X e σ M fun d M1 => tgD tg d σ fun σ' => R.nx σ' M1) := rfl
theorem q_ts_5 {c X op j e R σ M} : ts c X (.aug op j e) R σ M = (match σ[j]? with
    | some (some x) => te c X e σ M fun y M1 => augD op x y fun z => R.nx (σ.set j (some z)) M1
    | _ => False) := rfl
theorem q_ts_6 {c X o i v R σ M} : ts c X (.put o i v) R σ M = (te c X v σ M fun d M1 => te c X o σ M1 fun x M2 => te c X i σ M2 fun y M3 => match x with
    | .ref n => (∃ xs k j, y = .int k ∧ Za M3 n = some xs ∧ ixN xs.length k = some j ∧ R.nx σ (M3.set n (.lst (xs.set j d)))) ∨
        (∃ kvs k, Y4 M3 n = some kvs ∧ keyD y = some k ∧ kvs.length < sizeLine ∧ R.nx σ (M3.set n (.dct (putD kvs k d))))
    | _ => False) := rfl
theorem q_ts_7 {c X t a b R σ M} : ts c X (.ite t a b) R σ M = (tt c X t σ M fun r M1 => if r = true then tss c X a R σ M1 else tss c X b R σ M1) := rfl
theorem q_ts_8 {c X tg it b R σ M} : ts c X (.for_ tg it b) R σ M = (tit c X it σ M fun own xs M1 => forD own xs tg (tss c X b) xs R σ M1) := rfl
theorem q_ts_9 {c X tg e b R σ M} : ts c X (.forK tg e b) R σ M = (te c X e σ M fun d M1 => match d with
    | .ref n => ∃ kvs, Y4 M1 n = some kvs ∧ forD (.dct n) (Q2 kvs) tg (tss c X b) (Q2 kvs) (Zo8 n R) σ (M1.set n (.fdc kvs))
    | _ => False) := rfl
theorem q_ts_10 {c X t b R σ M} : ts c X (.while_ t b) R σ M = (∃ W : Nat → DEnv → Z1 → Prop, (∃ m, W m σ M) ∧ ∀ m σ M, W m σ M → tt c X t σ M fun r M1 => if r = true then
      tss c X b { nx := fun σ2 M2 => ∃ m', m' < m ∧ W m' σ2 M2, rt := R.rt, bk := R.nx, ct := fun σ2 M2 => ∃ m', m' < m ∧ W m' σ2 M2 } σ M1 else R.nx σ M1) := rfl
theorem Prg.up {P : Program} {w : World} {K : PySem.W.Frag} {mg : Str → Option Value} {base : Heap} {c : Cfg} {FN GN BN : List Str} {lv lv' : Nat} (Pr : Prg P w K mg base c FN GN BN lv) (h : lv ≤ lv') : Prg P w K mg base c FN GN BN lv' where
  hK := Pr.hK
  fns := fun m y sp e1 e2 => by
    obtain ⟨kk, f, fd, ps, ds, dvs, dD, sp0, F, hk, r⟩ := Pr.fns m y sp e1 e2
    exact ⟨kk, f, fd, ps, ds, dvs, dD, sp0, F, Nat.le_trans hk h, r⟩
  flen := Pr.flen
  glb := Pr.glb
  blt := Pr.blt
def Rest (c : Cfg) (X : DX) (r : Ss) (R : DEnds) (σ : DEnv) (M : Z1) : Prop := tss c X r R σ M
theorem tss_nil {c : Cfg} {X : DX} {R : DEnds} {σ : DEnv} {M : Z1} : tss c X .nil R σ M = R.nx σ M := rfl
theorem tss_cons {c : Cfg} {X : DX} {s : S} {r : Ss} {R : DEnds} {σ : DEnv} {M : Z1} : tss c X (.cons s r) R σ M = ts c X s { R with nx := fun σ' M' => Rest c X r R σ' M' } σ M := rfl
theorem Zm3 {c : Cfg} {X : DX} {r : Ss} {R : DEnds} {σ : DEnv} {M : Z1} (h : tss c X r R σ M) : Rest c X r R σ M := h
theorem Zq7 {α : Type} {P : List α → Prop} (h : P []) (l : List α) (e : l.length = 0) : P l := by
  cases l with
  | nil => exact h
  | cons _ _ => cases e
theorem Jr {α : Type} {n : Nat} {P : List α → Prop} (h : ∀ a l, l.length = n → P (a :: l)) (l : List α) (e : l.length = n + 1) : P l := by
  cases l with
  | nil => cases e
  | cons a r => exact h a r (Nat.succ.inj e)
theorem W7 {α : Type} {P : List α → Prop} (h : ∀ a, P [a]) : ∀ l : List α, l.length = 1 → P l := Jr fun a => Zq7 (h a)
theorem T1 {α : Type} {P : List α → Prop} (h : ∀ a b, P [a, b]) : ∀ l : List α, l.length = 2 → P l := Jr fun a => W7 (P := fun l => P (a :: l)) (h a)
theorem Z08 {α : Type} {P : List α → Prop} (h : ∀ a b c, P [a, b, c]) : ∀ l : List α, l.length = 3 → P l := Jr fun a => T1 (P := fun l => P (a :: l)) (h a)
theorem G6 {α : Type} {P : List α → Prop} (h : ∀ a b c d, P [a, b, c, d]) : ∀ l : List α, l.length = 4 → P l := Jr fun a => Z08 (P := fun l => P (a :: l)) (h a)
theorem C1 {α : Type} {P : α → Prop} : ∀ x ∈ ([] : List α), P x := fun _ h => absurd h List.not_mem_nil
theorem all_cons {α : Type} {P : α → Prop} {a : α} {l : List α} (h : P a) (t : ∀ x ∈ l, P x) : ∀ x ∈ a :: l, P x := fun x hx => (List.mem_cons.mp hx).elim (fun e => e ▸ h) (t x)
end U
namespace GT
inductive Av (g : Nat → List Nat) (a : Nat) : Nat → Prop
  | zero : a ≠ 0 → Av g a 0
  | step {x y : Nat} : Av g a x → y ∈ g x → y ≠ a → Av g a y
structure Num (g : Nat → List Nat) (n : Nat) : Prop where
  pos : 0 < n
  cl : ∀ x, x < n → ∀ y ∈ g x, y < n
  up : ∀ k, k < n → k ≠ 0 → ∃ p, p < k ∧ k ∈ g p
structure Must (g : Nat → List Nat) (k m : Nat) : Prop where
  ne : m ≠ k
  dom : ¬ Av g m k
  last : ∀ d, d ≠ k → ¬ Av g d k → d ≤ m
structure Wk (g : Nat → List Nat) (n : Nat) (B : List Nat) (T : List (Nat × Nat)) (F : List Nat) : Prop where
  bn : B.Nodup
  bl : ∀ x ∈ B, x < n
  z : 0 ∈ B
  mem : ∀ x, x ∈ B ↔ (∃ s, (x, s) ∈ T) ∨ x ∈ F
  nd : (T.map (·.1) ++ F).Nodup
  first : ∀ p, T[0]? = some p → p.1 = 0
  chain : ∀ (i : Nat) p q, T[i]? = some p → T[i + 1]? = some q → q.1 ∈ g p.1
  steps : ∀ a s, (a, s) ∈ T → s ≤ (g a).length ∧ ∀ j y, j < s → (g a)[j]? = some y → y ∈ B
  fin : ∀ d ∈ F, ∀ y ∈ g d, y ∈ B
  par : ∀ (i : Nat) x, F[i]? = some x → x ≠ 0 → ∃ p, x ∈ g p ∧ p ∈ B ∧ p ∉ F.take (i + 1)
noncomputable def wkM (n : Nat) (B : List Nat) (T : List (Nat × Nat)) : Nat := 3 * (n - B.length) + (T.map fun p => 3 - p.2).sum
theorem Wk.begin (g : Nat → List Nat) {n : Nat} (hn : 0 < n) : Wk g n [0] [(0, 0)] [] where
  bn := by simp
  bl := by intro x h; simp at h; omega
  z := by simp
  mem := by intro x; simp
  nd := by simp
  first := by intro p h; simp at h; rw [← h]
  chain := by intro i p q h1 h2; simp at h2
  steps := by
    intro a s h
    simp at h
    obtain ⟨rfl, rfl⟩ := h
    exact ⟨Nat.zero_le _, fun j y h => by omega⟩
  fin := by intro d h; simp at h
  par := by intro i x h; simp at h
theorem Vh {α : Type} (T : List α) (p : α) : (T ++ [p])[T.length]? = some p := by simp
theorem Yu {α : Type} {T : List α} {p q : α} {i : Nat} (h : T[i]? = some q) : (T ++ [p])[i]? = some q := by
  rw [List.getElem?_append_left (List.getElem?_eq_some_iff.mp h).1]; exact h
theorem Yj {α : Type} {T : List α} {p q : α} {i : Nat} (h : (T ++ [p])[i]? = some q) : T[i]? = some q ∨ (i = T.length ∧ q = p) := by
  by_cases hi : i < T.length
  · rw [List.getElem?_append_left hi] at h; exact .inl h
  · rw [List.getElem?_append_right (by omega)] at h
    have h' := (List.getElem?_eq_some_iff.mp h).1
    simp at h'
    have e : i - T.length = 0 := by omega
    rw [e] at h
    simp at h
    exact .inr ⟨by omega, h.symm⟩
theorem Wk.close {g : Nat → List Nat} {n a s : Nat} {B F : List Nat} {T : List (Nat × Nat)} (w : Wk g n B (T ++ [(a, s)]) F) (hs : s = (g a).length) : Wk g n B T (F ++ [a]) where
  bn := w.bn
  bl := w.bl
  z := w.z
  mem := by
    intro x
    rw [w.mem x]
    simp only [List.mem_append, List.mem_singleton, Prod.mk.injEq]
    constructor
    · rintro (⟨s', h | ⟨rfl, rfl⟩⟩ | h)
      · exact .inl ⟨s', h⟩
      · exact .inr (.inr rfl)
      · exact .inr (.inl h)
    · rintro (⟨s', h⟩ | h | rfl)
      · exact .inl ⟨s', .inl h⟩
      · exact .inr h
      · exact .inl ⟨s, .inr ⟨rfl, rfl⟩⟩
  nd := by
    have h := w.nd
    have p : (T.map (·.1) ++ (F ++ [a])).Perm ((T ++ [(a, s)]).map (·.1) ++ F) := by
      rw [List.map_append, List.append_assoc]
      exact List.Perm.append_left _ List.perm_append_comm
    exact p.nodup_iff.mpr h
  first := fun p h => w.first p (Yu h)
  chain := fun i p q h1 h2 => w.chain i p q (Yu h1) (Yu h2)
  steps := fun b t h => w.steps b t (List.mem_append_left _ h)
  fin := by
    intro d h y hy
    rcases List.mem_append.mp h with h | h
    · exact w.fin d h y hy
    · rw [List.mem_singleton] at h
      subst h
      obtain ⟨j, hj⟩ := List.getElem?_of_mem hy
      exact (w.steps d s (by simp)).2 j y (by have := (List.getElem?_eq_some_iff.mp hj).1; omega) hj
  par := by
    intro i x h hx
    rcases Yj h with h | ⟨rfl, rfl⟩
    · obtain ⟨p, h1, h2, h3⟩ := w.par i x h hx
      refine ⟨p, h1, h2, ?_⟩
      have hi := (List.getElem?_eq_some_iff.mp h).1
      rw [List.take_append_of_le_length (by omega)]
      exact h3
    · have hl : T ≠ [] := by
        rintro rfl
        exact hx (w.first (x, s) rfl)
      obtain ⟨T', ⟨b, t⟩, rfl⟩ : ∃ T' p, T = T' ++ [p] := ⟨T.dropLast, T.getLast hl, (List.dropLast_concat_getLast hl).symm⟩
      refine ⟨b, ?_, ?_, ?_⟩
      · exact w.chain T'.length (b, t) (x, s) (Yu (Vh _ _)) (by have := Vh (T' ++ [(b, t)]) (x, s); simpa using this)
      · rw [w.mem b]; exact .inl ⟨t, by simp⟩
      · rw [List.take_of_length_le (by simp)]
        intro hb
        have hnd := w.nd
        simp only [List.map_append, List.map_cons, List.map_nil, List.append_assoc] at hnd
        have hnd := (List.nodup_append.mp hnd).2.1
        simp only [List.singleton_append, List.nodup_cons, List.mem_cons, not_or] at hnd
        rcases List.mem_append.mp hb with h | h
        · exact hnd.1.2 h
        · simp at h; exact hnd.1.1 h
theorem Wk.pass {g : Nat → List Nat} {n a s y : Nat} {B F : List Nat} {T : List (Nat × Nat)} (w : Wk g n B (T ++ [(a, s)]) F) (hy : (g a)[s]? = some y) (hb : y ∈ B) : Wk g n B (T ++ [(a, s + 1)]) F where
  bn := w.bn
  bl := w.bl
  z := w.z
  mem := by
    intro x
    rw [w.mem x]
    simp only [List.mem_append, List.mem_singleton, Prod.mk.injEq]
    constructor
    · rintro (⟨s', h | ⟨rfl, rfl⟩⟩ | h)
      · exact .inl ⟨s', .inl h⟩
      · exact .inl ⟨s' + 1, .inr ⟨rfl, rfl⟩⟩
      · exact .inr h
    · rintro (⟨s', h | ⟨rfl, rfl⟩⟩ | h)
      · exact .inl ⟨s', .inl h⟩
      · exact .inl ⟨s, .inr ⟨rfl, rfl⟩⟩
      · exact .inr h
  nd := by have := w.nd; simpa using this
  first := by
    intro p h
    rcases Yj h with h | ⟨e, rfl⟩
    · exact w.first p (Yu h)
    · have := w.first (a, s) (by rw [e]; exact Vh _ _)
      exact this
  chain := by
    intro i p q h1 h2
    rcases Yj h2 with h2 | ⟨e, rfl⟩
    · rcases Yj h1 with h1 | ⟨e1, rfl⟩
      · exact w.chain i p q (Yu h1) (Yu h2)
      · have := (List.getElem?_eq_some_iff.mp h2).1
        omega
    · rcases Yj h1 with h1 | ⟨e1, rfl⟩
      · exact w.chain i p (a, s) (Yu h1) (by rw [e]; exact Vh _ _)
      · omega
  steps := by
    intro b t h
    rcases List.mem_append.mp h with h | h
    · exact w.steps b t (List.mem_append_left _ h)
    · rw [List.mem_singleton] at h
      cases h
      obtain ⟨h1, h2⟩ := w.steps a s (by simp)
      refine ⟨(List.getElem?_eq_some_iff.mp hy).1, fun j z hj hz => ?_⟩
      by_cases e : j = s
      · subst e; rw [hy] at hz; cases hz; exact hb
      · exact h2 j z (by omega) hz
  fin := w.fin
  par := w.par
theorem Wk.open {g : Nat → List Nat} {n a s y : Nat} {B F : List Nat} {T : List (Nat × Nat)} (w : Wk g n B (T ++ [(a, s)]) F) (hy : (g a)[s]? = some y) (hn : y < n) (hb : y ∉ B) : Wk g n (B ++ [y]) (T ++ [(a, s + 1), (y, 0)]) F where
  bn := by
    rw [List.nodup_append]
    refine ⟨w.bn, by simp, fun x hx z hz => ?_⟩
    simp at hz
    subst hz
    exact fun e => hb (e ▸ hx)
  bl := by
    intro x hx
    rcases List.mem_append.mp hx with h | h
    · exact w.bl x h
    · simp at h; omega
  z := List.mem_append_left _ w.z
  mem := by
    intro x
    rw [List.mem_append, w.mem x]
    simp only [List.mem_append, List.mem_singleton, List.mem_cons, Prod.mk.injEq, List.not_mem_nil, or_false]
    constructor
    · rintro ((⟨s', h | ⟨rfl, rfl⟩⟩ | h) | rfl)
      · exact .inl ⟨s', .inl h⟩
      · exact .inl ⟨s' + 1, .inr (.inl ⟨rfl, rfl⟩)⟩
      · exact .inr h
      · exact .inl ⟨0, .inr (.inr ⟨rfl, rfl⟩)⟩
    · rintro (⟨s', h | ⟨rfl, rfl⟩ | ⟨rfl, rfl⟩⟩ | h)
      · exact .inl (.inl ⟨s', .inl h⟩)
      · exact .inl (.inl ⟨s, .inr ⟨rfl, rfl⟩⟩)
      · exact .inr rfl
      · exact .inl (.inr h)
  nd := by
    have h1 := w.nd
    have h2 : y ∉ (T ++ [(a, s)]).map (·.1) ++ F := by
      intro h
      apply hb
      rw [w.mem y]
      rcases List.mem_append.mp h with h | h
      · obtain ⟨⟨b, t⟩, hp, e⟩ := List.mem_map.mp h
        simp at e
        subst e
        exact .inl ⟨t, hp⟩
      · exact .inr h
    have p : ((T ++ [(a, s + 1), (y, 0)]).map (·.1) ++ F).Perm (y :: ((T ++ [(a, s)]).map (·.1) ++ F)) := by
      simp only [List.map_append, List.map_cons, List.map_nil, List.append_assoc, List.cons_append, List.nil_append]
      have q := List.perm_middle (a := y) (l₁ := List.map (fun x => x.1) T ++ [a]) (l₂ := F)
      simpa only [List.append_assoc, List.cons_append, List.nil_append] using q
    exact p.nodup_iff.mpr (List.nodup_cons.mpr ⟨h2, h1⟩)
  first := by
    intro p h
    have : T ++ [(a, s + 1), (y, 0)] = (T ++ [(a, s + 1)]) ++ [(y, 0)] := by simp
    rw [this] at h
    rcases Yj h with h | ⟨e, rfl⟩
    · rcases Yj h with h | ⟨e, rfl⟩
      · exact w.first p (Yu h)
      · exact w.first (a, s) (by rw [e]; exact Vh _ _)
    · simp at e
  chain := by
    intro i p q h1 h2
    have : T ++ [(a, s + 1), (y, 0)] = (T ++ [(a, s + 1)]) ++ [(y, 0)] := by simp
    rw [this] at h1 h2
    rcases Yj h2 with h2 | ⟨e, rfl⟩
    · rcases Yj h1 with h1 | ⟨e1, rfl⟩
      · rcases Yj h2 with h2 | ⟨e, rfl⟩
        · rcases Yj h1 with h1 | ⟨e1, rfl⟩
          · exact w.chain i p q (Yu h1) (Yu h2)
          · have := (List.getElem?_eq_some_iff.mp h2).1
            omega
        · rcases Yj h1 with h1 | ⟨e1, rfl⟩
          · exact w.chain i p (a, s) (Yu h1) (by rw [e]; exact Vh _ _)
          · omega
      · have := (List.getElem?_eq_some_iff.mp h2).1
        omega
    · rcases Yj h1 with h1 | ⟨e1, rfl⟩
      · rcases Yj h1 with h1 | ⟨e1, rfl⟩
        · have := (List.getElem?_eq_some_iff.mp h1).1
          simp at e
          omega
        · exact List.mem_of_getElem? hy
      · omega
  steps := by
    intro b t h
    simp only [List.mem_append, List.mem_cons, List.not_mem_nil, or_false, Prod.mk.injEq] at h
    rcases h with h | ⟨rfl, rfl⟩ | ⟨rfl, rfl⟩
    · obtain ⟨h1, h2⟩ := w.steps b t (List.mem_append_left _ h)
      exact ⟨h1, fun j z hj hz => List.mem_append_left _ (h2 j z hj hz)⟩
    · obtain ⟨h1, h2⟩ := w.steps b s (by simp)
      refine ⟨(List.getElem?_eq_some_iff.mp hy).1, fun j z hj hz => ?_⟩
      by_cases e : j = s
      · subst e; rw [hy] at hz; cases hz; simp
      · exact List.mem_append_left _ (h2 j z (by omega) hz)
    · exact ⟨Nat.zero_le _, fun j y h => by omega⟩
  fin := fun d h z hz => List.mem_append_left _ (w.fin d h z hz)
  par := by
    intro i x h hx
    obtain ⟨p, h1, h2, h3⟩ := w.par i x h hx
    exact ⟨p, h1, List.mem_append_left _ h2, h3⟩
theorem Pe : ∀ {n : Nat} {B : List Nat}, B.Nodup → (∀ x ∈ B, x < n) → B.length ≤ n := by
  intro n B h1 h2
  have : B.length ≤ (List.range n).length := List.Nodup.length_le_of_subset h1 (fun x hx => List.mem_range.mpr (h2 x hx))
  simpa using this
theorem Wk.room {g : Nat → List Nat} {n : Nat} {B F : List Nat} {T : List (Nat × Nat)} (w : Wk g n B T F) : B.length ≤ n := Pe w.bn w.bl
theorem Wk.small {g : Nat → List Nat} {n : Nat} {B F : List Nat} {T : List (Nat × Nat)} (w : Wk g n B T F) : T.length + F.length ≤ n := by
  have h := Pe (n := n) w.nd fun x hx => w.bl x ((w.mem x).mpr (by
    rcases List.mem_append.mp hx with h | h
    · obtain ⟨⟨b, t⟩, hp, e⟩ := List.mem_map.mp h
      simp at e
      subst e
      exact .inl ⟨t, hp⟩
    · exact .inr h))
  simpa using h
theorem C5 {n a s : Nat} {B : List Nat} {T : List (Nat × Nat)} (hs : s ≤ 2) : wkM n B T < wkM n B (T ++ [(a, s)]) := by
  unfold wkM
  simp only [List.map_append, List.sum_append, List.map_cons, List.map_nil, List.sum_cons, List.sum_nil]
  omega
theorem Z67 {n a s : Nat} {B : List Nat} {T : List (Nat × Nat)} (hs : s < 2) : wkM n B (T ++ [(a, s + 1)]) < wkM n B (T ++ [(a, s)]) := by
  unfold wkM
  simp only [List.map_append, List.sum_append, List.map_cons, List.map_nil, List.sum_cons, List.sum_nil]
  omega
theorem Zd0 {n a s y : Nat} {B : List Nat} {T : List (Nat × Nat)} (hs : s < 2) (hB : B.length < n) : wkM n (B ++ [y]) (T ++ [(a, s + 1), (y, 0)]) < wkM n B (T ++ [(a, s)]) := by
  unfold wkM
  simp only [List.map_append, List.sum_append, List.map_cons, List.map_nil, List.sum_cons, List.sum_nil, List.length_append, List.length_cons, List.length_nil]
  omega
theorem Cb {O : List Nat} (nd : O.Nodup) {k x : Nat} (h : O[k]? = some x) : O.idxOf x = k := by
  obtain ⟨h1, h2⟩ := List.getElem?_eq_some_iff.mp h
  rw [← h2]
  exact List.Nodup.idxOf_getElem nd k h1
structure Ord (g : Nat → List Nat) (n : Nat) (O : List Nat) : Prop where
  nd : O.Nodup
  lt : ∀ x ∈ O, x < n
  z : O[0]? = some 0
  cl : ∀ x ∈ O, ∀ y ∈ g x, y ∈ O
  up : ∀ (k : Nat) x, O[k]? = some x → k ≠ 0 → ∃ (j : Nat) (p : Nat), j < k ∧ O[j]? = some p ∧ x ∈ g p
theorem Wk.ord {g : Nat → List Nat} {n : Nat} {B F : List Nat} (w : Wk g n B [] F) : Ord g n F.reverse := by
  have mem : ∀ x, x ∈ B ↔ x ∈ F := by intro x; rw [w.mem x]; simp
  have nd : F.Nodup := by have := w.nd; simpa using this
  have z : F[F.length - 1]? = some 0 := by
    have h0 := (mem 0).mp w.z
    have hl : 0 < F.length := List.length_pos_of_mem h0
    rw [List.getElem?_eq_getElem (by omega)]
    by_cases e : F[F.length - 1] = 0
    · rw [e]
    · obtain ⟨p, _, h2, h3⟩ := w.par (F.length - 1) _ (List.getElem?_eq_getElem (by omega)) e
      rw [List.take_of_length_le (by omega)] at h3
      exact absurd ((mem p).mp h2) h3
  have hl : 0 < F.length := List.length_pos_of_mem ((mem 0).mp w.z)
  have rv : ∀ k, k < F.length → F.reverse[k]? = F[F.length - 1 - k]? := fun k hk => List.getElem?_reverse hk
  refine ⟨(List.reverse_perm F).nodup_iff.mpr nd, fun x hx => w.bl x ((mem x).mpr (by simpa using hx)), ?_, fun x hx y hy => ?_, fun k x hk h0 => ?_⟩
  · rw [rv 0 hl]; exact z
  · rw [List.mem_reverse] at *
    exact (mem y).mp (w.fin x hx y hy)
  · have hkl : k < F.length := by
      have := (List.getElem?_eq_some_iff.mp hk).1
      simpa using this
    rw [rv k hkl] at hk
    have hx : x ≠ 0 := by
      rintro rfl
      have h1 := Cb nd hk
      have h2 := Cb nd z
      omega
    obtain ⟨p, h1, h2, h3⟩ := w.par _ x hk hx
    obtain ⟨j, hj⟩ := List.getElem?_of_mem ((mem p).mp h2)
    have hjl := (List.getElem?_eq_some_iff.mp hj).1
    have hge : F.length - 1 - k + 1 ≤ j := by
      by_cases e : F.length - 1 - k + 1 ≤ j
      · exact e
      · exfalso
        apply h3
        apply List.mem_of_getElem? (i := j)
        rw [List.getElem?_take_of_lt (by omega)]
        exact hj
    refine ⟨F.length - 1 - j, p, by omega, ?_, h1⟩
    rw [rv _ (by omega), show F.length - 1 - (F.length - 1 - j) = j by omega]
    exact hj
noncomputable def Sc (g : Nat → List Nat) (O : List Nat) (k : Nat) : List Nat := match O[k]? with
  | some x => (g x).map fun y => O.idxOf y
  | none => []
theorem Ord.num {g : Nat → List Nat} {n : Nat} {O : List Nat} (o : Ord g n O) : Num (Sc g O) O.length where
  pos := (List.getElem?_eq_some_iff.mp o.z).1
  cl := by
    intro k hk y hy
    unfold Sc at hy
    rw [List.getElem?_eq_getElem hk] at hy
    obtain ⟨u, hu, rfl⟩ := List.mem_map.mp hy
    exact List.idxOf_lt_length_of_mem (o.cl _ (List.getElem_mem hk) u hu)
  up := by
    intro k hk h0
    obtain ⟨j, p, h1, h2, h3⟩ := o.up k _ (List.getElem?_eq_getElem hk) h0
    refine ⟨j, h1, ?_⟩
    unfold Sc
    rw [h2]
    exact List.mem_map.mpr ⟨_, h3, Cb o.nd (List.getElem?_eq_getElem hk)⟩
theorem Ord.le {g : Nat → List Nat} {n : Nat} {O : List Nat} (o : Ord g n O) : O.length ≤ n := Pe o.nd o.lt
structure Fd (g : Nat → List Nat) (n a : Nat) (L : List Nat) (t : Nat) : Prop where
  nd : L.Nodup
  z : L[0]? = some 0
  av : ∀ x ∈ L, Av g a x
  done : ∀ (i : Nat) x, i < t → L[i]? = some x → ∀ y ∈ g x, y = a ∨ y ∈ L
  le : t ≤ L.length
theorem Fd.next {g : Nat → List Nat} {n a t x : Nat} {L : List Nat} (f : Fd g n a L t) (hx : L[t]? = some x) (h : ∀ y ∈ g x, y = a ∨ y ∈ L) : Fd g n a L (t + 1) where
  nd := f.nd
  z := f.z
  av := f.av
  done := by
    intro i u h1 h2 v hv
    by_cases e : i = t
    · subst e; rw [hx] at h2; cases h2; exact h v hv
    · exact f.done i u (by omega) h2 v hv
  le := (List.getElem?_eq_some_iff.mp hx).1
end GT
namespace ND
structure St where
  b : List Nat
  s : List (Nat × List Nat)
  d : List Nat
noncomputable def stp (g : Nat → List Nat) : St → St
  | ⟨b, [], d⟩ => ⟨b, [], d⟩
  | ⟨b, (x, []) :: s, d⟩ => ⟨b, s, d ++ [x]⟩
  | ⟨b, (x, t :: r) :: s, d⟩ => if t ∈ b then ⟨b, (x, r) :: s, d⟩ else ⟨b ++ [t], (t, g t) :: (x, r) :: s, d⟩
noncomputable def itr (g : Nat → List Nat) : Nat → St → St
  | 0, s => s
  | k + 1, s => stp g (itr g k s)
theorem J0 {g : Nat → List Nat} (j : Nat) (s : St) : ∀ k, itr g (k + j) s = itr g k (itr g j s)
  | 0 => by rw [Nat.zero_add]; rfl
  | k + 1 => by rw [Nat.add_right_comm]; show stp g (itr g (k + j) s) = stp g (itr g k (itr g j s)); rw [J0 j s k]
theorem Zi3 {g : Nat → List Nat} {s : St} (h : s.s = []) : stp g s = s := by
  obtain ⟨b, s, d⟩ := s; cases h; rfl
theorem J2 {g : Nat → List Nat} {s : St} (h : s.s = []) : ∀ k, itr g k s = s
  | 0 => rfl
  | k + 1 => by show stp g (itr g k s) = s; rw [J2 h k, Zi3 h]
def Ends (g : Nat → List Nat) (x : Nat) (d : List Nat) : Prop := ∃ k b, itr g k ⟨[x], [(x, g x)], []⟩ = ⟨b, [], d⟩
theorem Ends.uniq {g : Nat → List Nat} {x : Nat} {d e : List Nat} (h1 : Ends g x d) (h2 : Ends g x e) : d = e := by
  obtain ⟨k, b, h1⟩ := h1
  obtain ⟨j, c, h2⟩ := h2
  have a1 : itr g (j + k) ⟨[x], [(x, g x)], []⟩ = ⟨b, [], d⟩ := by rw [J0, h1, J2 rfl]
  have a2 : itr g (k + j) ⟨[x], [(x, g x)], []⟩ = ⟨c, [], e⟩ := by rw [J0, h2, J2 rfl]
  rw [Nat.add_comm, a1] at a2
  exact congrArg St.d a2
noncomputable def mp (π : Nat → Nat) (s : St) : St := ⟨s.b.map π, s.s.map fun p => (π p.1, p.2.map π), s.d.map π⟩
structure In (S : Nat → Prop) (z : St) : Prop where
  b : ∀ x ∈ z.b, S x
  s : ∀ p ∈ z.s, S p.1 ∧ ∀ t ∈ p.2, S t
  d : ∀ x ∈ z.d, S x
theorem In.stp {g : Nat → List Nat} {S : Nat → Prop} (cl : ∀ x, S x → ∀ t ∈ g x, S t) {s : St} (h : In S s) : In S (stp g s) := by
  obtain ⟨b, s, d⟩ := s
  cases s with
  | nil => exact h
  | cons p s =>
    obtain ⟨x, r⟩ := p
    have hx := h.s (x, r) List.mem_cons_self
    cases r with
    | nil => exact ⟨h.b, fun p hp => h.s p (List.mem_cons_of_mem _ hp), fun y hy => (List.mem_append.mp hy).elim (h.d y) fun z => by rw [List.mem_singleton] at z; subst z; exact hx.1⟩
    | cons t r =>
      show In S (if t ∈ b then _ else _)
      split
      · refine ⟨h.b, fun p hp => ?_, h.d⟩
        rcases List.mem_cons.mp hp with rfl | hp
        · exact ⟨hx.1, fun u hu => hx.2 u (List.mem_cons_of_mem _ hu)⟩
        · exact h.s p (List.mem_cons_of_mem _ hp)
      · have ht := hx.2 t List.mem_cons_self
        refine ⟨fun y hy => (List.mem_append.mp hy).elim (h.b y) fun z => by rw [List.mem_singleton] at z; subst z; exact ht, fun p hp => ?_, h.d⟩
        rcases List.mem_cons.mp hp with rfl | hp
        · exact ⟨ht, cl t ht⟩
        · rcases List.mem_cons.mp hp with rfl | hp
          · exact ⟨hx.1, fun u hu => hx.2 u (List.mem_cons_of_mem _ hu)⟩
          · exact h.s p (List.mem_cons_of_mem _ hp)
theorem Zx1 {g g' : Nat → List Nat} {S : Nat → Prop} {π : Nat → Nat} (inj : ∀ x y, S x → S y → π x = π y → x = y) (hg : ∀ x, S x → g' (π x) = (g x).map π) {s : St} (h : In S s) : stp g' (mp π s) = mp π (stp g s) := by
  obtain ⟨b, s, d⟩ := s
  cases s with
  | nil => rfl
  | cons p s =>
    obtain ⟨x, r⟩ := p
    have hx := h.s (x, r) List.mem_cons_self
    cases r with
    | nil => show St.mk (b.map π) _ (d.map π ++ [π x]) = St.mk (b.map π) _ ((d ++ [x]).map π); rw [List.map_append]; rfl
    | cons t r =>
      have ht := hx.2 t List.mem_cons_self
      have e : π t ∈ b.map π ↔ t ∈ b := by
        constructor
        · intro z
          obtain ⟨y, hy, e⟩ := List.mem_map.mp z
          rw [← inj y t (h.b y hy) ht e]; exact hy
        · exact fun z => List.mem_map.mpr ⟨t, z, rfl⟩
      show (if π t ∈ b.map π then _ else _) = mp π (if t ∈ b then _ else _)
      by_cases hb : t ∈ b
      · rw [if_pos (e.mpr hb), if_pos hb]; rfl
      · rw [if_neg (fun z => hb (e.mp z)), if_neg hb]
        show St.mk (b.map π ++ [π t]) ((π t, g' (π t)) :: _) (d.map π) = St.mk ((b ++ [t]).map π) ((π t, (g t).map π) :: _) (d.map π)
        rw [List.map_append, hg t ht]; rfl
theorem Zd1 {g g' : Nat → List Nat} {S : Nat → Prop} {π : Nat → Nat} (cl : ∀ x, S x → ∀ t ∈ g x, S t) (inj : ∀ x y, S x → S y → π x = π y → x = y) (hg : ∀ x, S x → g' (π x) = (g x).map π) {s : St} (h : In S s) : ∀ k, itr g' k (mp π s) = mp π (itr g k s) ∧ In S (itr g k s)
  | 0 => ⟨rfl, h⟩
  | k + 1 => by
    obtain ⟨h1, h2⟩ := Zd1 cl inj hg h k
    exact ⟨by show stp g' (itr g' k (mp π s)) = mp π (stp g (itr g k s)); rw [h1, Zx1 inj hg h2], h2.stp cl⟩
theorem Ends.map {g g' : Nat → List Nat} {S : Nat → Prop} {π : Nat → Nat} {x : Nat} {d : List Nat} (cl : ∀ x, S x → ∀ t ∈ g x, S t) (inj : ∀ x y, S x → S y → π x = π y → x = y) (hg : ∀ x, S x → g' (π x) = (g x).map π) (hx : S x) (h : Ends g x d) : Ends g' (π x) (d.map π) := by
  obtain ⟨k, b, h⟩ := h
  have i0 : In S ⟨[x], [(x, g x)], []⟩ := ⟨fun y hy => by rw [List.mem_singleton] at hy; subst hy; exact hx, fun p hp => by rw [List.mem_singleton] at hp; subst hp; exact ⟨hx, cl x hx⟩, fun y hy => by simp at hy⟩
  have := (Zd1 cl inj hg i0 k).1
  rw [h] at this
  refine ⟨k, b.map π, ?_⟩
  rw [hg x hx]
  exact this
structure Ok (g : Nat → List Nat) (x : Nat) (s : St) : Prop where
  nb : s.b.Nodup
  nd : (s.s.map (·.1) ++ s.d).Nodup
  eq : ∀ y, y ∈ s.b ↔ y ∈ s.s.map (·.1) ∨ y ∈ s.d
  cl : ∀ y ∈ s.d, ∀ t ∈ g y, t ∈ s.b
  op : ∀ p ∈ s.s, (∀ t ∈ p.2, t ∈ g p.1) ∧ ∀ t ∈ g p.1, t ∈ p.2 ∨ t ∈ s.b
  bot : s.s.getLast?.map (·.1) = some x ∨ (s.s = [] ∧ s.d.getLast? = some x)
theorem Ok.begin (g : Nat → List Nat) (x : Nat) : Ok g x ⟨[x], [(x, g x)], []⟩ where
  nb := by simp
  nd := by simp
  eq := by simp
  cl := by simp
  op := by
    intro p hp
    rw [List.mem_singleton] at hp
    subst hp
    exact ⟨fun t h => h, fun t h => .inl h⟩
  bot := .inl rfl
theorem Ok.stp {g : Nat → List Nat} {x : Nat} {s : St} (h : Ok g x s) : Ok g x (stp g s) := by
  obtain ⟨b, s, d⟩ := s
  cases s with
  | nil => exact h
  | cons p s =>
    obtain ⟨y, r⟩ := p
    obtain ⟨h1, h2, h3, h4, h5, h6⟩ := h
    simp only [List.map_cons] at h2 h3 h4 h5 h6
    cases r with
    | nil =>
      show Ok g x ⟨b, s, d ++ [y]⟩
      refine ⟨h1, ?_, fun z => ?_, fun z hz t ht => ?_, fun p hp => h5 p (List.mem_cons_of_mem _ hp), ?_⟩
      · show (s.map (·.1) ++ (d ++ [y])).Nodup
        rw [← List.append_assoc]
        have h2' : (y :: (s.map (·.1) ++ d)).Nodup := h2
        rw [List.nodup_cons] at h2'
        exact List.nodup_append.mpr ⟨h2'.2, by simp, fun a ha c hc => by rw [List.mem_singleton] at hc; subst hc; exact fun e => h2'.1 (e ▸ ha)⟩
      · show z ∈ b ↔ z ∈ s.map (·.1) ∨ z ∈ d ++ [y]
        rw [h3 z]
        simp only [List.mem_cons, List.mem_append, List.not_mem_nil, or_false]
        constructor
        · rintro ((h | h) | h)
          · exact .inr (.inr h)
          · exact .inl h
          · exact .inr (.inl h)
        · rintro (h | h | h)
          · exact .inl (.inr h)
          · exact .inr h
          · exact .inl (.inl h)
      · rcases List.mem_append.mp hz with hz | hz
        · exact h4 z hz t ht
        · rw [List.mem_singleton] at hz
          subst hz
          exact ((h5 (z, []) List.mem_cons_self).2 t ht).resolve_left (by simp)
      · cases s with
        | nil =>
          refine .inr ⟨rfl, ?_⟩
          rcases h6 with h6 | ⟨h6, _⟩
          · show (d ++ [y]).getLast? = some x
            rw [List.getLast?_append]
            simpa using h6
          · cases h6
        | cons q s =>
          refine .inl ?_
          rcases h6 with h6 | ⟨h6, _⟩
          · show (q :: s).getLast?.map (·.1) = some x
            rw [List.getLast?_cons_cons] at h6
            exact h6
          · cases h6
    | cons t r =>
      have hy := h5 (y, t :: r) List.mem_cons_self
      show Ok g x (if t ∈ b then ⟨b, (y, r) :: s, d⟩ else ⟨b ++ [t], (t, g t) :: (y, r) :: s, d⟩)
      split
      · rename_i hb
        refine ⟨h1, h2, h3, h4, fun p hp => ?_, ?_⟩
        · rcases List.mem_cons.mp hp with rfl | hp
          · refine ⟨fun u hu => hy.1 u (List.mem_cons_of_mem _ hu), fun u hu => ?_⟩
            rcases hy.2 u hu with z | z
            · rcases List.mem_cons.mp z with rfl | z
              · exact .inr hb
              · exact .inl z
            · exact .inr z
          · exact h5 p (List.mem_cons_of_mem _ hp)
        · rcases h6 with h6 | ⟨h6, _⟩
          · refine .inl ?_
            cases s with
            | nil => exact h6
            | cons q s => rw [List.getLast?_cons_cons] at h6 ⊢; exact h6
          · cases h6
      · rename_i hb
        have hn : ¬ (t = y ∨ t ∈ s.map (·.1)) ∧ t ∉ d := by
          have := fun z => hb ((h3 t).mpr z)
          simp only [List.mem_cons] at this
          exact ⟨fun z => this (.inl z), fun z => this (.inr z)⟩
        refine ⟨?_, ?_, fun z => ?_, fun z hz u hu => List.mem_append_left _ (h4 z hz u hu), fun p hp => ?_, ?_⟩
        · exact List.nodup_append.mpr ⟨h1, by simp, fun a ha c hc => by rw [List.mem_singleton] at hc; subst hc; exact fun e => hb (e ▸ ha)⟩
        · show (t :: (y :: s.map (·.1) ++ d)).Nodup
          rw [List.nodup_cons]
          refine ⟨fun z => ?_, h2⟩
          rcases List.mem_append.mp z with z | z
          · exact hn.1 (List.mem_cons.mp z)
          · exact hn.2 z
        · show z ∈ b ++ [t] ↔ z ∈ t :: y :: s.map (·.1) ∨ z ∈ d
          rw [List.mem_append, h3 z, List.mem_singleton, List.mem_cons (a := z) (b := t)]
          constructor
          · rintro ((h | h) | h)
            · exact .inl (.inr h)
            · exact .inr h
            · exact .inl (.inl h)
          · rintro ((h | h) | h)
            · exact .inr h
            · exact .inl (.inl h)
            · exact .inl (.inr h)
        · rcases List.mem_cons.mp hp with rfl | hp
          · exact ⟨fun u hu => hu, fun u hu => .inl hu⟩
          · rcases List.mem_cons.mp hp with rfl | hp
            · refine ⟨fun u hu => hy.1 u (List.mem_cons_of_mem _ hu), fun u hu => ?_⟩
              rcases hy.2 u hu with z | z
              · rcases List.mem_cons.mp z with rfl | z
                · exact .inr (List.mem_append_right _ (by simp))
                · exact .inl z
              · exact .inr (List.mem_append_left _ z)
            · obtain ⟨a1, a2⟩ := h5 p (List.mem_cons_of_mem _ hp)
              exact ⟨a1, fun u hu => (a2 u hu).imp id (List.mem_append_left _)⟩
        · rcases h6 with h6 | ⟨h6, _⟩
          · refine .inl ?_
            rw [List.getLast?_cons_cons]
            cases s with
            | nil => exact h6
            | cons q s => rw [List.getLast?_cons_cons] at h6 ⊢; exact h6
          · cases h6
theorem Ok.itr {g : Nat → List Nat} {x : Nat} {s : St} (h : Ok g x s) : ∀ k, Ok g x (itr g k s)
  | 0 => h
  | k + 1 => (Ok.itr h k).stp
theorem Ends.facts {g : Nat → List Nat} {x : Nat} {d : List Nat} (h : Ends g x d) : d.Nodup ∧ (∀ y ∈ d, ∀ t ∈ g y, t ∈ d) ∧ d.getLast? = some x := by
  obtain ⟨k, b, h⟩ := h
  have o := (Ok.begin g x).itr k
  rw [h] at o
  have e : ∀ y, y ∈ b ↔ y ∈ d := fun y => by have := o.eq y; simpa using this
  refine ⟨by simpa using o.nd, fun y hy t ht => (e t).mp (o.cl y hy t ht), ?_⟩
  rcases o.bot with z | ⟨_, z⟩
  · cases z
  · exact z
theorem Xe (N : Nat) (l : List Nat) (nd : l.Nodup) (h : ∀ x ∈ l, x < N) : l.length ≤ N := by
  have : l.length ≤ (List.range N).length := List.Nodup.length_le_of_subset nd (fun x hx => List.mem_range.mpr (h x hx))
  simpa using this
noncomputable def mea (N : Nat) (z : St) : Nat := 3 * (N - z.b.length) + (z.s.map fun p => p.2.length + 1).sum
theorem Zk4 {g : Nat → List Nat} {x N : Nat} {z : St} (ok : Ok g x z) (i : In (· < N) z) (two : ∀ y, (g y).length ≤ 2) (h : z.s ≠ []) : mea N (stp g z) < mea N z := by
  obtain ⟨b, s, d⟩ := z
  cases s with
  | nil => exact absurd rfl h
  | cons p s =>
    obtain ⟨y, r⟩ := p
    cases r with
    | nil => show mea N ⟨b, s, d ++ [y]⟩ < _; unfold mea; simp
    | cons t r =>
      show mea N (if t ∈ b then ⟨b, (y, r) :: s, d⟩ else ⟨b ++ [t], (t, g t) :: (y, r) :: s, d⟩) < _
      split
      · unfold mea; simp
      · rename_i hb
        have hl : (b ++ [t]).length ≤ N := Xe N (b ++ [t]) (List.nodup_append.mpr ⟨ok.nb, by simp, fun a ha c hc => by rw [List.mem_singleton] at hc; subst hc; exact fun e => hb (e ▸ ha)⟩) fun u hu => by
          rcases List.mem_append.mp hu with hu | hu
          · exact i.b u hu
          · rw [List.mem_singleton] at hu; subst hu; exact (i.s (y, u :: r) List.mem_cons_self).2 u List.mem_cons_self
        rw [List.length_append, List.length_singleton] at hl
        have := two t
        unfold mea
        simp only [List.length_append, List.length_singleton, List.map_cons, List.sum_cons, List.length_cons]
        omega
theorem Nt {l : List Nat} (nd : l.Nodup) {i : Nat} (h : i < l.length) : l.idxOf l[i] = i := nd.idxOf_getElem i h
theorem Sc {g g' : Nat → List Nat} {x : Nat} {d : List Nat} (h : Ends g x d) (hg : ∀ i (hi : i < d.reverse.length), g' i = (g d.reverse[i]).map d.reverse.idxOf) : Ends g' 0 (List.range d.length).reverse := by
  obtain ⟨nd, cl, last⟩ := h.facts
  have nr : d.reverse.Nodup := by first | exact List.pairwise_reverse.mpr (nd.imp fun h => Ne.symm h) | exact nd.reverse
  have hxd : x ∈ d := List.mem_of_getLast? last
  have get : ∀ y ∈ d, ∃ (hy : d.reverse.idxOf y < d.reverse.length), d.reverse[d.reverse.idxOf y] = y := fun y hy =>
    ⟨List.idxOf_lt_length_of_mem (List.mem_reverse.mpr hy), List.getElem_idxOf _⟩
  have h0 : d.reverse.idxOf x = 0 := by
    have e : d.reverse.head? = some x := by rw [List.head?_reverse]; exact last
    cases hr : d.reverse with
    | nil => rw [hr] at e; cases e
    | cons a r => rw [hr] at e; cases e; simp
  have key := Ends.map (g' := g') (S := (· ∈ d)) (π := d.reverse.idxOf) cl
    (fun a b ha hb e => by
      obtain ⟨p1, q1⟩ := get a ha
      obtain ⟨p2, q2⟩ := get b hb
      rw [← q1, ← q2]
      congr 1)
    (fun y hy => by
      obtain ⟨p1, q1⟩ := get y hy
      rw [hg _ p1, q1]) hxd h
  rw [h0] at key
  have e : d.map d.reverse.idxOf = (List.range d.length).reverse := by
    rw [← List.reverse_reverse (d.map _)]
    congr 1
    rw [← List.map_reverse]
    apply List.ext_getElem (by simp)
    intro i h1 h2
    rw [List.getElem_map, List.getElem_range, Nt nr]
  rw [e] at key
  exact key
end ND
namespace LN
inductive Orb (J : Nat → Option Nat) : Nat → Nat → Prop
  | refl (p : Nat) : Orb J p p
  | step {p q r : Nat} : J p = some q → Orb J q r → Orb J p r
theorem Orb.trans {J : Nat → Option Nat} {p q r : Nat} (h : Orb J p q) (g : Orb J q r) : Orb J p r := by
  induction h with
  | refl _ => exact g
  | step e _ ih => exact .step e (ih g)
def Ln (J : Nat → Option Nat) (n : Nat) (m : Nat → Option Nat) : Prop := ∀ p g, m p = some g → p < n ∧ (J p = none → g = p) ∧ (∀ q, J p = some q → m q = some g) ∧ Orb J p g
def Lk (J : Nat → Option Nat) : Nat → List Nat → Nat → Prop
  | s, [], p => s = p
  | s, x :: r, p => s = x ∧ ∃ q, J x = some q ∧ Lk J q r p
theorem Lk.snoc {J : Nat → Option Nat} {p q : Nat} (e : J p = some q) : ∀ {s : Nat} {P : List Nat}, Lk J s P p → Lk J s (P ++ [p]) q
  | s, [], h => ⟨h, q, e, rfl⟩
  | s, x :: r, ⟨h1, t, h2, h3⟩ => ⟨h1, t, h2, Lk.snoc e h3⟩
theorem Lk.next {J : Nat → Option Nat} : ∀ {s p : Nat} {P : List Nat}, Lk J s P p → ∀ x ∈ P, ∃ q, J x = some q ∧ (q ∈ P ∨ q = p) ∧ Orb J x p
  | s, p, [], h, x, hx => by cases hx
  | s, p, y :: r, h, x, hx => by
    obtain ⟨rfl, t, h2, h3⟩ := h
    have ho : Orb J t p := by
      cases r with
      | nil => rw [show t = p from h3]; exact .refl _
      | cons z r =>
        obtain ⟨_, _, _, h⟩ := Lk.next h3 z List.mem_cons_self
        rw [h3.1]; exact h
    rcases List.mem_cons.mp hx with rfl | hx
    · refine ⟨t, h2, ?_, .step h2 ho⟩
      cases r with
      | nil => exact .inr h3
      | cons z r => exact .inl (List.mem_cons_of_mem _ (by rw [h3.1]; exact List.mem_cons_self))
    · obtain ⟨q, a1, a2, a3⟩ := Lk.next h3 x hx
      exact ⟨q, a1, a2.imp (List.mem_cons_of_mem _) id, a3⟩
noncomputable def land (m : Nat → Option Nat) (P : List Nat) (p g : Nat) : Nat → Option Nat := fun x => if x ∈ P then some g else if x = p then some g else m x
theorem Ln.land {J : Nat → Option Nat} {n s p : Nat} {m : Nat → Option Nat} {P : List Nat} (h : Ln J n m) (k : Lk J s P p) (hn : ∀ x ∈ P, x < n ∧ m x = none) (hp : p < n)
    (stop : (m p).isSome = true ∨ p ∈ P ∨ J p = none) : Ln J n (land m P p ((m p).getD p)) ∧ (land m P p ((m p).getD p) s).isSome = true ∧ ∀ x, (m x).isSome = true → (land m P p ((m p).getD p) x).isSome = true := by
  have og : Orb J p ((m p).getD p) := by
    cases e : m p with
    | none => exact .refl _
    | some g => exact (h p g e).2.2.2
  refine ⟨fun x g hx => ?_, ?_, fun x hx => ?_⟩
  · unfold LN.land at hx
    split at hx
    · rename_i hP
      cases hx
      obtain ⟨q, a1, a2, a3⟩ := k.next x hP
      refine ⟨(hn x hP).1, fun z => (by rw [a1] at z; cases z), fun q' hq => ?_, a3.trans og⟩
      rw [a1] at hq
      cases hq
      unfold LN.land
      rcases a2 with a2 | a2
      · rw [if_pos a2]
      · split
        · rfl
        · first | rfl | rw [if_pos a2]
    · rename_i hP
      split at hx
      · rename_i ex
        subst ex
        cases hx
        refine ⟨hp, fun z => ?_, fun q hq => ?_, og⟩
        · cases e : m x with
          | none => rfl
          | some g => exact (h x g e).2.1 z
        · cases e : m x with
          | none =>
            rcases stop with z | z | z
            · rw [e] at z; cases z
            · exact absurd z hP
            · rw [hq] at z; cases z
          | some g =>
            have := (h x g e).2.2.1 q hq
            unfold LN.land
            show (if q ∈ P then some g else if q = x then some g else m q) = some g
            split
            · rfl
            · split
              · rfl
              · exact this
      · rename_i ex
        obtain ⟨b1, b2, b3, b4⟩ := h x g hx
        refine ⟨b1, b2, fun q hq => ?_, b4⟩
        have hm := b3 q hq
        unfold LN.land
        split
        · rename_i hqP
          rw [(hn q hqP).2] at hm
          cases hm
        · split
          · rename_i eq
            subst eq
            rw [hm]; rfl
          · exact hm
  · unfold LN.land
    cases P with
    | nil => rw [if_neg (by simp), if_pos (show s = p from k)]; rfl
    | cons y r => rw [if_pos (by rw [k.1]; exact List.mem_cons_self)]; rfl
  · unfold LN.land
    split
    · rfl
    · split
      · rfl
      · exact hx
end LN
namespace K15
open PySem PySem.Spec PyProof.Rows L2 L3 U
noncomputable def top (i : Nat) : Stmt := PySem.Challenge.pw_unjump_k15_whole_laid_out_again.main.body.getD i (.Pass ⟨0, 0, 0, 0⟩)
noncomputable def FN : List Str := ["ways", "with_ways", "walked", "numbered", "landings", "linked", "graph_of", "needs_jump", "first_numbers", "rows_of_node", "laid_out", "_law_draws", "_law_next", "_law_names", "_law_great", "_law_operand", "_law_row", "_law_rows", "_law_far", "_law_near", "_law_node", "_law_goals", "_law_order", "_law_graph", "_law_drawn", "_law_alike", "law"]
noncomputable def GN : List Str := ["MOST_NODES"]
noncomputable def BN : List Str := ["tuple", "list", "dict", "enumerate", "range", "len", "max", "min", "isinstance", "str", "int", "bool"]
noncomputable abbrev S3 : Stmt := top 4
noncomputable def Jt : List Str := ["node"]
theorem Zj1 : FnScope Jt ["node"] (Z3 S3) := ⟨rfl, rfl, rfl, by decide +kernel, rfl, by decide +kernel, by decide +kernel⟩
noncomputable def O9 : Ss :=
  (.cons (.ret (.tup .nil))
  .nil)
noncomputable def Sh : Ss :=
  (.cons (.ite (.cmp .eq (.ix (.var 0) (.int 0)) (.str "test")) (.cons (.ret (.tup (.cons (.ix (.var 0) (.int 4)) (.cons (.ix (.var 0) (.int 5)) .nil))))
  .nil) .nil)
  O9)
noncomputable def b_ways : Ss :=
  (.cons (.ite (.cmp .eq (.ix (.var 0) (.int 0)) (.str "sum")) (.cons (.ret (.tup (.cons (.ix (.var 0) (.int 5)) .nil)))
  .nil) .nil)
  Sh)
theorem Zp5 : Ym (ck0 Jt S3 FN GN BN) b_ways (Z5 S3) = true := by decide +kernel
noncomputable abbrev Yn : Stmt := top 5
noncomputable def Ws : List Str := ["node", "goals"]
theorem Of : FnScope Ws ["node", "goals"] (Z3 Yn) := ⟨rfl, rfl, rfl, by decide +kernel, rfl, by decide +kernel, by decide +kernel⟩
noncomputable def Wo : Ss :=
  (.cons (.ret (.var 0))
  .nil)
noncomputable def Xl : Ss :=
  (.cons (.ite (.cmp .eq (.ix (.var 0) (.int 0)) (.str "test")) (.cons (.ret (.bin .add (.sl (.var 0) .no (.yes (.int 4))) (.bf .tuple1 (.cons (.var 1) .nil))))
  .nil) .nil)
  Wo)
noncomputable def b_with_ways : Ss :=
  (.cons (.ite (.cmp .eq (.ix (.var 0) (.int 0)) (.str "sum")) (.cons (.ret (.bin .add (.sl (.var 0) .no (.yes (.int 5))) (.bf .tuple1 (.cons (.var 1) .nil))))
  .nil) .nil)
  Xl)
theorem Nx : Ym (ck0 Ws Yn FN GN BN) b_with_ways (Z5 Yn) = true := by decide +kernel
noncomputable abbrev W1 : Stmt := top 6
noncomputable def Sv : List Str := ["goals", "starts", "begun", "finished", "start", "opened", "place", "left", "goal"]
theorem Z17 : FnScope Sv ["goals", "starts"] (Z3 W1) := ⟨rfl, rfl, rfl, by decide +kernel, rfl, by decide +kernel, by decide +kernel⟩
noncomputable def Q9 : Ss :=
  (.cons (.expr (.mt .reverse (.var 3) .nil))
  (.cons (.ret (.var 3))
  .nil))
noncomputable def Tg : Ss :=
  (.cons (.set [6, 7] (.ix (.var 5) (.neg (.int 1))))
  (.cons (.ite (.cmp .eq (.var 7) (.lst .nil)) (.cons (.expr (.mt .append (.var 3) (.cons (.var 6) .nil)))
  (.cons (.expr (.mt .pop0 (.var 5) .nil))
  .nil)) (.cons (.set [8] (.mt .pop0 (.var 7) .nil))
  (.cons (.ite (.cmp .notin (.var 8) (.var 2)) (.cons (.put (.var 2) (.var 8) (.bl true))
  (.cons (.expr (.mt .append (.var 5) (.cons (.tup (.cons (.var 8) (.cons (.bf .list1 (.cons (.ix (.var 0) (.var 8)) .nil)) .nil))) .nil)))
  .nil)) .nil)
  .nil)))
  .nil))
noncomputable def Qk : Ss :=
  (.cons (.while_ (.var 5) Tg)
  .nil)
noncomputable def Qo : Ss :=
  (.cons (.set [5] (.lst .nil))
  (.cons (.ite (.cmp .notin (.var 4) (.var 2)) (.cons (.put (.var 2) (.var 4) (.bl true))
  (.cons (.expr (.mt .append (.var 5) (.cons (.tup (.cons (.var 4) (.cons (.bf .list1 (.cons (.ix (.var 0) (.var 4)) .nil)) .nil))) .nil)))
  .nil)) .nil)
  Qk))
noncomputable def b_walked : Ss :=
  (.cons (.set [2] .dict0)
  (.cons (.set [3] (.lst .nil))
  (.cons (.for_ [4] (.seq (.var 1)) Qo)
  Q9)))
theorem Zc1 : Ym (ck0 Sv W1 FN GN BN) b_walked (Z5 W1) = true := by decide +kernel
noncomputable abbrev Yz : Stmt := top 7
noncomputable def Vj : List Str := ["nodes", "order", "numbers"]
theorem Nz : FnScope Vj ["nodes", "order"] (Z3 Yz) := ⟨rfl, rfl, rfl, by decide +kernel, rfl, by decide +kernel, by decide +kernel⟩
noncomputable def b_numbered : Ss :=
  (.cons (.set [2] (.bf .dict1 (.cons (.comp ["number", "place"] [none, none] [0, 1] (.enm (.var 1)) .no (.tup (.cons (.var 1) (.cons (.var 0) .nil)))) .nil)))
  (.cons (.ret (.comp ["place", "nodes", "numbers"] [none, (some 0), (some 2)] [0] (.seq (.var 1)) .no (.call 1 (.cons (.ix (.var 1) (.var 0)) (.cons (.comp ["goal", "numbers"] [none, (some 2)] [0] (.seq (.call 0 (.cons (.ix (.var 1) (.var 0)) .nil))) .no (.ix (.var 1) (.var 0))) .nil)))))
  .nil))
theorem Fy : Ym (ck0 Vj Yz FN GN BN) b_numbered (Z5 Yz) = true := by decide +kernel
noncomputable abbrev X4 : Stmt := top 12
noncomputable def Vb : List Str := ["rows", "places", "landed", "start", "passed", "place", "goal", "jump"]
theorem Ny : FnScope Vb ["rows", "places"] (Z3 X4) := ⟨rfl, rfl, rfl, by decide +kernel, rfl, by decide +kernel, by decide +kernel⟩
noncomputable def S8 : Ss :=
  (.cons (.ret (.var 2))
  .nil)
noncomputable def Tv : Ss :=
  (.cons (.put (.var 2) (.var 7) (.var 6))
  .nil)
noncomputable def V6 : Ss :=
  (.cons (.set [6] (.mt .get2 (.var 2) (.cons (.var 5) (.cons (.var 5) .nil))))
  (.cons (.put (.var 2) (.var 5) (.var 6))
  (.cons (.forK [7] (.var 4) Tv)
  .nil)))
noncomputable def S5 : Ss :=
  (.cons (.put (.var 4) (.var 5) (.bl true))
  (.cons (.set [5] (.ix (.var 1) (.ix (.ix (.var 0) (.var 5)) (.int 2))))
  .nil))
noncomputable def Tw : Ss :=
  (.cons (.set [4] .dict0)
  (.cons (.set [5] (.var 3))
  (.cons (.while_ (.bop true (.cons (.cmp .notin (.var 5) (.var 2)) (.cons (.cmp .notin (.var 5) (.var 4)) (.cons (.cmp .eq (.ix (.ix (.var 0) (.var 5)) (.int 1)) (.str "jump")) .nil)))) S5)
  V6)))
noncomputable def b_landings : Ss :=
  (.cons (.set [2] .dict0)
  (.cons (.for_ [3] (.rng1 (.bf .len (.cons (.var 0) .nil))) Tw)
  S8))
theorem Fw : Ym (ck0 Vb X4 FN GN BN) b_landings (Z5 X4) = true := by decide +kernel
noncomputable abbrev W5 : Stmt := top 11
noncomputable def Sj : List Str := ["rows", "places", "landed", "nodes", "place", "row"]
theorem B3 : FnScope Sj ["rows"] (Z3 W5) := ⟨rfl, rfl, rfl, by decide +kernel, rfl, by decide +kernel, by decide +kernel⟩
noncomputable def Qf : Ss :=
  (.cons (.ret (.tup (.cons (.var 3) (.cons (.ix (.var 2) (.int 0)) .nil))))
  .nil)
noncomputable def Q4 : Ss :=
  (.cons (.ite (.cmp .eq (.ix (.var 5) (.int 1)) (.str "sum")) (.cons (.expr (.mt .append (.var 3) (.cons (.bin .add (.sl (.var 5) (.yes (.int 1)) .no) (.tup (.cons (.ix (.var 2) (.bin .add (.var 4) (.int 1))) .nil))) .nil)))
  .nil) (.cons (.ite (.cmp .eq (.ix (.var 5) (.int 1)) (.str "test")) (.cons (.expr (.mt .append (.var 3) (.cons (.bin .add (.sl (.var 5) (.yes (.int 1)) (.yes (.int 5))) (.tup (.cons (.ix (.var 2) (.ix (.var 1) (.ix (.var 5) (.int 5)))) (.cons (.ix (.var 2) (.bin .add (.var 4) (.int 1))) .nil)))) .nil)))
  .nil) (.cons (.ite (.cmp .eq (.ix (.var 5) (.int 1)) (.str "end")) (.cons (.expr (.mt .append (.var 3) (.cons (.tup (.cons (.str "end") .nil)) .nil)))
  .nil) (.cons (.expr (.mt .append (.var 3) (.cons (.tup (.cons (.str "spin") .nil)) .nil)))
  .nil))
  .nil))
  .nil))
  .nil)
noncomputable def b_linked : Ss :=
  (.cons (.set [1] (.bf .dict1 (.cons (.comp ["place", "row"] [none, none] [0, 1] (.enm (.var 0)) .no (.tup (.cons (.ix (.var 1) (.int 0)) (.cons (.var 0) .nil)))) .nil)))
  (.cons (.set [2] (.call 4 (.cons (.var 0) (.cons (.var 1) .nil))))
  (.cons (.set [3] (.lst .nil))
  (.cons (.for_ [4, 5] (.enm (.var 0)) Q4)
  Qf))))
theorem Z66 : Ym (ck0 Sj W5 FN GN BN) b_linked (Z5 W5) = true := by decide +kernel
noncomputable abbrev Yw : Stmt := top 10
noncomputable def Ve : List Str := ["rows", "nodes", "start", "order"]
theorem Jk : FnScope Ve ["rows"] (Z3 Yw) := ⟨rfl, rfl, rfl, by decide +kernel, rfl, by decide +kernel, by decide +kernel⟩
noncomputable def Tu : Ss :=
  (.cons (.ret (.call 3 (.cons (.var 1) (.cons (.var 3) .nil))))
  .nil)
noncomputable def b_graph_of : Ss :=
  (.cons (.set [1, 2] (.call 5 (.cons (.var 0) .nil)))
  (.cons (.set [3] (.call 2 (.cons (.comp ["node"] [none] [0] (.seq (.var 1)) .no (.call 0 (.cons (.var 0) .nil))) (.cons (.lst (.cons (.var 2) .nil)) .nil))))
  (.cons (.ite (.cmp .gt (.bf .len (.cons (.var 3) .nil)) (.glb 0)) (.cons .never
  .nil) .nil)
  Tu)))
theorem Ea : Ym (ck0 Ve Yw FN GN BN) b_graph_of (Z5 Yw) = true := by decide +kernel
noncomputable abbrev Ye : Stmt := top 15
noncomputable def W2 : List Str := ["node", "place", "goals"]
theorem Pg : FnScope W2 ["node", "place"] (Z3 Ye) := ⟨rfl, rfl, rfl, by decide +kernel, rfl, by decide +kernel, by decide +kernel⟩
noncomputable def b_needs_jump : Ss :=
  (.cons (.set [2] (.call 0 (.cons (.var 0) .nil)))
  (.cons (.ret (.bop true (.cons (.cmp .ne (.var 2) (.tup .nil)) (.cons (.cmp .ne (.ix (.var 2) (.neg (.int 1))) (.bin .add (.var 1) (.int 1))) .nil))))
  .nil))
theorem Ot : Ym (ck0 W2 Ye FN GN BN) b_needs_jump (Z5 Ye) = true := by decide +kernel
noncomputable abbrev Zq : Stmt := top 14
noncomputable def X8 : List Str := ["graph", "numbers", "number", "place", "node"]
theorem Sd : FnScope X8 ["graph"] (Z3 Zq) := ⟨rfl, rfl, rfl, by decide +kernel, rfl, by decide +kernel, by decide +kernel⟩
noncomputable def Wf : Ss :=
  (.cons (.ret (.var 1))
  .nil)
noncomputable def Wh : Ss :=
  (.cons (.expr (.mt .append (.var 1) (.cons (.var 2) .nil)))
  (.cons (.aug .add 2 (.ife (.call 7 (.cons (.var 4) (.cons (.var 3) .nil))) (.int 2) (.int 1)))
  .nil))
noncomputable def b_first_numbers : Ss :=
  (.cons (.set [1] (.lst .nil))
  (.cons (.set [2] (.int 0))
  (.cons (.for_ [3, 4] (.enm (.var 0)) Wh)
  Wf)))
theorem R0 : Ym (ck0 X8 Zq FN GN BN) b_first_numbers (Z5 Zq) = true := by decide +kernel
noncomputable abbrev Zx : Stmt := top 16
noncomputable def Xb : List Str := ["node", "place", "numbers", "number", "rows"]
theorem Ro : FnScope Xb ["node", "place", "numbers"] (Z3 Zx) := ⟨rfl, rfl, rfl, by decide +kernel, rfl, by decide +kernel, by decide +kernel⟩
noncomputable def Xi : Ss :=
  (.cons (.ret (.var 4))
  .nil)
noncomputable def Xh : Ss :=
  (.cons (.ite (.call 7 (.cons (.var 0) (.cons (.var 1) .nil))) (.cons (.expr (.mt .append (.var 4) (.cons (.tup (.cons (.bin .add (.var 3) (.int 1)) (.cons (.str "jump") (.cons (.ix (.var 2) (.ix (.call 0 (.cons (.var 0) .nil)) (.neg (.int 1)))) .nil)))) .nil)))
  .nil) .nil)
  Xi)
noncomputable def Xf : Ss :=
  (.cons (.ite (.cmp .eq (.ix (.var 0) (.int 0)) (.str "sum")) (.cons (.set [4] (.lst (.cons (.bin .add (.tup (.cons (.var 3) .nil)) (.sl (.var 0) .no (.yes (.int 5)))) .nil)))
  .nil) (.cons (.set [4] (.lst (.cons (.bin .add (.bin .add (.tup (.cons (.var 3) .nil)) (.sl (.var 0) .no (.yes (.int 4)))) (.tup (.cons (.ix (.var 2) (.ix (.var 0) (.int 4))) .nil))) .nil)))
  .nil))
  Xh)
noncomputable def Ys : Ss :=
  (.cons (.ite (.cmp .eq (.ix (.var 0) (.int 0)) (.str "spin")) (.cons (.ret (.lst (.cons (.tup (.cons (.var 3) (.cons (.str "jump") (.cons (.var 3) .nil)))) .nil)))
  .nil) .nil)
  Xf)
noncomputable def b_rows_of_node : Ss :=
  (.cons (.set [3] (.ix (.var 2) (.var 1)))
  (.cons (.ite (.cmp .eq (.ix (.var 0) (.int 0)) (.str "end")) (.cons (.ret (.lst (.cons (.tup (.cons (.var 3) (.cons (.str "end") .nil))) .nil)))
  .nil) .nil)
  Ys))
theorem Q3 : Ym (ck0 Xb Zx FN GN BN) b_rows_of_node (Z5 Zx) = true := by decide +kernel
noncomputable abbrev Yv : Stmt := top 13
noncomputable def Vk : List Str := ["graph", "numbers", "rows", "place", "node"]
theorem J7 : FnScope Vk ["graph"] (Z3 Yv) := ⟨rfl, rfl, rfl, by decide +kernel, rfl, by decide +kernel, by decide +kernel⟩
noncomputable def S6 : Ss :=
  (.cons (.ret (.var 2))
  .nil)
noncomputable def S9 : Ss :=
  (.cons (.expr (.mt .extend (.var 2) (.cons (.call 9 (.cons (.var 4) (.cons (.var 3) (.cons (.var 1) .nil)))) .nil)))
  .nil)
noncomputable def b_laid_out : Ss :=
  (.cons (.set [1] (.call 8 (.cons (.var 0) .nil)))
  (.cons (.set [2] (.lst .nil))
  (.cons (.for_ [3, 4] (.enm (.var 0)) S9)
  S6)))
theorem Fk : Ym (ck0 Vk Yv FN GN BN) b_laid_out (Z5 Yv) = true := by decide +kernel
noncomputable abbrev W8 : Stmt := top 18
noncomputable def Sr : List Str := ["_law_script", "_law_cells", "_law_by_digits", "_law_left", "_law_found", "_law_k", "_law_at", "_law_number"]
theorem Z22 : FnScope Sr ["_law_script"] (Z3 W8) := ⟨rfl, rfl, rfl, by decide +kernel, rfl, by decide +kernel, by decide +kernel⟩
noncomputable def Q6 : Ss :=
  (.cons (.ret (.rev (.var 4)))
  .nil)
noncomputable def Vn : Ss :=
  (.cons (.expr (.mt .append (.var 4) (.cons (.var 7) .nil)))
  .nil)
noncomputable def Qg : Ss :=
  (.cons (.set [6] (.bin .mod (.var 5) (.bf .len (.cons (.var 1) .nil))))
  (.cons (.set [7] (.bin .mod (.ix (.var 3) (.var 6)) (.int 2147483629)))
  (.cons (.ite (.bop true (.cons (.var 2) (.cons (.cmp .notin (.ix (.var 3) (.var 6)) (.lst (.cons (.int 0) (.cons (.neg (.int 1)) .nil)))) .nil))) (.cons (.put (.var 3) (.var 6) (.bin .fdiv (.ix (.var 3) (.var 6)) (.int 2147483629)))
  .nil) (.cons (.set [7] (.bin .mod (.bin .add (.bin .add (.bin .mul (.bin .mod (.ix (.var 1) (.var 6)) (.int 2147483629)) (.int 48271)) (.bin .mul (.bin .mul (.int 7919) (.var 5)) (.var 5))) (.int 104729)) (.int 2147483647)))
  (.cons (.set [7] (.bin .mod (.bin .mul (.var 7) (.var 7)) (.int 2147483629)))
  (.cons (.set [7] (.bin .mod (.bin .mul (.bin .mod (.bin .add (.bin .mul (.var 7) (.int 69621)) (.bin .mul (.int 3571) (.var 5))) (.int 2147483563)) (.var 7)) (.int 2147483629)))
  .nil))))
  Vn)))
noncomputable def b_Ldraws : Ss :=
  (.cons (.set [1] (.sl (.bin .add (.bf .list1 (.cons (.sl (.var 0) .no (.yes (.int 63))) .nil)) (.lst (.cons (.int 0) .nil))) .no (.yes (.bf .max2 (.cons (.int 1) (.cons (.bf .min2 (.cons (.bf .len (.cons (.var 0) .nil)) (.cons (.int 63) .nil))) .nil))))))
  (.cons (.set [2] (.cmp .eq (.bin .mod (.ix (.var 1) (.int 0)) (.int 2)) (.int 1)))
  (.cons (.put (.var 1) (.int 0) (.bin .fdiv (.ix (.var 1) (.int 0)) (.int 2)))
  (.cons (.set [3] (.bf .list1 (.cons (.var 1) .nil)))
  (.cons (.set [4] (.lst .nil))
  (.cons (.for_ [5] (.rng1 (.int 900)) Qg)
  Q6))))))
theorem Z97 : Ym (ck0 Sr W8 FN GN BN) b_Ldraws (Z5 W8) = true := by decide +kernel
noncomputable abbrev V0 : Stmt := top 19
noncomputable def Qx : List Str := ["_law_drawn_here"]
theorem Z73 : FnScope Qx ["_law_drawn_here"] (Z3 V0) := ⟨rfl, rfl, rfl, by decide +kernel, rfl, by decide +kernel, by decide +kernel⟩
noncomputable def N3 : Ss :=
  (.cons (.ret (.mt .pop0 (.var 0) .nil))
  .nil)
noncomputable def b_Lnext : Ss :=
  (.cons (.ite (.cmp .eq (.var 0) (.lst .nil)) (.cons (.ret (.int 0))
  .nil) .nil)
  N3)
theorem Zm9 : Ym (ck0 Qx V0 FN GN BN) b_Lnext (Z5 V0) = true := by decide +kernel
noncomputable abbrev W6 : Stmt := top 20
noncomputable def Sl : List Str := ["_law_number", "_law_some"]
theorem Z40 : FnScope Sl ["_law_number"] (Z3 W6) := ⟨rfl, rfl, rfl, by decide +kernel, rfl, by decide +kernel, by decide +kernel⟩
noncomputable def b_Lnames : Ss :=
  (.cons (.set [1] (.lst (.cons (.lst (.cons (.str "x") (.cons (.str "y") (.cons (.str "z") (.cons (.str "w") .nil))))) (.cons (.lst (.cons (.str "ab") (.cons (.str "aa") (.cons (.str "bb") (.cons (.str "ba") .nil))))) (.cons (.lst (.cons (.str "q1") (.cons (.str "q") (.cons (.str "q11") (.cons (.str "q2") .nil))))) .nil)))))
  (.cons (.expr (.mt .append (.var 1) (.cons (.lst (.cons (.str "sum1aaaa") (.cons (.str "sum1aaab") (.cons (.str "sum2aaaa") (.cons (.str "tum1aaaa") .nil))))) .nil)))
  (.cons (.ret (.ix (.var 1) (.bin .mod (.var 0) (.int 4))))
  .nil)))
theorem Z83 : Ym (ck0 Sl W6 FN GN BN) b_Lnames (Z5 W6) = true := by decide +kernel
noncomputable abbrev W0 : Stmt := top 21
noncomputable def So : List Str := ["_law_drawn_here", "_law_number"]
theorem B0 : FnScope So ["_law_drawn_here"] (Z3 W0) := ⟨rfl, rfl, rfl, by decide +kernel, rfl, by decide +kernel, by decide +kernel⟩
noncomputable def b_Lgreat : Ss :=
  (.cons (.set [1] (.bin .mul (.call 12 (.cons (.var 0) .nil)) (.int 2147483629)))
  (.cons (.ret (.bin .sub (.bin .mod (.bin .add (.var 1) (.call 12 (.cons (.var 0) .nil))) (.bin .add (.bin .mul (.int 2) (.bin .pow (.int 10) (.int 18))) (.int 1))) (.bin .pow (.int 10) (.int 18))))
  .nil))
theorem Z68 : Ym (ck0 So W0 FN GN BN) b_Lgreat (Z5 W0) = true := by decide +kernel
noncomputable abbrev Yx : Stmt := top 22
noncomputable def Vl : List Str := ["_law_drawn_here", "_law_names_here", "_law_way"]
theorem Jb : FnScope Vl ["_law_drawn_here", "_law_names_here"] (Z3 Yx) := ⟨rfl, rfl, rfl, by decide +kernel, rfl, by decide +kernel, by decide +kernel⟩
noncomputable def Tz : Ss :=
  (.cons (.ret (.ix (.var 1) (.bin .mod (.call 12 (.cons (.var 0) .nil)) (.int 4))))
  .nil)
noncomputable def S4 : Ss :=
  (.cons (.ite (.cmp .lt (.var 2) (.int 3)) (.cons (.ret (.bin .sub (.bin .mod (.call 12 (.cons (.var 0) .nil)) (.int 9)) (.int 3)))
  .nil) .nil)
  Tz)
noncomputable def b_Loperand : Ss :=
  (.cons (.set [2] (.bin .mod (.call 12 (.cons (.var 0) .nil)) (.int 8)))
  (.cons (.ite (.cmp .eq (.var 2) (.int 0)) (.cons (.ret (.call 14 (.cons (.var 0) .nil)))
  .nil) .nil)
  S4))
theorem E6 : Ym (ck0 Vl Yx FN GN BN) b_Loperand (Z5 Yx) = true := by decide +kernel
noncomputable abbrev Sb : Stmt := top 23
noncomputable def Gj : List Str := ["_law_drawn_here", "_law_k", "_law_numbers", "_law_names_here", "_law_kind", "_law_one", "_law_other", "_law_sign"]
theorem Zh3 : FnScope Gj ["_law_drawn_here", "_law_k", "_law_numbers", "_law_names_here"] (Z3 Sb) := ⟨rfl, rfl, rfl, by decide +kernel, rfl, by decide +kernel, by decide +kernel⟩
noncomputable def Gg : Ss :=
  (.cons (.set [7] (.ix (.lst (.cons (.str "<") (.cons (.str "=") .nil))) (.bin .mod (.call 12 (.cons (.var 0) .nil)) (.int 2))))
  (.cons (.ret (.tup (.cons (.ix (.var 2) (.var 1)) (.cons (.str "test") (.cons (.var 5) (.cons (.var 7) (.cons (.var 6) (.cons (.ix (.var 2) (.bin .mod (.call 12 (.cons (.var 0) .nil)) (.bf .len (.cons (.var 2) .nil)))) .nil))))))))
  .nil))
noncomputable def G0 : Ss :=
  (.cons (.set [5] (.call 15 (.cons (.var 0) (.cons (.var 3) .nil))))
  (.cons (.set [6] (.call 15 (.cons (.var 0) (.cons (.var 3) .nil))))
  (.cons (.ite (.cmp .lt (.var 4) (.int 7)) (.cons (.set [7] (.ix (.lst (.cons (.str "+") (.cons (.str "-") (.cons (.str "/") (.cons (.str "rest") (.cons (.str "&") (.cons (.str "^") .nil))))))) (.bin .mod (.call 12 (.cons (.var 0) .nil)) (.int 6))))
  (.cons (.ret (.tup (.cons (.ix (.var 2) (.var 1)) (.cons (.str "sum") (.cons (.ix (.var 3) (.bin .mod (.call 12 (.cons (.var 0) .nil)) (.int 4))) (.cons (.var 5) (.cons (.var 7) (.cons (.var 6) .nil))))))))
  .nil)) .nil)
  Gg)))
noncomputable def Gn : Ss :=
  (.cons (.ite (.cmp .gt (.var 4) (.int 11)) (.cons (.ret (.tup (.cons (.ix (.var 2) (.var 1)) (.cons (.str "jump") (.cons (.ix (.var 2) (.bin .mod (.call 12 (.cons (.var 0) .nil)) (.bf .len (.cons (.var 2) .nil)))) .nil)))))
  .nil) .nil)
  G0)
noncomputable def b_Lrow : Ss :=
  (.cons (.set [4] (.bin .mod (.call 12 (.cons (.var 0) .nil)) (.int 16)))
  (.cons (.ite (.cmp .eq (.var 4) (.int 15)) (.cons (.ret (.tup (.cons (.ix (.var 2) (.var 1)) (.cons (.str "end") .nil))))
  .nil) .nil)
  Gn))
theorem Zx6 : Ym (ck0 Gj Sb FN GN BN) b_Lrow (Z5 Sb) = true := by decide +kernel
noncomputable abbrev V4 : Stmt := top 24
noncomputable def O6 : List Str := ["_law_drawn_here", "_law_names_here", "_law_most", "_law_many", "_law_step", "_law_numbers", "_law_k", "_law_rows_here"]
theorem Z53 : FnScope O6 ["_law_drawn_here", "_law_names_here", "_law_most"] (Z3 V4) := ⟨rfl, rfl, rfl, by decide +kernel, rfl, by decide +kernel, by decide +kernel⟩
noncomputable def Sx : Ss :=
  (.cons (.ret (.var 7))
  .nil)
noncomputable def N4 : Ss :=
  (.cons (.set [7] (.comp ["_law_k", "_law_drawn_here", "_law_numbers", "_law_names_here"] [none, (some 0), (some 5), (some 1)] [0] (.rng1 (.var 3)) .no (.call 16 (.cons (.var 1) (.cons (.var 0) (.cons (.var 2) (.cons (.var 3) .nil)))))))
  (.cons (.ite (.cmp .eq (.bin .mod (.call 12 (.cons (.var 0) .nil)) (.int 3)) (.int 0)) (.cons (.expr (.mt .append (.var 7) (.cons (.tup (.cons (.ix (.var 5) (.neg (.int 1))) (.cons (.str "jump") (.cons (.ix (.var 5) (.bin .mod (.call 12 (.cons (.var 0) .nil)) (.bf .len (.cons (.var 5) .nil)))) .nil)))) .nil)))
  .nil) (.cons (.expr (.mt .append (.var 7) (.cons (.tup (.cons (.ix (.var 5) (.neg (.int 1))) (.cons (.str "end") .nil))) .nil)))
  .nil))
  Sx))
noncomputable def Nl : Ss :=
  (.cons (.expr (.mt .append (.var 5) (.cons (.bin .add (.bin .add (.ix (.var 5) (.var 6)) (.int 1)) (.bin .mod (.call 12 (.cons (.var 0) .nil)) (.var 4))) .nil)))
  .nil)
noncomputable def b_Lrows : Ss :=
  (.cons (.set [3] (.bin .mod (.call 12 (.cons (.var 0) .nil)) (.bin .add (.var 2) (.int 1))))
  (.cons (.set [4] (.ix (.lst (.cons (.int 1) (.cons (.int 10) (.cons (.int 97) .nil)))) (.bin .mod (.call 12 (.cons (.var 0) .nil)) (.int 3))))
  (.cons (.set [5] (.lst (.cons (.bin .mod (.call 12 (.cons (.var 0) .nil)) (.int 300)) .nil)))
  (.cons (.for_ [6] (.rng1 (.var 3)) Nl)
  N4))))
theorem Zj0 : Ym (ck0 O6 V4 FN GN BN) b_Lrows (Z5 V4) = true := by decide +kernel
noncomputable abbrev Sa : Stmt := top 25
noncomputable def Gm : List Str := ["_law_drawn_here", "_law_k", "_law_many", "_law_mode", "_law_number", "_law_to"]
theorem Zk8 : FnScope Gm ["_law_drawn_here", "_law_k", "_law_many", "_law_mode"] (Z3 Sa) := ⟨rfl, rfl, rfl, by decide +kernel, rfl, by decide +kernel, by decide +kernel⟩
noncomputable def O8 : Ss :=
  (.cons (.ret (.bin .mod (.var 4) (.var 2)))
  .nil)
noncomputable def Pl : Ss :=
  (.cons (.ite (.cmp .eq (.var 3) (.int 2)) (.cons (.ret (.bin .sub (.var 1) (.bin .mod (.var 1) (.ix (.lst (.cons (.int 1) (.cons (.int 2) (.cons (.int 4) (.cons (.int 8) .nil))))) (.bin .mod (.bin .fdiv (.var 4) (.int 2)) (.int 4))))))
  .nil) .nil)
  O8)
noncomputable def Pt : Ss :=
  (.cons (.ite (.bop true (.cons (.cmp .eq (.var 3) (.int 2)) (.cons (.cmp .eq (.bin .mod (.var 4) (.int 2)) (.int 0)) .nil))) (.cons (.ret (.bf .min2 (.cons (.bin .add (.bin .add (.var 1) (.int 1)) (.bin .mod (.bin .fdiv (.var 4) (.int 2)) (.int 3))) (.cons (.bin .sub (.var 2) (.int 1)) .nil))))
  .nil) .nil)
  Pl)
noncomputable def Gd : Ss :=
  (.cons (.ret (.ix (.lst (.cons (.int 0) (.cons (.var 1) .nil))) (.bin .mod (.var 4) (.int 2))))
  .nil)
noncomputable def b_Lfar : Ss :=
  (.cons (.set [4] (.call 12 (.cons (.var 0) .nil)))
  (.cons (.ite (.cmp .eq (.var 3) (.int 1)) (.cons (.set [5] (.bin .add (.bin .add (.var 1) (.int 1)) (.bin .mod (.bin .fdiv (.var 4) (.int 2)) (.bin .sub (.var 2) (.var 1)))))
  (.cons (.ite (.cmp .lt (.var 5) (.var 2)) (.cons (.ret (.var 5))
  .nil) .nil)
  Gd)) .nil)
  Pt))
theorem Zo1 : Ym (ck0 Gm Sa FN GN BN) b_Lfar (Z5 Sa) = true := by decide +kernel
noncomputable abbrev V2 : Stmt := top 26
noncomputable def O4 : List Str := ["_law_drawn_here", "_law_k", "_law_many", "_law_mode"]
theorem Zc6 : FnScope O4 ["_law_drawn_here", "_law_k", "_law_many", "_law_mode"] (Z3 V2) := ⟨rfl, rfl, rfl, by decide +kernel, rfl, by decide +kernel, by decide +kernel⟩
noncomputable def Nq : Ss :=
  (.cons (.ret (.bf .min2 (.cons (.bin .add (.var 1) (.int 1)) (.cons (.bin .sub (.var 2) (.int 1)) .nil))))
  .nil)
noncomputable def b_Lnear : Ss :=
  (.cons (.ite (.cmp .eq (.bin .mod (.call 12 (.cons (.var 0) .nil)) (.int 4)) (.int 3)) (.cons (.ret (.call 18 (.cons (.var 0) (.cons (.var 1) (.cons (.var 2) (.cons (.var 3) .nil))))))
  .nil) .nil)
  Nq)
theorem Zg2 : Ym (ck0 O4 V2 FN GN BN) b_Lnear (Z5 V2) = true := by decide +kernel
noncomputable abbrev Wy : Stmt := top 27
noncomputable def Pu : List Str := ["_law_drawn_here", "_law_k", "_law_many", "_law_mode", "_law_names_here", "_law_kind", "_law_one", "_law_other", "_law_sign", "_law_to"]
theorem Z84 : FnScope Pu ["_law_drawn_here", "_law_k", "_law_many", "_law_mode"] (Z3 Wy) := ⟨rfl, rfl, rfl, by decide +kernel, rfl, by decide +kernel, by decide +kernel⟩
noncomputable def Ou : Ss :=
  (.cons (.set [8] (.ix (.lst (.cons (.str "<") (.cons (.str "=") .nil))) (.bin .mod (.call 12 (.cons (.var 0) .nil)) (.int 2))))
  (.cons (.set [9] (.call 18 (.cons (.var 0) (.cons (.var 1) (.cons (.var 2) (.cons (.var 3) .nil))))))
  (.cons (.ret (.tup (.cons (.str "test") (.cons (.var 6) (.cons (.var 8) (.cons (.var 7) (.cons (.var 9) (.cons (.call 19 (.cons (.var 0) (.cons (.var 1) (.cons (.var 2) (.cons (.var 3) .nil))))) .nil))))))))
  .nil)))
noncomputable def Rg : Ss :=
  (.cons (.ite (.cmp .lt (.var 5) (.int 13)) (.cons (.set [8] (.ix (.lst (.cons (.str "+") (.cons (.str "-") (.cons (.str "/") (.cons (.str "rest") (.cons (.str "&") (.cons (.str "^") .nil))))))) (.bin .mod (.call 12 (.cons (.var 0) .nil)) (.int 6))))
  (.cons (.ret (.tup (.cons (.str "sum") (.cons (.ix (.var 4) (.bin .mod (.call 12 (.cons (.var 0) .nil)) (.int 4))) (.cons (.var 6) (.cons (.var 8) (.cons (.var 7) (.cons (.call 19 (.cons (.var 0) (.cons (.var 1) (.cons (.var 2) (.cons (.var 3) .nil))))) .nil))))))))
  .nil)) .nil)
  Ou)
noncomputable def Q1 : Ss :=
  (.cons (.set [7] (.ix (.var 4) (.bin .mod (.call 12 (.cons (.var 0) .nil)) (.int 4))))
  (.cons (.ite (.cmp .eq (.bin .mod (.call 12 (.cons (.var 0) .nil)) (.int 4)) (.int 3)) (.cons (.set [7] (.call 14 (.cons (.var 0) .nil)))
  .nil) .nil)
  Rg))
noncomputable def Na : Ss :=
  (.cons (.set [6] (.ix (.var 4) (.bin .mod (.call 12 (.cons (.var 0) .nil)) (.int 4))))
  (.cons (.ite (.cmp .eq (.bin .mod (.call 12 (.cons (.var 0) .nil)) (.int 4)) (.int 3)) (.cons (.set [6] (.bin .sub (.bin .mod (.call 12 (.cons (.var 0) .nil)) (.int 9)) (.int 4)))
  .nil) .nil)
  Q1))
noncomputable def b_Lnode : Ss :=
  (.cons (.set [4] (.lst (.cons (.str "x") (.cons (.str "y") (.cons (.str "z1") (.cons (.str "z") .nil))))))
  (.cons (.set [5] (.bin .mod (.call 12 (.cons (.var 0) .nil)) (.int 32)))
  (.cons (.ite (.cmp .gt (.var 5) (.int 29)) (.cons (.ret (.ix (.lst (.cons (.tup (.cons (.str "end") .nil)) (.cons (.tup (.cons (.str "spin") .nil)) .nil))) (.bin .sub (.var 5) (.int 30))))
  .nil) .nil)
  Na)))
theorem Zj7 : Ym (ck0 Pu Wy FN GN BN) b_Lnode (Z5 Wy) = true := by decide +kernel
noncomputable abbrev W4 : Stmt := top 28
noncomputable def Sm : List Str := ["_law_node_here"]
theorem By : FnScope Sm ["_law_node_here"] (Z3 W4) := ⟨rfl, rfl, rfl, by decide +kernel, rfl, by decide +kernel, by decide +kernel⟩
noncomputable def Tm : Ss :=
  (.cons (.ret (.lst .nil))
  .nil)
noncomputable def Vo : Ss :=
  (.cons (.ite (.cmp .eq (.ix (.var 0) (.int 0)) (.str "test")) (.cons (.ret (.lst (.cons (.ix (.var 0) (.int 5)) (.cons (.ix (.var 0) (.int 4)) .nil))))
  .nil) .nil)
  Tm)
noncomputable def b_Lgoals : Ss :=
  (.cons (.ite (.cmp .eq (.ix (.var 0) (.int 0)) (.str "sum")) (.cons (.ret (.lst (.cons (.ix (.var 0) (.int 5)) .nil)))
  .nil) .nil)
  Vo)
theorem Zc2 : Ym (ck0 Sm W4 FN GN BN) b_Lgoals (Z5 W4) = true := by decide +kernel
noncomputable abbrev W9 : Stmt := top 29
noncomputable def Si : List Str := ["_law_raw", "_law_begun", "_law_trail", "_law_done", "_law_here", "_law_step", "_law_goals_here"]
theorem Z28 : FnScope Si ["_law_raw"] (Z3 W9) := ⟨rfl, rfl, rfl, by decide +kernel, rfl, by decide +kernel, by decide +kernel⟩
noncomputable def Qm : Ss :=
  (.cons (.ret (.rev (.var 3)))
  .nil)
noncomputable def Te : Ss :=
  (.cons (.set [4, 5] (.mt .pop0 (.var 2) .nil))
  (.cons (.set [6] (.call 21 (.cons (.ix (.var 0) (.var 4)) .nil)))
  (.cons (.ite (.cmp .eq (.var 5) (.bf .len (.cons (.var 6) .nil))) (.cons (.expr (.mt .append (.var 3) (.cons (.var 4) .nil)))
  .nil) (.cons (.expr (.mt .append (.var 2) (.cons (.tup (.cons (.var 4) (.cons (.bin .add (.var 5) (.int 1)) .nil))) .nil)))
  (.cons (.ite (.cmp .notin (.ix (.var 6) (.var 5)) (.var 1)) (.cons (.expr (.mt .append (.var 1) (.cons (.ix (.var 6) (.var 5)) .nil)))
  (.cons (.expr (.mt .append (.var 2) (.cons (.tup (.cons (.ix (.var 6) (.var 5)) (.cons (.int 0) .nil))) .nil)))
  .nil)) .nil)
  .nil)))
  .nil)))
noncomputable def b_Lorder : Ss :=
  (.cons (.set [1] (.lst (.cons (.int 0) .nil)))
  (.cons (.set [2] (.lst (.cons (.tup (.cons (.int 0) (.cons (.int 0) .nil))) .nil)))
  (.cons (.set [3] (.lst .nil))
  (.cons (.while_ (.cmp .ne (.var 2) (.lst .nil)) Te)
  Qm))))
theorem Z63 : Ym (ck0 Si W9 FN GN BN) b_Lorder (Z5 W9) = true := by decide +kernel
noncomputable abbrev Wa : Stmt := top 30
noncomputable def Sq : List Str := ["_law_raw", "_law_order_here", "_law_graph_here", "_law_old", "_law_node_here"]
theorem Z32 : FnScope Sq ["_law_raw"] (Z3 Wa) := ⟨rfl, rfl, rfl, by decide +kernel, rfl, by decide +kernel, by decide +kernel⟩
noncomputable def Qc : Ss :=
  (.cons (.ret (.var 2))
  .nil)
noncomputable def Td : Ss :=
  (.cons (.expr (.mt .append (.var 2) (.cons (.var 4) .nil)))
  .nil)
noncomputable def We : Ss :=
  (.cons (.ite (.cmp .eq (.ix (.var 4) (.int 0)) (.str "test")) (.cons (.set [4] (.bin .add (.sl (.var 4) .no (.yes (.int 4))) (.tup (.cons (.mt .index1 (.var 1) (.cons (.ix (.var 4) (.int 4)) .nil)) (.cons (.mt .index1 (.var 1) (.cons (.ix (.var 4) (.int 5)) .nil)) .nil)))))
  .nil) .nil)
  Td)
noncomputable def Qn : Ss :=
  (.cons (.set [4] (.ix (.var 0) (.var 3)))
  (.cons (.ite (.cmp .eq (.ix (.var 4) (.int 0)) (.str "sum")) (.cons (.set [4] (.bin .add (.sl (.var 4) .no (.yes (.int 5))) (.tup (.cons (.mt .index1 (.var 1) (.cons (.ix (.var 4) (.int 5)) .nil)) .nil))))
  .nil) .nil)
  We))
noncomputable def b_Lgraph : Ss :=
  (.cons (.set [1] (.call 22 (.cons (.var 0) .nil)))
  (.cons (.set [2] (.lst .nil))
  (.cons (.for_ [3] (.seq (.var 1)) Qn)
  Qc)))
theorem Z98 : Ym (ck0 Sq Wa FN GN BN) b_Lgraph (Z5 Wa) = true := by decide +kernel
noncomputable abbrev Xy : Stmt := top 31
noncomputable def Sn : List Str := ["_law_drawn_here", "_law_most", "_law_many", "_law_mode"]
theorem Ey : FnScope Sn ["_law_drawn_here", "_law_most"] (Z3 Xy) := ⟨rfl, rfl, rfl, by decide +kernel, rfl, by decide +kernel, by decide +kernel⟩
noncomputable def b_Ldrawn : Ss :=
  (.cons (.set [2] (.bin .add (.int 1) (.bin .mod (.call 12 (.cons (.var 0) .nil)) (.var 1))))
  (.cons (.set [3] (.bin .mod (.call 12 (.cons (.var 0) .nil)) (.int 3)))
  (.cons (.ret (.call 23 (.cons (.comp ["_law_k", "_law_drawn_here", "_law_many", "_law_mode"] [none, (some 0), (some 2), (some 3)] [0] (.rng1 (.var 2)) .no (.call 20 (.cons (.var 1) (.cons (.var 0) (.cons (.var 2) (.cons (.var 3) .nil)))))) .nil)))
  .nil)))
theorem Zc5 : Ym (ck0 Sn Xy FN GN BN) b_Ldrawn (Z5 Xy) = true := by decide +kernel
noncomputable abbrev Xz : Stmt := top 32
noncomputable def Xx : List Str := ["_law_found", "_law_due", "_law_k"]
theorem Q0 : FnScope Xx ["_law_found", "_law_due"] (Z3 Xz) := ⟨rfl, rfl, rfl, by decide +kernel, rfl, by decide +kernel, by decide +kernel⟩
noncomputable def Qh : Ss :=
  (.cons (.ret (.bl true))
  .nil)
noncomputable def Qd : Ss :=
  (.cons (.ite (.not (.call 25 (.cons (.ix (.var 0) (.var 2)) (.cons (.ix (.var 1) (.var 2)) .nil)))) (.cons (.ret (.bl false))
  .nil) .nil)
  .nil)
noncomputable def Qr : Ss :=
  (.cons (.for_ [2] (.rng1 (.bf .len (.cons (.var 1) .nil))) Qd)
  Qh)
noncomputable def Tt : Ss :=
  (.cons (.ite (.cmp .ne (.bf .len (.cons (.var 0) .nil)) (.bf .len (.cons (.var 1) .nil))) (.cons (.ret (.bl false))
  .nil) .nil)
  Qr)
noncomputable def Tn : Ss :=
  (.cons (.ite (.bf .isinst (.cons (.var 1) (.cons (.ty .tuple) .nil))) (.cons (.ite (.not (.bf .isinst (.cons (.var 0) (.cons (.ty .tuple) .nil)))) (.cons (.ret (.bl false))
  .nil) .nil)
  .nil) (.cons (.ite (.not (.bf .isinst (.cons (.var 0) (.cons (.ty .list) .nil)))) (.cons (.ret (.bl false))
  .nil) .nil)
  .nil))
  Tt)
noncomputable def Vi : Ss :=
  (.cons (.ite (.bf .isinst (.cons (.var 1) (.cons (.ty .str) .nil))) (.cons (.ret (.bop true (.cons (.bf .isinst (.cons (.var 0) (.cons (.ty .str) .nil))) (.cons (.cmp .eq (.var 0) (.var 1)) .nil))))
  .nil) .nil)
  Tn)
noncomputable def Wc : Ss :=
  (.cons (.ite (.bf .isinst (.cons (.var 1) (.cons (.ty .int) .nil))) (.cons (.ret (.bop true (.cons (.bf .isinst (.cons (.var 0) (.cons (.ty .int) .nil))) (.cons (.not (.bf .isinst (.cons (.var 0) (.cons (.ty .bool) .nil)))) (.cons (.cmp .eq (.var 0) (.var 1)) .nil)))))
  .nil) .nil)
  Vi)
noncomputable def Xo : Ss :=
  (.cons (.ite (.bf .isinst (.cons (.var 1) (.cons (.ty .bool) .nil))) (.cons (.ret (.bop true (.cons (.bf .isinst (.cons (.var 0) (.cons (.ty .bool) .nil))) (.cons (.cmp .eq (.var 0) (.var 1)) .nil))))
  .nil) .nil)
  Wc)
noncomputable def b_Lalike : Ss :=
  (.cons (.ite (.cmp .is (.var 1) .non) (.cons (.ret (.cmp .is (.var 0) .non))
  .nil) .nil)
  Xo)
theorem Qv : Ym (ck0 Xx Xz FN GN BN) b_Lalike (Z5 Xz) = true := by decide +kernel
noncomputable abbrev Nf : Stmt := top 33
noncomputable def Z69 : List Str := ["_law_script", "_law_drawn_here", "_law_graph_here", "_law_rows_here", "_law_found", "_law_laid", "_law_kept"]
theorem Zs0 : FnScope Z69 ["_law_script"] (Z3 Nf) := ⟨rfl, rfl, rfl, by decide +kernel, rfl, by decide +kernel, by decide +kernel⟩
noncomputable def Bl : Ss :=
  (.cons (.ret (.bop true (.cons (.cmp .eq (.var 5) (.var 6)) (.cons (.call 25 (.cons (.call 10 (.cons (.call 6 (.cons (.var 6) .nil)) .nil)) (.cons (.var 6) .nil))) .nil))))
  .nil)
noncomputable def Z04 : Ss :=
  (.cons (.set [3] (.call 17 (.cons (.var 1) (.cons (.call 13 (.cons (.call 12 (.cons (.var 1) .nil)) .nil)) (.cons (.int 39) .nil)))))
  (.cons (.set [4] (.call 6 (.cons (.var 3) .nil)))
  (.cons (.set [5] (.call 10 (.cons (.var 4) .nil)))
  (.cons (.set [6] (.bf .list1 (.cons (.var 5) .nil)))
  (.cons (.ite (.not (.call 25 (.cons (.call 6 (.cons (.var 5) .nil)) (.cons (.var 4) .nil)))) (.cons (.ret (.bl false))
  .nil) .nil)
  Bl)))))
noncomputable def b_law : Ss :=
  (.cons (.set [1] (.call 11 (.cons (.var 0) .nil)))
  (.cons (.set [2] (.call 24 (.cons (.var 1) (.cons (.int 40) .nil))))
  (.cons (.ite (.not (.call 25 (.cons (.call 6 (.cons (.call 10 (.cons (.var 2) .nil)) .nil)) (.cons (.var 2) .nil)))) (.cons (.ret (.bl false))
  .nil) .nil)
  Z04)))
theorem Y13 : Ym (ck0 Z69 Nf FN GN BN) b_law (Z5 Nf) = true := by decide +kernel
set_option genInjectivity false in
structure Adr where
  mk ::
  a_ways : Addr
  d_ways : FuncData
  a_with_ways : Addr
  d_with_ways : FuncData
  a_walked : Addr
  d_walked : FuncData
  a_numbered : Addr
  d_numbered : FuncData
  a_landings : Addr
  d_landings : FuncData
  a_linked : Addr
  d_linked : FuncData
  a_graph_of : Addr
  d_graph_of : FuncData
  a_needs_jump : Addr
  d_needs_jump : FuncData
  a_first_numbers : Addr
  d_first_numbers : FuncData
  a_rows_of_node : Addr
  d_rows_of_node : FuncData
  a_laid_out : Addr
  d_laid_out : FuncData
  a_Ldraws : Addr
  d_Ldraws : FuncData
  a_Lnext : Addr
  d_Lnext : FuncData
  a_Lnames : Addr
  d_Lnames : FuncData
  a_Lgreat : Addr
  d_Lgreat : FuncData
  a_Loperand : Addr
  d_Loperand : FuncData
  a_Lrow : Addr
  d_Lrow : FuncData
  a_Lrows : Addr
  d_Lrows : FuncData
  a_Lfar : Addr
  d_Lfar : FuncData
  a_Lnear : Addr
  d_Lnear : FuncData
  a_Lnode : Addr
  d_Lnode : FuncData
  a_Lgoals : Addr
  d_Lgoals : FuncData
  a_Lorder : Addr
  d_Lorder : FuncData
  a_Lgraph : Addr
  d_Lgraph : FuncData
  a_Ldrawn : Addr
  d_Ldrawn : FuncData
  a_Lalike : Addr
  d_Lalike : FuncData
  a_law : Addr
  d_law : FuncData
structure Tx (K : PySem.W.Frag) (mg : Str → Option Value) (t : Adr) : Prop where
  mk ::
  F_ways : Fun K "ways" "ways" S3 t.a_ways t.d_ways
  g_ways : mg "ways" = some (.ref t.a_ways)
  k_ways : PySem.W.keepIn K (.ref t.a_ways) = true
  b_ways : Yl K t.d_ways ["node"] []
  F_with_ways : Fun K "with_ways" "with_ways" Yn t.a_with_ways t.d_with_ways
  g_with_ways : mg "with_ways" = some (.ref t.a_with_ways)
  k_with_ways : PySem.W.keepIn K (.ref t.a_with_ways) = true
  b_with_ways : Yl K t.d_with_ways ["node", "goals"] []
  F_walked : Fun K "walked" "walked" W1 t.a_walked t.d_walked
  g_walked : mg "walked" = some (.ref t.a_walked)
  k_walked : PySem.W.keepIn K (.ref t.a_walked) = true
  b_walked : Yl K t.d_walked ["goals", "starts"] []
  F_numbered : Fun K "numbered" "numbered" Yz t.a_numbered t.d_numbered
  g_numbered : mg "numbered" = some (.ref t.a_numbered)
  k_numbered : PySem.W.keepIn K (.ref t.a_numbered) = true
  b_numbered : Yl K t.d_numbered ["nodes", "order"] []
  F_landings : Fun K "landings" "landings" X4 t.a_landings t.d_landings
  g_landings : mg "landings" = some (.ref t.a_landings)
  k_landings : PySem.W.keepIn K (.ref t.a_landings) = true
  b_landings : Yl K t.d_landings ["rows", "places"] []
  F_linked : Fun K "linked" "linked" W5 t.a_linked t.d_linked
  g_linked : mg "linked" = some (.ref t.a_linked)
  k_linked : PySem.W.keepIn K (.ref t.a_linked) = true
  b_linked : Yl K t.d_linked ["rows"] []
  F_graph_of : Fun K "graph_of" "graph_of" Yw t.a_graph_of t.d_graph_of
  g_graph_of : mg "graph_of" = some (.ref t.a_graph_of)
  k_graph_of : PySem.W.keepIn K (.ref t.a_graph_of) = true
  b_graph_of : Yl K t.d_graph_of ["rows"] []
  F_needs_jump : Fun K "needs_jump" "needs_jump" Ye t.a_needs_jump t.d_needs_jump
  g_needs_jump : mg "needs_jump" = some (.ref t.a_needs_jump)
  k_needs_jump : PySem.W.keepIn K (.ref t.a_needs_jump) = true
  b_needs_jump : Yl K t.d_needs_jump ["node", "place"] []
  F_first_numbers : Fun K "first_numbers" "first_numbers" Zq t.a_first_numbers t.d_first_numbers
  g_first_numbers : mg "first_numbers" = some (.ref t.a_first_numbers)
  k_first_numbers : PySem.W.keepIn K (.ref t.a_first_numbers) = true
  b_first_numbers : Yl K t.d_first_numbers ["graph"] []
  F_rows_of_node : Fun K "rows_of_node" "rows_of_node" Zx t.a_rows_of_node t.d_rows_of_node
  g_rows_of_node : mg "rows_of_node" = some (.ref t.a_rows_of_node)
  k_rows_of_node : PySem.W.keepIn K (.ref t.a_rows_of_node) = true
  b_rows_of_node : Yl K t.d_rows_of_node ["node", "place", "numbers"] []
  F_laid_out : Fun K "laid_out" "laid_out" Yv t.a_laid_out t.d_laid_out
  g_laid_out : mg "laid_out" = some (.ref t.a_laid_out)
  k_laid_out : PySem.W.keepIn K (.ref t.a_laid_out) = true
  b_laid_out : Yl K t.d_laid_out ["graph"] []
  F_Ldraws : Fun K "_law_draws" "_law_draws" W8 t.a_Ldraws t.d_Ldraws
  g_Ldraws : mg "_law_draws" = some (.ref t.a_Ldraws)
  k_Ldraws : PySem.W.keepIn K (.ref t.a_Ldraws) = true
  b_Ldraws : Yl K t.d_Ldraws ["_law_script"] []
  F_Lnext : Fun K "_law_next" "_law_next" V0 t.a_Lnext t.d_Lnext
  g_Lnext : mg "_law_next" = some (.ref t.a_Lnext)
  k_Lnext : PySem.W.keepIn K (.ref t.a_Lnext) = true
  b_Lnext : Yl K t.d_Lnext ["_law_drawn_here"] []
  F_Lnames : Fun K "_law_names" "_law_names" W6 t.a_Lnames t.d_Lnames
  g_Lnames : mg "_law_names" = some (.ref t.a_Lnames)
  k_Lnames : PySem.W.keepIn K (.ref t.a_Lnames) = true
  b_Lnames : Yl K t.d_Lnames ["_law_number"] []
  F_Lgreat : Fun K "_law_great" "_law_great" W0 t.a_Lgreat t.d_Lgreat
  g_Lgreat : mg "_law_great" = some (.ref t.a_Lgreat)
  k_Lgreat : PySem.W.keepIn K (.ref t.a_Lgreat) = true
  b_Lgreat : Yl K t.d_Lgreat ["_law_drawn_here"] []
  F_Loperand : Fun K "_law_operand" "_law_operand" Yx t.a_Loperand t.d_Loperand
  g_Loperand : mg "_law_operand" = some (.ref t.a_Loperand)
  k_Loperand : PySem.W.keepIn K (.ref t.a_Loperand) = true
  b_Loperand : Yl K t.d_Loperand ["_law_drawn_here", "_law_names_here"] []
  F_Lrow : Fun K "_law_row" "_law_row" Sb t.a_Lrow t.d_Lrow
  g_Lrow : mg "_law_row" = some (.ref t.a_Lrow)
  k_Lrow : PySem.W.keepIn K (.ref t.a_Lrow) = true
  b_Lrow : Yl K t.d_Lrow ["_law_drawn_here", "_law_k", "_law_numbers", "_law_names_here"] []
  F_Lrows : Fun K "_law_rows" "_law_rows" V4 t.a_Lrows t.d_Lrows
  g_Lrows : mg "_law_rows" = some (.ref t.a_Lrows)
  k_Lrows : PySem.W.keepIn K (.ref t.a_Lrows) = true
  b_Lrows : Yl K t.d_Lrows ["_law_drawn_here", "_law_names_here", "_law_most"] []
  F_Lfar : Fun K "_law_far" "_law_far" Sa t.a_Lfar t.d_Lfar
  g_Lfar : mg "_law_far" = some (.ref t.a_Lfar)
  k_Lfar : PySem.W.keepIn K (.ref t.a_Lfar) = true
  b_Lfar : Yl K t.d_Lfar ["_law_drawn_here", "_law_k", "_law_many", "_law_mode"] []
  F_Lnear : Fun K "_law_near" "_law_near" V2 t.a_Lnear t.d_Lnear
  g_Lnear : mg "_law_near" = some (.ref t.a_Lnear)
  k_Lnear : PySem.W.keepIn K (.ref t.a_Lnear) = true
  b_Lnear : Yl K t.d_Lnear ["_law_drawn_here", "_law_k", "_law_many", "_law_mode"] []
  F_Lnode : Fun K "_law_node" "_law_node" Wy t.a_Lnode t.d_Lnode
  g_Lnode : mg "_law_node" = some (.ref t.a_Lnode)
  k_Lnode : PySem.W.keepIn K (.ref t.a_Lnode) = true
  b_Lnode : Yl K t.d_Lnode ["_law_drawn_here", "_law_k", "_law_many", "_law_mode"] []
  F_Lgoals : Fun K "_law_goals" "_law_goals" W4 t.a_Lgoals t.d_Lgoals
  g_Lgoals : mg "_law_goals" = some (.ref t.a_Lgoals)
  k_Lgoals : PySem.W.keepIn K (.ref t.a_Lgoals) = true
  b_Lgoals : Yl K t.d_Lgoals ["_law_node_here"] []
  F_Lorder : Fun K "_law_order" "_law_order" W9 t.a_Lorder t.d_Lorder
  g_Lorder : mg "_law_order" = some (.ref t.a_Lorder)
  k_Lorder : PySem.W.keepIn K (.ref t.a_Lorder) = true
  b_Lorder : Yl K t.d_Lorder ["_law_raw"] []
  F_Lgraph : Fun K "_law_graph" "_law_graph" Wa t.a_Lgraph t.d_Lgraph
  g_Lgraph : mg "_law_graph" = some (.ref t.a_Lgraph)
  k_Lgraph : PySem.W.keepIn K (.ref t.a_Lgraph) = true
  b_Lgraph : Yl K t.d_Lgraph ["_law_raw"] []
  F_Ldrawn : Fun K "_law_drawn" "_law_drawn" Xy t.a_Ldrawn t.d_Ldrawn
  g_Ldrawn : mg "_law_drawn" = some (.ref t.a_Ldrawn)
  k_Ldrawn : PySem.W.keepIn K (.ref t.a_Ldrawn) = true
  b_Ldrawn : Yl K t.d_Ldrawn ["_law_drawn_here", "_law_most"] []
  F_Lalike : Fun K "_law_alike" "_law_alike" Xz t.a_Lalike t.d_Lalike
  g_Lalike : mg "_law_alike" = some (.ref t.a_Lalike)
  k_Lalike : PySem.W.keepIn K (.ref t.a_Lalike) = true
  b_Lalike : Yl K t.d_Lalike ["_law_found", "_law_due"] []
  F_law : Fun K "law" "law" Nf t.a_law t.d_law
  g_law : mg "law" = some (.ref t.a_law)
  k_law : PySem.W.keepIn K (.ref t.a_law) = true
  b_law : Yl K t.d_law ["_law_script"] []
  z_tuple : mg "tuple" = none
  z_list : mg "list" = none
  z_dict : mg "dict" = none
  z_enumerate : mg "enumerate" = none
  z_range : mg "range" = none
  z_len : mg "len" = none
  z_max : mg "max" = none
  z_min : mg "min" = none
  z_isinstance : mg "isinstance" = none
  z_str : mg "str" = none
  z_int : mg "int" = none
  z_bool : mg "bool" = none
  q_MOST_NODES : ∃ tk, mg "MOST_NODES" = some (.int 40 tk)
theorem ents {K : PySem.W.Frag} {mg : Str → Option Value} {t : Adr} (T : Tx K mg t) : ∀ x ∈ FN, Ent K mg x :=
  all_cons ⟨_, _, _, T.g_ways, T.k_ways, T.b_ways⟩ (all_cons ⟨_, _, _, T.g_with_ways, T.k_with_ways, T.b_with_ways⟩ (all_cons ⟨_, _, _, T.g_walked, T.k_walked, T.b_walked⟩ (all_cons ⟨_, _, _, T.g_numbered, T.k_numbered, T.b_numbered⟩ (all_cons ⟨_, _, _, T.g_landings, T.k_landings, T.b_landings⟩ (all_cons ⟨_, _, _, T.g_linked, T.k_linked, T.b_linked⟩ (all_cons ⟨_, _, _, T.g_graph_of, T.k_graph_of, T.b_graph_of⟩ (all_cons ⟨_, _, _, T.g_needs_jump, T.k_needs_jump, T.b_needs_jump⟩ (all_cons ⟨_, _, _, T.g_first_numbers, T.k_first_numbers, T.b_first_numbers⟩ (all_cons ⟨_, _, _, T.g_rows_of_node, T.k_rows_of_node, T.b_rows_of_node⟩ (all_cons ⟨_, _, _, T.g_laid_out, T.k_laid_out, T.b_laid_out⟩ (all_cons ⟨_, _, _, T.g_Ldraws, T.k_Ldraws, T.b_Ldraws⟩ (all_cons ⟨_, _, _, T.g_Lnext, T.k_Lnext, T.b_Lnext⟩ (all_cons ⟨_, _, _, T.g_Lnames, T.k_Lnames, T.b_Lnames⟩ (all_cons ⟨_, _, _, T.g_Lgreat, T.k_Lgreat, T.b_Lgreat⟩ (all_cons ⟨_, _, _, T.g_Loperand, T.k_Loperand, T.b_Loperand⟩ (all_cons ⟨_, _, _, T.g_Lrow, T.k_Lrow, T.b_Lrow⟩ (all_cons ⟨_, _, _, T.g_Lrows, T.k_Lrows, T.b_Lrows⟩ (all_cons ⟨_, _, _, T.g_Lfar, T.k_Lfar, T.b_Lfar⟩ (all_cons ⟨_, _, _, T.g_Lnear, T.k_Lnear, T.b_Lnear⟩ (all_cons ⟨_, _, _, T.g_Lnode, T.k_Lnode, T.b_Lnode⟩ (all_cons ⟨_, _, _, T.g_Lgoals, T.k_Lgoals, T.b_Lgoals⟩ (all_cons ⟨_, _, _, T.g_Lorder, T.k_Lorder, T.b_Lorder⟩ (all_cons ⟨_, _, _, T.g_Lgraph, T.k_Lgraph, T.b_Lgraph⟩ (all_cons ⟨_, _, _, T.g_Ldrawn, T.k_Ldrawn, T.b_Ldrawn⟩ (all_cons ⟨_, _, _, T.g_Lalike, T.k_Lalike, T.b_Lalike⟩ (all_cons ⟨_, _, _, T.g_law, T.k_law, T.b_law⟩ C1))))))))))))))))))))))))))
theorem blts {K : PySem.W.Frag} {mg : Str → Option Value} {t : Adr} (T : Tx K mg t) : ∀ x ∈ BN, mg x = none :=
  all_cons T.z_tuple (all_cons T.z_list (all_cons T.z_dict (all_cons T.z_enumerate (all_cons T.z_range (all_cons T.z_len (all_cons T.z_max (all_cons T.z_min (all_cons T.z_isinstance (all_cons T.z_str (all_cons T.z_int (all_cons T.z_bool C1)))))))))))
set_option maxHeartbeats 0 in
theorem Zy9 {K : PySem.W.Frag} {h : Heap} {mg : Str → Option Value} {f0 f1 f2 f3 f4 f5 f6 f7 f8 f9 f10 f11 f12 f13 f14 f15 f16 f17 f18 f19 f20 f21 f22 f23 f24 f25 f26 : Addr} (X : K.In h) (G : h.Ns mainGlobals mg)
    {od0 an0 od1 an1 od2 an2 od3 an3 od4 an4 od5 an5 od6 an6 od7 an7 od8 an8 od9 an9 od10 an10 od11 an11 od12 an12 od13 an13 od14 an14 od15 an15 od16 an16 od17 an17 od18 an18 od19 an19 od20 an20 od21 an21 od22 an22 od23 an23 od24 an24 od25 an25 od26 an26 : Option Addr} {sl0 sl1 sl2 sl3 sl4 sl5 sl6 sl7 sl8 sl9 sl10 sl11 sl12 sl13 sl14 sl15 sl16 sl17 sl18 sl19 sl20 sl21 sl22 sl23 sl24 sl25 sl26 : Array (Option Value)} {oc0 kV0 dc0 pm0 cd0 ct0 oc1 kV1 dc1 pm1 cd1 ct1 oc2 kV2 dc2 pm2 cd2 ct2 oc3 kV3 dc3 pm3 cd3 ct3 oc4 kV4 dc4 pm4 cd4 ct4 oc5 kV5 dc5 pm5 cd5 ct5 oc6 kV6 dc6 pm6 cd6 ct6 oc7 kV7 dc7 pm7 cd7 ct7 oc8 kV8 dc8 pm8 cd8 ct8 oc9 kV9 dc9 pm9 cd9 ct9 oc10 kV10 dc10 pm10 cd10 ct10 oc11 kV11 dc11 pm11 cd11 ct11 oc12 kV12 dc12 pm12 cd12 ct12 oc13 kV13 dc13 pm13 cd13 ct13 oc14 kV14 dc14 pm14 cd14 ct14 oc15 kV15 dc15 pm15 cd15 ct15 oc16 kV16 dc16 pm16 cd16 ct16 oc17 kV17 dc17 pm17 cd17 ct17 oc18 kV18 dc18 pm18 cd18 ct18 oc19 kV19 dc19 pm19 cd19 ct19 oc20 kV20 dc20 pm20 cd20 ct20 oc21 kV21 dc21 pm21 cd21 ct21 oc22 kV22 dc22 pm22 cd22 ct22 oc23 kV23 dc23 pm23 cd23 ct23 oc24 kV24 dc24 pm24 cd24 ct24 oc25 kV25 dc25 pm25 cd25 ct25 oc26 kV26 dc26 pm26 cd26 ct26 : Value}
    (a0 : PySem.W.nsIn K mainGlobals "ways" = some (some (.ref f0))) (l0 : K.lookup f0 = some ⟨oc0, od0, .func (PySem.W.fnOf "ways" "ways" (Zi S3) (Z5 S3) (Z3 S3) .none kV0 dc0 pm0 an0 cd0 ct0), sl0⟩) (c0 : PySem.W.codeIn K cd0 "ways" = true) (k0 : PySem.W.keepIn K (.ref f0) = true)
    (a1 : PySem.W.nsIn K mainGlobals "with_ways" = some (some (.ref f1))) (l1 : K.lookup f1 = some ⟨oc1, od1, .func (PySem.W.fnOf "with_ways" "with_ways" (Zi Yn) (Z5 Yn) (Z3 Yn) .none kV1 dc1 pm1 an1 cd1 ct1), sl1⟩) (c1 : PySem.W.codeIn K cd1 "with_ways" = true) (k1 : PySem.W.keepIn K (.ref f1) = true)
    (a2 : PySem.W.nsIn K mainGlobals "walked" = some (some (.ref f2))) (l2 : K.lookup f2 = some ⟨oc2, od2, .func (PySem.W.fnOf "walked" "walked" (Zi W1) (Z5 W1) (Z3 W1) .none kV2 dc2 pm2 an2 cd2 ct2), sl2⟩) (c2 : PySem.W.codeIn K cd2 "walked" = true) (k2 : PySem.W.keepIn K (.ref f2) = true)
    (a3 : PySem.W.nsIn K mainGlobals "numbered" = some (some (.ref f3))) (l3 : K.lookup f3 = some ⟨oc3, od3, .func (PySem.W.fnOf "numbered" "numbered" (Zi Yz) (Z5 Yz) (Z3 Yz) .none kV3 dc3 pm3 an3 cd3 ct3), sl3⟩) (c3 : PySem.W.codeIn K cd3 "numbered" = true) (k3 : PySem.W.keepIn K (.ref f3) = true)
    (a4 : PySem.W.nsIn K mainGlobals "landings" = some (some (.ref f4))) (l4 : K.lookup f4 = some ⟨oc4, od4, .func (PySem.W.fnOf "landings" "landings" (Zi X4) (Z5 X4) (Z3 X4) .none kV4 dc4 pm4 an4 cd4 ct4), sl4⟩) (c4 : PySem.W.codeIn K cd4 "landings" = true) (k4 : PySem.W.keepIn K (.ref f4) = true)
    (a5 : PySem.W.nsIn K mainGlobals "linked" = some (some (.ref f5))) (l5 : K.lookup f5 = some ⟨oc5, od5, .func (PySem.W.fnOf "linked" "linked" (Zi W5) (Z5 W5) (Z3 W5) .none kV5 dc5 pm5 an5 cd5 ct5), sl5⟩) (c5 : PySem.W.codeIn K cd5 "linked" = true) (k5 : PySem.W.keepIn K (.ref f5) = true)
    (a6 : PySem.W.nsIn K mainGlobals "graph_of" = some (some (.ref f6))) (l6 : K.lookup f6 = some ⟨oc6, od6, .func (PySem.W.fnOf "graph_of" "graph_of" (Zi Yw) (Z5 Yw) (Z3 Yw) .none kV6 dc6 pm6 an6 cd6 ct6), sl6⟩) (c6 : PySem.W.codeIn K cd6 "graph_of" = true) (k6 : PySem.W.keepIn K (.ref f6) = true)
    (a7 : PySem.W.nsIn K mainGlobals "needs_jump" = some (some (.ref f7))) (l7 : K.lookup f7 = some ⟨oc7, od7, .func (PySem.W.fnOf "needs_jump" "needs_jump" (Zi Ye) (Z5 Ye) (Z3 Ye) .none kV7 dc7 pm7 an7 cd7 ct7), sl7⟩) (c7 : PySem.W.codeIn K cd7 "needs_jump" = true) (k7 : PySem.W.keepIn K (.ref f7) = true)
    (a8 : PySem.W.nsIn K mainGlobals "first_numbers" = some (some (.ref f8))) (l8 : K.lookup f8 = some ⟨oc8, od8, .func (PySem.W.fnOf "first_numbers" "first_numbers" (Zi Zq) (Z5 Zq) (Z3 Zq) .none kV8 dc8 pm8 an8 cd8 ct8), sl8⟩) (c8 : PySem.W.codeIn K cd8 "first_numbers" = true) (k8 : PySem.W.keepIn K (.ref f8) = true)
    (a9 : PySem.W.nsIn K mainGlobals "rows_of_node" = some (some (.ref f9))) (l9 : K.lookup f9 = some ⟨oc9, od9, .func (PySem.W.fnOf "rows_of_node" "rows_of_node" (Zi Zx) (Z5 Zx) (Z3 Zx) .none kV9 dc9 pm9 an9 cd9 ct9), sl9⟩) (c9 : PySem.W.codeIn K cd9 "rows_of_node" = true) (k9 : PySem.W.keepIn K (.ref f9) = true)
    (a10 : PySem.W.nsIn K mainGlobals "laid_out" = some (some (.ref f10))) (l10 : K.lookup f10 = some ⟨oc10, od10, .func (PySem.W.fnOf "laid_out" "laid_out" (Zi Yv) (Z5 Yv) (Z3 Yv) .none kV10 dc10 pm10 an10 cd10 ct10), sl10⟩) (c10 : PySem.W.codeIn K cd10 "laid_out" = true) (k10 : PySem.W.keepIn K (.ref f10) = true)
    (a11 : PySem.W.nsIn K mainGlobals "_law_draws" = some (some (.ref f11))) (l11 : K.lookup f11 = some ⟨oc11, od11, .func (PySem.W.fnOf "_law_draws" "_law_draws" (Zi W8) (Z5 W8) (Z3 W8) .none kV11 dc11 pm11 an11 cd11 ct11), sl11⟩) (c11 : PySem.W.codeIn K cd11 "_law_draws" = true) (k11 : PySem.W.keepIn K (.ref f11) = true)
    (a12 : PySem.W.nsIn K mainGlobals "_law_next" = some (some (.ref f12))) (l12 : K.lookup f12 = some ⟨oc12, od12, .func (PySem.W.fnOf "_law_next" "_law_next" (Zi V0) (Z5 V0) (Z3 V0) .none kV12 dc12 pm12 an12 cd12 ct12), sl12⟩) (c12 : PySem.W.codeIn K cd12 "_law_next" = true) (k12 : PySem.W.keepIn K (.ref f12) = true)
    (a13 : PySem.W.nsIn K mainGlobals "_law_names" = some (some (.ref f13))) (l13 : K.lookup f13 = some ⟨oc13, od13, .func (PySem.W.fnOf "_law_names" "_law_names" (Zi W6) (Z5 W6) (Z3 W6) .none kV13 dc13 pm13 an13 cd13 ct13), sl13⟩) (c13 : PySem.W.codeIn K cd13 "_law_names" = true) (k13 : PySem.W.keepIn K (.ref f13) = true)
    (a14 : PySem.W.nsIn K mainGlobals "_law_great" = some (some (.ref f14))) (l14 : K.lookup f14 = some ⟨oc14, od14, .func (PySem.W.fnOf "_law_great" "_law_great" (Zi W0) (Z5 W0) (Z3 W0) .none kV14 dc14 pm14 an14 cd14 ct14), sl14⟩) (c14 : PySem.W.codeIn K cd14 "_law_great" = true) (k14 : PySem.W.keepIn K (.ref f14) = true)
    (a15 : PySem.W.nsIn K mainGlobals "_law_operand" = some (some (.ref f15))) (l15 : K.lookup f15 = some ⟨oc15, od15, .func (PySem.W.fnOf "_law_operand" "_law_operand" (Zi Yx) (Z5 Yx) (Z3 Yx) .none kV15 dc15 pm15 an15 cd15 ct15), sl15⟩) (c15 : PySem.W.codeIn K cd15 "_law_operand" = true) (k15 : PySem.W.keepIn K (.ref f15) = true)
    (a16 : PySem.W.nsIn K mainGlobals "_law_row" = some (some (.ref f16))) (l16 : K.lookup f16 = some ⟨oc16, od16, .func (PySem.W.fnOf "_law_row" "_law_row" (Zi Sb) (Z5 Sb) (Z3 Sb) .none kV16 dc16 pm16 an16 cd16 ct16), sl16⟩) (c16 : PySem.W.codeIn K cd16 "_law_row" = true) (k16 : PySem.W.keepIn K (.ref f16) = true)
    (a17 : PySem.W.nsIn K mainGlobals "_law_rows" = some (some (.ref f17))) (l17 : K.lookup f17 = some ⟨oc17, od17, .func (PySem.W.fnOf "_law_rows" "_law_rows" (Zi V4) (Z5 V4) (Z3 V4) .none kV17 dc17 pm17 an17 cd17 ct17), sl17⟩) (c17 : PySem.W.codeIn K cd17 "_law_rows" = true) (k17 : PySem.W.keepIn K (.ref f17) = true)
    (a18 : PySem.W.nsIn K mainGlobals "_law_far" = some (some (.ref f18))) (l18 : K.lookup f18 = some ⟨oc18, od18, .func (PySem.W.fnOf "_law_far" "_law_far" (Zi Sa) (Z5 Sa) (Z3 Sa) .none kV18 dc18 pm18 an18 cd18 ct18), sl18⟩) (c18 : PySem.W.codeIn K cd18 "_law_far" = true) (k18 : PySem.W.keepIn K (.ref f18) = true)
    (a19 : PySem.W.nsIn K mainGlobals "_law_near" = some (some (.ref f19))) (l19 : K.lookup f19 = some ⟨oc19, od19, .func (PySem.W.fnOf "_law_near" "_law_near" (Zi V2) (Z5 V2) (Z3 V2) .none kV19 dc19 pm19 an19 cd19 ct19), sl19⟩) (c19 : PySem.W.codeIn K cd19 "_law_near" = true) (k19 : PySem.W.keepIn K (.ref f19) = true)
    (a20 : PySem.W.nsIn K mainGlobals "_law_node" = some (some (.ref f20))) (l20 : K.lookup f20 = some ⟨oc20, od20, .func (PySem.W.fnOf "_law_node" "_law_node" (Zi Wy) (Z5 Wy) (Z3 Wy) .none kV20 dc20 pm20 an20 cd20 ct20), sl20⟩) (c20 : PySem.W.codeIn K cd20 "_law_node" = true) (k20 : PySem.W.keepIn K (.ref f20) = true)
    (a21 : PySem.W.nsIn K mainGlobals "_law_goals" = some (some (.ref f21))) (l21 : K.lookup f21 = some ⟨oc21, od21, .func (PySem.W.fnOf "_law_goals" "_law_goals" (Zi W4) (Z5 W4) (Z3 W4) .none kV21 dc21 pm21 an21 cd21 ct21), sl21⟩) (c21 : PySem.W.codeIn K cd21 "_law_goals" = true) (k21 : PySem.W.keepIn K (.ref f21) = true)
    (a22 : PySem.W.nsIn K mainGlobals "_law_order" = some (some (.ref f22))) (l22 : K.lookup f22 = some ⟨oc22, od22, .func (PySem.W.fnOf "_law_order" "_law_order" (Zi W9) (Z5 W9) (Z3 W9) .none kV22 dc22 pm22 an22 cd22 ct22), sl22⟩) (c22 : PySem.W.codeIn K cd22 "_law_order" = true) (k22 : PySem.W.keepIn K (.ref f22) = true)
    (a23 : PySem.W.nsIn K mainGlobals "_law_graph" = some (some (.ref f23))) (l23 : K.lookup f23 = some ⟨oc23, od23, .func (PySem.W.fnOf "_law_graph" "_law_graph" (Zi Wa) (Z5 Wa) (Z3 Wa) .none kV23 dc23 pm23 an23 cd23 ct23), sl23⟩) (c23 : PySem.W.codeIn K cd23 "_law_graph" = true) (k23 : PySem.W.keepIn K (.ref f23) = true)
    (a24 : PySem.W.nsIn K mainGlobals "_law_drawn" = some (some (.ref f24))) (l24 : K.lookup f24 = some ⟨oc24, od24, .func (PySem.W.fnOf "_law_drawn" "_law_drawn" (Zi Xy) (Z5 Xy) (Z3 Xy) .none kV24 dc24 pm24 an24 cd24 ct24), sl24⟩) (c24 : PySem.W.codeIn K cd24 "_law_drawn" = true) (k24 : PySem.W.keepIn K (.ref f24) = true)
    (a25 : PySem.W.nsIn K mainGlobals "_law_alike" = some (some (.ref f25))) (l25 : K.lookup f25 = some ⟨oc25, od25, .func (PySem.W.fnOf "_law_alike" "_law_alike" (Zi Xz) (Z5 Xz) (Z3 Xz) .none kV25 dc25 pm25 an25 cd25 ct25), sl25⟩) (c25 : PySem.W.codeIn K cd25 "_law_alike" = true) (k25 : PySem.W.keepIn K (.ref f25) = true)
    (a26 : PySem.W.nsIn K mainGlobals "law" = some (some (.ref f26))) (l26 : K.lookup f26 = some ⟨oc26, od26, .func (PySem.W.fnOf "law" "law" (Zi Nf) (Z5 Nf) (Z3 Nf) .none kV26 dc26 pm26 an26 cd26 ct26), sl26⟩) (c26 : PySem.W.codeIn K cd26 "law" = true) (k26 : PySem.W.keepIn K (.ref f26) = true)
    (z0 : PySem.W.nsIn K mainGlobals "tuple" = some none) (z1 : PySem.W.nsIn K mainGlobals "list" = some none) (z2 : PySem.W.nsIn K mainGlobals "dict" = some none) (z3 : PySem.W.nsIn K mainGlobals "enumerate" = some none) (z4 : PySem.W.nsIn K mainGlobals "range" = some none) (z5 : PySem.W.nsIn K mainGlobals "len" = some none) (z6 : PySem.W.nsIn K mainGlobals "max" = some none) (z7 : PySem.W.nsIn K mainGlobals "min" = some none) (z8 : PySem.W.nsIn K mainGlobals "isinstance" = some none) (z9 : PySem.W.nsIn K mainGlobals "str" = some none) (z10 : PySem.W.nsIn K mainGlobals "int" = some none) (z11 : PySem.W.nsIn K mainGlobals "bool" = some none)
    {tq0 : Tok} (q0 : PySem.W.nsIn K mainGlobals "MOST_NODES" = some (some (.int 40 tq0)))
    : ∃ t : Adr, Tx K mg t ∧ t.a_law = f26 ∧ ∀ (s : Shared) (v : Value), BindsTo s t.d_law ⟨[v], []⟩ [("_law_script", v)] := by
  have F0 := Yc (st := S3) l0 c0 k0
  have F1 := Yc (st := Yn) l1 c1 k1
  have F2 := Yc (st := W1) l2 c2 k2
  have F3 := Yc (st := Yz) l3 c3 k3
  have F4 := Yc (st := X4) l4 c4 k4
  have F5 := Yc (st := W5) l5 c5 k5
  have F6 := Yc (st := Yw) l6 c6 k6
  have F7 := Yc (st := Ye) l7 c7 k7
  have F8 := Yc (st := Zq) l8 c8 k8
  have F9 := Yc (st := Zx) l9 c9 k9
  have F10 := Yc (st := Yv) l10 c10 k10
  have F11 := Yc (st := W8) l11 c11 k11
  have F12 := Yc (st := V0) l12 c12 k12
  have F13 := Yc (st := W6) l13 c13 k13
  have F14 := Yc (st := W0) l14 c14 k14
  have F15 := Yc (st := Yx) l15 c15 k15
  have F16 := Yc (st := Sb) l16 c16 k16
  have F17 := Yc (st := V4) l17 c17 k17
  have F18 := Yc (st := Sa) l18 c18 k18
  have F19 := Yc (st := V2) l19 c19 k19
  have F20 := Yc (st := Wy) l20 c20 k20
  have F21 := Yc (st := W4) l21 c21 k21
  have F22 := Yc (st := W9) l22 c22 k22
  have F23 := Yc (st := Wa) l23 c23 k23
  have F24 := Yc (st := Xy) l24 c24 k24
  have F25 := Yc (st := Xz) l25 c25 k25
  have F26 := Yc (st := Nf) l26 c26 k26
  exact ⟨⟨f0, _, f1, _, f2, _, f3, _, f4, _, f5, _, f6, _, f7, _, f8, _, f9, _, f10, _, f11, _, f12, _, f13, _, f14, _, f15, _, f16, _, f17, _, f18, _, f19, _, f20, _, f21, _, f22, _, f23, _, f24, _, f25, _, f26, _⟩, ⟨F0, PySem.W.mg_of X G a0, k0, .all (W7 (fun _ => rfl)),
    F1, PySem.W.mg_of X G a1, k1, .all (T1 (fun _ _ => rfl)),
    F2, PySem.W.mg_of X G a2, k2, .all (T1 (fun _ _ => rfl)),
    F3, PySem.W.mg_of X G a3, k3, .all (T1 (fun _ _ => rfl)),
    F4, PySem.W.mg_of X G a4, k4, .all (T1 (fun _ _ => rfl)),
    F5, PySem.W.mg_of X G a5, k5, .all (W7 (fun _ => rfl)),
    F6, PySem.W.mg_of X G a6, k6, .all (W7 (fun _ => rfl)),
    F7, PySem.W.mg_of X G a7, k7, .all (T1 (fun _ _ => rfl)),
    F8, PySem.W.mg_of X G a8, k8, .all (W7 (fun _ => rfl)),
    F9, PySem.W.mg_of X G a9, k9, .all (Z08 (fun _ _ _ => rfl)),
    F10, PySem.W.mg_of X G a10, k10, .all (W7 (fun _ => rfl)),
    F11, PySem.W.mg_of X G a11, k11, .all (W7 (fun _ => rfl)),
    F12, PySem.W.mg_of X G a12, k12, .all (W7 (fun _ => rfl)),
    F13, PySem.W.mg_of X G a13, k13, .all (W7 (fun _ => rfl)),
    F14, PySem.W.mg_of X G a14, k14, .all (W7 (fun _ => rfl)),
    F15, PySem.W.mg_of X G a15, k15, .all (T1 (fun _ _ => rfl)),
    F16, PySem.W.mg_of X G a16, k16, .all (G6 (fun _ _ _ _ => rfl)),
    F17, PySem.W.mg_of X G a17, k17, .all (Z08 (fun _ _ _ => rfl)),
    F18, PySem.W.mg_of X G a18, k18, .all (G6 (fun _ _ _ _ => rfl)),
    F19, PySem.W.mg_of X G a19, k19, .all (G6 (fun _ _ _ _ => rfl)),
    F20, PySem.W.mg_of X G a20, k20, .all (G6 (fun _ _ _ _ => rfl)),
    F21, PySem.W.mg_of X G a21, k21, .all (W7 (fun _ => rfl)),
    F22, PySem.W.mg_of X G a22, k22, .all (W7 (fun _ => rfl)),
    F23, PySem.W.mg_of X G a23, k23, .all (W7 (fun _ => rfl)),
    F24, PySem.W.mg_of X G a24, k24, .all (T1 (fun _ _ => rfl)),
    F25, PySem.W.mg_of X G a25, k25, .all (T1 (fun _ _ => rfl)),
    F26, PySem.W.mg_of X G a26, k26, .all (W7 (fun _ => rfl)),
    PySem.W.mg_none_of X G z0,
    PySem.W.mg_none_of X G z1,
    PySem.W.mg_none_of X G z2,
    PySem.W.mg_none_of X G z3,
    PySem.W.mg_none_of X G z4,
    PySem.W.mg_none_of X G z5,
    PySem.W.mg_none_of X G z6,
    PySem.W.mg_none_of X G z7,
    PySem.W.mg_none_of X G z8,
    PySem.W.mg_none_of X G z9,
    PySem.W.mg_none_of X G z10,
    PySem.W.mg_none_of X G z11,
    ⟨_, PySem.W.mg_of X G q0⟩⟩, rfl, fun s v => .of_eq rfl⟩
set_option hygiene false
local macro_rules | `(tactic| walk_at "ev") => do
  let ids := ("tss q_ts_1 q_ts_2 q_ts_3 q_ts_4 q_ts_5 q_ts_6 q_ts_7 q_ts_8 q_ts_9 q_ts_10 q_te_1 q_te_2 q_te_3 q_te_4 q_te_5 q_te_6 q_te_7 q_te_8 q_te_9 q_te_10 q_te_11 q_te_12 q_te_13 q_te_14 q_te_15 q_te_16 q_te_17 q_te_18 q_te_19 q_te_20 q_te_21 q_te_22 q_te_23 q_te_24 q_tes_1 q_tes_2 q_teo_1 q_teo_2 q_tit_1 q_tit_2 q_tit_3 q_tit_4 q_tcd_1 q_tcd_2 q_tbop_1 q_tbop_2 q_tbop_3 tt op_add_i op_add_s op_add_t op_add_l op_sub_i op_mul_i op_mul_l op_fdiv_i op_mod_i op_pow_i cm_lt_i cm_gt_i cm_eq cm_ne cm_notin cm_is_n cm_is_i cm_is_s cm_is_b cm_is_t cm_is_r eq_i eq_s eq_b eq_nn eq_is eq_si tru_b tru_i tru_n tru_t ix_t ix_g ix_s sl_s sl_t sl_l is_non is_bl is_int is_str is_tup tyNon tyBl tyInt tyStr tyTup tyLst tyDct bf_len_t bf_len_s bf_is bf_min bf_max bf_list bf_tuple bf_dict mt_append_r mt_get2_r mt_pop_r mt_reverse_r mt_index_r mt_extend_r mk_append mk_pop mk_reverse mk_get2 mk_index mk_extend tg_one tg_two it_r it_t it_g key_i key_s in_ss aug_add aug_sub start0 List.map_cons List.map_nil List.length_cons List.length_nil List.cons_append List.nil_append List.append_nil List.replicate List.set_cons_zero List.set_cons_succ List.getElem?_cons_zero List.getElem?_cons_succ Nat.reduceAdd Nat.reduceSub Nat.sub_self Nat.zero_add decide_eq_true_eq ne_eq Int.reduceEq not_false_eq_true true_and Bool.not_eq_true' decide_eq_false_iff_not Bool.false_eq_true if_true if_false Bool.not_true Bool.not_false".splitOn " ").toArray.map fun s => Lean.mkIdent s.toName
  `(tactic| simp only [$[$ids:ident],*])
def Kp (M M' : Z1) : Prop := ∃ N, M' = M ++ N
theorem Kp.refl (M : Z1) : Kp M M := ⟨[], (List.append_nil M).symm⟩
theorem Kp.app {M M' : Z1} (h : Kp M M') (N : Z1) : Kp M (M' ++ N) := by obtain ⟨L, rfl⟩ := h; exact ⟨L ++ N, by rw [List.append_assoc]⟩
theorem Kp.trans {M M' M2 : Z1} (h : Kp M M') (g : Kp M' M2) : Kp M M2 := by obtain ⟨L, rfl⟩ := h; obtain ⟨L2, rfl⟩ := g; exact ⟨L ++ L2, by rw [List.append_assoc]⟩
theorem Kp.new (M N : Z1) : Kp M (M ++ N) := ⟨N, rfl⟩
theorem Kp.L {M M' : Z1} {a : Nat} {xs : List D} (h : Kp M M') (e : Z7 M a = some xs) : Z7 M' a = some xs := by obtain ⟨L, rfl⟩ := h; exact Z4 e
theorem Kp.W {M M' : Z1} {a : Nat} {xs : List D} (h : Kp M M') (e : Za M a = some xs) : Za M' a = some xs := by obtain ⟨L, rfl⟩ := h; exact Zw e
theorem qm {i j : Int} (h : 0 < j) : qmod i j = i % j := Z77 h
theorem qd {i j : Int} (h : 0 < j) : qdiv i j = i / j := Z52 h
theorem Zp4 {xs : List D} {i : Int} {d : D} (h0 : 0 ≤ i) (h : xs[i.toNat]? = some d) : atI xs i = some d := by
  have := Pv h
  rwa [Int.toNat_of_nonneg h0] at this
theorem Zl4 {xs : List D} {i : Int} (h0 : 0 ≤ i) (h : i < xs.length) : ∃ d, atI xs i = some d ∧ d ∈ xs := by
  have hl : i.toNat < xs.length := by omega
  exact ⟨xs[i.toNat], Zp4 h0 (List.getElem?_eq_getElem hl), List.getElem_mem hl⟩
inductive Opd where
  | nm (x : Str) | no (i : Int)
noncomputable def Opd.d : Opd → D
  | .nm x => .str x
  | .no i => .int i
inductive Nd where
  | sum (x : Str) (a : Opd) (sg : Str) (b : Opd) (t : Nat) | test (a : Opd) (sg : Str) (b : Opd) (y n : Nat) | fin | spin
noncomputable def Nd.d : Nd → D
  | .sum x a sg b t => .tup [.str "sum", .str x, a.d, .str sg, b.d, .int t]
  | .test a sg b y n => .tup [.str "test", a.d, .str sg, b.d, .int y, .int n]
  | .fin => .tup [.str "end"]
  | .spin => .tup [.str "spin"]
noncomputable def Opd.ok : Opd → Bool
  | .nm x => PyData.canLay0 (.str x)
  | .no _ => true
noncomputable def Nd.ok : Nd → Bool
  | .sum x a sg b _ => PyData.canLay0 (.str x) && a.ok && PyData.canLay0 (.str sg) && b.ok
  | .test a sg b _ _ => a.ok && PyData.canLay0 (.str sg) && b.ok
  | .fin => true
  | .spin => true
noncomputable def Nd.gs : Nd → List Nat
  | .sum _ _ _ _ t => [t]
  | .test _ _ _ y n => [n, y]
  | .fin => []
  | .spin => []
noncomputable def Nd.to (f : Nat → Nat) : Nd → Nd
  | .sum x a sg b t => .sum x a sg b (f t)
  | .test a sg b y n => .test a sg b (f y) (f n)
  | .fin => .fin
  | .spin => .spin
theorem Nd.gs_to (f : Nat → Nat) (d : Nd) : (d.to f).gs = d.gs.map f := by cases d <;> rfl
theorem Nd.ok_to (f : Nat → Nat) (d : Nd) : (d.to f).ok = d.ok := by cases d <;> rfl
theorem Nd.gs_two (d : Nd) : d.gs.length ≤ 2 := by cases d <;> simp [Nd.gs]
noncomputable def natD (l : List Nat) : List D := l.map fun (x : Nat) => D.int (x : Int)
theorem Zk (l : List Nat) : (natD l).length = l.length := by unfold natD; simp
theorem Y3 {l : List Nat} {k x : Nat} (h : l[k]? = some x) : (natD l)[k]? = some (.int x) := by unfold natD; rw [List.getElem?_map, h]; rfl
theorem Z58 (l m : List Nat) : natD (l ++ m) = natD l ++ natD m := by unfold natD; rw [List.map_append]
theorem Nn (l : List Nat) : (natD l).all Y5 = true := by
  rw [List.all_eq_true]
  intro d h
  unfold natD at h
  obtain ⟨x, _, rfl⟩ := List.mem_map.mp h
  rfl
theorem Zg3 (x : Nat) (l : List Nat) : inD (.int x) (natD l) = decide (x ∈ l) := by
  unfold inD natD
  rw [List.any_map]
  induction l with
  | nil => rfl
  | cons y r ih =>
    rw [List.any_cons, ih]
    show (((y : Int) == (x : Int)) || decide (x ∈ r)) = decide (x ∈ y :: r)
    by_cases h : x = y
    · subst h; simp
    · have h' : ¬ (y : Int) = (x : Int) := by omega
      simp [h, h']
theorem Zs8 {M : Z1} {a x : Nat} {l : List Nat} {B : Bool → Prop} (h : Z7 M a = some (natD l)) (q : B (decide (x ∈ l))) : inQ M (.int x) (.ref a) B :=
  .inl ⟨_, h, rfl, Nn l, by rw [Zg3]; exact q⟩
noncomputable def wy (gr : List Nd) (k : Nat) : List Nat := match gr[k]? with
  | some d => d.gs
  | none => []
theorem T8 {gr : List Nd} {k : Nat} {d : Nd} (h : gr[k]? = some d) : wy gr k = d.gs := by unfold wy; rw [h]
theorem Sy {gr : List Nd} {k : Nat} {d : Nd} (h : gr[k]? = some d) : (gr.map Nd.d)[k]? = some d.d := by rw [List.getElem?_map, h]; rfl
def Xv : DSp := fun ds M Q _ => ∃ d : Nd, ds = [d.d] ∧ Q (.ref M.length) (M ++ [.lst (natD d.gs)])
def Wp : DSp := fun ds M Q _ => ∃ (a : Nat) (raw : List Nd), ds = [.ref a] ∧ Z7 M a = some (raw.map Nd.d) ∧ 0 < raw.length ∧ raw.length ≤ 1000 ∧ (∀ d ∈ raw, ∀ t ∈ d.gs, t < raw.length) ∧
  ∀ O M' r, GT.Ord (wy raw) raw.length O → ND.Ends (wy raw) 0 O.reverse → Kp M M' → Za M' r = some (natD O) → M.length ≤ r → Q (.ref r) M'
def V5 : DSp := fun ds M Q _ => ∃ (a : Nat) (raw : List Nd), ds = [.ref a] ∧ Z7 M a = some (raw.map Nd.d) ∧ 0 < raw.length ∧ raw.length ≤ 1000 ∧ (∀ d ∈ raw, ∀ t ∈ d.gs, t < raw.length) ∧ (∀ d ∈ raw, d.ok = true) ∧
  ∀ (gr : List Nd) M' r, GT.Num (wy gr) gr.length → ND.Ends (wy gr) 0 (List.range gr.length).reverse → gr.length ≤ raw.length → (∀ d ∈ gr, d.ok = true) → Kp M M' → Za M' r = some (gr.map Nd.d) → M.length ≤ r → Q (.ref r) M'
section
variable {K : PySem.W.Frag}
theorem Z72 {Γ G} : ∀ ds M Q Z, Xv ds M Q Z → tss ⟨K, Γ, G⟩ noX b_Lgoals { nx := fun _ M => Q .non M, rt := Q } (start0 Sm ds) M := by
  rintro ds M Q Z ⟨d, rfl, q⟩
  simp only [b_Lgoals, Sm]
  cases d with
  | sum x a sg b t =>
    simp only [Nd.d]
    walk_at "ev"
    refine ⟨_, rfl, ?_⟩
    walk_at "ev"
    exact ⟨_, rfl, Z0 (by decide), q⟩
  | test a sg b y n =>
    simp only [Nd.d]
    walk_at "ev"
    refine ⟨_, rfl, ?_⟩
    walk_at "ev"
    rw [if_neg (by decide +kernel)]
    simp only [Vo]
    walk_at "ev"
    refine ⟨_, rfl, ?_⟩
    walk_at "ev"
    exact ⟨_, rfl, _, rfl, Z0 (by decide), q⟩
  | fin =>
    simp only [Nd.d]
    walk_at "ev"
    refine ⟨_, rfl, ?_⟩
    walk_at "ev"
    rw [if_neg (by decide +kernel)]
    simp only [Vo]
    walk_at "ev"
    refine ⟨_, rfl, ?_⟩
    walk_at "ev"
    rw [if_neg (by decide +kernel)]
    simp only [Tm]
    walk_at "ev"
    exact ⟨Z0 (by decide), q⟩
  | spin =>
    simp only [Nd.d]
    walk_at "ev"
    refine ⟨_, rfl, ?_⟩
    walk_at "ev"
    rw [if_neg (by decide +kernel)]
    simp only [Vo]
    walk_at "ev"
    refine ⟨_, rfl, ?_⟩
    walk_at "ev"
    rw [if_neg (by decide +kernel)]
    simp only [Tm]
    walk_at "ev"
    exact ⟨Z0 (by decide), q⟩
theorem pick {M : Z1} {a : Nat} {xs : List D} {i : Int} {F : D → Prop} (h : Z7 M a = some xs) (h0 : 0 ≤ i) (h1 : i < xs.length) (q : ∀ d ∈ xs, F d) : ixD M (.ref a) (.int i) F := by
  obtain ⟨d, e1, e2⟩ := Zl4 h0 h1
  exact Zg1 h e1 (q d e2)
theorem Xm {M : Z1} {a : Nat} {xs : List D} {i m : Int} {F : D → Prop} (h : Z7 M a = some xs) (h1 : m = xs.length) (h2 : 0 < m) (q : ∀ d ∈ xs, F d) : ixD M (.ref a) (.int (qmod i m)) F := by
  rw [qm h2]
  exact pick h (Int.emod_nonneg _ (by omega)) (by rw [← h1]; exact Int.emod_lt_of_pos _ h2) q
theorem Qe {xs : List Str} {d : D} (h : d ∈ xs.map D.str) (ok : (xs.all fun x => PyData.canLay0 (.str x)) = true) : ∃ x, d = .str x ∧ PyData.canLay0 (.str x) = true := by
  obtain ⟨x, hx, rfl⟩ := List.mem_map.mp h
  rw [List.all_eq_true] at ok
  exact ⟨x, rfl, ok x hx⟩
end
section
variable {K : PySem.W.Frag}
noncomputable def trD (T : List (Nat × Nat)) : List D := T.map fun p => D.tup [.int (p.1 : Nat), .int (p.2 : Nat)]
theorem Br (T U : List (Nat × Nat)) : trD (T ++ U) = trD T ++ trD U := by unfold trD; rw [List.map_append]
theorem Jp (T : List (Nat × Nat)) (h s : Nat) : trD (T ++ [(h, s)]) = trD T ++ [.tup [.int (h : Nat), .int (s : Nat)]] := Br _ _
theorem Yq (l : List Nat) (x : Nat) : natD (l ++ [x]) = natD l ++ [.int (x : Nat)] := Z58 _ _
theorem Bp (T : List (Nat × Nat)) : (trD T).length = T.length := by unfold trD; simp
noncomputable def trP (T : List (Nat × Nat)) : List PyData := T.map fun p => PyData.tuple [.int (p.1 : Nat), .int (p.2 : Nat)]
theorem Ze2 {M : Z1} : ∀ T : List (Nat × Nat), PDs M (trP T) (trD T)
  | [] => rfl
  | p :: r => ⟨_, _, rfl, ⟨_, rfl, ⟨_, _, rfl, rfl, ⟨_, _, rfl, rfl, rfl⟩⟩⟩, Ze2 r⟩
theorem Z15 : ∀ T : List (Nat × Nat), PyData.canLayAll0 (trP T) = true
  | [] => rfl
  | p :: r => by
    show PyData.canLayAll0 (PyData.tuple [.int (p.1 : Nat), .int (p.2 : Nat)] :: trP r) = true
    unfold PyData.canLayAll0
    rw [Z15 r]
    rfl
theorem Cf {M : Z1} {x y : Nat} {T : List (Nat × Nat)} {B : Bool → Prop} (h1 : Z7 M x = some (trD T)) (h2 : Z7 M y = some []) (q : B T.isEmpty) : eqD M (.ref x) (.ref y) B := by
  refine .inl ⟨.list (trP T), .list [], ⟨x, _, rfl, h1, Ze2 T⟩, ⟨y, _, rfl, h2, rfl⟩, Z15 T, rfl, ?_, ?_⟩
  · exact Nat.le_trans (Nat.min_le_right _ _) (by decide)
  · cases T with
    | nil => exact q
    | cons p r => exact q
noncomputable def toS (g : Nat → List Nat) (T : List (Nat × Nat)) : List (Nat × List Nat) := T.reverse.map fun p => (p.1, (g p.1).drop p.2)
theorem Vm (g : Nat → List Nat) (T : List (Nat × Nat)) (h s : Nat) : toS g (T ++ [(h, s)]) = (h, (g h).drop s) :: toS g T := by unfold toS; rw [List.reverse_append]; rfl
def At (g : Nat → List Nat) (B : List Nat) (T : List (Nat × Nat)) (F : List Nat) : Prop := ∃ k, ND.itr g k ⟨[0], [(0, g 0)], []⟩ = ⟨B, toS g T, F⟩
theorem At.begin (g : Nat → List Nat) : At g [0] [(0, 0)] [] := ⟨0, rfl⟩
theorem At.close {g : Nat → List Nat} {B F : List Nat} {T : List (Nat × Nat)} {h s : Nat} (a : At g B (T ++ [(h, s)]) F) (hs : s = (g h).length) : At g B T (F ++ [h]) := by
  obtain ⟨k, e⟩ := a
  refine ⟨k + 1, ?_⟩
  show ND.stp g (ND.itr g k _) = _
  rw [e, Vm, hs, List.drop_length]
  rfl
theorem At.pass {g : Nat → List Nat} {B F : List Nat} {T : List (Nat × Nat)} {h s y : Nat} (a : At g B (T ++ [(h, s)]) F) (hy : (g h)[s]? = some y) (hb : y ∈ B) : At g B (T ++ [(h, s + 1)]) F := by
  obtain ⟨k, e⟩ := a
  refine ⟨k + 1, ?_⟩
  show ND.stp g (ND.itr g k _) = _
  obtain ⟨h1, h2⟩ := List.getElem?_eq_some_iff.mp hy
  rw [e, Vm, Vm, List.drop_eq_getElem_cons h1, h2]
  show (if y ∈ B then _ else _) = _
  rw [if_pos hb]
theorem At.open {g : Nat → List Nat} {B F : List Nat} {T : List (Nat × Nat)} {h s y : Nat} (a : At g B (T ++ [(h, s)]) F) (hy : (g h)[s]? = some y) (hb : ¬ y ∈ B) : At g (B ++ [y]) (T ++ [(h, s + 1), (y, 0)]) F := by
  obtain ⟨k, e⟩ := a
  refine ⟨k + 1, ?_⟩
  show ND.stp g (ND.itr g k _) = _
  obtain ⟨h1, h2⟩ := List.getElem?_eq_some_iff.mp hy
  rw [show T ++ [(h, s + 1), (y, 0)] = (T ++ [(h, s + 1)]) ++ [(y, 0)] by simp, e, Vm, Vm, Vm, List.drop_eq_getElem_cons h1, h2]
  show (if y ∈ B then _ else _) = _
  rw [if_neg hb, List.drop_zero]
theorem At.ends {g : Nat → List Nat} {B F : List Nat} (a : At g B [] F) : ND.Ends g 0 F := by
  obtain ⟨k, e⟩ := a
  exact ⟨k, B, e⟩
theorem Ek {Γ G} (g6 : Γ[21]? = some Xv) {M : Z1} {a h s : Nat} {raw : List Nd} (hr : Z7 M a = some (raw.map Nd.d)) (h1 : raw.length ≤ 1000) (hg : ∀ d ∈ raw, ∀ t ∈ d.gs, t < raw.length) {B F : List Nat} {T : List (Nat × Nat)} {Q : DK} {C bk : DEnv → Z1 → Prop} {d4 d5 d6 : Option D}
    (w : GT.Wk (wy raw) raw.length B (T ++ [(h, s)]) F) (am : At (wy raw) B (T ++ [(h, s)]) F) (N : Z1)
    (q : ∀ B2 T2 F2 N2 d4 d5 d6, GT.wkM raw.length B2 T2 < GT.wkM raw.length B (T ++ [(h, s)]) → GT.Wk (wy raw) raw.length B2 T2 F2 → At (wy raw) B2 T2 F2 → C [some (.ref a), some (.ref M.length), some (.ref (M.length + 1)), some (.ref (M.length + 2)), d4, d5, d6] (M ++ (.lst (natD B2) :: .lst (trD T2) :: .lst (natD F2) :: N2))) :
    tss ⟨K, Γ, G⟩ noX Te { nx := C, rt := Q, bk := bk, ct := C } [some (.ref a), some (.ref M.length), some (.ref (M.length + 1)), some (.ref (M.length + 2)), d4, d5, d6] (M ++ (.lst (natD B) :: .lst (trD (T ++ [(h, s)])) :: .lst (natD F) :: N)) := by
  have hB : h ∈ B := (w.mem h).mpr (.inl ⟨s, by simp⟩)
  have hh := w.bl h hB
  obtain ⟨d, hd⟩ : ∃ d, raw[h]? = some d := ⟨_, List.getElem?_eq_getElem hh⟩
  have ew : wy raw h = d.gs := T8 hd
  have hst := w.steps h s (by simp)
  rw [ew] at hst
  have two := d.gs_two
  have small := w.small
  rw [List.length_append] at small
  have room := w.room
  have eT : trD (T ++ [(h, s)]) = trD T ++ [.tup [.int h, .int s]] := Br _ _
  simp only [Te]
  walk_at "ev"
  refine ⟨Zf (by rw [Zl]; rfl), _, .tup [.int h, .int s], by rw [Zn]; rfl, by rw [eT]; simp, ?_⟩
  walk_at "ev"
  rw [Y7, eT, List.dropLast_concat]
  walk_at "ev"
  refine ix_l (Z4 hr) (Sy hd) ?_
  simp only [g6]
  refine ⟨d, rfl, ?_⟩
  walk_at "ev"
  rw [List.append_assoc]
  simp only [List.cons_append]
  have el : (M ++ .lst (natD B) :: .lst (trD T) :: .lst (natD F) :: N).length = M.length + (N.length + 3) := by simp
  rw [el]
  have rG : ∀ b t f, Z7 (M ++ .lst b :: .lst t :: .lst f :: (N ++ [.lst (natD d.gs)])) (M.length + (N.length + 3)) = some (natD d.gs) := by
    intro b t f
    rw [Zl]
    exact Zb N _ []
  have rB : ∀ b N', Z7 (M ++ .lst b :: N') M.length = some b := fun b N' => Zb M _ _
  have rT : ∀ b t N', Z7 (M ++ .lst b :: .lst t :: N') (M.length + 1) = some t := fun b t N' => by rw [Zl]; rfl
  have rF : ∀ b t f N', Z7 (M ++ .lst b :: .lst t :: .lst f :: N') (M.length + 2) = some f := fun b t f N' => by rw [Zl]; rfl
  have wT : ∀ b t N', Za (M ++ .lst b :: .lst t :: N') (M.length + 1) = some t := fun b t N' => by rw [Zn]; rfl
  have wF : ∀ b t f N', Za (M ++ .lst b :: .lst t :: .lst f :: N') (M.length + 2) = some f := fun b t f N' => by rw [Zn]; rfl
  generalize M.length + (N.length + 3) = gp at rG
  refine Xa (rG _ _ _) ?_
  walk_at "ev"
  rw [Zk]
  simp only [List.length_cons, List.length_nil] at small
  split
  · rename_i e
    have es : s = d.gs.length := by omega
    refine ⟨Zf (rF _ _ _ _), _, wF _ _ _ _, by rw [Zk]; exact Z6 (by omega), ?_⟩
    rw [Y7]
    walk_at "ev"
    rw [← Yq]
    exact q _ _ _ _ _ _ _ (GT.C5 (by omega)) (w.close (by rw [ew]; exact es)) (am.close (by rw [ew]; exact es))
  · rename_i e
    have es : s < d.gs.length := by omega
    obtain ⟨y, hy⟩ : ∃ y, d.gs[s]? = some y := ⟨_, List.getElem?_eq_getElem es⟩
    have hyn : y < raw.length := hg d (List.mem_of_getElem? hd) y (List.mem_of_getElem? hy)
    refine ⟨Zf (rT _ _ _), Z0 (by decide), _, wT _ _ _, by rw [Bp]; exact Z6 (by omega), ?_⟩
    rw [Y7]
    walk_at "ev"
    refine ix_l (rG _ _ _) (Y3 hy) ?_
    refine Zs8 (rB _ _) ?_
    have e1 : trD T ++ [.tup [.int h, .int ((s : Int) + 1)]] = trD (T ++ [(h, s + 1)]) := (Jp T h (s + 1)).symm
    rw [e1]
    by_cases hyB : y ∈ B
    · rw [decide_eq_true hyB, if_neg (by decide)]
      exact q _ _ _ _ _ _ _ (GT.Z67 (by omega)) (w.pass (by rw [ew]; exact hy) hyB) (am.pass (by rw [ew]; exact hy) hyB)
    · rw [decide_eq_false hyB, if_pos rfl]
      have w2 := w.open (by rw [ew]; exact hy) hyn hyB
      have rm := w2.room
      rw [List.length_append, List.length_singleton] at rm
      refine ⟨Zf (rB _ _), ix_l (rG _ _ _) (Y3 hy) ⟨_, Ze M _ _, by rw [Zk]; exact Z6 (by omega), ?_⟩⟩
      rw [Yo]
      refine ⟨Zf (rT _ _ _), ix_l (rG _ _ _) (Y3 hy) ⟨Z0 (by decide), _, wT _ _ _, by rw [Bp, List.length_append, List.length_singleton]; exact Z6 (by omega), ?_⟩⟩
      rw [Y7]
      walk_at "ev"
      have e2 : trD (T ++ [(h, s + 1)]) ++ [.tup [.int y, .int 0]] = trD (T ++ [(h, s + 1), (y, 0)]) := by
        rw [show T ++ [(h, s + 1), (y, 0)] = (T ++ [(h, s + 1)]) ++ [(y, 0)] by simp, Jp (T ++ [(h, s + 1)])]
        rfl
      rw [← Yq, e2]
      exact q _ _ _ _ _ _ _ (GT.Zd0 (by omega) (by omega)) w2 (am.open (by rw [ew]; exact hy) hyB)
theorem Z54 {Γ G} (g6 : Γ[21]? = some Xv) : ∀ ds M Q Z, Wp ds M Q Z → tss ⟨K, Γ, G⟩ noX b_Lorder { nx := fun _ M => Q .non M, rt := Q } (start0 Si ds) M := by
  rintro ds M Q Z ⟨a, raw, rfl, hr, h0, h1, hg, q⟩
  simp only [b_Lorder, Si]
  walk_at "ev"
  refine ⟨Z0 (by decide), Z0 (by decide), Z0 (by decide), Z0 (by decide), ?_⟩
  simp only [List.length_append, List.length_cons, List.length_nil, List.append_assoc, List.cons_append, List.nil_append, Nat.zero_add, Nat.add_assoc, Nat.reduceAdd]
  refine ⟨fun m σ M' => ∃ B T F N d4 d5 d6, m = GT.wkM raw.length B T ∧ σ = [some (.ref a), some (.ref M.length), some (.ref (M.length + 1)), some (.ref (M.length + 2)), d4, d5, d6] ∧ M' = M ++ (.lst (natD B) :: .lst (trD T) :: .lst (natD F) :: N) ∧ GT.Wk (wy raw) raw.length B T F ∧ At (wy raw) B T F,
    ⟨_, [0], [(0, 0)], [], [], none, none, none, rfl, rfl, rfl, GT.Wk.begin _ h0, At.begin _⟩, ?_⟩
  rintro m σ M' ⟨B, T, F, N, d4, d5, d6, rfl, rfl, rfl, w, am⟩
  walk_at "ev"
  refine ⟨Z0 (by decide), ?_⟩
  rw [List.append_assoc]
  simp only [List.cons_append]
  have rT : ∀ N' : Z1, Z7 (M ++ .lst (natD B) :: .lst (trD T) :: .lst (natD F) :: N') (M.length + 1) = some (trD T) := fun N' => by rw [Zl]; rfl
  refine Cf (rT _) (by rw [show M ++ .lst (natD B) :: .lst (trD T) :: .lst (natD F) :: (N ++ [.lst []]) = (M ++ .lst (natD B) :: .lst (trD T) :: .lst (natD F) :: N) ++ [.lst []] by simp]; exact Zb _ _ []) ?_
  cases hT : T.isEmpty with
  | true =>
    rw [if_neg (by decide)]
    have eT : T = [] := List.isEmpty_iff.mp hT
    subst eT
    simp only [Qm]
    walk_at "ev"
    refine ⟨natD F, by rw [Zl]; rfl, ?_⟩
    refine q F.reverse _ _ w.ord (by rw [List.reverse_reverse]; exact am.ends) (((Kp.new M _)).app _) ?_ ?_
    · rw [show natD F.reverse = (natD F).reverse by unfold natD; rw [List.map_reverse]]
      exact Ze _ _ []
    · rw [List.length_append]; omega
  | false =>
    rw [if_pos rfl]
    have hne : T ≠ [] := by rintro rfl; cases hT
    obtain ⟨T', ⟨h, s⟩, rfl⟩ : ∃ T' p, T = T' ++ [p] := ⟨T.dropLast, T.getLast hne, (List.dropLast_concat_getLast hne).symm⟩
    refine Ek g6 hr h1 hg w am _ fun B2 T2 F2 N2 d4 d5 d6 lt w2 am2 => ⟨_, lt, B2, T2, F2, N2, d4, d5, d6, rfl, rfl, rfl, w2, am2⟩
end
set_option hygiene false
local macro_rules | `(tactic| walk_at "go") => do
  let ids := ("tss_nil tss_cons q_ts_1 q_ts_2 q_ts_3 q_ts_4 q_ts_5 q_ts_6 q_ts_7 q_ts_8 q_ts_9 q_ts_10 q_te_1 q_te_2 q_te_3 q_te_4 q_te_5 q_te_6 q_te_7 q_te_8 q_te_9 q_te_10 q_te_11 q_te_12 q_te_13 q_te_14 q_te_15 q_te_16 q_te_17 q_te_18 q_te_19 q_te_20 q_te_21 q_te_22 q_te_23 q_te_24 q_tes_1 q_tes_2 q_teo_1 q_teo_2 q_tit_1 q_tit_2 q_tit_3 q_tit_4 q_tcd_1 q_tcd_2 q_tbop_1 q_tbop_2 q_tbop_3 tt op_add_i op_add_s op_add_t op_add_l op_sub_i op_mul_i op_mul_l op_fdiv_i op_mod_i op_pow_i cm_lt_i cm_gt_i cm_eq cm_ne cm_notin cm_is_n cm_is_i cm_is_s cm_is_b cm_is_t cm_is_r eq_i eq_s eq_b eq_nn eq_is eq_si tru_b tru_i tru_n tru_t ix_t ix_g ix_s sl_s sl_t sl_l is_non is_bl is_int is_str is_tup tyNon tyBl tyInt tyStr tyTup tyLst tyDct bf_len_t bf_len_s bf_is bf_min bf_max bf_list bf_tuple bf_dict mt_append_r mt_get2_r mt_pop_r mt_reverse_r mt_index_r mt_extend_r mk_append mk_pop mk_reverse mk_get2 mk_index mk_extend tg_one tg_two it_r it_t it_g key_i key_s in_ss aug_add aug_sub start0 List.map_cons List.map_nil List.length_cons List.length_nil List.cons_append List.nil_append List.append_nil List.replicate List.set_cons_zero List.set_cons_succ List.getElem?_cons_zero List.getElem?_cons_succ Nat.reduceAdd Nat.reduceSub Nat.sub_self Nat.zero_add decide_eq_true_eq ne_eq Int.reduceEq not_false_eq_true true_and Bool.not_eq_true' decide_eq_false_iff_not Bool.false_eq_true Bool.true_eq_false if_true if_false Bool.not_true Bool.not_false".splitOn " ").toArray.map fun s => Lean.mkIdent s.toName
  let gs ← (Array.range 28).mapM fun i => `(tactic| try simp only [$(Lean.mkIdent (Lean.Name.mkSimple s!"g{i}")):ident])
  `(tactic| ((try dsimp only [$[$ids:ident],*]); (try simp only [$[$ids:ident],*]); $[$gs:tactic];*))
local macro_rules | `(tactic| walk_at "ev") => `(tactic| (walk_at "go"; repeat (with_reducible refine Zm3 ?_; walk_at "go")))
section
variable {K : PySem.W.Frag}
theorem Rp {M : Z1} {P : Nat → Prop} {a x : Nat} {O : List Nat} (h : Z7 M a = some (natD O)) (hx : x ∈ O) (q : P (O.idxOf x)) :
    ∃ xs k z, Z7 M a = some xs ∧ Y5 (.int (x : Nat)) = true ∧ xs.all Y5 = true ∧ xs[k]? = some z ∧ eqF z (.int (x : Nat)) = true ∧ (∀ (j : Nat) u, j < k → xs[j]? = some u → eqF u (.int (x : Nat)) = false) ∧ P k := by
  have hl : O.idxOf x < O.length := List.idxOf_lt_length_of_mem hx
  refine ⟨natD O, O.idxOf x, .int (x : Nat), h, rfl, Nn O, Y3 ?_, by simp [eqF], fun j u hj hu => ?_, q⟩
  · rw [List.getElem?_eq_getElem hl, List.getElem_idxOf hl]
  · have hjl : j < O.length := by omega
    rw [Y3 (List.getElem?_eq_getElem hjl)] at hu
    cases hu
    have hne : O[j] ≠ x := by
      have := List.not_of_lt_findIdx (p := (· == x)) (xs := O) (i := j) hj
      simpa using this
    show (((O[j] : Nat) : Int) == ((x : Nat) : Int)) = false
    rw [beq_eq_false_iff_ne]
    omega
noncomputable def gra (raw : List Nd) (O : List Nat) : List Nd := O.map fun x => (raw.getD x .fin).to fun y => O.idxOf y
theorem Xw (raw : List Nd) (O : List Nat) : (gra raw O).length = O.length := by unfold gra; simp
theorem Cy (raw : List Nd) (O : List Nat) : wy (gra raw O) = GT.Sc (wy raw) O := by
  funext k
  unfold wy gra GT.Sc
  rw [List.getElem?_map]
  cases e : O[k]? with
  | none => rfl
  | some x =>
    simp only [Option.map_some]
    rw [Nd.gs_to, List.getD_eq_getElem?_getD]
    cases e2 : raw[x]? with
    | none => rfl
    | some d => rfl
theorem Zh1 {raw : List Nd} {O : List Nat} {n : Nat} (o : GT.Ord (wy raw) n O) : GT.Num (wy (gra raw O)) (gra raw O).length := by
  rw [Cy, Xw]; exact o.num
theorem Z75 {raw : List Nd} {O : List Nat} {n : Nat} (o : GT.Ord (wy raw) n O) (e : ND.Ends (wy raw) 0 O.reverse) : ND.Ends (wy (gra raw O)) 0 (List.range (gra raw O).length).reverse := by
  rw [Cy, Xw]
  have := ND.Sc (g' := GT.Sc (wy raw) O) e (fun i hi => ?_)
  · rw [List.length_reverse] at this; exact this
  · have hi' : i < O.length := by rwa [List.reverse_reverse] at hi
    simp only [List.reverse_reverse]
    unfold GT.Sc
    rw [List.getElem?_eq_getElem hi']
theorem Ze5 {raw : List Nd} {O : List Nat} (h : ∀ d ∈ raw, d.ok = true) : ∀ d ∈ gra raw O, d.ok = true := by
  intro d hd
  unfold gra at hd
  obtain ⟨x, _, rfl⟩ := List.mem_map.mp hd
  rw [Nd.ok_to, List.getD_eq_getElem?_getD]
  cases e : raw[x]? with
  | none => rfl
  | some d => exact h d (List.mem_of_getElem? e)
theorem Jl {raw : List Nd} {O : List Nat} {i x : Nat} {d : Nd} (h : O[i]? = some x) (hd : raw[x]? = some d) : (gra raw O)[i]? = some (d.to fun y => O.idxOf y) := by
  unfold gra
  rw [List.getElem?_map, h, Option.map_some, List.getD_eq_getElem?_getD, hd]
  rfl
theorem X7 {α : Type} {l : List α} {i : Nat} {x : α} (h : l[i]? = some x) : l.take (i + 1) = l.take i ++ [x] := by
  obtain ⟨h1, h2⟩ := List.getElem?_eq_some_iff.mp h
  rw [← h2]
  exact List.take_succ_eq_append_getElem h1
theorem Z61 {Γ G} (g7 : Γ[22]? = some Wp) : ∀ ds M Q Z, V5 ds M Q Z → tss ⟨K, Γ, G⟩ noX b_Lgraph { nx := fun _ M => Q .non M, rt := Q } (start0 Sq ds) M := by
  rintro ds M Q Z ⟨a, raw, rfl, hr, h0, h1, hg, hok, q⟩
  simp only [b_Lgraph, Sq]
  walk_at "ev"
  try simp only [g7]
  refine ⟨a, raw, rfl, hr, h0, h1, hg, fun O M1 ro ord ends kp hO hro => ?_⟩
  try walk_at "ev"
  have hOL := Z2 hO
  have aL := kp.L hr
  have ol := ord.le
  walk_at "ev"
  refine ⟨Z0 (by decide), _, Z4 hOL, ?_⟩
  try walk_at "ev"
  refine Vv (fun i σ M' => ∃ d3 d4, σ = [some (.ref a), some (.ref ro), some (.ref M1.length), d3, d4] ∧ M' = M1 ++ [.lst (((gra raw O).take i).map Nd.d)]) ⟨none, none, rfl, rfl⟩ ?_ ?_ ?_
  · rintro i σ M' _ ⟨d3, d4, rfl, rfl⟩
    exact Z4 hOL
  · rintro i dx σ M' C hx ⟨d3, d4, rfl, rfl⟩ hC
    have hi : i < O.length := by have := (List.getElem?_eq_some_iff.mp hx).1; rwa [Zk] at this
    rw [Y3 (List.getElem?_eq_getElem hi)] at hx
    cases hx
    have hxi : O[i]? = some O[i] := List.getElem?_eq_getElem hi
    generalize O[i] = x at hxi
    have hxn : x < raw.length := ord.lt x (List.mem_of_getElem? hxi)
    obtain ⟨d, hd⟩ : ∃ d, raw[x]? = some d := ⟨_, List.getElem?_eq_getElem hxn⟩
    have cl : ∀ y ∈ d.gs, y ∈ O := fun y hy => ord.cl x (List.mem_of_getElem? hxi) y (by rw [T8 hd]; exact hy)
    have fin : ∀ d3 d4, C [some (.ref a), some (.ref ro), some (.ref M1.length), d3, d4] (M1 ++ [.lst (((gra raw O).take i).map Nd.d ++ [(d.to fun y => O.idxOf y).d])]) := by
      intro d3 d4
      refine hC _ _ ⟨d3, d4, rfl, ?_⟩
      try walk_at "ev"
      rw [X7 (Jl hxi hd), List.map_append]
      rfl
    have len : (((gra raw O).take i).map Nd.d).length < sizeLine := by
      rw [List.length_map, List.length_take, Xw]
      exact Z6 (by omega)
    simp only [Qn]
    walk_at "ev"
    refine ix_l (Z4 aL) (Sy hd) ?_
    try walk_at "ev"
    have last : ∀ d3 v bk, v = (d.to fun y => O.idxOf y).d → tss ⟨K, Γ, G⟩ noX Td { nx := C, rt := Q, bk := bk, ct := C } [some (.ref a), some (.ref ro), some (.ref M1.length), d3, some v] (M1 ++ [.lst (((gra raw O).take i).map Nd.d)]) := by
      rintro d3 v bk rfl
      simp only [Td]
      walk_at "ev"
      refine ⟨Zf (Zb _ _ []), _, Ze _ _ [], len, ?_⟩
      try walk_at "ev"
      rw [Yo]
      exact fin _ _
    cases d with
    | sum nm o1 sg o2 t =>
      simp only [Nd.d]
      walk_at "ev"
      refine ⟨_, rfl, ?_⟩
      walk_at "ev"
      rw [show U.cutD [.str "sum", .str nm, o1.d, .str sg, o2.d, .int t] none (some 5) = [.str "sum", .str nm, o1.d, .str sg, o2.d] from rfl]
      refine ⟨by decide, Zf (Z4 hOL), _, rfl, Rp (Z4 hOL) (cl t (by simp [Nd.gs])) ?_⟩
      try walk_at "ev"
      refine ⟨Z0 (by decide), by simp, Z0 (by simp), ?_⟩
      try walk_at "ev"
      simp only [We]
      walk_at "ev"
      refine ⟨_, rfl, ?_⟩
      walk_at "ev"
      rw [if_neg (by decide +kernel)]
      try walk_at "ev"
      exact last _ _ _ rfl
    | test o1 sg o2 y n =>
      simp only [Nd.d]
      walk_at "ev"
      refine ⟨_, rfl, ?_⟩
      walk_at "ev"
      rw [if_neg (by decide +kernel)]
      try walk_at "ev"
      simp only [We]
      walk_at "ev"
      refine ⟨_, rfl, ?_⟩
      walk_at "ev"
      rw [show U.cutD [.str "test", o1.d, .str sg, o2.d, .int y, .int n] none (some 4) = [.str "test", o1.d, .str sg, o2.d] from rfl]
      refine ⟨by decide, Zf (Z4 hOL), _, rfl, Rp (Z4 hOL) (cl y (by simp [Nd.gs])) ?_⟩
      try walk_at "ev"
      refine ⟨Zf (Z4 hOL), _, rfl, Rp (Z4 hOL) (cl n (by simp [Nd.gs])) ?_⟩
      try walk_at "ev"
      refine ⟨Z0 (by decide), by simp, Z0 (by simp), ?_⟩
      try walk_at "ev"
      exact last _ _ _ rfl
    | fin =>
      simp only [Nd.d]
      walk_at "ev"
      refine ⟨_, rfl, ?_⟩
      walk_at "ev"
      rw [if_neg (by decide +kernel)]
      try walk_at "ev"
      simp only [We]
      walk_at "ev"
      refine ⟨_, rfl, ?_⟩
      walk_at "ev"
      rw [if_neg (by decide +kernel)]
      try walk_at "ev"
      exact last _ _ _ rfl
    | spin =>
      simp only [Nd.d]
      walk_at "ev"
      refine ⟨_, rfl, ?_⟩
      walk_at "ev"
      rw [if_neg (by decide +kernel)]
      try walk_at "ev"
      simp only [We]
      walk_at "ev"
      refine ⟨_, rfl, ?_⟩
      walk_at "ev"
      rw [if_neg (by decide +kernel)]
      try walk_at "ev"
      exact last _ _ _ rfl
  · rintro σ M' ⟨d3, d4, rfl, rfl⟩
    simp only [Qc]
    walk_at "ev"
    refine q (gra raw O) _ _ (Zh1 ord) (Z75 ord ends) (by rw [Xw]; exact ol) (Ze5 hok) (kp.app _) ?_ ?_
    · rw [show (natD O).length = (gra raw O).length by rw [Zk, Xw], List.take_length]
      exact Ze _ _ []
    · obtain ⟨L, rfl⟩ := kp; rw [List.length_append]; omega
end
noncomputable def begD (B : List Nat) : List (Key × D) := B.map fun (x : Nat) => ((Sum.inl (x : Int), D.bl true) : Key × D)
theorem Qy (B : List Nat) : (begD B).length = B.length := by unfold begD; simp
theorem Ji (B : List Nat) (y : Nat) : (valD (begD B) (Sum.inl (y : Int))).isSome = decide (y ∈ B) := by
  unfold valD begD
  induction B with
  | nil => rfl
  | cons x r ih =>
    rw [List.map_cons, List.find?_cons]
    by_cases e : x = y
    · subst e; simp
    · have : decide ((Sum.inl (x : Int) : Key) = Sum.inl (y : Int)) = false := by
        rw [decide_eq_false_iff_not]; intro z; exact e (by have := Sum.inl.inj z; omega)
      rw [this]
      simp only
      rw [ih]
      have e' : ¬ y = x := fun z => e z.symm
      simp [e']
theorem Pq {B : List Nat} {y : Nat} (h : ¬ y ∈ B) : putD (begD B) (Sum.inl (y : Int)) (.bl true) = begD (B ++ [y]) := by
  unfold putD
  rw [if_neg]
  try walk_at "ev"
  · unfold begD; rw [List.map_append]; rfl
  · intro z
    obtain ⟨kv, h1, h2⟩ := List.any_eq_true.mp z
    unfold begD at h1
    obtain ⟨x, hx, rfl⟩ := List.mem_map.mp h1
    rw [decide_eq_true_eq] at h2
    have := Sum.inl.inj h2
    have e : x = y := by omega
    exact h (e ▸ hx)
noncomputable def opD (b : Nat) (O : List (Nat × Nat × List Nat)) : List D := O.map fun p => .tup [.int (p.1 : Nat), .ref (b + 3 + p.2.1)]
theorem Z07 (b : Nat) (O : List (Nat × Nat × List Nat)) : (opD b O).length = O.length := by unfold opD; simp
theorem V9 (b : Nat) (O : List (Nat × Nat × List Nat)) (x j : Nat) (r : List Nat) : opD b (O ++ [(x, j, r)]) = opD b O ++ [.tup [.int (x : Nat), .ref (b + 3 + j)]] := by unfold opD; rw [List.map_append]; rfl
noncomputable def toW (O : List (Nat × Nat × List Nat)) : List (Nat × List Nat) := O.reverse.map fun p => (p.1, p.2.2)
theorem T3 (O : List (Nat × Nat × List Nat)) (x j : Nat) (r : List Nat) : toW (O ++ [(x, j, r)]) = (x, r) :: toW O := by unfold toW; rw [List.reverse_append]; rfl
structure Lay (L : Z1) (O : List (Nat × Nat × List Nat)) : Prop where
  at_ : ∀ p ∈ O, L[p.2.1]? = some (.lst (natD p.2.2.reverse))
  nd : (O.map (·.2.1)).Nodup
theorem Lay.app {L : Z1} {O : List (Nat × Nat × List Nat)} (h : Lay L O) (N : Z1) : Lay (L ++ N) O :=
  ⟨fun p hp => by have := h.at_ p hp; rw [List.getElem?_append_left (List.getElem?_eq_some_iff.mp this).1]; exact this, h.nd⟩
theorem Lay.init {L : Z1} {O : List (Nat × Nat × List Nat)} {q : Nat × Nat × List Nat} (h : Lay L (O ++ [q])) : Lay L O :=
  ⟨fun p hp => h.at_ p (List.mem_append_left _ hp), by have := h.nd; rw [List.map_append] at this; exact (List.nodup_append.mp this).1⟩
theorem Lay.down {L : Z1} {O : List (Nat × Nat × List Nat)} {x j : Nat} {r r' : List Nat} (h : Lay L (O ++ [(x, j, r)])) : Lay (L.set j (.lst (natD r'.reverse))) (O ++ [(x, j, r')]) := by
  have nd := h.nd
  rw [List.map_append] at nd
  refine ⟨fun p hp => ?_, by rw [List.map_append]; exact nd⟩
  try walk_at "ev"
  have hj : j < L.length := (List.getElem?_eq_some_iff.mp (h.at_ (x, j, r) (by simp))).1
  rcases List.mem_append.mp hp with hp | hp
  · have ne : j ≠ p.2.1 := fun e => (List.nodup_append.mp nd).2.2 p.2.1 (List.mem_map.mpr ⟨p, hp, rfl⟩) j (by simp) e.symm
    rw [List.getElem?_set_ne ne]
    exact h.at_ p (List.mem_append_left _ hp)
  · rw [List.mem_singleton] at hp
    subst hp
    rw [List.getElem?_set_self hj]
theorem Lay.up {L : Z1} {O : List (Nat × Nat × List Nat)} {x : Nat} {r : List Nat} (h : Lay L O) : Lay (L ++ [.lst (natD r.reverse)]) (O ++ [(x, L.length, r)]) := by
  refine ⟨fun p hp => ?_, ?_⟩
  · rcases List.mem_append.mp hp with hp | hp
    · exact (h.app _).at_ p hp
    · rw [List.mem_singleton] at hp
      subst hp
      simp
  · rw [List.map_append]
    refine List.nodup_append.mpr ⟨h.nd, by simp, fun a ha c hc => ?_⟩
    try walk_at "ev"
    obtain ⟨p, hp, rfl⟩ := List.mem_map.mp ha
    have := (List.getElem?_eq_some_iff.mp (h.at_ p hp)).1
    have hc : c = L.length := by simpa using hc
    omega
theorem Q8 {M : Z1} {x y : Nat} {l : List Nat} {B : Bool → Prop} (h1 : Z7 M x = some (natD l)) (h2 : Z7 M y = some []) (q : B l.isEmpty) : eqD M (.ref x) (.ref y) B := by
  have pd : ∀ l : List Nat, PDs M (l.map fun (x : Nat) => PyData.int (x : Int)) (natD l) := by
    intro l
    induction l with
    | nil => rfl
    | cons x r ih => exact ⟨_, _, rfl, rfl, ih⟩
  have lay : ∀ l : List Nat, PyData.canLayAll0 (l.map fun (x : Nat) => PyData.int (x : Int)) = true := by
    intro l
    induction l with
    | nil => rw [List.map_nil, PyData.canLayAll0]
    | cons x r ih => rw [List.map_cons]; unfold PyData.canLayAll0; rw [ih]; rfl
  refine .inl ⟨.list (l.map fun (x : Nat) => PyData.int (x : Int)), .list [], ⟨x, _, rfl, h1, pd l⟩, ⟨y, _, rfl, h2, rfl⟩, lay l, rfl, ?_, ?_⟩
  · exact Nat.le_trans (Nat.min_le_right _ _) (by decide)
  · cases l with
    | nil => exact q
    | cons p r => exact q
theorem Pf {α : Type} (xs : List α) (d : α) : atI (xs ++ [d]) (-1) = some d := by
  have h : ixN (xs ++ [d]).length (-1) = some xs.length := by
    unfold ixN
    rw [if_neg (by omega), if_pos (by rw [List.length_append, List.length_singleton]; omega)]
    try walk_at "ev"
    congr 1
    rw [List.length_append, List.length_singleton]
    omega
  unfold atI
  rw [h]
  simp
noncomputable def gw (gs : List (List Nat)) (y : Nat) : List Nat := (gs.getD y []).reverse
def Zg : DSp := fun ds M Q _ => ∃ (a b x : Nat) (gs : List (List Nat)), ds = [.ref a, .ref b] ∧ Z7 M a = some (gs.map fun l => .tup (natD l)) ∧ Z7 M b = some [.int (x : Nat)] ∧ x < gs.length ∧ gs.length ≤ 2000 ∧ (∀ l ∈ gs, l.length ≤ 2 ∧ ∀ t ∈ l, t < gs.length) ∧
  ∀ d M' r, ND.Ends (gw gs) x d → Kp M M' → Za M' r = some (natD d.reverse) → M.length ≤ r → Q (.ref r) M'
section
variable {K : PySem.W.Frag}
theorem Cw {Γ G} {M : Z1} {a b x0 : Nat} {gs : List (List Nat)} (hr : Z7 M a = some (gs.map fun l => .tup (natD l))) (h1 : gs.length ≤ 2000) (hg : ∀ l ∈ gs, l.length ≤ 2 ∧ ∀ t ∈ l, t < gs.length)
    {B F : List Nat} {O : List (Nat × Nat × List Nat)} {x j : Nat} {r : List Nat} {L : Z1} {Q : DK} {C bk : DEnv → Z1 → Prop} {d4 d6 d7 d8 : Option D} (ok : ND.Ok (gw gs) x0 ⟨B, toW (O ++ [(x, j, r)]), F⟩) (i : ND.In (· < gs.length) ⟨B, toW (O ++ [(x, j, r)]), F⟩) (lay : Lay L (O ++ [(x, j, r)]))
    (q : ∀ B2 O2 F2 L2 d6 d7 d8, ND.stp (gw gs) ⟨B, toW (O ++ [(x, j, r)]), F⟩ = ⟨B2, toW O2, F2⟩ → Lay L2 O2 → C [some (.ref a), some (.ref b), some (.ref M.length), some (.ref (M.length + 1)), d4, some (.ref (M.length + 2)), d6, d7, d8] (M ++ .dct (begD B2) :: .lst (natD F2) :: .lst (opD M.length O2) :: L2)) :
    tss ⟨K, Γ, G⟩ noX Tg { nx := C, rt := Q, bk := bk, ct := C } [some (.ref a), some (.ref b), some (.ref M.length), some (.ref (M.length + 1)), d4, some (.ref (M.length + 2)), d6, d7, d8] (M ++ .dct (begD B) :: .lst (natD F) :: .lst (opD M.length (O ++ [(x, j, r)])) :: L) := by
  have rO : ∀ bb f o N', Z7 (M ++ .dct bb :: .lst f :: .lst o :: N') (M.length + 2) = some o := fun bb f o N' => by rw [Zl]; rfl
  have wO : ∀ bb f o N', Za (M ++ .dct bb :: .lst f :: .lst o :: N') (M.length + 2) = some o := fun bb f o N' => by rw [Zn]; rfl
  have rF : ∀ bb f N', Z7 (M ++ .dct bb :: .lst f :: N') (M.length + 1) = some f := fun bb f N' => by rw [Zl]; rfl
  have wF : ∀ bb f N', Za (M ++ .dct bb :: .lst f :: N') (M.length + 1) = some f := fun bb f N' => by rw [Zn]; rfl
  have rB : ∀ bb N', Y4 (M ++ .dct bb :: N') M.length = some bb := fun bb N' => Xd _ _ _
  have hj := lay.at_ (x, j, r) (by simp)
  have wJ : ∀ bb f o N', Za (M ++ .dct bb :: .lst f :: .lst o :: (L ++ N')) (M.length + 3 + j) = some (natD r.reverse) := fun bb f o N' => by
    rw [Nat.add_assoc, Zn, Nat.add_comm 3 j]
    show Za (L ++ N') j = _
    unfold Za
    rw [List.getElem?_append_left (List.getElem?_eq_some_iff.mp hj).1, hj]
  simp only [Tg]
  walk_at "ev"
  have last : atI (opD M.length (O ++ [(x, j, r)])) (-1) = some (.tup [.int (x : Nat), .ref (M.length + 3 + j)]) := by
    rw [V9]; exact Pf _ _
  refine .inl ⟨_, -1, _, rfl, rO _ _ _ _, last, ?_⟩
  walk_at "ev"
  rw [List.append_assoc]
  simp only [List.cons_append]
  have el : (M ++ .dct (begD B) :: .lst (natD F) :: .lst (opD M.length (O ++ [(x, j, r)])) :: L).length = M.length + (L.length + 3) := by simp
  rw [el]
  have rE : ∀ bb f o, Z7 (M ++ .dct bb :: .lst f :: .lst o :: (L ++ [.lst []])) (M.length + (L.length + 3)) = some [] := fun bb f o => by rw [Zl]; exact Zb L _ []
  refine ⟨Z0 (by decide), Q8 (Z2 (wJ _ _ _ _)) (rE _ _ _) ?_⟩
  try walk_at "ev"
  have room : (toW (O ++ [(x, j, r)])).length + F.length ≤ gs.length := by
    have := ND.Xe gs.length _ ok.nd fun y hy => by
      rcases List.mem_append.mp hy with hy | hy
      · obtain ⟨p, hp, rfl⟩ := List.mem_map.mp hy
        exact (i.s p hp).1
      · exact i.d y hy
    rw [List.length_append, List.length_map] at this
    exact this
  have lw : ∀ O, (toW O).length = O.length := fun O => by unfold toW; simp
  rw [lw, List.length_append, List.length_singleton] at room
  have roomB : B.length ≤ gs.length := ND.Xe gs.length B ok.nb i.b
  have tS := T3 O x j r
  cases r with
  | nil =>
    rw [if_pos (by simp)]
    try walk_at "ev"
    refine ⟨Zf (rF _ _ _), _, wF _ _ _, by rw [Zk]; exact Z6 (by omega), ?_⟩
    try walk_at "ev"
    rw [Y7, ← Yq]
    simp only [List.set_cons_succ, List.set_cons_zero]
    refine ⟨Zf (rO _ _ _ _), _, .tup [.int (x : Nat), .ref (M.length + 3 + j)], wO _ _ _ _, by rw [V9]; simp, ?_⟩
    try walk_at "ev"
    rw [Y7, V9, List.dropLast_concat]
    simp only [List.set_cons_succ, List.set_cons_zero]
    exact q B O (F ++ [x]) _ _ _ _ (by rw [tS]; rfl) (lay.init.app _)
  | cons t r =>
    rw [if_neg (by simp)]
    try walk_at "ev"
    have eR : natD (t :: r).reverse = natD r.reverse ++ [.int (t : Nat)] := by rw [List.reverse_cons]; exact Yq _ _
    refine ⟨Zf (Z2 (wJ _ _ _ _)), _, .int (t : Nat), wJ _ _ _ _, by rw [eR]; simp, ?_⟩
    try walk_at "ev"
    rw [eR, List.dropLast_concat]
    have sJ : ∀ bb f o c, (M ++ .dct bb :: .lst f :: .lst o :: (L ++ [.lst []]) : Z1).set (M.length + 3 + j) c = M ++ .dct bb :: .lst f :: .lst o :: (L.set j c ++ [.lst []]) := fun bb f o c => by
      rw [Nat.add_assoc, Y7, Nat.add_comm 3 j]
      simp only [List.set_cons_succ]
      rw [List.set_append_left _ _ (List.getElem?_eq_some_iff.mp hj).1]
    rw [sJ]
    walk_at "ev"
    have hx := i.s (x, t :: r) (by rw [tS]; exact List.mem_cons_self)
    have htn : t < gs.length := hx.2 t List.mem_cons_self
    have ld := (lay.down (r' := r)).app [.lst []]
    have eO : opD M.length (O ++ [(x, j, t :: r)]) = opD M.length (O ++ [(x, j, r)]) := by rw [V9, V9]
    rw [eO]
    generalize hL' : L.set j (.lst (natD r.reverse)) ++ [.lst []] = L' at ld
    refine .inr ⟨begD B, _, rB _ _, rfl, ?_⟩
    try walk_at "ev"
    rw [Ji]
    by_cases hb : t ∈ B
    · rw [decide_eq_true hb]
      try dsimp only
      rw [if_neg (by decide)]
      try walk_at "ev"
      exact q B (O ++ [(x, j, r)]) F _ _ _ _ (by rw [tS, T3]; show (if t ∈ B then _ else _) = _; rw [if_pos hb]) ld
    · rw [decide_eq_false hb]
      try dsimp only
      rw [if_pos rfl]
      try walk_at "ev"
      have hB1 : (B ++ [t]).length ≤ gs.length := ND.Xe gs.length (B ++ [t]) (List.nodup_append.mpr ⟨ok.nb, by simp, fun a ha c hc => by rw [List.mem_singleton] at hc; subst hc; exact fun e => hb (e ▸ ha)⟩) fun u hu => by
        rcases List.mem_append.mp hu with hu | hu
        · exact i.b u hu
        · rw [List.mem_singleton] at hu; subst hu; exact htn
      rw [List.length_append, List.length_singleton] at hB1
      refine .inr ⟨begD B, _, rB _ _, rfl, by rw [Qy]; exact Z6 (by omega), ?_⟩
      try walk_at "ev"
      rw [Pq hb, Yo]
      obtain ⟨l, hl⟩ : ∃ l, gs[t]? = some l := ⟨_, List.getElem?_eq_getElem htn⟩
      have el2 : (M ++ .dct (begD (B ++ [t])) :: .lst (natD F) :: .lst (opD M.length (O ++ [(x, j, r)])) :: L').length = M.length + 3 + L'.length := by simp; omega
      refine ⟨Zf (rO _ _ _ _), ix_l (k := t) (Z4 hr) (by rw [List.getElem?_map, hl]; rfl) ⟨natD l, rfl, Z0 (by decide), ?_⟩⟩
      rw [List.append_assoc]
      simp only [List.cons_append]
      refine ⟨_, wO _ _ _ _, by rw [Z07, List.length_append, List.length_singleton]; exact Z6 (by omega), ?_⟩
      try walk_at "ev"
      rw [Y7, el2]
      simp only [List.set_cons_succ, List.set_cons_zero]
      have eg : (gw gs t).reverse = l := by unfold gw; rw [List.reverse_reverse, List.getD_eq_getElem?_getD, hl]; rfl
      have eo : opD M.length (O ++ [(x, j, r)]) ++ [.tup [.int (t : Nat), .ref (M.length + 3 + L'.length)]] = opD M.length (O ++ [(x, j, r)] ++ [(t, L'.length, gw gs t)]) := (V9 _ _ _ _ _).symm
      rw [eo]
      have lu := ld.up (x := t) (r := gw gs t)
      rw [eg] at lu
      exact q (B ++ [t]) (O ++ [(x, j, r)] ++ [(t, L'.length, gw gs t)]) F _ _ _ _ (by rw [tS, T3, T3]; show (if t ∈ B then _ else _) = _; rw [if_neg hb]) lu
theorem Zt1 {gs : List (List Nat)} (hg : ∀ l ∈ gs, l.length ≤ 2 ∧ ∀ t ∈ l, t < gs.length) (y : Nat) : (gw gs y).length ≤ 2 ∧ ∀ t ∈ gw gs y, t < gs.length := by
  unfold gw
  rw [List.getD_eq_getElem?_getD]
  cases e : gs[y]? with
  | none => simp
  | some l =>
    obtain ⟨h1, h2⟩ := hg l (List.mem_of_getElem? e)
    exact ⟨by simpa using h1, fun t ht => h2 t (by simpa using ht)⟩
theorem Za2 {Γ G} : ∀ ds M Q Z, Zg ds M Q Z → tss ⟨K, Γ, G⟩ noX b_walked { nx := fun _ M => Q .non M, rt := Q } (start0 Sv ds) M := by
  rintro ds M Q Z ⟨a, b, x, gs, rfl, hr, hb, hx, h1, hg, q⟩
  have two := Zt1 hg
  simp only [b_walked, Sv]
  walk_at "ev"
  rw [List.append_assoc, List.cons_append, List.nil_append, List.length_append, List.length_cons, List.length_nil]
  refine ⟨Z0 (by decide), _, Z4 hb, ?_⟩
  try walk_at "ev"
  refine Vv (fun i σ M' => (i = 0 ∧ σ = [some (.ref a), some (.ref b), some (.ref M.length), some (.ref (M.length + 1)), none, none, none, none, none] ∧ M' = M ++ [.dct [], .lst []]) ∨
      (i = 1 ∧ ∃ B F L d4 d5 d6 d7 d8, σ = [some (.ref a), some (.ref b), some (.ref M.length), some (.ref (M.length + 1)), d4, d5, d6, d7, d8] ∧ M' = M ++ .dct (begD B) :: .lst (natD F) :: L ∧ ND.Ends (gw gs) x F)) (.inl ⟨rfl, rfl, rfl⟩) ?_ ?_ ?_
  · rintro i σ M' _ (⟨rfl, rfl, rfl⟩ | ⟨rfl, B, F, L, d4, d5, d6, d7, d8, rfl, rfl, _⟩)
    · exact Z4 hb
    · exact Z4 hb
  · rintro i dx σ M' C hxi (⟨rfl, rfl, rfl⟩ | ⟨rfl, _⟩) hC
    · cases hxi
      simp only [Qo]
      walk_at "ev"
      have e2 : (M ++ [.dct [], .lst []] : Z1).length = M.length + 2 := by simp
      have e1 : (M ++ [.dct [], .lst []] ++ [.lst []] : Z1) = M ++ .dct (begD []) :: .lst (natD []) :: .lst (opD M.length []) :: [] := by rw [List.append_assoc]; rfl
      rw [e1, e2]
      refine ⟨Z0 (by decide), .inr ⟨begD [], _, Xd _ _ _, rfl, ?_⟩⟩
      try walk_at "ev"
      rw [Ji, decide_eq_false (by simp)]
      try dsimp only
      rw [if_pos rfl]
      try walk_at "ev"
      obtain ⟨l, hl⟩ : ∃ l, gs[x]? = some l := ⟨_, List.getElem?_eq_getElem hx⟩
      refine .inr ⟨begD [], _, Xd _ _ _, rfl, by rw [Qy]; exact Z6 (by simp), ?_⟩
      try walk_at "ev"
      rw [Pq (by simp), Yo]
      refine ⟨Zf (by rw [Zl]; rfl), ix_l (k := x) (Z4 hr) (by rw [List.getElem?_map, hl]; rfl) ⟨natD l, rfl, Z0 (by decide), ?_⟩⟩
      rw [List.append_assoc]
      simp only [List.cons_append, List.nil_append]
      refine ⟨_, by rw [Zn]; rfl, by rw [Z07]; exact Z6 (by simp), ?_⟩
      try walk_at "ev"
      rw [Y7]
      simp only [List.set_cons_succ, List.set_cons_zero]
      have el2 : (M ++ [.dct (begD [x]), .lst (natD []), .lst (opD M.length [])] : Z1).length = M.length + 3 + 0 := by simp
      rw [el2]
      have eg : (gw gs x).reverse = l := by unfold gw; rw [List.reverse_reverse, List.getD_eq_getElem?_getD, hl]; rfl
      have eo : opD M.length [] ++ [.tup [.int (x : Nat), .ref (M.length + 3 + 0)]] = opD M.length [(x, 0, gw gs x)] := rfl
      rw [eo]
      simp only [Qk]
      walk_at "ev"
      have in0 : ND.In (· < gs.length) ⟨[x], [(x, gw gs x)], []⟩ := ⟨fun y hy => by rw [List.mem_singleton] at hy; subst hy; exact hx, fun p hp => by rw [List.mem_singleton] at hp; subst hp; exact ⟨hx, (two x).2⟩, fun y hy => by simp at hy⟩
      have inK : ∀ k, ND.In (· < gs.length) (ND.itr (gw gs) k ⟨[x], [(x, gw gs x)], []⟩) := fun k => by
        induction k with
        | zero => exact in0
        | succ k ih => exact ih.stp fun y _ t ht => (two y).2 t ht
      refine ⟨fun m σ M' => ∃ B O F L d6 d7 d8 k, m = ND.mea gs.length ⟨B, toW O, F⟩ ∧ σ = [some (.ref a), some (.ref b), some (.ref M.length), some (.ref (M.length + 1)), some (.int (x : Nat)), some (.ref (M.length + 2)), d6, d7, d8] ∧ M' = M ++ .dct (begD B) :: .lst (natD F) :: .lst (opD M.length O) :: L ∧ ND.itr (gw gs) k ⟨[x], [(x, gw gs x)], []⟩ = ⟨B, toW O, F⟩ ∧ Lay L O,
        ⟨_, [x], [(x, 0, gw gs x)], [], [.lst (natD l)], none, none, none, 0, rfl, rfl, rfl, rfl, by rw [← eg]; exact ⟨fun p hp => by rw [List.mem_singleton] at hp; subst hp; rfl, by simp⟩⟩, ?_⟩
      rintro m σ M' ⟨B, O, F, L, d6, d7, d8, k, rfl, rfl, rfl, ek, lay⟩
      walk_at "ev"
      have ok := (ND.Ok.begin (gw gs) x).itr k
      have inn := inK k
      rw [ek] at ok inn
      refine .inl ⟨opD M.length O, by rw [Zl]; rfl, ?_⟩
      try walk_at "ev"
      try dsimp only
      by_cases hO : O = []
      · subst hO
        rw [if_neg (by simp [opD])]
        try walk_at "ev"
        exact hC _ _ (.inr ⟨rfl, B, F, _, _, _, _, _, _, rfl, rfl, k, B, ek⟩)
      · have hne : (!(opD M.length O).isEmpty) = true := by
          cases O with
          | nil => exact absurd rfl hO
          | cons _ _ => rfl
        rw [if_pos (by simpa using hne)]
        try walk_at "ev"
        obtain ⟨O', ⟨y, j, r⟩, rfl⟩ : ∃ O' p, O = O' ++ [p] := ⟨O.dropLast, O.getLast hO, (List.dropLast_concat_getLast hO).symm⟩
        refine Cw hr h1 hg ok inn lay fun B2 O2 F2 L2 d6 d7 d8 es lay2 => ?_
        try walk_at "ev"
        refine ⟨ND.mea gs.length ⟨B2, toW O2, F2⟩, ?_, B2, O2, F2, L2, d6, d7, d8, k + 1, rfl, rfl, rfl, ?_, lay2⟩
        · rw [← es]
          exact ND.Zk4 ok inn (fun y => (two y).1) (by rw [T3]; simp)
        · show ND.stp (gw gs) (ND.itr (gw gs) k _) = _
          rw [ek, es]
    · simp at hxi
  · rintro σ M' (⟨h, _⟩ | ⟨_, B, F, L, d4, d5, d6, d7, d8, rfl, rfl, en⟩)
    · simp at h
    · simp only [Q9]
      walk_at "ev"
      have wF : Za (M ++ .dct (begD B) :: .lst (natD F) :: L) (M.length + 1) = some (natD F) := by rw [Zn]; rfl
      refine ⟨Zf (Z2 wF), _, wF, ?_⟩
      try walk_at "ev"
      rw [Y7]
      simp only [List.set_cons_succ, List.set_cons_zero]
      refine q F _ _ en (Kp.new _ _) ?_ (by omega)
      try walk_at "ev"
      rw [Zn]
      show some (natD F).reverse = _
      unfold natD
      rw [List.map_reverse]
end
def Zs : DSp := fun ds M Q _ => ∃ d : Nd, ds = [d.d] ∧ Q (.tup (natD d.gs.reverse)) M
def Zz : DSp := fun ds M Q _ => ∃ (d : Nd) (f : Nat → Nat) (g : Nat), ds = [d.d, .ref g] ∧ Z7 M g = some (natD (d.gs.reverse.map f)) ∧ Q (d.to f).d M
def Z8 : DSp := fun ds M Q _ => ∃ (a b : Nat) (nds : List Nd) (O : List Nat), ds = [.ref a, .ref b] ∧ Z7 M a = some (nds.map Nd.d) ∧ Z7 M b = some (natD O) ∧ O.Nodup ∧ O.length ≤ 2000 ∧ (∀ x ∈ O, x < nds.length) ∧ (∀ x ∈ O, ∀ t ∈ wy nds x, t ∈ O) ∧
  ∀ M' r, Kp M M' → Za M' r = some ((gra nds O).map Nd.d) → M.length ≤ r → Q (.ref r) M'
noncomputable def numP (O : List Nat) : List (Key × D) := O.mapIdx fun i (x : Nat) => ((Sum.inl (x : Int), D.int (i : Nat)) : Key × D)
theorem Rv (O : List Nat) (y : Nat) : numP (O ++ [y]) = numP O ++ [(Sum.inl (y : Int), D.int (O.length : Nat))] := by unfold numP; rw [List.mapIdx_append]; simp
theorem Sk (O : List Nat) : (numP O).length = O.length := by unfold numP; simp
theorem Gc (m : List (Key × D)) (k j : Key) (v : D) : valD (putD m k v) j = if k = j then some v else valD m j := by
  unfold putD
  split
  · rename_i h
    unfold valD
    induction m with
    | nil => simp at h
    | cons p r ih =>
      rw [List.map_cons, List.find?_cons, List.find?_cons]
      by_cases hp : p.1 = k
      · rw [if_pos hp]
        try walk_at "ev"
        by_cases hj : k = j
        · subst hj; simp [hp]
        · have : decide (p.1 = j) = false := by rw [decide_eq_false_iff_not, hp]; exact hj
          simp only [this]
          rw [if_neg hj]
          try walk_at "ev"
          by_cases hr : (r.any fun kv => decide (kv.1 = k)) = true
          · have := ih hr; rw [if_neg hj] at this; exact this
          · have hn : r.map (fun kv => if kv.1 = k then (kv.1, v) else kv) = r := by
              rw [List.map_congr_left (g := id)]
              · simp
              · intro kv hkv
                rw [if_neg]
                try walk_at "ev"
                · rfl
                · intro z; exact hr (List.any_eq_true.mpr ⟨kv, hkv, by simpa using z⟩)
            rw [hn]
      · rw [if_neg hp]
        try walk_at "ev"
        have hr : (r.any fun kv => decide (kv.1 = k)) = true := by simpa [hp] using h
        by_cases hj : p.1 = j
        · have : ¬ k = j := fun z => hp (hj.trans z.symm)
          simp [hj, this]
        · simp only [hj, decide_false]
          exact ih hr
  · rename_i h
    unfold valD
    rw [List.find?_append]
    by_cases hj : k = j
    · subst hj
      have : m.find? (fun kv => decide (kv.1 = k)) = none := by
        rw [List.find?_eq_none]
        intro kv hkv z
        exact h (List.any_eq_true.mpr ⟨kv, hkv, z⟩)
      rw [this]
      simp
    · rw [if_neg hj]
      try walk_at "ev"
      simp [hj]
theorem Ee (ps : List (Key × D)) (p : Key × D) : Vq (ps ++ [p]) = putD (Vq ps) p.1 p.2 := by unfold Vq; rw [List.foldl_append]; rfl
theorem Pd : ∀ (n : Nat) (O : List Nat), O.length = n → O.Nodup → ∀ x ∈ O, valD (Vq (numP O)) (Sum.inl (x : Int)) = some (.int (O.idxOf x : Nat))
  | 0, O, h, _, x, hx => by rw [List.length_eq_zero_iff.mp h] at hx; cases hx
  | n + 1, O, h, nd, x, hx => by
    have hne : O ≠ [] := by rintro rfl; cases h
    obtain ⟨O', y, rfl⟩ : ∃ O' y, O = O' ++ [y] := ⟨O.dropLast, O.getLast hne, (List.dropLast_concat_getLast hne).symm⟩
    rw [List.length_append, List.length_singleton] at h
    have nd' := List.nodup_append.mp nd
    rw [Rv, Ee, Gc]
    by_cases e : y = x
    · subst e
      rw [if_pos rfl]
      try walk_at "ev"
      have hn : y ∉ O' := fun z => nd'.2.2 y z y (by simp) rfl
      rw [List.idxOf_append, if_neg hn]
      simp
    · rw [if_neg (fun z => e (by have := Sum.inl.inj z; omega))]
      try walk_at "ev"
      have hx' : x ∈ O' := (List.mem_append.mp hx).resolve_right (by rw [List.mem_singleton]; exact fun z => e z.symm)
      rw [Pd n O' (by omega) nd'.1 x hx', List.idxOf_append, if_pos hx']
theorem T9 {xs : List D} {i : Nat} {d : D} (h : (Pn xs)[i]? = some d) : ∃ x, xs[i]? = some x ∧ d = .tup [.int (i : Nat), x] := by
  unfold Pn at h
  rw [List.getElem?_mapIdx, Option.map_eq_some_iff] at h
  obtain ⟨x, h1, rfl⟩ := h
  exact ⟨x, h1, rfl⟩
theorem Tc (xs : List D) : (Pn xs).length = xs.length := by unfold Pn; simp
section
variable {K : PySem.W.Frag}
theorem Zx5 {Γ G} : ∀ ds M Q Z, Zs ds M Q Z → tss ⟨K, Γ, G⟩ noX b_ways { nx := fun _ M => Q .non M, rt := Q } (start0 Jt ds) M := by
  rintro ds M Q Z ⟨d, rfl, q⟩
  simp only [b_ways, Jt]
  try walk_at "ev"
  cases d with
  | sum x a sg b t =>
    simp only [Nd.d]
    walk_at "ev"
    refine ⟨_, rfl, ?_⟩
    walk_at "ev"
    exact ⟨_, rfl, Z0 (by decide), q⟩
  | test a sg b y n =>
    simp only [Nd.d]
    walk_at "ev"
    refine ⟨_, rfl, ?_⟩
    walk_at "ev"
    rw [if_neg (by decide +kernel)]
    try walk_at "ev"
    simp only [Sh]
    walk_at "ev"
    refine ⟨_, rfl, ?_⟩
    walk_at "ev"
    exact ⟨_, rfl, _, rfl, Z0 (by decide), q⟩
  | fin =>
    simp only [Nd.d]
    walk_at "ev"
    refine ⟨_, rfl, ?_⟩
    walk_at "ev"
    rw [if_neg (by decide +kernel)]
    try walk_at "ev"
    simp only [Sh]
    walk_at "ev"
    refine ⟨_, rfl, ?_⟩
    walk_at "ev"
    rw [if_neg (by decide +kernel)]
    try walk_at "ev"
    simp only [O9]
    walk_at "ev"
    exact ⟨Z0 (by decide), q⟩
  | spin =>
    simp only [Nd.d]
    walk_at "ev"
    refine ⟨_, rfl, ?_⟩
    walk_at "ev"
    rw [if_neg (by decide +kernel)]
    try walk_at "ev"
    simp only [Sh]
    walk_at "ev"
    refine ⟨_, rfl, ?_⟩
    walk_at "ev"
    rw [if_neg (by decide +kernel)]
    try walk_at "ev"
    simp only [O9]
    walk_at "ev"
    exact ⟨Z0 (by decide), q⟩
theorem Zq5 {Γ G} : ∀ ds M Q Z, Zz ds M Q Z → tss ⟨K, Γ, G⟩ noX b_with_ways { nx := fun _ M => Q .non M, rt := Q } (start0 Ws ds) M := by
  rintro ds M Q Z ⟨d, f, g, rfl, hg, q⟩
  simp only [b_with_ways, Ws]
  try walk_at "ev"
  cases d with
  | sum x a sg b t =>
    simp only [Nd.d]
    walk_at "ev"
    refine ⟨_, rfl, ?_⟩
    walk_at "ev"
    rw [show U.cutD [.str "sum", .str x, a.d, .str sg, b.d, .int t] none (some 5) = [.str "sum", .str x, a.d, .str sg, b.d] from rfl]
    refine ⟨by decide, _, hg, by simp [Nd.gs, natD], Z0 (by simp [Nd.gs, natD]), q⟩
  | test a sg b y n =>
    simp only [Nd.d]
    walk_at "ev"
    refine ⟨_, rfl, ?_⟩
    walk_at "ev"
    rw [if_neg (by decide +kernel)]
    try walk_at "ev"
    simp only [Xl]
    walk_at "ev"
    refine ⟨_, rfl, ?_⟩
    walk_at "ev"
    rw [show U.cutD [.str "test", a.d, .str sg, b.d, .int y, .int n] none (some 4) = [.str "test", a.d, .str sg, b.d] from rfl]
    refine ⟨by decide, _, hg, by simp [Nd.gs, natD], Z0 (by simp [Nd.gs, natD]), q⟩
  | fin =>
    simp only [Nd.d]
    walk_at "ev"
    refine ⟨_, rfl, ?_⟩
    walk_at "ev"
    rw [if_neg (by decide +kernel)]
    try walk_at "ev"
    simp only [Xl]
    walk_at "ev"
    refine ⟨_, rfl, ?_⟩
    walk_at "ev"
    rw [if_neg (by decide +kernel)]
    try walk_at "ev"
    simp only [Wo]
    walk_at "ev"
    exact q
  | spin =>
    simp only [Nd.d]
    walk_at "ev"
    refine ⟨_, rfl, ?_⟩
    walk_at "ev"
    rw [if_neg (by decide +kernel)]
    try walk_at "ev"
    simp only [Xl]
    walk_at "ev"
    refine ⟨_, rfl, ?_⟩
    walk_at "ev"
    rw [if_neg (by decide +kernel)]
    try walk_at "ev"
    simp only [Wo]
    walk_at "ev"
    exact q
theorem Fm {Γ G} (g0 : Γ[0]? = some Zs) (g1 : Γ[1]? = some Zz) : ∀ ds M Q Z, Z8 ds M Q Z → tss ⟨K, Γ, G⟩ noX b_numbered { nx := fun _ M => Q .non M, rt := Q } (start0 Vj ds) M := by
  rintro ds M Q Z ⟨a, b, nds, O, rfl, ha, hb, nd, hl, hlt, hcl, q⟩
  simp only [b_numbered, Vj]
  walk_at "ev"
  refine ⟨_, hb, ?_⟩
  try walk_at "ev"
  simp only [capD, List.map_cons, List.map_nil, Option.bind_none, Option.bind_some, List.getElem?_cons_zero, List.getElem?_cons_succ, Option.join_some]
  refine Wr (fun i σ M' => ∃ d1 d2, σ = [d1, d2] ∧ M' = M ++ [.lst (Xq (numP (O.take i)))]) ⟨none, none, rfl, rfl⟩ ?_ ?_ ?_
  · rintro i σ M' _ ⟨d1, d2, rfl, rfl⟩
    exact ⟨_, Z4 hb, rfl⟩
  · rintro i dx σ M' C hx ⟨d1, d2, rfl, rfl⟩ hC
    obtain ⟨y, hy, rfl⟩ := T9 hx
    have hi : i < O.length := by have := (List.getElem?_eq_some_iff.mp hy).1; rwa [Zk] at this
    have hgi : O[i]? = some O[i] := List.getElem?_eq_getElem hi
    generalize O[i] = z at hgi
    rw [Y3 hgi] at hy
    cases hy
    walk_at "ev"
    refine ⟨Z0 (by decide), _, Ze _ _ [], by unfold U.Xq; rw [List.length_map, Sk, List.length_take]; exact Z6 (by omega), ?_⟩
    try walk_at "ev"
    rw [Yo]
    refine hC _ _ ⟨_, _, rfl, ?_⟩
    try walk_at "ev"
    rw [X7 hgi, Rv, List.length_take, Nat.min_eq_left (by omega)]
    unfold U.Xq
    rw [List.map_append]
    rfl
  · rintro σ M' ⟨d1, d2, rfl, rfl⟩
    rw [Tc, Zk, List.take_length]
    try walk_at "ev"
    refine .inr ⟨numP O, Zb _ _ [], by rw [Sk]; exact Z6 (by omega), ?_⟩
    try walk_at "ev"
    have k1 : Kp M (M ++ [.lst (U.Xq (numP O))] ++ [.dct (Vq (numP O))]) := (Kp.new _ _).app _
    have hd1 : Y4 (M ++ [.lst (U.Xq (numP O))] ++ [.dct (Vq (numP O))]) (M ++ [Cell.lst (U.Xq (numP O))] : Z1).length = some (Vq (numP O)) := Xd _ _ []
    generalize M ++ [.lst (U.Xq (numP O))] ++ [.dct (Vq (numP O))] = M1 at k1 hd1
    generalize (M ++ [Cell.lst (U.Xq (numP O))] : Z1).length = nn at hd1
    have ha1 := k1.L ha
    have hb1 := k1.L hb
    refine ⟨_, hb1, ?_⟩
    try walk_at "ev"
    refine Wr (fun i σ M' => ∃ d1 N, σ = [d1, some (.ref a), some (.ref nn)] ∧ M' = M1 ++ .lst (((gra nds O).take i).map Nd.d) :: N) ⟨none, [], rfl, rfl⟩ ?_ ?_ ?_
    · rintro i σ M' _ ⟨d1, N, rfl, rfl⟩
      exact Z4 hb1
    · rintro i dx σ M' C hx ⟨d1, N, rfl, rfl⟩ hC
      have hi : i < O.length := by have := (List.getElem?_eq_some_iff.mp hx).1; rwa [Zk] at this
      have hgi : O[i]? = some O[i] := List.getElem?_eq_getElem hi
      generalize O[i] = x at hgi
      rw [Y3 hgi] at hx
      cases hx
      have hxO := List.mem_of_getElem? hgi
      obtain ⟨d, hd⟩ : ∃ d, nds[x]? = some d := ⟨_, List.getElem?_eq_getElem (hlt x hxO)⟩
      have two := d.gs_two
      walk_at "ev"
      refine ix_l (Z4 ha1) (Sy hd) (ix_l (Z4 ha1) (Sy hd) ?_)
      try walk_at "ev"
      try simp only [g0, g1]
      refine ⟨d, rfl, ?_⟩
      walk_at "ev"
      rw [List.append_assoc]
      simp only [List.cons_append]
      have el : (M1 ++ .lst (((gra nds O).take i).map Nd.d) :: N).length = M1.length + (N.length + 1) := by simp
      rw [el]
      refine Wr (fun j σ M' => ∃ d1, σ = [d1, some (.ref nn)] ∧ M' = M1 ++ .lst (((gra nds O).take i).map Nd.d) :: (N ++ [.lst (natD ((d.gs.reverse.take j).map fun y => O.idxOf y))])) ⟨none, rfl, rfl⟩ (fun _ _ _ _ _ => trivial) ?_ ?_
      · rintro j dx σ M' C2 hx ⟨d1, rfl, rfl⟩ hC2
        have hj : j < d.gs.reverse.length := by have := (List.getElem?_eq_some_iff.mp hx).1; rwa [Zk] at this
        have hgj : d.gs.reverse[j]? = some d.gs.reverse[j] := List.getElem?_eq_getElem hj
        generalize d.gs.reverse[j] = y at hgj
        rw [Y3 hgj] at hx
        cases hx
        have hyO : y ∈ O := hcl x hxO y (by rw [T8 hd]; exact List.mem_reverse.mp (List.mem_of_getElem? hgj))
        walk_at "ev"
        refine ix_d (Wz hd1) rfl (Pd _ O rfl nd y hyO) ?_
        try walk_at "ev"
        have rd : ∀ c, Za (M1 ++ .lst (((gra nds O).take i).map Nd.d) :: (N ++ [.lst c])) (M1.length + (N.length + 1)) = some c := fun c => by rw [Zn]; exact Ze N _ []
        refine ⟨_, rd _, by rw [Zk, List.length_map, List.length_take]; rw [List.length_reverse] at hj ⊢; exact Z6 (by omega), ?_⟩
        try walk_at "ev"
        rw [Y7, List.set_cons_succ, Yo, ← Yq]
        refine hC2 _ _ ⟨_, rfl, ?_⟩
        try walk_at "ev"
        rw [X7 hgj, List.map_append]
        rfl
      · rintro σ M' ⟨d1, rfl, rfl⟩
        rw [Zk, List.take_length]
        refine ⟨d, fun y => O.idxOf y, _, rfl, by rw [Zl]; exact Zb N _ [], ?_⟩
        try walk_at "ev"
        refine ⟨_, Ze _ _ _, by rw [List.length_map, List.length_take, Xw]; exact Z6 (by omega), ?_⟩
        try walk_at "ev"
        rw [Yo]
        refine hC _ _ ⟨_, N ++ [.lst (natD (d.gs.reverse.map fun y => O.idxOf y))], rfl, ?_⟩
        try walk_at "ev"
        rw [X7 (Jl hgi hd), List.map_append]
        rfl
    · rintro σ M' ⟨d1, N, rfl, rfl⟩
      try walk_at "ev"
      refine q _ _ (k1.app _) ?_ ?_
      · rw [Zk, ← Xw nds O, List.take_length]
        exact Ze _ _ _
      · obtain ⟨X, rfl⟩ := k1; rw [List.length_append]; omega
end
inductive Rw where
  | sum (k : Nat) (x : Str) (a : Opd) (sg : Str) (b : Opd) | test (k : Nat) (a : Opd) (sg : Str) (b : Opd) (g : Nat) | jump (k g : Nat) | fin (k : Nat)
noncomputable def Rw.d : Rw → D
  | .sum k x a sg b => .tup [.int k, .str "sum", .str x, a.d, .str sg, b.d]
  | .test k a sg b g => .tup [.int k, .str "test", a.d, .str sg, b.d, .int g]
  | .jump k g => .tup [.int k, .str "jump", .int g]
  | .fin k => .tup [.int k, .str "end"]
def JOf (rows : List Rw) (pl : List (Key × D)) (J : Nat → Option Nat) : Prop := ∀ p r, rows[p]? = some r → match r with
  | Rw.jump _ g => ∃ q, J p = some q ∧ q < rows.length ∧ valD pl (Sum.inl (g : Int)) = some (D.int (q : Nat))
  | _ => J p = none
def LanD (kvs : List (Key × D)) (m : Nat → Option Nat) : Prop := ∀ p : Nat, valD kvs (Sum.inl (p : Int)) = (m p).map fun (g : Nat) => D.int (g : Int)
theorem LanD.put {kvs : List (Key × D)} {m : Nat → Option Nat} (h : LanD kvs m) (p g : Nat) : LanD (putD kvs (Sum.inl (p : Int)) (.int (g : Nat))) (fun x => if x = p then some g else m x) := by
  intro x
  rw [Gc]
  by_cases e : x = p
  · subst e; rw [if_pos rfl]; show _ = Option.map _ (if x = x then some g else m x); rw [if_pos rfl]; rfl
  · rw [if_neg (fun z => e (by have := Sum.inl.inj z; omega))]; show _ = Option.map _ (if x = p then some g else m x); rw [if_neg e]; exact h x
    try walk_at "ev"
theorem Fc (m : List (Key × D)) (k : Key) (v : D) : (putD m k v).length ≤ m.length + 1 := by
  unfold putD
  split
  · rw [List.length_map]; omega
  · rw [List.length_append, List.length_singleton]; exact Nat.le_refl _
def Z9 : DSp := fun ds M Q _ => ∃ (a b : Nat) (rows : List Rw) (pl : List (Key × D)) (J : Nat → Option Nat), ds = [.ref a, .ref b] ∧ Z7 M a = some (rows.map Rw.d) ∧ Y4 M b = some pl ∧ rows.length ≤ 2000 ∧ JOf rows pl J ∧
  ∀ kvs m M', LanD kvs m → LN.Ln J rows.length m → (∀ p, p < rows.length → (m p).isSome = true) → Kp M M' → Y4 M' M.length = some kvs → Q (.ref M.length) M'
theorem E5 {α : Type} {o : Option α} {x : α} (h : o = some x) : o.isSome = true := by rw [h]; rfl
theorem Zb5 (M N : Z1) (k : Nat) : (M ++ N)[M.length + k]? = N[k]? := by rw [List.getElem?_append_right (by omega), Nat.add_sub_cancel_left]
section
variable {K : PySem.W.Frag}
theorem Fz {Γ G} : ∀ ds M Q Z, Z9 ds M Q Z → tss ⟨K, Γ, G⟩ noX b_landings { nx := fun _ M => Q .non M, rt := Q } (start0 Vb ds) M := by
  rintro ds M Q Z ⟨a, b, rows, pl, J, rfl, ha, hb, hn, hJ, q⟩
  simp only [b_landings, Vb]
  walk_at "ev"
  refine Xa (Z4 ha) ⟨by omega, by rw [List.length_map]; omega, ?_⟩
  try walk_at "ev"
  rw [Int.toNat_natCast, List.length_map]
  refine Su (fun i σ M' => ∃ kvs m N d3 d4 d5 d6 d7, σ = [some (.ref a), some (.ref b), some (.ref M.length), d3, d4, d5, d6, d7] ∧ M' = M ++ .dct kvs :: N ∧ LanD kvs m ∧ LN.Ln J rows.length m ∧ (∀ p, p < i → (m p).isSome = true) ∧ kvs.length ≤ i * 3000)
    ⟨[], fun _ => none, [], none, none, none, none, none, rfl, rfl, fun p => rfl, (fun p g h => by cases h), (fun p h => by omega), Nat.zero_le _⟩ ?_ ?_
  · rintro i σ M' C hi ⟨kvs, m, N, d3, d4, d5, d6, d7, rfl, rfl, lan, ln, tot, hk⟩ hC
    have hrow : ∀ p, p < rows.length → ∃ r, rows[p]? = some r := fun p hp => ⟨_, List.getElem?_eq_getElem hp⟩
    simp only [Tw, Int.zero_add]
    walk_at "ev"
    rw [List.append_assoc, List.cons_append]
    have el : (M ++ .dct kvs :: N).length = M.length + (N.length + 1) := by simp
    rw [el]
    have rdP : ∀ kv c, Y4 (M ++ .dct kv :: (N ++ [.dct c])) (M.length + (N.length + 1)) = some c := fun kv c => by rw [Fe]; exact Xd N _ []
    have rdL : ∀ kv N', Y4 (M ++ .dct kv :: N') M.length = some kv := fun kv N' => Xd _ _ _
    refine ⟨fun w σ M' => ∃ (P : List Nat) (p : Nat), w = rows.length - P.length ∧ σ = [some (.ref a), some (.ref b), some (.ref M.length), some (.int (i : Nat)), some (.ref (M.length + (N.length + 1))), some (.int (p : Nat)), d6, d7] ∧ M' = M ++ .dct kvs :: (N ++ [.dct (begD P)]) ∧ LN.Lk J i P p ∧ P.Nodup ∧ (∀ x ∈ P, x < rows.length ∧ m x = none) ∧ p < rows.length,
      ⟨_, [], i, rfl, rfl, rfl, rfl, by simp, by simp, hi⟩, ?_⟩
    rintro w σ M' ⟨P, p, rfl, rfl, rfl, lk, nd, hP, hp⟩
    have hPl : P.length ≤ rows.length := ND.Xe rows.length P nd fun x hx => (hP x hx).1
    have hkb : kvs.length ≤ 6000000 := by
      have : i * 3000 ≤ 2000 * 3000 := Nat.mul_le_mul_right _ (by omega)
      omega
    obtain ⟨r, hr⟩ := hrow p hp
    have stop : ∀ bk, ((m p).isSome = true ∨ p ∈ P ∨ J p = none) → tss ⟨K, Γ, G⟩ noX V6 { nx := C, rt := Q, bk := bk, ct := C } [some (.ref a), some (.ref b), some (.ref M.length), some (.int (i : Nat)), some (.ref (M.length + (N.length + 1))), some (.int (p : Nat)), d6, d7] (M ++ .dct kvs :: (N ++ [.dct (begD P)])) := by
      intro bk hs
      obtain ⟨l1, l2, l3⟩ := ln.land lk hP hp hs
      simp only [V6]
      walk_at "ev"
      refine ⟨E5 (rdL _ _), kvs, _, rdL _ _, rfl, ?_⟩
      try walk_at "ev"
      have eg : ((valD kvs (Sum.inl (p : Int))).getD (.int (p : Nat))) = .int ((m p).getD p : Nat) := by rw [lan p]; cases m p <;> rfl
      rw [eg]
      generalize hg : (m p).getD p = g at l1 l2 l3
      refine .inr ⟨kvs, _, rdL _ _, rfl, Z6 (by omega), ?_⟩
      try walk_at "ev"
      rw [Yo]
      refine ⟨begD P, rdP _ _, ?_⟩
      try walk_at "ev"
      have fz : ∀ kv, (M ++ .dct kv :: (N ++ [.fdc (begD P)]) : Z1)[M.length + (N.length + 1)]? = some (.fdc (begD P)) := fun kv => by rw [Zb5, List.getElem?_cons_succ, Ju]
      have sz : ∀ kv c, (M ++ .dct kv :: (N ++ [c]) : Z1).set (M.length + (N.length + 1)) (.fdc (begD P)) = M ++ .dct kv :: (N ++ [.fdc (begD P)]) := fun kv c => by rw [Y7, List.set_cons_succ, Yo]
      have st : ∀ kv, (M ++ .dct kv :: (N ++ [.fdc (begD P)]) : Z1).set (M.length + (N.length + 1)) (.dct (begD P)) = M ++ .dct kv :: (N ++ [.dct (begD P)]) := fun kv => by rw [Y7, List.set_cons_succ, Yo]
      have eK : Q2 (begD P) = natD P := by unfold Q2 begD natD; rw [List.map_map]; rfl
      rw [sz, eK]
      refine Vv (fun j σ M' => ∃ kv d7, σ = [some (.ref a), some (.ref b), some (.ref M.length), some (.int (i : Nat)), some (.ref (M.length + (N.length + 1))), some (.int (p : Nat)), some (.int (g : Nat)), d7] ∧ M' = M ++ .dct kv :: (N ++ [.fdc (begD P)]) ∧ LanD kv (LN.land m (P.take j) p g) ∧ kv.length ≤ kvs.length + 1 + j)
        ⟨_, d7, rfl, rfl, ?_, by have := Fc kvs (Sum.inl (p : Int)) (.int (g : Nat)); omega⟩ ?_ ?_ ?_
      · have := lan.put p g
        intro x
        have h2 := this x
        unfold LN.land
        rw [List.take_zero, if_neg (by simp)]
        exact h2
      · rintro j σ M' _ ⟨kv, d7, rfl, rfl, _⟩
        exact ⟨begD P, fz _, eK.symm⟩
      · rintro j dx σ M' C2 hx ⟨kv, d7, rfl, rfl, lan2, hk2⟩ hC2
        have hj : j < P.length := by have := (List.getElem?_eq_some_iff.mp hx).1; rwa [Zk] at this
        have hgj : P[j]? = some P[j] := List.getElem?_eq_getElem hj
        generalize P[j] = y at hgj
        rw [Y3 hgj] at hx
        cases hx
        simp only [Tv]
        walk_at "ev"
        refine .inr ⟨kv, _, rdL _ _, rfl, Z6 (by omega), ?_⟩
        try walk_at "ev"
        rw [Yo]
        refine hC2 _ _ ⟨_, _, rfl, rfl, fun x => ?_, by have := Fc kv (Sum.inl (y : Int)) (.int (g : Nat)); omega⟩
        try walk_at "ev"
        rw [lan2.put y g x, X7 hgj]
        congr 1
        unfold LN.land
        try dsimp only
        by_cases ex : x = y
        · subst ex; rw [if_pos rfl, if_pos (by simp)]
        · rw [if_neg ex]
          try walk_at "ev"
          have : (x ∈ P.take j ++ [y]) ↔ x ∈ P.take j := by simp [ex]
          simp only [this]
      · rintro σ M' ⟨kv, d7, rfl, rfl, lan2, hk2⟩
        rw [Zk] at lan2 hk2
        rw [List.take_length] at lan2
        refine ⟨begD P, fz _, ?_⟩
        try walk_at "ev"
        rw [st]
        refine hC _ _ ⟨kv, _, _, _, _, _, _, _, rfl, rfl, lan2, l1, fun x hx => ?_, by rw [Nat.add_mul]; omega⟩
        try walk_at "ev"
        by_cases ex : x = i
        · subst ex; exact l2
        · exact l3 x (tot x (by omega))
    walk_at "ev"
    refine .inr ⟨kvs, _, rdL _ _, rfl, ?_⟩
    try walk_at "ev"
    rw [lan p, Option.isSome_map]
    try dsimp only
    cases hm : (m p).isSome with
    | true =>
      rw [if_neg (by decide)]
      try walk_at "ev"
      try rw [if_neg (by decide)]
      exact stop _ (.inl hm)
    | false =>
      rw [if_pos rfl]
      try walk_at "ev"
      refine .inr ⟨begD P, _, rdP _ _, rfl, ?_⟩
      try walk_at "ev"
      rw [Ji]
      try dsimp only
      by_cases hpP : p ∈ P
      · rw [decide_eq_true hpP, if_neg (by decide)]
        try rw [if_neg (by decide)]
        exact stop _ (.inr (.inl hpP))
      · rw [decide_eq_false hpP, if_pos rfl]
        refine ix_l (k := p) (Z4 ha) (by rw [List.getElem?_map, hr]; rfl) ?_
        have hJp := hJ p r hr
        cases r with
        | jump k g =>
          obtain ⟨q', j1, j2, j3⟩ := hJp
          refine ⟨_, rfl, ?_⟩
          walk_at "ev"
          simp only [S5]
          walk_at "ev"
          have hm' : m p = none := by cases e : m p with
            | none => rfl
            | some _ => rw [e] at hm; cases hm
          have nd' : (P ++ [p]).Nodup := List.nodup_append.mpr ⟨nd, by simp, fun a ha c hc => by rw [List.mem_singleton] at hc; subst hc; exact fun e => hpP (e ▸ ha)⟩
          have hP' : ∀ x ∈ P ++ [p], x < rows.length ∧ m x = none := fun x hx => by
            rcases List.mem_append.mp hx with hx | hx
            · exact hP x hx
            · rw [List.mem_singleton] at hx; subst hx; exact ⟨hp, hm'⟩
          have hl' := ND.Xe rows.length (P ++ [p]) nd' fun x hx => (hP' x hx).1
          rw [List.length_append, List.length_singleton] at hl'
          refine .inr ⟨begD P, _, rdP _ _, rfl, by rw [Qy]; exact Z6 (by omega), ?_⟩
          try walk_at "ev"
          rw [Pq hpP, Y7, List.set_cons_succ, Yo]
          refine ix_l (k := p) (Z4 ha) (by rw [List.getElem?_map, hr]; rfl) ?_
          refine ⟨_, rfl, ?_⟩
          try walk_at "ev"
          refine ix_d (Wz hb) rfl j3 ?_
          try walk_at "ev"
          exact ⟨_, by rw [List.length_append, List.length_singleton]; omega, P ++ [p], q', rfl, rfl, rfl, lk.snoc j1, nd', hP', j2⟩
        | sum k x o1 sg o2 =>
          refine ⟨_, rfl, ?_⟩
          walk_at "ev"
          rw [if_neg (by decide +kernel)]
          try walk_at "ev"
          exact stop _ (.inr (.inr hJp))
        | test k o1 sg o2 g =>
          refine ⟨_, rfl, ?_⟩
          walk_at "ev"
          rw [if_neg (by decide +kernel)]
          try walk_at "ev"
          exact stop _ (.inr (.inr hJp))
        | fin k =>
          refine ⟨_, rfl, ?_⟩
          walk_at "ev"
          rw [if_neg (by decide +kernel)]
          try walk_at "ev"
          exact stop _ (.inr (.inr hJp))
  · rintro σ M' ⟨kvs, m, N, d3, d4, d5, d6, d7, rfl, rfl, lan, ln, tot, hk⟩
    simp only [S8]
    walk_at "ev"
    exact q kvs m _ lan ln tot (Kp.new _ _) (Xd _ _ _)
end
noncomputable def Rw.num : Rw → Nat
  | .sum k _ _ _ _ => k
  | .test k _ _ _ _ => k
  | .jump k _ => k
  | .fin k => k
noncomputable def Pa (rows : List Rw) (g : Nat) : Nat := (rows.map Rw.num).idxOf g
noncomputable def jmp (rows : List Rw) (p : Nat) : Option Nat := match rows[p]? with
  | some (.jump _ g) => some (Pa rows g)
  | _ => none
noncomputable def Rw.node (rows : List Rw) (L : Nat → Nat) (p : Nat) : Rw → Nd
  | .sum _ x a sg b => .sum x a sg b (L (p + 1))
  | .test _ a sg b g => .test a sg b (L (Pa rows g)) (L (p + 1))
  | .jump _ _ => .spin
  | .fin _ => .fin
noncomputable def Rw.goal : Rw → Option Nat
  | .test _ _ _ _ g => some g
  | .jump _ g => some g
  | _ => none
noncomputable def Rw.goes : Rw → Bool
  | .sum _ _ _ _ _ => true
  | .test _ _ _ _ _ => true
  | _ => false
structure RwOk (rows : List Rw) : Prop where
  pos : 0 < rows.length
  small : rows.length ≤ 2000
  nd : (rows.map Rw.num).Nodup
  goal : ∀ r ∈ rows, ∀ g, r.goal = some g → g ∈ rows.map Rw.num
  last : ∀ p r, rows[p]? = some r → r.goes = true → p + 1 < rows.length
structure Lands (rows : List Rw) (L : Nat → Nat) : Prop where
  lt : ∀ p, p < rows.length → L p < rows.length
  no : ∀ p, p < rows.length → jmp rows p = none → L p = p
  yes : ∀ p q, p < rows.length → jmp rows p = some q → L p = L q
  orb : ∀ p, p < rows.length → LN.Orb (jmp rows) p (L p)
noncomputable def Zo (rows : List Rw) (L : Nat → Nat) : List Nd := rows.mapIdx fun p r => r.node rows L p
def Zh : DSp := fun ds M Q _ => ∃ (a : Nat) (rows : List Rw), ds = [.ref a] ∧ Z7 M a = some (rows.map Rw.d) ∧ RwOk rows ∧
  ∀ L M' r, Lands rows L → Kp M M' → Za M' r = some ((Zo rows L).map Nd.d) → M.length ≤ r → Q (.tup [.ref r, .int (L 0 : Nat)]) M'
theorem G9 {rows : List Rw} {g : Nat} (h : g ∈ rows.map Rw.num) : Pa rows g < rows.length := by
  have := List.idxOf_lt_length_of_mem h
  rwa [List.length_map] at this
theorem Zt5 {rows : List Rw} (ok : RwOk rows) {p q : Nat} (h : jmp rows p = some q) : q < rows.length := by
  unfold jmp at h
  split at h
  · rename_i k g e
    cases h
    exact G9 (ok.goal _ (List.mem_of_getElem? e) g rfl)
  · cases h
theorem Zp6 {rows : List Rw} (ok : RwOk rows) {p q : Nat} (h : LN.Orb (jmp rows) p q) (hp : p < rows.length) : q < rows.length := by
  induction h with
  | refl _ => exact hp
  | step e _ ih => exact ih (Zt5 ok e)
theorem Za5 {rows : List Rw} (ok : RwOk rows) {m : Nat → Option Nat} (h : LN.Ln (jmp rows) rows.length m) (all : ∀ p, p < rows.length → (m p).isSome = true) : Lands rows (fun p => (m p).getD 0) := by
  have get : ∀ p, p < rows.length → m p = some ((m p).getD 0) := fun p hp => by
    obtain ⟨g, e⟩ := Option.isSome_iff_exists.mp (all p hp)
    rw [e]; rfl
  refine ⟨fun p hp => Zp6 ok (h p _ (get p hp)).2.2.2 hp, fun p hp e => (h p _ (get p hp)).2.1 e, fun p q hp e => ?_, fun p hp => (h p _ (get p hp)).2.2.2⟩
  try walk_at "ev"
  have := (h p _ (get p hp)).2.2.1 q e
  show (m p).getD 0 = (m q).getD 0
  rw [this]; rfl
theorem Kp.D {M M' : Z1} {a : Nat} {xs : List (Key × D)} (h : Kp M M') (e : Y4 M a = some xs) : Y4 M' a = some xs := by obtain ⟨L, rfl⟩ := h; exact Wz e
theorem Wq (rows : List Rw) (L : Nat → Nat) : (Zo rows L).length = rows.length := by unfold Zo; simp
theorem Xs {rows : List Rw} {L : Nat → Nat} {i : Nat} {r : Rw} (h : rows[i]? = some r) : (Zo rows L)[i]? = some (r.node rows L i) := by unfold Zo; rw [List.getElem?_mapIdx, h]; rfl
section
variable {K : PySem.W.Frag}
theorem Zb1 {Γ G} (g4 : Γ[4]? = some Z9) : ∀ ds M Q Z, Zh ds M Q Z → tss ⟨K, Γ, G⟩ noX b_linked { nx := fun _ M => Q .non M, rt := Q } (start0 Sj ds) M := by
  rintro ds M Q Z ⟨a, rows, rfl, ha, ok, q⟩
  have hn := ok.small
  simp only [b_linked, Sj]
  walk_at "ev"
  refine ⟨_, ha, ?_⟩
  try walk_at "ev"
  simp only [capD, List.map_cons, List.map_nil, Option.bind_none, Option.bind_some, List.getElem?_cons_zero, List.getElem?_cons_succ, Option.join_some]
  refine Wr (fun i σ M' => ∃ d1 d2, σ = [d1, d2] ∧ M' = M ++ [.lst (U.Xq (numP ((rows.map Rw.num).take i)))]) ⟨none, none, rfl, rfl⟩ ?_ ?_ ?_
  · rintro i σ M' _ ⟨d1, d2, rfl, rfl⟩
    exact ⟨_, Z4 ha, rfl⟩
  · rintro i dx σ M' C hx ⟨d1, d2, rfl, rfl⟩ hC
    obtain ⟨y, hy, rfl⟩ := T9 hx
    have hi : i < rows.length := by have := (List.getElem?_eq_some_iff.mp hy).1; rwa [List.length_map] at this
    obtain ⟨r, hr⟩ : ∃ r, rows[i]? = some r := ⟨_, List.getElem?_eq_getElem hi⟩
    rw [List.getElem?_map, hr] at hy
    cases hy
    have hnum : (rows.map Rw.num)[i]? = some r.num := by rw [List.getElem?_map, hr]; rfl
    have e0 : ∀ F : D → Prop, F (.int (r.num : Nat)) → ixD (M ++ [.lst (U.Xq (numP ((rows.map Rw.num).take i)))]) r.d (.int 0) F := fun F f => by cases r <;> exact ⟨_, rfl, f⟩
    walk_at "ev"
    refine e0 _ ⟨Z0 (by decide), _, Ze _ _ [], by unfold U.Xq; rw [List.length_map, Sk, List.length_take, List.length_map]; exact Z6 (by omega), ?_⟩
    try walk_at "ev"
    rw [Yo]
    refine hC _ _ ⟨_, _, rfl, ?_⟩
    try walk_at "ev"
    rw [X7 hnum, Rv, List.length_take, List.length_map, Nat.min_eq_left (by omega)]
    unfold U.Xq
    rw [List.map_append]
    rfl
  · rintro σ M' ⟨d1, d2, rfl, rfl⟩
    rw [Tc, List.length_map, ← List.length_map (f := Rw.num) (as := rows), List.take_length]
    try walk_at "ev"
    refine .inr ⟨numP (rows.map Rw.num), Zb _ _ [], by rw [Sk, List.length_map]; exact Z6 (by omega), ?_⟩
    try walk_at "ev"
    have k1 : Kp M (M ++ [.lst (U.Xq (numP (rows.map Rw.num)))] ++ [.dct (Vq (numP (rows.map Rw.num)))]) := (Kp.new _ _).app _
    have hd1 : Y4 (M ++ [.lst (U.Xq (numP (rows.map Rw.num)))] ++ [.dct (Vq (numP (rows.map Rw.num)))]) (M ++ [Cell.lst (U.Xq (numP (rows.map Rw.num)))] : Z1).length = some (Vq (numP (rows.map Rw.num))) := Xd _ _ []
    generalize M ++ [.lst (U.Xq (numP (rows.map Rw.num)))] ++ [.dct (Vq (numP (rows.map Rw.num)))] = M1 at k1 hd1
    generalize (M ++ [Cell.lst (U.Xq (numP (rows.map Rw.num)))] : Z1).length = nn at hd1
    have ha1 := k1.L ha
    try simp only [g4]
    have jof : JOf rows (Vq (numP (rows.map Rw.num))) (jmp rows) := by
      intro p r hr
      cases r with
      | jump k g =>
        have hg := ok.goal _ (List.mem_of_getElem? hr) g rfl
        exact ⟨Pa rows g, by unfold jmp; rw [hr], G9 hg, Pd _ _ rfl ok.nd g hg⟩
      | _ => show jmp rows p = none; unfold jmp; rw [hr]
    refine ⟨a, nn, rows, _, jmp rows, rfl, ha1, hd1, hn, jof, fun kvs m M2 lan ln tot k2 hk => ?_⟩
    try walk_at "ev"
    have lands := Za5 ok ln tot
    have hd2 := k2.D hd1
    have ha2 := k2.L ha1
    have val : ∀ p : Nat, p < rows.length → valD kvs (Sum.inl (p : Int)) = some (.int ((m p).getD 0 : Nat)) := fun p hp => by
      rw [lan p]
      obtain ⟨g, e⟩ := Option.isSome_iff_exists.mp (tot p hp)
      rw [e]; rfl
    walk_at "ev"
    refine ⟨Z0 (by decide), _, Z4 ha2, ?_⟩
    try walk_at "ev"
    have hk' : ∀ N, Y4 (M2 ++ N) M1.length = some kvs := fun N => Wz hk
    have hp' : ∀ N, Y4 (M2 ++ N) nn = some (Vq (numP (rows.map Rw.num))) := fun N => Wz hd2
    generalize hL : (fun p => (m p).getD 0) = L at lands
    have val' : ∀ p : Nat, p < rows.length → valD kvs (Sum.inl (p : Int)) = some (.int (L p : Nat)) := fun p hp => by rw [val p hp, ← hL]
    refine Vv (fun i σ M' => ∃ d4 d5, σ = [some (.ref a), some (.ref nn), some (.ref M1.length), some (.ref M2.length), d4, d5] ∧ M' = M2 ++ [.lst (((Zo rows L).take i).map Nd.d)]) ⟨none, none, rfl, rfl⟩ ?_ ?_ ?_
    · rintro i σ M' _ ⟨d4, d5, rfl, rfl⟩
      exact ⟨_, Z4 ha2, rfl⟩
    · rintro i dx σ M' C hx ⟨d4, d5, rfl, rfl⟩ hC
      obtain ⟨y, hy, rfl⟩ := T9 hx
      have hi : i < rows.length := by have := (List.getElem?_eq_some_iff.mp hy).1; rwa [List.length_map] at this
      obtain ⟨r, hr⟩ : ∃ r, rows[i]? = some r := ⟨_, List.getElem?_eq_getElem hi⟩
      rw [List.getElem?_map, hr] at hy
      cases hy
      have len : (((Zo rows L).take i).map Nd.d).length < sizeLine := by
        rw [List.length_map, List.length_take, Wq]
        exact Z6 (by omega)
      have fin : ∀ d4 d5, C [some (.ref a), some (.ref nn), some (.ref M1.length), some (.ref M2.length), d4, d5] (M2 ++ [.lst (((Zo rows L).take i).map Nd.d ++ [(r.node rows L i).d])]) := by
        intro d4 d5
        refine hC _ _ ⟨d4, d5, rfl, ?_⟩
        try walk_at "ev"
        rw [X7 (Xs hr), List.map_append]
        rfl
      have put : ∀ d4 d5 v, v = (r.node rows L i).d → ∃ xs, Za (M2 ++ [.lst (((Zo rows L).take i).map Nd.d)]) M2.length = some xs ∧ xs.length < sizeLine ∧ C [some (.ref a), some (.ref nn), some (.ref M1.length), some (.ref M2.length), d4, d5] ((M2 ++ [.lst (((Zo rows L).take i).map Nd.d)] : Z1).set M2.length (.lst (xs ++ [v]))) := by
        rintro d4 d5 v rfl
        refine ⟨_, Ze _ _ [], len, ?_⟩
        try walk_at "ev"
        rw [Yo]
        exact fin d4 d5
      have isS : (Z7 (M2 ++ [.lst (((Zo rows L).take i).map Nd.d)]) M2.length).isSome = true := Zf (Zb _ _ [])
      have e1 : ((i : Int) + 1) = ((i + 1 : Nat) : Int) := by omega
      simp only [Q4]
      try walk_at "ev"
      cases r with
      | sum k x o1 sg o2 =>
        have hl := ok.last i _ hr rfl
        simp only [Rw.d]
        try walk_at "ev"
        refine ⟨_, rfl, ?_⟩
        try walk_at "ev"
        rw [show U.cutD [.int k, .str "sum", .str x, o1.d, .str sg, o2.d] (some 1) none = [.str "sum", .str x, o1.d, .str sg, o2.d] from rfl, e1]
        refine ⟨isS, by decide, ix_d (hk' _) rfl (val' _ hl) ⟨Z0 (by decide), by simp, Z0 (by simp), put _ _ _ rfl⟩⟩
      | test k o1 sg o2 g =>
        have hl := ok.last i _ hr rfl
        have hg := ok.goal _ (List.mem_of_getElem? hr) g rfl
        simp only [Rw.d]
        try walk_at "ev"
        refine ⟨_, rfl, ?_⟩
        try walk_at "ev"
        rw [if_neg (by decide +kernel)]
        try walk_at "ev"
        refine ⟨_, rfl, ?_⟩
        try walk_at "ev"
        rw [show U.cutD [.int k, .str "test", o1.d, .str sg, o2.d, .int g] (some 1) (some 5) = [.str "test", o1.d, .str sg, o2.d] from rfl, e1]
        refine ⟨isS, by decide, _, rfl, ix_d (hp' _) rfl (Pd _ _ rfl ok.nd g hg) (ix_d (hk' _) rfl (val' _ (G9 hg)) (ix_d (hk' _) rfl (val' _ hl) ⟨Z0 (by decide), by simp, Z0 (by simp), put _ _ _ rfl⟩))⟩
      | fin k =>
        simp only [Rw.d]
        try walk_at "ev"
        refine ⟨_, rfl, ?_⟩
        try walk_at "ev"
        rw [if_neg (by decide +kernel)]
        try walk_at "ev"
        refine ⟨_, rfl, ?_⟩
        try walk_at "ev"
        rw [if_neg (by decide +kernel)]
        try walk_at "ev"
        refine ⟨_, rfl, ?_⟩
        try walk_at "ev"
        exact ⟨isS, Z0 (by decide), put _ _ _ rfl⟩
      | jump k g =>
        simp only [Rw.d]
        try walk_at "ev"
        refine ⟨_, rfl, ?_⟩
        try walk_at "ev"
        rw [if_neg (by decide +kernel)]
        try walk_at "ev"
        refine ⟨_, rfl, ?_⟩
        try walk_at "ev"
        rw [if_neg (by decide +kernel)]
        try walk_at "ev"
        refine ⟨_, rfl, ?_⟩
        try walk_at "ev"
        rw [if_neg (by decide +kernel)]
        try walk_at "ev"
        exact ⟨isS, Z0 (by decide), put _ _ _ rfl⟩
    · rintro σ M' ⟨d4, d5, rfl, rfl⟩
      rw [Tc, List.length_map, ← Wq rows L, List.take_length]
      simp only [Qf]
      walk_at "ev"
      refine ix_d (y := Sum.inl ((0 : Nat) : Int)) (hk' _) rfl (val' 0 ok.pos) ⟨Z0 (by decide), ?_⟩
      try walk_at "ev"
      refine q L _ _ lands ((k1.trans k2).app _) (Ze _ _ []) ?_
      try walk_at "ev"
      obtain ⟨X1, rfl⟩ := k1
      obtain ⟨X2, rfl⟩ := k2
      simp only [List.length_append]
      omega
end
def Zd : DSp := fun ds M Q _ => ∃ (a : Nat) (rows : List Rw), ds = [.ref a] ∧ Z7 M a = some (rows.map Rw.d) ∧ RwOk rows ∧ (∀ L d, Lands rows L → ND.Ends (wy (Zo rows L)) (L 0) d → d.length ≤ 40) ∧
  ∀ L d M' r, Lands rows L → ND.Ends (wy (Zo rows L)) (L 0) d → Kp M M' → Za M' r = some ((gra (Zo rows L) d.reverse).map Nd.d) → M.length ≤ r → Q (.ref r) M'
theorem Z74 (nds : List Nd) : gw (nds.map fun d => d.gs.reverse) = wy nds := by
  funext y
  unfold gw wy
  rw [List.getD_eq_getElem?_getD, List.getElem?_map]
  cases nds[y]? with
  | none => rfl
  | some d => simp
theorem Jz {rows : List Rw} (ok : RwOk rows) {L : Nat → Nat} (h : Lands rows L) : ∀ d ∈ Zo rows L, ∀ t ∈ d.gs, t < rows.length := by
  intro d hd t ht
  obtain ⟨i, hi⟩ := List.getElem?_of_mem hd
  unfold Zo at hi
  rw [List.getElem?_mapIdx, Option.map_eq_some_iff] at hi
  obtain ⟨r, hr, rfl⟩ := hi
  cases r with
  | sum k x o1 sg o2 =>
    have hl := ok.last i _ hr rfl
    simp [Rw.node, Nd.gs] at ht
    rw [ht]; exact h.lt _ hl
  | test k o1 sg o2 g =>
    have hl := ok.last i _ hr rfl
    have hg := ok.goal _ (List.mem_of_getElem? hr) g rfl
    simp [Rw.node, Nd.gs] at ht
    rcases ht with ht | ht
    · rw [ht]; exact h.lt _ hl
    · rw [ht]; exact h.lt _ (G9 hg)
  | jump k g => simp [Rw.node, Nd.gs] at ht
  | fin k => simp [Rw.node, Nd.gs] at ht
theorem B8 {g : Nat → List Nat} {x : Nat} {d : List Nat} {S : Nat → Prop} (cl : ∀ x, S x → ∀ t ∈ g x, S t) (hx : S x) (h : ND.Ends g x d) : ∀ y ∈ d, S y := by
  obtain ⟨k0, b, h⟩ := h
  have i0 : ND.In S ⟨[x], [(x, g x)], []⟩ := ⟨fun y hy => by rw [List.mem_singleton] at hy; subst hy; exact hx, fun p hp => by rw [List.mem_singleton] at hp; subst hp; exact ⟨hx, cl x hx⟩, fun y hy => by simp at hy⟩
  have all : ∀ k, ND.In S (ND.itr g k ⟨[x], [(x, g x)], []⟩) := fun k => by
    induction k with
    | zero => exact i0
    | succ k ih => exact ih.stp cl
  have := all k0
  rw [h] at this
  exact this.d
section
variable {K : PySem.W.Frag}
theorem Ef {Γ} (g0 : Γ[0]? = some Zs) (g2 : Γ[2]? = some Zg) (g3 : Γ[3]? = some Z8) (g5 : Γ[5]? = some Zh) : ∀ ds M Q Z, Zd ds M Q Z → tss ⟨K, Γ, [.int 40]⟩ noX b_graph_of { nx := fun _ M => Q .non M, rt := Q } (start0 Ve ds) M := by
  rintro ds M Q Z ⟨a, rows, rfl, ha, ok, h40, q⟩
  have hn := ok.small
  simp only [b_graph_of, Ve]
  walk_at "ev"
  try simp only [g0, g2, g3, g5]
  refine ⟨a, rows, rfl, ha, ok, fun L M1 r1 lands k1 hw1 _ => ?_⟩
  try walk_at "ev"
  have hL1 := Z2 hw1
  have ngs := Jz ok lands
  have hlen := Wq rows L
  generalize hnds : Zo rows L = nds at hw1 hL1 ngs hlen
  walk_at "ev"
  refine ⟨_, hL1, ?_⟩
  try walk_at "ev"
  simp only [capD, List.map_cons, List.map_nil, Option.bind_none, Option.bind_some, List.getElem?_cons_zero, List.getElem?_cons_succ, Option.join_some]
  refine Wr (fun i σ M' => ∃ d1, σ = [d1] ∧ M' = M1 ++ [.lst ((nds.take i).map fun d => .tup (natD d.gs.reverse))]) ⟨none, rfl, rfl⟩ ?_ ?_ ?_
  · rintro i σ M' _ ⟨d1, rfl, rfl⟩
    exact Z4 hL1
  · rintro i dx σ M' C hx ⟨d1, rfl, rfl⟩ hC
    have hi : i < nds.length := by have := (List.getElem?_eq_some_iff.mp hx).1; rwa [List.length_map] at this
    obtain ⟨d, hd⟩ : ∃ d, nds[i]? = some d := ⟨_, List.getElem?_eq_getElem hi⟩
    rw [Sy hd] at hx
    cases hx
    walk_at "ev"
    refine ⟨d, rfl, _, Ze _ _ [], by rw [List.length_map, List.length_take]; exact Z6 (by omega), ?_⟩
    try walk_at "ev"
    rw [Yo]
    refine hC _ _ ⟨_, rfl, ?_⟩
    try walk_at "ev"
    rw [X7 hd, List.map_append]
    rfl
  · rintro σ M' ⟨d1, rfl, rfl⟩
    rw [List.length_map, List.take_length]
    try walk_at "ev"
    refine ⟨Z0 (by decide), ?_⟩
    try walk_at "ev"
    have k2 : Kp M1 (M1 ++ [.lst (nds.map fun d => .tup (natD d.gs.reverse))] ++ [.lst [.int (L 0 : Nat)]]) := (Kp.new _ _).app _
    have r2 : Z7 (M1 ++ [.lst (nds.map fun d => .tup (natD d.gs.reverse))] ++ [.lst [.int (L 0 : Nat)]]) M1.length = some (nds.map fun d => .tup (natD d.gs.reverse)) := Z4 (Zb _ _ [])
    have r3 : Z7 (M1 ++ [.lst (nds.map fun d => .tup (natD d.gs.reverse))] ++ [.lst [.int (L 0 : Nat)]]) (M1 ++ [Cell.lst (nds.map fun d => .tup (natD d.gs.reverse))] : Z1).length = some [.int (L 0 : Nat)] := Zb _ _ []
    generalize M1 ++ [.lst (nds.map fun d => .tup (natD d.gs.reverse))] ++ [.lst [.int (L 0 : Nat)]] = M2 at k2 r2 r3
    generalize (M1 ++ [Cell.lst (nds.map fun d => .tup (natD d.gs.reverse))] : Z1).length = sb at r3
    have h0 := lands.lt 0 ok.pos
    refine ⟨M1.length, sb, L 0, nds.map fun d => d.gs.reverse, rfl, by rw [List.map_map]; exact r2, r3, by rw [List.length_map]; omega, by rw [List.length_map]; omega, ?_, fun d M3 r4 ends k3 hw3 _ => ?_⟩
    · intro l hl
      obtain ⟨d, hd, rfl⟩ := List.mem_map.mp hl
      have two := d.gs_two
      refine ⟨by rw [List.length_reverse]; omega, fun t ht => ?_⟩
      try walk_at "ev"
      rw [List.length_map, hlen]
      exact ngs d hd t (List.mem_reverse.mp ht)
    rw [Z74] at ends
    have h40' := h40 L d lands (by rw [hnds]; exact ends)
    obtain ⟨nd, cl, last⟩ := ends.facts
    have hO := Z2 hw3
    have hin : ∀ y ∈ d, y < rows.length := B8 (S := (· < rows.length)) (fun y hy t ht => by
      obtain ⟨dd, hdd⟩ : ∃ dd, nds[y]? = some dd := ⟨_, List.getElem?_eq_getElem (by rw [hlen]; exact hy)⟩
      rw [T8 hdd] at ht
      exact ngs dd (List.mem_of_getElem? hdd) t ht) h0 ends
    try walk_at "ev"
    refine Xa hO ?_
    try walk_at "ev"
    rw [Zk, List.length_reverse]
    try walk_at "ev"
    rw [if_neg (by omega)]
    try walk_at "ev"
    simp only [Tu]
    walk_at "ev"
    try simp only [g3]
    refine ⟨r1, r4, nds, d.reverse, rfl, k3.L (k2.L hL1), hO, List.pairwise_reverse.mpr (nd.imp fun h => Ne.symm h), by rw [List.length_reverse]; omega, fun x hx => by rw [hlen]; exact hin x (List.mem_reverse.mp hx), fun x hx t ht => List.mem_reverse.mpr (cl x (List.mem_reverse.mp hx) t ht), fun M4 r5 k4 hw4 hr5 => ?_⟩
    try walk_at "ev"
    refine q L d M4 r5 lands (by rw [hnds]; exact ends) (((k1.trans k2).trans k3).trans k4) (by rw [hnds]; exact hw4) ?_
    try walk_at "ev"
    obtain ⟨X1, rfl⟩ := k1
    obtain ⟨X2, rfl⟩ := k2
    obtain ⟨X3, rfl⟩ := k3
    simp only [List.length_append] at hr5
    omega
end
set_option hygiene false
local macro_rules | `(tactic| walk_at "ev") => do
  let ids := ("tss q_ts_1 q_ts_2 q_ts_3 q_ts_4 q_ts_5 q_ts_6 q_ts_7 q_ts_8 q_ts_9 q_ts_10 q_te_1 q_te_2 q_te_3 q_te_4 q_te_5 q_te_6 q_te_7 q_te_8 q_te_9 q_te_10 q_te_11 q_te_12 q_te_13 q_te_14 q_te_15 q_te_16 q_te_17 q_te_18 q_te_19 q_te_20 q_te_21 q_te_22 q_te_23 q_te_24 q_tes_1 q_tes_2 q_teo_1 q_teo_2 q_tit_1 q_tit_2 q_tit_3 q_tit_4 q_tcd_1 q_tcd_2 q_tbop_1 q_tbop_2 q_tbop_3 tt op_add_i op_add_s op_add_t op_add_l op_sub_i op_mul_i op_mul_l op_fdiv_i op_mod_i op_pow_i cm_lt_i cm_gt_i cm_eq cm_ne cm_notin cm_is_n cm_is_i cm_is_s cm_is_b cm_is_t cm_is_r eq_i eq_s eq_b eq_nn eq_is eq_si tru_b tru_i tru_n tru_t ix_t ix_g ix_s sl_s sl_t sl_l is_non is_bl is_int is_str is_tup tyNon tyBl tyInt tyStr tyTup tyLst tyDct bf_len_t bf_len_s bf_is bf_min bf_max bf_list bf_tuple bf_dict mt_append_r mt_get2_r mt_pop_r mt_reverse_r mt_index_r mt_extend_r mk_append mk_pop mk_reverse mk_get2 mk_index mk_extend tg_one tg_two it_r it_t it_g key_i key_s in_ss aug_add aug_sub start0 List.map_cons List.map_nil List.length_cons List.length_nil List.cons_append List.nil_append List.append_nil List.replicate List.set_cons_zero List.set_cons_succ List.getElem?_cons_zero List.getElem?_cons_succ Nat.reduceAdd Nat.reduceSub Nat.sub_self Nat.zero_add decide_eq_true_eq ne_eq Int.reduceEq not_false_eq_true true_and Bool.not_eq_true' decide_eq_false_iff_not Bool.false_eq_true if_true if_false Bool.not_true Bool.not_false".splitOn " ").toArray.map fun s => Lean.mkIdent s.toName
  `(tactic| simp only [$[$ids:ident],*])
section
variable {K : PySem.W.Frag}
def AL (M : Z1) : Nat → D → D → Prop
  | 0, x, y => x = y ∧ Y5 x = true
  | n + 1, x, y => (x = y ∧ Y5 x = true) ∨ (∃ xs ys, x = .tup xs ∧ y = .tup ys ∧ xs.length = ys.length ∧ xs.length ≤ 100000 ∧ ∀ (i : Nat) a b, xs[i]? = some a → ys[i]? = some b → AL M n a b) ∨
      ∃ m k xs ys, x = .ref m ∧ y = .ref k ∧ Za M m = some xs ∧ Za M k = some ys ∧ xs.length = ys.length ∧ xs.length ≤ 100000 ∧ ∀ (i : Nat) a b, xs[i]? = some a → ys[i]? = some b → AL M n a b
def Xu (n : Nat) : DSp := fun ds M Q _ => ∃ x y, ds = [x, y] ∧ AL M n x y ∧ Q (.bl true) M
theorem AL.flat {M : Z1} {n : Nat} {x : D} (h : Y5 x = true) : AL M n x x := by
  cases n with
  | zero => exact ⟨rfl, h⟩
  | succ n => exact .inl ⟨rfl, h⟩
theorem Qb {Γ G} {M : Z1} {Q : DK} {x : D} (h : Y5 x = true) (q : Q (.bl true) M) : tss ⟨K, Γ, G⟩ noX b_Lalike { nx := fun _ M => Q .non M, rt := Q } (start0 Xx [x, x]) M := by
  simp only [b_Lalike, Xx]
  cases x with
  | non =>
    walk_at "ev"
    exact q
  | bl b =>
    walk_at "ev"
    simp only [Xo]
    walk_at "ev"
    simpa using q
  | int i =>
    walk_at "ev"
    simp only [Xo]
    walk_at "ev"
    simp only [Wc]
    walk_at "ev"
    simpa using q
  | str z =>
    walk_at "ev"
    simp only [Xo]
    walk_at "ev"
    simp only [Wc]
    walk_at "ev"
    simp only [Vi]
    walk_at "ev"
    simpa using q
  | _ => exact absurd h Bool.false_ne_true
theorem Z02 {Γ G} : ∀ ds M Q Z, Xu 0 ds M Q Z → tss ⟨K, Γ, G⟩ noX b_Lalike { nx := fun _ M => Q .non M, rt := Q } (start0 Xx ds) M := by
  rintro ds M Q Z ⟨x, y, rfl, ⟨rfl, h⟩, q⟩
  exact Qb h q
theorem Nh {Γ G} {n : Nat} (g : Γ[25]? = some (Xu n)) {M : Z1} {Q : DK} {x y : D} {xs ys : List D} {d : Option D} (hl : xs.length = ys.length) (hs : xs.length ≤ 100000) (h : ∀ (i : Nat) a b, xs[i]? = some a → ys[i]? = some b → AL M n a b)
    (lx : ∀ F : DK, F (.int xs.length) M → bfD K .len [x] M F) (ly : ∀ F : DK, F (.int ys.length) M → bfD K .len [y] M F) (ix : ∀ (i : Nat) a (F : D → Prop), xs[i]? = some a → F a → ixD M x (.int i) F) (iy : ∀ (i : Nat) a (F : D → Prop), ys[i]? = some a → F a → ixD M y (.int i) F) (q : Q (.bl true) M) :
    tss ⟨K, Γ, G⟩ noX Tt { nx := fun _ M => Q .non M, rt := Q } [some x, some y, d] M := by
  simp only [Tt]
  walk_at "ev"
  refine lx _ (ly _ ?_)
  walk_at "ev"
  rw [if_neg (by rw [hl]; simp)]
  simp only [Qr]
  walk_at "ev"
  refine ly _ ⟨by omega, by omega, ?_⟩
  rw [Int.toNat_natCast]
  refine Su (fun i σ M' => ∃ d, σ = [some x, some y, d] ∧ M' = M) ⟨d, rfl, rfl⟩ ?_ ?_
  · rintro i σ M' C hi ⟨d, rfl, rfl⟩ hC
    simp only [Qd, Int.zero_add]
    walk_at "ev"
    refine ix i _ _ (List.getElem?_eq_getElem (by omega)) (iy i _ _ (List.getElem?_eq_getElem hi) ?_)
    simp only [g]
    refine ⟨_, _, rfl, h i _ _ (List.getElem?_eq_getElem (by omega)) (List.getElem?_eq_getElem hi), ?_⟩
    walk_at "ev"
    exact hC _ _ ⟨_, rfl, rfl⟩
  · rintro σ M' ⟨d, rfl, rfl⟩
    simp only [Qh]
    walk_at "ev"
    exact q
theorem Np {Γ G} {n : Nat} (g : Γ[25]? = some (Xu n)) : ∀ ds M Q Z, Xu (n + 1) ds M Q Z → tss ⟨K, Γ, G⟩ noX b_Lalike { nx := fun _ M => Q .non M, rt := Q } (start0 Xx ds) M := by
  rintro ds M Q Z ⟨x, y, rfl, h | ⟨xs, ys, rfl, rfl, hl, hs, h⟩ | ⟨m, k, xs, ys, rfl, rfl, h1, h2, hl, hs, h⟩, q⟩
  · obtain ⟨rfl, h⟩ := h
    exact Qb h q
  · simp only [b_Lalike, Xx]
    walk_at "ev"
    simp only [Xo]
    walk_at "ev"
    simp only [Wc]
    walk_at "ev"
    simp only [Vi]
    walk_at "ev"
    simp only [Tn]
    walk_at "ev"
    exact Nh g hl hs h (fun F f => f) (fun F f => f) (fun i a F e f => ⟨a, Pv e, f⟩) (fun i a F e f => ⟨a, Pv e, f⟩) q
  · have i1 : ∀ {t : Ty} {B : Bool → Prop}, isD K M (.ref m) (.ty (X9 t)) B = B (tyLst t) := fun {t B} => Ze3 h1
    have i2 : ∀ {t : Ty} {B : Bool → Prop}, isD K M (.ref k) (.ty (X9 t)) B = B (tyLst t) := fun {t B} => Ze3 h2
    simp only [b_Lalike, Xx]
    walk_at "ev"
    simp only [Xo]
    walk_at "ev"
    simp only [i2]
    walk_at "ev"
    simp only [Wc]
    walk_at "ev"
    simp only [i2]
    walk_at "ev"
    simp only [Vi]
    walk_at "ev"
    simp only [i2]
    walk_at "ev"
    simp only [Tn]
    walk_at "ev"
    simp only [i1, i2]
    walk_at "ev"
    exact Nh g hl hs h (fun F f => Xa (Z2 h1) f) (fun F f => Xa (Z2 h2) f) (fun i a F e f => ix_l (Z2 h1) e f) (fun i a F e f => ix_l (Z2 h2) e f) q
end
theorem C6 {M : Z1} {a b : Nat} {c : Cell} (h : a ≠ b) : Za (M.set a c) b = Za M b := by unfold Za; rw [List.getElem?_set_ne h]
theorem E7 {M : Z1} {a : Nat} {xs : List D} (h : Za M a = some xs) : a < M.length := by
  unfold Za at h
  by_cases z : a < M.length
  · exact z
  · rw [List.getElem?_eq_none (by omega)] at h; cases h
theorem Y15 {M : Z1} {a : Nat} {xs : List D} (h : Z7 M a = some xs) : a < M.length := by
  unfold Z7 at h
  by_cases z : a < M.length
  · exact z
  · rw [List.getElem?_eq_none (by omega)] at h; cases h
theorem J8 {M : Z1} {a : Nat} {ys xs : List D} (h : Za M a = some ys) : Za (M.set a (.lst xs)) a = some xs := by
  have := E7 h
  unfold Za
  rw [List.getElem?_set_self this]
def Dr (M : Z1) (r : Nat) : Prop := ∃ l : List Nat, Za M r = some (natD l)
structure Ke (r : Nat) (M M' : Z1) : Prop where
  len : M.length ≤ M'.length
  same : ∀ x, x < M.length → x ≠ r → M'[x]? = M[x]?
  dr : Dr M' r
section
variable {r a z : Nat} {M M' M1 M2 : Z1} {xs : List D}
theorem Ke.refl (h : Dr M r) : Ke r M M := ⟨Nat.le_refl _, fun _ _ _ => rfl, h⟩
theorem Ke.trans (h : Ke r M M1) (g : Ke r M1 M2) : Ke r M M2 := ⟨Nat.le_trans h.len g.len, fun x hx hn => by rw [g.same x (Nat.lt_of_lt_of_le hx h.len) hn, h.same x hx hn], g.dr⟩
theorem Ke.app (h : Ke r M M1) (N : Z1) : Ke r M (M1 ++ N) := ⟨by rw [List.length_append]; have := h.len; omega, fun x hx hn => by rw [List.getElem?_append_left (by have := h.len; omega)]; exact h.same x hx hn, by obtain ⟨l, e⟩ := h.dr; exact ⟨l, Zw e⟩⟩
theorem Ke.kp (h : Ke r M M1) (k : Kp M1 M2) : Ke r M M2 := by obtain ⟨N, rfl⟩ := k; exact h.app N
theorem Ke.W (h : Ke r M M') (hx : a ≠ r) (e : Za M a = some xs) : Za M' a = some xs := by
  have := E7 e
  unfold Za at e ⊢
  rw [h.same a this hx]
  exact e
theorem Ke.L (h : Ke r M M') (hx : a ≠ r) (e : Z7 M a = some xs) : Z7 M' a = some xs := by
  have := Y15 e
  unfold Z7 at e ⊢
  rw [h.same a this hx]
  exact e
theorem Ke.set (h : Ke r M M') (hz : M.length ≤ z) (hr : z ≠ r) (c : Cell) : Ke r M (M'.set z c) := ⟨by rw [List.length_set]; exact h.len, fun x hx hn => by rw [List.getElem?_set_ne (by omega)]; exact h.same x hx hn, by obtain ⟨l, e⟩ := h.dr; exact ⟨l, by rw [C6 hr]; exact e⟩⟩
theorem Dr.lt (h : Dr M r) : r < M.length := by obtain ⟨l, e⟩ := h; exact E7 e
theorem Dr.app (h : Dr M r) (N : Z1) : Dr (M ++ N) r := by obtain ⟨l, e⟩ := h; exact ⟨l, Zw e⟩
theorem Dr.kp (h : Dr M r) (k : Kp M M1) : Dr M1 r := by obtain ⟨N, rfl⟩ := k; exact h.app N
theorem Ke.take {l : List Nat} (h : r < M.length) (N : Z1) : Ke r M ((M ++ N).set r (.lst (natD l))) := by
  refine ⟨by rw [List.length_set, List.length_append]; omega, fun x hx hn => ?_, l, ?_⟩
  · rw [List.getElem?_set_ne (fun e => hn e.symm), List.getElem?_append_left hx]
  · unfold Za; rw [List.getElem?_set_self (by rw [List.length_append]; omega)]
end
def Y1 : DSp := fun ds M Q _ => ∃ r : Nat, ds = [.ref r] ∧ Dr M r ∧ ∀ (x : Nat) M', Ke r M M' → Q (.int x) M'
def Yi : DSp := fun ds M Q _ => ∃ c : Int, ds = [.int c] ∧ ∀ (l : List Str) M' r, l.length = 4 → (l.all fun x => PyData.canLay0 (.str x)) = true → Kp M M' → Z7 M' r = some (l.map D.str) → Q (.ref r) M'
def Yh : DSp := fun ds M Q _ => ∃ r : Nat, ds = [.ref r] ∧ Dr M r ∧ ∀ (v : Int) M', Ke r M M' → Q (.int v) M'
section
variable {K : PySem.W.Frag}
theorem Zb9 (c : Int) : c % 4 = ((0 : Nat) : Int) ∨ c % 4 = ((1 : Nat) : Int) ∨ c % 4 = ((2 : Nat) : Int) ∨ c % 4 = ((3 : Nat) : Int) := by omega
theorem Z47 {Γ G} : ∀ ds M Q Z, Yi ds M Q Z → tss ⟨K, Γ, G⟩ noX b_Lnames { nx := fun _ M => Q .non M, rt := Q } (start0 Sl ds) M := by
  rintro ds M Q Z ⟨c, rfl, q⟩
  simp only [b_Lnames, Sl]
  walk_at "ev"
  simp only [List.append_assoc, List.cons_append, List.nil_append, List.length_append, List.length_cons, List.length_nil]
  refine ⟨Z0 (by decide), Z0 (by decide), Z0 (by decide), Z0 (by decide), ?_⟩
  refine ⟨Zf (by rw [Zl]; rfl), Z0 (by decide), _, by rw [Zn]; rfl, Z6 (by simp), ?_⟩
  rw [Y7]
  simp only [List.set_cons_succ, List.set_cons_zero, List.cons_append, List.nil_append]
  rw [qm (show (0 : Int) < 4 by decide)]
  have rO : ∀ a b c d e : Cell, Z7 (M ++ [a, b, c, d, e]) (M.length + (0 + 1 + 1 + 1)) = Z7 [a, b, c, d, e] 3 := fun a b c d e => Zl M _ 3
  have fin : ∀ (N : Z1) (k : Nat) (l : List Str), Z7 N k = some (l.map D.str) → l.length = 4 → (l.all fun x => PyData.canLay0 (.str x)) = true → Q (.ref (M.length + k)) (M ++ N) := fun N k l h1 h2 h3 => q l _ _ h2 h3 (Kp.new _ _) (by rw [Zl]; exact h1)
  rcases Zb9 c with e | e | e | e
  · rw [e]
    refine ix_l (k := 0) (xs := [.ref M.length, .ref (M.length + (0 + 1)), .ref (M.length + (0 + 1 + 1)), .ref (M.length + (0 + 1 + 1 + 1 + 1))]) (by rw [rO]; rfl) rfl ?_
    exact fin _ 0 ["x", "y", "z", "w"] rfl rfl (by decide +kernel)
  · rw [e]
    refine ix_l (k := 1) (xs := [.ref M.length, .ref (M.length + (0 + 1)), .ref (M.length + (0 + 1 + 1)), .ref (M.length + (0 + 1 + 1 + 1 + 1))]) (by rw [rO]; rfl) rfl ?_
    exact fin _ 1 ["ab", "aa", "bb", "ba"] rfl rfl (by decide +kernel)
  · rw [e]
    refine ix_l (k := 2) (xs := [.ref M.length, .ref (M.length + (0 + 1)), .ref (M.length + (0 + 1 + 1)), .ref (M.length + (0 + 1 + 1 + 1 + 1))]) (by rw [rO]; rfl) rfl ?_
    exact fin _ 2 ["q1", "q", "q11", "q2"] rfl rfl (by decide +kernel)
  · rw [e]
    refine ix_l (k := 3) (xs := [.ref M.length, .ref (M.length + (0 + 1)), .ref (M.length + (0 + 1 + 1)), .ref (M.length + (0 + 1 + 1 + 1 + 1))]) (by rw [rO]; rfl) rfl ?_
    exact fin _ 4 ["sum1aaaa", "sum1aaab", "sum2aaaa", "tum1aaaa"] rfl rfl (by decide +kernel)
theorem Zh2 {Γ G} : ∀ ds M Q Z, Y1 ds M Q Z → tss ⟨K, Γ, G⟩ noX b_Lnext { nx := fun _ M => Q .non M, rt := Q } (start0 Qx ds) M := by
  rintro ds M Q Z ⟨r, rfl, ⟨l, hl⟩, q⟩
  have hlt := E7 hl
  simp only [b_Lnext, Qx]
  walk_at "ev"
  refine ⟨Z0 (by decide), ?_⟩
  refine Q8 (l := l) (Z4 (Z2 hl)) (Zb _ _ []) ?_
  cases hT : l.isEmpty with
  | true =>
    rw [if_pos rfl]
    exact q 0 _ ((Ke.refl ⟨l, hl⟩).app _)
  | false =>
    rw [if_neg (by decide)]
    have hne : l ≠ [] := by rintro rfl; cases hT
    obtain ⟨l', x, rfl⟩ : ∃ l' x, l = l' ++ [x] := ⟨l.dropLast, l.getLast hne, (List.dropLast_concat_getLast hne).symm⟩
    rw [Yq] at hl
    simp only [N3]
    walk_at "ev"
    refine ⟨Zf (Z4 (Z2 hl)), _, .int (x : Nat), Zw hl, by simp, ?_⟩
    rw [List.dropLast_concat]
    exact q x _ (Ke.take hlt _)
theorem Z48 {Γ G} (g12 : Γ[12]? = some Y1) : ∀ ds M Q Z, Yh ds M Q Z → tss ⟨K, Γ, G⟩ noX b_Lgreat { nx := fun _ M => Q .non M, rt := Q } (start0 So ds) M := by
  rintro ds M Q Z ⟨r, rfl, hd, q⟩
  simp only [b_Lgreat, So]
  walk_at "ev"
  simp only [g12]
  refine ⟨r, rfl, hd, fun x M1 k1 => ?_⟩
  walk_at "ev"
  refine ⟨mulR (by decide) (by decide), r, rfl, k1.dr, fun y M2 k2 => ?_⟩
  walk_at "ev"
  exact ⟨⟨by decide, by decide, by decide⟩, mulL (by decide) (by decide), by decide, ⟨by decide, by decide, by decide⟩, q _ _ (k1.trans k2)⟩
end
theorem Z00 {α β : Type} (f : α → β) (xs : List α) (lo hi : Option Int) : U.cutD (xs.map f) lo hi = (U.cutD xs lo hi).map f := by
  unfold U.cutD
  rw [List.length_map, List.map_take, List.map_drop]
theorem Zf7 {α : Type} {xs : List α} (h : 0 < xs.length) {m : Int} (hm : 1 ≤ m) : 0 < (U.cutD xs none (some m)).length := by
  unfold U.cutD
  have e1 : HT.sIx xs.length 0 none = 0 := rfl
  have e2 : HT.sIx xs.length xs.length (some m) = min m.toNat xs.length := by
    show (if m < 0 then (m + (xs.length : Int)).toNat else min m.toNat xs.length) = _
    rw [if_neg (by omega)]
  rw [e1, e2, List.length_take, List.drop_zero]
  omega
theorem Kp.set {M M' : Z1} {r : Nat} (h : Kp M M') (hr : M.length ≤ r) (c : Cell) : Kp M (M'.set r c) := by
  obtain ⟨L, rfl⟩ := h
  exact ⟨L.set (r - M.length) c, by rw [List.set_append_right _ _ hr]⟩
def Y8 : DSp := fun ds M Q _ => ∃ (a : Nat) (ns : List Int), ds = [.ref a] ∧ Z7 M a = some (ns.map .int) ∧ ns.length ≤ 63 ∧ ∀ M' r, Dr M' r → Kp M M' → M.length ≤ r → Q (.ref r) M'
section
variable {K : PySem.W.Frag}
theorem Zr4 {α : Type} (xs : List α) (lo hi : Option Int) : (U.cutD xs lo hi).length ≤ xs.length := by
  unfold U.cutD
  rw [List.length_take, List.length_drop]
  omega
theorem Z91 {Γ G} : ∀ ds M Q Z, Y8 ds M Q Z → tss ⟨K, Γ, G⟩ noX b_Ldraws { nx := fun _ M => Q .non M, rt := Q } (start0 Sr ds) M := by
  rintro ds M Q Z ⟨a, ns, rfl, ha, hl, q⟩
  simp only [b_Ldraws, Sr]
  walk_at "ev"
  refine ⟨_, ha, _, Zb M _ [], Z0 (by decide), _, _, Zw (Ze _ _ []), Ze _ _ [], ?_, Xa (Z4 (Z4 (Z4 (Z4 ha)))) ?_⟩
  · have := Zr4 (ns.map D.int) none (some 63)
    rw [List.length_map] at this
    exact Z0 (by simp; omega)
  walk_at "ev"
  refine ⟨_, Zb _ _ [], ?_⟩
  obtain ⟨mx, hmx, emx⟩ : ∃ m : Int, 1 ≤ m ∧ (if (if (63 : Int) < ((ns.map D.int).length : Int) then (63 : Int) else ((ns.map D.int).length : Int)) > 1 then (if (63 : Int) < ((ns.map D.int).length : Int) then (63 : Int) else ((ns.map D.int).length : Int)) else 1) = m := ⟨_, by split <;> omega, rfl⟩
  rw [emx]
  obtain ⟨ys, hys, hy0⟩ : ∃ ys : List Int, U.cutD (U.cutD (ns.map D.int) none (some 63) ++ [.int 0]) none (some mx) = ys.map .int ∧ 0 < ys.length := by
    refine ⟨U.cutD (U.cutD ns none (some 63) ++ [0]) none (some mx), ?_, Zf7 (by simp) hmx⟩
    rw [← Z00, List.map_append, ← Z00]
    rfl
  rw [hys]
  generalize hMd : M ++ [Cell.lst (U.cutD (ns.map D.int) none (some 63))] ++ [Cell.lst (U.cutD (ns.map D.int) none (some 63))] ++ [Cell.lst [D.int 0]] ++ [Cell.lst (U.cutD (ns.map D.int) none (some 63) ++ [D.int 0])] = Md
  have kd : Kp M Md := by rw [← hMd]; exact (((Kp.new _ _).app _).app _).app _
  clear hMd
  have k5 := kd.app [Cell.lst (ys.map D.int)]
  have w5 := Ze Md (ys.map D.int) []
  have he : M.length ≤ Md.length := by obtain ⟨N, rfl⟩ := kd; rw [List.length_append]; omega
  generalize Md ++ [Cell.lst (ys.map D.int)] = M5 at k5 w5
  generalize Md.length = e at w5 he
  obtain ⟨y0, hy⟩ : ∃ y, ys[0]? = some y := ⟨_, List.getElem?_eq_getElem hy0⟩
  have ihy : (ys.map D.int)[0]? = some (.int y0) := by rw [List.getElem?_map, hy]; rfl
  try walk_at "ev"
  refine ix_l (k := 0) (Z2 w5) ihy ?_
  try walk_at "ev"
  generalize decide (qmod y0 2 = 1) = b
  refine ix_l (k := 0) (Z2 w5) ihy ?_
  try walk_at "ev"
  refine ⟨T0 (by decide) (by decide), .inl ⟨_, 0, 0, rfl, w5, by unfold ixN; rw [if_pos (by omega), if_pos (by rw [List.length_map]; omega)]; rfl, ?_⟩⟩
  have w6 : Za (M5.set e (.lst ((ys.map D.int).set 0 (.int (qdiv y0 2))))) e = some ((ys.set 0 (qdiv y0 2)).map .int) := by rw [J8 w5, List.map_set]
  have k6 := k5.set he (.lst ((ys.map D.int).set 0 (.int (qdiv y0 2))))
  have l6 : 0 < (ys.set 0 (qdiv y0 2)).length := by rw [List.length_set]; exact hy0
  generalize ys.set 0 (qdiv y0 2) = zs at w6 l6
  generalize M5.set e (.lst ((ys.map D.int).set 0 (.int (qdiv y0 2)))) = M6 at w6 k6
  have le6 := E7 w6
  have lm6 : M.length ≤ M6.length := by obtain ⟨N, rfl⟩ := k6; rw [List.length_append]; omega
  try walk_at "ev"
  refine ⟨_, Z2 w6, Z0 (by decide), by decide, by decide, ?_⟩
  have e900 : (900 : Int).toNat = 900 := rfl
  rw [e900]
  have wf := Zw (N := [Cell.lst []]) (Ze M6 (zs.map D.int) [])
  have wg := Ze (M6 ++ [Cell.lst (zs.map D.int)]) [] []
  have we := Zw (N := [Cell.lst []]) (Zw (N := [Cell.lst (zs.map D.int)]) w6)
  have k8 := (k6.app [Cell.lst (zs.map D.int)]).app [Cell.lst []]
  generalize M6 ++ [Cell.lst (zs.map D.int)] ++ [Cell.lst []] = M8 at wf wg we k8
  have hgl : (M6 ++ [Cell.lst (zs.map D.int)] : Z1).length = M6.length + 1 := by simp
  rw [hgl] at wg ⊢
  generalize hf : M6.length = f at wf wg le6 lm6
  clear hgl hf
  have nef : e ≠ f := by omega
  have neg : e ≠ f + 1 := by omega
  have nfg : f ≠ f + 1 := by omega
  refine Su (fun i σ M' => ∃ (us : List Int) (fo : List Nat) (d5 d6 d7 : Option D), σ = [some (.ref a), some (.ref e), some (.bl b), some (.ref f), some (.ref (f + 1)), d5, d6, d7] ∧ Kp M M' ∧ Za M' e = some (zs.map .int) ∧ Za M' f = some (us.map .int) ∧ us.length = zs.length ∧ Za M' (f + 1) = some (natD fo) ∧ fo.length = i) ⟨zs, [], none, none, none, rfl, k8, we, wf, rfl, wg, rfl⟩ ?_ ?_
  · rintro i σ M' C hi ⟨us, fo, d5, d6, d7, rfl, kp, we, wf, hul, wg, hfo⟩ hC
    have fin : ∀ (M2 : Z1) (us : List Int) (nn : Nat) (d5 d6 : Option D) bk, Kp M M2 → Za M2 e = some (zs.map .int) → Za M2 f = some (us.map .int) → us.length = zs.length → Za M2 (f + 1) = some (natD fo) → tss ⟨K, Γ, G⟩ noX Vn { nx := C, rt := Q, bk := bk, ct := C } [some (.ref a), some (.ref e), some (.bl b), some (.ref f), some (.ref (f + 1)), d5, d6, some (.int nn)] M2 := by
      intro M2 us nn d5 d6 bk kp we wf hul wg
      simp only [Vn]
      walk_at "ev"
      refine ⟨Zf (Z2 wg), _, wg, by rw [Zk]; exact Z6 (by omega), ?_⟩
      rw [← Yq]
      refine hC _ _ ⟨us, fo ++ [nn], _, _, _, rfl, kp.set (by omega) _, by rw [C6 (Ne.symm neg)]; exact we, by rw [C6 (Ne.symm nfg)]; exact wf, hul, J8 wg, by rw [List.length_append, hfo]; rfl⟩
    simp only [Qg, Int.zero_add]
    walk_at "ev"
    refine Xa (Z2 we) ?_
    rw [List.length_map]
    walk_at "ev"
    refine ⟨by omega, ?_⟩
    rw [qm (show (0 : Int) < zs.length by omega)]
    have m1 := Int.emod_nonneg (i : Int) (show (zs.length : Int) ≠ 0 by omega)
    have m2 := Int.emod_lt_of_pos (i : Int) (show (0 : Int) < zs.length by omega)
    obtain ⟨p, hp, ep⟩ : ∃ p : Nat, p < zs.length ∧ (i : Int) % zs.length = p := ⟨((i : Int) % zs.length).toNat, by omega, by omega⟩
    rw [ep]
    obtain ⟨u, hu⟩ : ∃ u, us[p]? = some u := ⟨_, List.getElem?_eq_getElem (by omega)⟩
    obtain ⟨v, hv⟩ : ∃ v, zs[p]? = some v := ⟨_, List.getElem?_eq_getElem hp⟩
    have ihu : (us.map D.int)[p]? = some (.int u) := by rw [List.getElem?_map, hu]; rfl
    have ihv : (zs.map D.int)[p]? = some (.int v) := by rw [List.getElem?_map, hv]; rfl
    refine ix_l (Z2 wf) ihu ?_
    rw [op_mod_i, qm (show (0 : Int) < 2147483629 by decide)]
    refine ⟨by decide, ?_⟩
    try walk_at "ev"
    have nat : ∀ (c j : Int), 0 < j → ∃ n : Nat, c % j = (n : Int) ∧ (n : Int) < j := fun c j hj => ⟨(c % j).toNat, by have := Int.emod_nonneg c (show j ≠ 0 by omega); omega, by have := Int.emod_nonneg c (show j ≠ 0 by omega); have := Int.emod_lt_of_pos c hj; omega⟩
    obtain ⟨n0, e0, _⟩ := nat u 2147483629 (by decide)
    rw [e0]
    have els : ∀ (M2 : Z1) (bk : DEnv → Z1 → Prop), Kp M M2 → Za M2 e = some (zs.map .int) → Za M2 f = some (us.map .int) → Za M2 (f + 1) = some (natD fo) →
        ixD M2 (D.ref e) (D.int p) fun d => U.opD Op.mod d (D.int 2147483629) M2 fun x M1 => U.opD Op.mul x (D.int 48271) M1 fun x M1 => IntMulOk 7919 i ∧ IntMulOk (7919 * i) i ∧
          U.opD Op.add x (D.int (7919 * i * i)) M1 fun x M1 => U.opD Op.add x (D.int 104729) M1 fun x M1 => U.opD Op.mod x (D.int 2147483647) M1 fun d M1 => U.opD Op.mul d d M1 fun x M1 => U.opD Op.mod x (D.int 2147483629) M1 fun d M1 =>
          U.opD Op.mul d (D.int 69621) M1 fun x M1 => IntMulOk 3571 i ∧ U.opD Op.add x (D.int (3571 * i)) M1 fun x M1 => U.opD Op.mod x (D.int 2147483563) M1 fun x M1 => U.opD Op.mul x d M1 fun x M1 => U.opD Op.mod x (D.int 2147483629) M1 fun d M1 =>
          tss ⟨K, Γ, G⟩ noX Vn { nx := C, rt := Q, bk := bk, ct := C } [some (.ref a), some (.ref e), some (.bl b), some (.ref f), some (.ref (f + 1)), some (.int i), some (.int p), some d] M1 := by
      intro M2 bk kp we wf wg
      refine ix_l (Z2 we) ihv ?_
      walk_at "ev"
      rw [qm (show (0 : Int) < 2147483647 by decide)]
      refine ⟨mulR (by decide) (by decide), mulL (by decide) (by decide), mulR (by omega) (by omega), ?_⟩
      obtain ⟨n1, e1, b1⟩ := nat (qmod v 2147483629 * 48271 + 7919 * (i : Int) * (i : Int) + 104729) 2147483647 (by decide)
      rw [e1]
      refine ⟨mulR (by omega) (by omega), ?_⟩
      rw [qm (show (0 : Int) < 2147483629 by decide)]
      obtain ⟨n2, e2, b2⟩ := nat ((n1 : Int) * (n1 : Int)) 2147483629 (by decide)
      rw [e2]
      refine ⟨mulR (by decide) (by decide), mulL (by decide) (by decide), mulR (by omega) (by omega), ?_⟩
      rw [qm (show (0 : Int) < 2147483629 by decide)]
      obtain ⟨n3, e3, b3⟩ := nat (qmod ((n2 : Int) * 69621 + 3571 * (i : Int)) 2147483563 * (n2 : Int)) 2147483629 (by decide)
      rw [e3]
      exact fin _ us n3 _ _ _ kp we wf hul wg
    cases b with
    | false =>
      try walk_at "ev"
      exact els M' _ kp we wf wg
    | true =>
      try walk_at "ev"
      refine ix_l (Z2 wf) ihu ?_
      try walk_at "ev"
      refine ⟨Z0 (by decide), .inl ⟨_, Zb M' _ [], rfl, rfl, ?_⟩⟩
      generalize inD (D.int u) [D.int 0, D.int (-1)] = cc
      show (if cc = false then _ else _)
      split
      · refine ix_l (Z4 (Z2 wf)) ihu ?_
        try walk_at "ev"
        refine ⟨T0 (by decide) (by decide), .inl ⟨_, p, p, rfl, Zw wf, by unfold ixN; rw [if_pos (by omega), if_pos (by rw [List.length_map]; omega)]; rfl, ?_⟩⟩
        refine fin _ (us.set p (qdiv u 2147483629)) n0 _ _ _ ((kp.app _).set (by omega) _) (by rw [C6 (Ne.symm nef)]; exact Zw we) (by rw [J8 (Zw wf), List.map_set]) (by rw [List.length_set]; exact hul) (by rw [C6 nfg]; exact Zw wg)
      · exact els _ _ (kp.app _) (Zw we) (Zw wf) (Zw wg)
  · rintro σ M' ⟨us, fo, d5, d6, d7, rfl, kp, we, wf, hul, wg, hfo⟩
    simp only [Q6]
    walk_at "ev"
    refine ⟨natD fo, Z2 wg, ?_⟩
    refine q _ _ ⟨fo.reverse, ?_⟩ (kp.app _) ?_
    · rw [show natD fo.reverse = (natD fo).reverse by unfold natD; rw [List.map_reverse]]
      exact Ze _ _ []
    · obtain ⟨N, rfl⟩ := kp; rw [List.length_append]; omega
end
def X5 : DSp := fun ds M Q _ => ∃ (r : Nat) (m : Int) (k n : Nat), ds = [.ref r, .int k, .int n, .int m] ∧ Dr M r ∧ k < n ∧ n ≤ 1000 ∧ ∀ (t : Nat) M', t < n → Ke r M M' → Q (.int t) M'
def V3 : DSp := fun ds M Q _ => ∃ (r : Nat) (m : Int) (k n : Nat), ds = [.ref r, .int k, .int n, .int m] ∧ Dr M r ∧ k < n ∧ n ≤ 1000 ∧ ∀ (d : Nd) M', (∀ t ∈ d.gs, t < n) → d.ok = true → Ke r M M' → Q d.d M'
section
variable {K : PySem.W.Frag}
theorem Zz5 {Γ G} {M : Z1} {Q : DK} {c m : Int} {rr : D} {k n : Nat} {d : Option D} (hk : k < n) (hn : n ≤ 1000) (q : ∀ (t : Nat) M', t < n → Kp M M' → Q (.int t) M') :
    tss ⟨K, Γ, G⟩ noX Pt { nx := fun _ M => Q .non M, rt := Q } [some rr, some (.int k), some (.int n), some (.int m), some (.int c), d] M := by
  have qn : ∀ (i : Int) M', 0 ≤ i → i < n → Kp M M' → Q (.int i) M' := fun i M' a b k => by
    have := q i.toNat M' (by omega) k
    rwa [Int.toNat_of_nonneg a] at this
  have l1 : tss ⟨K, Γ, G⟩ noX O8 { nx := fun _ M => Q .non M, rt := Q } [some rr, some (.int k), some (.int n), some (.int m), some (.int c), d] M := by
    simp only [O8]
    try walk_at "ev"
    have hp : (0 : Int) < n := by omega
    rw [qm hp]
    exact ⟨by omega, qn _ _ (Int.emod_nonneg _ (by omega)) (Int.emod_lt_of_pos _ hp) (Kp.refl M)⟩
  have l2 : tss ⟨K, Γ, G⟩ noX Pl { nx := fun _ M => Q .non M, rt := Q } [some rr, some (.int k), some (.int n), some (.int m), some (.int c), d] M := by
    simp only [Pl]
    try walk_at "ev"
    split
    · rw [qm (show (0 : Int) < 4 by decide), qd (show (0 : Int) < 2 by decide)]
      have r1 := Int.emod_nonneg (c / 2) (show (4 : Int) ≠ 0 by decide)
      have r2 := Int.emod_lt_of_pos (c / 2) (show (0 : Int) < 4 by decide)
      refine ⟨Z0 (by decide), T0 (by decide) (by decide), ?_⟩
      obtain ⟨d', e1, e2⟩ := Zl4 (xs := [.int 1, .int 2, .int 4, .int 8]) r1 (by simpa using r2)
      refine Zg1 (Zb M _ []) e1 ?_
      simp only [List.mem_cons, List.not_mem_nil, or_false] at e2
      have kk := Kp.new M [.lst [.int 1, .int 2, .int 4, .int 8]]
      have fin : ∀ j : Int, 0 < j → U.opD .mod (.int k) (.int j) (M ++ [.lst [.int 1, .int 2, .int 4, .int 8]]) (fun x M1 => U.opD .sub (.int k) x M1 Q) := by
        intro j hj
        rw [op_mod_i, op_sub_i, qm hj]
        have a1 := Int.emod_nonneg (k : Int) (show j ≠ 0 by omega)
        have a2 : (k : Int) % j ≤ k := by
          have := Int.emod_add_mul_ediv (k : Int) j
          have h2 : 0 ≤ j * ((k : Int) / j) := Int.mul_nonneg (by omega) (Int.ediv_nonneg (by omega) (by omega))
          omega
        exact ⟨by omega, qn _ _ (by omega) (by omega) kk⟩
      rcases e2 with rfl | rfl | rfl | rfl <;> exact fin _ (by decide)
    · exact l1
  simp only [Pt]
  try walk_at "ev"
  have r1 := Int.emod_nonneg (c / 2) (show (3 : Int) ≠ 0 by decide)
  have mn : ∀ x : Int, 0 ≤ x → 0 ≤ (if (n : Int) - 1 < x then (n : Int) - 1 else x) ∧ (if (n : Int) - 1 < x then (n : Int) - 1 else x) < n := by
    intro x hx
    split <;> omega
  split
  · split
    · rw [qm (show (0 : Int) < 3 by decide), qd (show (0 : Int) < 2 by decide)]
      refine ⟨T0 (by decide) (by decide), ?_⟩
      obtain ⟨b1, b2⟩ := mn ((k : Int) + 1 + c / 2 % 3) (by omega)
      exact qn _ _ b1 b2 (Kp.refl M)
    · exact l2
  · exact l2
theorem Zt0 {Γ G} (g12 : Γ[12]? = some Y1) : ∀ ds M Q Z, X5 ds M Q Z → tss ⟨K, Γ, G⟩ noX b_Lfar { nx := fun _ M => Q .non M, rt := Q } (start0 Gm ds) M := by
  rintro ds M Q Z ⟨r, m, k, n, rfl, hd, hk, hn, q⟩
  simp only [b_Lfar, Gm]
  try walk_at "ev"
  try simp only [g12]
  refine ⟨r, rfl, hd, fun x M1 k1 => ?_⟩
  generalize (x : Int) = c
  have q1 : ∀ (t : Nat) M', t < n → Kp M1 M' → Q (.int t) M' := fun t M' ht kp => q t M' ht (k1.kp kp)
  try walk_at "ev"
  split
  · have hp : (0 : Int) < (n : Int) - k := by omega
    rw [qd (by decide), qm hp]
    have a1 := Int.emod_nonneg (c / 2) (show (n : Int) - k ≠ 0 by omega)
    have a2 := Int.emod_lt_of_pos (c / 2) hp
    refine ⟨T0 (by decide) (by decide), by omega, ?_⟩
    generalize c / 2 % ((n : Int) - k) = u at a1 a2
    split
    · have := q1 ((k : Int) + 1 + u).toNat M1 (by omega) (Kp.refl M1)
      rwa [Int.toNat_of_nonneg (by omega)] at this
    · simp only [Gd]
      try walk_at "ev"
      rw [qm (by decide)]
      have r1 := Int.emod_nonneg c (show (2 : Int) ≠ 0 by decide)
      have r2 := Int.emod_lt_of_pos c (show (0 : Int) < 2 by decide)
      refine ⟨Z0 (by decide), ?_⟩
      obtain ⟨d', e1, e2⟩ := Zl4 (xs := [.int 0, .int k]) r1 (by simpa using r2)
      refine Zg1 (Zb M1 _ []) e1 ?_
      simp only [List.mem_cons, List.not_mem_nil, or_false] at e2
      rcases e2 with rfl | rfl
      · exact q1 0 _ (by omega) (Kp.new M1 _)
      · exact q1 k _ hk (Kp.new M1 _)
  · exact Zz5 hk hn q1
theorem Zj4 {Γ G} (g12 : Γ[12]? = some Y1) (g18 : Γ[18]? = some X5) : ∀ ds M Q Z, X5 ds M Q Z → tss ⟨K, Γ, G⟩ noX b_Lnear { nx := fun _ M => Q .non M, rt := Q } (start0 O4 ds) M := by
  rintro ds M Q Z ⟨r, m, k, n, rfl, hd, hk, hn, q⟩
  simp only [b_Lnear, O4]
  try walk_at "ev"
  try simp only [g12, g18]
  refine ⟨r, rfl, hd, fun x M1 k1 => ?_⟩
  try walk_at "ev"
  split
  · refine ⟨r, m, k, n, rfl, k1.dr, hk, hn, fun t M2 ht k2 => q t M2 ht (k1.trans k2)⟩
  · simp only [Nq]
    try walk_at "ev"
    split
    · have := q (n - 1) M1 (by omega) k1
      rwa [show ((n - 1 : Nat) : Int) = (n : Int) - 1 by omega] at this
    · have := q (k + 1) M1 (by omega) k1
      rwa [show ((k + 1 : Nat) : Int) = (k : Int) + 1 by omega] at this
noncomputable def nmsD : List D := [.str "x", .str "y", .str "z1", .str "z"]
theorem Z19 {d : D} (h : d ∈ nmsD) : ∃ x, d = .str x ∧ PyData.canLay0 (.str x) = true := Qe (xs := ["x", "y", "z1", "z"]) h (by decide +kernel)
theorem Zd9 {Γ G} (g12 : Γ[12]? = some Y1) (g18 : Γ[18]? = some X5) (g19 : Γ[19]? = some X5) {M : Z1} {Q : DK} {r nm k n : Nat} {m u : Int} {o1 o2 : Opd} {d8 d9 : Option D} (hnm : nm ≠ r) (nmL : Z7 M nm = some nmsD) (hd : Dr M r) (hk : k < n) (hn : n ≤ 1000) (ok1 : o1.ok = true) (ok2 : o2.ok = true)
    (q : ∀ (d : Nd) M', (∀ t ∈ d.gs, t < n) → d.ok = true → Ke r M M' → Q d.d M') :
    tss ⟨K, Γ, G⟩ noX Rg { nx := fun _ M => Q .non M, rt := Q } [some (.ref r), some (.int k), some (.int n), some (.int m), some (.ref nm), some (.int u), some o1.d, some o2.d, d8, d9] M := by
  have hne : M.length ≠ r := by have := hd.lt; omega
  simp only [Rg]
  try walk_at "ev"
  try simp only [g12, g18, g19]
  split
  · refine ⟨Z0 (by decide), r, rfl, hd.app _, fun x M1 k1 => ?_⟩
    have K1 := ((Ke.refl hd).app _).trans k1
    try walk_at "ev"
    refine Xm (k1.L hne (Zb M _ [])) rfl (by decide) fun d4 h4 => ?_
    obtain ⟨sg, rfl, ok_sg⟩ := Qe (xs := ["+", "-", "/", "rest", "&", "^"]) h4 (by decide +kernel)
    try walk_at "ev"
    try simp only [g12, g18, g19]
    refine ⟨r, rfl, K1.dr, fun x2 M2 k2 => ?_⟩
    try walk_at "ev"
    refine Xm (k2.L hnm (K1.L hnm nmL)) rfl (by decide) fun d5 h5 => ?_
    obtain ⟨x5, rfl, ok_x5⟩ := Z19 h5
    refine ⟨r, m, k, n, rfl, k2.dr, hk, hn, fun t M3 ht k3 => ?_⟩
    refine ⟨Z0 (by decide), q (.sum x5 o1 sg o2 t) _ ?_ (by simp only [Nd.ok, ok_x5, ok1, ok_sg, ok2, Bool.and_self]) ((K1.trans k2).trans k3)⟩
    intro y hy
    simp only [Nd.gs, List.mem_singleton] at hy
    omega
  · simp only [Ou]
    try walk_at "ev"
    try simp only [g12, g18, g19]
    refine ⟨Z0 (by decide), r, rfl, hd.app _, fun x M1 k1 => ?_⟩
    have K1 := ((Ke.refl hd).app _).trans k1
    try walk_at "ev"
    refine Xm (k1.L hne (Zb M _ [])) rfl (by decide) fun d4 h4 => ?_
    obtain ⟨sg, rfl, ok_sg⟩ := Qe (xs := ["<", "="]) h4 (by decide +kernel)
    try walk_at "ev"
    try simp only [g12, g18, g19]
    refine ⟨r, m, k, n, rfl, K1.dr, hk, hn, fun t M2 ht k2 => ?_⟩
    try walk_at "ev"
    try simp only [g12, g18, g19]
    refine ⟨r, m, k, n, rfl, k2.dr, hk, hn, fun t2 M3 ht2 k3 => ?_⟩
    refine ⟨Z0 (by decide), q (.test o1 sg o2 t t2) _ ?_ (by simp only [Nd.ok, ok1, ok_sg, ok2, Bool.and_self]) ((K1.trans k2).trans k3)⟩
    intro y hy
    simp only [Nd.gs, List.mem_cons, List.not_mem_nil, or_false] at hy
    omega
theorem Ze6 {Γ G} (g12 : Γ[12]? = some Y1) (g14 : Γ[14]? = some Yh) (g18 : Γ[18]? = some X5) (g19 : Γ[19]? = some X5) {M : Z1} {Q : DK} {r nm k n : Nat} {m u : Int} {o1 : Opd} {d7 d8 d9 : Option D} (hnm : nm ≠ r) (nmL : Z7 M nm = some nmsD) (hd : Dr M r) (hk : k < n) (hn : n ≤ 1000) (ok1 : o1.ok = true)
    (q : ∀ (d : Nd) M', (∀ t ∈ d.gs, t < n) → d.ok = true → Ke r M M' → Q d.d M') :
    tss ⟨K, Γ, G⟩ noX Q1 { nx := fun _ M => Q .non M, rt := Q } [some (.ref r), some (.int k), some (.int n), some (.int m), some (.ref nm), some (.int u), some o1.d, d7, d8, d9] M := by
  simp only [Q1]
  try walk_at "ev"
  try simp only [g12, g14]
  refine ⟨r, rfl, hd, fun x M1 k1 => ?_⟩
  try walk_at "ev"
  refine Xm (k1.L hnm nmL) rfl (by decide) fun d4 h4 => ?_
  obtain ⟨x4, rfl, ok_x4⟩ := Z19 h4
  try walk_at "ev"
  try simp only [g12, g14]
  refine ⟨r, rfl, k1.dr, fun x2 M2 k2 => ?_⟩
  have K2 := k1.trans k2
  try walk_at "ev"
  split
  · try simp only [g14]
    refine ⟨r, rfl, k2.dr, fun v M3 k3 => ?_⟩
    try walk_at "ev"
    exact Zd9 (o2 := .no v) g12 g18 g19 hnm (k3.L hnm (K2.L hnm nmL)) k3.dr hk hn ok1 rfl fun d M' a b c => q d M' a b ((K2.trans k3).trans c)
  · exact Zd9 (o2 := .nm x4) g12 g18 g19 hnm (K2.L hnm nmL) K2.dr hk hn ok1 ok_x4 fun d M' a b c => q d M' a b (K2.trans c)
theorem Zm1 {Γ G} (g12 : Γ[12]? = some Y1) (g14 : Γ[14]? = some Yh) (g18 : Γ[18]? = some X5) (g19 : Γ[19]? = some X5) : ∀ ds M Q Z, V3 ds M Q Z → tss ⟨K, Γ, G⟩ noX b_Lnode { nx := fun _ M => Q .non M, rt := Q } (start0 Pu ds) M := by
  rintro ds M Q Z ⟨r, m, k, n, rfl, hd, hk, hn, q⟩
  have hnm : M.length ≠ r := by have := hd.lt; omega
  simp only [b_Lnode, Pu]
  try walk_at "ev"
  try simp only [g12]
  refine ⟨Z0 (by decide), r, rfl, hd.app _, fun x M1 k1 => ?_⟩
  have K1 := ((Ke.refl hd).app _).trans k1
  have nmL : Z7 M1 M.length = some nmsD := k1.L hnm (Zb M _ [])
  have r1 := Int.emod_nonneg (x : Int) (show (32 : Int) ≠ 0 by decide)
  have r2 := Int.emod_lt_of_pos (x : Int) (show (0 : Int) < 32 by decide)
  try walk_at "ev"
  rw [qm (show (0 : Int) < 32 by decide)]
  generalize (x : Int) % 32 = u at r1 r2
  split
  · rename_i hu
    refine ⟨Z0 (by decide), Z0 (by decide), Z0 (by decide), pick (Zb _ _ []) (by omega) (by simp only [List.length_cons, List.length_nil]; omega) fun d6 h6 => ?_⟩
    simp only [List.mem_cons, List.not_mem_nil, or_false] at h6
    rcases h6 with rfl | rfl
    · exact q .fin _ (fun y hy => by cases hy) rfl (K1.app _)
    · exact q .spin _ (fun y hy => by cases hy) rfl (K1.app _)
  · simp only [Na]
    try walk_at "ev"
    try simp only [g12]
    refine ⟨r, rfl, k1.dr, fun x2 M2 k2 => ?_⟩
    try walk_at "ev"
    refine Xm (k2.L hnm nmL) rfl (by decide) fun d4 h4 => ?_
    obtain ⟨x4, rfl, ok_x4⟩ := Z19 h4
    try walk_at "ev"
    try simp only [g12]
    refine ⟨r, rfl, k2.dr, fun x3 M3 k3 => ?_⟩
    have K3 := k2.trans k3
    try walk_at "ev"
    split
    · try simp only [g12]
      refine ⟨r, rfl, k3.dr, fun v M4 k4 => ?_⟩
      try walk_at "ev"
      exact Ze6 (o1 := .no _) g12 g14 g18 g19 hnm (k4.L hnm (K3.L hnm nmL)) k4.dr hk hn rfl fun d M' a b c => q d M' a b ((K1.trans (K3.trans k4)).trans c)
    · exact Ze6 (o1 := .nm x4) g12 g14 g18 g19 hnm (K3.L hnm nmL) K3.dr hk hn ok_x4 fun d M' a b c => q d M' a b ((K1.trans K3).trans c)
end
def Vz : DSp := fun ds M Q _ => ∃ (r most : Nat), ds = [.ref r, .int most] ∧ Dr M r ∧ 0 < most ∧ most ≤ 40 ∧
  ∀ (gr : List Nd) M' z, GT.Num (wy gr) gr.length → ND.Ends (wy gr) 0 (List.range gr.length).reverse → gr.length ≤ most → (∀ d ∈ gr, d.ok = true) → Ke r M M' → Za M' z = some (gr.map Nd.d) → M.length ≤ z → Q (.ref z) M'
section
variable {K : PySem.W.Frag}
theorem Zb6 {Γ G} (g12 : Γ[12]? = some Y1) (g20 : Γ[20]? = some V3) (g23 : Γ[23]? = some V5) : ∀ ds M Q Z, Vz ds M Q Z → tss ⟨K, Γ, G⟩ noX b_Ldrawn { nx := fun _ M => Q .non M, rt := Q } (start0 Sn ds) M := by
  rintro ds M Q Z ⟨r, most, rfl, hd, h0, h40, q⟩
  simp only [b_Ldrawn, Sn]
  try walk_at "ev"
  try simp only [g12]
  refine ⟨r, rfl, hd, fun x M1 k1 => ?_⟩
  try walk_at "ev"
  refine ⟨by omega, ?_⟩
  rw [qm (show (0 : Int) < most by omega)]
  have r1 := Int.emod_nonneg (x : Int) (show (most : Int) ≠ 0 by omega)
  have r2 := Int.emod_lt_of_pos (x : Int) (show (0 : Int) < most by omega)
  obtain ⟨many, hm0, hm1, e⟩ : ∃ many : Nat, 0 < many ∧ many ≤ most ∧ (1 : Int) + (x : Int) % most = many := ⟨(1 + (x : Int) % most).toNat, by omega, by omega, by omega⟩
  rw [e]
  try simp only [g12]
  refine ⟨r, rfl, k1.dr, fun y M2 k2 => ?_⟩
  have K2 := k1.trans k2
  have hne : M2.length ≠ r := by have := K2.dr.lt; omega
  try walk_at "ev"
  generalize qmod (y : Int) 3 = mo
  refine ⟨by omega, by omega, ?_⟩
  simp only [capD, List.map_cons, List.map_nil, Option.bind_none, Option.bind_some, List.getElem?_cons_zero, List.getElem?_cons_succ, Option.join_some]
  refine Wr (fun i σ M' => ∃ d nds, σ = [d, some (.ref r), some (.int many), some (.int mo)] ∧ Ke r M2 M' ∧ Za M' M2.length = some (nds.map Nd.d) ∧ nds.length = i ∧ (∀ x ∈ nds, ∀ t ∈ x.gs, t < many) ∧ ∀ x ∈ nds, x.ok = true) ⟨none, [], rfl, (Ke.refl K2.dr).app _, Ze _ _ [], rfl, by simp, by simp⟩ (fun _ _ _ _ _ => trivial) ?_ ?_
  · rintro i dx σ M' C hx ⟨d, nds, rfl, ke, hw, hlen, hgs, hok⟩ hC
    have hi : i < many := by
      have := (List.getElem?_eq_some_iff.mp hx).1
      rw [X0] at this
      omega
    rw [Rh (by omega)] at hx
    cases hx
    simp only [Int.zero_add]
    try walk_at "ev"
    try simp only [g20]
    refine ⟨r, mo, i, many, rfl, ke.dr, hi, by omega, fun nd M3 gs ok k3 => ?_⟩
    have hw3 := k3.W hne hw
    refine ⟨_, hw3, by rw [List.length_map]; exact Z6 (by omega), ?_⟩
    refine hC _ _ ⟨_, nds ++ [nd], rfl, (ke.trans k3).set (Nat.le_refl _) hne _, by rw [J8 hw3, List.map_append]; rfl, by rw [List.length_append, hlen]; rfl, fun x hx => ?_, fun x hx => ?_⟩
    · rcases List.mem_append.mp hx with h | h
      · exact hgs x h
      · rw [List.mem_singleton] at h; subst h; exact gs
    · rcases List.mem_append.mp hx with h | h
      · exact hok x h
      · rw [List.mem_singleton] at h; subst h; exact ok
  · rintro σ M' ⟨d, nds, rfl, ke, hw, hlen, hgs, hok⟩
    rw [X0, Int.toNat_natCast] at hlen
    try simp only [g23]
    refine ⟨_, nds, rfl, Z2 hw, by omega, by omega, by rw [hlen]; exact hgs, hok, fun gr M3 z n1 ne n2 n3 k3 hw3 hz => ?_⟩
    refine q gr M3 z n1 ne (by omega) n3 ((K2.trans ke).kp k3) hw3 ?_
    have := (K2.trans ke).len
    omega
end
noncomputable def Rw.ok : Rw → Bool
  | .sum _ x a sg b => PyData.canLay0 (.str x) && a.ok && PyData.canLay0 (.str sg) && b.ok
  | .test _ a sg b _ => a.ok && PyData.canLay0 (.str sg) && b.ok
  | .jump _ _ => true
  | .fin _ => true
def Nms (M : Z1) (g : Nat) : Prop := ∃ l : List Str, l.length = 4 ∧ (l.all fun x => PyData.canLay0 (.str x)) = true ∧ Z7 M g = some (l.map D.str)
theorem Nms.ke {r g : Nat} {M M' : Z1} (h : Nms M g) (k : Ke r M M') (hg : g ≠ r) : Nms M' g := by obtain ⟨l, a, b, c⟩ := h; exact ⟨l, a, b, k.L hg c⟩
theorem Nms.pick {M : Z1} {g : Nat} {i : Int} {F : D → Prop} (h : Nms M g) (q : ∀ x : Str, PyData.canLay0 (.str x) = true → F (.str x)) : ixD M (.ref g) (.int (qmod i 4)) F := by
  obtain ⟨l, a, b, c⟩ := h
  refine Xm c (by rw [List.length_map, a]; rfl) (by decide) fun d hd => ?_
  obtain ⟨x, rfl, ok⟩ := Qe hd b
  exact q x ok
def Zv : DSp := fun ds M Q _ => ∃ (r g : Nat), ds = [.ref r, .ref g] ∧ Dr M r ∧ g ≠ r ∧ Nms M g ∧ ∀ (o : Opd) M', o.ok = true → Ke r M M' → Q o.d M'
def Vy : DSp := fun ds M Q _ => ∃ (r k nu na : Nat) (nums : List Nat), ds = [.ref r, .int k, .ref nu, .ref na] ∧ Dr M r ∧ nu ≠ r ∧ na ≠ r ∧ Z7 M nu = some (natD nums) ∧ k < nums.length ∧ nums.length ≤ 1000 ∧ Nms M na ∧
  ∀ (w : Rw) M', (∀ x, nums[k]? = some x → w.num = x) → (∀ g, w.goal = some g → g ∈ nums) → w.ok = true → Ke r M M' → Q w.d M'
def W3 : DSp := fun ds M Q _ => ∃ (r na : Nat), ds = [.ref r, .ref na, .int 39] ∧ Dr M r ∧ na ≠ r ∧ Nms M na ∧
  ∀ (rows : List Rw) M' z, RwOk rows → rows.length ≤ 40 → (∀ w ∈ rows, w.ok = true) → Ke r M M' → Za M' z = some (rows.map Rw.d) → M.length ≤ z → Q (.ref z) M'
theorem Zm8 {α : Type} {xs : List α} {c : Int} {n : Nat} (hn : xs.length = n) (h : 0 < n) : ∃ (k : Nat) (d : α), c % (n : Int) = (k : Int) ∧ xs[k]? = some d := by
  have h1 := Int.emod_nonneg c (show (n : Int) ≠ 0 by omega)
  have h2 := Int.emod_lt_of_pos c (show (0 : Int) < n by omega)
  exact ⟨(c % (n : Int)).toNat, _, by omega, List.getElem?_eq_getElem (by omega)⟩
theorem Jc {l : List Nat} (h : l.Pairwise (· < ·)) : l.Nodup := h.imp fun h => Nat.ne_of_lt h
theorem R8 {M : Z1} {a : Nat} {l : List Nat} {i m : Int} {F : D → Prop} (h : Z7 M a = some (natD l)) (h0 : 0 < l.length) (hm : m = l.length) (q : ∀ x ∈ l, F (.int (x : Nat))) : ixD M (.ref a) (.int (qmod i m)) F := by
  refine Xm h (by rw [Zk]; exact hm) (by omega) fun d hd => ?_
  unfold natD at hd
  obtain ⟨x, hx, rfl⟩ := List.mem_map.mp hd
  exact q x hx
section
variable {K : PySem.W.Frag}
theorem E2 {Γ G} (g12 : Γ[12]? = some Y1) (g14 : Γ[14]? = some Yh) : ∀ ds M Q Z, Zv ds M Q Z → tss ⟨K, Γ, G⟩ noX b_Loperand { nx := fun _ M => Q .non M, rt := Q } (start0 Vl ds) M := by
  rintro ds M Q Z ⟨r, g, rfl, hd, hg, nms, q⟩
  simp only [b_Loperand, Vl]
  try walk_at "ev"
  try simp only [g12, g14]
  refine ⟨r, rfl, hd, fun x M1 k1 => ?_⟩
  try walk_at "ev"
  split
  · refine ⟨r, rfl, k1.dr, fun v M2 k2 => ?_⟩
    exact q (.no v) _ rfl (k1.trans k2)
  · simp only [S4]
    try walk_at "ev"
    try simp only [g12, g14]
    split
    · refine ⟨r, rfl, k1.dr, fun v M2 k2 => ?_⟩
      try walk_at "ev"
      exact q (.no _) _ rfl (k1.trans k2)
    · simp only [Tz]
      try walk_at "ev"
      try simp only [g12, g14]
      refine ⟨r, rfl, k1.dr, fun v M2 k2 => ?_⟩
      try walk_at "ev"
      refine (nms.ke (k1.trans k2) hg).pick fun y ok => ?_
      exact q (.nm y) _ ok (k1.trans k2)
theorem Zp1 {Γ G} (g12 : Γ[12]? = some Y1) (g15 : Γ[15]? = some Zv) : ∀ ds M Q Z, Vy ds M Q Z → tss ⟨K, Γ, G⟩ noX b_Lrow { nx := fun _ M => Q .non M, rt := Q } (start0 Gj ds) M := by
  rintro ds M Q Z ⟨r, k, nu, na, nums, rfl, hd, hnr, har, hnu, hk, h1000, nms, q⟩
  obtain ⟨y, hy⟩ : ∃ x, nums[k]? = some x := ⟨_, List.getElem?_eq_getElem hk⟩
  have hye : ∀ z, nums[k]? = some z → y = z := fun z hz => by rw [hy] at hz; cases hz; rfl
  simp only [b_Lrow, Gj]
  try walk_at "ev"
  try simp only [g12]
  refine ⟨r, rfl, hd, fun x M1 k1 => ?_⟩
  have nu1 := k1.L hnr hnu
  try walk_at "ev"
  split
  · exact ix_l nu1 (Y3 hy) ⟨Z0 (by decide), q (.fin y) _ hye (fun g h => by cases h) rfl k1⟩
  · simp only [Gn]
    try walk_at "ev"
    try simp only [g12]
    split
    · refine ix_l nu1 (Y3 hy) ⟨r, rfl, k1.dr, fun x2 M2 k2 => ?_⟩
      try walk_at "ev"
      refine Xa (k2.L hnr nu1) ?_
      rw [Zk]
      try walk_at "ev"
      refine ⟨by omega, R8 (k2.L hnr nu1) (by omega) rfl fun t ht => ⟨Z0 (by decide), ?_⟩⟩
      exact q (.jump y t) _ hye (fun g h => by cases h; exact ht) rfl (k1.trans k2)
    · simp only [G0]
      try walk_at "ev"
      try simp only [g12, g15]
      refine ⟨r, na, rfl, k1.dr, har, nms.ke k1 har, fun o1 M2 ok1 k2 => ?_⟩
      have K2 := k1.trans k2
      try walk_at "ev"
      try simp only [g12, g15]
      refine ⟨r, na, rfl, K2.dr, har, nms.ke K2 har, fun o2 M3 ok2 k3 => ?_⟩
      have K3 := K2.trans k3
      have hne : M3.length ≠ r := by have := K3.dr.lt; omega
      try walk_at "ev"
      try simp only [g12, g15]
      split
      · refine ⟨Z0 (by decide), r, rfl, K3.dr.app _, fun x4 M4 k4 => ?_⟩
        have K4 := (K3.app _).trans k4
        try walk_at "ev"
        refine Xm (k4.L hne (Zb M3 _ [])) rfl (by decide) fun d4 h4 => ?_
        obtain ⟨sg, rfl, ok_sg⟩ := Qe (xs := ["+", "-", "/", "rest", "&", "^"]) h4 (by decide +kernel)
        try walk_at "ev"
        try simp only [g12, g15]
        refine ix_l (K4.L hnr hnu) (Y3 hy) ⟨r, rfl, K4.dr, fun x5 M5 k5 => ?_⟩
        try walk_at "ev"
        refine (nms.ke (K4.trans k5) har).pick fun x6 ok6 => ⟨Z0 (by decide), ?_⟩
        exact q (.sum y x6 o1 sg o2) _ hye (fun g h => by cases h) (by simp only [Rw.ok, ok6, ok1, ok_sg, ok2, Bool.and_self]) (K4.trans k5)
      · simp only [Gg]
        try walk_at "ev"
        try simp only [g12, g15]
        refine ⟨Z0 (by decide), r, rfl, K3.dr.app _, fun x4 M4 k4 => ?_⟩
        have K4 := (K3.app _).trans k4
        try walk_at "ev"
        refine Xm (k4.L hne (Zb M3 _ [])) rfl (by decide) fun d4 h4 => ?_
        obtain ⟨sg, rfl, ok_sg⟩ := Qe (xs := ["<", "="]) h4 (by decide +kernel)
        try walk_at "ev"
        try simp only [g12, g15]
        refine ix_l (K4.L hnr hnu) (Y3 hy) ⟨r, rfl, K4.dr, fun x5 M5 k5 => ?_⟩
        have K5 := K4.trans k5
        try walk_at "ev"
        refine Xa (K5.L hnr hnu) ?_
        rw [Zk]
        try walk_at "ev"
        refine ⟨by omega, R8 (K5.L hnr hnu) (by omega) rfl fun t ht => ⟨Z0 (by decide), ?_⟩⟩
        exact q (.test y o1 sg o2 t) _ hye (fun g h => by cases h; exact ht) (by simp only [Rw.ok, ok1, ok_sg, ok2, Bool.and_self]) K5
theorem Zj6 {Γ G} (g12 : Γ[12]? = some Y1) (g16 : Γ[16]? = some Vy) : ∀ ds M Q Z, W3 ds M Q Z → tss ⟨K, Γ, G⟩ noX b_Lrows { nx := fun _ M => Q .non M, rt := Q } (start0 O6 ds) M := by
  rintro ds M Q Z ⟨r, na, rfl, hd, har, nms, q⟩
  simp only [b_Lrows, O6]
  try walk_at "ev"
  try simp only [g12]
  refine ⟨r, rfl, hd, fun x M1 k1 => ?_⟩
  try walk_at "ev"
  refine ⟨by decide, ?_⟩
  rw [qm (show (0 : Int) < 39 + 1 by decide)]
  have r1 := Int.emod_nonneg (x : Int) (show (39 + 1 : Int) ≠ 0 by decide)
  have r2 := Int.emod_lt_of_pos (x : Int) (show (0 : Int) < 39 + 1 by decide)
  obtain ⟨many, hm1, e⟩ : ∃ many : Nat, many ≤ 39 ∧ (x : Int) % (39 + 1) = many := ⟨((x : Int) % (39 + 1)).toNat, by omega, by omega⟩
  rw [e]
  have hne1 : M1.length ≠ r := by have := k1.dr.lt; omega
  try simp only [g12]
  refine ⟨Z0 (by decide), r, rfl, k1.dr.app _, fun x2 M2 k2 => ?_⟩
  have K2 := (k1.app _).trans k2
  try walk_at "ev"
  obtain ⟨j, m, ej, hm⟩ := Zm8 (xs := ([1, 10, 97] : List Nat)) (c := (x2 : Int)) (n := 3) rfl (by decide)
  have hm0 : 0 < m := by
    have := List.mem_of_getElem? hm
    simp at this
    omega
  rw [qm (show (0 : Int) < 3 by decide), show (x2 : Int) % 3 = (j : Int) from ej]
  refine ix_l (xs := natD [1, 10, 97]) (k2.L hne1 (Zb M1 _ [])) (Y3 hm) ?_
  try walk_at "ev"
  try simp only [g12]
  refine ⟨r, rfl, K2.dr, fun x3 M3 k3 => ?_⟩
  have K3 := K2.trans k3
  have hne3 : M3.length ≠ r := by have := K3.dr.lt; omega
  try walk_at "ev"
  rw [qm (show (0 : Int) < 300 by decide)]
  obtain ⟨b0, eb⟩ : ∃ b0 : Nat, (x3 : Int) % 300 = b0 := ⟨((x3 : Int) % 300).toNat, by have := Int.emod_nonneg (x3 : Int) (show (300 : Int) ≠ 0 by decide); omega⟩
  rw [eb]
  refine ⟨Z0 (by decide), by omega, by omega, ?_⟩
  rw [Int.toNat_natCast]
  refine Su (fun i σ M' => ∃ (nums : List Nat) (d6 d7 : Option D), σ = [some (.ref r), some (.ref na), some (.int 39), some (.int many), some (.int m), some (.ref M3.length), d6, d7] ∧ Ke r M3 M' ∧ Za M' M3.length = some (natD nums) ∧ nums.length = i + 1 ∧ nums.Pairwise (· < ·))
    ⟨[b0], none, none, rfl, (Ke.refl K3.dr).app _, Ze _ _ [], rfl, List.pairwise_singleton _ _⟩ ?_ ?_
  · rintro i σ M' C hi ⟨nums, d6, d7, rfl, ke, hw, hlen, hpw⟩ hC
    obtain ⟨y, hy⟩ : ∃ y, nums[i]? = some y := ⟨_, List.getElem?_eq_getElem (by omega)⟩
    simp only [Nl, Int.zero_add]
    try walk_at "ev"
    try simp only [g12]
    refine ⟨Zf (Z2 hw), ix_l (Z2 hw) (Y3 hy) ⟨r, rfl, ke.dr, fun x4 M4 k4 => ?_⟩⟩
    have hw4 := k4.W hne3 hw
    try walk_at "ev"
    refine ⟨by omega, _, hw4, by rw [Zk]; exact Z6 (by omega), ?_⟩
    rw [qm (show (0 : Int) < m by omega)]
    have nn := Int.emod_nonneg (x4 : Int) (show (m : Int) ≠ 0 by omega)
    generalize (x4 : Int) % (m : Int) = v at nn
    rw [show ((y : Int) + 1 + v) = ((y + 1 + v.toNat : Nat) : Int) by omega, ← Yq]
    refine hC _ _ ⟨nums ++ [y + 1 + v.toNat], _, _, rfl, (ke.trans k4).set (Nat.le_refl _) hne3 _, J8 hw4, by rw [List.length_append, hlen]; rfl, List.pairwise_append.mpr ⟨hpw, List.pairwise_singleton _ _, fun x hx z hz => ?_⟩⟩
    rw [List.mem_singleton] at hz
    subst hz
    obtain ⟨p, hp, rfl⟩ := List.mem_iff_getElem.mp hx
    have hyi : nums[i]'(by omega) = y := by rw [List.getElem?_eq_getElem (by omega)] at hy; exact Option.some.inj hy
    by_cases e : p = i
    · subst e; rw [hyi]; omega
    · have := List.pairwise_iff_getElem.mp hpw p i hp (by omega) (by omega)
      omega
  · rintro σ M4 ⟨nums, d6, d7, rfl, ke, hw, hlen, hpw⟩
    have K4 := K3.trans ke
    have hne4 : M4.length ≠ r := by have := ke.dr.lt; omega
    have hlt4 := E7 hw
    simp only [N4]
    try walk_at "ev"
    refine ⟨by omega, by omega, ?_⟩
    rw [Int.toNat_natCast]
    simp only [capD, List.map_cons, List.map_nil, Option.bind_none, Option.bind_some, List.getElem?_cons_zero, List.getElem?_cons_succ, Option.join_some]
    refine Wr (fun i σ M' => ∃ (d1 : Option D) (rows : List Rw), σ = [d1, some (.ref r), some (.ref M3.length), some (.ref na)] ∧ Ke r M4 M' ∧ Za M' M4.length = some (rows.map Rw.d) ∧ rows.map Rw.num = nums.take i ∧ (∀ w ∈ rows, ∀ g, w.goal = some g → g ∈ nums) ∧ ∀ w ∈ rows, w.ok = true) ⟨none, [], rfl, (Ke.refl ke.dr).app _, Ze _ _ [], rfl, by simp, by simp⟩ (fun _ _ _ _ _ => trivial) ?_ ?_
    · rintro i dx σ M' C hx ⟨d1, rows, rfl, k5, hw5, hn, hg, hok⟩ hC
      have hi : i < many := by
        have := (List.getElem?_eq_some_iff.mp hx).1
        rwa [X0] at this
      rw [Rh hi] at hx
      cases hx
      simp only [Int.zero_add]
      try walk_at "ev"
      try simp only [g16]
      refine ⟨r, i, M3.length, na, nums, rfl, k5.dr, hne3, har, k5.L hne3 (Z2 hw), by omega, by omega, nms.ke (K4.trans k5) har, fun w M6 e1 e2 e3 k6 => ?_⟩
      have hlr : rows.length = i := by have := congrArg List.length hn; rw [List.length_map, List.length_take] at this; omega
      obtain ⟨y, hy⟩ : ∃ y, nums[i]? = some y := ⟨_, List.getElem?_eq_getElem (by omega)⟩
      have hw6 := k6.W hne4 hw5
      refine ⟨_, hw6, by rw [List.length_map]; exact Z6 (by omega), ?_⟩
      refine hC _ _ ⟨_, rows ++ [w], rfl, (k5.trans k6).set (Nat.le_refl _) hne4 _, by rw [J8 hw6, List.map_append]; rfl, by rw [List.map_append, hn, X7 hy]; show _ ++ [w.num] = _; rw [e1 y hy], fun w' hw' => ?_, fun w' hw' => ?_⟩
      · rcases List.mem_append.mp hw' with h | h
        · exact hg w' h
        · rw [List.mem_singleton] at h; subst h; exact e2
      · rcases List.mem_append.mp hw' with h | h
        · exact hok w' h
        · rw [List.mem_singleton] at h; subst h; exact e3
    · rintro σ M5 ⟨d1, rows, rfl, k5, hw5, hn, hg, hok⟩
      rw [X0] at hn
      have K5 := K4.trans k5
      have hne : nums ≠ [] := by rintro rfl; simp at hlen
      obtain ⟨nums', z, rfl⟩ : ∃ nums' z, nums = nums' ++ [z] := ⟨nums.dropLast, nums.getLast hne, (List.dropLast_concat_getLast hne).symm⟩
      rw [List.length_append, List.length_singleton] at hlen
      have hl' : nums'.length = many := by omega
      rw [List.take_append_of_le_length (by omega), ← hl', List.take_length] at hn
      have hlr : rows.length = many := by have := congrArg List.length hn; rw [List.length_map] at this; omega
      have lastN : atI (natD (nums' ++ [z])) (-1) = some (.int (z : Nat)) := by rw [Yq]; exact Pf _ _
      have nu5 := k5.L hne3 (Z2 hw)
      try walk_at "ev"
      try simp only [g12]
      refine ⟨r, rfl, k5.dr, fun x6 M6 k6 => ?_⟩
      have K6 := K5.trans k6
      have hw6 := k6.W hne4 hw5
      have nu6 := k6.L hne3 nu5
      have fin : ∀ (w : Rw) M7, w.num = z → w.goes = false → (∀ g, w.goal = some g → g ∈ nums' ++ [z]) → w.ok = true → Ke r M5 M7 → ∀ σ d7, σ = [some (.ref r), some (.ref na), some (.int 39), some (.int many), some (.int m), some (.ref M3.length), d7, some (.ref M4.length)] → ∃ xs, Za M7 M4.length = some xs ∧ xs.length < sizeLine ∧ tss ⟨K, Γ, G⟩ noX Sx { nx := fun _ M => Q .non M, rt := Q } σ (M7.set M4.length (.lst (xs ++ [w.d]))) := by
        rintro w M7 e1 e2 e3 e4 k7 σ d7 rfl
        have hw7 := k7.W hne4 hw5
        refine ⟨_, hw7, by rw [List.length_map]; exact Z6 (by omega), ?_⟩
        simp only [Sx]
        try walk_at "ev"
        have en : (rows ++ [w]).map Rw.num = nums' ++ [z] := by rw [List.map_append, hn]; show _ ++ [w.num] = _; rw [e1]
        have l4 := K4.len
        refine q (rows ++ [w]) _ _ ⟨by simp, by rw [List.length_append, List.length_singleton]; omega, by rw [en]; exact Jc hpw, fun r' hr' g hg' => ?_, fun p r' hp hgo => ?_⟩ (by rw [List.length_append, List.length_singleton]; omega) (fun r' hr' => ?_) (K4.trans ((k5.trans k7).set (Nat.le_refl _) hne4 _)) (by rw [J8 hw7, List.map_append]; rfl) l4
        · rw [en]
          rcases List.mem_append.mp hr' with h | h
          · exact hg r' h g hg'
          · rw [List.mem_singleton] at h; subst h; exact e3 g hg'
        · rw [List.length_append, List.length_singleton]
          by_cases hpl : p < rows.length
          · omega
          · rw [List.getElem?_append_right (by omega)] at hp
            have := List.mem_of_getElem? hp
            rw [List.mem_singleton] at this
            subst this
            rw [e2] at hgo
            cases hgo
        · rcases List.mem_append.mp hr' with h | h
          · exact hok r' h
          · rw [List.mem_singleton] at h; subst h; exact e4
      try walk_at "ev"
      try simp only [g12]
      split
      · refine ⟨Zf (Z2 hw6), .inl ⟨_, -1, _, rfl, nu6, lastN, r, rfl, k6.dr, fun x7 M7 k7 => ?_⟩⟩
        have nu7 := k7.L hne3 nu6
        try walk_at "ev"
        refine Xa nu7 ?_
        rw [Zk]
        try walk_at "ev"
        refine ⟨by rw [List.length_append, List.length_singleton]; omega, R8 nu7 (by rw [List.length_append, List.length_singleton]; omega) rfl fun t ht => ⟨Z0 (by decide), ?_⟩⟩
        exact fin (.jump z t) _ rfl rfl (fun g e => by cases e; exact ht) rfl (k6.trans k7) _ _ rfl
      · refine ⟨Zf (Z2 hw6), .inl ⟨_, -1, _, rfl, nu6, lastN, Z0 (by decide), ?_⟩⟩
        exact fin (.fin z) _ rfl rfl (fun g e => by cases e) rfl k6 _ _ rfl
end
noncomputable def hd (d : Nd) : Nat := d.gs.headD 0
noncomputable def nj (d : Nd) (i : Nat) : Bool := match d.gs with
  | [] => false
  | t :: _ => t != i + 1
noncomputable def nf (gr : List Nd) : Nat → Nat
  | 0 => 0
  | i + 1 => nf gr i + (if nj (gr.getD i .fin) i = true then 2 else 1)
theorem Sz (gr : List Nd) {i k : Nat} (h : i < k) : nf gr i < nf gr k := by
  induction k with
  | zero => omega
  | succ k ih =>
    have e : nf gr (k + 1) = nf gr k + (if nj (gr.getD k .fin) k = true then 2 else 1) := rfl
    by_cases hk : i = k
    · subst hk; rw [e]; split <;> omega
    · have := ih (by omega); rw [e]; split <;> omega
theorem Za1 (gr : List Nd) : ∀ i, nf gr i ≤ 2 * i
  | 0 => Nat.le_refl _
  | i + 1 => by
    have h := Za1 gr i
    have e : nf gr (i + 1) = nf gr i + (if nj (gr.getD i .fin) i = true then 2 else 1) := rfl
    rw [e]; split <;> omega
noncomputable def Zm0 (num : Nat → Nat) (p : Nat) : Nd → D
  | .sum x a sg b _ => .tup [.int (p : Nat), .str "sum", .str x, a.d, .str sg, b.d]
  | .test a sg b y _ => .tup [.int (p : Nat), .str "test", a.d, .str sg, b.d, .int (num y : Nat)]
  | .fin => .tup [.int (p : Nat), .str "end"]
  | .spin => .tup [.int (p : Nat), .str "jump", .int (p : Nat)]
noncomputable def Zw3 (num : Nat → Nat) (p : Nat) (d : Nd) : D := .tup [.int ((p + 1 : Nat) : Int), .str "jump", .int (num (hd d) : Nat)]
noncomputable def Vp (num : Nat → Nat) (p i : Nat) (d : Nd) : List D := Zm0 num p d :: (if nj d i = true then [Zw3 num p d] else [])
noncomputable def Wv (gr : List Nd) : Nat → List D
  | 0 => []
  | i + 1 => Wv gr i ++ Vp (nf gr) (nf gr i) i (gr.getD i .fin)
theorem Oa (gr : List Nd) : ∀ i, (Wv gr i).length = nf gr i
  | 0 => rfl
  | i + 1 => by
    show (Wv gr i ++ Vp (nf gr) (nf gr i) i (gr.getD i .fin)).length = nf gr i + (if nj (gr.getD i .fin) i = true then 2 else 1)
    rw [List.length_append, Oa gr i]
    unfold Vp
    split <;> rfl
def Zt : DSp := fun ds M Q _ => ∃ (d : Nd) (i : Nat), ds = [d.d, .int i] ∧ Q (.bl (nj d i)) M
def Zy : DSp := fun ds M Q _ => ∃ (a : Nat) (gr : List Nd), ds = [.ref a] ∧ Z7 M a = some (gr.map Nd.d) ∧ gr.length ≤ 1000 ∧ Q (.ref M.length) (M ++ [.lst (natD ((List.range gr.length).map (nf gr)))])
def Y0 : DSp := fun ds M Q _ => ∃ (d : Nd) (i b n : Nat) (num : Nat → Nat), ds = [d.d, .int i, .ref b] ∧ Z7 M b = some (natD ((List.range n).map num)) ∧ i < n ∧ (∀ t ∈ d.gs, t < n) ∧ Q (.ref M.length) (M ++ [.lst (Vp num (num i) i d)])
def Yr : DSp := fun ds M Q _ => ∃ (a : Nat) (gr : List Nd), ds = [.ref a] ∧ Z7 M a = some (gr.map Nd.d) ∧ gr.length ≤ 1000 ∧ (∀ k, k < gr.length → ∀ t ∈ wy gr k, t < gr.length) ∧ ∀ c N, Q (.ref (M.length + 1)) (M ++ c :: .lst (Wv gr gr.length) :: N)
section
variable {K : PySem.W.Frag}
noncomputable def natP (l : List Nat) : List PyData := l.map fun (x : Nat) => PyData.int (x : Int)
theorem El {M : Z1} : ∀ l : List Nat, PDs M (natP l) (natD l)
  | [] => rfl
  | _ :: r => ⟨_, _, rfl, rfl, El r⟩
theorem Jy : ∀ l : List Nat, PyData.canLayAll0 (natP l) = true
  | [] => by unfold natP; rw [List.map_nil, PyData.canLayAll0]
  | x :: r => by
    show PyData.canLayAll0 (PyData.int (x : Nat) :: natP r) = true
    unfold PyData.canLayAll0
    rw [Jy r]
    rfl
theorem Fv {M : Z1} {l : List Nat} {B : Bool → Prop} (q : B l.isEmpty) : eqD M (.tup (natD l)) (.tup []) B := by
  refine .inl ⟨.tuple (natP l), .tuple [], ⟨_, rfl, El l⟩, ⟨_, rfl, rfl⟩, by unfold PyData.canLay0; exact Jy l, by unfold PyData.canLay0 PyData.canLayAll0; rfl, ?_, ?_⟩
  · exact Nat.le_trans (Nat.min_le_right _ _) (by simp [PyData.depth, PyData.depthAll])
  · cases l with
    | nil => exact q
    | cons p r => exact q
theorem G7 {d : Nd} {t : Nat} {r : List Nat} (h : d.gs = t :: r) : atI (natD d.gs.reverse) (-1) = some (.int (t : Nat)) := by
  cases d with
  | sum x a sg b t' => cases h; rfl
  | test a sg b y n => cases h; rfl
  | fin => cases h
  | spin => cases h
theorem Zn9 {Γ G} (g0 : Γ[0]? = some Zs) : ∀ ds M Q Z, Zt ds M Q Z → tss ⟨K, Γ, G⟩ noX b_needs_jump { nx := fun _ M => Q .non M, rt := Q } (start0 W2 ds) M := by
  rintro ds M Q Z ⟨d, i, rfl, q⟩
  simp only [b_needs_jump, W2]
  walk_at "ev"
  simp only [g0]
  refine ⟨d, rfl, ?_⟩
  walk_at "ev"
  refine ⟨Z0 (by decide), Fv ?_⟩
  unfold nj at q
  cases h : d.gs with
  | nil =>
    rw [h] at q
    exact q
  | cons t r =>
    rw [h] at q
    rw [show (t :: r).reverse.isEmpty = false by simp, if_pos (by decide)]
    refine ⟨_, by rw [← h]; exact G7 h, ?_⟩
    walk_at "ev"
    have e : (!decide ((t : Int) = (i : Int) + 1)) = (t != i + 1) := by
      by_cases c : t = i + 1
      · subst c; simp
      · have c' : ¬ (t : Int) = (i : Int) + 1 := by omega
        simp [c, c']
    rw [e]
    exact q
theorem Zl1 {Γ G} (g1 : Γ[7]? = some Zt) : ∀ ds M Q Z, Zy ds M Q Z → tss ⟨K, Γ, G⟩ noX b_first_numbers { nx := fun _ M => Q .non M, rt := Q } (start0 X8 ds) M := by
  rintro ds M Q Z ⟨a, gr, rfl, hr, hn, q⟩
  simp only [b_first_numbers, X8]
  walk_at "ev"
  refine ⟨Z0 (by decide), _, Z4 hr, ?_⟩
  refine Vv (fun i σ M' => ∃ d3 d4, σ = [some (.ref a), some (.ref M.length), some (.int (nf gr i : Nat)), d3, d4] ∧ M' = M ++ [.lst (natD ((List.range i).map (nf gr)))]) ⟨none, none, rfl, rfl⟩ ?_ ?_ ?_
  · rintro i σ M' _ ⟨d3, d4, rfl, rfl⟩
    exact ⟨_, Z4 hr, rfl⟩
  · rintro i dx σ M' C hx ⟨d3, d4, rfl, rfl⟩ hC
    obtain ⟨x, hx2, rfl⟩ := T9 hx
    have hi : i < gr.length := by have := (List.getElem?_eq_some_iff.mp hx2).1; rwa [List.length_map] at this
    obtain ⟨nd, hd⟩ : ∃ nd, gr[i]? = some nd := ⟨_, List.getElem?_eq_getElem hi⟩
    rw [Sy hd] at hx2
    cases hx2
    have eg : gr.getD i .fin = nd := by rw [List.getD_eq_getElem?_getD, hd]; rfl
    simp only [Wh]
    walk_at "ev"
    refine ⟨Zf (Zb _ _ []), _, Ze _ _ [], by rw [Zk, List.length_map, List.length_range]; exact Z6 (by omega), ?_⟩
    rw [Yo, ← Yq]
    simp only [g1]
    refine ⟨nd, i, rfl, ?_⟩
    walk_at "ev"
    have e1 : (List.range i).map (nf gr) ++ [nf gr i] = (List.range (i + 1)).map (nf gr) := by rw [List.range_succ, List.map_append]; rfl
    rw [e1]
    have e2 : nf gr (i + 1) = nf gr i + (if nj nd i = true then 2 else 1) := by rw [← eg]; rfl
    cases hj : nj nd i with
    | true =>
      rw [hj, if_pos rfl] at e2
      refine hC _ _ ⟨some (.int i), some nd.d, ?_, rfl⟩
      rw [e2]
      rfl
    | false =>
      rw [hj, if_neg (by decide)] at e2
      refine hC _ _ ⟨some (.int i), some nd.d, ?_, rfl⟩
      rw [e2]
      rfl
  · rintro σ M' ⟨d3, d4, rfl, rfl⟩
    simp only [Wf]
    walk_at "ev"
    rw [Tc, List.length_map]
    exact q
theorem Cd {M : Z1} {b n t : Nat} {num : Nat → Nat} (h : Z7 M b = some (natD ((List.range n).map num))) (ht : t < n) {F : D → Prop} (q : F (.int (num t : Nat))) : ixD M (.ref b) (.int (t : Nat)) F := by
  refine ix_l h (Y3 ?_) q
  rw [List.getElem?_map, List.getElem?_range ht]
  rfl
theorem Zi4 {Γ G} (g0 : Γ[0]? = some Zs) (g1 : Γ[7]? = some Zt) : ∀ ds M Q Z, Y0 ds M Q Z → tss ⟨K, Γ, G⟩ noX b_rows_of_node { nx := fun _ M => Q .non M, rt := Q } (start0 Xb ds) M := by
  rintro ds M Q Z ⟨d, i, b, n, num, rfl, hr, hi, hg, q⟩
  have tail : ∀ e : D, e = Zm0 num (num i) d → d.gs ≠ [] → tss ⟨K, Γ, G⟩ noX Xh { nx := fun _ M => Q .non M, rt := Q } [some d.d, some (.int i), some (.ref b), some (.int (num i : Nat)), some (.ref M.length)] (M ++ [.lst [e]]) := by
    rintro e rfl hne
    simp only [Xh]
    walk_at "ev"
    simp only [g1]
    refine ⟨d, i, rfl, ?_⟩
    walk_at "ev"
    unfold Vp at q
    cases hj : nj d i with
    | true =>
      rw [hj, if_pos rfl] at q
      rw [if_pos rfl]
      simp only [g0]
      refine ⟨Zf (Zb _ _ []), d, rfl, ?_⟩
      obtain ⟨t, r, hgs⟩ : ∃ t r, d.gs = t :: r := by
        cases h : d.gs with
        | nil => exact absurd h hne
        | cons t r => exact ⟨t, r, rfl⟩
      walk_at "ev"
      refine ⟨_, G7 hgs, Cd (Z4 hr) (hg t (by rw [hgs]; simp)) ?_⟩
      try walk_at "ev"
      refine ⟨Z0 (by decide), _, Ze _ _ [], Z6 (by simp), ?_⟩
      rw [Yo]
      simp only [Xi]
      walk_at "ev"
      have eh : hd d = t := by unfold hd; rw [hgs]; rfl
      unfold Zw3 at q
      rw [eh] at q
      exact q
    | false =>
      rw [hj, if_neg (by decide)] at q
      rw [if_neg (by decide)]
      simp only [Xi]
      walk_at "ev"
      exact q
  simp only [b_rows_of_node, Xb]
  walk_at "ev"
  refine Cd hr hi ?_
  cases d with
  | sum x o1 sg o2 t =>
    simp only [Nd.d]
    walk_at "ev"
    refine ⟨_, rfl, ?_⟩
    walk_at "ev"
    rw [if_neg (by decide +kernel)]
    simp only [Ys]
    walk_at "ev"
    refine ⟨_, rfl, ?_⟩
    walk_at "ev"
    rw [if_neg (by decide +kernel)]
    simp only [Xf]
    walk_at "ev"
    refine ⟨_, rfl, ?_⟩
    walk_at "ev"
    rw [show U.cutD [.str "sum", .str x, o1.d, .str sg, o2.d, .int t] none (some 5) = [.str "sum", .str x, o1.d, .str sg, o2.d] from rfl]
    refine ⟨Z0 (by decide), by decide, by simp, Z0 (by simp), Z0 (by decide), ?_⟩
    exact tail _ rfl (by simp [Nd.gs])
  | test o1 sg o2 y m =>
    simp only [Nd.d]
    walk_at "ev"
    refine ⟨_, rfl, ?_⟩
    walk_at "ev"
    rw [if_neg (by decide +kernel)]
    simp only [Ys]
    walk_at "ev"
    refine ⟨_, rfl, ?_⟩
    walk_at "ev"
    rw [if_neg (by decide +kernel)]
    simp only [Xf]
    walk_at "ev"
    refine ⟨_, rfl, ?_⟩
    walk_at "ev"
    rw [if_neg (by decide +kernel)]
    rw [show U.cutD [.str "test", o1.d, .str sg, o2.d, .int y, .int m] none (some 4) = [.str "test", o1.d, .str sg, o2.d] from rfl]
    refine ⟨Z0 (by decide), by decide, by simp, Z0 (by simp), _, rfl, Cd hr (hg y (by simp [Nd.gs])) ?_⟩
    try walk_at "ev"
    refine ⟨Z0 (by decide), by simp, Z0 (by simp), Z0 (by decide), ?_⟩
    exact tail _ rfl (by simp [Nd.gs])
  | fin =>
    simp only [Nd.d]
    walk_at "ev"
    refine ⟨_, rfl, ?_⟩
    walk_at "ev"
    exact ⟨Z0 (by decide), Z0 (by decide), q⟩
  | spin =>
    simp only [Nd.d]
    walk_at "ev"
    refine ⟨_, rfl, ?_⟩
    walk_at "ev"
    rw [if_neg (by decide +kernel)]
    simp only [Ys]
    walk_at "ev"
    refine ⟨_, rfl, ?_⟩
    walk_at "ev"
    exact ⟨Z0 (by decide), Z0 (by decide), q⟩
theorem Zq8 {Γ G} (g2 : Γ[8]? = some Zy) (g3 : Γ[9]? = some Y0) : ∀ ds M Q Z, Yr ds M Q Z → tss ⟨K, Γ, G⟩ noX b_laid_out { nx := fun _ M => Q .non M, rt := Q } (start0 Vk ds) M := by
  rintro ds M Q Z ⟨a, gr, rfl, hr, hn, hcl, q⟩
  simp only [b_laid_out, Vk]
  walk_at "ev"
  simp only [g2]
  refine ⟨a, gr, rfl, hr, hn, ?_⟩
  walk_at "ev"
  rw [List.length_append, List.append_assoc]
  simp only [List.length_cons, List.length_nil, List.cons_append, List.nil_append]
  refine ⟨Z0 (by decide), _, Z4 hr, ?_⟩
  refine Vv (fun i σ M' => ∃ N d3 d4, σ = [some (.ref a), some (.ref M.length), some (.ref (M.length + (0 + 1))), d3, d4] ∧ M' = M ++ .lst (natD ((List.range gr.length).map (nf gr))) :: .lst (Wv gr i) :: N) ⟨[], none, none, rfl, rfl⟩ ?_ ?_ ?_
  · rintro i σ M' _ ⟨N, d3, d4, rfl, rfl⟩
    exact ⟨_, Z4 hr, rfl⟩
  · rintro i dx σ M' C hx ⟨N, d3, d4, rfl, rfl⟩ hC
    obtain ⟨x, hx2, rfl⟩ := T9 hx
    have hi : i < gr.length := by have := (List.getElem?_eq_some_iff.mp hx2).1; rwa [List.length_map] at this
    obtain ⟨nd, hd⟩ : ∃ nd, gr[i]? = some nd := ⟨_, List.getElem?_eq_getElem hi⟩
    rw [Sy hd] at hx2
    cases hx2
    have eg : gr.getD i .fin = nd := by rw [List.getD_eq_getElem?_getD, hd]; rfl
    simp only [S9]
    walk_at "ev"
    simp only [g3]
    refine ⟨Zf (by rw [Zl]; rfl), nd, i, _, gr.length, nf gr, rfl, Zb _ _ _, hi, fun t ht => hcl i hi t (by rw [T8 hd]; exact ht), ?_⟩
    walk_at "ev"
    rw [List.append_assoc]
    simp only [List.cons_append]
    refine ⟨Wv gr i, Vp (nf gr) (nf gr i) i nd, by rw [Zn]; rfl, ?_, ?_, ?_⟩
    · rw [show M ++ .lst (natD ((List.range gr.length).map (nf gr))) :: .lst (Wv gr i) :: (N ++ [.lst (Vp (nf gr) (nf gr i) i nd)]) = (M ++ .lst (natD ((List.range gr.length).map (nf gr))) :: .lst (Wv gr i) :: N) ++ [.lst (Vp (nf gr) (nf gr i) i nd)] by simp]
      exact Ze _ _ []
    · rw [Oa]
      have h1 := Za1 gr i
      have h2 : (Vp (nf gr) (nf gr i) i nd).length ≤ 2 := by unfold Vp; split <;> simp
      exact Z0 (by omega)
    · rw [Y7]
      walk_at "ev"
      refine hC _ _ ⟨N ++ [.lst (Vp (nf gr) (nf gr i) i nd)], _, _, rfl, ?_⟩
      show _ = M ++ .lst (natD ((List.range gr.length).map (nf gr))) :: .lst (Wv gr i ++ Vp (nf gr) (nf gr i) i (gr.getD i .fin)) :: (N ++ [.lst (Vp (nf gr) (nf gr i) i nd)])
      rw [eg]
  · rintro σ M' ⟨N, d3, d4, rfl, rfl⟩
    simp only [S6]
    walk_at "ev"
    rw [Tc, List.length_map]
    exact q _ _
end
noncomputable def E9 (num : Nat → Nat) (p : Nat) : Nd → Rw
  | .sum x a sg b _ => .sum p x a sg b
  | .test a sg b y _ => .test p a sg b (num y)
  | .fin => .fin p
  | .spin => .jump p p
noncomputable def blkW (num : Nat → Nat) (p i : Nat) (d : Nd) : List Rw := E9 num p d :: (if nj d i = true then [.jump (p + 1) (num (hd d))] else [])
noncomputable def rwsP (gr : List Nd) : Nat → List Rw
  | 0 => []
  | i + 1 => rwsP gr i ++ blkW (nf gr) (nf gr i) i (gr.getD i .fin)
theorem Zn8 (num : Nat → Nat) (p : Nat) (d : Nd) : (E9 num p d).d = Zm0 num p d := by cases d <;> rfl
theorem Zq9 (num : Nat → Nat) (p i : Nat) (d : Nd) : (blkW num p i d).map Rw.d = Vp num p i d := by
  unfold blkW Vp
  rw [List.map_cons, Zn8]
  split <;> rfl
theorem Fb (gr : List Nd) : ∀ i, (rwsP gr i).map Rw.d = Wv gr i
  | 0 => rfl
  | i + 1 => by
    show (rwsP gr i ++ blkW (nf gr) (nf gr i) i (gr.getD i .fin)).map Rw.d = Wv gr i ++ Vp (nf gr) (nf gr i) i (gr.getD i .fin)
    rw [List.map_append, Fb gr i, Zq9]
noncomputable def wi (d : Nd) (i : Nat) : Nat := if nj d i = true then 2 else 1
theorem Gs (num : Nat → Nat) (p i : Nat) (d : Nd) : (blkW num p i d).length = wi d i := by unfold blkW wi; split <;> rfl
theorem Rl (gr : List Nd) (i : Nat) : nf gr (i + 1) = nf gr i + wi (gr.getD i .fin) i := rfl
theorem Zo9 (d : Nd) (i : Nat) : 0 < wi d i := by unfold wi; split <;> omega
theorem Yt (gr : List Nd) : ∀ i, (rwsP gr i).length = nf gr i
  | 0 => rfl
  | i + 1 => by
    show (rwsP gr i ++ blkW (nf gr) (nf gr i) i (gr.getD i .fin)).length = _
    rw [List.length_append, Yt gr i, Gs, Rl]
theorem Je (gr : List Nd) {a b : Nat} (h : a ≤ b) : nf gr a ≤ nf gr b := by
  by_cases e : a = b
  · subst e; exact Nat.le_refl _
  · exact Nat.le_of_lt (Sz gr (by omega))
theorem Zp3 (gr : List Nd) {a b : Nat} (e : nf gr a = nf gr b) : a = b := by
  by_cases h1 : a < b
  · have := Sz gr h1; omega
  · by_cases h2 : b < a
    · have := Sz gr h2; omega
    · omega
theorem Tk (gr : List Nd) {k j : Nat} (hj : j < wi (gr.getD k .fin) k) : ∀ {m : Nat}, k < m → (rwsP gr m)[nf gr k + j]? = (blkW (nf gr) (nf gr k) k (gr.getD k .fin))[j]?
  | 0, h => absurd h (Nat.not_lt_zero _)
  | m + 1, h => by
    show (rwsP gr m ++ blkW (nf gr) (nf gr m) m (gr.getD m .fin))[nf gr k + j]? = _
    by_cases ek : k = m
    · subst ek
      rw [List.getElem?_append_right (by rw [Yt]; omega), Yt, Nat.add_sub_cancel_left]
    · have h1 := Je gr (a := k + 1) (b := m) (by omega)
      rw [Rl] at h1
      rw [List.getElem?_append_left (by rw [Yt]; omega)]
      exact Tk gr hj (by omega)
theorem Js (gr : List Nd) {p : Nat} : ∀ {m : Nat}, p < nf gr m → ∃ k j, k < m ∧ j < wi (gr.getD k .fin) k ∧ p = nf gr k + j
  | 0, h => absurd h (Nat.not_lt_zero _)
  | m + 1, h => by
    rw [Rl] at h
    by_cases hp : p < nf gr m
    · obtain ⟨k, j, a1, a2, a3⟩ := Js gr (p := p) (m := m) hp
      exact ⟨k, j, by omega, a2, a3⟩
    · exact ⟨m, p - nf gr m, by omega, by omega, by omega⟩
theorem Zc4 {num : Nat → Nat} {p i j : Nat} {d : Nd} {w : Rw} (h : (blkW num p i d)[j]? = some w) : w.num = p + j := by
  match j, h with
  | 0, h =>
    have e : E9 num p d = w := by unfold blkW at h; exact Option.some.inj h
    subst e
    cases d <;> rfl
  | 1, h =>
    unfold blkW at h
    split at h
    · cases h; rfl
    · cases h
  | j + 2, h =>
    unfold blkW at h
    split at h
    · simp at h
    · simp at h
theorem Jg (gr : List Nd) (n : Nat) : (rwsP gr n).map Rw.num = List.range (nf gr n) := by
  apply List.ext_getElem?
  intro p
  by_cases hp : p < nf gr n
  · obtain ⟨k, j, hk, hj, rfl⟩ := Js gr hp
    have hl : j < (blkW (nf gr) (nf gr k) k (gr.getD k .fin)).length := by rw [Gs]; exact hj
    rw [List.getElem?_map, Tk gr hj hk, List.getElem?_range hp, List.getElem?_eq_getElem hl, Option.map_some, Zc4 (List.getElem?_eq_getElem hl)]
  · rw [List.getElem?_eq_none (by rw [List.length_map, Yt]; omega), List.getElem?_eq_none (by rw [List.length_range]; omega)]
theorem Nw (gr : List Nd) {n g : Nat} (h : g < nf gr n) : Pa (rwsP gr n) g = g := by
  unfold Pa
  rw [Jg]
  have := ND.Nt (List.nodup_range (n := nf gr n)) (i := g) (by rw [List.length_range]; exact h)
  rwa [List.getElem_range] at this
theorem Zx0 {d : Nd} {i : Nat} (h : nj d i ≠ true) (hg : d.gs ≠ []) : hd d = i + 1 := by
  unfold nj at h
  unfold hd
  cases e : d.gs with
  | nil => exact absurd e hg
  | cons t r => rw [e] at h; simpa using h
theorem Zw1 {d : Nd} {i : Nat} (hg : d.gs = []) : nj d i = false := by unfold nj; rw [hg]
theorem Za9 {J : Nat → Option Nat} {p q : Nat} (e : J p = some p) (h : LN.Orb J p q) : q = p := by
  induction h with
  | refl _ => rfl
  | step e2 _ ih => rw [e] at e2; cases e2; exact ih e
section
variable {gr : List Nd} (cl : ∀ k, k < gr.length → ∀ t ∈ wy gr k, t < gr.length)
theorem gd {k : Nat} {d : Nd} (h : gr[k]? = some d) : gr.getD k .fin = d := by rw [List.getD_eq_getElem?_getD, h]; rfl
theorem Zw5 {k : Nat} {d : Nd} (h : gr[k]? = some d) : (rwsP gr gr.length)[nf gr k]? = some (E9 (nf gr) (nf gr k) d) := by
  have := Tk gr (k := k) (j := 0) (Zo9 _ _) (List.getElem?_eq_some_iff.mp h).1
  rw [gd h] at this
  exact this
include cl in
theorem Zk5 {k : Nat} {d : Nd} (h : gr[k]? = some d) (hg : d.gs ≠ []) : hd d < gr.length := by
  refine cl k (List.getElem?_eq_some_iff.mp h).1 _ ?_
  rw [T8 h]
  unfold hd
  cases e : d.gs with
  | nil => exact absurd e hg
  | cons t r => exact List.mem_cons_self
include cl in
theorem Bu (h0 : 0 < gr.length) (h1 : gr.length ≤ 1000) : RwOk (rwsP gr gr.length) where
  pos := by rw [Yt]; have := Sz gr h0; omega
  small := by rw [Yt]; have := Za1 gr gr.length; omega
  nd := by rw [Jg]; exact List.nodup_range
  goal := by
    intro w hw g hg
    rw [Jg, List.mem_range]
    obtain ⟨p, hp⟩ := List.getElem?_of_mem hw
    have hpl := (List.getElem?_eq_some_iff.mp hp).1
    rw [Yt] at hpl
    obtain ⟨k, j, hk, hj, rfl⟩ := Js gr hpl
    rw [Tk gr hj hk] at hp
    obtain ⟨d, hd'⟩ : ∃ d, gr[k]? = some d := ⟨_, List.getElem?_eq_getElem hk⟩
    rw [gd hd'] at hp hj
    have hcl := cl k hk
    rw [T8 hd'] at hcl
    match j, hp with
    | 0, hp =>
      have e : E9 (nf gr) (nf gr k) d = w := by unfold blkW at hp; exact Option.some.inj hp
      subst e
      cases d with
      | sum x a sg b t => cases hg
      | test a sg b y n => cases hg; exact Sz gr (hcl y (by simp [Nd.gs]))
      | fin => cases hg
      | spin => cases hg; exact hpl
    | 1, hp =>
      unfold blkW at hp
      split at hp
      · rename_i hj'
        cases hp
        cases hg
        refine Sz gr (Zk5 cl hd' fun e => ?_)
        rw [Zw1 e] at hj'
        cases hj'
      · cases hp
    | j + 2, hp => unfold wi at hj; split at hj <;> omega
  last := by
    intro p w hp hg
    have hpl := (List.getElem?_eq_some_iff.mp hp).1
    rw [Yt] at hpl ⊢
    obtain ⟨k, j, hk, hj, rfl⟩ := Js gr hpl
    rw [Tk gr hj hk] at hp
    obtain ⟨d, hd'⟩ : ∃ d, gr[k]? = some d := ⟨_, List.getElem?_eq_getElem hk⟩
    rw [gd hd'] at hp hj
    match j, hp with
    | 0, hp =>
      have e : E9 (nf gr) (nf gr k) d = w := by unfold blkW at hp; exact Option.some.inj hp
      subst e
      have hgs : d.gs ≠ [] := by cases d <;> first | (cases hg; done) | simp [Nd.gs]
      have e2 := Rl gr k
      rw [gd hd'] at e2
      by_cases hj' : nj d k = true
      · have := Je gr (a := k + 1) (b := gr.length) hk
        unfold wi at e2
        rw [if_pos hj'] at e2
        omega
      · have h2 := Zk5 cl hd' hgs
        rw [Zx0 hj' hgs] at h2
        have := Sz gr h2
        unfold wi at e2
        rw [if_neg hj'] at e2
        omega
    | 1, hp =>
      unfold blkW at hp
      split at hp
      · cases hp; cases hg
      · cases hp
    | j + 2, hp => unfold wi at hj; split at hj <;> omega
theorem ld_0 {L : Nat → Nat} (ld : Lands (rwsP gr gr.length) L) {k : Nat} (hk : k < gr.length) : L (nf gr k) = nf gr k := by
  obtain ⟨d, hd'⟩ : ∃ d, gr[k]? = some d := ⟨_, List.getElem?_eq_getElem hk⟩
  have hl : nf gr k < (rwsP gr gr.length).length := by rw [Yt]; exact Sz gr hk
  have h0 := Zw5 hd'
  cases d with
  | sum x a sg b t => exact ld.no _ hl (by unfold jmp; rw [h0]; rfl)
  | test a sg b y n => exact ld.no _ hl (by unfold jmp; rw [h0]; rfl)
  | fin => exact ld.no _ hl (by unfold jmp; rw [h0]; rfl)
  | spin =>
    refine Za9 (J := jmp (rwsP gr gr.length)) ?_ (ld.orb _ hl)
    unfold jmp
    rw [h0]
    show some (Pa _ (nf gr k)) = _
    rw [Nw gr (Sz gr hk)]
include cl in
theorem ld_1 {L : Nat → Nat} (ld : Lands (rwsP gr gr.length) L) {k : Nat} {d : Nd} (h : gr[k]? = some d) (hg : d.gs ≠ []) : L (nf gr k + 1) = nf gr (hd d) := by
  have hk := (List.getElem?_eq_some_iff.mp h).1
  have ht := Zk5 cl h hg
  have e2 := Rl gr k
  rw [gd h] at e2
  by_cases hj : nj d k = true
  · unfold wi at e2
    rw [if_pos hj] at e2
    have hm := Je gr (a := k + 1) (b := gr.length) hk
    have h1 := Tk gr (k := k) (j := 1) (m := gr.length) (by rw [gd h]; unfold wi; rw [if_pos hj]; omega) hk
    rw [gd h] at h1
    unfold blkW at h1
    rw [if_pos hj] at h1
    rw [ld.yes (nf gr k + 1) (nf gr (hd d)) (by rw [Yt]; omega) (by unfold jmp; rw [h1]; show some (Pa _ (nf gr (hd d))) = _; rw [Nw gr (Sz gr ht)])]
    exact ld_0 ld ht
  · unfold wi at e2
    rw [if_neg hj] at e2
    have e3 := Zx0 hj hg
    rw [e3, ← e2]
    rw [e3] at ht
    exact ld_0 ld ht
include cl in
theorem Z33 {L : Nat → Nat} (ld : Lands (rwsP gr gr.length) L) {k : Nat} {d : Nd} (h : gr[k]? = some d) : (Zo (rwsP gr gr.length) L)[nf gr k]? = some (d.to (nf gr)) := by
  have hk := (List.getElem?_eq_some_iff.mp h).1
  have hcl := cl k hk
  rw [T8 h] at hcl
  have h0 := Zw5 h
  cases d with
  | sum x a sg b t =>
    rw [Xs h0]
    show some (Nd.sum x a sg b (L (nf gr k + 1))) = _
    rw [ld_1 cl ld h (by simp [Nd.gs])]
    rfl
  | test a sg b y n =>
    have hy := hcl y (by simp [Nd.gs])
    rw [Xs h0]
    show some (Nd.test a sg b (L (Pa _ (nf gr y))) (L (nf gr k + 1))) = _
    rw [Nw gr (Sz gr hy), ld_0 ld hy, ld_1 cl ld h (by simp [Nd.gs])]
    rfl
  | fin => rw [Xs h0]; rfl
  | spin => rw [Xs h0]; rfl
theorem Nd.to_to (f g : Nat → Nat) (d : Nd) (h : ∀ t ∈ d.gs, g (f t) = t) : (d.to f).to g = d := by
  cases d with
  | sum x a sg b t => show Nd.sum x a sg b (g (f t)) = _; rw [h t (by simp [Nd.gs])]
  | test a sg b y n => show Nd.test a sg b (g (f y)) (g (f n)) = _; rw [h y (by simp [Nd.gs]), h n (by simp [Nd.gs])]
  | fin => rfl
  | spin => rfl
include cl in
theorem Wi (h0 : 0 < gr.length) (en : ND.Ends (wy gr) 0 (List.range gr.length).reverse) {L : Nat → Nat} (ld : Lands (rwsP gr gr.length) L) {d : List Nat} (h : ND.Ends (wy (Zo (rwsP gr gr.length) L)) (L 0) d) : d.length = gr.length ∧ gra (Zo (rwsP gr gr.length) L) d.reverse = gr := by
  have l0 : L 0 = 0 := ld_0 (gr := gr) ld h0
  have key := ND.Ends.map (g' := wy (Zo (rwsP gr gr.length) L)) (S := (· < gr.length)) (π := nf gr) (fun x hx => cl x hx) (fun a b _ _ e => Zp3 gr e)
    (fun x hx => by
      obtain ⟨dd, hd⟩ : ∃ d, gr[x]? = some d := ⟨_, List.getElem?_eq_getElem hx⟩
      rw [T8 (Z33 cl ld hd), T8 hd, Nd.gs_to]) h0 en
  rw [l0] at h
  have e := h.uniq key
  have er : d.reverse = (List.range gr.length).map (nf gr) := by rw [e, ← List.map_reverse, List.reverse_reverse]
  have nd : ((List.range gr.length).map (nf gr)).Nodup := by
    rw [← er]
    exact List.pairwise_reverse.mpr (h.facts.1.imp fun h => Ne.symm h)
  refine ⟨by rw [e, List.length_map, List.length_reverse, List.length_range], ?_⟩
  rw [er]
  apply List.ext_getElem?
  intro i
  by_cases hi : i < gr.length
  · obtain ⟨dd, hd⟩ : ∃ d, gr[i]? = some d := ⟨_, List.getElem?_eq_getElem hi⟩
    have hO : ∀ y, y < gr.length → ((List.range gr.length).map (nf gr))[y]? = some (nf gr y) := fun y hy => by rw [List.getElem?_map, List.getElem?_range hy]; rfl
    rw [Jl (hO i hi) (Z33 cl ld hd), hd, Nd.to_to]
    intro t ht
    have htl : t < gr.length := cl i hi t (by rw [T8 hd]; exact ht)
    obtain ⟨hl, he⟩ := List.getElem?_eq_some_iff.mp (hO t htl)
    have := ND.Nt nd hl
    rw [he] at this
    exact this
  · rw [List.getElem?_eq_none (by rw [Xw, List.length_map, List.length_range]; omega), List.getElem?_eq_none (by omega)]
end
theorem Z27 {gr : List Nd} (h : ∀ d ∈ gr, d.ok = true) : ∀ n, ∀ w ∈ rwsP gr n, w.ok = true
  | 0, w, hw => by cases hw
  | n + 1, w, hw => by
    have hn : (gr.getD n .fin).ok = true := by
      rw [List.getD_eq_getElem?_getD]
      cases e : gr[n]? with
      | none => rfl
      | some d => exact h d (List.mem_of_getElem? e)
    rcases List.mem_append.mp (show w ∈ rwsP gr n ++ blkW (nf gr) (nf gr n) n (gr.getD n .fin) from hw) with hw | hw
    · exact Z27 h n w hw
    · unfold blkW at hw
      rcases List.mem_cons.mp hw with rfl | hw
      · generalize gr.getD n .fin = d at hn
        cases d <;> exact hn
      · split at hw
        · rw [List.mem_singleton] at hw; subst hw; rfl
        · cases hw
theorem Ci {rows : List Rw} (h : ∀ w ∈ rows, w.ok = true) (L : Nat → Nat) : ∀ d ∈ Zo rows L, d.ok = true := by
  intro d hd
  obtain ⟨i, hi⟩ := List.getElem?_of_mem hd
  unfold Zo at hi
  rw [List.getElem?_mapIdx, Option.map_eq_some_iff] at hi
  obtain ⟨w, hw, rfl⟩ := hi
  have := h w (List.mem_of_getElem? hw)
  cases w <;> exact this
theorem C7 {raw : List Nd} {x : Nat} {d : List Nat} (e : ND.Ends (wy raw) x d) : ND.Ends (wy (gra raw d.reverse)) 0 (List.range (gra raw d.reverse).length).reverse := by
  rw [Cy, Xw, List.length_reverse]
  refine ND.Sc (g' := GT.Sc (wy raw) d.reverse) e (fun i hi => ?_)
  unfold GT.Sc
  rw [List.getElem?_eq_getElem hi]
theorem Zr3 {raw : List Nd} {x : Nat} {d : List Nat} (e : ND.Ends (wy raw) x d) : 0 < (gra raw d.reverse).length ∧ ∀ dd ∈ gra raw d.reverse, ∀ t ∈ dd.gs, t < (gra raw d.reverse).length := by
  obtain ⟨nd, cl, last⟩ := e.facts
  rw [Xw]
  have hx : x ∈ d := List.mem_of_getLast? last
  refine ⟨List.length_pos_of_mem (List.mem_reverse.mpr hx), fun dd hdd t ht => ?_⟩
  unfold gra at hdd
  obtain ⟨y, hy, rfl⟩ := List.mem_map.mp hdd
  rw [Nd.gs_to] at ht
  obtain ⟨u, hu, rfl⟩ := List.mem_map.mp ht
  refine List.idxOf_lt_length_of_mem (List.mem_reverse.mpr (cl y (List.mem_reverse.mp hy) u ?_))
  rw [List.getD_eq_getElem?_getD] at hu
  cases e2 : raw[y]? with
  | none => rw [e2] at hu; cases hu
  | some d2 => rw [e2] at hu; rw [T8 e2]; exact hu
theorem Z20 {rows : List Rw} (ok : RwOk rows) {L : Nat → Nat} (ld : Lands rows L) {d : List Nat} (en : ND.Ends (wy (Zo rows L)) (L 0) d) : ∀ y ∈ d, y < rows.length :=
  B8 (S := (· < rows.length)) (fun y hy t ht => by
    obtain ⟨dd, hdd⟩ : ∃ dd, (Zo rows L)[y]? = some dd := ⟨_, List.getElem?_eq_getElem (by rw [Wq]; exact hy)⟩
    rw [T8 hdd] at ht
    exact Jz ok ld dd (List.mem_of_getElem? hdd) t ht) (ld.lt 0 ok.pos) en
noncomputable def Opd.p : Opd → PyData
  | .nm x => .str x
  | .no i => .int i
theorem Opd.pd {M : Z1} (o : Opd) : PD M o.p o.d := by cases o <;> rfl
noncomputable def Rw.p : Rw → PyData
  | .sum k x a sg b => .tuple [.int k, .str "sum", .str x, a.p, .str sg, b.p]
  | .test k a sg b g => .tuple [.int k, .str "test", a.p, .str sg, b.p, .int g]
  | .jump k g => .tuple [.int k, .str "jump", .int g]
  | .fin k => .tuple [.int k, .str "end"]
theorem Rw.pd {M : Z1} (d : Rw) : PD M d.p d.d := by
  cases d with
  | sum k x a sg b => exact ⟨_, rfl, _, _, rfl, rfl, _, _, rfl, rfl, _, _, rfl, rfl, _, _, rfl, a.pd, _, _, rfl, rfl, _, _, rfl, b.pd, rfl⟩
  | test k a sg b g => exact ⟨_, rfl, _, _, rfl, rfl, _, _, rfl, rfl, _, _, rfl, a.pd, _, _, rfl, rfl, _, _, rfl, b.pd, _, _, rfl, rfl, rfl⟩
  | jump k g => exact ⟨_, rfl, _, _, rfl, rfl, _, _, rfl, rfl, _, _, rfl, rfl, rfl⟩
  | fin k => exact ⟨_, rfl, _, _, rfl, rfl, _, _, rfl, rfl, rfl⟩
theorem Z25 {M : Z1} : ∀ gr : List Rw, PDs M (gr.map Rw.p) (gr.map Rw.d)
  | [] => rfl
  | d :: r => ⟨_, _, rfl, d.pd, Z25 r⟩
theorem Opd.lay (o : Opd) (h : o.ok = true) : PyData.canLay0 o.p = true := by
  cases o with
  | nm x => exact h
  | no i => rfl
theorem Rw.lay (d : Rw) (h : d.ok = true) : PyData.canLay0 d.p = true := by
  have i : ∀ t : Int, PyData.canLay0 (.int t) = true := fun _ => rfl
  have s1 : PyData.canLay0 (.str "sum") = true := by decide +kernel
  have s2 : PyData.canLay0 (.str "test") = true := by decide +kernel
  have s3 : PyData.canLay0 (.str "end") = true := by decide +kernel
  have s4 : PyData.canLay0 (.str "jump") = true := by decide +kernel
  have tup : ∀ l, PyData.canLay0 (.tuple l) = PyData.canLayAll0 l := fun _ => by rw [PyData.canLay0]
  have cons : ∀ x l, PyData.canLayAll0 (x :: l) = (PyData.canLay0 x && PyData.canLayAll0 l) := fun _ _ => by rw [PyData.canLayAll0]
  have nil : PyData.canLayAll0 [] = true := by rw [PyData.canLayAll0]
  cases d with
  | sum k x a sg b =>
    simp only [Rw.ok, Bool.and_eq_true] at h
    simp only [Rw.p, tup, cons, nil, s1, i, h.1.1.1, h.1.2, a.lay h.1.1.2, b.lay h.2, Bool.and_self]
  | test k a sg b g =>
    simp only [Rw.ok, Bool.and_eq_true] at h
    simp only [Rw.p, tup, cons, nil, s2, i, h.1.2, a.lay h.1.1, b.lay h.2, Bool.and_self]
  | jump k g => simp only [Rw.p, tup, cons, nil, s4, i, Bool.and_self]
  | fin k => simp only [Rw.p, tup, cons, nil, s3, i, Bool.and_self]
theorem Ge : ∀ gr : List Rw, (∀ d ∈ gr, d.ok = true) → PyData.canLayAll0 (gr.map Rw.p) = true
  | [], _ => by rw [List.map_nil, PyData.canLayAll0]
  | d :: r, h => by
    rw [List.map_cons]
    unfold PyData.canLayAll0
    rw [Ge r fun x hx => h x (List.mem_cons_of_mem _ hx), d.lay (h d List.mem_cons_self)]
    rfl
theorem Rw.dep (d : Rw) : PyData.depth d.p ≤ 5 := by
  cases d with
  | sum k x a sg b => cases a <;> cases b <;> (simp only [Rw.p, Opd.p, PyData.depth, PyData.depthAll]; decide)
  | test k a sg b g => cases a <;> cases b <;> (simp only [Rw.p, Opd.p, PyData.depth, PyData.depthAll]; decide)
  | jump k g => simp only [Rw.p, PyData.depth, PyData.depthAll]; decide
  | fin k => simp only [Rw.p, PyData.depth, PyData.depthAll]; decide
theorem Cv : ∀ gr : List Rw, PyData.depthAll (gr.map Rw.p) ≤ 5
  | [] => by simp [PyData.depthAll]
  | d :: r => by
    rw [List.map_cons]
    unfold PyData.depthAll
    have := Cv r
    have := d.dep
    omega
theorem Zs7 {M : Z1} {m n : Nat} {rows : List Rw} {B : Bool → Prop} (h1 : Z7 M m = some (rows.map Rw.d)) (h2 : Z7 M n = some (rows.map Rw.d)) (ok : ∀ d ∈ rows, d.ok = true) (q : B true) : eqD M (.ref m) (.ref n) B := by
  have hc : PyData.canLay0 (.list (rows.map Rw.p)) = true := by unfold PyData.canLay0; exact Ge rows ok
  refine .inl ⟨.list (rows.map Rw.p), .list (rows.map Rw.p), ⟨m, _, rfl, h1, Z25 rows⟩, ⟨n, _, rfl, h2, Z25 rows⟩, hc, hc, ?_, ?_⟩
  · unfold PyData.depth
    have := Cv rows
    omega
  · rw [PySem.SeqAt.eqv_refl _ hc]
    exact q
theorem Y07 {M : Z1} (d : Nd) : AL M 1 d.d d.d := by
  have key : ∀ xs : List D, xs.length ≤ 100000 → (∀ x ∈ xs, Y5 x = true) → AL M 1 (.tup xs) (.tup xs) := by
    intro xs hs hf
    refine .inr (.inl ⟨xs, xs, rfl, rfl, rfl, hs, fun i u v hu hv => ?_⟩)
    rw [hu] at hv
    cases hv
    exact AL.flat (hf u (List.mem_of_getElem? hu))
  cases d with
  | sum x a sg b t => cases a <;> cases b <;> exact key _ (by simp) (by simp [Opd.d, Y5])
  | test a sg b y n => cases a <;> cases b <;> exact key _ (by simp) (by simp [Opd.d, Y5])
  | fin => exact key _ (by simp) (by simp [Y5])
  | spin => exact key _ (by simp) (by simp [Y5])
theorem Zy2 {M : Z1} {m k : Nat} {gr : List Nd} (h1 : Za M m = some (gr.map Nd.d)) (h2 : Za M k = some (gr.map Nd.d)) (hs : gr.length ≤ 1000) : AL M 2 (.ref m) (.ref k) := by
  refine .inr (.inr ⟨m, k, _, _, rfl, rfl, h1, h2, rfl, by rw [List.length_map]; omega, fun i u v hu hv => ?_⟩)
  rw [hu] at hv
  cases hv
  rw [List.getElem?_map, Option.map_eq_some_iff] at hu
  obtain ⟨d, _, rfl⟩ := hu
  exact Y07 d
theorem Y11 {M : Z1} (d : Rw) : AL M 1 d.d d.d := by
  have key : ∀ xs : List D, xs.length ≤ 100000 → (∀ x ∈ xs, Y5 x = true) → AL M 1 (.tup xs) (.tup xs) := by
    intro xs hs hf
    refine .inr (.inl ⟨xs, xs, rfl, rfl, rfl, hs, fun i u v hu hv => ?_⟩)
    rw [hu] at hv
    cases hv
    exact AL.flat (hf u (List.mem_of_getElem? hu))
  cases d with
  | sum k x a sg b => cases a <;> cases b <;> exact key _ (by simp) (by simp [Opd.d, Y5])
  | test k a sg b g => cases a <;> cases b <;> exact key _ (by simp) (by simp [Opd.d, Y5])
  | jump k g => exact key _ (by simp) (by simp [Y5])
  | fin k => exact key _ (by simp) (by simp [Y5])
theorem Zv6 {M : Z1} {m k : Nat} {rows : List Rw} (h1 : Za M m = some (rows.map Rw.d)) (h2 : Za M k = some (rows.map Rw.d)) (hs : rows.length ≤ 10000) : AL M 2 (.ref m) (.ref k) := by
  refine .inr (.inr ⟨m, k, _, _, rfl, rfl, h1, h2, rfl, by rw [List.length_map]; omega, fun i u v hu hv => ?_⟩)
  rw [hu] at hv
  cases hv
  rw [List.getElem?_map, Option.map_eq_some_iff] at hu
  obtain ⟨d, _, rfl⟩ := hu
  exact Y11 d
theorem Nms.ne {M : Z1} {g r : Nat} (h : Nms M g) (d : Dr M r) : g ≠ r := by
  rintro rfl
  obtain ⟨l, a, _, c⟩ := h
  obtain ⟨l2, e⟩ := d
  rw [Z2 e] at c
  cases l with
  | nil => cases a
  | cons x t => cases l2 with
    | nil => cases c
    | cons y u => cases c
section
variable {K : PySem.W.Frag}
theorem Y16 {Γ G} (g6 : Γ[6]? = some Zd) (g10 : Γ[10]? = some Yr) (g11 : Γ[11]? = some Y8) (g12 : Γ[12]? = some Y1) (g13 : Γ[13]? = some Yi) (g17 : Γ[17]? = some W3) (g24 : Γ[24]? = some Vz) (g25 : Γ[25]? = some (Xu 2)) : ∀ ds M Q Z, Fi ds M Q Z → tss ⟨K, Γ, G⟩ noX b_law { nx := fun _ M => Q .non M, rt := Q } (start0 Z69 ds) M := by
  rintro ds M Q Z ⟨ns, rfl, rfl, hl, hb, q⟩
  simp only [b_law, Z69]
  try walk_at "ev"
  try simp only [g11]
  refine ⟨0, ns, rfl, rfl, hl, fun M1 r dr1 _ _ => ?_⟩
  try walk_at "ev"
  try simp only [g24]
  refine ⟨r, 40, rfl, dr1, by decide, by decide, fun gr M2 z num en h40 _ k2 hw2 hz2 => ?_⟩
  have hzr : z ≠ r := by have := dr1.lt; omega
  have cl : ∀ k, k < gr.length → ∀ t ∈ wy gr k, t < gr.length := fun k hk t ht => num.cl k hk t ht
  try walk_at "ev"
  try simp only [g10, g6, g25]
  refine ⟨z, gr, rfl, Z2 hw2, by omega, cl, fun c N => ?_⟩
  have k3 : Kp M2 (M2 ++ c :: .lst (Wv gr gr.length) :: N) := Kp.new _ _
  have hw3 : Za (M2 ++ c :: .lst (Wv gr gr.length) :: N) (M2.length + 1) = some ((rwsP gr gr.length).map Rw.d) := by rw [Zn, Fb]; rfl
  generalize M2 ++ c :: .lst (Wv gr gr.length) :: N = M3 at k3 hw3
  try walk_at "ev"
  refine ⟨_, rwsP gr gr.length, rfl, Z2 hw3, Bu cl num.pos (by omega), fun L d ld en2 => ?_, fun L d M4 z4 ld en2 k4 hw4 hz4 => ?_⟩
  · rw [(Wi cl num.pos en ld en2).1]; exact h40
  rw [(Wi cl num.pos en ld en2).2] at hw4
  try walk_at "ev"
  refine ⟨_, _, rfl, Zy2 hw4 (k4.W (k3.W hw2)) (by omega), ?_⟩
  have K4 := (k2.kp k3).kp k4
  clear hw4 hz4 ld en2 hw3 hw2 k3 k4 k2 hz2
  try walk_at "ev"
  simp only [Z04]
  try walk_at "ev"
  try simp only [g12, g13, g17]
  refine ⟨r, rfl, K4.dr, fun x M5 k5 => ?_⟩
  refine ⟨_, rfl, fun l M6 na hl4 hlay k6 hna => ?_⟩
  have dr6 := k5.dr.kp k6
  have nms : Nms M6 na := ⟨l, hl4, hlay, hna⟩
  refine ⟨r, na, rfl, dr6, nms.ne dr6, nms, fun rows M7 z7 ok h40r lay k7 hw7 hz7 => ?_⟩
  try walk_at "ev"
  try simp only [g6]
  refine ⟨z7, rows, rfl, Z2 hw7, ok, fun L d ld en2 => ?_, fun L d M8 z8 ld en2 k8 hw8 hz8 => ?_⟩
  · have := ND.Xe rows.length d en2.facts.1 (Z20 ok ld en2)
    omega
  have hlen : (gra (Zo rows L) d.reverse).length ≤ 40 := by
    have := ND.Xe rows.length d en2.facts.1 (Z20 ok ld en2)
    rw [Xw, List.length_reverse]; omega
  obtain ⟨gi1, gi2⟩ := Zr3 en2
  have gren := C7 en2
  have gok := Ze5 (O := d.reverse) (Ci lay L)
  generalize gra (Zo rows L) d.reverse = fo at hw8 hlen gi1 gi2 gren gok
  have fcl : ∀ k, k < fo.length → ∀ t ∈ wy fo k, t < fo.length := by
    intro k hk t ht
    obtain ⟨dd, hd⟩ : ∃ d, fo[k]? = some d := ⟨_, List.getElem?_eq_getElem hk⟩
    rw [T8 hd] at ht
    exact gi2 dd (List.mem_of_getElem? hd) t ht
  have flen : (rwsP fo fo.length).length ≤ 10000 := by rw [Yt]; have := Za1 fo fo.length; omega
  try walk_at "ev"
  try simp only [g10]
  refine ⟨z8, fo, rfl, Z2 hw8, by omega, fcl, fun c9 N9 => ?_⟩
  have k9 : Kp M8 (M8 ++ c9 :: .lst (Wv fo fo.length) :: N9) := Kp.new _ _
  have hw9 : Za (M8 ++ c9 :: .lst (Wv fo fo.length) :: N9) (M8.length + 1) = some ((rwsP fo fo.length).map Rw.d) := by rw [Zn, Fb]; rfl
  generalize M8 ++ c9 :: .lst (Wv fo fo.length) :: N9 = M9 at k9 hw9
  generalize M8.length + 1 = z9 at hw9
  have hw89 := k9.W hw8
  try walk_at "ev"
  refine ⟨_, Z2 hw9, ?_⟩
  have k10 : Kp M9 (M9 ++ [.lst ((rwsP fo fo.length).map Rw.d)]) := Kp.new _ _
  have hw10 := Ze M9 ((rwsP fo fo.length).map Rw.d) []
  have hw910 := k10.W hw9
  have hw810 := k10.W hw89
  generalize M9 ++ [.lst ((rwsP fo fo.length).map Rw.d)] = M10 at k10 hw10 hw910 hw810
  generalize M9.length = z10 at hw10
  try walk_at "ev"
  try simp only [g6, g25]
  refine ⟨z9, rwsP fo fo.length, rfl, Z2 hw910, Bu fcl gi1 (by omega), fun L d ld en2 => ?_, fun L d M11 z11 ld en2 k11 hw11 hz11 => ?_⟩
  · rw [(Wi fcl gi1 gren ld en2).1]; exact hlen
  rw [(Wi fcl gi1 gren ld en2).2] at hw11
  try walk_at "ev"
  refine ⟨_, _, rfl, Zy2 hw11 (k11.W hw810) (by omega), ?_⟩
  try walk_at "ev"
  simp only [Bl]
  try walk_at "ev"
  rw [if_neg (by decide)]
  refine Zs7 (Z2 (k11.W hw910)) (Z2 (k11.W hw10)) (Z27 gok _) ?_
  try walk_at "ev"
  try simp only [g6, g10, g25]
  refine ⟨z10, rwsP fo fo.length, rfl, Z2 (k11.W hw10), Bu fcl gi1 (by omega), fun L d ld en2 => ?_, fun L d M12 z12 ld en2 k12 hw12 hz12 => ?_⟩
  · rw [(Wi fcl gi1 gren ld en2).1]; exact hlen
  rw [(Wi fcl gi1 gren ld en2).2] at hw12
  try walk_at "ev"
  refine ⟨z12, fo, rfl, Z2 hw12, by omega, fcl, fun c13 N13 => ?_⟩
  try walk_at "ev"
  refine ⟨_, _, rfl, Zv6 (rows := rwsP fo fo.length) (by rw [Zn, Fb]; rfl) (Zw (k12.W (k11.W hw10))) flen, ?_⟩
  exact q _
end
set_option maxHeartbeats 0 in
theorem Zu5 {P : Program} {w : World} {K : PySem.W.Frag} {mg : Str → Option Value} {base : Heap} {t : Adr} (T : Tx K mg t) : FnOk P w K mg base (CX1 P w) 29 t.a_law t.d_law ["_law_script"] (spF K Fi) := by
  have PZ : Prg P w K mg base ⟨K, [bot, bot, bot, bot, bot, bot, bot, bot, bot, bot, bot, bot, bot, bot, bot, bot, bot, bot, bot, bot, bot, bot, bot, bot, bot, bot, bot], [.int 40]⟩ FN GN BN 0 := Prg.zero (ents T) rfl (by intro sp h; simp only [List.mem_cons, List.not_mem_nil, or_false, or_self] at h; exact h) (fun g x d h1 h2 => match g, h1, h2 with | 0, h1, h2 => by cases h1; cases h2; obtain ⟨tk, e⟩ := T.q_MOST_NODES; exact ⟨.int 40, _, e, ⟨tk, rfl⟩, fun w _ => Zc.mpr rfl⟩ | n + 1, h1, h2 => by cases h2) (blts T)
  have P0 := PZ.up (show 0 ≤ 0 by decide)
  have F0 := fn0 P0 T.F_ways Zj1 Zp5 (sp := Zs) (by rintro _ _ _ _ ⟨_, rfl, _⟩; rfl) Zx5
  have P1 : Prg P w K mg base ⟨K, [Zs, bot, bot, bot, bot, bot, bot, bot, bot, bot, bot, bot, bot, bot, bot, bot, bot, bot, bot, bot, bot, bot, bot, bot, bot, bot, bot], [.int 40]⟩ FN GN BN 1 := P0.add 0 (x := "ways") rfl F0 (Nat.le_refl _) (Nat.le_succ _) T.g_ways T.k_ways T.b_ways
  have F1 := fn0 P1 T.F_with_ways Of Nx (sp := Zz) (by rintro _ _ _ _ ⟨_, _, _, rfl, _⟩; rfl) Zq5
  have P2 : Prg P w K mg base ⟨K, [Zs, Zz, bot, bot, bot, bot, bot, bot, bot, bot, bot, bot, bot, bot, bot, bot, bot, bot, bot, bot, bot, bot, bot, bot, bot, bot, bot], [.int 40]⟩ FN GN BN 2 := P1.add 1 (x := "with_ways") rfl F1 (Nat.le_refl _) (Nat.le_succ _) T.g_with_ways T.k_with_ways T.b_with_ways
  have F2 := fn0 P2 T.F_walked Z17 Zc1 (sp := Zg) (by rintro _ _ _ _ ⟨_, _, _, _, rfl, _⟩; rfl) Za2
  have P3 : Prg P w K mg base ⟨K, [Zs, Zz, Zg, bot, bot, bot, bot, bot, bot, bot, bot, bot, bot, bot, bot, bot, bot, bot, bot, bot, bot, bot, bot, bot, bot, bot, bot], [.int 40]⟩ FN GN BN 3 := P2.add 2 (x := "walked") rfl F2 (Nat.le_refl _) (Nat.le_succ _) T.g_walked T.k_walked T.b_walked
  have F3 := fn0 P3 T.F_numbered Nz Fy (sp := Z8) (by rintro _ _ _ _ ⟨_, _, _, _, rfl, _⟩; rfl) (Fm rfl rfl)
  have P4 : Prg P w K mg base ⟨K, [Zs, Zz, Zg, Z8, bot, bot, bot, bot, bot, bot, bot, bot, bot, bot, bot, bot, bot, bot, bot, bot, bot, bot, bot, bot, bot, bot, bot], [.int 40]⟩ FN GN BN 4 := P3.add 3 (x := "numbered") rfl F3 (Nat.le_refl _) (Nat.le_succ _) T.g_numbered T.k_numbered T.b_numbered
  have F4 := fn0 P4 T.F_landings Ny Fw (sp := Z9) (by rintro _ _ _ _ ⟨_, _, _, _, _, rfl, _⟩; rfl) Fz
  have P5 : Prg P w K mg base ⟨K, [Zs, Zz, Zg, Z8, Z9, bot, bot, bot, bot, bot, bot, bot, bot, bot, bot, bot, bot, bot, bot, bot, bot, bot, bot, bot, bot, bot, bot], [.int 40]⟩ FN GN BN 5 := P4.add 4 (x := "landings") rfl F4 (Nat.le_refl _) (Nat.le_succ _) T.g_landings T.k_landings T.b_landings
  have F5 := fn0 P5 T.F_linked B3 Z66 (sp := Zh) (by rintro _ _ _ _ ⟨_, _, rfl, _⟩; rfl) (Zb1 rfl)
  have P6 : Prg P w K mg base ⟨K, [Zs, Zz, Zg, Z8, Z9, Zh, bot, bot, bot, bot, bot, bot, bot, bot, bot, bot, bot, bot, bot, bot, bot, bot, bot, bot, bot, bot, bot], [.int 40]⟩ FN GN BN 6 := P5.add 5 (x := "linked") rfl F5 (Nat.le_refl _) (Nat.le_succ _) T.g_linked T.k_linked T.b_linked
  have F6 := fn0 P6 T.F_graph_of Jk Ea (sp := Zd) (by rintro _ _ _ _ ⟨_, _, rfl, _⟩; rfl) (Ef rfl rfl rfl rfl)
  have P7 : Prg P w K mg base ⟨K, [Zs, Zz, Zg, Z8, Z9, Zh, Zd, bot, bot, bot, bot, bot, bot, bot, bot, bot, bot, bot, bot, bot, bot, bot, bot, bot, bot, bot, bot], [.int 40]⟩ FN GN BN 7 := P6.add 6 (x := "graph_of") rfl F6 (Nat.le_refl _) (Nat.le_succ _) T.g_graph_of T.k_graph_of T.b_graph_of
  have F7 := fn0 P7 T.F_needs_jump Pg Ot (sp := Zt) (by rintro _ _ _ _ ⟨_, _, rfl, _⟩; rfl) (Zn9 rfl)
  have P8 : Prg P w K mg base ⟨K, [Zs, Zz, Zg, Z8, Z9, Zh, Zd, Zt, bot, bot, bot, bot, bot, bot, bot, bot, bot, bot, bot, bot, bot, bot, bot, bot, bot, bot, bot], [.int 40]⟩ FN GN BN 8 := P7.add 7 (x := "needs_jump") rfl F7 (Nat.le_refl _) (Nat.le_succ _) T.g_needs_jump T.k_needs_jump T.b_needs_jump
  have F8 := fn0 P8 T.F_first_numbers Sd R0 (sp := Zy) (by rintro _ _ _ _ ⟨_, _, rfl, _⟩; rfl) (Zl1 rfl)
  have P9 : Prg P w K mg base ⟨K, [Zs, Zz, Zg, Z8, Z9, Zh, Zd, Zt, Zy, bot, bot, bot, bot, bot, bot, bot, bot, bot, bot, bot, bot, bot, bot, bot, bot, bot, bot], [.int 40]⟩ FN GN BN 9 := P8.add 8 (x := "first_numbers") rfl F8 (Nat.le_refl _) (Nat.le_succ _) T.g_first_numbers T.k_first_numbers T.b_first_numbers
  have F9 := fn0 P9 T.F_rows_of_node Ro Q3 (sp := Y0) (by rintro _ _ _ _ ⟨_, _, _, _, _, rfl, _⟩; rfl) (Zi4 rfl rfl)
  have P10 : Prg P w K mg base ⟨K, [Zs, Zz, Zg, Z8, Z9, Zh, Zd, Zt, Zy, Y0, bot, bot, bot, bot, bot, bot, bot, bot, bot, bot, bot, bot, bot, bot, bot, bot, bot], [.int 40]⟩ FN GN BN 10 := P9.add 9 (x := "rows_of_node") rfl F9 (Nat.le_refl _) (Nat.le_succ _) T.g_rows_of_node T.k_rows_of_node T.b_rows_of_node
  have F10 := fn0 P10 T.F_laid_out J7 Fk (sp := Yr) (by rintro _ _ _ _ ⟨_, _, rfl, _⟩; rfl) (Zq8 rfl rfl)
  have P11 : Prg P w K mg base ⟨K, [Zs, Zz, Zg, Z8, Z9, Zh, Zd, Zt, Zy, Y0, Yr, bot, bot, bot, bot, bot, bot, bot, bot, bot, bot, bot, bot, bot, bot, bot, bot], [.int 40]⟩ FN GN BN 11 := P10.add 10 (x := "laid_out") rfl F10 (Nat.le_refl _) (Nat.le_succ _) T.g_laid_out T.k_laid_out T.b_laid_out
  have F11 := fn0 P11 T.F_Ldraws Z22 Z97 (sp := Y8) (by rintro _ _ _ _ ⟨_, _, rfl, _⟩; rfl) Z91
  have P12 : Prg P w K mg base ⟨K, [Zs, Zz, Zg, Z8, Z9, Zh, Zd, Zt, Zy, Y0, Yr, Y8, bot, bot, bot, bot, bot, bot, bot, bot, bot, bot, bot, bot, bot, bot, bot], [.int 40]⟩ FN GN BN 12 := P11.add 11 (x := "_law_draws") rfl F11 (Nat.le_refl _) (Nat.le_succ _) T.g_Ldraws T.k_Ldraws T.b_Ldraws
  have F12 := fn0 P12 T.F_Lnext Z73 Zm9 (sp := Y1) (by rintro _ _ _ _ ⟨_, rfl, _⟩; rfl) Zh2
  have P13 : Prg P w K mg base ⟨K, [Zs, Zz, Zg, Z8, Z9, Zh, Zd, Zt, Zy, Y0, Yr, Y8, Y1, bot, bot, bot, bot, bot, bot, bot, bot, bot, bot, bot, bot, bot, bot], [.int 40]⟩ FN GN BN 13 := P12.add 12 (x := "_law_next") rfl F12 (Nat.le_refl _) (Nat.le_succ _) T.g_Lnext T.k_Lnext T.b_Lnext
  have F13 := fn0 P13 T.F_Lnames Z40 Z83 (sp := Yi) (by rintro _ _ _ _ ⟨_, rfl, _⟩; rfl) Z47
  have P14 : Prg P w K mg base ⟨K, [Zs, Zz, Zg, Z8, Z9, Zh, Zd, Zt, Zy, Y0, Yr, Y8, Y1, Yi, bot, bot, bot, bot, bot, bot, bot, bot, bot, bot, bot, bot, bot], [.int 40]⟩ FN GN BN 14 := P13.add 13 (x := "_law_names") rfl F13 (Nat.le_refl _) (Nat.le_succ _) T.g_Lnames T.k_Lnames T.b_Lnames
  have F14 := fn0 P14 T.F_Lgreat B0 Z68 (sp := Yh) (by rintro _ _ _ _ ⟨_, rfl, _⟩; rfl) (Z48 rfl)
  have P15 : Prg P w K mg base ⟨K, [Zs, Zz, Zg, Z8, Z9, Zh, Zd, Zt, Zy, Y0, Yr, Y8, Y1, Yi, Yh, bot, bot, bot, bot, bot, bot, bot, bot, bot, bot, bot, bot], [.int 40]⟩ FN GN BN 15 := P14.add 14 (x := "_law_great") rfl F14 (Nat.le_refl _) (Nat.le_succ _) T.g_Lgreat T.k_Lgreat T.b_Lgreat
  have F15 := fn0 P15 T.F_Loperand Jb E6 (sp := Zv) (by rintro _ _ _ _ ⟨_, _, rfl, _⟩; rfl) (E2 rfl rfl)
  have P16 : Prg P w K mg base ⟨K, [Zs, Zz, Zg, Z8, Z9, Zh, Zd, Zt, Zy, Y0, Yr, Y8, Y1, Yi, Yh, Zv, bot, bot, bot, bot, bot, bot, bot, bot, bot, bot, bot], [.int 40]⟩ FN GN BN 16 := P15.add 15 (x := "_law_operand") rfl F15 (Nat.le_refl _) (Nat.le_succ _) T.g_Loperand T.k_Loperand T.b_Loperand
  have F16 := fn0 P16 T.F_Lrow Zh3 Zx6 (sp := Vy) (by rintro _ _ _ _ ⟨_, _, _, _, _, rfl, _⟩; rfl) (Zp1 rfl rfl)
  have P17 : Prg P w K mg base ⟨K, [Zs, Zz, Zg, Z8, Z9, Zh, Zd, Zt, Zy, Y0, Yr, Y8, Y1, Yi, Yh, Zv, Vy, bot, bot, bot, bot, bot, bot, bot, bot, bot, bot], [.int 40]⟩ FN GN BN 17 := P16.add 16 (x := "_law_row") rfl F16 (Nat.le_refl _) (Nat.le_succ _) T.g_Lrow T.k_Lrow T.b_Lrow
  have F17 := fn0 P17 T.F_Lrows Z53 Zj0 (sp := W3) (by rintro _ _ _ _ ⟨_, _, rfl, _⟩; rfl) (Zj6 rfl rfl)
  have P18 : Prg P w K mg base ⟨K, [Zs, Zz, Zg, Z8, Z9, Zh, Zd, Zt, Zy, Y0, Yr, Y8, Y1, Yi, Yh, Zv, Vy, W3, bot, bot, bot, bot, bot, bot, bot, bot, bot], [.int 40]⟩ FN GN BN 18 := P17.add 17 (x := "_law_rows") rfl F17 (Nat.le_refl _) (Nat.le_succ _) T.g_Lrows T.k_Lrows T.b_Lrows
  have F18 := fn0 P18 T.F_Lfar Zk8 Zo1 (sp := X5) (by rintro _ _ _ _ ⟨_, _, _, _, rfl, _⟩; rfl) (Zt0 rfl)
  have P19 : Prg P w K mg base ⟨K, [Zs, Zz, Zg, Z8, Z9, Zh, Zd, Zt, Zy, Y0, Yr, Y8, Y1, Yi, Yh, Zv, Vy, W3, X5, bot, bot, bot, bot, bot, bot, bot, bot], [.int 40]⟩ FN GN BN 19 := P18.add 18 (x := "_law_far") rfl F18 (Nat.le_refl _) (Nat.le_succ _) T.g_Lfar T.k_Lfar T.b_Lfar
  have F19 := fn0 P19 T.F_Lnear Zc6 Zg2 (sp := X5) (by rintro _ _ _ _ ⟨_, _, _, _, rfl, _⟩; rfl) (Zj4 rfl rfl)
  have P20 : Prg P w K mg base ⟨K, [Zs, Zz, Zg, Z8, Z9, Zh, Zd, Zt, Zy, Y0, Yr, Y8, Y1, Yi, Yh, Zv, Vy, W3, X5, X5, bot, bot, bot, bot, bot, bot, bot], [.int 40]⟩ FN GN BN 20 := P19.add 19 (x := "_law_near") rfl F19 (Nat.le_refl _) (Nat.le_succ _) T.g_Lnear T.k_Lnear T.b_Lnear
  have F20 := fn0 P20 T.F_Lnode Z84 Zj7 (sp := V3) (by rintro _ _ _ _ ⟨_, _, _, _, rfl, _⟩; rfl) (Zm1 rfl rfl rfl rfl)
  have P21 : Prg P w K mg base ⟨K, [Zs, Zz, Zg, Z8, Z9, Zh, Zd, Zt, Zy, Y0, Yr, Y8, Y1, Yi, Yh, Zv, Vy, W3, X5, X5, V3, bot, bot, bot, bot, bot, bot], [.int 40]⟩ FN GN BN 21 := P20.add 20 (x := "_law_node") rfl F20 (Nat.le_refl _) (Nat.le_succ _) T.g_Lnode T.k_Lnode T.b_Lnode
  have F21 := fn0 P21 T.F_Lgoals By Zc2 (sp := Xv) (by rintro _ _ _ _ ⟨_, rfl, _⟩; rfl) Z72
  have P22 : Prg P w K mg base ⟨K, [Zs, Zz, Zg, Z8, Z9, Zh, Zd, Zt, Zy, Y0, Yr, Y8, Y1, Yi, Yh, Zv, Vy, W3, X5, X5, V3, Xv, bot, bot, bot, bot, bot], [.int 40]⟩ FN GN BN 22 := P21.add 21 (x := "_law_goals") rfl F21 (Nat.le_refl _) (Nat.le_succ _) T.g_Lgoals T.k_Lgoals T.b_Lgoals
  have F22 := fn0 P22 T.F_Lorder Z28 Z63 (sp := Wp) (by rintro _ _ _ _ ⟨_, _, rfl, _⟩; rfl) (Z54 rfl)
  have P23 : Prg P w K mg base ⟨K, [Zs, Zz, Zg, Z8, Z9, Zh, Zd, Zt, Zy, Y0, Yr, Y8, Y1, Yi, Yh, Zv, Vy, W3, X5, X5, V3, Xv, Wp, bot, bot, bot, bot], [.int 40]⟩ FN GN BN 23 := P22.add 22 (x := "_law_order") rfl F22 (Nat.le_refl _) (Nat.le_succ _) T.g_Lorder T.k_Lorder T.b_Lorder
  have F23 := fn0 P23 T.F_Lgraph Z32 Z98 (sp := V5) (by rintro _ _ _ _ ⟨_, _, rfl, _⟩; rfl) (Z61 rfl)
  have P24 : Prg P w K mg base ⟨K, [Zs, Zz, Zg, Z8, Z9, Zh, Zd, Zt, Zy, Y0, Yr, Y8, Y1, Yi, Yh, Zv, Vy, W3, X5, X5, V3, Xv, Wp, V5, bot, bot, bot], [.int 40]⟩ FN GN BN 24 := P23.add 23 (x := "_law_graph") rfl F23 (Nat.le_refl _) (Nat.le_succ _) T.g_Lgraph T.k_Lgraph T.b_Lgraph
  have F24 := fn0 P24 T.F_Ldrawn Ey Zc5 (sp := Vz) (by rintro _ _ _ _ ⟨_, _, rfl, _⟩; rfl) (Zb6 rfl rfl rfl)
  have P25 : Prg P w K mg base ⟨K, [Zs, Zz, Zg, Z8, Z9, Zh, Zd, Zt, Zy, Y0, Yr, Y8, Y1, Yi, Yh, Zv, Vy, W3, X5, X5, V3, Xv, Wp, V5, Vz, bot, bot], [.int 40]⟩ FN GN BN 25 := P24.add 24 (x := "_law_drawn") rfl F24 (Nat.le_refl _) (Nat.le_succ _) T.g_Ldrawn T.k_Ldrawn T.b_Ldrawn
  have F25_0 := fn0 P25 T.F_Lalike Q0 Qv (sp := (Xu 0)) (by rintro _ _ _ _ ⟨_, _, rfl, _⟩; rfl) Z02
  have P26_0 : Prg P w K mg base ⟨K, [Zs, Zz, Zg, Z8, Z9, Zh, Zd, Zt, Zy, Y0, Yr, Y8, Y1, Yi, Yh, Zv, Vy, W3, X5, X5, V3, Xv, Wp, V5, Vz, (Xu 0), bot], [.int 40]⟩ FN GN BN 26 := P25.add 25 (x := "_law_alike") rfl F25_0 (Nat.le_refl _) (Nat.le_succ _) T.g_Lalike T.k_Lalike T.b_Lalike
  have F25_1 := fn0 P26_0 T.F_Lalike Q0 Qv (sp := (Xu 1)) (by rintro _ _ _ _ ⟨_, _, rfl, _⟩; rfl) (Np rfl)
  have P26_1 : Prg P w K mg base ⟨K, [Zs, Zz, Zg, Z8, Z9, Zh, Zd, Zt, Zy, Y0, Yr, Y8, Y1, Yi, Yh, Zv, Vy, W3, X5, X5, V3, Xv, Wp, V5, Vz, (Xu 1), bot], [.int 40]⟩ FN GN BN 27 := P26_0.add 25 (x := "_law_alike") rfl F25_1 (Nat.le_refl _) (Nat.le_succ _) T.g_Lalike T.k_Lalike T.b_Lalike
  have F25_2 := fn0 P26_1 T.F_Lalike Q0 Qv (sp := (Xu 2)) (by rintro _ _ _ _ ⟨_, _, rfl, _⟩; rfl) (Np rfl)
  have P26 : Prg P w K mg base ⟨K, [Zs, Zz, Zg, Z8, Z9, Zh, Zd, Zt, Zy, Y0, Yr, Y8, Y1, Yi, Yh, Zv, Vy, W3, X5, X5, V3, Xv, Wp, V5, Vz, (Xu 2), bot], [.int 40]⟩ FN GN BN 28 := P26_1.add 25 (x := "_law_alike") rfl F25_2 (Nat.le_refl _) (Nat.le_succ _) T.g_Lalike T.k_Lalike T.b_Lalike
  have F26 := fn0 P26 T.F_law Zs0 Y13 (sp := Fi) (by rintro _ _ _ _ ⟨_, rfl, _⟩; rfl) (Y16 rfl rfl rfl rfl rfl rfl rfl rfl)
  exact F26
theorem Zl8 {l : PySem.W.OpenLaw} {w : World} {fa f : Addr} {K : PySem.W.Frag} {mg : Str → Option Value} (hfa : mg "law" = some (.ref fa)) (h : ∃ t : Adr, Tx K mg t ∧ t.a_law = f ∧ ∀ (s : Shared) (v : Value), BindsTo s t.d_law ⟨[v], []⟩ [("_law_script", v)])
    : ∃ fd : FuncData, (∀ (s : Shared) (v : Value), BindsTo s fd ⟨[v], []⟩ [("_law_script", v)]) ∧ ∀ base : Heap, K.In base → base.Ns mainGlobals mg → FnOk l.prog w K mg base (CX1 l.prog w) 29 fa fd ["_law_script"] (spF K Fi) := by
  obtain ⟨t, T, e, hb⟩ := h
  have e2 := hfa.symm.trans T.g_law
  cases e2
  exact ⟨t.d_law, hb, fun base _ _ => Zu5 T⟩
end K15
namespace Hand
open PySem PySem.Spec PyProof.Rows L2 L3 U K15
noncomputable def kf (n : Str) (i : Nat) (dV kV dc pm : Value) (an : Option Addr) (cd ct : Value) : Obj := ⟨.type "function", none, .func (PySem.W.fnOf n n (Zi (top i)) (Z5 (top i)) (Z3 (top i)) dV kV dc pm an cd ct), #[]⟩
noncomputable def kg (n : Str) (i : Nat) (m : Str) (t c : Nat) : Obj := kf n i .none .none .none (.str m t) none (.ref c) .none
noncomputable def kc (n : Str) (t : Nat) (l a : Int) (r : Nat) (x y : Int) (z : Nat) : Obj := ⟨.type "code", none, .fields #[.str n t, .str n (t + 1), .str "/claim/cut.py" (t + 2), .int l 0, .int a 0, .int 0 0, .int 0 0, .int 3 0, .ref r, .bool true, .int x 0, .ref (r + 1), .none, .ref (r + 2), .ref (r + 3), .ref (r + 4), .int y 0, .int l 0, .str "/claim/cut.py" z], #[]⟩
noncomputable def ke (P : Params) (x : Str) (t : Nat) (v : Value) : DictEntry := ⟨PyData.keyHash P x, .str x t, v⟩
abbrev kd : Value := .type "dict"
abbrev kR (a : Nat) : Value := .ref a
abbrev kS (x : Str) (t : Nat) : Value := .str x t
noncomputable def KH (P : Params) : PySem.W.Frag := (nat_lit 2, ⟨.none, none, .dict #[] 0, #[]⟩) :: (nat_lit 3, ⟨kd, none, .dict #[ke P "__name__" 165 (kS "law_unjump_k15_whole_laid_out_again" 342), ke P "__doc__" 166 .none, ke P "__package__" 167 .none, ke P "__loader__" 168 (.builtin "__main__.__loader__#opaque"), ke P "__spec__" 169 .none, ke P "__annotations__" 170 (kR 6), ke P "__builtins__" 171 (kR 4), ke P "__file__" 173 (kS "/claim/cut.py" 172), ke P "__cached__" 174 .none, ke P "JumpError" 215 (kR 32), ke P "TooGreat" 231 (kR 45), ke P "ways" 240 (kR 54), ke P "with_ways" 248 (kR 61), ke P "walked" 263 (kR 68), ke P "numbered" 269 (kR 73), ke P "MOST_NODES" 273 (.int 40 272), ke P "graph_of" 279 (kR 78), ke P "linked" 285 (kR 83), ke P "landings" 299 (kR 90), ke P "laid_out" 310 (kR 97), ke P "first_numbers" 321 (kR 104), ke P "needs_jump" 330 (kR 111), ke P "rows_of_node" 341 (kR 118), ke P "_law_draws" 357 (kR 125), ke P "_law_next" 364 (kR 132), ke P "_law_names" 372 (kR 139), ke P "_law_great" 380 (kR 146), ke P "_law_operand" 389 (kR 153), ke P "_law_row" 403 (kR 160), ke P "_law_rows" 409 (kR 165), ke P "_law_far" 421 (kR 172), ke P "_law_near" 431 (kR 179), ke P "_law_node" 447 (kR 186), ke P "_law_goals" 454 (kR 193), ke P "_law_order" 467 (kR 200), ke P "_law_graph" 478 (kR 207), ke P "_law_drawn" 484 (kR 212), ke P "_law_alike" 493 (kR 219), ke P "law" 506 (kR 226)] 39, #[]⟩) :: (nat_lit 22, ⟨(.type "tuple"), none, .seq #[.none] 0, #[]⟩) :: (nat_lit 28, ⟨(.type "code"), none, .fields #[(.str "__init__" 201), (.str "JumpError.__init__" 202), (.str "/claim/cut.py" 203), (.int 4 0), (.int 2 0), (.int 0 0), (.int 0 0), (.int 3 0), (.ref 23), (.bool true), (.int 181 0), (.ref 24), .none, (.ref 25), (.ref 26), (.ref 27), (.int 206 0), (.int 4 0), (.str "/claim/cut.py" 207)], #[]⟩) :: (nat_lit 29, { cls := Value.type "function", data := Data.func { name := Str.ofString "__init__", qualname := Str.ofString "JumpError.__init__", params := { posonlyargs := [], args := [{ arg := Str.ofString "self", annotation := none, pos := { line := 4, col := 17, endLine := 4, endCol := 21 } }, { arg := Str.ofString "row", annotation := none, pos := { line := 4, col := 23, endLine := 4, endCol := 26 } }], vararg := none, kwonlyargs := [], kw_defaults := [], kwarg := none, defaults := [Expr.Constant Const.none 0 { line := 4, col := 27, endLine := 4, endCol := 31 }] }, body := FuncBody.stmts [Stmt.Assign [(Expr.Name (Str.ofString "self") { line := 5, col := 8, endLine := 5, endCol := 12 }).Attribute (Str.ofString "row") { line := 5, col := 8, endLine := 5, endCol := 16 }] (Expr.Name (Str.ofString "row") { line := 5, col := 19, endLine := 5, endCol := 22 }) { line := 5, col := 8, endLine := 5, endCol := 22 }], scope := { kind := ScopeKind.function, names := [(Str.ofString "self", NameKind.local), (Str.ofString "row", NameKind.local)], isGenerator := false, isCoroutine := false }, globals := 3, closure := [], defaults := Value.ref 22, kwdefaults := Value.none, pyModule := Value.str (Str.ofString "unjump.errors") 187, code := Value.ref 28 } }) :: (nat_lit 31, ⟨kd, none, .dict #[ke P "__module__" 196 (kS "unjump.errors" 187), ke P "__firstlineno__" 200 (.int 2 199), ke P "__init__" 208 (kR 29), ke P "__static_attributes__" 210 (kR 30), ke P "__weakref__" 212 (kR 33), ke P "__doc__" 213 .none] 3, #[]⟩) :: (nat_lit 32, { cls := Value.type "type", data := Data.cls { name := Str.ofString "JumpError", bases := [Value.type "ValueError"], mro := [Value.ref 32, Value.type "ValueError", Value.type "Exception", Value.type "BaseException", Value.type "object"], ns := 31, qualname := Str.ofString "JumpError", subclasses := [Value.ref 45] }, slots := #[some (Value.ref 15), none, some (Value.str (Str.ofString "JumpError") 189), some (Value.str (Str.ofString "JumpError") 197), some (Value.builtin "ValueError.__new__"), some (Value.bool true)] }) :: (nat_lit 44, ⟨kd, none, .dict #[ke P "__module__" 223 (kS "unjump.errors" 187), ke P "__firstlineno__" 227 (.int 6 226), ke P "__static_attributes__" 228 (kR 43), ke P "__doc__" 229 .none] 2, #[]⟩) :: (nat_lit 45, { cls := Value.type "type", data := Data.cls { name := Str.ofString "TooGreat", bases := [Value.ref 32], mro := [Value.ref 45, Value.ref 32, Value.type "ValueError", Value.type "Exception", Value.type "BaseException", Value.type "object"], ns := 44, qualname := Str.ofString "TooGreat" }, slots := #[some (Value.ref 36), none, some (Value.str (Str.ofString "TooGreat") 216), some (Value.str (Str.ofString "TooGreat") 224), some (Value.builtin "ValueError.__new__"), some (Value.bool true)] }) :: (nat_lit 53, kc "ways" 234 9 1 48 181 238 239) :: (nat_lit 54, kg "ways" 4 "unjump.nodes" 232 53) :: (nat_lit 60, kc "with_ways" 241 15 2 55 181 246 247) :: (nat_lit 61, kg "with_ways" 5 "unjump.nodes" 232 60) :: (nat_lit 67, kc "walked" 249 21 2 62 181 261 262) :: (nat_lit 68, kg "walked" 6 "unjump.nodes" 232 67) :: (nat_lit 72, ⟨(.type "code"), none, .fields #[(.str "numbered" 264), (.str "numbered" 265), (.str "/claim/cut.py" 266), (.int 41 0), (.int 2 0), (.int 0 0), (.int 0 0), (.int 3 0), (.ref 69), (.bool true), (.int 181 0), (.ref 70), .none, .none, .none, (.ref 71), (.int 267 0), (.int 41 0), (.str "/claim/cut.py" 268)], #[]⟩) :: (nat_lit 73, kg "numbered" 7 "unjump.nodes" 232 72) :: (nat_lit 77, ⟨(.type "code"), none, .fields #[(.str "graph_of" 274), (.str "graph_of" 275), (.str "/claim/cut.py" 276), (.int 46 0), (.int 1 0), (.int 0 0), (.int 0 0), (.int 3 0), (.ref 74), (.bool true), (.int 181 0), (.ref 75), .none, .none, .none, (.ref 76), (.int 277 0), (.int 46 0), (.str "/claim/cut.py" 278)], #[]⟩) :: (nat_lit 78, kg "graph_of" 10 "unjump.graphs" 270 77) :: (nat_lit 82, ⟨(.type "code"), none, .fields #[(.str "linked" 280), (.str "linked" 281), (.str "/claim/cut.py" 282), (.int 52 0), (.int 1 0), (.int 0 0), (.int 0 0), (.int 3 0), (.ref 79), (.bool true), (.int 181 0), (.ref 80), .none, .none, .none, (.ref 81), (.int 283 0), (.int 52 0), (.str "/claim/cut.py" 284)], #[]⟩) :: (nat_lit 83, kg "linked" 11 "unjump.graphs" 270 82) :: (nat_lit 89, kc "landings" 286 66 2 84 181 297 298) :: (nat_lit 90, kg "landings" 12 "unjump.graphs" 270 89) :: (nat_lit 96, kc "laid_out" 300 79 1 91 181 308 309) :: (nat_lit 97, kg "laid_out" 13 "unjump.graphs" 270 96) :: (nat_lit 103, kc "first_numbers" 311 85 1 98 181 319 320) :: (nat_lit 104, kg "first_numbers" 14 "unjump.graphs" 270 103) :: (nat_lit 110, kc "needs_jump" 322 92 2 105 181 328 329) :: (nat_lit 111, kg "needs_jump" 15 "unjump.graphs" 270 110) :: (nat_lit 117, kc "rows_of_node" 331 95 3 112 181 339 340) :: (nat_lit 118, kg "rows_of_node" 16 "unjump.graphs" 270 117) :: (nat_lit 124, kc "_law_draws" 344 109 1 119 181 355 356) :: (nat_lit 125, kg "_law_draws" 18 "law_unjump_k15_whole_laid_out_again" 342 124) :: (nat_lit 131, kc "_law_next" 358 126 1 126 181 362 363) :: (nat_lit 132, kg "_law_next" 19 "law_unjump_k15_whole_laid_out_again" 342 131) :: (nat_lit 138, kc "_law_names" 365 130 1 133 181 370 371) :: (nat_lit 139, kg "_law_names" 20 "law_unjump_k15_whole_laid_out_again" 342 138) :: (nat_lit 145, kc "_law_great" 373 134 1 140 181 378 379) :: (nat_lit 146, kg "_law_great" 21 "law_unjump_k15_whole_laid_out_again" 342 145) :: (nat_lit 152, kc "_law_operand" 381 137 2 147 181 387 388) :: (nat_lit 153, kg "_law_operand" 22 "law_unjump_k15_whole_laid_out_again" 342 152) :: (nat_lit 159, kc "_law_row" 390 144 4 154 181 401 402) :: (nat_lit 160, kg "_law_row" 23 "law_unjump_k15_whole_laid_out_again" 342 159) :: (nat_lit 164, ⟨(.type "code"), none, .fields #[(.str "_law_rows" 404), (.str "_law_rows" 405), (.str "/claim/cut.py" 406), (.int 157 0), (.int 3 0), (.int 0 0), (.int 0 0), (.int 3 0), (.ref 161), (.bool true), (.int 181 0), (.ref 162), .none, .none, .none, (.ref 163), (.int 407 0), (.int 157 0), (.str "/claim/cut.py" 408)], #[]⟩) :: (nat_lit 165, kg "_law_rows" 24 "law_unjump_k15_whole_laid_out_again" 342 164) :: (nat_lit 171, kc "_law_far" 410 169 4 166 181 419 420) :: (nat_lit 172, kg "_law_far" 25 "law_unjump_k15_whole_laid_out_again" 342 171) :: (nat_lit 178, kc "_law_near" 422 181 4 173 181 429 430) :: (nat_lit 179, kg "_law_near" 26 "law_unjump_k15_whole_laid_out_again" 342 178) :: (nat_lit 185, kc "_law_node" 432 185 4 180 181 445 446) :: (nat_lit 186, kg "_law_node" 27 "law_unjump_k15_whole_laid_out_again" 342 185) :: (nat_lit 192, kc "_law_goals" 448 202 1 187 181 452 453) :: (nat_lit 193, kg "_law_goals" 28 "law_unjump_k15_whole_laid_out_again" 342 192) :: (nat_lit 199, kc "_law_order" 455 208 1 194 181 465 466) :: (nat_lit 200, kg "_law_order" 29 "law_unjump_k15_whole_laid_out_again" 342 199) :: (nat_lit 206, kc "_law_graph" 468 223 1 201 181 476 477) :: (nat_lit 207, kg "_law_graph" 30 "law_unjump_k15_whole_laid_out_again" 342 206) :: (nat_lit 211, ⟨(.type "code"), none, .fields #[(.str "_law_drawn" 479), (.str "_law_drawn" 480), (.str "/claim/cut.py" 481), (.int 234 0), (.int 2 0), (.int 0 0), (.int 0 0), (.int 3 0), (.ref 208), (.bool true), (.int 181 0), (.ref 209), .none, .none, .none, (.ref 210), (.int 482 0), (.int 234 0), (.str "/claim/cut.py" 483)], #[]⟩) :: (nat_lit 212, kg "_law_drawn" 31 "law_unjump_k15_whole_laid_out_again" 342 211) :: (nat_lit 218, kc "_law_alike" 485 238 2 213 181 491 492) :: (nat_lit 219, kg "_law_alike" 32 "law_unjump_k15_whole_laid_out_again" 342 218) :: (nat_lit 225, kc "law" 494 258 1 220 181 504 505) :: (nat_lit 226, kg "law" 33 "law_unjump_k15_whole_laid_out_again" 342 225) :: []
noncomputable def qH : Program := { PySem.Challenge.pw_unjump_k15_whole_laid_out_again with main := { PySem.Challenge.pw_unjump_k15_whole_laid_out_again.main with body := [top 33] } }
noncomputable def lH : List Str := "JumpError" :: "TooGreat" :: "ways" :: "with_ways" :: "walked" :: "numbered" :: "MOST_NODES" :: "graph_of" :: "linked" :: "landings" :: "laid_out" :: "first_numbers" :: "needs_jump" :: "rows_of_node" :: "_law_draws" :: "_law_next" :: "_law_names" :: "_law_great" :: "_law_operand" :: "_law_row" :: "_law_rows" :: "_law_far" :: "_law_near" :: "_law_node" :: "_law_goals" :: "_law_order" :: "_law_graph" :: "_law_drawn" :: "_law_alike" :: []
noncomputable def aH : List Addr := 2 :: 3 :: 22 :: 28 :: 29 :: 31 :: 32 :: 44 :: 45 :: 53 :: 54 :: 60 :: 61 :: 67 :: 68 :: 72 :: 73 :: 77 :: 78 :: 82 :: 83 :: 89 :: 90 :: 96 :: 97 :: 103 :: 104 :: 110 :: 111 :: 117 :: 118 :: 124 :: 125 :: 131 :: 132 :: 138 :: 139 :: 145 :: 146 :: 152 :: 153 :: 159 :: 160 :: 164 :: 165 :: 171 :: 172 :: 178 :: 179 :: 185 :: 186 :: 192 :: 193 :: 199 :: 200 :: 206 :: 207 :: 211 :: 212 :: 218 :: 219 :: 225 :: 226 :: []
theorem eH (P : Params) : aH = (KH P).map (·.1) := by kernel_rfl
set_option maxHeartbeats 0 in
theorem hlH : PySem.W.LeftO PySem.Challenge.pw_unjump_k15_whole_laid_out_again qH lH (fun s => PySem.W.xlAt qH [] s && PySem.W.recOk [] s) (PySem.W.Hook.obs (PySem.W.kHook KH aH eH)) (PySem.W.Hook.val (PySem.W.kHook KH aH eH)) 2782 := by intro w; kernel_rfl
end Hand
open PySem PySem.W PyProof.Rows
set_option maxRecDepth 100000 in
set_option maxHeartbeats 0 in
theorem PySem.Challenge.cw_unjump_k15_whole_laid_out_again_holds : PySem.Challenge.rw_unjump_k15_whole_laid_out_again.Holds := by
  w_on; o_law; refine holds_open (q := Hand.qH) (loose := Hand.lH) (Xt := fun s => xlAt Hand.qH [] s && recOk [] s) (XP := XL Hand.qH []) (Yf := Hook.obs (kHook Hand.KH Hand.aH Hand.eH)) (Ya := Hook.val (kHook Hand.KH Hand.aH Hand.eH)) (YP := Hook.says (kHook Hand.KH Hand.aH Hand.eH)) (N := 2782) Hand.hlH (Hook.of _) (Hook.keeps _) (fun s e => xl_of s (Bool.and_eq_true_iff.mp e).1) XL.keeps (by rfl) (by rfl) (by rfl) (fun s e => recFacts_of (Bool.and_eq_true_iff.mp e).2) (by rfl) (by first | assumption | decide +kernel) (by decide +kernel) ⟨rfl, rfl, rfl, rfl, rfl, by decide +kernel⟩ ?hw ?hc; (case hw => w_witness2)
  k_fill
  refine U.Za0 (l := PySem.Challenge.rw_unjump_k15_whole_laid_out_again) (k := 29) (x := "_law_script") rfl rfl ⟨rfl, by decide, by decide⟩ (fun w h Y => PySem.W.kIn_of Y) ?F
  case F =>
    intro w mg fa h KX G hmg
    refine' K15.Zl8 hmg (K15.Zy9 KX G ?a0 ?l0 ?c0 ?k0 ?a1 ?l1 ?c1 ?k1 ?a2 ?l2 ?c2 ?k2 ?a3 ?l3 ?c3 ?k3 ?a4 ?l4 ?c4 ?k4 ?a5 ?l5 ?c5 ?k5 ?a6 ?l6 ?c6 ?k6 ?a7 ?l7 ?c7 ?k7 ?a8 ?l8 ?c8 ?k8 ?a9 ?l9 ?c9 ?k9 ?a10 ?l10 ?c10 ?k10 ?a11 ?l11 ?c11 ?k11 ?a12 ?l12 ?c12 ?k12 ?a13 ?l13 ?c13 ?k13 ?a14 ?l14 ?c14 ?k14 ?a15 ?l15 ?c15 ?k15 ?a16 ?l16 ?c16 ?k16 ?a17 ?l17 ?c17 ?k17 ?a18 ?l18 ?c18 ?k18 ?a19 ?l19 ?c19 ?k19 ?a20 ?l20 ?c20 ?k20 ?a21 ?l21 ?c21 ?k21 ?a22 ?l22 ?c22 ?k22 ?a23 ?l23 ?c23 ?k23 ?a24 ?l24 ?c24 ?k24 ?a25 ?l25 ?c25 ?k25 ?a26 ?l26 ?c26 ?k26 ?z0 ?z1 ?z2 ?z3 ?z4 ?z5 ?z6 ?z7 ?z8 ?z9 ?z10 ?z11 ?q0)
    (case a0 => k_is); (case l0 => k_is); (case c0 => k_is); (case k0 => k_is)
    (case a1 => k_is); (case l1 => k_is); (case c1 => k_is); (case k1 => k_is)
    (case a2 => k_is); (case l2 => k_is); (case c2 => k_is); (case k2 => k_is)
    (case a3 => k_is); (case l3 => k_is); (case c3 => k_is); (case k3 => k_is)
    (case a4 => k_is); (case l4 => k_is); (case c4 => k_is); (case k4 => k_is)
    (case a5 => k_is); (case l5 => k_is); (case c5 => k_is); (case k5 => k_is)
    (case a6 => k_is); (case l6 => k_is); (case c6 => k_is); (case k6 => k_is)
    (case a7 => k_is); (case l7 => k_is); (case c7 => k_is); (case k7 => k_is)
    (case a8 => k_is); (case l8 => k_is); (case c8 => k_is); (case k8 => k_is)
    (case a9 => k_is); (case l9 => k_is); (case c9 => k_is); (case k9 => k_is)
    (case a10 => k_is); (case l10 => k_is); (case c10 => k_is); (case k10 => k_is)
    (case a11 => k_is); (case l11 => k_is); (case c11 => k_is); (case k11 => k_is)
    (case a12 => k_is); (case l12 => k_is); (case c12 => k_is); (case k12 => k_is)
    (case a13 => k_is); (case l13 => k_is); (case c13 => k_is); (case k13 => k_is)
    (case a14 => k_is); (case l14 => k_is); (case c14 => k_is); (case k14 => k_is)
    (case a15 => k_is); (case l15 => k_is); (case c15 => k_is); (case k15 => k_is)
    (case a16 => k_is); (case l16 => k_is); (case c16 => k_is); (case k16 => k_is)
    (case a17 => k_is); (case l17 => k_is); (case c17 => k_is); (case k17 => k_is)
    (case a18 => k_is); (case l18 => k_is); (case c18 => k_is); (case k18 => k_is)
    (case a19 => k_is); (case l19 => k_is); (case c19 => k_is); (case k19 => k_is)
    (case a20 => k_is); (case l20 => k_is); (case c20 => k_is); (case k20 => k_is)
    (case a21 => k_is); (case l21 => k_is); (case c21 => k_is); (case k21 => k_is)
    (case a22 => k_is); (case l22 => k_is); (case c22 => k_is); (case k22 => k_is)
    (case a23 => k_is); (case l23 => k_is); (case c23 => k_is); (case k23 => k_is)
    (case a24 => k_is); (case l24 => k_is); (case c24 => k_is); (case k24 => k_is)
    (case a25 => k_is); (case l25 => k_is); (case c25 => k_is); (case k25 => k_is)
    (case a26 => k_is); (case l26 => k_is); (case c26 => k_is); (case k26 => k_is)
    (case z0 => k_is); (case z1 => k_is); (case z2 => k_is); (case z3 => k_is); (case z4 => k_is); (case z5 => k_is); (case z6 => k_is); (case z7 => k_is); (case z8 => k_is); (case z9 => k_is); (case z10 => k_is); (case z11 => k_is)
    (case q0 => k_is)
