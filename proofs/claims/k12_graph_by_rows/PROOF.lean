import PyProof.Rows.All
import Wide.All
import OpenK.AllK
import Wide.FinOn
import Lean
import PyProof.EqAt
import PyProof.EqKinds
import PyProof.TupleCall
import PyProof.CompFree
import PyProof.StationsW
import PyProof.ExcClass3
import PyProof.Commute
import OpenK.KGet
import OpenK.KMeth
import PyProof.ExcArgs
import PyProof.ZipIter
import PyProof.ListNew
import PyProof.EnumMake
import PyProof.EnumStmt
import KE.KRevSl
import PyProof.WalkInts
import PyProof.Rows.MinMaxN
import PyProof.AttrMissHeap
import PyProof.DictList
import PyProof.DictUpdate
import KE.KDictOf
import PyProof.DictWalks
import PyProof.Conv_int_bool
import PyProof.TupleIter
import PyProof.EnumIter
import PyProof.Rows.SetFrom
import PyProof.SetRoads
import PyProof.ForAny
import KE.KDictSum
import PySem.Challenge.RW_unjump_k12_graph_by_rows
set_option Elab.async false
set_option linter.all false
set_option maxRecDepth 100000
namespace L2
open PySem PySem.Spec PyProof.Rows
abbrev Key := Sum Int Str
def keyIs : Key → Value → Bool
 | .inl k, v => Value.isInt k v
 | .inr x, v => Value.isStrOf x v
def keyH (w : World) : Key → Int
 | .inl k => hashInt k
 | .inr x => hashStr w x
theorem keyIs_shape : ∀ {k : Key} {v : Value}, keyIs k v = true → (∃ i t, k = Sum.inl i ∧ v = Value.int i t) ∨ (∃ x t, k = Sum.inr x ∧ v = Value.str x t)
 | .inl i, v, h => by
  obtain ⟨t, e⟩ := Value.isInt_shape (k := i) (v := v) h
  exact .inl ⟨i, t, rfl, e⟩
 | .inr x, v, h => by
  obtain ⟨t, e⟩ := Value.isStrOf_shape (x := x) (v := v) h
  exact .inr ⟨x, t, rfl, e⟩
theorem keyIs_int (i : Int) (t : Tok) : keyIs (.inl i) (.int i t) = true := by simp [keyIs, Value.isInt]
theorem keyIs_str (x : Str) (t : Tok) : keyIs (.inr x) (.str x t) = true := by simp [keyIs, Value.isStrOf]
theorem key_ll (a b : Int) : decide ((Sum.inl a : Key) = Sum.inl b) = (a == b) := by
 by_cases e : a = b
 ·subst e; simp
 ·have h : ¬ (Sum.inl a : Key) = Sum.inl b := fun q => e (Sum.inl.inj q)
  rw [decide_eq_false h]
  exact (beq_eq_false_iff_ne.mpr e).symm
theorem key_rr (a b : Str) : decide ((Sum.inr a : Key) = Sum.inr b) = decide (a = b) := by
 by_cases e : a = b
 ·subst e; simp
 ·have h : ¬ (Sum.inr a : Key) = Sum.inr b := fun q => e (Sum.inr.inj q)
  rw [decide_eq_false h, decide_eq_false e]
theorem key_lr (a : Int) (b : Str) : decide ((Sum.inl a : Key) = Sum.inr b) = false := decide_eq_false (fun q => nomatch q)
theorem key_rl (a : Str) (b : Int) : decide ((Sum.inr a : Key) = Sum.inl b) = false := decide_eq_false (fun q => nomatch q)
def mixKind (prog : Program) (w : World) : PySem.KeyKind prog w Key where
 is := keyIs
 hash := keyH w
 inj := fun v a b ha hb => by
  rcases keyIs_shape ha with ⟨i, t, rfl, rfl⟩ | ⟨x, t, rfl, rfl⟩
  ·rcases keyIs_shape hb with ⟨j, u, rfl, e⟩ | ⟨y, u, rfl, e⟩
   ·injection e with e1 _; rw [e1]
   ·exact nomatch e
  ·rcases keyIs_shape hb with ⟨j, u, rfl, e⟩ | ⟨y, u, rfl, e⟩
   ·exact nomatch e
   ·injection e with e1 _; rw [e1]
 byValue := fun k v h => by
  rcases keyIs_shape h with ⟨i, t, rfl, rfl⟩ | ⟨x, t, rfl, rfl⟩ <;> rfl
 pyHash := fun hv h => by
  rcases keyIs_shape hv with ⟨i, t, rfl, rfl⟩ | ⟨x, t, rfl, rfl⟩
  ·exact wpAny_pyHash_int h
  ·exact wpAny_pyHash_str h
 eqBool := fun hu hv h => by
  rcases keyIs_shape hu with ⟨i, t, rfl, rfl⟩ | ⟨x, t, rfl, rfl⟩
  ·rcases keyIs_shape hv with ⟨j, u, rfl, rfl⟩ | ⟨y, u, rfl, rfl⟩
   ·rw [key_ll] at h; exact wpAny_eqBool_int h
   ·rw [key_lr] at h; exact SeqAt.EqAt.int_str i t y u _ _ _ _ h
  ·rcases keyIs_shape hv with ⟨j, u, rfl, rfl⟩ | ⟨y, u, rfl, rfl⟩
   ·rw [key_rl] at h; exact SeqAt.EqAt.str_int x t j u _ _ _ _ h
   ·rw [key_rr] at h; exact wpAny_eqBool_str h
 «strs» := fun k x t v h => by
  rcases keyIs_shape h with ⟨i, u, rfl, e⟩ | ⟨y, u, rfl, e⟩
  ·exact nomatch e
  ·injection e with e1 _
   subst e1
   cases v <;> rfl
theorem mixKind_int (prog : Program) (w : World) (i : Int) (t : Tok) : (mixKind prog w).is (.inl i) (.int i t) = true := keyIs_int i t
theorem mixKind_str (prog : Program) (w : World) (x : Str) (t : Tok) : (mixKind prog w).is (.inr x) (.str x t) = true := keyIs_str x t
inductive V where
 | non | bl (b : Bool) | int (i : Int) | str (x : Str) | byt (b : Array UInt8) | flt (b : UInt64) | ref (a : Addr) | ty (n : String)
 deriving DecidableEq
def RelV : V → Value → Prop
 | .non, u => u = Value.none
 | .bl b, u => u = Value.bool b
 | .int i, u => ∃ t, u = Value.int i t
 | .str x, u => ∃ t, u = Value.str x t
 | .byt b, u => ∃ t, u = Value.bytes b t
 | .flt b, u => ∃ t, u = Value.float b t
 | .ref a, u => u = Value.ref a
 | .ty n, u => u = Value.type n
abbrev Vals : List V → List Value → Prop := Paired RelV
theorem Vals.length {xs : List V} {us : List Value} (r : Vals xs us) : xs.length = us.length := Paired.length r
theorem Vals.get : ∀ {xs : List V} {us : List Value} {i : Nat} {x : V}, Vals xs us → xs[i]? = some x → ∃ u, us[i]? = some u ∧ RelV x u
 | _, _, _, _, .nil, e => by simp at e
 | _, _, 0, _, .cons r _, e => by simp at e; subst e; exact ⟨_, rfl, r⟩
 | _, _, i + 1, x, .cons _ t, e => by
  obtain ⟨u, h1, h2⟩ := Vals.get (i := i) (x := x) t (by simpa using e)
  exact ⟨u, by simpa using h1, h2⟩
theorem Vals.set {x : V} {u : Value} (r : RelV x u) : ∀ {xs : List V} {us : List Value} (i : Nat), Vals xs us → Vals (xs.set i x) (us.set i u)
 | _, _, _, .nil => .nil
 | _, _, 0, .cons _ t => .cons r t
 | _, _, i + 1, .cons q t => .cons q (Vals.set r i t)
theorem Vals.append : ∀ {xs ys : List V} {us ws : List Value}, Vals xs us → Vals ys ws → Vals (xs ++ ys) (us ++ ws)
 | _, _, _, _, .nil, s => s
 | _, _, _, _, .cons r t, s => .cons r (Vals.append t s)
theorem Vals.take : ∀ {xs : List V} {us : List Value} (n : Nat), Vals xs us → Vals (xs.take n) (us.take n)
 | _, _, 0, _ => .nil
 | _, _, _ + 1, .nil => .nil
 | _, _, n + 1, .cons r t => .cons r (Vals.take n t)
theorem Vals.drop : ∀ {xs : List V} {us : List Value} (n : Nat), Vals xs us → Vals (xs.drop n) (us.drop n)
 | _, _, 0, r => r
 | _, _, _ + 1, .nil => .nil
 | _, _, n + 1, .cons _ t => Vals.drop n t
def RelO : Option V → Option Value → Prop
 | some v, some u => RelV v u
 | none, none => True
 | _, _ => False
def KV {κ : Type} : List (κ × V) → List (κ × Value) → Prop := Paired fun (p : κ × V) (q : κ × Value) => p.1 = q.1 ∧ RelV p.2 q.2
def kV : Key → V
 | .inl i => .int i
 | .inr x => .str x
inductive HO where
 | lst (xs : List V)
 | tup (xs : List V)
 | dK (kvs : List (Key × V)) | dT (kvs : List (List Key × V))
 | set (S : Int → Bool) (n : Nat)
 | ins (C dx : Addr) (fs : List (Str × V))
 | own (x : Addr)
 | xd (fs : List (Str × V))
 | met (f x : Addr)
 | rng (lo hi : Int)
 | frz (o : Obj) (u : HO)
 | tbl (ps : Array Value)
 | ext (φ : Heap → Prop)
abbrev Hp := Addr → Option HO
def upd (H : Hp) (a : Addr) (o : HO) : Hp := fun b => if b = a then some o else H b
theorem upd_same {H : Hp} {a : Addr} {o : HO} : upd H a o a = some o := by unfold upd; rw [if_pos rfl]
theorem upd_ne {H : Hp} {a b : Addr} {o : HO} (h : b ≠ a) : upd H a o b = H b := by unfold upd; rw [if_neg h]
theorem ne_of {H : Hp} {a b : Addr} {o u : HO} (h : H a = some o) (h' : H b = some u) (d : o ≠ u) : a ≠ b := by
 intro e; subst e; rw [h] at h'; exact d (Option.some.inj h')
theorem ne_of_none {H : Hp} {a b : Addr} {o : HO} (h : H a = some o) (h' : H b = none) : a ≠ b := by
 intro e; subst e; rw [h] at h'; cases h'
section
variable (P : Program) (w : World)
def ObjOk (H : Hp) (h : Heap) (a : Addr) : HO → Prop
 | .lst xs => xs.length ≤ sizeLine ∧ ∃ (its : List Value) (n : Nat), Vals xs its ∧ h.get? a = some { cls := .type "list", data := .seq its.toArray n }
 | .tup xs => xs.length ≤ sizeLine ∧ ∃ its : List Value, Vals xs its ∧ IsTup h a its.toArray
 | .dK kvs => kvs.length ≤ sizeLine ∧ (a == sysModules) = false ∧ ∃ vs, KV kvs vs ∧ h.DictOf (mixKind P w) a vs
 | .dT kvs => kvs.length ≤ sizeLine ∧ (a == sysModules) = false ∧ ∃ xs : List (List Key × Addr × Value),
   Paired (fun (p : List Key × V) (q : List Key × Addr × Value) => p.1 = q.1 ∧ H q.2.1 = some (.tup (p.1.map kV)) ∧ RelV p.2 q.2.2) kvs xs ∧
   ∃ o es ep, h.get? a = some o ∧ o.ExactDict ∧ o.data = .dict es ep ∧ es.toList = xs.map (entryOfKey (tupleKind (mixKind P w))) ∧ (xs.map (·.1)).Nodup
 | .set S n => h.SetOf (intKind P w) a S n
 | .ins C dx fs => H dx = some (.own a) ∧ fs.length ≤ 1000 ∧ dx ≠ a ∧ h.get? a = some (PySem.W.instObj C dx) ∧
   ∃ mA, h.Ns1 dx mA ∧ (∀ f, RelO (fs.lookup f) (mA f)) ∧ PySem.Within mA (fs.map (·.1))
 | .own _ => ∃ o, h.get? a = some o
 | .xd fs => ∃ mA, h.Ns1 a mA ∧ ∀ f, RelO (fs.lookup f) (mA f)
 | .rng lo hi => ∃ t u v, h.get? a = some { cls := .type "range", data := .fields #[.int lo t, .int hi u, .int 1 v] }
 | .frz o u => h.get? a = some o ∧ ObjOk H h a u
 | .tbl ps => h.get? a = some { cls := .none, data := .fields ps }
 | .met f x => h.get? a = some (PySem.W.methodObj (.ref f) (.ref x))
 | .ext φ => φ h ∧ (∃ o, h.get? a = some o) ∧ ∀ h1 h2 : Heap, φ h1 → (∀ o, h1.get? a = some o → h2.get? a = some o) → φ h2
def HOk (H : Hp) (h : Heap) : Prop := ∀ a o, H a = some o → ObjOk P w H h a o
end
section
variable {P : Program} {w : World} {H H' : Hp} {h h' : Heap} {a : Addr} {o : HO}
theorem ObjOk.lt (x : ObjOk P w H h a o) : a < h.objs.size := by
 cases o with
 | lst xs => obtain ⟨_, _, _, _, e⟩ := x; exact Heap.lt_size e
 | tup xs => obtain ⟨_, _, _, p⟩ := x; exact p.lt
 | dK kvs => obtain ⟨_, _, _, _, o, _, _, e, _⟩ := x; exact Heap.lt_size e
 | dT kvs => obtain ⟨_, _, _, _, o, _, _, e, _⟩ := x; exact Heap.lt_size e
 | set S n => obtain ⟨o, _, _, _, e, _⟩ := x; exact Heap.lt_size e
 | ins C dx fs => obtain ⟨_, _, _, e, _⟩ := x; exact Heap.lt_size e
 | own y => obtain ⟨_, e⟩ := x; exact Heap.lt_size e
 | xd fs => obtain ⟨_, ⟨_, _, _, e, _⟩, _⟩ := x; exact Heap.lt_size e
 | rng lo hi => obtain ⟨_, _, _, e⟩ := x; exact Heap.lt_size e
 | frz ob u => obtain ⟨e, _⟩ := x; exact Heap.lt_size e
 | tbl ps => exact Heap.lt_size (show h.get? a = some _ from x)
 | met f y => exact Heap.lt_size (show h.get? a = some _ from x)
 | ext φ => obtain ⟨_, ⟨_, e⟩, _⟩ := x; exact Heap.lt_size e
theorem Paired.mapP {α β : Type} {F G : α → β → Prop} : ∀ {l₁ : List α} {l₂ : List β}, Paired F l₁ l₂ → (∀ a b, F a b → G a b) → Paired G l₁ l₂
 | _, _, .nil, _ => .nil
 | _, _, .cons r t, f => .cons (f _ _ r) (Paired.mapP t f)
theorem ObjOk.stay (x : ObjOk P w H h a o) (k : ∀ b u, (b = a ∨ H b = some (.own a)) → h.get? b = some u → h'.get? b = some u)
  (ho : ∀ b, H b = some (.own a) → H' b = some (.own a)) (ht : ∀ b xs, H b = some (.tup xs) → H' b = some (.tup xs)) : ObjOk P w H' h' a o := by
 induction o with
 | lst xs => obtain ⟨z, its, n, r, e⟩ := x; exact ⟨z, its, n, r, k _ _ (.inl rfl) e⟩
 | tup xs => obtain ⟨z, its, r, ob, e, c⟩ := x; exact ⟨z, its, r, ob, k _ _ (.inl rfl) e, c⟩
 | dK kvs => obtain ⟨z, y, vs, r, ob, es, ep, e, c⟩ := x; exact ⟨z, y, vs, r, ob, es, ep, k _ _ (.inl rfl) e, c⟩
 | dT kvs =>
  obtain ⟨z, y, xs, r, ob, es, ep, e, c⟩ := x
  exact ⟨z, y, xs, Paired.mapP r fun p q z => ⟨z.1, ht _ _ z.2.1, z.2.2⟩, ob, es, ep, k _ _ (.inl rfl) e, c⟩
 | set S n => obtain ⟨ob, es, ep, t, e, c⟩ := x; exact ⟨ob, es, ep, t, k _ _ (.inl rfl) e, c⟩
 | ins C dx fs =>
  obtain ⟨d, z, ne, e, mA, ⟨od, es, ep, e2, c⟩, r⟩ := x
  exact ⟨ho _ d, z, ne, k _ _ (.inl rfl) e, mA, ⟨od, es, ep, k _ _ (.inr d) e2, c⟩, r⟩
 | own y => obtain ⟨ob, e⟩ := x; exact ⟨ob, k _ _ (.inl rfl) e⟩
 | xd fs => obtain ⟨mA, ⟨od, es, ep, e, c⟩, r⟩ := x; exact ⟨mA, ⟨od, es, ep, k _ _ (.inl rfl) e, c⟩, r⟩
 | rng lo hi => obtain ⟨t, u, v, e⟩ := x; exact ⟨t, u, v, k _ _ (.inl rfl) e⟩
 | frz ob u ih => obtain ⟨e, q⟩ := x; exact ⟨k _ _ (.inl rfl) e, ih q⟩
 | tbl ps =>
  have e : h.get? a = some { cls := .none, data := .fields ps } := x
  show h'.get? a = some { cls := .none, data := .fields ps }
  exact k a _ (.inl rfl) e
 | met f y =>
  have e : h.get? a = some (PySem.W.methodObj (.ref f) (.ref y)) := x
  show h'.get? a = some (PySem.W.methodObj (.ref f) (.ref y))
  exact k a _ (.inl rfl) e
 | ext φ => obtain ⟨p, ⟨o, e⟩, st⟩ := x; exact ⟨st _ _ p fun o q => k _ _ (.inl rfl) q, ⟨o, k _ _ (.inl rfl) e⟩, st⟩
theorem HOk.lt (x : HOk P w H h) (e : H a = some o) : a < h.objs.size := (x a o e).lt
theorem HOk.fresh (x : HOk P w H h) (e : h.objs.size ≤ a) : H a = none := by
 cases q : H a with
 | none => rfl
 | some u => exact absurd (Nat.lt_of_lt_of_le (x.lt q) e) (Nat.lt_irrefl _)
theorem HOk.kept (x : HOk P w H h) (k : ∀ b u, h.get? b = some u → h'.get? b = some u) : HOk P w H h' := fun a o e =>
 (x a o e).stay (fun b u _ q => k b u q) (fun _ q => q) fun _ _ q => q
theorem HOk.laid (x : HOk P w H h) (k : ∀ b u, h.get? b = some u → h'.get? b = some u) (hp : h.objs.size ≤ a) (new : ObjOk P w (upd H a o) h' a o) : HOk P w (upd H a o) h' := fun b u e => by
 have hn := x.fresh hp
 by_cases hb : b = a
 ·subst hb; rw [upd_same] at e; cases e; exact new
 ·rw [upd_ne hb] at e
  exact (x b u e).stay (fun c v _ q => k c v q) (fun c q => by rw [upd_ne (ne_of_none q hn)]; exact q) fun c xs q => by rw [upd_ne (ne_of_none q hn)]; exact q
end
def Rd (H : Hp) (a : Addr) (u : HO) : Prop := H a = some u ∨ ∃ o, H a = some (.frz o u)
theorem Rd.ok {P : Program} {w : World} {H : Hp} {h : Heap} {a : Addr} {u : HO} (r : Rd H a u) (x : HOk P w H h) : ObjOk P w H h a u := by
 rcases r with r | ⟨o, r⟩
 ·exact x a u r
 ·obtain ⟨_, q⟩ := x a _ r
  exact q
def Mut : Option HO → Prop
 | some (.lst _) => True
 | some (.dK _) => True
 | some (.dT _) => True
 | some (.set _ _) => True
 | some (.ins _ _ _) => True
 | some (.ext _) => True
 | _ => False
section
variable {P : Program} {w : World} {H : Hp} {h h' : Heap} {x e : Addr} {o' : HO}
theorem HOk.write (ok : HOk P w H h) (mu : Mut (H x)) (he : e = x ∨ H e = some (.own x)) (k : ∀ b u, b ≠ e → h.get? b = some u → h'.get? b = some u) (heo : ∃ u, h'.get? e = some u)
  (new : ObjOk P w (upd H x o') h' x o') : HOk P w (upd H x o') h' := fun b u q => by
 have nown : ∀ c y, H c = some (.own y) → c ≠ x := fun c y r z => by subst z; rw [r] at mu; exact mu
 have ntup : ∀ c xs, H c = some (.tup xs) → c ≠ x := fun c xs r z => by subst z; rw [r] at mu; exact mu
 by_cases hb : b = x
 ·subst hb; rw [upd_same] at q; cases q; exact new
 ·rw [upd_ne hb] at q
  by_cases hbe : b = e
  ·have q' : H b = some (.own x) := by
    rcases he with z | z
    ·exact absurd (hbe.trans z) hb
    ·rw [hbe]; exact z
   rw [q] at q'; cases q'
   obtain ⟨v, hv⟩ := heo
   exact ⟨v, by rw [hbe]; exact hv⟩
  ·refine (ok b u q).stay (fun c v hc r => k c v ?_ r) (fun c r => by rw [upd_ne (nown c b r)]; exact r) fun c xs r => by rw [upd_ne (ntup c xs r)]; exact r
   rcases hc with rfl | hc
   ·exact hbe
   ·rintro rfl
    rcases he with z | z
    ·exact nown c b hc z
    ·rw [hc] at z; cases z; exact hb rfl
end
structure Un (fs ex : List Addr) (H H' : Hp) (h h' : Heap) : Prop where
 keep : ∀ b o, h.get? b = some o → H b = none → b ∉ fs → b ∉ ex → h'.get? b = some o
 slot : ∀ b o, h.get? b = some o → H b = none → b ∈ fs → b ∉ ex → ∃ sl, h'.get? b = some { o with slots := sl }
 free : ∀ b o, h.get? b = some o → H b = none → b ∉ ex → H' b = none
 there : ∀ b o, h.get? b = some o → b ∉ ex → ∃ o', h'.get? b = some o'
 tups : ∀ b xs, H b = some (.tup xs) → H' b = some (.tup xs)
 frzs : ∀ b o u, H b = some (.frz o u) → H' b = some (.frz o u)
 tbls : ∀ b ps, H b = some (.tbl ps) → ∃ more, H' b = some (.tbl (ps ++ more))
section
variable {fs fs' ex ex' : List Addr} {H H1 H2 : Hp} {h h1 h2 h' : Heap} {a x e : Addr} {o : HO}
theorem Un.any (u : Un fs ex H H1 h h1) {b : Addr} {ob : Obj} (q : h.get? b = some ob) (n : H b = none) (hx : b ∉ ex) : ∃ sl, h1.get? b = some { ob with slots := sl } := by
 by_cases hb : b ∈ fs
 ·exact u.slot b ob q n hb hx
 ·exact ⟨ob.slots, u.keep b ob q n hb hx⟩
theorem Un.trans (a : Un fs ex H H1 h h1) (b : Un fs ex H1 H2 h1 h2) : Un fs ex H H2 h h2 where
 keep := fun c ob q n hc hx => b.keep c ob (a.keep c ob q n hc hx) (a.free c ob q n hx) hc hx
 slot := fun c ob q n hc hx => by
  obtain ⟨sl, e1⟩ := a.slot c ob q n hc hx
  obtain ⟨sl', e2⟩ := b.slot c _ e1 (a.free c ob q n hx) hc hx
  exact ⟨sl', e2⟩
 free := fun c ob q n hx => by
  obtain ⟨o', e1⟩ := a.there c ob q hx
  exact b.free c o' e1 (a.free c ob q n hx) hx
 there := fun c ob q hx => by
  obtain ⟨o', e1⟩ := a.there c ob q hx
  exact b.there c o' e1 hx
 tups := fun c xs q => b.tups c xs (a.tups c xs q)
 frzs := fun c ob xs q => b.frzs c ob xs (a.frzs c ob xs q)
 tbls := fun c ps q => by
  obtain ⟨m1, e1⟩ := a.tbls c ps q
  obtain ⟨m2, e2⟩ := b.tbls c _ e1
  exact ⟨m1 ++ m2, by rw [e2, Array.append_assoc]⟩
theorem Un.kept (k : ∀ b u, h.get? b = some u → h'.get? b = some u) : Un fs ex H H h h' :=
 ⟨fun b ob q _ _ _ => k b ob q, fun b ob q _ _ _ => ⟨ob.slots, k b ob q⟩, fun _ _ _ n _ => n, fun b ob q _ => ⟨ob, k b ob q⟩, fun _ _ q => q, fun _ _ _ q => q, fun _ ps q => ⟨#[], by rw [q]; simp⟩⟩
theorem Un.refl : Un fs ex H H h h := Un.kept fun _ _ q => q
theorem Un.laid (k : ∀ b u, h.get? b = some u → h'.get? b = some u) (hp : h.objs.size ≤ a) (hn : H a = none) : Un fs ex H (upd H a o) h h' where
 keep := fun b u q _ _ _ => k b u q
 slot := fun b u q _ _ _ => ⟨u.slots, k b u q⟩
 free := fun b u q n _ => by rw [upd_ne (Nat.ne_of_lt (Nat.lt_of_lt_of_le (Heap.lt_size q) hp))]; exact n
 there := fun b u q _ => ⟨u, k b u q⟩
 tups := fun b xs q => by rw [upd_ne (ne_of_none q hn)]; exact q
 frzs := fun b u xs q => by rw [upd_ne (ne_of_none q hn)]; exact q
 tbls := fun b ps q => ⟨#[], by rw [upd_ne (ne_of_none q hn), q]; simp⟩
theorem Un.write (mu : Mut (H x)) (he : e = x ∨ H e = some (.own x)) (k : ∀ b u, b ≠ e → h.get? b = some u → h'.get? b = some u) (heo : ∃ u, h'.get? e = some u) : Un fs ex H (upd H x o) h h' := by
 have hx : ∀ b, H b = none → b ≠ x := fun b n z => by subst z; rw [n] at mu; exact mu
 have hb : ∀ b, H b = none → b ≠ e := fun b n z => by
  subst z
  rcases he with r | r
  ·exact hx b n r
  ·rw [n] at r; cases r
 have hm : ∀ b u, H b = some u → ¬ Mut (some u) → b ≠ x := fun b u q nm z => by subst z; rw [q] at mu; exact nm mu
 refine ⟨fun b u q n _ _ => k b u (hb b n) q, fun b u q n _ _ => ⟨u.slots, k b u (hb b n) q⟩, fun b u q n _ => by rw [upd_ne (hx b n)]; exact n, fun b u q _ => ?_,
  fun b xs q => by rw [upd_ne (hm b _ q fun z => z)]; exact q, fun b u xs q => by rw [upd_ne (hm b _ q fun z => z)]; exact q, fun b ps q => ⟨#[], by rw [upd_ne (hm b _ q fun z => z), q]; simp⟩⟩
 by_cases hbe : b = e
 ·subst hbe; exact heo
 ·exact ⟨u, k b u hbe q⟩
end
def trk (h : Heap) (H : Hp) : List Addr := (List.range h.objs.size).filter fun a => (H a).isSome
def hidT (h : Heap) (H : Hp) : Heap := PySem.W.hideAll h (trk h H)
theorem hidT_size (h : Heap) (H : Hp) : (hidT h H).objs.size = h.objs.size := PySem.W.hideAll_size _ _
theorem hidT_get {h : Heap} {H : Hp} {b : Addr} {o : Obj} (e : h.get? b = some o) (n : H b = none) : (hidT h H).get? b = some o :=
 PySem.W.hideAll_get _ e fun hm => by
  have q : (H b).isSome = true := (List.mem_filter.mp hm).2
  rw [n] at q; simp at q
theorem of_hidT {h : Heap} {H : Hp} {b : Addr} {o : Obj} (e : (hidT h H).get? b = some o) : h.get? b = some o ∧ H b = none := by
 have e' : h.get? b = some o := PySem.W.of_hideAll (trk h H) e
 refine ⟨e', ?_⟩
 cases q : H b with
 | none => rfl
 | some x =>
  have hm : b ∈ trk h H := List.mem_filter.mpr ⟨List.mem_range.mpr (Heap.lt_size e'), by simp [q]⟩
  have z : (hidT h H).get? b = none := PySem.W.hideAll_none (trk h H) hm
  rw [z] at e; cases e
def allNews (g h : Heap) (L : Addr) : List (Addr × Obj) := (List.range h.objs.size).filterMap fun a => if a = L ∨ (g.get? a).isSome = true then none else (h.get? a).map fun o => (a, o)
def rest (g h : Heap) (L d : Addr) : List (Addr × Obj) := (allNews g h L).filter fun p => decide (p.1 ≠ d)
structure Mod (K : PySem.W.Frag) (mg : Str → Option Value) (base : Heap) : Prop where
 kin : K.In base
 glob : base.Ns mainGlobals mg
 blt : ∃ mb, base.Ns builtinsNs mb ∧ ∀ x : Str, x ≠ "__name__" → mb x = bootBuiltins x
 nolimit : base.NoLimit
structure Cx where
 prog : Program
 w : World
 K : PySem.W.Frag
 mg : Str → Option Value
 base : Heap
 A : Around
 N : List Str
 s₀ : Shared
 H₀ : Hp
 env : Env
 outer : List Env
 stack : List Env
 ex : List Addr
 fn : Str → Bool
 calm : Bool
 pn : List (Addr × Obj)
 xe : Value → Shared → Prop
def frs (l : List Env) : List Addr := l.filterMap (·.frame)
abbrev Cx.fs (X : Cx) : List Addr := frs X.outer
def Vis (sc : Scope) (x : Str) : Prop := sc.names.lookup x = some .local ∨ sc.names.lookup x = some .cell ∨ sc.names.lookup x = some .free
def Loc (sc : Scope) (x : Str) : Prop := sc.names.lookup x = some .local ∨ sc.names.lookup x = some .cell
def Look (env : Env) (h : Heap) (m : Str → Option Value) (x : Str) (u : Value) : Prop :=
 (env.kindOf x = some .local ∧ m x = some u) ∨ ((env.kindOf x = some .cell ∨ env.kindOf x = some .free) ∧ ∃ c, env.cells.lookup x = some c ∧ h.IsCell c (some u))
structure Cx.Ok (X : Cx) : Prop where
 mod : Mod X.K X.mg X.base
 kind : X.env.scope.kind = .function
 glob : X.env.globals = mainGlobals
 blt : X.env.builtins = builtinsNs
 above : X.s₀.heap.objs.size ≤ X.env.locals
 inj : ∀ x y c, X.env.cells.lookup x = some c → X.env.cells.lookup y = some c → x = y
 has : ∀ x, (X.env.kindOf x = some .cell ∨ X.env.kindOf x = some .free) → ∃ c, X.env.cells.lookup x = some c
 cab : ∀ x c, X.fn x = true → X.env.cells.lookup x = some c → X.s₀.heap.objs.size ≤ c
 hd : X.calm = true → X.A.handled = none
 frames : X.A.frames = some X.stack
 stk : X.stack = X.outer ∨ (X.stack = X.env :: X.outer ∧ X.env.frame = some X.env.locals)
 exf : ∀ b ∈ X.ex, b ≠ X.env.locals ∧ ∀ x c, X.env.cells.lookup x = some c → c ≠ b
 bs : ∀ b o, X.base.get? b = some o → X.s₀.heap.get? b = some o ∧ X.H₀ b = none
 bsz : X.base.objs.size ≤ X.s₀.heap.objs.size
 noex : ∀ b o, X.base.get? b = some o → b ∉ X.ex
 exfs : ∀ b ∈ X.ex, b ∉ X.fs
 funs : X.s₀.heap.FunFrames X.base X.outer
 frf : ∀ b ∈ X.fs, X.H₀ b = none
structure Inv (X : Cx) (pins : List (Addr × Obj)) (σ : List (Option V)) (H : Hp) (s : Shared) : Prop where
 ok : X.Ok
 os : s.os = X.s₀.os
 bare : AllBare s.gens
 base : Un X.fs X.ex X.H₀ H X.s₀.heap s.heap
 loc : ∃ m, s.heap.Ns X.env.locals m ∧ ∀ (i : Nat) (x : Str) (v : V), X.N[i]? = some x → σ[i]? = some (some v) → Vis X.env.scope x → ∃ u, RelV v u ∧ Look X.env s.heap m x u
 cell : ∀ x c, X.env.cells.lookup x = some c → ∃ v, s.heap.IsCell c v
 free : H X.env.locals = none
 freeC : ∀ x c, X.env.cells.lookup x = some c → H c = none
 pin : ∀ p ∈ X.pn ++ pins, s.heap.get? p.1 = some p.2 ∧ H p.1 = none ∧ p.1 ≠ X.env.locals ∧ p.1 ∉ X.fs ∧ ∀ v, p.2.data ≠ .cell v
 hok : HOk X.prog X.w H s.heap
 len : σ.length = X.N.length
section
variable {X : Cx} {pins : List (Addr × Obj)} {σ : List (Option V)} {H H' : Hp} {s : Shared} {h' : Heap}
theorem Cx.Ok.nofr (ok : X.Ok) {b : Addr} {o : Obj} (e : X.base.get? b = some o) : b ∉ X.fs := fun hb => by
 have := (ok.funs.mem hb).1
 rw [e] at this; cases this
theorem Inv.bs (I : Inv X pins σ H s) : ∀ b o, X.base.get? b = some o → s.heap.get? b = some o ∧ H b = none := fun b o e =>
 ⟨I.base.keep b o (I.ok.bs b o e).1 (I.ok.bs b o e).2 (I.ok.nofr e) (I.ok.noex b o e), I.base.free b o (I.ok.bs b o e).1 (I.ok.bs b o e).2 (I.ok.noex b o e)⟩
theorem Inv.bk (I : Inv X pins σ H s) : ∀ b o, X.base.get? b = some o → s.heap.get? b = some o := fun b o e => (I.bs b o e).1
theorem Inv.mod (I : Inv X pins σ H s) : Mod X.K X.mg X.base := I.ok.mod
theorem Inv.kIn (I : Inv X pins σ H s) : X.K.In s.heap := I.ok.mod.kin.keeps I.bk
theorem Inv.lt (I : Inv X pins σ H s) : X.env.locals < s.heap.objs.size := let ⟨_, hn, _⟩ := I.loc; hn.lt
theorem Inv.sz (I : Inv X pins σ H s) : X.s₀.heap.objs.size ≤ s.heap.objs.size := Nat.le_trans I.ok.above (Nat.le_of_lt I.lt)
theorem Inv.nofs (I : Inv X pins σ H s) {a : Addr} (h : s.heap.objs.size ≤ a) : a ∉ X.fs := fun hb => by
 obtain ⟨_, o, ho, _⟩ := I.ok.funs.mem hb
 exact absurd (Nat.lt_of_lt_of_le (Heap.lt_size ho) (Nat.le_trans I.sz h)) (Nat.lt_irrefl _)
theorem Inv.cne (I : Inv X pins σ H s) : ∀ x c, X.env.cells.lookup x = some c → c ≠ X.env.locals := fun x c e z => by
 obtain ⟨v, o, ho, hd⟩ := I.cell x c e
 obtain ⟨m, ⟨o', es, ep, ho', hd', _⟩, _⟩ := I.loc
 rw [z, ho'] at ho; cases ho; rw [hd'] at hd; cases hd
theorem Inv.funs (I : Inv X pins σ H s) : s.heap.FunFrames X.base X.outer := by
 have all : ∀ (l : List Env), (∀ b ∈ frs l, b ∈ X.fs) → X.s₀.heap.FunFrames X.base l → s.heap.FunFrames X.base l := by
  intro l
  induction l with
  | nil => intro _ _; trivial
  | cons env r ih =>
   intro hs hl
   obtain ⟨hk, ⟨L, o, hf, hn, ho, hd⟩, hr⟩ := hl
   have hL : L ∈ X.fs := hs L (by unfold frs; rw [List.filterMap_cons, hf]; exact List.mem_cons_self)
   obtain ⟨sl, e⟩ := I.base.slot L o ho (I.ok.frf L hL) hL fun z => I.ok.exfs L z hL
   exact ⟨hk, ⟨L, _, hf, hn, e, hd⟩, ih (fun b hb => hs b (by unfold frs; rw [List.filterMap_cons, hf]; exact List.mem_cons_of_mem _ hb)) hr⟩
 exact all X.outer (fun _ hb => hb) I.ok.funs
theorem Inv.stack (I : Inv X pins σ H s) : s.heap.FunFrames X.base X.stack := by
 rcases I.ok.stk with e | ⟨e, hf⟩
 ·rw [e]; exact I.funs
 ·rw [e]
  obtain ⟨m, hn, _⟩ := I.loc
  refine .cons (by rw [I.ok.kind]; decide) hf hn ?_ I.funs
  exact Heap.get?_none_of_le (Nat.le_trans I.ok.bsz I.ok.above)
theorem Inv.stkSub (I : Inv X pins σ H s) : ∀ b ∈ frs X.stack, b ∈ X.env.locals :: X.fs := fun b hb => by
 rcases I.ok.stk with e | ⟨e, hf⟩
 ·rw [e] at hb; exact List.mem_cons_of_mem _ hb
 ·rw [e] at hb
  unfold frs at hb
  rw [List.filterMap_cons, hf] at hb
  exact hb
theorem Inv.stkFree (I : Inv X pins σ H s) : ∀ b ∈ frs X.stack, H b = none := fun b hb => by
 rcases List.mem_cons.mp (I.stkSub b hb) with e | hb
 ·rw [e]; exact I.free
 ·obtain ⟨_, o, ho, _⟩ := I.ok.funs.mem hb
  exact I.base.free b o ho (I.ok.frf b hb) fun z => I.ok.exfs b z hb
theorem Inv.step {g' : Array GenState} {t' : Nat} {d' : Drawn} {ch : List Addr} (I : Inv X pins σ H s)
  (hch : ∀ b ∈ ch, (b ∈ X.ex ∨ X.s₀.heap.objs.size ≤ b) ∧ b ≠ X.env.locals ∧ (∀ x c, X.env.cells.lookup x = some c → c ≠ b) ∧ ∀ p ∈ X.pn ++ pins, p.1 ≠ b)
  (keep : ∀ b o, b ≠ X.env.locals → b ∉ X.fs → b ∉ ch → s.heap.get? b = some o → H b = none → h'.get? b = some o)
  (slot : ∀ b o, b ≠ X.env.locals → b ∈ X.fs → b ∉ ch → s.heap.get? b = some o → H b = none → ∃ sl, h'.get? b = some { o with slots := sl }) (free : ∀ b o, b ∉ ch → s.heap.get? b = some o → H b = none → H' b = none)
  (there : ∀ b o, b ∉ ch → s.heap.get? b = some o → ∃ o', h'.get? b = some o')
  (tups : ∀ b xs, H b = some (.tup xs) → H' b = some (.tup xs)) (frzs : ∀ b o u, H b = some (.frz o u) → H' b = some (.frz o u)) (tbls : ∀ b ps, H b = some (.tbl ps) → ∃ more, H' b = some (.tbl (ps ++ more)))
  (ns : ∀ m, s.heap.Ns X.env.locals m → h'.Ns X.env.locals m) (hok : HOk X.prog X.w H' h') (hg : AllBare g') :
  Inv X pins σ H' { s with heap := h', gens := g', drawn := d', toks := t' } := by
 have neL : ∀ b o, X.s₀.heap.get? b = some o → b ≠ X.env.locals := fun b o e => Nat.ne_of_lt (Nat.lt_of_lt_of_le (Heap.lt_size e) I.ok.above)
 have neC : ∀ b o, X.s₀.heap.get? b = some o → b ∉ X.ex → b ∉ ch := fun b o e hx hb => by
  rcases (hch b hb).1 with z | z
  ·exact hx z
  ·exact absurd (Nat.lt_of_lt_of_le (Heap.lt_size e) z) (Nat.lt_irrefl _)
 have cellK : ∀ x c, X.env.cells.lookup x = some c → ∀ v, s.heap.IsCell c v → h'.IsCell c v := fun x c e v ⟨o, ho, hd⟩ => by
  have nch : c ∉ ch := fun z => (hch c z).2.2.1 x c e rfl
  by_cases hc : c ∈ X.fs
  ·obtain ⟨sl, q⟩ := slot c o (I.cne x c e) hc nch ho (I.freeC x c e)
   exact ⟨_, q, hd⟩
  ·exact ⟨o, keep c o (I.cne x c e) hc nch ho (I.freeC x c e), hd⟩
 refine ⟨I.ok, I.os, hg, ⟨fun b o e n hb hx => ?_, fun b o e n hb hx => ?_, fun b o e n hx => ?_, fun b o e hx => ?_, fun b xs e => tups b xs (I.base.tups b xs e), fun b o xs e => frzs b o xs (I.base.frzs b o xs e), fun b ps e => ?_⟩, ?_, fun x c e => ?_, ?_, fun x c e => ?_, fun p hp => ?_, hok, I.len⟩
 ·exact keep b o (neL b o e) hb (neC b o e hx) (I.base.keep b o e n hb hx) (I.base.free b o e n hx)
 ·obtain ⟨sl, e1⟩ := I.base.slot b o e n hb hx
  obtain ⟨sl', e2⟩ := slot b _ (neL b o e) hb (neC b o e hx) e1 (I.base.free b o e n hx)
  exact ⟨sl', e2⟩
 ·obtain ⟨o', e1⟩ := I.base.there b o e hx
  exact free b o' (neC b o e hx) e1 (I.base.free b o e n hx)
 ·obtain ⟨o', e1⟩ := I.base.there b o e hx
  exact there b o' (neC b o e hx) e1
 ·obtain ⟨m1, e1⟩ := I.base.tbls b ps e
  obtain ⟨m2, e2⟩ := tbls b _ e1
  exact ⟨m1 ++ m2, by rw [e2, Array.append_assoc]⟩
 ·obtain ⟨m, hn, hl⟩ := I.loc
  refine ⟨m, ns m hn, fun i x v e1 e2 e3 => ?_⟩
  obtain ⟨u, r, l⟩ := hl i x v e1 e2 e3
  refine ⟨u, r, ?_⟩
  rcases l with l | ⟨k, c, e, z⟩
  ·exact .inl l
  ·exact .inr ⟨k, c, e, cellK x c e _ z⟩
 ·obtain ⟨v, z⟩ := I.cell x c e
  exact ⟨v, cellK x c e v z⟩
 ·obtain ⟨m, ⟨o, _, _, ho, _⟩, _⟩ := I.loc
  exact free _ o (fun z => (hch _ z).2.1 rfl) ho I.free
 ·obtain ⟨v, o, ho, hd⟩ := I.cell x c e
  exact free c o (fun z => (hch c z).2.2.1 x c e rfl) ho (I.freeC x c e)
 ·obtain ⟨e, n, ne, nf, d⟩ := I.pin p hp
  have nch : p.1 ∉ ch := fun z => (hch p.1 z).2.2.2 p hp rfl
  exact ⟨keep p.1 p.2 ne nf nch e n, free p.1 p.2 nch e n, ne, nf, d⟩
theorem Inv.un {t' : Nat} (I : Inv X pins σ H s) (u : Un X.fs [] H H' s.heap h') (hok : HOk X.prog X.w H' h') : Inv X pins σ H' { s with heap := h', toks := t' } := by
 obtain ⟨m, ⟨o, es, ep, ho, r⟩, _⟩ := id I.loc
 obtain ⟨sl, hL⟩ := u.any ho I.free (by simp)
 exact I.step (g' := s.gens) (d' := s.drawn) (ch := []) (fun _ z => nomatch z) (fun b o _ hb _ e n => u.keep b o e n hb (by simp)) (fun b o _ hb _ e n => u.slot b o e n hb (by simp)) (fun b o _ e n => u.free b o e n (by simp)) (fun b o _ e => u.there b o e (by simp)) u.tups u.frzs u.tbls (fun m' hm => by
  obtain ⟨o', es', ep', ho', r'⟩ := hm
  rw [ho] at ho'; cases ho'
  exact ⟨_, es', ep', hL, r'⟩) hok I.bare
theorem Inv.call {g' : Array GenState} {t' : Nat} {d' : Drawn} {ch : List Addr} (I : Inv X pins σ H s) (u : Un (frs X.stack) ch H H' s.heap h') (hok : HOk X.prog X.w H' h') (hg : AllBare g')
  (hch : ∀ b ∈ ch, (b ∈ X.ex ∨ X.s₀.heap.objs.size ≤ b) ∧ b ≠ X.env.locals ∧ (∀ x c, X.env.cells.lookup x = some c → c ≠ b) ∧ ∀ p ∈ X.pn ++ pins, p.1 ≠ b) :
  Inv X pins σ H' { s with heap := h', gens := g', drawn := d', toks := t' } := by
 obtain ⟨m, ⟨o, es, ep, ho, r⟩, _⟩ := id I.loc
 obtain ⟨sl, hL⟩ := u.any ho I.free fun z => (hch _ z).2.1 rfl
 exact I.step (ch := ch) hch (fun b o hL hb hc e n => u.keep b o e n (fun z => (List.mem_cons.mp (I.stkSub b z)).elim hL hb) hc) (fun b o _ _ hc e n => u.any e n hc) (fun b o hc e n => u.free b o e n hc) (fun b o hc e => u.there b o e hc) u.tups u.frzs u.tbls (fun m' hm => by
  obtain ⟨o', es', ep', ho', r'⟩ := hm
  rw [ho] at ho'; cases ho'
  exact ⟨_, es', ep', hL, r'⟩) hok hg
theorem Inv.turned {t' : Nat} {it : Addr} (I : Inv X pins σ H s) (k : ∀ b o, b ≠ it → s.heap.get? b = some o → h'.get? b = some o) (hn : H it = none) (hL : it ≠ X.env.locals)
  (h1 : it ∈ X.ex ∨ X.s₀.heap.objs.size ≤ it) (h2 : ∀ x c, X.env.cells.lookup x = some c → c ≠ it) (h3 : ∀ p ∈ X.pn ++ pins, p.1 ≠ it) : Inv X pins σ H { s with heap := h', toks := t' } := by
 have nit : ∀ b u, H b = some u → b ≠ it := fun b u e z => by rw [z, hn] at e; cases e
 refine I.step (g' := s.gens) (d' := s.drawn) (ch := [it]) (fun b hb => ?_) (fun b o _ _ hc e _ => k b o (fun z => hc (by simp [z])) e) (fun b o _ _ hc e _ => ⟨o.slots, k b o (fun z => hc (by simp [z])) e⟩) (fun _ _ _ _ n => n)
  (fun b o hc e => ⟨o, k b o (fun z => hc (by simp [z])) e⟩) (fun _ _ e => e) (fun _ _ _ e => e) (fun b ps e => ⟨#[], by rw [e]; simp⟩) (fun m hm => ?_) (fun b u e => ?_) I.bare
 ·have e : b = it := by simpa using hb
  subst e
  exact ⟨h1, hL, h2, h3⟩
 ·obtain ⟨o, es, ep, ho, r⟩ := hm
  exact ⟨o, es, ep, k _ o (Ne.symm hL) ho, r⟩
 ·refine (I.hok b u e).stay (fun c v hc q => k c v ?_ q) (fun _ q => q) fun _ _ q => q
  rcases hc with z | z
  ·rw [z]; exact nit b u e
  ·exact nit c _ z
theorem Inv.tok (I : Inv X pins σ H s) (t : Nat) : Inv X pins σ H { s with toks := t } := I.un (h' := s.heap) (t' := t) Un.refl I.hok
theorem Inv.kept {t' : Nat} (I : Inv X pins σ H s) (k : ∀ b u, s.heap.get? b = some u → h'.get? b = some u) : Inv X pins σ H { s with heap := h', toks := t' } := I.un (Un.kept k) (I.hok.kept k)
theorem Inv.laid {a : Addr} {o : HO} {t' : Nat} (I : Inv X pins σ H s) (k : ∀ b u, s.heap.get? b = some u → h'.get? b = some u) (hp : s.heap.objs.size ≤ a) (new : ObjOk X.prog X.w (upd H a o) h' a o) :
  Inv X pins σ (upd H a o) { s with heap := h', toks := t' } := I.un (Un.laid k hp (I.hok.fresh hp)) (I.hok.laid k hp new)
theorem Inv.write {x e : Addr} {o : HO} {t' : Nat} (I : Inv X pins σ H s) (mu : Mut (H x)) (he : e = x ∨ H e = some (.own x)) (k : ∀ b u, b ≠ e → s.heap.get? b = some u → h'.get? b = some u) (heo : ∃ u, h'.get? e = some u)
  (new : ObjOk X.prog X.w (upd H x o) h' x o) : Inv X pins σ (upd H x o) { s with heap := h', toks := t' } := I.un (Un.write mu he k heo) (I.hok.write mu he k heo new)
theorem Inv.pins_of {pins' : List (Addr × Obj)} (I : Inv X pins σ H s) (h : ∀ p ∈ pins', s.heap.get? p.1 = some p.2 ∧ H p.1 = none ∧ p.1 ≠ X.env.locals ∧ p.1 ∉ X.fs ∧ ∀ v, p.2.data ≠ .cell v) : Inv X pins' σ H s :=
 ⟨I.ok, I.os, I.bare, I.base, I.loc, I.cell, I.free, I.freeC, fun p hp => (List.mem_append.mp hp).elim (fun z => I.pin p (List.mem_append_left _ z)) (h p), I.hok, I.len⟩
theorem nodup_ix {N : List Str} (hN : N.Nodup) {i j : Nat} {x : Str} (a : N[i]? = some x) (b : N[j]? = some x) : i = j := by
 obtain ⟨h1, e1⟩ := List.getElem?_eq_some_iff.mp a
 obtain ⟨h2, e2⟩ := List.getElem?_eq_some_iff.mp b
 exact (List.getElem_inj hN).mp (e1.trans e2.symm)
theorem store_ok2 {M : Model} {A : Around} {E : Value → Shared → Prop} {i : Nat} {x : Str} {v : V} {u : Value} {Q : Unit → Shared → Prop} (I : Inv X pins σ H s) (hN : X.N.Nodup) (hi : X.N[i]? = some x) (hx : Loc X.env.scope x) (r : RelV v u)
  (h : ∀ s', Inv X pins (σ.set i (some v)) H s' → (∃ a, Heap.SameBut a s.heap s'.heap ∧ (a = X.env.locals ∨ X.env.cells.lookup x = some a)) → Q () s') (hf : X.fn x = true ∨ X.env.scope.names.lookup x = some .local := by first | exact .inl rfl | exact .inr rfl | assumption) : wpAny M A (storeName X.env x u) Q E s := by
 obtain ⟨m, hn, hl⟩ := id I.loc
 have hcls : (X.env.scope.kind == .class || (X.env.scope.kind == .module && X.env.locals != X.env.globals)) = false := by rw [I.ok.kind]; rfl
 have hiσ : i < σ.length := by rw [I.len]; exact (List.getElem?_eq_some_iff.mp hi).1
 have cne := I.cne
 have tracked : ∀ {a : Addr} {h' : Heap}, (∃ o, s.heap.get? a = some o ∧ H a = none) → Heap.SameBut a s.heap h' → HOk X.prog X.w H h' := fun {a h'} ha hs b ob e => by
  obtain ⟨_, _, hfree⟩ := ha
  refine (I.hok b ob e).stay (fun c w' hc q => (hs.2 c ?_).trans q) (fun _ q => q) fun _ _ q => q
  rintro rfl
  rcases hc with rfl | hc
  ·rw [hfree] at e; cases e
  ·rw [hfree] at hc; cases hc
 rcases hx with hk | hk
 ·refine wpAny_storeName_local hk hn (fun h' hn' hs => ?_) hcls
  obtain ⟨oL, _, _, hoL, _⟩ := id hn
  refine h _ ⟨I.ok, I.os, I.bare, ⟨fun b o e n hb hx => ?_, fun b o e n hb hx => ?_, I.base.free, fun b o e hx => ?_, I.base.tups, I.base.frzs, I.base.tbls⟩, ⟨_, hn', fun j y v' e1 e2 e3 => ?_⟩, fun y c e => ?_, I.free, I.freeC, fun p hp => ?_, tracked ⟨oL, hoL, I.free⟩ hs, by simpa using I.len⟩ ⟨_, hs, .inl rfl⟩
  ·exact (hs.2 b (Nat.ne_of_lt (Nat.lt_of_lt_of_le (Heap.lt_size e) I.ok.above))).trans (I.base.keep b o e n hb hx)
  ·obtain ⟨sl, e1⟩ := I.base.slot b o e n hb hx
   exact ⟨sl, (hs.2 b (Nat.ne_of_lt (Nat.lt_of_lt_of_le (Heap.lt_size e) I.ok.above))).trans e1⟩
  ·obtain ⟨o', e1⟩ := I.base.there b o e hx
   exact ⟨o', (hs.2 b (Nat.ne_of_lt (Nat.lt_of_lt_of_le (Heap.lt_size e) I.ok.above))).trans e1⟩
  ·by_cases hj : j = i
   ·subst hj
    rw [hi] at e1; cases e1
    rw [List.getElem?_set_self hiσ] at e2
    cases e2
    exact ⟨u, r, .inl ⟨hk, by simp⟩⟩
   ·rw [List.getElem?_set_ne (Ne.symm hj)] at e2
    obtain ⟨u', r', q⟩ := hl j y v' e1 e2 e3
    refine ⟨u', r', ?_⟩
    rcases q with ⟨k, e⟩ | ⟨k, c, e, z⟩
    ·refine .inl ⟨k, ?_⟩
     have : y ≠ x := fun e => hj (nodup_ix hN e1 (e ▸ hi))
     simp [this, e]
    ·exact .inr ⟨k, c, e, z.sameBut hs (cne y c e)⟩
  ·obtain ⟨w', z⟩ := I.cell y c e
   exact ⟨w', z.sameBut hs (cne y c e)⟩
  ·obtain ⟨e, n, ne, nf, d⟩ := I.pin p hp
   exact ⟨(hs.2 p.1 ne).trans e, n, ne, nf, d⟩
 ·have hfn : X.fn x = true := by
   rcases hf with z | z
   ·exact z
   ·rw [z] at hk; cases hk
  obtain ⟨c, hc⟩ := I.ok.has x (.inl hk)
  obtain ⟨w', z⟩ := I.cell x c hc
  refine wpAny_storeName_cell I.ok.kind hk hc z (fun h' hc' hs => ?_)
  obtain ⟨oc, hoc, hocd⟩ := id z
  refine h { s with heap := h' } ⟨I.ok, I.os, I.bare, ⟨fun b o e n hb hx => ?_, fun b o e n hb hx => ?_, I.base.free, fun b o e hx => ?_, I.base.tups, I.base.frzs, I.base.tbls⟩, ⟨m, hn.sameBut hs (Ne.symm (cne x c hc)), fun j y v' e1 e2 e3 => ?_⟩, fun y c' e => ?_, I.free, I.freeC, fun p hp => ?_, tracked ⟨oc, hoc, I.freeC x c hc⟩ hs, by simpa using I.len⟩ ⟨c, hs, .inr hc⟩
  ·exact (hs.2 b (Nat.ne_of_lt (Nat.lt_of_lt_of_le (Heap.lt_size e) (I.ok.cab x c hfn hc)))).trans (I.base.keep b o e n hb hx)
  ·obtain ⟨sl, e1⟩ := I.base.slot b o e n hb hx
   exact ⟨sl, (hs.2 b (Nat.ne_of_lt (Nat.lt_of_lt_of_le (Heap.lt_size e) (I.ok.cab x c hfn hc)))).trans e1⟩
  ·obtain ⟨o', e1⟩ := I.base.there b o e hx
   exact ⟨o', (hs.2 b (Nat.ne_of_lt (Nat.lt_of_lt_of_le (Heap.lt_size e) (I.ok.cab x c hfn hc)))).trans e1⟩
  ·by_cases hj : j = i
   ·subst hj
    rw [hi] at e1; cases e1
    rw [List.getElem?_set_self hiσ] at e2
    cases e2
    exact ⟨u, r, .inr ⟨.inl hk, c, hc, hc'⟩⟩
   ·rw [List.getElem?_set_ne (Ne.symm hj)] at e2
    obtain ⟨u', r', q⟩ := hl j y v' e1 e2 e3
    refine ⟨u', r', ?_⟩
    rcases q with q | ⟨k, c', e, z'⟩
    ·exact .inl q
    ·refine .inr ⟨k, c', e, z'.sameBut hs ?_⟩
     rintro rfl
     exact hj (nodup_ix hN e1 (I.ok.inj _ _ _ e hc ▸ hi))
  ·by_cases hcc : c' = c
   ·subst hcc; exact ⟨_, hc'⟩
   ·obtain ⟨w2, z2⟩ := I.cell y c' e
    exact ⟨w2, z2.sameBut hs hcc⟩
  ·obtain ⟨e, n, ne, nf, d⟩ := I.pin p hp
   refine ⟨(hs.2 p.1 ?_).trans e, n, ne, nf, d⟩
   intro q
   rw [q, hoc] at e
   have q' : oc = p.2 := Option.some.inj e
   exact d w' (by rw [← q']; exact hocd)
theorem store_ok {M : Model} {A : Around} {E : Value → Shared → Prop} {i : Nat} {x : Str} {v : V} {u : Value} {Q : Unit → Shared → Prop} (I : Inv X pins σ H s) (hN : X.N.Nodup) (hi : X.N[i]? = some x) (hx : Loc X.env.scope x) (r : RelV v u)
  (h : ∀ s', Inv X pins (σ.set i (some v)) H s' → Q () s') (hf : X.fn x = true ∨ X.env.scope.names.lookup x = some .local := by first | exact .inl rfl | exact .inr rfl | assumption) : wpAny M A (storeName X.env x u) Q E s :=
 store_ok2 I hN hi hx r (fun s' I' _ => h s' I') hf
theorem Inv.call' {s' : Shared} {ch : List Addr} (I : Inv X pins σ H s) (ho : s'.os = s.os) (u : Un (frs X.stack) ch H H' s.heap s'.heap) (hok : HOk X.prog X.w H' s'.heap) (hg : AllBare s'.gens)
  (hch : ∀ b ∈ ch, (b ∈ X.ex ∨ X.s₀.heap.objs.size ≤ b) ∧ b ≠ X.env.locals ∧ (∀ x c, X.env.cells.lookup x = some c → c ≠ b) ∧ ∀ p ∈ X.pn ++ pins, p.1 ≠ b) : Inv X pins σ H' s' := by
 obtain ⟨h', g', d', t', o'⟩ := s'
 have e : o' = s.os := ho
 subst e
 exact I.call (g' := g') (t' := t') (d' := d') u hok hg hch
end
abbrev XK := Value → Option Addr → Hp → Prop
abbrev St := List (Option V)
abbrev VK := V → Hp → Prop
abbrev TE := St → Hp → VK → Prop
abbrev TT := St → Hp → (Bool → Hp → Prop) → Prop
abbrev TA := St → Hp → (List V → Hp → Prop) → Prop
structure Ends where
 nx : St → Hp → Prop
 rt : VK
 bk : St → Hp → Prop := fun _ _ => False
 ct : St → Hp → Prop := fun _ _ => False
abbrev TS := Ends → St → Hp → Prop
def EP (X : Cx) (pins : List (Addr × Obj)) (σ : St) (Q : VK) (u : Value) (s' : Shared) : Prop := ∃ v H', Inv X pins σ H' s' ∧ RelV v u ∧ Q v H'
def TP (X : Cx) (pins : List (Addr × Obj)) (σ : St) (Q : Bool → Hp → Prop) (b : Bool) (s' : Shared) : Prop := ∃ H', Inv X pins σ H' s' ∧ Q b H'
def AP (X : Cx) (pins : List (Addr × Obj)) (σ : St) (Q : List V → Hp → Prop) (us : List Value) (s' : Shared) : Prop := ∃ vs H', Inv X pins σ H' s' ∧ Vals vs us ∧ Q vs H'
def SP (X : Cx) (pins : List (Addr × Obj)) (D : Ends) (f : Flow) (s' : Shared) : Prop :=
 match f with
 | .next => ∃ σ' H', Inv X pins σ' H' s' ∧ D.nx σ' H'
 | .brk => ∃ σ' H', Inv X pins σ' H' s' ∧ D.bk σ' H'
 | .cont => ∃ σ' H', Inv X pins σ' H' s' ∧ D.ct σ' H'
 | .ret u => ∃ v σ' H', Inv X pins σ' H' s' ∧ RelV v u ∧ D.rt v H'
def PE (X : Cx) (e : Expr) (t : TE) : Prop :=
 ∀ (pins : List (Addr × Obj)) (s : Shared) (σ : St) (H : Hp) (Q : VK), Inv X pins σ H s → t σ H Q → wpAny (model X.prog X.w) X.A (eval e X.env) (EP X pins σ Q) X.xe s
def PT (X : Cx) (e : Expr) (t : TT) : Prop :=
 ∀ (pins : List (Addr × Obj)) (s : Shared) (σ : St) (H : Hp) (Q : Bool → Hp → Prop), Inv X pins σ H s → t σ H Q → wpAny (model X.prog X.w) X.A (isTrue e X.env (eval e X.env)) (TP X pins σ Q) X.xe s
def PW (X : Cx) (e : Expr) (t : TT) : Prop :=
 ∀ (whole : Sem Value) (pins : List (Addr × Obj)) (s : Shared) (σ : St) (H : Hp) (Q : Bool → Hp → Prop), Inv X pins σ H s → t σ H Q → wpAny (model X.prog X.w) X.A (isTrue e X.env whole) (TP X pins σ Q) X.xe s
theorem PW.pt {X : Cx} {e : Expr} {t : TT} (h : PW X e t) : PT X e t := h _
def PA (X : Cx) (es : List Expr) (t : TA) : Prop :=
 ∀ (pos : Pos) (pins : List (Addr × Obj)) (s : Shared) (σ : St) (H : Hp) (Q : List V → Hp → Prop), Inv X pins σ H s → t σ H Q → wpAny (model X.prog X.w) X.A (spliced (backTo pos (starEach es X.env))) (AP X pins σ Q) X.xe s
def PS (X : Cx) (st : Stmt) (t : TS) : Prop :=
 ∀ (pins : List (Addr × Obj)) (s : Shared) (σ : St) (H : Hp) (D : Ends), Inv X pins σ H s → t D σ H → wpAny (model X.prog X.w) X.A (exec st X.env) (SP X pins D) X.xe s
def PSs (X : Cx) (st : List Stmt) (t : TS) : Prop :=
 ∀ (pins : List (Addr × Obj)) (s : Shared) (σ : St) (H : Hp) (D : Ends), Inv X pins σ H s → t D σ H → wpAny (model X.prog X.w) X.A (execs st X.env) (SP X pins D) X.xe s
theorem thn {α : Type} {t : Sem α} {Q Q' : α → Shared → Prop} {M : Model} {A : Around} {E : Value → Shared → Prop} {s : Shared} (h : wpAny M A t Q E s) (hQ : ∀ a s, Q a s → Q' a s) : wpAny M A t Q' E s := wpAny_mono h hQ fun _ _ x => x
section
variable {X : Cx}
theorem bin {a b : Expr} {ta tb : TE} (ha : PE X a ta) (hb : PE X b tb) {pins : List (Addr × Obj)} {s : Shared} {σ : St} {H : Hp} {R : V → V → Hp → Prop} (I : Inv X pins σ H s) (h : ta σ H fun x H1 => tb σ H1 fun y H2 => R x y H2)
  {α : Type} {Q : α → Shared → Prop} {f : Value → Value → Sem α}
  (hf : ∀ v u s2 x y H2, Inv X pins σ H2 s2 → RelV x v → RelV y u → R x y H2 → wpAny (model X.prog X.w) X.A (f v u) Q X.xe s2) :
  wpAny (model X.prog X.w) X.A (eval a X.env) (fun v s₁ => wpAny (model X.prog X.w) X.A (eval b X.env) (fun u s₂ => wpAny (model X.prog X.w) X.A (f v u) Q X.xe s₂) X.xe s₁) X.xe s := by
 refine thn (ha pins s σ H _ I h) fun v s1 ⟨x, H1, I1, r1, q1⟩ => ?_
 refine thn (hb pins s1 σ H1 _ I1 q1) fun u s2 ⟨y, H2, I2, r2, q2⟩ => ?_
 exact hf v u s2 x y H2 I2 r1 r2 q2
def tVar (i : Nat) : TE := fun σ H Q => ∃ v, σ[i]? = some (some v) ∧ Q v H
def tC (v : V) : TE := fun _ H Q => Q v H
theorem pe_var {i : Nat} {x : Str} {pos : Pos} (hN : X.N[i]? = some x) (hv : Vis X.env.scope x) (hd : (x == ("__debug__" : Str)) = false := by decide) (hcd : (x == ("__classdict__" : Str)) = false := by decide) : PE X (.Name x pos) (tVar i) := by
 intro pins s σ H Q I h
 obtain ⟨v, e, h⟩ := h
 obtain ⟨m, hn, hl⟩ := I.loc
 obtain ⟨u, r, l⟩ := hl i x v hN e hv
 have fin : EP X pins σ Q u s := ⟨v, H, I, r, h⟩
 rcases l with ⟨hk, hm⟩ | ⟨hk, c, hc, hcell⟩
 ·exact wpAny_Name (wpAny_loadName_local I.ok.kind hk hn hm fin) hd
 ·rcases hk with hk | hk
  ·exact wpAny_Name (wpAny_loadName_cell I.ok.kind hk hc hcell fin) hd
  ·exact wpAny_Name (wpAny_loadName_free I.ok.kind hk hc hcell fin hcd) hd
theorem pe_int {i j pos} : PE X (.Constant (.int i) j pos) (tC (.int i)) := fun _ _ _ H _ I h => wpAny_Constant_int ⟨.int i, H, I.tok _, ⟨_, rfl⟩, h⟩
theorem pe_bl {b j pos} : PE X (.Constant (.bool b) j pos) (tC (.bl b)) := fun _ _ _ H _ I h => Constant_bool ⟨.bl b, H, I, rfl, h⟩
theorem pe_non {j pos} : PE X (.Constant .none j pos) (tC .non) := fun _ _ _ H _ I h => Constant_none ⟨.non, H, I, rfl, h⟩
theorem pe_str {x j pos} : PE X (.Constant (.str x) j pos) (tC (.str x)) := fun _ _ _ H _ I h => Calls.Constant_str ⟨.str x, H, I.tok _, ⟨_, rfl⟩, h⟩
def Gl (X : Cx) (x : Str) : Prop := X.env.kindOf x = some .globalImplicit
theorem ld_glob {E : Value → Shared → Prop} {pins : List (Addr × Obj)} {s : Shared} {σ : St} {H : Hp} {x : Str} {u : Value} {pos : Pos} {Q : Value → Shared → Prop} (I : Inv X pins σ H s) (hg : Gl X x) (hm : X.mg x = some u) (h : Q u s)
  (hd : (x == ("__debug__" : Str)) = false := by decide) : wpAny (model X.prog X.w) X.A (eval (.Name x pos) X.env) Q E s :=
 Calls.Name_function_global I.ok.kind hg (Calls.loadGlobal_global (by rw [I.ok.glob]; exact I.mod.glob.keeps I.bk) hm h) hd
theorem ld_blt {E : Value → Shared → Prop} {pins : List (Addr × Obj)} {s : Shared} {σ : St} {H : Hp} {x : Str} {u : Value} {pos : Pos} {Q : Value → Shared → Prop} (I : Inv X pins σ H s) (hg : Gl X x) (hm : X.mg x = none) (hv : bootBuiltins x = some u) (h : Q u s)
  (hn : x ≠ "__name__" := by decide) (hd : (x == ("__debug__" : Str)) = false := by decide) : wpAny (model X.prog X.w) X.A (eval (.Name x pos) X.env) Q E s := by
 obtain ⟨mb, h1, h2⟩ := I.mod.blt
 exact Calls.Name_function_global I.ok.kind hg (Calls.loadGlobal_builtin (by rw [I.ok.glob]; exact I.mod.glob.keeps I.bk) hm (by rw [I.ok.blt]; exact h1.keeps I.bk) ((h2 x hn).trans hv) h) hd
theorem pe_glob {x : Str} {v : V} {u : Value} {pos : Pos} (hg : Gl X x) (hm : X.mg x = some u) (r : RelV v u) (hd : (x == ("__debug__" : Str)) = false := by decide) : PE X (.Name x pos) (tC v) :=
 fun _ _ _ H _ I h => ld_glob I hg hm ⟨v, H, I, r, h⟩ hd
theorem pe_bltn {x : Str} {v : V} {u : Value} {pos : Pos} (hg : Gl X x) (hm : X.mg x = none) (hv : bootBuiltins x = some u) (r : RelV v u) (hn : x ≠ "__name__" := by decide) (hd : (x == ("__debug__" : Str)) = false := by decide) : PE X (.Name x pos) (tC v) :=
 fun _ _ _ H _ I h => ld_blt I hg hm hv ⟨v, H, I, r, h⟩ hn hd
variable {a b : Expr} {ta tb : TE} {pos : Pos}
variable {tA tB' : TT} {rest : List Expr}
def tAnd (t u : TT) : TT := fun σ H Q => t σ H fun c H1 => if c = true then u σ H1 Q else Q false H1
def tOr (t u : TT) : TT := fun σ H Q => t σ H fun c H1 => if c = true then Q true H1 else u σ H1 Q
def tNot (t : TT) : TT := fun σ H Q => t σ H fun c H1 => Q (!c) H1
theorem pw_and1 (ha : PT X a tA) : PW X (.BoolOp .And [a] pos) tA := by
 intro wh pins s σ H Q I h
 refine isTrue_and (thn (ha pins s σ H Q I h) fun c s1 e => ?_)
 cases c with
 | true => exact isTrue_and_nil e
 | false => exact e
theorem pw_or1 (ha : PT X a tA) : PW X (.BoolOp .Or [a] pos) tA := by
 intro wh pins s σ H Q I h
 refine isTrue_or (thn (ha pins s σ H Q I h) fun c s1 e => ?_)
 cases c with
 | false => exact isTrue_or_nil e
 | true => exact e
theorem pw_and (ha : PT X a tA) (hb : PW X (.BoolOp .And (b :: rest) pos) tB') : PW X (.BoolOp .And (a :: b :: rest) pos) (tAnd tA tB') := by
 intro wh pins s σ H Q I h
 refine isTrue_and (thn (ha pins s σ H _ I h) fun c s1 ⟨H1, I1, q1⟩ => ?_)
 cases c with
 | true => exact hb wh pins s1 σ H1 Q I1 q1
 | false => exact ⟨H1, I1, q1⟩
theorem pw_or (ha : PT X a tA) (hb : PW X (.BoolOp .Or (b :: rest) pos) tB') : PW X (.BoolOp .Or (a :: b :: rest) pos) (tOr tA tB') := by
 intro wh pins s σ H Q I h
 refine isTrue_or (thn (ha pins s σ H _ I h) fun c s1 ⟨H1, I1, q1⟩ => ?_)
 cases c with
 | true => exact ⟨H1, I1, q1⟩
 | false => exact hb wh pins s1 σ H1 Q I1 q1
theorem pt_not (ha : PT X a tA) : PT X (.UnaryOp .Not a pos) (tNot tA) := by
 intro pins s σ H Q I h
 exact isTrue_not (ha pins s σ H (fun c H1 => Q (!c) H1) I h)
theorem pe_one {op} {t : TE} (h : PE X a t) : PE X (.BoolOp op [a] pos) t := fun pins s σ H Q I hw => BoolOp_one (h pins s σ H Q I hw)
end
def SqL (K : PySem.W.Frag) (H : Hp) (a : Addr) (xs : List V) : Prop :=
 Rd H a (.lst xs) ∨
  ∃ (o : Obj) (its : Array Value) (n : Nat), K.lookup a = some o ∧ o.cls = .type "list" ∧ o.dict = none ∧ o.data = .seq its n ∧ its.size ≤ sizeLine ∧ Vals xs its.toList
def SqT (K : PySem.W.Frag) (H : Hp) (a : Addr) (xs : List V) : Prop :=
 Rd H a (.tup xs) ∨
  ∃ (o : Obj) (its : Array Value) (n : Nat), K.lookup a = some o ∧ o.cls = .type "tuple" ∧ o.data = .seq its n ∧ its.size ≤ sizeLine ∧ Vals xs its.toList
def absV : Value → Option V
 | .none => some .non
 | .bool b => some (.bl b)
 | .int i _ => some (.int i)
 | .str x _ => some (.str x)
 | .bytes b _ => some (.byt b)
 | .float b _ => some (.flt b)
 | .ref a => some (.ref a)
 | .type n => some (.ty n)
 | _ => none
theorem RelV.abs {x : V} {u : Value} (r : RelV x u) : absV u = some x := by
 cases x with
 | non => cases r; rfl
 | bl _ => cases r; rfl
 | int _ => obtain ⟨t, rfl⟩ := r; rfl
 | str _ => obtain ⟨t, rfl⟩ := r; rfl
 | byt _ => obtain ⟨t, rfl⟩ := r; rfl
 | flt _ => obtain ⟨t, rfl⟩ := r; rfl
 | ref _ => cases r; rfl
 | ty _ => cases r; rfl
theorem RelV.inj {x y : V} {u : Value} (r : RelV x u) (q : RelV y u) : x = y := Option.some.inj (r.abs.symm.trans q.abs)
theorem Vals.inj : ∀ {xs ys : List V} {us : List Value}, Vals xs us → Vals ys us → xs = ys
 | _, _, _, .nil, .nil => rfl
 | _, _, _, .cons r t, .cons r' t' => by rw [r.inj r', Vals.inj t t']
section
variable {X : Cx} {pins : List (Addr × Obj)} {σ : St} {H : Hp} {s : Shared} {a : Addr} {xs ys : List V}
theorem SqT.of {K : PySem.W.Frag} (h : H a = some (.tup xs)) : SqT K H a xs := .inl (.inl h)
theorem Inv.list (I : Inv X pins σ H s) (h : SqL X.K H a xs) : ∃ its : List Value, Vals xs its ∧ PlainL s.heap a its.toArray ∧ xs.length ≤ sizeLine := by
 rcases h with h | ⟨o, its, n, hk, hc, hd, hs, hz, r⟩
 ·obtain ⟨z, its, n, r, e⟩ := h.ok I.hok
  exact ⟨its, r, ⟨_, n, e, rfl, rfl, rfl⟩, z⟩
 ·refine ⟨its.toList, r, ⟨o, n, I.kIn a o hk, hc, hd, by simpa using hs⟩, ?_⟩
  have e := r.length
  simp only [Array.length_toList] at e
  omega
theorem Inv.tuple (I : Inv X pins σ H s) (h : SqT X.K H a xs) : ∃ its : List Value, Vals xs its ∧ IsTup s.heap a its.toArray ∧ xs.length ≤ sizeLine := by
 rcases h with h | ⟨o, its, n, hk, hc, hs, hz, r⟩
 ·obtain ⟨z, its, r, p⟩ := h.ok I.hok
  exact ⟨its, r, p, z⟩
 ·refine ⟨its.toList, r, ⟨o, I.kIn a o hk, hc, n, by simpa using hs⟩, ?_⟩
  have e := r.length
  simp only [Array.length_toList] at e
  omega
theorem Inv.list_inj (I : Inv X pins σ H s) (h : SqL X.K H a xs) (h' : SqL X.K H a ys) : xs = ys := by
 obtain ⟨its, r, ⟨o, n, e, _, _, d⟩, _⟩ := I.list h
 obtain ⟨its', r', ⟨o', n', e', _, _, d'⟩, _⟩ := I.list h'
 rw [e] at e'; cases e'
 rw [d] at d'
 injection d' with d1 _
 have : its = its' := by simpa using congrArg Array.toList d1
 subst this
 exact r.inj r'
theorem Inv.tuple_inj (I : Inv X pins σ H s) (h : SqT X.K H a xs) (h' : SqT X.K H a ys) : xs = ys := by
 obtain ⟨its, r, ⟨o, e, _, n, d⟩, _⟩ := I.tuple h
 obtain ⟨its', r', ⟨o', e', _, n', d'⟩, _⟩ := I.tuple h'
 rw [e] at e'; cases e'
 rw [d] at d'
 injection d' with d1 _
 have : its = its' := by simpa using congrArg Array.toList d1
 subst this
 exact r.inj r'
end
abbrev Cx.wish (X : Cx) (E : Value → Shared → Prop) : Cx := { X with xe := E }
abbrev Cx.nox (X : Cx) : Cx := X.wish fun _ _ => False
theorem Cx.Ok.wish {X : Cx} (ok : X.Ok) (E : Value → Shared → Prop) : (X.wish E).Ok :=
 ⟨ok.mod, ok.kind, ok.glob, ok.blt, ok.above, ok.inj, ok.has, ok.cab, ok.hd, ok.frames, ok.stk, ok.exf, ok.bs, ok.bsz, ok.noex, ok.exfs, ok.funs, ok.frf⟩
theorem Cx.Ok.unwish {X : Cx} {E : Value → Shared → Prop} (ok : (X.wish E).Ok) : X.Ok :=
 ⟨ok.mod, ok.kind, ok.glob, ok.blt, ok.above, ok.inj, ok.has, ok.cab, ok.hd, ok.frames, ok.stk, ok.exf, ok.bs, ok.bsz, ok.noex, ok.exfs, ok.funs, ok.frf⟩
section
variable {X : Cx} {pins : List (Addr × Obj)} {σ : St} {H : Hp} {s : Shared} {E : Value → Shared → Prop}
theorem Inv.wish (I : Inv X pins σ H s) (E : Value → Shared → Prop) : Inv (X.wish E) pins σ H s := ⟨I.ok.wish E, I.os, I.bare, I.base, I.loc, I.cell, I.free, I.freeC, I.pin, I.hok, I.len⟩
theorem Inv.unwish (I : Inv (X.wish E) pins σ H s) : Inv X pins σ H s := ⟨I.ok.unwish, I.os, I.bare, I.base, I.loc, I.cell, I.free, I.freeC, I.pin, I.hok, I.len⟩
theorem SP.unwish {D : Ends} {f : Flow} {s' : Shared} (h : SP (X.wish E) pins D f s') : SP X pins D f s' := by
 cases f with
 | next => obtain ⟨σ', H', I, q⟩ := h; exact ⟨σ', H', I.unwish, q⟩
 | brk => obtain ⟨σ', H', I, q⟩ := h; exact ⟨σ', H', I.unwish, q⟩
 | cont => obtain ⟨σ', H', I, q⟩ := h; exact ⟨σ', H', I.unwish, q⟩
 | ret u => obtain ⟨v, σ', H', I, r, q⟩ := h; exact ⟨v, σ', H', I.unwish, r, q⟩
theorem PSs.nox {st : List Stmt} {t : TS} (h : PSs X.nox st t) : PSs X st t := fun pins s σ H D I hw =>
 wpAny_mono (h pins s σ H D (I.wish _) hw) (fun _ _ q => q.unwish) fun _ _ z => False.elim z
end
section
variable {X : Cx} {st : Stmt} {rest : List Stmt} {t u : TS} {e : Expr} {te : TE} {pos : Pos}
def tNext : TS := fun D σ H => D.nx σ H
def tSeq (t u : TS) : TS := fun D σ H => t { D with nx := u D } σ H
theorem pss_nil : PSs X [] tNext := fun _ _ σ H _ I h => wpAny_execs_nil ⟨σ, H, I, h⟩
theorem pss_cons (h1 : PS X st t) (h2 : PSs X rest u) : PSs X (st :: rest) (tSeq t u) := by
 intro pins s σ H D I h
 refine wpAny_execs_cons (thn (h1 pins s σ H { D with nx := u D } I h) fun f s1 q => ?_)
 cases f with
 | next =>
  obtain ⟨σ', H', I', q⟩ := q
  exact h2 pins s1 σ' H' D I' q
 | ret v => exact q
 | brk => exact q
 | cont => exact q
theorem Inv.quiet {pins : List (Addr × Obj)} {σ : St} {H : Hp} {s : Shared} (I : Inv X pins σ H s) : interactive X.env = false := by simp [interactive, I.ok.kind]
def tDrop (te : TE) : TS := fun D σ H => te σ H fun _ H1 => D.nx σ H1
theorem ps_expr (he : PE X e te) (hs : swapsWith e none pos.line X.env = pure false := by rfl) : PS X (.Expr e pos) (tDrop te) := by
 intro pins s σ H D I h
 exact wpAny_Expr_any (thn (he pins s σ H _ I h) fun v s1 ⟨x, H1, I1, r1, q1⟩ => ⟨σ, H1, I1, q1⟩) I.quiet hs
def tRet (te : TE) : TS := fun D σ H => te σ H D.rt
theorem ps_ret (he : PE X e te) : PS X (.Return (some e) pos) (tRet te) := by
 intro pins s σ H D I h
 exact wpAny_Return_some (thn (he pins s σ H _ I h) fun v s1 ⟨x, H1, I1, r1, q1⟩ => ⟨x, σ, H1, I1, r1, q1⟩)
def tIfS (c : TT) (t u : TS) : TS := fun D σ H => c σ H fun b H1 => if b = true then t D σ H1 else u D σ H1
theorem ps_if {c : Expr} {a b : List Stmt} {tc : TT} (hc : PT X c tc) (ha : PSs X a t) (hb : PSs X b u) : PS X (.If c a b pos) (tIfS tc t u) := by
 intro pins s σ H D I h
 refine wpAny_If (thn (hc pins s σ H _ I h) fun d s1 ⟨H1, I1, q1⟩ => ?_)
 cases d with
 | true => exact ha pins s1 σ H1 D I1 q1
 | false => exact hb pins s1 σ H1 D I1 q1
def tNever : TS := fun _ _ _ => False
theorem ps_never : PS X st tNever := fun _ _ _ _ _ _ h => h.elim
end
abbrev TG := V → St → Hp → (St → Hp → Prop) → Prop
abbrev TGs := List V → St → Hp → (St → Hp → Prop) → Prop
def PG (X : Cx) (target : Expr) (t : TG) : Prop :=
 ∀ (pins : List (Addr × Obj)) (s : Shared) (σ : St) (H : Hp) (v : V) (u : Value) (Q : St → Hp → Prop), Inv X pins σ H s → RelV v u → t v σ H Q →
  wpAny (model X.prog X.w) X.A (assign target X.env u) (fun _ s' => ∃ σ' H', Inv X pins σ' H' s' ∧ Q σ' H') X.xe s
def PGs (X : Cx) (ts : List Expr) (t : TGs) : Prop :=
 ∀ (pins : List (Addr × Obj)) (s : Shared) (σ : St) (H : Hp) (vs : List V) (us : List Value) (Q : St → Hp → Prop), Inv X pins σ H s → Vals vs us → t vs σ H Q →
  wpAny (model X.prog X.w) X.A (assignInOrder ((assignEach ts X.env).map (·.2)) us) (fun _ s' => ∃ σ' H', Inv X pins σ' H' s' ∧ Q σ' H') X.xe s
abbrev TSet := V → V → V → Hp → (Hp → Prop) → Prop
def PSet (X : Cx) (t : TSet) : Prop :=
 ∀ (pins : List (Addr × Obj)) (s : Shared) (σ : St) (H : Hp) (o i v : V) (ov iv u : Value) (Q : Hp → Prop), Inv X pins σ H s → RelV o ov → RelV i iv → RelV v u → t o i v H Q →
  wpAny (model X.prog X.w) X.A (setItem ov iv u) (fun _ s' => ∃ H', Inv X pins σ H' s' ∧ Q H') X.xe s
section
variable {X : Cx} {pos : Pos}
def gName (i : Nat) : TG := fun v σ H Q => Q (σ.set i (some v)) H
theorem pg_name {i : Nat} {x : Str} (hN : X.N.Nodup) (hi : X.N[i]? = some x) (hx : Loc X.env.scope x) (hf : X.fn x = true ∨ X.env.scope.names.lookup x = some .local := by first | exact .inl rfl | exact .inr rfl | assumption) : PG X (.Name x pos) (gName i) := by
 intro pins s σ H v u Q I r h
 exact wpAny_assign_Name (store_ok I hN hi hx r (fun s' I' => ⟨_, H, I', h⟩) hf)
def gNil : TGs := fun vs σ H Q => vs = [] ∧ Q σ H
def gCons (t : TG) (u : TGs) : TGs := fun vs σ H Q => ∃ v r, vs = v :: r ∧ t v σ H fun σ' H' => u r σ' H' Q
theorem pgs_nil : PGs X [] gNil := by
 intro pins s σ H vs us Q I r h
 obtain ⟨e, h⟩ := h
 subst e
 cases r
 exact assignInOrder_nil ⟨σ, H, I, h⟩
theorem pgs_cons {e : Expr} {es : List Expr} {t : TG} {u : TGs} (h1 : PG X e t) (h2 : PGs X es u)
  (hs : (assignEach (e :: es) X.env).map (·.2) = assign e X.env :: (assignEach es X.env).map (·.2) := by rfl) : PGs X (e :: es) (gCons t u) := by
 intro pins s σ H vs us Q I r h
 obtain ⟨v, vr, e1, h⟩ := h
 subst e1
 cases r with
 | cons r rr =>
  rw [hs]
  refine assignInOrder_cons (thn (h1 pins s σ H _ _ _ I r h) fun _ s1 ⟨σ1, H1, I1, q1⟩ => ?_)
  exact h2 pins s1 σ1 H1 _ _ Q I1 rr q1
def gTup (K : PySem.W.Frag) (n : Nat) (t : TGs) : TG := fun v σ H Q => ∃ a xs, v = .ref a ∧ SqT K H a xs ∧ xs.length = n ∧ t xs σ H Q
theorem pg_tup {es : List Expr} {k : Nat} {t : TGs} {n : Nat} (hc : X.calm = true) (h : PGs X es t)
  (hn : (assignEach es X.env).length = n := by rfl) (hst : (assignEach es X.env).findIdx? (·.1) = none := by rfl) : PG X (.Tuple es k pos) (gTup X.K n t) := by
 intro pins s σ H v u Q I r hw
 obtain ⟨a, xs, e1, hq, hl, hw⟩ := hw
 subst e1
 cases r
 obtain ⟨its, rv, ht, hz⟩ := I.tuple hq
 refine assign_Tuple_tuple (I.ok.hd hc) ht (by simp [hn, ← hl, rv.length]) hst fun h' hx => ?_
 have I1 : Inv X pins σ H { s with heap := h' } := I.kept (t' := s.toks) fun b o e => hx b o (Nat.ne_of_lt (Heap.lt_size e)) e
 exact h pins _ σ H xs _ Q I1 (by simpa using rv) hw
def tAsg (te : TE) (g : TG) : TS := fun D σ H => te σ H fun x H1 => g x σ H1 D.nx
theorem ps_asg {tg e : Expr} {te : TE} {g : TG} (he : PE X e te) (hg : PG X tg g) (hs : swapsWithSole [tg] e pos.line X.env = pure false := by rfl) (hw : swappedStores [tg] e X.env = pure none := by rfl)
  (h1 : (assignEach [tg] X.env).map (·.2) = [assign tg X.env] := by rfl) : PS X (.Assign [tg] e pos) (tAsg te g) := by
 intro pins s σ H D I h
 refine wpAny_Assign_stores (thn (he pins s σ H _ I h) fun v s1 ⟨x, H1, I1, r1, q1⟩ => ?_) hs hw
 rw [h1]
 exact thn (hg pins s1 σ H1 x v _ I1 r1 q1) fun _ s2 q => q
end
section
variable {X : Cx} {pos : Pos}
def tWhile (c : TT) (tb : TS) : TS := fun D σ H => ∃ W : Nat → St → Hp → Prop, (∃ m, W m σ H) ∧ ∀ m σ H, W m σ H →
 c σ H fun b H1 => if b = true then ∃ N : St → Hp → Prop, (∀ σ' H', N σ' H' → ∃ m', m' < m ∧ W m' σ' H') ∧ tb { D with nx := N, ct := N, bk := D.nx } σ H1 else D.nx σ H1
theorem ps_while {c : Expr} {body : List Stmt} {tc : TT} {tb : TS} (hp : PassesOwn (model X.prog X.w) X.A X.env X.xe) (hc : PT X c tc) (hb : PSs X body tb) : PS X (.While c body [] pos) (tWhile tc tb) := by
 intro pins s σ H D I h
 obtain ⟨W, ⟨m0, w0⟩, turn⟩ := h
 refine wpAny_While (codeAny_whileLoop (fun n s' => ∃ σ' H', Inv X pins σ' H' s' ∧ W n σ' H') ?_ m0 ⟨σ, H, I, w0⟩)
 rintro n s1 ⟨σ1, H1, I1, w1⟩
 refine wpAny_passesOwn hp (thn (hc pins s1 σ1 H1 _ I1 (turn n σ1 H1 w1)) fun b s2 ⟨H2, I2, q2⟩ => ?_)
 cases b with
 | true =>
  obtain ⟨N, hN, q2⟩ := q2
  rw [if_pos rfl]
  refine wpAny_passesOwn hp (thn (hb pins s2 σ1 H2 _ I2 q2) fun f s3 q3 => ?_)
  cases f with
  | next =>
   obtain ⟨σ3, H3, I3, n3⟩ := q3
   obtain ⟨m', hm, w3⟩ := hN σ3 H3 n3
   exact ⟨m', hm, σ3, H3, I3, w3⟩
  | cont =>
   obtain ⟨σ3, H3, I3, n3⟩ := q3
   obtain ⟨m', hm, w3⟩ := hN σ3 H3 n3
   exact ⟨m', hm, σ3, H3, I3, w3⟩
  | brk => exact q3
  | ret v => exact q3
 | false =>
  rw [if_neg Bool.false_ne_true]
  exact wpAny_execs_nil ⟨σ1, H2, I2, q2⟩
end
structure It where
 go : Nat → Hp → Prop
 yld : Nat → Hp → V → Hp → Prop
 stop : Nat → Hp → Prop
def FpOk (X : Cx) (pins : List (Addr × Obj)) (H : Hp) (b : Addr) : Prop :=
 H b = none ∧ b ≠ X.env.locals ∧ b ∉ X.fs ∧ (b ∈ X.ex ∨ X.s₀.heap.objs.size ≤ b) ∧ (∀ x c, X.env.cells.lookup x = some c → c ≠ b) ∧ ∀ p ∈ X.pn ++ pins, p.1 ≠ b
theorem Inv.fpOk {X : Cx} {pins : List (Addr × Obj)} {σ : St} {H H' : Hp} {s : Shared} {b : Addr} (I : Inv X pins σ H s) (hb : s.heap.objs.size ≤ b) (hn : H' b = none) : FpOk X pins H' b := by
 refine ⟨hn, Nat.ne_of_gt (Nat.lt_of_lt_of_le I.lt hb), I.nofs hb, .inr (Nat.le_trans I.sz hb), fun x c e z => ?_, fun p hp z => ?_⟩
 ·obtain ⟨v, q⟩ := I.cell x c e
  exact absurd (Nat.lt_of_lt_of_le q.lt (by rw [z]; exact hb)) (Nat.lt_irrefl _)
 ·exact absurd (Nat.lt_of_lt_of_le (Heap.lt_size (I.pin p hp).1) (by rw [z]; exact hb)) (Nat.lt_irrefl _)
structure Turn (P : Program) (w : World) (K : PySem.W.Frag) (tg : Expr) (J : It) (fp : List Addr) (it : Addr) (tn : Nat → Heap → Prop) : Prop where
 mem : it ∈ fp
 obj : ∀ i h, tn i h → ∀ b ∈ fp, ∃ o, h.get? b = some o ∧ ∀ v, o.data ≠ .cell v
 keep : ∀ i h h', tn i h → (∀ b ∈ fp, ∀ o, h.get? b = some o → h'.get? b = some o) → tn i h'
 item : ∀ (X : Cx), X.prog = P → X.w = w → X.K = K → X.calm = true → ∀ (i : Nat) (pins : List (Addr × Obj)) (s : Shared) (σ : St) (H : Hp) (E : Value → Shared → Prop), Inv X pins σ H s → (∀ b ∈ fp, FpOk X pins H b) → tn i s.heap → J.go i H →
  wpAny (model P w) X.A (pyNext (.ref it)) (fun r s1 => ∃ u, r = some u ∧
   wpAny (model P w) X.A (letOwnedTupleGo tg (.ref it) u) (fun _ s2 => ∃ x H', Inv X pins σ H' s2 ∧ RelV x u ∧ J.yld i H x H' ∧ tn (i + 1) s2.heap ∧ ∀ b ∈ fp, H' b = none) E s1) E s
 done : ∀ (X : Cx), X.prog = P → X.w = w → X.K = K → X.calm = true → ∀ (i : Nat) (pins : List (Addr × Obj)) (s : Shared) (σ : St) (H : Hp) (E : Value → Shared → Prop), Inv X pins σ H s → (∀ b ∈ fp, FpOk X pins H b) → tn i s.heap → J.stop i H →
  wpAny (model P w) X.A (pyNext (.ref it)) (fun r s1 => r = none ∧ Inv X pins σ H s1) E s
 self : ∀ (A : Around) (i : Nat) (s : Shared) (Q : Value → Shared → Prop) (E : Value → Shared → Prop), tn i s.heap → Q (.ref it) s → wpAny (model P w) A (pyIter (.ref it)) Q E s
abbrev TI := St → Hp → (It → Hp → Prop) → Prop
def PIE (X : Cx) (pins : List (Addr × Obj)) (σ : St) (tg : Expr) (R : It → Hp → Prop) (itv : Value) (s2 : Shared) : Prop :=
 ∃ (it : Addr) (fp : List Addr) (tn : Nat → Heap → Prop) (J : It) (H' : Hp), itv = .ref it ∧ Inv X pins σ H' s2 ∧ Turn X.prog X.w X.K tg J fp it tn ∧ tn 0 s2.heap ∧ (∀ b ∈ fp, FpOk X pins H' b) ∧ R J H'
def PI (X : Cx) (tg iter : Expr) (wi : TI) : Prop :=
 ∀ (pins : List (Addr × Obj)) (s : Shared) (σ : St) (H : Hp) (R : It → Hp → Prop), Inv X pins σ H s → wi σ H R →
  wpAny (model X.prog X.w) X.A (eval iter X.env) (fun v s1 => wpAny (model X.prog X.w) X.A (pyIter v) (PIE X pins σ tg R) X.xe s1) X.xe s
theorem go_of {M : Model} {A : Around} {E : Value → Shared → Prop} {s : Shared} {tg : Expr} {it : Addr} {u : Value} {o : Obj} {n : String} {vs : Array Value} {Q : Unit → Shared → Prop} (ho : s.heap.get? it = some o) (hc : o.cls = .type n) (hd : o.data = .fields vs)
  (hn : ["enumerate", "zip", "dict_itemiterator", "dict_reverseitemiterator", "odict_iterator", "itertools.zip_longest", "itertools.pairwise"].contains n = false) (hQ : Q () s) : wpAny M A (letOwnedTupleGo tg (.ref it) u) Q E s := by
 unfold letOwnedTupleGo
 cases tg <;> first
  | exact wpAny_pure hQ
  |(cases u <;> first
    | exact wpAny_pure hQ
    |(refine wpAny_bind (wpAny_load ho ?_)
      rw [hc, hd]
      show wpAny M A (if (["enumerate", "zip", "dict_itemiterator", "dict_reverseitemiterator", "odict_iterator", "itertools.zip_longest", "itertools.pairwise"].contains n && vs[0]? == some (rawInt _)) = true then _ else _) Q E s
      rw [if_neg (by intro h; rw [hn, Bool.false_and] at h; cases h)]
      exact wpAny_pure hQ))
def Itl (K : PySem.W.Frag) (a : Addr) : It :=
 ⟨fun i H => ∃ xs x, SqL K H a xs ∧ xs[i]? = some x, fun i H x H' => H' = H ∧ ∀ xs, SqL K H a xs → xs[i]? = some x, fun i H => ∃ xs, SqL K H a xs ∧ xs.length ≤ i⟩
def Itt (K : PySem.W.Frag) (a : Addr) : It :=
 ⟨fun i H => ∃ xs x, SqT K H a xs ∧ xs[i]? = some x, fun i H x H' => H' = H ∧ ∀ xs, SqT K H a xs → xs[i]? = some x, fun i H => ∃ xs, SqT K H a xs ∧ xs.length ≤ i⟩
def Itr (lo : Int) (n : Nat) : It := ⟨fun i _ => i < n, fun i H x H' => H' = H ∧ x = .int (lo + i), fun i _ => n ≤ i⟩
theorem turn_list {P : Program} {w : World} {K : PySem.W.Frag} {tg : Expr} (a it : Addr) : Turn P w K tg (Itl K a) [it] it (fun i h => h.IsListIter it a i) where
 mem := by simp
 obj := fun i h st b hb => by
  have e : b = it := by simpa using hb
  subst e
  obtain ⟨o, e, c, d⟩ := st
  exact ⟨o, e, fun v z => by rw [d] at z; cases z⟩
 keep := fun i h h' st k => st.at fun o e => k it (by simp) o e
 item := by
  intro X hP hw hK hc i pins s σ H E I hf st hg
  subst hP hw hK
  obtain ⟨xs, x, hq, hx⟩ := hg
  obtain ⟨its, rv, p, hz⟩ := I.list hq
  obtain ⟨u, hu, ru⟩ := rv.get hx
  obtain ⟨f0, f1, f2, f3, f4, f5⟩ := hf it (by simp)
  refine wpAny_pyNext_list_item st p.isList (x := u) (by simpa using hu) fun h' st' sb => ?_
  have I1 : Inv X pins σ H { s with heap := h' } := I.turned (t' := s.toks) (fun b o hb e => (sb.2 b hb).trans e) f0 f1 f3 f4 f5
  obtain ⟨o, e, c, d⟩ := id st'
  exact ⟨u, rfl, go_of (s := { s with heap := h' }) e c d (by decide) ⟨x, H, I1, ru, ⟨rfl, fun ys hy => by rw [I.list_inj hy hq]; exact hx⟩, st', fun b hb => (hf b hb).1⟩⟩
 done := by
  intro X hP hw hK hc i pins s σ H E I hf st hg
  subst hP hw hK
  obtain ⟨xs, hq, hx⟩ := hg
  obtain ⟨its, rv, p, hz⟩ := I.list hq
  obtain ⟨f0, f1, f2, f3, f4, f5⟩ := hf it (by simp)
  have hl := rv.length
  exact wpAny_pyNext_list_end (I.ok.hd hc) st p.isList (by simp; omega) fun h' eb => ⟨rfl, I.turned (t' := s.toks) (fun b o hb e => eb b o hb e) f0 f1 f3 f4 f5⟩
 self := fun _ _ _ _ _ st h => wpAny_pyIter_listiter st h
theorem turn_tuple {P : Program} {w : World} {K : PySem.W.Frag} {tg : Expr} (a it : Addr) : Turn P w K tg (Itt K a) [it] it (fun i h => h.IsTupleIter it a i) where
 mem := by simp
 obj := fun i h st b hb => by
  have e : b = it := by simpa using hb
  subst e
  obtain ⟨o, e, c, d⟩ := st
  exact ⟨o, e, fun v z => by rw [d] at z; cases z⟩
 keep := fun i h h' st k => st.at fun o e => k it (by simp) o e
 item := by
  intro X hP hw hK hc i pins s σ H E I hf st hg
  subst hP hw hK
  obtain ⟨xs, x, hq, hx⟩ := hg
  obtain ⟨its, rv, p, hz⟩ := I.tuple hq
  obtain ⟨u, hu, ru⟩ := rv.get hx
  obtain ⟨f0, f1, f2, f3, f4, f5⟩ := hf it (by simp)
  refine wpAny_pyNext_tuple_item st (show s.heap.IsTuple a its.toArray from p) (x := u) (by simpa using hu) fun h' st' sb => ?_
  have I1 : Inv X pins σ H { s with heap := h' } := I.turned (t' := s.toks) (fun b o hb e => (sb.2 b hb).trans e) f0 f1 f3 f4 f5
  obtain ⟨o, e, c, d⟩ := id st'
  exact ⟨u, rfl, go_of (s := { s with heap := h' }) e c d (by decide) ⟨x, H, I1, ru, ⟨rfl, fun ys hy => by rw [I.tuple_inj hy hq]; exact hx⟩, st', fun b hb => (hf b hb).1⟩⟩
 done := by
  intro X hP hw hK hc i pins s σ H E I hf st hg
  subst hP hw hK
  obtain ⟨xs, hq, hx⟩ := hg
  obtain ⟨its, rv, p, hz⟩ := I.tuple hq
  obtain ⟨f0, f1, f2, f3, f4, f5⟩ := hf it (by simp)
  have hl := rv.length
  exact wpAny_pyNext_tuple_end (I.ok.hd hc) st (show s.heap.IsTuple a its.toArray from p) (by simp; omega) fun h' eb => ⟨rfl, I.turned (t' := s.toks) (fun b o hb e => eb b o hb e) f0 f1 f3 f4 f5⟩
 self := fun _ _ _ _ _ st h => wpAny_pyIter_tupleiter st h
theorem turn_range {P : Program} {w : World} {K : PySem.W.Frag} {tg : Expr} (it : Addr) (lo : Int) (n : Nat) : Turn P w K tg (Itr lo n) [it] it (fun i h => IsRangeIter h it (lo + (i : Nat) * 1) ((n : Int) - (i : Nat)) 1) where
 mem := by simp
 obj := fun i h st b hb => by
  have e : b = it := by simpa using hb
  subst e
  exact ⟨_, st, fun v z => by
   have z' : Data.fields _ = Data.cell v := z
   cases z'⟩
 keep := fun i h h' st k => k it (by simp) _ st
 item := by
  intro X hP hw hK hc i pins s σ H E I hf st hg
  subst hP hw hK
  obtain ⟨f0, f1, f2, f3, f4, f5⟩ := hf it (by simp)
  have W := Walks.range (prog := X.prog) (w := X.w) (I.ok.hd hc) it lo 1 n
  refine W.item i s _ _ hg st fun v h' tk hv st' kk => ?_
  obtain ⟨t, rfl⟩ := hv
  have I1 : Inv X pins σ H { s with heap := h', toks := tk } := I.turned (fun b o hb e => kk b o (by simpa using hb) e) f0 f1 f3 f4 f5
  refine ⟨_, rfl, go_of (s := { s with heap := h', toks := tk }) (n := "range_iterator") st' rfl rfl (by decide) ⟨.int (lo + i), H, I1, ⟨t, ?_⟩, ⟨rfl, rfl⟩, st', fun b hb => (hf b hb).1⟩⟩
  rw [Int.mul_one]
 done := by
  intro X hP hw hK hc i pins s σ H E I hf st hg
  subst hP hw hK
  obtain ⟨f0, f1, f2, f3, f4, f5⟩ := hf it (by simp)
  exact wpAny_pyNext_range_end (I.ok.hd hc) st (by have : n ≤ i := hg; omega) fun h' eb => ⟨rfl, I.turned (t' := s.toks) (fun b o hb e => eb b o hb e) f0 f1 f3 f4 f5⟩
 self := fun _ _ _ _ _ st h => wpAny_pyIter_rangeiter st h
section
variable {X : Cx} {tg : Expr}
theorem range_it {pins : List (Addr × Obj)} {σ : St} {H : Hp} {s : Shared} {R : It → Hp → Prop} {E : Value → Shared → Prop} {lo hi : Int} {t u v : Tok} {tk : Nat} (I : Inv X pins σ H s) (h1 : -(2 ^ 62) ≤ lo) (h2 : lo < 2 ^ 62) (h3 : -(2 ^ 62) ≤ hi) (h4 : hi < 2 ^ 62)
  (q : R (Itr lo (hi - lo).toNat) H) : wpAny (model X.prog X.w) X.A (pyIter (.ref s.heap.objs.size)) (PIE X pins σ tg R) E { s with heap := s.heap.push { cls := .type "range", data := .fields #[.int lo t, .int hi u, .int 1 v] }, toks := tk } := by
 refine wpAny_pyIter_range (IsRange.new ..) (small_one h1 h2 h3 h4) ?_
 have I1 : Inv X pins σ H { s with heap := s.heap.push { cls := .type "range", data := .fields #[.int lo t, .int hi u, .int 1 v] }, toks := tk } := I.kept fun b o e => Heap.get?_push_of_some _ e
 refine ⟨(s.heap.push { cls := .type "range", data := .fields #[.int lo t, .int hi u, .int 1 v] }).objs.size, [(s.heap.push { cls := .type "range", data := .fields #[.int lo t, .int hi u, .int 1 v] }).objs.size], _, _, H, rfl,
  I1.kept (t' := tk) fun b o e => Heap.get?_push_of_some _ e, turn_range _ lo (hi - lo).toNat, ?_, fun b hb => ?_, q⟩
 ·have e1 : lo + ((0 : Nat) : Int) * 1 = lo := by simp
  have e2 : (((hi - lo).toNat : Nat) : Int) - ((0 : Nat) : Int) = Builtin.Range.rangeSize lo hi 1 := by rw [rangeSize_one]; split <;> omega
  show IsRangeIter _ _ (lo + ((0 : Nat) : Int) * 1) ((((hi - lo).toNat : Nat) : Int) - ((0 : Nat) : Int)) 1
  rw [e1, e2]
  exact Heap.get?_push_size _ rfl
 ·have e : b = (s.heap.push { cls := .type "range", data := .fields #[.int lo t, .int hi u, .int 1 v] }).objs.size := by simpa using hb
  subst e
  exact I1.fpOk (Nat.le_refl _) (I1.hok.fresh (Nat.le_refl _))
def iRng1 (ta : TA) : TI := fun σ H R => ta σ H fun vs H1 => ∃ j : Int, vs = [.int j] ∧ -(2 ^ 62) ≤ j ∧ j < 2 ^ 62 ∧ R (Itr 0 j.toNat) H1
def iRng2 (ta : TA) : TI := fun σ H R => ta σ H fun vs H1 => ∃ i j : Int, vs = [.int i, .int j] ∧ (-(2 ^ 62) ≤ i ∧ i < 2 ^ 62 ∧ -(2 ^ 62) ≤ j ∧ j < 2 ^ 62) ∧ R (Itr i (j - i).toNat) H1
theorem pi_range1 {a : Expr} {ta : TA} {p pos : Pos} (hg : Gl X "range") (hm : X.mg "range" = none) (ha : PA X [a] ta) (hs : starEach [a] X.env = [(false, eval a X.env)] := by rfl) : PI X tg (.Call (.Name "range" p) [a] [] pos) (iRng1 ta) := by
 intro pins s σ H R I h
 refine Call_ (ld_blt I hg hm boot_range (PyProof.Rows.callWith_type1 (thn (ha pos pins s σ H _ I h) fun us s1 ⟨vs, H1, I1, r1, q1⟩ => ?_) hs rfl))
 obtain ⟨j, e, q1, q2, q⟩ := q1
 subst e
 cases r1 with
 | cons r rr =>
  cases rr
  obtain ⟨t, rfl⟩ := r
  exact call_range_1 (range_it I1 (by omega) (by omega) q1 q2 (by simpa using q))
theorem pi_range2 {a b : Expr} {ta : TA} {p pos : Pos} (hg : Gl X "range") (hm : X.mg "range" = none) (ha : PA X [a, b] ta) (hs : starEach [a, b] X.env = [(false, eval a X.env), (false, eval b X.env)] := by rfl) (hs2 : starEach [b] X.env = [(false, eval b X.env)] := by rfl) :
  PI X tg (.Call (.Name "range" p) [a, b] [] pos) (iRng2 ta) := by
 intro pins s σ H R I h
 refine Call_ (ld_blt I hg hm boot_range (PyProof.Rows.callWith_type1 (thn (ha pos pins s σ H _ I h) fun us s1 ⟨vs, H1, I1, r1, q1⟩ => ?_) (by rw [hs, hs2]) (by rw [hs2]; rfl)))
 obtain ⟨i, j, e, ⟨q1, q2, q3, q4⟩, q⟩ := q1
 subst e
 cases r1 with
 | cons r rr =>
  cases rr with
  | cons r' rr =>
   cases rr
   obtain ⟨t, rfl⟩ := r
   obtain ⟨t', rfl⟩ := r'
   exact call_range_2 (range_it I1 q1 q2 q3 q4 q)
def tFor (wi : TI) (g : TG) (tb : TS) : TS := fun D σ H => wi σ H fun J H1 => ∃ W : Nat → Nat → St → Hp → Prop, (∃ m, W 0 m σ H1) ∧ ∀ i m σ H, W i m σ H →
 (J.stop i H ∧ D.nx σ H) ∨ (J.go i H ∧ ∃ N : St → Hp → Prop, (∀ σ' H', N σ' H' → ∃ m', m' < m ∧ W (i + 1) m' σ' H') ∧ ∀ x H', J.yld i H x H' → g x σ H' fun σ2 H2 => tb { D with nx := N, ct := N, bk := D.nx } σ2 H2)
def pinsAt (fp : List Addr) (h : Heap) : List (Addr × Obj) := fp.filterMap fun b => (h.get? b).map fun o => (b, o)
theorem mem_pinsAt {fp : List Addr} {h : Heap} {b : Addr} {o : Obj} (hb : b ∈ fp) (e : h.get? b = some o) : (b, o) ∈ pinsAt fp h := List.mem_filterMap.mpr ⟨b, hb, by rw [e]; rfl⟩
theorem of_pinsAt {fp : List Addr} {h : Heap} {p : Addr × Obj} (hp : p ∈ pinsAt fp h) : p.1 ∈ fp ∧ h.get? p.1 = some p.2 := by
 obtain ⟨b, hb, e⟩ := List.mem_filterMap.mp hp
 cases q : h.get? b with
 | none => rw [q] at e; cases e
 | some o =>
  rw [q] at e
  have e' : (b, o) = p := Option.some.inj e
  subst e'
  exact ⟨hb, q⟩
theorem Inv.pinned {pins : List (Addr × Obj)} {σ : St} {H : Hp} {s : Shared} {fp : List Addr} (I : Inv X pins σ H s) (hf : ∀ b ∈ fp, FpOk X pins H b) (ho : ∀ b ∈ fp, ∃ o, s.heap.get? b = some o ∧ ∀ v, o.data ≠ .cell v) : Inv X (pins ++ pinsAt fp s.heap) σ H s :=
 I.pins_of fun p hp => (List.mem_append.mp hp).elim (fun z => I.pin p (List.mem_append_right _ z)) fun z => by
  obtain ⟨hb, e⟩ := of_pinsAt z
  obtain ⟨f0, f1, f2, _⟩ := hf p.1 hb
  obtain ⟨o, e', d⟩ := ho p.1 hb
  rw [e] at e'; cases e'
  exact ⟨e, f0, f1, f2, d⟩
theorem Inv.unpinned {pins pl : List (Addr × Obj)} {σ : St} {H : Hp} {s : Shared} (I : Inv X (pins ++ pl) σ H s) : Inv X pins σ H s := I.pins_of fun p hp => I.pin p (List.mem_append_right _ (List.mem_append_left _ hp))
theorem ps_for {iter : Expr} {body : List Stmt} {wi : TI} {g : TG} {tb : TS} {pos : Pos} (hp : PassesOwn (model X.prog X.w) X.A X.env X.xe) (hc : X.calm = true) (hi : PI X tg iter wi) (hg : PG X tg g) (hb : PSs X body tb)
  (hs : ∀ x, foldedSetIterable iter X.env x = pure x := by intro _; rfl) : PS X (.For tg iter body [] pos) (tFor wi g tb) := by
 intro pins s σ H D I h
 refine wpAny_For (thn (hi pins s σ H _ I h) fun v s1 h1 => thn h1 fun itv s2 h2 => ?_) hs
 obtain ⟨it, fp, tn, J, H2, e, I2, T, st2, f2, W, ⟨m0, w0⟩, turn⟩ := h2
 subst e
 have stat : ∀ {H' : Hp}, (∀ b ∈ fp, H' b = none) → ∀ b ∈ fp, FpOk X pins H' b := fun hn b hb => ⟨hn b hb, (f2 b hb).2⟩
 refine codeAny_forLoop_any (fun n s' => ∃ i σ' H', Inv X pins σ' H' s' ∧ tn i s'.heap ∧ (∀ b ∈ fp, H' b = none) ∧ W i n σ' H') ?_ m0 ⟨0, σ, H2, I2, st2, fun b hb => (f2 b hb).1, w0⟩
 rintro n s3 ⟨i, σ3, H3, I3, st3, fr3, w3⟩
 rcases turn i n σ3 H3 w3 with ⟨stop, qn⟩ | ⟨go, N, hN, step⟩
 ·refine wpAny_passesOwn hp (thn (T.done X rfl rfl rfl hc i pins s3 σ3 H3 X.xe I3 (stat fr3) st3 stop) fun r s4 ⟨hr, I4⟩ => ?_)
  subst hr
  exact wpAny_execs_nil ⟨σ3, H3, I4, qn⟩
 ·refine wpAny_passesOwn hp (thn (T.item X rfl rfl rfl hc i pins s3 σ3 H3 X.xe I3 (stat fr3) st3 go) fun r s4 ⟨u, hr, h4⟩ => ?_)
  subst hr
  refine wpAny_passesOwn hp (thn h4 fun _ s5 ⟨x, H5, I5, r5, y5, st5, fr5⟩ => ?_)
  have I5' := I5.pinned (stat fr5) (T.obj _ _ st5)
  refine wpAny_passesOwn hp (thn (hg _ s5 σ3 H5 x u _ I5' r5 (step x H5 y5)) fun _ s6 ⟨σ6, H6, I6, q6⟩ => ?_)
  refine wpAny_passesOwn hp (thn (hb _ s6 σ6 H6 _ I6 q6) fun f s7 q7 => ?_)
  have again : ∀ {σ7 : St} {H7 : Hp}, Inv X (pins ++ pinsAt fp s5.heap) σ7 H7 s7 → N σ7 H7 → ∃ m, m < n ∧ ∃ i σ' H', Inv X pins σ' H' s7 ∧ tn i s7.heap ∧ (∀ b ∈ fp, H' b = none) ∧ W i m σ' H' := fun {σ7 H7} I7 n7 => by
   obtain ⟨m', hm, w7⟩ := hN σ7 H7 n7
   refine ⟨m', hm, i + 1, σ7, H7, I7.unpinned, T.keep _ _ _ st5 fun b hb o e => (I7.pin (b, o) (List.mem_append_right _ (List.mem_append_right _ (mem_pinsAt hb e)))).1, fun b hb => ?_, w7⟩
   obtain ⟨o, e, d⟩ := T.obj _ _ st5 b hb
   exact (I7.pin (b, o) (List.mem_append_right _ (List.mem_append_right _ (mem_pinsAt hb e)))).2.1
  cases f with
  | next => obtain ⟨σ7, H7, I7, n7⟩ := q7; exact again I7 n7
  | cont => obtain ⟨σ7, H7, I7, n7⟩ := q7; exact again I7 n7
  | brk => obtain ⟨σ7, H7, I7, q7⟩ := q7; exact ⟨σ7, H7, I7.unpinned, q7⟩
  | ret v => obtain ⟨x7, σ7, H7, I7, r7, q7⟩ := q7; exact ⟨x7, σ7, H7, I7.unpinned, r7, q7⟩
end
abbrev R2 := V → V → Hp → VK → Prop
def OpR (X : Cx) (f : Value → Value → Sem Value) (r : R2) : Prop :=
 ∀ (pins : List (Addr × Obj)) (s : Shared) (σ : St) (H : Hp) (x y : V) (v u : Value) (Q : VK), Inv X pins σ H s → RelV x v → RelV y u → r x y H Q →
  wpAny (model X.prog X.w) X.A (f v u) (EP X pins σ Q) X.xe s
def UnR (X : Cx) (f : Value → Sem Value) (r : V → Hp → VK → Prop) : Prop :=
 ∀ (pins : List (Addr × Obj)) (s : Shared) (σ : St) (H : Hp) (x : V) (v : Value) (Q : VK), Inv X pins σ H s → RelV x v → r x H Q →
  wpAny (model X.prog X.w) X.A (f v) (EP X pins σ Q) X.xe s
def CallR (X : Cx) (f : Value) (r : List V → Hp → VK → Prop) : Prop :=
 ∀ (pins : List (Addr × Obj)) (s : Shared) (σ : St) (H : Hp) (xs : List V) (us : List Value) (Q : VK), Inv X pins σ H s → Vals xs us → r xs H Q →
  wpAny (model X.prog X.w) X.A (call f us) (EP X pins σ Q) X.xe s
def TruR (X : Cx) (r : V → Hp → (Bool → Hp → Prop) → Prop) : Prop :=
 ∀ (pins : List (Addr × Obj)) (s : Shared) (σ : St) (H : Hp) (x : V) (v : Value) (Q : Bool → Hp → Prop), Inv X pins σ H s → RelV x v → r x H Q →
  wpAny (model X.prog X.w) X.A (truthy v) (TP X pins σ Q) X.xe s
def tOp (r : R2) (ta tb : TE) : TE := fun σ H Q => ta σ H fun x H1 => tb σ H1 fun y H2 => r x y H2 Q
def tUn (r : V → Hp → VK → Prop) (ta : TE) : TE := fun σ H Q => ta σ H fun x H1 => r x H1 Q
def rI (C : Int → Int → Prop) (g : Int → Int → V) : R2 := fun x y H Q => ∃ i j, x = .int i ∧ y = .int j ∧ C i j ∧ Q (g i j) H
def rI0 (g : Int → Int → V) : R2 := fun x y H Q => ∃ i j, x = .int i ∧ y = .int j ∧ Q (g i j) H
def rU (g : Int → V) : V → Hp → VK → Prop := fun x H Q => ∃ i, x = .int i ∧ Q (g i) H
section
variable {X : Cx} {a b c : Expr} {ta tb tc : TE} {pos : Pos}
theorem binT (ha : PE X a ta) (hb : PE X b tb) {pins : List (Addr × Obj)} {s : Shared} {σ : St} {H : Hp} {R : V → V → Hp → Prop} (I : Inv X pins σ H s)
  (h : ta σ H fun x H1 => tb σ H1 fun y H2 => R x y H2) {Q : Value → Shared → Prop} {f : Value → Value → Sem Value}
  (hf : ∀ v u s2 x y H2, Inv X pins σ H2 s2 → RelV x v → RelV y u → R x y H2 → wpAny (model X.prog X.w) X.A (f v u) Q X.xe s2) :
  wpAny (model X.prog X.w) X.A (eval a X.env) (fun v s₁ => wpAny (model X.prog X.w) X.A (eval b X.env) (fun u s₂ => wpAny (model X.prog X.w) X.A (f v u) Q X.xe s₂) X.xe s₁) X.xe s := by
 refine thn (ha pins s σ H _ I h) fun v s1 ⟨x, H1, I1, r1, q1⟩ => ?_
 refine thn (hb pins s1 σ H1 _ I1 q1) fun u s2 ⟨y, H2, I2, r2, q2⟩ => ?_
 exact hf v u s2 x y H2 I2 r1 r2 q2
theorem pe_op {op : Operator} {r : R2} (ho : OpR X (binaryOp op) r) (ha : PE X a ta) (hb : PE X b tb) : PE X (.BinOp a op b pos) (tOp r ta tb) := by
 intro pins s σ H Q I h
 exact wpAny_BinOp (binT ha hb I h fun v u s2 x y H2 I2 rx ry q => ho pins s2 σ H2 x y v u Q I2 rx ry q)
theorem pe_un {op : UnaryOp} {r : V → Hp → VK → Prop} (ho : UnR X (unaryOp op) r) (ha : PE X a ta) : PE X (.UnaryOp op a pos) (tUn r ta) := by
 intro pins s σ H Q I h
 exact UnaryOp_ (thn (ha pins s σ H _ I h) fun v s1 ⟨x, H1, I1, r1, q1⟩ => ho pins s1 σ H1 x v Q I1 r1 q1)
theorem opI {f : Value → Value → Sem Value} {C : Int → Int → Prop} {g : Int → Int → Int}
  (rule : ∀ (i j : Int) (t u : Tok) (s : Shared) (Q : Value → Shared → Prop) (E : Value → Shared → Prop), C i j → Q (.int (g i j) s.toks) { s with toks := s.toks + 1 } → wpAny (model X.prog X.w) X.A (f (.int i t) (.int j u)) Q E s) :
  OpR X f (rI C fun i j => .int (g i j)) := by
 intro pins s σ H x y v u Q I rx ry h
 obtain ⟨i, j, rfl, rfl, hc, q⟩ := h
 obtain ⟨t, rfl⟩ := rx
 obtain ⟨t', rfl⟩ := ry
 exact rule i j t t' s _ _ hc ⟨.int (g i j), H, I.tok _, ⟨_, rfl⟩, q⟩
theorem opI0 {f : Value → Value → Sem Value} {g : Int → Int → Int}
  (rule : ∀ (i j : Int) (t u : Tok) (s : Shared) (Q : Value → Shared → Prop) (E : Value → Shared → Prop), Q (.int (g i j) s.toks) { s with toks := s.toks + 1 } → wpAny (model X.prog X.w) X.A (f (.int i t) (.int j u)) Q E s) :
  OpR X f (rI0 fun i j => .int (g i j)) := by
 intro pins s σ H x y v u Q I rx ry h
 obtain ⟨i, j, rfl, rfl, q⟩ := h
 obtain ⟨t, rfl⟩ := rx
 obtain ⟨t', rfl⟩ := ry
 exact rule i j t t' s _ _ ⟨.int (g i j), H, I.tok _, ⟨_, rfl⟩, q⟩
theorem opB0 {f : Value → Value → Sem Value} {g : Int → Int → Bool}
  (rule : ∀ (i j : Int) (t u : Tok) (s : Shared) (Q : Value → Shared → Prop) (E : Value → Shared → Prop), Q (.bool (g i j)) s → wpAny (model X.prog X.w) X.A (f (.int i t) (.int j u)) Q E s) :
  OpR X f (rI0 fun i j => .bl (g i j)) := by
 intro pins s σ H x y v u Q I rx ry h
 obtain ⟨i, j, rfl, rfl, q⟩ := h
 obtain ⟨t, rfl⟩ := rx
 obtain ⟨t', rfl⟩ := ry
 exact rule i j t t' s _ _ ⟨.bl (g i j), H, I, rfl, q⟩
def CPow (i j : Int) : Prop := 0 ≤ j ∧ j ≤ 1000000 ∧ i.natAbs < 2 ^ 64
def CMul (i j : Int) : Prop := (-(2 ^ 64) < i ∧ i < 2 ^ 64) ∨ (-(2 ^ 64) < j ∧ j < 2 ^ 64)
theorem CMul.ok {i j : Int} (h : CMul i j) : IntMulOk i j := by
 rcases h with ⟨h1, h2⟩ | ⟨h1, h2⟩
 ·exact .of_left (intBits_le_64 h1 h2)
 ·exact .of_right (intBits_le_64 h1 h2)
theorem op_add : OpR X (binaryOp .Add) (rI0 fun i j => .int (i + j)) := opI0 fun _ _ _ _ _ _ _ q => add_int q
theorem op_sub : OpR X (binaryOp .Sub) (rI0 fun i j => .int (i - j)) := opI0 fun _ _ _ _ _ _ _ q => sub_int q
theorem op_modN : OpR X (binaryOp .Mod) (rI (fun _ j => j ≠ 0) fun i j => .int (i.fmod j)) := opI fun _ _ _ _ _ _ _ hc q => mod_int' hc q
theorem op_pow : OpR X (binaryOp .Pow) (rI CPow fun i j => .int (i ^ j.toNat)) := opI fun _ _ _ _ _ _ _ hc q => pow_int_small hc.1 hc.2.1 hc.2.2 q
theorem unI {f : Value → Sem Value} {g : Int → Int}
  (rule : ∀ (i : Int) (t : Tok) (s : Shared) (Q : Value → Shared → Prop) (E : Value → Shared → Prop), Q (.int (g i) s.toks) { s with toks := s.toks + 1 } → wpAny (model X.prog X.w) X.A (f (.int i t)) Q E s) :
  UnR X f (rU fun i => .int (g i)) := by
 intro pins s σ H x v Q I rx h
 obtain ⟨i, rfl, q⟩ := h
 obtain ⟨t, rfl⟩ := rx
 exact rule i t s _ _ ⟨.int (g i), H, I.tok _, ⟨_, rfl⟩, q⟩
theorem un_neg : UnR X (unaryOp .USub) (rU fun i => .int (-i)) := unI fun _ _ _ _ _ q => neg_int q
end
def scal : V → V → Bool
 | .non, .non => true | .non, .int _ => true | .int _, .non => true | .non, .bl _ => true | .bl _, .non => true | .non, .str _ => true | .str _, .non => true
 | .int _, .int _ => true | .bl _, .bl _ => true | .str _, .str _ => true | .byt _, .byt _ => true
 | .int _, .str _ => true | .str _, .int _ => true | .bl _, .str _ => true | .str _, .bl _ => true
 | _, _ => false
def rEq : R2 := fun x y H Q => scal x y = true ∧ Q (.bl (decide (x = y))) H
def rNe : R2 := fun x y H Q => scal x y = true ∧ Q (.bl (!decide (x = y))) H
theorem dec_int {i j : Int} : decide (V.int i = V.int j) = (i == j) := by
 rw [Bool.eq_iff_iff]
 simp
theorem dec_bl {i j : Bool} : decide (V.bl i = V.bl j) = (i == j) := by
 rw [Bool.eq_iff_iff]
 simp
theorem dec_str {i j : Str} : decide (V.str i = V.str j) = (i == j) := by
 rw [Bool.eq_iff_iff]
 simp
theorem dec_byt {i j : Array UInt8} : decide (V.byt i = V.byt j) = (i.toList == j.toList) := by
 rw [Bool.eq_iff_iff]
 cases i
 cases j
 simp
section
variable {X : Cx} {a b c : Expr} {ta tb tc : TE} {pos : Pos}
theorem fin_bl {pins : List (Addr × Obj)} {σ : St} {H : Hp} {s : Shared} {Q : VK} {k k' : Bool} (I : Inv X pins σ H s) (q : Q (.bl k) H) (e : k = k') : EP X pins σ Q (.bool k') s := by
 subst e
 exact ⟨.bl k, H, I, rfl, q⟩
theorem op_eq : OpR X (compareOp .Eq) rEq := by
 intro pins s σ H x y v u Q I rx ry h
 obtain ⟨hs, q⟩ := h
 cases x with
 | non =>
  cases rx
  cases y with
  | non => cases ry; exact PySem.EqNone.eq_none_none (fin_bl I q (by simp))
  | bl j => cases ry; exact PySem.EqNone.eq_none_bool (fin_bl I q (by simp))
  | int j => obtain ⟨t', rfl⟩ := ry; exact PySem.EqNone.eq_none_int (fin_bl I q (by simp))
  | str j => obtain ⟨t', rfl⟩ := ry; exact PySem.EqNone.eq_none_str (fin_bl I q (by simp))
  | _ => exact absurd (show false = true from hs) Bool.false_ne_true
 | bl i =>
  cases rx
  cases y with
  | non => cases ry; exact PySem.EqNone.eq_bool_none (fin_bl I q (by simp))
  | bl j => cases ry; exact eq_bool (fin_bl I q dec_bl)
  | str j => obtain ⟨t', rfl⟩ := ry; exact PySem.EqMixed.eq_bool_str (fin_bl I q (by simp))
  | _ => exact absurd (show false = true from hs) Bool.false_ne_true
 | int i =>
  obtain ⟨t, rfl⟩ := rx
  cases y with
  | non => cases ry; exact PySem.EqNone.eq_int_none (fin_bl I q (by simp))
  | int j => obtain ⟨t', rfl⟩ := ry; exact eq_int (fin_bl I q dec_int)
  | str j => obtain ⟨t', rfl⟩ := ry; exact PySem.EqMixed.eq_int_str (fin_bl I q (by simp))
  | _ => exact absurd (show false = true from hs) Bool.false_ne_true
 | str i =>
  obtain ⟨t, rfl⟩ := rx
  cases y with
  | non => cases ry; exact PySem.EqNone.eq_str_none (fin_bl I q (by simp))
  | bl j => cases ry; exact PySem.EqMixed.eq_str_bool (fin_bl I q (by simp))
  | int j => obtain ⟨t', rfl⟩ := ry; exact PySem.EqMixed.eq_str_int (fin_bl I q (by simp))
  | str j => obtain ⟨t', rfl⟩ := ry; exact eq_str (fin_bl I q dec_str)
  | _ => exact absurd (show false = true from hs) Bool.false_ne_true
 | byt i =>
  obtain ⟨t, rfl⟩ := rx
  cases y with
  | byt j => obtain ⟨t', rfl⟩ := ry; exact PySem.W.eq_bytes (fin_bl I q dec_byt)
  | _ => exact absurd (show false = true from hs) Bool.false_ne_true
 | _ => cases y <;> exact absurd (show false = true from hs) Bool.false_ne_true
theorem op_ne : OpR X (compareOp .NotEq) rNe := by
 intro pins s σ H x y v u Q I rx ry h
 obtain ⟨hs, q⟩ := h
 cases x with
 | non =>
  cases rx
  cases y with
  | non => cases ry; exact PySem.EqNone.ne_none_none (fin_bl I q (by simp))
  | bl j => cases ry; exact PySem.EqNone.ne_none_bool (fin_bl I q (by simp))
  | int j => obtain ⟨t', rfl⟩ := ry; exact PySem.EqNone.ne_none_int (fin_bl I q (by simp))
  | str j => obtain ⟨t', rfl⟩ := ry; exact PySem.EqNone.ne_none_str (fin_bl I q (by simp))
  | _ => exact absurd (show false = true from hs) Bool.false_ne_true
 | bl i =>
  cases rx
  cases y with
  | non => cases ry; exact PySem.EqNone.ne_bool_none (fin_bl I q (by simp))
  | bl j => cases ry; exact ne_bool (fin_bl I q (congrArg not dec_bl))
  | str j => obtain ⟨t', rfl⟩ := ry; exact PySem.EqMixed.ne_bool_str (fin_bl I q (by simp))
  | _ => exact absurd (show false = true from hs) Bool.false_ne_true
 | int i =>
  obtain ⟨t, rfl⟩ := rx
  cases y with
  | non => cases ry; exact PySem.EqNone.ne_int_none (fin_bl I q (by simp))
  | int j => obtain ⟨t', rfl⟩ := ry; exact ne_int (fin_bl I q (congrArg not dec_int))
  | str j => obtain ⟨t', rfl⟩ := ry; exact PySem.EqMixed.ne_int_str (fin_bl I q (by simp))
  | _ => exact absurd (show false = true from hs) Bool.false_ne_true
 | str i =>
  obtain ⟨t, rfl⟩ := rx
  cases y with
  | non => cases ry; exact PySem.EqNone.ne_str_none (fin_bl I q (by simp))
  | bl j => cases ry; exact PySem.EqMixed.ne_str_bool (fin_bl I q (by simp))
  | int j => obtain ⟨t', rfl⟩ := ry; exact PySem.EqMixed.ne_str_int (fin_bl I q (by simp))
  | str j => obtain ⟨t', rfl⟩ := ry; exact ne_str (fin_bl I q (congrArg not dec_str))
  | _ => exact absurd (show false = true from hs) Bool.false_ne_true
 | byt i =>
  obtain ⟨t, rfl⟩ := rx
  cases y with
  | byt j => obtain ⟨t', rfl⟩ := ry; exact PySem.W.ne_bytes (fin_bl I q (congrArg not dec_byt))
  | _ => exact absurd (show false = true from hs) Bool.false_ne_true
 | _ => cases y <;> exact absurd (show false = true from hs) Bool.false_ne_true
theorem op_lt : OpR X (compareOp .Lt) (rI0 fun i j => .bl (decide (i < j))) := opB0 fun _ _ _ _ _ _ _ q => lt_int q
theorem op_gt : OpR X (compareOp .Gt) (rI0 fun i j => .bl (decide (j < i))) := opB0 fun _ _ _ _ _ _ _ q => gt_int q
theorem op_ge : OpR X (compareOp .GtE) (rI0 fun i j => .bl (decide (j ≤ i))) := opB0 fun _ _ _ _ _ _ _ q => ge_int q
theorem op_in_str : OpR X (compareOp .In) (fun x y H Q => ∃ i j, x = .str i ∧ y = .str j ∧ Q (.bl (!(Builtin.Str.occurrences j i 0 j.length 1).isEmpty)) H) := by
 intro pins s σ H x y v u Q I rx ry h
 obtain ⟨i, j, rfl, rfl, q⟩ := h
 obtain ⟨t, rfl⟩ := rx
 obtain ⟨t', rfl⟩ := ry
 exact in_str (fin_bl I q rfl)
theorem op_isN : OpR X (compareOp .Is) (fun x y H Q => y = .non ∧ Q (.bl (decide (x = .non))) H) := by
 intro pins s σ H x y v u Q I rx ry h
 obtain ⟨rfl, q⟩ := h
 cases ry
 refine is_none_gen (fin_bl I q ?_)
 cases x <;> first
  |(cases rx; rfl)
  |(obtain ⟨t, rfl⟩ := rx; rfl)
theorem op_notin_str : OpR X (compareOp .NotIn) (fun x y H Q => ∃ i j, x = .str i ∧ y = .str j ∧ Q (.bl (!(!(Builtin.Str.occurrences j i 0 j.length 1).isEmpty))) H) := by
 intro pins s σ H x y v u Q I rx ry h
 obtain ⟨i, j, rfl, rfl, q⟩ := h
 obtain ⟨t, rfl⟩ := rx
 obtain ⟨t', rfl⟩ := ry
 exact notIn_str (fin_bl I q rfl)
theorem pe_cmpR {op : CmpOp} {r : R2} (ho : OpR X (compareOp op) r) (ha : PE X a ta) (hb : PE X b tb) (hm : behindInMarks op b = false) : PE X (.Compare a [op] [b] pos) (tOp r ta tb) := by
 intro pins s σ H Q I h
 exact wpAny_Compare1 (binT ha hb I h fun v u s2 x y H2 I2 rx ry q => ho pins s2 σ H2 x y v u Q I2 rx ry q) hm
def tTest (t : TE) : TT := fun σ H Q => t σ H fun x H' => ∃ k, x = .bl k ∧ Q k H'
theorem pt_cmpR {op : CmpOp} {r : R2} (ho : OpR X (compareOp op) r) (ha : PE X a ta) (hb : PE X b tb) (hm : behindInMarks op b = false) : PT X (.Compare a [op] [b] pos) (tTest (tOp r ta tb)) := by
 intro pins s σ H Q I h
 refine wpAny_isTrue_Compare1 (thn (ha pins s σ H _ I h) fun v s1 ⟨x, H1, I1, r1, q1⟩ => thn (hb pins s1 σ H1 _ I1 q1) fun u s2 ⟨y, H2, I2, r2, q2⟩ =>
  thn (ho pins s2 σ H2 x y v u _ I2 r1 r2 q2) fun c s3 ⟨z, H3, I3, r3, k, e, q3⟩ => ?_) hm
 subst e
 cases r3
 exact wpAny_truthy_bool ⟨H3, I3, q3⟩
def TruV (K : PySem.W.Frag) (x : V) (H : Hp) (k : Bool) : Prop :=
 match x with
 | .non => k = false
 | .bl b => k = b
 | .int i => k = (i != 0)
 | .str y => y.length ≤ sizeLine ∧ k = ((y.length : Int) != 0)
 | .byt y => y.size ≤ sizeLine ∧ k = ((y.size : Int) != 0)
 | .ref p => (∃ xs, SqL K H p xs ∧ k = !xs.isEmpty) ∨ (∃ xs, SqT K H p xs ∧ k = !xs.isEmpty) ∨ ∃ kvs, H p = some (.dK kvs) ∧ k = !kvs.isEmpty
 | _ => False
theorem isEmpty_kv {κ : Type} {kvs : List (κ × V)} {vs : List (κ × Value)} (r : KV kvs vs) : (!vs.isEmpty) = !kvs.isEmpty := by
 cases r <;> rfl
theorem isEmpty_of {xs : List V} {its : List Value} (r : Vals xs its) : (!its.toArray.isEmpty) = !xs.isEmpty := by
 cases r <;> simp
theorem line63 : (sizeLine : Nat) < 2 ^ 63 := by rw [sizeLine_eq]; decide
theorem tru_ok : TruR X (fun x H Q => ∃ k, TruV X.K x H k ∧ Q k H) := by
 intro pins s σ H x v Q I rx h
 obtain ⟨k, e, q⟩ := h
 have hl := line63
 have hs : sizeLine = 16777216 := sizeLine_eq
 cases x with
 | non =>
  cases rx
  have e' : k = false := e
  subst e'
  exact truthy_none ⟨H, I, q⟩
 | bl b =>
  cases rx
  have e' : k = b := e
  subst e'
  exact wpAny_truthy_bool ⟨H, I, q⟩
 | int i =>
  obtain ⟨t, rfl⟩ := rx
  have e' : k = (i != 0) := e
  subst e'
  exact PySem.P.truthy_int ⟨H, I, q⟩
 | str y =>
  obtain ⟨t, rfl⟩ := rx
  obtain ⟨hy, e'⟩ : y.length ≤ sizeLine ∧ k = ((y.length : Int) != 0) := e
  subst e'
  exact PySem.P.truthy_str (by omega) ⟨H, I.tok _, q⟩
 | byt y =>
  obtain ⟨t, rfl⟩ := rx
  obtain ⟨hy, e'⟩ : y.size ≤ sizeLine ∧ k = ((y.size : Int) != 0) := e
  subst e'
  exact PySem.W.truthy_bytes (by omega) ⟨H, I.tok _, q⟩
 | ref p =>
  cases rx
  have e' : (∃ xs, SqL X.K H p xs ∧ k = !xs.isEmpty) ∨ (∃ xs, SqT X.K H p xs ∧ k = !xs.isEmpty) ∨ ∃ kvs, H p = some (.dK kvs) ∧ k = !kvs.isEmpty := e
  rcases e' with ⟨xs, hx, e'⟩ | ⟨xs, hx, e'⟩ | ⟨kvs, hx, e'⟩
  ·subst e'
   obtain ⟨its, r, pl, hz⟩ := I.list hx
   have hlen := r.length
   exact wpAny_truthy_list pl.isList (by simp only [List.size_toArray]; omega) ⟨H, I.tok _, by rw [isEmpty_of r]; exact q⟩
  ·subst e'
   obtain ⟨its, r, pl, hz⟩ := I.tuple hx
   have hlen := r.length
   exact truthy_tuple pl (by simp only [List.size_toArray]; omega) ⟨H, I.tok _, by rw [isEmpty_of r]; exact q⟩
  ·subst e'
   obtain ⟨hz, hS, vs, r, m⟩ : kvs.length ≤ sizeLine ∧ (p == sysModules) = false ∧ ∃ vs, KV kvs vs ∧ s.heap.DictOf (mixKind X.prog X.w) p vs := I.hok p _ hx
   have hlen : kvs.length = vs.length := Paired.length r
   exact wpAny_truthy_dict hS m (by omega) ⟨H, I.tok _, by rw [isEmpty_kv r]; exact q⟩
 | _ => exact (show False from e).elim
theorem pt_truth (ha : PE X a ta) (he : ∀ whole, isTrue a X.env whole = (do let v ← whole; standAt a.pos; holding [v] (truthy v))) :
  PT X a (fun σ H Q => ta σ H fun x H' => ∃ k, TruV X.K x H' k ∧ Q k H') := by
 intro pins s σ H Q I h
 exact isTrue_plain (thn (ha pins s σ H _ I h) fun v s1 ⟨x, H1, I1, r1, q1⟩ => tru_ok pins s1 σ H1 x v Q I1 r1 q1) (he _)
theorem op_add_str : OpR X (binaryOp .Add) (fun x y H Q => ∃ i j, x = .str i ∧ y = .str j ∧ i.length + j.length ≤ sizeLine ∧ Q (.str (i ++ j)) H) := by
 intro pins s σ H x y v u Q I rx ry h
 obtain ⟨i, j, rfl, rfl, hz, q⟩ := h
 obtain ⟨t, rfl⟩ := rx
 obtain ⟨t', rfl⟩ := ry
 exact add_str (fun t' tk => ⟨.str (i ++ j), H, I.tok _, ⟨_, rfl⟩, q⟩) hz
theorem vals1 {x : V} {us : List Value} (r : Vals [x] us) : ∃ u, us = [u] ∧ RelV x u := by
 cases r with
 | cons r1 r2 => cases r2; exact ⟨_, rfl, r1⟩
theorem vals2 {x y : V} {us : List Value} (r : Vals [x, y] us) : ∃ u w', us = [u, w'] ∧ RelV x u ∧ RelV y w' := by
 cases r with
 | cons r1 r2 =>
  cases r2 with
  | cons r3 r4 => cases r4; exact ⟨_, _, rfl, r1, r3⟩
theorem call_max2 (hc : X.calm = true) : CallR X (.builtin "max") (fun xs H Q => ∃ i j, xs = [.int i, .int j] ∧ Q (.int (if j > i then j else i)) H) := by
 intro pins s σ H xs us Q I r h
 obtain ⟨i, j, rfl, q⟩ := h
 obtain ⟨u, w', rfl, ⟨t, rfl⟩, ⟨t', rfl⟩⟩ := vals2 r
 refine max_two_ints (I.ok.hd hc) fun h' tk k => ⟨_, H, I.kept k, ?_, q⟩
 by_cases hj : j > i
 ·rw [if_pos hj, if_pos hj]; exact ⟨_, rfl⟩
 ·rw [if_neg hj, if_neg hj]; exact ⟨_, rfl⟩
theorem call_min2 (hc : X.calm = true) : CallR X (.builtin "min") (fun xs H Q => ∃ i j, xs = [.int i, .int j] ∧ Q (.int (if j < i then j else i)) H) := by
 intro pins s σ H xs us Q I r h
 obtain ⟨i, j, rfl, q⟩ := h
 obtain ⟨u, w', rfl, ⟨t, rfl⟩, ⟨t', rfl⟩⟩ := vals2 r
 refine min_two_ints (I.ok.hd hc) fun h' tk k => ⟨_, H, I.kept k, ?_, q⟩
 by_cases hj : j < i
 ·rw [if_pos hj, if_pos hj]; exact ⟨_, rfl⟩
 ·rw [if_neg hj, if_neg hj]; exact ⟨_, rfl⟩
end
structure ObjM (h : Heap) (x dx C : Addr) (mA : Str → Option Value) : Prop where
 obj : h.get? x = some (PySem.W.instObj C dx)
 ns : h.Ns1 dx mA
 ne : dx ≠ x
theorem lookIn_ns {h : Heap} {dx : Addr} {mA : Str → Option Value} (n : h.Ns1 dx mA) : ∃ od, h.get? dx = some od ∧ ∀ name, PySem.W.lookIn name od = some (mA name) := by
 obtain ⟨o, es, ep, ho, hd, hk, _, hm⟩ := n
 refine ⟨o, ho, fun name => ?_⟩
 have e := hm name
 unfold nsFind findBy at e
 rw [← Array.find?_toList] at e
 unfold PySem.W.lookIn
 rw [hd]
 dsimp only
 split
 ·rename_i y q
  rw [q] at e
  exact congrArg some e
 ·rename_i q
  rw [q] at e
  have a : es.toList.any (·.refKey) = false := by
   rw [List.any_eq_false]
   intro y hy
   obtain ⟨z, t, hkey⟩ := hk y (Array.mem_toList_iff.mp hy)
   simp [DictEntry.refKey, hkey]
  have a' : ¬ es.toList.any (·.refKey) = true := by rw [a]; exact Bool.false_ne_true
  rw [if_neg a']
  exact congrArg some e
theorem ObjM.look {h : Heap} {x dx C : Addr} {mA : Str → Option Value} (I : ObjM h x dx C mA) : ∃ od, PySem.W.InstAt h x (PySem.W.instObj C dx) C (some od) ∧ ∀ name, PySem.W.lookIn name od = some (mA name) :=
 let ⟨od, ho, hl⟩ := lookIn_ns I.ns
 ⟨od, ⟨I.obj, rfl, rfl, ho⟩, hl⟩
section
variable {prog : Program} {w : World} {A : Around} {E : Value → Shared → Prop} {s : Shared} {K : PySem.W.Frag} {x dx C f : Addr} {mA : Str → Option Value} {name : Str} {v : Value}
end
theorem RelO.some_of {v : V} {o : Option Value} (r : RelO (some v) o) : ∃ u, o = some u ∧ RelV v u := by
 cases o with
 | none => exact (show False from r).elim
 | some u => exact ⟨u, rfl, r⟩
theorem RelO.none_of {o : Option Value} (r : RelO none o) : o = none := by
 cases o with
 | none => rfl
 | some u => exact (show False from r).elim
section
variable {P : Program} {w : World} {H H' : Hp} {h h' : Heap} {a C dx : Addr} {fs fs' : List (Str × V)}
theorem ins_get (hok : HOk P w H h) (e : H a = some (.ins C dx fs)) : ∃ mA, ObjM h a dx C mA ∧ (∀ f, RelO (fs.lookup f) (mA f)) ∧ PySem.Within mA (fs.map (·.1)) ∧ fs.length ≤ 1000 ∧ H dx = some (.own a) := by
 obtain ⟨d, z, ne, ob, mA, n, r, q⟩ := (show ObjOk P w H h a (.ins C dx fs) from hok a _ e)
 exact ⟨mA, ⟨ob, n, ne⟩, r, q, z, d⟩
end
structure Cls (K : PySem.W.Frag) (C : Addr) : Prop where
 pg : PySem.W.plainGet K C Str.empty = true
 hd : PySem.W.hasDictIn K C = true
 po : PySem.W.plainOver K C = true
 sa : PySem.W.findIn K (.ref C) "__setattr__" = some (some (.builtin "object.__setattr__"))
theorem Cls.get {K : PySem.W.Frag} {C : Addr} (c : Cls K C) (f : Str) : PySem.W.plainGet K C f = true := c.pg
structure Con (K : PySem.W.Frag) (C : Addr) (f : Str) (v : V) (u : Value) : Prop where
 at_ : PySem.W.findIn K (.ref C) f = some (some u)
 rel : RelV v u
 get : PySem.W.specialIn K u "__get__" = some none
 cp : PySem.W.copiedNames.contains f = false
structure Meth (K : PySem.W.Frag) (C : Addr) (m : Str) (f : Addr) : Prop where
 at_ : PySem.W.findIn K (.ref C) m = some (some (.ref f))
 fn : PySem.W.isFn K (.ref f) = true
 kp : PySem.W.keepIn K (.ref f) = true
section
variable {X : Cx} {pins : List (Addr × Obj)} {σ : St} {H : Hp} {s : Shared} {a C dx : Addr} {fs : List (Str × V)} {f : Str} {v : V} {A : Around} {E : Value → Shared → Prop}
end
section
variable {X : Cx} {o e value : Expr} {f : Str} {pos pos' tpos : Pos} {ta tv : TE}
end
section
variable {X : Cx} {pins : List (Addr × Obj)} {σ : St} {H : Hp} {s : Shared} {A : Around} {E : Value → Shared → Prop} {Q : Value → Shared → Prop} {c : Value} {b : Bool}
inductive TyOf (K : PySem.W.Frag) (H : Hp) : V → Value → Prop where
 | non : TyOf K H .non (.type "NoneType")
 | bl (x : Bool) : TyOf K H (.bl x) (.type "bool")
 | int (i : Int) : TyOf K H (.int i) (.type "int")
 | str (x : Str) : TyOf K H (.str x) (.type "str")
 | flt (x : UInt64) : TyOf K H (.flt x) (.type "float")
 | lst {a : Addr} {xs : List V} (e : H a = some (.lst xs)) : TyOf K H (.ref a) (.type "list")
 | frz {a : Addr} {o : Obj} {xs : List V} (e : H a = some (.frz o (.lst xs))) : TyOf K H (.ref a) (.type "list")
 | tup {a : Addr} {xs : List V} (e : H a = some (.tup xs)) : TyOf K H (.ref a) (.type "tuple")
 | dK {a : Addr} {kvs : List (Key × V)} (e : H a = some (.dK kvs)) : TyOf K H (.ref a) (.type "dict")
 | dT {a : Addr} {kvs : List (List Key × V)} (e : H a = some (.dT kvs)) : TyOf K H (.ref a) (.type "dict")
 | ins {a C dx : Addr} {fs : List (Str × V)} (e : H a = some (.ins C dx fs)) (cl : Cls K C) (ha : PySem.W.findIn K (.ref C) "__class__" = some (some (.builtin "object.__class__")))
   (hn : PySem.W.specialIn K (.builtin "object.__class__") "__get__" = some (some (.builtin "getset_descriptor.__get__"))) (htk : PySem.W.takesIn K (.builtin "object.__class__") = some true)
   (hm : PySem.W.mroIn K C (.type "object") = some true) : TyOf K H (.ref a) (.ref C)
theorem isinst_ok {x : V} {u t : Value} (I : Inv X pins σ H s) (rx : RelV x u) (ty : TyOf X.K H x t) (e : PySem.W.kitOne X.K t c = some b) (h : ∀ tk, Q (.bool b) { s with toks := tk }) :
  wpAny (model X.prog X.w) A (call (.builtin "isinstance") [u, c]) Q E s := by
 cases ty with
 | non => cases (show u = Value.none from rx); exact PySem.W.kia_one PySem.W.kitx_none I.kIn True.intro e (fun z => nomatch z) h
 | bl y => cases (show u = Value.bool y from rx); exact PySem.W.kia_one PySem.W.kitx_bool I.kIn True.intro e (fun z => nomatch z) h
 | int i => obtain ⟨t, q⟩ := (show ∃ t, u = Value.int i t from rx); cases q; exact PySem.W.kia_one PySem.W.kitx_int I.kIn True.intro e (fun z => nomatch z) h
 | str y => obtain ⟨t, q⟩ := (show ∃ t, u = Value.str y t from rx); cases q; exact PySem.W.kia_one PySem.W.kitx_str I.kIn True.intro e (fun z => nomatch z) h
 | flt y => obtain ⟨t, q⟩ := (show ∃ t, u = Value.float y t from rx); cases q; exact PySem.W.kia_one PySem.W.kitx_float I.kIn True.intro e (fun z => nomatch z) h
 | @lst a xs ea =>
  cases (show u = Value.ref a from rx)
  obtain ⟨_, _, n, _, h1⟩ := (show ObjOk X.prog X.w H s.heap a (.lst xs) from I.hok a _ ea)
  exact PySem.W.kia_one PySem.W.kitx_list I.kIn ⟨_, h1, rfl⟩ e (fun z => nomatch z) h
 | @frz a ob xs ea =>
  cases (show u = Value.ref a from rx)
  obtain ⟨_, _, _, n, _, h1⟩ := (show ObjOk X.prog X.w H s.heap a (.frz ob (.lst xs)) from I.hok a _ ea)
  exact PySem.W.kia_one PySem.W.kitx_list I.kIn ⟨_, h1, rfl⟩ e (fun z => nomatch z) h
 | @tup a xs ea =>
  cases (show u = Value.ref a from rx)
  obtain ⟨_, _, _, p⟩ := (show ObjOk X.prog X.w H s.heap a (.tup xs) from I.hok a _ ea)
  obtain ⟨o, h1, h2, _⟩ := p
  exact PySem.W.kia_one PySem.W.kitx_tuple I.kIn ⟨o, h1, h2⟩ e (fun z => nomatch z) h
 | @dK a kvs ea =>
  cases (show u = Value.ref a from rx)
  obtain ⟨_, _, vs, _, p⟩ := (show ObjOk X.prog X.w H s.heap a (.dK kvs) from I.hok a _ ea)
  obtain ⟨o, es, ep, h1, h2, _⟩ := p
  exact PySem.W.kia_one PySem.W.kitx_dict I.kIn ⟨o, h1, h2.1⟩ e (fun z => nomatch z) h
 | @dT a kvs ea =>
  cases (show u = Value.ref a from rx)
  obtain ⟨_, _, xs, _, o, es, ep, h1, h2, _⟩ := (show ObjOk X.prog X.w H s.heap a (.dT kvs) from I.hok a _ ea)
  exact PySem.W.kia_one PySem.W.kitx_dict I.kIn ⟨o, h1, h2.1⟩ e (fun z => nomatch z) h
 | @ins a C dx fs ea cl ha hn htk hm =>
  cases (show u = Value.ref a from rx)
  obtain ⟨mA, O, _⟩ := ins_get I.hok ea
  obtain ⟨od, J, _⟩ := O.look
  exact PySem.W.kia_one (PySem.W.kitx_own (cl.get _) cl.hd ha hn htk hm) I.kIn J e (fun z => nomatch z) h
end
structure Room (k : Nat) (A : Around) : Prop where
 hd : A.handled = none
 dp : A.depth + 3 * k + 5 < recursionLimit
 un : A.units + 16 * k + 200 < cLine
theorem Room.mono {j k : Nat} {A : Around} (r : Room k A) (h : j ≤ k) : Room j A := ⟨r.hd, by have := r.dp; omega, by have := r.un; omega⟩
theorem Room.deeper {k : Nat} {A : Around} (r : Room (k + 1) A) (env : Env) : Room k (A.deeper env) :=
 ⟨r.hd, by have := r.dp; show A.depth + 1 + 3 * k + 5 < _; omega, by have := r.un; show A.units + 3 + 16 * k + 200 < _; omega⟩
theorem Room.depth {k : Nat} {A : Around} (r : Room k A) : A.depth < recursionLimit := by have := r.dp; omega
theorem Room.units {k : Nat} {A : Around} (r : Room k A) : A.units + 64 < cLine := by have := r.un; omega
def tNil : TA := fun _ H Q => Q [] H
def tCons (ta : TE) (tr : TA) : TA := fun σ H Q => ta σ H fun x H1 => tr σ H1 fun xs H2 => Q (x :: xs) H2
section
variable {X : Cx} {e : Expr} {es : List Expr} {te : TE} {t : TA} {pos : Pos}
theorem pa_nil : PA X [] tNil := fun _ _ _ _ H Q I h => Calls.spliced_nil ⟨[], H, I, .nil, h⟩
theorem pa_cons (ha : PE X e te) (hr : PA X es t) (hs : starEach (e :: es) X.env = (false, eval e X.env) :: starEach es X.env := by rfl) : PA X (e :: es) (tCons te t) := by
 intro pos pins s σ H Q I h
 rw [hs]
 show wpAny _ _ (spliced ((false, eval e X.env) :: backTo pos (starEach es X.env))) _ _ s
 refine Calls.spliced_cons (thn (ha pins s σ H _ I h) fun u s1 ⟨x, H1, I1, r1, q1⟩ => ?_)
 exact thn (hr pos pins s1 σ H1 _ I1 q1) fun us s2 ⟨xs, H2, I2, r2, q2⟩ => ⟨x :: xs, H2, I2, .cons r1 r2, q2⟩
def tTup (t : TA) : TE := fun σ H Q => t σ H fun xs H1 => xs.length ≤ sizeLine ∧ ∀ p, H1 p = none → Q (.ref p) (upd H1 p (.tup xs))
def tLst (t : TA) : TE := fun σ H Q => t σ H fun xs H1 => xs.length ≤ sizeLine ∧ ∀ p, H1 p = none → Q (.ref p) (upd H1 p (.lst xs))
theorem pe_tup {x1} (h : PA X es t) : PE X (.Tuple es x1 pos) (tTup t) := by
 intro pins s σ H Q I hq
 refine wpAny_Tuple_spliced (thn (h pos pins s σ H _ I hq) fun us s1 ⟨xs, H1, I1, r, z, q⟩ => ⟨by rw [← r.length]; exact z, ?_⟩)
 have hf : H1 s1.heap.objs.size = none := I1.hok.fresh (Nat.le_refl _)
 refine ⟨.ref s1.heap.objs.size, upd H1 s1.heap.objs.size (.tup xs), I1.laid (t' := s1.toks) (fun b u e => Heap.get?_push_of_some _ e) (Nat.le_refl _) ?_, rfl, q _ hf⟩
 exact ⟨z, us, r, ⟨_, Heap.get?_push_size _ rfl, rfl, _, rfl⟩⟩
theorem pe_lst (h : PA X es t) : PE X (.List es pos) (tLst t) := by
 intro pins s σ H Q I hq
 refine wpAny_List_spliced (thn (h pos pins s σ H _ I hq) fun us s1 ⟨xs, H1, I1, r, z, q⟩ => ⟨by rw [← r.length]; exact z, ?_⟩)
 have hf : H1 s1.heap.objs.size = none := I1.hok.fresh (Nat.le_refl _)
 refine ⟨.ref s1.heap.objs.size, upd H1 s1.heap.objs.size (.lst xs), I1.laid (t' := s1.toks) (fun b u e => Heap.get?_push_of_some _ e) (Nat.le_refl _) ?_, rfl, q _ hf⟩
 exact ⟨z, us, 0, r, Heap.get?_push_size _ rfl⟩
end
abbrev Sp := List V → Hp → VK → XK → Prop
abbrev CXT := List Env → Hp → Shared → XK → Value → Shared → Prop
structure Env0 (P : Program) (w : World) (K : PySem.W.Frag) (mg : Str → Option Value) (base : Heap) (A : Around) (outer : List Env) (s : Shared) (H : Hp) : Prop where
 frames : A.frames = some outer
 mod : Mod K mg base
 bs : ∀ b o, base.get? b = some o → s.heap.get? b = some o ∧ H b = none
 bsz : base.objs.size ≤ s.heap.objs.size
 funs : s.heap.FunFrames base outer
 frf : ∀ b ∈ frs outer, H b = none
 hok : HOk P w H s.heap
 bare : AllBare s.gens
def CE (outer : List Env) (P : Program) (w : World) (H : Hp) (s : Shared) (Q : VK) (u : Value) (s' : Shared) : Prop :=
 ∃ v H', s'.os = s.os ∧ AllBare s'.gens ∧ Un (frs outer) [] H H' s.heap s'.heap ∧ HOk P w H' s'.heap ∧ RelV v u ∧ Q v H'
def CR (CX : CXT) (outer : List Env) (P : Program) (w : World) (H : Hp) (s : Shared) (Q : VK) (E : XK) (r : Result) (s' : Shared) : Prop :=
 match r with
 | .ok (.ret u) => CE outer P w H s Q u s'
 | .ok _ => False
 | .error e => CX outer H s E e s'
structure FnOk (P : Program) (w : World) (K : PySem.W.Frag) (mg : Str → Option Value) (base : Heap) (CX : CXT) (k : Nat) (f : Addr) (fd : FuncData) (ps : List Str) (sp : Sp) : Prop where
 len : ∀ vs H Q E, sp vs H Q E → vs.length = ps.length
 run : ∀ (A : Around) (outer : List Env) (s : Shared) (H : Hp) (args : Args) (us : List Value) (vs : List V) (Q : VK) (E : XK), Room k A → Env0 P w K mg base A outer s H → BindsTo s fd args (ps.zip us) → Vals vs us → sp vs H Q E →
  codeAny (model P w) A (.call (.ref f) args) (CR CX outer P w H s Q E) s
theorem FnOk.imp {P : Program} {w : World} {K : PySem.W.Frag} {mg : Str → Option Value} {base : Heap} {CX : CXT} {k : Nat} {f : Addr} {fd : FuncData} {ps : List Str} {sp sp' : Sp} (F : FnOk P w K mg base CX k f fd ps sp)
  (h : ∀ vs H Q E, sp' vs H Q E → sp vs H Q E) : FnOk P w K mg base CX k f fd ps sp' :=
 ⟨fun vs H Q E q => F.len vs H Q E (h _ _ _ _ q), fun A outer s H args us vs Q E hr he hb hv hs => F.run A outer s H args us vs Q E hr he hb hv (h _ _ _ _ hs)⟩
section
variable {X : Cx} {pins : List (Addr × Obj)} {σ : St} {H : Hp} {s s' : Shared}
theorem Inv.env0 (I : Inv X pins σ H s) : Env0 X.prog X.w X.K X.mg X.base X.A X.stack s H :=
 ⟨I.ok.frames, I.ok.mod, I.bs, Nat.le_trans I.ok.bsz I.sz, I.stack, I.stkFree, I.hok, I.bare⟩
theorem Inv.after {Q : VK} {u : Value} (I : Inv X pins σ H s) (h : CE X.stack X.prog X.w H s Q u s') : EP X pins σ Q u s' := by
 obtain ⟨v, H', os, bare, un, hok, r, q⟩ := h
 obtain ⟨hh, g, d, t, os'⟩ := s'
 obtain rfl : os' = s.os := os
 exact ⟨v, H', I.call (h' := hh) (g' := g) (d' := d) (t' := t) (ch := []) un hok bare (fun b z => absurd z (by simp)), r, q⟩
end
def tCall (sp : Sp) (dvs : List V) (E : XK) (t : TA) : TE := fun σ H Q => t σ H fun vs H1 => sp (vs ++ dvs) H1 Q E
def Binds (K : PySem.W.Frag) (fd : FuncData) (ps : List Str) (ds : List Value) : Prop :=
 ∀ (s : Shared) (us : List Value), K.In s.heap → (us ++ ds).length = ps.length → BindsTo s fd ⟨us, []⟩ (ps.zip (us ++ ds))
theorem Binds.all {K : PySem.W.Frag} {fd : FuncData} {ps : List Str} (h : ∀ us : List Value, us.length = ps.length → bindArgs fd ⟨us, []⟩ = pure (ps.zip us)) : Binds K fd ps [] := fun s us _ hl => by
 rw [List.append_nil] at hl ⊢
 exact .of_eq (h us hl)
def Passes (CX : CXT) (X : Cx) (E : XK) : Prop := ∀ (pins : List (Addr × Obj)) (σ : St) (H : Hp) (s : Shared) (e : Value) (s' : Shared), Inv X pins σ H s → CX X.stack H s E e s' → X.xe e s'
section
variable {X : Cx} {CX : CXT} {k : Nat} {f C : Addr} {fd : FuncData} {ps : List Str} {sp : Sp} {dvs : List V} {ds : List Value} {E : XK} {x m : Str} {p pos apos : Pos} {e o : Expr} {es : List Expr} {ta : TE} {t : TA}
theorem run_fn {pins : List (Addr × Obj)} {σ : St} {H : Hp} {s : Shared} {Q : VK} {us : List Value} {vs : List V} (F : FnOk X.prog X.w X.K X.mg X.base CX k f fd ps sp) (hr : Room k X.A) (hb : Binds X.K fd ps ds) (hd : Vals dvs ds) (hx : Passes CX X E)
  (I : Inv X pins σ H s) (r : Vals vs us) (h : sp (vs ++ dvs) H Q E) : wpAny (model X.prog X.w) X.A (call (.ref f) us) (EP X pins σ Q) X.xe s := by
 have r2 : Vals (vs ++ dvs) (us ++ ds) := r.append hd
 have hl : (us ++ ds).length = ps.length := by rw [← r2.length]; exact F.len _ _ _ _ h
 refine wpAny_call (codeAny_mono (F.run X.A X.stack s H ⟨us, []⟩ (us ++ ds) (vs ++ dvs) Q E hr I.env0 (hb s us I.kIn hl) r2 h) fun r s' hq => ?_)
 cases r with
 | error e => exact hx pins σ H s e s' I hq
 | ok fl =>
  cases fl with
  | ret u => exact I.after hq
  | next => exact False.elim hq
  | brk => exact False.elim hq
  | cont => exact False.elim hq
theorem pe_call (F : FnOk X.prog X.w X.K X.mg X.base CX k f fd ps sp) (hr : Room k X.A) (hg : Gl X x) (hm : X.mg x = some (.ref f)) (hk : PySem.W.keepIn X.K (.ref f) = true) (hb : Binds X.K fd ps ds) (hd : Vals dvs ds) (hx : Passes CX X E)
  (ha : PA X (e :: es) t) (hdb : (x == ("__debug__" : Str)) = false := by decide) (he : starEach (e :: es) X.env = (false, eval e X.env) :: starEach es X.env := by rfl) (hpl : (backTo pos (starEach es X.env)).any (·.1) = false := by rfl) :
  PE X (.Call (.Name x p) (e :: es) [] pos) (tCall sp dvs E t) := by
 intro pins s σ H Q I h
 refine wpAny_Call_Name_kw (ld_glob I hg hm ?_ hdb)
 refine PySem.W.callWith_K (h₀ := X.base) I.ok.mod.kin hk (thn (ha pos pins s σ H _ I h) fun us s1 ⟨vs, H1, I1, r, q⟩ => ⟨I1.kIn, ?_⟩) he hpl
 exact run_fn F hr hb hd hx I1 r q
theorem pe_call0 (F : FnOk X.prog X.w X.K X.mg X.base CX k f fd ps sp) (hr : Room k X.A) (hg : Gl X x) (hm : X.mg x = some (.ref f)) (hk : PySem.W.keepIn X.K (.ref f) = true) (hb : Binds X.K fd ps ds) (hd : Vals dvs ds) (hx : Passes CX X E)
  (hdb : (x == ("__debug__" : Str)) = false := by decide) : PE X (.Call (.Name x p) [] [] pos) (tCall sp dvs E tNil) := by
 intro pins s σ H Q I h
 refine wpAny_Call_Name_kw (ld_glob I hg hm ?_ hdb)
 exact PySem.W.callWith_K0 I.kIn hk (run_fn (us := []) F hr hb hd hx I .nil h)
structure Mk (K : PySem.W.Frag) (C f : Addr) : Prop where
 makes : PySem.W.makesIn K C = true
 init : PySem.W.findIn K (.ref C) "__init__" = some (some (.ref f))
 fn : PySem.W.isFn K (.ref f) = true
 kp : PySem.W.keepIn K (.ref C) = true
end
section
variable {X : Cx} {CX : CXT} {k : Nat} {f C : Addr} {fd : FuncData} {ps ks : List Str} {sp : Sp} {E : XK} {x m : Str} {p pos apos kpos : Pos} {e o : Expr} {es : List Expr} {kws : List Keyword} {te ta : TE} {t tk : TA} {nm : Option Str}
structure KBinds (K : PySem.W.Frag) (fd : FuncData) (ps ks : List Str) (g : List Value → List Value → List Value) (gV : List V → List V → List V) : Prop where
 to : ∀ (s : Shared) (us ws : List Value), K.In s.heap → (g us ws).length = ps.length → BindsTo s fd ⟨us, ks.zip ws⟩ (ps.zip (g us ws))
 rel : ∀ {vs : List V} {us : List Value} {zs : List V} {ws : List Value}, Vals vs us → Vals zs ws → Vals (gV vs zs) (g us ws)
variable {g : List Value → List Value → List Value} {gV : List V → List V → List V}
end
structure FnScope (N P : List Str) (sc : Scope) : Prop where
 kind : sc.kind = .function
 co : sc.isCoroutine = false
 gen : sc.isGenerator = false
 nd : N.Nodup
 pre : N.take P.length = P
 par : ∀ x ∈ P, sc.names.lookup x = some .local ∨ sc.names.lookup x = some .cell
 nofree : ∀ y ∈ sc.names, y.2 ≠ .free
theorem bindL_out {kindOf : Str → Option NameKind} {x : Str} : ∀ {binds : List (Str × Value)} {m : Str → Option Value}, (∀ v, (x, v) ∉ binds) → bindL kindOf binds m x = m x
 | [], _, _ => rfl
 |(n, v) :: r, m, h => by
  unfold bindL
  rw [bindL_out fun w hw => h w (List.mem_cons_of_mem _ hw)]
  split
  ·have : x ≠ n := by rintro rfl; exact h v List.mem_cons_self
   simp [this]
  ·rfl
theorem bindC_out {kindOf : Str → Option NameKind} {x : Str} : ∀ {binds : List (Str × Value)} {m : Str → Option Value}, (∀ v, (x, v) ∉ binds) → bindC kindOf binds m x = m x
 | [], _, _ => rfl
 |(n, v) :: r, m, h => by
  unfold bindC
  rw [bindC_out fun w hw => h w (List.mem_cons_of_mem _ hw)]
  split
  ·rfl
  ·have : x ≠ n := by rintro rfl; exact h v List.mem_cons_self
   simp [this]
theorem bindL_get {kindOf : Str → Option NameKind} {x : Str} {v : Value} : ∀ {P : List Str} {vs : List Value} {i : Nat} {m : Str → Option Value}, P.Nodup → P[i]? = some x → vs[i]? = some v → kindOf x = some .local →
  bindL kindOf (P.zip vs) m x = some v
 | [], _, _, _, _, h, _, _ => by simp at h
 | _ :: _, [], _, _, _, _, h, _ => by simp at h
 | p :: P, w :: vs, 0, m, nd, h1, h2, hk => by
  simp at h1 h2; subst h1; subst h2
  show bindL kindOf ((p, w) :: P.zip vs) m p = _
  unfold bindL
  rw [bindL_out fun v hv => (List.nodup_cons.mp nd).1 (List.of_mem_zip hv).1, if_pos hk]
  simp
 | p :: P, w :: vs, i + 1, m, nd, h1, h2, hk => by
  show bindL kindOf ((p, w) :: P.zip vs) m x = _
  unfold bindL
  exact bindL_get (i := i) (List.nodup_cons.mp nd).2 (by simpa using h1) (by simpa using h2) hk
theorem bindC_get {kindOf : Str → Option NameKind} {x : Str} {v : Value} : ∀ {P : List Str} {vs : List Value} {i : Nat} {m : Str → Option Value}, P.Nodup → P[i]? = some x → vs[i]? = some v → kindOf x ≠ some .local →
  bindC kindOf (P.zip vs) m x = some v
 | [], _, _, _, _, h, _, _ => by simp at h
 | _ :: _, [], _, _, _, _, h, _ => by simp at h
 | p :: P, w :: vs, 0, m, nd, h1, h2, hk => by
  simp at h1 h2; subst h1; subst h2
  show bindC kindOf ((p, w) :: P.zip vs) m p = _
  unfold bindC
  rw [bindC_out fun v hv => (List.nodup_cons.mp nd).1 (List.of_mem_zip hv).1, if_neg hk]
  simp
 | p :: P, w :: vs, i + 1, m, nd, h1, h2, hk => by
  show bindC kindOf ((p, w) :: P.zip vs) m x = _
  unfold bindC
  exact bindC_get (i := i) (List.nodup_cons.mp nd).2 (by simpa using h1) (by simpa using h2) hk
def start (N : List Str) (vs : List V) : St := vs.map some ++ List.replicate (N.length - vs.length) none
def cxOf (CX : CXT) (P : Program) (w : World) (K : PySem.W.Frag) (mg : Str → Option Value) (base : Heap) (N : List Str) (qual : Str) (scope : Scope) (f : Addr) (cd : Value) (A : Around) (outer : List Env) (s : Shared) (H : Hp) (E : XK) : Cx where
 prog := P
 w := w
 K := K
 mg := mg
 base := base
 A := A.deeper (envOfC qual scope s.heap.objs.size f cd)
 N := N
 s₀ := s
 H₀ := H
 env := envOfC qual scope s.heap.objs.size f cd
 outer := outer
 stack := envOfC qual scope s.heap.objs.size f cd :: outer
 ex := []
 calm := true
 fn := fun _ => true
 pn := []
 xe := fun e s' => wpAny (model P w) (A.deeper (envOfC qual scope s.heap.objs.size f cd)) (leaving (envOfC qual scope s.heap.objs.size f cd) e) (fun _ s'' => CX outer H s E e s'') (fun e' s'' => CX outer H s E e' s'') s'
theorem cell_has {sc : Scope} {n : Nat} {x : Str} (h : sc.names.lookup x = some .cell) : ∃ c, (cellsFrom n sc.names []).lookup x = some c := by
 have q := PySem.W.cellsFrom_some sc.names n [] (.inl h)
 exact Option.isSome_iff_exists.mp q
theorem inv_start {CX : CXT} {P : Program} {w : World} {K : PySem.W.Frag} {mg : Str → Option Value} {base : Heap} {N ps : List Str} {qual : Str} {scope : Scope} {f : Addr} {cd : Value} {A : Around} {outer : List Env} {s s1 : Shared} {H : Hp} {E : XK} {us : List Value} {vs : List V}
  (S : FnScope N ps scope) (hd : A.handled = none) (e0 : Env0 P w K mg base A outer s H) (hl : vs.length = ps.length) (r : Vals vs us)
  (x : InCallC s s.heap.objs.size (bindL (envOfC qual scope s.heap.objs.size f cd).kindOf (ps.zip us) fun _ => none) (cellsFrom (s.heap.objs.size + 1) scope.names []) (bindC (envOfC qual scope s.heap.objs.size f cd).kindOf (ps.zip us) fun _ => none) s1) :
  Inv (cxOf CX P w K mg base N qual scope f cd A outer s H E) [] (start N vs) H s1 := by
 have hpl : ps.length ≤ N.length := by have := congrArg List.length S.pre; rw [List.length_take] at this; omega
 obtain ⟨h1, tk, rfl, hk⟩ := x.done
 have noA : ∀ b : Addr, b ∉ (cxOf CX P w K mg base N qual scope f cd A outer s H E).ex := fun b z => absurd (show b ∈ ([] : List Addr) from z) (by simp)
 refine ⟨⟨e0.mod, S.kind, rfl, rfl, Nat.le_refl _, fun y z c h1 h2 => ?_, fun y hy => ?_, fun y c _ h => ?_, fun _ => hd, Around.frames_deeper e0.frames, .inr ⟨rfl, rfl⟩, fun b z => absurd z (noA b), e0.bs, e0.bsz, fun b _ _ => noA b, fun b z => absurd z (noA b), e0.funs, e0.frf⟩,
  rfl, e0.bare, Un.kept hk, ⟨_, x.toInCall.ns, fun i y v h1 h2 h3 => ?_⟩, fun y c h => ⟨_, x.cell y c h⟩, e0.hok.fresh (Nat.le_refl _), fun y c h => ?_, fun p hp => absurd (show p ∈ ([] : List (Addr × Obj)) from hp) (by simp), e0.hok.kept hk, ?_⟩
 ·exact name_of_addr x.apart (PySem.mem_of_lookup h1) (PySem.mem_of_lookup h2)
 ·have hy : scope.names.lookup y = some .cell ∨ scope.names.lookup y = some .free := hy
  rcases hy with hy | hy
  ·exact cell_has hy
  ·exact absurd rfl (S.nofree _ (PySem.mem_of_lookup hy))
 ·exact Nat.le_of_lt (x.above y c (PySem.mem_of_lookup h))
 ·have hi : i < vs.length := by
   unfold start at h2
   by_cases hi : i < vs.length
   ·exact hi
   ·rw [List.getElem?_append_right (by simpa using hi)] at h2
    rw [List.getElem?_replicate] at h2
    split at h2 <;> cases h2
  have ha : vs[i]? = some v := by
   unfold start at h2
   rw [List.getElem?_append_left (by simpa using hi), List.getElem?_map] at h2
   cases e : vs[i]? with
   | none => rw [e] at h2; cases h2
   | some a => rw [e] at h2; cases h2; rfl
  obtain ⟨u, hu, rv⟩ := r.get ha
  have hp : ps[i]? = some y := by
   rw [← S.pre, List.getElem?_take_of_lt (by omega)]; exact h1
  have ndP : ps.Nodup := by rw [← S.pre]; exact S.nd.sublist (List.take_sublist _ _)
  refine ⟨u, rv, ?_⟩
  rcases S.par y (List.mem_of_getElem? hp) with k | k
  ·exact .inl ⟨k, bindL_get ndP hp hu k⟩
  ·obtain ⟨c, e⟩ := cell_has (n := s.heap.objs.size + 1) k
   refine .inr ⟨.inl k, c, e, ?_⟩
   have q := x.cell y c e
   rw [bindC_get ndP hp hu (by show scope.names.lookup y ≠ _; rw [k]; decide)] at q
   exact q
 ·exact e0.hok.fresh (Nat.le_of_lt (x.above y c (PySem.mem_of_lookup h)))
 ·unfold start
  show _ = N.length
  rw [List.length_append, List.length_map, List.length_replicate]
  omega
theorem fn_of {CX : CXT} {P : Program} {w : World} {K : PySem.W.Frag} {mg : Str → Option Value} {base : Heap} {k : Nat} {f : Addr} {name qual : Str} {params : Arguments} {body : List Stmt} {scope : Scope} {dV kV doc pm cdv ct oc : Value} {an od : Option Addr}
  {osl : Array (Option Value)} {N ps : List Str} {sp : Sp} (lk : K.lookup f = some ⟨oc, od, .func (PySem.W.fnOf name qual params body scope dV kV doc pm an cdv ct), osl⟩) (hcd : PySem.W.codeIn K cdv qual = true) (S : FnScope N ps scope)
  (len : ∀ vs H Q E, sp vs H Q E → vs.length = ps.length)
  (hbody : ∀ (A : Around) (outer : List Env) (s : Shared) (H : Hp) (vs : List V) (Q : VK) (E : XK), Room k (A.deeper (envOfC qual scope s.heap.objs.size f cdv)) → sp vs H Q E →
   ∃ t, PSs (cxOf CX P w K mg base N qual scope f cdv A outer s H E) body t ∧ t { nx := fun _ H' => Q .non H', rt := Q } (start N vs) H) :
  FnOk P w K mg base CX (k + 1) f (PySem.W.fnOf name qual params body scope dV kV doc pm an cdv ct) ps sp := by
 refine ⟨len, fun A outer s H args us vs Q E hr e0 hb r hsp => ?_⟩
 have hl := len _ _ _ _ hsp
 have KX : K.In s.heap := e0.mod.kin.keeps fun b o e => (e0.bs b o e).1
 have lim : s.heap.NoLimit := e0.mod.nolimit.keeps fun b o e => (e0.bs b o e).1
 have hkind : ∀ y ∈ ps.zip us, scope.names.lookup y.1 = some .local ∨ (scope.names.lookup y.1 = some .cell ∧ ((cellsFrom (s.heap.objs.size + 1) scope.names []).lookup y.1).isSome = true) := fun ⟨n, v⟩ hy => by
  rcases S.par n (List.of_mem_zip hy).1 with q | q
  ·exact .inl q
  ·exact .inr ⟨q, PySem.W.cellsFrom_some _ _ _ (.inl q)⟩
 refine codeAny_call_function hr.depth (KX _ _ lk) rfl S.co S.gen rfl (PySem.W.codeRec_of KX hcd) (hb _ _ _ _ ?_)
 refine wpAny_newFunctionEnv_cells S.kind hkind fun env he s1 x => ?_
 subst he
 refine ⟨lim.keeps x.toInCall.keep, codeAny_func ?_⟩
 obtain ⟨t, ht, hq⟩ := hbody A outer s H vs Q E (hr.deeper _) hsp
 have I : Inv (cxOf CX P w K mg base N qual scope f cdv A outer s H E) [] (start N vs) H s1 := inv_start S hr.hd e0 hl r x
 refine wpAny_mono (ht [] s1 (start N vs) H _ I hq) (fun fl s' hs => ?_) fun e s' hs => hs
 have fin : ∀ {σ' : St} {H' : Hp} {v : V} {u : Value}, Inv (cxOf CX P w K mg base N qual scope f cdv A outer s H E) [] σ' H' s' → RelV v u → Q v H' → CE outer P w H s Q u s' :=
  fun {σ' H' v u} J rv q => ⟨v, H', J.os, J.bare, J.base, J.hok, rv, q⟩
 cases fl with
 | ret u =>
  obtain ⟨v, σ', H', J, rv, q⟩ := hs
  exact fin J rv q
 | next =>
  obtain ⟨σ', H', J, q⟩ := hs
  exact fin (v := V.non) (u := Value.none) J rfl q
 | brk =>
  obtain ⟨_, _, _, q⟩ := hs
  exact False.elim q
 | cont =>
  obtain ⟨_, _, _, q⟩ := hs
  exact False.elim q
section
variable {X : Cx} {x : Str} {p pos : Pos} {e : Expr} {es : List Expr} {t : TA} {id T : String} {r : List V → Hp → VK → Prop}
def tCB (r : List V → Hp → VK → Prop) (t : TA) : TE := fun σ H Q => t σ H fun vs H1 => r vs H1 Q
theorem pe_callB (hc : CallR X (.builtin id) r) (hg : Gl X x) (hm : X.mg x = none) (hv : bootBuiltins x = some (.builtin id)) (ha : PA X (e :: es) t) (hn : x ≠ "__name__" := by decide) (hdb : (x == ("__debug__" : Str)) = false := by decide)
  (he : starEach (e :: es) X.env = (false, eval e X.env) :: starEach es X.env := by rfl) (hpl : (backTo pos (starEach es X.env)).any (·.1) = false := by rfl) : PE X (.Call (.Name x p) (e :: es) [] pos) (tCB r t) := by
 intro pins s σ H Q I h
 refine wpAny_Call_Name_kw (ld_blt I hg hm hv ?_ hn hdb)
 exact PyProof.Rows.callWith_builtin1 (thn (ha pos pins s σ H _ I h) fun us s1 ⟨vs, H1, I1, r1, q1⟩ => hc pins s1 σ H1 vs us Q I1 r1 q1) he hpl
theorem pe_callTy (hc : CallR X (.type T) r) (hg : Gl X x) (hm : X.mg x = none) (hv : bootBuiltins x = some (.type T)) (ha : PA X (e :: es) t) (hn : x ≠ "__name__" := by decide) (hdb : (x == ("__debug__" : Str)) = false := by decide)
  (he : starEach (e :: es) X.env = (false, eval e X.env) :: starEach es X.env := by rfl) (hpl : (backTo pos (starEach es X.env)).any (·.1) = false := by rfl) : PE X (.Call (.Name x p) (e :: es) [] pos) (tCB r t) := by
 intro pins s σ H Q I h
 refine wpAny_Call_Name_kw (ld_blt I hg hm hv ?_ hn hdb)
 exact PyProof.Rows.callWith_type1 (thn (ha pos pins s σ H _ I h) fun us s1 ⟨vs, H1, I1, r1, q1⟩ => hc pins s1 σ H1 vs us Q I1 r1 q1) he hpl
end
end L2
namespace HT
open PySem PyProof.Rows
section
open PySem.SeqAt
open PySem.AutoSeq1 (wpAny_loadPart')
open PySem.MeetsSeq PySem.MeetsSeq2 PySem.MeetsSeq3
end
section
variable {prog : Program} {w : World} {A : Around} {E : Value → Shared → Prop} {s : Shared}
theorem cat_tup {t b : Addr} {vs ws : List Value} {Q : Value → Shared → Prop} (ht : IsTup s.heap t vs.toArray) (hb : IsTup s.heap b ws.toArray) (hv : vs ≠ [])
  (h1 : ws = [] → Q (.ref t) s) (h2 : ws ≠ [] → Q (.ref s.heap.objs.size) { s with heap := s.heap.push { cls := .type "tuple", data := .seq (vs ++ ws).toArray } })
  (hsz : vs.length + ws.length ≤ sizeLine) : wpAny (model prog w) A (binaryOp .Add (.ref t) (.ref b)) Q E s := by
 obtain ⟨⟨cls, dd, data, sl⟩, ho, hc, n, hd⟩ := id ht
 obtain ⟨⟨cls2, dd2, data2, sl2⟩, ho2, hc2, n2, hd2⟩ := id hb
 simp only at hc hd hc2 hd2
 subst hc hd hc2 hd2
 have e : vs.toArray ++ ws.toArray = (vs ++ ws).toArray := by simp
 by_cases hw : ws = []
 ·exact concat_meets ⟨_, ho, rfl⟩ ⟨_, ho2, rfl⟩ noFill_tuple_add seq_tuple_add PySem.F.slot_tuple_add PySem.F.entry_tuple_add (PySem.F.args_tuple_add_2 _ _)
   (tuple_addW1 t b vs.toArray ws.toArray n n2 dd dd2 sl sl2 (by simpa using hv) (by simp [hw])) ⟨ho, ho2, h1 hw⟩
 ·refine concat_meets ⟨_, ho, rfl⟩ ⟨_, ho2, rfl⟩ noFill_tuple_add seq_tuple_add PySem.F.slot_tuple_add PySem.F.entry_tuple_add (PySem.F.args_tuple_add_2 _ _)
   (tuple_addW2 t b vs.toArray ws.toArray n n2 dd dd2 sl sl2 (by simpa using hv) (by simpa using hw) (by rw [List.size_toArray, List.size_toArray]; exact hsz)) ⟨ho, ho2, ?_⟩
  rw [e]
  exact h2 hw
def sIx (n d : Nat) : Option Int → Nat
 | none => d
 | some v => if v < 0 then (v + (n : Int)).toNat else min v.toNat n
theorem sIx_none (n d : Nat) : sIx n d none = d := rfl
theorem sIx_nat (n d k : Nat) : sIx n d (some (k : Int)) = min k n := by
 show (if (k : Int) < 0 then ((k : Int) + (n : Int)).toNat else min (k : Int).toNat n) = min k n
 rw [if_neg (by omega), Int.toNat_natCast]
theorem sIx_le (n d : Nat) (hd : d ≤ n) (o : Option Int) : sIx n d o ≤ n := by
 cases o with
 | none => exact hd
 | some v =>
  show (if v < 0 then (v + (n : Int)).toNat else min v.toNat n) ≤ n
  by_cases hv : v < 0
  ·rw [if_pos hv]; omega
  ·rw [if_neg hv]; exact Nat.min_le_right _ _
theorem clip_eq (v : Int) (n d : Nat) : (if v < 0 then max (v + (n : Int)) 0 else min v (n : Int)) = ((sIx n d (some v) : Nat) : Int) := by
 show (if v < 0 then max (v + (n : Int)) 0 else min v (n : Int)) = (((if v < 0 then (v + (n : Int)).toNat else min v.toNat n) : Nat) : Int)
 by_cases hv : v < 0
 ·simp only [if_pos hv]; omega
 ·simp only [if_neg hv]; omega
theorem adjust_gen (lo hi : Option Int) (n : Nat) : Builtin.Slice.sliceAdjust lo hi 1 (n : Int) = (((sIx n 0 lo : Nat) : Int), ((sIx n n hi : Nat) : Int)) := by
 have h1 : ¬ ((1 : Int) < 0) := by omega
 unfold Builtin.Slice.sliceAdjust
 simp only [h1, if_false]
 refine Prod.ext ?_ ?_
 ·cases lo with
  | none => rfl
  | some v => exact clip_eq v n 0
 ·cases hi with
  | none => rfl
  | some v => exact clip_eq v n n
theorem places_gen (i j : Nat) : Builtin.Slice.slicePlaces (i : Int) (j : Int) 1 = j - i := by
 unfold Builtin.Slice.slicePlaces
 have h1 : (1 : Int) > 0 := by omega
 simp only [h1, if_true, Int.ediv_one]
 split <;> omega
theorem slicePart_ {v : Value} {o : Option Int} {Q : Option Int → Shared → Prop} (p : IsPart v o) (h : Q o s) : wpAny (model prog w) A (Builtin.Slice.slicePartIndex v) Q E s := by
 cases p with
 | none => exact slicePart_none h
 | int i t => exact slicePart_int h
theorem sliceApplied_gen {sl : Addr} {vl vu : Value} {lo hi : Option Int} {n : Nat} {Q : Int × Int × Nat → Shared → Prop} (hs : s.heap.IsSliceOf sl vl vu .none) (pl : IsPart vl lo) (pu : IsPart vu hi)
  (h : Q (((sIx n 0 lo : Nat) : Int), 1, sIx n n hi - sIx n 0 lo) s) : wpAny (model prog w) A (Builtin.Slice.sliceApplied (.ref sl) (pure (n : Int))) Q E s := by
 obtain ⟨os, hos, hcs, hds⟩ := id hs
 unfold Builtin.Slice.sliceApplied Builtin.Slice.sliceFields
 refine wpAny_bind (wpAny_bind (wpAny_field hos hds (x := vl) rfl (wpAny_bind (wpAny_field hos hds (x := vu) rfl (wpAny_bind (wpAny_field hos hds (x := .none) rfl (wpAny_pure ?_)))))))
 refine wpAny_bind (slicePart_none ?_)
 show wpAny _ _ (if ((1 : Int) == 0) = true then _ else _) _ _ s
 rw [if_neg (by decide)]
 refine wpAny_bind (slicePart_ pl (wpAny_bind (slicePart_ pu (wpAny_bind (wpAny_pure ?_)))))
 show wpAny _ _ (match Builtin.Slice.sliceAdjust lo hi 1 (n : Int) with | (lo, hi) => pure (lo, (1 : Int), Builtin.Slice.slicePlaces lo hi 1)) _ _ s
 rw [adjust_gen lo hi n]
 show wpAny _ _ (pure (((sIx n 0 lo : Nat) : Int), (1 : Int), Builtin.Slice.slicePlaces ((sIx n 0 lo : Nat) : Int) ((sIx n n hi : Nat) : Int) 1)) _ _ s
 rw [places_gen]
 exact wpAny_pure h
theorem pick_gen (xs : Array Value) (i k : Nat) : ((List.range k).filterMap fun (m : Nat) => xs[((i : Int) + (m : Int) * 1).toNat]?).toArray = ((xs.toList.drop i).take k).toArray := by
 have e : (fun (m : Nat) => xs[((i : Int) + (m : Int) * 1).toNat]?) = fun m => xs[i + m]? := by
  funext m
  have : ((i : Int) + (m : Int) * 1).toNat = i + m := by omega
  rw [this]
 rw [e]
 have := pick_run xs i k
 rw [List.filterMap_map] at this
 have e2 : ((fun x => xs[x]?) ∘ fun x => i + x) = fun m => xs[i + m]? := rfl
 rw [e2] at this
 rw [this]
theorem getItem_tuple_cut {t sl : Addr} {items : Array Value} {vl vu : Value} {lo hi : Option Int} {Q : Value → Shared → Prop} (ht : IsTup s.heap t items) (hs : s.heap.IsSliceOf sl vl vu .none) (pl : IsPart vl lo) (pu : IsPart vu hi)
  (hw : ¬ (sIx items.size 0 lo = 0 ∧ sIx items.size items.size hi = items.size))
  (h : Q (.ref s.heap.objs.size) { s with heap := s.heap.push { cls := .type "tuple", data := .seq ((items.toList.drop (sIx items.size 0 lo)).take (sIx items.size items.size hi - sIx items.size 0 lo)).toArray } })
  (hsz : items.size ≤ sizeLine) : wpAny (model prog w) A (getItem (.ref t) (.ref sl)) Q E s := by
 have htake : sizeOk (.seq ((items.toList.drop (sIx items.size 0 lo)).take (sIx items.size items.size hi - sIx items.size 0 lo)).toArray) := by
  show ((items.toList.drop (sIx items.size 0 lo)).take (sIx items.size items.size hi - sIx items.size 0 lo)).toArray.size ≤ sizeLine
  rw [List.size_toArray, List.length_take, List.length_drop, Array.length_toList]
  omega
 have hj : sIx items.size items.size hi ≤ items.size := sIx_le _ _ (Nat.le_refl _) hi
 obtain ⟨os, hos, hcs, hds⟩ := id hs
 have hTs : s.TypeIs (.ref sl) "slice" := ⟨os, hos, hcs⟩
 unfold getItem
 try with_reducible refine wpAny_holding ?_
 first | refine wpAny_bind (wpAny_pure ?_) | skip
 refine wpAny_bind (wpAny_sequenceKey ht.typeIs (by decide) ?_)
 refine wpAny_bind (wpAny_callSpecial?_slot (name := Str.ofString "__getitem__") ht.typeIs PyProof.Rows.slot_tuple_getitem
  (wpAny_call_entry PyProof.Rows.slot_tuple_getitem ht.typeIs entry_tuple_getitem ?_ (args_tuple_getitem _ _)))
 show wpAny _ _ (Builtin.Tuple.tupleItemsOf (.ref t) >>= _) _ _ s
 refine wpAny_bind (tupleItemsOf_ ht ?_)
 refine wpAny_bind (wpAny_typeOf hTs ?_)
 rw [if_pos (by decide)]
 refine wpAny_bind (sliceApplied_gen hs pl pu ?_)
 have hno : ¬ ((((sIx items.size 0 lo : Nat) : Int) == 0 && (1 : Int) == 1 && (sIx items.size items.size hi - sIx items.size 0 lo) == items.size) = true) := by
  intro q
  rw [Bool.and_eq_true, Bool.and_eq_true] at q
  have q1 : ((sIx items.size 0 lo : Nat) : Int) = 0 := eq_of_beq q.1.1
  have q2 : sIx items.size items.size hi - sIx items.size 0 lo = items.size := eq_of_beq q.2
  exact hw ⟨by omega, by omega⟩
 show wpAny _ _ (if (((sIx items.size 0 lo : Nat) : Int) == 0 && (1 : Int) == 1 && (sIx items.size items.size hi - sIx items.size 0 lo) == items.size) = true then _ else _) _ _ s
 rw [if_neg hno, pick_gen]
 first
  | exact wpAny_bind (m := Builtin.Tuple.tupleExact _) (wpAny_newObj_type (wpAny_pure ⟨_, rfl, wpAny_pure h⟩) htake)
  | exact wpAny_bind (m := Builtin.Tuple.tupleExact _) (wpAny_newObj_type (wpAny_bind (wpAny_pure (wpAny_pure ⟨_, rfl, wpAny_pure h⟩))) htake)
  | exact wpAny_bind (wpAny_bind (m := Builtin.Tuple.tupleExact _) (wpAny_newObj_type (wpAny_pure (wpAny_pure ⟨_, rfl, wpAny_pure h⟩)) htake))
  | exact wpAny_bind (wpAny_bind (m := Builtin.Tuple.tupleExact _) (wpAny_newObj_type (wpAny_pure ⟨_, rfl, wpAny_pure h⟩) htake))
end
end HT
namespace L2
open PySem PySem.Spec PyProof.Rows
abbrev TO := St → Hp → (Option Int → Hp → Prop) → Prop
def PO (X : Cx) (e : Option Expr) (t : TO) : Prop :=
 ∀ (pins : List (Addr × Obj)) (s : Shared) (σ : St) (H : Hp) (Q : Option Int → Hp → Prop), Inv X pins σ H s → t σ H Q →
  wpAny (model X.prog X.w) X.A (evalPart e X.env) (fun u s' => ∃ o H', Inv X pins σ H' s' ∧ IsPart u o ∧ Q o H') X.xe s
def tNoPart : TO := fun _ H Q => Q none H
def tPart (t : TE) : TO := fun σ H Q => t σ H fun x H1 => ∃ i, x = .int i ∧ Q (some i) H1
theorem intsAre_of {ns : List Int} : ∀ {us : List Value}, Vals (ns.map V.int) us → IntsAre us ns := by
 induction ns with
 | nil => intro us r; rw [List.map_nil] at r; cases r; exact .nil
 | cons n ns ih =>
  intro us r
  rw [List.map_cons] at r
  cases r with
  | cons r1 r2 =>
   obtain ⟨t, e⟩ := r1
   subst e
   exact .cons n t (ih r2)
section
variable {X : Cx} {e : Expr} {te : TE} {lo hi : Option Expr} {tl th : TO} {pos p2 : Pos}
theorem po_none : PO X none tNoPart := by
 intro pins s σ H Q I h
 rw [evalPart_none]
 exact wpAny_pure ⟨none, H, I, .none, h⟩
theorem po_some (h : PE X e te) : PO X (some e) (tPart te) := by
 intro pins s σ H Q I hw
 rw [evalPart_some]
 refine thn (h pins s σ H _ I hw) fun u s1 ⟨x, H1, I1, r1, q1⟩ => ?_
 obtain ⟨i, rfl, q⟩ := q1
 obtain ⟨t, rfl⟩ := r1
 exact ⟨some i, H1, I1, .int i t, q⟩
def SlR (X : Cx) (r : V → Option Int → Option Int → Hp → VK → Prop) : Prop :=
 ∀ (pins : List (Addr × Obj)) (s : Shared) (σ : St) (H : Hp) (x : V) (v vl vu : Value) (lo hi : Option Int) (sl : Addr) (Q : VK), Inv X pins σ H s → RelV x v → s.heap.IsSliceOf sl vl vu .none → IsPart vl lo → IsPart vu hi → r x lo hi H Q →
  ∃ T id, typeLookup (.type T) "__getitem__" = pure (some (.builtin id)) ∧ s.TypeIs v T ∧ wpAny (model X.prog X.w) X.A (getItem v (.ref sl)) (EP X pins σ Q) X.xe s
def tSl (r : V → Option Int → Option Int → Hp → VK → Prop) (te : TE) (tl th : TO) : TE := fun σ H Q => te σ H fun x H1 => tl σ H1 fun l H2 => th σ H2 fun u H3 => r x l u H3 Q
theorem pe_slice {r : V → Option Int → Option Int → Hp → VK → Prop} (hr : SlR X r) (he : PE X e te) (hl : PO X lo tl) (hu : PO X hi th) : PE X (.Subscript e (.Slice lo hi none p2) pos) (tSl r te tl th) := by
 intro pins s σ H Q I h
 refine Subscript_ (thn (he pins s σ H _ I h) fun v s1 ⟨x, H1, I1, r1, q1⟩ => ?_)
 refine wpAny_Slice (thn (hl pins s1 σ H1 _ I1 q1) fun vl s2 ⟨l, H2, I2, pl, q2⟩ => thn (hu pins s2 σ H2 _ I2 q2) fun vu s3 ⟨u, H3, I3, pu, q3⟩ => ?_)
 rw [evalPart_none]
 refine wpAny_pure ?_
 have I4 : Inv X pins σ H3 { s3 with heap := s3.heap.push { cls := .type "slice", data := .fields #[vl, vu, .none] } } := I3.kept (t' := s3.toks) fun b ob q => Heap.get?_push_of_some _ q
 obtain ⟨T, id, hT, ht, hg⟩ := hr pins { s3 with heap := s3.heap.push { cls := .type "slice", data := .fields #[vl, vu, .none] } } σ H3 x v vl vu l u s3.heap.objs.size Q I4 r1 (Heap.IsSliceOf.new ..) pl pu q3
 show wpAny (model X.prog X.w) X.A (subscriptTail e (.Slice lo hi none p2) v (.ref s3.heap.objs.size)) (EP X pins σ Q) X.xe { s3 with heap := s3.heap.push { cls := .type "slice", data := .fields #[vl, vu, .none] } }
 exact tail_any (ops := [.ref s3.heap.objs.size, v]) ht hT hg (by with_unfolding_all rfl)
def cutV (xs : List V) (lo hi : Option Int) : List V := (xs.drop (HT.sIx xs.length 0 lo)).take (HT.sIx xs.length xs.length hi - HT.sIx xs.length 0 lo)
theorem cutV_length (xs : List V) (lo hi : Option Int) : (cutV xs lo hi).length ≤ xs.length := by
 unfold cutV
 rw [List.length_take, List.length_drop]
 omega
def rSlT (K : PySem.W.Frag) : V → Option Int → Option Int → Hp → VK → Prop := fun x lo hi H Q => ∃ a xs, x = .ref a ∧ SqT K H a xs ∧
 ¬ (HT.sIx xs.length 0 lo = 0 ∧ HT.sIx xs.length xs.length hi = xs.length) ∧ ∀ p, H p = none → Q (.ref p) (upd H p (.tup (cutV xs lo hi)))
theorem sl_tup : SlR X (rSlT X.K) := by
 intro pins s σ H x v vl vu lo hi sl Q I rx hs pl pu h
 obtain ⟨a, xs, rfl, hx, hw, q⟩ := h
 cases rx
 obtain ⟨its, r, ht, hz⟩ := I.tuple hx
 have hlen : its.toArray.size = xs.length := by rw [List.size_toArray]; exact r.length.symm
 refine ⟨"tuple", _, PyProof.Rows.slot_tuple_getitem.lookup, ht.typeIs, ?_⟩
 refine HT.getItem_tuple_cut ht hs pl pu (by rw [hlen]; exact hw) ?_ (by rw [hlen]; exact hz)
 rw [hlen]
 refine ⟨.ref s.heap.objs.size, _, I.laid (t' := s.toks) (o := .tup (cutV xs lo hi)) (fun b ob q => Heap.get?_push_of_some _ q) (Nat.le_refl _) ?_, rfl, q _ (I.hok.fresh (Nat.le_refl _))⟩
 exact ⟨Nat.le_trans (cutV_length xs lo hi) hz, _, (r.drop (HT.sIx xs.length 0 lo)).take (HT.sIx xs.length xs.length hi - HT.sIx xs.length 0 lo), IsTup.new _ _⟩
def rCatT (K : PySem.W.Frag) : R2 := fun x y H Q => ∃ a b xs ys, x = .ref a ∧ y = .ref b ∧ SqT K H a xs ∧ SqT K H b ys ∧ xs ≠ [] ∧ xs.length + ys.length ≤ sizeLine ∧
 (ys = [] → Q (.ref a) H) ∧ (ys ≠ [] → ∀ p, H p = none → Q (.ref p) (upd H p (.tup (xs ++ ys))))
theorem Vals.nil_iff {xs : List V} {us : List Value} (r : Vals xs us) : us = [] ↔ xs = [] := by
 cases r with
 | nil => simp
 | cons _ _ => simp
theorem op_catT : OpR X (binaryOp .Add) (rCatT X.K) := by
 intro pins s σ H x y v u Q I rx ry h
 obtain ⟨a, b, xs, ys, rfl, rfl, ha, hb, hx, hz, q1, q2⟩ := h
 cases rx
 cases ry
 obtain ⟨its, r1, p1, _⟩ := I.tuple ha
 obtain ⟨its2, r2, p2, _⟩ := I.tuple hb
 refine HT.cat_tup p1 p2 (fun z => hx (r1.nil_iff.mp z)) (fun z => ⟨.ref a, H, I, rfl, q1 (r2.nil_iff.mp z)⟩) (fun z => ?_) (by rw [← r1.length, ← r2.length]; exact hz)
 refine ⟨.ref s.heap.objs.size, _, I.laid (t' := s.toks) (o := .tup (xs ++ ys)) (fun b ob q => Heap.get?_push_of_some _ q) (Nat.le_refl _) ?_, rfl, q2 (fun w => z (r2.nil_iff.mpr w)) _ (I.hok.fresh (Nat.le_refl _))⟩
 exact ⟨by rw [List.length_append]; exact hz, _, r1.append r2, IsTup.new _ _⟩
end
def ixN (n : Nat) (i : Int) : Option Nat := if 0 ≤ i then (if i < n then some i.toNat else none) else if -(n : Int) ≤ i then some (i + n).toNat else none
def atI {α : Type} (xs : List α) (i : Int) : Option α := (ixN xs.length i).bind fun j => xs[j]?
theorem ixN_seq {n : Nat} {i : Int} {j : Nat} (h : ixN n i = some j) : seqIndex? i n = some j ∧ j < n ∧ -(n : Int) ≤ i ∧ i < n := by
 unfold ixN at h
 by_cases h0 : 0 ≤ i
 ·rw [if_pos h0] at h
  by_cases h1 : i < n
  ·rw [if_pos h1] at h
   have e : i.toNat = j := Option.some.inj h
   exact ⟨by rw [seqIndex_of h0 h1, e], by omega, by omega, h1⟩
  ·rw [if_neg h1] at h; cases h
 ·rw [if_neg h0] at h
  by_cases h1 : -(n : Int) ≤ i
  ·rw [if_pos h1] at h
   have e : (i + n).toNat = j := Option.some.inj h
   exact ⟨by rw [seqIndex_neg (by omega) h1, e], by omega, h1, by omega⟩
  ·rw [if_neg h1] at h; cases h
theorem atI_get {α : Type} {xs : List α} {i : Int} {v : α} (h : atI xs i = some v) : ∃ j, seqIndex? i xs.length = some j ∧ xs[j]? = some v ∧ j < xs.length ∧ -(xs.length : Int) ≤ i ∧ i < xs.length := by
 unfold atI at h
 cases e : ixN xs.length i with
 | none => rw [e] at h; cases h
 | some j =>
  rw [e] at h
  obtain ⟨h1, h2, h3, h4⟩ := ixN_seq e
  exact ⟨j, h1, h, h2, h3, h4⟩
theorem atI_nat {α : Type} {xs : List α} {j : Nat} {v : α} (h : xs[j]? = some v) : atI xs (j : Int) = some v := by
 have hj : j < xs.length := (List.getElem?_eq_some_iff.mp h).1
 have e : ixN xs.length (j : Int) = some j := by
  unfold ixN
  rw [if_pos (by omega), if_pos (by omega)]; simp
 unfold atI; rw [e]; exact h
theorem atI_last {α : Type} (xs : List α) (v : α) : atI (xs ++ [v]) (-1) = some v := by
 have hl : (xs ++ [v]).length = xs.length + 1 := by simp
 have e : ixN (xs ++ [v]).length (-1) = some xs.length := by
  unfold ixN
  rw [hl, if_neg (by decide), if_pos (by omega)]
  congr 1
  omega
 unfold atI
 rw [e]
 show (xs ++ [v])[xs.length]? = some v
 simp
def PlainIx (b : Expr) : Prop := ∀ o i, subscripted b false o i = operate [o, i] (getItem o i)
def IxR (X : Cx) (r : R2) : Prop :=
 ∀ (value slice : Expr) (pins : List (Addr × Obj)) (s : Shared) (σ : St) (H : Hp) (x y : V) (v u : Value) (Q : VK), Inv X pins σ H s → RelV x v → RelV y u → r x y H Q →
  subscripted slice false v u = operate [v, u] (getItem v u) → wpAny (model X.prog X.w) X.A (subscriptTail value slice v u) (EP X pins σ Q) X.xe s
def MtR (X : Cx) (id : String) (r : V → List V → Hp → VK → Prop) : Prop :=
 ∀ (pins : List (Addr × Obj)) (s : Shared) (σ : St) (H : Hp) (x : V) (xs : List V) (v : Value) (us : List Value) (Q : VK), Inv X pins σ H s → RelV x v → Vals xs us → r x xs H Q →
  wpAny (model X.prog X.w) X.A (call (.builtin id) (v :: us)) (EP X pins σ Q) X.xe s
section
variable {X : Cx} {a b : Expr} {ta tb : TE} {pos : Pos}
theorem pe_ix {r : R2} (hr : IxR X r) (ha : PE X a ta) (hb : PE X b tb) (hs : PlainIx b) : PE X (.Subscript a b pos) (tOp r ta tb) := by
 intro pins s σ H Q I h
 exact Subscript_ (binT ha hb I h fun v u s2 x y H2 I2 rx ry q => hr a b pins s2 σ H2 x y v u Q I2 rx ry q (hs _ _))
def rIxL (K : PySem.W.Frag) : R2 := fun x y H Q => ∃ p xs i v, x = .ref p ∧ y = .int i ∧ SqL K H p xs ∧ atI xs i = some v ∧ Q v H
def rIxT (K : PySem.W.Frag) : R2 := fun x y H Q => ∃ p xs i v, x = .ref p ∧ y = .int i ∧ SqT K H p xs ∧ atI xs i = some v ∧ Q v H
def rIxS : R2 := fun x y H Q => ∃ z i c, x = .str z ∧ y = .int i ∧ z.length ≤ sizeLine ∧ atI z.cps.toList i = some c ∧ Q (.str ⟨#[c]⟩) H
theorem ix_list : IxR X (rIxL X.K) := by
 intro value slice pins s σ H x y v u Q I rx ry h hs
 obtain ⟨p, xs, i, z, rfl, rfl, hq, he, q⟩ := h
 cases rx
 obtain ⟨t, rfl⟩ := ry
 obtain ⟨its, r, pl, hz⟩ := I.list hq
 obtain ⟨j, h1, h2, h3, h4, h5⟩ := atI_get he
 obtain ⟨w, ew, rw'⟩ := r.get h2
 have hl := r.length
 have hn := line63
 have fin : EP X pins σ Q w s := ⟨z, H, I, rw', q⟩
 by_cases h0 : 0 ≤ i
 ·have hj : i.toNat = j := by
   rw [seqIndex_of h0 h5] at h1
   exact Option.some.inj h1
  exact item_listR pl.isList h0 (by omega) (by rw [hj]; simpa using ew) fin hs
 ·have hj : (i + (its.toArray.size : Int)).toNat = j := by
   rw [seqIndex_neg (by omega) h4] at h1
   rw [List.size_toArray, ← hl]
   exact Option.some.inj h1
  exact subscriptTail_builtinR (x := w) pl.isList.typeIs slot_list_getitem.lookup
   (wpAny_getItem_list_neg (Q := fun r s' => r = w ∧ EP X pins σ Q r s') pl.isList (by omega) (by rw [List.size_toArray] <;> omega) (by omega) (by rw [hj]; simpa using ew) ⟨rfl, fin⟩) hs
theorem ix_tup : IxR X (rIxT X.K) := by
 intro value slice pins s σ H x y v u Q I rx ry h hs
 obtain ⟨p, xs, i, z, rfl, rfl, hq, he, q⟩ := h
 cases rx
 obtain ⟨t, rfl⟩ := ry
 obtain ⟨its, r, pl, hz⟩ := I.tuple hq
 obtain ⟨j, h1, h2, h3, h4, h5⟩ := atI_get he
 obtain ⟨w, ew, rw'⟩ := r.get h2
 have hl := r.length
 have hn := line63
 have fin : EP X pins σ Q w s := ⟨z, H, I, rw', q⟩
 exact subscriptTail_builtinR (x := w) pl.typeIs slot_tuple_getitem.lookup
  (getItem_tuple (j := j) (Q := fun r s' => r = w ∧ EP X pins σ Q r s') pl (by omega) (by omega) (by rw [List.size_toArray, ← hl]; exact h1) (by simpa using ew) ⟨rfl, fin⟩) hs
theorem ix_str : IxR X rIxS := by
 intro value slice pins s σ H x y v u Q I rx ry h hs
 obtain ⟨z, i, c, rfl, rfl, hz, he, q⟩ := h
 obtain ⟨t, rfl⟩ := rx
 obtain ⟨t', rfl⟩ := ry
 obtain ⟨j, h1, h2, h3, h4, h5⟩ := atI_get he
 have hl : z.cps.toList.length = z.length := by simp [Str.length]
 rw [hl] at h1 h4 h5
 have hn := line63
 exact tail_any (typeIs_str s z t) slot_str_getitem.lookup (getItem_str (c := c) (by
  have e1 : decide (i < -(2 ^ 63 : Int)) = false := decide_eq_false (by omega)
  have e2 : decide (i ≥ 2 ^ 63) = false := decide_eq_false (by omega)
  rw [e1, e2, Bool.or_false]) (by rw [h1]; simpa using h2) ⟨.str ⟨#[c]⟩, H, I.tok _, ⟨_, rfl⟩, q⟩) hs
theorem mapSeq_set (its : List Value) (n j : Nat) (u : Value) : Obj.mapSeq (·.setIfInBounds j u) { cls := .type "list", data := .seq its.toArray n } = { cls := .type "list", data := .seq (its.set j u).toArray n } := by
 simp [Obj.mapSeq]
theorem Inv.lst {pins : List (Addr × Obj)} {σ : St} {H : Hp} {s : Shared} {p : Addr} {xs : List V} (I : Inv X pins σ H s) (h : H p = some (.lst xs)) :
  ∃ (its : List Value) (n : Nat), Vals xs its ∧ s.heap.get? p = some { cls := .type "list", data := .seq its.toArray n } ∧ xs.length ≤ sizeLine := by
 obtain ⟨z, its, n, r, e⟩ := I.hok p _ h
 exact ⟨its, n, r, e, z⟩
theorem Inv.lstUpd {pins : List (Addr × Obj)} {σ : St} {H : Hp} {s : Shared} {p : Addr} {xs ys : List V} {its its' : List Value} {n n' : Nat} {f : Obj → Obj} (I : Inv X pins σ H s) (h : H p = some (.lst xs))
  (ho : s.heap.get? p = some { cls := .type "list", data := .seq its.toArray n }) (hf : f { cls := .type "list", data := .seq its.toArray n } = { cls := .type "list", data := .seq its'.toArray n' }) (r : Vals ys its') (hz : ys.length ≤ sizeLine) (t : Nat) :
  Inv X pins σ (upd H p (.lst ys)) { s with heap := s.heap.update p f, toks := t } := by
 have e : (s.heap.update p f).get? p = some { cls := .type "list", data := .seq its'.toArray n' } := by
  rw [Heap.get?_update_self f ho (by rw [hf] <;> rfl), hf]
 refine I.write (x := p) (e := p) (by rw [h]; trivial) (.inl rfl) (fun b u hb q => (Heap.get?_update_other _ _ (Ne.symm hb)).trans q) ⟨_, e⟩ ?_
 exact ⟨hz, its', n', r, e⟩
def rSetL : V → V → V → Hp → (Hp → Prop) → Prop := fun o i v H Q => ∃ p xs k j, o = .ref p ∧ i = .int k ∧ H p = some (.lst xs) ∧ ixN xs.length k = some j ∧ Q (upd H p (.lst (xs.set j v)))
theorem set_list : PSet X rSetL := by
 intro pins s σ H o i v ov iv u Q I ro ri rv h
 obtain ⟨p, xs, k, j, rfl, rfl, hp, hj, q⟩ := h
 cases ro
 obtain ⟨t, rfl⟩ := ri
 obtain ⟨its, n, r, ho, hz⟩ := I.lst hp
 obtain ⟨h1, h2, h3, h4⟩ := ixN_seq hj
 have hl := r.length
 have hn := line63
 have I' : Inv X pins σ (upd H p (.lst (xs.set j v))) { s with heap := s.heap.update p (Obj.mapSeq (·.setIfInBounds j u)) } :=
  I.lstUpd hp ho (mapSeq_set its n j u) (r.set rv j) (by rw [List.length_set]; exact hz) s.toks
 by_cases h0 : 0 ≤ k
 ·have hk : k.toNat = j := by
   rw [seqIndex_of h0 h4] at h1
   exact Option.some.inj h1
  exact PySem.W.ki_setAt ho h0 (by omega) (by rw [List.size_toArray, ← hl]; exact h4) (by rw [hk]; exact ⟨_, I', q⟩)
 ·have hk : (k + (its.toArray.size : Int)).toNat = j := by
   rw [seqIndex_neg (by omega) h3] at h1
   rw [List.size_toArray, ← hl]
   exact Option.some.inj h1
  exact PySem.W.ki_setBack ho (by omega) (by rw [List.size_toArray, ← hl]; exact h3) (by omega) (by rw [hk]; exact ⟨_, I', q⟩)
theorem slice_bounds (lo hi : Option Int) (n : Nat) : (sliceBounds lo hi none n).1 = ((HT.sIx n 0 lo : Nat) : Int) ∧ (sliceBounds lo hi none n).2.1 = ((HT.sIx n n hi : Nat) : Int) ∧ (sliceBounds lo hi none n).2.2 = 1 := by
 refine ⟨?_, ?_, rfl⟩
 ·cases lo with
  | none => simp [sliceBounds, HT.sIx]
  | some i =>
   simp only [sliceBounds, HT.sIx, Option.getD_none, show (1 : Int) > 0 by decide, if_true]
   by_cases h : i < 0
   ·simp only [h, if_true] <;> omega
   ·simp only [h, if_false] <;> omega
 ·cases hi with
  | none => simp [sliceBounds, HT.sIx]
  | some i =>
   simp only [sliceBounds, HT.sIx, Option.getD_none, show (1 : Int) > 0 by decide, if_true]
   by_cases h : i < 0
   ·simp only [h, if_true] <;> omega
   ·simp only [h, if_false] <;> omega
theorem slicePick_cut (its : List Value) (lo hi : Option Int) : slicePick its.toArray lo hi none = ((its.drop (HT.sIx its.length 0 lo)).take (HT.sIx its.length its.length hi - HT.sIx its.length 0 lo)).toArray := by
 obtain ⟨h1, h2, h3⟩ := slice_bounds lo hi its.toArray.size
 unfold slicePick
 rw [h1, h2, h3]
 simp only [sliceRange_one, pick_run, List.size_toArray] <;> rfl
def rSlL (K : PySem.W.Frag) : V → Option Int → Option Int → Hp → VK → Prop := fun x lo hi H Q => ∃ a xs, x = .ref a ∧ SqL K H a xs ∧ ∀ p, H p = none → Q (.ref p) (upd H p (.lst (cutV xs lo hi)))
theorem sl_list : SlR X (rSlL X.K) := by
 intro pins s σ H x v vl vu lo hi sl Q I rx hs pl pu h
 obtain ⟨a, xs, rfl, hx, q⟩ := h
 cases rx
 obtain ⟨its, r, ht, hz⟩ := I.list hx
 have hlen := r.length
 refine ⟨"list", _, slot_list_getitem.lookup, ht.isList.typeIs, ?_⟩
 refine wpAny_getItem_list_slice ht.isList hs pl pu .none (by simp) ?_ (by rw [List.size_toArray] <;> omega)
 rw [slicePick_cut, ← hlen]
 refine ⟨.ref s.heap.objs.size, _, I.laid (t' := s.toks) (o := .lst (cutV xs lo hi)) (fun b ob q => Heap.get?_push_of_some _ q) (Nat.le_refl _) ?_, rfl, q _ (I.hok.fresh (Nat.le_refl _))⟩
 exact ⟨Nat.le_trans (cutV_length xs lo hi) hz, _, 0, (r.drop (HT.sIx xs.length 0 lo)).take (HT.sIx xs.length xs.length hi - HT.sIx xs.length 0 lo), Heap.get?_push_size _ rfl⟩
def flatV : V → Bool
 | .non => true
 | .bl _ => true
 | .int _ => true
 | .str _ => true
 | _ => false
def eqV : V → V → Bool
 | .non, .non => true
 | .bl a, .bl b => a == b
 | .bl a, .int b => (if a then 1 else 0) == b
 | .int a, .bl b => a == (if b then 1 else 0)
 | .int a, .int b => a == b
 | .str a, .str b => a == b
 | _, _ => false
theorem eqAt_V {A : Around} {s : Shared} {y x : V} {u v : Value} (ry : RelV y u) (rx : RelV x v) (fy : flatV y = true) (fx : flatV x = true) : SeqAt.EqAt A s u v (eqV y x) := by
 cases y with
 | non =>
  cases ry
  cases x with
  | non => cases rx; exact SeqAt.EqAt.same _
  | bl b => cases rx; exact SeqAt.EqAt.none_bool b
  | int b => obtain ⟨t, rfl⟩ := rx; exact SeqAt.EqAt.none_int b t
  | str b => obtain ⟨t, rfl⟩ := rx; exact SeqAt.EqAt.none_str b t
  | _ => exact absurd (show false = true from fx) Bool.false_ne_true
 | bl a =>
  cases ry
  cases x with
  | non => cases rx; exact SeqAt.EqAt.bool_none a
  | bl b => cases rx; exact SeqAt.EqAt.bool_bool a b
  | int b => obtain ⟨t, rfl⟩ := rx; exact SeqAt.EqAt.bool_int a b t
  | str b => obtain ⟨t, rfl⟩ := rx; exact SeqAt.EqAt.bool_str a b t
  | _ => exact absurd (show false = true from fx) Bool.false_ne_true
 | int a =>
  obtain ⟨t', rfl⟩ := ry
  cases x with
  | non => cases rx; exact SeqAt.EqAt.int_none a t'
  | bl b => cases rx; exact SeqAt.EqAt.int_bool a t' b
  | int b => obtain ⟨t, rfl⟩ := rx; exact SeqAt.EqAt.int_int a t' b t
  | str b => obtain ⟨t, rfl⟩ := rx; exact SeqAt.EqAt.int_str a t' b t
  | _ => exact absurd (show false = true from fx) Bool.false_ne_true
 | str a =>
  obtain ⟨t', rfl⟩ := ry
  cases x with
  | non => cases rx; exact SeqAt.EqAt.str_none a t'
  | bl b => cases rx; exact SeqAt.EqAt.str_bool a t' b
  | int b => obtain ⟨t, rfl⟩ := rx; exact SeqAt.EqAt.str_int a t' b t
  | str b => obtain ⟨t, rfl⟩ := rx; exact SeqAt.EqAt.str_str a t' b t
  | _ => exact absurd (show false = true from fx) Bool.false_ne_true
 | _ => exact absurd (show false = true from fy) Bool.false_ne_true
def eqU (x : V) (u : Value) : Bool := match u with
 | .none => eqV .non x
 | .bool b => eqV (.bl b) x
 | .int i _ => eqV (.int i) x
 | .str z _ => eqV (.str z) x
 | _ => false
theorem eqU_of {x y : V} {u : Value} (r : RelV y u) (f : flatV y = true) : eqU x u = eqV y x := by
 cases y with
 | non => cases r; rfl
 | bl b => cases r; rfl
 | int i => obtain ⟨t, rfl⟩ := r; rfl
 | str z => obtain ⟨t, rfl⟩ := r; rfl
 | _ => exact absurd (show false = true from f) Bool.false_ne_true
theorem any_eqU {x : V} : ∀ {xs : List V} {us : List Value}, Vals xs us → xs.all flatV = true → us.any (eqU x) = xs.any fun y => eqV y x
 | _, _, .nil, _ => rfl
 | y :: xs, u :: us, .cons r t, f => by
  rw [List.all_cons, Bool.and_eq_true] at f
  rw [List.any_cons, List.any_cons, eqU_of r f.1, any_eqU t f.2]
theorem mem_eqAt {A : Around} {s : Shared} {x : V} {v : Value} (rx : RelV x v) (fx : flatV x = true) : ∀ {xs : List V} {us : List Value}, Vals xs us → xs.all flatV = true → ∀ u ∈ us, SeqAt.EqAt A s u v (eqU x u)
 | _, _, .nil, _ => fun u hu => by cases hu
 | y :: xs, u :: us, .cons r t, f => fun u' hu => by
  rw [List.all_cons, Bool.and_eq_true] at f
  rcases List.mem_cons.mp hu with rfl | hu
  ·rw [eqU_of r f.1]; exact eqAt_V r rx f.1 fx
  ·exact mem_eqAt rx fx t f.2 u' hu
def inV (x : V) (xs : List V) : Bool := xs.any fun y => eqV y x
def rIn (K : PySem.W.Frag) (neg : Bool) : R2 := fun x y H Q => ∃ p xs, y = .ref p ∧ (SqL K H p xs ∨ SqT K H p xs) ∧ flatV x = true ∧ xs.all flatV = true ∧ Q (.bl (if neg then !inV x xs else inV x xs)) H
theorem op_in_seq : OpR X (compareOp .In) (rIn X.K false) := by
 intro pins s σ H x y v u Q I rx ry h
 obtain ⟨p, xs, rfl, hq, fx, fs, q⟩ := h
 cases ry
 rcases hq with hq | hq
 ·obtain ⟨its, r, pl, hz⟩ := I.list hq
  refine SeqAt.in_listAt (eqU x) pl.isList (fun w hw => mem_eqAt rx fx r fs w (by simpa using hw)) ⟨.bl _, H, I, rfl, ?_⟩
  rw [show its.toArray.any (eqU x) = its.any (eqU x) by simp, any_eqU r fs]
  exact q
 ·obtain ⟨its, r, pl, hz⟩ := I.tuple hq
  refine SeqAt.in_tupleAt (eqU x) pl (fun w hw => mem_eqAt rx fx r fs w (by simpa using hw)) ⟨.bl _, H, I, rfl, ?_⟩
  rw [show its.toArray.any (eqU x) = its.any (eqU x) by simp, any_eqU r fs]
  exact q
theorem op_notIn_seq : OpR X (compareOp .NotIn) (rIn X.K true) := by
 intro pins s σ H x y v u Q I rx ry h
 obtain ⟨p, xs, rfl, hq, fx, fs, q⟩ := h
 cases ry
 rcases hq with hq | hq
 ·obtain ⟨its, r, pl, hz⟩ := I.list hq
  refine SeqAt.notIn_listAt (eqU x) pl.isList (fun w hw => mem_eqAt rx fx r fs w (by simpa using hw)) ⟨.bl _, H, I, rfl, ?_⟩
  rw [show its.toArray.any (eqU x) = its.any (eqU x) by simp, any_eqU r fs]
  exact q
 ·obtain ⟨its, r, pl, hz⟩ := I.tuple hq
  refine SeqAt.notIn_tupleAt (eqU x) pl (fun w hw => mem_eqAt rx fx r fs w (by simpa using hw)) ⟨.bl _, H, I, rfl, ?_⟩
  rw [show its.toArray.any (eqU x) = its.any (eqU x) by simp, any_eqU r fs]
  exact q
theorem call_len_seq : CallR X (.builtin "len") (fun xs H Q => ∃ p ys, xs = [.ref p] ∧ (SqL X.K H p ys ∨ SqT X.K H p ys) ∧ Q (.int ys.length) H) := by
 intro pins s σ H xs us Q I r h
 obtain ⟨p, ys, rfl, hq, q⟩ := h
 obtain ⟨u, rfl, rx⟩ := vals1 r
 cases rx
 have hn := line63
 rcases hq with hq | hq
 ·obtain ⟨its, r', pl, hz⟩ := I.list hq
  have hlen := r'.length
  exact Calls.call_len_list pl.isList (by simp only [List.size_toArray] <;> omega) ⟨.int ys.length, H, I.tok _, ⟨s.toks + 1, by rw [List.size_toArray, hlen]⟩, q⟩
 ·obtain ⟨its, r', pl, hz⟩ := I.tuple hq
  have hlen := r'.length
  exact len_tuple pl (by simp only [List.size_toArray] <;> omega) ⟨.int ys.length, H, I.tok _, ⟨s.toks + 1, by rw [List.size_toArray, hlen]⟩, q⟩
theorem call_len_str : CallR X (.builtin "len") (fun xs H Q => ∃ z, xs = [.str z] ∧ z.length ≤ sizeLine ∧ Q (.int z.length) H) := by
 intro pins s σ H xs us Q I r h
 obtain ⟨z, rfl, hz, q⟩ := h
 obtain ⟨u, rfl, t, rfl⟩ := vals1 r
 have hn := line63
 exact len_str (by omega) ⟨.int z.length, H, I.tok _, ⟨_, rfl⟩, q⟩
theorem call_list_of : CallR X (.type "list") (fun xs H Q => ∃ p ys, xs = [.ref p] ∧ (SqL X.K H p ys ∨ SqT X.K H p ys) ∧ ∀ l, H l = none → Q (.ref l) (upd H l (.lst ys))) := by
 intro pins s σ H xs us Q I r h
 obtain ⟨p, ys, rfl, hq, q⟩ := h
 obtain ⟨u, rfl, rx⟩ := vals1 r
 cases rx
 have fin : ∀ (its : List Value), Vals ys its → ys.length ≤ sizeLine → ∀ (h' : Heap) (c' : Nat), (∀ b o', s.heap.get? b = some o' → h'.get? b = some o') →
   h'.get? s.heap.objs.size = some { cls := .type "list", dict := none, data := .seq its.toArray c', slots := #[] } → EP X pins σ Q (.ref s.heap.objs.size) { s with heap := h' } := fun its r' hz h' c' kp e =>
  ⟨.ref s.heap.objs.size, _, I.laid (t' := s.toks) kp (Nat.le_refl _) (show ObjOk X.prog X.w _ h' _ (.lst ys) from ⟨hz, its, c', r', e⟩), rfl, q _ (I.hok.fresh (Nat.le_refl _))⟩
 rcases hq with hq | hq
 ·obtain ⟨its, r', pl, hz⟩ := I.list hq
  have hlen := r'.length
  obtain ⟨o, ho, hc, n, hd⟩ := pl.isList
  exact call_list_seq p (.inl rfl) ho hc hd (fun h' c' kp e => fin its r' hz h' c' kp e) (by simp only [List.size_toArray] <;> omega)
 ·obtain ⟨its, r', pl, hz⟩ := I.tuple hq
  have hlen := r'.length
  obtain ⟨o, ho, hc, n, hd⟩ := pl
  exact call_list_seq p (.inr rfl) ho hc hd (fun h' c' kp e => fin its r' hz h' c' kp e) (by simp only [List.size_toArray] <;> omega)
theorem call_tuple_of : CallR X (.type "tuple") (fun xs H Q => ∃ p ys, xs = [.ref p] ∧ ((SqL X.K H p ys ∧ ∀ l, H l = none → Q (.ref l) (upd H l (.tup ys))) ∨ (SqT X.K H p ys ∧ Q (.ref p) H))) := by
 intro pins s σ H xs us Q I r h
 obtain ⟨p, ys, rfl, h⟩ := h
 obtain ⟨u, rfl, rx⟩ := vals1 r
 cases rx
 rcases h with ⟨hq, q⟩ | ⟨hq, q⟩
 ·obtain ⟨its, r', pl, hz⟩ := I.list hq
  have hlen := r'.length
  refine call_tuple_list pl.isList (fun h' kp => ?_) (by simp only [List.size_toArray] <;> omega)
  have I1 : Inv X pins σ H { s with heap := h' } := I.kept (t' := s.toks) kp
  have I2 : Inv X pins σ (upd H h'.objs.size (.tup ys)) { s with heap := h'.push { cls := .type "tuple", data := .seq its.toArray } } :=
   I1.laid (t' := s.toks) (fun b o e => Heap.get?_push_of_some _ e) (Nat.le_refl _) (show ObjOk X.prog X.w _ _ _ (.tup ys) from ⟨hz, its, r', IsTup.new _ _⟩)
  exact ⟨.ref h'.objs.size, _, I2, rfl, q _ (I1.hok.fresh (Nat.le_refl _))⟩
 ·obtain ⟨its, r', pl, hz⟩ := I.tuple hq
  exact call_tuple_same pl ⟨.ref p, H, I, rfl, q⟩
def tyV (K : PySem.W.Frag) (T : String) (x : V) (H : Hp) : Prop := match x with
 | .str _ => T = "str"
 | .int _ => T = "int"
 | .ref p => (T = "list" ∧ ∃ xs, SqL K H p xs) ∨ (T = "tuple" ∧ ∃ o, K.lookup p = some o ∧ o.cls = .type "tuple" ∧ o.dict = none) ∨
   (T = "dict" ∧ ((∃ kvs, H p = some (.dK kvs)) ∨ ∃ kvs, H p = some (.dT kvs))) ∨ (T = "set" ∧ ∃ S n, H p = some (.set S n))
 | _ => False
theorem tyV_is {pins : List (Addr × Obj)} {σ : St} {H : Hp} {s : Shared} {T : String} {x : V} {v : Value} (I : Inv X pins σ H s) (r : RelV x v) (ty : tyV X.K T x H) :
  s.TypeIs v T ∧ ∀ a, v = .ref a → ∃ ob, s.heap.get? a = some ob ∧ ob.dict = none := by
 cases x with
 | str z =>
  obtain ⟨t, rfl⟩ := r
  cases (show T = "str" from ty)
  exact ⟨typeIs_str s z t, fun _ e => nomatch e⟩
 | int i =>
  obtain ⟨t, rfl⟩ := r
  cases (show T = "int" from ty)
  exact ⟨typeIs_int s i t, fun _ e => nomatch e⟩
 | ref p =>
  cases r
  rcases ty with ⟨rfl, xs, hq⟩ | ⟨rfl, o, hk, hc, hd⟩ | ⟨rfl, hk⟩ | ⟨rfl, S, n, hk⟩
  ·obtain ⟨its, _, pl, _⟩ := I.list hq
   refine ⟨pl.isList.typeIs, fun a e => ?_⟩
   cases e
   obtain ⟨o, n, e, c, hd, _⟩ := pl
   exact ⟨o, e, hd⟩
  ·refine ⟨⟨o, I.kIn p o hk, hc⟩, fun a e => ?_⟩
   cases e
   exact ⟨o, I.kIn _ o hk, hd⟩
  ·have z : ∃ o, s.heap.get? p = some o ∧ o.ExactDict := by
    rcases hk with ⟨kvs, hk⟩ | ⟨kvs, hk⟩
    ·obtain ⟨_, _, _, _, o, _, _, e, ex, _⟩ := I.hok p _ hk
     exact ⟨o, e, ex⟩
    ·obtain ⟨_, _, _, _, o, _, _, e, ex, _⟩ := I.hok p _ hk
     exact ⟨o, e, ex⟩
   obtain ⟨o, e, ex⟩ := z
   refine ⟨⟨o, e, ex.1⟩, fun a e2 => ?_⟩
   cases e2
   exact ⟨o, e, ex.2.1⟩
  ·obtain ⟨o, _, _, _, e, ex, _⟩ := I.hok p _ hk
   refine ⟨⟨o, e, ex.1⟩, fun a e2 => ?_⟩
   cases e2
   exact ⟨o, e, ex.2.1⟩
 | _ => exact False.elim ty
def tBM0 (K : PySem.W.Frag) (T : String) (r : V → List V → Hp → VK → Prop) (to : TE) : TE := fun σ H Q => to σ H fun x H1 => tyV K T x H1 ∧ r x [] H1 Q
def tBM (K : PySem.W.Frag) (T : String) (r : V → List V → Hp → VK → Prop) (to : TE) (t : TA) : TE := fun σ H Q => to σ H fun x H1 => tyV K T x H1 ∧ t σ H1 fun xs H2 => r x xs H2 Q
variable {o e : Expr} {es : List Expr} {to : TE} {t : TA} {name : Str} {apos cpos : Pos} {T id : String} {r : V → List V → Hp → VK → Prop}
theorem pe_bm0 (pa : PlainAttrs T) (slot : Slot T name id) (hty : typeOf (.builtin id) = pure (.type "method_descriptor")) (hm : MtR X id r) (ho : PE X o to)
  (hbase : attributeBase o name X.env (eval o X.env) = eval o X.env := by rfl) (hline : (apos.endLine == cpos.line) = true := by rfl) : PE X (.Call (.Attribute o name apos) [] [] cpos) (tBM0 X.K T r to) := by
 intro pins s σ H Q I h
 refine wpAny_Call_method0_late hbase hline (thn (ho pins s σ H _ I h) fun v s1 ⟨x, H1, I1, r1, ty, q1⟩ => ?_)
 obtain ⟨h1, h2⟩ := tyV_is I1 r1 ty
 exact ⟨T, id, pa, slot, hty, h1, h2, Calls.callWith_builtin rfl (PySem.evalArgs_none (hm pins s1 σ H1 x [] v [] Q I1 r1 .nil q1))⟩
theorem pe_bm (pa : PlainAttrs T) (slot : Slot T name id) (hty : typeOf (.builtin id) = pure (.type "method_descriptor")) (hm : MtR X id r) (ho : PE X o to) (ha : PA X (e :: es) t)
  (hbase : attributeBase o name X.env (eval o X.env) = eval o X.env := by rfl)
  (hfew : ((backTo cpos (starEach (e :: es) X.env)).all (fun x => !x.1) && (backToKw cpos (keywordEach [] X.env)).all (fun x => x.1.isSome)
   && decide ((e :: es).length + ([] : List Keyword).length + (if ([] : List Keyword).isEmpty then 0 else 1) < 30)) = true := by rfl)
  (hline : (apos.endLine == cpos.line) = true := by rfl) (hs : starEach (e :: es) X.env = (false, eval e X.env) :: starEach es X.env := by rfl) (hplain : (backTo cpos (starEach es X.env)).any (·.1) = false := by rfl) :
  PE X (.Call (.Attribute o name apos) (e :: es) [] cpos) (tBM X.K T r to t) := by
 intro pins s σ H Q I h
 refine wpAny_Call_method_late hbase hfew hline rfl (thn (ho pins s σ H _ I h) fun v s1 ⟨x, H1, I1, r1, ty, q1⟩ => ?_)
 obtain ⟨h1, h2⟩ := tyV_is I1 r1 ty
 refine ⟨T, id, pa, slot, hty, h1, h2, ?_⟩
 have hA := ha cpos pins s1 σ H1 _ I1 q1
 rw [hs] at hA ⊢
 refine Calls.callWith_builtin (by show (false || (backTo cpos (starEach es X.env)).any (·.1)) = false; rw [hplain] <;> rfl) (Calls.evalArgs_plain ?_)
 exact thn hA fun us s2 ⟨vs, H2, I2, r2, q2⟩ => hm pins s2 σ H2 x vs v us Q I2 r1 r2 q2
end
def MtM (X : Cx) (id : String) (r : V → List V → Hp → VK → Prop) : Prop :=
 ∀ (pins : List (Addr × Obj)) (s : Shared) (σ : St) (H : Hp) (x : V) (xs : List V) (v : Value) (us : List Value) (Q : VK), Inv X pins σ H s → RelV x v → Vals xs us → r x xs H Q →
  wpAny (model X.prog X.w) X.A (call (.builtin id) (v :: us)) (EP X pins σ Q) X.xe s
theorem Vals.one : ∀ {x : V} {us : List Value}, Vals [x] us → ∃ u, us = [u] ∧ RelV x u
 | _, _, .cons r .nil => ⟨_, rfl, r⟩
theorem Vals.zero : ∀ {us : List Value}, Vals [] us → us = []
 | _, .nil => rfl
theorem Vals.dropLast {xs : List V} {us : List Value} (h : Vals xs us) : Vals xs.dropLast us.dropLast := by
 induction h with
 | nil => exact .nil
 | cons r t ih =>
  cases t with
  | nil => exact .nil
  | cons q t' => exact .cons r ih
theorem Vals.reverse {xs : List V} {us : List Value} (h : Vals xs us) : Vals xs.reverse us.reverse := by
 induction h with
 | nil => exact .nil
 | cons r t ih => rw [List.reverse_cons, List.reverse_cons]; exact Vals.append ih (.cons r .nil)
theorem Vals.rep {xs : List V} {us : List Value} (h : Vals xs us) : ∀ k : Nat, Vals (List.replicate k xs).flatten (List.replicate k us).flatten
 | 0 => .nil
 | k + 1 => by
  rw [List.replicate_succ, List.replicate_succ, List.flatten_cons, List.flatten_cons]
  exact Vals.append h (Vals.rep h k)
theorem erase_last {α : Type} (l : List α) : l.eraseIdx (l.length - 1) = l.dropLast := by
 induction l with
 | nil => rfl
 | cons a r ih =>
  cases r with
  | nil => rfl
  | cons b r =>
   have e : (a :: b :: r).length - 1 = ((b :: r).length - 1) + 1 := by
    have h1 : (a :: b :: r).length = r.length + 2 := rfl
    have h2 : (b :: r).length = r.length + 1 := rfl
    omega
   rw [e, List.eraseIdx_cons_succ, ih]
   all_goals rfl
theorem foldl_rep (its : List Value) : ∀ (k : Nat) (acc : List Value),
  List.foldl (fun x1 x2 => x1 ++ x2) acc.toArray (List.replicate k its.toArray) = (acc ++ (List.replicate k its).flatten).toArray
 | 0, acc => by simp
 | k + 1, acc => by
  have e : acc.toArray ++ its.toArray = (acc ++ its).toArray := by simp
  have e2 : (acc ++ its) ++ (List.replicate k its).flatten = acc ++ (List.replicate (k + 1) its).flatten := by
   rw [List.replicate_succ, List.flatten_cons, List.append_assoc]
  rw [← e2, ← foldl_rep its k (acc ++ its), ← e, List.replicate_succ, List.foldl_cons]
section
variable {X : Cx} {pins : List (Addr × Obj)} {σ : St} {H : Hp} {s : Shared} {l b : Addr} {xs ys zs : List V}
theorem Inv.lset {its its' : List Value} {n : Nat} {f : Array Value → Array Value} {t' : Nat} (I : Inv X pins σ H s) (hH : H l = some (.lst xs))
  (e : s.heap.get? l = some { cls := .type "list", data := .seq its.toArray n }) (hf : f its.toArray = its'.toArray) (hv : Vals ys its') (hz : ys.length ≤ sizeLine) :
  Inv X pins σ (upd H l (.lst ys)) { s with heap := s.heap.update l (Obj.mapSeq f), toks := t' } := by
 have q := PySem.IsL.update e f
 rw [hf] at q
 refine I.write (x := l) (e := l) (by rw [hH]; exact trivial) (.inl rfl) (fun b' u hb hu => (Heap.get?_update_other s.heap (Obj.mapSeq f) (Ne.symm hb)).trans hu) ⟨_, q⟩ ?_
 exact ⟨hz, its', _, hv, q⟩
theorem Inv.lnew {its : List Value} {t' : Nat} (I : Inv X pins σ H s) (hv : Vals ys its) (hz : ys.length ≤ sizeLine) :
  Inv X pins σ (upd H s.heap.objs.size (.lst ys)) { s with heap := s.heap.push { cls := .type "list", data := .seq its.toArray }, toks := t' } :=
 I.laid (fun _ _ q => Heap.get?_push_of_some _ q) (Nat.le_refl _) ⟨hz, its, 0, hv, Heap.get?_push_size _ rfl⟩
theorem Inv.fresh (I : Inv X pins σ H s) : H s.heap.objs.size = none := I.hok.fresh (Nat.le_refl _)
theorem Inv.lstM (I : Inv X pins σ H s) (hH : H l = some (.lst xs)) : xs.length ≤ sizeLine ∧ ∃ (its : List Value) (n : Nat), Vals xs its ∧ xs.length = its.length ∧ s.heap.get? l = some { cls := .type "list", data := .seq its.toArray n } := by
 obtain ⟨z, its, n, r, e⟩ := I.hok l _ hH
 exact ⟨z, its, n, r, r.length, e⟩
theorem notLongL {n : Nat} (h : n ≤ sizeLine) : Builtin.List.listTooLong n = false := by
 unfold Builtin.List.listTooLong
 exact decide_eq_false (by omega)
end
section
variable {X : Cx}
def rAppend : V → List V → Hp → VK → Prop := fun x vs H Q => ∃ l xs y, x = .ref l ∧ vs = [y] ∧ H l = some (.lst xs) ∧ xs.length < sizeLine ∧ Q .non (upd H l (.lst (xs ++ [y])))
theorem mt_append : MtM X "list.append" rAppend := by
 intro pins s σ H x vs v us Q I rx rv h
 obtain ⟨l, xs, y, rfl, rfl, hH, hz, q⟩ := h
 cases rx
 obtain ⟨u, rfl, ru⟩ := rv.one
 obtain ⟨z, its, n, r, hl, e⟩ := I.lstM hH
 refine call_meets F.slot_list_append ⟨_, e, rfl⟩ F.entry_list_append (F.args_list_append_2 _ _) (PySem.list_append l its.toArray n u (by rw [List.size_toArray]; omega)) ⟨e, ?_⟩
 refine ⟨.non, _, I.lset (its' := its ++ [u]) hH e (by simp) (r.append (.cons ru .nil)) ?_, rfl, q⟩
 rw [List.length_append, List.length_singleton]
 omega
def rPop : V → List V → Hp → VK → Prop := fun x vs H Q => ∃ l xs y, x = .ref l ∧ vs = [] ∧ H l = some (.lst xs) ∧ xs[xs.length - 1]? = some y ∧ Q y (upd H l (.lst xs.dropLast))
theorem mt_pop : MtM X "list.pop" rPop := by
 intro pins s σ H x vs v us Q I rx rv h
 obtain ⟨l, xs, y, rfl, rfl, hH, hy, q⟩ := h
 cases rx
 have hus := rv.zero
 subst hus
 obtain ⟨z, its, n, r, hl, e⟩ := I.lstM hH
 obtain ⟨u, hu, ru⟩ := r.get hy
 have hy' : its.toArray[its.toArray.size - 1]? = some u := by
  show its.toArray[its.length - 1]? = some u
  rw [← Array.getElem?_toList, ← hl]
  exact hu
 refine call_meets F.slot_list_pop ⟨_, e, rfl⟩ F.entry_list_pop (F.args_list_pop_1 _) (MeetsSeq.list_pop_last l its.toArray n u hy' (by rw [List.size_toArray]; omega)) ⟨e, ?_⟩
 refine ⟨y, _, I.lset (its' := its.dropLast) hH e ?_ r.dropLast ?_, ru, q⟩
 ·show its.toArray.eraseIdxIfInBounds (its.toArray.size - 1) = its.dropLast.toArray
  rw [List.size_toArray, List.eraseIdxIfInBounds_toArray, erase_last]
 ·rw [List.length_dropLast]
  omega
def rReverse : V → List V → Hp → VK → Prop := fun x vs H Q => ∃ l xs, x = .ref l ∧ vs = [] ∧ H l = some (.lst xs) ∧ Q .non (upd H l (.lst xs.reverse))
theorem mt_reverse : MtM X "list.reverse" rReverse := by
 intro pins s σ H x vs v us Q I rx rv h
 obtain ⟨l, xs, rfl, rfl, hH, q⟩ := h
 cases rx
 have hus := rv.zero
 subst hus
 obtain ⟨z, its, n, r, hl, e⟩ := I.lstM hH
 refine call_meets F.slot_list_reverse ⟨_, e, rfl⟩ F.entry_list_reverse (F.args_list_reverse_1 _) (AutoSeq1.list_reverse_list_0 l its.toArray n (by rw [List.size_toArray]; omega)) ⟨e, ?_⟩
 refine ⟨.non, _, I.lset (its' := its.reverse) hH e (by simp) r.reverse ?_, rfl, q⟩
 rw [List.length_reverse]
 omega
def rCat : R2 := fun x y H Q => ∃ l b xs zs, x = .ref l ∧ y = .ref b ∧ H l = some (.lst xs) ∧ H b = some (.lst zs) ∧ xs.length + zs.length ≤ sizeLine ∧ ∀ p, H p = none → Q (.ref p) (upd H p (.lst (xs ++ zs)))
theorem op_cat : OpR X (binaryOp .Add) rCat := by
 intro pins s σ H x y v u Q I rx ry h
 obtain ⟨l, b, xs, zs, rfl, rfl, hH, hB, hz, q⟩ := h
 cases rx
 cases ry
 obtain ⟨z, its, n, r, hl, e⟩ := I.lstM hH
 obtain ⟨z2, its2, n2, r2, hl2, e2⟩ := I.lstM hB
 refine PySem.P.add_list e e2 ?_ (by rw [List.size_toArray, List.size_toArray]; omega)
 have ea : its.toArray ++ its2.toArray = (its ++ its2).toArray := by simp
 rw [ea]
 exact ⟨.ref _, _, I.lnew (t' := s.toks) (r.append r2) (by rw [List.length_append]; omega), rfl, q _ I.fresh⟩
def rRep : R2 := fun x y H Q => ∃ l k xs, x = .ref l ∧ y = .int k ∧ H l = some (.lst xs) ∧ -(2 ^ 63) ≤ k ∧ k < 2 ^ 63 ∧ xs.length * k.toNat ≤ sizeLine ∧
 ∀ p, H p = none → Q (.ref p) (upd H p (.lst (List.replicate k.toNat xs).flatten))
theorem len_rep {α : Type} (xs : List α) (k : Nat) : (List.replicate k xs).flatten.length = k * xs.length := by
 induction k with
 | zero => simp
 | succ k ih => rw [List.replicate_succ, List.flatten_cons, List.length_append, ih, Nat.succ_mul, Nat.add_comm]
theorem op_rep : OpR X (binaryOp .Mult) rRep := by
 intro pins s σ H x y v u Q I rx ry h
 obtain ⟨l, k, xs, rfl, rfl, hH, h1, h2, hz, q⟩ := h
 cases rx
 obtain ⟨t, rfl⟩ := ry
 obtain ⟨z, its, n, r, hl, e⟩ := I.lstM hH
 have hlen : its.toArray.size * k.toNat ≤ sizeLine := by rw [List.size_toArray, ← hl]; exact hz
 have hcap : ¬ its.toArray.size * k.toNat > (2 ^ 63 - 1) / 8 := by
  have : (sizeLine : Nat) ≤ (2 ^ 63 - 1) / 8 := by decide
  omega
 have hfit : ¬ (!Builtin.List.listFitsIndex k) = true := by
  rw [fitsIndex_both h1 h2]
  exact Bool.false_ne_true
 have hlong : ¬ Builtin.List.listTooLong (its.toArray.size * k.toNat) = true := by
  rw [notLongL hlen]
  exact Bool.false_ne_true
 have hnew : List.foldl (fun x1 x2 => x1 ++ x2) #[] (List.replicate (if its.toArray.isEmpty = true then 0 else k.toNat) its.toArray) = (List.replicate k.toNat its).flatten.toArray := by
  have f0 : ∀ m : Nat, List.foldl (fun x1 x2 => x1 ++ x2) #[] (List.replicate m its.toArray) = (List.replicate m its).flatten.toArray := fun m => by
   have := foldl_rep its m []
   rw [List.nil_append] at this
   exact this
  rw [f0]
  cases its with
  | nil => simp
  | cons a r' => rw [if_neg (by simp)]
 refine wpAny_binaryOp_repeat_ref (T := "list") (U := "int") (by decide) ⟨_, e, rfl⟩ (fun s' => typeIs_int s' k t) noFill_list_mul F.fills_int_mul F.slot_int_rmul repeat_list F.slot_int_index.lookup
  (call_meets F.slot_int_rmul (typeIs_int s k t) F.entry_int_rmul (F.args_int_rmul_2 _ _) (int___rmul___int_list k t l its.toArray n)
   ⟨e, rfl, ⟨_, e, rfl⟩, call_meets F.slot_list_mul ⟨_, e, rfl⟩ F.entry_list_mul (F.args_list_mul_2 _ _) (AutoListH.list___mul___list_int_3 l its.toArray n k t hfit hcap hlong) ⟨e, ?_⟩⟩)
 rw [hnew]
 exact ⟨.ref _, _, I.lnew (t' := s.toks) (r.rep k.toNat) (by rw [len_rep, Nat.mul_comm]; exact hz), rfl, q _ I.fresh⟩
end
section
variable {prog : Program} {w : World} {A : Around} {E : Value → Shared → Prop} {s : Shared}
set_option maxRecDepth 100000 in
end
section
variable {X : Cx}
end
section
variable {κ : Type} [DecidableEq κ]
def valV (kvs : List (κ × V)) (k : κ) : Option V := (kvs.find? fun kv => decide (kv.1 = k)).map (·.2)
def putK (kvs : List (κ × V)) (k : κ) (v : V) : List (κ × V) :=
 if (kvs.any fun kv => decide (kv.1 = k)) = true then kvs.map (fun kv => if kv.1 = k then (kv.1, v) else kv) else kvs ++ [(k, v)]
theorem valV_pos {p : κ × V} {r : List (κ × V)} {k : κ} (e : p.1 = k) : valV (p :: r) k = some p.2 := by simp [valV, List.find?_cons, e]
theorem valV_neg {p : κ × V} {r : List (κ × V)} {k : κ} (e : ¬ p.1 = k) : valV (p :: r) k = valV r k := by simp [valV, List.find?_cons, e]
theorem valV_any (k : κ) : ∀ kvs : List (κ × V), (kvs.any fun kv => decide (kv.1 = k)) = (valV kvs k).isSome
 | [] => rfl
 | p :: r => by
  rw [List.any_cons]
  by_cases e : p.1 = k
  ·simp only [valV_pos e, decide_eq_true e, Bool.true_or, Option.isSome_some]
  ·rw [valV_neg e, decide_eq_false e, Bool.false_or]; exact valV_any k r
theorem length_putK (kvs : List (κ × V)) (k : κ) (v : V) : (putK kvs k v).length ≤ kvs.length + 1 := by
 unfold putK
 split
 ·rw [List.length_map]; omega
 ·rw [List.length_append, List.length_cons, List.length_nil]; omega
theorem RelO.isSome_eq {o : Option V} {u : Option Value} (r : RelO o u) : o.isSome = u.isSome := by
 cases o with
 | none => cases u with
  | none => rfl
  | some _ => exact (show False from r).elim
 | some _ => cases u with
  | none => exact (show False from r).elim
  | some _ => rfl
theorem RelO.getD {o : Option V} {u : Option Value} {d : V} {d' : Value} (r : RelO o u) (rd : RelV d d') : RelV (o.getD d) (u.getD d') := by
 cases o with
 | none => cases u with
  | none => exact rd
  | some _ => exact (show False from r).elim
 | some _ => cases u with
  | none => exact (show False from r).elim
  | some _ => exact r
theorem KV.val {kvs : List (κ × V)} {vs : List (κ × Value)} (r : KV kvs vs) (k : κ) : RelO (valV kvs k) (valueAt vs k) := by
 unfold KV at r
 induction r with
 | nil => exact True.intro
 | @cons p q ps qs h t ih =>
  obtain ⟨h1, h2⟩ := h
  by_cases e : p.1 = k
  ·have e' : q.1 = k := h1.symm.trans e
   have b : valueAt (q :: qs) k = some q.2 := by simp [valueAt, List.find?_cons, e']
   rw [valV_pos e, b]; exact h2
  ·have e' : ¬ q.1 = k := fun z => e (h1.trans z)
   have b : valueAt (q :: qs) k = valueAt qs k := by simp [valueAt, List.find?_cons, e']
   rw [valV_neg e, b]; exact ih
theorem KV.any {kvs : List (κ × V)} {vs : List (κ × Value)} (r : KV kvs vs) (k : κ) : (kvs.any fun kv => decide (kv.1 = k)) = vs.any fun kv => decide (kv.1 = k) := by
 unfold KV at r
 induction r with
 | nil => rfl
 | cons h t ih => rw [List.any_cons, List.any_cons, ih, h.1]
theorem KV.repl {kvs : List (κ × V)} {vs : List (κ × Value)} (r : KV kvs vs) (k : κ) {y : V} {u : Value} (ry : RelV y u) :
  KV (kvs.map fun kv => if kv.1 = k then (kv.1, y) else kv) (vs.map fun kv => if kv.1 = k then (kv.1, u) else kv) := by
 unfold KV at r ⊢
 induction r with
 | nil => exact .nil
 | @cons p q ps qs h t ih =>
  rw [List.map_cons, List.map_cons]
  refine .cons ?_ ih
  obtain ⟨h1, h2⟩ := h
  by_cases e : p.1 = k
  ·rw [if_pos e, if_pos (h1.symm.trans e)]; exact ⟨h1, ry⟩
  ·rw [if_neg e, if_neg (fun z => e (h1.trans z))]; exact ⟨h1, h2⟩
theorem KV.put {kvs : List (κ × V)} {vs : List (κ × Value)} (r : KV kvs vs) (k : κ) {y : V} {u : Value} (ry : RelV y u) : KV (putK kvs k y) (stored vs k u) := by
 unfold putK stored
 rw [r.any k]
 by_cases e : (vs.any fun kv => decide (kv.1 = k)) = true
 ·rw [if_pos e, if_pos e]; exact r.repl k ry
 ·rw [if_neg e, if_neg e]; exact Paired.snoc r ⟨rfl, ry⟩
theorem KV.length {kvs : List (κ × V)} {vs : List (κ × Value)} (r : KV kvs vs) : kvs.length = vs.length := Paired.length r
end
theorem kV_is {P : Program} {w : World} {k : Key} {u : Value} (r : RelV (kV k) u) : (mixKind P w).is k u = true := by
 cases k with
 | inl i => obtain ⟨t, e⟩ := (show ∃ t, u = Value.int i t from r); subst e; exact mixKind_int P w i t
 | inr x => obtain ⟨t, e⟩ := (show ∃ t, u = Value.str x t from r); subst e; exact mixKind_str P w x t
theorem items_are {P : Program} {w : World} : ∀ {ks : List Key} {us : List Value}, Vals (ks.map kV) us → ItemsAre (mixKind P w) ks us
 | [], _, r => by rw [List.map_nil] at r; cases r; exact .nil
 | k :: ks, _, r => by
  rw [List.map_cons] at r
  cases r with
  | cons h t => exact .cons (kV_is h) (items_are t)
abbrev KT (H : Hp) : List (List Key × V) → List (List Key × Addr × Value) → Prop := Paired fun p q => p.1 = q.1 ∧ H q.2.1 = some (.tup (p.1.map kV)) ∧ RelV p.2 q.2.2
theorem KT.val {H : Hp} {kvs : List (List Key × V)} {xs : List (List Key × Addr × Value)} (r : KT H kvs xs) (k : List Key) : RelO (valV kvs k) ((atKey xs k).map (·.2)) := by
 induction r with
 | nil => exact True.intro
 | @cons p q ps qs h t ih =>
  obtain ⟨h1, _, h2⟩ := h
  by_cases e : p.1 = k
  ·have e' : q.1 = k := h1.symm.trans e
   have b : atKey (q :: qs) k = some q.2 := by simp [atKey, List.find?_cons, e']
   rw [valV_pos e, b]; exact h2
  ·have e' : ¬ q.1 = k := fun z => e (h1.trans z)
   have b : atKey (q :: qs) k = atKey qs k := by simp [atKey, List.find?_cons, e']
   rw [valV_neg e, b]; exact ih
theorem KT.repl {H : Hp} {kvs : List (List Key × V)} {xs : List (List Key × Addr × Value)} (r : KT H kvs xs) (k : List Key) {y : V} {u : Value} (ry : RelV y u) :
  KT H (kvs.map fun kv => if kv.1 = k then (kv.1, y) else kv) (xs.map (putAt k u)) := by
 induction r with
 | nil => exact .nil
 | @cons p q ps qs h t ih =>
  rw [List.map_cons, List.map_cons]
  refine .cons ?_ ih
  obtain ⟨h1, h2, h3⟩ := h
  unfold putAt
  by_cases e : p.1 = k
  ·rw [if_pos e, if_pos (h1.symm.trans e)]; exact ⟨h1, h2, ry⟩
  ·rw [if_neg e, if_neg (fun z => e (h1.trans z))]; exact ⟨h1, h2, h3⟩
theorem KT.put {H : Hp} {kvs : List (List Key × V)} {xs : List (List Key × Addr × Value)} (r : KT H kvs xs) (k : List Key) {b : Addr} {y : V} {u : Value} (hb : H b = some (.tup (k.map kV))) (ry : RelV y u) :
  KT H (putK kvs k y) (storedH xs k b u) := by
 have e : (kvs.any fun kv => decide (kv.1 = k)) = (atKey xs k).isSome := by
  rw [valV_any, (r.val k).isSome_eq, Option.isSome_map]
 unfold putK storedH
 rw [e]
 by_cases q : (atKey xs k).isSome = true
 ·rw [if_pos q, if_pos q]; exact r.repl k ry
 ·rw [if_neg q, if_neg q]; exact Paired.snoc r ⟨rfl, hb, ry⟩
theorem KT.keeps {H H' : Hp} {kvs : List (List Key × V)} {xs : List (List Key × Addr × Value)} (r : KT H kvs xs) (ht : ∀ b ys, H b = some (.tup ys) → H' b = some (.tup ys)) : KT H' kvs xs :=
 Paired.mapP r fun _ _ z => ⟨z.1, ht _ _ z.2.1, z.2.2⟩
section
variable {P : Program} {w : World} {H : Hp} {h : Heap} {a : Addr}
theorem rd_of {u : HO} (ok : HOk P w H h) (e : Rd H a u) : ObjOk P w H h a u := e.ok ok
theorem dk_rd {kvs : List (Key × V)} (ok : HOk P w H h) (e : Rd H a (.dK kvs)) : kvs.length ≤ sizeLine ∧ (a == sysModules) = false ∧ ∃ vs, KV kvs vs ∧ h.DictOf (mixKind P w) a vs :=
 show ObjOk P w H h a (.dK kvs) from rd_of ok e
theorem dk_of {kvs : List (Key × V)} (ok : HOk P w H h) (e : H a = some (.dK kvs)) : kvs.length ≤ sizeLine ∧ (a == sysModules) = false ∧ ∃ vs, KV kvs vs ∧ h.DictOf (mixKind P w) a vs := dk_rd ok (.inl e)
theorem key_of {ks : List Key} (ok : HOk P w H h) (e : H a = some (.tup (ks.map kV))) : (tupleKind (mixKind P w)).is h ks a := by
 obtain ⟨_, its, r, o, h1, h2, n, h3⟩ := (show ObjOk P w H h a (.tup (ks.map kV)) from ok a _ e)
 exact ⟨o, its.toArray, n, h1, h2, h3, by simpa using items_are r⟩
theorem dt_rd {kvs : List (List Key × V)} (ok : HOk P w H h) (e : Rd H a (.dT kvs)) : kvs.length ≤ sizeLine ∧ (a == sysModules) = false ∧
  ∃ xs, KT H kvs xs ∧ h.DictOfH (tupleKind (mixKind P w)) a xs := by
 obtain ⟨z, y, xs, r, o, es, ep, h1, h2, h3, h4, h5⟩ := (show ObjOk P w H h a (.dT kvs) from rd_of ok e)
 refine ⟨z, y, xs, r, o, es, ep, h1, h2, h3, h4, fun x hx => ?_, h5⟩
 have all : ∀ {l : List (List Key × V)} {m : List (List Key × Addr × Value)}, KT H l m → ∀ x ∈ m, (tupleKind (mixKind P w)).is h x.1 x.2.1 := by
  intro l m q
  induction q with
  | nil => intro x hx; exact nomatch hx
  | @cons p q ps qs hq t ih =>
   intro x hx
   rcases List.mem_cons.mp hx with e | hx
   ·subst e
    exact key_of ok (by rw [← hq.1]; exact hq.2.1)
   ·exact ih x hx
 exact all r x hx
theorem dt_of {kvs : List (List Key × V)} (ok : HOk P w H h) (e : H a = some (.dT kvs)) : kvs.length ≤ sizeLine ∧ (a == sysModules) = false ∧
  ∃ xs, KT H kvs xs ∧ h.DictOfH (tupleKind (mixKind P w)) a xs := dt_rd ok (.inl e)
end
def DGet (H : Hp) (a : Addr) (y : V) (r : Option V) : Prop :=
 (∃ kvs k, Rd H a (.dK kvs) ∧ y = kV k ∧ r = valV kvs k) ∨ ∃ kvs k b, Rd H a (.dT kvs) ∧ y = .ref b ∧ H b = some (.tup (k.map kV)) ∧ r = valV kvs k
def DPut (H : Hp) (a : Addr) (y v : V) (H' : Hp) : Prop :=
 (∃ kvs k, H a = some (.dK kvs) ∧ y = kV k ∧ kvs.length < sizeLine ∧ H' = upd H a (.dK (putK kvs k v))) ∨
 ∃ kvs k b, H a = some (.dT kvs) ∧ y = .ref b ∧ H b = some (.tup (k.map kV)) ∧ kvs.length < sizeLine ∧ H' = upd H a (.dT (putK kvs k v))
theorem DGet.k {H : Hp} {a : Addr} {kvs : List (Key × V)} {k : Key} (e : H a = some (.dK kvs)) : DGet H a (kV k) (valV kvs k) := .inl ⟨kvs, k, .inl e, rfl, rfl⟩
theorem DGet.t {H : Hp} {a b : Addr} {kvs : List (List Key × V)} {k : List Key} (e : H a = some (.dT kvs)) (eb : H b = some (.tup (k.map kV))) : DGet H a (.ref b) (valV kvs k) := .inr ⟨kvs, k, b, .inl e, rfl, eb, rfl⟩
theorem DPut.k {H : Hp} {a : Addr} {kvs : List (Key × V)} {k : Key} {v : V} (e : H a = some (.dK kvs)) (hl : kvs.length < sizeLine) : DPut H a (kV k) v (upd H a (.dK (putK kvs k v))) := .inl ⟨kvs, k, e, rfl, hl, rfl⟩
theorem DPut.t {H : Hp} {a b : Addr} {kvs : List (List Key × V)} {k : List Key} {v : V} (e : H a = some (.dT kvs)) (eb : H b = some (.tup (k.map kV))) (hl : kvs.length < sizeLine) :
  DPut H a (.ref b) v (upd H a (.dT (putK kvs k v))) := .inr ⟨kvs, k, b, e, rfl, eb, hl, rfl⟩
section
variable {X : Cx} {pins : List (Addr × Obj)} {σ : St} {H : Hp} {s : Shared} {a : Addr} {y v : V} {u r : Value} {o : Option V} {A : Around} {E : Value → Shared → Prop}
theorem Inv.big (I : Inv X pins σ H s) : sysModules < s.heap.objs.size := by
 have h : mainGlobals < s.heap.objs.size := (I.mod.glob.keeps I.bk).lt
 exact Nat.lt_trans (by decide) h
theorem d_getItem {Q : Value → Shared → Prop} (hu : A.units + 1 < cLine) (I : Inv X pins σ H s) (g : DGet H a y (some v)) (ry : RelV y u) (h : ∀ w' s', Inv X pins σ H s' → RelV v w' → Q w' s') :
  wpAny (model X.prog X.w) A (getItem (.ref a) u) Q E s := by
 rcases g with ⟨kvs, k, e, ey, l⟩ | ⟨kvs, k, b, e, ey, eb, l⟩
 ·subst ey
  obtain ⟨z, hd, vs, rel, dd⟩ := dk_rd I.hok e
  obtain ⟨w', hw, rw'⟩ := RelO.some_of (v := v) (o := valueAt vs k) (by rw [l]; exact rel.val k)
  exact wpAny_getItem_of (kV_is ry) dd.mapOf hw (h w' _ (I.tok _) rw')
 ·subst ey
  cases (show u = Value.ref b from ry)
  obtain ⟨z, hd, xs, rel, dd⟩ := dt_rd I.hok e
  obtain ⟨w', hw, rw'⟩ := RelO.some_of (v := v) (o := (atKey xs k).map (·.2)) (by rw [l]; exact rel.val k)
  obtain ⟨p, hp, hp2⟩ := Option.map_eq_some_iff.mp hw
  refine wpAny_getItem_heap (tupleKind_room_in1 hu) (key_of I.hok eb) dd hp ?_
  rw [hp2]
  exact h w' _ (I.tok _) rw'
theorem d_in {Q : Value → Shared → Prop} (hu : A.units + 1 < cLine) (I : Inv X pins σ H s) (g : DGet H a y o) (ry : RelV y u) (h : ∀ s', Inv X pins σ H s' → Q (.bool o.isSome) s') :
  wpAny (model X.prog X.w) A (compareOp .In u (.ref a)) Q E s := by
 rcases g with ⟨kvs, k, e, ey, l⟩ | ⟨kvs, k, b, e, ey, eb, l⟩
 ·subst ey
  obtain ⟨z, hd, vs, rel, dd⟩ := dk_rd I.hok e
  refine wpAny_in_of (kV_is ry) hd dd.mapOf ?_
  rw [← (rel.val k).isSome_eq, ← l]
  exact h _ (I.tok _)
 ·subst ey
  cases (show u = Value.ref b from ry)
  obtain ⟨z, hd, xs, rel, dd⟩ := dt_rd I.hok e
  refine wpAny_in_heap (tupleKind_room_in1 hu) (key_of I.hok eb) hd dd ?_
  have q := (rel.val k).isSome_eq
  rw [Option.isSome_map] at q
  rw [← q, ← l]
  exact h _ (I.tok _)
theorem d_notIn {Q : Value → Shared → Prop} (hu : A.units + 1 < cLine) (I : Inv X pins σ H s) (g : DGet H a y o) (ry : RelV y u) (h : ∀ s', Inv X pins σ H s' → Q (.bool (!o.isSome)) s') :
  wpAny (model X.prog X.w) A (compareOp .NotIn u (.ref a)) Q E s := by
 rcases g with ⟨kvs, k, e, ey, l⟩ | ⟨kvs, k, b, e, ey, eb, l⟩
 ·subst ey
  obtain ⟨z, hd, vs, rel, dd⟩ := dk_rd I.hok e
  refine wpAny_notIn_of (kV_is ry) hd dd.mapOf ?_
  rw [← (rel.val k).isSome_eq, ← l]
  exact h _ (I.tok _)
 ·subst ey
  cases (show u = Value.ref b from ry)
  obtain ⟨z, hd, xs, rel, dd⟩ := dt_rd I.hok e
  refine wpAny_notIn_heap (tupleKind_room_in1 hu) (key_of I.hok eb) hd dd ?_
  have q := (rel.val k).isSome_eq
  rw [Option.isSome_map] at q
  rw [← q, ← l]
  exact h _ (I.tok _)
theorem d_write {h' : Heap} {t' : Nat} {ob : HO} (I : Inv X pins σ H s) (mu : Mut (H a)) (hs : Heap.SameBut a s.heap h') (he : ∃ q, h'.get? a = some q) (new : ObjOk X.prog X.w (upd H a ob) h' a ob) :
  Inv X pins σ (upd H a ob) { s with heap := h', toks := t' } :=
 I.write (x := a) (e := a) mu (.inl rfl) (fun b q hb z => (hs.2 b hb).trans z) he new
theorem dk_new {P : Program} {w : World} {H' : Hp} {h' : Heap} {kvs : List (Key × V)} {vs : List (Key × Value)} (z : kvs.length ≤ sizeLine) (hd : (a == sysModules) = false) (rel : KV kvs vs) (dd : h'.DictOf (mixKind P w) a vs) :
  ObjOk P w H' h' a (.dK kvs) := ⟨z, hd, vs, rel, dd⟩
theorem d_setItem {H' : Hp} {Q : Unit → Shared → Prop} (hu : A.units + 1 < cLine) (I : Inv X pins σ H s) (g : DPut H a y v H') (ry : RelV y u) (rv : RelV v r) (h : ∀ s', Inv X pins σ H' s' → Q () s') :
  wpAny (model X.prog X.w) A (setItem (.ref a) u r) Q E s := by
 rcases g with ⟨kvs, k, e, ey, l, eH⟩ | ⟨kvs, k, b, e, ey, eb, l, eH⟩
 ·subst ey eH
  obtain ⟨z, hd, vs, rel, dd⟩ := dk_of I.hok e
  have hz : vs.length ≤ sizeLine := by rw [← rel.length]; exact z
  have hl : (putK kvs k v).length ≤ sizeLine := by have := length_putK kvs k v; omega
  refine wpAny_setItem_pairs (hsz := hz) (kV_is ry) dd fun h' dd' hs => h _ ?_
  have he : ∃ q, h'.get? a = some q := let ⟨q, _, _, hq, _⟩ := dd'; ⟨q, hq⟩
  exact d_write I (by rw [e]; exact True.intro) hs he (dk_new hl hd (rel.put k rv) dd')
 ·subst ey eH
  cases (show u = Value.ref b from ry)
  obtain ⟨z, hd, xs, rel, dd⟩ := dt_of I.hok e
  have hz : xs.length ≤ sizeLine := by rw [← Paired.length rel]; exact z
  have hl : (putK kvs k v).length ≤ sizeLine := by have := length_putK kvs k v; omega
  refine wpAny_setItem_heap (hsz := hz) (tupleKind_room_in1 hu) (key_of I.hok eb) dd fun h' dd' hs => h _ ?_
  obtain ⟨q, es, ep, hq, h2, h3, h4, _, h5⟩ := dd'
  refine d_write I (by rw [e]; exact True.intro) hs ⟨q, hq⟩ ⟨hl, hd, _, (rel.put k eb rv).keeps fun c ys ec => ?_, q, es, ep, hq, h2, h3, h4, h5⟩
  rw [upd_ne (ne_of ec e (fun z => nomatch z))]
  exact ec
end
section
variable {X : Cx} {pins : List (Addr × Obj)} {σ : St} {H : Hp} {s : Shared} {a : Addr} {kvs : List (Key × V)} {k : Key} {u : Value} {A : Around} {E : Value → Shared → Prop}
theorem d_len {Q : Value → Shared → Prop} (I : Inv X pins σ H s) (e : Rd H a (.dK kvs)) (h : ∀ t s', Inv X pins σ H s' → Q (.int kvs.length t) s') : wpAny (model X.prog X.w) A (call (.builtin "len") [.ref a]) Q E s := by
 obtain ⟨z, hd, vs, rel, dd⟩ := dk_rd I.hok e
 refine call_len_dict hd dd (by rw [← rel.length]; rw [sizeLine_eq] at z; omega) ?_
 rw [← rel.length]
 exact h _ _ (I.tok _)
end
theorem dict_typeIs {X : Cx} {pins : List (Addr × Obj)} {σ : St} {H : Hp} {s : Shared} {a : Addr} {y : V} {o : Option V} (I : Inv X pins σ H s) (g : DGet H a y o) : s.TypeIs (.ref a) "dict" := by
 rcases g with ⟨kvs, k, e, _, _⟩ | ⟨kvs, k, b, e, _, _, _⟩
 ·obtain ⟨_, _, vs, _, dd⟩ := dk_rd I.hok e
  exact dd.typeIs
 ·obtain ⟨_, _, xs, _, dd⟩ := dt_rd I.hok e
  exact dd.typeIs
section
variable {X : Cx} {o i e value : Expr} {pos pos' tpos : Pos} {td ty tv : TE}
end
theorem dk_empty {P : Program} {w : World} {H : Hp} (h : Heap) (hb : sysModules < h.objs.size) : ObjOk P w H (h.push { cls := .type "dict", data := .dict #[] }) h.objs.size (.dK []) :=
 ⟨Nat.zero_le _, beq_eq_false_iff_ne.mpr (Ne.symm (Nat.ne_of_lt hb)), [], .nil, Heap.DictOf.new h⟩
def tDNewK : TE := fun _ H Q => ∀ p, H p = none → Q (.ref p) (upd H p (.dK []))
section
variable {X : Cx} {pos : Pos}
theorem pe_dnewK : PE X (.Dict [] [] pos) tDNewK := fun pins s σ H Q I h =>
 wpAny_Dict_empty ⟨.ref s.heap.objs.size, _, I.laid (a := s.heap.objs.size) (o := .dK []) (t' := s.toks) (fun _ _ q => Heap.get?_push_of_some _ q) (Nat.le_refl _) (dk_empty s.heap I.big), rfl, h _ (I.hok.fresh (Nat.le_refl _))⟩
end
def tPairs : List (TE × TE) → St → Hp → (List (V × V) → Hp → Prop) → Prop
 | [], _, H, Q => Q [] H
 |(tk, tv) :: r, σ, H, Q => tk σ H fun x H1 => tv σ H1 fun y H2 => tPairs r σ H2 fun ps H3 => Q ((x, y) :: ps) H3
abbrev VV : List (V × V) → List (Value × Value) → Prop := Paired fun p q => RelV p.1 q.1 ∧ RelV p.2 q.2
def PPs (X : Cx) (pos : Pos) (keys : List (Option Expr)) (values : List Expr) (trs : List (TE × TE)) : Prop :=
 ∀ (pins : List (Addr × Obj)) (s : Shared) (σ : St) (H : Hp) (Q : List (V × V) → Hp → Prop), Inv X pins σ H s → tPairs trs σ H Q →
  wpAny (model X.prog X.w) X.A (evalPairs (pairTrees keys values X.env pos)) (fun vs s' => ∃ ps H', Inv X pins σ H' s' ∧ VV ps vs ∧ Q ps H') X.xe s
theorem pps_nil {X : Cx} {pos : Pos} : PPs X pos [] [] [] := fun pins s σ H Q I h => pairTrees_nil_walk ⟨[], H, I, .nil, h⟩
theorem pps_cons {X : Cx} {pos : Pos} {k v : Expr} {ks : List (Option Expr)} {vs : List Expr} {tk tv : TE} {trs : List (TE × TE)} (hk : PE X k tk) (hv : PE X v tv) (hr : PPs X pos ks vs trs) :
  PPs X pos (some k :: ks) (v :: vs) ((tk, tv) :: trs) := fun pins s σ H Q I h =>
 pairTrees_cons_walk (thn (hk pins s σ H _ I h) fun u s1 ⟨x, H1, I1, rx, q1⟩ => thn (hv pins s1 σ H1 _ I1 q1) fun w2 s2 ⟨y, H2, I2, ry, q2⟩ =>
  thn (hr pins s2 σ H2 _ I2 q2) fun ws s3 ⟨ps, H3, I3, rel, q3⟩ => ⟨(x, y) :: ps, H3, I3, .cons ⟨rx, ry⟩ rel, q3⟩)
def mergeK (kvs more : List (Key × V)) : List (Key × V) := more.foldl (fun acc kv => putK acc kv.1 kv.2) kvs
theorem KV.merge : ∀ {more : List (Key × V)} {rs : List (Key × Value)} {kvs : List (Key × V)} {vs : List (Key × Value)}, KV more rs → KV kvs vs → KV (mergeK kvs more) (merged vs rs) := by
 intro more rs kvs vs r
 unfold KV at r
 induction r generalizing kvs vs with
 | nil => intro q; exact q
 | @cons p q ps qs h t ih =>
  intro r0
  have e : KV (putK kvs p.1 p.2) (stored vs q.1 q.2) := by
   have := r0.put p.1 h.2
   rw [← h.1]; exact this
  exact ih e
theorem length_mergeK : ∀ (more kvs : List (Key × V)), (mergeK kvs more).length ≤ kvs.length + more.length
 | [], kvs => by show kvs.length ≤ kvs.length + 0; omega
 | p :: r, kvs => by
  have h1 := length_mergeK r (putK kvs p.1 p.2)
  have h2 := length_putK kvs p.1 p.2
  show (mergeK (putK kvs p.1 p.2) r).length ≤ _
  rw [List.length_cons]; omega
theorem carries_of {P : Program} {w : World} : ∀ {kvs : List (Key × V)} {ws : List (Value × Value)}, VV (kvs.map fun kv => (kV kv.1, kv.2)) ws → ∃ rs, Carries (mixKind P w) ws rs ∧ KV kvs rs
 | [], _, r => by rw [List.map_nil] at r; cases r; exact ⟨[], True.intro, .nil⟩
 | p :: kvs, _, r => by
  rw [List.map_cons] at r
  cases r with
  | @cons a b as bs h t =>
   obtain ⟨rs, c, q⟩ := carries_of (P := P) (w := w) t
   obtain ⟨b1, b2⟩ := b
   exact ⟨(p.1, b2) :: rs, ⟨kV_is h.1, rfl, c⟩, .cons ⟨rfl, h.2⟩ q⟩
def tDisp (trs : List (TE × TE)) : TE := fun σ H Q => ∀ p, H p = none → tPairs trs σ (upd H p (.dK [])) fun ps H2 => H2 p = some (.dK []) ∧ ∃ kvs : List (Key × V), ps = kvs.map (fun kv => (kV kv.1, kv.2)) ∧ kvs.length ≤ 15 ∧ Q (.ref p) (upd H2 p (.dK (mergeK [] kvs)))
theorem pe_disp {X : Cx} {pos : Pos} {keys : List (Option Expr)} {values : List Expr} {trs : List (TE × TE)} (h : PPs X pos keys values trs) (hall : keys.all (·.isSome) = true) (hl : keys.length = values.length) (h0 : keys ≠ [])
  (h15 : keys.length ≤ 15) : PE X (.Dict keys values pos) (tDisp trs) := by
 intro pins s σ H Q I q
 have hn := I.hok.fresh (Nat.le_refl s.heap.objs.size)
 have I1 := I.laid (a := s.heap.objs.size) (o := .dK []) (h' := s.heap.push { cls := .type "dict", data := .dict #[] }) (t' := s.toks) (fun _ _ q => Heap.get?_push_of_some _ q) (Nat.le_refl _) (dk_empty s.heap I.big)
 refine wpAny_Dict_walk (knd := mixKind X.prog X.w) hall hl h0 h15 (thn (h pins _ σ _ _ I1 (q _ hn)) fun ws s2 ⟨ps, H2, I2, rel, e, kvs, ep, lk, q2⟩ => ?_)
 subst ep
 obtain ⟨rs, c, rk⟩ := carries_of (P := X.prog) (w := X.w) rel
 obtain ⟨z, hd, vs0, r0, dd⟩ := dk_of I2.hok e
 cases r0
 refine ⟨rs, c, dd, fun h' dd' hs => ⟨.ref s.heap.objs.size, _, ?_, rfl, q2⟩⟩
 have hz : (mergeK [] kvs).length ≤ sizeLine := by
  have h1 := length_mergeK kvs []
  rw [List.length_nil] at h1
  rw [sizeLine_eq]; omega
 have he : ∃ q, h'.get? s.heap.objs.size = some q := let ⟨q, _, _, hq, _⟩ := dd'; ⟨q, hq⟩
 exact d_write I2 (by rw [e]; exact True.intro) hs he (dk_new hz hd (rk.merge .nil) dd')
structure M1 (X : Cx) (o : Expr) (m : Str) (apos : Pos) (e : Expr) (cpos : Pos) : Prop where
 base : attributeBase o m X.env (eval o X.env) = eval o X.env
 few : ((backTo cpos (starEach [e] X.env)).all (fun x => !x.1) && (backToKw cpos (keywordEach [] X.env)).all (fun x => x.1.isSome)
  && decide (([e] : List Expr).length + ([] : List Keyword).length + (if ([] : List Keyword).isEmpty then 0 else 1) < 30)) = true
 line : (apos.endLine == cpos.line) = true
 trees : backTo cpos (starEach [e] X.env) = [(false, eval e X.env)]
structure M2 (X : Cx) (o : Expr) (m : Str) (apos : Pos) (e f : Expr) (cpos : Pos) : Prop where
 base : attributeBase o m X.env (eval o X.env) = eval o X.env
 few : ((backTo cpos (starEach [e, f] X.env)).all (fun x => !x.1) && (backToKw cpos (keywordEach [] X.env)).all (fun x => x.1.isSome)
  && decide (([e, f] : List Expr).length + ([] : List Keyword).length + (if ([] : List Keyword).isEmpty then 0 else 1) < 30)) = true
 line : (apos.endLine == cpos.line) = true
 trees : backTo cpos (starEach [e, f] X.env) = [(false, eval e X.env), (false, eval f X.env)]
section
variable {X : Cx} {pins : List (Addr × Obj)} {σ : St} {H : Hp} {s : Shared} {a : Addr} {y d : V} {u r : Value} {o : Option V} {A : Around} {E : Value → Shared → Prop}
theorem d_get2 {Q : Value → Shared → Prop} (hu : A.units + 1 < cLine) (I : Inv X pins σ H s) (g : DGet H a y o) (ry : RelV y u) (rd : RelV d r) (h : ∀ w' s', Inv X pins σ H s' → RelV (o.getD d) w' → Q w' s') :
  wpAny (model X.prog X.w) A (call (.builtin "dict.get") [.ref a, u, r]) Q E s := by
 rcases g with ⟨kvs, k, e, ey, l⟩ | ⟨kvs, k, b, e, ey, eb, l⟩
 ·subst ey
  obtain ⟨z, hd, vs, rel, dd⟩ := dk_rd I.hok e
  refine call_meetsIn PySem.F.slot_dict_get dd.typeIs PySem.F.entry_dict_get (PySem.F.args_dict_get_3 _ _ _) (meets_dict_get_default (mixKind X.prog X.w) a (kV_is ry) hd r) ⟨_, dd.mapOf, h _ _ (I.tok _) ?_⟩
  rw [l]
  exact (rel.val k).getD rd
 ·subst ey
  cases (show u = Value.ref b from ry)
  obtain ⟨z, hd, xs, rel, dd⟩ := dt_rd I.hok e
  refine call_meetsIn PySem.F.slot_dict_get dd.typeIs PySem.F.entry_dict_get (PySem.F.args_dict_get_3 _ _ _) (meetsH_dict_get_default (tupleKind (mixKind X.prog X.w)) a b hd r) ⟨tupleKind_room_in1 hu, k, xs, key_of I.hok eb, dd, h _ _ (I.tok _) ?_⟩
  rw [l]
  exact (rel.val k).getD rd
end
section
variable {X : Cx} {o e f : Expr} {apos cpos : Pos} {td ty tx : TE}
end
section
variable {X : Cx} {pins : List (Addr × Obj)} {σ : St} {H : Hp} {s : Shared} {a : Addr} {kvs : List (Key × V)} {A : Around} {E : Value → Shared → Prop}
theorem d_copyOf {Q : Value → Shared → Prop} (I : Inv X pins σ H s) (e : Rd H a (.dK kvs)) (h : ∀ p s', H p = none → Inv X pins σ (upd H p (.dK kvs)) s' → Q (.ref p) s') : wpAny (model X.prog X.w) A (call (.type "dict") [.ref a]) Q E s := by
 obtain ⟨z, hd, vs, rel, dd⟩ := dk_rd I.hok e
 refine kt_call_dict hd dd (by rw [← rel.length]; exact z) fun h' dd' hs => ?_
 refine h _ _ (I.hok.fresh (Nat.le_refl _)) (I.laid (a := s.heap.objs.size) (o := .dK kvs) (t' := s.toks) (fun b q hq => ?_) (Nat.le_refl _) (dk_new z (beq_eq_false_iff_ne.mpr (Ne.symm (Nat.ne_of_lt I.big))) rel dd'))
 exact (hs.2 b (Nat.ne_of_lt (Heap.lt_size hq))).trans (Heap.get?_push_of_some _ hq)
end
section
variable {X : Cx} {pins : List (Addr × Obj)} {σ : St} {H : Hp} {s : Shared} {a : Addr} {y : V} {u : Value} {A : Around} {E : Value → Shared → Prop}
end
end L2
namespace Att
open PySem PySem.W PySem.Calls PyProof.Rows
theorem ints_of_wellAll {P : Params} {h : Heap} : ∀ (ns : List Int) (vs : List Value), WellAll P h vs (ns.map WData.int) → IntsAre vs ns := by
 intro ns
 induction ns with
 | nil =>
  intro vs w
  rw [List.map_nil] at w
  cases w
  exact .nil
 | cons n ns ih =>
  intro vs w
  rw [List.map_cons] at w
  cases w with
  | cons a b =>
   cases a
   exact .cons _ _ (ih _ b)
theorem script_of {l : OpenLaw} {n : Nat} (hn : l.most = some n) {P : Params} {h : Heap} {args : List WData} {vals : List Value}
  (hpre : l.row.toRowW.claim.pre args = true) (hwl : WellAll P h vals args) :
  ∃ a vs ns, vals = [Value.ref a] ∧ args = [WData.list (ns.map WData.int)] ∧ h.get? a = some { cls := .type "list", data := .seq vs.toArray } ∧ IntsAre vs ns ∧ ns.length ≤ n := by
 have hsh : WShape.hasAll [] args [.list .int] = true := (pre_splitW hpre).1
 have hc : l.pre.holds [] { args := args } = true := (pre_splitW hpre).2
 obtain ⟨d, r, rfl, h1, h2⟩ := hasAllW_cons hsh
 obtain rfl := hasAllW_nil h2
 obtain ⟨xs, rfl, h3⟩ := hasW_list h1
 obtain ⟨ns, rfl⟩ := items_int h3
 have hlen : ns.length ≤ n := by
  unfold OpenLaw.pre at hc
  have h4 : (WTm.not (.lt (.lit (.int (n : Int))) (.len (.arg 0)))).holds [] { args := [.list (ns.map .int)] } = true := by
   have h4 := (holds_andW hc).1
   rw [hn] at h4
   exact h4
  have h5 := condW_of h4 (w_not (w_lt w_lit (w_len_list (w_arg rfl))))
  rw [List.length_map] at h5
  refine Nat.le_of_not_lt fun q => ?_
  have q' : (n : Int) < ((ns.length : Nat) : Int) := by omega
  first
   |(rw [decide_eq_true q'] at h5; exact absurd h5 (by decide))
   |(simp at h5; omega)
 cases hwl with
 | cons w1 w2 =>
  cases w2
  cases w1 with
  | list ho hall => exact ⟨_, _, ns, rfl, rfl, ho, ints_of_wellAll ns _ hall, hlen⟩
theorem post_true (l : OpenLaw) (args : List WData) : l.row.toRowW.claim.post args (.bool true) args = true :=
 postW_of (r := l.row.toRowW) (X := (true == true))
  (show WShape.has [] (.bool true) .bool = true by first | rfl | decide | simp [WShape.has, WShape.arms, WShape.armsAll])
  (show (WTm.eq .res (.lit (.bool true))).value [] { args := args, res := some (.bool true), after := args } = some (.bool (true == true)) from w_eq_bool (w_res rfl) w_lit) rfl
section
variable {prog : Program} {w : World} {A : Around} {E : Value → Shared → Prop} {s : Shared} {K : Frag}
end
end Att
namespace L2
open PySem PySem.Spec PyProof.Rows
theorem vals_ints : ∀ {vs : List Value} {ns : List Int}, IntsAre vs ns → Vals (ns.map V.int) vs
 | _, _, .nil => .nil
 | _, _, .cons n t h => .cons ⟨t, rfl⟩ (vals_ints h)
def Only (H : Hp) : Prop := ∀ b, H b = none ∨ ∃ o xs, H b = some (.frz o (.lst xs))
theorem law_call {P : Program} {w : World} {K : PySem.W.Frag} {mg mb : Str → Option Value} {CX : CXT} {k : Nat} {fa a : Addr} {fd : FuncData} {x : Str} {sp : Sp} {s₁ : Shared} {vs : List Value} {ns : List Int}
  (KX : K.In s₁.heap) (hns : s₁.heap.Ns mainGlobals mg) (hb : s₁.heap.Ns builtinsNs mb) (hbb : ∀ x : Str, x ≠ "__name__" → mb x = bootBuiltins x) (hlim : s₁.heap.NoLimit) (hg : s₁.gens = #[])
  (ha : s₁.heap.get? a = some { cls := .type "list", data := .seq vs.toArray }) (hi : IntsAre vs ns) (hl : ns.length ≤ sizeLine) (hr : Room k callerA)
  (F : ∀ base : Heap, K.In base → base.Ns mainGlobals mg → FnOk P w K mg base CX k fa fd [x] sp) (hbind : ∀ (s : Shared) (u : Value), BindsTo s fd ⟨[u], []⟩ [(x, u)])
  (hsp : ∀ H : Hp, Only H → SqL K H a (ns.map V.int) → sp [.ref a] H (fun v _ => v = .bl true) fun _ _ _ => False)
  (hCX : ∀ H e s', CX [] H s₁ (fun _ _ _ => False) e s' → False) :
  codeAny (model P w) callerA (.call (.ref fa) ⟨[.ref a], []⟩) (fun r s' => r = .ok (.ret (.bool true)) ∧ OldK s₁.heap s'.heap ∧ s'.os = s₁.os ∧ AllBare s'.gens) s₁ := by
 have rv := vals_ints hi
 have lenV := hi.length
 have core : ∀ H : Hp, Only H → SqL K H a (ns.map V.int) → HOk P w H s₁.heap → (∀ b, H b ≠ none → b = a) → (H a ≠ none → K.lookup a = none) →
   codeAny (model P w) callerA (.call (.ref fa) ⟨[.ref a], []⟩) (fun r s' => r = .ok (.ret (.bool true)) ∧ OldK s₁.heap s'.heap ∧ s'.os = s₁.os ∧ AllBare s'.gens) s₁ := by
  intro H hO hS hok hA hK
  have base_of : ∀ {b : Addr} {o : Obj}, s₁.heap.get? b = some o → H b = none → (hidT s₁.heap H).get? b = some o := fun e n => hidT_get e n
  have noA : ∀ {b : Addr} {o : Obj} {es : Array DictEntry} {ep : Nat}, s₁.heap.get? b = some o → o.data = .dict es ep → H b = none := fun {b o es ep} e d => by
   cases q : H b with
   | none => rfl
   | some u =>
    have e' : b = a := hA b (by rw [q]; simp)
    subst e'
    rw [ha] at e; cases e
    have d' : Data.seq vs.toArray _ = Data.dict es ep := d
    cases d'
  have nsK : ∀ {b : Addr} {m : Str → Option Value}, s₁.heap.Ns b m → (hidT s₁.heap H).Ns b m := fun {b m} ⟨o, es, ep, e, d, r⟩ => ⟨o, es, ep, base_of e (noA e d), d, r⟩
  have hKb : K.In (hidT s₁.heap H) := fun b o e => base_of (KX b o e) (by
   cases q : H b with
   | none => rfl
   | some u =>
    have e' : b = a := hA b (by rw [q]; simp)
    subst e'
    rw [hK (by rw [q]; simp)] at e; cases e)
  have hM : Mod K mg (hidT s₁.heap H) := ⟨hKb, nsK hns, ⟨mb, nsK hb, hbb⟩, let ⟨mc, h1, h2⟩ := hlim; ⟨mc, nsK h1, h2⟩⟩
  have e0 : Env0 P w K mg (hidT s₁.heap H) callerA [] s₁ H := ⟨rfl, hM, fun b o e => of_hidT e, Nat.le_of_eq (hidT_size _ _), trivial, fun b hb => absurd (show b ∈ ([] : List Addr) from hb) (by simp), hok, .of_eq hg⟩
  refine codeAny_mono ((F _ hKb (nsK hns)).run callerA [] s₁ H ⟨[.ref a], []⟩ [.ref a] [.ref a] _ _ hr e0 (hbind s₁ (.ref a)) (.cons rfl .nil) (hsp H hO hS)) fun r s' h => ?_
  cases r with
  | error e => exact (hCX H e s' h).elim
  | ok fl =>
   cases fl with
   | next => exact False.elim h
   | brk => exact False.elim h
   | cont => exact False.elim h
   | ret u =>
    obtain ⟨v, H', os, bare, un, hok', r', q⟩ := h
    have q' : v = .bl true := q
    subst q'
    obtain rfl : u = Value.bool true := r'
    refine ⟨rfl, OldK.of_keep fun b o e => ?_, os, bare⟩
    cases q : H b with
    | none => exact un.keep b o e q (by intro z; exact absurd (show b ∈ ([] : List Addr) from z) (by simp)) (by simp)
    | some u =>
     rcases hO b with z | ⟨ob, xs, z⟩
     ·rw [q] at z; cases z
     ·have z2 := un.frzs b ob _ z
      obtain ⟨e1, _⟩ := hok b _ z
      obtain ⟨e2, _⟩ := hok' b _ z2
      rw [e] at e1; cases e1
      exact e2
 cases hk : K.lookup a with
 | some o =>
  have e := KX a o hk
  rw [ha] at e
  cases e
  refine core (fun _ => none) (fun _ => .inl rfl) (.inr ⟨_, vs.toArray, _, hk, rfl, rfl, rfl, by rw [List.size_toArray, lenV]; exact hl, by simpa using rv⟩) (fun b u z => by have z' : (none : Option HO) = some u := z; cases z') (fun b z => absurd rfl z) fun z => absurd rfl z
 | none =>
  refine core (fun b => if b = a then some (.frz { cls := .type "list", data := .seq vs.toArray } (.lst (ns.map V.int))) else none) (fun b => ?_) (.inl (.inr ⟨{ cls := .type "list", data := .seq vs.toArray }, if_pos rfl⟩)) (fun b u z => ?_) (fun b z => ?_) fun _ => hk
  ·by_cases hb : b = a
   ·exact .inr ⟨_, _, if_pos hb⟩
   ·exact .inl (if_neg hb)
  ·by_cases hb : b = a
   ·have z' := (if_pos hb).symm.trans z
    cases z'
    subst hb
    exact ⟨ha, by rw [List.length_map]; exact hl, vs, _, rv, ha⟩
   ·have z' := (if_neg hb).symm.trans z
    cases z'
  ·by_cases hb : b = a
   ·exact hb
   ·exact absurd (if_neg hb) z
end L2
/- THE LAST THEOREM (shape; LID, My.* are yours):
  My.Adr: a structure of the addresses that your layer names (classes, functions); My.Txt K t: a structure (Prop) of the equations over K;
  My.txt_mk : {K} {implicit addresses ..} (e1 : nsIn K mainGlobals "law" = some (some (.ref f))) (e2 : K.lookup f = some ⟨oc, od, .func (fnOf "law" "law" params body scope dV kV doc pm an cdv ct), sl⟩) (e3 : codeIn K cdv "law" = true) .. : ∃ t, My.Txt K t
set_option maxRecDepth 100000 in
set_option maxHeartbeats 0 in
theorem PySem.Challenge.cw_LID_holds : PySem.Challenge.rw_LID.Holds := by
 w_on; o_law; k_head; (case hw => w_witness2)
 k_fill
 refine L2.walk_of (l := PySem.Challenge.rw_LID) (n := 63) (k := 40) (x := "script") (CX := fun w => ..) (sp := fun _ => My.sp_law) rfl (by decide) rfl ⟨rfl, by decide, by decide⟩ (fun w h Y => PySem.W.kIn_of Y) ?F ?S ?C
 case F =>
  intro w mg fa h KX G hmg
  have T : ∃ t, My.Txt (L2.KOf KX) t := by
   dsimp only [L2.KOf]                          -- K must stand as «<heap const> w.params» for k_is
   refine' My.txt_mk ?e1 ?e2 ?e3 ..
   (case e1 => PySem.W.k_is)                    -- in the order: a name -> its address -> its object -> its parts
   (case e2 => PySem.W.k_is)
   ..
  obtain ⟨t, T⟩ := T
  have e0 := hmg.symm.trans (PySem.W.mg_of KX G T.law)
  cases e0                                       -- fa is the law's own address
  exact ⟨_, fun s u => .of_eq rfl, fun base kb nb => My.law_fn T kb nb⟩     -- if «.of_eq rfl» comes too early: refine' ⟨_, ?b, fun base kb nb => My.law_fn T kb nb⟩; exact fun s u => .of_eq rfl
 case S => exact fun w H a ns hl hO hS => ..
 case C => exact ..
(the tactic k_is has no namespace: write k_is) -/
namespace L2
open PySem PySem.Spec PyProof.Rows
def defArgs (s : Stmt) : Arguments := match s with
 | .FunctionDef _ a _ _ _ _ _ _ _ _ => a
 | _ => { posonlyargs := [], args := [], vararg := none, kwonlyargs := [], kw_defaults := [], kwarg := none, defaults := [] }
def defBody (s : Stmt) : List Stmt := match s with
 | .FunctionDef _ _ b _ _ _ _ _ _ _ => b
 | _ => []
def defScope (s : Stmt) : Scope := match s with
 | .FunctionDef _ _ _ _ _ _ sc _ _ _ => sc
 | _ => { kind := .function, names := [], isGenerator := false, isCoroutine := false }
abbrev CX0 : CXT := fun _ _ _ _ _ _ => False
abbrev E0 : XK := fun _ _ _ => False
structure Fun (K : PySem.W.Frag) (x qual : Str) (st : Stmt) (f : Addr) (fd : FuncData) : Prop where
 ex : ∃ (oc : Value) (od : Option Addr) (dV kV doc pm : Value) (an : Option Addr) (cdv ct : Value) (osl : Array (Option Value)),
  fd = PySem.W.fnOf x qual (defArgs st) (defBody st) (defScope st) dV kV doc pm an cdv ct ∧ K.lookup f = some ⟨oc, od, .func fd, osl⟩ ∧ PySem.W.codeIn K cdv qual = true
 kp : PySem.W.keepIn K (.ref f) = true
section
variable {P : Program} {w : World} {K : PySem.W.Frag} {mg : Str → Option Value} {base : Heap}
theorem Fun.ok {x qual : Str} {st : Stmt} {f : Addr} {fd : FuncData} {N ps : List Str} {k : Nat} {sp : Sp} (F : Fun K x qual st f fd) (S : FnScope N ps (defScope st)) (len : ∀ vs H Q E, sp vs H Q E → vs.length = ps.length)
  (hbody : ∀ (cdv : Value) (A : Around) (outer : List Env) (s : Shared) (H : Hp) (vs : List V) (Q : VK) (E : XK), Room k (A.deeper (envOfC qual (defScope st) s.heap.objs.size f cdv)) → sp vs H Q E →
   ∃ t, PSs (cxOf CX0 P w K mg base N qual (defScope st) f cdv A outer s H E).nox (defBody st) t ∧ t { nx := fun _ H' => Q .non H', rt := Q } (start N vs) H) : FnOk P w K mg base CX0 (k + 1) f fd ps sp := by
 obtain ⟨oc, od, dV, kV, doc, pm, an, cdv, ct, osl, rfl, lk, hcd⟩ := F.ex
 refine fn_of lk hcd S len fun A outer s H vs Q E hr hsp => ?_
 obtain ⟨t, h, q⟩ := hbody cdv A outer s H vs Q E hr hsp
 exact ⟨t, h.nox, q⟩
theorem fun_mk {x qual : Str} {st : Stmt} {f : Addr} {oc : Value} {od an : Option Addr} {osl : Array (Option Value)} {dV kV doc pm cdv ct : Value} (l : K.lookup f = some ⟨oc, od, .func (PySem.W.fnOf x qual (defArgs st) (defBody st) (defScope st) dV kV doc pm an cdv ct), osl⟩)
  (c : PySem.W.codeIn K cdv qual = true) (k : PySem.W.keepIn K (.ref f) = true) : Fun K x qual st f (PySem.W.fnOf x qual (defArgs st) (defBody st) (defScope st) dV kV doc pm an cdv ct) := ⟨⟨oc, od, dV, kV, doc, pm, an, cdv, ct, osl, rfl, l, c⟩, k⟩
end
section
variable {X : Cx}
end
def Same (H H' : Hp) : Prop := ∀ b o, H b = some o → H' b = some o
theorem Same.refl (H : Hp) : Same H H := fun _ _ h => h
theorem Same.trans {H H1 H2 : Hp} (a : Same H H1) (b : Same H1 H2) : Same H H2 := fun c o h => b c o (a c o h)
section
variable {X : Cx}
theorem call_lenD : CallR X (.builtin "len") (fun xs H Q => ∃ a kvs, xs = [V.ref a] ∧ H a = some (.dK kvs) ∧ Q (.int kvs.length) H) := by
 intro pins s σ H xs us Q I r h
 obtain ⟨a, kvs, rfl, ha, q⟩ := h
 obtain ⟨u, rfl, ru⟩ := vals1 r
 cases ru
 exact d_len I (.inl ha) fun t s' I' => ⟨.int kvs.length, H, I', ⟨t, rfl⟩, q⟩
end
section
variable {κ : Type} [DecidableEq κ]
end
end L2
namespace L3
open PySem PySem.Spec PyProof.Rows L2
def Bits (n : Nat) (x : Int) : Prop := x.natAbs < 2 ^ n
theorem log2_lt_of {m n : Nat} (h : m < 2 ^ n) (hn : 0 < n) : m.log2 < n := by
 rcases Nat.eq_zero_or_pos m with h0 | h0
 ·rw [h0]; exact hn
 ·exact (Nat.log2_lt (Nat.ne_of_gt h0)).mpr h
section
variable {X : Cx}
def CDivB (_ j : Int) : Prop := j ≠ 0 ∧ j.natAbs.log2 < 9000
theorem op_fdivB : OpR X (binaryOp .FloorDiv) (rI CDivB fun i j => .int (i.fdiv j)) := opI fun _ _ _ _ _ _ _ hc q => floordiv_int hc.1 q (.inl (PyProof.noPylong_of_log2 hc.2))
theorem op_mulB : OpR X (binaryOp .Mult) (rI IntMulOk fun i j => .int (i * j)) := opI fun _ _ _ _ _ _ _ hc q => mul_int q hc
def rIsB (K : PySem.W.Frag) : List V → Hp → VK → Prop := fun xs H Q => ∃ x n t b, xs = [x, .ty n] ∧ TyOf K H x t ∧ PySem.W.kitOne K t (.type n) = some b ∧ Q (.bl b) H
theorem call_isB : CallR X (.builtin "isinstance") (rIsB X.K) := by
 intro pins s σ H xs us Q I r h
 obtain ⟨x, n, t, b, rfl, ty, e, q⟩ := h
 obtain ⟨u, v, rfl, ru, rv⟩ := vals2 r
 obtain rfl : v = Value.type n := rv
 exact isinst_ok I ru ty e fun tk => ⟨.bl b, H, I.tok tk, rfl, q⟩
end
mutual
def Rep (K : PySem.W.Frag) (H : Hp) : PyData → V → Prop
 | .none, v => v = .non
 | .bool b, v => v = .bl b
 | .int i, v => v = .int i
 | .str x, v => v = .str x
 | .list ds, v => ∃ a xs, v = .ref a ∧ SqL K H a xs ∧ RepAll K H ds xs
 | .tuple ds, v => ∃ a xs, v = .ref a ∧ SqT K H a xs ∧ RepAll K H ds xs
 | .dict _, _ => False
def RepAll (K : PySem.W.Frag) (H : Hp) : List PyData → List V → Prop
 | [], xs => xs = []
 | d :: ds, xs => ∃ v vs, xs = v :: vs ∧ Rep K H d v ∧ RepAll K H ds vs
end
section
variable {X : Cx} {pins : List (Addr × Obj)} {σ : L2.St} {H : Hp} {s : Shared}
mutual
theorem Rep.reads (I : Inv X pins σ H s) : ∀ (d : PyData) (v : V) (u : Value), Rep X.K H d v → RelV v u → ∃ as, Reads s.heap u d as
 | .none, v, u, h, r => by
  unfold Rep at h; subst h
  cases (show u = Value.none from r)
  exact ⟨[], .none⟩
 | .bool b, v, u, h, r => by
  unfold Rep at h; subst h
  cases (show u = Value.bool b from r)
  exact ⟨[], .bool b⟩
 | .int i, v, u, h, r => by
  unfold Rep at h; subst h
  obtain ⟨t, rfl⟩ := (show ∃ t, u = Value.int i t from r)
  exact ⟨[], .int i t⟩
 | .str x, v, u, h, r => by
  unfold Rep at h; subst h
  obtain ⟨t, rfl⟩ := (show ∃ t, u = Value.str x t from r)
  exact ⟨[], .str x t⟩
 | .list ds, v, u, h, r => by
  unfold Rep at h
  obtain ⟨a, xs, rfl, hq, ha⟩ := h
  cases (show u = Value.ref a from r)
  obtain ⟨its, rv, ⟨o, n, h1, h2, _, h4⟩, _⟩ := I.list hq
  obtain ⟨as, hr⟩ := RepAll.reads I ds xs its ha rv
  exact ⟨_, .list h1 h2 h4 hr⟩
 | .tuple ds, v, u, h, r => by
  unfold Rep at h
  obtain ⟨a, xs, rfl, hq, ha⟩ := h
  cases (show u = Value.ref a from r)
  obtain ⟨its, rv, ⟨o, h1, h2, n, h4⟩, _⟩ := I.tuple hq
  obtain ⟨as, hr⟩ := RepAll.reads I ds xs its ha rv
  exact ⟨_, .tuple h1 h2 h4 hr⟩
 | .dict kvs, v, u, h, r => by
  unfold Rep at h
  exact h.elim
theorem RepAll.reads (I : Inv X pins σ H s) : ∀ (ds : List PyData) (xs : List V) (us : List Value), RepAll X.K H ds xs → Vals xs us → ∃ as, ReadsAll s.heap us ds as
 | [], xs, us, h, r => by
  unfold RepAll at h; subst h
  cases r
  exact ⟨[], .nil⟩
 | d :: ds, xs, us, h, r => by
  unfold RepAll at h
  obtain ⟨v, vs, rfl, h1, h2⟩ := h
  cases r with
  | cons r1 r2 =>
   obtain ⟨as, q1⟩ := Rep.reads I d v _ h1 r1
   obtain ⟨bs, q2⟩ := RepAll.reads I ds vs _ h2 r2
   exact ⟨_, .cons q1 q2⟩
end
end
section
variable {X : Cx}
def rEqD (K : PySem.W.Frag) (neg : Bool) : R2 := fun x y H Q => ∃ da db, Rep K H da x ∧ Rep K H db y ∧ da.canLay0 = true ∧ db.canLay0 = true ∧ min da.depth db.depth ≤ 60 ∧ Q (.bl (if neg then !PyData.eqv da db else PyData.eqv da db)) H
theorem op_eqD (hu : X.A.units + 64 < cLine) : OpR X (compareOp .Eq) (rEqD X.K false) := by
 intro pins s σ H x y v u Q I rx ry h
 obtain ⟨da, db, h1, h2, h3, h4, h5, q⟩ := h
 obtain ⟨as, q1⟩ := Rep.reads I da x v h1 rx
 obtain ⟨bs, q2⟩ := Rep.reads I db y u h2 ry
 exact PySem.SeqAt.compareEq_reads q1 q2 h3 h4 (by omega) ⟨.bl _, H, I, rfl, q⟩
end
end L3
namespace L3
open PySem PySem.W PySem.Calls PyProof.Rows L2
def bigN : Nat := 1048576
theorem weight_ints : ∀ (ns : List Int) (i : Int), i ∈ ns → WData.weight (.int i) ≤ WData.weightAll (ns.map WData.int)
 | [], _, h => nomatch h
 | n :: r, i, h => by
  rw [List.map_cons]
  have e : WData.weightAll (WData.int n :: r.map WData.int) = WData.weight (.int n) + 1 + WData.weightAll (r.map WData.int) := by simp [WData.weightAll]
  rw [e]
  rcases List.mem_cons.mp h with q | q
  ·subst q; omega
  ·have := weight_ints r i q; omega
theorem bits_of_layable {ns : List Int} (h : WData.layableAll [WData.list (ns.map WData.int)] = true) : ∀ i ∈ ns, Bits bigN i := by
 intro i hi
 have h1 : WData.layable (WData.list (ns.map WData.int)) = true := by simpa [WData.layableAll] using h
 unfold WData.layable at h1
 rw [Bool.and_eq_true] at h1
 have h2 : WData.weight (WData.list (ns.map WData.int)) ≤ 2 ^ 20 := of_decide_eq_true h1.2
 have h3 : WData.weight (WData.list (ns.map WData.int)) = WData.weightAll (ns.map WData.int) := by simp [WData.weight]
 have h4 := weight_ints ns i hi
 have h5 : WData.weight (.int i) = if i == 0 then 0 else i.natAbs.log2 + 1 := by simp [WData.weight]
 unfold Bits bigN
 by_cases h0 : i = 0
 ·subst h0; exact Nat.two_pow_pos _
 ·have hb : (i == 0) = false := by simpa using h0
  rw [hb] at h5
  have h6 : i.natAbs.log2 < 1048576 := by
   have : (2 : Nat) ^ 20 = 1048576 := by decide
   simp only [Bool.false_eq_true, if_false] at h5
   omega
  exact (Nat.log2_lt (by omega)).mp h6
theorem attach_callB {l : OpenLaw} {n : Nat} {q : Program} {loose : List Str} {XP : (Str → Option Value) → Heap → Prop} {YP : World → Heap → Prop} {d : DefRec} (hn : l.most = some n) (hdf : d.params.defaults = [])
  (call : ∀ (w : World) (s₀ s₁ : Shared) (mg mb : Str → Option Value) (fa : Addr) (o : Obj) (pm cd doc : Value) (a : Addr) (vs : List Value) (ns : List Int),
   Ground q loose [] XP w s₀ mg mb s₁.heap → YP w s₁.heap → mg d.name = some (.ref fa) →
   s₁.heap.get? a = some { cls := .type "list", data := .seq vs.toArray } → IntsAre vs ns → ns.length ≤ n → (∀ i ∈ ns, Bits bigN i) → s₁.gens = #[] →
   codeAny (model l.prog w) callerA (.call (.ref fa) ⟨[.ref a], []⟩) (fun r s' => r = .ok (.ret (.bool true)) ∧ OldK s₁.heap s'.heap ∧ s'.os = s₁.os ∧ AllBare s'.gens) s₁) :
  WalkO q loose XP YP l.row.toRowW d [] (fun f vs => PySem.call f vs) := by
 intro w s₀ s₁ mg mb G Y fa o pm cd doc dV kV ho hd hcd hD hmg hg args vals as hpre hlay hrd hwl hlo
 obtain ⟨a, vs, ns, rfl, rfl, hobj, hints, hlen⟩ := Att.script_of hn hpre hwl
 refine enter_call (codeAny_mono (call w s₀ s₁ mg mb fa o pm cd doc a vs ns G Y hmg hobj hints hlen (bits_of_layable hlay) hg) fun r s' hq => ?_)
 obtain ⟨rfl, h2, h3, h4⟩ := hq
 exact ⟨.inl ⟨.bool true, .bool true, [], rfl, fun _ => rfl, .bool true, Att.post_true l _, fun _ => ⟨List.Pairwise.nil, fun _ hm => (nomatch hm)⟩⟩, h2, h3, h4⟩
theorem walk_B {l : PySem.W.OpenLaw} {n k : Nat} {q : Program} {loose : List Str} {XP : (Str → Option Value) → Heap → Prop} {YP : World → Heap → Prop} {d : DefRec} {K : Params → PySem.W.Frag} {CX : World → CXT} {sp : World → Sp} {x : Str}
  (hn : l.most = some n) (hn2 : n ≤ sizeLine) (hdf : d.params.defaults = []) (hr : Room k callerA) (hY : ∀ (w : World) (h : Heap), YP w h → (K w.params).In h)
  (F : ∀ (w : World) (mg : Str → Option Value) (fa : Addr) (h : Heap), (K w.params).In h → h.Ns mainGlobals mg → mg d.name = some (.ref fa) →
   ∃ fd : FuncData, (∀ (s : Shared) (u : Value), BindsTo s fd ⟨[u], []⟩ [(x, u)]) ∧ ∀ base : Heap, (K w.params).In base → base.Ns mainGlobals mg → FnOk l.prog w (K w.params) mg base (CX w) k fa fd [x] (sp w))
  (hsp : ∀ (w : World) (H : Hp) (a : Addr) (ns : List Int), ns.length ≤ n → (∀ i ∈ ns, Bits bigN i) → Only H → SqL (K w.params) H a (ns.map V.int) → sp w [.ref a] H (fun v _ => v = .bl true) fun _ _ _ => False)
  (hCX : ∀ (w : World) (H : Hp) (s : Shared) (e : Value) (s' : Shared), CX w [] H s (fun _ _ _ => False) e s' → False) :
  PySem.W.WalkO q loose XP YP l.row.toRowW d [] (fun f vs => PySem.call f vs) := by
 refine attach_callB hn hdf fun w s₀ s₁ mg mb fa o pm cd doc a vs ns G Y hmg hobj hints hlen hbits hg => ?_
 have KX := hY w _ Y
 obtain ⟨fd, hb, hF⟩ := F w mg fa _ KX G.T.g hmg
 exact law_call KX G.T.g G.T.b G.T.builtins G.T.nolimit hg hobj hints (Nat.le_trans hlen hn2) hr hF hb (fun H hO hS => hsp w H a ns hlen hbits hO hS) fun H e s' => hCX w H s₁ e s'
end L3
namespace L3
open PySem
section
variable {P : Program} {w : World} {A : Around} {R : Result → Shared → Prop} {s : Shared} {elt tg iter c : Expr} {scope : Scope} {pos : Pos} {it acc : Value} {env : Env}
abbrev noE : Value → Shared → Prop := fun _ _ => False
theorem comp_loop0 (I : Nat → Shared → Prop)
  (turn : ∀ n s, I n s → wpAny (model P w) A (pyNext it) (fun r s1 => match r with
   | none => R (.ok .next) s1
   | some v => wpAny (model P w) A (letOwnedTupleGo tg it v) (fun _ s2 => wpAny (model P w) A (assign tg env v) (fun _ s3 => wpAny (model P w) A (eval elt env) (fun x s4 =>
     wpAny (model P w) A (call (.builtin "list.append") [acc, x]) (fun _ s5 => ∃ m, m < n ∧ I m s5) noE s4) noE s3) noE s2) noE s1) noE s)
  (n : Nat) (h : I n s) : codeAny (model P w) A (.compLoop (.ListComp elt [⟨tg, iter, [], 0⟩] scope pos) 0 it acc env) R s := by
 refine codeAny_loop rfl I (fun m z hI => ?_) n h
 show wpAny _ A ((compTurn (.ListComp elt [⟨tg, iter, [], 0⟩] scope pos) 0 it acc env).onRaise fun x => do noteFrame x env; theTreesLotGoes x) _ _ z
 refine wpAny_noted ?_
 rw [compTurn_list1]
 refine wpAny_bind (wpAny_standAt (wpAny_bind (wpAny_mono (turn m z hI) (fun r s1 h1 => ?_) fun _ _ f => f.elim)))
 cases r with
 | none => exact wpAny_pure h1
 | some v =>
  refine wpAny_bind (wpAny_mono h1 (fun _ s2 h2 => ?_) fun _ _ f => f.elim)
  refine wpAny_bind (wpAny_mono h2 (fun _ s3 h3 => ?_) fun _ _ f => f.elim)
  refine wpAny_bind (wpAny_bind (wpAny_mono h3 (fun x s4 h4 => ?_) fun _ _ f => f.elim))
  exact wpAny_bind (wpAny_mono h4 (fun _ s5 h5 => wpAny_pure (wpAny_pure ⟨rfl, h5⟩)) fun _ _ f => f.elim)
theorem comp_loop1 (I : Nat → Shared → Prop)
  (turn : ∀ n s, I n s → wpAny (model P w) A (pyNext it) (fun r s1 => match r with
   | none => R (.ok .next) s1
   | some v => wpAny (model P w) A (letOwnedTupleGo tg it v) (fun _ s2 => wpAny (model P w) A (assign tg env v) (fun _ s3 => wpAny (model P w) A (isTrue c env (eval c env)) (fun ok s4 =>
     if ok = true then wpAny (model P w) A (eval elt env) (fun x s5 => wpAny (model P w) A (call (.builtin "list.append") [acc, x]) (fun _ s6 => ∃ m, m < n ∧ I m s6) noE s5) noE s4
     else ∃ m, m < n ∧ I m s4) noE s3) noE s2) noE s1) noE s)
  (n : Nat) (h : I n s) : codeAny (model P w) A (.compLoop (.ListComp elt [⟨tg, iter, [c], 0⟩] scope pos) 0 it acc env) R s := by
 refine codeAny_loop rfl I (fun m z hI => ?_) n h
 show wpAny _ A ((compTurn (.ListComp elt [⟨tg, iter, [c], 0⟩] scope pos) 0 it acc env).onRaise fun x => do noteFrame x env; theTreesLotGoes x) _ _ z
 refine wpAny_noted ?_
 rw [compTurn_list]
 refine wpAny_bind (wpAny_standAt (wpAny_bind (wpAny_mono (turn m z hI) (fun r s1 h1 => ?_) fun _ _ f => f.elim)))
 cases r with
 | none => exact wpAny_pure h1
 | some v =>
  refine wpAny_bind (wpAny_mono h1 (fun _ s2 h2 => ?_) fun _ _ f => f.elim)
  refine wpAny_bind (wpAny_mono h2 (fun _ s3 h3 => ?_) fun _ _ f => f.elim)
  refine wpAny_bind (wpAny_tests_one (wpAny_mono h3 (fun ok s4 h4 => ?_) fun _ _ f => f.elim))
  cases ok with
  | false => exact wpAny_pure ⟨rfl, h4⟩
  | true =>
   refine wpAny_bind (wpAny_bind (wpAny_mono h4 (fun x s5 h5 => ?_) fun _ _ f => f.elim))
   exact wpAny_bind (wpAny_mono h5 (fun _ s6 h6 => wpAny_pure (wpAny_pure ⟨rfl, h6⟩)) fun _ _ f => f.elim)
end
theorem closure_go {env : Env} : ∀ (names : List (Str × NameKind)) (acc : List (Str × Addr)), (∀ n, (n, NameKind.free) ∈ names → ∃ c, env.cells.lookup n = some c) →
  (∀ x c, acc.lookup x = some c → env.cells.lookup x = some c) →
  ∃ cl, (forIn names acc fun (x : Str × NameKind) (cs : List (Str × Addr)) => match x with
   |(name, kind) => if (kind == NameKind.free) = true then do let c ← cellOf env name; pure (ForInStep.yield ((name, c) :: cs)) else pure (ForInStep.yield cs) : Sem (List (Str × Addr))) = pure cl ∧
   (∀ x c, cl.lookup x = some c → env.cells.lookup x = some c) ∧ (∀ n, (n, NameKind.free) ∈ names → ∃ c, cl.lookup n = some c) ∧ ∀ x c, acc.lookup x = some c → ∃ c', cl.lookup x = some c'
 | [], acc, _, ha => ⟨acc, rfl, ha, (fun _ h => nomatch h), fun x c e => ⟨c, e⟩⟩
 |(n, k) :: r, acc, hn, ha => by
  by_cases hk : k = .free
  ·subst hk
   obtain ⟨c, hc⟩ := hn n List.mem_cons_self
   obtain ⟨cl, e, h1, h2, h3⟩ := closure_go r ((n, c) :: acc) (fun m hm => hn m (List.mem_cons_of_mem _ hm)) (fun x d hx => by
    rw [List.lookup_cons] at hx
    cases q : x == n with
    | true => rw [q] at hx; cases hx; rw [eq_of_beq q]; exact hc
    | false => rw [q] at hx; exact ha x d hx)
   refine ⟨cl, ?_, h1, fun m hm => ?_, fun x d hx => ?_⟩
   ·rw [List.forIn_cons]
    show (bind (bind (cellOf env n) _) _ : Sem _) = _
    unfold cellOf
    rw [hc]
    exact e
   ·rcases List.mem_cons.mp hm with q | q
    ·cases q; exact h3 n c (by simp [List.lookup_cons])
    ·exact h2 m q
   ·cases q : x == n with
    | true => exact h3 x c (by rw [List.lookup_cons, q])
    | false => exact h3 x d (by rw [List.lookup_cons, q]; exact hx)
  ·have hb : (k == NameKind.free) = false := by simpa using hk
   obtain ⟨cl, e, h1, h2, h3⟩ := closure_go r acc (fun m hm => hn m (List.mem_cons_of_mem _ hm)) ha
   refine ⟨cl, ?_, h1, fun m hm => ?_, h3⟩
   ·rw [List.forIn_cons]
    show (bind (if (k == NameKind.free) = true then _ else _) _ : Sem _) = _
    rw [hb]
    exact e
   ·rcases List.mem_cons.mp hm with q | q
    ·cases q; exact absurd rfl hk
    ·exact h2 m q
theorem closure_of {env : Env} {scope : Scope} (hn : ∀ n, (n, NameKind.free) ∈ scope.names → ∃ c, env.cells.lookup n = some c) :
  ∃ cl, closureFor scope env = pure cl ∧ (∀ x c, cl.lookup x = some c → env.cells.lookup x = some c) ∧ ∀ n, (n, NameKind.free) ∈ scope.names → ∃ c, cl.lookup n = some c := by
 obtain ⟨cl, e, h1, h2, _⟩ := closure_go scope.names [] hn (fun x c h => by cases h)
 refine ⟨cl, ?_, h1, h2⟩
 exact (congrArg (fun t : Sem (List (Str × Addr)) => bind t fun z => pure z) e).trans rfl
end L3
namespace L3
open PySem PySem.Spec PyProof.Rows L2
def cxC (X : Cx) (N' : List Str) (scope : Scope) (cl : List (Str × Addr)) (C : Addr) (fp : List Addr) (pins : List (Addr × Obj)) (s : Shared) (H : Hp) : Cx where
 prog := X.prog
 w := X.w
 K := X.K
 mg := X.mg
 base := X.base
 A := X.A
 N := N'
 s₀ := s
 H₀ := H
 env := compEnvC scope cl C X.env
 outer := X.stack
 stack := X.stack
 ex := fp
 fn := fun x => scope.names.any fun y => y.1 == x && y.2 == .cell
 calm := X.calm
 pn := X.pn ++ pins
 xe := noE
def relabS (scope dsc : Scope) : Scope :=
 {scope with names := scope.names.map fun (n, k) => if (k == .free && dsc.kind == .function && dsc.names.lookup n == some .cell) then (n, .cell) else (n, k) }
def capSt (js : List (Option Nat)) (σ : L2.St) : L2.St := js.map fun o => o.bind fun j => (σ[j]?).join
structure CompScope (dsc : Scope) (dN N' : List Str) (js : List (Option Nat)) (scope : Scope) : Prop where
 kind : scope.kind = .function
 nd : (scope.names.map (·.1)).Nodup
 loc : ∀ y ∈ scope.names, y.2 = .local → scope.names.lookup y.1 = some .local
 len : js.length = N'.length
 cap : ∀ (i : Nat) (x : Str) (j : Nat), N'[i]? = some x → js[i]? = some (some j) → dN[j]? = some x ∧ (x, NameKind.free) ∈ scope.names
 free : ∀ n, (n, NameKind.free) ∈ scope.names → dsc.names.lookup n = some .cell ∨ dsc.names.lookup n = some .free
 seen : ∀ n, (n, NameKind.free) ∈ scope.names → (relabS scope dsc).names.lookup n = some .cell ∨ (relabS scope dsc).names.lookup n = some .free
def compOk (dsc : Scope) (dN N' : List Str) (js : List (Option Nat)) (scope : Scope) : Bool :=
 scope.kind == .function && decide ((scope.names.map (·.1)).Nodup) && scope.names.all (fun y => y.2 != .local || scope.names.lookup y.1 == some .local) && js.length == N'.length &&
 (N'.zip js).all (fun p => match p.2 with | some j => dN[j]? == some p.1 && scope.names.contains (p.1, NameKind.free) | none => true) &&
 scope.names.all (fun y => y.2 != .free || ((dsc.names.lookup y.1 == some .cell || dsc.names.lookup y.1 == some .free) && ((relabS scope dsc).names.lookup y.1 == some .cell || (relabS scope dsc).names.lookup y.1 == some .free)))
theorem CompScope.of {dsc : Scope} {dN N' : List Str} {js : List (Option Nat)} {scope : Scope} (h : compOk dsc dN N' js scope = true) : CompScope dsc dN N' js scope := by
 unfold compOk at h
 simp only [Bool.and_eq_true, List.all_eq_true, beq_iff_eq, bne_iff_ne, Bool.or_eq_true, decide_eq_true_eq] at h
 obtain ⟨⟨⟨⟨⟨h1, h2⟩, h3⟩, h4⟩, h5⟩, h6⟩ := h
 refine ⟨h1, h2, fun y hy hl => (h3 y hy).resolve_left fun z => z hl, h4, fun i x j e1 e2 => ?_, fun n hn => ?_, fun n hn => ?_⟩
 ·have hm : (x, some j) ∈ N'.zip js := List.mem_of_getElem? (i := i) (by rw [List.getElem?_zip_eq_some]; exact ⟨e1, e2⟩)
  have q := h5 _ hm
  simp only [Bool.and_eq_true, beq_iff_eq, List.contains_iff_mem] at q
  exact q
 ·exact ((h6 _ hn).resolve_left fun z => z rfl).1
 ·exact ((h6 _ hn).resolve_left fun z => z rfl).2
theorem relabel_mem {env : Env} {x : Str} {k : NameKind} : ∀ {names : List (Str × NameKind)},
  (names.map fun (n, k) => if (k == NameKind.free && env.scope.kind == .function && env.kindOf n == some .cell) then (n, NameKind.cell) else (n, k)).lookup x = some k → (k = .cell ∨ k = .free) → (x, NameKind.free) ∈ names ∨ (x, NameKind.cell) ∈ names
 | [], h, _ => by simp at h
 |(n, q) :: r, h, hk => by
  rw [List.map_cons] at h
  by_cases hx : x = n
  ·subst hx
   have hq : q = .free ∨ q = .cell := by
    by_cases c : (q == NameKind.free && env.scope.kind == .function && env.kindOf x == some .cell) = true
    ·rw [Bool.and_eq_true, Bool.and_eq_true] at c
     exact .inl (eq_of_beq c.1.1)
    ·simp only [if_neg c] at h
     rw [List.lookup_cons, beq_self_eq_true] at h
     have e : q = k := Option.some.inj h
     rcases hk with z | z
     ·exact .inr (e.trans z)
     ·exact .inl (e.trans z)
   rcases hq with rfl | rfl
   ·exact .inl List.mem_cons_self
   ·exact .inr List.mem_cons_self
  ·have hb : (x == n) = false := by simpa using hx
   have rest : (r.map fun (n, k) => if (k == NameKind.free && env.scope.kind == .function && env.kindOf n == some .cell) then (n, NameKind.cell) else (n, k)).lookup x = some k := by
    by_cases c : (q == NameKind.free && env.scope.kind == .function && env.kindOf n == some .cell) = true
    ·simp only [if_pos c] at h
     rw [List.lookup_cons, hb] at h
     exact h
    ·simp only [if_neg c] at h
     rw [List.lookup_cons, hb] at h
     exact h
   exact (relabel_mem (env := env) rest hk).imp (List.mem_cons_of_mem _) (List.mem_cons_of_mem _)
structure BlockCells (X : Cx) (scope : Scope) (cl : List (Str × Addr)) (sz : Nat) (h1 : Heap) : Prop where
 each : ∀ x c, cl.lookup x = some c → X.env.cells.lookup x = some c ∨ (sz < c ∧ h1.IsCell c none)
 free : ∀ n, (n, NameKind.free) ∈ scope.names → ∃ c, cl.lookup n = some c ∧ X.env.cells.lookup n = some c
 own : ∀ n, (n, NameKind.cell) ∈ scope.names → ∃ c, cl.lookup n = some c ∧ sz < c
 inj : ∀ x y c, cl.lookup x = some c → cl.lookup y = some c → sz < c → x = y
theorem cells_old {x : Str} : ∀ (names : List (Str × NameKind)) (n : Nat) (acc : List (Str × Addr)), (x, NameKind.cell) ∉ names → (cellsFrom n names acc).lookup x = acc.lookup x
 | [], _, _, _ => rfl
 |(y, k) :: r, n, acc, h => by
  have hr : (x, NameKind.cell) ∉ r := fun z => h (List.mem_cons_of_mem _ z)
  unfold cellsFrom
  split
  ·rename_i hk
   have hxy : (x == y) = false := by
    rw [beq_eq_false_iff_ne]
    intro e
    apply h
    rw [e, ← eq_of_beq hk]
    exact List.mem_cons_self
   rw [cells_old r _ _ hr, List.lookup_cons, hxy]
  ·exact cells_old r n acc hr
theorem cells_own {x : Str} : ∀ (names : List (Str × NameKind)) (n : Nat) (acc : List (Str × Addr)), (x, NameKind.cell) ∈ names → ∃ c, (cellsFrom n names acc).lookup x = some c ∧ n ≤ c
 | [], _, _, h => by cases h
 |(y, k) :: r, n, acc, h => by
  unfold cellsFrom
  by_cases hr : (x, NameKind.cell) ∈ r
  ·split
   ·obtain ⟨c, e, l⟩ := cells_own r (n + 1) ((y, n) :: acc) hr
    exact ⟨c, e, by omega⟩
   ·exact cells_own r n acc hr
  ·rcases List.mem_cons.mp h with e | e
   ·cases e
    rw [if_pos (by rfl), cells_old r _ _ hr, List.lookup_cons, beq_self_eq_true]
    exact ⟨n, rfl, Nat.le_refl _⟩
   ·exact absurd e hr
theorem cells_split : ∀ (names : List (Str × NameKind)) (n : Nat) (acc cl : List (Str × Addr)), ∃ own, cellsFrom n names (acc ++ cl) = own ++ cl ∧ cellsFrom n names acc = own
 | [], n, acc, cl => ⟨acc, rfl, rfl⟩
 |(y, k) :: r, n, acc, cl => by
  unfold cellsFrom
  split
  ·exact cells_split r (n + 1) ((y, n) :: acc) cl
  ·exact cells_split r n acc cl
theorem lookup_app {x : Str} {c : Addr} : ∀ {a b : List (Str × Addr)}, (a ++ b).lookup x = some c → a.lookup x = some c ∨ b.lookup x = some c
 | [], b, h => .inr h
 |(y, d) :: a, b, h => by
  rw [List.cons_append, List.lookup_cons] at h
  rw [List.lookup_cons]
  cases e : x == y with
  | true => rw [e] at h; exact .inl h
  | false => rw [e] at h; exact lookup_app h
theorem blockCells {X : Cx} {pins : List (Addr × Obj)} {σ : L2.St} {H : Hp} {s : Shared} {scope : Scope} {cl : List (Str × Addr)} (nd : (scope.names.map (·.1)).Nodup) (I : Inv X pins σ H s) (o : Obj)
  (c1 : ∀ x c, cl.lookup x = some c → X.env.cells.lookup x = some c) (c2 : ∀ n, (n, NameKind.free) ∈ scope.names → ∃ c, cl.lookup n = some c) :
  BlockCells X scope (cellsFrom (s.heap.objs.size + 1) scope.names cl) s.heap.objs.size (pushCells (s.heap.push o) scope.names) := by
 obtain ⟨own, e1, e2⟩ := cells_split scope.names (s.heap.objs.size + 1) [] cl
 rw [List.nil_append] at e1
 have ok := cellsFrom_ok scope.names (s.heap.push o) (s.heap.objs.size + 1) [] ⟨fun _ _ hm => (nomatch hm), List.Pairwise.nil⟩ (by rw [Heap.size_push]; exact Nat.le_refl _)
 rw [Heap.size_push, e2] at ok
 have old : ∀ x c, cl.lookup x = some c → c < s.heap.objs.size := by
  intro x c e
  obtain ⟨v, q⟩ := I.cell x c (c1 x c e)
  exact q.lt
 have one : ∀ {n : Str}, (n, NameKind.free) ∈ scope.names → (n, NameKind.cell) ∉ scope.names := by
  intro n h1 h2
  have key : ∀ (l : List (Str × NameKind)), (l.map (·.1)).Nodup → (n, NameKind.free) ∈ l → (n, NameKind.cell) ∈ l → False := by
   intro l
   induction l with
   | nil => intro _ h; cases h
   | cons y r ih =>
    intro hn a b
    rw [List.map_cons, List.nodup_cons] at hn
    rcases List.mem_cons.mp a with e1 | a2
    ·rcases List.mem_cons.mp b with e2 | b2
     ·rw [← e1] at e2; cases e2
     ·exact hn.1 (List.mem_map.mpr ⟨_, b2, by rw [← e1]⟩)
    ·rcases List.mem_cons.mp b with e2 | b2
     ·exact hn.1 (List.mem_map.mpr ⟨_, a2, by rw [← e2]⟩)
     ·exact ih hn.2 a2 b2
  exact key _ nd h1 h2
 refine ⟨fun x c e => ?_, fun n hn => ?_, fun n hn => ?_, fun x y c hx hy hc => ?_⟩
 ·rw [e1] at e
  rcases lookup_app e with z | z
  ·obtain ⟨a, b⟩ := ok.empty x c (mem_of_lookup z)
   exact .inr ⟨b, a⟩
  ·exact .inl (c1 x c z)
 ·obtain ⟨c, hc⟩ := c2 n hn
  refine ⟨c, ?_, c1 n c hc⟩
  rw [cells_old _ _ _ (one hn)]
  exact hc
 ·obtain ⟨c, a, b⟩ := cells_own scope.names (s.heap.objs.size + 1) cl hn
  exact ⟨c, a, b⟩
 ·rw [e1] at hx hy
  rcases lookup_app hx with z | z
  ·rcases lookup_app hy with z2 | z2
   ·exact name_of_addr ok.apart (mem_of_lookup z) (mem_of_lookup z2)
   ·exact absurd (old y c z2) (Nat.lt_asymm hc)
  ·exact absurd (old x c z) (Nat.lt_asymm hc)
theorem wp_newEnvC {M : Model} {A : Around} {E : Value → Shared → Prop} {s : Shared} {scope : Scope} {globals : Addr} {cl : List (Str × Addr)} {qual : Str} {o : Env} {Q : Env → Shared → Prop}
  (hQ : Q { scope := scope, locals := s.heap.objs.size, globals := globals, cells := cellsFrom (s.heap.objs.size + 1) scope.names cl, qual := qual, func := none, code := o.code, frame := o.frame, builtins := o.builtins } { s with heap := pushCells (s.heap.push { cls := .type "dict", data := .dict #[] }) scope.names }) :
  wpAny M A (newFunctionEnv scope globals cl [] qual none .none (some o)) Q E s := by
 simp only [newFunctionEnv, Option.isSome_some, if_true]
 refine wpAny_bind (wpAny_alloc ?_)
 refine wpAny_bind (wpAny_layCells _ (fun name kind cells => by cases hkc : kind == NameKind.cell <;> simp [hkc]) _ _ _ _ ?_)
 rw [show ({ s with heap := s.heap.push { cls := .type "dict", data := .dict #[] } } : Shared).heap.objs.size = s.heap.objs.size + 1 from Heap.size_push ..]
 rw [List.forIn_nil]
 exact wpAny_bind (wpAny_pure (wpAny_pure hQ))
section
variable {X : Cx} {elt tg iter c : Expr} {scope : Scope} {pos : Pos} {N' : List Str} {js : List (Option Nat)} {wi : TI} {g : TG} {te : TE} {tc : TT}
theorem comp_start {N' : List Str} {js : List (Option Nat)} {pins : List (Addr × Obj)} {σ : L2.St} {H : Hp} {s : Shared} {cl : List (Str × Addr)} {fp : List Addr} {h1 : Heap} {tk : Nat} (S : CompScope X.env.scope X.N N' js scope) (I : Inv X pins σ H s)
  (bc : BlockCells X scope cl s.heap.objs.size h1) (hf : ∀ b ∈ fp, FpOk X pins H b) (hlt : ∀ b ∈ fp, b < s.heap.objs.size)
  {m : Str → Option Value} (hn : h1.Ns s.heap.objs.size m) (hk : ∀ b o, s.heap.get? b = some o → h1.get? b = some o) :
  Inv (cxC X N' scope cl s.heap.objs.size fp pins s H) [] (capSt js σ) H { s with heap := h1, toks := tk } := by
 have ok : (cxC X N' scope cl s.heap.objs.size fp pins s H).Ok := by
  refine ⟨I.ok.mod, S.kind, I.ok.glob, I.ok.blt, Nat.le_refl _, fun x y c h1 h2 => ?_, fun x hx => ?_, fun x c hx e => ?_, I.ok.hd, I.ok.frames, .inl rfl, fun b hb => ⟨Nat.ne_of_lt (hlt b hb), fun x c e => ?_⟩,
   I.bs, Nat.le_trans I.ok.bsz I.sz, fun b o e hb => ?_, fun b hb hx => ?_, I.stack, I.stkFree⟩
  ·rcases bc.each x c h1 with z | z
   ·rcases bc.each y c h2 with z2 | z2
    ·exact I.ok.inj x y c z z2
    ·exact bc.inj x y c h1 h2 z2.1
   ·exact bc.inj x y c h1 h2 z.1
  ·have hx' : (relabel scope X.env).names.lookup x = some .cell ∨ (relabel scope X.env).names.lookup x = some .free := hx
   have hm : (x, NameKind.free) ∈ scope.names ∨ (x, NameKind.cell) ∈ scope.names := by
    rcases hx' with z | z
    ·exact relabel_mem z (.inl rfl)
    ·exact relabel_mem z (.inr rfl)
   rcases hm with z | z
   ·obtain ⟨c, e, _⟩ := bc.free x z; exact ⟨c, e⟩
   ·obtain ⟨c, e, _⟩ := bc.own x z; exact ⟨c, e⟩
  ·have hx' : (scope.names.any fun y => y.1 == x && y.2 == NameKind.cell) = true := hx
   rw [List.any_eq_true] at hx'
   obtain ⟨⟨y, k⟩, hm, hy⟩ := hx'
   rw [Bool.and_eq_true] at hy
   have e1 : y = x := eq_of_beq hy.1
   have e2 : k = .cell := eq_of_beq hy.2
   subst e1 e2
   obtain ⟨c', e', l⟩ := bc.own _ hm
   have : c' = c := Option.some.inj (e'.symm.trans e)
   subst this
   exact Nat.le_of_lt l
  ·rcases bc.each x c e with z | z
   ·exact (hf b hb).2.2.2.2.1 x c z
   ·exact fun q => absurd z.1 (Nat.lt_asymm (by rw [q]; exact hlt b hb))
  ·obtain ⟨_, _, _, f3, _⟩ := hf b hb
   rcases f3 with z | z
   ·exact I.ok.noex b o e z
   ·exact absurd (Nat.lt_of_lt_of_le (Heap.lt_size e) (Nat.le_trans I.ok.bsz z)) (Nat.lt_irrefl _)
  ·obtain ⟨_, f1, f2, _⟩ := hf b hb
   rcases List.mem_cons.mp (I.stkSub b hx) with z | z
   ·exact f1 z
   ·exact f2 z
 refine ⟨ok, rfl, I.bare, Un.kept hk, ⟨m, hn, fun i x v e1 e2 e3 => ?_⟩, fun x c e => ?_, I.hok.fresh (Nat.le_refl _), fun x c e => (bc.each x c e).elim (fun z => I.freeC x c z) (fun z => I.hok.fresh (Nat.le_of_lt z.1)), fun p hp => ?_, I.hok.kept hk, ?_⟩
 ·have e2' : (capSt js σ)[i]? = some (some v) := e2
  unfold capSt at e2'
  rw [List.getElem?_map] at e2'
  cases q : js[i]? with
  | none => rw [q] at e2'; cases e2'
  | some o =>
   rw [q] at e2'
   cases o with
   | none => cases e2'
   | some j =>
    have e4 : (σ[j]?).join = some v := Option.some.inj e2'
    obtain ⟨hN, hm⟩ := S.cap i x j e1 q
    have hσ : σ[j]? = some (some v) := by
     cases z : σ[j]? with
     | none => rw [z] at e4; cases e4
     | some o => rw [z] at e4; exact congrArg some e4
    obtain ⟨m0, hn0, hl⟩ := I.loc
    obtain ⟨c, hc, hc0⟩ := bc.free x hm
    have hv : Vis X.env.scope x := (S.free x hm).elim (fun z => .inr (.inl z)) fun z => .inr (.inr z)
    obtain ⟨u, r, l⟩ := hl j x v hN hσ hv
    refine ⟨u, r, .inr ⟨?_, c, hc, ?_⟩⟩
    ·exact S.seen x hm
    ·rcases l with ⟨kl, _⟩ | ⟨_, c', hc', cell⟩
     ·rcases S.free x hm with y | y <;> (have z := y.symm.trans (show X.env.scope.names.lookup x = some .local from kl); cases z)
     ·rw [hc0] at hc'
      cases hc'
      obtain ⟨o, ho, hd⟩ := cell
      exact ⟨o, hk _ _ ho, hd⟩
 ·rcases bc.each x c e with z | z
  ·obtain ⟨v, o, ho, hd⟩ := I.cell x c z
   exact ⟨v, o, hk _ _ ho, hd⟩
  ·exact ⟨none, z.2⟩
 ·have hp' : p ∈ X.pn ++ pins := (List.mem_append.mp hp).elim (fun z => z) fun z => absurd z (by simp)
  obtain ⟨e, n, ne, nf, d⟩ := I.pin p hp'
  refine ⟨hk _ _ e, n, Nat.ne_of_lt (Heap.lt_size e), fun z => ?_, d⟩
  rcases List.mem_cons.mp (I.stkSub p.1 z) with y | y
  ·exact ne y
  ·exact nf y
 ·show (capSt js σ).length = N'.length
  unfold capSt
  rw [List.length_map]; exact S.len
end
section
variable {X : Cx} {elt tg iter c : Expr} {scope : Scope} {pos : Pos} {N' : List Str} {js : List (Option Nat)} {wi : TI} {g : TG} {te : TE} {tc : TT}
def tComp0 (js : List (Option Nat)) (wi : TI) (g : TG) (te : TE) : TE := fun σ H Q => wi σ H fun J H1 => ∀ D, H1 D = none → ∃ W : Nat → Nat → L2.St → Hp → Prop, (∃ m, W 0 m (capSt js σ) (upd H1 D (.lst []))) ∧
 ∀ i m σc Hc, W i m σc Hc → (J.stop i Hc ∧ Q (.ref D) Hc) ∨ (J.go i Hc ∧ ∀ x H', J.yld i Hc x H' → g x σc H' fun σ2 H2 => te σ2 H2 fun y H4 => ∃ acc, H4 D = some (.lst acc) ∧ acc.length < sizeLine ∧
  ∃ m', m' < m ∧ W (i + 1) m' σ2 (upd H4 D (.lst (acc ++ [y]))))
def tComp1 (js : List (Option Nat)) (wi : TI) (g : TG) (tc : TT) (te : TE) : TE := fun σ H Q => wi σ H fun J H1 => ∀ D, H1 D = none → ∃ W : Nat → Nat → L2.St → Hp → Prop, (∃ m, W 0 m (capSt js σ) (upd H1 D (.lst []))) ∧
 ∀ i m σc Hc, W i m σc Hc → (J.stop i Hc ∧ Q (.ref D) Hc) ∨ (J.go i Hc ∧ ∀ x H', J.yld i Hc x H' → g x σc H' fun σ2 H2 => tc σ2 H2 fun b H3 => if b = true then te σ2 H3 fun y H4 => ∃ acc, H4 D = some (.lst acc) ∧ acc.length < sizeLine ∧
  ∃ m', m' < m ∧ W (i + 1) m' σ2 (upd H4 D (.lst (acc ++ [y]))) else ∃ m', m' < m ∧ W (i + 1) m' σ2 H3)
theorem comp_block0 {pins : List (Addr × Obj)} {σ : L2.St} {H2 : Hp} {s2 : Shared} {cl : List (Str × Addr)} {it : Addr} {fp : List Addr} {tn : Nat → Heap → Prop} {J : It} {QD : Addr → Hp → Prop} {R : Value → Addr → Result → Shared → Prop} {E : Value → Shared → Prop}
  (hc : X.calm = true) (S : CompScope X.env.scope X.N N' js scope) (c1 : ∀ x c, cl.lookup x = some c → X.env.cells.lookup x = some c) (c2 : ∀ n, (n, NameKind.free) ∈ scope.names → ∃ c, cl.lookup n = some c)
  (hg : ∀ cl C fp pins s H, PG (cxC X N' scope cl C fp pins s H) tg g) (he : ∀ cl C fp pins s H, PE (cxC X N' scope cl C fp pins s H) elt te)
  (I2 : Inv X pins σ H2 s2) (T : Turn X.prog X.w X.K tg J fp it tn) (st2 : tn 0 s2.heap) (f2 : ∀ b ∈ fp, FpOk X pins H2 b)
  (q : ∀ D, H2 D = none → ∃ W : Nat → Nat → L2.St → Hp → Prop, (∃ m, W 0 m (capSt js σ) (upd H2 D (.lst []))) ∧
   ∀ i m σc Hc, W i m σc Hc → (J.stop i Hc ∧ QD D Hc) ∨ (J.go i Hc ∧ ∀ x H', J.yld i Hc x H' → g x σc H' fun σ2 H2 => te σ2 H2 fun y H4 => ∃ acc, H4 D = some (.lst acc) ∧ acc.length < sizeLine ∧
    ∃ m', m' < m ∧ W (i + 1) m' σ2 (upd H4 D (.lst (acc ++ [y])))))
  (back : ∀ (D C : Addr) (Hc : Hp) (s4 : Shared), (∃ m, s4.heap.Ns C m) → Inv X pins σ Hc s4 → Hc C = none → C ≠ X.env.locals → X.s₀.heap.objs.size ≤ C → (∀ x c, X.env.cells.lookup x = some c → c ≠ C) → (∀ p ∈ X.pn ++ pins, p.1 ≠ C) → QD D Hc → R (.ref D) C (.ok .next) s4) :
  wpAny (model X.prog X.w) X.A (newList []) (fun acc s3 => wpAny (model X.prog X.w) X.A (newFunctionEnv scope X.env.globals cl [] X.env.qual none .none (some X.env)) (fun cenv s4 =>
   codeAny (model X.prog X.w) X.A (.compStart (.ListComp elt [⟨tg, iter, [], 0⟩] scope pos) 0 (.ref it) acc { cenv with scope := relabel scope X.env }) (R acc cenv.locals) s4) E s3) E s2 := by
 refine wpAny_newObj_type (wp_newEnvC ?_)
 dsimp only
 have I3 : Inv X pins σ (upd H2 s2.heap.objs.size (.lst [])) { s2 with heap := s2.heap.push { cls := .type "list", data := .seq ([] : List Value).toArray } } := I2.lnew (its := []) (t' := s2.toks) .nil (Nat.zero_le _)
 obtain ⟨W, ⟨m0, w0⟩, turn⟩ := q s2.heap.objs.size I2.fresh
 have hob := T.obj 0 _ st2
 have f3 : ∀ b ∈ fp, FpOk X pins (upd H2 s2.heap.objs.size (.lst [])) b := fun b hb => by
  obtain ⟨o, e, _⟩ := hob b hb
  exact ⟨by rw [upd_ne (Nat.ne_of_lt (Heap.lt_size e))]; exact (f2 b hb).1, (f2 b hb).2⟩
 generalize hS3 : (s2.heap.push { cls := .type "list", data := .seq ([] : List Value).toArray } : Heap) = h3 at *
 have k23 : ∀ b o, s2.heap.get? b = some o → h3.get? b = some o := fun b o e => by rw [← hS3]; exact Heap.get?_push_of_some _ e
 have hlt : ∀ b ∈ fp, b < h3.objs.size := fun b hb => by
  obtain ⟨o, e, _⟩ := hob b hb
  exact Heap.lt_size (k23 b o e)
 have bc := blockCells S.nd I3 { cls := .type "dict", data := .dict #[] } c1 c2
 have hns : (pushCells (h3.push { cls := .type "dict", data := .dict #[] }) scope.names).Ns h3.objs.size (fun _ => none) := (Heap.Ns.new h3 (.type "dict")).keeps (pushCells_keeps _ _)
 have k31 : ∀ b o, h3.get? b = some o → (pushCells (h3.push { cls := .type "dict", data := .dict #[] }) scope.names).get? b = some o := fun b o e => pushCells_keeps _ _ b o (Heap.get?_push_of_some _ e)
 dsimp only at bc
 generalize cellsFrom (h3.objs.size + 1) scope.names cl = cl' at bc ⊢
 generalize pushCells (h3.push { cls := .type "dict", data := .dict #[] }) scope.names = h1 at bc hns k31 ⊢
 have I4 := comp_start (tk := s2.toks) S I3 bc f3 hlt hns k31
 have st4 : tn 0 h1 := T.keep 0 _ h1 st2 fun b hb o e => k31 b o (k23 b o e)
 have nofs : ∀ b ∈ fp, b ∉ (cxC X N' scope cl' h3.objs.size fp pins { s2 with heap := h3 } (upd H2 s2.heap.objs.size (.lst []))).fs := I4.ok.exfs
 have stat : ∀ {H' : Hp}, (∀ b ∈ fp, H' b = none) → ∀ b ∈ fp, FpOk (cxC X N' scope cl' h3.objs.size fp pins { s2 with heap := h3 } (upd H2 s2.heap.objs.size (.lst []))) [] H' b := fun {H'} hn b hb =>
  ⟨hn b hb, Nat.ne_of_lt (hlt b hb), nofs b hb, .inl hb, fun x c e => (bc.each x c e).elim (fun z => (f3 b hb).2.2.2.2.1 x c z) (fun z q => absurd z.1 (Nat.lt_asymm (by rw [q]; exact hlt b hb))), fun p hp => (f3 b hb).2.2.2.2.2 p (by simpa [cxC] using hp)⟩
 have loop : codeAny (model X.prog X.w) X.A (.compLoop (.ListComp elt [⟨tg, iter, [], 0⟩] scope pos) 0 (.ref it) (.ref s2.heap.objs.size) (compEnvC scope cl' h3.objs.size X.env))
   (R (.ref s2.heap.objs.size) h3.objs.size) { s2 with heap := h1, toks := s2.toks } := by
  refine comp_loop0 (fun n s' => ∃ i σc Hc, Inv (cxC X N' scope cl' h3.objs.size fp pins { s2 with heap := h3 } (upd H2 s2.heap.objs.size (.lst []))) [] σc Hc s' ∧ tn i s'.heap ∧ (∀ b ∈ fp, Hc b = none) ∧ W i n σc Hc) ?_ m0
   ⟨0, _, _, I4, st4, fun b hb => (f3 b hb).1, w0⟩
  rintro n z ⟨i, σc, Hc, Iz, stz, frz, wz⟩
  rcases turn i n σc Hc wz with ⟨stop, qd⟩ | ⟨go, step⟩
  ·refine thn (T.done (cxC X N' scope cl' h3.objs.size fp pins { s2 with heap := h3 } (upd H2 s2.heap.objs.size (.lst []))) rfl rfl rfl hc i [] z σc Hc noE Iz (stat frz) stz stop) fun r s4 ⟨hr, I5⟩ => ?_
   subst hr
   have J5 : Inv X pins σ Hc s4 := I3.call' (s' := s4) I5.os I5.base I5.hok I5.bare fun b hb => ⟨(f3 b hb).2.2.2.1, (f3 b hb).2.1, (f3 b hb).2.2.2.2.1, (f3 b hb).2.2.2.2.2⟩
   obtain ⟨m, hm, _⟩ := I5.loc
   refine back _ _ Hc s4 ⟨m, hm⟩ J5 I5.free (Nat.ne_of_gt I3.lt) (Nat.le_trans I3.ok.above (Nat.le_of_lt I3.lt)) (fun x c e z => ?_) (fun p hp z => ?_) qd
   ·obtain ⟨v, q⟩ := I3.cell x c e
    exact absurd q.lt (by rw [z]; exact Nat.lt_irrefl _)
   ·exact absurd (Heap.lt_size (I3.pin p hp).1) (by rw [z]; exact Nat.lt_irrefl _)
  ·refine thn (T.item (cxC X N' scope cl' h3.objs.size fp pins { s2 with heap := h3 } (upd H2 s2.heap.objs.size (.lst []))) rfl rfl rfl hc i [] z σc Hc noE Iz (stat frz) stz go) fun r s4 ⟨u, hr, h4⟩ => ?_
   subst hr
   refine thn h4 fun _ s5 ⟨x, H5, I5, r5, y5, st5, fr5⟩ => ?_
   have I5' := I5.pinned (stat fr5) (T.obj _ _ st5)
   refine thn (hg _ _ _ _ _ _ _ s5 σc H5 x u _ I5' r5 (step x H5 y5)) fun _ s6 ⟨σ6, H6, I6, q6⟩ => ?_
   refine thn (he _ _ _ _ _ _ _ s6 σ6 H6 _ I6 q6) fun v s7 ⟨y, H7, I7, r7, acc, hD, hlen, m', hm, w7⟩ => ?_
   refine thn (mt_append _ s7 σ6 H7 (.ref s2.heap.objs.size) [y] (.ref s2.heap.objs.size) [v] (fun _ H8 => H8 = upd H7 s2.heap.objs.size (.lst (acc ++ [y]))) I7 rfl (.cons r7 .nil) ⟨_, acc, y, rfl, rfl, hD, hlen, rfl⟩) fun _ s8 ⟨_, H8, I8, _, e8⟩ => ?_
   subst e8
   refine ⟨m', hm, i + 1, σ6, _, I8.unpinned, T.keep _ _ _ st5 fun b hb o e => (I8.pin (b, o) (List.mem_append_right _ (List.mem_append_right _ (mem_pinsAt hb e)))).1, fun b hb => ?_, w7⟩
   obtain ⟨o, e, d⟩ := T.obj _ _ st5 b hb
   exact (I8.pin (b, o) (List.mem_append_right _ (List.mem_append_right _ (mem_pinsAt hb e)))).2.1
 exact codeAny_compStart_list loop (T.self _ 0 _ _ _ st4 loop)
theorem pe_comp0 (hc : X.calm = true) (ho : compOk X.env.scope X.N N' js scope = true) (hi : PI X tg iter wi) (hg : ∀ cl C fp pins s H, PG (cxC X N' scope cl C fp pins s H) tg g) (he : ∀ cl C fp pins s H, PE (cxC X N' scope cl C fp pins s H) elt te)
  (hs : ∀ x, foldedSetIterable iter X.env x = pure x := by intro _; rfl) : PE X (.ListComp elt [⟨tg, iter, [], 0⟩] scope pos) (tComp0 js wi g te) := by
 intro pins s σ H Q I h
 have S := CompScope.of ho
 obtain ⟨cl, hcl, c1, c2⟩ := closure_of (scope := scope) (env := X.env) fun n hn => I.ok.has n (S.free n hn)
 rw [eval_ListComp]
 refine wpAny_comprehension_free (use := none) rfl hs hcl S.kind S.loc (thn (hi pins s σ H _ I h) fun v s1 h1 => thn h1 fun itv s2 h2 => ?_)
 obtain ⟨it, fp, tn, J, H2, e, I2, T, st2, f2, q2⟩ := h2
 subst e
 refine comp_block0 (QD := fun D Hc => Q (.ref D) Hc) (R := fun acc C => compPost (model X.prog X.w) X.A X.xe none (EP X pins σ Q) acc C) hc S c1 c2 hg he I2 T st2 f2 q2 ?_
 intro D C Hc s4 ⟨m, hm⟩ J4 fC nL sC cC pC qd
 refine ⟨m, hm, fun h' hs' => ⟨.ref D, Hc, ?_, rfl, qd⟩⟩
 exact J4.turned (t' := s4.toks) (fun b o hb e => (hs'.2 b hb).trans e) fC nL (.inr sC) cC pC
def tSetC0 (i : Nat) (js : List (Option Nat)) (wi : TI) (g : TG) (te : TE) : TS := fun D σ H => tComp0 js wi g te σ H fun v H1 => D.nx (σ.set i (some v)) H1
theorem ps_comp0 {i : Nat} {x : Str} {px spos : Pos} (hc : X.calm = true) (ho : compOk X.env.scope X.N N' js scope = true) (hN : X.N.Nodup) (hx : X.N[i]? = some x) (hl : X.env.scope.names.lookup x = some .local) (hi : PI X tg iter wi)
  (hg : ∀ cl C fp pins s H, PG (cxC X N' scope cl C fp pins s H) tg g) (he : ∀ cl C fp pins s H, PE (cxC X N' scope cl C fp pins s H) elt te)
  (hsw : swapsWith (.ListComp elt [⟨tg, iter, [], 0⟩] scope pos) (some (.Name x px)) spos.line X.env = pure true)
  (hs : ∀ x, foldedSetIterable iter X.env x = pure x := by intro _; rfl) : PS X (.Assign [.Name x px] (.ListComp elt [⟨tg, iter, [], 0⟩] scope pos) spos) (tSetC0 i js wi g te) := by
 intro pins s σ H D I h
 have S := CompScope.of ho
 obtain ⟨cl, hcl, c1, c2⟩ := closure_of (scope := scope) (env := X.env) fun n hn => I.ok.has n (S.free n hn)
 rw [exec_Assign_Name_used _ _ _ _ hsw]
 refine wpAny_bind (wpAny_standAt (wpAny_bind ?_))
 show wpAny _ _ (do let _ ← comprehension (.ListComp elt [⟨tg, iter, [], 0⟩] scope pos) scope X.env _ (newList []) false (eval iter X.env) (some (assign (.Name x px) X.env))) _ _ s
 refine wpAny_bind (wpAny_mono (wpAny_comprehension_free (use := some (assign (.Name x px) X.env)) (Q := fun _ s' => SP X pins D .next s') rfl hs hcl S.kind S.loc (thn (hi pins s σ H _ I h) fun v s1 h1 => thn h1 fun itv s2 h2 => ?_)) (fun _ s' hq => wpAny_pure (wpAny_pure hq)) fun _ _ e => e)
 obtain ⟨it, fp, tn, J, H2, e, I2, T, st2, f2, q2⟩ := h2
 subst e
 refine comp_block0 (QD := fun E' Hc => D.nx (σ.set i (some (.ref E'))) Hc) (R := fun acc C => compPost (model X.prog X.w) X.A X.xe (some (assign (.Name x px) X.env)) (fun _ s' => SP X pins D .next s') acc C) hc S c1 c2 hg he I2 T st2 f2 q2 ?_
 intro E' C Hc s4 ⟨m, hm⟩ J4 fC nL sC cC pC qd
 show wpAny _ _ (assign (.Name x px) X.env (.ref E')) _ _ s4
 refine wpAny_assign_Name (store_ok2 J4 hN hx (.inl hl) (v := .ref E') rfl (fun s5 J5 ⟨a, sb, ha⟩ => ?_) (.inr hl))
 have hCa : C ≠ a := by
  rcases ha with z | z
  ·rw [z]; exact nL
  ·exact (cC x a z).symm
 refine ⟨m, hm.sameBut sb hCa, fun h' hs' => ⟨σ.set i (some (.ref E')), Hc, ?_, qd⟩⟩
 exact J5.turned (t' := s5.toks) (fun b o hb e => (hs'.2 b hb).trans e) fC nL (.inr sC) cC pC
theorem comp_block1 {pins : List (Addr × Obj)} {σ : L2.St} {H2 : Hp} {s2 : Shared} {cl : List (Str × Addr)} {it : Addr} {fp : List Addr} {tn : Nat → Heap → Prop} {J : It} {QD : Addr → Hp → Prop} {R : Value → Addr → Result → Shared → Prop} {E : Value → Shared → Prop}
  (hc : X.calm = true) (S : CompScope X.env.scope X.N N' js scope) (c1 : ∀ x c, cl.lookup x = some c → X.env.cells.lookup x = some c) (c2 : ∀ n, (n, NameKind.free) ∈ scope.names → ∃ c, cl.lookup n = some c)
  (hg : ∀ cl C fp pins s H, PG (cxC X N' scope cl C fp pins s H) tg g) (hq : ∀ cl C fp pins s H, PT (cxC X N' scope cl C fp pins s H) c tc) (he : ∀ cl C fp pins s H, PE (cxC X N' scope cl C fp pins s H) elt te)
  (I2 : Inv X pins σ H2 s2) (T : Turn X.prog X.w X.K tg J fp it tn) (st2 : tn 0 s2.heap) (f2 : ∀ b ∈ fp, FpOk X pins H2 b)
  (q : ∀ D, H2 D = none → ∃ W : Nat → Nat → L2.St → Hp → Prop, (∃ m, W 0 m (capSt js σ) (upd H2 D (.lst []))) ∧
   ∀ i m σc Hc, W i m σc Hc → (J.stop i Hc ∧ QD D Hc) ∨ (J.go i Hc ∧ ∀ x H', J.yld i Hc x H' → g x σc H' fun σ2 H2 => tc σ2 H2 fun b H3 => if b = true then te σ2 H3 fun y H4 => ∃ acc, H4 D = some (.lst acc) ∧ acc.length < sizeLine ∧
    ∃ m', m' < m ∧ W (i + 1) m' σ2 (upd H4 D (.lst (acc ++ [y]))) else ∃ m', m' < m ∧ W (i + 1) m' σ2 H3))
  (back : ∀ (D C : Addr) (Hc : Hp) (s4 : Shared), (∃ m, s4.heap.Ns C m) → Inv X pins σ Hc s4 → Hc C = none → C ≠ X.env.locals → X.s₀.heap.objs.size ≤ C → (∀ x c, X.env.cells.lookup x = some c → c ≠ C) → (∀ p ∈ X.pn ++ pins, p.1 ≠ C) → QD D Hc → R (.ref D) C (.ok .next) s4) :
  wpAny (model X.prog X.w) X.A (newList []) (fun acc s3 => wpAny (model X.prog X.w) X.A (newFunctionEnv scope X.env.globals cl [] X.env.qual none .none (some X.env)) (fun cenv s4 =>
   codeAny (model X.prog X.w) X.A (.compStart (.ListComp elt [⟨tg, iter, [c], 0⟩] scope pos) 0 (.ref it) acc { cenv with scope := relabel scope X.env }) (R acc cenv.locals) s4) E s3) E s2 := by
 refine wpAny_newObj_type (wp_newEnvC ?_)
 dsimp only
 have I3 : Inv X pins σ (upd H2 s2.heap.objs.size (.lst [])) { s2 with heap := s2.heap.push { cls := .type "list", data := .seq ([] : List Value).toArray } } := I2.lnew (its := []) (t' := s2.toks) .nil (Nat.zero_le _)
 obtain ⟨W, ⟨m0, w0⟩, turn⟩ := q s2.heap.objs.size I2.fresh
 have hob := T.obj 0 _ st2
 have f3 : ∀ b ∈ fp, FpOk X pins (upd H2 s2.heap.objs.size (.lst [])) b := fun b hb => by
  obtain ⟨o, e, _⟩ := hob b hb
  exact ⟨by rw [upd_ne (Nat.ne_of_lt (Heap.lt_size e))]; exact (f2 b hb).1, (f2 b hb).2⟩
 generalize hS3 : (s2.heap.push { cls := .type "list", data := .seq ([] : List Value).toArray } : Heap) = h3 at *
 have k23 : ∀ b o, s2.heap.get? b = some o → h3.get? b = some o := fun b o e => by rw [← hS3]; exact Heap.get?_push_of_some _ e
 have hlt : ∀ b ∈ fp, b < h3.objs.size := fun b hb => by
  obtain ⟨o, e, _⟩ := hob b hb
  exact Heap.lt_size (k23 b o e)
 have bc := blockCells S.nd I3 { cls := .type "dict", data := .dict #[] } c1 c2
 have hns : (pushCells (h3.push { cls := .type "dict", data := .dict #[] }) scope.names).Ns h3.objs.size (fun _ => none) := (Heap.Ns.new h3 (.type "dict")).keeps (pushCells_keeps _ _)
 have k31 : ∀ b o, h3.get? b = some o → (pushCells (h3.push { cls := .type "dict", data := .dict #[] }) scope.names).get? b = some o := fun b o e => pushCells_keeps _ _ b o (Heap.get?_push_of_some _ e)
 dsimp only at bc
 generalize cellsFrom (h3.objs.size + 1) scope.names cl = cl' at bc ⊢
 generalize pushCells (h3.push { cls := .type "dict", data := .dict #[] }) scope.names = h1 at bc hns k31 ⊢
 have I4 := comp_start (tk := s2.toks) S I3 bc f3 hlt hns k31
 have st4 : tn 0 h1 := T.keep 0 _ h1 st2 fun b hb o e => k31 b o (k23 b o e)
 have nofs : ∀ b ∈ fp, b ∉ (cxC X N' scope cl' h3.objs.size fp pins { s2 with heap := h3 } (upd H2 s2.heap.objs.size (.lst []))).fs := I4.ok.exfs
 have stat : ∀ {H' : Hp}, (∀ b ∈ fp, H' b = none) → ∀ b ∈ fp, FpOk (cxC X N' scope cl' h3.objs.size fp pins { s2 with heap := h3 } (upd H2 s2.heap.objs.size (.lst []))) [] H' b := fun {H'} hn b hb =>
  ⟨hn b hb, Nat.ne_of_lt (hlt b hb), nofs b hb, .inl hb, fun x c e => (bc.each x c e).elim (fun z => (f3 b hb).2.2.2.2.1 x c z) (fun z q => absurd z.1 (Nat.lt_asymm (by rw [q]; exact hlt b hb))), fun p hp => (f3 b hb).2.2.2.2.2 p (by simpa [cxC] using hp)⟩
 have loop : codeAny (model X.prog X.w) X.A (.compLoop (.ListComp elt [⟨tg, iter, [c], 0⟩] scope pos) 0 (.ref it) (.ref s2.heap.objs.size) (compEnvC scope cl' h3.objs.size X.env))
   (R (.ref s2.heap.objs.size) h3.objs.size) { s2 with heap := h1, toks := s2.toks } := by
  refine comp_loop1 (fun n s' => ∃ i σc Hc, Inv (cxC X N' scope cl' h3.objs.size fp pins { s2 with heap := h3 } (upd H2 s2.heap.objs.size (.lst []))) [] σc Hc s' ∧ tn i s'.heap ∧ (∀ b ∈ fp, Hc b = none) ∧ W i n σc Hc) ?_ m0
   ⟨0, _, _, I4, st4, fun b hb => (f3 b hb).1, w0⟩
  rintro n z ⟨i, σc, Hc, Iz, stz, frz, wz⟩
  rcases turn i n σc Hc wz with ⟨stop, qd⟩ | ⟨go, step⟩
  ·refine thn (T.done (cxC X N' scope cl' h3.objs.size fp pins { s2 with heap := h3 } (upd H2 s2.heap.objs.size (.lst []))) rfl rfl rfl hc i [] z σc Hc noE Iz (stat frz) stz stop) fun r s4 ⟨hr, I5⟩ => ?_
   subst hr
   have J5 : Inv X pins σ Hc s4 := I3.call' (s' := s4) I5.os I5.base I5.hok I5.bare fun b hb => ⟨(f3 b hb).2.2.2.1, (f3 b hb).2.1, (f3 b hb).2.2.2.2.1, (f3 b hb).2.2.2.2.2⟩
   obtain ⟨m, hm, _⟩ := I5.loc
   refine back _ _ Hc s4 ⟨m, hm⟩ J5 I5.free (Nat.ne_of_gt I3.lt) (Nat.le_trans I3.ok.above (Nat.le_of_lt I3.lt)) (fun x c e z => ?_) (fun p hp z => ?_) qd
   ·obtain ⟨v, q⟩ := I3.cell x c e
    exact absurd q.lt (by rw [z]; exact Nat.lt_irrefl _)
   ·exact absurd (Heap.lt_size (I3.pin p hp).1) (by rw [z]; exact Nat.lt_irrefl _)
  ·refine thn (T.item (cxC X N' scope cl' h3.objs.size fp pins { s2 with heap := h3 } (upd H2 s2.heap.objs.size (.lst []))) rfl rfl rfl hc i [] z σc Hc noE Iz (stat frz) stz go) fun r s4 ⟨u, hr, h4⟩ => ?_
   subst hr
   refine thn h4 fun _ s5 ⟨x, H5, I5, r5, y5, st5, fr5⟩ => ?_
   have I5' := I5.pinned (stat fr5) (T.obj _ _ st5)
   refine thn (hg _ _ _ _ _ _ _ s5 σc H5 x u _ I5' r5 (step x H5 y5)) fun _ s6 ⟨σ6, H6, I6, q6⟩ => ?_
   refine thn (hq _ _ _ _ _ _ _ s6 σ6 H6 _ I6 q6) fun ok s6' ⟨H6', I6', q6'⟩ => ?_
   cases ok with
   | false =>
    rw [if_neg Bool.false_ne_true] at q6' ⊢
    obtain ⟨m', hm, w7⟩ := q6'
    refine ⟨m', hm, i + 1, σ6, _, I6'.unpinned, T.keep _ _ _ st5 fun b hb o e => (I6'.pin (b, o) (List.mem_append_right _ (List.mem_append_right _ (mem_pinsAt hb e)))).1, fun b hb => ?_, w7⟩
    obtain ⟨o, e, d⟩ := T.obj _ _ st5 b hb
    exact (I6'.pin (b, o) (List.mem_append_right _ (List.mem_append_right _ (mem_pinsAt hb e)))).2.1
   | true =>
   rw [if_pos rfl] at q6' ⊢
   refine thn (he _ _ _ _ _ _ _ s6' σ6 H6' _ I6' q6') fun v s7 ⟨y, H7, I7, r7, acc, hD, hlen, m', hm, w7⟩ => ?_
   refine thn (mt_append _ s7 σ6 H7 (.ref s2.heap.objs.size) [y] (.ref s2.heap.objs.size) [v] (fun _ H8 => H8 = upd H7 s2.heap.objs.size (.lst (acc ++ [y]))) I7 rfl (.cons r7 .nil) ⟨_, acc, y, rfl, rfl, hD, hlen, rfl⟩) fun _ s8 ⟨_, H8, I8, _, e8⟩ => ?_
   subst e8
   refine ⟨m', hm, i + 1, σ6, _, I8.unpinned, T.keep _ _ _ st5 fun b hb o e => (I8.pin (b, o) (List.mem_append_right _ (List.mem_append_right _ (mem_pinsAt hb e)))).1, fun b hb => ?_, w7⟩
   obtain ⟨o, e, d⟩ := T.obj _ _ st5 b hb
   exact (I8.pin (b, o) (List.mem_append_right _ (List.mem_append_right _ (mem_pinsAt hb e)))).2.1
 exact codeAny_compStart_list loop (T.self _ 0 _ _ _ st4 loop)
theorem pe_comp1 (hc : X.calm = true) (ho : compOk X.env.scope X.N N' js scope = true) (hi : PI X tg iter wi) (hg : ∀ cl C fp pins s H, PG (cxC X N' scope cl C fp pins s H) tg g) (hq : ∀ cl C fp pins s H, PT (cxC X N' scope cl C fp pins s H) c tc) (he : ∀ cl C fp pins s H, PE (cxC X N' scope cl C fp pins s H) elt te)
  (hs : ∀ x, foldedSetIterable iter X.env x = pure x := by intro _; rfl) : PE X (.ListComp elt [⟨tg, iter, [c], 0⟩] scope pos) (tComp1 js wi g tc te) := by
 intro pins s σ H Q I h
 have S := CompScope.of ho
 obtain ⟨cl, hcl, c1, c2⟩ := closure_of (scope := scope) (env := X.env) fun n hn => I.ok.has n (S.free n hn)
 rw [eval_ListComp]
 refine wpAny_comprehension_free (use := none) rfl hs hcl S.kind S.loc (thn (hi pins s σ H _ I h) fun v s1 h1 => thn h1 fun itv s2 h2 => ?_)
 obtain ⟨it, fp, tn, J, H2, e, I2, T, st2, f2, q2⟩ := h2
 subst e
 refine comp_block1 (QD := fun D Hc => Q (.ref D) Hc) (R := fun acc C => compPost (model X.prog X.w) X.A X.xe none (EP X pins σ Q) acc C) hc S c1 c2 hg hq he I2 T st2 f2 q2 ?_
 intro D C Hc s4 ⟨m, hm⟩ J4 fC nL sC cC pC qd
 refine ⟨m, hm, fun h' hs' => ⟨.ref D, Hc, ?_, rfl, qd⟩⟩
 exact J4.turned (t' := s4.toks) (fun b o hb e => (hs'.2 b hb).trans e) fC nL (.inr sC) cC pC
def tSetC1 (i : Nat) (js : List (Option Nat)) (wi : TI) (g : TG) (tc : TT) (te : TE) : TS := fun D σ H => tComp1 js wi g tc te σ H fun v H1 => D.nx (σ.set i (some v)) H1
theorem ps_comp1 {i : Nat} {x : Str} {px spos : Pos} (hc : X.calm = true) (ho : compOk X.env.scope X.N N' js scope = true) (hN : X.N.Nodup) (hx : X.N[i]? = some x) (hl : X.env.scope.names.lookup x = some .local) (hi : PI X tg iter wi)
  (hg : ∀ cl C fp pins s H, PG (cxC X N' scope cl C fp pins s H) tg g) (hq : ∀ cl C fp pins s H, PT (cxC X N' scope cl C fp pins s H) c tc) (he : ∀ cl C fp pins s H, PE (cxC X N' scope cl C fp pins s H) elt te)
  (hsw : swapsWith (.ListComp elt [⟨tg, iter, [c], 0⟩] scope pos) (some (.Name x px)) spos.line X.env = pure true)
  (hs : ∀ x, foldedSetIterable iter X.env x = pure x := by intro _; rfl) : PS X (.Assign [.Name x px] (.ListComp elt [⟨tg, iter, [c], 0⟩] scope pos) spos) (tSetC1 i js wi g tc te) := by
 intro pins s σ H D I h
 have S := CompScope.of ho
 obtain ⟨cl, hcl, c1, c2⟩ := closure_of (scope := scope) (env := X.env) fun n hn => I.ok.has n (S.free n hn)
 rw [exec_Assign_Name_used _ _ _ _ hsw]
 refine wpAny_bind (wpAny_standAt (wpAny_bind ?_))
 show wpAny _ _ (do let _ ← comprehension (.ListComp elt [⟨tg, iter, [c], 0⟩] scope pos) scope X.env _ (newList []) false (eval iter X.env) (some (assign (.Name x px) X.env))) _ _ s
 refine wpAny_bind (wpAny_mono (wpAny_comprehension_free (use := some (assign (.Name x px) X.env)) (Q := fun _ s' => SP X pins D .next s') rfl hs hcl S.kind S.loc (thn (hi pins s σ H _ I h) fun v s1 h1 => thn h1 fun itv s2 h2 => ?_)) (fun _ s' hq => wpAny_pure (wpAny_pure hq)) fun _ _ e => e)
 obtain ⟨it, fp, tn, J, H2, e, I2, T, st2, f2, q2⟩ := h2
 subst e
 refine comp_block1 (QD := fun E' Hc => D.nx (σ.set i (some (.ref E'))) Hc) (R := fun acc C => compPost (model X.prog X.w) X.A X.xe (some (assign (.Name x px) X.env)) (fun _ s' => SP X pins D .next s') acc C) hc S c1 c2 hg hq he I2 T st2 f2 q2 ?_
 intro E' C Hc s4 ⟨m, hm⟩ J4 fC nL sC cC pC qd
 show wpAny _ _ (assign (.Name x px) X.env (.ref E')) _ _ s4
 refine wpAny_assign_Name (store_ok2 J4 hN hx (.inl hl) (v := .ref E') rfl (fun s5 J5 ⟨a, sb, ha⟩ => ?_) (.inr hl))
 have hCa : C ≠ a := by
  rcases ha with z | z
  ·rw [z]; exact nL
  ·exact (cC x a z).symm
 refine ⟨m, hm.sameBut sb hCa, fun h' hs' => ⟨σ.set i (some (.ref E')), Hc, ?_, qd⟩⟩
 exact J5.turned (t' := s5.toks) (fun b o hb e => (hs'.2 b hb).trans e) fC nL (.inr sC) cC pC
end
end L3
namespace L3
open PySem
def ExAt (h : Heap) (e : Addr) (cls : Value) (dd : Option Addr) (tb : Value) : Prop := ∃ oe vs, h.get? e = some oe ∧ (oe.cls = cls ∧ oe.dict = dd) ∧ oe.data = .fields vs ∧ vs[1]? = some tb
def TbAt (h : Heap) (T : Addr) (fl : Value) : Prop := ∃ oT ts, h.get? T = some oT ∧ oT.data = .fields ts ∧ ts[3]? = some fl
theorem ExAt.at {h h' : Heap} {e : Addr} {cls : Value} {dd : Option Addr} {tb : Value} (x : ExAt h e cls dd tb) (k : ∀ o, h.get? e = some o → h'.get? e = some o) : ExAt h' e cls dd tb :=
 let ⟨oe, vs, he, r⟩ := x; ⟨oe, vs, k _ he, r⟩
theorem TbAt.at {h h' : Heap} {T : Addr} {fl : Value} (x : TbAt h T fl) (k : ∀ o, h.get? T = some o → h'.get? T = some o) : TbAt h' T fl :=
 let ⟨o, ts, he, r⟩ := x; ⟨o, ts, k _ he, r⟩
structure Flown (fs xs : List Addr) (h h' : Heap) : Prop where
 keep : ∀ b o, h.get? b = some o → b ∉ fs → b ∉ xs → h'.get? b = some o
 slot : ∀ b o, h.get? b = some o → b ∈ fs → b ∉ xs → ∃ sl, h'.get? b = some { o with slots := sl }
 there : ∀ b o, h.get? b = some o → ∃ o', h'.get? b = some o'
theorem Flown.refl (fs xs : List Addr) (h : Heap) : Flown fs xs h h := ⟨fun _ _ e _ _ => e, fun _ o e _ _ => ⟨o.slots, e⟩, fun _ o e => ⟨o, e⟩⟩
theorem Flown.trans {fs xs ys : List Addr} {h h1 h2 : Heap} (a : Flown fs xs h h1) (b : Flown fs ys h1 h2) (hy : ∀ z ∈ ys, z ∈ xs ∨ h.get? z = none) : Flown fs xs h h2 where
 keep := fun c o e hf hx => b.keep c o (a.keep c o e hf hx) hf fun z => (hy c z).elim hx fun q => by rw [q] at e; cases e
 slot := fun c o e hf hx => by
  obtain ⟨sl, e1⟩ := a.slot c o e hf hx
  obtain ⟨sl', e2⟩ := b.slot c _ e1 hf fun z => (hy c z).elim hx fun q => by rw [q] at e; cases e
  exact ⟨sl', e2⟩
 there := fun c o e => let ⟨o1, e1⟩ := a.there c o e; b.there c o1 e1
section
variable {M : Model} {A : Around} {E : Value → Shared → Prop} {s : Shared} {base : Heap} {env : Env} {outer : List Env} {L e : Addr} {cls : Value} {dd : Option Addr} {tb : Value}
end
end L3
namespace L3
open PySem PySem.W
section
variable {prog : Program} {w : World} {A : Around} {h : Heap} {g : Array GenState} {d : Drawn} {t : Nat} {os : OsState}
variable {nm q : Str} {C N f : Addr} {bs bm : List Value} {hdct : Bool} {sn : List Str} {sub : List Value} {ab : Bool} {col : Option Bool} {dd : Option Addr} {k0 k1 k2 k3 k5 : Option Value} {Bn newId inN : String} {bmN : List Value}
structure ExcCls (h : Heap) (C : Addr) (nm q : Str) (N : Addr) (bs bm : List Value) (hdct : Bool) (sn : List Str) (sub : List Value) (ab : Bool) (col : Option Bool) (dd : Option Addr) (k0 k1 k2 k3 k5 : Option Value) (Bn newId : String) : Prop where
 obj : h.get? C = some (excClassObj nm q C N bs bm hdct sn sub ab col dd k0 k1 k2 k3 k5 newId)
 hB : (Value.ref C :: bm).contains (.type Bn) = true
 hA : (Value.ref C :: bm).contains (.type "AttributeError") = false
 hN : (Value.ref C :: bm).contains (.type "NameError") = false
 hE : (Value.ref C :: bm).contains (.type "BaseException") = true
end
end L3
namespace L3
open PySem PySem.W PySem.Calls PyProof.Rows Builtin Builtin.ObjectAttr
structure ExcSet (K : Frag) (C : Addr) (name : Str) : Prop where
 cls : ∃ cd own, clsIn K C = some cd ∧ cd.hasDict = true ∧ cd.mro = own ++ [.type "ValueError", .type "Exception", .type "BaseException", .type "object"] ∧ ∀ v ∈ own, ∃ a, v = Value.ref a
 no : findIn K (.ref C) name = some none
 set : findIn K (.ref C) "__setattr__" = some (some (.builtin "object.__setattr__"))
section
variable {prog : Program} {w : World} {A : Around} {K : Frag} {C e : Addr} {s : Shared} {name : Str} {R : Result → Shared → Prop}
structure ExcGet (K : Frag) (C : Addr) (name : Str) : Prop where
 cls : ∃ cd, clsIn K C = some cd ∧ cd.hasDict = true
 no : findIn K (.ref C) name = some none
 ga : findIn K (.ref C) "__getattribute__" = some (some (.builtin "BaseException.__getattribute__"))
 gh : findIn K (.ref C) "__getattr__" = some none
 base : mroIn K C (.type "BaseException") = some true
theorem bg_bind (self : Value) : bindSpecial (.builtin "BaseException.__getattribute__") self = pure (.builtin "BaseException.__getattribute__", [self]) := by kernel_rfl
theorem bg_kind : builtinKind "BaseException.__getattribute__" = some .slot := by decide +kernel
theorem bg_split : splitId "BaseException.__getattribute__" = some ("BaseException", "__getattribute__") := by decide +kernel
theorem bg_plain : plainId "BaseException.__getattribute__" = true := by decide +kernel
theorem bg_args (a b : Value) : argsOk "BaseException.__getattribute__" ⟨[a, b], []⟩ := by unfold argsOk; kernel_rfl
end
end L3
namespace L3
open PySem PySem.Spec PyProof.Rows L2
def XO (e : Addr) (cls : Value) (dd : Option Addr) : HO := .ext fun h => ∃ oe vs tb, h.get? e = some oe ∧ (oe.cls = cls ∧ oe.dict = dd) ∧ oe.data = .fields vs ∧ vs[1]? = some tb
theorem XO.at {P : Program} {w : World} {H : Hp} {h : Heap} {e : Addr} {cls : Value} {dd : Option Addr} (x : ObjOk P w H h e (XO e cls dd)) : ∃ tb, ExAt h e cls dd tb := by
 obtain ⟨⟨oe, vs, tb, q1, q2, q3, q4⟩, _⟩ := x
 exact ⟨tb, oe, vs, q1, q2, q3, q4⟩
def CX1 (P : Program) (w : World) : CXT := fun outer H s E e s' => ∃ (ea T : Addr) (cls : Value) (dd : Option Addr) (H' : Hp), e = .ref ea ∧ s'.os = s.os ∧ AllBare s'.gens ∧ Un (frs outer) [] H H' s.heap s'.heap ∧ HOk P w H' s'.heap ∧
 (s.heap.objs.size ≤ ea ∧ s.heap.objs.size ≤ T) ∧ H' ea = some (XO ea cls dd) ∧ (H' T = none ∧ T ≠ ea) ∧ ExAt s'.heap ea cls dd (.ref T) ∧ TbAt s'.heap T .none ∧ E cls dd H'
structure Leaves (X : Cx) (E : XK) : Prop where
 stk : X.stack = X.env :: X.outer
 fr : X.env.frame = some X.env.locals
 ex : X.ex = []
 xe : ∀ e s', wpAny (model X.prog X.w) X.A (leaving X.env e) (fun _ s'' => CX1 X.prog X.w X.outer X.H₀ X.s₀ E e s'') (fun e' s'' => CX1 X.prog X.w X.outer X.H₀ X.s₀ E e' s'') s' → X.xe e s'
section
variable {X : Cx} {E : XK} {pins : List (Addr × Obj)} {σ : L2.St} {H : Hp} {s : Shared} {e T : Addr} {cls : Value} {dd : Option Addr} {xs : List Addr} {h1 : Heap} {fl : Value}
end
section
variable {X : Cx} {pos pos' : Pos} {o value : Expr} {f : Str} {ta tv : TE}
end
structure ExcMk (K : PySem.W.Frag) (C f : Addr) : Prop where
 cls : ∃ nm q N bs bm hdct sn sub ab col dd k0 k1 k2 k3 k5, K.lookup C = some (excClassObj nm q C N bs bm hdct sn sub ab col dd k0 k1 k2 k3 k5 "ValueError.__new__") ∧ (Value.ref C :: bm).contains (.type "ValueError") = true ∧
  (Value.ref C :: bm).contains (.type "AttributeError") = false ∧ (Value.ref C :: bm).contains (.type "NameError") = false ∧ (Value.ref C :: bm).contains (.type "BaseException") = true
 init : PySem.W.findIn K (.ref C) "__init__" = some (some (.ref f))
 fn : PySem.W.isFn K (.ref f) = true
 kp : PySem.W.keepIn K (.ref C) = true
theorem ExcMk.at {K : PySem.W.Frag} {C f : Addr} (M : ExcMk K C f) {h : Heap} (k : K.In h) : ∃ nm q N bs bm hdct sn sub ab col dd k0 k1 k2 k3 k5, ExcCls h C nm q N bs bm hdct sn sub ab col dd k0 k1 k2 k3 k5 "ValueError" "ValueError.__new__" := by
 obtain ⟨nm, q, N, bs, bm, hdct, sn, sub, ab, col, dd, k0, k1, k2, k3, k5, h1, h2, h3, h4, h5⟩ := M.cls
 exact ⟨nm, q, N, bs, bm, hdct, sn, sub, ab, col, dd, k0, k1, k2, k3, k5, k _ _ h1, h2, h3, h4, h5⟩
section
variable {X : Cx} {k : Nat} {f C : Addr} {fd : FuncData} {ps : List Str} {sp : Sp} {dvs : List V} {ds : List Value} {pins : List (Addr × Obj)} {σ : L2.St} {H : Hp} {s : Shared} {us : List Value} {vs : List V}
end
end L3
namespace L3
open PySem PySem.W PySem.Calls PyProof.Rows Builtin Builtin.ObjectAttr
section
variable {prog : Program} {w : World} {A : Around} {E : Value → Shared → Prop} {K : Frag} {C D e : Addr} {s : Shared}
structure ExcIs (K : Frag) (C : Addr) : Prop where
 cls : ∃ cd, clsIn K C = some cd ∧ cd.hasDict = true
 ga : findIn K (.ref C) "__getattribute__" = some (some (.builtin "BaseException.__getattribute__"))
 gh : findIn K (.ref C) "__getattr__" = some none
 base : mroIn K C (.type "BaseException") = some true
 own : findIn K (.ref C) "__class__" = some (some (.builtin "object.__class__"))
 ds : specialIn K (.builtin "object.__class__") "__get__" = some (some (.builtin "getset_descriptor.__get__"))
 tk : takesIn K (.builtin "object.__class__") = some true
 obj : mroIn K C (.type "object") = some true
theorem exc_class {oe : Obj} {od : Obj} {Q : Option Value → Shared → Prop} (X : K.In s.heap) (S : ExcIs K C) (J : InstAt s.heap e oe C (some od)) (h : Q (some (.ref C)) { s with toks := s.toks + 1 }) :
  wpAny (model prog w) A (getAttr? (.ref e) "__class__") Q E s := by
 obtain ⟨⟨cd, hcd, hdict⟩, hga, hgh, hbase, hown, hds, htk, hobj⟩ := S
 obtain ⟨hp, g, d, t, os⟩ := s
 have hf : findObj K C (some od) "__class__" = some (.bind (.builtin "getset_descriptor.__get__") (.builtin "object.__class__")) := findObj_data (by rw [hcd]; rfl) hown hds htk
 have L0 := J.type (M := model prog w)
 have L1 := looks_findIn (M := model prog w) X hga
 have L2 := looks_findIn (M := model prog w) X hgh
 have L3' := looks_find (M := model prog w) X J hf
 have sub : Looks (model prog w) hp (isInstance (.ref e) (.type "BaseException")) true := L0.andThen (looks_mroIn X hbase)
 unfold getAttr? getAttrBy? getAttrBy
 refine wpAny_bind (wpAny_mkText (wpAny_bind (wpAny_attempt (wpAny_holding (wpAny_bind (L0.at (wpAny_bind (L1.at ?_))))))))
 show wpAny _ _ (getAttrByItsOwn _ _ _ _ _ _) _ _ _
 unfold getAttrByItsOwn
 refine wpAny_bind (L2.at (wpAny_bind (wpAny_attempt (wpAny_holding ?_))))
 unfold callGetattribute
 rw [if_neg (by decide)]
 unfold boundAndCalled
 rw [bg_bind]
 refine wpAny_bind (wpAny_pure (wpAny_call ?_))
 refine codeAny_call_builtin bg_plain F.entry_bexc_ga (@check_slot (model prog w) _ _ _ "BaseException.__getattribute__" "BaseException" "__getattribute__" (.ref e) [.str "__class__" t] [] _ bg_kind bg_split sub (bg_args (.ref e) (.str "__class__" t)) ?_)
 show wpAny _ _ (typeOf (.ref e) >>= fun tp => find (.ref e) tp "__class__" >>= _) _ _ _
 refine wpAny_bind (L0.at (wpAny_bind (L3'.at ?_)))
 have hcall := class_get (prog := prog) (w := w) (A := A.in1) (s := ⟨hp, g, d, t + 1, os⟩) (tp := .ref C) (R := fun r s' => r = .ok (.ret (.ref C)) ∧ s' = ⟨hp, g, d, t + 1, os⟩) X J hobj ⟨rfl, rfl⟩
 unfold bindTo
 refine wpAny_bind (wpAny_holding (wpAny_call (codeAny_mono hcall fun r s' z => ?_)))
 obtain ⟨rfl, rfl⟩ := z
 refine wpAny_pure ?_
 show wpAny _ _ (handedOut (.ref C)) _ _ _
 exact handed_on rfl (wpAny_pure h)
end
end L3
namespace L3
open PySem PySem.Spec PyProof.Rows L2
section
variable {K : PySem.W.Frag} {C e : Addr}
theorem kitx_exc {oe od : Obj} (S : ExcIs K C) : PySem.W.KitX K (.ref e) (.ref C) (fun h => PySem.W.InstAt h e oe C (some od)) where
 ty := fun _ _ _ I => I.type
 it := fun _ _ X _ => by
  obtain ⟨cd, hcd, _⟩ := S.cls
  unfold PySem.W.clsIn at hcd
  split at hcd
  ·rename_i ho
   intro A' Q' E' s' k q
   unfold isType loadHead
   exact wpAny_bind (wpAny_loadPart (k _ _ (X _ _ ho)) (wpAny_pure q))
  ·cases hcd
 ne := fun h tp dd its n sl X htp => by
  obtain ⟨cd, hcd, _⟩ := S.cls
  refine Bool.eq_false_iff.mpr fun q => ?_
  have z : C = tp := Value.ref.inj (beq_iff_eq.mp q)
  subst z
  unfold PySem.W.clsIn at hcd
  split at hcd
  ·rename_i ho
   have y := (X _ _ ho).symm.trans htp
   cases y
  ·cases hcd
 ca := fun X I k => exc_class X S I k
variable {X : Cx} {pins : List (Addr × Obj)} {σ : L2.St} {H : Hp} {s : Shared} {dx : Addr} {fs : List (Str × V)}
theorem exc_inst (I : Inv X pins σ H s) (he : H e = some (XO e (.ref C) (some dx))) (hd : H dx = some (.xd fs)) : ∃ (oe od : Obj) (mA : Str → Option Value), PySem.W.InstAt s.heap e oe C (some od) ∧ (∀ name, PySem.W.lookIn name od = some (mA name)) ∧ ∀ f, RelO (fs.lookup f) (mA f) := by
 obtain ⟨tb, oe, vs, h1, ⟨h2, h3⟩, h4, _⟩ := XO.at (I.hok e _ he)
 obtain ⟨mA, hn, hr⟩ := (show ObjOk X.prog X.w H s.heap dx (.xd fs) from I.hok dx _ hd)
 obtain ⟨od, q1, q2⟩ := lookIn_ns hn
 refine ⟨oe, od, mA, ⟨h1, h2, by unfold PySem.W.notCls; rw [h4], by rw [h3]; exact q1⟩, q2, hr⟩
def rIsX (K : PySem.W.Frag) : List V → Hp → VK → Prop := fun xs H Q => ∃ e C dx fs c cv b, xs = [.ref e, c] ∧ H e = some (XO e (.ref C) (some dx)) ∧ H dx = some (.xd fs) ∧ ExcIs K C ∧ (∀ u, RelV c u → u = cv) ∧ PySem.W.kitOne K (.ref C) cv = some b ∧ Q (.bl b) H
theorem call_isX : CallR X (.builtin "isinstance") (rIsX X.K) := by
 intro pins s σ H xs us Q I r h
 obtain ⟨e, C, dx, fs, c, cv, b, rfl, he, hd, S, hc, k, q⟩ := h
 obtain ⟨u, v, rfl, ru, rv⟩ := vals2 r
 obtain rfl : u = Value.ref e := ru
 cases hc v rv
 obtain ⟨oe, od, mA, J, _⟩ := exc_inst I he hd
 exact PySem.W.kia_one (kitx_exc S) I.kIn J k (fun z => nomatch z) fun tk => ⟨.bl b, H, I.tok tk, rfl, q⟩
end
section
variable {X : Cx} {k : Nat} {f : Addr} {fd : FuncData} {ps : List Str} {sp : Sp} {dvs : List V} {ds : List Value} {x : Str} {p pos : Pos} {e : Expr} {es : List Expr} {t : TA}
variable {te : TEX}
end
section
variable {X : Cx} {pins : List (Addr × Obj)} {σ : L2.St} {H : Hp} {s : Shared} {e : Addr}
end
structure Catch (K : PySem.W.Frag) (C D : Addr) (b : Bool) : Prop where
 ty : PySem.W.typeIn K (.ref D) = some (.type "type")
 cls : (PySem.W.clsIn K D).isSome = true
 exc : PySem.W.mroIn K D (.type "BaseException") = some true
 sub : PySem.W.mroIn K C (.ref D) = some b
section
open PySem.W
end
section
variable {X : Cx} {body suite : List Stmt} {b₀ : Stmt} {x n : Str} {np hpos pos : Pos} {D : Addr} {i : Nat} {tb : TSX} {ts : TS}
end
end L3
namespace L3
open PySem PyProof.Rows
section
variable {prog : Program} {w : World} {A : Around} {E : Value → Shared → Prop} {s : Shared}
abbrev IsZipB (h : Heap) (z TI TO : Addr) (f0 : Value) (b : Bool) : Prop :=
 h.get? z = some { cls := .type "zip", dict := none, data := .fields #[f0, .bool b, .bool false, .ref TI, .ref TO], slots := #[] }
end
section
variable {prog : Program} {w : World} {A : Around} {E : Value → Shared → Prop} {s : Shared}
structure ZS (h0 h : Heap) (S z TI TO i1 i2 l1 l2 : Addr) (xs ys : Array Value) (Ts : List Addr) : Prop where
 kept : ∀ b o, h0.get? b = some o → h.get? b = some o
 zp : (Ts = [] ∧ IsZipB h z TI TO .none false ∧ ∃ a b, IsPair h TO a b) ∨ ∃ (T : Addr) (b : Bool) (oT : Obj), IsZipB h z TI TO (rawInt T) b ∧ h.get? T = some oT
 ti : IsPair h TI (.ref i1) (.ref i2)
 to : ∃ o, h.get? TO = some o
 t1 : h.IsListIter i1 l1 Ts.length
 t2 : h.IsListIter i2 l2 Ts.length
 nd : Ts.Nodup
 tp : ∀ (j : Nat) T, Ts[j]? = some T → ∃ x y, xs[j]? = some x ∧ ys[j]? = some y ∧ IsPair h T x y
 tb : ∀ T ∈ Ts, h0.objs.size ≤ T ∧ T ≠ z ∧ T ≠ TO ∧ T ≠ i1 ∧ T ≠ i2 ∧ T ≠ S
structure ZF (h0 : Heap) (S z TI TO i1 i2 l1 l2 : Addr) (xs ys : Array Value) : Prop where
 D : ZipApart z TI TO i1 i2 l1 l2
 l1 : h0.IsList l1 xs
 l2 : h0.IsList l2 ys
 nz : h0.objs.size ≤ z
 nTO : h0.objs.size ≤ TO
 n1 : h0.objs.size ≤ i1
 n2 : h0.objs.size ≤ i2
 nS : h0.objs.size ≤ S
 sz : S ≠ z
 sTI : S ≠ TI
 sTO : S ≠ TO
 s1 : S ≠ i1
 s2 : S ≠ i2
end
structure ZEnd (h0 h : Heap) (S : Addr) (xs ys : Array Value) (Ts : List Addr) : Prop where
 kept : ∀ b o, h0.get? b = some o → h.get? b = some o
 len : Ts.length = min xs.size ys.size
 nd : Ts.Nodup
 tp : ∀ (j : Nat) T, Ts[j]? = some T → ∃ x y, xs[j]? = some x ∧ ys[j]? = some y ∧ IsPair h T x y
 tb : ∀ T ∈ Ts, h0.objs.size ≤ T ∧ T ≠ S
 so : ∃ c, h.get? S = some { cls := .type "list", dict := none, data := .seq (Ts.map Value.ref).toArray c, slots := #[] }
section
variable {prog : Program} {w : World} {A : Around} {R : Result → Shared → Prop}
end
section
variable {prog : Program} {w : World} {A : Around} {E : Value → Shared → Prop} {s : Shared} {R : Result → Shared → Prop}
end
end L3
namespace L3
open PySem PySem.Spec PyProof.Rows L2
section
variable {X : Cx} {pins : List (Addr × Obj)} {σ : L2.St} {H H' : Hp} {s : Shared} {h' : Heap}
end
section
variable {X : Cx}
end
section
variable {X : Cx}
def tRev (K : PySem.W.Frag) (te : TE) (tk : TO) : TE := fun σ H Q => te σ H fun x H1 => tk σ H1 fun o H2 => o = some (-1) ∧ ∃ a xs, x = V.ref a ∧ SqL K H2 a xs ∧ ∀ p, H2 p = none → Q (.ref p) (upd H2 p (.lst xs.reverse))
theorem pe_rev {e k : Expr} {te : TE} {tk : TO} {p2 pos : Pos} (he : PE X e te) (hk : PO X (some k) tk) : PE X (.Subscript e (.Slice none none (some k) p2) pos) (tRev X.K te tk) := by
 intro pins s σ H Q I h
 refine Subscript_ (thn (he pins s σ H _ I h) fun v s1 ⟨x, H1, I1, r1, q1⟩ => ?_)
 refine wpAny_Slice ?_
 simp only [evalPart_none]
 refine wpAny_pure (wpAny_pure ?_)
 refine thn (hk pins s1 σ H1 _ I1 q1) fun vk s2 ⟨o, H2, I2, pk, q2⟩ => ?_
 obtain ⟨rfl, a, xs, rfl, hx, q⟩ := q2
 cases r1
 have I3 : Inv X pins σ H2 { s2 with heap := s2.heap.push { cls := .type "slice", data := .fields #[.none, .none, vk] } } := I2.kept (t' := s2.toks) fun b ob q => Heap.get?_push_of_some _ q
 obtain ⟨its, r, ht, hz⟩ := I3.list hx
 have hlen := r.length
 show wpAny (model X.prog X.w) X.A (subscriptTail e (.Slice none none (some k) p2) (.ref a) (.ref s2.heap.objs.size)) (EP X pins σ Q) X.xe { s2 with heap := s2.heap.push { cls := .type "slice", data := .fields #[.none, .none, vk] } }
 refine tail_any (ops := [.ref a, .ref s2.heap.objs.size]) ht.isList.typeIs slot_list_getitem.lookup ?_ (by with_unfolding_all rfl)
 refine wpAny_getItem_list_slice ht.isList (Heap.IsSliceOf.new ..) .none .none pk (by simp) ?_ (by rw [List.size_toArray] <;> omega)
 rw [PySem.W.krv_pick]
 refine ⟨.ref _, _, I3.laid (t' := s2.toks) (o := .lst xs.reverse) (fun b ob q => Heap.get?_push_of_some _ q) (Nat.le_refl _) ?_, rfl, q _ (I3.hok.fresh (Nat.le_refl _))⟩
 exact ⟨by rw [List.length_reverse]; exact hz, _, 0, r.reverse, Heap.get?_push_size _ rfl⟩
theorem getD_get {ns : List Int} {j : Nat} (h : j < ns.length) : ns.getD j 0 = ns[j] := by rw [List.getD_eq_getElem?_getD, List.getElem?_eq_getElem h]; rfl
theorem call_min1 (hc : X.calm = true) : CallR X (.builtin "min") (fun xs H Q => ∃ (a : Addr) (ns : List Int), xs = [V.ref a] ∧ SqL X.K H a (ns.map V.int) ∧ 0 < ns.length ∧ ∀ m, m ∈ ns → (∀ b, b ∈ ns → m ≤ b) → Q (.int m) H) := by
 intro pins s σ H xs us Q I r h
 obtain ⟨a, ns, rfl, hx, hne, q⟩ := h
 obtain ⟨u, rfl, ru⟩ := vals1 r
 cases ru
 obtain ⟨its, rv, p, hz⟩ := I.list hx
 have hi : IntsAre its ns := intsAre_of rv
 obtain ⟨ys, e⟩ := hi.allInts.items
 have hns : ns = ys.toList.map (·.1) := by rw [← hi.numsOf, ← nums_intItems, ← e]
 have hl : ns.length = ys.size := by rw [hns, List.length_map, Array.length_toList]
 have pl := p.isList
 rw [e] at pl
 refine min_intList (I.ok.hd hc) pl (by omega) fun v h' tk hv hk => ?_
 obtain ⟨t, rfl⟩ := intItems_at hv
 obtain ⟨h1, h2⟩ := argBest_lt (numAt ys) (ys.size - 1)
 refine ⟨.int _, H, I.kept hk, ⟨t, rfl⟩, q _ ?_ fun b hb => ?_⟩
 ·rw [numAt_eq, ← hns, getD_get (by omega)]; exact List.getElem_mem _
 ·obtain ⟨j, hj, rfl⟩ := List.mem_iff_getElem.mp hb
  have := h2 j (by omega)
  rw [numAt_eq ys j, ← hns, getD_get hj] at this
  exact this
def rIndex (K : PySem.W.Frag) : V → List V → Hp → VK → Prop := fun x vs H Q => ∃ l xs y k z, x = .ref l ∧ vs = [y] ∧ SqL K H l xs ∧ flatV y = true ∧ xs.all flatV = true ∧ xs[k]? = some z ∧ eqV z y = true ∧ (∀ (j : Nat) u, j < k → xs[j]? = some u → eqV u y = false) ∧ Q (.int k) H
theorem mt_index : MtR X "list.index" (rIndex X.K) := by
 intro pins s σ H x vs v us Q I rx rv h
 obtain ⟨l, xs, y, k, z, rfl, rfl, hx, fy, fs, hk, he, hno, q⟩ := h
 cases rx
 obtain ⟨u, rfl, ru⟩ := vals1 rv
 obtain ⟨its, r, p, hz⟩ := I.list hx
 obtain ⟨⟨cls, dd, data, sl⟩, ho, hc, n, hd⟩ := p.isList
 simp only at hc hd
 subst hc hd
 have hlen := r.length
 have hkl := (List.getElem?_eq_some_iff.mp hk).1
 have ev : ∀ (j : Nat) (w : V), xs[j]? = some w → ∀ hj : j < its.toArray.size, eqU y its.toArray[j] = eqV w y := by
  intro j w hw hj
  obtain ⟨u', hu', ru'⟩ := r.get hw
  have hf : flatV w = true := by
   rw [List.all_eq_true] at fs
   exact fs w (List.mem_of_getElem? hw)
  have e : its.toArray[j] = u' := by
   have := (List.getElem?_eq_some_iff.mp hu').2
   simpa using this
  rw [e]; exact eqU_of ru' hf
 have h63 := line63
 refine call_meets PySem.F.slot_list_index ⟨_, ho, rfl⟩ PySem.F.entry_list_index (PySem.F.args_list_index_2 _ _)
  (SeqAt.list_indexAt l its.toArray n dd sl u (eqU y) k (by rw [List.size_toArray]; omega) (by omega) ?_ ?_) ⟨ho, fun w hw => mem_eqAt ru fy r fs w (by simpa using hw), ⟨.int k, H, I.tok _, ⟨_, rfl⟩, q⟩⟩
 ·rw [ev k z hk]; exact he
 ·intro j hj hlt
  have hj' : j < xs.length := by rw [List.size_toArray] at hj; omega
  rw [ev j _ (List.getElem?_eq_getElem hj')]
  exact hno j _ hlt (List.getElem?_eq_getElem hj')
theorem turned2 {pins : List (Addr × Obj)} {σ : L2.St} {H : Hp} {s : Shared} {h' : Heap} {t' : Nat} {a b : Addr} (I : Inv X pins σ H s) (k : ∀ c o, c ≠ a → c ≠ b → s.heap.get? c = some o → h'.get? c = some o) (fa : FpOk X pins H a) (fb : FpOk X pins H b) : Inv X pins σ H { s with heap := h', toks := t' } := by
 have na : ∀ c u, H c = some u → c ≠ a := by
  intro c u e z
  rw [z, fa.1] at e
  cases e
 have nb : ∀ c u, H c = some u → c ≠ b := by
  intro c u e z
  rw [z, fb.1] at e
  cases e
 have kk : ∀ c o, c ∉ [a, b] → s.heap.get? c = some o → h'.get? c = some o := by
  intro c o hc e
  refine k c o ?_ ?_ e
  ·intro z; apply hc; rw [z]; simp
  ·intro z; apply hc; rw [z]; simp
 refine I.step (ch := [a, b]) (g' := s.gens) (d' := s.drawn) ?_ ?_ ?_ ?_ ?_ ?_ ?_ ?_ ?_ ?_ I.bare
 ·intro c hc
  have : c = a ∨ c = b := by simpa using hc
  rcases this with rfl | rfl
  ·exact ⟨fa.2.2.2.1, fa.2.1, fa.2.2.2.2.1, fa.2.2.2.2.2⟩
  ·exact ⟨fb.2.2.2.1, fb.2.1, fb.2.2.2.2.1, fb.2.2.2.2.2⟩
 ·intro c o _ _ hc e _; exact kk c o hc e
 ·intro c o _ _ hc e _; exact ⟨o.slots, kk c o hc e⟩
 ·intro _ _ _ _ n; exact n
 ·intro c o hc e; exact ⟨o, kk c o hc e⟩
 ·intro _ _ e; exact e
 ·intro _ _ _ e; exact e
 ·intro c ps e; exact ⟨#[], by rw [e]; simp⟩
 ·rintro m ⟨o, es, ep, ho, r⟩
  exact ⟨o, es, ep, k _ o (Ne.symm fa.2.1) (Ne.symm fb.2.1) ho, r⟩
 ·intro c u e
  refine (I.hok c u e).stay ?_ (fun _ q => q) fun _ _ q => q
  intro d v hd q
  rcases hd with z | z
  ·subst z; exact k d v (na d u e) (nb d u e) q
  ·exact k d v (na d _ z) (nb d _ z) q
def Ite (K : PySem.W.Frag) (a : Addr) : It :=
 ⟨fun i H => ∃ xs x, SqL K H a xs ∧ xs[i]? = some x, fun i H x H' => ∃ p y, H p = none ∧ H' = upd H p (.tup [.int i, y]) ∧ x = .ref p ∧ ∀ xs, SqL K H a xs → xs[i]? = some y, fun i H => ∃ xs, SqL K H a xs ∧ xs.length ≤ i⟩
theorem push_cases {h : Heap} {o u : Obj} {b : Addr} (e : (h.push o).get? b = some u) : h.get? b = some u ∨ b = h.objs.size := by
 by_cases hb : b = h.objs.size
 ·exact .inr hb
 ·refine .inl ?_
  have hl := Heap.lt_size e
  rw [Heap.size_push] at hl
  obtain ⟨e1, e2⟩ := Heap.get?_some_iff.mp e
  refine Heap.get?_some_iff.mpr ⟨?_, e2⟩
  cases h
  simpa [Heap.push, Array.getElem?_push, hb] using e1
theorem turn_enum {P : Program} {w : World} {K : PySem.W.Frag} {elts : List Expr} {x1 : Nat} {tp : Pos} (a e it : Addr) (hne : e ≠ it) :
  Turn P w K (.Tuple elts x1 tp) (Ite K a) [e, it] e (fun i h => (∃ old, IsEnum h e it i old) ∧ h.IsListIter it a i) where
 mem := by simp
 obj := by
  rintro i h ⟨⟨old, he⟩, hit⟩ b hb
  have : b = e ∨ b = it := by simpa using hb
  rcases this with rfl | rfl
  ·exact ⟨_, he, fun v z => by cases z⟩
  ·obtain ⟨o, e, c, d⟩ := hit
   exact ⟨o, e, fun v z => by rw [d] at z; cases z⟩
 keep := by
  rintro i h h' ⟨⟨old, he⟩, hit⟩ k
  exact ⟨⟨old, k e (by simp) _ he⟩, hit.at fun o z => k it (by simp) o z⟩
 item := by
  rintro X rfl rfl rfl hc i pins s σ H E I hf ⟨⟨old, he⟩, hit⟩ ⟨xs, x, hq, hx⟩
  obtain ⟨its, rv, p, hz⟩ := I.list hq
  obtain ⟨u, hu, ru⟩ := rv.get hx
  have fe := hf e (by simp)
  have fi := hf it (by simp)
  have le : e < s.heap.objs.size := Heap.lt_size he
  have li : it < s.heap.objs.size := by obtain ⟨o, z, _⟩ := hit; exact Heap.lt_size z
  refine wpAny_pyNext_enum_item he hit p.isList (x := u) (by simpa using hu) hne fun h1 ho hit1 hT hsz hk => ?_
  refine ⟨_, rfl, wpAny_letOwnedTupleGo_enum ho fun h2 he2 hs2 => ?_⟩
  replace hs2 : Heap.SameBut e h1 h2 := hs2
  have hT2 : h2.get? s.heap.objs.size = some { cls := .type "tuple", data := .seq #[.int i s.toks, u] } := (hs2.2 _ (Nat.ne_of_gt le)).trans hT
  have hn : H s.heap.objs.size = none := I.hok.fresh (Nat.le_refl _)
  have I1 : Inv X pins σ (upd H s.heap.objs.size (.tup [.int i, x])) { s with heap := s.heap.push { cls := .type "tuple", data := .seq #[.int i s.toks, u] }, toks := s.toks + 1 } := by
   refine I.laid (fun b ob q => Heap.get?_push_of_some _ q) (Nat.le_refl _) ⟨show 2 ≤ sizeLine by rw [sizeLine_eq]; omega, [.int i s.toks, u], .cons ⟨_, rfl⟩ (.cons ru .nil), ⟨_, Heap.get?_push_size _ rfl, rfl, _, rfl⟩⟩
  have up : ∀ b, b < s.heap.objs.size → FpOk X pins H b → FpOk X pins (upd H s.heap.objs.size (.tup [.int i, x])) b := by
   rintro b lb ⟨f0, f⟩
   refine ⟨?_, f⟩
   rw [upd_ne (Nat.ne_of_lt lb)]
   exact f0
  have I2 := turned2 (h' := h2) (t' := s.toks + 1) I1 (fun c o ha hb e' => by
   rcases push_cases e' with z | z
   ·exact (hs2.2 c ha).trans (hk c o ha hb z)
   ·subst z
    have z2 : (s.heap.push { cls := .type "tuple", data := .seq #[.int i s.toks, u] }).get? s.heap.objs.size = some o := e'
    rw [Heap.get?_push_size _ rfl] at z2
    cases z2
    exact hT2) (up e le fe) (up it li fi)
  refine ⟨.ref s.heap.objs.size, _, I2, rfl, ⟨_, x, hn, rfl, rfl, fun ys hy => by rw [I.list_inj hy hq]; exact hx⟩, ⟨⟨_, by simpa using he2⟩, hit1.at fun o z => (hs2.2 it (Ne.symm hne)).trans z⟩, fun b hb => ?_⟩
  have : b = e ∨ b = it := by simpa using hb
  rcases this with rfl | rfl
  ·exact (up _ le fe).1
  ·exact (up _ li fi).1
 done := by
  rintro X rfl rfl rfl hc i pins s σ H E I hf ⟨⟨old, he⟩, hit⟩ ⟨xs, hq, hx⟩
  obtain ⟨its, rv, p, hz⟩ := I.list hq
  obtain ⟨f0, f1, f2, f3, f4, f5⟩ := hf it (by simp)
  have hl := rv.length
  exact wpAny_pyNext_enum_end (I.ok.hd hc) he hit p.isList (by simp; omega) fun h' eb => ⟨rfl, I.turned (t' := s.toks) (fun b o hb e => eb b o hb e) f0 f1 f3 f4 f5⟩
 self := by
  rintro A i s Q E ⟨⟨old, he⟩, hit⟩ h
  exact wpAny_pyIter_enum he h
def iEnum (K : PySem.W.Frag) (ta : TA) : TI := fun σ H R => ta σ H fun vs H1 => ∃ a, vs = [V.ref a] ∧ (∃ xs, SqL K H1 a xs) ∧ R (Ite K a) H1
theorem pi_enum {elts : List Expr} {x1 : Nat} {tp : Pos} {l : Expr} {ta : TA} {p pos : Pos} (hg : Gl X "enumerate") (hm : X.mg "enumerate" = none) (ha : PA X [l] ta) (hs : starEach [l] X.env = [(false, eval l X.env)]) :
  PI X (.Tuple elts x1 tp) (.Call (.Name "enumerate" p) [l] [] pos) (iEnum X.K ta) := by
 intro pins s σ H R I h
 refine Call_ (ld_blt I hg hm (u := .type "enumerate") (by kernel_rfl) (PyProof.Rows.callWith_type1 (thn (ha pos pins s σ H _ I h) fun us s1 ⟨vs, H1, I1, r1, q1⟩ => ?_) hs rfl))
 obtain ⟨a, rfl, ⟨xs, hq⟩, q⟩ := q1
 obtain ⟨u, rfl, ru⟩ := vals1 r1
 cases ru
 obtain ⟨its, rv, pl, hz⟩ := I1.list hq
 refine call_enumerate_list pl.isList fun h' he hit hsz hk => ?_
 refine wpAny_pyIter_enum he ?_
 have hne : s1.heap.objs.size + 1 ≠ s1.heap.objs.size := by omega
 refine ⟨s1.heap.objs.size + 1, [s1.heap.objs.size + 1, s1.heap.objs.size], _, _, H1, rfl, I1.kept (t' := s1.toks) hk, turn_enum a _ _ hne, ⟨⟨_, he⟩, hit⟩, fun b hb => ?_, q⟩
 have hb' : s1.heap.objs.size ≤ b := by
  have : b = s1.heap.objs.size + 1 ∨ b = s1.heap.objs.size := by simpa using hb
  rcases this with rfl | rfl
  ·exact Nat.le_succ _
  ·exact Nat.le_refl _
 exact I1.fpOk hb' (I1.hok.fresh hb')
end
end L3
namespace PySem
theorem dl_keys_none : typeLookup (.type "list") "keys" = pure none := by rw [typeLookup_type, builtinLookup_eq_fast]; kernel_rfl
theorem dl_miss {prog : Program} {w : World} {A : Around} {E : Value → Shared → Prop} {s : Shared} {a : Addr} {o : Obj} {xs : Array Value} {k : Nat} {name : Str} {u : Tok} {Q : Value → Shared → Prop}
  (hx : s.heap.get? a = some o) (hc : o.cls = .type "list") (hdat : o.data = .seq xs k) (hd : o.dict = none) (hmiss : typeLookup (.type "list") name = pure none) (hname : (["__module__", "__name__", "__qualname__", "__doc__", "__annotations__"] : List Str).contains name = false) (hA : A.handled = none)
  (h : ∀ h' tk e, Heap.NewExcOf s.heap h' e "AttributeError" → E (.ref e) { s with heap := h', toks := tk }) (hsz : name.length + 100 ≤ sizeLine := by size_fits) :
  wpAny (model prog w) A (getAttrBy (.ref a) (.str name u) false) Q E s := by
 obtain ⟨c, dct, dat, sl⟩ := o
 simp only at hc hdat hd
 subst hc hdat hd
 obtain ⟨hp, g, d, tk, os⟩ := s
 have hT : ∀ tk', (⟨hp, g, d, tk', os⟩ : Shared).TypeIs (.ref a) "list" := fun _ => ⟨_, hx, rfl⟩
 have f1 := sub_AttributeError
 have f3 := F.slot_list_getattribute.lookup
 have f4 := F.slot_list_getattribute.bind (.ref a)
 have f5 := am_list_getattr_none
 unfold getAttrBy
 repeat (any_goals (first | assumption | exact hT _ | ((with_reducible show wpAny _ _ (call (Value.builtin "list.__getattribute__") _ _) _ _ _); refine call_meets F.slot_list_getattribute (hT _) am_entry_list_getattribute (F.args_list_getattribute_2 _ _) (meets_getattribute_miss_list a xs k sl name _ hmiss hname hsz) ⟨hx, hA, fun h' tk' e hx' => ?_⟩) | wp_step))
 obtain ⟨t', u', he⟩ := hx'.there
 show wpAny _ _ (getattributeRaised _ _ _ _ _ _ _) _ _ _
 unfold getattributeRaised
 repeat (any_goals (first | assumption | wp_step))
 exact h _ _ _ hx'.of
theorem dl_keys {prog : Program} {w : World} {A : Around} {E : Value → Shared → Prop} {s : Shared} {a : Addr} {o : Obj} {xs : Array Value} {k : Nat} {Q : Option Value → Shared → Prop}
  (hx : s.heap.get? a = some o) (hc : o.cls = .type "list") (hdat : o.data = .seq xs k) (hd : o.dict = none) (hA : A.handled = none)
  (h : ∀ h' tk, (∀ b o, s.heap.get? b = some o → h'.get? b = some o) → Q none { s with heap := h', toks := tk }) : wpAny (model prog w) A (getAttr? (.ref a) "keys") Q E s := by
 obtain ⟨hp, g, d, tk, os⟩ := s
 unfold getAttr? getAttrBy?
 have f1 := sub_AttributeError
 repeat (any_goals (first | assumption | ((with_reducible show wpAny _ _ (getAttrBy _ _ false) _ _ _); refine dl_miss hx hc hdat hd dl_keys_none (by decide +kernel) hA fun h' tk' e hx' => ?_; obtain ⟨ob, vs, he, hcl, _, _⟩ := hx'.there; refine wpAny_bind (wpAny_isInstance (T := "AttributeError") ⟨ob, he, hcl⟩ f1 ?_); exact wpAny_pure (h h' tk' hx'.keeps)) | wp_step))
section
variable {prog : Program} {w : World} {A : Around} {E : Value → Shared → Prop} {R : Result → Shared → Prop}
theorem dl_entry_loop : entryFor table "dict.update.loop" = some Builtin.«dict.update.loop» := entryFor_of_tree (by kernel_rfl)
theorem dl_plain_loop : plainId "dict.update.loop" = true := by decide +kernel
def DPair {K : Type} [DecidableEq K] (knd : KeyKind prog w K) (h : Heap) (v : Value) (p : K × Value) : Prop := ∃ t u, v = .ref t ∧ h.IsTuple t #[u, p.2] ∧ knd.is p.1 u = true
theorem dl_apart {K : Type} [DecidableEq K] {knd : KeyKind prog w K} {h : Heap} {d I l : Addr} {i : Nat} {kvs : List (K × Value)} (hd : h.DictOf knd d kvs) (hI : h.IsListIter I l i) : d ≠ I := by
 rintro rfl
 obtain ⟨o, _, _, ho, _, hc, _⟩ := hd
 obtain ⟨o2, ho2, _, hc2⟩ := hI
 rw [ho] at ho2
 cases ho2
 rw [hc] at hc2
 cases hc2
theorem dl_loop {K : Type} [DecidableEq K] {knd : KeyKind prog w K} {l I d : Addr} {items : Array Value} {ps : List (K × Value)} (hh : A.in1.handled = none) (hsz : items.size < sizeLine) (hps : ps.length = items.size) :
  ∀ (k i : Nat) (s : Shared) (kvs : List (K × Value)) (t : Tok), items.size - i = k → i ≤ items.size → kvs.length ≤ i →
  s.heap.IsListIter I l i → s.heap.IsList l items → s.heap.DictOf knd d kvs → (∀ (j : Nat) v p, items[j]? = some v → ps[j]? = some p → DPair knd s.heap v p) →
  (∀ h' tk, h'.DictOf knd d ((ps.drop i).foldl (fun m p => stored m p.1 p.2) kvs) → (∀ b o, b ≠ I → b ≠ d → s.heap.get? b = some o → h'.get? b = some o) → R (.ok (.ret .none)) { s with heap := h', toks := tk }) →
  codeAny (model prog w) A (.builtin "dict.update.loop" ⟨[.ref d, .ref I, .int i t, .none], []⟩) R s := by
 intro k
 induction k with
 | zero =>
  intro i s kvs t hk hi hkv hI hl hd hp q
  have hin : i = items.size := by omega
  refine codeAny_builtin dl_entry_loop ?_
  rw [Around.under_plainId dl_plain_loop _]
  show wpAny _ A.in1 (pyNext (.ref I) >>= _) _ _ s
  refine wpAny_bind (wpAny_pyNext_list_end hh hI hl (by rw [hin]; simp) fun h' he => ?_)
  show wpAny _ _ (Builtin.Dict.addKeywords d [] >>= _) _ _ _
  refine wpAny_bind (wpAny_pure (wpAny_pure ?_))
  have hdI := dl_apart hd hI
  refine q h' _ ?_ fun b o h1 _ e => he b o h1 e
  rw [List.drop_of_length_le (by omega)]
  exact hd.extBut he hdI
 | succ k ih =>
  intro i s kvs t hk hi hkv hI hl hd hp q
  have hlt : i < items.size := by omega
  obtain ⟨v, hv⟩ : ∃ v, items[i]? = some v := ⟨_, Array.getElem?_eq_getElem hlt⟩
  obtain ⟨p, hpi⟩ : ∃ p, ps[i]? = some p := ⟨_, List.getElem?_eq_getElem (by omega)⟩
  refine codeAny_builtin dl_entry_loop ?_
  rw [Around.under_plainId dl_plain_loop _]
  show wpAny _ A.in1 (pyNext (.ref I) >>= _) _ _ s
  refine wpAny_bind (wpAny_pyNext_list_item hI hl hv fun h' hI' hs' => ?_)
  obtain ⟨tt, u, rfl, htp, hku⟩ := hp i v p hv hpi
  have hdI := dl_apart hd hI
  have keepI : ∀ b o, b ≠ I → s.heap.get? b = some o → h'.get? b = some o := fun b o hb e => (hs'.2 b hb).trans e
  have tI : tt ≠ I := by
   rintro rfl
   obtain ⟨o, ho, _, n, hc⟩ := htp
   obtain ⟨o2, ho2, _, hc2⟩ := hI
   rw [ho] at ho2; cases ho2; rw [hc] at hc2; cases hc2
  have lI : l ≠ I := by
   rintro rfl
   obtain ⟨o, ho, _, n, hc⟩ := hl
   obtain ⟨o2, ho2, _, hc2⟩ := hI
   rw [ho] at ho2; cases ho2; rw [hc] at hc2; cases hc2
  have nd : ∀ (b : Addr) (o : Obj) xs n, s.heap.get? b = some o → o.data = .seq xs n → b ≠ d ∧ b ≠ I := by
   intro b o xs n ho hc
   constructor
   ·rintro rfl
    obtain ⟨o2, _, _, ho2, _, hc2, _⟩ := hd
    rw [ho] at ho2; cases ho2; rw [hc] at hc2; cases hc2
   ·rintro rfl
    obtain ⟨o2, ho2, _, hc2⟩ := hI
    rw [ho] at ho2; cases ho2; rw [hc] at hc2; cases hc2
  obtain ⟨ot, hot, hct, nt, hdt⟩ := id htp
  show wpAny _ _ (holding [.ref tt] _ >>= _) _ _ _
  refine wpAny_bind (wpAny_holding (wpAny_bind (wpAny_tryCatch ?_)))
  unfold Builtin.Dict.pairItems
  refine wpAny_bind (wpAny_typeOf (T := "tuple") ⟨ot, keepI _ _ tI hot, hct⟩ ?_)
  rw [if_pos (by decide)]
  refine wpAny_bind (wpAny_seqItems (keepI _ _ tI hot) hdt ?_)
  refine wpAny_pure ?_
  show wpAny _ _ (holding [u, p.2] (dictSet d u p.2)) _ _ _
  have hd' : h'.DictOf knd d kvs := hd.extBut (fun b o hb e => keepI b o hb e) hdI
  refine wpAny_holding (wpAny_dictSet_pairs hku hd' (fun h2 hd2 hs2 => ?_) (by omega))
  refine wpAny_pure ⟨plainId_quiet dl_plain_loop _, ?_⟩
  have keep2 : ∀ b o, b ≠ I → b ≠ d → s.heap.get? b = some o → h2.get? b = some o := fun b o h1 h3 e => (hs2.2 b h3).trans (keepI b o h1 e)
  have := ih (i + 1) { s with heap := h2, toks := s.toks + 1 } (stored kvs p.1 p.2) 0 (by omega) (by omega) ?_ ?_ ?_ hd2 ?_ ?_
  ·exact this
  ·unfold stored
   split
   ·rw [List.length_map]; omega
   ·rw [List.length_append, List.length_singleton]; omega
  ·obtain ⟨o, ho, r⟩ := hI'
   exact ⟨o, (hs2.2 I (Ne.symm hdI)).trans ho, r⟩
  ·obtain ⟨o, ho, hc, n, r⟩ := hl
   exact ⟨o, keep2 _ _ (nd _ _ _ _ ho r).2 (nd _ _ _ _ ho r).1 ho, hc, n, r⟩
  ·intro j v p' h1 h3
   obtain ⟨t3, u3, e3, ⟨o, ho, hc, n, r⟩, g3⟩ := hp j v p' h1 h3
   exact ⟨t3, u3, e3, ⟨o, keep2 _ _ (nd _ _ _ _ ho r).2 (nd _ _ _ _ ho r).1 ho, hc, n, r⟩, g3⟩
  ·intro h3 tk3 hd3 k3
   refine q h3 tk3 ?_ fun b o h1 h4 e => k3 b o h1 h4 (keep2 b o h1 h4 e)
   rw [List.drop_eq_getElem_cons (by omega : i < ps.length)]
   rw [List.getElem?_eq_getElem (by omega)] at hpi
   cases hpi
   exact hd3
variable {s : Shared}
theorem dl_call {K : Type} [DecidableEq K] {knd : KeyKind prog w K} {l : Addr} {o : Obj} {n : Nat} {items : Array Value} {ps : List (K × Value)} {Q : Value → Shared → Prop} (hh : A.handled = none)
  (ho : s.heap.get? l = some o) (hc : o.cls = .type "list") (hdat : o.data = .seq items n) (hdi : o.dict = none) (hsz : items.size < sizeLine) (hps : ps.length = items.size)
  (hp : ∀ (j : Nat) v p, items[j]? = some v → ps[j]? = some p → DPair knd s.heap v p)
  (h : ∀ h' tk, h'.DictOf knd s.heap.objs.size (ps.foldl (fun m p => stored m p.1 p.2) []) → (∀ b o, s.heap.get? b = some o → h'.get? b = some o) → Q (.ref s.heap.objs.size) { s with heap := h', toks := tk }) :
  wpAny (model prog w) A (call (.type "dict") [.ref l]) Q E s := by
 refine callType_codes (Q₁ := fun obj s₁ => obj = .ref s.heap.objs.size ∧ s₁ = { s with heap := s.heap.push { cls := .type "dict", data := .dict #[] } }) F.kt_called_dict (F.kt_typeCall_dict_1 _) F.entry_dict_init (kt_code_dict_new _ ⟨rfl, rfl⟩) ?_
 rintro obj s₁ ⟨rfl, rfl⟩
 have hnew : (s.heap.push { cls := .type "dict", data := .dict #[] }).DictOf knd s.heap.objs.size [] := Heap.DictOf.new s.heap
 refine ⟨hnew.typeIs, F.args_dict_init_2 _ _, ?_⟩
 unfold Builtin.«dict.__init__»
 refine wpAny_bind ?_
 unfold Builtin.Dict.selfAndRest
 refine wpAny_bind (wpAny_notOrdered_dict hnew.typeIs ?_)
 show wpAny _ _ (pure (s.heap.objs.size, [Value.ref l])) _ _ _
 refine wpAny_pure ?_
 show wpAny _ _ (Builtin.Dict.updateFrom "dict.__init__" s.heap.objs.size (.ref l) [] .none) _ _ _
 unfold Builtin.Dict.updateFrom
 have ho' : (s.heap.push { cls := .type "dict", data := .dict #[] }).get? l = some o := Heap.get?_push_of_some _ ho
 refine wpAny_bind (wpAny_typeOf (T := "list") ⟨o, ho', hc⟩ ?_)
 rw [if_pos (by decide)]
 refine wpAny_bind (dl_keys ho' hc hdat hdi (by first | exact hh | rfl) fun h1 tk1 k1 => ?_)
 simp only [Option.isNone_none, if_true]
 have hl1 : h1.IsList l items := ⟨o, k1 _ _ ho', hc, n, hdat⟩
 have hd1 : h1.DictOf knd s.heap.objs.size [] := by
  obtain ⟨q, es, ep, hq, r⟩ := hnew
  exact ⟨q, es, ep, k1 _ _ hq, r⟩
 have old : ∀ b o, s.heap.get? b = some o → h1.get? b = some o := fun b o e => k1 b o (Heap.get?_push_of_some _ e)
 refine wpAny_bind (wpAny_rule ?_)
 refine wpAny_bind (wpAny_pyIter_list hl1 ?_)
 refine wpAny_pure ⟨plainId_quiet dl_plain_loop _, ?_⟩
 refine dl_loop (A := A.in1) (knd := knd) (ps := ps) hh hsz hps _ 0 _ [] 0 rfl (Nat.zero_le _) (Nat.zero_le _) ⟨_, Heap.get?_push_size _ rfl, rfl, rfl⟩ (hl1.push _) (hd1.push _) ?_ ?_
 ·intro j v p h2 h3
  obtain ⟨t, u, e, ⟨q, hq, r⟩, g⟩ := hp j v p h2 h3
  exact ⟨t, u, e, ⟨q, Heap.get?_push_of_some _ (old _ _ hq), r⟩, g⟩
 ·intro h' tk hd' hk
  refine ⟨rfl, h h' tk hd' fun b o e => hk b o ?_ ?_ (Heap.get?_push_of_some _ (old _ _ e))⟩
  ·exact Nat.ne_of_lt (Heap.lt_size (old _ _ e))
  ·exact Nat.ne_of_lt (Heap.lt_size e)
end
end PySem
namespace L3
open PySem PySem.Spec PyProof.Rows L2
section
variable {X : Cx} {pins : List (Addr × Obj)} {σ : L2.St} {H : Hp} {s : Shared}
def PairsV (K : PySem.W.Frag) (H : Hp) : List V → List (Key × V) → Prop
 | [], [] => True
 | v :: r, p :: q => (∃ t, v = .ref t ∧ SqT K H t [kV p.1, p.2]) ∧ PairsV K H r q
 | _, _ => False
theorem pairs_ex (I : Inv X pins σ H s) : ∀ (vs : List V) (its : List Value) (ps : List (Key × V)), Vals vs its → PairsV X.K H vs ps → ∃ ps', KV ps ps' ∧ ps'.length = its.length ∧ ∀ (j : Nat) v p, its[j]? = some v → ps'[j]? = some p → DPair (mixKind X.prog X.w) s.heap v p
 | [], its, ps, r, h => by
  cases ps with
  | cons _ _ => exact h.elim
  | nil =>
   have := r.length
   cases its with
   | cons _ _ => simp at this
   | nil => exact ⟨[], by constructor, rfl, fun j v p h => by simp at h⟩
 | v :: vs, its, ps, r, h => by
  cases ps with
  | nil => exact h.elim
  | cons p ps =>
   obtain ⟨⟨t, rfl, ht⟩, h⟩ := h
   cases r with
   | @cons _ u _ its ru r =>
   cases (show u = Value.ref t from ru)
   obtain ⟨w2, r2, ht2, _⟩ := I.tuple ht
   obtain ⟨u1, u2, rfl, s1, s2⟩ := vals2 r2
   obtain ⟨ps', k1, k2, k3⟩ := pairs_ex I vs its ps r h
   refine ⟨(p.1, u2) :: ps', .cons ⟨rfl, s2⟩ k1, by rw [List.length_cons, List.length_cons, k2], fun j v q h1 h2 => ?_⟩
   cases j with
   | zero =>
    cases h1; cases h2
    exact ⟨t, u1, rfl, ht2, kV_is s1⟩
   | succ j => exact k3 j v q h1 h2
theorem kv_fold : ∀ {ps : List (Key × V)} {ps' : List (Key × Value)} {kvs : List (Key × V)} {vs : List (Key × Value)}, KV ps ps' → KV kvs vs → KV (ps.foldl (fun m p => putK m p.1 p.2) kvs) (ps'.foldl (fun m p => stored m p.1 p.2) vs)
 | _, _, _, _, .nil, h => h
 | _, _, _, _, .cons e r, h => by
  rw [List.foldl_cons, List.foldl_cons]
  refine kv_fold r ?_
  rw [e.1]
  exact h.put _ e.2
theorem len_fold : ∀ (ps : List (Key × V)) (kvs : List (Key × V)), (ps.foldl (fun m p => putK m p.1 p.2) kvs).length ≤ kvs.length + ps.length
 | [], kvs => Nat.le_refl _
 | p :: ps, kvs => by
  rw [List.foldl_cons, List.length_cons]
  have := len_fold ps (putK kvs p.1 p.2)
  have := length_putK kvs p.1 p.2
  omega
theorem pairs_len {K : PySem.W.Frag} : ∀ {vs : List V} {ps : List (Key × V)}, PairsV K H vs ps → vs.length = ps.length
 | [], [], _ => rfl
 | _ :: _, _ :: _, h => by rw [List.length_cons, List.length_cons, pairs_len h.2]
theorem call_dictL (hc : X.calm = true) : CallR X (.type "dict") (fun xs H Q => ∃ (a : Addr) (vs : List V) (ps : List (Key × V)), xs = [V.ref a] ∧ SqL X.K H a vs ∧ PairsV X.K H vs ps ∧ vs.length < sizeLine ∧
  ∀ p, H p = none → Q (.ref p) (upd H p (.dK (ps.foldl (fun m p => putK m p.1 p.2) [])))) := by
 intro pins s σ H xs us Q I r h
 obtain ⟨a, vs, ps, rfl, hx, hp, hz, q⟩ := h
 obtain ⟨u, rfl, ru⟩ := vals1 r
 cases ru
 obtain ⟨its, rv, ⟨o, n, ho, h1, h2, h3⟩, _⟩ := I.list hx
 obtain ⟨ps', k1, k2, k3⟩ := pairs_ex I vs its ps rv hp
 have hl := rv.length
 have hl2 := pairs_len hp
 refine dl_call (knd := mixKind X.prog X.w) (ps := ps') (I.ok.hd hc) ho h1 h3 h2 (by rw [List.size_toArray]; omega) (by rw [List.size_toArray]; exact k2) (fun j v p e1 e2 => k3 j v p (by simpa using e1) e2) fun h' tk dd keep => ?_
 have lf := len_fold ps []
 refine ⟨.ref _, _, I.laid (a := s.heap.objs.size) (o := .dK (ps.foldl (fun m p => putK m p.1 p.2) [])) (t' := tk) keep (Nat.le_refl _) (dk_new (by rw [List.length_nil] at lf; omega) (beq_eq_false_iff_ne.mpr (Ne.symm (Nat.ne_of_lt I.big))) (kv_fold k1 .nil) dd), rfl, q _ (I.hok.fresh (Nat.le_refl _))⟩
end
def Itd (a : Addr) (o : Obj) : It := ⟨fun i H => ∃ kvs p, H a = some (.frz o (.dK kvs)) ∧ kvs[i]? = some p, fun i H x H' => H' = H ∧ ∀ kvs, H a = some (.frz o (.dK kvs)) → ∃ p, kvs[i]? = some p ∧ x = kV p.1, fun i H => ∃ kvs, H a = some (.frz o (.dK kvs)) ∧ kvs.length ≤ i⟩
theorem frz_at {P : Program} {w : World} {H : Hp} {h : Heap} {a : Addr} {o : Obj} {kvs : List (Key × V)} {es : Array DictEntry} {ep : Nat} (x : ObjOk P w H h a (.frz o (.dK kvs))) (hd : o.data = .dict es ep) :
  ∃ vs, KV kvs vs ∧ h.DictAt (mixKind P w) a vs ep ∧ vs.length = es.size := by
 obtain ⟨e, _, _, vs, rel, o', es', ep', e', h1, h2, h3, h4, h5⟩ := x
 rw [e] at e'
 cases e'
 rw [hd] at h2
 cases h2
 refine ⟨vs, rel, ⟨o, es, e, h1, hd, h3, h4, h5⟩, ?_⟩
 have := h4.length
 simpa using this.symm
theorem is_kV {P : Program} {w : World} {k : Key} {u : Value} (h : (mixKind P w).is k u = true) : L2.RelV (kV k) u := by
 rcases keyIs_shape h with ⟨i, t, rfl, rfl⟩ | ⟨x, t, rfl, rfl⟩
 ·exact ⟨t, rfl⟩
 ·exact ⟨t, rfl⟩
theorem kv_at {kvs : List (Key × V)} {vs : List (Key × Value)} (r : KV kvs vs) : ∀ {i : Nat} {p : Key × V}, kvs[i]? = some p → ∃ u, vs[i]? = some (p.1, u) ∧ L2.RelV p.2 u := by
 unfold KV at r
 induction r with
 | nil => intro i p e; simp at e
 | @cons p q ps qs h t ih =>
  intro i p e
  cases i with
  | zero =>
   cases e
   exact ⟨q.2, by rw [h.1]; rfl, h.2⟩
  | succ i => exact ih (by simpa using e)
theorem turn_dict {P : Program} {w : World} {K : PySem.W.Frag} {tg : Expr} (a it : Addr) {o : Obj} {es : Array DictEntry} {ep : Nat} (hd : o.data = .dict es ep) : Turn P w K tg (Itd a o) [it] it (fun i h => h.IsKeyIter it a i es.size ep) where
 mem := by simp
 obj := fun i h st b hb => by
  have e : b = it := by simpa using hb
  subst e
  obtain ⟨o, e, c, d⟩ := st
  exact ⟨o, e, fun v z => by rw [d] at z; cases z⟩
 keep := fun i h h' st k => st.at fun o e => k it (by simp) o e
 item := by
  intro X hP hw hK hc i pins s σ H E I hf st hg
  subst hP hw hK
  obtain ⟨kvs, p, hq, hx⟩ := hg
  obtain ⟨vs, rel, dd, hl⟩ := frz_at (I.hok a _ hq) hd
  obtain ⟨q, hx2, e2⟩ := kv_at rel hx
  obtain ⟨f0, f1, f2, f3, f4, f5⟩ := hf it (by simp)
  rw [← hl] at st
  refine wpAny_pyNext_dict_item st dd hx2 fun key h' hkey st' sb => ?_
  have I1 : Inv X pins σ H { s with heap := h' } := I.turned (t' := s.toks) (fun b o hb e => (sb.2 b hb).trans e) f0 f1 f3 f4 f5
  obtain ⟨ob, e, c, d⟩ := id st'
  rw [hl] at st'
  exact ⟨key, rfl, go_of (s := { s with heap := h' }) e c d (by decide) ⟨kV p.1, H, I1, is_kV hkey, ⟨rfl, fun ys hy => by rw [hq] at hy; cases hy; exact ⟨p, hx, rfl⟩⟩, st', fun b hb => (hf b hb).1⟩⟩
 done := by
  intro X hP hw hK hc i pins s σ H E I hf st hg
  subst hP hw hK
  obtain ⟨kvs, hq, hx⟩ := hg
  obtain ⟨vs, rel, dd, hl⟩ := frz_at (I.hok a _ hq) hd
  obtain ⟨f0, f1, f2, f3, f4, f5⟩ := hf it (by simp)
  have hl2 := rel.length
  rw [← hl] at st
  exact wpAny_pyNext_dict_end (I.ok.hd hc) st dd (by simp; omega) fun h' eb => ⟨rfl, I.turned (t' := s.toks) (fun b o hb e => eb b o hb e) f0 f1 f3 f4 f5⟩
 self := fun _ _ _ _ _ st h => wpAny_pyIter_keyiter st h
section
variable {X : Cx} {pins : List (Addr × Obj)} {σ : L2.St} {H : Hp} {s : Shared} {a : Addr}
theorem d_freeze {kvs : List (Key × V)} (I : Inv X pins σ H s) (e : H a = some (.dK kvs)) :
  ∃ o es ep, o.data = .dict es ep ∧ s.heap.get? a = some o ∧ Inv X pins σ (upd H a (.frz o (.dK kvs))) s ∧ (∀ o u, X.H₀ a ≠ some (.frz o u)) := by
 obtain ⟨z, hd, vs, rel, dd⟩ := dk_of I.hok e
 obtain ⟨o, es, ep, ho, h1, h2, h3⟩ := id dd
 refine ⟨o, es, ep, h2, ho, ?_, fun o' u q => ?_⟩
 ·exact I.write (x := a) (e := a) (o := .frz o (.dK kvs)) (h' := s.heap) (t' := s.toks) (by rw [e]; exact True.intro) (.inl rfl) (fun b q _ r => r) ⟨o, ho⟩ ⟨ho, z, hd, vs, rel, dd⟩
 ·have := I.base.frzs a o' u q
  rw [e] at this
  cases this
theorem d_thaw {kvs : List (Key × V)} {o : Obj} (I : Inv X pins σ H s) (e : H a = some (.frz o (.dK kvs))) (nf : ∀ o u, X.H₀ a ≠ some (.frz o u)) : Inv X pins σ (upd H a (.dK kvs)) s where
 ok := I.ok
 os := I.os
 bare := I.bare
 base := by
  have ne : ∀ b, H b = none → b ≠ a := fun b n z => by subst z; rw [e] at n; cases n
  refine ⟨I.base.keep, I.base.slot, fun b q h n hx => ?_, I.base.there, fun b xs h => ?_, fun b q u h => ?_, fun b ps h => ?_⟩
  ·have := I.base.free b q h n hx
   rw [upd_ne (ne b this)]; exact this
  ·have := I.base.tups b xs h
   rw [upd_ne (fun z => by subst z; rw [e] at this; cases this)]; exact this
  ·have := I.base.frzs b q u h
   rw [upd_ne (fun z => by subst z; exact nf q u h)]; exact this
  ·obtain ⟨m, this⟩ := I.base.tbls b ps h
   exact ⟨m, by rw [upd_ne (fun z => by subst z; rw [e] at this; cases this)]; exact this⟩
 loc := I.loc
 cell := I.cell
 free := by rw [upd_ne (fun z => by have := I.free; rw [z, e] at this; cases this)]; exact I.free
 freeC := fun x c h => by
  have := I.freeC x c h
  rw [upd_ne (fun z => by subst z; rw [e] at this; cases this)]; exact this
 pin := fun p hp => by
  obtain ⟨h1, h2, h3⟩ := I.pin p hp
  exact ⟨h1, by rw [upd_ne (fun z => by rw [z, e] at h2; cases h2)]; exact h2, h3⟩
 hok := by
  intro b u h
  by_cases hb : b = a
  ·subst hb
   rw [upd_same] at h
   cases h
   obtain ⟨_, q⟩ := I.hok b _ e
   exact q
  ·rw [upd_ne hb] at h
   refine (I.hok b u h).stay (fun c v _ r => r) (fun c r => ?_) fun c xs r => ?_
   ·rw [upd_ne (fun z => by subst z; rw [e] at r; cases r)]; exact r
   ·rw [upd_ne (fun z => by subst z; rw [e] at r; cases r)]; exact r
 len := I.len
end
end L3
namespace SW
open PySem
def Rise (xs : Array Nat) : Prop := ∀ i k, i < k → k < xs.size → xs.getD i 0 < xs.getD k 0
theorem Rise.le {xs : Array Nat} (h : Rise xs) {i k : Nat} (a : i ≤ k) (b : k < xs.size) : xs.getD i 0 ≤ xs.getD k 0 := by
 rcases Nat.lt_or_eq_of_le a with a | rfl
 ·exact Nat.le_of_lt (h i k a b)
 ·exact Nat.le_refl _
theorem getD_in {xs : Array Nat} {i : Nat} (h : i < xs.size) (a b : Nat) : xs.getD i a = xs.getD i b := by
 rw [Array.getD_eq_getD_getElem?, Array.getD_eq_getD_getElem?, Array.getElem?_eq_getElem h]; rfl
structure At (xs : Array Nat) (j i : Nat) : Prop where
 le : i ≤ xs.size
 lo : ∀ k, k < i → xs.getD k 0 < j
 hi : ∀ k, i ≤ k → k < xs.size → j ≤ xs.getD k 0
theorem go_at {xs : Array Nat} (h : Rise xs) (j : Nat) : ∀ (fuel lo hi : Nat), hi - lo ≤ fuel → lo ≤ hi → hi ≤ xs.size → (∀ k, k < lo → xs.getD k 0 < j) → (∀ k, hi ≤ k → k < xs.size → j ≤ xs.getD k 0) → At xs j (SetTable.below.go xs j fuel lo hi)
 | 0, lo, hi, hf, hl, hs, a, b => by
  have e : lo = hi := by omega
  subst e
  exact ⟨hs, a, b⟩
 | fuel + 1, lo, hi, hf, hl, hs, a, b => by
  unfold SetTable.below.go
  by_cases hlt : lo < hi
  ·rw [if_pos hlt]
   dsimp only
   have hm : (lo + hi) / 2 < hi := by omega
   have hm2 : lo ≤ (lo + hi) / 2 := by omega
   rw [getD_in (by omega : (lo + hi) / 2 < xs.size) j 0]
   by_cases hc : xs.getD ((lo + hi) / 2) 0 < j
   ·rw [if_pos hc]
    exact go_at h j fuel _ _ (by omega) (by omega) hs (fun k hk => Nat.lt_of_le_of_lt (h.le (by omega) (by omega)) hc) b
   ·rw [if_neg hc]
    exact go_at h j fuel _ _ (by omega) (by omega) (by omega) a (fun k hk hk2 => Nat.le_trans (by omega) (h.le hk hk2))
  ·rw [if_neg hlt]
   have e : lo = hi := by omega
   subst e
   exact ⟨hs, a, b⟩
theorem below_at {xs : Array Nat} (h : Rise xs) (j : Nat) : At xs j (SetTable.below xs j) := by
 unfold SetTable.below
 exact go_at h j _ _ _ (by omega) (by omega) (Nat.le_refl _) (fun k hk => by omega) (fun k a b => by omega)
theorem At.uniq {xs : Array Nat} {j i i' : Nat} (a : At xs j i) (b : At xs j i') : i = i' := by
 rcases Nat.lt_trichotomy i i' with h | h | h
 ·have h1 := b.lo i h
  have h2 := a.hi i (Nat.le_refl _) (by have := b.le; omega)
  omega
 ·exact h
 ·have h1 := a.lo i' h
  have h2 := b.hi i' (Nat.le_refl _) (by have := a.le; omega)
  omega
theorem insertAt_size {α : Type} (xs : Array α) (p : Nat) (x : α) (h : p ≤ xs.size) : (SetTable.insertAt xs p x).size = xs.size + 1 := by
 unfold SetTable.insertAt
 simp only [Array.size_append, Array.size_push, Array.size_extract]
 omega
theorem insertAt_get {xs : Array Nat} {p x : Nat} (h : p ≤ xs.size) (k : Nat) : (SetTable.insertAt xs p x).getD k 0 = if k < p then xs.getD k 0 else if k = p then x else xs.getD (k - 1) 0 := by
 unfold SetTable.insertAt
 simp only [Array.getD_eq_getD_getElem?, Array.getElem?_append, Array.size_push, Array.size_extract, Array.getElem?_push, Array.getElem?_extract, Nat.min_eq_left h, Nat.sub_zero, Nat.zero_add]
 by_cases h1 : k < p
 ·rw [if_pos (by omega), if_neg (by omega), if_pos h1, if_pos h1]
 ·by_cases h2 : k = p
  ·subst h2
   rw [if_pos (by omega), if_pos rfl, if_neg (by omega), if_pos rfl]; rfl
  ·rw [if_neg (by omega), if_neg h1, if_neg h2, Nat.min_self]
   by_cases h3 : k - 1 < xs.size
   ·rw [if_pos (by omega), show p + (k - (p + 1)) = k - 1 by omega]
   ·rw [if_neg (by omega), Array.getElem?_eq_none (by omega)]
theorem insert_rise {xs : Array Nat} (h : Rise xs) {j : Nat} (hn : xs[SetTable.below xs j]? ≠ some j) : Rise (SetTable.insertAt xs (SetTable.below xs j) j) := by
 have a := below_at h j
 generalize SetTable.below xs j = p at a hn ⊢
 have hgt : ∀ k, p ≤ k → k < xs.size → j < xs.getD k 0 := by
  intro k h1 h2
  have h3 := a.hi k h1 h2
  rcases Nat.lt_or_eq_of_le h3 with h4 | h4
  ·exact h4
  ·exfalso
   have h5 := a.hi p (Nat.le_refl _) (by omega)
   have h6 := h.le h1 h2
   have h7 : xs.getD p 0 = j := by omega
   apply hn
   rw [Array.getD_eq_getD_getElem?, Array.getElem?_eq_getElem (by omega)] at h7
   rw [Array.getElem?_eq_getElem (by omega)]
   exact congrArg some h7
 intro i k hik hk
 rw [insertAt_size _ _ _ a.le] at hk
 rw [insertAt_get a.le, insertAt_get a.le]
 by_cases h1 : i < p
 ·rw [if_pos h1]
  by_cases h2 : k < p
  ·rw [if_pos h2]; exact h i k hik (by have := a.le; omega)
  ·rw [if_neg h2]
   by_cases h3 : k = p
   ·rw [if_pos h3]; exact a.lo i h1
   ·rw [if_neg h3]; exact Nat.lt_trans (a.lo i h1) (hgt _ (by omega) (by omega))
 ·rw [if_neg h1, if_neg (show ¬ k < p by omega), if_neg (show ¬ k = p by omega)]
  by_cases h3 : i = p
  ·rw [if_pos h3]; exact hgt _ (by omega) (by omega)
  ·rw [if_neg h3]; exact h _ _ (by omega) (by omega)
theorem range_rise (n : Nat) : Rise (Array.range n) := by
 intro i k h1 h2
 rw [Array.size_range] at h2
 simp only [Array.getD_eq_getD_getElem?, Array.getElem?_range]
 rw [if_pos (by omega), if_pos h2]
 exact h1
structure TOk (t : SetTable) (led : Bool) : Prop where
 rise : Rise t.place
 dum : t.dummies = #[]
 led : t.led = led
theorem has_none (j : Nat) : SetTable.has #[] j = false := rfl
theorem slot_dummy {t : SetTable} (hd : t.dummies = #[]) (j : Nat) : t.slot j ≠ .dummy := by
 unfold SetTable.slot
 dsimp only
 rw [hd, has_none]
 split
 ·intro h; cases h
 ·intro h; rw [if_neg (by decide)] at h; cases h
theorem slot_empty {t : SetTable} {j : Nat} (h : t.slot j = .empty) : t.place[SetTable.below t.place j]? ≠ some j := by
 intro e
 unfold SetTable.slot at h
 dsimp only at h
 rw [if_pos (by rw [e]; simp)] at h
 cases h
theorem adv_dummy (t : SetTable) (p : SetTable.Probe) : (t.advance p).dummy = p.dummy := by
 unfold SetTable.advance
 split
 ·rfl
 ·rfl
theorem probe_go {t : SetTable} (hd : t.dummies = #[]) (f : Nat → Int) (h : Int) : ∀ (fuel : Nat) (p : SetTable.Probe) (j : Nat) (d : Option Nat), p.dummy = none → SetTable.probe.go t f h fuel p = some (.empty j d) → d = none ∧ t.slot j = .empty
 | 0, p, j, d, _, e => by cases e
 | fuel + 1, p, j, d, hp, e => by
  unfold SetTable.probe.go at e
  cases hs : t.slot p.j with
  | empty =>
   rw [hs] at e
   cases e
   exact ⟨hp, hs⟩
  | dummy => exact absurd hs (slot_dummy hd _)
  | live i =>
   rw [hs] at e
   dsimp only at e
   split at e
   ·cases e
   ·exact probe_go hd f h fuel _ j d (by rw [adv_dummy, hp]) e
theorem free_empty {t : SetTable} (hd : t.dummies = #[]) {h : Int} {k : Nat} {b : Bool} (e : t.freeSlot h = some (k, b)) : t.slot k = .empty ∧ b = false := by
 unfold SetTable.freeSlot at e
 split at e
 ·rename_i j dm hm
  cases e
  unfold SetTable.probe at hm
  obtain ⟨rfl, h2⟩ := probe_go hd _ _ _ _ _ _ rfl hm
  exact ⟨h2, rfl⟩
 ·cases e
theorem stand_ok {t : SetTable} {led : Bool} (h : TOk t led) (n : Nat) : TOk (t.standIn n) led := ⟨range_rise n, rfl, h.led⟩
theorem orStand_ok {t : SetTable} {led : Bool} (h : TOk t led) (n : Nat) : TOk (t.orStandIn n) led := by
 unfold SetTable.orStandIn
 split
 ·exact h
 ·exact stand_ok h n
theorem put_ok {t : SetTable} {led : Bool} (h : TOk t led) {j : Nat} (e : t.slot j = .empty) : TOk (t.put j).1 led := by
 unfold SetTable.put
 dsimp only
 refine ⟨insert_rise h.rise (slot_empty e), ?_, h.led⟩
 dsimp only
 rw [h.dum, has_none]
 rfl
theorem lay_ok {t : SetTable} {led : Bool} (h : TOk t led) (es : Array (Int × Value)) (k : Int) (x : Value) : TOk (layNew t es k x).2.1 led := by
 unfold layNew
 cases e : t.freeSlot k with
 | none => exact stand_ok h _
 | some s =>
  obtain ⟨slot, b⟩ := s
  dsimp only
  exact orStand_ok (put_ok h (free_empty h.dum e).1) _
theorem rise_of {l : List Nat} (hp : l.Pairwise (· < ·)) : Rise l.toArray := by
 intro i k hik hk
 rw [List.size_toArray] at hk
 have := List.pairwise_iff_getElem.mp hp i k (by omega) hk hik
 simp only [Array.getD_eq_getD_getElem?, List.getElem?_toArray]
 rw [List.getElem?_eq_getElem hk, List.getElem?_eq_getElem (by omega)]
 exact this
theorem live_rise (owner : Array (Option Nat)) (n : Nat) : Rise ((((List.range n).filterMap fun j => (owner.getD j none).map (j, ·)).map (·.1)).toArray) := by
 refine rise_of ?_
 rw [List.pairwise_map]
 refine List.Pairwise.filterMap _ (R := (· < ·)) ?_ List.pairwise_lt_range
 intro a b hab x hx y hy
 obtain ⟨_, _, rfl⟩ := Option.map_eq_some_iff.mp hx
 obtain ⟨_, _, rfl⟩ := Option.map_eq_some_iff.mp hy
 exact hab
theorem relay_ok {t : SetTable} {led : Bool} (h : TOk t led) (es : Array (Int × Value)) (n : Nat) : TOk (relayAll t es n).2.1 led := by
 unfold relayAll
 cases e : t.relaid (es.map (·.1)) n with
 | none => exact stand_ok h _
 | some s =>
  obtain ⟨t', order⟩ := s
  dsimp only
  split
  ·unfold SetTable.relaid SetTable.laid at e
   cases e2 : SetTable.layClean (SetTable.sizeAbove n - 1) (es.map (·.1)) with
   | none => rw [e2] at e; cases e
   | some owner =>
    rw [e2] at e
    cases e
    exact ⟨live_rise _ _, rfl, h.led⟩
  ·exact stand_ok h _
end SW
namespace SW
open PySem PyProof.Rows
section
variable {M : Model} {prog : Program} {w : World} {A : Around} {E : Value → Shared → Prop} {s : Shared}
inductive KeysOf {K : Type} [DecidableEq K] (knd : KeyKind prog w K) : List K → List (Int × Value) → Prop
 | nil : KeysOf knd [] []
 | cons {k : K} {e : Int × Value} {ks : List K} {l : List (Int × Value)} (h : knd.is k e.2 = true) (r : KeysOf knd ks l) : KeysOf knd (k :: ks) (e :: l)
variable {K : Type} [DecidableEq K] {knd : KeyKind prog w K}
theorem KeysOf.len {ks : List K} {l : List (Int × Value)} (h : KeysOf knd ks l) : ks.length = l.length := by
 induction h with
 | nil => rfl
 | cons _ _ ih => rw [List.length_cons, List.length_cons, ih]
theorem KeysOf.mem {ks : List K} {l : List (Int × Value)} (h : KeysOf knd ks l) {k : K} : k ∈ ks ↔ ∃ e ∈ l, knd.is k e.2 = true := by
 induction h with
 | nil => simp
 | cons h r ih =>
  rename_i k' e ks l
  rw [List.mem_cons, ih]
  constructor
  ·rintro (rfl | ⟨e, he, q⟩)
   ·exact ⟨_, List.mem_cons_self, h⟩
   ·exact ⟨e, List.mem_cons_of_mem _ he, q⟩
  ·rintro ⟨e', he, q⟩
   rcases List.mem_cons.mp he with rfl | he
   ·exact .inl (knd.inj _ _ _ q h)
   ·exact .inr ⟨e', he, q⟩
theorem KeysOf.app {ks ks' : List K} {l l' : List (Int × Value)} (h : KeysOf knd ks l) (g : KeysOf knd ks' l') : KeysOf knd (ks ++ ks') (l ++ l') := by
 induction h with
 | nil => exact g
 | cons h _ ih => exact .cons h ih
theorem KeysOf.perm {l l' : List (Int × Value)} (p : l'.Perm l) : ∀ {ks : List K}, KeysOf knd ks l → ∃ ks', ks'.Perm ks ∧ KeysOf knd ks' l' := by
 induction p with
 | nil => intro ks h; exact ⟨ks, List.Perm.refl _, h⟩
 | cons x p ih =>
  intro ks h
  cases h with
  | cons h r =>
   obtain ⟨ks', a, b⟩ := ih r
   exact ⟨_, a.cons _, .cons h b⟩
 | swap x y l =>
  intro ks h
  cases h with
  | cons h r =>
   cases r with
   | cons h2 r => exact ⟨_, List.Perm.swap _ _ _, .cons h2 (.cons h r)⟩
 | trans p q ih1 ih2 =>
  intro ks h
  obtain ⟨k1, a1, b1⟩ := ih2 h
  obtain ⟨k2, a2, b2⟩ := ih1 b1
  exact ⟨k2, a2.trans a1, b2⟩
structure SetO (knd : KeyKind prog w K) (led : Bool) (o : Obj) (ks : List K) : Prop where
 ex : o.ExactSet
 dat : ∃ es ep t, o.data = .set es ep t ∧ ElemsOf knd es.toList ∧ KeysOf knd ks es.toList ∧ t.fits es.size = true ∧ TOk t led
 nd : ks.Nodup
 sm : ks.length < scanBound
theorem plain_ok {t : SetTable} {led : Bool} (h : TOk t led) : TOk { t with plain := false } led := ⟨h.rise, h.dum, h.led⟩
theorem add_any {led : Bool} {a : Addr} {o : Obj} {k : K} {x : Value} {ks : List K} {Q : Bool → Shared → Prop} (hk : knd.is k x = true) (hx : x.scannable = true) (ho : s.heap.get? a = some o) (hS : SetO knd led o ks) (hr : ks.length + 1 < scanBound)
  (h : ∀ b h' o' ks', Heap.SameBut a s.heap h' → h'.get? a = some o' → SetO knd led o' ks' → (k ∈ ks → ks' = ks) → (k ∉ ks → ks'.Perm (ks ++ [k])) → Q b { s with heap := h' }) :
  wpAny (model prog w) A (setAddHashed a x (knd.hash k)) Q E s := by
 obtain ⟨es, ep, t, hd, he, hks, hf, ht⟩ := hS.dat
 have hlen := hks.len
 have hl2 : es.toList.length = es.size := Array.length_toList
 have hsm := hS.sm
 unfold setAddHashed setAddHashedIn
 refine wpAny_holding (wpAny_bind (wpAny_setState_of ho hd hf ?_))
 dsimp only
 rw [byScan_of hx (by omega) he, if_pos rfl]
 unfold setAddByScan
 refine wpAny_bind (wpAny_bind (wpAny_rule (wpAny_bind (wpAny_setScan_of hk ho hd hf he ?_))))
 cases hfd : es.toList.findIdx? (fun e => knd.is k e.2) with
 | some j =>
  obtain ⟨hj, hpj, _⟩ := List.findIdx?_eq_some_iff_getElem.mp hfd
  have hin : k ∈ ks := hks.mem.mpr ⟨_, List.getElem_mem hj, hpj⟩
  dsimp only
  refine wpAny_pure (wpAny_pure ?_)
  have := h false s.heap o ks (Heap.SameBut.refl a s.heap) ho hS (fun _ => rfl) (fun z => absurd hin z)
  exact this
 | none =>
  have hout : k ∉ ks := fun z => by
   obtain ⟨e, h1, h2⟩ := hks.mem.mp z
   have := List.findIdx?_eq_none_iff.mp hfd e h1
   rw [h2] at this
   cases this
  dsimp only
  have gv : ∀ (b : Bool) {s1 : Shared} {R : Unit → Shared → Prop}, R () s1 → wpAny (model prog w) A (match b with | true => rule "set.scan.the-table-gave-way" | false => pure ()) R E s1 := by
   intro b s1 R q
   cases b
   ·exact wpAny_pure q
   ·exact wpAny_rule q
  have p1 := layNew_perm t es (knd.hash k) x
  have f1 := layNew_fits t es (knd.hash k) x
  have t1 := lay_ok ht es (knd.hash k) x
  generalize layNew t es (knd.hash k) x = L at p1 f1 t1 ⊢
  obtain ⟨es1, t2, wd, gave⟩ := L
  dsimp only at p1 f1 t1 ⊢
  rw [Array.toList_push] at p1
  have el1 : ElemsOf knd es1.toList := (he.push hk hx).perm p1
  obtain ⟨k1, kp1, ko1⟩ := KeysOf.perm p1 (hks.app (.cons (e := (knd.hash k, x)) hk .nil))
  have nd1 : k1.Nodup := kp1.nodup_iff.mpr (List.nodup_append.mpr ⟨hS.nd, by simp, fun a ha b hb => by simp at hb; subst hb; rintro rfl; exact hout ha⟩)
  have ln1 : k1.length = ks.length + 1 := by rw [kp1.length_eq, List.length_append]; rfl
  have sz1 : es1.size = k1.length := by rw [← Array.length_toList, ko1.len]
  refine wpAny_bind (gv _ ?_)
  have key : ∀ (t3 : SetTable), t3.fits es1.size = true → TOk t3 led → wpAny (model prog w) A (do
    storeSet a es1 t3
    if (!wd && t3.tooFull) = true then do
      (match (relayAll t3 es1 (SetTable.grown es1.size)).2.2 with | true => rule "set.scan.the-table-gave-way" | false => pure ())
      storeSet a (relayAll t3 es1 (SetTable.grown es1.size)).1 (relayAll t3 es1 (SetTable.grown es1.size)).2.1
      pure (some true)
     else pure (some true)) (fun r s' => ∃ h' o' ks', r = some true ∧ s' = { s with heap := h' } ∧ Heap.SameBut a s.heap h' ∧ h'.get? a = some o' ∧ SetO knd led o' ks' ∧ ks'.Perm (ks ++ [k])) E s := by
   intro t3 f3 ok3
   have fit1 : es1.size ≤ sizeLine := fits_of_scanBound (by omega)
   refine wpAny_bind (wpAny_storeSet_of ho hd ?_ fit1)
   have g1 : (s.heap.update a (Obj.putSet es1 t3)).get? a = some { o with data := .set es1 (ep + 1) t3 } := by
    have := Heap.get?_update_self (Obj.putSet es1 t3) ho (by rw [putSet_of es1 t3 hd]; rfl)
    rw [putSet_of es1 t3 hd] at this
    exact this
   have o1 : SetO knd led { o with data := .set es1 (ep + 1) t3 } k1 := ⟨hS.ex, ⟨es1, _, t3, rfl, el1, ko1, f3, ok3⟩, nd1, by omega⟩
   have sb1 := Heap.SameBut.update s.heap a (Obj.putSet es1 t3)
   split
   ·have p2 := relayAll_perm t3 es1 (SetTable.grown es1.size)
    have f2 := relayAll_fits t3 es1 (SetTable.grown es1.size)
    have ok2 := relay_ok ok3 es1 (SetTable.grown es1.size)
    generalize relayAll t3 es1 (SetTable.grown es1.size) = L at p2 f2 ok2 ⊢
    obtain ⟨es2, t4, gv2⟩ := L
    dsimp only at p2 f2 ok2 ⊢
    obtain ⟨k2, kp2, ko2⟩ := KeysOf.perm p2 ko1
    have sz2 : es2.size = es1.size := by rw [← Array.length_toList, p2.length_eq, Array.length_toList]
    refine wpAny_bind (gv _ (wpAny_bind (wpAny_storeSet_of g1 rfl ?_ (by rw [sz2]; exact fit1))))
    refine wpAny_pure ⟨_, _, k2, rfl, rfl, sb1.trans (Heap.SameBut.update _ a _), Heap.get?_update_self (Obj.putSet es2 t4) g1 rfl, ?_, kp2.trans kp1⟩
    exact ⟨hS.ex, ⟨es2, _, t4, rfl, el1.perm p2, ko2, f2, ok2⟩, kp2.nodup_iff.mpr nd1, by rw [kp2.length_eq]; omega⟩
   ·exact wpAny_pure ⟨_, _, k1, rfl, rfl, sb1, g1, o1, kp1⟩
  have fin : ∀ (t3 : SetTable), t3.fits es1.size = true → TOk t3 led → wpAny (model prog w) A (do
    storeSet a es1 t3
    if (!wd && t3.tooFull) = true then do
      (match (relayAll t3 es1 (SetTable.grown es1.size)).2.2 with | true => rule "set.scan.the-table-gave-way" | false => pure ())
      storeSet a (relayAll t3 es1 (SetTable.grown es1.size)).1 (relayAll t3 es1 (SetTable.grown es1.size)).2.1
      pure (some true)
     else pure (some true)) (fun r s' => wpAny (model prog w) A (match r with | some added => pure added | none => setAddHashedIn a x (knd.hash k) 99999) Q E s') E s := by
   intro t3 f3 ok3
   refine wpAny_mono (key t3 f3 ok3) ?_ fun _ _ z => z
   rintro r s' ⟨h', o', ks', rfl, rfl, sb, g, so, p⟩
   exact wpAny_pure (h true h' o' ks' sb g so (fun z => absurd z hout) fun _ => p)
  split
  ·refine wpAny_bind ?_
   rw [hashByValue_scannable 8 hx]
   refine wpAny_pure ?_
   split
   ·exact fin _ f1 t1
   ·exact fin _ (SetTable.fits_plain_off f1) (plain_ok t1)
  ·refine wpAny_bind (wpAny_pure ?_)
   rw [if_pos rfl]
   exact fin _ f1 t1
end
def ledOf (w : World) : Bool := !w.params.followText "set-order"
section
variable {prog : Program} {w : World} {A : Around} {E : Value → Shared → Prop} {s : Shared}
section
variable {K : Type} [DecidableEq K] {knd : KeyKind prog w K} {R : Result → Shared → Prop} {I : Addr} {fp wr : List Addr} {G : Array GenState → Array GenState → Prop} {n : Nat} {P : Nat → Value → Prop} {St : Nat → Shared → Prop}
theorem loop_any {led : Bool} (W : WalksS prog w A.in1 I fp wr G n P St) (S : Addr) (hSf : S ∉ fp) (key : Nat → K) (hkey : ∀ i v, P i v → knd.is (key i) v = true ∧ v.scannable = true) (hb : n + 1 < scanBound) :
  ∀ (m i : Nat) (s : Shared) (o : Obj) (ks : List K), n - i = m → i ≤ n → St i s → s.heap.get? S = some o → SetO knd led o ks → ks.length ≤ i → (∀ k, k ∈ ks ↔ ∃ j, j < i ∧ key j = k) →
  (∀ s' o' ks', Moved (S :: wr) G s s' → s'.heap.get? S = some o' → SetO knd led o' ks' → ks'.length ≤ n → (∀ k, k ∈ ks' ↔ ∃ j, j < n ∧ key j = k) → R (.ok (.ret .none)) s') →
  codeAny (model prog w) A (.builtin "set.update.loop" ⟨[.ref S, .ref I], []⟩) R s := by
 have hSw : S ∉ wr := fun z => hSf (W.sub _ z)
 have hs2 : ∀ b ∈ wr, b ∈ S :: wr := fun b z => List.mem_cons_of_mem _ z
 intro m
 induction m with
 | zero =>
  intro i s o ks hm hi st ho hS hl hmem q
  obtain rfl : i = n := by omega
  refine codeAny_builtin F.entry_set_update_loop ?_
  rw [Around.under_plainId F.plain_set_update_loop _]
  show wpAny _ A.in1 (pyNext (.ref I) >>= _) _ _ s
  refine wpAny_bind (W.done s _ _ st fun s' mv => wpAny_pure ?_)
  exact q s' o ks (mv.mono hs2) (mv.heap S _ hSw ho) hS hl hmem
 | succ m ih =>
  intro i s o ks hm hi st ho hS hl hmem q
  have hlt : i < n := by omega
  refine codeAny_builtin F.entry_set_update_loop ?_
  rw [Around.under_plainId F.plain_set_update_loop _]
  show wpAny _ A.in1 (pyNext (.ref I) >>= _) _ _ s
  refine wpAny_bind (W.item i s _ _ hlt st fun v s' hP st' mv => ?_)
  obtain ⟨hk, hx⟩ := hkey i v hP
  show wpAny _ A.in1 (holding [v] (setAdd S v) >>= _) _ _ s'
  refine wpAny_bind (wpAny_holding ?_)
  unfold setAdd
  refine wpAny_holding (wpAny_bind (knd.pyHash hk ?_))
  refine add_any (s := { s' with toks := s'.toks + 1 }) hk hx (mv.heap S _ hSw ho) hS (by omega) fun b h' o' ks' sb ho' hS' c1 c2 => ?_
  have hmem' : ∀ k, k ∈ ks' ↔ ∃ j, j < i + 1 ∧ key j = k := by
   intro k
   have e : (∃ j, j < i + 1 ∧ key j = k) ↔ (∃ j, j < i ∧ key j = k) ∨ key i = k := by
    constructor
    ·rintro ⟨j, h1, h2⟩
     by_cases h3 : j = i
     ·subst h3; exact .inr h2
     ·exact .inl ⟨j, by omega, h2⟩
    ·rintro (⟨j, h1, h2⟩ | h2)
     ·exact ⟨j, by omega, h2⟩
     ·exact ⟨i, by omega, h2⟩
   rw [e, ← hmem k]
   by_cases hin : key i ∈ ks
   ·rw [c1 hin]
    constructor
    ·exact .inl
    ·rintro (z | rfl)
     ·exact z
     ·exact hin
   ·rw [(c2 hin).mem_iff, List.mem_append, List.mem_singleton]
    constructor
    ·rintro (z | rfl)
     ·exact .inl z
     ·exact .inr rfl
    ·rintro (z | rfl)
     ·exact .inl z
     ·exact .inr rfl
  have hl' : ks'.length ≤ i + 1 := by
   by_cases hin : key i ∈ ks
   ·rw [c1 hin]; omega
   ·rw [(c2 hin).length_eq, List.length_append, List.length_singleton]; omega
  refine wpAny_pure ⟨plainId_quiet F.plain_set_update_loop _, ih (i + 1) _ o' ks' (by omega) hlt (W.frame _ s' _ _ st' (Nat.le_succ _) fun b' hb' o2 e => ?_) ho' hS' hl' hmem' fun s2 o2 ks2 mv2 ho2 hS2 l2 m2 => ?_⟩
  ·rw [sb.2 b' (fun z : b' = S => hSf (by rw [← z]; exact hb'))]; exact e
  ·refine q s2 o2 ks2 (Moved.trans W.gtrans ((mv.mono hs2).then_heap (Nat.le_succ _) fun b' o3 hb' e => ?_) mv2) ho2 hS2 l2 m2
   rw [sb.2 b' (fun z : b' = S => hb' (by rw [z]; exact List.mem_cons_self))]; exact e
end
def newO (w : World) : Obj := { cls := .type "set", dict := none, data := .set #[] 0 (.fresh 0 0 (ledOf w)) }
theorem newO_ok {K : Type} [DecidableEq K] {knd : KeyKind prog w K} : SetO knd (ledOf w) (newO w) [] :=
 ⟨⟨rfl, rfl, rfl⟩, ⟨#[], 0, _, rfl, fun e he => by simp at he, .nil, rfl, ⟨fun i k _ h => by simp [SetTable.fresh] at h, rfl, rfl⟩⟩, List.nodup_nil, by show 0 < scanBound; decide⟩
theorem new_code (a : Value) {Q : Value → Shared → Prop} (h : Q (.ref s.heap.objs.size) { s with heap := s.heap.push (newO w) }) :
  codeAny (model prog w) A (.call (.builtin "set.__new__") ⟨[.type "set", a], []⟩) (wants Q E) s := by
 refine codeAny_of_tree ?_
 show wpAny _ A.in1 (checkBuiltinCall "set.__new__" ⟨[.type "set", a], []⟩ >>= fun _ => again (.builtin "set.__new__" ⟨[.type "set", a], []⟩)) _ _ s
 refine wpAny_bind (wpAny_of_eq (F.newCall_set_1 a) (wpAny_pure ⟨plainId_quiet F.plain_set_new _, codeAny_builtin F.entry_set_new ?_⟩))
 rw [Around.under_plainId F.plain_set_new _]
 unfold Builtin.«set.__new__» Builtin.Frozenset.newClass
 have sub0 := sub_set_self
 obtain ⟨hp, g, d, tk, os⟩ := s
 dsimp only
 wp_walk
 refine wpAny_askSetting (wpAny_pure ?_)
 simp only [newObj]
 exact wpAny_bind (wpAny_alloc (wpAny_pure (wpAny_pure h)))
end
section
variable {prog : Program} {w : World} {A : Around} {E : Value → Shared → Prop} {s : Shared} {K : Type} [DecidableEq K] {knd : KeyKind prog w K}
set_option maxHeartbeats 3200000 in
theorem call_set {l : Addr} {its : Array Value} {key : Nat → K} {Q : Value → Shared → Prop} (hh : A.handled = none) (hl : s.heap.IsList l its) (hkey : ∀ i v, its[i]? = some v → knd.is (key i) v = true ∧ v.scannable = true) (hb : its.size + 1 < scanBound)
  (h : ∀ h' tk o ks, h'.get? s.heap.objs.size = some o → SetO knd (ledOf w) o ks → ks.length ≤ its.size → (∀ k, k ∈ ks ↔ ∃ j, j < its.size ∧ key j = k) → (∀ b o, b < s.heap.objs.size → s.heap.get? b = some o → h'.get? b = some o) → Q (.ref s.heap.objs.size) { s with heap := h', toks := tk }) :
  wpAny (model prog w) A (call (.type "set") [.ref l]) Q E s := by
 obtain ⟨c0, tl, mro0⟩ := F.called_set.mro
 have made0 := F.called_set.made
 have sub0 := F.called_set.sub
 have nt0 := F.called_set.notType
 have cc0 := F.called_set.canCreate
 have ct0 := F.typeCall_set_1 (.ref l)
 refine wpAny_call (codeAny_of_tree ?_)
 show wpAny _ _ (callAny (.type "set") _) _ _ _
 refine wpAny_pure ⟨Code.quiet_builtin _ (by decide +kernel), codeAny_builtin F.entry_type_call ?_⟩
 rw [Around.under_plain (weight_type_call_type "set" [.ref l] []) rfl]
 repeat (any_goals (first | assumption | wp_step))
 have hnew := new_code (prog := prog) (w := w) (A := A.in1) (s := s) (E := E) (.ref l) (Q := fun v s1 => v = .ref s.heap.objs.size ∧ s1 = { s with heap := s.heap.push (newO w) }) ⟨rfl, rfl⟩
 refine codeAny_mono hnew fun r s1 hr => ?_
 cases r with
 | error e => exact hr
 | ok fl =>
 cases fl with
 | ret v =>
  obtain ⟨rfl, rfl⟩ := hr
  have g0 : (s.heap.push (newO w)).get? s.heap.objs.size = some (newO w) := Heap.get?_push_size _ rfl
  have ty0 : Shared.TypeIs { s with heap := s.heap.push (newO w) } (.ref s.heap.objs.size) "set" := ⟨_, g0, rfl⟩
  have li0 := F.called_set.init.lookup
  have bi0 := F.called_set.init.bind (.ref s.heap.objs.size)
  repeat (any_goals (first | assumption | wp_step))
  have want : ∀ s2 : Shared, (∃ h' tk o ks, s2 = { s with heap := h', toks := tk } ∧ h'.get? s.heap.objs.size = some o ∧ SetO knd (ledOf w) o ks ∧ ks.length ≤ its.size ∧ (∀ k, k ∈ ks ↔ ∃ j, j < its.size ∧ key j = k) ∧ (∀ b o, b < s.heap.objs.size → s.heap.get? b = some o → h'.get? b = some o)) → Q (.ref s.heap.objs.size) s2 := by
   rintro s2 ⟨h', tk, o, ks, rfl, a1, a2, a0, a3, a4⟩
   exact h h' tk o ks a1 a2 a0 a3 a4
  clear h
  refine codeAny_mono (codeAny_call_builtin (R := wants (fun r s2 => r = .none ∧ ∃ h' tk o ks, s2 = { s with heap := h', toks := tk } ∧ h'.get? s.heap.objs.size = some o ∧ SetO knd (ledOf w) o ks ∧ ks.length ≤ its.size ∧ (∀ k, k ∈ ks ↔ ∃ j, j < its.size ∧ key j = k) ∧ (∀ b o, b < s.heap.objs.size → s.heap.get? b = some o → h'.get? b = some o)) E) F.called_set.init.plain F.entry_set_init (check_set_init_1 ty0 ?_)) fun r2 s2 hr2 => ?_
  ·obtain ⟨⟨cl, di, da, sl⟩, ol, hcl, nl, hdl⟩ := hl
   simp only at hcl hdl
   subst hcl hdl
   have ol1 : (s.heap.push (newO w)).get? l = some { cls := .type "list", dict := di, data := .seq its nl, slots := sl } := Heap.get?_push_of_some _ ol
   have s1 := F.sub_list_set
   have s2 := F.sub_list_frozenset
   have s3 : (Value.type "list" == Value.type "dict") = false := by decide
   have il1 : (s.heap.push (newO w)).IsList l its := ⟨_, ol1, rfl, nl, rfl⟩
   unfold Builtin.«set.__init__» noKeywords Builtin.Frozenset.updateFrom
   generalize hPI : pyIter = PI
   wp_walk
   subst hPI
   refine wpAny_pyIter_list il1 (wpAny_bind (wpAny_runValue ?_))
   have lS : l < s.heap.objs.size := Heap.lt_size ol
   have nI : l ≠ (s.heap.push (newO w)).objs.size := by rw [Heap.size_push]; exact Nat.ne_of_lt (Nat.lt_succ_of_lt lS)
   have nS : s.heap.objs.size ∉ [(s.heap.push (newO w)).objs.size, l] := by
    rw [Heap.size_push, List.mem_cons, List.mem_singleton]
    exact fun z => z.elim (Nat.ne_of_lt (Nat.lt_succ_self _)) (Nat.ne_of_gt lS)
   refine loop_any (knd := knd) (led := ledOf w) ((Walks.list (by simp [hh]) _ l nI its).toS) s.heap.objs.size nS key hkey hb _ 0 _ (newO w) [] rfl (Nat.zero_le _) ⟨⟨_, Heap.get?_push_size _ rfl, rfl, rfl⟩, il1.push _⟩ (Heap.get?_push_of_some _ g0) newO_ok (Nat.zero_le _) (fun k => by simp) ?_
   intro s' o' ks' mv ho' hS' hl' hm'
   obtain ⟨h', g', d', tk', os'⟩ := s'
   cases mv.gens
   cases mv.drawn
   cases mv.os
   refine wpAny_pure ?_
   refine wpAny_pure ⟨rfl, h', tk', o', ks', rfl, ho', hS', hl', hm', fun b o hb e => ?_⟩
   refine mv.heap b o ?_ (Heap.get?_push_of_some _ (Heap.get?_push_of_some _ e))
   rw [List.mem_cons, List.mem_singleton, Heap.size_push]
   exact fun z => z.elim (Nat.ne_of_lt hb) (Nat.ne_of_lt (Nat.lt_succ_of_lt hb))
  ·cases r2 with
   | error e => exact hr2
   | ok fl2 =>
    cases fl2 with
    | ret r =>
     obtain ⟨rfl, hw⟩ := hr2
     repeat (any_goals (first | assumption | wp_step))
     exact want _ hw
    | _ => exact hr2.elim
 | _ => exact hr.elim
end
section
variable {prog : Program} {w : World} {A : Around} {E : Value → Shared → Prop} {s : Shared}
abbrev itO (f : Value) (i : Nat) (a : Addr) (n ep : Nat) : Obj := { cls := .type "set_iterator", dict := none, data := .fields #[f, rawInt i, .ref a, rawInt n, rawInt ep], slots := #[] }
section
variable {a I : Addr} {o : Obj} {es : Array (Int × Value)} {ep : Nat} {t : SetTable}
theorem stop_any {Q : Fin → Shared → Prop} {R : Value → Shared → Prop} (hh : A.handled = none) (h : ∀ h' e, (∀ b u, s.heap.get? b = some u → h'.get? b = some u) → (∃ u, h'.get? e = some u ∧ u.cls = .type "StopIteration") → R (.ref e) { s with heap := h' }) : wpAny (model prog w) A (newExc (.type "StopIteration") [] >>= fun e => (raiseNew e : Sem Fin)) Q R s := by
 refine wpAny_bind ?_
 simp only [newExc, newTuple]
 refine wpAny_bind (wpAny_newObj_type ?_ (by size_fits))
 refine wpAny_bind (m := firstArgMember _ _) (wpAny_of_eq (a := Value.none) (by first | rfl | (simp only [firstArgMember]; rfl)) ?_)
 refine wpAny_newObj_type ?_ (by size_fits)
 simp only [raiseNew]
 refine wpAny_bind (wpAny_handled ?_)
 rw [hh]
 refine wpAny_bind (wpAny_pure (wpAny_throw ?_))
 exact h _ _ (fun b u q => Heap.get?_push_of_some _ (Heap.get?_push_of_some _ q)) ⟨_, Heap.get?_push_size _ rfl, rfl⟩
end
end
section
variable {prog : Program} {w : World} {A : Around} {E : Value → Shared → Prop} {s : Shared}
structure ItSt (w : World) (I a T : Addr) (o : Obj) (es : Array (Int × Value)) (ep : Nat) (t : SetTable) (vs : List Value) (i : Nat) (h : Heap) : Prop where
 set : h.get? a = some o
 md : (w.params.followText "set-order" = true ∧ vs = (pickOrder (w.params.setOrder a ep) es).toList.map (·.2) ∧ h.get? I = some (itO (rawInt 0) i a es.size ep))
  ∨ (w.params.followText "set-order" = false ∧ (!t.plain && decide (es.size > 1)) = false ∧ t.led = true ∧ Rise t.place ∧ vs = es.toList.map (·.2) ∧ ∃ slot, SetTable.below t.place slot = i ∧ h.get? I = some (itO (rawInt slot) i a es.size ep))
  ∨ (∃ pl : List Nat, h.IsTuple T (pl.map fun (k : Nat) => rawInt k).toArray ∧ vs = pl.map (fun k => (es.getD k (0, .none)).2) ∧ (∀ k ∈ pl, k < es.size) ∧ h.get? I = some (itO (.ref T) i a es.size ep))
end
end SW
namespace SW
open PySem PyProof.Rows PySem.W
section
variable {prog : Program} {w : World} {A : Around} {E : Value → Shared → Prop} {s : Shared}
end
end SW
namespace SW
open PySem PyProof.Rows
end SW
namespace L3
open PySem PySem.Spec PyProof.Rows L2
section
variable {X : Cx} {pins : List (Addr × Obj)} {σ : L2.St} {H : Hp} {s : Shared}
def SetPhi (P : Program) (w : World) (a : Addr) (ks : List Key) (h : Heap) : Prop := ∃ o, h.get? a = some o ∧ SW.SetO (mixKind P w) (SW.ledOf w) o ks
theorem SetPhi.stay {P : Program} {w : World} {a : Addr} {ks : List Key} {h h' : Heap} (x : SetPhi P w a ks h) (k : ∀ o, h.get? a = some o → h'.get? a = some o) : SetPhi P w a ks h' := by
 obtain ⟨o, ho, r⟩ := x
 exact ⟨o, k _ ho, r⟩
theorem call_set1 (hc : X.calm = true) : CallR X (.type "set") (fun xs H Q => ∃ (a : Addr) (ks : List Key), xs = [V.ref a] ∧ SqL X.K H a (ks.map kV) ∧ ks.length + 1 < scanBound ∧ ∀ p ks', H p = none → ks'.Nodup → ks'.length ≤ ks.length → (∀ k, k ∈ ks' ↔ k ∈ ks) → Q (.ref p) (upd H p (.ext (SetPhi X.prog X.w p ks')))) := by
 intro pins s σ H xs us Q I r h
 obtain ⟨a, ks, rfl, hx, hz, q⟩ := h
 obtain ⟨u, rfl, ru⟩ := vals1 r
 cases ru
 obtain ⟨its, rv, p, _⟩ := I.list hx
 have hl : its.length = ks.length := by have := rv.length; rw [List.length_map] at this; exact this.symm
 refine SW.call_set (knd := mixKind X.prog X.w) (key := fun i => ks.getD i (.inl 0)) (I.ok.hd hc) p.isList (fun i v e => ?_) (by rw [List.size_toArray]; omega) fun h' tk o ks' ho hS hlk hm k => ?_
 ·rw [List.getElem?_toArray] at e
  have hi : i < ks.length := by have := (List.getElem?_eq_some_iff.mp e).1; omega
  have e1 : (ks.map kV)[i]? = some (kV ks[i]) := by rw [List.getElem?_map, List.getElem?_eq_getElem hi]; rfl
  obtain ⟨u, e2, r2⟩ := rv.get e1
  rw [e] at e2
  cases e2
  have e3 : ks.getD i (.inl 0) = ks[i] := by rw [List.getD_eq_getElem?_getD, List.getElem?_eq_getElem hi]; rfl
  have hk : keyIs ks[i] v = true := kV_is (P := X.prog) (w := X.w) r2
  refine ⟨by show keyIs (ks.getD i (.inl 0)) v = true; rw [e3]; exact hk, ?_⟩
  rcases keyIs_shape hk with ⟨i, t, _, rfl⟩ | ⟨x, t, _, rfl⟩ <;> rfl
 ·have k' : ∀ b u, s.heap.get? b = some u → h'.get? b = some u := fun b u e => k b u (Heap.lt_size e) e
  refine ⟨.ref _, _, I.laid (a := s.heap.objs.size) (o := .ext (SetPhi X.prog X.w s.heap.objs.size ks')) (t' := tk) k' (Nat.le_refl _) ⟨⟨o, ho, hS⟩, ⟨o, ho⟩, fun h1 h2 x k => x.stay k⟩, rfl, q _ ks' (I.hok.fresh (Nat.le_refl _)) hS.nd (by rw [List.size_toArray, hl] at hlk; exact hlk) fun k => ?_⟩
  rw [hm, List.size_toArray, hl, List.mem_iff_getElem]
  constructor
  ·rintro ⟨j, hj, e⟩
   exact ⟨j, hj, by rw [← e, List.getD_eq_getElem?_getD, List.getElem?_eq_getElem hj]; rfl⟩
  ·rintro ⟨j, hj, e⟩
   exact ⟨j, hj, by rw [← e, List.getD_eq_getElem?_getD, List.getElem?_eq_getElem hj]; rfl⟩
theorem vals_ints : ∀ {vs : List Value} {ns : List Int}, IntsAre vs ns → Vals (ns.map V.int) vs
 | _, _, .nil => .nil
 | _, _, .cons n t r => .cons ⟨t, rfl⟩ (vals_ints r)
theorem phi_of (I : Inv X pins σ H s) {p : Addr} {φ : Heap → Prop} (h : H p = some (.ext φ)) : φ s.heap := (I.hok p _ h).1
def rLenS (P : Program) (w : World) : List V → Hp → VK → Prop := fun xs H Q => ∃ (p : Addr) (ks : List Key), xs = [V.ref p] ∧ H p = some (.ext (SetPhi P w p ks)) ∧ Q (.int ks.length) H
theorem call_lenS : CallR X (.builtin "len") (rLenS X.prog X.w) := by
 intro pins s σ H xs us Q I r h
 obtain ⟨p, ks, rfl, hx, q⟩ := h
 obtain ⟨u, rfl, ru⟩ := vals1 r
 cases ru
 obtain ⟨o, ho, hS⟩ := phi_of I hx
 obtain ⟨es, ep, t, hd, he, hks, hf, ht⟩ := hS.dat
 have hl : es.size = ks.length := by have := hks.len; rw [Array.length_toList] at this; exact this.symm
 have hb : ks.length < scanBound := hS.sm
 have h4 : scanBound = 4096 := rfl
 refine call_len_set ho hS.ex hd hf (Int.lt_of_lt_of_le (show (es.size : Int) < 4096 by omega) (by decide)) ?_
 rw [hl]
 exact ⟨.int _, H, I.tok _, ⟨_, rfl⟩, q⟩
end
end L3
namespace ZT
open PySem PyProof.Rows
structure Nx (P : Program) (w : World) (i l : Addr) (its : Array Value) (St : Nat → Heap → Prop) : Prop where
 obj : ∀ k h, St k h → ∃ o, h.get? i = some o ∧ o.cls ≠ .type "zip" ∧ ∀ v, o.data ≠ .cell v
 stay : ∀ k h h', St k h → (∀ b o, b = i ∨ b = l → h.get? b = some o → h'.get? b = some o) → St k h'
 item : ∀ {A : Around} {E : Value → Shared → Prop} {s : Shared} {k : Nat} {x : Value} {Q : Value → Shared → Prop}, St k s.heap → its[k]? = some x → (∀ h', St (k + 1) h' → Heap.SameBut i s.heap h' → Q x { s with heap := h' }) → wpAny (model P w) A (Builtin.SmallTypes.nextOf (.ref i)) Q E s
 done : ∀ {A : Around} {E : Value → Shared → Prop} {s : Shared} {k : Nat} {Q : Value → Shared → Prop}, A.handled = none → St k s.heap → its[k]? = none → (∀ h' e, (∀ c o, c ≠ i → s.heap.get? c = some o → h'.get? c = some o) → (∃ o, h'.get? e = some o ∧ o.cls = .type "StopIteration") → E (.ref e) { s with heap := h' }) → wpAny (model P w) A (Builtin.SmallTypes.nextOf (.ref i)) Q E s
section
variable {prog : Program} {w : World} {A : Around} {E : Value → Shared → Prop} {s : Shared}
theorem Nx.list {i l : Addr} (hne : l ≠ i) (its : Array Value) : Nx prog w i l its (fun k h => h.IsListIter i l k ∧ h.IsList l its) where
 obj := fun k h ⟨⟨o, e, c, d⟩, _⟩ => ⟨o, e, by rw [c]; decide, fun v z => by rw [d] at z; cases z⟩
 stay := fun k h h' ⟨a, b⟩ q => ⟨a.at fun o e => q i o (.inl rfl) e, b.at fun o e => q l o (.inr rfl) e⟩
 item := fun ⟨a, b⟩ hx q => wpAny_nextOf_list_item a b hx fun h' a' sb => q h' ⟨a', b.extBut sb.extBut hne⟩ sb
 done := fun hh ⟨a, b⟩ hx q => wpAny_nextOf_list_end hh a b hx fun h' e k he => q h' e k he
theorem Nx.tuple {i l : Addr} (hne : l ≠ i) (its : Array Value) : Nx prog w i l its (fun k h => h.IsTupleIter i l k ∧ h.IsTuple l its) where
 obj := fun k h ⟨⟨o, e, c, d⟩, _⟩ => ⟨o, e, by rw [c]; decide, fun v z => by rw [d] at z; cases z⟩
 stay := fun k h h' ⟨⟨o, e, r⟩, ⟨u, e2, r2⟩⟩ q => ⟨⟨o, q i o (.inl rfl) e, r⟩, ⟨u, q l u (.inr rfl) e2, r2⟩⟩
 item := by
  rintro A E s k x Q ⟨a, b⟩ hx q
  obtain ⟨o, ho, hc, hd⟩ := id a
  obtain ⟨ol, hol, hcl, nl, hdl⟩ := id b
  unfold Builtin.SmallTypes.nextOf
  refine wpAny_bind (wpAny_callSpecial?_slot (name := Str.ofString "__next__") a.typeIs F.slot_tuple_iterator_next (wpAny_call_entry F.slot_tuple_iterator_next a.typeIs F.entry_tuple_iterator_next ?_ (F.args_tuple_iterator_next_1 _)))
  show wpAny _ _ (field (.ref i) 0 >>= _) _ _ s
  refine wpAny_bind (wpAny_field ho hd (x := .ref l) rfl ?_)
  show wpAny _ _ (if (Value.ref l == Value.none) = true then _ else _) _ _ s
  rw [if_neg (by exact Bool.false_ne_true)]
  show wpAny _ _ (field (.ref i) 1 >>= _) _ _ s
  refine wpAny_bind (wpAny_field ho hd (x := .int k 0) rfl ?_)
  show wpAny _ _ (seqItems? (.ref l) >>= _) _ _ s
  refine wpAny_bind (wpAny_seqItems hol hdl ?_)
  simp only [Int.toNat_natCast, hx]
  have sb := Heap.SameBut.update s.heap i (Obj.mapFields (·.setIfInBounds 1 (rawInt ((k : Int) + 1))))
  refine wpAny_bind (wpAny_setField ho hd (by simp) (wpAny_pure ⟨x, rfl, wpAny_pure (q _ ⟨?_, b.extBut sb.extBut hne⟩ sb)⟩))
  exact ⟨_, Heap.get?_update_self _ ho (Obj.isFreed_of_fields (Obj.data_mapFields hd _)), (Obj.cls_mapFields ..).trans hc, by rw [Obj.data_mapFields hd]; simp [rawInt]⟩
 done := by
  rintro A E s k Q hh ⟨a, b⟩ hx q
  obtain ⟨o, ho, hc, hd⟩ := id a
  obtain ⟨ol, hol, hcl, nl, hdl⟩ := id b
  unfold Builtin.SmallTypes.nextOf
  refine wpAny_bind (wpAny_callSpecial?_slot (name := Str.ofString "__next__") a.typeIs F.slot_tuple_iterator_next (wpAny_call_entry F.slot_tuple_iterator_next a.typeIs F.entry_tuple_iterator_next ?_ (F.args_tuple_iterator_next_1 _)))
  show wpAny _ _ (field (.ref i) 0 >>= _) _ _ s
  refine wpAny_bind (wpAny_field ho hd (x := .ref l) rfl ?_)
  show wpAny _ _ (if (Value.ref l == Value.none) = true then _ else _) _ _ s
  rw [if_neg (by exact Bool.false_ne_true)]
  show wpAny _ _ (field (.ref i) 1 >>= _) _ _ s
  refine wpAny_bind (wpAny_field ho hd (x := .int k 0) rfl ?_)
  show wpAny _ _ (seqItems? (.ref l) >>= _) _ _ s
  refine wpAny_bind (wpAny_seqItems hol hdl ?_)
  simp only [Int.toNat_natCast, hx]
  refine wpAny_bind (wpAny_rule (wpAny_bind (wpAny_setField ho hd (by simp) ?_)))
  refine SW.stop_any (A := A.in1) hh fun h' e kp he => q h' e (fun c u hc2 z => kp c u ((Heap.SameBut.update ..).extBut c u hc2 z)) he
structure Ap (z TI TO i1 i2 l1 l2 : Addr) : Prop where
 z1 : TI ≠ z ∧ TO ≠ z ∧ i1 ≠ z ∧ i2 ≠ z ∧ l1 ≠ z ∧ l2 ≠ z
 z2 : TI ≠ TO ∧ i1 ≠ TO ∧ i2 ≠ TO ∧ l1 ≠ TO ∧ l2 ≠ TO
 z3 : TI ≠ i1 ∧ i2 ≠ i1 ∧ l1 ≠ i1 ∧ l2 ≠ i1
 z4 : TI ≠ i2 ∧ l1 ≠ i2 ∧ l2 ≠ i2
variable {z TI TO i1 i2 l1 l2 : Addr} {xs ys : Array Value} {S1 S2 : Nat → Heap → Prop}
theorem pair_put {T : Addr} {a b x : Value} {k : Nat} {Q : Unit → Shared → Prop} (hT : IsPair s.heap T a b)
  (h : ∀ h', h'.get? T = some { cls := .type "tuple", data := .seq ((#[a, b] : Array Value).setIfInBounds k x) } → Heap.SameBut T s.heap h' → Q () { s with heap := h' }) : wpAny (model prog w) A (updateSeq T (·.setIfInBounds k x)) Q E s := wpAny_updateSeq_pair hT h
theorem z_item {k : Nat} {x y a b : Value} {Q : Value → Shared → Prop} (D : Ap z TI TO i1 i2 l1 l2) (N1 : Nx prog w i1 l1 xs S1) (N2 : Nx prog w i2 l2 ys S2)
  (hz : IsZip s.heap z TI TO .none) (hI : IsPair s.heap TI (.ref i1) (.ref i2)) (hO : IsPair s.heap TO a b) (h1 : S1 k s.heap) (h2 : S2 k s.heap) (hx : xs[k]? = some x) (hy : ys[k]? = some y)
  (q : ∀ h', IsZip h' z TI TO (rawInt s.heap.objs.size) → IsPair h' TO x y → S1 (k + 1) h' → S2 (k + 1) h' → IsPair h' s.heap.objs.size x y → h'.objs.size = s.heap.objs.size + 1 → (∀ c o, c ≠ z → c ≠ TO → c ≠ i1 → c ≠ i2 → s.heap.get? c = some o → h'.get? c = some o) → Q (.ref s.heap.objs.size) { s with heap := h' }) :
  wpAny (model prog w) A (Builtin.«zip.__next__» ⟨[.ref z], []⟩) (fun fin s' => ∃ v, fin = .done (.ret v) ∧ Q v s') E s := by
 obtain ⟨⟨d1, d2, d3, d4, d5, d6⟩, ⟨e1, e2, e3, e4, e5⟩, ⟨f1, f2, f3, f4⟩, g1, g2, g3⟩ := D
 show wpAny _ _ (field (.ref z) 2 >>= _) _ _ _
 refine wpAny_bind (wpAny_field (x := .bool false) hz rfl rfl ?_)
 show wpAny _ _ (field (.ref z) 3 >>= _) _ _ _
 refine wpAny_bind (wpAny_field (x := .ref TI) hz rfl rfl (wpAny_bind (wpAny_seqItems hI rfl ?_)))
 show wpAny _ _ (Builtin.SmallTypes.ownedTupleIsFree (.ref z) >>= _) _ _ _
 refine wpAny_bind ?_
 unfold Builtin.SmallTypes.ownedTupleIsFree
 refine wpAny_bind (wpAny_field (x := .none) hz rfl rfl (wpAny_pure ?_))
 simp only [if_true]
 refine wpAny_bind (wpAny_rule (wpAny_bind (wpAny_field (x := .ref TO) hz rfl rfl (wpAny_bind (wpAny_setField_rec hz (by simp) fun ha za sa => ?_)))))
 replace za : IsZip ha z TI TO .ellipsis := za
 refine wpAny_bind ?_
 simp only [List.zipIdx_cons, List.zipIdx_nil, List.forIn_cons, List.forIn_nil]
 refine wpAny_bind (wpAny_bind (wpAny_onRaise ?_))
 show wpAny _ _ (Builtin.SmallTypes.nextOf (.ref i1) >>= _) _ _ _
 have h1a : S1 k ha := N1.stay _ _ _ h1 fun c o hc e => sa.extBut c o (by rcases hc with rfl | rfl <;> assumption) e
 have h2a : S2 k ha := N2.stay _ _ _ h2 fun c o hc e => sa.extBut c o (by rcases hc with rfl | rfl <;> assumption) e
 refine wpAny_bind (N1.item h1a hx fun hb h1b sb => wpAny_pure ?_)
 have Ob : IsPair hb TO a b := sb.extBut _ _ (Ne.symm e2) (sa.extBut _ _ d2 hO)
 have h2b : S2 k hb := N2.stay _ _ _ h2a fun c o hc e => sb.extBut c o (by rcases hc with rfl | rfl <;> assumption) e
 refine wpAny_bind (wpAny_seqItems Ob rfl (wpAny_bind (pair_put Ob fun hc Oc sc => ?_)))
 replace Oc : IsPair hc TO x b := Oc
 refine wpAny_bind (wpAny_letGo (wpAny_pure ?_))
 refine wpAny_bind (wpAny_bind (wpAny_onRaise ?_))
 show wpAny _ _ (Builtin.SmallTypes.nextOf (.ref i2) >>= _) _ _ _
 have h2c : S2 k hc := N2.stay _ _ _ h2b fun c o hc e => sc.extBut c o (by rcases hc with rfl | rfl <;> assumption) e
 have h1c : S1 (k + 1) hc := N1.stay _ _ _ h1b fun c o hc e => sc.extBut c o (by rcases hc with rfl | rfl <;> assumption) e
 refine wpAny_bind (N2.item h2c hy fun hd h2d sd => wpAny_pure ?_)
 have Od : IsPair hd TO x b := sd.extBut _ _ (Ne.symm e3) Oc
 have h1d : S1 (k + 1) hd := N1.stay _ _ _ h1c fun c o hc e => sd.extBut c o (by rcases hc with rfl | rfl; exact Ne.symm f2; assumption) e
 refine wpAny_bind (wpAny_seqItems Od rfl (wpAny_bind (pair_put Od fun he Oe se => ?_)))
 replace Oe : IsPair he TO x y := Oe
 refine wpAny_bind (wpAny_letGo (wpAny_pure (wpAny_pure ?_)))
 refine wpAny_bind (wpAny_seqItems Oe rfl (wpAny_bind (wpAny_newTuple ?_)))
 have h1e : S1 (k + 1) he := N1.stay _ _ _ h1d fun c o hc e => se.extBut c o (by rcases hc with rfl | rfl <;> assumption) e
 have h2e : S2 (k + 1) he := N2.stay _ _ _ h2d fun c o hc e => se.extBut c o (by rcases hc with rfl | rfl <;> assumption) e
 have sz : he.objs.size = s.heap.objs.size := by rw [se.1, sd.1, sc.1, sb.1, sa.1]
 have ze : IsZip he z TI TO .ellipsis := se.extBut _ _ (Ne.symm d2) (sd.extBut _ _ (Ne.symm d4) (sc.extBut _ _ (Ne.symm d2) (sb.extBut _ _ (Ne.symm d3) za)))
 have ke : ∀ c o, c ≠ z → c ≠ TO → c ≠ i1 → c ≠ i2 → s.heap.get? c = some o → he.get? c = some o := fun c o c1 c2 c3 c4 e =>
  se.extBut _ _ c2 (sd.extBut _ _ c4 (sc.extBut _ _ c2 (sb.extBut _ _ c3 (sa.extBut _ _ c1 e))))
 have lz : z < he.objs.size := Heap.lt_size ze
 show wpAny _ _ (Builtin.SmallTypes.ownedTupleHandOut (.ref z) (.ref he.objs.size) >>= _) _ _ _
 refine wpAny_bind ?_
 unfold Builtin.SmallTypes.ownedTupleHandOut
 have zf : IsZip (he.push { cls := .type "tuple", data := .seq #[x, y] }) z TI TO .ellipsis := Heap.get?_push_of_some _ ze
 refine wpAny_bind (wpAny_setField_rec zf (by simp) fun hg zg sg => ?_)
 replace zg : IsZip hg z TI TO (rawInt he.objs.size) := zg
 refine wpAny_setField_rec zg (by simp) fun hh zh sh => ?_
 replace zh : IsZip hh z TI TO (rawInt he.objs.size) := zh
 have up : ∀ c o, c ≠ z → he.get? c = some o → hh.get? c = some o := fun c o c1 e => sh.extBut _ _ c1 (sg.extBut _ _ c1 (Heap.get?_push_of_some _ e))
 have Th : IsPair hh he.objs.size x y := sh.extBut _ _ (Nat.ne_of_gt lz) (sg.extBut _ _ (Nat.ne_of_gt lz) (Heap.get?_push_size _ rfl))
 have zs : hh.objs.size = he.objs.size + 1 := by rw [sh.1, sg.1, Heap.size_push]
 rw [sz] at zh Th zs
 refine wpAny_pure ⟨_, rfl, ?_⟩
 show Q (.ref he.objs.size) _
 rw [sz]
 exact q hh zh (up _ _ d2 Oe) (N1.stay _ _ _ h1e fun c o hc e => up c o (by rcases hc with rfl | rfl <;> assumption) e) (N2.stay _ _ _ h2e fun c o hc e => up c o (by rcases hc with rfl | rfl <;> assumption) e) Th zs fun c o c1 c2 c3 c4 e => up c o c1 (ke c o c1 c2 c3 c4 e)
theorem z_end {k : Nat} {a b : Value} {Q : Fin → Shared → Prop} (hh : A.handled = none) (D : Ap z TI TO i1 i2 l1 l2) (N1 : Nx prog w i1 l1 xs S1) (N2 : Nx prog w i2 l2 ys S2)
  (hz : IsZip s.heap z TI TO .none) (hI : IsPair s.heap TI (.ref i1) (.ref i2)) (hO : IsPair s.heap TO a b) (h1 : S1 k s.heap) (h2 : S2 k s.heap) (hend : xs[k]? = none ∨ ys[k]? = none)
  (q : ∀ h' e, (∀ c o, c ≠ z → c ≠ TO → c ≠ i1 → c ≠ i2 → s.heap.get? c = some o → h'.get? c = some o) → (∃ o, h'.get? e = some o ∧ o.cls = .type "StopIteration") → E (.ref e) { s with heap := h' }) :
  wpAny (model prog w) A (Builtin.«zip.__next__» ⟨[.ref z], []⟩) Q E s := by
 obtain ⟨⟨d1, d2, d3, d4, d5, d6⟩, ⟨e1, e2, e3, e4, e5⟩, ⟨f1, f2, f3, f4⟩, g1, g2, g3⟩ := D
 show wpAny _ _ (field (.ref z) 2 >>= _) _ _ _
 refine wpAny_bind (wpAny_field (x := .bool false) hz rfl rfl ?_)
 show wpAny _ _ (field (.ref z) 3 >>= _) _ _ _
 refine wpAny_bind (wpAny_field (x := .ref TI) hz rfl rfl (wpAny_bind (wpAny_seqItems hI rfl ?_)))
 show wpAny _ _ (Builtin.SmallTypes.ownedTupleIsFree (.ref z) >>= _) _ _ _
 refine wpAny_bind ?_
 unfold Builtin.SmallTypes.ownedTupleIsFree
 refine wpAny_bind (wpAny_field (x := .none) hz rfl rfl (wpAny_pure ?_))
 simp only [if_true]
 refine wpAny_bind (wpAny_rule (wpAny_bind (wpAny_field (x := .ref TO) hz rfl rfl (wpAny_bind (wpAny_setField_rec hz (by simp) fun ha za sa => ?_)))))
 replace za : IsZip ha z TI TO .ellipsis := za
 refine wpAny_bind ?_
 simp only [List.zipIdx_cons, List.zipIdx_nil, List.forIn_cons, List.forIn_nil]
 refine wpAny_bind (wpAny_bind (wpAny_onRaise ?_))
 show wpAny _ _ (Builtin.SmallTypes.nextOf (.ref i1) >>= _) _ _ _
 have h1a : S1 k ha := N1.stay _ _ _ h1 fun c o hc e => sa.extBut c o (by rcases hc with rfl | rfl <;> assumption) e
 have h2a : S2 k ha := N2.stay _ _ _ h2 fun c o hc e => sa.extBut c o (by rcases hc with rfl | rfl <;> assumption) e
 have fin : ∀ (h2 : Heap) (e : Addr), IsZip h2 z TI TO .ellipsis → (∀ c o, c ≠ z → c ≠ TO → c ≠ i1 → c ≠ i2 → s.heap.get? c = some o → h2.get? c = some o) → (∃ o, h2.get? e = some o ∧ o.cls = .type "StopIteration") → wpAny (model prog w) A (setField (.ref z) 0 .none) (fun _ s' => E (.ref e) s') E { s with heap := h2 } := by
  rintro h2 e zz kp ⟨o, ho, hc⟩
  refine wpAny_setField_rec zz (by simp) fun h3 _ s3 => q h3 e (fun c o c1 c2 c3 c4 x => s3.extBut _ _ c1 (kp c o c1 c2 c3 c4 x)) ⟨o, s3.extBut _ _ ?_ ho, hc⟩
  rintro rfl
  rw [zz] at ho
  cases ho
  exact absurd (show Value.type "zip" = Value.type "StopIteration" from hc) (by decide)
 cases hx : xs[k]? with
 | none =>
  refine wpAny_bind (N1.done (s := { s with heap := ha }) hh h1a hx fun hb e kb he => ?_)
  exact fin hb e (kb _ _ (Ne.symm d3) za) (fun c o c1 _ c3 _ x => kb _ _ c3 (sa.extBut _ _ c1 x)) he
 | some x =>
  have hy : ys[k]? = none := hend.resolve_left (by rw [hx]; intro z; cases z)
  refine wpAny_bind (N1.item (s := { s with heap := ha }) h1a hx fun hb h1b sb => wpAny_pure ?_)
  have Ob : IsPair hb TO a b := sb.extBut _ _ (Ne.symm e2) (sa.extBut _ _ d2 hO)
  have h2b : S2 k hb := N2.stay _ _ _ h2a fun c o hc e => sb.extBut c o (by rcases hc with rfl | rfl <;> assumption) e
  refine wpAny_bind (wpAny_seqItems Ob rfl (wpAny_bind (pair_put Ob fun hc Oc sc => ?_)))
  refine wpAny_bind (wpAny_letGo (wpAny_pure ?_))
  refine wpAny_bind (wpAny_bind (wpAny_onRaise ?_))
  show wpAny _ _ (Builtin.SmallTypes.nextOf (.ref i2) >>= _) _ _ _
  have h2c : S2 k hc := N2.stay _ _ _ h2b fun c o hc e => sc.extBut c o (by rcases hc with rfl | rfl <;> assumption) e
  have zc : IsZip hc z TI TO .ellipsis := sc.extBut _ _ (Ne.symm d2) (sb.extBut _ _ (Ne.symm d3) za)
  refine wpAny_bind (N2.done (s := { s with heap := hc }) hh h2c hy fun hd e kd he => ?_)
  exact fin hd e (kd _ _ (Ne.symm d4) zc) (fun c o c1 c2 c3 c4 x => kd _ _ c4 (sc.extBut _ _ c2 (sb.extBut _ _ c3 (sa.extBut _ _ c1 x)))) he
end
abbrev zh1 (h : Heap) (t : Addr) : Heap := h.push { cls := .type "tuple_iterator", data := .fields #[.ref t, .int 0 0] }
abbrev zh2 (h : Heap) (t l : Addr) : Heap := (zh1 h t).push { cls := .type "list_iterator", data := .fields #[.ref l, .int 0 0] }
abbrev zh3 (h : Heap) (t l : Addr) : Heap := (zh2 h t l).push { cls := .type "tuple", data := .seq #[.ref h.objs.size, .ref (zh1 h t).objs.size] }
abbrev zh4 (h : Heap) (t l : Addr) : Heap := (zh3 h t l).push { cls := .type "tuple", data := .seq #[.none, .none] }
abbrev zh5 (h : Heap) (t l : Addr) : Heap := (zh4 h t l).push { cls := .type "zip", data := .fields #[.none, .bool false, .bool false, .ref (zh2 h t l).objs.size, .ref (zh3 h t l).objs.size] }
theorem zt_new (t l : Addr) (xs ys : Array Value) : Meets (Builtin.«zip.__new__» ⟨[.type "zip", .ref t, .ref l], []⟩) (fun _ R s => s.heap.IsTuple t xs ∧ s.heap.IsList l ys ∧ R (.ok (.ret (.ref (zh4 s.heap t l).objs.size))) { s with heap := zh5 s.heap t l }) :=
 .of_wp fun prog w A R s h => by
  obtain ⟨hp, g, d, tk, os⟩ := s
  obtain ⟨ht, hl, h⟩ := h
  have sub0 := sub_zip
  have hT : Heap.IsTuple (Shared.heap ⟨hp, g, d, tk, os⟩) t xs := ht
  have hL : Heap.IsList (Shared.heap ⟨hp.push { cls := .type "tuple_iterator", data := .fields #[.ref t, .int 0 0] }, g, d, tk, os⟩) l ys := Heap.IsList.push hl _
  wp_walk using wpAny_pyIter_tuple hT, wpAny_pyIter_list hL
  exact ⟨_, rfl, h⟩
section
variable {prog : Program} {w : World} {A : Around} {E : Value → Shared → Prop} {s : Shared}
theorem zt_call {t l : Addr} {xs ys : Array Value} {Q : Value → Shared → Prop} (ht : s.heap.IsTuple t xs) (hl : s.heap.IsList l ys)
  (h : ∀ h', IsZip h' (s.heap.objs.size + 4) (s.heap.objs.size + 2) (s.heap.objs.size + 3) .none → IsPair h' (s.heap.objs.size + 2) (.ref s.heap.objs.size) (.ref (s.heap.objs.size + 1)) → IsPair h' (s.heap.objs.size + 3) .none .none →
   h'.IsTupleIter s.heap.objs.size t 0 → h'.IsListIter (s.heap.objs.size + 1) l 0 → (∀ c o, s.heap.get? c = some o → h'.get? c = some o) → Q (.ref (s.heap.objs.size + 4)) { s with heap := h' }) :
  wpAny (model prog w) A (call (.type "zip") [.ref t, .ref l]) Q E s := by
 refine callType_new F.called_zip (by decide) (F.typeCall_zip_2 _ _) (F.newCall_zip_2 _ _) (fun obj => F.args_object_init_3 obj _ _) F.entry_zip_new (zt_new t l xs ys) ⟨ht, hl, ?_⟩
 have z1 : (zh1 s.heap t).objs.size = s.heap.objs.size + 1 := Heap.size_push ..
 have z2 : (zh2 s.heap t l).objs.size = s.heap.objs.size + 2 := by rw [Heap.size_push, z1]
 have z3 : (zh3 s.heap t l).objs.size = s.heap.objs.size + 3 := by rw [Heap.size_push, z2]
 have z4 : (zh4 s.heap t l).objs.size = s.heap.objs.size + 4 := by rw [Heap.size_push, z3]
 have up : ∀ {h : Heap} {o : Obj} {c : Addr} {u : Obj}, h.get? c = some u → (h.push o).get? c = some u := fun e => Heap.get?_push_of_some _ e
 have g5 : (zh5 s.heap t l).get? (zh4 s.heap t l).objs.size = some _ := Heap.get?_push_size _ rfl
 have g4 : (zh5 s.heap t l).get? (zh3 s.heap t l).objs.size = some _ := up (Heap.get?_push_size _ rfl)
 have g3 : (zh5 s.heap t l).get? (zh2 s.heap t l).objs.size = some _ := up (up (Heap.get?_push_size _ rfl))
 have g2 : (zh5 s.heap t l).get? (zh1 s.heap t).objs.size = some _ := up (up (up (Heap.get?_push_size _ rfl)))
 have g1 : (zh5 s.heap t l).get? s.heap.objs.size = some _ := up (up (up (up (Heap.get?_push_size _ rfl))))
 show _ ∧ _
 rw [z2, z3, z4] at g5
 rw [z1, z2] at g3
 rw [z3] at g4
 rw [z1] at g2
 rw [z4]
 exact ⟨⟨_, g5, rfl⟩, h _ g5 g3 g4 ⟨_, g1, rfl, rfl⟩ ⟨_, g2, rfl, rfl⟩ fun c o e => up (up (up (up (up e))))⟩
variable {z TI TO i1 i2 l1 l2 : Addr} {xs ys : Array Value} {S1 S2 : Nat → Heap → Prop}
theorem zn_item {k : Nat} {x y a b : Value} {Q : Option Value → Shared → Prop} (D : Ap z TI TO i1 i2 l1 l2) (N1 : Nx prog w i1 l1 xs S1) (N2 : Nx prog w i2 l2 ys S2)
  (hz : IsZip s.heap z TI TO .none) (hI : IsPair s.heap TI (.ref i1) (.ref i2)) (hO : IsPair s.heap TO a b) (h1 : S1 k s.heap) (h2 : S2 k s.heap) (hx : xs[k]? = some x) (hy : ys[k]? = some y)
  (q : ∀ h', IsZip h' z TI TO (rawInt s.heap.objs.size) → IsPair h' TO x y → S1 (k + 1) h' → S2 (k + 1) h' → IsPair h' s.heap.objs.size x y → h'.objs.size = s.heap.objs.size + 1 → (∀ c o, c ≠ z → c ≠ TO → c ≠ i1 → c ≠ i2 → s.heap.get? c = some o → h'.get? c = some o) → Q (some (.ref s.heap.objs.size)) { s with heap := h' }) :
  wpAny (model prog w) A (pyNext (.ref z)) Q E s := by
 have hT : s.TypeIs (.ref z) "zip" := ⟨_, hz, rfl⟩
 unfold pyNext
 exact wpAny_bind (wpAny_attempt (wpAny_callSpecial?_slot (name := Str.ofString "__next__") hT F.slot_zip_next (wpAny_call_entry F.slot_zip_next hT F.entry_zip_next (z_item D N1 N2 hz hI hO h1 h2 hx hy fun h' a1 a2 a3 a4 a5 a6 a7 => wpAny_pure (q h' a1 a2 a3 a4 a5 a6 a7)) (F.args_zip_next_1 _))))
theorem zn_end {k : Nat} {a b : Value} {Q : Option Value → Shared → Prop} (hh : A.handled = none) (D : Ap z TI TO i1 i2 l1 l2) (N1 : Nx prog w i1 l1 xs S1) (N2 : Nx prog w i2 l2 ys S2)
  (hz : IsZip s.heap z TI TO .none) (hI : IsPair s.heap TI (.ref i1) (.ref i2)) (hO : IsPair s.heap TO a b) (h1 : S1 k s.heap) (h2 : S2 k s.heap) (hend : xs[k]? = none ∨ ys[k]? = none)
  (q : ∀ h', (∀ c o, c ≠ z → c ≠ TO → c ≠ i1 → c ≠ i2 → s.heap.get? c = some o → h'.get? c = some o) → Q none { s with heap := h' }) : wpAny (model prog w) A (pyNext (.ref z)) Q E s := by
 have hT : s.TypeIs (.ref z) "zip" := ⟨_, hz, rfl⟩
 unfold pyNext
 refine wpAny_bind (wpAny_attempt (wpAny_callSpecial?_slot (name := Str.ofString "__next__") hT F.slot_zip_next (wpAny_call_entry F.slot_zip_next hT F.entry_zip_next (z_end (A := A.in1) hh D N1 N2 hz hI hO h1 h2 hend fun h' e hk he => ?_) (F.args_zip_next_1 _))))
 obtain ⟨o, ho, hc⟩ := he
 exact wpAny_bind (wpAny_isInstance (T := "StopIteration") (b := true) ⟨o, ho, hc⟩ isSubtype_stop (wpAny_pure (q _ hk)))
end
end ZT
namespace L3
open PySem PySem.Spec PyProof.Rows L2
section
variable {X : Cx}
theorem turnedL {pins : List (Addr × Obj)} {σ : L2.St} {H : Hp} {s : Shared} {h' : Heap} {t' : Nat} {ch : List Addr} (I : Inv X pins σ H s) (k : ∀ c o, c ∉ ch → s.heap.get? c = some o → h'.get? c = some o) (f : ∀ b ∈ ch, FpOk X pins H b) : Inv X pins σ H { s with heap := h', toks := t' } := by
 have nn : ∀ c u, H c = some u → c ∉ ch := by
  intro c u e z
  rw [(f c z).1] at e
  cases e
 refine I.step (ch := ch) (g' := s.gens) (d' := s.drawn) ?_ ?_ ?_ ?_ ?_ ?_ ?_ ?_ ?_ ?_ I.bare
 ·intro c hc
  exact ⟨(f c hc).2.2.2.1, (f c hc).2.1, (f c hc).2.2.2.2.1, (f c hc).2.2.2.2.2⟩
 ·intro c o _ _ hc e _; exact k c o hc e
 ·intro c o _ _ hc e _; exact ⟨o.slots, k c o hc e⟩
 ·intro _ _ _ _ n; exact n
 ·intro c o hc e; exact ⟨o, k c o hc e⟩
 ·intro _ _ e; exact e
 ·intro _ _ _ e; exact e
 ·intro c ps e; exact ⟨#[], by rw [e]; simp⟩
 ·rintro m ⟨o, es, ep, ho, r⟩
  exact ⟨o, es, ep, k _ o (fun z => (f _ z).2.1 rfl) ho, r⟩
 ·intro c u e
  refine (I.hok c u e).stay ?_ (fun _ q => q) fun _ _ q => q
  intro d v hd q
  rcases hd with z | z
  ·subst z; exact k d v (nn d u e) q
  ·exact k d v (nn d _ z) q
def Itzt (K : PySem.W.Frag) (a b : Addr) (xs : List V) : It :=
 ⟨fun i H => ∃ ys x y, SqT K H a xs ∧ SqL K H b ys ∧ xs[i]? = some x ∧ ys[i]? = some y,
  fun i H x H' => ∃ p u v, H p = none ∧ H' = upd H p (.tup [u, v]) ∧ x = .ref p ∧ xs[i]? = some u ∧ ∀ ys, SqL K H b ys → ys[i]? = some v,
  fun i H => ∃ ys, SqT K H a xs ∧ SqL K H b ys ∧ (xs.length ≤ i ∨ ys.length ≤ i)⟩
theorem turn_zipT {P : Program} {w : World} {K : PySem.W.Frag} {elts : List Expr} {x1 : Nat} {tp : Pos} {z TI TO i1 i2 a b : Addr} {xs : List V} (D : ZT.Ap z TI TO i1 i2 a b) :
  Turn P w K (.Tuple elts x1 tp) (Itzt K a b xs) [z, TI, TO, i1, i2] z (fun i h => IsZip h z TI TO .none ∧ IsPair h TI (.ref i1) (.ref i2) ∧ (∃ u v, IsPair h TO u v) ∧ h.IsTupleIter i1 a i ∧ h.IsListIter i2 b i) where
 mem := by simp
 obj := by
  rintro i h ⟨hz, hTI, ⟨u, v, hTO⟩, ⟨o1, e1, _, d1⟩, ⟨o2, e2, _, d2⟩⟩ c hc
  simp only [List.mem_cons, List.not_mem_nil, or_false] at hc
  rcases hc with rfl | rfl | rfl | rfl | rfl
  ·exact ⟨_, hz, fun v q => by cases q⟩
  ·exact ⟨_, hTI, fun v q => by cases q⟩
  ·exact ⟨_, hTO, fun v q => by cases q⟩
  ·exact ⟨_, e1, fun v q => by rw [d1] at q; cases q⟩
  ·exact ⟨_, e2, fun v q => by rw [d2] at q; cases q⟩
 keep := by
  rintro i h h' ⟨hz, hTI, ⟨u, v, hTO⟩, ⟨o, e, r⟩, h2⟩ k
  exact ⟨k z (by simp) _ hz, k TI (by simp) _ hTI, ⟨u, v, k TO (by simp) _ hTO⟩, ⟨o, k i1 (by simp) _ e, r⟩, h2.at fun o q => k i2 (by simp) o q⟩
 item := by
  rintro X rfl rfl rfl hc i pins s σ H E I hf ⟨hz, hTI, ⟨u0, v0, hTO⟩, h1, h2⟩ ⟨ys, x, y, hq, hr, hx, hy⟩
  obtain ⟨its, rv, p, _⟩ := I.tuple hq
  obtain ⟨jts, rw2, p2, _⟩ := I.list hr
  obtain ⟨u, hu, ru⟩ := rv.get hx
  obtain ⟨v, hv, rv2⟩ := rw2.get hy
  have lt : ∀ c ∈ [z, TI, TO, i1, i2], @LT.lt Nat _ c s.heap.objs.size := by
   intro c hc
   simp only [List.mem_cons, List.not_mem_nil, or_false] at hc
   obtain ⟨o1, e1, _⟩ := id h1
   obtain ⟨o2, e2, _⟩ := id h2
   rcases hc with rfl | rfl | rfl | rfl | rfl
   ·exact Heap.lt_size hz
   ·exact Heap.lt_size hTI
   ·exact Heap.lt_size hTO
   ·exact Heap.lt_size e1
   ·exact Heap.lt_size e2
  refine ZT.zn_item D (ZT.Nx.tuple D.z3.2.2.1 its.toArray) (ZT.Nx.list D.z4.2.2 jts.toArray) hz hTI hTO ⟨h1, p⟩ ⟨h2, p2.isList⟩ (x := u) (y := v) (by simpa using hu) (by simpa using hv) fun hh ho hTO2 g1 g2 hT hsz hk => ?_
  refine ⟨_, rfl, wpAny_letOwnedTupleGo_zip ho fun h3 hz3 hs3 => ?_⟩
  replace hs3 : Heap.SameBut z hh h3 := hs3
  obtain ⟨⟨a1, a2, a3, a4, a5, a6⟩, ⟨b1, b2, b3, b4, b5⟩, ⟨c1, c2, c3, c4⟩, e1, e2, e3⟩ := D
  have nz : s.heap.objs.size ≠ z := Nat.ne_of_gt (lt z (by simp))
  have hT3 : h3.get? s.heap.objs.size = some { cls := .type "tuple", data := .seq #[u, v] } := (hs3.2 _ nz).trans hT
  have hn : H s.heap.objs.size = none := I.hok.fresh (Nat.le_refl _)
  have I1 : Inv X pins σ (upd H s.heap.objs.size (.tup [x, y])) { s with heap := s.heap.push { cls := .type "tuple", data := .seq #[u, v] }, toks := s.toks } :=
   I.laid (fun b ob q => Heap.get?_push_of_some _ q) (Nat.le_refl _) ⟨show 2 ≤ sizeLine by rw [sizeLine_eq]; omega, [u, v], .cons ru (.cons rv2 .nil), ⟨_, Heap.get?_push_size _ rfl, rfl, _, rfl⟩⟩
  have up : ∀ c ∈ [z, TI, TO, i1, i2], FpOk X pins (upd H s.heap.objs.size (.tup [x, y])) c := by
   intro c hc
   refine ⟨?_, (hf c hc).2⟩
   rw [upd_ne (Nat.ne_of_lt (lt c hc))]
   exact (hf c hc).1
  have I2 := turnedL (h' := h3) (t' := s.toks) I1 (fun c o hc e' => by
   simp only [List.mem_cons, List.not_mem_nil, or_false, not_or] at hc
   rcases push_cases e' with q | q
   ·exact (hs3.2 c hc.1).trans (hk c o hc.1 hc.2.2.1 hc.2.2.2.1 hc.2.2.2.2 q)
   ·subst q
    have z2 : (s.heap.push { cls := .type "tuple", data := .seq #[u, v] }).get? s.heap.objs.size = some o := e'
    rw [Heap.get?_push_size _ rfl] at z2
    cases z2
    exact hT3) up
  obtain ⟨q1, q2, q3⟩ := g1.1
  refine ⟨.ref s.heap.objs.size, _, I2, rfl, ⟨_, x, y, hn, rfl, rfl, hx, fun zs hs => by rw [I.list_inj hs hr]; exact hy⟩,
   ⟨hz3, (hs3.2 TI a1).trans (hk TI _ a1 b1 c1 e1 hTI), ⟨_, _, (hs3.2 TO a2).trans hTO2⟩, ⟨q1, (hs3.2 i1 a3).trans q2, q3⟩, g2.1.at fun o q => (hs3.2 i2 a4).trans q⟩, fun c hc => (up c hc).1⟩
 done := by
  rintro X rfl rfl rfl hc i pins s σ H E I hf ⟨hz, hTI, ⟨u0, v0, hTO⟩, h1, h2⟩ ⟨ys, hq, hr, hl⟩
  obtain ⟨its, rv, p, _⟩ := I.tuple hq
  obtain ⟨jts, rw2, p2, _⟩ := I.list hr
  have l1 := rv.length
  have l2 := rw2.length
  refine ZT.zn_end (I.ok.hd hc) D (ZT.Nx.tuple D.z3.2.2.1 its.toArray) (ZT.Nx.list D.z4.2.2 jts.toArray) hz hTI hTO ⟨h1, p⟩ ⟨h2, p2.isList⟩ ?_ fun h' eb => ⟨rfl, turnedL (t' := s.toks) I (ch := [z, TI, TO, i1, i2]) (fun c o hc e => ?_) hf⟩
  ·rcases hl with hl | hl
   ·exact .inl (by simp; omega)
   ·exact .inr (by simp; omega)
  ·simp only [List.mem_cons, List.not_mem_nil, or_false, not_or] at hc
   exact eb c o hc.1 hc.2.2.1 hc.2.2.2.1 hc.2.2.2.2 e
 self := by
  rintro A i s Q E ⟨hz, _⟩ h
  exact wpAny_pyIter_zip hz h
def iZipT (K : PySem.W.Frag) (ta : TA) : TI := fun σ H R => ta σ H fun vs H1 => ∃ a b xs, vs = [V.ref a, V.ref b] ∧ SqT K H1 a xs ∧ (∃ ys, SqL K H1 b ys) ∧ R (Itzt K a b xs) H1
theorem pi_zipT {elts : List Expr} {x1 : Nat} {tp : Pos} {l : Expr} {ls : List Expr} {ta : TA} {p pos : Pos} (hg : Gl X "zip") (hm : X.mg "zip" = none) (ha : PA X (l :: ls) ta) (he : starEach (l :: ls) X.env = (false, eval l X.env) :: starEach ls X.env) (hpl : (backTo pos (starEach ls X.env)).any (·.1) = false) :
  PI X (.Tuple elts x1 tp) (.Call (.Name "zip" p) (l :: ls) [] pos) (iZipT X.K ta) := by
 intro pins s σ H R I h
 refine wpAny_Call_Name_kw (ld_blt I hg hm (u := .type "zip") (by kernel_rfl) ?_)
 refine PyProof.Rows.callWith_type1 (thn (ha pos pins s σ H _ I h) fun us s1 ⟨vs, H1, I1, rv, a, b, xs, ev, hp, ⟨ys, hq⟩, q⟩ => ?_) he hpl
 subst ev
 obtain ⟨u1, u2, rfl, e1, e2⟩ := vals2 rv
 cases e1
 cases e2
 obtain ⟨us, r1, pl1, z1⟩ := I1.tuple hp
 obtain ⟨ws, r2, pl2, z2⟩ := I1.list hq
 have L2 := pl2.isList
 have lt1 : @LT.lt Nat _ a s1.heap.objs.size := by obtain ⟨o, e, _⟩ := pl1; exact Heap.lt_size e
 have lt2 : @LT.lt Nat _ b s1.heap.objs.size := by obtain ⟨o, e, _⟩ := L2; exact Heap.lt_size e
 refine ZT.zt_call pl1 L2 fun h' a1 a2 a3 a4 a5 kp => wpAny_pyIter_zip a1 ?_
 have D : ZT.Ap (s1.heap.objs.size + 4) (s1.heap.objs.size + 2) (s1.heap.objs.size + 3) s1.heap.objs.size (s1.heap.objs.size + 1) a b := by
  have n1 : ∀ x y : Nat, x < y → x ≠ y := fun _ _ h => Nat.ne_of_lt h
  have n2 : ∀ x y : Nat, y < x → x ≠ y := fun _ _ h => Nat.ne_of_gt h
  refine ⟨⟨?_, ?_, ?_, ?_, ?_, ?_⟩, ⟨?_, ?_, ?_, ?_, ?_⟩, ⟨?_, ?_, ?_, ?_⟩, ?_, ?_, ?_⟩ <;> (show (_ : Nat) ≠ _) <;> omega
 refine ⟨s1.heap.objs.size + 4, [s1.heap.objs.size + 4, s1.heap.objs.size + 2, s1.heap.objs.size + 3, s1.heap.objs.size, s1.heap.objs.size + 1], _, _, H1, rfl, I1.kept (t' := s1.toks) kp, turn_zipT D, ⟨a1, a2, ⟨_, _, a3⟩, a4, a5⟩, fun c hc => ?_, q⟩
 have hb : @LE.le Nat _ s1.heap.objs.size c := by
  simp only [List.mem_cons, List.not_mem_nil, or_false] at hc
  rcases hc with rfl | rfl | rfl | rfl | rfl
  ·exact Nat.le_add_right _ _
  ·exact Nat.le_add_right _ _
  ·exact Nat.le_add_right _ _
  ·exact Nat.le_refl _
  ·exact Nat.le_add_right _ _
 exact I1.fpOk hb (I1.hok.fresh hb)
end
section
variable {X : Cx} {pins : List (Addr × Obj)} {σ : L2.St} {H : Hp} {s : Shared}
def ViewPhi (v d : Addr) (h : Heap) : Prop := h.IsValuesView v d
def rVals : V → List V → Hp → VK → Prop := fun x xs H Q => ∃ d kvs, x = .ref d ∧ xs = [] ∧ H d = some (.dK kvs) ∧ ∀ p, H p = none → Q (.ref p) (upd H p (.ext (ViewPhi p d)))
theorem mt_values : MtR X "dict.values" rVals := by
 intro pins s σ H x xs v us Q I rx rv h
 obtain ⟨d, kvs, rfl, rfl, hd, q⟩ := h
 cases rx
 cases rv
 obtain ⟨lz, lo, vs, kv, hD⟩ := I.hok d _ hd
 refine wpAny_call_entry PySem.F.slot_dict_values hD.typeIs PySem.F.entry_dict_values ?_ (PySem.F.args_dict_values_1 _)
 unfold Builtin.«dict.values»
 refine wpAny_bind ?_
 unfold Builtin.Dict.noArgs
 refine wpAny_bind (wpAny_notOrdered_dict hD.typeIs (wpAny_pure ?_))
 refine wpAny_bind ?_
 unfold Builtin.Dict.showsAll
 rw [if_neg (by rw [lo]; exact Bool.false_ne_true)]
 refine wpAny_pure (wpAny_bind (wpAny_newObj_type (wpAny_pure ⟨_, rfl, ?_⟩)))
 have g : (s.heap.push { cls := .type "dict_values", data := .fields #[.ref d] }).get? s.heap.objs.size = some { cls := .type "dict_values", data := .fields #[.ref d] } := Heap.get?_push_size _ rfl
 refine ⟨.ref _, _, I.laid (a := s.heap.objs.size) (o := .ext (ViewPhi s.heap.objs.size d)) (t' := s.toks) (fun b u e => Heap.get?_push_of_some _ e) (Nat.le_refl _) ⟨⟨_, g, rfl, rfl⟩, ⟨_, g⟩, fun h1 h2 ⟨o, e, r⟩ k => ⟨o, k _ e, r⟩⟩, rfl, q _ (I.hok.fresh (Nat.le_refl _))⟩
def rListV : List V → Hp → VK → Prop := fun xs H Q => ∃ v d kvs, xs = [V.ref v] ∧ H v = some (.ext (ViewPhi v d)) ∧ H d = some (.dK kvs) ∧ ∀ p, H p = none → Q (.ref p) (upd H p (.lst (kvs.map (·.2))))
theorem call_listV (hc : X.calm = true) : CallR X (.type "list") rListV := by
 intro pins s σ H xs us Q I r h
 obtain ⟨v, d, kvs, rfl, hv, hd, q⟩ := h
 obtain ⟨u, rfl, ru⟩ := vals1 r
 cases ru
 obtain ⟨lz, lo, vs, kv, hD⟩ := I.hok d _ hd
 obtain ⟨ep, hat⟩ := hD.dictAt
 have hvw : s.heap.IsValuesView v d := phi_of I hv
 have kl : vs.length = kvs.length := kv.length.symm
 refine PySem.W.kdl_call (PySem.W.kdl_values (knd := mixKind X.prog X.w) (kvs := vs) (ep := ep)) (I.ok.hd hc) ⟨hvw, hat⟩ (by rw [kl]; exact lz) fun h' tk acc c k g ha => ?_
 have e : acc = acc.toList.toArray := by simp
 rw [e] at g
 refine ⟨.ref _, _, I.laid (a := s.heap.objs.size) (o := .lst (kvs.map (·.2))) (t' := tk) k (Nat.le_refl _) ⟨by rw [List.length_map]; exact lz, acc.toList, c, ?_, g⟩, rfl, q _ (I.hok.fresh (Nat.le_refl _))⟩
 have key : ∀ {a : List (Key × V)} {b : List (Key × Value)} {l : List Value}, KV a b → l.length = b.length → (∀ (i : Nat) x, l[i]? = some x → ∃ k, b[i]? = some (k, x)) → Vals (a.map (·.2)) l := by
  intro a b l h
  induction h generalizing l with
  | nil =>
   intro hl _
   cases List.length_eq_zero_iff.mp hl
   exact .nil
  | cons e r ih =>
   intro hl hi
   cases l with
   | nil => cases hl
   | cons x l =>
    obtain ⟨k, e0⟩ := hi 0 x rfl
    cases e0
    exact .cons e.2 (ih (by simpa using hl) fun i x hx => by simpa using hi (i + 1) x (by simpa using hx))
 exact key kv (by rw [Array.length_toList]; exact ha.1) fun i x hx => ha.2 i x (by rw [← Array.getElem?_toList]; exact hx)
theorem cut_whole {prog : Program} {w : World} {A : Around} {E : Value → Shared → Prop} {s : Shared} {t sl : Addr} {its : Array Value} {vl vu : Value} {lo hi : Option Int} {Q : Value → Shared → Prop} (ht : IsTup s.heap t its) (hs : s.heap.IsSliceOf sl vl vu .none) (pl : IsPart vl lo) (pu : IsPart vu hi)
  (hw : HT.sIx its.size 0 lo = 0 ∧ HT.sIx its.size its.size hi = its.size) (h : Q (.ref t) s) : wpAny (model prog w) A (getItem (.ref t) (.ref sl)) Q E s := by
 obtain ⟨os, hos, hcs, hds⟩ := id hs
 have hTs : s.TypeIs (.ref sl) "slice" := ⟨os, hos, hcs⟩
 unfold getItem
 try with_reducible refine wpAny_holding ?_
 first | refine wpAny_bind (wpAny_pure ?_) | skip
 refine wpAny_bind (wpAny_sequenceKey ht.typeIs (by decide) ?_)
 refine wpAny_bind (wpAny_callSpecial?_slot (name := Str.ofString "__getitem__") ht.typeIs PyProof.Rows.slot_tuple_getitem (wpAny_call_entry PyProof.Rows.slot_tuple_getitem ht.typeIs entry_tuple_getitem ?_ (args_tuple_getitem _ _)))
 show wpAny _ _ (Builtin.Tuple.tupleItemsOf (.ref t) >>= _) _ _ s
 refine wpAny_bind (tupleItemsOf_ ht (wpAny_bind (wpAny_typeOf hTs ?_)))
 rw [if_pos (by decide)]
 refine wpAny_bind (HT.sliceApplied_gen hs pl pu ?_)
 show wpAny _ _ (if (((HT.sIx its.size 0 lo : Nat) : Int) == 0 && (1 : Int) == 1 && (HT.sIx its.size its.size hi - HT.sIx its.size 0 lo) == its.size) = true then _ else _) _ _ s
 rw [if_pos (by rw [hw.1, hw.2]; simp)]
 refine wpAny_bind ?_
 unfold Builtin.Tuple.tupleIsExact
 refine wpAny_bind (wpAny_typeOf ht.typeIs (wpAny_pure ?_))
 rw [if_pos (by decide)]
 exact wpAny_bind (wpAny_rule (wpAny_pure ⟨_, rfl, wpAny_pure h⟩))
theorem sl_tupF : SlR X (fun x lo hi H Q => ∃ a xs, x = .ref a ∧ SqT X.K H a xs ∧ (HT.sIx xs.length 0 lo = 0 ∧ HT.sIx xs.length xs.length hi = xs.length) ∧ Q x H) := by
 intro pins s σ H x v vl vu lo hi sl Q I rx hs pl pu h
 obtain ⟨a, xs, rfl, hx, hw, q⟩ := h
 cases rx
 obtain ⟨its, r, ht, hz⟩ := I.tuple hx
 have hlen : its.toArray.size = xs.length := by rw [List.size_toArray]; exact r.length.symm
 exact ⟨"tuple", _, PyProof.Rows.slot_tuple_getitem.lookup, ht.typeIs, cut_whole ht hs pl pu (by rw [hlen]; exact hw) ⟨.ref a, H, I, rfl, q⟩⟩
end
end L3
namespace U
open PySem PySem.Spec PyProof.Rows L2 L3
inductive D where
 | non | bl (b : Bool) | int (i : Int) | str (x : Str) | tup (ds : List D) | ref (n : Nat) | ty (n : String) | gtup (ds : List D) | cls (a : Addr) | exn (e C dx : Addr) (row : D)
inductive Cell where
 | lst (ds : List D) | frz (ds : List D) | dct (kvs : List (Key × D)) | fdc (kvs : List (Key × D))
abbrev Store := List Cell
abbrev DEnv := List (Option D)
abbrev DK := D → Store → Prop
abbrev DX := Addr → D → Store → Prop
abbrev DE := DEnv → Store → DK → Prop
abbrev DA := DEnv → Store → (List D → Store → Prop) → Prop
abbrev DT := DEnv → Store → (Bool → Store → Prop) → Prop
abbrev DSp := List D → Store → DK → DX → Prop
structure DEnds where
 nx : DEnv → Store → Prop
 rt : DK
 bk : DEnv → Store → Prop := fun _ _ => False
 ct : DEnv → Store → Prop := fun _ _ => False
abbrev DS := DEnds → DEnv → Store → Prop
structure Vw where
 K : PySem.W.Frag
 H : Hp
 μ : Nat → Addr
 n : Nat
mutual
def RD (w : Vw) : D → V → Prop
 | .non, v => v = .non
 | .bl b, v => v = .bl b
 | .int i, v => v = .int i
 | .str x, v => v = .str x
 | .tup ds, v => ∃ a vs, v = .ref a ∧ w.H a = some (.tup vs) ∧ RDs w ds vs
 | .ref i, v => i < w.n ∧ v = .ref (w.μ i)
 | .ty n, v => v = .ty n
 | .gtup ds, v => ∃ a vs, v = .ref a ∧ SqT w.K w.H a vs ∧ RDs w ds vs
 | .cls a, v => v = .ref a
 | .exn e C dx row, v => v = .ref e ∧ w.H e = some (XO e (.ref C) (some dx)) ∧ ∃ r, w.H dx = some (.xd [("row", r)]) ∧ RD w row r
def RDs (w : Vw) : List D → List V → Prop
 | [], vs => vs = []
 | d :: ds, vs => ∃ v r, vs = v :: r ∧ RD w d v ∧ RDs w ds r
end
def RKV (w : Vw) : List (Key × D) → List (Key × V) → Prop
 | [], vs => vs = []
 |(k, d) :: ds, vs => ∃ v r, vs = (k, v) :: r ∧ RD w d v ∧ RKV w ds r
def SqF (K : PySem.W.Frag) (H : Hp) (a : Addr) (vs : List V) : Prop := (∃ o, H a = some (.frz o (.lst vs))) ∨ SqL K (fun _ => none) a vs
def Cell.mut : Cell → Bool
 | .frz _ => false
 | _ => true
def RCell (w : Vw) : Cell → Addr → Prop
 | .lst ds, a => ∃ vs, w.H a = some (.lst vs) ∧ RDs w ds vs
 | .frz ds, a => ∃ vs, SqF w.K w.H a vs ∧ RDs w ds vs
 | .dct kvs, a => ∃ vs, w.H a = some (.dK vs) ∧ RKV w kvs vs
 | .fdc kvs, a => ∃ o vs, w.H a = some (.frz o (.dK vs)) ∧ RKV w kvs vs
structure RS (w : Vw) (M : Store) : Prop where
 len : w.n = M.length
 inj : ∀ (i j : Nat) (ci cj : Cell), M[i]? = some ci → M[j]? = some cj → ci.mut = true → cj.mut = true → w.μ i = w.μ j → i = j
 cell : ∀ i c, M[i]? = some c → RCell w c (w.μ i)
def Imm : HO → Bool
 | .tup _ | .xd _ | .ext _ | .frz _ _ => true
 | _ => false
structure Ext (w w' : Vw) : Prop where
 K : w'.K = w.K
 n : w.n ≤ w'.n
 μ : ∀ i, i < w.n → w'.μ i = w.μ i
 imm : ∀ a o, w.H a = some o → Imm o = true → w'.H a = some o
theorem Ext.refl (w : Vw) : Ext w w := ⟨rfl, Nat.le_refl _, fun _ _ => rfl, fun _ _ h _ => h⟩
theorem Ext.trans {a b c : Vw} (x : Ext a b) (y : Ext b c) : Ext a c :=
 ⟨y.K.trans x.K, Nat.le_trans x.n y.n, fun i h => (y.μ i (Nat.lt_of_lt_of_le h x.n)).trans (x.μ i h), fun p o h q => y.imm p o (x.imm p o h q) q⟩
theorem Ext.sqT {w w' : Vw} (x : Ext w w') {a : Addr} {vs : List V} (h : SqT w.K w.H a vs) : SqT w'.K w'.H a vs := by
 rw [x.K]
 rcases h with (h | ⟨o, h⟩) | h
 ·exact .inl (.inl (x.imm _ _ h rfl))
 ·exact .inl (.inr ⟨o, x.imm _ _ h rfl⟩)
 ·exact .inr h
mutual
theorem RD.ext {w w' : Vw} (x : Ext w w') : ∀ {d : D} {v : V}, RD w d v → RD w' d v
 | .non, v, h => by unfold RD at *; exact h
 | .bl b, v, h => by unfold RD at *; exact h
 | .int i, v, h => by unfold RD at *; exact h
 | .str _, v, h => by unfold RD at *; exact h
 | .tup ds, v, h => by
  unfold RD at *
  obtain ⟨a, vs, e, q, r⟩ := h
  exact ⟨a, vs, e, x.imm _ _ q rfl, RDs.ext x r⟩
 | .ref i, v, h => by
  unfold RD at *
  exact ⟨Nat.lt_of_lt_of_le h.1 x.n, by rw [x.μ i h.1]; exact h.2⟩
 | .ty n, v, h => by unfold RD at *; exact h
 | .gtup ds, v, h => by
  unfold RD at *
  obtain ⟨a, vs, e, q, r⟩ := h
  exact ⟨a, vs, e, x.sqT q, RDs.ext x r⟩
 | .cls a, v, h => by unfold RD at *; exact h
 | .exn e C dx row, v, h => by
  unfold RD at *
  obtain ⟨e1, q, r, q2, q3⟩ := h
  exact ⟨e1, x.imm _ _ q rfl, r, x.imm _ _ q2 rfl, RD.ext x q3⟩
theorem RDs.ext {w w' : Vw} (x : Ext w w') : ∀ {ds : List D} {vs : List V}, RDs w ds vs → RDs w' ds vs
 | [], vs, h => by unfold RDs at *; exact h
 | d :: ds, vs, h => by
  unfold RDs at *
  obtain ⟨v, r, e, h1, h2⟩ := h
  exact ⟨v, r, e, RD.ext x h1, RDs.ext x h2⟩
end
theorem RKV.ext {w w' : Vw} (x : Ext w w') : ∀ {ds : List (Key × D)} {vs : List (Key × V)}, RKV w ds vs → RKV w' ds vs
 | [], vs, h => by unfold RKV at *; exact h
 |(k, d) :: ds, vs, h => by
  unfold RKV at *
  obtain ⟨v, r, e, h1, h2⟩ := h
  exact ⟨v, r, e, RD.ext x h1, RKV.ext x h2⟩
structure Ext0 (w w' : Vw) : Prop where
 K : w'.K = w.K
 n : w.n ≤ w'.n
 μ : ∀ i, i < w.n → w'.μ i = w.μ i
 imm : ∀ a o, w.H a = some o → Imm o = true → (∀ ob kvs, o ≠ .frz ob (.dK kvs)) → w'.H a = some o
mutual
theorem RD.ext0 {w w' : Vw} (x : Ext0 w w') : ∀ {d : D} {v : V}, RD w d v → RD w' d v
 | .non, v, h => by unfold RD at *; exact h
 | .bl b, v, h => by unfold RD at *; exact h
 | .int i, v, h => by unfold RD at *; exact h
 | .str _, v, h => by unfold RD at *; exact h
 | .tup ds, v, h => by
  unfold RD at *
  obtain ⟨a, vs, e, q, r⟩ := h
  exact ⟨a, vs, e, x.imm _ _ q rfl (fun _ _ z => by cases z), RDs.ext0 x r⟩
 | .ref i, v, h => by
  unfold RD at *
  exact ⟨Nat.lt_of_lt_of_le h.1 x.n, by rw [x.μ i h.1]; exact h.2⟩
 | .ty n, v, h => by unfold RD at *; exact h
 | .gtup ds, v, h => by
  unfold RD at *
  obtain ⟨a, vs, e, q, r⟩ := h
  refine ⟨a, vs, e, ?_, RDs.ext0 x r⟩
  rw [x.K]
  rcases q with (h | ⟨o, h⟩) | h
  ·exact .inl (.inl (x.imm _ _ h rfl (fun _ _ z => by cases z)))
  ·exact .inl (.inr ⟨o, x.imm _ _ h rfl (fun _ _ z => by cases z)⟩)
  ·exact .inr h
 | .cls a, v, h => by unfold RD at *; exact h
 | .exn e C dx row, v, h => by
  unfold RD at *
  obtain ⟨e1, q, r, q2, q3⟩ := h
  exact ⟨e1, x.imm _ _ q rfl (fun _ _ z => by cases z), r, x.imm _ _ q2 rfl (fun _ _ z => by cases z), RD.ext0 x q3⟩
theorem RDs.ext0 {w w' : Vw} (x : Ext0 w w') : ∀ {ds : List D} {vs : List V}, RDs w ds vs → RDs w' ds vs
 | [], vs, h => by unfold RDs at *; exact h
 | d :: ds, vs, h => by
  unfold RDs at *
  obtain ⟨v, r, e, h1, h2⟩ := h
  exact ⟨v, r, e, RD.ext0 x h1, RDs.ext0 x h2⟩
end
theorem RKV.ext0 {w w' : Vw} (x : Ext0 w w') : ∀ {ds : List (Key × D)} {vs : List (Key × V)}, RKV w ds vs → RKV w' ds vs
 | [], vs, h => by unfold RKV at *; exact h
 |(k, d) :: ds, vs, h => by
  unfold RKV at *
  obtain ⟨v, r, e, h1, h2⟩ := h
  exact ⟨v, r, e, RD.ext0 x h1, RKV.ext0 x h2⟩
theorem RDs.nil (w : Vw) : RDs w [] [] := by unfold RDs; rfl
theorem RDs.cons {w : Vw} {d : D} {v : V} {ds : List D} {vs : List V} (h : RD w d v) (r : RDs w ds vs) : RDs w (d :: ds) (v :: vs) := by unfold RDs; exact ⟨v, vs, rfl, h, r⟩
theorem RDs.length {w : Vw} : ∀ {ds : List D} {vs : List V}, RDs w ds vs → vs.length = ds.length
 | [], vs, h => by unfold RDs at h; subst h; rfl
 | d :: ds, vs, h => by
  unfold RDs at h
  obtain ⟨v, r, rfl, _, h2⟩ := h
  simp [h2.length]
theorem RDs.get {w : Vw} : ∀ {ds : List D} {vs : List V} {i : Nat} {d : D}, RDs w ds vs → ds[i]? = some d → ∃ v, vs[i]? = some v ∧ RD w d v
 | [], vs, i, d, h, e => by simp at e
 | d :: ds, vs, i, d', h, e => by
  unfold RDs at h
  obtain ⟨v, r, rfl, h1, h2⟩ := h
  cases i with
  | zero => simp at e; subst e; exact ⟨v, rfl, h1⟩
  | succ i => simpa using RDs.get h2 (by simpa using e)
theorem RDs.append {w : Vw} : ∀ {ds es : List D} {vs us : List V}, RDs w ds vs → RDs w es us → RDs w (ds ++ es) (vs ++ us)
 | [], es, vs, us, h, g => by unfold RDs at h; subst h; exact g
 | d :: ds, es, vs, us, h, g => by
  unfold RDs at h
  obtain ⟨v, r, rfl, h1, h2⟩ := h
  exact RDs.cons h1 (RDs.append h2 g)
theorem RDs.take {w : Vw} : ∀ {ds : List D} {vs : List V} (n : Nat), RDs w ds vs → RDs w (ds.take n) (vs.take n)
 | _, _, 0, _ => by simp [RDs.nil]
 | [], vs, n + 1, h => by unfold RDs at h; subst h; simp [RDs.nil]
 | d :: ds, vs, n + 1, h => by
  unfold RDs at h
  obtain ⟨v, r, rfl, h1, h2⟩ := h
  exact RDs.cons h1 (RDs.take n h2)
theorem RDs.drop {w : Vw} : ∀ {ds : List D} {vs : List V} (n : Nat), RDs w ds vs → RDs w (ds.drop n) (vs.drop n)
 | _, _, 0, h => by simpa using h
 | [], vs, n + 1, h => by unfold RDs at h; subst h; simp [RDs.nil]
 | d :: ds, vs, n + 1, h => by
  unfold RDs at h
  obtain ⟨v, r, rfl, h1, h2⟩ := h
  simpa using RDs.drop n h2
theorem RDs.set {w : Vw} {d : D} {v : V} (q : RD w d v) : ∀ {ds : List D} {vs : List V} (n : Nat), RDs w ds vs → RDs w (ds.set n d) (vs.set n v)
 | [], vs, n, h => by unfold RDs at h; subst h; simp [RDs.nil]
 | d :: ds, vs, 0, h => by
  unfold RDs at h
  obtain ⟨v, r, rfl, h1, h2⟩ := h
  exact RDs.cons q h2
 | d :: ds, vs, n + 1, h => by
  unfold RDs at h
  obtain ⟨v, r, rfl, h1, h2⟩ := h
  exact RDs.cons h1 (RDs.set q n h2)
theorem RDs.reverse {w : Vw} : ∀ {ds : List D} {vs : List V}, RDs w ds vs → RDs w ds.reverse vs.reverse
 | [], vs, h => by unfold RDs at h; subst h; simp [RDs.nil]
 | d :: ds, vs, h => by
  unfold RDs at h
  obtain ⟨v, r, rfl, h1, h2⟩ := h
  simp only [List.reverse_cons]
  exact (RDs.reverse h2).append (RDs.cons h1 (RDs.nil w))
def Vw.push (w : Vw) (a : Addr) (o : HO) : Vw := ⟨w.K, upd w.H a o, fun i => if i = w.n then a else w.μ i, w.n + 1⟩
def Vw.alloc (w : Vw) (a : Addr) (o : HO) : Vw := { w with H := upd w.H a o }
theorem ext_alloc {w : Vw} {a : Addr} {o : HO} (h : w.H a = none) : Ext w (w.alloc a o) :=
 ⟨rfl, Nat.le_refl _, fun _ _ => rfl, fun b u q _ => by
  show upd w.H a o b = some u
  rw [upd_ne (by rintro rfl; rw [h] at q; cases q)]; exact q⟩
theorem ext_push {w : Vw} {a : Addr} {o : HO} (h : w.H a = none) : Ext w (w.push a o) :=
 ⟨rfl, Nat.le_succ _, fun i hi => by show (if i = w.n then a else w.μ i) = _; rw [if_neg (by omega)], fun b u q _ => by
  show upd w.H a o b = some u
  rw [upd_ne (by rintro rfl; rw [h] at q; cases q)]; exact q⟩
theorem SqF.stay {w w' : Vw} {a : Addr} {vs : List V} (x : Ext w w') (h : SqF w.K w.H a vs) : SqF w'.K w'.H a vs := by
 rcases h with ⟨o, h⟩ | h
 ·exact .inl ⟨o, x.imm _ _ h rfl⟩
 ·rw [x.K]; exact .inr h
theorem SqF.sq {K : PySem.W.Frag} {H : Hp} {a : Addr} {vs : List V} (h : SqF K H a vs) : SqL K H a vs := by
 rcases h with ⟨o, h⟩ | (h | ⟨o, h⟩) | h
 ·exact .inl (.inr ⟨o, h⟩)
 ·cases h
 ·cases h
 ·exact .inr h
theorem RCell.some {w : Vw} {c : Cell} {a : Addr} (hm : c.mut = true) (h : RCell w c a) : ∃ o, w.H a = some o := by
 cases c with
 | lst ds => obtain ⟨vs, q, _⟩ := h; exact ⟨_, q⟩
 | frz ds => cases hm
 | dct ds => obtain ⟨vs, q, _⟩ := h; exact ⟨_, q⟩
 | fdc ds => obtain ⟨o, vs, q, _⟩ := h; exact ⟨_, q⟩
theorem RCell.stay {w w' : Vw} {c : Cell} {a : Addr} (x : Ext w w') (h : RCell w c a) (k : c.mut = true → w'.H a = w.H a) : RCell w' c a := by
 cases c with
 | lst ds => obtain ⟨vs, q, r⟩ := h; exact ⟨vs, (k rfl).trans q, r.ext x⟩
 | frz ds => obtain ⟨vs, q, r⟩ := h; exact ⟨vs, q.stay x, r.ext x⟩
 | dct ds => obtain ⟨vs, q, r⟩ := h; exact ⟨vs, (k rfl).trans q, r.ext x⟩
 | fdc ds => obtain ⟨o, vs, q, r⟩ := h; exact ⟨o, vs, (k rfl).trans q, r.ext x⟩
theorem RS.alloc {w : Vw} {M : Store} {a : Addr} {o : HO} (R : RS w M) (h : w.H a = none) : RS (w.alloc a o) M :=
 ⟨R.len, R.inj, fun i c e => by
  have q := R.cell i c e
  refine q.stay (ext_alloc h) fun hm => ?_
  obtain ⟨u, hu⟩ := q.some hm
  exact upd_ne (fun z => by have z : w.μ i = a := z; rw [z, h] at hu; cases hu)⟩
theorem RS.push {w : Vw} {M : Store} {a : Addr} {o : HO} {c : Cell} (R : RS w M) (h : w.H a = none) (new : RCell (w.push a o) c a) : RS (w.push a o) (M ++ [c]) := by
 have old : ∀ (i : Nat) (ci : Cell), (M ++ [c])[i]? = some ci → (i = w.n ∧ ci = c) ∨ (i < w.n ∧ M[i]? = some ci) := fun i ci e => by
  by_cases hi : i < M.length
  ·rw [List.getElem?_append_left hi] at e
   exact .inr ⟨by rw [R.len]; exact hi, e⟩
  ·rw [List.getElem?_append_right (by omega)] at e
   have hz : i - M.length = 0 := by
    have := (List.getElem?_eq_some_iff.mp e).1
    simp at this
    omega
   rw [hz] at e
   simp at e
   exact .inl ⟨by rw [R.len]; omega, e.symm⟩
 have no : ∀ (i : Nat) (ci : Cell), M[i]? = some ci → ci.mut = true → w.μ i ≠ a := fun i ci e hm z => by
  obtain ⟨u, hu⟩ := (R.cell i ci e).some hm
  rw [z, h] at hu; cases hu
 refine ⟨by show w.n + 1 = _; rw [R.len]; simp, fun i j ci cj ei ej mi mj e => ?_, fun i c' e => ?_⟩
 ·change (if i = w.n then a else w.μ i) = (if j = w.n then a else w.μ j) at e
  rcases old i ci ei with ⟨h1, _⟩ | ⟨h1, h1'⟩
  ·rcases old j cj ej with ⟨h2, _⟩ | ⟨h2, h2'⟩
   ·omega
   ·rw [if_pos h1, if_neg (by omega)] at e
    exact absurd e.symm (no j cj h2' mj)
  ·rcases old j cj ej with ⟨h2, _⟩ | ⟨h2, h2'⟩
   ·rw [if_neg (by omega), if_pos h2] at e
    exact absurd e (no i ci h1' mi)
   ·rw [if_neg (by omega), if_neg (by omega)] at e
    exact R.inj i j ci cj h1' h2' mi mj e
 ·show RCell _ c' (if i = w.n then a else w.μ i)
  rcases old i c' e with ⟨h1, rfl⟩ | ⟨h1, h1'⟩
  ·rw [if_pos h1]; exact new
  ·rw [if_neg (by omega)]
   have q := R.cell i c' h1'
   exact q.stay (ext_push h) fun hm => upd_ne (no i c' h1' hm)
theorem ext_write {w : Vw} {a : Addr} {u o : HO} (h : w.H a = some u) (hu : Imm u = false) : Ext w (w.alloc a o) :=
 ⟨rfl, Nat.le_refl _, fun _ _ => rfl, fun b v q z => by
  show upd w.H a o b = some v
  rw [upd_ne (by rintro rfl; rw [h] at q; cases q; rw [hu] at z; cases z)]; exact q⟩
theorem RS.write {w : Vw} {M : Store} {i : Nat} {u o : HO} {c0 c : Cell} (R : RS w M) (h0 : M[i]? = some c0) (hm : c0.mut = true) (hc : c.mut = true) (h : w.H (w.μ i) = some u) (hu : Imm u = false) (new : RCell (w.alloc (w.μ i) o) c (w.μ i)) : RS (w.alloc (w.μ i) o) (M.set i c) := by
 have hi : i < M.length := (List.getElem?_eq_some_iff.mp h0).1
 have old : ∀ (j : Nat) (cj : Cell), (M.set i c)[j]? = some cj → cj.mut = true → ∃ cj', M[j]? = some cj' ∧ cj'.mut = true := fun j cj e mj => by
  by_cases h1 : j = i
  ·subst h1; exact ⟨c0, h0, hm⟩
  ·rw [List.getElem?_set_ne (Ne.symm h1)] at e
   exact ⟨cj, e, mj⟩
 refine ⟨by show w.n = _; rw [R.len]; simp, fun a b ca cb ea eb ma mb e => ?_, fun j c' e => ?_⟩
 ·obtain ⟨ca', ea', ma'⟩ := old a ca ea ma
  obtain ⟨cb', eb', mb'⟩ := old b cb eb mb
  exact R.inj a b ca' cb' ea' eb' ma' mb' e
 ·by_cases h1 : j = i
  ·subst h1
   rw [List.getElem?_set_self hi] at e
   cases e
   exact new
  ·rw [List.getElem?_set_ne (Ne.symm h1)] at e
   have q := R.cell j c' e
   exact q.stay (ext_write h hu) fun mj => upd_ne (fun z => h1 (R.inj j i c' c0 e h0 mj hm z))
theorem ext0_thaw {w : Vw} {a : Addr} {o : Obj} {vs : List (Key × V)} {u : HO} (h : w.H a = some (.frz o (.dK vs))) : Ext0 w (w.alloc a u) :=
 ⟨rfl, Nat.le_refl _, fun _ _ => rfl, fun b v q _ n => by
  show upd w.H a u b = some v
  rw [upd_ne (by rintro rfl; rw [h] at q; cases q; exact n _ _ rfl)]; exact q⟩
theorem RS.thaw {w : Vw} {M : Store} {i : Nat} {o : Obj} {vs : List (Key × V)} {kvs : List (Key × D)} (R : RS w M) (h0 : M[i]? = some (.fdc kvs)) (h : w.H (w.μ i) = some (.frz o (.dK vs))) (r : RKV w kvs vs) : RS (w.alloc (w.μ i) (.dK vs)) (M.set i (.dct kvs)) := by
 have hi : i < M.length := (List.getElem?_eq_some_iff.mp h0).1
 have x := ext0_thaw (u := .dK vs) h
 have old : ∀ (j : Nat) (cj : Cell), (M.set i (.dct kvs))[j]? = some cj → cj.mut = true → ∃ cj', M[j]? = some cj' ∧ cj'.mut = true := fun j cj e mj => by
  by_cases h1 : j = i
  ·subst h1; exact ⟨_, h0, rfl⟩
  ·rw [List.getElem?_set_ne (Ne.symm h1)] at e
   exact ⟨cj, e, mj⟩
 refine ⟨by show w.n = _; rw [R.len]; simp, fun a b ca cb ea eb ma mb e => ?_, fun j c' e => ?_⟩
 ·obtain ⟨ca', ea', ma'⟩ := old a ca ea ma
  obtain ⟨cb', eb', mb'⟩ := old b cb eb mb
  exact R.inj a b ca' cb' ea' eb' ma' mb' e
 ·by_cases h1 : j = i
  ·subst h1
   rw [List.getElem?_set_self hi] at e
   cases e
   exact ⟨vs, upd_same, r.ext0 x⟩
  ·rw [List.getElem?_set_ne (Ne.symm h1)] at e
   have q := R.cell j c' e
   have ne : c'.mut = true → w.μ j ≠ w.μ i := fun mj z => h1 (R.inj j i c' _ e h0 mj rfl z)
   cases c' with
   | lst ds => obtain ⟨us, q, r⟩ := q; exact ⟨us, (upd_ne (ne rfl)).trans q, r.ext0 x⟩
   | dct ds => obtain ⟨us, q, r⟩ := q; exact ⟨us, (upd_ne (ne rfl)).trans q, r.ext0 x⟩
   | fdc ds => obtain ⟨o, us, q, r⟩ := q; exact ⟨o, us, (upd_ne (ne rfl)).trans q, r.ext0 x⟩
   | frz ds =>
    obtain ⟨us, q, r⟩ := q
    refine ⟨us, ?_, r.ext0 x⟩
    rcases q with ⟨o, q⟩ | q
    ·exact .inl ⟨o, x.imm _ _ q rfl (fun _ _ z => by cases z)⟩
    ·exact .inr q
theorem ext_thaw {w1 w2 : Vw} {a : Addr} {u f o : HO} (h : w1.H a = some u) (hu : Imm u = false) (x : Ext (w1.alloc a f) w2) : Ext w1 (w2.alloc a o) :=
 ⟨x.K, x.n, x.μ, fun b v q z => by
  have hb : b ≠ a := by rintro rfl; rw [h] at q; cases q; rw [hu] at z; cases z
  show upd w2.H a o b = some v
  rw [upd_ne hb]
  exact x.imm b v ((upd_ne hb).trans q) z⟩
inductive Op where
 | add | sub | mul | fdiv | mod | pow
 deriving DecidableEq
inductive Cm where
 | lt | gt | ge | eq | ne | is | isin | notin
 deriving DecidableEq
inductive Bf where
 | len | isinst | min2 | max2 | min1 | list1 | tuple1 | dict1
 deriving DecidableEq
inductive Mt where
 | append | get2 | pop0 | reverse | index1
 deriving DecidableEq
inductive Ty where
 | int | str | bool | list | tuple | dict | valueError
 deriving DecidableEq
def tyName : Ty → String
 | .int => "int" | .str => "str" | .bool => "bool" | .list => "list" | .tuple => "tuple" | .dict => "dict" | .valueError => "ValueError"
mutual
inductive E where
 | var (i : Nat) | int (i : Int) | bl (b : Bool) | non | str (x : Str) | ty (x : Ty) | glb (k : Nat)
 | bin (op : Op) (a b : E) | neg (a : E) | not (a : E) | cmp (op : Cm) (a b : E) | bop (isAnd : Bool) (es : Es)
 | lst (es : Es) | tup (es : Es) | dict0 | dct (a b : E) | ix (a b : E) | sl (a : E) (lo hi : Eo)
 | call (f : Nat) (es : Es) | bf (b : Bf) (es : Es) | mt (m : Mt) (o : E) (es : Es)
 | comp (N' : List Str) (js : List (Option Nat)) (tg : List Nat) (it : It) (cd : Eo) (e : E)
 | rev (a : E) | setf (b : Bool) (a : E) | vals (a : E) | slW (a : E) (lo hi : Eo)
inductive Es where
 | nil | cons (e : E) (r : Es)
inductive Eo where
 | no | yes (e : E)
inductive It where
 | seq (e : E) | rng1 (a : E) | rng2 (a b : E) | enm (e : E) | zip (es : Es)
end
mutual
inductive S where
 | never | ret (e : E) | expr (e : E)
 | set (tg : List Nat) (e : E)
 | put (o i v : E)
 | ite (c : E) (a b : Ss) | for_ (tg : List Nat) (it : It) (b : Ss) | forK (tg : List Nat) (e : E) (b : Ss) | while_ (c : E) (b : Ss)
inductive Ss where
 | nil | cons (s : S) (r : Ss)
end
def readL (M : Store) (n : Nat) : Option (List D) := match M[n]? with
 | some (.lst xs) => some xs
 | some (.frz xs) => some xs
 | _ => none
def readW (M : Store) (n : Nat) : Option (List D) := match M[n]? with
 | some (.lst xs) => some xs
 | _ => none
def readD (M : Store) (n : Nat) : Option (List (Key × D)) := match M[n]? with
 | some (.dct xs) => some xs
 | _ => none
def readF (M : Store) (n : Nat) : Option (List (Key × D)) := match M[n]? with
 | some (.dct xs) => some xs
 | some (.fdc xs) => some xs
 | _ => none
def valD (kvs : List (Key × D)) (k : Key) : Option D := (kvs.find? fun kv => decide (kv.1 = k)).map (·.2)
def putD (kvs : List (Key × D)) (k : Key) (v : D) : List (Key × D) :=
 if (kvs.any fun kv => decide (kv.1 = k)) = true then kvs.map (fun kv => if kv.1 = k then (kv.1, v) else kv) else kvs ++ [(k, v)]
def keyD : D → Option Key
 | .int i => some (.inl i)
 | .str x => some (.inr x)
 | _ => none
def kD : Key → D
 | .inl i => .int i
 | .inr x => .str x
def pairD (ps : List (Key × D)) : List D := ps.map fun p => .tup [kD p.1, p.2]
def foldD (ps : List (Key × D)) : List (Key × D) := ps.foldl (fun m p => putD m p.1 p.2) []
def qdiv (i j : Int) : Int := if 0 < j then i / j else i.fdiv j
def qmod (i j : Int) : Int := if 0 < j then i % j else i.fmod j
theorem qdiv_eq (i j : Int) : i.fdiv j = qdiv i j := by
 unfold qdiv
 split
 ·exact Int.fdiv_eq_ediv_of_nonneg _ (by omega)
 ·rfl
theorem qmod_eq (i j : Int) : i.fmod j = qmod i j := by
 unfold qmod
 split
 ·exact Int.fmod_eq_emod_of_nonneg _ (by omega)
 ·rfl
theorem qmod_pos {i j : Int} (h : 0 < j) : qmod i j = i % j := if_pos h
def onInt (x : D) (F : Int → Prop) : Prop := match x with
 | .int i => F i
 | _ => False
def onRef (x : D) (F : Nat → Prop) : Prop := match x with
 | .ref n => F n
 | _ => False
def onTup (x : D) (F : List D → Prop) : Prop := match x with
 | .tup l => F l
 | _ => False
def ints2 (x y : D) (F : Int → Int → Prop) : Prop := onInt x fun i => onInt y fun j => F i j
def at0 (l : List D) (P : Prop) : Prop := match l with
 | [] => P
 | _ :: _ => False
def at1 (l : List D) (F : D → Prop) : Prop := match l with
 | [] => False
 | a :: r => at0 r (F a)
def at2 (l : List D) (F : D → D → Prop) : Prop := match l with
 | [] => False
 | a :: r => at1 r (F a)
theorem onInt_inv {x : D} {F : Int → Prop} (h : onInt x F) : ∃ i, x = .int i ∧ F i := by
 cases x with
 | int i => exact ⟨i, rfl, h⟩
 | _ => exact False.elim h
theorem onRef_inv {x : D} {F : Nat → Prop} (h : onRef x F) : ∃ n, x = .ref n ∧ F n := by
 cases x with
 | ref n => exact ⟨n, rfl, h⟩
 | _ => exact False.elim h
theorem onTup_inv {x : D} {F : List D → Prop} (h : onTup x F) : ∃ l, x = .tup l ∧ F l := by
 cases x with
 | tup l => exact ⟨l, rfl, h⟩
 | _ => exact False.elim h
theorem ints2_inv {x y : D} {F : Int → Int → Prop} (h : ints2 x y F) : ∃ i j, x = .int i ∧ y = .int j ∧ F i j := by
 obtain ⟨i, rfl, h1⟩ := onInt_inv h
 obtain ⟨j, rfl, h2⟩ := onInt_inv h1
 exact ⟨i, j, rfl, rfl, h2⟩
theorem at0_inv {l : List D} {P : Prop} (h : at0 l P) : l = [] ∧ P := by
 cases l with
 | nil => exact ⟨rfl, h⟩
 | cons _ _ => exact False.elim h
theorem at1_inv {l : List D} {F : D → Prop} (h : at1 l F) : ∃ a, l = [a] ∧ F a := by
 cases l with
 | nil => exact False.elim h
 | cons a r => obtain ⟨rfl, h1⟩ := at0_inv h; exact ⟨a, rfl, h1⟩
theorem at2_inv {l : List D} {F : D → D → Prop} (h : at2 l F) : ∃ a b, l = [a, b] ∧ F a b := by
 cases l with
 | nil => exact False.elim h
 | cons a r => obtain ⟨b, rfl, h1⟩ := at1_inv h; exact ⟨a, b, rfl, h1⟩
def addD (x y : D) (M : Store) (Q : DK) : Prop := match x with
 | .int i => onInt y fun j => Q (.int (i + j)) M
 | .str a => match y with
  | .str b => a.length + b.length ≤ sizeLine ∧ Q (.str (a ++ b)) M
  | _ => False
 | .tup a => onTup y fun b => a ≠ [] ∧ a.length + b.length ≤ sizeLine ∧ Q (.tup (a ++ b)) M
 | .ref a => onRef y fun b => ∃ xs ys, readW M a = some xs ∧ readW M b = some ys ∧ xs.length + ys.length ≤ sizeLine ∧ Q (.ref M.length) (M ++ [.lst (xs ++ ys)])
 | _ => False
def mulD (x y : D) (M : Store) (Q : DK) : Prop := match x with
 | .int i => onInt y fun j => IntMulOk i j ∧ Q (.int (i * j)) M
 | .ref a => onInt y fun k => ∃ xs, readW M a = some xs ∧ 0 ≤ k ∧ k < 2 ^ 62 ∧ xs.length * k.toNat ≤ sizeLine ∧ Q (.ref M.length) (M ++ [.lst (List.replicate k.toNat xs).flatten])
 | _ => False
def opD (op : Op) (x y : D) (M : Store) (Q : DK) : Prop := match op with
 | .add => addD x y M Q
 | .mul => mulD x y M Q
 | .sub => ints2 x y fun i j => Q (.int (i - j)) M
 | .fdiv => ints2 x y fun i j => CDivB i j ∧ Q (.int (qdiv i j)) M
 | .mod => ints2 x y fun i j => j ≠ 0 ∧ Q (.int (qmod i j)) M
 | .pow => ints2 x y fun i j => CPow i j ∧ Q (.int (i ^ j.toNat)) M
mutual
def PD (M : Store) : PyData → D → Prop
 | .none, d => d = .non
 | .bool b, d => d = .bl b
 | .int i, d => d = .int i
 | .str x, d => d = .str x
 | .list xs, d => ∃ n ds, d = .ref n ∧ readL M n = some ds ∧ PDs M xs ds
 | .tuple xs, d => ∃ ds, d = .tup ds ∧ PDs M xs ds
 | .dict _, _ => False
def PDs (M : Store) : List PyData → List D → Prop
 | [], ds => ds = []
 | x :: xs, ds => ∃ d r, ds = d :: r ∧ PD M x d ∧ PDs M xs r
end
def flatD : D → Bool
 | .non | .bl _ | .int _ | .str _ => true
 | _ => false
def eqF : D → D → Bool
 | .non, .non => true
 | .bl a, .bl b => a == b
 | .bl a, .int b => (if a then 1 else 0) == b
 | .int a, .bl b => a == (if b then 1 else 0)
 | .int a, .int b => a == b
 | .str a, .str b => a == b
 | _, _ => false
def inD (x : D) (xs : List D) : Bool := xs.any fun y => eqF y x
def eqKV (a b : List (Key × D)) : Bool := a.length == b.length && a.all fun kv => match valD b kv.1 with
 | some y => eqF kv.2 y
 | none => false
def eqD (M : Store) : D → D → (Bool → Prop) → Prop
 | .int i, .int j, Q => Q (decide (i = j))
 | .str i, .str j, Q => Q (decide (i = j))
 | .bl i, .bl j, Q => Q (decide (i = j))
 | .non, .non, Q => Q true
 | .non, .int _, Q => Q false
 | .int _, .non, Q => Q false
 | .non, .bl _, Q => Q false
 | .bl _, .non, Q => Q false
 | .non, .str _, Q => Q false
 | .str _, .non, Q => Q false
 | .int _, .str _, Q => Q false
 | .str _, .int _, Q => Q false
 | .bl _, .str _, Q => Q false
 | .str _, .bl _, Q => Q false
 | x, y, Q => (∃ da db, PD M da x ∧ PD M db y ∧ da.canLay0 = true ∧ db.canLay0 = true ∧ min da.depth db.depth ≤ 60 ∧ Q (PyData.eqv da db)) ∨
   ∃ m n a b, x = .ref m ∧ y = .ref n ∧ readD M m = some a ∧ readD M n = some b ∧ (a.all fun kv => flatD kv.2) = true ∧ (b.all fun kv => flatD kv.2) = true ∧ Q (eqKV a b)
def itemsD (M : Store) : D → Option (List D)
 | .ref n => readL M n
 | .tup xs => some xs
 | .gtup xs => some xs
 | _ => none
def inQ (M : Store) : D → D → (Bool → Prop) → Prop
 | .str a, .str b, Q => Q (!(Builtin.Str.occurrences b a 0 b.length 1).isEmpty)
 | x, .ref n, Q => (∃ xs, readL M n = some xs ∧ flatD x = true ∧ xs.all flatD = true ∧ Q (inD x xs)) ∨ (∃ kvs k, readD M n = some kvs ∧ keyD x = some k ∧ Q (valD kvs k).isSome)
 | x, .tup xs, Q => flatD x = true ∧ xs.all flatD = true ∧ Q (inD x xs)
 | x, .gtup xs, Q => flatD x = true ∧ xs.all flatD = true ∧ Q (inD x xs)
 | _, _, _ => False
def nonD (x y : D) (Q : Bool → Prop) : Prop := match y with
 | .non => match x with
  | .non => Q true
  | .bl _ => Q false
  | .int _ => Q false
  | .str _ => Q false
  | .tup _ => Q false
  | .ref _ => Q false
  | .exn _ _ _ _ => Q false
  | _ => False
 | _ => False
def cmD (M : Store) (op : Cm) (x y : D) (Q : Bool → Prop) : Prop := match op with
 | .lt => ints2 x y fun i j => Q (decide (i < j))
 | .gt => ints2 x y fun i j => Q (decide (j < i))
 | .ge => ints2 x y fun i j => Q (decide (j ≤ i))
 | .eq => eqD M x y Q
 | .ne => eqD M x y fun b => Q (!b)
 | .is => nonD x y Q
 | .isin => inQ M x y Q
 | .notin => inQ M x y fun b => Q (!b)
def truD (M : Store) : D → (Bool → Prop) → Prop
 | .non, Q => Q false
 | .bl b, Q => Q b
 | .int i, Q => Q (i != 0)
 | .str x, Q => x.length ≤ sizeLine ∧ Q ((x.length : Int) != 0)
 | .tup xs, Q => Q (!xs.isEmpty)
 | .ref n, Q => (∃ xs, readL M n = some xs ∧ Q (!xs.isEmpty)) ∨ (∃ xs, readD M n = some xs ∧ Q (!xs.isEmpty))
 | _, _ => False
def ixD (M : Store) : D → D → (D → Prop) → Prop
 | .ref n, k, Q => (∃ xs i d, k = .int i ∧ readL M n = some xs ∧ atI xs i = some d ∧ Q d) ∨ (∃ kvs y d, readF M n = some kvs ∧ keyD k = some y ∧ valD kvs y = some d ∧ Q d)
 | .tup xs, .int i, Q => ∃ d, atI xs i = some d ∧ Q d
 | .gtup xs, .int i, Q => ∃ d, atI xs i = some d ∧ Q d
 | .str z, .int i, Q => z.length ≤ sizeLine ∧ ∃ c, atI z.cps.toList i = some c ∧ Q (.str ⟨#[c]⟩)
 | _, _, _ => False
def cutD {α : Type} (xs : List α) (lo hi : Option Int) : List α := (xs.drop (HT.sIx xs.length 0 lo)).take (HT.sIx xs.length xs.length hi - HT.sIx xs.length 0 lo)
def slD : D → Option Int → Option Int → Store → DK → Prop
 | .str z, lo, hi, M, Q => z.length ≤ sizeLine ∧ Q (.str (Txt.slice z lo hi)) M
 | .ref n, lo, hi, M, Q => ∃ xs, readL M n = some xs ∧ Q (.ref M.length) (M ++ [.lst (cutD xs lo hi)])
 | .tup xs, lo, hi, M, Q => ¬ (HT.sIx xs.length 0 lo = 0 ∧ HT.sIx xs.length xs.length hi = xs.length) ∧ Q (.tup (cutD xs lo hi)) M
 | _, _, _, _, _ => False
def tyD (M : Store) : D → Option String
 | .non => some "NoneType"
 | .bl _ => some "bool"
 | .int _ => some "int"
 | .str _ => some "str"
 | .tup _ => some "tuple"
 | .ref n => match M[n]? with
  | some (.lst _) => some "list"
  | some (.frz _) => none
  | some (.dct _) => some "dict"
  | some (.fdc _) => none
  | none => none
 | _ => none
def isD (K : PySem.W.Frag) (M : Store) : D → D → (Bool → Prop) → Prop
 | .exn _ C _ _, .cls c, Q => ∃ b, ExcIs K C ∧ PySem.W.kitOne K (.ref C) (.ref c) = some b ∧ Q b
 | .exn _ C _ _, .ty c, Q => ∃ b, ExcIs K C ∧ PySem.W.kitOne K (.ref C) (.type c) = some b ∧ Q b
 | .exn _ C _ _, .tup cs, Q => ∃ (as : List Addr) (b : Bool), cs = as.map D.cls ∧ ExcIs K C ∧ PySem.W.kitAny K (.ref C) (as.map Value.ref) = some b ∧ Q b
 | d, .ty c, Q => ∃ t b, tyD M d = some t ∧ PySem.W.kitOne K (.type t) (.type c) = some b ∧ Q b
 | _, _, _ => False
def lenD (x : D) (M : Store) (Q : DK) : Prop := match x with
 | .ref n => (∃ xs, readL M n = some xs ∧ Q (.int xs.length) M) ∨ (∃ xs, readD M n = some xs ∧ Q (.int xs.length) M)
 | .tup xs => Q (.int xs.length) M
 | .str x => x.length ≤ sizeLine ∧ Q (.int x.length) M
 | _ => False
def bfD (K : PySem.W.Frag) (b : Bf) (l : List D) (M : Store) (Q : DK) : Prop := match b with
 | .len => at1 l fun x => lenD x M Q
 | .isinst => at2 l fun d c => isD K M d c fun b => Q (.bl b) M
 | .min2 => at2 l fun x y => ints2 x y fun i j => Q (.int (if j < i then j else i)) M
 | .max2 => at2 l fun x y => ints2 x y fun i j => Q (.int (if j > i then j else i)) M
 | .min1 => at1 l fun x => onRef x fun n => ∃ ns : List Int, readL M n = some (ns.map .int) ∧ 0 < ns.length ∧ ∀ m, m ∈ ns → (∀ b, b ∈ ns → m ≤ b) → Q (.int m) M
 | .list1 => at1 l fun d => ∃ xs, itemsD M d = some xs ∧ Q (.ref M.length) (M ++ [.lst xs])
 | .tuple1 => at1 l fun x => onRef x fun n => ∃ xs, readL M n = some xs ∧ Q (.tup xs) M
 | .dict1 => at1 l fun x => onRef x fun n => (∃ xs, readD M n = some xs ∧ Q (.ref M.length) (M ++ [.dct xs])) ∨ (∃ ps : List (Key × D), readL M n = some (pairD ps) ∧ ps.length < sizeLine ∧ Q (.ref M.length) (M ++ [.dct (foldD ps)]))
def setD (b : Bool) (n : Nat) (M : Store) (Q : DK) : Prop := match b with
 | true => False
 | false => ∃ ks : List Key, readL M n = some (ks.map kD) ∧ ks.length + 1 < scanBound ∧ ∀ ks' : List Key, ks'.Nodup → (∀ k, k ∈ ks' ↔ k ∈ ks) → Q (.int ks'.length) M
def mtD (m : Mt) (o : D) (l : List D) (M : Store) (Q : DK) : Prop := onRef o fun n => match m with
 | .append => at1 l fun d => ∃ xs, readW M n = some xs ∧ xs.length < sizeLine ∧ Q .non (M.set n (.lst (xs ++ [d])))
 | .get2 => at2 l fun k z => ∃ kvs y, readD M n = some kvs ∧ keyD k = some y ∧ Q ((valD kvs y).getD z) M
 | .pop0 => at0 l (∃ xs d, readW M n = some xs ∧ xs[xs.length - 1]? = some d ∧ Q d (M.set n (.lst xs.dropLast)))
 | .reverse => at0 l (∃ xs, readW M n = some xs ∧ Q .non (M.set n (.lst xs.reverse)))
 | .index1 => at1 l fun d => ∃ xs k z, readL M n = some xs ∧ flatD d = true ∧ xs.all flatD = true ∧ xs[k]? = some z ∧ eqF z d = true ∧ (∀ (j : Nat) u, j < k → xs[j]? = some u → eqF u d = false) ∧ Q (.int k) M
def mtK (m : Mt) (o : D) (M : Store) : Prop := onRef o fun n => match m with
 | .get2 => (readD M n).isSome = true
 | _ => (readL M n).isSome = true
def tgD : List Nat → D → DEnv → (DEnv → Prop) → Prop
 | [i], d, σ, Q => Q (σ.set i (some d))
 | is, .tup ds, σ, Q => ds.length = is.length ∧ Q ((is.zip ds).foldl (fun σ p => σ.set p.1 (some p.2)) σ)
 | _, _, _, _ => False
inductive Own where
 | no | lst (n : Nat) | enm (n : Nat) | dct (n : Nat) | twoT (m : Nat) (ys : List D)
def keysD (kvs : List (Key × D)) : List D := kvs.map fun p => kD p.1
def thawD (n : Nat) (M : Store) (Q : Store → Prop) : Prop := ∃ kvs, M[n]? = some (.fdc kvs) ∧ Q (M.set n (.dct kvs))
def thawR (n : Nat) (R : DEnds) : DEnds := { nx := fun σ M => thawD n M (R.nx σ), rt := fun d M => thawD n M (R.rt d), bk := fun _ _ => False, ct := fun _ _ => False }
def enumD (xs : List D) : List D := xs.mapIdx fun i d => .tup [.int i, d]
def zipT (ys zs : List D) : List D := (ys.zip zs).map fun p => D.tup [p.1, p.2]
def itD (M : Store) : D → (Own → List D → Prop) → Prop
 | .ref n, R => ∃ xs, readL M n = some xs ∧ R (.lst n) xs
 | .tup xs, R => R .no xs
 | .gtup xs, R => R .no xs
 | _, _ => False
def intsD (lo : Int) (n : Nat) : List D := (List.range n).map fun (k : Nat) => D.int (lo + (k : Int))
def still (own : Own) (xs : List D) (M : Store) : Prop := match own with
 | .lst n => readL M n = some xs
 | .enm n => ∃ ys, readL M n = some ys ∧ xs = enumD ys
 | .dct n => ∃ kvs, M[n]? = some (.fdc kvs) ∧ xs = keysD kvs
 | .twoT m ys => ∃ zs, readL M m = some zs ∧ xs = zipT ys zs
 | .no => True
def forD (own : Own) (xs : List D) (tg : List Nat) (body : DS) : List D → DEnds → DEnv → Store → Prop
 | [], R, σ, M => still own xs M ∧ R.nx σ M
 | d :: r, R, σ, M => still own xs M ∧ tgD tg d σ fun σ' => body { nx := fun σ2 M2 => forD own xs tg body r R σ2 M2, rt := R.rt, bk := R.nx, ct := fun σ2 M2 => forD own xs tg body r R σ2 M2 } σ' M
def compD (own : Own) (xs : List D) (tg : List Nat) (cd : DT) (el : DE) (z : Nat) : List D → DEnv → Store → (Store → Prop) → Prop
 | [], _, M, Q => still own xs M ∧ Q M
 | d :: r, σ, M, Q => still own xs M ∧ tgD tg d σ fun σ' => cd σ' M fun b M1 => if b = true then
   el σ' M1 fun y M2 => ∃ acc, readW M2 z = some acc ∧ acc.length < sizeLine ∧ compD own xs tg cd el z r σ' (M2.set z (.lst (acc ++ [y]))) Q
   else compD own xs tg cd el z r σ' M1 Q
def capD (js : List (Option Nat)) (σ : DEnv) : DEnv := js.map fun o => o.bind fun j => (σ[j]?).join
abbrev noX : DX := fun _ _ _ => False
structure Cfg where
 K : PySem.W.Frag
 Γ : List DSp
 G : List D
mutual
def te (c : Cfg) (X : DX) : E → DE
 | .var i, σ, M, Q => match σ[i]? with
  | some (some d) => Q d M
  | _ => False
 | .int i, _, M, Q => Q (.int i) M
 | .bl b, _, M, Q => Q (.bl b) M
 | .non, _, M, Q => Q .non M
 | .str x, _, M, Q => Q (.str x) M
 | .ty n, _, M, Q => Q (.ty (tyName n)) M
 | .glb k, _, M, Q => match c.G[k]? with
  | some d => Q d M
  | none => False
 | .bin op a b, σ, M, Q => te c X a σ M fun x M1 => te c X b σ M1 fun y M2 => opD op x y M2 Q
 | .neg a, σ, M, Q => te c X a σ M fun x M1 => match x with
  | .int i => Q (.int (-i)) M1
  | _ => False
 | .not a, σ, M, Q => te c X a σ M fun x M1 => truD M1 x fun b => Q (.bl (!b)) M1
 | .cmp op a b, σ, M, Q => te c X a σ M fun x M1 => te c X b σ M1 fun y M2 => cmD M2 op x y fun r => Q (.bl r) M2
 | .bop k es, σ, M, Q => tbop c X k es σ M Q
 | .lst es, σ, M, Q => tes c X es σ M fun ds M1 => ds.length ≤ sizeLine ∧ Q (.ref M1.length) (M1 ++ [.lst ds])
 | .tup es, σ, M, Q => tes c X es σ M fun ds M1 => ds.length ≤ sizeLine ∧ Q (.tup ds) M1
 | .dict0, _, M, Q => Q (.ref M.length) (M ++ [.dct []])
 | .dct a b, σ, M, Q => te c X a σ (M ++ [.dct []]) fun x M1 => te c X b σ M1 fun y M2 => ∃ k, keyD x = some k ∧ readD M2 M.length = some [] ∧ Q (.ref M.length) (M2.set M.length (.dct [(k, y)]))
 | .ix a b, σ, M, Q => te c X a σ M fun x M1 => te c X b σ M1 fun y M2 => ixD M2 x y fun d => Q d M2
 | .sl a lo hi, σ, M, Q => te c X a σ M fun x M1 => teo c X lo σ M1 fun l M2 => teo c X hi σ M2 fun h M3 => slD x l h M3 Q
 | .call f es, σ, M, Q => tes c X es σ M fun ds M1 => match c.Γ[f]? with
  | some sp => sp ds M1 Q X
  | none => False
 | .bf b es, σ, M, Q => tes c X es σ M fun ds M1 => bfD c.K b ds M1 Q
 | .vals a, σ, M, Q => te c X a σ M fun x M1 => onRef x fun n => ∃ kvs, readD M1 n = some kvs ∧ Q (.ref M1.length) (M1 ++ [.lst (kvs.map (·.2))])
 | .slW a lo hi, σ, M, Q => te c X a σ M fun x M1 => teo c X lo σ M1 fun l M2 => teo c X hi σ M2 fun h M3 => onTup x fun xs => Q (.tup (cutD xs l h)) M3
 | .setf b a, σ, M, Q => te c X a σ M fun x M1 => onRef x fun n => setD b n M1 Q
 | .rev a, σ, M, Q => te c X a σ M fun x M1 => match x with
  | .ref n => ∃ xs, readL M1 n = some xs ∧ Q (.ref M1.length) (M1 ++ [.lst xs.reverse])
  | _ => False
 | .mt m o es, σ, M, Q => te c X o σ M fun x M1 => mtK m x M1 ∧ tes c X es σ M1 fun ds M2 => mtD m x ds M2 Q
 | .comp _ js tg it cd e, σ, M, Q => tit c X it σ M fun own xs M1 => compD own xs tg (tcd c noX cd) (te c noX e) M1.length xs (capD js σ) (M1 ++ [.lst []]) fun M2 => Q (.ref M1.length) M2
def tbop (c : Cfg) (X : DX) (k : Bool) : Es → DE
 | .nil, _, _, _ => False
 | .cons e .nil, σ, M, Q => te c X e σ M Q
 | .cons e (.cons e2 r), σ, M, Q => te c X e σ M fun x M1 => truD M1 x fun b => if b = k then tbop c X k (.cons e2 r) σ M1 Q else Q x M1
def tes (c : Cfg) (X : DX) : Es → DA
 | .nil, _, M, Q => Q [] M
 | .cons e r, σ, M, Q => te c X e σ M fun d M1 => tes c X r σ M1 fun ds M2 => Q (d :: ds) M2
def teo (c : Cfg) (X : DX) : Eo → DEnv → Store → (Option Int → Store → Prop) → Prop
 | .no, _, M, Q => Q none M
 | .yes e, σ, M, Q => te c X e σ M fun d M1 => match d with
  | .int i => Q (some i) M1
  | _ => False
def tcd (c : Cfg) (X : DX) : Eo → DT
 | .no, _, M, Q => Q true M
 | .yes e, σ, M, Q => te c X e σ M fun x M1 => truD M1 x fun b => Q b M1
def tit (c : Cfg) (X : DX) : It → DEnv → Store → (Own → List D → Store → Prop) → Prop
 | .seq e, σ, M, Q => te c X e σ M fun d M1 => itD M1 d fun own xs => Q own xs M1
 | .rng1 a, σ, M, Q => te c X a σ M fun d M1 => match d with
  | .int j => -(2 ^ 62) ≤ j ∧ j < 2 ^ 62 ∧ Q .no (intsD 0 j.toNat) M1
  | _ => False
 | .rng2 a b, σ, M, Q => te c X a σ M fun d M1 => te c X b σ M1 fun d2 M2 => match d, d2 with
  | .int i, .int j => (-(2 ^ 62) ≤ i ∧ i < 2 ^ 62 ∧ -(2 ^ 62) ≤ j ∧ j < 2 ^ 62) ∧ Q .no (intsD i (j - i).toNat) M2
  | _, _ => False
 | .enm e, σ, M, Q => te c X e σ M fun d M1 => match d with
  | .ref n => ∃ xs, readL M1 n = some xs ∧ Q (.enm n) (enumD xs) M1
  | _ => False
 | .zip es, σ, M, Q => tes c X es σ M fun ds M1 => at2 ds fun a b => onTup a fun ys => onRef b fun m => ∃ zs, readL M1 m = some zs ∧ Q (.twoT m ys) (zipT ys zs) M1
end
def tt (c : Cfg) (X : DX) (e : E) : DT := fun σ M Q => te c X e σ M fun x M1 => truD M1 x fun b => Q b M1
mutual
def ts (c : Cfg) (X : DX) : S → DS
 | .never, _, _, _ => False
 | .ret e, R, σ, M => te c X e σ M R.rt
 | .expr e, R, σ, M => te c X e σ M fun _ M1 => R.nx σ M1
 | .set tg e, R, σ, M => te c X e σ M fun d M1 => tgD tg d σ fun σ' => R.nx σ' M1
 | .put o i v, R, σ, M => te c X v σ M fun d M1 => te c X o σ M1 fun x M2 => te c X i σ M2 fun y M3 => match x with
  | .ref n => (∃ xs k j, y = .int k ∧ readW M3 n = some xs ∧ ixN xs.length k = some j ∧ R.nx σ (M3.set n (.lst (xs.set j d)))) ∨
    (∃ kvs k, readD M3 n = some kvs ∧ keyD y = some k ∧ kvs.length < sizeLine ∧ R.nx σ (M3.set n (.dct (putD kvs k d))))
  | _ => False
 | .ite t a b, R, σ, M => tt c X t σ M fun r M1 => if r = true then tss c X a R σ M1 else tss c X b R σ M1
 | .for_ tg it b, R, σ, M => tit c X it σ M fun own xs M1 => forD own xs tg (tss c X b) xs R σ M1
 | .forK tg e b, R, σ, M => te c X e σ M fun d M1 => match d with
  | .ref n => ∃ kvs, readD M1 n = some kvs ∧ forD (.dct n) (keysD kvs) tg (tss c X b) (keysD kvs) (thawR n R) σ (M1.set n (.fdc kvs))
  | _ => False
 | .while_ t b, R, σ, M => ∃ W : Nat → DEnv → Store → Prop, (∃ m, W m σ M) ∧ ∀ m σ M, W m σ M → tt c X t σ M fun r M1 => if r = true then
   tss c X b { nx := fun σ2 M2 => ∃ m', m' < m ∧ W m' σ2 M2, rt := R.rt, bk := R.nx, ct := fun σ2 M2 => ∃ m', m' < m ∧ W m' σ2 M2 } σ M1 else R.nx σ M1
def tss (c : Cfg) (X : DX) : Ss → DS
 | .nil, R, σ, M => R.nx σ M
 | .cons s r, R, σ, M => ts c X s { R with nx := fun σ' M' => tss c X r R σ' M' } σ M
end
def REnv (w : Vw) (σD : DEnv) (σ : L2.St) : Prop := σD.length = σ.length ∧ ∀ (i : Nat) d, σD[i]? = some (some d) → ∃ v, σ[i]? = some (some v) ∧ RD w d v
theorem REnv.ext {w w' : Vw} {σD : DEnv} {σ : L2.St} (h : REnv w σD σ) (x : Ext w w') : REnv w' σD σ :=
 ⟨h.1, fun i d e => let ⟨v, q, r⟩ := h.2 i d e; ⟨v, q, r.ext x⟩⟩
theorem REnv.set {w : Vw} {σD : DEnv} {σ : L2.St} {d : D} {v : V} (h : REnv w σD σ) (i : Nat) (r : RD w d v) : REnv w (σD.set i (some d)) (σ.set i (some v)) := by
 refine ⟨by simp [h.1], fun j d' e => ?_⟩
 by_cases hj : i = j
 ·subst hj
  by_cases hl : i < σD.length
  ·rw [List.getElem?_set_self hl] at e
   cases e
   exact ⟨v, by rw [List.getElem?_set_self (by rw [← h.1]; exact hl)], r⟩
  ·rw [List.getElem?_eq_none (by simp; omega)] at e
   cases e
 ·rw [List.getElem?_set_ne hj] at e
  rw [List.getElem?_set_ne hj]
  exact h.2 j d' e
structure StOk (w0 w : Vw) (σD : DEnv) (M : Store) (σ : L2.St) (H : Hp) : Prop where
 heap : w.H = H
 ext : Ext w0 w
 rs : RS w M
 env : REnv w σD σ
theorem StOk.next {w0 w w' : Vw} {σD : DEnv} {M M' : Store} {σ : L2.St} {H : Hp} (s : StOk w0 w σD M σ H) (x : Ext w w') (r : RS w' M') : StOk w0 w' σD M' σ w'.H :=
 ⟨rfl, s.ext.trans x, r, s.env.ext x⟩
def Aft (w : Vw) (QD : DK) (Q : VK) : Prop := ∀ v w' d M', Ext w w' → RS w' M' → RD w' d v → QD d M' → Q v w'.H
def tF (w0 : Vw) (f : DE) : TE := fun σ H Q => ∃ w σD M QD, StOk w0 w σD M σ H ∧ f σD M QD ∧ Aft w QD Q
def tFA (w0 : Vw) (f : DA) : TA := fun σ H Q => ∃ w σD M QD, StOk w0 w σD M σ H ∧ f σD M QD ∧ ∀ vs w' ds M', Ext w w' → RS w' M' → RDs w' ds vs → QD ds M' → Q vs w'.H
def tFT (w0 : Vw) (f : DT) : TT := fun σ H Q => ∃ w σD M QD, StOk w0 w σD M σ H ∧ f σD M QD ∧ ∀ b w' M', Ext w w' → RS w' M' → QD b M' → Q b w'.H
def tFO (w0 : Vw) (f : DEnv → Store → (Option Int → Store → Prop) → Prop) : TO := fun σ H Q => ∃ w σD M QD, StOk w0 w σD M σ H ∧ f σD M QD ∧ ∀ b w' M', Ext w w' → RS w' M' → QD b M' → Q b w'.H
def tFS (w0 : Vw) (f : DS) : TS := fun R σ H => ∃ w σD M RD', StOk w0 w σD M σ H ∧ f RD' σD M ∧
 (∀ σ' w' σD' M', Ext w w' → RS w' M' → REnv w' σD' σ' → RD'.nx σD' M' → R.nx σ' w'.H) ∧ Aft w RD'.rt R.rt ∧
 (∀ σ' w' σD' M', Ext w w' → RS w' M' → REnv w' σD' σ' → RD'.bk σD' M' → R.bk σ' w'.H) ∧
 (∀ σ' w' σD' M', Ext w w' → RS w' M' → REnv w' σD' σ' → RD'.ct σD' M' → R.ct σ' w'.H)
def xkOf (w : Vw) (Z : DX) : XK := fun cls dd H' => ∃ C dx r w' row M', cls = .ref C ∧ dd = some dx ∧ w'.H = H' ∧ Ext w w' ∧ RS w' M' ∧ H' dx = some (.xd [("row", r)]) ∧ RD w' row r ∧ Z C row M'
def spF (K : PySem.W.Frag) (sp : DSp) : Sp := fun vs H Q E => ∃ w ds M QD Z, w.K = K ∧ w.H = H ∧ RS w M ∧ RDs w ds vs ∧ sp ds M QD Z ∧ Aft w QD Q ∧ ∀ cls dd H', xkOf w Z cls dd H' → E cls dd H'
theorem Aft.ext {w w' : Vw} {QD : DK} {Q : VK} (h : Aft w QD Q) (x : Ext w w') : Aft w' QD Q := fun v w2 d M y r q p => h v w2 d M (x.trans y) r q p
section
variable {X : Cx} {e : Expr} {w0 : Vw}
theorem PE.imp {t t' : TE} (h : PE X e t) (k : ∀ σ H Q, t' σ H Q → t σ H Q) : PE X e t' := fun pins s σ H Q I q => h pins s σ H Q I (k σ H Q q)
theorem PT.imp {t t' : TT} (h : PT X e t) (k : ∀ σ H Q, t' σ H Q → t σ H Q) : PT X e t' := fun pins s σ H Q I q => h pins s σ H Q I (k σ H Q q)
theorem PA.imp {es : List Expr} {t t' : TA} (h : PA X es t) (k : ∀ σ H Q, t' σ H Q → t σ H Q) : PA X es t' := fun pos pins s σ H Q I q => h pos pins s σ H Q I (k σ H Q q)
theorem PS.imp {st : Stmt} {t t' : TS} (h : PS X st t) (k : ∀ R σ H, t' R σ H → t R σ H) : PS X st t' := fun pins s σ H R I q => h pins s σ H R I (k R σ H q)
theorem PSs.imp {st : List Stmt} {t t' : TS} (h : PSs X st t) (k : ∀ R σ H, t' R σ H → t R σ H) : PSs X st t' := fun pins s σ H R I q => h pins s σ H R I (k R σ H q)
end
def rF (w0 : Vw) (g : D → D → Store → DK → Prop) : R2 := fun x y H Q => ∃ w M dx dy QD, w.H = H ∧ Ext w0 w ∧ RS w M ∧ RD w dx x ∧ RD w dy y ∧ g dx dy M QD ∧ Aft w QD Q
theorem rd_int {w : Vw} {i : Int} {v : V} : RD w (.int i) v ↔ v = .int i := by unfold RD; exact Iff.rfl
theorem rd_str {w : Vw} {i : Str} {v : V} : RD w (.str i) v ↔ v = .str i := by unfold RD; exact Iff.rfl
theorem rd_bl {w : Vw} {i : Bool} {v : V} : RD w (.bl i) v ↔ v = .bl i := by unfold RD; exact Iff.rfl
theorem rd_non {w : Vw} {v : V} : RD w .non v ↔ v = .non := by unfold RD; exact Iff.rfl
theorem rd_ty {w : Vw} {n : String} {v : V} : RD w (.ty n) v ↔ v = .ty n := by unfold RD; exact Iff.rfl
theorem rd_cls {w : Vw} {n : Addr} {v : V} : RD w (.cls n) v ↔ v = .ref n := by unfold RD; exact Iff.rfl
theorem rd_ref {w : Vw} {i : Nat} {v : V} : RD w (.ref i) v ↔ i < w.n ∧ v = .ref (w.μ i) := by unfold RD; exact Iff.rfl
theorem rd_tup {w : Vw} {ds : List D} {v : V} : RD w (.tup ds) v ↔ ∃ a vs, v = .ref a ∧ w.H a = some (.tup vs) ∧ RDs w ds vs := by unfold RD; exact Iff.rfl
theorem rd_gtup {w : Vw} {ds : List D} {v : V} : RD w (.gtup ds) v ↔ ∃ a vs, v = .ref a ∧ SqT w.K w.H a vs ∧ RDs w ds vs := by unfold RD; exact Iff.rfl
theorem rd_exn {w : Vw} {e C dx : Addr} {row : D} {v : V} : RD w (.exn e C dx row) v ↔ v = .ref e ∧ w.H e = some (XO e (.ref C) (some dx)) ∧ ∃ r, w.H dx = some (.xd [("row", r)]) ∧ RD w row r := Iff.of_eq (by rw [RD])
theorem RDs.empty {w : Vw} {ds : List D} (h : RDs w ds []) : ds = [] := by
 have := h.length
 exact List.length_eq_zero_iff.mp this.symm
theorem readW_L {M : Store} {n : Nat} {xs : List D} (h : readW M n = some xs) : readL M n = some xs := by
 unfold readW at h
 unfold readL
 split at h
 ·rename_i e; rw [e]; exact h
 ·cases h
theorem readW_at {M : Store} {n : Nat} {xs : List D} (h : readW M n = some xs) : M[n]? = some (.lst xs) := by
 unfold readW at h
 split at h
 ·rename_i e; rw [e]; cases h; rfl
 ·cases h
theorem readD_at {M : Store} {n : Nat} {xs : List (Key × D)} (h : readD M n = some xs) : M[n]? = some (.dct xs) := by
 unfold readD at h
 split at h
 ·rename_i e; rw [e]; cases h; rfl
 ·cases h
theorem RS.list {w : Vw} {M : Store} {n : Nat} {xs : List D} (R : RS w M) (h : readW M n = some xs) : M[n]? = some (.lst xs) ∧ ∃ vs, w.H (w.μ n) = some (.lst vs) ∧ RDs w xs vs :=
 ⟨readW_at h, R.cell n _ (readW_at h)⟩
theorem RS.listL {w : Vw} {M : Store} {n : Nat} {xs : List D} (R : RS w M) (h : readL M n = some xs) : n < w.n ∧ ∃ vs, SqL w.K w.H (w.μ n) vs ∧ RDs w xs vs ∧ True := by
 unfold readL at h
 split at h
 ·rename_i ys e
  cases h
  obtain ⟨vs, q, r⟩ := R.cell n _ e
  exact ⟨by rw [R.len]; exact (List.getElem?_eq_some_iff.mp e).1, vs, .inl (.inl q), r, trivial⟩
 ·rename_i ys e
  cases h
  obtain ⟨vs, q, r⟩ := R.cell n _ e
  exact ⟨by rw [R.len]; exact (List.getElem?_eq_some_iff.mp e).1, vs, q.sq, r, trivial⟩
 ·cases h
theorem readD_F {M : Store} {n : Nat} {xs : List (Key × D)} (h : readD M n = some xs) : readF M n = some xs := by
 unfold readF; rw [readD_at h]
theorem RS.dictF {w : Vw} {M : Store} {n : Nat} {xs : List (Key × D)} (R : RS w M) (h : readF M n = some xs) : ∃ vs, Rd w.H (w.μ n) (.dK vs) ∧ RKV w xs vs := by
 unfold readF at h
 split at h
 ·rename_i ys e
  cases h
  obtain ⟨vs, q1, q2⟩ := R.cell n _ e
  exact ⟨vs, .inl q1, q2⟩
 ·rename_i ys e
  cases h
  obtain ⟨o, vs, q1, q2⟩ := R.cell n _ e
  exact ⟨vs, .inr ⟨o, q1⟩, q2⟩
 ·cases h
theorem RS.dict {w : Vw} {M : Store} {n : Nat} {xs : List (Key × D)} (R : RS w M) (h : readD M n = some xs) : M[n]? = some (.dct xs) ∧ ∃ vs, w.H (w.μ n) = some (.dK vs) ∧ RKV w xs vs :=
 ⟨readD_at h, R.cell n _ (readD_at h)⟩
theorem new_list {w : Vw} {M : Store} {p : Addr} {xs : List D} {vs : List V} (R : RS w M) (hp : w.H p = none) (r : RDs w xs vs) : Ext w (w.push p (.lst vs)) ∧ RS (w.push p (.lst vs)) (M ++ [.lst xs]) ∧ RD (w.push p (.lst vs)) (.ref M.length) (.ref p) := by
 refine ⟨ext_push hp, R.push hp ⟨vs, upd_same, r.ext (ext_push hp)⟩, rd_ref.mpr ⟨?_, ?_⟩⟩
 ·show M.length < w.n + 1
  rw [R.len]; omega
 ·show V.ref p = V.ref (if M.length = w.n then p else w.μ M.length)
  rw [if_pos R.len.symm]
theorem new_dict {w : Vw} {M : Store} {p : Addr} {xs : List (Key × D)} {vs : List (Key × V)} (R : RS w M) (hp : w.H p = none) (r : RKV w xs vs) : Ext w (w.push p (.dK vs)) ∧ RS (w.push p (.dK vs)) (M ++ [.dct xs]) ∧ RD (w.push p (.dK vs)) (.ref M.length) (.ref p) := by
 refine ⟨ext_push hp, R.push hp ⟨vs, upd_same, r.ext (ext_push hp)⟩, rd_ref.mpr ⟨?_, ?_⟩⟩
 ·show M.length < w.n + 1
  rw [R.len]; omega
 ·show V.ref p = V.ref (if M.length = w.n then p else w.μ M.length)
  rw [if_pos R.len.symm]
theorem new_tup {w : Vw} {M : Store} {p : Addr} {xs : List D} {vs : List V} (R : RS w M) (hp : w.H p = none) (r : RDs w xs vs) : Ext w (w.alloc p (.tup vs)) ∧ RS (w.alloc p (.tup vs)) M ∧ RD (w.alloc p (.tup vs)) (.tup xs) (.ref p) :=
 ⟨ext_alloc hp, R.alloc hp, rd_tup.mpr ⟨p, vs, rfl, upd_same, r.ext (ext_alloc hp)⟩⟩
theorem write_list {w : Vw} {M : Store} {n : Nat} {us vs : List V} {ys xs : List D} (R : RS w M) (hn : M[n]? = some (.lst ys)) (h : w.H (w.μ n) = some (.lst us)) (r : RDs w xs vs) : Ext w (w.alloc (w.μ n) (.lst vs)) ∧ RS (w.alloc (w.μ n) (.lst vs)) (M.set n (.lst xs)) :=
 ⟨ext_write h rfl, R.write hn rfl rfl h rfl ⟨vs, upd_same, r.ext (ext_write h rfl)⟩⟩
theorem write_dict {w : Vw} {M : Store} {n : Nat} {us vs : List (Key × V)} {ys xs : List (Key × D)} (R : RS w M) (hn : M[n]? = some (.dct ys)) (h : w.H (w.μ n) = some (.dK us)) (r : RKV w xs vs) : Ext w (w.alloc (w.μ n) (.dK vs)) ∧ RS (w.alloc (w.μ n) (.dK vs)) (M.set n (.dct xs)) :=
 ⟨ext_write h rfl, R.write hn rfl rfl h rfl ⟨vs, upd_same, r.ext (ext_write h rfl)⟩⟩
section
variable {X : Cx} {w0 : Vw}
theorem opF_int {f : Value → Value → Sem Value} {g : Int → Int → V} {o : D → D → Store → DK → Prop} {C : Int → Int → Prop} {k : Int → Int → D} (h : OpR X f (rI C g)) (hk : ∀ w i j, RD w (k i j) (g i j))
  {pins : List (Addr × Obj)} {s : Shared} {σ : L2.St} {x y : V} {v u : Value} {Q : VK} {w : Vw} {M : Store} {QD : DK} {i j : Int} (I : Inv X pins σ w.H s) (rx : RelV x v) (ry : RelV y u) (R : RS w M) (hx : RD w (.int i) x) (hy : RD w (.int j) y)
  (hc : C i j) (q : QD (k i j) M) (a : Aft w QD Q) : wpAny (model X.prog X.w) X.A (f v u) (EP X pins σ Q) X.xe s := by
 cases rd_int.mp hx
 cases rd_int.mp hy
 exact h pins s σ w.H _ _ v u Q I rx ry ⟨i, j, rfl, rfl, hc, a _ w _ M (Ext.refl w) R (hk w i j) q⟩
def opOf : Op → Operator
 | .add => .Add | .sub => .Sub | .mul => .Mult | .fdiv => .FloorDiv | .mod => .Mod | .pow => .Pow
theorem rI0_I {f : Value → Value → Sem Value} {g : Int → Int → V} (h : OpR X f (rI0 g)) : OpR X f (rI (fun _ _ => True) g) := fun pins s σ H x y v u Q I rx ry ⟨i, j, e1, e2, _, q⟩ => h pins s σ H x y v u Q I rx ry ⟨i, j, e1, e2, q⟩
theorem RDs.rep {w : Vw} {xs : List D} {vs : List V} (h : RDs w xs vs) : ∀ n : Nat, RDs w (List.replicate n xs).flatten (List.replicate n vs).flatten
 | 0 => RDs.nil w
 | n + 1 => by
  rw [List.replicate_succ, List.replicate_succ, List.flatten_cons, List.flatten_cons]
  exact h.append (RDs.rep h n)
theorem op_sound (op : Op) : OpR X (binaryOp (opOf op)) (rF w0 (opD op)) := by
 intro pins s σ H x y v u Q I rx ry h
 obtain ⟨w, M, dx, dy, QD, rfl, e0, R, hx, hy, g, a⟩ := h
 have ri : ∀ w (i : Int), RD w (.int i) (.int i) := fun w i => rd_int.mpr rfl
 cases op with
 | add =>
  cases dx with
  | int i =>
   obtain ⟨j, rfl, g2⟩ := onInt_inv g; clear g; have g := g2
   exact opF_int (o := opD .add) (C := fun _ _ => True) (k := fun i j => .int (i + j)) (rI0_I op_add) (fun w i j => ri w _) I rx ry R hx hy trivial g a
  | str z =>
   cases dy with
   | str z2 =>
    cases rd_str.mp hx; cases rd_str.mp hy
    exact op_add_str pins s σ w.H _ _ v u Q I rx ry ⟨_, _, rfl, rfl, g.1, a _ w _ M (Ext.refl w) R (rd_str.mpr rfl) g.2⟩
   | _ => exact False.elim g
  | tup l =>
   obtain ⟨l2, rfl, g2⟩ := onTup_inv g; clear g; have g := g2
   obtain ⟨a1, vs1, rfl, h1, r1⟩ := rd_tup.mp hx
   obtain ⟨a2, vs2, rfl, h2, r2⟩ := rd_tup.mp hy
   obtain ⟨g1, g2, g3⟩ := g
   refine op_catT pins s σ w.H _ _ v u Q I rx ry ⟨a1, a2, vs1, vs2, rfl, rfl, .of h1, .of h2, ?_, by rw [r1.length, r2.length]; exact g2, fun z => ?_, fun _ p hp => ?_⟩
   ·intro z; subst z; have := r1.length; simp at this; exact g1 (List.length_eq_zero_iff.mp this.symm)
   ·subst z
    cases r2.empty
    rw [List.append_nil] at g3
    exact a _ w _ M (Ext.refl w) R hx g3
   ·obtain ⟨x1, x2, x3⟩ := new_tup R hp (r1.append r2)
    exact a _ _ _ M x1 x2 x3 g3
  | ref n =>
   obtain ⟨n2, rfl, g2⟩ := onRef_inv g; clear g; have g := g2
   obtain ⟨h1, rfl⟩ := rd_ref.mp hx
   obtain ⟨h2, rfl⟩ := rd_ref.mp hy
   obtain ⟨xs, ys, g1, g2, g3, g4⟩ := g
   obtain ⟨_, vs1, q1, r1⟩ := R.list g1
   obtain ⟨_, vs2, q2, r2⟩ := R.list g2
   refine op_cat pins s σ w.H _ _ v u Q I rx ry ⟨_, _, vs1, vs2, rfl, rfl, q1, q2, by rw [r1.length, r2.length]; exact g3, fun p hp => ?_⟩
   obtain ⟨x1, x2, x3⟩ := new_list R hp (r1.append r2)
   exact a _ _ _ _ x1 x2 x3 g4
  | _ => exact False.elim g
 | mul =>
  cases dx with
  | int i =>
   obtain ⟨j, rfl, g2⟩ := onInt_inv g; clear g; have g := g2
   exact opF_int (o := opD .add) (C := IntMulOk) (k := fun i j => .int (i * j)) op_mulB (fun w i j => ri w _) I rx ry R hx hy g.1 g.2 a
  | ref n =>
   obtain ⟨k, rfl, g2⟩ := onInt_inv g; clear g; have g := g2
   obtain ⟨h1, rfl⟩ := rd_ref.mp hx
   cases rd_int.mp hy
   obtain ⟨xs, g1, g2, g3, g4, g5⟩ := g
   obtain ⟨_, vs1, q1, r1⟩ := R.list g1
   refine op_rep pins s σ w.H _ _ v u Q I rx ry ⟨_, _, vs1, rfl, rfl, q1, by omega, by omega, by rw [r1.length]; exact g4, fun p hp => ?_⟩
   obtain ⟨x1, x2, x3⟩ := new_list R hp (r1.rep _)
   exact a _ _ _ _ x1 x2 x3 g5
  | _ => exact False.elim g
 | sub =>
  obtain ⟨i, j, rfl, rfl, g2⟩ := ints2_inv g; clear g; have g := g2
  exact opF_int (o := opD .add) (C := fun _ _ => True) (k := fun i j => .int (i - j)) (rI0_I op_sub) (fun w i j => ri w _) I rx ry R hx hy trivial g a
 | fdiv =>
  obtain ⟨i, j, rfl, rfl, g2⟩ := ints2_inv g; clear g; have g := g2
  exact opF_int (o := opD .add) (C := CDivB) (k := fun i j => .int (qdiv i j)) op_fdivB (fun w i j => by rw [qdiv_eq]; exact ri w _) I rx ry R hx hy g.1 g.2 a
 | mod =>
  obtain ⟨i, j, rfl, rfl, g2⟩ := ints2_inv g; clear g; have g := g2
  exact opF_int (o := opD .add) (C := fun _ j => j ≠ 0) (k := fun i j => .int (qmod i j)) op_modN (fun w i j => by rw [qmod_eq]; exact ri w _) I rx ry R hx hy g.1 g.2 a
 | pow =>
  obtain ⟨i, j, rfl, rfl, g2⟩ := ints2_inv g; clear g; have g := g2
  exact opF_int (o := opD .add) (C := CPow) (k := fun i j => .int (i ^ j.toNat)) op_pow (fun w i j => ri w _) I rx ry R hx hy g.1 g.2 a
end
def rB (w0 : Vw) (g : Store → D → D → (Bool → Prop) → Prop) : R2 := fun x y H Q => ∃ w M dx dy QD, w.H = H ∧ w.K = w0.K ∧ RS w M ∧ RD w dx x ∧ RD w dy y ∧ g M dx dy QD ∧ ∀ b, QD b → Q (.bl b) H
mutual
theorem rep_of {w : Vw} {M : Store} (R : RS w M) : ∀ (da : PyData) {d : D} {v : V}, PD M da d → RD w d v → Rep w.K w.H da v
 | .none, d, v, h, r => by unfold PD at h; subst h; unfold Rep; exact rd_non.mp r
 | .bool b, d, v, h, r => by unfold PD at h; subst h; unfold Rep; exact rd_bl.mp r
 | .int b, d, v, h, r => by unfold PD at h; subst h; unfold Rep; exact rd_int.mp r
 | .str b, d, v, h, r => by unfold PD at h; subst h; unfold Rep; exact rd_str.mp r
 | .list xs, d, v, h, r => by
  unfold PD at h
  obtain ⟨n, ds, rfl, h1, h2⟩ := h
  obtain ⟨_, rfl⟩ := rd_ref.mp r
  obtain ⟨_, vs, q1, q2, _⟩ := R.listL h1
  unfold Rep
  exact ⟨_, vs, rfl, q1, repAll_of R xs h2 q2⟩
 | .tuple xs, d, v, h, r => by
  unfold PD at h
  obtain ⟨ds, rfl, h2⟩ := h
  obtain ⟨a, vs, rfl, q1, q2⟩ := rd_tup.mp r
  unfold Rep
  exact ⟨_, vs, rfl, .of q1, repAll_of R xs h2 q2⟩
 | .dict _, d, v, h, r => by unfold PD at h; exact h.elim
theorem repAll_of {w : Vw} {M : Store} (R : RS w M) : ∀ (xs : List PyData) {ds : List D} {vs : List V}, PDs M xs ds → RDs w ds vs → RepAll w.K w.H xs vs
 | [], ds, vs, h, r => by unfold PDs at h; subst h; unfold RDs at r; unfold RepAll; exact r
 | x :: xs, ds, vs, h, r => by
  unfold PDs at h
  obtain ⟨d, r', rfl, h1, h2⟩ := h
  unfold RDs at r
  obtain ⟨v, r2, rfl, q1, q2⟩ := r
  unfold RepAll
  exact ⟨v, r2, rfl, rep_of R x h1 q1, repAll_of R xs h2 q2⟩
end
theorem flat_rel {w : Vw} {d : D} {v : V} (f : flatD d = true) (r : RD w d v) : flatV v = true := by
 cases d <;> simp [flatD] at f
 ·cases rd_non.mp r; rfl
 ·cases rd_bl.mp r; rfl
 ·cases rd_int.mp r; rfl
 ·cases rd_str.mp r; rfl
theorem eqF_rel {w : Vw} {d e : D} {v u : V} (f : flatD d = true) (g : flatD e = true) (r : RD w d v) (q : RD w e u) : eqV v u = eqF d e := by
 cases d <;> simp [flatD] at f
 all_goals (cases e <;> simp [flatD] at g)
 all_goals first
  |(first | cases rd_non.mp r | cases rd_bl.mp r | cases rd_int.mp r | cases rd_str.mp r)
 all_goals first
  |(first | cases rd_non.mp q | cases rd_bl.mp q | cases rd_int.mp q | cases rd_str.mp q)
 all_goals rfl
theorem in_rel {w : Vw} {x : D} {v : V} (f : flatD x = true) (r : RD w x v) : ∀ {ds : List D} {vs : List V}, ds.all flatD = true → RDs w ds vs → inV v vs = inD x ds ∧ vs.all flatV = true
 | [], vs, _, h => by unfold RDs at h; subst h; exact ⟨rfl, rfl⟩
 | d :: ds, vs, g, h => by
  unfold RDs at h
  obtain ⟨v1, r1, rfl, h1, h2⟩ := h
  simp only [List.all_cons, Bool.and_eq_true] at g
  obtain ⟨i1, i2⟩ := in_rel f r g.2 h2
  refine ⟨?_, by simp only [List.all_cons, Bool.and_eq_true]; exact ⟨flat_rel g.1 h1, i2⟩⟩
  unfold inV inD at *
  rw [List.any_cons, List.any_cons, eqF_rel g.1 f h1 r, i1]
theorem RKV.val {w : Vw} : ∀ {ds : List (Key × D)} {vs : List (Key × V)} (k : Key), RKV w ds vs → (valD ds k = none ∧ valV vs k = none) ∨ ∃ d v, valD ds k = some d ∧ valV vs k = some v ∧ RD w d v
 | [], vs, k, h => by unfold RKV at h; subst h; exact .inl ⟨rfl, rfl⟩
 |(k', d) :: ds, vs, k, h => by
  unfold RKV at h
  obtain ⟨v, r, rfl, h1, h2⟩ := h
  by_cases e : k' = k
  ·exact .inr ⟨d, v, by simp [valD, List.find?_cons, e], by simp [valV, List.find?_cons, e], h1⟩
  ·have := RKV.val k h2
   simpa [valD, valV, List.find?_cons, e] using this
theorem RKV.length {w : Vw} : ∀ {ds : List (Key × D)} {vs : List (Key × V)}, RKV w ds vs → vs.length = ds.length
 | [], vs, h => by unfold RKV at h; subst h; rfl
 |(k', d) :: ds, vs, h => by
  unfold RKV at h
  obtain ⟨v, r, rfl, h1, h2⟩ := h
  simp [RKV.length h2]
theorem RKV.any {w : Vw} (k : Key) : ∀ {ds : List (Key × D)} {vs : List (Key × V)}, RKV w ds vs → (vs.any fun kv => decide (kv.1 = k)) = (ds.any fun kv => decide (kv.1 = k))
 | [], vs, h => by unfold RKV at h; subst h; rfl
 |(k', d) :: ds, vs, h => by
  unfold RKV at h
  obtain ⟨v, r, rfl, h1, h2⟩ := h
  simp [RKV.any k h2]
theorem RKV.repl {w : Vw} {k : Key} {d : D} {v : V} (q : RD w d v) : ∀ {ds : List (Key × D)} {vs : List (Key × V)}, RKV w ds vs → RKV w (ds.map fun kv => if kv.1 = k then (kv.1, d) else kv) (vs.map fun kv => if kv.1 = k then (kv.1, v) else kv)
 | [], vs, h => by unfold RKV at h; subst h; unfold RKV; rfl
 |(k', d') :: ds, vs, h => by
  unfold RKV at h
  obtain ⟨v', r, rfl, h1, h2⟩ := h
  simp only [List.map_cons]
  by_cases e : k' = k
  ·rw [if_pos e, if_pos e]
   unfold RKV
   exact ⟨v, _, rfl, q, RKV.repl q h2⟩
  ·rw [if_neg e, if_neg e]
   unfold RKV
   exact ⟨v', _, rfl, h1, RKV.repl q h2⟩
theorem RKV.snoc {w : Vw} {k : Key} {d : D} {v : V} (q : RD w d v) : ∀ {ds : List (Key × D)} {vs : List (Key × V)}, RKV w ds vs → RKV w (ds ++ [(k, d)]) (vs ++ [(k, v)])
 | [], vs, h => by unfold RKV at h; subst h; unfold RKV; exact ⟨v, [], rfl, q, by unfold RKV; rfl⟩
 |(k', d') :: ds, vs, h => by
  unfold RKV at h
  obtain ⟨v', r, rfl, h1, h2⟩ := h
  show RKV w ((k', d') :: (ds ++ [(k, d)])) _
  unfold RKV
  exact ⟨v', _, rfl, h1, RKV.snoc q h2⟩
theorem RKV.put {w : Vw} {k : Key} {d : D} {v : V} (q : RD w d v) {ds : List (Key × D)} {vs : List (Key × V)} (h : RKV w ds vs) : RKV w (putD ds k d) (putK vs k v) := by
 unfold putD putK
 rw [h.any k]
 split
 ·exact h.repl q
 ·exact h.snoc q
theorem keyD_kV {w : Vw} {d : D} {k : Key} {v : V} (h : keyD d = some k) (r : RD w d v) : v = kV k := by
 cases d <;> simp [keyD] at h
 ·subst h; exact rd_int.mp r
 ·subst h; exact rd_str.mp r
section
variable {X : Cx} {w0 : Vw}
def cmOf : Cm → CmpOp
 | .lt => .Lt | .gt => .Gt | .ge => .GtE | .eq => .Eq | .ne => .NotEq | .is => .Is | .isin => .In | .notin => .NotIn
theorem op_neD (hu : X.A.units + 64 < cLine) : OpR X (compareOp .NotEq) (rEqD X.K true) := by
 intro pins s σ H x y v u Q I rx ry h
 obtain ⟨da, db, h1, h2, h3, h4, h5, q⟩ := h
 obtain ⟨as, q1⟩ := Rep.reads I da x v h1 rx
 obtain ⟨bs, q2⟩ := Rep.reads I db y u h2 ry
 exact PySem.SeqAt.compareNe_reads q1 q2 h3 h4 (by omega) ⟨.bl _, H, I, rfl, q⟩
theorem dict_hits {w : Vw} {pins : List (Addr × Obj)} {σ : L2.St} {s : Shared} {A : Around} {b : List (Key × D)} {vb : List (Key × V)} {ub : List (Key × Value)} (rb : RKV w b vb) (kb : KV vb ub) (fb : (b.all fun kv => flatD kv.2) = true) :
  ∀ {a : List (Key × D)} {va : List (Key × V)} {ua : List (Key × Value)}, (a.all fun kv => flatD kv.2) = true → RKV w a va → KV va ua → PySem.W.KeqHits A s ub ua (a.all fun kv => match valD b kv.1 with
   | some y => eqF kv.2 y
   | none => false)
 | [], va, ua, _, h, k => by
  unfold RKV at h; subst h
  cases k
  exact .nil
 |(k0, d) :: a, va, ua, f, h, k => by
  unfold RKV at h
  obtain ⟨v, r, rfl, h1, h2⟩ := h
  simp only [List.all_cons, Bool.and_eq_true] at f
  cases k with
  | @cons _ q _ ur hk kr =>
   obtain ⟨k1, u⟩ := q
   obtain ⟨e1, e2⟩ := hk
   dsimp only at e1 e2
   subst e1
   have ih := dict_hits (A := A) (s := s) (pins := pins) (σ := σ) rb kb fb f.2 h2 kr
   rw [List.all_cons]
   rcases rb.val k0 with ⟨n1, n2⟩ | ⟨y, vy, n1, n2, n3⟩
   ·have hz := kb.val k0
    rw [n2] at hz
    have hz' : valueAt ub k0 = none := RelO.none_of hz
    simp only [n1, Bool.false_and]
    exact .miss hz'
   ·have hz := kb.val k0
    rw [n2] at hz
    obtain ⟨uy, ey, ry⟩ := hz.some_of
    have fy : flatD y = true := by
     have hm : (k0, y) ∈ b := by
      unfold valD at n1
      obtain ⟨p, hp, e⟩ := Option.map_eq_some_iff.mp n1
      have := List.find?_some hp
      have hk : p.1 = k0 := of_decide_eq_true this
      have := List.mem_of_find?_eq_some hp
      rw [← e, ← hk]; exact this
     exact (List.all_eq_true.mp fb) _ hm
    simp only [n1]
    refine .hit ey ?_ ih
    rw [← eqF_rel f.1 fy h1 n3]
    exact eqAt_V e2 ry (flat_rel f.1 h1) (flat_rel fy n3)
theorem eq_sound (hK : X.K = w0.K) (hu : X.A.units + 64 < cLine) (neg : Bool) : OpR X (compareOp (if neg then .NotEq else .Eq)) (rB w0 fun M x y Q => eqD M x y fun b => Q (if neg then !b else b)) := by
 intro pins s σ H x y v u Q I rx ry h
 obtain ⟨w, M, dx, dy, QD, rfl, e0, R, hx, hy, g, a⟩ := h
 have key : ∀ b : Bool, (scal x y = true ∧ decide (x = y) = b) → QD (if neg then !b else b) → wpAny (model X.prog X.w) X.A (compareOp (if neg then .NotEq else .Eq) v u) (EP X pins σ Q) X.xe s := by
  intro b ⟨h1, h2⟩ hq
  cases neg with
  | true => exact op_ne pins s σ w.H x y v u Q I rx ry ⟨h1, by rw [h2]; exact a _ hq⟩
  | false => exact op_eq pins s σ w.H x y v u Q I rx ry ⟨h1, by rw [h2]; exact a _ hq⟩
 unfold eqD at g
 split at g
 ·cases rd_int.mp hx; cases rd_int.mp hy
  exact key _ ⟨rfl, by simp⟩ g
 ·cases rd_str.mp hx; cases rd_str.mp hy
  exact key _ ⟨rfl, by simp⟩ g
 ·cases rd_bl.mp hx; cases rd_bl.mp hy
  exact key _ ⟨rfl, by simp⟩ g
 ·cases rd_non.mp hx; cases rd_non.mp hy
  exact key _ ⟨rfl, by simp⟩ g
 ·cases rd_non.mp hx; cases rd_int.mp hy
  exact key _ ⟨rfl, by simp⟩ g
 ·cases rd_int.mp hx; cases rd_non.mp hy
  exact key _ ⟨rfl, by simp⟩ g
 ·cases rd_non.mp hx; cases rd_bl.mp hy
  exact key _ ⟨rfl, by simp⟩ g
 ·cases rd_bl.mp hx; cases rd_non.mp hy
  exact key _ ⟨rfl, by simp⟩ g
 ·cases rd_non.mp hx; cases rd_str.mp hy
  exact key _ ⟨rfl, by simp⟩ g
 ·cases rd_str.mp hx; cases rd_non.mp hy
  exact key _ ⟨rfl, by simp⟩ g
 ·cases rd_int.mp hx; cases rd_str.mp hy
  exact key _ ⟨rfl, by simp⟩ g
 ·cases rd_str.mp hx; cases rd_int.mp hy
  exact key _ ⟨rfl, by simp⟩ g
 ·cases rd_bl.mp hx; cases rd_str.mp hy
  exact key _ ⟨rfl, by simp⟩ g
 ·cases rd_str.mp hx; cases rd_bl.mp hy
  exact key _ ⟨rfl, by simp⟩ g
 ·rcases g with ⟨da, db, p1, p2, p3, p4, p5, g⟩ | ⟨m, n, ka, kb, rfl, rfl, p1, p2, f1, f2, g⟩
  ·have q1 := rep_of R da p1 hx
   have q2 := rep_of R db p2 hy
   rw [e0, ← hK] at q1 q2
   cases neg with
   | true => exact op_neD hu pins s σ w.H x y v u Q I rx ry ⟨da, db, q1, q2, p3, p4, p5, a _ g⟩
   | false => exact op_eqD hu pins s σ w.H x y v u Q I rx ry ⟨da, db, q1, q2, p3, p4, p5, a _ g⟩
  ·obtain ⟨_, rfl⟩ := rd_ref.mp hx
   obtain ⟨_, rfl⟩ := rd_ref.mp hy
   obtain ⟨_, va, ha, ra⟩ := R.dict p1
   obtain ⟨_, vb, hb, rb⟩ := R.dict p2
   cases (show v = Value.ref (w.μ m) from rx)
   cases (show u = Value.ref (w.μ n) from ry)
   obtain ⟨_, s1, ua, k1, d1⟩ := dk_of I.hok ha
   obtain ⟨_, s2, ub, k2, d2⟩ := dk_of I.hok hb
   have hits := dict_hits (A := X.A.in1) (s := s) (pins := pins) (σ := σ) rb k2 f2 f1 ra k1
   have hl : (ua.length == ub.length && (ka.all fun kv => match valD kb kv.1 with
    | some y => eqF kv.2 y
    | none => false)) = eqKV ka kb := by
    unfold eqKV
    rw [← k1.length, ← k2.length, ra.length, rb.length]
    all_goals rfl
   cases neg with
   | true => exact PySem.W.keq_ne s1 s2 d1 d2 (by omega) (fun _ => hits) ⟨.bl _, w.H, I, rfl, by rw [hl]; exact a _ g⟩
   | false => exact PySem.W.keq_eq s1 s2 d1 d2 (by omega) (fun _ => hits) ⟨.bl _, w.H, I, rfl, by rw [hl]; exact a _ g⟩
theorem in_sound (hK : X.K = w0.K) (hu : X.A.units + 64 < cLine) (neg : Bool) : OpR X (compareOp (if neg then .NotIn else .In)) (rB w0 fun M x y Q => inQ M x y fun b => Q (if neg then !b else b)) := by
 intro pins s σ H x y v u Q I rx ry h
 obtain ⟨w, M, dx, dy, QD, rfl, e0, R, hx, hy, g, a⟩ := h
 have seq : ∀ {p : Addr} {vs : List V} {xs : List D}, y = .ref p → (SqL X.K w.H p vs ∨ SqT X.K w.H p vs) → RDs w xs vs → flatD dx = true → xs.all flatD = true → QD (if neg then !inD dx xs else inD dx xs) →
   wpAny (model X.prog X.w) X.A (compareOp (if neg then .NotIn else .In) v u) (EP X pins σ Q) X.xe s := by
  intro p vs xs ey q1 q2 g2 g3 g4
  obtain ⟨i1, i2⟩ := in_rel g2 hx g3 q2
  cases neg with
  | true => exact op_notIn_seq pins s σ w.H _ _ v u Q I rx ry ⟨p, vs, ey, q1, flat_rel g2 hx, i2, by rw [i1]; exact a _ g4⟩
  | false => exact op_in_seq pins s σ w.H _ _ v u Q I rx ry ⟨p, vs, ey, q1, flat_rel g2 hx, i2, by rw [i1]; exact a _ g4⟩
 unfold inQ at g
 split at g
 ·cases rd_str.mp hx; cases rd_str.mp hy
  cases neg with
  | true => exact op_notin_str pins s σ w.H _ _ v u Q I rx ry ⟨_, _, rfl, rfl, a _ g⟩
  | false => exact op_in_str pins s σ w.H _ _ v u Q I rx ry ⟨_, _, rfl, rfl, a _ g⟩
 ·obtain ⟨_, rfl⟩ := rd_ref.mp hy
  rcases g with ⟨xs, g1, g2, g3, g4⟩ | ⟨kvs, k, g1, g2, g3⟩
  ·obtain ⟨_, vs, q1, q2, _⟩ := R.listL g1
   rw [e0, ← hK] at q1
   exact seq rfl (.inl q1) q2 g2 g3 g4
  ·obtain ⟨_, vs, q1, q2⟩ := R.dict g1
   cases keyD_kV g2 hx
   cases (show u = Value.ref _ from ry)
   have hv : valV vs k = none ∧ valD kvs k = none ∨ ∃ d v', valD kvs k = some d ∧ valV vs k = some v' := by
    rcases q2.val k with ⟨n1, n2⟩ | ⟨d, v', n1, n2, _⟩
    ·exact .inl ⟨n2, n1⟩
    ·exact .inr ⟨d, v', n1, n2⟩
   have hb : (valV vs k).isSome = (valD kvs k).isSome := by
    rcases hv with ⟨n1, n2⟩ | ⟨d, v', n1, n2⟩
    ·rw [n1, n2]; rfl
    ·rw [n1, n2]; rfl
   have hu1 : X.A.units + 1 < cLine := by omega
   cases neg with
   | true => exact d_notIn hu1 I (DGet.k (k := k) q1) rx fun s' I' => ⟨.bl (!(valV vs k).isSome), w.H, I', rfl, by rw [hb]; exact a _ g3⟩
   | false => exact d_in hu1 I (DGet.k (k := k) q1) rx fun s' I' => ⟨.bl (valV vs k).isSome, w.H, I', rfl, by rw [hb]; exact a _ g3⟩
 ·obtain ⟨p, vs, e, q1, q2⟩ := rd_tup.mp hy
  exact seq e (.inr (.of q1)) q2 g.1 g.2.1 g.2.2
 ·obtain ⟨p, vs, e, q1, q2⟩ := rd_gtup.mp hy
  rw [e0, ← hK] at q1
  exact seq e (.inr q1) q2 g.1 g.2.1 g.2.2
 ·exact g.elim
theorem cm_sound (hK : X.K = w0.K) (hu : X.A.units + 64 < cLine) (op : Cm) : OpR X (compareOp (cmOf op)) (rB w0 fun M => cmD M op) := by
 intro pins s σ H x y v u Q I rx ry h
 obtain ⟨w, M, dx, dy, QD, rfl, e0, R, hx, hy, g, a⟩ := h
 cases op with
 | lt =>
  obtain ⟨i, j, rfl, rfl, g2⟩ := ints2_inv g; clear g; have g := g2
  cases rd_int.mp hx; cases rd_int.mp hy
  exact op_lt pins s σ w.H _ _ v u Q I rx ry ⟨_, _, rfl, rfl, a _ g⟩
 | gt =>
  obtain ⟨i, j, rfl, rfl, g2⟩ := ints2_inv g; clear g; have g := g2
  cases rd_int.mp hx; cases rd_int.mp hy
  exact op_gt pins s σ w.H _ _ v u Q I rx ry ⟨_, _, rfl, rfl, a _ g⟩
 | ge =>
  obtain ⟨i, j, rfl, rfl, g2⟩ := ints2_inv g; clear g; have g := g2
  cases rd_int.mp hx; cases rd_int.mp hy
  exact op_ge pins s σ w.H _ _ v u Q I rx ry ⟨_, _, rfl, rfl, a _ g⟩
 | eq =>
  exact eq_sound hK hu false pins s σ w.H x y v u Q I rx ry ⟨w, M, _, _, QD, rfl, e0, R, hx, hy, g, a⟩
 | ne =>
  exact eq_sound hK hu true pins s σ w.H x y v u Q I rx ry ⟨w, M, _, _, QD, rfl, e0, R, hx, hy, g, a⟩
 | is =>
  cases dy with
  | non =>
   cases dx with
   | non =>
    cases rd_non.mp hx; cases rd_non.mp hy
    exact op_isN pins s σ w.H _ _ v u Q I rx ry ⟨rfl, a _ g⟩
   | bl b =>
    cases rd_bl.mp hx; cases rd_non.mp hy
    exact op_isN pins s σ w.H _ _ v u Q I rx ry ⟨rfl, a _ g⟩
   | int i =>
    cases rd_int.mp hx; cases rd_non.mp hy
    exact op_isN pins s σ w.H _ _ v u Q I rx ry ⟨rfl, a _ g⟩
   | str z =>
    cases rd_str.mp hx; cases rd_non.mp hy
    exact op_isN pins s σ w.H _ _ v u Q I rx ry ⟨rfl, a _ g⟩
   | tup l =>
    obtain ⟨_, _, rfl, _⟩ := rd_tup.mp hx; cases rd_non.mp hy
    exact op_isN pins s σ w.H _ _ v u Q I rx ry ⟨rfl, a _ g⟩
   | ref n =>
    obtain ⟨_, rfl⟩ := rd_ref.mp hx; cases rd_non.mp hy
    exact op_isN pins s σ w.H _ _ v u Q I rx ry ⟨rfl, a _ g⟩
   | exn e C d q =>
    obtain ⟨rfl, _⟩ := rd_exn.mp hx; cases rd_non.mp hy
    exact op_isN pins s σ w.H _ _ v u Q I rx ry ⟨rfl, a _ g⟩
   | _ => exact False.elim g
  | _ => exact False.elim g
 | isin =>
  exact in_sound hK hu false pins s σ w.H x y v u Q I rx ry ⟨w, M, _, _, QD, rfl, e0, R, hx, hy, g, a⟩
 | notin =>
  exact in_sound hK hu true pins s σ w.H x y v u Q I rx ry ⟨w, M, _, _, QD, rfl, e0, R, hx, hy, g, a⟩
end
theorem RKV.isEmpty {w : Vw} {ds : List (Key × D)} {vs : List (Key × V)} (h : RKV w ds vs) : vs.isEmpty = ds.isEmpty := by
 cases ds with
 | nil => unfold RKV at h; subst h; rfl
 | cons p ds => obtain ⟨k, d⟩ := p; unfold RKV at h; obtain ⟨v, r, rfl, _⟩ := h; rfl
theorem RDs.isEmpty {w : Vw} {ds : List D} {vs : List V} (h : RDs w ds vs) : vs.isEmpty = ds.isEmpty := by
 cases ds with
 | nil => unfold RDs at h; subst h; rfl
 | cons d ds => unfold RDs at h; obtain ⟨v, r, rfl, _⟩ := h; rfl
theorem tru_sound {K : PySem.W.Frag} {w : Vw} {M : Store} {d : D} {x : V} {QD : Bool → Prop} (hK : w.K = K) (R : RS w M) (r : RD w d x) (g : truD M d QD) : ∃ k, TruV K x w.H k ∧ QD k := by
 unfold truD at g
 split at g
 ·cases rd_non.mp r; exact ⟨_, rfl, g⟩
 ·cases rd_bl.mp r; exact ⟨_, rfl, g⟩
 ·cases rd_int.mp r; exact ⟨_, rfl, g⟩
 ·cases rd_str.mp r; exact ⟨_, ⟨g.1, rfl⟩, g.2⟩
 ·obtain ⟨a, vs, rfl, q1, q2⟩ := rd_tup.mp r
  exact ⟨_, .inr (.inl ⟨vs, .of q1, rfl⟩), by rw [q2.isEmpty]; exact g⟩
 ·obtain ⟨_, rfl⟩ := rd_ref.mp r
  rcases g with ⟨xs, g1, g2⟩ | ⟨xs, g1, g2⟩
  ·obtain ⟨_, vs, q1, q2, _⟩ := R.listL g1
   rw [hK] at q1
   exact ⟨_, .inl ⟨vs, q1, rfl⟩, by rw [q2.isEmpty]; exact g2⟩
  ·obtain ⟨_, vs, q1, q2⟩ := R.dict g1
   exact ⟨_, .inr (.inr ⟨vs, q1, rfl⟩), by rw [q2.isEmpty]; exact g2⟩
 ·exact g.elim
theorem atI_rel {w : Vw} {xs : List D} {vs : List V} {i : Int} {d : D} (r : RDs w xs vs) (h : atI xs i = some d) : ∃ v, atI vs i = some v ∧ RD w d v := by
 unfold atI at *
 rw [r.length]
 obtain ⟨j, h1, h2⟩ := Option.bind_eq_some_iff.mp h
 obtain ⟨v, q1, q2⟩ := r.get h2
 exact ⟨v, by rw [h1]; exact q1, q2⟩
theorem cut_rel {w : Vw} {xs : List D} {vs : List V} {lo hi : Option Int} (r : RDs w xs vs) : RDs w (cutD xs lo hi) (cutV vs lo hi) := by
 unfold cutD cutV
 rw [r.length]
 exact (r.drop _).take _
section
variable {X : Cx} {w0 : Vw}
theorem ix_dict (hu : X.A.units + 1 < cLine) : IxR X (fun x y H Q => ∃ a v, x = .ref a ∧ DGet H a y (some v) ∧ Q v H) := by
 intro value slice pins s σ H x y v u Q I rx ry h hs
 obtain ⟨a, vv, rfl, g, q⟩ := h
 cases rx
 have hT := dict_typeIs I g
 have h₂ : wpAny (model X.prog X.w) X.A (getItem (.ref a) u) (EP X pins σ Q) X.xe s := d_getItem hu I g ry fun w' s3 I3 rw' => ⟨vv, H, I3, rw', q⟩
 unfold subscriptTail
 refine wpAny_bind ?_
 rw [getitemInPython_of_ne hT.not_modules]
 refine wpAny_bind (wpAny_specialOf hT PySem.F.slot_dict_getitem.lookup ?_)
 have fin : wpAny (model X.prog X.w) X.A (subscripted slice false (.ref a) u) (fun r s₃ => wpAny (model X.prog X.w) X.A (letTemporaryGo value (.ref a) r >>= fun _ => pure r) (EP X pins σ Q) X.xe s₃) X.xe s := by
  rw [hs]
  exact wpAny_operating (wpAny_mono h₂ (fun r s₃ h₃ => wpAny_bind (wpAny_letTemporaryGo (wpAny_pure h₃))) fun _ _ x => x)
 first
  | exact wpAny_pure (wpAny_bind fin)
  | exact wpAny_bind (wpAny_pure (wpAny_bind fin))
  | exact wpAny_bind fin
def rX (w0 : Vw) : R2 := fun x y H Q => ∃ w M dx dy QD, w.H = H ∧ w.K = w0.K ∧ RS w M ∧ RD w dx x ∧ RD w dy y ∧ ixD M dx dy QD ∧ ∀ d v, QD d → RD w d v → Q v H
theorem ix_sound (hK : X.K = w0.K) (hu : X.A.units + 64 < cLine) : IxR X (rX w0) := by
 intro value slice pins s σ H x y v u Q I rx ry h hs
 obtain ⟨w, M, dx, dy, QD, rfl, e0, R, hx, hy, g, a⟩ := h
 unfold ixD at g
 split at g
 ·obtain ⟨_, rfl⟩ := rd_ref.mp hx
  rcases g with ⟨xs, i, d, rfl, g1, g2, g3⟩ | ⟨kvs, k, d, g1, g2, g3, g4⟩
  ·cases rd_int.mp hy
   obtain ⟨_, vs, q1, q2, _⟩ := R.listL g1
   rw [e0, ← hK] at q1
   obtain ⟨vv, z1, z2⟩ := atI_rel q2 g2
   exact ix_list value slice pins s σ w.H _ _ v u Q I rx ry ⟨_, vs, i, vv, rfl, rfl, q1, z1, a _ _ g3 z2⟩ hs
  ·obtain ⟨vs, q1, q2⟩ := R.dictF g1
   cases keyD_kV g2 hy
   rcases q2.val k with ⟨n1, n2⟩ | ⟨d', v', n1, n2, n3⟩
   ·rw [n1] at g3; cases g3
   ·rw [n1] at g3; cases g3
    refine ix_dict (by omega) value slice pins s σ w.H _ _ v u Q I rx ry ⟨_, v', rfl, ?_, a _ _ g4 n3⟩ hs
    have : DGet w.H (w.μ _) (kV k) (valV vs k) := .inl ⟨vs, k, q1, rfl, rfl⟩
    rw [n2] at this
    exact this
 ·cases rd_int.mp hy
  obtain ⟨p, vs, rfl, q1, q2⟩ := rd_tup.mp hx
  obtain ⟨d, g1, g2⟩ := g
  obtain ⟨vv, z1, z2⟩ := atI_rel q2 g1
  exact ix_tup value slice pins s σ w.H _ _ v u Q I rx ry ⟨_, vs, _, vv, rfl, rfl, .of q1, z1, a _ _ g2 z2⟩ hs
 ·cases rd_int.mp hy
  obtain ⟨p, vs, rfl, q1, q2⟩ := rd_gtup.mp hx
  rw [e0, ← hK] at q1
  obtain ⟨d, g1, g2⟩ := g
  obtain ⟨vv, z1, z2⟩ := atI_rel q2 g1
  exact ix_tup value slice pins s σ w.H _ _ v u Q I rx ry ⟨_, vs, _, vv, rfl, rfl, q1, z1, a _ _ g2 z2⟩ hs
 ·cases rd_int.mp hy; cases rd_str.mp hx
  obtain ⟨g0, c, g1, g2⟩ := g
  exact ix_str value slice pins s σ w.H _ _ v u Q I rx ry ⟨_, _, c, rfl, rfl, g0, g1, a _ _ g2 (rd_str.mpr rfl)⟩ hs
 ·exact g.elim
theorem sl_str : SlR X (fun x lo hi H Q => ∃ z, x = .str z ∧ z.length ≤ sizeLine ∧ Q (.str (Txt.slice z lo hi)) H) := by
 intro pins s σ H x v vl vu lo hi sl Q I rx hs pl pu h
 obtain ⟨z, rfl, hz, q⟩ := h
 obtain ⟨t, rfl⟩ := rx
 have key : ∀ l u : Option (Int × Tok), l.map (·.1) = lo → u.map (·.1) = hi → vl = partValue l → vu = partValue u → wpAny (model X.prog X.w) X.A (getItem (.str z t) (.ref sl)) (EP X pins σ Q) X.xe s := by
  intro l u e1 e2 e3 e4
  subst e1 e2 e3 e4
  refine wpAny_getItem_str_slice (l := l) (u := u) (st := none) hs rfl ?_
  exact post_val_or_str ⟨Nat.le_trans (Txt.slice_le z _ _) hz, fun t' k => ⟨.str (Txt.slice z _ _), H, I.tok _, ⟨_, rfl⟩, q⟩⟩
 refine ⟨"str", _, PySem.F.slot_str_getitem.lookup, typeIs_str _ _ _, ?_⟩
 cases pl with
 | none =>
  cases pu with
  | none => exact key none none rfl rfl rfl rfl
  | int j tj => exact key none (some (j, tj)) rfl rfl rfl rfl
 | int i ti =>
  cases pu with
  | none => exact key (some (i, ti)) none rfl rfl rfl rfl
  | int j tj => exact key (some (i, ti)) (some (j, tj)) rfl rfl rfl rfl
def rSl (w0 : Vw) : V → Option Int → Option Int → Hp → VK → Prop := fun x lo hi H Q => ∃ w M dx QD, w.H = H ∧ w.K = w0.K ∧ RS w M ∧ RD w dx x ∧ slD dx lo hi M QD ∧ Aft w QD Q
theorem sl_sound (hK : X.K = w0.K) : SlR X (rSl w0) := by
 intro pins s σ H x v vl vu lo hi sl Q I rx hs pl pu h
 obtain ⟨w, M, dx, QD, rfl, e0, R, hx, g, a⟩ := h
 unfold slD at g
 split at g
 ·cases rd_str.mp hx
  exact sl_str pins s σ w.H _ v vl vu _ _ sl Q I rx hs pl pu ⟨_, rfl, g.1, a _ w _ M (Ext.refl w) R (rd_str.mpr rfl) g.2⟩
 ·obtain ⟨_, rfl⟩ := rd_ref.mp hx
  obtain ⟨xs, g1, g2⟩ := g
  obtain ⟨_, vs, q1, q2, _⟩ := R.listL g1
  rw [e0, ← hK] at q1
  refine sl_list pins s σ w.H _ v vl vu _ _ sl Q I rx hs pl pu ⟨_, vs, rfl, q1, fun p hp => ?_⟩
  obtain ⟨x1, x2, x3⟩ := new_list R hp (cut_rel (lo := lo) (hi := hi) q2)
  exact a _ _ _ _ x1 x2 x3 g2
 ·obtain ⟨p, vs, rfl, q1, q2⟩ := rd_tup.mp hx
  refine sl_tup pins s σ w.H _ v vl vu _ _ sl Q I rx hs pl pu ⟨_, vs, rfl, .of q1, by rw [q2.length]; exact g.1, fun p hp => ?_⟩
  obtain ⟨x1, x2, x3⟩ := new_tup R hp (cut_rel (lo := lo) (hi := hi) q2)
  exact a _ _ _ _ x1 x2 x3 g.2
 ·exact g.elim
def rC (w0 : Vw) (g : List D → Store → DK → Prop) : List V → Hp → VK → Prop := fun xs H Q => ∃ w M ds QD, w.H = H ∧ w.K = w0.K ∧ RS w M ∧ RDs w ds xs ∧ g ds M QD ∧ Aft w QD Q
def bfOf : Bf → Str × Value
 | .len => ("len", .builtin "len") | .isinst => ("isinstance", .builtin "isinstance") | .min2 => ("min", .builtin "min") | .max2 => ("max", .builtin "max") | .min1 => ("min", .builtin "min")
 | .list1 => ("list", .type "list") | .tuple1 => ("tuple", .type "tuple") | .dict1 => ("dict", .type "dict")
theorem rds1 {w : Vw} {d : D} {xs : List V} (h : RDs w [d] xs) : ∃ v, xs = [v] ∧ RD w d v := by
 unfold RDs at h
 obtain ⟨v, r, rfl, h1, h2⟩ := h
 unfold RDs at h2
 subst h2
 exact ⟨v, rfl, h1⟩
theorem rds2 {w : Vw} {d e : D} {xs : List V} (h : RDs w [d, e] xs) : ∃ v u, xs = [v, u] ∧ RD w d v ∧ RD w e u := by
 unfold RDs at h
 obtain ⟨v, r, rfl, h1, h2⟩ := h
 obtain ⟨u, rfl, h3⟩ := rds1 h2
 exact ⟨v, u, rfl, h1, h3⟩
theorem rds0 {w : Vw} {xs : List V} (h : RDs w [] xs) : xs = [] := by unfold RDs at h; exact h
theorem rds_cls {w : Vw} : ∀ {as : List Addr} {vs : List V}, RDs w (as.map D.cls) vs → vs = as.map V.ref
 | [], vs, h => rds0 h
 | a :: r, vs, h => by
  rw [List.map_cons] at h
  unfold RDs at h
  obtain ⟨v, vs', rfl, h1, h2⟩ := h
  rw [rd_cls.mp h1, rds_cls h2]
  rfl
def rIsXT (K : PySem.W.Frag) : List V → Hp → VK → Prop := fun xs H Q => ∃ (e C dx : Addr) (fs : List (Str × V)) (p : Addr) (as : List Addr) (b : Bool), xs = [.ref e, .ref p] ∧ H e = some (XO e (.ref C) (some dx)) ∧ H dx = some (.xd fs) ∧ ExcIs K C ∧ H p = some (.tup (as.map V.ref)) ∧ PySem.W.kitAny K (.ref C) (as.map Value.ref) = some b ∧ Q (.bl b) H
theorem vals_refs : ∀ {as : List Addr} {us : List Value}, Vals (as.map V.ref) us → us = as.map Value.ref
 | [], us, h => by cases h; rfl
 | a :: r, us, h => by
  cases h with
  | cons h1 h2 =>
   obtain rfl : _ = Value.ref a := h1
   rw [vals_refs h2]
   rfl
theorem call_isXT {X : Cx} : CallR X (.builtin "isinstance") (rIsXT X.K) := by
 intro pins s σ H xs us Q I r h
 obtain ⟨e, C, dx, fs, p, as, b, rfl, he, hd, S, hp, k, q⟩ := h
 obtain ⟨u, v, rfl, ru, rv⟩ := vals2 r
 obtain rfl : u = Value.ref e := ru
 obtain rfl : v = Value.ref p := rv
 obtain ⟨oe, od, mA, J, _⟩ := exc_inst I he hd
 obtain ⟨its, r', ⟨⟨oc, odd, dat, sl⟩, g1, g2, n, g3⟩, hz⟩ := I.tuple (.of hp)
 cases vals_refs r'
 dsimp only at g2 g3
 subst g2 g3
 exact PySem.W.kia_tup (kitx_exc S) I.kIn J g1 k (fun z => nomatch z) fun tk => ⟨.bl b, H, I.tok tk, rfl, q⟩
theorem rds_ints' {w : Vw} : ∀ {ns : List Int} {vs : List V}, RDs w (ns.map .int) vs → vs = ns.map V.int
 | [], vs, h => rds0 h
 | n :: ns, vs, h => by
  rw [List.map_cons] at h
  unfold RDs at h
  obtain ⟨v, r, rfl, h1, h2⟩ := h
  cases rd_int.mp h1
  rw [rds_ints' h2]; rfl
theorem tyD_of {K : PySem.W.Frag} {w : Vw} {M : Store} {d : D} {x : V} {t : String} (R : RS w M) (r : RD w d x) (h : tyD M d = some t) : TyOf K w.H x (.type t) := by
 unfold tyD at h
 split at h
 ·cases h; cases rd_non.mp r; exact .non
 ·cases h; cases rd_bl.mp r; exact .bl _
 ·cases h; cases rd_int.mp r; exact .int _
 ·cases h; cases rd_str.mp r; exact .str _
 ·cases h; obtain ⟨a, vs, rfl, q, _⟩ := rd_tup.mp r; exact .tup q
 ·obtain ⟨_, rfl⟩ := rd_ref.mp r
  split at h
  ·rename_i e; cases h; obtain ⟨vs, q, _⟩ := R.cell _ _ e; exact .lst q
  ·cases h
  ·rename_i e; cases h; obtain ⟨vs, q, _⟩ := R.cell _ _ e; exact .dK q
  ·cases h
  ·cases h
 ·cases h
theorem call_dict1 : CallR X (.type "dict") (fun xs H Q => ∃ a kvs, xs = [V.ref a] ∧ H a = some (.dK kvs) ∧ ∀ p, H p = none → Q (.ref p) (upd H p (.dK kvs))) := by
 intro pins s σ H xs us Q I r h
 obtain ⟨a, kvs, rfl, e, q⟩ := h
 obtain ⟨u, rfl, ru⟩ := vals1 r
 cases ru
 exact d_copyOf I (.inl e) fun p s' hp I' => ⟨.ref p, _, I', rfl, q p hp⟩
theorem rd_pairs {w : Vw} : ∀ {ps : List (Key × D)} {vs : List V}, RDs w (pairD ps) vs → ∃ qs, PairsV w.K w.H vs qs ∧ RKV w ps qs
 | [], vs, h => by
  cases vs with
  | nil => exact ⟨[], trivial, by unfold RKV; rfl⟩
  | cons _ _ => have := h.length; simp [pairD] at this
 | p :: ps, vs, h => by
  change RDs w (D.tup [kD p.1, p.2] :: pairD ps) vs at h
  unfold RDs at h
  obtain ⟨v, vr, rfl, r1, r2⟩ := h
  obtain ⟨t, us, rfl, q1, q2⟩ := rd_tup.mp r1
  obtain ⟨u1, u2, rfl, s1, s2⟩ := rds2 q2
  obtain ⟨qs, h1, h2⟩ := rd_pairs r2
  have e : u1 = kV p.1 := by
   cases hk : p.1 with
   | inl i => rw [hk] at s1; exact rd_int.mp s1
   | inr x => rw [hk] at s1; exact rd_str.mp s1
  subst e
  exact ⟨(p.1, u2) :: qs, ⟨⟨t, rfl, .of q1⟩, h1⟩, by unfold RKV; exact ⟨u2, qs, rfl, s2, h2⟩⟩
theorem rkv_fold {w : Vw} : ∀ {ps : List (Key × D)} {qs : List (Key × V)} {ds : List (Key × D)} {vs : List (Key × V)}, RKV w ps qs → RKV w ds vs → RKV w (ps.foldl (fun m p => putD m p.1 p.2) ds) (qs.foldl (fun m p => putK m p.1 p.2) vs)
 | [], qs, ds, vs, h, g => by unfold RKV at h; subst h; exact g
 | p :: ps, qs, ds, vs, h, g => by
  unfold RKV at h
  obtain ⟨v, r, rfl, h1, h2⟩ := h
  rw [List.foldl_cons, List.foldl_cons]
  exact rkv_fold (ps := ps) (qs := r) h2 (RKV.put (k := p.1) h1 g)
def bfCalm0 : Bf → Bool
 | .min2 | .max2 | .min1 | .dict1 => false
 | _ => true
theorem rkv_vals {w : Vw} : ∀ {ds : List (Key × D)} {vs : List (Key × V)}, RKV w ds vs → RDs w (ds.map (·.2)) (vs.map (·.2))
 | [], vs, h => by unfold RKV at h; subst h; exact RDs.nil w
 |(k, d) :: ds, vs, h => by
  unfold RKV at h
  obtain ⟨v, r, rfl, h1, h2⟩ := h
  exact RDs.cons h1 (rkv_vals h2)
theorem rds_keys {w : Vw} : ∀ {ks : List Key} {vs : List V}, RDs w (ks.map kD) vs → vs = ks.map kV
 | [], vs, h => rds0 h
 | k :: ks, vs, h => by
  rw [List.map_cons] at h
  unfold RDs at h
  obtain ⟨v, r, rfl, h1, h2⟩ := h
  rw [rds_keys h2]
  cases k with
  | inl i => cases rd_int.mp h1; rfl
  | inr x => cases rd_str.mp h1; rfl
theorem bf_sound (hK : X.K = w0.K) (b : Bf) (hc : X.calm = true ∨ bfCalm0 b = true) : CallR X (bfOf b).2 (rC w0 (bfD w0.K b)) := by
 intro pins s σ H xs us Q I r h
 obtain ⟨w, M, ds, QD, rfl, e0, R, hx, g, a⟩ := h
 cases b with
 | len =>
  obtain ⟨x, rfl, g2⟩ := at1_inv g; clear g; have g := g2
  cases x with
  | ref n =>
   obtain ⟨v, rfl, r1⟩ := rds1 hx
   obtain ⟨_, rfl⟩ := rd_ref.mp r1
   rcases g with ⟨xs, g1, g2⟩ | ⟨xs, g1, g2⟩
   ·obtain ⟨_, vs, q1, q2, _⟩ := R.listL g1
    rw [e0, ← hK] at q1
    exact call_len_seq pins s σ w.H _ us Q I r ⟨_, vs, rfl, .inl q1, a _ w _ M (Ext.refl w) R (rd_int.mpr (by rw [q2.length])) g2⟩
   ·obtain ⟨_, vs, q1, q2⟩ := R.dict g1
    exact call_lenD pins s σ w.H _ us Q I r ⟨_, vs, rfl, q1, a _ w _ M (Ext.refl w) R (rd_int.mpr (by rw [q2.length])) g2⟩
  | tup l =>
   obtain ⟨v, rfl, r1⟩ := rds1 hx
   obtain ⟨p, vs, rfl, q1, q2⟩ := rd_tup.mp r1
   exact call_len_seq pins s σ w.H _ us Q I r ⟨_, vs, rfl, .inr (.of q1), a _ w _ M (Ext.refl w) R (rd_int.mpr (by rw [q2.length])) g⟩
  | str z =>
   obtain ⟨v, rfl, r1⟩ := rds1 hx
   cases rd_str.mp r1
   exact call_len_str pins s σ w.H _ us Q I r ⟨_, rfl, g.1, a _ w _ M (Ext.refl w) R (rd_int.mpr rfl) g.2⟩
  | _ => exact False.elim g
 | isinst =>
  obtain ⟨x, y, rfl, g2⟩ := at2_inv g; clear g; have g := g2
  obtain ⟨v, u, rfl, r1, r2⟩ := rds2 hx
  unfold isD at g
  split at g
  ·obtain ⟨b, g1, g2, g3⟩ := g
   obtain ⟨rfl, q1, row, q2, q3⟩ := rd_exn.mp r1
   cases rd_cls.mp r2
   rw [← hK] at g1 g2
   exact call_isX pins s σ w.H _ us Q I r ⟨_, _, _, _, _, _, b, rfl, q1, q2, g1, fun u hu => hu, g2, a _ w _ M (Ext.refl w) R (rd_bl.mpr rfl) g3⟩
  ·obtain ⟨b, g1, g2, g3⟩ := g
   obtain ⟨rfl, q1, row, q2, q3⟩ := rd_exn.mp r1
   cases rd_ty.mp r2
   rw [← hK] at g1 g2
   exact call_isX pins s σ w.H _ us Q I r ⟨_, _, _, _, _, _, b, rfl, q1, q2, g1, fun u hu => hu, g2, a _ w _ M (Ext.refl w) R (rd_bl.mpr rfl) g3⟩
  ·obtain ⟨as, b, rfl, g1, g2, g3⟩ := g
   obtain ⟨rfl, q1, row, q2, q3⟩ := rd_exn.mp r1
   obtain ⟨p, vs, rfl, q4, q5⟩ := rd_tup.mp r2
   cases rds_cls q5
   rw [← hK] at g1 g2
   exact call_isXT pins s σ w.H _ us Q I r ⟨_, _, _, _, _, _, b, rfl, q1, q2, g1, q4, g2, a _ w _ M (Ext.refl w) R (rd_bl.mpr rfl) g3⟩
  ·obtain ⟨t, b, g1, g2, g3⟩ := g
   cases rd_ty.mp r2
   rw [← hK] at g2
   exact call_isB pins s σ w.H _ us Q I r ⟨_, _, _, b, rfl, tyD_of R r1 g1, g2, a _ w _ M (Ext.refl w) R (rd_bl.mpr rfl) g3⟩
  ·exact g.elim
 | min2 =>
  obtain ⟨x, y, rfl, g2⟩ := at2_inv g; clear g; have g := g2
  obtain ⟨i, j, rfl, rfl, g2⟩ := ints2_inv g; clear g; have g := g2
  obtain ⟨v, u, rfl, r1, r2⟩ := rds2 hx
  cases rd_int.mp r1; cases rd_int.mp r2
  exact call_min2 (hc.resolve_right (by simp [bfCalm0])) pins s σ w.H _ us Q I r ⟨_, _, rfl, a _ w _ M (Ext.refl w) R (rd_int.mpr rfl) g⟩
 | max2 =>
  obtain ⟨x, y, rfl, g2⟩ := at2_inv g; clear g; have g := g2
  obtain ⟨i, j, rfl, rfl, g2⟩ := ints2_inv g; clear g; have g := g2
  obtain ⟨v, u, rfl, r1, r2⟩ := rds2 hx
  cases rd_int.mp r1; cases rd_int.mp r2
  exact call_max2 (hc.resolve_right (by simp [bfCalm0])) pins s σ w.H _ us Q I r ⟨_, _, rfl, a _ w _ M (Ext.refl w) R (rd_int.mpr rfl) g⟩
 | min1 =>
  obtain ⟨x, rfl, g2⟩ := at1_inv g; clear g; have g := g2
  obtain ⟨n, rfl, g2⟩ := onRef_inv g; clear g; have g := g2
  obtain ⟨v, rfl, r1⟩ := rds1 hx
  obtain ⟨_, rfl⟩ := rd_ref.mp r1
  obtain ⟨ns, g1, g2, g3⟩ := g
  obtain ⟨_, vs, q1, q2, _⟩ := R.listL g1
  cases rds_ints' q2
  rw [e0, ← hK] at q1
  exact call_min1 (hc.resolve_right (by simp [bfCalm0])) pins s σ w.H _ us Q I r ⟨_, ns, rfl, q1, g2, fun m h1 h2 => a _ w _ M (Ext.refl w) R (rd_int.mpr rfl) (g3 m h1 h2)⟩
 | list1 =>
  obtain ⟨x, rfl, g2⟩ := at1_inv g; clear g; have g := g2
  obtain ⟨v, rfl, r1⟩ := rds1 hx
  obtain ⟨xs, g1, g2⟩ := g
  have : ∃ p vs, v = .ref p ∧ (SqL X.K w.H p vs ∨ SqT X.K w.H p vs) ∧ RDs w xs vs := by
   rw [hK, ← e0]
   unfold itemsD at g1
   split at g1
   ·obtain ⟨_, rfl⟩ := rd_ref.mp r1
    obtain ⟨_, vs, q1, q2, _⟩ := R.listL g1
    exact ⟨_, vs, rfl, .inl q1, q2⟩
   ·cases g1
    obtain ⟨p, vs, rfl, q1, q2⟩ := rd_tup.mp r1
    exact ⟨_, vs, rfl, .inr (.of q1), q2⟩
   ·cases g1
    obtain ⟨p, vs, rfl, q1, q2⟩ := rd_gtup.mp r1
    exact ⟨_, vs, rfl, .inr q1, q2⟩
   ·cases g1
  obtain ⟨p, vs, rfl, q1, q2⟩ := this
  refine call_list_of pins s σ w.H _ us Q I r ⟨p, vs, rfl, q1, fun l hl => ?_⟩
  obtain ⟨x1, x2, x3⟩ := new_list R hl q2
  exact a _ _ _ _ x1 x2 x3 g2
 | tuple1 =>
  obtain ⟨x, rfl, g2⟩ := at1_inv g; clear g; have g := g2
  obtain ⟨n, rfl, g2⟩ := onRef_inv g; clear g; have g := g2
  obtain ⟨v, rfl, r1⟩ := rds1 hx
  obtain ⟨_, rfl⟩ := rd_ref.mp r1
  obtain ⟨xs, g1, g2⟩ := g
  obtain ⟨_, vs, q1, q2, _⟩ := R.listL g1
  rw [e0, ← hK] at q1
  refine call_tuple_of pins s σ w.H _ us Q I r ⟨_, vs, rfl, .inl ⟨q1, fun l hl => ?_⟩⟩
  obtain ⟨x1, x2, x3⟩ := new_tup R hl q2
  exact a _ _ _ _ x1 x2 x3 g2
 | dict1 =>
  obtain ⟨x, rfl, g2⟩ := at1_inv g; clear g; have g := g2
  obtain ⟨n, rfl, g2⟩ := onRef_inv g; clear g; have g := g2
  obtain ⟨v, rfl, r1⟩ := rds1 hx
  obtain ⟨_, rfl⟩ := rd_ref.mp r1
  rcases g with ⟨xs, g1, g2⟩ | ⟨ps, g1, g2, g3⟩
  ·obtain ⟨_, vs, q1, q2⟩ := R.dict g1
   refine call_dict1 pins s σ w.H _ us Q I r ⟨_, vs, rfl, q1, fun l hl => ?_⟩
   obtain ⟨x1, x2, x3⟩ := new_dict R hl q2
   exact a _ _ _ _ x1 x2 x3 g2
  ·obtain ⟨_, vs, q1, q2, _⟩ := R.listL g1
   obtain ⟨qs, z1, z2⟩ := rd_pairs q2
   have hl2 := q2.length
   unfold pairD at hl2
   rw [List.length_map] at hl2
   rw [e0, ← hK] at q1 z1
   refine call_dictL (hc.resolve_right (by simp [bfCalm0])) pins s σ w.H _ us Q I r ⟨_, vs, qs, rfl, q1, z1, by omega, fun l hl => ?_⟩
   obtain ⟨x1, x2, x3⟩ := new_dict R hl (rkv_fold z2 (show RKV w [] [] by unfold RKV; rfl))
   exact a _ _ _ _ x1 x2 x3 g3
end
def mtT : Mt → String
 | .append | .pop0 | .reverse | .index1 => "list"
 | .get2 => "dict"
def mtN : Mt → Str
 | .append => "append" | .pop0 => "pop" | .reverse => "reverse" | .index1 => "index" | .get2 => "get"
def mtI : Mt → String
 | .append => "list.append" | .pop0 => "list.pop" | .reverse => "list.reverse" | .index1 => "list.index" | .get2 => "dict.get"
theorem mt_pa : ∀ m : Mt, PlainAttrs (mtT m)
 | .append | .pop0 | .reverse | .index1 => PySem.F.plainAttrs_list
 | .get2 => PySem.F.plainAttrs_dict
theorem mt_slot : ∀ m : Mt, Slot (mtT m) (mtN m) (mtI m)
 | .append => PySem.F.slot_list_append | .pop0 => PySem.F.slot_list_pop | .reverse => PySem.F.slot_list_reverse | .index1 => PySem.F.slot_list_index
 | .get2 => PySem.F.slot_dict_get
theorem mt_ty : ∀ m : Mt, typeOf (.builtin (mtI m)) = pure (.type "method_descriptor")
 | .append => PySem.F.type_list_append | .pop0 => PySem.F.type_list_pop | .reverse => PySem.F.type_list_reverse | .index1 => PySem.F.type_list_index
 | .get2 => PySem.F.type_dict_get
def rM (w0 : Vw) (m : Mt) : V → List V → Hp → VK → Prop := fun x xs H Q => ∃ w M dx ds QD, w.H = H ∧ w.K = w0.K ∧ RS w M ∧ RD w dx x ∧ RDs w ds xs ∧ mtD m dx ds M QD ∧ Aft w QD Q
theorem mtK_ty {w : Vw} {M : Store} {m : Mt} {d : D} {x : V} (R : RS w M) (r : RD w d x) (h : mtK m d M) : tyV w.K (mtT m) x w.H := by
 have L : ∀ {n : Nat}, RD w (.ref n) x → (readL M n).isSome = true → tyV w.K "list" x w.H := by
  intro n r h
  obtain ⟨_, rfl⟩ := rd_ref.mp r
  obtain ⟨xs, e⟩ := Option.isSome_iff_exists.mp h
  obtain ⟨_, vs, q1, _⟩ := R.listL e
  exact .inl ⟨rfl, vs, q1⟩
 have K : ∀ {n : Nat}, RD w (.ref n) x → (readD M n).isSome = true → tyV w.K "dict" x w.H := by
  intro n r h
  obtain ⟨_, rfl⟩ := rd_ref.mp r
  obtain ⟨xs, e⟩ := Option.isSome_iff_exists.mp h
  obtain ⟨_, vs, q1, _⟩ := R.dict e
  exact .inr (.inr (.inl ⟨rfl, .inl ⟨vs, q1⟩⟩))
 obtain ⟨n, rfl, h⟩ := onRef_inv h
 cases m with
 | get2 => exact K r h
 | _ => exact L r h
theorem RDs.dropLast {w : Vw} {xs : List D} {vs : List V} (r : RDs w xs vs) : RDs w xs.dropLast vs.dropLast := by
 rw [List.dropLast_eq_take, List.dropLast_eq_take, r.length]
 exact r.take _
section
variable {X : Cx} {w0 : Vw}
theorem mt_sound (hK : X.K = w0.K) (hu : X.A.units + 64 < cLine) (m : Mt) : MtR X (mtI m) (rM w0 m) := by
 intro pins s σ H x xs v us Q I rx r h
 obtain ⟨w, M, dx, ds, QD, rfl, e0, R, hx, hs, g, a⟩ := h
 obtain ⟨n, rfl, g2⟩ := onRef_inv g; clear g; have g := g2
 cases m with
 | append =>
  obtain ⟨x, rfl, g2⟩ := at1_inv g; clear g; have g := g2
  obtain ⟨_, rfl⟩ := rd_ref.mp hx
  obtain ⟨y, rfl, ry⟩ := rds1 hs
  obtain ⟨ds, g1, g2, g3⟩ := g
  obtain ⟨hn, vs, q1, q2⟩ := R.list g1
  obtain ⟨x1, x2⟩ := write_list R hn q1 (q2.append (RDs.cons ry (RDs.nil w)))
  exact mt_append pins s σ w.H _ _ v us Q I rx r ⟨_, vs, y, rfl, rfl, q1, by rw [q2.length]; exact g2, a _ _ _ _ x1 x2 (rd_non.mpr rfl) g3⟩
 | index1 =>
  obtain ⟨x, rfl, g2⟩ := at1_inv g; clear g; have g := g2
  obtain ⟨_, rfl⟩ := rd_ref.mp hx
  obtain ⟨y, rfl, ry⟩ := rds1 hs
  obtain ⟨ds, k, z, g1, fd, fs, g2, g4, g5, g3⟩ := g
  obtain ⟨hn, vs, q1, q2, _⟩ := R.listL g1
  rw [e0, ← hK] at q1
  obtain ⟨zv, z1, z2⟩ := q2.get g2
  have fl := (in_rel fd ry fs q2).2
  have fz : ∀ {u : D} {j : Nat}, ds[j]? = some u → flatD u = true := fun {u j} h => by
   rw [List.all_eq_true] at fs
   exact fs _ (List.mem_of_getElem? h)
  refine mt_index pins s σ w.H _ _ v us Q I rx r ⟨_, vs, y, k, zv, rfl, rfl, q1, flat_rel fd ry, fl, z1, ?_, ?_, a _ w _ M (Ext.refl w) R (rd_int.mpr rfl) g3⟩
  ·rw [eqF_rel (fz g2) fd z2 ry]; exact g4
  ·intro j u hj hu
   have hjl : j < ds.length := by rw [← q2.length]; exact (List.getElem?_eq_some_iff.mp hu).1
   obtain ⟨u', w1, w2⟩ := q2.get (List.getElem?_eq_getElem hjl)
   rw [hu] at w1
   cases w1
   rw [eqF_rel (fz (List.getElem?_eq_getElem hjl)) fd w2 ry]
   exact g5 j _ hj (List.getElem?_eq_getElem hjl)
 | get2 =>
  obtain ⟨x, y, rfl, g2⟩ := at2_inv g; clear g; have g := g2
  obtain ⟨_, rfl⟩ := rd_ref.mp hx
  obtain ⟨y, z, rfl, ry, rz⟩ := rds2 hs
  obtain ⟨kvs, k, g1, g2, g3⟩ := g
  obtain ⟨hn, vs, q1, q2⟩ := R.dict g1
  obtain ⟨u, u2, rfl, ru, ru2⟩ := vals2 r
  cases (show v = Value.ref _ from rx)
  cases keyD_kV g2 ry
  refine d_get2 (by omega) I (DGet.k (k := k) q1) ru ru2 fun w' s' I' rw' => ⟨_, w.H, I', rw', ?_⟩
  rcases q2.val k with ⟨n1, n2⟩ | ⟨d', v', n1, n2, n3⟩
  ·rw [n1] at g3
   rw [n2]
   exact a _ w _ M (Ext.refl w) R rz g3
  ·rw [n1] at g3
   rw [n2]
   exact a _ w _ M (Ext.refl w) R n3 g3
 | pop0 =>
  obtain ⟨rfl, g2⟩ := at0_inv g; clear g; have g := g2
  obtain ⟨_, rfl⟩ := rd_ref.mp hx
  cases rds0 hs
  obtain ⟨ds, d, g1, g2, g3⟩ := g
  obtain ⟨hn, vs, q1, q2⟩ := R.list g1
  obtain ⟨y, z1, z2⟩ := q2.get g2
  obtain ⟨x1, x2⟩ := write_list R hn q1 q2.dropLast
  exact mt_pop pins s σ w.H _ _ v us Q I rx r ⟨_, vs, y, rfl, rfl, q1, by rw [q2.length]; exact z1, a _ _ _ _ x1 x2 (z2.ext x1) g3⟩
 | reverse =>
  obtain ⟨rfl, g2⟩ := at0_inv g; clear g; have g := g2
  obtain ⟨_, rfl⟩ := rd_ref.mp hx
  cases rds0 hs
  obtain ⟨ds, g1, g3⟩ := g
  obtain ⟨hn, vs, q1, q2⟩ := R.list g1
  obtain ⟨x1, x2⟩ := write_list R hn q1 q2.reverse
  exact mt_reverse pins s σ w.H _ _ v us Q I rx r ⟨_, vs, rfl, rfl, q1, a _ _ _ _ x1 x2 (rd_non.mpr rfl) g3⟩
end
def gF (w0 : Vw) (tg : List Nat) : TG := fun v σ H Q => ∃ w σD M d QD, StOk w0 w σD M σ H ∧ RD w d v ∧ tgD tg d σD QD ∧ ∀ σ' σD', REnv w σD' σ' → QD σD' → Q σ' H
def gAll : List Nat → TGs
 | [] => gNil
 | i :: is => gCons (gName i) (gAll is)
theorem gAll_run {w : Vw} {H : Hp} {Q : L2.St → Hp → Prop} {QD : DEnv → Prop} (k : ∀ σ' σD', REnv w σD' σ' → QD σD' → Q σ' H) : ∀ (is : List Nat) {ds : List D} {vs : List V} {σ : L2.St} {σD : DEnv}, RDs w ds vs → ds.length = is.length → REnv w σD σ →
  QD ((is.zip ds).foldl (fun σ p => σ.set p.1 (some p.2)) σD) → gAll is vs σ H Q
 | [], ds, vs, σ, σD, r, hl, e, q => by
  cases List.length_eq_zero_iff.mp hl
  cases rds0 r
  exact ⟨rfl, k _ _ e q⟩
 | i :: is, ds, vs, σ, σD, r, hl, e, q => by
  cases ds with
  | nil => simp at hl
  | cons d ds =>
   unfold RDs at r
   obtain ⟨v, vr, rfl, h1, h2⟩ := r
   refine ⟨v, vr, rfl, ?_⟩
   show gAll is vr (σ.set i (some v)) H Q
   exact gAll_run k is h2 (by simpa using hl) (e.set i h1) q
section
variable {X : Cx} {w0 : Vw}
theorem PG.imp {e : Expr} {t t' : TG} (h : PG X e t) (k : ∀ v σ H Q, t' v σ H Q → t v σ H Q) : PG X e t' := fun pins s σ H v u Q I r q => h pins s σ H v u Q I r (k v σ H Q q)
theorem pg_one {i : Nat} {e : Expr} (h : PG X e (gName i)) : PG X e (gF w0 [i]) := PG.imp h fun v σ H Q ⟨w, σD, M, d, QD, S, r, g, k⟩ => k _ _ (S.env.set i r) g
theorem pg_many {is : List Nat} {e : Expr} (hl : 2 ≤ is.length) (h : PG X e (gTup X.K is.length (gAll is))) : PG X e (gF w0 is) := PG.imp h fun v σ H Q ⟨w, σD, M, d, QD, S, r, g, k⟩ => by
 unfold tgD at g
 split at g
 ·simp at hl
 ·obtain ⟨a, vs, rfl, q1, q2⟩ := rd_tup.mp r
  obtain ⟨g1, g2⟩ := g
  rw [S.heap] at q1
  exact ⟨a, vs, rfl, .of q1, by rw [q2.length]; exact g1, gAll_run k is q2 g1 S.env g2⟩
 ·exact g.elim
end
structure Ck where
 N : List Str
 sc : Scope
 FN : List Str
 GN : List Str
 BN : List Str
 loops : Bool
 calm : Bool
 tries : Bool
 raises : List Nat
 cells : Bool
 own : List Str
def ownOf (scope : Scope) : List Str := (scope.names.filter fun y => y.2 == .cell).map (·.1)
def Ck.vis (k : Ck) (x : Str) : Bool := (k.sc.names.lookup x == some .local || k.sc.names.lookup x == some .cell || k.sc.names.lookup x == some .free) && !(x == ("__debug__" : Str)) && !(x == ("__classdict__" : Str))
def Ck.glob (k : Ck) (x : Str) : Bool := k.sc.names.lookup x == some .globalImplicit && !(x == ("__debug__" : Str)) && !(x == ("__name__" : Str))
def Ck.loc (k : Ck) (x : Str) : Bool := k.sc.names.lookup x == some .local
def Ck.locC (k : Ck) (x : Str) : Bool := k.loc x || ((k.cells || k.own.contains x) && k.sc.names.lookup x == some .cell)
def baseOk : Expr → Bool
 | .Call (.Name x _) [] [] _ => x != ("super" : Str)
 | _ => true
def noSlice : Expr → Bool
 | .Slice .. => false
 | _ => true
def noSet : Expr → Bool
 | .Set .. => false
 | _ => true
def noStar : Expr → Bool
 | .Starred .. => false
 | _ => true
def isIn : Cm → Bool
 | .isin | .notin => true
 | _ => false
def chkTg (k : Ck) : List Nat → List Expr → Bool
 | [], [] => true
 | i :: is, .Name x _ :: es => k.N[i]? == some x && k.locC x && chkTg k is es
 | _, _ => false
def chkTgt (k : Ck) (is : List Nat) : Expr → Bool
 | .Name x _ => match is with
  | [i] => k.N[i]? == some x && k.locC x
  | _ => false
 | .Tuple es _ _ => k.calm && decide (2 ≤ is.length) && chkTg k is es
 | _ => false
def isM1 : Expr → Bool
 | .UnaryOp .USub (.Constant (.int j) _ _) _ => j == 1
 | _ => false
def itTg : It → Expr → Bool
 | .enm _, .Tuple .. => true
 | .enm _, _ => false
 | .zip _, .Tuple .. => true
 | .zip _, _ => false
 | _, _ => true
mutual
def chkE (k : Ck) : E → Expr → Bool
 | .var i, .Name x _ => k.N[i]? == some x && k.vis x
 | .int i, .Constant (.int j) _ _ => i == j
 | .bl b, .Constant (.bool c) _ _ => b == c
 | .non, .Constant .none _ _ => true
 | .str x, .Constant (.str y) _ _ => x == y
 | .ty t, .Name x _ => x == Str.ofString (tyName t) && k.glob x && k.BN.contains x
 | .glb g, .Name x _ => k.GN[g]? == some x && k.glob x
 | .bin op a b, .BinOp l o r _ => o == opOf op && chkE k a l && chkE k b r
 | .neg a, .UnaryOp .USub l _ => chkE k a l
 | .not a, .UnaryOp .Not l _ => chkE k a l
 | .cmp op a b, .Compare l [o] [r] _ => o == cmOf op && (!isIn op || noSet r) && chkE k a l && chkE k b r
 | .bop true es, .BoolOp .And ls _ => chkEs k es ls
 | .bop false es, .BoolOp .Or ls _ => chkEs k es ls
 | .lst es, .List ls _ => chkEs k es ls
 | .tup es, .Tuple ls _ _ => chkEs k es ls
 | .dict0, .Dict [] [] _ => true
 | .dct a b, .Dict [some l] [r] _ => chkE k a l && chkE k b r
 | .ix a b, .Subscript l r _ => noSlice r && chkE k a l && chkE k b r
 | .sl a lo hi, .Subscript l (.Slice x y none _) _ => chkE k a l && chkO k lo x && chkO k hi y
 | .vals a, .Call (.Name x _) [.Call (.Attribute l nm ap) [] [] cp] [] _ => k.calm && x == ("list" : Str) && k.glob x && k.BN.contains x && nm == ("values" : Str) && baseOk l && ap.endLine == cp.line && chkE k a l
 | .slW a lo hi, .Subscript l (.Slice x y none _) _ => chkE k a l && chkO k lo x && chkO k hi y
 | .setf b a, .Call (.Name x _) [.Call (.Name y _) [l] [] _] [] _ => k.calm && x == ("len" : Str) && y == ("set" : Str) && k.glob x && k.glob y && k.BN.contains x && k.BN.contains y && noStar l && chkE k a l
 | .rev a, .Subscript l (.Slice none none (some z) _) _ => chkE k a l && isM1 z
 | .call f es, .Call (.Name x _) ls [] _ => k.calm && k.FN[f]? == some x && k.glob x && chkEs k es ls
 | .bf b es, .Call (.Name x _) (l :: ls) [] _ => (k.calm || bfCalm0 b) && x == (bfOf b).1 && k.glob x && k.BN.contains x && chkEs k es (l :: ls)
 | .mt m o es, .Call (.Attribute l nm ap) ls [] cp => nm == mtN m && baseOk l && ap.endLine == cp.line && decide (ls.length < 30) && chkE k o l && chkEs k es ls
 | .comp N' js tg it cd e, .ListComp el [⟨t, iter, ifs, 0⟩] scope _ => k.calm && compOk k.sc k.N N' js scope && noSet iter && chkIt k it iter && decide N'.Nodup &&
   chkTgt { k with N := N', sc := relabS scope k.sc, cells := false, own := ownOf scope, tries := false, raises := [] } tg t && chkC { k with N := N', sc := relabS scope k.sc, cells := false, own := ownOf scope, tries := false, raises := [] } cd ifs && chkE { k with N := N', sc := relabS scope k.sc, cells := false, own := ownOf scope, tries := false, raises := [] } e el && itTg it t
 | _, _ => false
def chkEs (k : Ck) : Es → List Expr → Bool
 | .nil, [] => true
 | .cons e r, x :: xs => chkE k e x && noStar x && chkEs k r xs
 | _, _ => false
def chkO (k : Ck) : Eo → Option Expr → Bool
 | .no, none => true
 | .yes e, some x => chkE k e x
 | _, _ => false
def chkC (k : Ck) : Eo → List Expr → Bool
 | .no, [] => true
 | .yes e, [x] => chkE k e x && noIf e
 | _, _ => false
def chkIt (k : Ck) : It → Expr → Bool
 | .seq e, x => chkE k e x
 | .rng1 a, .Call (.Name x _) [l] [] _ => x == ("range" : Str) && k.glob x && k.BN.contains x && noStar l && chkE k a l
 | .rng2 a b, .Call (.Name x _) [l, r] [] _ => x == ("range" : Str) && k.glob x && k.BN.contains x && noStar l && noStar r && chkE k a l && chkE k b r
 | .enm e, .Call (.Name x _) [l] [] _ => x == ("enumerate" : Str) && k.glob x && k.BN.contains x && noStar l && chkE k e l
 | .zip es, .Call (.Name x _) (l :: ls) [] _ => x == ("zip" : Str) && k.glob x && k.BN.contains x && chkEs k es (l :: ls)
 | _, _ => false
def noIf : E → Bool
 | .not a => noIf a
 | .bop _ es => noIfs es
 | _ => true
def noIfs : Es → Bool
 | .nil => true
 | .cons e r => noIf e && noIfs r
end
def Callable (X : Cx) (x : Str) (sp : DSp) : Prop :=
 ∃ (kk : Nat) (f : Addr) (fd : FuncData) (ps : List Str) (ds : List Value) (dvs : List V) (dD : List D) (sp0 : DSp), FnOk X.prog X.w X.K X.mg X.base (CX1 X.prog X.w) kk f fd ps (spF X.K sp0) ∧ Room kk X.A ∧ X.mg x = some (.ref f) ∧ PySem.W.keepIn X.K (.ref f) = true ∧
  Binds X.K fd ps ds ∧ Vals dvs ds ∧ (∀ w : Vw, w.K = X.K → RDs w dD dvs) ∧ ∀ as M Q Z, sp as M Q Z → sp0 (as ++ dD) M Q Z
structure Good (c : Cfg) (k : Ck) (Z : DX) (w0 : Vw) (X : Cx) : Prop where
 hK : X.K = c.K
 wK : w0.K = c.K
 N : X.N = k.N
 nd : X.N.Nodup
 sc : X.env.scope = k.sc
 calm : k.calm = true → X.calm = true
 units : X.A.units + 64 < cLine
 fns : k.calm = true → ∀ (f : Nat) (x : Str) (sp : DSp), k.FN[f]? = some x → c.Γ[f]? = some sp → Callable X x sp
 flen : k.FN.length = c.Γ.length
 glb : ∀ (g : Nat) (x : Str) (d : D), k.GN[g]? = some x → c.G[g]? = some d → ∃ v u, X.mg x = some u ∧ RelV v u ∧ ∀ w : Vw, w.K = X.K → RD w d v
 blt : ∀ x, x ∈ k.BN → X.mg x = none
 exc : ∃ E, Passes (CX1 X.prog X.w) X E ∧ ∀ cls dd H', xkOf w0 Z cls dd H' → E cls dd H'
 stk : k.tries = true → X.stack = X.env :: X.outer ∧ X.env.frame = some X.env.locals
 po : k.loops = true → PassesOwn (model X.prog X.w) X.A X.env X.xe
 fnc : k.cells = true → ∀ x, X.fn x = true
 fno : ∀ x, x ∈ k.own → X.fn x = true
theorem xkOf_mono {w w' : Vw} {Z : DX} {cls : Value} {dd : Option Addr} {H' : Hp} (x : Ext w w') (h : xkOf w' Z cls dd H') : xkOf w Z cls dd H' := by
 obtain ⟨C, dx, r, w2, row, M, e1, e2, e3, e4, h5⟩ := h
 exact ⟨C, dx, r, w2, row, M, e1, e2, e3, x.trans e4, h5⟩
def ttD (f : DE) : DT := fun σ M Q => f σ M fun x M1 => truD M1 x fun b => Q b M1
section
variable {c : Cfg} {k : Ck} {Z : DX} {w0 : Vw} {X : Cx}
theorem Good.gl (G : Good c k Z w0 X) {x : Str} (h : k.glob x = true) : Gl X x ∧ (x == ("__debug__" : Str)) = false ∧ x ≠ "__name__" := by
 unfold Ck.glob at h
 simp only [Bool.and_eq_true, beq_iff_eq, Bool.not_eq_true', beq_eq_false_iff_ne] at h
 refine ⟨?_, by simpa using h.1.2, h.2⟩
 unfold Gl Env.kindOf
 rw [G.sc]; exact h.1.1
theorem Good.vis (G : Good c k Z w0 X) {x : Str} (h : k.vis x = true) : Vis X.env.scope x ∧ (x == ("__debug__" : Str)) = false ∧ (x == ("__classdict__" : Str)) = false := by
 unfold Ck.vis at h
 simp only [Bool.and_eq_true, beq_iff_eq, Bool.not_eq_true', Bool.or_eq_true] at h
 refine ⟨?_, h.1.2, h.2⟩
 unfold Vis
 rw [G.sc]
 rcases h.1.1 with (q | q) | q
 ·exact .inl q
 ·exact .inr (.inl q)
 ·exact .inr (.inr q)
theorem Good.locC (G : Good c k Z w0 X) {x : Str} (h : k.locC x = true) : Loc X.env.scope x ∧ (X.fn x = true ∨ X.env.scope.names.lookup x = some .local) := by
 unfold Ck.locC Ck.loc at h
 rw [Bool.or_eq_true, Bool.and_eq_true] at h
 rcases h with h | ⟨h1, h2⟩
 ·have hl : X.env.scope.names.lookup x = some .local := by rw [G.sc]; exact eq_of_beq h
  exact ⟨.inl hl, .inr hl⟩
 ·refine ⟨.inr (by rw [G.sc]; exact eq_of_beq h2), .inl ?_⟩
  rw [Bool.or_eq_true, List.contains_iff_mem] at h1
  rcases h1 with z | z
  ·exact G.fnc z x
  ·exact G.fno x z
theorem Good.eK (G : Good c k Z w0 X) : X.K = w0.K := G.hK.trans G.wK.symm
theorem StOk.K {w w0 : Vw} {σD : DEnv} {M : Store} {σ : L2.St} {H : Hp} (S : StOk w0 w σD M σ H) : w.K = w0.K := S.ext.K
theorem tF_of {f : DE} {σ : L2.St} {w : Vw} {σD : DEnv} {M : Store} {H : Hp} {Q : VK} {QD : DK} (S : StOk w0 w σD M σ H) (h : f σD M QD) (a : Aft w QD Q) : tF w0 f σ H Q := ⟨w, σD, M, QD, S, h, a⟩
theorem attr_base {l : Expr} {nm : Str} {env : Env} (h : baseOk l = true) : attributeBase l nm env (eval l env) = eval l env := by
 unfold attributeBase
 split
 ·rename_i id np pos
  have : (id != "super" || nm == "__class__" || env.kindOf "super" != some .globalImplicit || env.kindOf "__class__" != some .free) = true := by
   have : (id != ("super" : Str)) = true := h
   rw [this]; rfl
  simp only [this, if_true]
 ·rfl
theorem star_cons {x : Expr} {xs : List Expr} {env : Env} (h : noStar x = true) : starEach (x :: xs) env = (false, eval x env) :: starEach xs env := by
 cases x <;> first | rfl | cases h
theorem star_none {k : Ck} {env : Env} : ∀ (es : Es) (xs : List Expr), chkEs k es xs = true → (starEach xs env).all (fun p => !p.1) = true
 | .nil, [], _ => rfl
 | .nil, _ :: _, h => by simp [chkEs] at h
 | .cons e r, [], h => by simp [chkEs] at h
 | .cons e r, x :: xs, h => by
  simp only [chkEs, Bool.and_eq_true] at h
  rw [star_cons h.1.2]
  simp only [List.all_cons, Bool.not_false, Bool.true_and]
  exact star_none r xs h.2
theorem any_back {pos : Pos} {l : List (Bool × Sem Value)} (h : l.all (fun p => !p.1) = true) : (backTo pos l).any (·.1) = false := by
 induction l with
 | nil => rfl
 | cons p r ih =>
  simp only [List.all_cons, Bool.and_eq_true, Bool.not_eq_true'] at h
  show (p.1 || (backTo pos r).any (·.1)) = false
  rw [h.1, ih h.2]; rfl
theorem all_back {pos : Pos} {l : List (Bool × Sem Value)} (h : l.all (fun p => !p.1) = true) : (backTo pos l).all (fun x => !x.1) = true := by
 induction l with
 | nil => rfl
 | cons p r ih =>
  simp only [List.all_cons, Bool.and_eq_true] at h
  show ((!p.1) && (backTo pos r).all (fun x => !x.1)) = true
  rw [h.1, ih h.2]; rfl
theorem pt_of {f : DE} {ex : Expr} (G : Good c k Z w0 X) (h : PE X ex (tF w0 f)) (he : ∀ whole, isTrue ex X.env whole = (do let v ← whole; standAt ex.pos; holding [v] (truthy v))) : PT X ex (tFT w0 (ttD f)) := by
 refine PT.imp (pt_truth h he) fun σ H Q ⟨w, σD, M, QD, S, g, a⟩ => ?_
 refine tF_of S g fun v w' d M' x r rd q => ?_
 obtain ⟨b, t1, t2⟩ := tru_sound (K := X.K) (by rw [x.K, S.K, G.eK]) r rd q
 exact ⟨b, t1, a b w' M' x r t2⟩
theorem pt_bool {f : DE} {ex : Expr} (h : PT X ex (tTest (tF w0 f))) (hb : ∀ σD M QD, f σD M QD → f σD M fun d M' => (∃ b, d = .bl b) ∧ QD d M') : PT X ex (tFT w0 (ttD f)) := by
 refine PT.imp h fun σ H Q ⟨w, σD, M, QD, S, g, a⟩ => ?_
 refine tF_of S (hb _ _ _ g) fun v w' d M' x r rd q => ?_
 obtain ⟨⟨b, rfl⟩, q⟩ := q
 cases rd_bl.mp rd
 exact ⟨b, rfl, a b w' M' x r q⟩
theorem bin_sound {fa fb : DE} {g : D → D → Store → DK → Prop} {σ : L2.St} {H : Hp} {Q : VK} (h : tF w0 (fun σD M QD => fa σD M fun x M1 => fb σD M1 fun y M2 => g x y M2 QD) σ H Q) : tOp (rF w0 g) (tF w0 fa) (tF w0 fb) σ H Q := by
 obtain ⟨w, σD, M, QD, S, g0, a⟩ := h
 refine tF_of S g0 fun x w1 dx M1 x1 r1 rx q1 => ?_
 refine tF_of (S.next x1 r1) q1 fun y w2 dy M2 x2 r2 ry q2 => ?_
 exact ⟨w2, M2, dx, dy, QD, rfl, (S.ext.trans x1).trans x2, r2, rx.ext x2, ry, q2, a.ext (x1.trans x2)⟩
theorem cmp_sound {fa fb : DE} {g : Store → D → D → (Bool → Prop) → Prop} {σ : L2.St} {H : Hp} {Q : VK} (h : tF w0 (fun σD M QD => fa σD M fun x M1 => fb σD M1 fun y M2 => g M2 x y fun b => QD (.bl b) M2) σ H Q) : tOp (rB w0 g) (tF w0 fa) (tF w0 fb) σ H Q := by
 obtain ⟨w, σD, M, QD, S, g0, a⟩ := h
 refine tF_of S g0 fun x w1 dx M1 x1 r1 rx q1 => ?_
 refine tF_of (S.next x1 r1) q1 fun y w2 dy M2 x2 r2 ry q2 => ?_
 exact ⟨w2, M2, dx, dy, _, rfl, ((S.ext.trans x1).trans x2).K, r2, rx.ext x2, ry, q2, fun b hb => a _ w2 _ M2 (x1.trans x2) r2 (rd_bl.mpr rfl) hb⟩
theorem pe_notT {a : Expr} {ta : TE} {pos : Pos} (ha : PE X a ta) : PE X (.UnaryOp .Not a pos) (fun σ H Q => ta σ H fun x H1 => ∃ b, TruV X.K x H1 b ∧ Q (.bl (!b)) H1) := by
 intro pins s σ H Q I h
 refine UnaryOp_ (thn (ha pins s σ H _ I h) fun v s1 ⟨x, H1, I1, r1, q1⟩ => ?_)
 refine not_of (thn (tru_ok pins s1 σ H1 x v (fun b H2 => Q (.bl (!b)) H2) I1 r1 q1) fun b s2 ⟨H2, I2, q2⟩ => ⟨.bl (!b), H2, I2, rfl, q2⟩)
theorem boot_ty (t : Ty) : bootBuiltins (Str.ofString (tyName t)) = some (.type (tyName t)) := by
 cases t
 ·exact boot_int
 ·exact boot_str
 ·exact boot_bool
 ·exact boot_list
 ·exact boot_tuple
 ·exact boot_dict
 ·show bootBuiltins "ValueError" = some (.type "ValueError")
  decide +kernel
theorem boot_sorted : bootBuiltins "sorted" = some (.builtin "sorted") := by decide +kernel
theorem boot_set : bootBuiltins "set" = some (.type "set") := by decide +kernel
theorem boot_bf (b : Bf) : bootBuiltins (bfOf b).1 = some (bfOf b).2 := by
 cases b <;> first | exact PySem.boot_len | exact boot_isinstance | exact PyProof.Rows.boot_min | exact PyProof.Rows.boot_max | exact boot_list | exact boot_tuple | exact boot_dict | exact boot_str | exact boot_sorted | exact boot_int
end
def JOk (w1 : Vw) (J : L2.It) (own : Own) (xs : List D) : Prop := ∀ w M, Ext w1 w → RS w M → still own xs M → ∀ i : Nat,
 (∀ d, xs[i]? = some d → J.go i w.H ∧ ∀ x H', J.yld i w.H x H' → ∃ w', w'.H = H' ∧ Ext w w' ∧ RS w' M ∧ RD w' d x) ∧ (xs.length ≤ i → J.stop i w.H)
def iF (w0 : Vw) (f : DEnv → Store → (Own → List D → Store → Prop) → Prop) : TI := fun σ H R => ∃ w σD M QD, StOk w0 w σD M σ H ∧ f σD M QD ∧
 ∀ J w' own xs M', Ext w w' → RS w' M' → JOk w' J own xs → QD own xs M' → R J w'.H
section
variable {c : Cfg} {k : Ck} {Z : DX} {w0 : Vw} {X : Cx}
theorem PI.imp {tg it : Expr} {t t' : TI} (h : PI X tg it t) (q : ∀ σ H R, t' σ H R → t σ H R) : PI X tg it t' := fun pins s σ H R I z => h pins s σ H R I (q σ H R z)
theorem pi_seq {tg l : Expr} {tl : TE} (hl : PE X l tl) : PI X tg l (fun σ H R => tl σ H fun x H1 => (∃ a, x = .ref a ∧ (∃ xs, SqL X.K H1 a xs) ∧ R (Itl X.K a) H1) ∨ ∃ a, x = .ref a ∧ (∃ xs, SqT X.K H1 a xs) ∧ R (Itt X.K a) H1) := by
 intro pins s σ H R I h
 refine thn (hl pins s σ H _ I h) fun v s1 ⟨x, H1, I1, r1, q1⟩ => ?_
 have fp : ∀ b ∈ [s1.heap.objs.size], FpOk X pins H1 b := fun b hb => by
  have e : b = s1.heap.objs.size := by simpa using hb
  subst e
  exact I1.fpOk (Nat.le_refl _) (I1.hok.fresh (Nat.le_refl _))
 rcases q1 with ⟨a, e, ⟨xs, hq⟩, q⟩ | ⟨a, e, ⟨xs, hq⟩, q⟩
 ·subst e
  cases r1
  obtain ⟨its, rv, p, hz⟩ := I1.list hq
  refine wpAny_pyIter_list p.isList ?_
  exact ⟨s1.heap.objs.size, [s1.heap.objs.size], _, _, H1, rfl, I1.kept (t' := s1.toks) fun b o e => Heap.get?_push_of_some _ e, turn_list a _, ⟨_, Heap.get?_push_size _ rfl, rfl, rfl⟩, fp, q⟩
 ·subst e
  cases r1
  obtain ⟨its, rv, p, hz⟩ := I1.tuple hq
  refine wpAny_pyIter_tuple (show s1.heap.IsTuple a its.toArray from p) ?_
  exact ⟨s1.heap.objs.size, [s1.heap.objs.size], _, _, H1, rfl, I1.kept (t' := s1.toks) fun b o e => Heap.get?_push_of_some _ e, turn_tuple a _, ⟨_, Heap.get?_push_size _ rfl, rfl, rfl⟩, fp, q⟩
theorem pi_keys {tg l : Expr} {tl : TE} (hl : PE X l tl) : PI X tg l (fun σ H R => tl σ H fun x H1 => ∃ a kvs, x = .ref a ∧ H1 a = some (.dK kvs) ∧ ∀ o, (∀ o' u, X.H₀ a ≠ some (.frz o' u)) → R (Itd a o) (upd H1 a (.frz o (.dK kvs)))) := by
 intro pins s σ H R I h
 refine thn (hl pins s σ H _ I h) fun v s1 ⟨x, H1, I1, r1, a, kvs, e, hq, q⟩ => ?_
 subst e
 cases r1
 obtain ⟨o, es, ep, hd, ho, I2, nf⟩ := d_freeze I1 hq
 obtain ⟨vs, rel, dd, hlen⟩ := frz_at (I2.hok a _ upd_same) hd
 obtain ⟨_, hs, _⟩ := dk_of I1.hok hq
 refine wpAny_pyIter_dict hs dd ?_
 have fresh : upd H1 a (.frz o (.dK kvs)) s1.heap.objs.size = none := I2.hok.fresh (Nat.le_refl _)
 have fp : ∀ b ∈ [s1.heap.objs.size], FpOk X pins (upd H1 a (.frz o (.dK kvs))) b := fun b hb => by
  have e : b = s1.heap.objs.size := by simpa using hb
  subst e
  exact I2.fpOk (Nat.le_refl _) fresh
 rw [hlen]
 exact ⟨s1.heap.objs.size, [s1.heap.objs.size], _, _, _, rfl, I2.kept (t' := s1.toks) fun b o e => Heap.get?_push_of_some _ e, turn_dict a _ hd, ⟨_, Heap.get?_push_size _ rfl, rfl, rfl⟩, fp, q o nf⟩
theorem rkv_at {w : Vw} : ∀ {ds : List (Key × D)} {vs : List (Key × V)} {i : Nat} {d : D}, RKV w ds vs → (keysD ds)[i]? = some d → ∃ p, vs[i]? = some p ∧ RD w d (kV p.1)
 | [], vs, i, d, h, e => by simp [keysD] at e
 |(k, x) :: ds, vs, i, d, h, e => by
  unfold RKV at h
  obtain ⟨v, r, rfl, h1, h2⟩ := h
  cases i with
  | zero =>
   cases e
   refine ⟨(k, v), rfl, ?_⟩
   cases k with
   | inl i => exact rd_int.mpr rfl
   | inr x => exact rd_str.mpr rfl
  | succ i => exact rkv_at (i := i) h2 e
theorem jok_keys {w1 : Vw} {n : Nat} {xs : List D} {o : Obj} {vs : List (Key × V)} (hn : n < w1.n) (h : w1.H (w1.μ n) = some (.frz o (.dK vs))) : JOk w1 (Itd (w1.μ n) o) (.dct n) xs := by
 intro w M x R st i
 obtain ⟨kvs, st, rfl⟩ := st
 have q := x.imm _ _ h rfl
 obtain ⟨o', us, q1, q2⟩ := R.cell n _ st
 rw [x.μ n hn, q] at q1
 cases q1
 refine ⟨fun d e => ?_, fun hl => ⟨vs, q, by rw [q2.length]; unfold keysD at hl; rw [List.length_map] at hl; exact hl⟩⟩
 obtain ⟨p, z1, z2⟩ := rkv_at q2 e
 refine ⟨⟨vs, p, q, z1⟩, fun y H' ⟨e1, e2⟩ => ⟨w, e1.symm, Ext.refl w, R, ?_⟩⟩
 obtain ⟨p', z3, z4⟩ := e2 vs q
 rw [z1] at z3
 cases z3
 rw [z4]
 exact z2
theorem jok_list {w1 : Vw} {n : Nat} {xs : List D} (hK : X.K = w1.K) (hn : n < w1.n) : JOk w1 (Itl X.K (w1.μ n)) (.lst n) xs := by
 intro w M x R st i
 obtain ⟨_, vs, q1, q2, _⟩ := R.listL st
 rw [x.μ n hn, x.K, ← hK] at q1
 refine ⟨fun d e => ?_, fun hl => ⟨vs, q1, by rw [q2.length]; exact hl⟩⟩
 obtain ⟨v, z1, z2⟩ := q2.get e
 refine ⟨⟨vs, v, q1, z1⟩, fun y H' ⟨e1, e2⟩ => ⟨w, e1.symm, Ext.refl w, R, ?_⟩⟩
 have := e2 vs q1
 rw [z1] at this
 cases this
 exact z2
theorem jok_enum {w1 : Vw} {n : Nat} {xs : List D} (hK : X.K = w1.K) (hn : n < w1.n) : JOk w1 (Ite X.K (w1.μ n)) (.enm n) xs := by
 intro w M x R st i
 obtain ⟨ys, st, rfl⟩ := st
 obtain ⟨_, vs, q1, q2, _⟩ := R.listL st
 rw [x.μ n hn, x.K, ← hK] at q1
 refine ⟨fun d e => ?_, fun hl => ⟨vs, q1, by rw [q2.length]; unfold enumD at hl; rw [List.length_mapIdx] at hl; exact hl⟩⟩
 unfold enumD at e
 rw [List.getElem?_mapIdx, Option.map_eq_some_iff] at e
 obtain ⟨d, e, rfl⟩ := e
 obtain ⟨v, z1, z2⟩ := q2.get e
 refine ⟨⟨vs, v, q1, z1⟩, fun y H' ⟨p, u, hp, e1, e2, e3⟩ => ?_⟩
 have := e3 vs q1
 rw [z1] at this
 cases this
 subst e1 e2
 obtain ⟨a1, a2, a3⟩ := new_tup R hp (RDs.cons (rd_int.mpr (rfl : V.int (i : Int) = _)) (RDs.cons z2 (RDs.nil w)))
 exact ⟨_, rfl, a1, a2, a3⟩
theorem rds_zip {w : Vw} {ys zs : List D} {us vs : List V} (h1 : RDs w ys us) (h2 : RDs w zs vs) {i : Nat} {d : D} (e : (zipT ys zs)[i]? = some d) : ∃ x y u v, d = .tup [x, y] ∧ us[i]? = some u ∧ vs[i]? = some v ∧ RD w x u ∧ RD w y v := by
 unfold zipT at e
 rw [List.getElem?_map, Option.map_eq_some_iff] at e
 obtain ⟨p, e, rfl⟩ := e
 rw [List.getElem?_zip_eq_some] at e
 obtain ⟨u, a1, a2⟩ := h1.get e.1
 obtain ⟨v, b1, b2⟩ := h2.get e.2
 exact ⟨_, _, u, v, rfl, a1, b1, a2, b2⟩
theorem jok_zip {w1 : Vw} {m : Nat} {a : Addr} {ys xs : List D} {us : List V} (hK : X.K = w1.K) (hm : m < w1.n) (ha : w1.H a = some (.tup us)) (hr : RDs w1 ys us) : JOk w1 (Itzt X.K a (w1.μ m) us) (.twoT m ys) xs := by
 intro w M x R st i
 obtain ⟨zs, st2, rfl⟩ := st
 have q1 : SqT X.K w.H a us := .of (x.imm _ _ ha rfl)
 have q2 := hr.ext x
 obtain ⟨_, vs, p1, p2, _⟩ := R.listL st2
 rw [x.μ m hm, x.K, ← hK] at p1
 refine ⟨fun d e => ?_, fun hl => ⟨vs, q1, p1, ?_⟩⟩
 ·obtain ⟨dx, dy, u, v, rfl, a1, a2, a3, a4⟩ := rds_zip q2 p2 e
  refine ⟨⟨vs, u, v, q1, p1, a1, a2⟩, fun y H' ⟨p, u', v', hp, e1, e2, e3, e4⟩ => ?_⟩
  have h4 := e4 vs p1
  rw [a1] at e3
  rw [a2] at h4
  cases e3
  cases h4
  subst e1 e2
  obtain ⟨b1, b2, b3⟩ := new_tup R hp (RDs.cons a3 (RDs.cons a4 (RDs.nil w)))
  exact ⟨_, rfl, b1, b2, b3⟩
 ·have l1 := q2.length
  have l2 := p2.length
  unfold zipT at hl
  rw [List.length_map, List.length_zip] at hl
  omega
theorem jok_tup {w1 : Vw} {a : Addr} {vs : List V} {xs : List D} (hK : X.K = w1.K) (h : SqT w1.K w1.H a vs) (r : RDs w1 xs vs) : JOk w1 (Itt X.K a) .no xs := by
 intro w M x R st i
 have q1 := x.sqT h
 rw [x.K, ← hK] at q1
 have q2 := r.ext x
 refine ⟨fun d e => ?_, fun hl => ⟨vs, q1, by rw [q2.length]; exact hl⟩⟩
 obtain ⟨v, z1, z2⟩ := q2.get e
 refine ⟨⟨vs, v, q1, z1⟩, fun y H' ⟨e1, e2⟩ => ⟨w, e1.symm, Ext.refl w, R, ?_⟩⟩
 have := e2 vs q1
 rw [z1] at this
 cases this
 exact z2
theorem jok_rng {w1 : Vw} {lo : Int} {n : Nat} : JOk w1 (Itr lo n) .no (intsD lo n) := by
 intro w M x R st i
 unfold intsD
 refine ⟨fun d e => ?_, fun hl => ?_⟩
 ·rw [List.getElem?_map, Option.map_eq_some_iff] at e
  obtain ⟨j, h1, rfl⟩ := e
  obtain ⟨h2, h3⟩ := List.getElem?_eq_some_iff.mp h1
  have hj : j = i := by simpa using h3.symm
  subst hj
  have h4 : j < n := by simpa using h2
  exact ⟨h4, fun y H' ⟨e1, e2⟩ => ⟨w, e1.symm, Ext.refl w, R, by rw [e2]; exact rd_int.mpr rfl⟩⟩
 ·have : n ≤ i := by simpa using hl
  exact this
theorem compOk_sc {X : Cx} {N' : List Str} {scope : Scope} {cl : List (Str × Addr)} {C : Addr} {fp : List Addr} {pins : List (Addr × Obj)} {s : Shared} {H : Hp} : (cxC X N' scope cl C fp pins s H).env.scope = relabS scope X.env.scope := rfl
theorem Good.block (G : Good c k Z w0 X) (hc : k.calm = true) {N' : List Str} {scope : Scope} (hn : N'.Nodup) (cl : List (Str × Addr)) (C : Addr) (fp : List Addr) (pins : List (Addr × Obj)) (s : Shared) (H : Hp) :
  Good c { k with N := N', sc := relabS scope k.sc, cells := false, own := ownOf scope, tries := false, raises := [] } noX w0 (cxC X N' scope cl C fp pins s H) where
 hK := G.hK
 wK := G.wK
 N := rfl
 nd := hn
 sc := by rw [compOk_sc, G.sc]
 calm := fun _ => G.calm hc
 units := G.units
 fns := fun _ f x sp h1 h2 => by
  obtain ⟨kk, f, fd, ps, ds, dvs, dD, sp0, h⟩ := G.fns hc f x sp h1 h2
  exact ⟨kk, f, fd, ps, ds, dvs, dD, sp0, h⟩
 flen := G.flen
 glb := G.glb
 blt := G.blt
 exc := ⟨E0, fun _ _ _ _ _ _ _ h => by
  obtain ⟨_, _, _, _, _, _, _, _, _, _, _, _, _, _, _, h⟩ := h
  exact h.elim, fun cls dd H' h => by
  obtain ⟨_, _, _, _, _, _, _, _, _, _, _, _, _, h⟩ := h
  exact h.elim⟩
 stk := fun h => by cases h
 po := fun _ => PassesOwn.never
 fnc := fun h => by cases h
 fno := fun x hx => by
  show (scope.names.any fun y => y.1 == x && y.2 == NameKind.cell) = true
  have hx : x ∈ (scope.names.filter fun y => y.2 == NameKind.cell).map (·.1) := hx
  obtain ⟨y, hy, rfl⟩ := List.mem_map.mp hx
  obtain ⟨h1, h2⟩ := List.mem_filter.mp hy
  rw [List.any_eq_true]
  exact ⟨y, h1, by rw [beq_self_eq_true, Bool.true_and]; exact h2⟩
theorem Good.tgt (G : Good c k Z w0 X) : ∀ (is : List Nat) (ex : Expr), chkTgt k is ex = true → PG X ex (gF w0 is) := by
 have one : ∀ (i : Nat) (x : Str) (pos : Pos), k.N[i]? = some x → k.locC x = true → PG X (.Name x pos) (gName i) := fun i x pos h1 h2 => by
  obtain ⟨l1, l2⟩ := G.locC h2
  exact pg_name G.nd (by rw [G.N]; exact h1) l1 l2
 have many : ∀ (is : List Nat) (es : List Expr), chkTg k is es = true → PGs X es (gAll is) ∧ (assignEach es X.env).length = is.length ∧ (assignEach es X.env).findIdx? (·.1) = none := by
  intro is
  induction is with
  | nil =>
   intro es h
   cases es with
   | nil => exact ⟨pgs_nil, rfl, rfl⟩
   | cons e es => exact absurd h Bool.false_ne_true
  | cons i is ih =>
   intro es h
   cases es with
   | nil => exact absurd h Bool.false_ne_true
   | cons e es =>
    cases e with
    | Name x pos =>
     change (_ && _) = true at h
     simp only [Bool.and_eq_true, beq_iff_eq] at h
     obtain ⟨h1, h2, h3⟩ := ih es h.2
     refine ⟨pgs_cons (one i x pos h.1.1 h.1.2) h1 rfl, ?_, ?_⟩
     ·show (assignEach es X.env).length + 1 = is.length + 1
      rw [h2]
     ·show ((false, _) :: assignEach es X.env).findIdx? (·.1) = none
      rw [List.findIdx?_cons, h3]
      rfl
    | _ => exact absurd h Bool.false_ne_true
 intro is ex h
 cases ex with
 | Name x pos =>
  match is, h with
  | [i], h =>
   change (_ && _) = true at h
   simp only [Bool.and_eq_true, beq_iff_eq] at h
   exact pg_one (one _ x pos h.1 h.2)
  | [], h => exact absurd h Bool.false_ne_true
  | _ :: _ :: _, h => exact absurd h Bool.false_ne_true
 | Tuple es kk pos =>
  change (_ && _) = true at h
  simp only [Bool.and_eq_true, decide_eq_true_eq] at h
  obtain ⟨h1, h2, h3⟩ := many is es h.2
  exact pg_many h.1.2 (pg_tup (G.calm h.1.1) h1 h2 h3)
 | _ => exact absurd h Bool.false_ne_true
theorem cap_rel {w : Vw} {js : List (Option Nat)} {σD : DEnv} {σ : L2.St} (h : REnv w σD σ) : REnv w (capD js σD) (capSt js σ) := by
 refine ⟨by unfold capD capSt; simp, fun i d e => ?_⟩
 unfold capD at e
 unfold capSt
 rw [List.getElem?_map] at e ⊢
 cases hj : js[i]? with
 | none => rw [hj] at e; cases e
 | some o =>
  rw [hj] at e
  simp only [Option.map_some, Option.some.injEq] at e ⊢
  cases o with
  | none => cases e
  | some j =>
   simp only [Option.bind_some] at e ⊢
   cases hz : σD[j]? with
   | none => rw [hz] at e; cases e
   | some z =>
    rw [hz] at e
    have e' : z = some d := e
    subst e'
    obtain ⟨v, q1, q2⟩ := h.2 j d hz
    exact ⟨v, by rw [q1]; rfl, q2⟩
theorem comp_run {w1 : Vw} {J : L2.It} {own : Own} {xs : List D} {tg : List Nat} {cd : DT} {el : DE} {M1 : Store} {H1 : Hp} {σD : DEnv} {σ : L2.St} {QD : Store → Prop} {Q : VK} (e0 : Ext w0 w1) (hH : w1.H = H1) (R1 : RS w1 M1) (env : REnv w1 σD σ) (jk : JOk w1 J own xs)
  (h : compD own xs tg cd el M1.length xs σD (M1 ++ [.lst []]) QD) (a : Aft w1 (fun d M => d = .ref M1.length ∧ QD M) Q) : ∀ p, H1 p = none → ∃ W : Nat → Nat → L2.St → Hp → Prop, (∃ m, W 0 m σ (upd H1 p (.lst []))) ∧
   ∀ i m σc Hc, W i m σc Hc → (J.stop i Hc ∧ Q (.ref p) Hc) ∨ (J.go i Hc ∧ ∀ x H', J.yld i Hc x H' → gF w0 tg x σc H' fun σ2 H2 => tFT w0 cd σ2 H2 fun b H3 => if b = true then tF w0 el σ2 H3 fun y H4 => ∃ acc, H4 p = some (.lst acc) ∧ acc.length < sizeLine ∧
    ∃ m', m' < m ∧ W (i + 1) m' σ2 (upd H4 p (.lst (acc ++ [y]))) else ∃ m', m' < m ∧ W (i + 1) m' σ2 H3) := by
 intro p hp
 subst hH
 obtain ⟨x1, R2, rz⟩ := new_list (xs := []) R1 hp (RDs.nil w1)
 have hz : M1.length < (w1.push p (.lst [])).n ∧ p = (w1.push p (.lst [])).μ M1.length := by
  obtain ⟨z1, z2⟩ := rd_ref.mp rz
  exact ⟨z1, by injection z2⟩
 refine ⟨fun i m σc Hc => ∃ w σE M, StOk w0 w σE M σc Hc ∧ Ext (w1.push p (.lst [])) w ∧ i ≤ xs.length ∧ m = xs.length - i ∧ compD own xs tg cd el M1.length (xs.drop i) σE M QD, ⟨xs.length, w1.push p (.lst []), σD, _, ⟨rfl, e0.trans x1, R2, env.ext x1⟩, Ext.refl _, Nat.zero_le _, rfl, h⟩, ?_⟩
 rintro i m σc Hc ⟨w, σE, M, S, x2, hi, rfl, hc⟩
 have x12 : Ext w1 w := x1.trans x2
 have hp' : w.μ M1.length = p := (x2.μ _ hz.1).trans hz.2.symm
 have hlt : M1.length < w.n := Nat.lt_of_lt_of_le hz.1 x2.n
 have stp : ∀ st : still own xs M, _ := fun st => jk w M x12 S.rs st i
 rw [S.heap] at stp
 by_cases hil : i < xs.length
 ·rw [List.drop_eq_getElem_cons hil] at hc
  obtain ⟨st, hc⟩ := hc
  obtain ⟨j1, j2⟩ := (stp st).1 xs[i] (List.getElem?_eq_getElem hil)
  refine .inr ⟨j1, fun x H' hy => ?_⟩
  obtain ⟨w3, rfl, x3, R3, rd3⟩ := j2 x H' hy
  refine ⟨w3, σE, M, xs[i], _, ⟨rfl, S.ext.trans x3, R3, S.env.ext x3⟩, rd3, hc, fun σ2 σE2 env2 q2 => ?_⟩
  refine ⟨w3, σE2, M, _, ⟨rfl, S.ext.trans x3, R3, env2⟩, q2, fun b w4 M4 x4 R4 q4 => ?_⟩
  cases b with
  | true =>
   rw [if_pos rfl] at q4 ⊢
   refine tF_of ⟨rfl, (S.ext.trans x3).trans x4, R4, env2.ext x4⟩ q4 fun y w5 dy M5 x5 R5 rd5 q5 => ?_
   obtain ⟨acc, g1, g2, g3⟩ := q5
   obtain ⟨hn, vs, z1, z2⟩ := R5.list g1
   have x35 : Ext w w5 := (x3.trans x4).trans x5
   have hp5 : w5.μ M1.length = p := (x35.μ _ hlt).trans hp'
   obtain ⟨y1, y2⟩ := write_list R5 hn z1 (z2.append (RDs.cons rd5 (RDs.nil w5)))
   rw [hp5] at z1 y1 y2
   refine ⟨vs, z1, by rw [z2.length]; exact g2, xs.length - (i + 1), by omega, w5.alloc p (.lst (vs ++ [y])), σE2, _, ⟨rfl, (S.ext.trans x35).trans y1, y2, (env2.ext (x4.trans x5)).ext y1⟩, (x2.trans x35).trans y1, hil, rfl, g3⟩
  | false =>
   rw [if_neg Bool.false_ne_true] at q4 ⊢
   exact ⟨xs.length - (i + 1), by omega, w4, σE2, M4, ⟨rfl, (S.ext.trans x3).trans x4, R4, env2.ext x4⟩, (x2.trans x3).trans x4, hil, rfl, q4⟩
 ·rw [List.drop_eq_nil_of_le (by omega)] at hc
  obtain ⟨st, hq⟩ := hc
  refine .inl ⟨(stp st).2 (by omega), ?_⟩
  have := a (.ref p) w (.ref M1.length) M x12 S.rs (rd_ref.mpr ⟨hlt, by rw [hp']⟩) ⟨rfl, hq⟩
  rw [S.heap] at this
  exact this
end
def SoundE (c : Cfg) (e : E) : Prop := ∀ (k : Ck) (Z : DX) (w0 : Vw) (X : Cx) (ex : Expr), Good c k Z w0 X → chkE k e ex = true → PE X ex (tF w0 (te c Z e)) ∧ (noIf e = true → PT X ex (tFT w0 (ttD (te c Z e))))
def SoundEs (c : Cfg) (es : Es) : Prop := ∀ (k : Ck) (Z : DX) (w0 : Vw) (X : Cx) (ls : List Expr), Good c k Z w0 X → chkEs k es ls = true → PA X ls (tFA w0 (tes c Z es)) ∧
 ∀ (b : Bool) (pos : Pos), PE X (.BoolOp (if b then .And else .Or) ls pos) (tF w0 (tbop c Z b es)) ∧ (noIfs es = true → PW X (.BoolOp (if b then .And else .Or) ls pos) (tFT w0 (ttD (tbop c Z b es))))
def SoundO (c : Cfg) (eo : Eo) : Prop := (∀ (k : Ck) (Z : DX) (w0 : Vw) (X : Cx) (lo : Option Expr), Good c k Z w0 X → chkO k eo lo = true → PO X lo (tFO w0 (teo c Z eo))) ∧
 ∀ (k : Ck) (Z : DX) (w0 : Vw) (X : Cx) (ls : List Expr), Good c k Z w0 X → chkC k eo ls = true → (∃ x, ls = [x] ∧ PT X x (tFT w0 (tcd c Z eo))) ∨ (ls = [] ∧ eo = .no)
def SoundI (c : Cfg) (it : It) : Prop := ∀ (k : Ck) (Z : DX) (w0 : Vw) (X : Cx) (tg ex : Expr), Good c k Z w0 X → chkIt k it ex = true → itTg it tg = true → PI X tg ex (iF w0 (tit c Z it))
section
variable {c : Cfg} {k : Ck} {Z : DX} {w0 : Vw} {X : Cx}
theorem tF_val {d : D} {v : V} {σ : L2.St} {H : Hp} {Q : VK} (hv : ∀ w : Vw, w.K = w0.K → RD w d v) (h : tF w0 (fun _ M Q => Q d M) σ H Q) : tC v σ H Q := by
 obtain ⟨w, σD, M, QD, S, g, a⟩ := h
 have := a v w d M (Ext.refl w) S.rs (hv w S.K) g
 rw [S.heap] at this
 exact this
theorem both {f : DE} {ex : Expr} {b : Bool} (G : Good c k Z w0 X) (h : PE X ex (tF w0 f)) (he : ∀ whole, isTrue ex X.env whole = (do let v ← whole; standAt ex.pos; holding [v] (truthy v))) :
  PE X ex (tF w0 f) ∧ (b = true → PT X ex (tFT w0 (ttD f))) := ⟨h, fun _ => pt_of G h he⟩
theorem sound_call {f : Nat} {es : Es} {x : Str} {np pos : Pos} {ls : List Expr} (G : Good c k Z w0 X) (hc : k.calm = true) (hf : k.FN[f]? = some x) (hg : k.glob x = true) (hs : chkEs k es ls = true) (ih : PA X ls (tFA w0 (tes c Z es))) :
  PE X (.Call (.Name x np) ls [] pos) (tF w0 (te c Z (.call f es))) := by
 obtain ⟨g1, g2, g3⟩ := G.gl hg
 obtain ⟨E, ps, xk⟩ := G.exc
 cases hsp : c.Γ[f]? with
 | none =>
  have h1 := (List.getElem?_eq_some_iff.mp hf).1
  have h2 := List.getElem?_eq_none_iff.mp hsp
  rw [G.flen] at h1
  omega
 | some sp =>
  obtain ⟨kk, fa, fd, pr, ds, dvs, dD, sp0, F, hr, hm, hk, hb, hd, hD, hsp0⟩ := G.fns hc f x sp hf hsp
  have key : ∀ σ H Q, tF w0 (te c Z (.call f es)) σ H Q → tFA w0 (tes c Z es) σ H fun vs H1 => spF X.K sp0 (vs ++ dvs) H1 Q E := by
   rintro σ H Q ⟨w, σD, M, QD, S, g, a⟩
   refine ⟨w, σD, M, _, S, g, fun vs w' ds' M' x' r' rd' q' => ?_⟩
   have q' : sp ds' M' QD Z := by
    have := q'
    simp only [hsp] at this
    exact this
   have hKw : w'.K = X.K := by rw [x'.K, S.K, G.eK]
   exact ⟨w', ds' ++ dD, M', QD, Z, hKw, rfl, r', rd'.append (hD w' hKw), hsp0 _ _ _ _ q', a.ext x', fun cls dd H' hx => xk cls dd H' (xkOf_mono (S.ext.trans x') hx)⟩
  cases ls with
  | nil =>
   refine PE.imp (pe_call0 F hr g1 hm hk hb hd ps g2) fun σ H Q h => ?_
   have h2 := key σ H Q h
   obtain ⟨w, σD, M, QD, S, g, a⟩ := h2
   cases es with
   | nil =>
    have := a [] w [] M (Ext.refl w) S.rs (RDs.nil w) g
    rw [S.heap] at this
    exact this
   | cons e r => exact absurd hs Bool.false_ne_true
  | cons l ls =>
   cases es with
   | nil => exact absurd hs Bool.false_ne_true
   | cons e r =>
    change (_ && _) = true at hs
    simp only [Bool.and_eq_true] at hs
    exact PE.imp (pe_call F hr g1 hm hk hb hd ps ih g2 (star_cons hs.1.2) (any_back (star_none r ls hs.2))) key
theorem sound_var {i : Nat} {x : Str} {pos : Pos} (G : Good c k Z w0 X) (h1 : k.N[i]? = some x) (h2 : k.vis x = true) : PE X (.Name x pos) (tF w0 (te c Z (.var i))) := by
 obtain ⟨v1, v2, v3⟩ := G.vis h2
 refine PE.imp (pe_var (i := i) (by rw [G.N]; exact h1) v1 v2 v3) fun σ H Q ⟨w, σD, M, QD, S, g, a⟩ => ?_
 unfold te at g
 split at g
 ·rename_i d e
  obtain ⟨v, q1, q2⟩ := S.env.2 i d e
  have := a v w d M (Ext.refl w) S.rs q2 g
  rw [S.heap] at this
  exact ⟨v, q1, this⟩
 ·exact g.elim
theorem sound_glb {g : Nat} {x : Str} {pos : Pos} (G : Good c k Z w0 X) (h1 : k.GN[g]? = some x) (h2 : k.glob x = true) : PE X (.Name x pos) (tF w0 (te c Z (.glb g))) := by
 obtain ⟨g1, g2, g3⟩ := G.gl h2
 cases hd : c.G[g]? with
 | none =>
  refine PE.imp (t := fun _ _ _ => False) (fun _ _ _ _ _ _ h => h.elim) fun σ H Q ⟨w, σD, M, QD, S, q, a⟩ => ?_
  unfold te at q
  rw [hd] at q
  exact q
 | some d =>
  obtain ⟨v, u, q1, q2, q3⟩ := G.glb g x d h1 hd
  refine PE.imp (pe_glob g1 q1 q2 g2) fun σ H Q h => tF_val (d := d) (fun w hw => q3 w (by rw [hw, G.eK])) ?_
  obtain ⟨w, σD, M, QD, S, q, a⟩ := h
  unfold te at q
  rw [hd] at q
  exact ⟨w, σD, M, QD, S, q, a⟩
theorem stars {es : Es} {l : Expr} {ls : List Expr} {pos : Pos} (hs : chkEs k es (l :: ls) = true) : starEach (l :: ls) X.env = (false, eval l X.env) :: starEach ls X.env ∧ (backTo pos (starEach ls X.env)).any (·.1) = false := by
 cases es with
 | nil => exact absurd hs Bool.false_ne_true
 | cons e r =>
  change (_ && _) = true at hs
  simp only [Bool.and_eq_true] at hs
  exact ⟨star_cons hs.1.2, any_back (star_none r ls hs.2)⟩
theorem sound_bf {b : Bf} {es : Es} {x : Str} {np pos : Pos} {l : Expr} {ls : List Expr} (G : Good c k Z w0 X) (hc : k.calm = true ∨ bfCalm0 b = true) (hx : x = (bfOf b).1) (hg : k.glob x = true) (hB : x ∈ k.BN) (hs : chkEs k es (l :: ls) = true) (ih : PA X (l :: ls) (tFA w0 (tes c Z es))) :
  PE X (.Call (.Name x np) (l :: ls) [] pos) (tF w0 (te c Z (.bf b es))) := by
 obtain ⟨g1, g2, g3⟩ := G.gl hg
 have hm := G.blt x hB
 have hb : bootBuiltins x = some (bfOf b).2 := by rw [hx]; exact boot_bf b
 have snd := bf_sound (w0 := w0) G.eK b (hc.imp G.calm id)
 have st : starEach (l :: ls) X.env = (false, eval l X.env) :: starEach ls X.env ∧ (backTo pos (starEach ls X.env)).any (·.1) = false := by
  cases es with
  | nil => exact absurd hs Bool.false_ne_true
  | cons e r =>
   change (_ && _) = true at hs
   simp only [Bool.and_eq_true] at hs
   exact ⟨star_cons hs.1.2, any_back (star_none r ls hs.2)⟩
 have key : ∀ σ H Q, tF w0 (te c Z (.bf b es)) σ H Q → tCB (rC w0 (bfD w0.K b)) (tFA w0 (tes c Z es)) σ H Q := by
  rintro σ H Q ⟨w, σD, M, QD, S, g, a⟩
  refine ⟨w, σD, M, _, S, g, fun vs w' ds M' x' r' rd' q' => ?_⟩
  rw [← G.wK] at q'
  exact ⟨w', M', ds, QD, rfl, by rw [x'.K, S.K], r', rd', q', a.ext x'⟩
 cases hv : (bfOf b).2 with
 | builtin id =>
  rw [hv] at hb snd
  exact PE.imp (pe_callB snd g1 hm hb ih g3 g2 st.1 st.2) key
 | type T =>
  rw [hv] at hb snd
  exact PE.imp (pe_callTy snd g1 hm hb ih g3 g2 st.1 st.2) key
 | _ => cases b <;> cases hv
theorem sound_mt {m : Mt} {o : E} {es : Es} {l : Expr} {ap cp : Pos} {ls : List Expr} (G : Good c k Z w0 X) (hb : baseOk l = true) (hl : (ap.endLine == cp.line) = true) (hn : ls.length < 30) (hs : chkEs k es ls = true) (ho : PE X l (tF w0 (te c Z o))) (ih : PA X ls (tFA w0 (tes c Z es))) :
  PE X (.Call (.Attribute l (mtN m) ap) ls [] cp) (tF w0 (te c Z (.mt m o es))) := by
 have snd := mt_sound (w0 := w0) G.eK G.units m
 cases ls with
 | nil =>
  refine PE.imp (pe_bm0 (mt_pa m) (mt_slot m) (mt_ty m) snd ho (attr_base hb) hl) fun σ H Q ⟨w, σD, M, QD, S, g, a⟩ => ?_
  refine tF_of S g fun x w1 dx M1 x1 r1 rx q1 => ?_
  have ty := mtK_ty r1 rx q1.1
  rw [x1.K, S.K, ← G.eK] at ty
  refine ⟨ty, ?_⟩
  cases es with
  | nil => exact ⟨w1, M1, dx, [], QD, rfl, by rw [x1.K, S.K], r1, rx, RDs.nil w1, q1.2, a.ext x1⟩
  | cons e r => exact absurd hs Bool.false_ne_true
 | cons l' ls =>
  cases es with
  | nil => exact absurd hs Bool.false_ne_true
  | cons e r =>
   have hs' := hs
   change (_ && _) = true at hs'
   simp only [Bool.and_eq_true] at hs'
   have few : ((backTo cp (starEach (l' :: ls) X.env)).all (fun x => !x.1) && (backToKw cp (keywordEach [] X.env)).all (fun x => x.1.isSome)
     && decide ((l' :: ls).length + ([] : List Keyword).length + (if ([] : List Keyword).isEmpty then 0 else 1) < 30)) = true := by
    rw [all_back (star_none _ _ hs)]
    show (true && true && decide ((l' :: ls).length + 0 + 0 < 30)) = true
    simpa using hn
   refine PE.imp (pe_bm (mt_pa m) (mt_slot m) (mt_ty m) snd ho ih (attr_base hb) few hl (star_cons hs'.1.2) (any_back (star_none r ls hs'.2))) fun σ H Q ⟨w, σD, M, QD, S, g, a⟩ => ?_
   refine tF_of S g fun x w1 dx M1 x1 r1 rx q1 => ?_
   have ty := mtK_ty r1 rx q1.1
   rw [x1.K, S.K, ← G.eK] at ty
   refine ⟨ty, w1, σD, M1, _, S.next x1 r1, q1.2, fun vs w2 ds M2 x2 r2 rd2 q2 => ?_⟩
   exact ⟨w2, M2, dx, ds, QD, rfl, by rw [x2.K, x1.K, S.K], r2, rx.ext x2, rd2, q2, a.ext (x1.trans x2)⟩
theorem sound_sl {a : E} {lo hi : Eo} {l : Expr} {x y : Option Expr} {p2 pos : Pos} (G : Good c k Z w0 X) (ha : PE X l (tF w0 (te c Z a))) (h1 : PO X x (tFO w0 (teo c Z lo))) (h2 : PO X y (tFO w0 (teo c Z hi))) :
  PE X (.Subscript l (.Slice x y none p2) pos) (tF w0 (te c Z (.sl a lo hi))) := by
 refine PE.imp (pe_slice (sl_sound (w0 := w0) G.eK) ha h1 h2) fun σ H Q ⟨w, σD, M, QD, S, g, aq⟩ => ?_
 refine tF_of S g fun x w1 dx M1 x1 r1 rx q1 => ?_
 refine ⟨w1, σD, M1, _, S.next x1 r1, q1, fun l w2 M2 x2 r2 q2 => ?_⟩
 refine ⟨w2, σD, M2, _, (S.next x1 r1).next x2 r2, q2, fun h w3 M3 x3 r3 q3 => ?_⟩
 exact ⟨w3, M3, dx, QD, rfl, by rw [x3.K, x2.K, x1.K, S.K], r3, rx.ext (x2.trans x3), q3, aq.ext ((x1.trans x2).trans x3)⟩
theorem m1_shape {z : Expr} (h : isM1 z = true) : ∃ y p q, z = .UnaryOp .USub (.Constant (.int 1) y p) q := by
 unfold isM1 at h
 split at h
 ·rename_i j y p q
  have : j = 1 := by simpa using h
  subst this
  exact ⟨y, p, q, rfl⟩
 ·cases h
theorem sound_rev {a : E} {l z : Expr} {p2 pos : Pos} (G : Good c k Z w0 X) (ha : PE X l (tF w0 (te c Z a))) (hz : isM1 z = true) : PE X (.Subscript l (.Slice none none (some z) p2) pos) (tF w0 (te c Z (.rev a))) := by
 obtain ⟨y, p, q, rfl⟩ := m1_shape hz
 refine PE.imp (pe_rev ha (po_some (pe_un un_neg pe_int))) fun σ H Q ⟨w, σD, M, QD, S, g, aq⟩ => ?_
 refine tF_of S g fun x w1 dx M1 x1 r1 rx q1 => ?_
 split at q1
 ·obtain ⟨xs, z1, z2⟩ := q1
  obtain ⟨_, rfl⟩ := rd_ref.mp rx
  obtain ⟨_, vs, y1, y2, _⟩ := r1.listL z1
  have hK : w1.K = X.K := by rw [x1.K, S.K, G.eK]
  rw [hK] at y1
  refine ⟨1, rfl, -1, rfl, rfl, _, vs, rfl, y1, fun p hp => ?_⟩
  obtain ⟨t1, t2, t3⟩ := new_list r1 hp y2.reverse
  exact aq _ _ _ _ (x1.trans t1) t2 t3 z2
 ·exact q1.elim
theorem sound_dct {a b : E} {l r : Expr} {pos : Pos} (G : Good c k Z w0 X) (ha : PE X l (tF w0 (te c Z a))) (hb : PE X r (tF w0 (te c Z b))) : PE X (.Dict [some l] [r] pos) (tF w0 (te c Z (.dct a b))) := by
 refine PE.imp (pe_disp (pps_cons ha hb pps_nil) rfl rfl (by simp) (by simp)) fun σ H Q ⟨w, σD, M, QD, S, g, aq⟩ => ?_
 intro p hp
 rw [← S.heap] at hp
 obtain ⟨y1, y2, y3⟩ := new_dict (xs := []) (vs := []) S.rs hp (by unfold RKV; rfl)
 have hup : upd H p (.dK []) = (w.push p (.dK [])).H := by rw [← S.heap]; rfl
 have eμ : (w.push p (.dK [])).μ M.length = p := by
  show (if M.length = w.n then p else w.μ M.length) = p
  rw [if_pos S.rs.len.symm]
 have ln : M.length < (w.push p (.dK [])).n := by show M.length < w.n + 1; rw [S.rs.len]; omega
 rw [hup]
 refine tF_of (S.next y1 y2) g fun x w1 dx M1 x1 r1 rx q1 => ?_
 refine tF_of ((S.next y1 y2).next x1 r1) q1 fun y w2 dy M2 x2 r2 ry q2 => ?_
 obtain ⟨kk, e1, e2, e3⟩ := q2
 obtain ⟨hn, vs, u1, u2⟩ := r2.dict e2
 rw [(x1.trans x2).μ _ ln, eμ] at u1
 have ev : vs = [] := by have := u2.length; exact List.length_eq_zero_iff.mp (by simpa using this)
 subst ev
 cases keyD_kV e1 (rx.ext x2)
 refine ⟨u1, [(kk, y)], rfl, by simp, ?_⟩
 have u1' : w2.H (w2.μ M.length) = some (.dK []) := by rw [(x1.trans x2).μ _ ln, eμ]; exact u1
 obtain ⟨t1, t2⟩ := write_dict (vs := [(kk, y)]) (xs := [(kk, dy)]) r2 hn u1' (by
  have := (show RKV w2 [] [] by unfold RKV; rfl).put (k := kk) ry
  exact this)
 have rr : RD (w2.alloc (w2.μ M.length) (.dK [(kk, y)])) (.ref M.length) (.ref p) := (y3.ext (x1.trans x2)).ext t1
 have := aq _ _ _ _ (((y1.trans x1).trans x2).trans t1) t2 rr e3
 have hf : (w2.alloc (w2.μ M.length) (.dK [(kk, y)])).H = upd w2.H p (.dK (mergeK [] [(kk, y)])) := by
  show upd w2.H (w2.μ M.length) (.dK [(kk, y)]) = _
  rw [(x1.trans x2).μ _ ln, eμ]
  rfl
 rw [← hf]
 exact this
theorem sl_W : SlR X (fun x lo hi H Q => ∃ a xs, x = .ref a ∧ SqT X.K H a xs ∧ ((HT.sIx xs.length 0 lo = 0 ∧ HT.sIx xs.length xs.length hi = xs.length) → Q x H) ∧ ∀ p, H p = none → Q (.ref p) (upd H p (.tup (cutV xs lo hi)))) := by
 intro pins s σ H x v vl vu lo hi sl Q I rx hs pl pu h
 obtain ⟨a, xs, rfl, hx, h1, h2⟩ := h
 by_cases hw : HT.sIx xs.length 0 lo = 0 ∧ HT.sIx xs.length xs.length hi = xs.length
 ·exact sl_tupF pins s σ H _ v vl vu lo hi sl Q I rx hs pl pu ⟨a, xs, rfl, hx, hw, h1 hw⟩
 ·exact sl_tup pins s σ H _ v vl vu lo hi sl Q I rx hs pl pu ⟨a, xs, rfl, hx, hw, h2⟩
theorem sound_slW {a : E} {lo hi : Eo} {l : Expr} {x y : Option Expr} {p2 pos : Pos} (G : Good c k Z w0 X) (ha : PE X l (tF w0 (te c Z a))) (h1 : PO X x (tFO w0 (teo c Z lo))) (h2 : PO X y (tFO w0 (teo c Z hi))) :
  PE X (.Subscript l (.Slice x y none p2) pos) (tF w0 (te c Z (.slW a lo hi))) := by
 refine PE.imp (pe_slice sl_W ha h1 h2) fun σ H Q ⟨w, σD, M, QD, S, g, aq⟩ => ?_
 refine tF_of S g fun x w1 dx M1 x1 r1 rx q1 => ?_
 have S1 := S.next x1 r1
 refine ⟨w1, σD, M1, _, S1, q1, fun l1 w2 M2 x2 r2 q2 => ?_⟩
 have S2 := S1.next x2 r2
 refine ⟨w2, σD, M2, _, S2, q2, fun h1 w3 M3 x3 r3 q3 => ?_⟩
 obtain ⟨xs, rfl, q4⟩ := onTup_inv q3
 have rx3 := (rx.ext x2).ext x3
 obtain ⟨p, vs, rfl, e1, e2⟩ := rd_tup.mp rx3
 refine ⟨p, vs, rfl, .of e1, fun hw => ?_, fun q hq => ?_⟩
 ·have e : cutD xs l1 h1 = xs := by
   unfold cutD
   rw [← e2.length, hw.1, hw.2, List.drop_zero, Nat.sub_zero, e2.length, List.take_length]
  rw [e] at q4
  exact aq _ _ _ _ ((x1.trans x2).trans x3) r3 rx3 q4
 ·obtain ⟨y1, y2, y3⟩ := new_tup r3 hq (cut_rel (lo := l1) (hi := h1) e2)
  exact aq _ _ _ _ (((x1.trans x2).trans x3).trans y1) y2 y3 q4
theorem sound_vals {a : E} {x : Str} {p1 ap cp q1 : Pos} {l : Expr} (G : Good c k Z w0 X) (hc : k.calm = true) (hx : x = ("list" : Str)) (hg : k.glob x = true) (hB : x ∈ k.BN) (hb : baseOk l = true) (hl : (ap.endLine == cp.line) = true) (ih : PE X l (tF w0 (te c Z a))) :
  PE X (.Call (.Name x p1) [.Call (.Attribute l "values" ap) [] [] cp] [] q1) (tF w0 (te c Z (.vals a))) := by
 obtain ⟨g1, g2, g3⟩ := G.gl hg
 have hv := pe_bm0 (apos := ap) (cpos := cp) PySem.F.plainAttrs_dict PySem.F.slot_dict_values PySem.F.type_dict_values (mt_values (X := X)) ih (attr_base hb) hl
 refine PE.imp (pe_callTy (call_listV (X := X) (G.calm hc)) g1 (G.blt _ hB) (by rw [hx]; exact boot_list) (pa_cons hv pa_nil rfl) g3 g2 rfl rfl) fun σ H Q ⟨w, σD, M, QD, S, g, aq⟩ => ?_
 refine tF_of S g fun x w1 dx M1 x1 r1 rx q1 => ?_
 obtain ⟨n, rfl, kvs, e1, q2⟩ := onRef_inv q1
 obtain ⟨hn, rfl⟩ := rd_ref.mp rx
 obtain ⟨_, vs, z1, z2⟩ := r1.dict e1
 refine ⟨.inr (.inr (.inl ⟨rfl, .inl ⟨vs, z1⟩⟩)), w1.μ n, vs, rfl, rfl, z1, fun p hp => ?_⟩
 have ra := r1.alloc (o := .ext (ViewPhi p (w1.μ n))) hp
 have ne : w1.μ n ≠ p := fun z => by rw [z, hp] at z1; cases z1
 refine ⟨p, w1.μ n, vs, rfl, upd_same, (upd_ne ne).trans z1, fun l hl => ?_⟩
 have zv : RDs (w1.alloc p (.ext (ViewPhi p (w1.μ n)))) (kvs.map (·.2)) (vs.map (·.2)) := (rkv_vals z2).ext (ext_alloc hp)
 obtain ⟨y1, y2, y3⟩ := new_list (w := w1.alloc p (.ext (ViewPhi p (w1.μ n)))) ra hl zv
 exact aq _ _ _ _ ((x1.trans (ext_alloc hp)).trans y1) y2 y3 q2
theorem sound_setf {b : Bool} {a : E} {x y : Str} {p1 p2 q1 q2 : Pos} {l : Expr} (G : Good c k Z w0 X) (hc : k.calm = true) (hx : x = ("len" : Str)) (hy : y = ("set" : Str)) (hg : k.glob x = true) (hg' : k.glob y = true) (hB : x ∈ k.BN) (hB' : y ∈ k.BN) (hl : noStar l = true) (ih : PE X l (tF w0 (te c Z a))) :
  PE X (.Call (.Name x p1) [.Call (.Name y p2) [l] [] q2] [] q1) (tF w0 (te c Z (.setf b a))) := by
 obtain ⟨g1, g2, g3⟩ := G.gl hg
 obtain ⟨g1', g2', g3'⟩ := G.gl hg'
 have hset := pe_callTy (p := p2) (pos := q2) (call_set1 (X := X) (G.calm hc)) g1' (G.blt _ hB') (by rw [hy]; exact boot_set) (pa_cons ih pa_nil (star_cons hl)) g3' g2' (star_cons hl) rfl
 have key : ∀ (w1 : Vw) (M1 : Store) (n : Nat) (ks : List Key) (R : List V → Hp → VK → Prop) (Q : VK), RS w1 M1 → w1.K = X.K → readL M1 n = some (ks.map kD) → ks.length + 1 < scanBound → n < w1.n →
   (∀ p ks', w1.H p = none → ks'.Nodup → ks'.length ≤ ks.length → (∀ k, k ∈ ks' ↔ k ∈ ks) → R [V.ref p] (w1.alloc p (.ext (SetPhi X.prog X.w p ks'))).H Q) → ∃ (a : Addr) (ks : List Key), [V.ref (w1.μ n)] = [V.ref a] ∧ SqL X.K w1.H a (ks.map kV) ∧ ks.length + 1 < scanBound ∧ ∀ p ks', w1.H p = none → ks'.Nodup → ks'.length ≤ ks.length → (∀ k, k ∈ ks' ↔ k ∈ ks) → R [V.ref p] (upd w1.H p (.ext (SetPhi X.prog X.w p ks'))) Q := by
  intro w1 M1 n ks R Q r1 hK e1 hz hn h
  obtain ⟨_, vs, z1, z2, _⟩ := r1.listL e1
  rw [hK] at z1
  rw [rds_keys z2] at z1
  exact ⟨_, ks, rfl, z1, hz, h⟩
 cases b with
 | true =>
  refine PE.imp (pe_callB (call_lenS (X := X)) g1 (G.blt _ hB) (by rw [hx]; exact PySem.boot_len) (pa_cons hset pa_nil rfl) g3 g2 rfl rfl) fun σ H Q ⟨w, σD, M, QD, S, g, aq⟩ => ?_
  refine tF_of S g fun x w1 dx M1 x1 r1 rx q1 => ?_
  obtain ⟨n, rfl, q1⟩ := onRef_inv q1
  exact False.elim q1
 | false =>
  refine PE.imp (pe_callB (call_lenS (X := X)) g1 (G.blt _ hB) (by rw [hx]; exact PySem.boot_len) (pa_cons hset pa_nil rfl) g3 g2 rfl rfl) fun σ H Q ⟨w, σD, M, QD, S, g, aq⟩ => ?_
  refine tF_of S g fun x w1 dx M1 x1 r1 rx q1 => ?_
  obtain ⟨n, rfl, q1⟩ := onRef_inv q1
  obtain ⟨hn, rfl⟩ := rd_ref.mp rx
  obtain ⟨ks, e1, hz, q⟩ := q1
  have hK : w1.K = X.K := by rw [x1.K, S.K, G.eK]
  refine key w1 M1 n ks (rLenS X.prog X.w) Q r1 hK e1 hz hn fun p ks' hp nd hlk hm => ?_
  have ra := r1.alloc (o := .ext (SetPhi X.prog X.w p ks')) hp
  exact ⟨p, ks', rfl, upd_same, aq _ _ _ _ (x1.trans (ext_alloc hp)) ra (rd_int.mpr rfl) (q ks' nd hm)⟩
theorem sound_ix {a b : E} {l r : Expr} {pos : Pos} (G : Good c k Z w0 X) (hn : noSlice r = true) (ha : PE X l (tF w0 (te c Z a))) (hb : PE X r (tF w0 (te c Z b))) : PE X (.Subscript l r pos) (tF w0 (te c Z (.ix a b))) := by
 have pl : PlainIx r := by
  intro o i
  cases r <;> first | rfl | cases hn
 refine PE.imp (pe_ix (ix_sound (w0 := w0) G.eK G.units) ha hb pl) fun σ H Q ⟨w, σD, M, QD, S, g, aq⟩ => ?_
 refine tF_of S g fun x w1 dx M1 x1 r1 rx q1 => ?_
 refine tF_of (S.next x1 r1) q1 fun y w2 dy M2 x2 r2 ry q2 => ?_
 exact ⟨w2, M2, dx, dy, _, rfl, by rw [x2.K, x1.K, S.K], r2, rx.ext x2, ry, q2, fun d v hq hr => aq v w2 d M2 (x1.trans x2) r2 hr hq⟩
theorem sound_comp {N' : List Str} {js : List (Option Nat)} {tg : List Nat} {it : It} {cd : Eo} {e : E} {el t iter : Expr} {ifs : List Expr} {scope : Scope} {pos : Pos} (G : Good c k Z w0 X) (hc : k.calm = true) (ho : compOk k.sc k.N N' js scope = true) (hns : noSet iter = true) (hn : N'.Nodup)
  (hi : PI X t iter (iF w0 (tit c Z it))) (ht : chkTgt { k with N := N', sc := relabS scope k.sc, cells := false, own := ownOf scope, tries := false, raises := [] } tg t = true) (hd : chkC { k with N := N', sc := relabS scope k.sc, cells := false, own := ownOf scope, tries := false, raises := [] } cd ifs = true) (he : chkE { k with N := N', sc := relabS scope k.sc, cells := false, own := ownOf scope, tries := false, raises := [] } e el = true) (ihe : SoundE c e) (ihd : SoundO c cd) :
  PE X (.ListComp el [⟨t, iter, ifs, 0⟩] scope pos) (tF w0 (te c Z (.comp N' js tg it cd e))) ∧
  ∀ (i : Nat) (x : Str) (px spos : Pos), X.N[i]? = some x → X.env.scope.names.lookup x = some .local → swapsWith (.ListComp el [⟨t, iter, ifs, 0⟩] scope pos) (some (.Name x px)) spos.line X.env = pure true →
   PS X (.Assign [.Name x px] (.ListComp el [⟨t, iter, ifs, 0⟩] scope pos) spos) (fun R σ H => tF w0 (te c Z (.comp N' js tg it cd e)) σ H fun v H1 => R.nx (σ.set i (some v)) H1) := by
 have ho' : compOk X.env.scope X.N N' js scope = true := by rw [G.sc, G.N]; exact ho
 have hf : ∀ x, foldedSetIterable iter X.env x = pure x := by
  intro x
  cases iter <;> first | rfl | cases hns
 have hg := fun cl C fp pins s H => (Good.block G hc (scope := scope) hn cl C fp pins s H).tgt tg t ht
 have hel := fun cl C fp pins s H => (ihe _ _ _ _ el (Good.block G hc (scope := scope) hn cl C fp pins s H) he).1
 have key : ∀ σ H Q, tF w0 (te c Z (.comp N' js tg it cd e)) σ H Q → iF w0 (tit c Z it) σ H fun J H1 => ∀ p, H1 p = none → ∃ W : Nat → Nat → L2.St → Hp → Prop, (∃ m, W 0 m (capSt js σ) (upd H1 p (.lst []))) ∧
   ∀ i m σc Hc, W i m σc Hc → (J.stop i Hc ∧ Q (.ref p) Hc) ∨ (J.go i Hc ∧ ∀ x H', J.yld i Hc x H' → gF w0 tg x σc H' fun σ2 H2 => tFT w0 (tcd c noX cd) σ2 H2 fun b H3 => if b = true then tF w0 (te c noX e) σ2 H3 fun y H4 => ∃ acc, H4 p = some (.lst acc) ∧ acc.length < sizeLine ∧
    ∃ m', m' < m ∧ W (i + 1) m' σ2 (upd H4 p (.lst (acc ++ [y]))) else ∃ m', m' < m ∧ W (i + 1) m' σ2 H3) := by
  rintro σ H Q ⟨w, σD, M, QD, S, g, a⟩
  refine ⟨w, σD, M, _, S, g, fun J w1 own xs M1 x1 R1 jk q1 => ?_⟩
  exact comp_run (S.ext.trans x1) rfl R1 (cap_rel (S.env.ext x1)) jk q1 fun v w2 d M2 x2 r2 rd2 ⟨e2, q2⟩ => a v w2 d M2 (x1.trans x2) r2 rd2 (by rw [e2]; exact q2)
 have nocd : ∀ {σ : L2.St} {H : Hp} {P : Bool → Hp → Prop}, cd = .no → tFT w0 (tcd c noX cd) σ H P → P true H := by
  intro σ H P e h
  subst e
  obtain ⟨w, σD, M, QD, S, g, a⟩ := h
  have := a true w M (Ext.refl w) S.rs g
  rw [S.heap] at this
  exact this
 cases ifs with
 | nil =>
  have hcd : cd = .no := by
   cases cd with
   | no => rfl
   | yes e' => exact absurd hd Bool.false_ne_true
  have key0 : ∀ σ H Q, tF w0 (te c Z (.comp N' js tg it cd e)) σ H Q → tComp0 js (iF w0 (tit c Z it)) (gF w0 tg) (tF w0 (te c noX e)) σ H Q := by
   intro σ H Q h
   obtain ⟨w, σD, M, QD, S, g, a⟩ := key σ H Q h
   refine ⟨w, σD, M, QD, S, g, fun J w' own xs M' x' r' jk q p hp => ?_⟩
   obtain ⟨W, w1, w2⟩ := a J w' own xs M' x' r' jk q p hp
   refine ⟨W, w1, fun i m σc Hc hW => (w2 i m σc Hc hW).imp id fun ⟨z1, z2⟩ => ⟨z1, fun x H' hy => ?_⟩⟩
   obtain ⟨v1, v2, v3, v4, v5, v6, v7, v8, v9⟩ := z2 x H' hy
   refine ⟨v1, v2, v3, v4, v5, v6, v7, v8, fun σ' σD' en q' => ?_⟩
   have := nocd hcd (v9 σ' σD' en q')
   rw [if_pos rfl] at this
   exact this
  exact ⟨PE.imp (pe_comp0 (G.calm hc) ho' hi hg hel hf) key0, fun i x px spos h1 h2 h3 => PS.imp (ps_comp0 (G.calm hc) ho' G.nd h1 h2 hi hg hel h3 hf) fun R σ H h => key0 σ H _ h⟩
 | cons x0 ifs =>
  have hq : ∀ cl C fp pins s H, ∃ x, x0 :: ifs = [x] ∧ PT (cxC X N' scope cl C fp pins s H) x (tFT w0 (tcd c noX cd)) := fun cl C fp pins s H => by
   rcases ihd.2 _ _ _ _ (x0 :: ifs) (Good.block G hc (scope := scope) hn cl C fp pins s H) hd with h | ⟨h, _⟩
   ·exact h
   ·cases h
  have e0 : ifs = [] := by
   cases cd with
   | no => exact absurd hd Bool.false_ne_true
   | yes e' =>
    cases ifs with
    | nil => rfl
    | cons _ _ => exact absurd hd Bool.false_ne_true
  subst e0
  have hq' : ∀ cl C fp pins s H, PT (cxC X N' scope cl C fp pins s H) x0 (tFT w0 (tcd c noX cd)) := fun cl C fp pins s H => by
   obtain ⟨x, h1, h2⟩ := hq cl C fp pins s H
   cases h1
   exact h2
  exact ⟨PE.imp (pe_comp1 (G.calm hc) ho' hi hg hq' hel hf) key, fun i x px spos h1 h2 h3 => PS.imp (ps_comp1 (G.calm hc) ho' G.nd h1 h2 hi hg hq' hel h3 hf) fun R σ H h => key σ H _ h⟩
end
section
variable {c : Cfg} {k : Ck} {Z : DX} {w0 : Vw} {X : Cx}
theorem te_cmp_bl {op : Cm} {a b : E} (σD : DEnv) (M : Store) (QD : DK) (h : te c Z (.cmp op a b) σD M QD) : te c Z (.cmp op a b) σD M fun d M' => (∃ b, d = .bl b) ∧ QD d M' := by
 have e : (fun (d : D) (M' : Store) => QD d M') = QD := rfl
 unfold te at h ⊢
 have : (fun (x : D) (M1 : Store) => te c Z b σD M1 fun y M2 => cmD M2 op x y fun r => QD (.bl r) M2) = fun x M1 => te c Z b σD M1 fun y M2 => cmD M2 op x y fun r => (∃ b, D.bl r = .bl b) ∧ QD (.bl r) M2 := by
  funext x M1
  congr 1
  funext y M2
  congr 1
  funext r
  exact propext ⟨fun h => ⟨⟨r, rfl⟩, h⟩, fun h => h.2⟩
 rw [this] at h
 exact h
theorem pe_andG {a b : Expr} {rest : List Expr} {pos : Pos} {ta tb : TE} (ha : PE X a ta) (hb : PE X (.BoolOp .And (b :: rest) pos) tb) : PE X (.BoolOp .And (a :: b :: rest) pos) (fun σ H Q => ta σ H fun x H1 => ∃ z, TruV X.K x H1 z ∧ if z = true then tb σ H1 Q else Q x H1) := by
 intro pins s σ H Q I h
 refine BoolOp_and (thn (ha pins s σ H _ I h) fun v s1 ⟨x, H1, I1, r1, q1⟩ => ?_)
 refine thn (tru_ok pins s1 σ H1 x v (fun z H2 => if z = true then tb σ H2 Q else Q x H2) I1 r1 q1) fun z s2 ⟨H2, I2, q2⟩ => ?_
 cases z with
 | true => exact hb pins s2 σ H2 Q I2 (by rw [if_pos rfl] at q2; exact q2)
 | false => exact ⟨x, H2, I2, r1, by rw [if_neg Bool.false_ne_true] at q2; exact q2⟩
theorem pe_orG {a b : Expr} {rest : List Expr} {pos : Pos} {ta tb : TE} (ha : PE X a ta) (hb : PE X (.BoolOp .Or (b :: rest) pos) tb) : PE X (.BoolOp .Or (a :: b :: rest) pos) (fun σ H Q => ta σ H fun x H1 => ∃ z, TruV X.K x H1 z ∧ if z = true then Q x H1 else tb σ H1 Q) := by
 intro pins s σ H Q I h
 refine BoolOp_or (thn (ha pins s σ H _ I h) fun v s1 ⟨x, H1, I1, r1, q1⟩ => ?_)
 refine thn (tru_ok pins s1 σ H1 x v (fun z H2 => if z = true then Q x H2 else tb σ H2 Q) I1 r1 q1) fun z s2 ⟨H2, I2, q2⟩ => ?_
 cases z with
 | false => exact hb pins s2 σ H2 Q I2 (by rw [if_neg Bool.false_ne_true] at q2; exact q2)
 | true => exact ⟨x, H2, I2, r1, by rw [if_pos rfl] at q2; exact q2⟩
theorem read_excl {M : Store} {n : Nat} {xs : List D} {ys : List (Key × D)} (h1 : readL M n = some xs) (h2 : readD M n = some ys) : False := by
 unfold readL at h1
 unfold readD at h2
 cases h : M[n]? with
 | none => rw [h] at h2; cases h2
 | some c => rw [h] at h1 h2; cases c <;> simp at h1 h2
theorem truD_det {M : Store} {x : D} {k : Bool} {A : Prop} {P : Bool → Prop} : truD M x (fun b => if b = k then A else truD M x P) = truD M x (fun b => if b = k then A else P b) := by
 cases x with
 | str y =>
  apply propext
  show (y.length ≤ sizeLine ∧ if ((y.length : Int) != 0) = k then A else (y.length ≤ sizeLine ∧ P ((y.length : Int) != 0))) ↔ (y.length ≤ sizeLine ∧ if ((y.length : Int) != 0) = k then A else P ((y.length : Int) != 0))
  split <;> simp (config := { contextual := true })
 | ref n =>
  apply propext
  have key : ∀ Q : Bool → Prop, truD M (.ref n) Q ↔ (∃ xs, readL M n = some xs ∧ Q (!xs.isEmpty)) ∨ (∃ xs, readD M n = some xs ∧ Q (!xs.isEmpty)) := fun Q => Iff.rfl
  constructor
  ·intro h
   rcases (key _).mp h with ⟨xs, h1, h2⟩ | ⟨xs, h1, h2⟩
   ·refine (key _).mpr (.inl ⟨xs, h1, ?_⟩)
    split at h2
    ·rename_i e; rw [if_pos e]; exact h2
    ·rename_i e
     rw [if_neg e]
     rcases (key _).mp h2 with ⟨ys, g1, g2⟩ | ⟨ys, g1, g2⟩
     ·rw [h1] at g1; cases g1; exact g2
     ·exact (read_excl h1 g1).elim
   ·refine (key _).mpr (.inr ⟨xs, h1, ?_⟩)
    split at h2
    ·rename_i e; rw [if_pos e]; exact h2
    ·rename_i e
     rw [if_neg e]
     rcases (key _).mp h2 with ⟨ys, g1, g2⟩ | ⟨ys, g1, g2⟩
     ·exact (read_excl g1 h1).elim
     ·rw [h1] at g1; cases g1; exact g2
  ·intro h
   rcases (key _).mp h with ⟨xs, h1, h2⟩ | ⟨xs, h1, h2⟩
   ·refine (key _).mpr (.inl ⟨xs, h1, ?_⟩)
    split at h2
    ·rename_i e; rw [if_pos e]; exact h2
    ·rename_i e; rw [if_neg e]; exact (key _).mpr (.inl ⟨xs, h1, h2⟩)
   ·refine (key _).mpr (.inr ⟨xs, h1, ?_⟩)
    split at h2
    ·rename_i e; rw [if_pos e]; exact h2
    ·rename_i e; rw [if_neg e]; exact (key _).mpr (.inr ⟨xs, h1, h2⟩)
 | non => rfl
 | bl b => rfl
 | int i => rfl
 | tup xs => rfl
 | _ => rfl
theorem te_bop_tt {e e2 : E} {r : Es} {σD : DEnv} {M : Store} {QD : Bool → Store → Prop} (h : ttD (tbop c Z true (.cons e (.cons e2 r))) σD M QD) :
  ttD (te c Z e) σD M fun z M1 => if z = true then ttD (tbop c Z true (.cons e2 r)) σD M1 QD else QD false M1 := by
 have hh : (fun (x : D) (M1 : Store) => truD M1 x fun b => if b = true then ttD (tbop c Z true (.cons e2 r)) σD M1 QD else truD M1 x fun b => QD b M1) =
   fun x M1 => truD M1 x fun z => if z = true then ttD (tbop c Z true (.cons e2 r)) σD M1 QD else QD false M1 := by
  funext x M1
  rw [truD_det]
  congr 1
  funext b
  cases b <;> rfl
 have h' : te c Z e σD M fun (x : D) (M1 : Store) => truD M1 x fun b => if b = true then ttD (tbop c Z true (.cons e2 r)) σD M1 QD else truD M1 x fun b => QD b M1 := h
 rw [hh] at h'
 exact h'
theorem te_bop_ff {e e2 : E} {r : Es} {σD : DEnv} {M : Store} {QD : Bool → Store → Prop} (h : ttD (tbop c Z false (.cons e (.cons e2 r))) σD M QD) :
  ttD (te c Z e) σD M fun z M1 => if z = true then QD true M1 else ttD (tbop c Z false (.cons e2 r)) σD M1 QD := by
 have hh : (fun (x : D) (M1 : Store) => truD M1 x fun b => if b = false then ttD (tbop c Z false (.cons e2 r)) σD M1 QD else truD M1 x fun b => QD b M1) =
   fun x M1 => truD M1 x fun z => if z = true then QD true M1 else ttD (tbop c Z false (.cons e2 r)) σD M1 QD := by
  funext x M1
  rw [truD_det]
  congr 1
  funext b
  cases b <;> rfl
 have h' : te c Z e σD M fun (x : D) (M1 : Store) => truD M1 x fun b => if b = false then ttD (tbop c Z false (.cons e2 r)) σD M1 QD else truD M1 x fun b => QD b M1 := h
 rw [hh] at h'
 exact h'
end
theorem vals_shape {k : Ck} {a : E} {ex : Expr} (h : chkE k (.vals a) ex = true) : ∃ x l p1 ap cp q1, ex = .Call (.Name x p1) [.Call (.Attribute l "values" ap) [] [] cp] [] q1 ∧
  (k.calm && x == ("list" : Str) && k.glob x && k.BN.contains x && baseOk l && ap.endLine == cp.line && chkE k a l) = true := by
 cases ex with
 | Call fn as kws q1 =>
  cases fn with
  | Name x p1 =>
   cases as with
   | nil => exact absurd h Bool.false_ne_true
   | cons a0 as =>
   cases a0 with
   | Call fn2 as2 kws2 cp =>
    cases fn2 with
    | Attribute l nm ap =>
     cases as2 with
     | cons _ _ => exact absurd h Bool.false_ne_true
     | nil =>
     cases kws2 with
     | cons _ _ => exact absurd h Bool.false_ne_true
     | nil =>
     cases as with
     | cons _ _ => exact absurd h Bool.false_ne_true
     | nil =>
     cases kws with
     | cons _ _ => exact absurd h Bool.false_ne_true
     | nil =>
      change (_ && _) = true at h
      simp only [Bool.and_eq_true, beq_iff_eq] at h
      obtain ⟨⟨⟨⟨⟨⟨⟨h1, h2⟩, h3⟩, h4⟩, rfl⟩, h6⟩, h7⟩, h8⟩ := h
      refine ⟨x, l, p1, ap, cp, q1, rfl, ?_⟩
      simp only [Bool.and_eq_true, beq_iff_eq]
      exact ⟨⟨⟨⟨⟨⟨h1, h2⟩, h3⟩, h4⟩, h6⟩, h7⟩, h8⟩
    | _ => exact absurd h Bool.false_ne_true
   | _ => exact absurd h Bool.false_ne_true
  | _ => exact absurd h Bool.false_ne_true
 | _ => exact absurd h Bool.false_ne_true
theorem setf_shape {k : Ck} {b : Bool} {a : E} {ex : Expr} (h : chkE k (.setf b a) ex = true) : ∃ x y l p1 p2 q1 q2, ex = .Call (.Name x p1) [.Call (.Name y p2) [l] [] q2] [] q1 ∧
  (k.calm && x == ("len" : Str) && y == ("set" : Str) && k.glob x && k.glob y && k.BN.contains x && k.BN.contains y && noStar l && chkE k a l) = true := by
 cases ex with
 | Call fn as kws q1 =>
  cases fn with
  | Name x p1 =>
   cases as with
   | nil => exact absurd h Bool.false_ne_true
   | cons a0 as =>
   cases a0 with
   | Call fn2 as2 kws2 q2 =>
    cases fn2 with
    | Name y p2 =>
     cases as2 with
     | nil => exact absurd h Bool.false_ne_true
     | cons l ls =>
     cases ls with
     | cons _ _ => exact absurd h Bool.false_ne_true
     | nil =>
     cases kws2 with
     | cons _ _ => exact absurd h Bool.false_ne_true
     | nil =>
     cases as with
     | cons _ _ => exact absurd h Bool.false_ne_true
     | nil =>
     cases kws with
     | cons _ _ => exact absurd h Bool.false_ne_true
     | nil => exact ⟨x, y, l, p1, p2, q1, q2, rfl, h⟩
    | _ => exact absurd h Bool.false_ne_true
   | _ => exact absurd h Bool.false_ne_true
  | _ => exact absurd h Bool.false_ne_true
 | _ => exact absurd h Bool.false_ne_true
theorem rev_shape {k : Ck} {a : E} {ex : Expr} (h : chkE k (.rev a) ex = true) : ∃ l z p2 pos, ex = .Subscript l (.Slice none none (some z) p2) pos ∧ (chkE k a l && isM1 z) = true := by
 cases ex with
 | Subscript l r pos =>
  cases r with
  | Slice x y z p2 =>
   cases x with
   | some _ => exact absurd h Bool.false_ne_true
   | none =>
   cases y with
   | some _ => exact absurd h Bool.false_ne_true
   | none =>
   cases z with
   | none => exact absurd h Bool.false_ne_true
   | some z => exact ⟨_, _, _, _, rfl, h⟩
  | _ => exact absurd h Bool.false_ne_true
 | _ => exact absurd h Bool.false_ne_true
theorem dct_shape {k : Ck} {a b : E} {ex : Expr} (h : chkE k (.dct a b) ex = true) : ∃ l r pos, ex = .Dict [some l] [r] pos ∧ (chkE k a l && chkE k b r) = true := by
 cases ex with
 | Dict ks vs pos =>
  cases ks with
  | nil => exact absurd h Bool.false_ne_true
  | cons k0 ks =>
  cases k0 with
  | none => exact absurd h Bool.false_ne_true
  | some l =>
  cases ks with
  | cons _ _ => exact absurd h Bool.false_ne_true
  | nil =>
  cases vs with
  | nil => exact absurd h Bool.false_ne_true
  | cons r vs =>
  cases vs with
  | cons _ _ => exact absurd h Bool.false_ne_true
  | nil => exact ⟨l, r, pos, rfl, h⟩
 | _ => exact absurd h Bool.false_ne_true
theorem zip_shape {k : Ck} {es : Es} {ex : Expr} (h : chkIt k (.zip es) ex = true) : ∃ l ls p q, ex = .Call (.Name "zip" p) (l :: ls) [] q ∧ (k.glob "zip" && k.BN.contains "zip" && chkEs k es (l :: ls)) = true := by
 cases ex with
 | Call fn as kws q =>
  cases fn with
  | Name x p =>
   cases as with
   | nil => exact absurd h Bool.false_ne_true
   | cons l ls =>
   cases kws with
   | cons _ _ => exact absurd h Bool.false_ne_true
   | nil =>
    change (_ && _) = true at h
    simp only [Bool.and_eq_true, beq_iff_eq] at h
    obtain ⟨⟨⟨rfl, h1⟩, h2⟩, h3⟩ := h
    refine ⟨l, ls, p, q, rfl, ?_⟩
    simp only [Bool.and_eq_true]
    exact ⟨⟨h1, h2⟩, h3⟩
  | _ => exact absurd h Bool.false_ne_true
 | _ => exact absurd h Bool.false_ne_true
mutual
theorem soundE (c : Cfg) : ∀ e : E, SoundE c e
 | .var i, k, Z, w0, X, ex, G, h => by
  cases ex with
  | Name x pos =>
   change (_ && _) = true at h
   simp only [Bool.and_eq_true, beq_iff_eq] at h
   exact both G (sound_var G h.1 h.2) fun _ => rfl
  | _ => exact absurd h Bool.false_ne_true
 | .int i, k, Z, w0, X, ex, G, h => by
  cases ex with
  | Constant v j pos =>
   cases v with
   | int m =>
    change (_ == _) = true at h
    simp only [beq_iff_eq] at h
    subst h
    exact both G (PE.imp pe_int fun σ H Q q => tF_val (fun _ _ => rd_int.mpr rfl) q) fun _ => rfl
   | _ => exact absurd h Bool.false_ne_true
  | _ => exact absurd h Bool.false_ne_true
 | .bl i, k, Z, w0, X, ex, G, h => by
  cases ex with
  | Constant v j pos =>
   cases v with
   | bool m =>
    change (_ == _) = true at h
    simp only [beq_iff_eq] at h
    subst h
    exact both G (PE.imp pe_bl fun σ H Q q => tF_val (fun _ _ => rd_bl.mpr rfl) q) fun _ => rfl
   | _ => exact absurd h Bool.false_ne_true
  | _ => exact absurd h Bool.false_ne_true
 | .non, k, Z, w0, X, ex, G, h => by
  cases ex with
  | Constant v j pos =>
   cases v with
   | none => exact both G (PE.imp pe_non fun σ H Q q => tF_val (fun _ _ => rd_non.mpr rfl) q) fun _ => rfl
   | _ => exact absurd h Bool.false_ne_true
  | _ => exact absurd h Bool.false_ne_true
 | .str i, k, Z, w0, X, ex, G, h => by
  cases ex with
  | Constant v j pos =>
   cases v with
   | str m =>
    change (_ == _) = true at h
    simp only [beq_iff_eq] at h
    subst h
    exact both G (PE.imp pe_str fun σ H Q q => tF_val (fun _ _ => rd_str.mpr rfl) q) fun _ => rfl
   | _ => exact absurd h Bool.false_ne_true
  | _ => exact absurd h Bool.false_ne_true
 | .ty t, k, Z, w0, X, ex, G, h => by
  cases ex with
  | Name x pos =>
   change (_ && _) = true at h
   simp only [Bool.and_eq_true, beq_iff_eq, List.contains_iff_mem] at h
   obtain ⟨g1, g2, g3⟩ := G.gl h.1.2
   exact both G (PE.imp (pe_bltn (v := .ty (tyName t)) g1 (G.blt x h.2) (by rw [h.1.1]; exact boot_ty t) rfl g3 g2) fun σ H Q q => tF_val (fun _ _ => rd_ty.mpr rfl) q) fun _ => rfl
  | _ => exact absurd h Bool.false_ne_true
 | .glb g, k, Z, w0, X, ex, G, h => by
  cases ex with
  | Name x pos =>
   change (_ && _) = true at h
   simp only [Bool.and_eq_true, beq_iff_eq] at h
   exact both G (sound_glb G h.1 h.2) fun _ => rfl
  | _ => exact absurd h Bool.false_ne_true
 | .bin op a b, k, Z, w0, X, ex, G, h => by
  cases ex with
  | BinOp l o r pos =>
   change (_ && _) = true at h
   simp only [Bool.and_eq_true, beq_iff_eq] at h
   obtain ⟨⟨rfl, h1⟩, h2⟩ := h
   exact both G (PE.imp (pe_op (op_sound (w0 := w0) op) (soundE c a k Z w0 X l G h1).1 (soundE c b k Z w0 X r G h2).1) fun σ H Q q => bin_sound q) fun _ => rfl
  | _ => exact absurd h Bool.false_ne_true
 | .neg a, k, Z, w0, X, ex, G, h => by
  cases ex with
  | UnaryOp o l pos =>
   cases o with
   | USub =>
    have h1 : chkE k a l = true := h
    refine both G (PE.imp (pe_un un_neg (soundE c a k Z w0 X l G h1).1) fun σ H Q ⟨w, σD, M, QD, S, g, aq⟩ => ?_) fun _ => rfl
    refine tF_of S g fun x w1 dx M1 x1 r1 rx q1 => ?_
    split at q1
    ·cases rd_int.mp rx
     exact ⟨_, rfl, aq _ w1 _ M1 x1 r1 (rd_int.mpr rfl) q1⟩
    ·exact q1.elim
   | _ => exact absurd h Bool.false_ne_true
  | _ => exact absurd h Bool.false_ne_true
 | .not a, k, Z, w0, X, ex, G, h => by
  cases ex with
  | UnaryOp o l pos =>
   cases o with
   | Not =>
    have h1 : chkE k a l = true := h
    obtain ⟨i1, i2⟩ := soundE c a k Z w0 X l G h1
    refine ⟨PE.imp (pe_notT i1) fun σ H Q ⟨w, σD, M, QD, S, g, aq⟩ => ?_, fun hn => PT.imp (pt_not (i2 hn)) fun σ H Q ⟨w, σD, M, QD, S, g, aq⟩ => ?_⟩
    ·refine tF_of S g fun x w1 dx M1 x1 r1 rx q1 => ?_
     obtain ⟨b, t1, t2⟩ := tru_sound (K := X.K) (by rw [x1.K, S.K, G.eK]) r1 rx q1
     exact ⟨b, t1, aq _ w1 _ M1 x1 r1 (rd_bl.mpr rfl) t2⟩
    ·exact ⟨w, σD, M, fun b M1 => QD (!b) M1, S, g, fun b w' M' x' r' q' => aq _ w' M' x' r' q'⟩
   | _ => exact absurd h Bool.false_ne_true
  | _ => exact absurd h Bool.false_ne_true
 | .cmp op a b, k, Z, w0, X, ex, G, h => by
  cases ex with
  | Compare l os rs pos =>
   match os, rs, h with
   | [o], [r], h =>
    change (_ && _) = true at h
    simp only [Bool.and_eq_true, beq_iff_eq] at h
    obtain ⟨⟨⟨rfl, h0⟩, h1⟩, h2⟩ := h
    have hm : behindInMarks (cmOf op) r = false := by
     cases r with
     | Set es kk p => cases op <;> first | (simp [isIn, noSet] at h0; done) | (simp [behindInMarks, cmOf])
     | _ => rfl
    have ia := (soundE c a k Z w0 X l G h1).1
    have ib := (soundE c b k Z w0 X r G h2).1
    refine ⟨PE.imp (pe_cmpR (cm_sound (w0 := w0) G.eK G.units op) ia ib hm) fun σ H Q q => cmp_sound q, fun _ => pt_bool (PT.imp (pt_cmpR (cm_sound (w0 := w0) G.eK G.units op) ia ib hm) fun σ H Q q => cmp_sound q) te_cmp_bl⟩
   | [], _, h => exact absurd h Bool.false_ne_true
   | [_], [], h => exact absurd h Bool.false_ne_true
   | [_], _ :: _ :: _, h => exact absurd h Bool.false_ne_true
   | _ :: _ :: _, _, h => exact absurd h Bool.false_ne_true
  | _ => exact absurd h Bool.false_ne_true
 | .bop b es, k, Z, w0, X, ex, G, h => by
  cases ex with
  | BoolOp o ls pos =>
   cases b with
   | true =>
    cases o with
    | And =>
     obtain ⟨i1, i2⟩ := (soundEs c es k Z w0 X ls G h).2 true pos
     exact ⟨i1, fun hn => (i2 hn).pt⟩
    | Or => exact absurd h Bool.false_ne_true
   | false =>
    cases o with
    | Or =>
     obtain ⟨i1, i2⟩ := (soundEs c es k Z w0 X ls G h).2 false pos
     exact ⟨i1, fun hn => (i2 hn).pt⟩
    | And => exact absurd h Bool.false_ne_true
  | _ => cases b <;> exact absurd h Bool.false_ne_true
 | .lst es, k, Z, w0, X, ex, G, h => by
  cases ex with
  | List ls pos =>
   refine both G (PE.imp (pe_lst (soundEs c es k Z w0 X ls G h).1) fun σ H Q ⟨w, σD, M, QD, S, g, aq⟩ => ?_) fun _ => rfl
   refine ⟨w, σD, M, _, S, g, fun vs w1 ds M1 x1 r1 rd1 q1 => ⟨by rw [rd1.length]; exact q1.1, fun p hp => ?_⟩⟩
   obtain ⟨y1, y2, y3⟩ := new_list r1 hp rd1
   exact aq _ _ _ _ (x1.trans y1) y2 y3 q1.2
  | _ => exact absurd h Bool.false_ne_true
 | .tup es, k, Z, w0, X, ex, G, h => by
  cases ex with
  | Tuple ls kk pos =>
   refine both G (PE.imp (pe_tup (soundEs c es k Z w0 X ls G h).1) fun σ H Q ⟨w, σD, M, QD, S, g, aq⟩ => ?_) fun _ => rfl
   refine ⟨w, σD, M, _, S, g, fun vs w1 ds M1 x1 r1 rd1 q1 => ⟨by rw [rd1.length]; exact q1.1, fun p hp => ?_⟩⟩
   obtain ⟨y1, y2, y3⟩ := new_tup r1 hp rd1
   exact aq _ _ _ _ (x1.trans y1) y2 y3 q1.2
  | _ => exact absurd h Bool.false_ne_true
 | .dict0, k, Z, w0, X, ex, G, h => by
  cases ex with
  | Dict ks vs pos =>
   match ks, vs, h with
   | [], [], h =>
    refine both G (PE.imp pe_dnewK fun σ H Q ⟨w, σD, M, QD, S, g, aq⟩ => ?_) fun _ => rfl
    intro p hp
    rw [← S.heap] at hp
    obtain ⟨y1, y2, y3⟩ := new_dict (xs := []) (vs := []) S.rs hp (by unfold RKV; rfl)
    have := aq _ _ _ _ y1 y2 y3 g
    rw [← S.heap]
    exact this
   | [], _ :: _, h => exact absurd h Bool.false_ne_true
   | _ :: _, _, h => exact absurd h Bool.false_ne_true
  | _ => exact absurd h Bool.false_ne_true
 | .dct a b, k, Z, w0, X, ex, G, h => by
  obtain ⟨l, r, pos, rfl, h2⟩ := dct_shape h
  rw [Bool.and_eq_true] at h2
  exact both G (sound_dct G (soundE c a k Z w0 X l G h2.1).1 (soundE c b k Z w0 X r G h2.2).1) fun _ => rfl
 | .ix a b, k, Z, w0, X, ex, G, h => by
  cases ex with
  | Subscript l r pos =>
   change (_ && _) = true at h
   simp only [Bool.and_eq_true] at h
   exact both G (sound_ix G h.1.1 (soundE c a k Z w0 X l G h.1.2).1 (soundE c b k Z w0 X r G h.2).1) fun _ => rfl
  | _ => exact absurd h Bool.false_ne_true
 | .sl a lo hi, k, Z, w0, X, ex, G, h => by
  cases ex with
  | Subscript l r pos =>
   cases r with
   | Slice x y z p2 =>
    cases z with
    | none =>
     change (_ && _) = true at h
     simp only [Bool.and_eq_true] at h
     exact both G (sound_sl G (soundE c a k Z w0 X l G h.1.1).1 ((soundO c lo).1 k Z w0 X x G h.1.2) ((soundO c hi).1 k Z w0 X y G h.2)) fun _ => rfl
    | some _ => exact absurd h Bool.false_ne_true
   | _ => exact absurd h Bool.false_ne_true
  | _ => exact absurd h Bool.false_ne_true
 | .vals a, k, Z, w0, X, ex, G, h => by
  obtain ⟨x, l, p1, ap, cp, q1, rfl, hs⟩ := vals_shape h
  simp only [Bool.and_eq_true, beq_iff_eq, List.contains_iff_mem] at hs
  obtain ⟨⟨⟨⟨⟨⟨h1, h2⟩, h3⟩, h4⟩, h6⟩, h7⟩, h8⟩ := hs
  exact both G (sound_vals G h1 h2 h3 h4 h6 (by rw [beq_iff_eq]; exact h7) (soundE c a k Z w0 X l G h8).1) fun _ => rfl
 | .slW a lo hi, k, Z, w0, X, ex, G, h => by
  cases ex with
  | Subscript l r pos =>
   cases r with
   | Slice x y z p2 =>
    cases z with
    | none =>
     change (_ && _) = true at h
     simp only [Bool.and_eq_true] at h
     exact both G (sound_slW G (soundE c a k Z w0 X l G h.1.1).1 ((soundO c lo).1 k Z w0 X x G h.1.2) ((soundO c hi).1 k Z w0 X y G h.2)) fun _ => rfl
    | some _ => exact absurd h Bool.false_ne_true
   | _ => exact absurd h Bool.false_ne_true
  | _ => exact absurd h Bool.false_ne_true
 | .setf b a, k, Z, w0, X, ex, G, h => by
  obtain ⟨x, y, l, p1, p2, q1, q2, rfl, hs⟩ := setf_shape h
  simp only [Bool.and_eq_true, beq_iff_eq, List.contains_iff_mem] at hs
  obtain ⟨⟨⟨⟨⟨⟨⟨⟨h1, h2⟩, h3⟩, h4⟩, h5⟩, h6⟩, h7⟩, h8⟩, h9⟩ := hs
  exact both G (sound_setf G h1 h2 h3 h4 h5 h6 h7 h8 (soundE c a k Z w0 X l G h9).1) fun _ => rfl
 | .rev a, k, Z, w0, X, ex, G, h => by
  obtain ⟨l, z, p2, pos, rfl, h2⟩ := rev_shape h
  rw [Bool.and_eq_true] at h2
  exact both G (sound_rev G (soundE c a k Z w0 X l G h2.1).1 h2.2) fun _ => rfl
 | .call f es, k, Z, w0, X, ex, G, h => by
  cases ex with
  | Call fn ls kws pos =>
   cases fn with
   | Name x np =>
    cases kws with
    | nil =>
     change (_ && _) = true at h
     simp only [Bool.and_eq_true, beq_iff_eq] at h
     exact both G (sound_call G h.1.1.1 h.1.1.2 h.1.2 h.2 (soundEs c es k Z w0 X ls G h.2).1) fun _ => rfl
    | cons _ _ => exact absurd h Bool.false_ne_true
   | _ => exact absurd h Bool.false_ne_true
  | _ => exact absurd h Bool.false_ne_true
 | .bf b es, k, Z, w0, X, ex, G, h => by
  cases ex with
  | Call fn ls kws pos =>
   cases fn with
   | Name x np =>
    cases kws with
    | nil =>
     cases ls with
     | nil => exact absurd h Bool.false_ne_true
     | cons l ls =>
      change (_ && _) = true at h
      simp only [Bool.and_eq_true, beq_iff_eq, Bool.or_eq_true, List.contains_iff_mem] at h
      exact both G (sound_bf G h.1.1.1.1 h.1.1.1.2 h.1.1.2 h.1.2 h.2 (soundEs c es k Z w0 X (l :: ls) G h.2).1) fun _ => rfl
    | cons _ _ => cases ls <;> exact absurd h Bool.false_ne_true
   | _ => cases ls <;> cases kws <;> exact absurd h Bool.false_ne_true
  | _ => exact absurd h Bool.false_ne_true
 | .mt m o es, k, Z, w0, X, ex, G, h => by
  cases ex with
  | Call fn ls kws pos =>
   cases fn with
   | Attribute l nm ap =>
    cases kws with
    | nil =>
     change (_ && _) = true at h
     simp only [Bool.and_eq_true, beq_iff_eq, decide_eq_true_eq] at h
     obtain ⟨⟨⟨⟨⟨rfl, h1⟩, h2⟩, h3⟩, h4⟩, h5⟩ := h
     exact both G (sound_mt G h1 (by rw [h2]; simp) h3 h5 (soundE c o k Z w0 X l G h4).1 (soundEs c es k Z w0 X ls G h5).1) fun _ => rfl
    | cons _ _ => exact absurd h Bool.false_ne_true
   | _ => exact absurd h Bool.false_ne_true
  | _ => exact absurd h Bool.false_ne_true
 | .comp N' js tg it cd e, k, Z, w0, X, ex, G, h => by
  cases ex with
  | ListComp el gens scope pos =>
   match gens, h with
   | [⟨t, iter, ifs, as⟩], h =>
    rcases as with (_ | n) | n
    ·change (_ && _) = true at h
     simp only [Bool.and_eq_true, decide_eq_true_eq] at h
     obtain ⟨⟨⟨⟨⟨⟨⟨⟨h1, h2⟩, h3⟩, h4⟩, h5⟩, h6⟩, h7⟩, h8⟩, h9⟩ := h
     exact both G (sound_comp G h1 h2 h3 h5 (soundI c it k Z w0 X t iter G h4 h9) h6 h7 h8 (soundE c e) (soundO c cd)).1 fun _ => rfl
    ·exact absurd h Bool.false_ne_true
    ·exact absurd h Bool.false_ne_true
   | [], h => exact absurd h Bool.false_ne_true
   | ⟨_, _, _, as⟩ :: _ :: _, h => rcases as with (_ | _) | _ <;> exact absurd h Bool.false_ne_true
  | _ => exact absurd h Bool.false_ne_true
theorem soundEs (c : Cfg) : ∀ es : Es, SoundEs c es
 | .nil, k, Z, w0, X, ls, G, h => by
  cases ls with
  | nil =>
   refine ⟨PA.imp pa_nil fun σ H Q ⟨w, σD, M, QD, S, g, aq⟩ => ?_, fun b pos => ⟨PE.imp (t := fun _ _ _ => False) (fun _ _ _ _ _ _ h => h.elim) fun σ H Q ⟨w, σD, M, QD, S, g, aq⟩ => g, fun _ whole pins s σ H Q I ⟨w, σD, M, QD, S, g, aq⟩ => g.elim⟩⟩
   have := aq [] w [] M (Ext.refl w) S.rs (RDs.nil w) g
   rw [S.heap] at this
   exact this
  | cons l ls => exact absurd h Bool.false_ne_true
 | .cons e r, k, Z, w0, X, ls, G, h => by
  cases ls with
  | nil => exact absurd h Bool.false_ne_true
  | cons l ls =>
   change (_ && _) = true at h
   simp only [Bool.and_eq_true] at h
   obtain ⟨ie, it⟩ := soundE c e k Z w0 X l G h.1.1
   obtain ⟨ir, ib⟩ := soundEs c r k Z w0 X ls G h.2
   refine ⟨PA.imp (pa_cons ie ir (star_cons h.1.2)) fun σ H Q ⟨w, σD, M, QD, S, g, aq⟩ => ?_, fun b pos => ?_⟩
   ·refine tF_of S g fun v w1 d M1 x1 r1 rd1 q1 => ?_
    refine ⟨w1, σD, M1, _, S.next x1 r1, q1, fun vs w2 ds M2 x2 r2 rd2 q2 => ?_⟩
    exact aq _ w2 _ M2 (x1.trans x2) r2 (RDs.cons (rd1.ext x2) rd2) q2
   ·cases r with
    | nil =>
     cases ls with
     | cons _ _ => exact absurd h.2 Bool.false_ne_true
     | nil =>
      refine ⟨PE.imp (pe_one ie) fun σ H Q q => q, fun hn => ?_⟩
      have hn' : noIf e = true := by simpa [noIfs] using hn
      cases b with
      | true => exact fun whole pins s σ H Q I q => pw_and1 (it hn') whole pins s σ H Q I q
      | false => exact fun whole pins s σ H Q I q => pw_or1 (it hn') whole pins s σ H Q I q
    | cons e2 r2 =>
     cases ls with
     | nil => exact absurd h.2 Bool.false_ne_true
     | cons l2 ls =>
      obtain ⟨jb, jw⟩ := ib b pos
      constructor
      ·cases b with
       | true =>
        refine PE.imp (pe_andG ie jb) fun σ H Q ⟨w, σD, M, QD, S, g, aq⟩ => ?_
        refine tF_of S g fun v w1 d M1 x1 r1 rd1 q1 => ?_
        obtain ⟨z, t1, t2⟩ := tru_sound (K := X.K) (by rw [x1.K, S.K, G.eK]) r1 rd1 q1
        refine ⟨z, t1, ?_⟩
        cases z with
        | true => rw [if_pos rfl] at t2 ⊢; exact tF_of (S.next x1 r1) t2 (aq.ext x1)
        | false => rw [if_neg Bool.false_ne_true] at t2 ⊢; exact aq _ w1 _ M1 x1 r1 rd1 t2
       | false =>
        refine PE.imp (pe_orG ie jb) fun σ H Q ⟨w, σD, M, QD, S, g, aq⟩ => ?_
        refine tF_of S g fun v w1 d M1 x1 r1 rd1 q1 => ?_
        obtain ⟨z, t1, t2⟩ := tru_sound (K := X.K) (by rw [x1.K, S.K, G.eK]) r1 rd1 q1
        refine ⟨z, t1, ?_⟩
        cases z with
        | false => rw [if_pos rfl] at t2; rw [if_neg Bool.false_ne_true]; exact tF_of (S.next x1 r1) t2 (aq.ext x1)
        | true => rw [if_neg (by decide)] at t2; rw [if_pos rfl]; exact aq _ w1 _ M1 x1 r1 rd1 t2
      ·intro hn
       have hn' : noIf e = true ∧ noIfs (.cons e2 r2) = true := by
        have : (noIf e && noIfs (.cons e2 r2)) = true := hn
        simpa using this
       have jw' := jw hn'.2
       cases b with
       | true =>
        intro whole pins s σ H Q I ⟨w, σD, M, QD, S, g, aq⟩
        refine pw_and (it hn'.1) jw' whole pins s σ H Q I ?_
        refine ⟨w, σD, M, fun z M1 => if z = true then ttD (tbop c Z true (.cons e2 r2)) σD M1 QD else QD false M1, S, ?_, fun z w1 M1 x1 r1 q1 => ?_⟩
        ·exact te_bop_tt g
        ·cases z with
         | true => rw [if_pos rfl] at q1 ⊢; exact ⟨w1, σD, M1, QD, S.next x1 r1, q1, fun z w2 M2 x2 r2 q2 => aq z w2 M2 (x1.trans x2) r2 q2⟩
         | false => rw [if_neg Bool.false_ne_true] at q1 ⊢; exact aq _ w1 M1 x1 r1 q1
       | false =>
        intro whole pins s σ H Q I ⟨w, σD, M, QD, S, g, aq⟩
        refine pw_or (it hn'.1) jw' whole pins s σ H Q I ?_
        refine ⟨w, σD, M, fun z M1 => if z = true then QD true M1 else ttD (tbop c Z false (.cons e2 r2)) σD M1 QD, S, ?_, fun z w1 M1 x1 r1 q1 => ?_⟩
        ·exact te_bop_ff g
        ·cases z with
         | true => rw [if_pos rfl] at q1 ⊢; exact aq _ w1 M1 x1 r1 q1
         | false => rw [if_neg Bool.false_ne_true] at q1 ⊢; exact ⟨w1, σD, M1, QD, S.next x1 r1, q1, fun z w2 M2 x2 r2 q2 => aq z w2 M2 (x1.trans x2) r2 q2⟩
theorem soundO (c : Cfg) : ∀ eo : Eo, SoundO c eo
 | .no => ⟨fun k Z w0 X lo G h => by
   cases lo with
   | none =>
    intro pins s σ H Q I ⟨w, σD, M, QD, S, g, aq⟩
    refine po_none pins s σ H Q I ?_
    have := aq none w M (Ext.refl w) S.rs g
    rw [S.heap] at this
    exact this
   | some _ => exact absurd h Bool.false_ne_true, fun k Z w0 X ls G h => by
   cases ls with
   | nil => exact .inr ⟨rfl, rfl⟩
   | cons _ _ => exact absurd h Bool.false_ne_true⟩
 | .yes e => ⟨fun k Z w0 X lo G h => by
   cases lo with
   | none => exact absurd h Bool.false_ne_true
   | some x =>
    intro pins s σ H Q I ⟨w, σD, M, QD, S, g, aq⟩
    refine po_some (soundE c e k Z w0 X x G h).1 pins s σ H Q I ?_
    refine tF_of S g fun v w1 d M1 x1 r1 rd1 q1 => ?_
    split at q1
    ·cases rd_int.mp rd1
     exact ⟨_, rfl, aq _ w1 M1 x1 r1 q1⟩
    ·exact q1.elim, fun k Z w0 X ls G h => by
   match ls, h with
   | [x], h =>
    change (_ && _) = true at h
    simp only [Bool.and_eq_true] at h
    exact .inl ⟨x, rfl, (soundE c e k Z w0 X x G h.1).2 h.2⟩
   | [], h => exact absurd h Bool.false_ne_true
   | _ :: _ :: _, h => exact absurd h Bool.false_ne_true⟩
theorem soundI (c : Cfg) : ∀ it : It, SoundI c it
 | .seq e, k, Z, w0, X, tg, ex, G, h, _ => by
  refine PI.imp (pi_seq (soundE c e k Z w0 X ex G h).1) fun σ H R ⟨w, σD, M, QD, S, g, aq⟩ => ?_
  refine tF_of S g fun v w1 d M1 x1 r1 rd1 q1 => ?_
  have hK : X.K = w1.K := by rw [x1.K, S.K, G.eK]
  unfold itD at q1
  split at q1
  ·obtain ⟨hn, rfl⟩ := rd_ref.mp rd1
   obtain ⟨xs, z1, z2⟩ := q1
   obtain ⟨_, vs, y1, y2, _⟩ := r1.listL z1
   rw [← hK] at y1
   exact .inl ⟨_, rfl, ⟨vs, y1⟩, aq _ w1 _ _ M1 x1 r1 (jok_list hK hn) z2⟩
  ·obtain ⟨a, vs, rfl, y1, y2⟩ := rd_tup.mp rd1
   exact .inr ⟨a, rfl, ⟨vs, .of y1⟩, aq _ w1 _ _ M1 x1 r1 (jok_tup hK (.of y1) y2) q1⟩
  ·obtain ⟨a, vs, rfl, y1, y2⟩ := rd_gtup.mp rd1
   exact .inr ⟨a, rfl, ⟨vs, by rw [hK]; exact y1⟩, aq _ w1 _ _ M1 x1 r1 (jok_tup hK y1 y2) q1⟩
  ·exact q1.elim
 | .rng1 a, k, Z, w0, X, tg, ex, G, h, _ => by
  cases ex with
  | Call fn ls kws pos =>
   cases fn with
   | Name x np =>
    match ls, kws, h with
    | [l], [], h =>
     change (_ && _) = true at h
     simp only [Bool.and_eq_true, beq_iff_eq, List.contains_iff_mem] at h
     obtain ⟨⟨⟨⟨rfl, h1⟩, h2⟩, h3⟩, h4⟩ := h
     obtain ⟨g1, g2, g3⟩ := G.gl h1
     refine PI.imp (pi_range1 g1 (G.blt _ h2) (pa_cons (soundE c a k Z w0 X l G h4).1 pa_nil (star_cons h3)) (star_cons h3)) fun σ H R ⟨w, σD, M, QD, S, g, aq⟩ => ?_
     refine tF_of S g fun v w1 d M1 x1 r1 rd1 q1 => ?_
     split at q1
     ·cases rd_int.mp rd1
      exact ⟨_, rfl, q1.1, q1.2.1, aq _ w1 _ _ M1 x1 r1 jok_rng q1.2.2⟩
     ·exact q1.elim
    | [], _, h => exact absurd h Bool.false_ne_true
    | [_], _ :: _, h => exact absurd h Bool.false_ne_true
    | _ :: _ :: _, _, h => exact absurd h Bool.false_ne_true
   | _ => exact absurd h Bool.false_ne_true
  | _ => exact absurd h Bool.false_ne_true
 | .rng2 a b, k, Z, w0, X, tg, ex, G, h, _ => by
  cases ex with
  | Call fn ls kws pos =>
   cases fn with
   | Name x np =>
    match ls, kws, h with
    | [l, r], [], h =>
     change (_ && _) = true at h
     simp only [Bool.and_eq_true, beq_iff_eq, List.contains_iff_mem] at h
     obtain ⟨⟨⟨⟨⟨⟨rfl, h1⟩, h2⟩, h3⟩, h5⟩, h4⟩, h6⟩ := h
     obtain ⟨g1, g2, g3⟩ := G.gl h1
     refine PI.imp (pi_range2 g1 (G.blt _ h2) (pa_cons (soundE c a k Z w0 X l G h4).1 (pa_cons (soundE c b k Z w0 X r G h6).1 pa_nil (star_cons h5)) (star_cons h3)) (by rw [star_cons h3, star_cons h5]; rfl) (star_cons h5)) fun σ H R ⟨w, σD, M, QD, S, g, aq⟩ => ?_
     refine tF_of S g fun v w1 d M1 x1 r1 rd1 q1 => ?_
     refine tF_of (S.next x1 r1) q1 fun v2 w2 d2 M2 x2 r2 rd2 q2 => ?_
     split at q2
     ·cases rd_int.mp rd1
      cases rd_int.mp rd2
      exact ⟨_, _, rfl, q2.1, aq _ w2 _ _ M2 (x1.trans x2) r2 jok_rng q2.2⟩
     ·exact q2.elim
    | [], _, h => exact absurd h Bool.false_ne_true
    | [_], _, h => exact absurd h Bool.false_ne_true
    | [_, _], _ :: _, h => exact absurd h Bool.false_ne_true
    | _ :: _ :: _ :: _, _, h => exact absurd h Bool.false_ne_true
   | _ => exact absurd h Bool.false_ne_true
  | _ => exact absurd h Bool.false_ne_true
 | .zip es, k, Z, w0, X, tg, ex, G, h, ht => by
  cases tg with
  | Tuple elts ctx tp =>
   obtain ⟨l, ls, p, q, rfl, h2⟩ := zip_shape h
   simp only [Bool.and_eq_true, List.contains_iff_mem] at h2
   obtain ⟨⟨h3, h4⟩, h5⟩ := h2
   obtain ⟨g1, g2, g3⟩ := G.gl h3
   obtain ⟨s1, s2⟩ := stars h5
   refine PI.imp (pi_zipT g1 (G.blt _ h4) (soundEs c es k Z w0 X (l :: ls) G h5).1 s1 s2) fun σ H R ⟨w, σD, M, QD, S, g, aq⟩ => ?_
   refine ⟨w, σD, M, _, S, g, fun vs w1 ds M1 x1 r1 rd1 q1 => ?_⟩
   obtain ⟨da, db, rfl, q2⟩ := at2_inv q1
   obtain ⟨ys, rfl, q3⟩ := onTup_inv q2
   obtain ⟨m, rfl, zs, z2, z3⟩ := onRef_inv q3
   obtain ⟨v1, v2, rfl, a1, a2⟩ := rds2 rd1
   obtain ⟨p, us, rfl, y0, y1⟩ := rd_tup.mp a1
   obtain ⟨hm, rfl⟩ := rd_ref.mp a2
   have hK : X.K = w1.K := by rw [x1.K, S.K, G.eK]
   obtain ⟨_, vs, y2, _, _⟩ := r1.listL z2
   rw [← hK] at y2
   exact ⟨_, _, us, rfl, .of y0, ⟨vs, y2⟩, aq _ w1 _ _ M1 x1 r1 (jok_zip hK hm y0 y1) z3⟩
  | _ => exact absurd ht Bool.false_ne_true
 | .enm a, k, Z, w0, X, tg, ex, G, h, ht => by
  cases tg with
  | Tuple elts ctx tp =>
   cases ex with
   | Call fn ls kws pos =>
    cases fn with
    | Name x np =>
     match ls, kws, h with
     | [l], [], h =>
      change (_ && _) = true at h
      simp only [Bool.and_eq_true, beq_iff_eq, List.contains_iff_mem] at h
      obtain ⟨⟨⟨⟨rfl, h1⟩, h2⟩, h3⟩, h4⟩ := h
      obtain ⟨g1, g2, g3⟩ := G.gl h1
      refine PI.imp (pi_enum g1 (G.blt _ h2) (pa_cons (soundE c a k Z w0 X l G h4).1 pa_nil (star_cons h3)) (star_cons h3)) fun σ H R ⟨w, σD, M, QD, S, g, aq⟩ => ?_
      refine tF_of S g fun v w1 d M1 x1 r1 rd1 q1 => ?_
      have hK : X.K = w1.K := by rw [x1.K, S.K, G.eK]
      split at q1
      ·obtain ⟨hn, rfl⟩ := rd_ref.mp rd1
       obtain ⟨xs, z1, z2⟩ := q1
       obtain ⟨_, vs, y1, y2, _⟩ := r1.listL z1
       rw [← hK] at y1
       exact ⟨_, rfl, ⟨vs, y1⟩, aq _ w1 _ _ M1 x1 r1 (jok_enum hK hn) z2⟩
      ·exact q1.elim
     | [], _, h => exact absurd h Bool.false_ne_true
     | [_], _ :: _, h => exact absurd h Bool.false_ne_true
     | _ :: _ :: _, _, h => exact absurd h Bool.false_ne_true
    | _ => exact absurd h Bool.false_ne_true
   | _ => exact absurd h Bool.false_ne_true
  | _ => exact absurd ht Bool.false_ne_true
end
def noComp : Expr → Bool
 | .ListComp .. | .SetComp .. | .DictComp .. => false
 | _ => true
def noTuple : Expr → Bool
 | .Tuple .. => false
 | _ => true
def isName : Expr → Bool
 | .Name .. => true
 | _ => false
def swapB (k : Ck) (t x : Expr) : Bool := match t, x with
 | .Name n pos, .ListComp _ _ scope p => k.sc.kind == .function && k.loc n && pos.line == p.line && !(scope.names.any fun (m, j) => m == n && (j == .local || j == .cell))
 | _, _ => false
def cellB (k : Ck) (t x : Expr) : Bool := match t, x with
 | .Name n _, .ListComp .. => k.sc.names.lookup n == some .cell
 | _, _ => false
mutual
def chkS (k : Ck) : S → Stmt → Bool
 | .never, _ => true
 | .ret e, .Return (some x) _ => chkE k e x
 | .expr e, .Expr x _ => noComp x && chkE k e x
 | .set tg e, .Assign [t] x _ => chkTgt k tg t && chkE k e x && ((noComp x && (isName t || noTuple x)) || (swapB k t x && decide (tg.length = 1)) || cellB k t x)
 | .put o i v, .Assign [.Subscript l r _] x _ => noSlice r && noComp x && chkE k v x && chkE k o l && chkE k i r
 | .ite t a b, .If x ls rs _ => chkE k t x && noIf t && chkSs k a ls && chkSs k b rs
 | .for_ tg it b, .For t x ls [] _ => k.calm && k.loops && noSet x && chkTgt k tg t && chkIt k it x && chkSs k b ls && itTg it t
 | .forK tg e b, .For t x ls [] _ => k.calm && k.loops && noSet x && chkTgt k tg t && chkE k e x && chkSs k b ls
 | .while_ t b, .While x ls [] _ => k.loops && chkE k t x && noIf t && chkSs k b ls
 | _, _ => false
def chkSs (k : Ck) : Ss → List Stmt → Bool
 | .nil, [] => true
 | .cons s r, x :: xs => chkS k s x && chkSs k r xs
 | _, _ => false
end
section
variable {c : Cfg} {k : Ck} {Z : DX} {w0 : Vw} {X : Cx}
theorem swap_no {x : Expr} {t : Option Expr} {line : Nat} {env : Env} (h : noComp x = true) : swapsWith x t line env = pure false := by
 cases x <;> first | rfl | cases h
theorem tFS_of {f : DS} {σ : L2.St} {w : Vw} {σD : DEnv} {M : Store} {H : Hp} {R : Ends} {RR : DEnds} (S : StOk w0 w σD M σ H) (h : f RR σD M)
  (h1 : ∀ σ' w' σD' M', Ext w w' → RS w' M' → REnv w' σD' σ' → RR.nx σD' M' → R.nx σ' w'.H) (h2 : Aft w RR.rt R.rt)
  (h3 : ∀ σ' w' σD' M', Ext w w' → RS w' M' → REnv w' σD' σ' → RR.bk σD' M' → R.bk σ' w'.H)
  (h4 : ∀ σ' w' σD' M', Ext w w' → RS w' M' → REnv w' σD' σ' → RR.ct σD' M' → R.ct σ' w'.H) : tFS w0 f R σ H := ⟨w, σD, M, RR, S, h, h1, h2, h3, h4⟩
def thawE (X : Cx) (R : Ends) : Ends := { nx := fun σ H => ∃ a o kvs, H a = some (.frz o (.dK kvs)) ∧ (∀ o u, X.H₀ a ≠ some (.frz o u)) ∧ R.nx σ (upd H a (.dK kvs)), rt := fun v H => ∃ a o kvs, H a = some (.frz o (.dK kvs)) ∧ (∀ o u, X.H₀ a ≠ some (.frz o u)) ∧ R.rt v (upd H a (.dK kvs)) }
theorem ps_thaw {st : Stmt} {t : TS} (h : PS X st t) : PS X st (fun R σ H => t (thawE X R) σ H) := by
 intro pins s σ H D I q
 refine thn (h pins s σ H (thawE X D) I q) fun f s' hp => ?_
 cases f with
 | next =>
  obtain ⟨σ', H', I', a, o, kvs, e, nf, q⟩ := hp
  exact ⟨σ', _, d_thaw I' e nf, q⟩
 | brk => obtain ⟨σ', H', I', q⟩ := hp; exact q.elim
 | cont => obtain ⟨σ', H', I', q⟩ := hp; exact q.elim
 | ret u =>
  obtain ⟨v, σ', H', I', r, a, o, kvs, e, nf, q⟩ := hp
  exact ⟨v, σ', _, d_thaw I' e nf, r, q⟩
theorem REnv.ext0 {w w' : Vw} {σD : DEnv} {σ : L2.St} (h : REnv w σD σ) (x : Ext0 w w') : REnv w' σD σ :=
 ⟨h.1, fun i d e => let ⟨v, q, r⟩ := h.2 i d e; ⟨v, q, r.ext0 x⟩⟩
theorem thaw_view {w1 w' : Vw} {M' : Store} {n : Nat} {o : Obj} {vs : List (Key × V)} {kvs : List (Key × D)} (hn : n < w1.n) (y1 : w1.H (w1.μ n) = some (.dK vs)) (x : Ext (w1.alloc (w1.μ n) (.frz o (.dK vs))) w') (r : RS w' M') (t : M'[n]? = some (.fdc kvs)) :
  w'.H (w1.μ n) = some (.frz o (.dK vs)) ∧ Ext w1 (w'.alloc (w1.μ n) (.dK vs)) ∧ Ext0 w' (w'.alloc (w1.μ n) (.dK vs)) ∧ RS (w'.alloc (w1.μ n) (.dK vs)) (M'.set n (.dct kvs)) := by
 have q := x.imm (w1.μ n) _ upd_same rfl
 have eμ : w'.μ n = w1.μ n := x.μ n hn
 obtain ⟨o', us, q1, q2⟩ := r.cell n _ t
 rw [eμ, q] at q1
 cases q1
 refine ⟨q, ext_thaw y1 rfl x, ext0_thaw q, ?_⟩
 have := r.thaw t (by rw [eμ]; exact q) q2
 rw [eμ] at this
 exact this
theorem for_run {w1 : Vw} {J : L2.It} {own : Own} {xs : List D} {tg : List Nat} {body : DS} {M1 : Store} {H1 : Hp} {σD : DEnv} {σ : L2.St} {RR : DEnds} {R : Ends} (S : StOk w0 w1 σD M1 σ H1) (jk : JOk w1 J own xs)
  (h : forD own xs tg body xs RR σD M1)
  (h1 : ∀ σ' w' σD' M', Ext w1 w' → RS w' M' → REnv w' σD' σ' → RR.nx σD' M' → R.nx σ' w'.H) (h2 : Aft w1 RR.rt R.rt) :
  ∃ W : Nat → Nat → L2.St → Hp → Prop, (∃ m, W 0 m σ H1) ∧ ∀ i m σ H, W i m σ H →
   (J.stop i H ∧ R.nx σ H) ∨ (J.go i H ∧ ∃ N : L2.St → Hp → Prop, (∀ σ' H', N σ' H' → ∃ m', m' < m ∧ W (i + 1) m' σ' H') ∧ ∀ x H', J.yld i H x H' → gF w0 tg x σ H' fun σ2 H2 => tFS w0 body { R with nx := N, ct := N, bk := R.nx } σ2 H2) := by
 refine ⟨fun i m σ H => ∃ w σE M, StOk w0 w σE M σ H ∧ Ext w1 w ∧ i ≤ xs.length ∧ m = xs.length - i ∧ forD own xs tg body (xs.drop i) RR σE M, ⟨xs.length, w1, σD, M1, S, Ext.refl _, Nat.zero_le _, rfl, h⟩, ?_⟩
 rintro i m σc Hc ⟨w, σE, M, S1, x1, hi, rfl, hc⟩
 have stp : ∀ st : still own xs M, _ := fun st => jk w M x1 S1.rs st i
 rw [S1.heap] at stp
 by_cases hil : i < xs.length
 ·rw [List.drop_eq_getElem_cons hil] at hc
  obtain ⟨st, hc⟩ := hc
  obtain ⟨j1, j2⟩ := (stp st).1 xs[i] (List.getElem?_eq_getElem hil)
  refine .inr ⟨j1, fun σ' H' => ∃ w σE M, StOk w0 w σE M σ' H' ∧ Ext w1 w ∧ i + 1 ≤ xs.length ∧ forD own xs tg body (xs.drop (i + 1)) RR σE M, ?_, fun x H' hy => ?_⟩
  ·rintro σ' H' ⟨w2, σ2, M2, S2, x2, l2, f2⟩
   exact ⟨xs.length - (i + 1), by omega, w2, σ2, M2, S2, x2, l2, rfl, f2⟩
  ·obtain ⟨w3, rfl, x3, R3, rd3⟩ := j2 x H' hy
   refine ⟨w3, σE, M, xs[i], _, ⟨rfl, S1.ext.trans x3, R3, S1.env.ext x3⟩, rd3, hc, fun σ2 σE2 env2 q2 => ?_⟩
   have nxt : ∀ σ' w' σD' M', Ext w3 w' → RS w' M' → REnv w' σD' σ' → forD own xs tg body (xs.drop (i + 1)) RR σD' M' →
     ∃ w σE M, StOk w0 w σE M σ' w'.H ∧ Ext w1 w ∧ i + 1 ≤ xs.length ∧ forD own xs tg body (xs.drop (i + 1)) RR σE M :=
    fun σ' w' σD' M' x' r' e' q' => ⟨w', σD', M', ⟨rfl, (S1.ext.trans x3).trans x', r', e'⟩, (x1.trans x3).trans x', hil, q'⟩
   exact tFS_of ⟨rfl, S1.ext.trans x3, R3, env2⟩ q2 nxt (fun v w' d M' x' r' rd' q' => h2 v w' d M' ((x1.trans x3).trans x') r' rd' q')
    (fun σ' w' σD' M' x' r' e' q' => h1 σ' w' σD' M' ((x1.trans x3).trans x') r' e' q') nxt
 ·rw [List.drop_eq_nil_of_le (by omega)] at hc
  obtain ⟨st, hq⟩ := hc
  refine .inl ⟨(stp st).2 (by omega), ?_⟩
  have := h1 σc w σE M x1 S1.rs S1.env hq
  rw [S1.heap] at this
  exact this
theorem ps_put {o i value : Expr} {td ty tv : TE} {pos pos' : Pos} (hu : X.A.units + 1 < cLine) (ho : PE X o td) (hi : PE X i ty) (hv : PE X value tv) (hs : swapsWith value (some (.Subscript o i pos')) pos.line X.env = pure false) :
  PS X (.Assign [.Subscript o i pos'] value pos) (fun R σ H => tv σ H fun v H1 => td σ H1 fun x H2 => ty σ H2 fun y H3 => rSetL x y v H3 (fun H4 => R.nx σ H4) ∨ ∃ a H4, x = .ref a ∧ DPut H3 a y v H4 ∧ R.nx σ H4) := by
 intro pins s σ H D I h
 refine wpAny_Assign_Subscript (thn (hv pins s σ H _ I h) fun r s1 ⟨v, H1, I1, rv, q1⟩ => thn (ho pins s1 σ H1 _ I1 q1) fun u s2 ⟨x, H2, I2, rx, q2⟩ => thn (hi pins s2 σ H2 _ I2 q2) fun iv s3 ⟨y, H3, I3, ry, q3⟩ => ?_) hs
 rcases q3 with q3 | ⟨a, H4, ex, g, q3⟩
 ·exact thn (set_list pins s3 σ H3 x y v u iv r (fun H4 => D.nx σ H4) I3 rx ry rv q3) fun _ s4 ⟨H4, I4, q4⟩ => ⟨σ, H4, I4, q4⟩
 ·subst ex
  obtain rfl : u = Value.ref a := rx
  exact d_setItem hu I3 g ry rv fun s4 I4 => ⟨σ, H4, I4, q3⟩
end
def SoundS (c : Cfg) (s : S) : Prop := ∀ (k : Ck) (Z : DX) (w0 : Vw) (X : Cx) (st : Stmt), Good c k Z w0 X → chkS k s st = true → PS X st (tFS w0 (ts c Z s))
def SoundSs (c : Cfg) (s : Ss) : Prop := ∀ (k : Ck) (Z : DX) (w0 : Vw) (X : Cx) (st : List Stmt), Good c k Z w0 X → chkSs k s st = true → PSs X st (tFS w0 (tss c Z s))
section
variable {c : Cfg} {k : Ck} {Z : DX} {w0 : Vw} {X : Cx}
end
theorem swap_shape {k : Ck} {t x : Expr} (h : swapB k t x = true) : ∃ n np el gens scope p, t = .Name n np ∧ x = .ListComp el gens scope p := by
 cases t with
 | Name n np =>
  cases x with
  | ListComp el gens scope p => exact ⟨_, _, _, _, _, _, rfl, rfl⟩
  | _ => exact absurd h Bool.false_ne_true
 | _ => exact absurd h Bool.false_ne_true
theorem cell_shape {k : Ck} {t x : Expr} (h : cellB k t x = true) : ∃ n np el gens scope p, t = .Name n np ∧ x = .ListComp el gens scope p ∧ k.sc.names.lookup n = some .cell := by
 cases t with
 | Name n np =>
  cases x with
  | ListComp el gens scope p => exact ⟨_, _, _, _, _, _, rfl, rfl, eq_of_beq h⟩
  | _ => exact absurd h Bool.false_ne_true
 | _ => exact absurd h Bool.false_ne_true
theorem comp_shape {k : Ck} {e : E} {el : Expr} {gens : List Comprehension} {scope : Scope} {p : Pos} (h : chkE k e (.ListComp el gens scope p) = true) :
  ∃ N' js tg it cd e' t iter ifs, e = .comp N' js tg it cd e' ∧ gens = [⟨t, iter, ifs, 0⟩] := by
 cases e with
 | comp N' js tg it cd e' =>
  cases gens with
  | nil => exact absurd h Bool.false_ne_true
  | cons g r =>
   cases g with
   | mk t iter ifs as =>
    cases as with
    | ofNat n =>
     cases n with
     | zero =>
      cases r with
      | nil => exact ⟨_, _, _, _, _, _, _, _, _, rfl, rfl⟩
      | cons _ _ => exact absurd h Bool.false_ne_true
     | succ n => exact absurd h Bool.false_ne_true
    | negSucc n => exact absurd h Bool.false_ne_true
 | bop b es => cases b <;> exact absurd h Bool.false_ne_true
 | _ => exact absurd h Bool.false_ne_true
theorem sound_set (c : Cfg) (tg : List Nat) (e : E) : SoundS c (.set tg e) := by
  intro k Z w0 X st G h
  cases st with
  | Assign ts' x pos =>
   match ts', h with
   | [t], h =>
    change (_ && _) = true at h
    simp only [Bool.and_eq_true, Bool.or_eq_true, decide_eq_true_eq] at h
    obtain ⟨⟨ht, he⟩, h⟩ := h
    rcases h with (⟨hc, hs⟩ | ⟨hs, hl⟩) | hs
    rotate_left 2
    ·obtain ⟨n, np, el, gens, scope, p, rfl, rfl, hcell⟩ := cell_shape hs
     have h1 : swapsWithSole [.Name n np] (.ListComp el gens scope p) pos.line X.env = pure false := by
      have hk : X.env.kindOf n = some .cell := by
       unfold Env.kindOf
       rw [G.sc]; exact hcell
      have hk' : (X.env.kindOf n == some NameKind.local) = false := by rw [hk]; rfl
      unfold swapsWithSole swapsWith
      simp only [hk', Bool.and_false, Bool.false_and]
     refine PS.imp (ps_asg (soundE c e k Z w0 X _ G he).1 (G.tgt tg _ ht) h1 rfl rfl) fun R σ H ⟨w, σD, M, RR, S, q, q1, q2, q3, q4⟩ => ?_
     refine tF_of S q fun v w' d M' x' r' rd' q' => ?_
     exact ⟨w', σD, M', d, _, S.next x' r', rd', q', fun σ' σD' e' z => q1 σ' w' σD' M' x' r' e' z⟩
    ·have h1 : swapsWithSole [t] x pos.line X.env = pure false := swap_no hc
     have h2 : swappedStores [t] x X.env = pure none := by
      cases t with
      | Name n p => cases x <;> rfl
      | Tuple es kk p =>
       have : noTuple x = true := hs.resolve_left (by simp [isName])
       cases x <;> first | rfl | cases this
      | _ => exact absurd ht Bool.false_ne_true
     have h3 : (assignEach [t] X.env).map (·.2) = [assign t X.env] := by
      cases t with
      | Name n p => rfl
      | Tuple es kk p => rfl
      | _ => exact absurd ht Bool.false_ne_true
     refine PS.imp (ps_asg (soundE c e k Z w0 X x G he).1 (G.tgt tg t ht) h1 h2 h3) fun R σ H ⟨w, σD, M, RR, S, q, q1, q2, q3, q4⟩ => ?_
     refine tF_of S q fun v w' d M' x' r' rd' q' => ?_
     exact ⟨w', σD, M', d, _, S.next x' r', rd', q', fun σ' σD' e' z => q1 σ' w' σD' M' x' r' e' z⟩
    ·match tg, hl, ht with
     | [i], _, ht =>
      obtain ⟨n, np, el, gens, scope, p, rfl, rfl⟩ := swap_shape hs
      obtain ⟨N', js, tg, it, cd, e, t2, iter, ifs, rfl, rfl⟩ := comp_shape he
      change (_ && _) = true at he
      simp only [Bool.and_eq_true, decide_eq_true_eq] at he
      obtain ⟨⟨⟨⟨⟨⟨⟨⟨h1, h2⟩, h3⟩, h4⟩, h5⟩, h6⟩, h7⟩, h8⟩, h9⟩ := he
      change (_ && _) = true at ht
      simp only [Bool.and_eq_true, beq_iff_eq] at ht
      simp only [swapB, Bool.and_eq_true, beq_iff_eq, Bool.not_eq_true'] at hs
      obtain ⟨⟨⟨s1, s2⟩, s3⟩, s4⟩ := hs
      have hl' : X.env.scope.names.lookup n = some .local := by
       unfold Ck.loc at s2
       rw [G.sc]; exact eq_of_beq s2
      have hsw : swapsWith (.ListComp el [⟨t2, iter, ifs, 0⟩] scope p) (some (.Name n np)) pos.line X.env = pure true := by
       unfold swapsWith
       have hb : (X.env.blockKind == ScopeKind.function) = true := by
        unfold Env.blockKind
        rw [G.sc, s1]; rfl
       have hk : (X.env.kindOf n == some NameKind.local) = true := by
        unfold Env.kindOf
        rw [hl']; rfl
       have hp : (np.line == (Expr.ListComp el [⟨t2, iter, ifs, 0⟩] scope p).pos.line) = true := by
        show (np.line == p.line) = true
        rw [s3]; simp
       simp only [hb, hk, hp, s4, Bool.not_false, Bool.and_self]
      refine PS.imp ((sound_comp G h1 h2 h3 h5 (soundI c it k Z w0 X t2 iter G h4 h9) h6 h7 h8 (soundE c e) (soundO c cd)).2 i n np pos (by rw [G.N]; exact ht.1) hl' hsw) fun R σ H ⟨w, σD, M, RR, S, q, q1, q2, q3, q4⟩ => ?_
      have q : te c Z (.comp N' js tg it cd e) σD M fun d M1 => RR.nx (σD.set i (some d)) M1 := q
      refine tF_of S q fun v w' d M' x' r' rd' q' => ?_
      exact q1 _ w' _ M' x' r' ((S.env.ext x').set i rd') q'
     | [], hl, _ => simp at hl
     | _ :: _ :: _, hl, _ => simp at hl
   | [], h => exact absurd h Bool.false_ne_true
   | _ :: _ :: _, h => exact absurd h Bool.false_ne_true
  | _ => exact absurd h Bool.false_ne_true
theorem sound_put (c : Cfg) (o i v : E) : SoundS c (.put o i v) := by
  intro k Z w0 X st G h
  cases st with
  | Assign ts' x pos =>
   match ts', h with
   | [t], h =>
    cases t with
    | Subscript l r p =>
     change (_ && _) = true at h
     simp only [Bool.and_eq_true] at h
     obtain ⟨⟨⟨⟨h1, h2⟩, h3⟩, h4⟩, h5⟩ := h
     refine PS.imp (ps_put (by have := G.units; omega) (soundE c o k Z w0 X l G h4).1 (soundE c i k Z w0 X r G h5).1 (soundE c v k Z w0 X x G h3).1 (swap_no h2)) fun R σ H ⟨w, σD, M, RR, S, q, q1, q2, q3, q4⟩ => ?_
     refine tF_of S q fun vv w1 dv M1 x1 r1 rd1 z1 => ?_
     refine tF_of (S.next x1 r1) z1 fun vo w2 dob M2 x2 r2 rd2 z2 => ?_
     refine tF_of ((S.next x1 r1).next x2 r2) z2 fun vi w3 di M3 x3 r3 rd3 z3 => ?_
     split at z3
     ·obtain ⟨hn, rfl⟩ := rd_ref.mp (rd2.ext x3)
      rcases z3 with ⟨xs, kk, j, rfl, y1, y2, y3⟩ | ⟨kvs, kk, y1, y2, y3, y4⟩
      ·cases rd_int.mp rd3
       obtain ⟨hn, vs, u1, u2⟩ := r3.list y1
       obtain ⟨t1, t2⟩ := write_list r3 hn u1 (u2.set (rd1.ext (x2.trans x3)) j)
       exact .inl ⟨_, vs, kk, j, rfl, rfl, u1, by rw [u2.length]; exact y2, q1 σ _ σD _ (((x1.trans x2).trans x3).trans t1) t2 (S.env.ext (((x1.trans x2).trans x3).trans t1)) y3⟩
      ·obtain ⟨hn, vs, u1, u2⟩ := r3.dict y1
       cases keyD_kV y2 rd3
       obtain ⟨t1, t2⟩ := write_dict r3 hn u1 (u2.put (k := kk) (rd1.ext (x2.trans x3)))
       exact .inr ⟨_, _, rfl, DPut.k (k := kk) u1 (by rw [u2.length]; exact y3), q1 σ _ σD _ (((x1.trans x2).trans x3).trans t1) t2 (S.env.ext (((x1.trans x2).trans x3).trans t1)) y4⟩
     ·exact z3.elim
    | _ => exact absurd h Bool.false_ne_true
   | [], h => exact absurd h Bool.false_ne_true
   | a :: b :: r, h => cases a <;> exact absurd h Bool.false_ne_true
  | _ => exact absurd h Bool.false_ne_true
mutual
theorem soundS (c : Cfg) : ∀ s : S, SoundS c s
 | .never, k, Z, w0, X, st, G, h => PS.imp ps_never fun R σ H ⟨w, σD, M, RR, S, q, _⟩ => q
 | .ret e, k, Z, w0, X, st, G, h => by
  cases st with
  | Return v pos =>
   cases v with
   | some x => exact PS.imp (ps_ret (soundE c e k Z w0 X x G h).1) fun R σ H ⟨w, σD, M, RR, S, q, h1, h2, h3, h4⟩ => tF_of S q h2
   | none => exact absurd h Bool.false_ne_true
  | _ => exact absurd h Bool.false_ne_true
 | .expr e, k, Z, w0, X, st, G, h => by
  cases st with
  | Expr x pos =>
   change (_ && _) = true at h
   simp only [Bool.and_eq_true] at h
   exact PS.imp (ps_expr (soundE c e k Z w0 X x G h.2).1 (swap_no h.1)) fun R σ H ⟨w, σD, M, RR, S, q, h1, h2, h3, h4⟩ => tF_of S q fun v w' d M' x' r' rd' q' => h1 σ w' σD M' x' r' (S.env.ext x') q'
  | _ => exact absurd h Bool.false_ne_true
 | .set tg e, k, Z, w0, X, st, G, h => sound_set c tg e k Z w0 X st G h
 | .put o i v, k, Z, w0, X, st, G, h => sound_put c o i v k Z w0 X st G h
 | .ite t a b, k, Z, w0, X, st, G, h => by
  cases st with
  | If x ls rs pos =>
   change (_ && _) = true at h
   simp only [Bool.and_eq_true] at h
   obtain ⟨⟨⟨h1, h2⟩, h3⟩, h4⟩ := h
   refine PS.imp (ps_if ((soundE c t k Z w0 X x G h1).2 h2) (soundSs c a k Z w0 X ls G h3) (soundSs c b k Z w0 X rs G h4)) fun R σ H ⟨w, σD, M, RR, S, q, q1, q2, q3, q4⟩ => ?_
   refine ⟨w, σD, M, _, S, q, fun z w1 M1 x1 r1 y1 => ?_⟩
   have fin : ∀ {f : DS}, f RR σD M1 → tFS w0 f R σ w1.H := fun hf => tFS_of (S.next x1 r1) hf (fun σ' w' σD' M' x' r' e' z => q1 σ' w' σD' M' (x1.trans x') r' e' z) (q2.ext x1)
    (fun σ' w' σD' M' x' r' e' z => q3 σ' w' σD' M' (x1.trans x') r' e' z) (fun σ' w' σD' M' x' r' e' z => q4 σ' w' σD' M' (x1.trans x') r' e' z)
   cases z with
   | true =>
    rw [if_pos rfl] at y1
    show if (true : Bool) = true then _ else _
    rw [if_pos rfl]; exact fin y1
   | false =>
    rw [if_neg Bool.false_ne_true] at y1
    show if (false : Bool) = true then _ else _
    rw [if_neg Bool.false_ne_true]; exact fin y1
  | _ => exact absurd h Bool.false_ne_true
 | .for_ tg it b, k, Z, w0, X, st, G, h => by
  cases st with
  | For t x ls els pos =>
   cases els with
   | nil =>
    change (_ && _) = true at h
    simp only [Bool.and_eq_true] at h
    obtain ⟨⟨⟨⟨⟨⟨h1, h2⟩, h3⟩, h4⟩, h5⟩, h6⟩, h7⟩ := h
    have hf : ∀ v, foldedSetIterable x X.env v = pure v := by
     intro v
     cases x <;> first | rfl | cases h3
    refine PS.imp (ps_for (G.po h2) (G.calm h1) (soundI c it k Z w0 X t x G h5 h7) (G.tgt tg t h4) (soundSs c b k Z w0 X ls G h6) hf) fun R σ H ⟨w, σD, M, RR, S, q, q1, q2, q3, q4⟩ => ?_
    refine ⟨w, σD, M, _, S, q, fun J w1 own xs M1 x1 r1 jk z => ?_⟩
    exact for_run (S.next x1 r1) jk z (fun σ' w' σD' M' x' r' e' z => q1 σ' w' σD' M' (x1.trans x') r' e' z) (q2.ext x1)
   | cons _ _ => exact absurd h Bool.false_ne_true
  | _ => exact absurd h Bool.false_ne_true
 | .forK tg e b, k, Z, w0, X, st, G, h => by
  cases st with
  | For t x ls els pos =>
   cases els with
   | nil =>
    change (_ && _) = true at h
    simp only [Bool.and_eq_true] at h
    obtain ⟨⟨⟨⟨⟨h1, h2⟩, h3⟩, h4⟩, h5⟩, h6⟩ := h
    have hf : ∀ v, foldedSetIterable x X.env v = pure v := by
     intro v
     cases x <;> first | rfl | cases h3
    refine PS.imp (ps_thaw (ps_for (G.po h2) (G.calm h1) (pi_keys (soundE c e k Z w0 X x G h5).1) (G.tgt tg t h4) (soundSs c b k Z w0 X ls G h6) hf)) fun R σ H ⟨w, σD, M, RR, S, q, q1, q2, q3, q4⟩ => ?_
    refine tF_of S q fun v w1 d M1 x1 r1 rd1 z => ?_
    split at z
    ·obtain ⟨hn, rfl⟩ := rd_ref.mp rd1
     obtain ⟨kvs, z1, z2⟩ := z
     obtain ⟨hM, vs, y1, y2⟩ := r1.dict z1
     refine ⟨_, vs, rfl, y1, fun o nf => ?_⟩
     rename_i _ n
     have x2 : Ext w1 (w1.alloc (w1.μ n) (.frz o (.dK vs))) := ext_write y1 rfl
     have r2 : RS (w1.alloc (w1.μ n) (.frz o (.dK vs))) (M1.set n (.fdc kvs)) := r1.write hM rfl rfl y1 rfl ⟨o, vs, upd_same, y2.ext x2⟩
     refine for_run (R := thawE X R) (S.next (x1.trans x2) r2) (jok_keys (w1 := w1.alloc (w1.μ n) (.frz o (.dK vs))) (n := n) hn upd_same) z2 (fun σ' w' σD' M' x' r' e' ⟨kvs', t1, t2⟩ => ?_) (fun v w' d M' x' r' rd' ⟨kvs', t1, t2⟩ => ?_)
     ·obtain ⟨a1, a2, a3, a4⟩ := thaw_view hn y1 x' r' t1
      exact ⟨_, o, vs, a1, nf, q1 σ' _ σD' _ (x1.trans a2) a4 (e'.ext0 a3) t2⟩
     ·obtain ⟨a1, a2, a3, a4⟩ := thaw_view hn y1 x' r' t1
      exact ⟨_, o, vs, a1, nf, q2 v _ d _ (x1.trans a2) a4 (rd'.ext0 a3) t2⟩
    ·exact z.elim
   | cons _ _ => exact absurd h Bool.false_ne_true
  | _ => exact absurd h Bool.false_ne_true
 | .while_ t b, k, Z, w0, X, st, G, h => by
  cases st with
  | While x ls els pos =>
   cases els with
   | nil =>
    change (_ && _) = true at h
    simp only [Bool.and_eq_true] at h
    obtain ⟨⟨⟨h1, h2⟩, h3⟩, h4⟩ := h
    refine PS.imp (ps_while (G.po h1) ((soundE c t k Z w0 X x G h2).2 h3) (soundSs c b k Z w0 X ls G h4)) fun R σ H ⟨w, σD, M, RR, S, q, q1, q2, q3, q4⟩ => ?_
    obtain ⟨W, ⟨m0, hm0⟩, step⟩ := q
    refine ⟨fun m σ H => ∃ w2 σE M2, StOk w0 w2 σE M2 σ H ∧ Ext w w2 ∧ W m σE M2, ⟨m0, w, σD, M, S, Ext.refl w, hm0⟩, ?_⟩
    rintro m σ2 H2 ⟨w2, σE, M2, S2, x2, hW⟩
    refine ⟨w2, σE, M2, _, S2, step m σE M2 hW, fun z w3 M3 x3 r3 y3 => ?_⟩
    cases z with
    | false =>
     rw [if_neg Bool.false_ne_true] at y3 ⊢
     exact q1 σ2 w3 σE M3 (x2.trans x3) r3 (S2.env.ext x3) y3
    | true =>
     rw [if_pos rfl] at y3 ⊢
     have nxt : ∀ σ' w' σD' M', Ext w3 w' → RS w' M' → REnv w' σD' σ' → (∃ m', m' < m ∧ W m' σD' M') → ∃ m', m' < m ∧ ∃ w2 σE M2, StOk w0 w2 σE M2 σ' w'.H ∧ Ext w w2 ∧ W m' σE M2 :=
      fun σ' w' σD' M' x' r' e' ⟨m', l', z'⟩ => ⟨m', l', w', σD', M', ⟨rfl, (S2.ext.trans x3).trans x', r', e'⟩, (x2.trans x3).trans x', z'⟩
     refine ⟨fun σ' H' => ∃ m', m' < m ∧ ∃ w2 σE M2, StOk w0 w2 σE M2 σ' H' ∧ Ext w w2 ∧ W m' σE M2, fun σ' H' z => z, ?_⟩
     exact tFS_of (S2.next x3 r3) y3 nxt (fun v w' d M' x' r' rd' z' => q2 v w' d M' ((x2.trans x3).trans x') r' rd' z') (fun σ' w' σD' M' x' r' e' z' => q1 σ' w' σD' M' ((x2.trans x3).trans x') r' e' z') nxt
   | cons _ _ => exact absurd h Bool.false_ne_true
  | _ => exact absurd h Bool.false_ne_true
theorem soundSs (c : Cfg) : ∀ s : Ss, SoundSs c s
 | .nil, k, Z, w0, X, st, G, h => by
  cases st with
  | nil =>
   refine PSs.imp pss_nil fun R σ H ⟨w, σD, M, RR, S, q, h1, _⟩ => ?_
   have := h1 σ w σD M (Ext.refl w) S.rs S.env q
   rw [S.heap] at this
   exact this
  | cons _ _ => exact absurd h Bool.false_ne_true
 | .cons s r, k, Z, w0, X, st, G, h => by
  cases st with
  | nil => exact absurd h Bool.false_ne_true
  | cons x xs =>
   change (_ && _) = true at h
   simp only [Bool.and_eq_true] at h
   refine PSs.imp (pss_cons (soundS c s k Z w0 X x G h.1) (soundSs c r k Z w0 X xs G h.2)) fun R σ H ⟨w, σD, M, RR, S, q, h1, h2, h3, h4⟩ => ?_
   refine tFS_of S q ?_ h2 h3 h4
   intro σ' w' σD' M' x' r' e' q'
   exact tFS_of ⟨rfl, S.ext.trans x', r', e'⟩ q' (fun σ2 w2 σD2 M2 x2 r2 e2 z => h1 σ2 w2 σD2 M2 (x'.trans x2) r2 e2 z) (h2.ext x') (fun σ2 w2 σD2 M2 x2 r2 e2 z => h3 σ2 w2 σD2 M2 (x'.trans x2) r2 e2 z) (fun σ2 w2 σD2 M2 x2 r2 e2 z => h4 σ2 w2 σD2 M2 (x'.trans x2) r2 e2 z)
end
theorem FnOk.cx {P : Program} {w : World} {K : PySem.W.Frag} {mg : Str → Option Value} {base : Heap} {CX : CXT} {k : Nat} {f : Addr} {fd : FuncData} {ps : List Str} {sp : Sp} (F : FnOk P w K mg base CX0 k f fd ps sp) : FnOk P w K mg base CX k f fd ps sp :=
 ⟨F.len, fun A outer s H args us vs Q E hr he hb hv hs => codeAny_mono (F.run A outer s H args us vs Q E hr he hb hv hs) fun r s' h => by
  cases r with
  | error e => exact False.elim h
  | ok fl => cases fl <;> exact h⟩
structure Prg (P : Program) (w : World) (K : PySem.W.Frag) (mg : Str → Option Value) (base : Heap) (c : Cfg) (FN GN BN : List Str) (lv : Nat) : Prop where
 hK : c.K = K
 fns : ∀ (f : Nat) (x : Str) (sp : DSp), FN[f]? = some x → c.Γ[f]? = some sp → ∃ (kk : Nat) (f : Addr) (fd : FuncData) (ps : List Str) (ds : List Value) (dvs : List V) (dD : List D) (sp0 : DSp), FnOk P w K mg base (CX1 P w) kk f fd ps (spF K sp0) ∧ kk ≤ lv ∧ mg x = some (.ref f) ∧ PySem.W.keepIn K (.ref f) = true ∧
  Binds K fd ps ds ∧ Vals dvs ds ∧ (∀ w : Vw, w.K = K → RDs w dD dvs) ∧ ∀ as M Q Z, sp as M Q Z → sp0 (as ++ dD) M Q Z
 flen : FN.length = c.Γ.length
 glb : ∀ (g : Nat) (x : Str) (d : D), GN[g]? = some x → c.G[g]? = some d → ∃ v u, mg x = some u ∧ RelV v u ∧ ∀ w : Vw, w.K = K → RD w d v
 blt : ∀ x, x ∈ BN → mg x = none
def start0 (N : List Str) (ds : List D) : DEnv := ds.map some ++ List.replicate (N.length - ds.length) none
theorem start_rel {w : Vw} {N : List Str} {ds : List D} {vs : List V} (r : RDs w ds vs) : REnv w (start0 N ds) (L2.start N vs) := by
 refine ⟨by unfold start0 L2.start; simp [r.length], fun i d e => ?_⟩
 unfold start0 at e
 unfold L2.start
 by_cases hi : i < ds.length
 ·rw [List.getElem?_append_left (by simpa using hi), List.getElem?_map] at e
  rw [List.getElem?_append_left (by rw [List.length_map, r.length]; exact hi), List.getElem?_map]
  cases hd : ds[i]? with
  | none => rw [hd] at e; cases e
  | some d' =>
   rw [hd] at e
   have e' : d' = d := by simpa using e
   subst e'
   obtain ⟨v, q1, q2⟩ := r.get hd
   exact ⟨v, by rw [q1]; rfl, q2⟩
 ·rw [List.getElem?_append_right (by simpa using hi)] at e
  have := List.getElem?_eq_some_iff.mp e
  simp at this
section
variable {P : Program} {w : World} {K : PySem.W.Frag} {mg : Str → Option Value} {base : Heap} {c : Cfg} {FN GN BN : List Str} {lv : Nat} {x qual : Str} {st : Stmt} {f : Addr} {fd : FuncData} {N ps : List Str}
abbrev ck0 (N : List Str) (st : Stmt) (FN GN BN : List Str) : Ck := ⟨N, defScope st, FN, GN, BN, true, true, true, [], true, []⟩
theorem fn0 (Pr : Prg P w K mg base c FN GN BN lv) (F : Fun K x qual st f fd) (S : FnScope N ps (defScope st)) {body : Ss} (hc : chkSs (ck0 N st FN GN BN) body (defBody st) = true) {sp : DSp} (hl : ∀ ds M Q Z, sp ds M Q Z → ds.length = ps.length)
  (hb : ∀ ds M Q Z, sp ds M Q Z → tss c noX body { nx := fun _ M => Q .non M, rt := Q } (start0 N ds) M) : FnOk P w K mg base (CX1 P w) (lv + 1) f fd ps (spF K sp) := by
 refine FnOk.cx (F.ok S (fun vs H Q E h => ?_) fun cdv A outer s H vs Q E hr h => ?_)
 ·obtain ⟨w, ds, M, QD, Z, _, _, _, r, h, _⟩ := h
  rw [r.length]; exact hl _ _ _ _ h
 obtain ⟨w', ds, M, QD, Z, hK', rfl, R, r, h, a, xk⟩ := h
 have G : Good c (ck0 N st FN GN BN) noX w' (cxOf CX0 P w K mg base N qual (defScope st) f cdv A outer s w'.H E).nox :=
  {hK := Pr.hK.symm
   wK := hK'.trans Pr.hK.symm
   N := rfl
   nd := S.nd
   sc := rfl
   calm := fun _ => rfl
   units := hr.units
   fns := fun _ f x sp h1 h2 => by
    obtain ⟨kk, f, fd, ps, ds, dvs, dD, sp0, F, hk, h⟩ := Pr.fns f x sp h1 h2
    exact ⟨kk, f, fd, ps, ds, dvs, dD, sp0, F, hr.mono hk, h⟩
   flen := Pr.flen
   glb := Pr.glb
   blt := Pr.blt
   exc := ⟨E0, fun _ _ _ _ _ _ _ h => by
    obtain ⟨_, _, _, _, _, _, _, _, _, _, _, _, _, _, _, h⟩ := h
    exact h.elim, fun cls dd H' h => by
    obtain ⟨_, _, _, _, _, _, _, _, _, _, _, _, _, h⟩ := h
    exact h.elim⟩
   stk := fun _ => ⟨rfl, rfl⟩
   po := fun _ => PassesOwn.never
   fnc := fun _ _ => rfl
   fno := fun _ h => by cases h }
 refine ⟨_, soundSs c body _ _ w' _ _ G hc, w', start0 N ds, M, { nx := fun _ M => QD .non M, rt := QD }, ⟨rfl, Ext.refl w', R, start_rel r⟩, hb _ _ _ _ h, ?_, a, ?_, ?_⟩
 ·exact fun σ' w2 σD' M' x' r' e' q' => a .non w2 .non M' x' r' (rd_non.mpr rfl) q'
 ·exact fun σ' w2 σD' M' x' r' e' q' => q'.elim
 ·exact fun σ' w2 σD' M' x' r' e' q' => q'.elim
end
def spLaw : DSp := fun ds M Q _ => ∃ ns : List Int, ds = [.ref 0] ∧ M = [.frz (ns.map .int)] ∧ ns.length ≤ 63 ∧ (∀ i ∈ ns, Bits bigN i) ∧ ∀ M', Q (.bl true) M'
theorem rds_ints (w : Vw) : ∀ ns : List Int, RDs w (ns.map .int) (ns.map V.int)
 | [] => RDs.nil w
 | _ :: r => RDs.cons (rd_int.mpr rfl) (rds_ints w r)
theorem law_walk {l : PySem.W.OpenLaw} {k : Nat} {q : Program} {loose : List Str} {XP : (Str → Option Value) → Heap → Prop} {YP : World → Heap → Prop} {d : DefRec} {K : Params → PySem.W.Frag} {x : Str} (hn : l.most = some 63) (hdf : d.params.defaults = []) (hr : Room k callerA)
  (hY : ∀ (w : World) (h : Heap), YP w h → (K w.params).In h)
  (F : ∀ (w : World) (mg : Str → Option Value) (fa : Addr) (h : Heap), (K w.params).In h → h.Ns mainGlobals mg → mg d.name = some (.ref fa) →
   ∃ fd : FuncData, (∀ (s : Shared) (u : Value), BindsTo s fd ⟨[u], []⟩ [(x, u)]) ∧ ∀ base : Heap, (K w.params).In base → base.Ns mainGlobals mg → FnOk l.prog w (K w.params) mg base (CX1 l.prog w) k fa fd [x] (spF (K w.params) spLaw)) :
  PySem.W.WalkO q loose XP YP l.row.toRowW d [] (fun f vs => PySem.call f vs) := by
 refine walk_B (n := 63) (k := k) (x := x) (CX := fun w => CX1 l.prog w) (sp := fun w => spF (K w.params) spLaw) hn (by decide) hdf hr hY F (fun w H a ns hl hb hO hS => ?_) fun w H s e s' h => ?_
 ·have hF : SqF (K w.params) H a (ns.map V.int) := by
   rcases hS with (h | ⟨o, h⟩) | h
   ·rcases hO a with z | ⟨o, xs, z⟩
    ·rw [z] at h; cases h
    ·rw [z] at h; cases h
   ·exact .inl ⟨o, h⟩
   ·exact .inr (.inr h)
  refine ⟨⟨K w.params, H, fun _ => a, 1⟩, [.ref 0], [.frz (ns.map .int)], fun d _ => d = .bl true, noX, rfl, rfl, ⟨rfl, fun i j ci cj ei ej mi mj _ => ?_, fun i c' e => ?_⟩, RDs.cons (rd_ref.mpr ⟨Nat.one_pos, rfl⟩) (RDs.nil _), ⟨ns, rfl, rfl, hl, hb, fun _ => rfl⟩, fun v w' d M' _ _ rd e => ?_, fun cls dd H' h => ?_⟩
  ·have h1 := (List.getElem?_eq_some_iff.mp ei).1
   have h2 := (List.getElem?_eq_some_iff.mp ej).1
   simp at h1 h2
   omega
  ·have h1 := (List.getElem?_eq_some_iff.mp e).1
   have hi : i = 0 := by simp at h1; exact h1
   subst hi
   simp at e
   subst e
   exact ⟨_, hF, rds_ints _ ns⟩
  ·subst e
   exact rd_bl.mp rd
  ·obtain ⟨_, _, _, _, _, _, _, _, _, _, _, _, _, h⟩ := h
   exact h.elim
 ·obtain ⟨_, _, _, _, _, _, _, _, _, _, _, _, _, _, _, h⟩ := h
  exact h.elim
def bot : DSp := fun _ _ _ _ => False
def Ent (K : PySem.W.Frag) (mg : Str → Option Value) (x : Str) : Prop := ∃ (f : Addr) (fd : FuncData) (ps : List Str), mg x = some (.ref f) ∧ PySem.W.keepIn K (.ref f) = true ∧ Binds K fd ps []
section
variable {P : Program} {w : World} {K : PySem.W.Frag} {mg : Str → Option Value} {base : Heap} {Γ : List DSp} {G : List D} {FN GN BN : List Str} {lv : Nat}
theorem Prg.zero (hF : ∀ x ∈ FN, Ent K mg x) (hl : FN.length = Γ.length) (hb : ∀ sp ∈ Γ, sp = bot) (hg : ∀ (g : Nat) (x : Str) (d : D), GN[g]? = some x → G[g]? = some d → ∃ v u, mg x = some u ∧ RelV v u ∧ ∀ w : Vw, w.K = K → RD w d v) (hB : ∀ x ∈ BN, mg x = none) :
  Prg P w K mg base ⟨K, Γ, G⟩ FN GN BN 0 where
 hK := rfl
 fns := fun f x sp h1 h2 => by
  obtain ⟨fa, fd, ps, e1, e2, e3⟩ := hF x (List.mem_of_getElem? h1)
  have hs : sp = bot := hb sp (List.mem_of_getElem? h2)
  subst hs
  have no : ∀ vs H Q E, ¬ spF K bot vs H Q E := fun vs H Q E ⟨_, _, _, _, _, _, _, _, _, h, _⟩ => h
  exact ⟨0, fa, fd, ps, [], [], [], bot, ⟨fun vs H Q E h => absurd h (no vs H Q E), fun A outer s H args us vs Q E _ _ _ _ h => absurd h (no vs H Q E)⟩, Nat.le_refl _, e1, e2, e3, .nil, fun w _ => RDs.nil w, fun _ _ _ _ h => h.elim⟩
 flen := hl
 glb := hg
 blt := hB
theorem Prg.add (Pr : Prg P w K mg base ⟨K, Γ, G⟩ FN GN BN lv) (n : Nat) {x : Str} {sp : DSp} {kk lv' : Nat} {f : Addr} {fd : FuncData} {ps : List Str} (hx : FN[n]? = some x) (F : FnOk P w K mg base (CX1 P w) kk f fd ps (spF K sp)) (h1 : kk ≤ lv') (h2 : lv ≤ lv') (hm : mg x = some (.ref f)) (hk : PySem.W.keepIn K (.ref f) = true) (hb : Binds K fd ps []) :
  Prg P w K mg base ⟨K, Γ.set n sp, G⟩ FN GN BN lv' where
 hK := rfl
 fns := fun m y sp' e1 e2 => by
  by_cases hmn : n = m
  ·subst hmn
   rw [hx] at e1
   cases e1
   have hl : n < Γ.length := by rw [← Pr.flen]; exact (List.getElem?_eq_some_iff.mp hx).1
   have e2 : (Γ.set n sp)[n]? = some sp' := e2
   rw [List.getElem?_set_self hl] at e2
   cases e2
   exact ⟨kk, f, fd, ps, [], [], [], sp, F, h1, hm, hk, hb, .nil, fun w _ => RDs.nil w, fun as M Q Z h => by rw [List.append_nil]; exact h⟩
  ·have e2 : (Γ.set n sp)[m]? = some sp' := e2
   rw [List.getElem?_set_ne hmn] at e2
   obtain ⟨kk, f, fd, ps, ds, dvs, dD, sp0, F, hk, h⟩ := Pr.fns m y sp' e1 e2
   exact ⟨kk, f, fd, ps, ds, dvs, dD, sp0, F, Nat.le_trans hk h2, h⟩
 flen := by rw [Pr.flen]; simp
 glb := Pr.glb
 blt := Pr.blt
end
theorem readL_app {M N : Store} {a : Nat} {xs : List D} (h : readL M a = some xs) : readL (M ++ N) a = some xs := by
 unfold readL at *
 have ha : a < M.length := by
  cases e : M[a]? with
  | none => rw [e] at h; cases h
  | some c => exact (List.getElem?_eq_some_iff.mp e).1
 rw [List.getElem?_append_left ha]; exact h
theorem readW_app {M N : Store} {a : Nat} {xs : List D} (h : readW M a = some xs) : readW (M ++ N) a = some xs := by
 unfold readW at *
 have ha : a < M.length := by
  cases e : M[a]? with
  | none => rw [e] at h; cases h
  | some c => exact (List.getElem?_eq_some_iff.mp e).1
 rw [List.getElem?_append_left ha]; exact h
theorem readD_app {M N : Store} {a : Nat} {xs : List (Key × D)} (h : readD M a = some xs) : readD (M ++ N) a = some xs := by
 unfold readD at *
 have ha : a < M.length := by
  cases e : M[a]? with
  | none => rw [e] at h; cases h
  | some c => exact (List.getElem?_eq_some_iff.mp e).1
 rw [List.getElem?_append_left ha]; exact h
theorem at_end (M : Store) (c : Cell) (N : Store) : (M ++ c :: N)[M.length]? = some c := by simp
theorem at_endk (M N : Store) (k : Nat) : (M ++ N)[M.length + k]? = N[k]? := by rw [List.getElem?_append_right (by omega)]; congr 1; omega
theorem readL_end (M : Store) (xs : List D) (N : Store) : readL (M ++ .lst xs :: N) M.length = some xs := by unfold readL; rw [at_end]
theorem readW_end (M : Store) (xs : List D) (N : Store) : readW (M ++ .lst xs :: N) M.length = some xs := by unfold readW; rw [at_end]
theorem readD_end (M : Store) (xs : List (Key × D)) (N : Store) : readD (M ++ .dct xs :: N) M.length = some xs := by unfold readD; rw [at_end]
theorem readL_endk (M N : Store) (k : Nat) : readL (M ++ N) (M.length + k) = readL N k := by unfold readL; rw [at_endk]
theorem readW_endk (M N : Store) (k : Nat) : readW (M ++ N) (M.length + k) = readW N k := by unfold readW; rw [at_endk]
theorem readD_endk (M N : Store) (k : Nat) : readD (M ++ N) (M.length + k) = readD N k := by unfold readD; rw [at_endk]
theorem set_end (M : Store) (c d : Cell) (N : Store) : (M ++ c :: N).set M.length d = M ++ d :: N := by
 rw [List.set_append_right _ _ (Nat.le_refl _)]; simp
theorem set_endk (M N : Store) (k : Nat) (d : Cell) : (M ++ N).set (M.length + k) d = M ++ N.set k d := by
 rw [List.set_append_right _ _ (by omega)]; congr 2; omega
theorem readW_readL {M : Store} {n : Nat} {xs : List D} (h : readW M n = some xs) : readL M n = some xs := readW_L h
theorem readW_set_ne {M : Store} {a b : Nat} {c : Cell} (h : b ≠ a) : readW (M.set b c) a = readW M a := by unfold readW; rw [List.getElem?_set_ne h]
theorem readD_set_ne {M : Store} {a b : Nat} {c : Cell} (h : b ≠ a) : readD (M.set b c) a = readD M a := by unfold readD; rw [List.getElem?_set_ne h]
theorem read_lt {M : Store} {n : Nat} {xs : List D} (h : readL M n = some xs) : n < M.length := by
 unfold readL at h
 cases e : M[n]? with
 | none => rw [e] at h; cases h
 | some c => exact (List.getElem?_eq_some_iff.mp e).1
theorem readD_lt {M : Store} {n : Nat} {xs : List (Key × D)} (h : readD M n = some xs) : n < M.length := by
 unfold readD at h
 cases e : M[n]? with
 | none => rw [e] at h; cases h
 | some c => exact (List.getElem?_eq_some_iff.mp e).1
theorem intsD_get {lo : Int} {n i : Nat} (h : i < n) : (intsD lo n)[i]? = some (.int (lo + i)) := by
 unfold intsD; rw [List.getElem?_map, List.getElem?_range h]; rfl
theorem intsD_length (lo : Int) (n : Nat) : (intsD lo n).length = n := by unfold intsD; simp
theorem forD_by {own : Own} {xs : List D} {tg : List Nat} {body : DS} {R : DEnds} {σ : DEnv} {M : Store} (I : Nat → DEnv → Store → Prop) (h0 : I 0 σ M) (hs : ∀ i σ M, i ≤ xs.length → I i σ M → still own xs M)
  (step : ∀ (i : Nat) (d : D) σ M (C : DEnv → Store → Prop), xs[i]? = some d → I i σ M → (∀ σ2 M2, I (i + 1) σ2 M2 → C σ2 M2) → tgD tg d σ fun σ' => body { nx := C, rt := R.rt, bk := R.nx, ct := C } σ' M)
  (fin : ∀ σ M, I xs.length σ M → R.nx σ M) : forD own xs tg body xs R σ M := by
 have key : ∀ (j : Nat) σ M, j ≤ xs.length → I (xs.length - j) σ M → forD own xs tg body (xs.drop (xs.length - j)) R σ M := by
  intro j
  induction j with
  | zero =>
   intro σ M _ h
   rw [Nat.sub_zero] at h ⊢
   rw [List.drop_length]
   exact ⟨hs _ σ M (Nat.le_refl _) h, fin σ M h⟩
  | succ j ih =>
   intro σ M hj h
   have hi : xs.length - (j + 1) < xs.length := by omega
   have e : xs.length - (j + 1) + 1 = xs.length - j := by omega
   rw [List.drop_eq_getElem_cons hi]
   refine ⟨hs _ σ M (by omega) h, step _ _ σ M _ (List.getElem?_eq_getElem hi) h fun σ2 M2 h2 => ?_⟩
   rw [e] at h2 ⊢
   exact ih σ2 M2 (by omega) h2
 have := key xs.length σ M (Nat.le_refl _) (by rw [Nat.sub_self]; exact h0)
 rw [Nat.sub_self] at this
 exact this
theorem forD_rng {lo : Int} {n : Nat} {tg : List Nat} {body : DS} {R : DEnds} {σ : DEnv} {M : Store} (I : Nat → DEnv → Store → Prop) (h0 : I 0 σ M)
  (step : ∀ (i : Nat) σ M (C : DEnv → Store → Prop), i < n → I i σ M → (∀ σ2 M2, I (i + 1) σ2 M2 → C σ2 M2) → tgD tg (.int (lo + i)) σ fun σ' => body { nx := C, rt := R.rt, bk := R.nx, ct := C } σ' M)
  (fin : ∀ σ M, I n σ M → R.nx σ M) : forD .no (intsD lo n) tg body (intsD lo n) R σ M := by
 refine forD_by I h0 (fun _ _ _ _ _ => trivial) (fun i d σ M C hd hI hC => ?_) (fun σ M h => fin σ M (by rw [intsD_length] at h; exact h))
 have hi : i < n := by
  have := (List.getElem?_eq_some_iff.mp hd).1
  rwa [intsD_length] at this
 rw [intsD_get hi] at hd
 cases hd
 exact step i σ M C hi hI hC
theorem compD_by {own : Own} {xs : List D} {tg : List Nat} {cd : DT} {el : DE} {z : Nat} {Q : Store → Prop} {σ : DEnv} {M : Store} (I : Nat → DEnv → Store → Prop) (h0 : I 0 σ M) (hs : ∀ i σ M, i ≤ xs.length → I i σ M → still own xs M)
  (step : ∀ (i : Nat) (d : D) σ M (C : DEnv → Store → Prop), xs[i]? = some d → I i σ M → (∀ σ2 M2, I (i + 1) σ2 M2 → C σ2 M2) → tgD tg d σ fun σ' => cd σ' M fun b M1 => if b = true then
   el σ' M1 fun y M2 => ∃ acc, readW M2 z = some acc ∧ acc.length < sizeLine ∧ C σ' (M2.set z (.lst (acc ++ [y]))) else C σ' M1)
  (fin : ∀ σ M, I xs.length σ M → Q M) : compD own xs tg cd el z xs σ M Q := by
 have key : ∀ (j : Nat) σ M, j ≤ xs.length → I (xs.length - j) σ M → compD own xs tg cd el z (xs.drop (xs.length - j)) σ M Q := by
  intro j
  induction j with
  | zero =>
   intro σ M _ h
   rw [Nat.sub_zero] at h ⊢
   rw [List.drop_length]
   exact ⟨hs _ σ M (Nat.le_refl _) h, fin σ M h⟩
  | succ j ih =>
   intro σ M hj h
   have hi : xs.length - (j + 1) < xs.length := by omega
   have e : xs.length - (j + 1) + 1 = xs.length - j := by omega
   rw [List.drop_eq_getElem_cons hi]
   refine ⟨hs _ σ M (by omega) h, step _ _ σ M (fun σ2 M2 => compD own xs tg cd el z (xs.drop (xs.length - (j + 1) + 1)) σ2 M2 Q) (List.getElem?_eq_getElem hi) h fun σ2 M2 h2 => ?_⟩
   rw [e] at h2 ⊢
   exact ih σ2 M2 (by omega) h2
 have := key xs.length σ M (Nat.le_refl _) (by rw [Nat.sub_self]; exact h0)
 rw [Nat.sub_self] at this
 exact this
theorem mulR {i j : Int} (h1 : -(2 ^ 64) < j) (h2 : j < 2 ^ 64) : IntMulOk i j := CMul.ok (.inr ⟨h1, h2⟩)
theorem mulL {i j : Int} (h1 : -(2 ^ 64) < i) (h2 : i < 2 ^ 64) : IntMulOk i j := CMul.ok (.inl ⟨h1, h2⟩)
theorem cdiv_lit {i j : Int} (h1 : 0 < j) (h2 : j < 2 ^ 64) : CDivB i j := by
 refine ⟨by omega, ?_⟩
 have h3 : j.natAbs < 2 ^ 64 := by omega
 exact Nat.lt_trans (log2_lt_of h3 (by decide)) (by decide)
theorem cpow_ok {i j : Int} (h : 0 ≤ j ∧ j ≤ 1000000 ∧ i.natAbs < 2 ^ 64) : CPow i j := h
theorem sizeLine_ge {n : Nat} (h : n ≤ 16000000) : n ≤ sizeLine := by rw [sizeLine_eq]; omega
theorem sizeLine_gt {n : Nat} (h : n ≤ 16000000) : n < sizeLine := by rw [sizeLine_eq]; omega
section
variable {M : Store} {Q : DK} {B : Bool → Prop} {i j : Int} {a b : Str} {p q : Bool} {xs ys : List D} {n m : Nat} {K : PySem.W.Frag}
theorem op_add_i : opD .add (.int i) (.int j) M Q = Q (.int (i + j)) M := rfl
theorem op_add_s : opD .add (.str a) (.str b) M Q = (a.length + b.length ≤ sizeLine ∧ Q (.str (a ++ b)) M) := rfl
theorem op_add_t : opD .add (.tup xs) (.tup ys) M Q = (xs ≠ [] ∧ xs.length + ys.length ≤ sizeLine ∧ Q (.tup (xs ++ ys)) M) := rfl
theorem op_add_l : opD .add (.ref n) (.ref m) M Q = ∃ xs ys, readW M n = some xs ∧ readW M m = some ys ∧ xs.length + ys.length ≤ sizeLine ∧ Q (.ref M.length) (M ++ [.lst (xs ++ ys)]) := rfl
theorem op_sub_i : opD .sub (.int i) (.int j) M Q = Q (.int (i - j)) M := rfl
theorem op_mul_i : opD .mul (.int i) (.int j) M Q = (IntMulOk i j ∧ Q (.int (i * j)) M) := rfl
theorem op_mul_l : opD .mul (.ref n) (.int i) M Q = ∃ xs, readW M n = some xs ∧ 0 ≤ i ∧ i < 2 ^ 62 ∧ xs.length * i.toNat ≤ sizeLine ∧ Q (.ref M.length) (M ++ [.lst (List.replicate i.toNat xs).flatten]) := rfl
theorem op_fdiv_i : opD .fdiv (.int i) (.int j) M Q = (CDivB i j ∧ Q (.int (qdiv i j)) M) := rfl
theorem op_mod_i : opD .mod (.int i) (.int j) M Q = (j ≠ 0 ∧ Q (.int (qmod i j)) M) := rfl
theorem op_pow_i : opD .pow (.int i) (.int j) M Q = (CPow i j ∧ Q (.int (i ^ j.toNat)) M) := rfl
theorem cm_lt_i : cmD M .lt (.int i) (.int j) B = B (decide (i < j)) := rfl
theorem cm_gt_i : cmD M .gt (.int i) (.int j) B = B (decide (j < i)) := rfl
theorem cm_ge_i : cmD M .ge (.int i) (.int j) B = B (decide (j ≤ i)) := rfl
theorem cm_eq {x y : D} : cmD M .eq x y B = eqD M x y B := rfl
theorem cm_ne {x y : D} : cmD M .ne x y B = eqD M x y fun b => B (!b) := rfl
theorem cm_in {x y : D} : cmD M .isin x y B = inQ M x y B := rfl
theorem cm_notin {x y : D} : cmD M .notin x y B = inQ M x y fun b => B (!b) := rfl
theorem cm_is_n : cmD M .is .non .non B = B true := rfl
theorem cm_is_i : cmD M .is (.int i) .non B = B false := rfl
theorem cm_is_s : cmD M .is (.str a) .non B = B false := rfl
theorem cm_is_b : cmD M .is (.bl p) .non B = B false := rfl
theorem cm_is_t : cmD M .is (.tup xs) .non B = B false := rfl
theorem cm_is_r : cmD M .is (.ref n) .non B = B false := rfl
theorem eq_i : eqD M (.int i) (.int j) B = B (decide (i = j)) := rfl
theorem eq_s : eqD M (.str a) (.str b) B = B (decide (a = b)) := rfl
theorem eq_b : eqD M (.bl p) (.bl q) B = B (decide (p = q)) := rfl
theorem eq_nn : eqD M .non .non B = B true := rfl
theorem eq_is : eqD M (.int i) (.str b) B = B false := rfl
theorem eq_si : eqD M (.str b) (.int i) B = B false := rfl
theorem tru_b : truD M (.bl p) B = B p := rfl
theorem tru_i : truD M (.int i) B = B (i != 0) := rfl
theorem tru_n : truD M .non B = B false := rfl
theorem tru_t : truD M (.tup xs) B = B (!xs.isEmpty) := rfl
theorem ix_t {F : D → Prop} : ixD M (.tup xs) (.int i) F = ∃ d, atI xs i = some d ∧ F d := rfl
theorem ix_g {F : D → Prop} : ixD M (.gtup xs) (.int i) F = ∃ d, atI xs i = some d ∧ F d := rfl
theorem ix_s {F : D → Prop} : ixD M (.str a) (.int i) F = (a.length ≤ sizeLine ∧ ∃ c, atI a.cps.toList i = some c ∧ F (.str ⟨#[c]⟩)) := rfl
theorem ix_l {F : D → Prop} {k : Nat} (h : readL M n = some xs) {d : D} (hd : xs[k]? = some d) (hF : F d) : ixD M (.ref n) (.int k) F := .inl ⟨xs, k, d, rfl, h, atI_nat hd, hF⟩
theorem ix_d {F : D → Prop} {kvs : List (Key × D)} {k : D} {y : Key} (h : readD M n = some kvs) (hk : keyD k = some y) {d : D} (hd : valD kvs y = some d) (hF : F d) : ixD M (.ref n) k F := .inr ⟨kvs, y, d, readD_F h, hk, hd, hF⟩
theorem sl_s {lo hi : Option Int} : slD (.str a) lo hi M Q = (a.length ≤ sizeLine ∧ Q (.str (Txt.slice a lo hi)) M) := rfl
theorem sl_t {lo hi : Option Int} : slD (.tup xs) lo hi M Q = (¬ (HT.sIx xs.length 0 lo = 0 ∧ HT.sIx xs.length xs.length hi = xs.length) ∧ Q (.tup (cutD xs lo hi)) M) := rfl
theorem sl_l {lo hi : Option Int} : slD (.ref n) lo hi M Q = ∃ xs, readL M n = some xs ∧ Q (.ref M.length) (M ++ [.lst (cutD xs lo hi)]) := rfl
def tyNon : Ty → Bool := fun _ => false
def tyBl : Ty → Bool
 | .bool => true | .int => true | _ => false
def tyInt : Ty → Bool
 | .int => true | _ => false
def tyStr : Ty → Bool
 | .str => true | _ => false
def tyTup : Ty → Bool
 | .tuple => true | _ => false
def tyLst : Ty → Bool
 | .list => true | _ => false
def tyDct : Ty → Bool
 | .dict => true | _ => false
theorem isD_of {d : D} {t : Ty} {s : String} {v : Bool} (hd : ∀ e C dx r, d ≠ .exn e C dx r) (h1 : tyD M d = some s) (h2 : PySem.W.kitOne K (.type s) (.type (tyName t)) = some v) : isD K M d (.ty (tyName t)) B = B v := by
 have : isD K M d (.ty (tyName t)) B = ∃ t' b, tyD M d = some t' ∧ PySem.W.kitOne K (.type t') (.type (tyName t)) = some b ∧ B b := by
  cases d <;> first | rfl | exact absurd rfl (hd _ _ _ _)
 rw [this]
 apply propext
 constructor
 ·rintro ⟨t', b, e1, e2, h⟩
  rw [h1] at e1
  cases e1
  rw [h2] at e2
  cases e2
  exact h
 ·intro h; exact ⟨s, v, h1, h2, h⟩
theorem is_non {t : Ty} : isD K M .non (.ty (tyName t)) B = B (tyNon t) := isD_of (fun _ _ _ _ h => nomatch h) rfl (by cases t <;> rfl)
theorem is_bl {t : Ty} : isD K M (.bl p) (.ty (tyName t)) B = B (tyBl t) := isD_of (fun _ _ _ _ h => nomatch h) rfl (by cases t <;> rfl)
theorem is_int {t : Ty} : isD K M (.int i) (.ty (tyName t)) B = B (tyInt t) := isD_of (fun _ _ _ _ h => nomatch h) rfl (by cases t <;> rfl)
theorem is_str {t : Ty} : isD K M (.str a) (.ty (tyName t)) B = B (tyStr t) := isD_of (fun _ _ _ _ h => nomatch h) rfl (by cases t <;> rfl)
theorem is_tup {t : Ty} : isD K M (.tup xs) (.ty (tyName t)) B = B (tyTup t) := isD_of (fun _ _ _ _ h => nomatch h) rfl (by cases t <;> rfl)
theorem is_lst {t : Ty} (h : readW M n = some xs) : isD K M (.ref n) (.ty (tyName t)) B = B (tyLst t) := isD_of (s := "list") (fun _ _ _ _ h => nomatch h) (by simp only [tyD, readW_at h]) (by cases t <;> rfl)
theorem bf_len_r : bfD K .len [.ref n] M Q = ((∃ xs, readL M n = some xs ∧ Q (.int xs.length) M) ∨ (∃ xs, readD M n = some xs ∧ Q (.int xs.length) M)) := rfl
theorem bf_len_l (h : readL M n = some xs) (hq : Q (.int xs.length) M) : bfD K .len [.ref n] M Q := .inl ⟨xs, h, hq⟩
theorem bf_len_t : bfD K .len [.tup xs] M Q = Q (.int xs.length) M := rfl
theorem bf_len_s : bfD K .len [.str a] M Q = (a.length ≤ sizeLine ∧ Q (.int a.length) M) := rfl
theorem bf_is {d c : D} : bfD K .isinst [d, c] M Q = isD K M d c fun b => Q (.bl b) M := rfl
theorem bf_min : bfD K .min2 [.int i, .int j] M Q = Q (.int (if j < i then j else i)) M := rfl
theorem bf_max : bfD K .max2 [.int i, .int j] M Q = Q (.int (if j > i then j else i)) M := rfl
theorem bf_list {d : D} : bfD K .list1 [d] M Q = ∃ xs, itemsD M d = some xs ∧ Q (.ref M.length) (M ++ [.lst xs]) := rfl
theorem bf_tuple : bfD K .tuple1 [.ref n] M Q = ∃ xs, readL M n = some xs ∧ Q (.tup xs) M := rfl
theorem bf_dict : bfD K .dict1 [.ref n] M Q = ((∃ xs, readD M n = some xs ∧ Q (.ref M.length) (M ++ [.dct xs])) ∨ (∃ ps : List (Key × D), readL M n = some (pairD ps) ∧ ps.length < sizeLine ∧ Q (.ref M.length) (M ++ [.dct (foldD ps)]))) := rfl
theorem at2_xy {x y : D} {F : D → D → Prop} : at2 [x, y] F = F x y := rfl
theorem on_tup {F : List D → Prop} : onTup (.tup xs) F = F xs := rfl
theorem on_ref {F : Nat → Prop} : onRef (.ref n) F = F n := rfl
theorem set_f : setD false n M Q = ∃ ks : List Key, readL M n = some (ks.map kD) ∧ ks.length + 1 < scanBound ∧ ∀ ks' : List Key, ks'.Nodup → (∀ k, k ∈ ks' ↔ k ∈ ks) → Q (.int ks'.length) M := rfl
theorem mt_append_r {d : D} : mtD .append (.ref n) [d] M Q = ∃ xs, readW M n = some xs ∧ xs.length < sizeLine ∧ Q .non (M.set n (.lst (xs ++ [d]))) := rfl
theorem mt_get2_r {k z : D} : mtD .get2 (.ref n) [k, z] M Q = ∃ kvs y, readD M n = some kvs ∧ keyD k = some y ∧ Q ((valD kvs y).getD z) M := rfl
theorem mt_pop_r : mtD .pop0 (.ref n) [] M Q = ∃ xs d, readW M n = some xs ∧ xs[xs.length - 1]? = some d ∧ Q d (M.set n (.lst xs.dropLast)) := rfl
theorem mt_reverse_r : mtD .reverse (.ref n) [] M Q = ∃ xs, readW M n = some xs ∧ Q .non (M.set n (.lst xs.reverse)) := rfl
theorem mt_index_r {d : D} : mtD .index1 (.ref n) [d] M Q = ∃ xs k z, readL M n = some xs ∧ flatD d = true ∧ xs.all flatD = true ∧ xs[k]? = some z ∧ eqF z d = true ∧ (∀ (j : Nat) u, j < k → xs[j]? = some u → eqF u d = false) ∧ Q (.int k) M := rfl
theorem mk_index : mtK .index1 (.ref n) M = ((readL M n).isSome = true) := rfl
theorem bf_min1 : bfD K .min1 [.ref n] M Q = ∃ ns : List Int, readL M n = some (ns.map .int) ∧ 0 < ns.length ∧ ∀ m, m ∈ ns → (∀ b, b ∈ ns → m ≤ b) → Q (.int m) M := rfl
theorem mk_append : mtK .append (.ref n) M = ((readL M n).isSome = true) := rfl
theorem mk_pop : mtK .pop0 (.ref n) M = ((readL M n).isSome = true) := rfl
theorem mk_reverse : mtK .reverse (.ref n) M = ((readL M n).isSome = true) := rfl
theorem mk_get2 : mtK .get2 (.ref n) M = ((readD M n).isSome = true) := rfl
theorem tg_one {k : Nat} {d : D} {σ : DEnv} {F : DEnv → Prop} : tgD [k] d σ F = F (σ.set k (some d)) := by cases d <;> rfl
theorem tg_two {k l : Nat} {d e : D} {σ : DEnv} {F : DEnv → Prop} : tgD [k, l] (.tup [d, e]) σ F = F ((σ.set k (some d)).set l (some e)) := by
 show ([d, e].length = [k, l].length ∧ F _) = _
 simp
theorem it_r {R : Own → List D → Prop} : itD M (.ref n) R = ∃ xs, readL M n = some xs ∧ R (.lst n) xs := rfl
theorem it_t {R : Own → List D → Prop} : itD M (.tup xs) R = R .no xs := rfl
theorem it_g {R : Own → List D → Prop} : itD M (.gtup xs) R = R .no xs := rfl
theorem key_i : keyD (.int i) = some (.inl i) := rfl
theorem key_s : keyD (.str a) = some (.inr a) := rfl
theorem in_ss : inQ M (.str a) (.str b) B = B (!(Builtin.Str.occurrences b a 0 b.length 1).isEmpty) := rfl
end
theorem isSome_of {α : Type} {o : Option α} {x : α} (h : o = some x) : o.isSome = true := by rw [h]; rfl
theorem Prg.up {P : Program} {w : World} {K : PySem.W.Frag} {mg : Str → Option Value} {base : Heap} {c : Cfg} {FN GN BN : List Str} {lv lv' : Nat} (Pr : Prg P w K mg base c FN GN BN lv) (h : lv ≤ lv') : Prg P w K mg base c FN GN BN lv' where
 hK := Pr.hK
 fns := fun m y sp e1 e2 => by
  obtain ⟨kk, f, fd, ps, ds, dvs, dD, sp0, F, hk, r⟩ := Pr.fns m y sp e1 e2
  exact ⟨kk, f, fd, ps, ds, dvs, dD, sp0, F, Nat.le_trans hk h, r⟩
 flen := Pr.flen
 glb := Pr.glb
 blt := Pr.blt
def Rest (c : Cfg) (X : DX) (r : Ss) (R : DEnds) (σ : DEnv) (M : Store) : Prop := tss c X r R σ M
theorem tss_nil {c : Cfg} {X : DX} {R : DEnds} {σ : DEnv} {M : Store} : tss c X .nil R σ M = R.nx σ M := rfl
theorem tss_cons {c : Cfg} {X : DX} {s : S} {r : Ss} {R : DEnds} {σ : DEnv} {M : Store} : tss c X (.cons s r) R σ M = ts c X s { R with nx := fun σ' M' => Rest c X r R σ' M' } σ M := rfl
theorem rest_of {c : Cfg} {X : DX} {r : Ss} {R : DEnds} {σ : DEnv} {M : Store} (h : tss c X r R σ M) : Rest c X r R σ M := h
theorem ofLen0 {α : Type} {P : List α → Prop} (h : P []) (l : List α) (e : l.length = 0) : P l := by
 cases l with
 | nil => exact h
 | cons _ _ => cases e
theorem ofLenS {α : Type} {n : Nat} {P : List α → Prop} (h : ∀ a l, l.length = n → P (a :: l)) (l : List α) (e : l.length = n + 1) : P l := by
 cases l with
 | nil => cases e
 | cons a r => exact h a r (Nat.succ.inj e)
theorem ofLen1 {α : Type} {P : List α → Prop} (h : ∀ a, P [a]) : ∀ l : List α, l.length = 1 → P l := ofLenS fun a => ofLen0 (h a)
theorem ofLen2 {α : Type} {P : List α → Prop} (h : ∀ a b, P [a, b]) : ∀ l : List α, l.length = 2 → P l := ofLenS fun a => ofLen1 (P := fun l => P (a :: l)) (h a)
theorem ofLen3 {α : Type} {P : List α → Prop} (h : ∀ a b c, P [a, b, c]) : ∀ l : List α, l.length = 3 → P l := ofLenS fun a => ofLen2 (P := fun l => P (a :: l)) (h a)
theorem ofLen4 {α : Type} {P : List α → Prop} (h : ∀ a b c d, P [a, b, c, d]) : ∀ l : List α, l.length = 4 → P l := ofLenS fun a => ofLen3 (P := fun l => P (a :: l)) (h a)
theorem all_nil {α : Type} {P : α → Prop} : ∀ x ∈ ([] : List α), P x := fun _ h => absurd h List.not_mem_nil
theorem all_cons {α : Type} {P : α → Prop} {a : α} {l : List α} (h : P a) (t : ∀ x ∈ l, P x) : ∀ x ∈ a :: l, P x := fun x hx => (List.mem_cons.mp hx).elim (fun e => e ▸ h) (t x)
end U
namespace GT
inductive Av (g : Nat → List Nat) (a : Nat) : Nat → Prop
 | zero : a ≠ 0 → Av g a 0
 | step {x y : Nat} : Av g a x → y ∈ g x → y ≠ a → Av g a y
structure Num (g : Nat → List Nat) (n : Nat) : Prop where
 pos : 0 < n
 cl : ∀ x, x < n → ∀ y ∈ g x, y < n
 up : ∀ k, k < n → k ≠ 0 → ∃ p, p < k ∧ k ∈ g p
structure Must (g : Nat → List Nat) (k m : Nat) : Prop where
 ne : m ≠ k
 dom : ¬ Av g m k
 last : ∀ d, d ≠ k → ¬ Av g d k → d ≤ m
structure Wk (g : Nat → List Nat) (n : Nat) (B : List Nat) (T : List (Nat × Nat)) (F : List Nat) : Prop where
 bn : B.Nodup
 bl : ∀ x ∈ B, x < n
 z : 0 ∈ B
 mem : ∀ x, x ∈ B ↔ (∃ s, (x, s) ∈ T) ∨ x ∈ F
 nd : (T.map (·.1) ++ F).Nodup
 first : ∀ p, T[0]? = some p → p.1 = 0
 chain : ∀ (i : Nat) p q, T[i]? = some p → T[i + 1]? = some q → q.1 ∈ g p.1
 steps : ∀ a s, (a, s) ∈ T → s ≤ (g a).length ∧ ∀ j y, j < s → (g a)[j]? = some y → y ∈ B
 fin : ∀ d ∈ F, ∀ y ∈ g d, y ∈ B
 par : ∀ (i : Nat) x, F[i]? = some x → x ≠ 0 → ∃ p, x ∈ g p ∧ p ∈ B ∧ p ∉ F.take (i + 1)
theorem get_last {α : Type} (T : List α) (p : α) : (T ++ [p])[T.length]? = some p := by simp
theorem get_init {α : Type} {T : List α} {p q : α} {i : Nat} (h : T[i]? = some q) : (T ++ [p])[i]? = some q := by
 rw [List.getElem?_append_left (List.getElem?_eq_some_iff.mp h).1]; exact h
theorem get_snoc {α : Type} {T : List α} {p q : α} {i : Nat} (h : (T ++ [p])[i]? = some q) : T[i]? = some q ∨ (i = T.length ∧ q = p) := by
 by_cases hi : i < T.length
 ·rw [List.getElem?_append_left hi] at h; exact .inl h
 ·rw [List.getElem?_append_right (by omega)] at h
  have h' := (List.getElem?_eq_some_iff.mp h).1
  simp at h'
  have e : i - T.length = 0 := by omega
  rw [e] at h
  simp at h
  exact .inr ⟨by omega, h.symm⟩
theorem Wk.open {g : Nat → List Nat} {n a s y : Nat} {B F : List Nat} {T : List (Nat × Nat)} (w : Wk g n B (T ++ [(a, s)]) F) (hy : (g a)[s]? = some y) (hn : y < n) (hb : y ∉ B) : Wk g n (B ++ [y]) (T ++ [(a, s + 1), (y, 0)]) F where
 bn := by
  rw [List.nodup_append]
  refine ⟨w.bn, by simp, fun x hx z hz => ?_⟩
  simp at hz
  subst hz
  exact fun e => hb (e ▸ hx)
 bl := by
  intro x hx
  rcases List.mem_append.mp hx with h | h
  ·exact w.bl x h
  ·simp at h; omega
 z := List.mem_append_left _ w.z
 mem := by
  intro x
  rw [List.mem_append, w.mem x]
  simp only [List.mem_append, List.mem_singleton, List.mem_cons, Prod.mk.injEq, List.not_mem_nil, or_false]
  constructor
  ·rintro ((⟨s', h | ⟨rfl, rfl⟩⟩ | h) | rfl)
   ·exact .inl ⟨s', .inl h⟩
   ·exact .inl ⟨s' + 1, .inr (.inl ⟨rfl, rfl⟩)⟩
   ·exact .inr h
   ·exact .inl ⟨0, .inr (.inr ⟨rfl, rfl⟩)⟩
  ·rintro (⟨s', h | ⟨rfl, rfl⟩ | ⟨rfl, rfl⟩⟩ | h)
   ·exact .inl (.inl ⟨s', .inl h⟩)
   ·exact .inl (.inl ⟨s, .inr ⟨rfl, rfl⟩⟩)
   ·exact .inr rfl
   ·exact .inl (.inr h)
 nd := by
  have h1 := w.nd
  have h2 : y ∉ (T ++ [(a, s)]).map (·.1) ++ F := by
   intro h
   apply hb
   rw [w.mem y]
   rcases List.mem_append.mp h with h | h
   ·obtain ⟨⟨b, t⟩, hp, e⟩ := List.mem_map.mp h
    simp at e
    subst e
    exact .inl ⟨t, hp⟩
   ·exact .inr h
  have p : ((T ++ [(a, s + 1), (y, 0)]).map (·.1) ++ F).Perm (y :: ((T ++ [(a, s)]).map (·.1) ++ F)) := by
   simp only [List.map_append, List.map_cons, List.map_nil, List.append_assoc, List.cons_append, List.nil_append]
   have q := List.perm_middle (a := y) (l₁ := List.map (fun x => x.1) T ++ [a]) (l₂ := F)
   simpa only [List.append_assoc, List.cons_append, List.nil_append] using q
  exact p.nodup_iff.mpr (List.nodup_cons.mpr ⟨h2, h1⟩)
 first := by
  intro p h
  have : T ++ [(a, s + 1), (y, 0)] = (T ++ [(a, s + 1)]) ++ [(y, 0)] := by simp
  rw [this] at h
  rcases get_snoc h with h | ⟨e, rfl⟩
  ·rcases get_snoc h with h | ⟨e, rfl⟩
   ·exact w.first p (get_init h)
   ·exact w.first (a, s) (by rw [e]; exact get_last _ _)
  ·simp at e
 chain := by
  intro i p q h1 h2
  have : T ++ [(a, s + 1), (y, 0)] = (T ++ [(a, s + 1)]) ++ [(y, 0)] := by simp
  rw [this] at h1 h2
  rcases get_snoc h2 with h2 | ⟨e, rfl⟩
  ·rcases get_snoc h1 with h1 | ⟨e1, rfl⟩
   ·rcases get_snoc h2 with h2 | ⟨e, rfl⟩
    ·rcases get_snoc h1 with h1 | ⟨e1, rfl⟩
     ·exact w.chain i p q (get_init h1) (get_init h2)
     ·have := (List.getElem?_eq_some_iff.mp h2).1
      omega
    ·rcases get_snoc h1 with h1 | ⟨e1, rfl⟩
     ·exact w.chain i p (a, s) (get_init h1) (by rw [e]; exact get_last _ _)
     ·omega
   ·have := (List.getElem?_eq_some_iff.mp h2).1
    omega
  ·rcases get_snoc h1 with h1 | ⟨e1, rfl⟩
   ·rcases get_snoc h1 with h1 | ⟨e1, rfl⟩
    ·have := (List.getElem?_eq_some_iff.mp h1).1
     simp at e
     omega
    ·exact List.mem_of_getElem? hy
   ·omega
 steps := by
  intro b t h
  simp only [List.mem_append, List.mem_cons, List.not_mem_nil, or_false, Prod.mk.injEq] at h
  rcases h with h | ⟨rfl, rfl⟩ | ⟨rfl, rfl⟩
  ·obtain ⟨h1, h2⟩ := w.steps b t (List.mem_append_left _ h)
   exact ⟨h1, fun j z hj hz => List.mem_append_left _ (h2 j z hj hz)⟩
  ·obtain ⟨h1, h2⟩ := w.steps b s (by simp)
   refine ⟨(List.getElem?_eq_some_iff.mp hy).1, fun j z hj hz => ?_⟩
   by_cases e : j = s
   ·subst e; rw [hy] at hz; cases hz; simp
   ·exact List.mem_append_left _ (h2 j z (by omega) hz)
  ·exact ⟨Nat.zero_le _, fun j y h => by omega⟩
 fin := fun d h z hz => List.mem_append_left _ (w.fin d h z hz)
 par := by
  intro i x h hx
  obtain ⟨p, h1, h2, h3⟩ := w.par i x h hx
  exact ⟨p, h1, List.mem_append_left _ h2, h3⟩
theorem nodup_le : ∀ {n : Nat} {B : List Nat}, B.Nodup → (∀ x ∈ B, x < n) → B.length ≤ n := by
 intro n B h1 h2
 have : B.length ≤ (List.range n).length := List.Nodup.length_le_of_subset h1 (fun x hx => List.mem_range.mpr (h2 x hx))
 simpa using this
structure Ord (g : Nat → List Nat) (n : Nat) (O : List Nat) : Prop where
 nd : O.Nodup
 lt : ∀ x ∈ O, x < n
 z : O[0]? = some 0
 cl : ∀ x ∈ O, ∀ y ∈ g x, y ∈ O
 up : ∀ (k : Nat) x, O[k]? = some x → k ≠ 0 → ∃ (j : Nat) (p : Nat), j < k ∧ O[j]? = some p ∧ x ∈ g p
structure Fd (g : Nat → List Nat) (n a : Nat) (L : List Nat) (t : Nat) : Prop where
 nd : L.Nodup
 z : L[0]? = some 0
 av : ∀ x ∈ L, Av g a x
 done : ∀ (i : Nat) x, i < t → L[i]? = some x → ∀ y ∈ g x, y = a ∨ y ∈ L
 le : t ≤ L.length
theorem Fd.next {g : Nat → List Nat} {n a t x : Nat} {L : List Nat} (f : Fd g n a L t) (hx : L[t]? = some x) (h : ∀ y ∈ g x, y = a ∨ y ∈ L) : Fd g n a L (t + 1) where
 nd := f.nd
 z := f.z
 av := f.av
 done := by
  intro i u h1 h2 v hv
  by_cases e : i = t
  ·subst e; rw [hx] at h2; cases h2; exact h v hv
  ·exact f.done i u (by omega) h2 v hv
 le := (List.getElem?_eq_some_iff.mp hx).1
end GT
namespace ND
structure St where
 b : List Nat
 s : List (Nat × List Nat)
 d : List Nat
def stp (g : Nat → List Nat) : St → St
 | ⟨b, [], d⟩ => ⟨b, [], d⟩
 | ⟨b, (x, []) :: s, d⟩ => ⟨b, s, d ++ [x]⟩
 | ⟨b, (x, t :: r) :: s, d⟩ => if t ∈ b then ⟨b, (x, r) :: s, d⟩ else ⟨b ++ [t], (t, g t) :: (x, r) :: s, d⟩
def itr (g : Nat → List Nat) : Nat → St → St
 | 0, s => s
 | k + 1, s => stp g (itr g k s)
theorem itr_add {g : Nat → List Nat} (j : Nat) (s : St) : ∀ k, itr g (k + j) s = itr g k (itr g j s)
 | 0 => by rw [Nat.zero_add]; rfl
 | k + 1 => by rw [Nat.add_right_comm]; show stp g (itr g (k + j) s) = stp g (itr g k (itr g j s)); rw [itr_add j s k]
theorem stp_end {g : Nat → List Nat} {s : St} (h : s.s = []) : stp g s = s := by
 obtain ⟨b, s, d⟩ := s; cases h; rfl
theorem itr_end {g : Nat → List Nat} {s : St} (h : s.s = []) : ∀ k, itr g k s = s
 | 0 => rfl
 | k + 1 => by show stp g (itr g k s) = s; rw [itr_end h k, stp_end h]
def Ends (g : Nat → List Nat) (x : Nat) (d : List Nat) : Prop := ∃ k b, itr g k ⟨[x], [(x, g x)], []⟩ = ⟨b, [], d⟩
theorem Ends.uniq {g : Nat → List Nat} {x : Nat} {d e : List Nat} (h1 : Ends g x d) (h2 : Ends g x e) : d = e := by
 obtain ⟨k, b, h1⟩ := h1
 obtain ⟨j, c, h2⟩ := h2
 have a1 : itr g (j + k) ⟨[x], [(x, g x)], []⟩ = ⟨b, [], d⟩ := by rw [itr_add, h1, itr_end rfl]
 have a2 : itr g (k + j) ⟨[x], [(x, g x)], []⟩ = ⟨c, [], e⟩ := by rw [itr_add, h2, itr_end rfl]
 rw [Nat.add_comm, a1] at a2
 exact congrArg St.d a2
def mp (π : Nat → Nat) (s : St) : St := ⟨s.b.map π, s.s.map fun p => (π p.1, p.2.map π), s.d.map π⟩
structure In (S : Nat → Prop) (z : St) : Prop where
 b : ∀ x ∈ z.b, S x
 s : ∀ p ∈ z.s, S p.1 ∧ ∀ t ∈ p.2, S t
 d : ∀ x ∈ z.d, S x
theorem In.stp {g : Nat → List Nat} {S : Nat → Prop} (cl : ∀ x, S x → ∀ t ∈ g x, S t) {s : St} (h : In S s) : In S (stp g s) := by
 obtain ⟨b, s, d⟩ := s
 cases s with
 | nil => exact h
 | cons p s =>
  obtain ⟨x, r⟩ := p
  have hx := h.s (x, r) List.mem_cons_self
  cases r with
  | nil => exact ⟨h.b, fun p hp => h.s p (List.mem_cons_of_mem _ hp), fun y hy => (List.mem_append.mp hy).elim (h.d y) fun z => by rw [List.mem_singleton] at z; subst z; exact hx.1⟩
  | cons t r =>
   show In S (if t ∈ b then _ else _)
   split
   ·refine ⟨h.b, fun p hp => ?_, h.d⟩
    rcases List.mem_cons.mp hp with rfl | hp
    ·exact ⟨hx.1, fun u hu => hx.2 u (List.mem_cons_of_mem _ hu)⟩
    ·exact h.s p (List.mem_cons_of_mem _ hp)
   ·have ht := hx.2 t List.mem_cons_self
    refine ⟨fun y hy => (List.mem_append.mp hy).elim (h.b y) fun z => by rw [List.mem_singleton] at z; subst z; exact ht, fun p hp => ?_, h.d⟩
    rcases List.mem_cons.mp hp with rfl | hp
    ·exact ⟨ht, cl t ht⟩
    ·rcases List.mem_cons.mp hp with rfl | hp
     ·exact ⟨hx.1, fun u hu => hx.2 u (List.mem_cons_of_mem _ hu)⟩
     ·exact h.s p (List.mem_cons_of_mem _ hp)
theorem mp_stp {g g' : Nat → List Nat} {S : Nat → Prop} {π : Nat → Nat} (inj : ∀ x y, S x → S y → π x = π y → x = y) (hg : ∀ x, S x → g' (π x) = (g x).map π) {s : St} (h : In S s) : stp g' (mp π s) = mp π (stp g s) := by
 obtain ⟨b, s, d⟩ := s
 cases s with
 | nil => rfl
 | cons p s =>
  obtain ⟨x, r⟩ := p
  have hx := h.s (x, r) List.mem_cons_self
  cases r with
  | nil => show St.mk (b.map π) _ (d.map π ++ [π x]) = St.mk (b.map π) _ ((d ++ [x]).map π); rw [List.map_append]; rfl
  | cons t r =>
   have ht := hx.2 t List.mem_cons_self
   have e : π t ∈ b.map π ↔ t ∈ b := by
    constructor
    ·intro z
     obtain ⟨y, hy, e⟩ := List.mem_map.mp z
     rw [← inj y t (h.b y hy) ht e]; exact hy
    ·exact fun z => List.mem_map.mpr ⟨t, z, rfl⟩
   show (if π t ∈ b.map π then _ else _) = mp π (if t ∈ b then _ else _)
   by_cases hb : t ∈ b
   ·rw [if_pos (e.mpr hb), if_pos hb]; rfl
   ·rw [if_neg (fun z => hb (e.mp z)), if_neg hb]
    show St.mk (b.map π ++ [π t]) ((π t, g' (π t)) :: _) (d.map π) = St.mk ((b ++ [t]).map π) ((π t, (g t).map π) :: _) (d.map π)
    rw [List.map_append, hg t ht]; rfl
theorem mp_itr {g g' : Nat → List Nat} {S : Nat → Prop} {π : Nat → Nat} (cl : ∀ x, S x → ∀ t ∈ g x, S t) (inj : ∀ x y, S x → S y → π x = π y → x = y) (hg : ∀ x, S x → g' (π x) = (g x).map π) {s : St} (h : In S s) : ∀ k, itr g' k (mp π s) = mp π (itr g k s) ∧ In S (itr g k s)
 | 0 => ⟨rfl, h⟩
 | k + 1 => by
  obtain ⟨h1, h2⟩ := mp_itr cl inj hg h k
  exact ⟨by show stp g' (itr g' k (mp π s)) = mp π (stp g (itr g k s)); rw [h1, mp_stp inj hg h2], h2.stp cl⟩
theorem Ends.map {g g' : Nat → List Nat} {S : Nat → Prop} {π : Nat → Nat} {x : Nat} {d : List Nat} (cl : ∀ x, S x → ∀ t ∈ g x, S t) (inj : ∀ x y, S x → S y → π x = π y → x = y) (hg : ∀ x, S x → g' (π x) = (g x).map π) (hx : S x) (h : Ends g x d) : Ends g' (π x) (d.map π) := by
 obtain ⟨k, b, h⟩ := h
 have i0 : In S ⟨[x], [(x, g x)], []⟩ := ⟨fun y hy => by rw [List.mem_singleton] at hy; subst hy; exact hx, fun p hp => by rw [List.mem_singleton] at hp; subst hp; exact ⟨hx, cl x hx⟩, fun y hy => by simp at hy⟩
 have := (mp_itr cl inj hg i0 k).1
 rw [h] at this
 refine ⟨k, b.map π, ?_⟩
 rw [hg x hx]
 exact this
structure Ok (g : Nat → List Nat) (x : Nat) (s : St) : Prop where
 nb : s.b.Nodup
 nd : (s.s.map (·.1) ++ s.d).Nodup
 eq : ∀ y, y ∈ s.b ↔ y ∈ s.s.map (·.1) ∨ y ∈ s.d
 cl : ∀ y ∈ s.d, ∀ t ∈ g y, t ∈ s.b
 op : ∀ p ∈ s.s, (∀ t ∈ p.2, t ∈ g p.1) ∧ ∀ t ∈ g p.1, t ∈ p.2 ∨ t ∈ s.b
 bot : s.s.getLast?.map (·.1) = some x ∨ (s.s = [] ∧ s.d.getLast? = some x)
theorem Ok.begin (g : Nat → List Nat) (x : Nat) : Ok g x ⟨[x], [(x, g x)], []⟩ where
 nb := by simp
 nd := by simp
 eq := by simp
 cl := by simp
 op := by
  intro p hp
  rw [List.mem_singleton] at hp
  subst hp
  exact ⟨fun t h => h, fun t h => .inl h⟩
 bot := .inl rfl
theorem Ok.stp {g : Nat → List Nat} {x : Nat} {s : St} (h : Ok g x s) : Ok g x (stp g s) := by
 obtain ⟨b, s, d⟩ := s
 cases s with
 | nil => exact h
 | cons p s =>
  obtain ⟨y, r⟩ := p
  obtain ⟨h1, h2, h3, h4, h5, h6⟩ := h
  simp only [List.map_cons] at h2 h3 h4 h5 h6
  cases r with
  | nil =>
   show Ok g x ⟨b, s, d ++ [y]⟩
   refine ⟨h1, ?_, fun z => ?_, fun z hz t ht => ?_, fun p hp => h5 p (List.mem_cons_of_mem _ hp), ?_⟩
   ·show (s.map (·.1) ++ (d ++ [y])).Nodup
    rw [← List.append_assoc]
    have h2' : (y :: (s.map (·.1) ++ d)).Nodup := h2
    rw [List.nodup_cons] at h2'
    exact List.nodup_append.mpr ⟨h2'.2, by simp, fun a ha c hc => by rw [List.mem_singleton] at hc; subst hc; exact fun e => h2'.1 (e ▸ ha)⟩
   ·show z ∈ b ↔ z ∈ s.map (·.1) ∨ z ∈ d ++ [y]
    rw [h3 z]
    simp only [List.mem_cons, List.mem_append, List.not_mem_nil, or_false]
    constructor
    ·rintro ((h | h) | h)
     ·exact .inr (.inr h)
     ·exact .inl h
     ·exact .inr (.inl h)
    ·rintro (h | h | h)
     ·exact .inl (.inr h)
     ·exact .inr h
     ·exact .inl (.inl h)
   ·rcases List.mem_append.mp hz with hz | hz
    ·exact h4 z hz t ht
    ·rw [List.mem_singleton] at hz
     subst hz
     exact ((h5 (z, []) List.mem_cons_self).2 t ht).resolve_left (by simp)
   ·cases s with
    | nil =>
     refine .inr ⟨rfl, ?_⟩
     rcases h6 with h6 | ⟨h6, _⟩
     ·show (d ++ [y]).getLast? = some x
      rw [List.getLast?_append]
      simpa using h6
     ·cases h6
    | cons q s =>
     refine .inl ?_
     rcases h6 with h6 | ⟨h6, _⟩
     ·show (q :: s).getLast?.map (·.1) = some x
      rw [List.getLast?_cons_cons] at h6
      exact h6
     ·cases h6
  | cons t r =>
   have hy := h5 (y, t :: r) List.mem_cons_self
   show Ok g x (if t ∈ b then ⟨b, (y, r) :: s, d⟩ else ⟨b ++ [t], (t, g t) :: (y, r) :: s, d⟩)
   split
   ·rename_i hb
    refine ⟨h1, h2, h3, h4, fun p hp => ?_, ?_⟩
    ·rcases List.mem_cons.mp hp with rfl | hp
     ·refine ⟨fun u hu => hy.1 u (List.mem_cons_of_mem _ hu), fun u hu => ?_⟩
      rcases hy.2 u hu with z | z
      ·rcases List.mem_cons.mp z with rfl | z
       ·exact .inr hb
       ·exact .inl z
      ·exact .inr z
     ·exact h5 p (List.mem_cons_of_mem _ hp)
    ·rcases h6 with h6 | ⟨h6, _⟩
     ·refine .inl ?_
      cases s with
      | nil => exact h6
      | cons q s => rw [List.getLast?_cons_cons] at h6 ⊢; exact h6
     ·cases h6
   ·rename_i hb
    have hn : ¬ (t = y ∨ t ∈ s.map (·.1)) ∧ t ∉ d := by
     have := fun z => hb ((h3 t).mpr z)
     simp only [List.mem_cons] at this
     exact ⟨fun z => this (.inl z), fun z => this (.inr z)⟩
    refine ⟨?_, ?_, fun z => ?_, fun z hz u hu => List.mem_append_left _ (h4 z hz u hu), fun p hp => ?_, ?_⟩
    ·exact List.nodup_append.mpr ⟨h1, by simp, fun a ha c hc => by rw [List.mem_singleton] at hc; subst hc; exact fun e => hb (e ▸ ha)⟩
    ·show (t :: (y :: s.map (·.1) ++ d)).Nodup
     rw [List.nodup_cons]
     refine ⟨fun z => ?_, h2⟩
     rcases List.mem_append.mp z with z | z
     ·exact hn.1 (List.mem_cons.mp z)
     ·exact hn.2 z
    ·show z ∈ b ++ [t] ↔ z ∈ t :: y :: s.map (·.1) ∨ z ∈ d
     rw [List.mem_append, h3 z, List.mem_singleton, List.mem_cons (a := z) (b := t)]
     constructor
     ·rintro ((h | h) | h)
      ·exact .inl (.inr h)
      ·exact .inr h
      ·exact .inl (.inl h)
     ·rintro ((h | h) | h)
      ·exact .inr h
      ·exact .inl (.inl h)
      ·exact .inl (.inr h)
    ·rcases List.mem_cons.mp hp with rfl | hp
     ·exact ⟨fun u hu => hu, fun u hu => .inl hu⟩
     ·rcases List.mem_cons.mp hp with rfl | hp
      ·refine ⟨fun u hu => hy.1 u (List.mem_cons_of_mem _ hu), fun u hu => ?_⟩
       rcases hy.2 u hu with z | z
       ·rcases List.mem_cons.mp z with rfl | z
        ·exact .inr (List.mem_append_right _ (by simp))
        ·exact .inl z
       ·exact .inr (List.mem_append_left _ z)
      ·obtain ⟨a1, a2⟩ := h5 p (List.mem_cons_of_mem _ hp)
       exact ⟨a1, fun u hu => (a2 u hu).imp id (List.mem_append_left _)⟩
    ·rcases h6 with h6 | ⟨h6, _⟩
     ·refine .inl ?_
      rw [List.getLast?_cons_cons]
      cases s with
      | nil => exact h6
      | cons q s => rw [List.getLast?_cons_cons] at h6 ⊢; exact h6
     ·cases h6
theorem Ok.itr {g : Nat → List Nat} {x : Nat} {s : St} (h : Ok g x s) : ∀ k, Ok g x (itr g k s)
 | 0 => h
 | k + 1 => (Ok.itr h k).stp
theorem Ends.facts {g : Nat → List Nat} {x : Nat} {d : List Nat} (h : Ends g x d) : d.Nodup ∧ (∀ y ∈ d, ∀ t ∈ g y, t ∈ d) ∧ d.getLast? = some x := by
 obtain ⟨k, b, h⟩ := h
 have o := (Ok.begin g x).itr k
 rw [h] at o
 have e : ∀ y, y ∈ b ↔ y ∈ d := fun y => by have := o.eq y; simpa using this
 refine ⟨by simpa using o.nd, fun y hy t ht => (e t).mp (o.cl y hy t ht), ?_⟩
 rcases o.bot with z | ⟨_, z⟩
 ·cases z
 ·exact z
theorem nodup_len (N : Nat) (l : List Nat) (nd : l.Nodup) (h : ∀ x ∈ l, x < N) : l.length ≤ N := by
 have : l.length ≤ (List.range N).length := List.Nodup.length_le_of_subset nd (fun x hx => List.mem_range.mpr (h x hx))
 simpa using this
def mea (N : Nat) (z : St) : Nat := 3 * (N - z.b.length) + (z.s.map fun p => p.2.length + 1).sum
theorem mea_stp {g : Nat → List Nat} {x N : Nat} {z : St} (ok : Ok g x z) (i : In (· < N) z) (two : ∀ y, (g y).length ≤ 2) (h : z.s ≠ []) : mea N (stp g z) < mea N z := by
 obtain ⟨b, s, d⟩ := z
 cases s with
 | nil => exact absurd rfl h
 | cons p s =>
  obtain ⟨y, r⟩ := p
  cases r with
  | nil => show mea N ⟨b, s, d ++ [y]⟩ < _; unfold mea; simp
  | cons t r =>
   show mea N (if t ∈ b then ⟨b, (y, r) :: s, d⟩ else ⟨b ++ [t], (t, g t) :: (y, r) :: s, d⟩) < _
   split
   ·unfold mea; simp
   ·rename_i hb
    have hl : (b ++ [t]).length ≤ N := nodup_len N (b ++ [t]) (List.nodup_append.mpr ⟨ok.nb, by simp, fun a ha c hc => by rw [List.mem_singleton] at hc; subst hc; exact fun e => hb (e ▸ ha)⟩) fun u hu => by
     rcases List.mem_append.mp hu with hu | hu
     ·exact i.b u hu
     ·rw [List.mem_singleton] at hu; subst hu; exact (i.s (y, u :: r) List.mem_cons_self).2 u List.mem_cons_self
    rw [List.length_append, List.length_singleton] at hl
    have := two t
    unfold mea
    simp only [List.length_append, List.length_singleton, List.map_cons, List.sum_cons, List.length_cons]
    omega
theorem idx_get {l : List Nat} (nd : l.Nodup) {i : Nat} (h : i < l.length) : l.idxOf l[i] = i := nd.idxOf_getElem i h
end ND
namespace LN
inductive Orb (J : Nat → Option Nat) : Nat → Nat → Prop
 | refl (p : Nat) : Orb J p p
 | step {p q r : Nat} : J p = some q → Orb J q r → Orb J p r
theorem Orb.trans {J : Nat → Option Nat} {p q r : Nat} (h : Orb J p q) (g : Orb J q r) : Orb J p r := by
 induction h with
 | refl _ => exact g
 | step e _ ih => exact .step e (ih g)
def Ln (J : Nat → Option Nat) (n : Nat) (m : Nat → Option Nat) : Prop := ∀ p g, m p = some g → p < n ∧ (J p = none → g = p) ∧ (∀ q, J p = some q → m q = some g) ∧ Orb J p g
def Lk (J : Nat → Option Nat) : Nat → List Nat → Nat → Prop
 | s, [], p => s = p
 | s, x :: r, p => s = x ∧ ∃ q, J x = some q ∧ Lk J q r p
theorem Lk.snoc {J : Nat → Option Nat} {p q : Nat} (e : J p = some q) : ∀ {s : Nat} {P : List Nat}, Lk J s P p → Lk J s (P ++ [p]) q
 | s, [], h => ⟨h, q, e, rfl⟩
 | s, x :: r, ⟨h1, t, h2, h3⟩ => ⟨h1, t, h2, Lk.snoc e h3⟩
theorem Lk.next {J : Nat → Option Nat} : ∀ {s p : Nat} {P : List Nat}, Lk J s P p → ∀ x ∈ P, ∃ q, J x = some q ∧ (q ∈ P ∨ q = p) ∧ Orb J x p
 | s, p, [], h, x, hx => by cases hx
 | s, p, y :: r, h, x, hx => by
  obtain ⟨rfl, t, h2, h3⟩ := h
  have ho : Orb J t p := by
   cases r with
   | nil => rw [show t = p from h3]; exact .refl _
   | cons z r =>
    obtain ⟨_, _, _, h⟩ := Lk.next h3 z List.mem_cons_self
    rw [h3.1]; exact h
  rcases List.mem_cons.mp hx with rfl | hx
  ·refine ⟨t, h2, ?_, .step h2 ho⟩
   cases r with
   | nil => exact .inr h3
   | cons z r => exact .inl (List.mem_cons_of_mem _ (by rw [h3.1]; exact List.mem_cons_self))
  ·obtain ⟨q, a1, a2, a3⟩ := Lk.next h3 x hx
   exact ⟨q, a1, a2.imp (List.mem_cons_of_mem _) id, a3⟩
def land (m : Nat → Option Nat) (P : List Nat) (p g : Nat) : Nat → Option Nat := fun x => if x ∈ P then some g else if x = p then some g else m x
theorem Ln.land {J : Nat → Option Nat} {n s p : Nat} {m : Nat → Option Nat} {P : List Nat} (h : Ln J n m) (k : Lk J s P p) (hn : ∀ x ∈ P, x < n ∧ m x = none) (hp : p < n)
  (stop : (m p).isSome = true ∨ p ∈ P ∨ J p = none) : Ln J n (land m P p ((m p).getD p)) ∧ (land m P p ((m p).getD p) s).isSome = true ∧ ∀ x, (m x).isSome = true → (land m P p ((m p).getD p) x).isSome = true := by
 have og : Orb J p ((m p).getD p) := by
  cases e : m p with
  | none => exact .refl _
  | some g => exact (h p g e).2.2.2
 refine ⟨fun x g hx => ?_, ?_, fun x hx => ?_⟩
 ·unfold LN.land at hx
  split at hx
  ·rename_i hP
   cases hx
   obtain ⟨q, a1, a2, a3⟩ := k.next x hP
   refine ⟨(hn x hP).1, fun z => (by rw [a1] at z; cases z), fun q' hq => ?_, a3.trans og⟩
   rw [a1] at hq
   cases hq
   unfold LN.land
   rcases a2 with a2 | a2
   ·rw [if_pos a2]
   ·split
    ·rfl
    ·first | rfl | rw [if_pos a2]
  ·rename_i hP
   split at hx
   ·rename_i ex
    subst ex
    cases hx
    refine ⟨hp, fun z => ?_, fun q hq => ?_, og⟩
    ·cases e : m x with
     | none => rfl
     | some g => exact (h x g e).2.1 z
    ·cases e : m x with
     | none =>
      rcases stop with z | z | z
      ·rw [e] at z; cases z
      ·exact absurd z hP
      ·rw [hq] at z; cases z
     | some g =>
      have := (h x g e).2.2.1 q hq
      unfold LN.land
      show (if q ∈ P then some g else if q = x then some g else m q) = some g
      split
      ·rfl
      ·split
       ·rfl
       ·exact this
   ·rename_i ex
    obtain ⟨b1, b2, b3, b4⟩ := h x g hx
    refine ⟨b1, b2, fun q hq => ?_, b4⟩
    have hm := b3 q hq
    unfold LN.land
    split
    ·rename_i hqP
     rw [(hn q hqP).2] at hm
     cases hm
    ·split
     ·rename_i eq
      subst eq
      rw [hm]; rfl
     ·exact hm
 ·unfold LN.land
  cases P with
  | nil => rw [if_neg (by simp), if_pos (show s = p from k)]; rfl
  | cons y r => rw [if_pos (by rw [k.1]; exact List.mem_cons_self)]; rfl
 ·unfold LN.land
  split
  ·rfl
  ·split
   ·rfl
   ·exact hx
end LN
namespace K12
open PySem PySem.Spec PyProof.Rows L2 L3 U
def top (i : Nat) : Stmt := PySem.Challenge.pw_unjump_k12_graph_by_rows.main.body.getD i (.Pass ⟨0, 0, 0, 0⟩)
def FN : List Str := ["ways", "with_ways", "walked", "numbered", "landings", "linked", "graph_of", "_law_cell", "_law_mixed", "_law_names", "_law_operand", "_law_row", "_law_rows", "_law_alike", "_law_come", "_law_due_ways", "_law_due_head", "_law_good_ways", "_law_side_by_side", "_law_ring", "law"]
def GN : List Str := ["MOST_NODES"]
def BN : List Str := ["tuple", "list", "dict", "enumerate", "range", "len", "isinstance", "str", "int", "bool", "min", "set", "zip"]
abbrev s_ways : Stmt := top 4
def N_ways : List Str := ["node"]
theorem sc_ways : FnScope N_ways ["node"] (defScope s_ways) := ⟨rfl, rfl, rfl, by decide +kernel, rfl, by decide +kernel, by decide +kernel⟩
def b_ways_1 : Ss :=
 (.cons (.ret (.tup .nil))
 .nil)
def b_ways_2 : Ss :=
 (.cons (.ite (.cmp .eq (.ix (.var 0) (.int 0)) (.str "test")) (.cons (.ret (.tup (.cons (.ix (.var 0) (.int 4)) (.cons (.ix (.var 0) (.int 5)) .nil))))
 .nil) .nil)
 b_ways_1)
def b_ways : Ss :=
 (.cons (.ite (.cmp .eq (.ix (.var 0) (.int 0)) (.str "sum")) (.cons (.ret (.tup (.cons (.ix (.var 0) (.int 5)) .nil)))
 .nil) .nil)
 b_ways_2)
theorem c_ways : chkSs (ck0 N_ways s_ways FN GN BN) b_ways (defBody s_ways) = true := by decide +kernel
abbrev s_with_ways : Stmt := top 5
def N_with_ways : List Str := ["node", "goals"]
theorem sc_with_ways : FnScope N_with_ways ["node", "goals"] (defScope s_with_ways) := ⟨rfl, rfl, rfl, by decide +kernel, rfl, by decide +kernel, by decide +kernel⟩
def b_with_ways_1 : Ss :=
 (.cons (.ret (.var 0))
 .nil)
def b_with_ways_2 : Ss :=
 (.cons (.ite (.cmp .eq (.ix (.var 0) (.int 0)) (.str "test")) (.cons (.ret (.bin .add (.sl (.var 0) .no (.yes (.int 4))) (.bf .tuple1 (.cons (.var 1) .nil))))
 .nil) .nil)
 b_with_ways_1)
def b_with_ways : Ss :=
 (.cons (.ite (.cmp .eq (.ix (.var 0) (.int 0)) (.str "sum")) (.cons (.ret (.bin .add (.sl (.var 0) .no (.yes (.int 5))) (.bf .tuple1 (.cons (.var 1) .nil))))
 .nil) .nil)
 b_with_ways_2)
theorem c_with_ways : chkSs (ck0 N_with_ways s_with_ways FN GN BN) b_with_ways (defBody s_with_ways) = true := by decide +kernel
abbrev s_walked : Stmt := top 6
def N_walked : List Str := ["goals", "starts", "begun", "finished", "start", "opened", "place", "left", "goal"]
theorem sc_walked : FnScope N_walked ["goals", "starts"] (defScope s_walked) := ⟨rfl, rfl, rfl, by decide +kernel, rfl, by decide +kernel, by decide +kernel⟩
def b_walked_1 : Ss :=
 (.cons (.expr (.mt .reverse (.var 3) .nil))
 (.cons (.ret (.var 3))
 .nil))
def b_walked_2 : Ss :=
 (.cons (.set [6, 7] (.ix (.var 5) (.neg (.int 1))))
 (.cons (.ite (.cmp .eq (.var 7) (.lst .nil)) (.cons (.expr (.mt .append (.var 3) (.cons (.var 6) .nil)))
 (.cons (.expr (.mt .pop0 (.var 5) .nil))
 .nil)) (.cons (.set [8] (.mt .pop0 (.var 7) .nil))
 (.cons (.ite (.cmp .notin (.var 8) (.var 2)) (.cons (.put (.var 2) (.var 8) (.bl true))
 (.cons (.expr (.mt .append (.var 5) (.cons (.tup (.cons (.var 8) (.cons (.bf .list1 (.cons (.ix (.var 0) (.var 8)) .nil)) .nil))) .nil)))
 .nil)) .nil)
 .nil)))
 .nil))
def b_walked_3 : Ss :=
 (.cons (.while_ (.var 5) b_walked_2)
 .nil)
def b_walked_4 : Ss :=
 (.cons (.set [5] (.lst .nil))
 (.cons (.ite (.cmp .notin (.var 4) (.var 2)) (.cons (.put (.var 2) (.var 4) (.bl true))
 (.cons (.expr (.mt .append (.var 5) (.cons (.tup (.cons (.var 4) (.cons (.bf .list1 (.cons (.ix (.var 0) (.var 4)) .nil)) .nil))) .nil)))
 .nil)) .nil)
 b_walked_3))
def b_walked : Ss :=
 (.cons (.set [2] .dict0)
 (.cons (.set [3] (.lst .nil))
 (.cons (.for_ [4] (.seq (.var 1)) b_walked_4)
 b_walked_1)))
theorem c_walked : chkSs (ck0 N_walked s_walked FN GN BN) b_walked (defBody s_walked) = true := by decide +kernel
abbrev s_numbered : Stmt := top 7
def N_numbered : List Str := ["nodes", "order", "numbers"]
theorem sc_numbered : FnScope N_numbered ["nodes", "order"] (defScope s_numbered) := ⟨rfl, rfl, rfl, by decide +kernel, rfl, by decide +kernel, by decide +kernel⟩
def b_numbered : Ss :=
 (.cons (.set [2] (.bf .dict1 (.cons (.comp ["number", "place"] [none, none] [0, 1] (.enm (.var 1)) .no (.tup (.cons (.var 1) (.cons (.var 0) .nil)))) .nil)))
 (.cons (.ret (.comp ["place", "nodes", "numbers"] [none, (some 0), (some 2)] [0] (.seq (.var 1)) .no (.call 1 (.cons (.ix (.var 1) (.var 0)) (.cons (.comp ["goal", "numbers"] [none, (some 2)] [0] (.seq (.call 0 (.cons (.ix (.var 1) (.var 0)) .nil))) .no (.ix (.var 1) (.var 0))) .nil)))))
 .nil))
theorem c_numbered : chkSs (ck0 N_numbered s_numbered FN GN BN) b_numbered (defBody s_numbered) = true := by decide +kernel
abbrev s_landings : Stmt := top 12
def N_landings : List Str := ["rows", "places", "landed", "start", "passed", "place", "goal", "jump"]
theorem sc_landings : FnScope N_landings ["rows", "places"] (defScope s_landings) := ⟨rfl, rfl, rfl, by decide +kernel, rfl, by decide +kernel, by decide +kernel⟩
def b_landings_1 : Ss :=
 (.cons (.ret (.var 2))
 .nil)
def b_landings_2 : Ss :=
 (.cons (.put (.var 2) (.var 7) (.var 6))
 .nil)
def b_landings_3 : Ss :=
 (.cons (.set [6] (.mt .get2 (.var 2) (.cons (.var 5) (.cons (.var 5) .nil))))
 (.cons (.put (.var 2) (.var 5) (.var 6))
 (.cons (.forK [7] (.var 4) b_landings_2)
 .nil)))
def b_landings_4 : Ss :=
 (.cons (.put (.var 4) (.var 5) (.bl true))
 (.cons (.set [5] (.ix (.var 1) (.ix (.ix (.var 0) (.var 5)) (.int 2))))
 .nil))
def b_landings_5 : Ss :=
 (.cons (.set [4] .dict0)
 (.cons (.set [5] (.var 3))
 (.cons (.while_ (.bop true (.cons (.cmp .notin (.var 5) (.var 2)) (.cons (.cmp .notin (.var 5) (.var 4)) (.cons (.cmp .eq (.ix (.ix (.var 0) (.var 5)) (.int 1)) (.str "jump")) .nil)))) b_landings_4)
 b_landings_3)))
def b_landings : Ss :=
 (.cons (.set [2] .dict0)
 (.cons (.for_ [3] (.rng1 (.bf .len (.cons (.var 0) .nil))) b_landings_5)
 b_landings_1))
theorem c_landings : chkSs (ck0 N_landings s_landings FN GN BN) b_landings (defBody s_landings) = true := by decide +kernel
abbrev s_linked : Stmt := top 11
def N_linked : List Str := ["rows", "places", "landed", "nodes", "place", "row"]
theorem sc_linked : FnScope N_linked ["rows"] (defScope s_linked) := ⟨rfl, rfl, rfl, by decide +kernel, rfl, by decide +kernel, by decide +kernel⟩
def b_linked_1 : Ss :=
 (.cons (.ret (.tup (.cons (.var 3) (.cons (.ix (.var 2) (.int 0)) .nil))))
 .nil)
def b_linked_2 : Ss :=
 (.cons (.ite (.cmp .eq (.ix (.var 5) (.int 1)) (.str "sum")) (.cons (.expr (.mt .append (.var 3) (.cons (.bin .add (.sl (.var 5) (.yes (.int 1)) .no) (.tup (.cons (.ix (.var 2) (.bin .add (.var 4) (.int 1))) .nil))) .nil)))
 .nil) (.cons (.ite (.cmp .eq (.ix (.var 5) (.int 1)) (.str "test")) (.cons (.expr (.mt .append (.var 3) (.cons (.bin .add (.sl (.var 5) (.yes (.int 1)) (.yes (.int 5))) (.tup (.cons (.ix (.var 2) (.ix (.var 1) (.ix (.var 5) (.int 5)))) (.cons (.ix (.var 2) (.bin .add (.var 4) (.int 1))) .nil)))) .nil)))
 .nil) (.cons (.ite (.cmp .eq (.ix (.var 5) (.int 1)) (.str "end")) (.cons (.expr (.mt .append (.var 3) (.cons (.tup (.cons (.str "end") .nil)) .nil)))
 .nil) (.cons (.expr (.mt .append (.var 3) (.cons (.tup (.cons (.str "spin") .nil)) .nil)))
 .nil))
 .nil))
 .nil))
 .nil)
def b_linked : Ss :=
 (.cons (.set [1] (.bf .dict1 (.cons (.comp ["place", "row"] [none, none] [0, 1] (.enm (.var 0)) .no (.tup (.cons (.ix (.var 1) (.int 0)) (.cons (.var 0) .nil)))) .nil)))
 (.cons (.set [2] (.call 4 (.cons (.var 0) (.cons (.var 1) .nil))))
 (.cons (.set [3] (.lst .nil))
 (.cons (.for_ [4, 5] (.enm (.var 0)) b_linked_2)
 b_linked_1))))
theorem c_linked : chkSs (ck0 N_linked s_linked FN GN BN) b_linked (defBody s_linked) = true := by decide +kernel
abbrev s_graph_of : Stmt := top 10
def N_graph_of : List Str := ["rows", "nodes", "start", "order"]
theorem sc_graph_of : FnScope N_graph_of ["rows"] (defScope s_graph_of) := ⟨rfl, rfl, rfl, by decide +kernel, rfl, by decide +kernel, by decide +kernel⟩
def b_graph_of_1 : Ss :=
 (.cons (.ret (.call 3 (.cons (.var 1) (.cons (.var 3) .nil))))
 .nil)
def b_graph_of : Ss :=
 (.cons (.set [1, 2] (.call 5 (.cons (.var 0) .nil)))
 (.cons (.set [3] (.call 2 (.cons (.comp ["node"] [none] [0] (.seq (.var 1)) .no (.call 0 (.cons (.var 0) .nil))) (.cons (.lst (.cons (.var 2) .nil)) .nil))))
 (.cons (.ite (.cmp .gt (.bf .len (.cons (.var 3) .nil)) (.glb 0)) (.cons .never
 .nil) .nil)
 b_graph_of_1)))
theorem c_graph_of : chkSs (ck0 N_graph_of s_graph_of FN GN BN) b_graph_of (defBody s_graph_of) = true := by decide +kernel
abbrev s_Lcell : Stmt := top 14
def N_Lcell : List Str := ["_law_script", "_law_k"]
theorem sc_Lcell : FnScope N_Lcell ["_law_script", "_law_k"] (defScope s_Lcell) := ⟨rfl, rfl, rfl, by decide +kernel, rfl, by decide +kernel, by decide +kernel⟩
def b_Lcell_1 : Ss :=
 (.cons (.ret (.int 0))
 .nil)
def b_Lcell : Ss :=
 (.cons (.ite (.cmp .lt (.var 1) (.bf .len (.cons (.var 0) .nil))) (.cons (.ret (.ix (.var 0) (.var 1)))
 .nil) .nil)
 b_Lcell_1)
theorem c_Lcell : chkSs (ck0 N_Lcell s_Lcell FN GN BN) b_Lcell (defBody s_Lcell) = true := by decide +kernel
abbrev s_Lmixed : Stmt := top 15
def N_Lmixed : List Str := ["_law_cell_here", "_law_k", "_law_number"]
theorem sc_Lmixed : FnScope N_Lmixed ["_law_cell_here", "_law_k"] (defScope s_Lmixed) := ⟨rfl, rfl, rfl, by decide +kernel, rfl, by decide +kernel, by decide +kernel⟩
def b_Lmixed : Ss :=
 (.cons (.set [2] (.bin .mod (.bin .add (.bin .add (.bin .mul (.bin .mod (.var 0) (.int 2147483647)) (.int 48271)) (.bin .mul (.bin .mul (.int 7919) (.var 1)) (.var 1))) (.int 104729)) (.int 2147483647)))
 (.cons (.ret (.bin .mod (.bin .mul (.var 2) (.var 2)) (.int 2147483629)))
 .nil))
theorem c_Lmixed : chkSs (ck0 N_Lmixed s_Lmixed FN GN BN) b_Lmixed (defBody s_Lmixed) = true := by decide +kernel
abbrev s_Lnames : Stmt := top 16
def N_Lnames : List Str := ["_law_cell_here", "_law_some"]
theorem sc_Lnames : FnScope N_Lnames ["_law_cell_here"] (defScope s_Lnames) := ⟨rfl, rfl, rfl, by decide +kernel, rfl, by decide +kernel, by decide +kernel⟩
def b_Lnames : Ss :=
 (.cons (.set [1] (.lst (.cons (.lst (.cons (.str "x") (.cons (.str "y") (.cons (.str "z") (.cons (.str "w") .nil))))) (.cons (.lst (.cons (.str "ab") (.cons (.str "aa") (.cons (.str "bb") (.cons (.str "ba") .nil))))) (.cons (.lst (.cons (.str "q1") (.cons (.str "q") (.cons (.str "q11") (.cons (.str "q2") .nil))))) .nil)))))
 (.cons (.expr (.mt .append (.var 1) (.cons (.lst (.cons (.str "sum1aaaa") (.cons (.str "sum1aaab") (.cons (.str "sum2aaaa") (.cons (.str "tum1aaaa") .nil))))) .nil)))
 (.cons (.ret (.ix (.var 1) (.bin .mod (.var 0) (.int 4))))
 .nil)))
theorem c_Lnames : chkSs (ck0 N_Lnames s_Lnames FN GN BN) b_Lnames (defBody s_Lnames) = true := by decide +kernel
abbrev s_Loperand : Stmt := top 17
def N_Loperand : List Str := ["_law_number", "_law_cell_here", "_law_names_here"]
theorem sc_Loperand : FnScope N_Loperand ["_law_number", "_law_cell_here", "_law_names_here"] (defScope s_Loperand) := ⟨rfl, rfl, rfl, by decide +kernel, rfl, by decide +kernel, by decide +kernel⟩
def b_Loperand_1 : Ss :=
 (.cons (.ret (.ix (.var 2) (.bin .mod (.bin .fdiv (.var 0) (.int 8)) (.int 4))))
 .nil)
def b_Loperand_2 : Ss :=
 (.cons (.ite (.cmp .lt (.bin .mod (.var 0) (.int 8)) (.int 3)) (.cons (.ret (.bin .sub (.bin .mod (.bin .fdiv (.var 0) (.int 8)) (.int 9)) (.int 3)))
 .nil) .nil)
 b_Loperand_1)
def b_Loperand : Ss :=
 (.cons (.ite (.cmp .eq (.bin .mod (.var 0) (.int 8)) (.int 0)) (.cons (.ret (.bin .sub (.bin .mod (.var 1) (.bin .add (.bin .mul (.int 2) (.bin .pow (.int 10) (.int 18))) (.int 1))) (.bin .pow (.int 10) (.int 18))))
 .nil) .nil)
 b_Loperand_2)
theorem c_Loperand : chkSs (ck0 N_Loperand s_Loperand FN GN BN) b_Loperand (defBody s_Loperand) = true := by decide +kernel
abbrev s_Lrow : Stmt := top 18
def N_Lrow : List Str := ["_law_cell_here", "_law_k", "_law_numbers", "_law_names_here", "_law_number", "_law_one", "_law_other", "_law_to", "_law_sign"]
theorem sc_Lrow : FnScope N_Lrow ["_law_cell_here", "_law_k", "_law_numbers", "_law_names_here"] (defScope s_Lrow) := ⟨rfl, rfl, rfl, by decide +kernel, rfl, by decide +kernel, by decide +kernel⟩
def b_Lrow_1 : Ss :=
 (.cons (.ret (.tup (.cons (.ix (.var 2) (.var 1)) (.cons (.str "end") .nil))))
 .nil)
def b_Lrow_2 : Ss :=
 (.cons (.ite (.cmp .lt (.bin .mod (.var 4) (.int 16)) (.int 15)) (.cons (.ret (.tup (.cons (.ix (.var 2) (.var 1)) (.cons (.str "jump") (.cons (.var 7) .nil)))))
 .nil) .nil)
 b_Lrow_1)
def b_Lrow_3 : Ss :=
 (.cons (.ite (.cmp .lt (.bin .mod (.var 4) (.int 16)) (.int 12)) (.cons (.ret (.tup (.cons (.ix (.var 2) (.var 1)) (.cons (.str "test") (.cons (.var 5) (.cons (.ix (.lst (.cons (.str "<") (.cons (.str "=") .nil))) (.bin .mod (.bin .fdiv (.var 4) (.int 193)) (.int 2))) (.cons (.var 6) (.cons (.var 7) .nil))))))))
 .nil) .nil)
 b_Lrow_2)
def b_Lrow : Ss :=
 (.cons (.set [4] (.call 8 (.cons (.var 0) (.cons (.var 1) .nil))))
 (.cons (.set [5] (.call 10 (.cons (.bin .fdiv (.var 4) (.int 16)) (.cons (.var 0) (.cons (.var 3) .nil)))))
 (.cons (.set [6] (.call 10 (.cons (.bin .fdiv (.var 4) (.int 1024)) (.cons (.bin .fdiv (.var 0) (.int 3)) (.cons (.var 3) .nil)))))
 (.cons (.set [7] (.ix (.var 2) (.bin .mod (.bin .fdiv (.var 4) (.int 65536)) (.bf .len (.cons (.var 2) .nil)))))
 (.cons (.ite (.cmp .lt (.bin .mod (.var 4) (.int 16)) (.int 7)) (.cons (.set [8] (.ix (.lst (.cons (.str "+") (.cons (.str "-") (.cons (.str "/") (.cons (.str "rest") (.cons (.str "&") (.cons (.str "^") .nil))))))) (.bin .mod (.bin .fdiv (.var 4) (.int 97)) (.int 6))))
 (.cons (.ret (.tup (.cons (.ix (.var 2) (.var 1)) (.cons (.str "sum") (.cons (.ix (.var 3) (.bin .mod (.bin .fdiv (.var 4) (.int 389)) (.int 4))) (.cons (.var 5) (.cons (.var 8) (.cons (.var 6) .nil))))))))
 .nil)) .nil)
 b_Lrow_3)))))
theorem c_Lrow : chkSs (ck0 N_Lrow s_Lrow FN GN BN) b_Lrow (defBody s_Lrow) = true := by decide +kernel
abbrev s_Lrows : Stmt := top 19
def N_Lrows : List Str := ["_law_cells", "_law_head", "_law_names_here", "_law_numbers", "_law_k", "_law_rows_here"]
theorem sc_Lrows : FnScope N_Lrows ["_law_cells", "_law_head"] (defScope s_Lrows) := ⟨rfl, rfl, rfl, by decide +kernel, rfl, by decide +kernel, by decide +kernel⟩
def b_Lrows_1 : Ss :=
 (.cons (.ret (.var 5))
 .nil)
def b_Lrows_2 : Ss :=
 (.cons (.set [5] (.comp ["_law_k", "_law_cells", "_law_numbers", "_law_names_here"] [none, (some 0), (some 3), (some 2)] [0] (.rng1 (.bf .len (.cons (.var 0) .nil))) .no (.call 11 (.cons (.ix (.var 1) (.var 0)) (.cons (.var 0) (.cons (.var 2) (.cons (.var 3) .nil)))))))
 (.cons (.ite (.cmp .eq (.bin .mod (.bin .fdiv (.var 1) (.int 3600)) (.int 3)) (.int 0)) (.cons (.expr (.mt .append (.var 5) (.cons (.tup (.cons (.ix (.var 3) (.neg (.int 1))) (.cons (.str "jump") (.cons (.ix (.var 3) (.bin .mod (.bin .fdiv (.var 1) (.int 10800)) (.bf .len (.cons (.var 3) .nil)))) .nil)))) .nil)))
 .nil) (.cons (.expr (.mt .append (.var 5) (.cons (.tup (.cons (.ix (.var 3) (.neg (.int 1))) (.cons (.str "end") .nil))) .nil)))
 .nil))
 b_Lrows_1))
def b_Lrows_3 : Ss :=
 (.cons (.expr (.mt .append (.var 3) (.cons (.bin .add (.bin .add (.ix (.var 3) (.var 4)) (.int 1)) (.bin .mod (.call 8 (.cons (.var 1) (.cons (.var 4) .nil))) (.ix (.lst (.cons (.int 1) (.cons (.int 10) (.cons (.int 97) .nil)))) (.bin .mod (.bin .fdiv (.var 1) (.int 1200)) (.int 3))))) .nil)))
 .nil)
def b_Lrows : Ss :=
 (.cons (.set [2] (.call 9 (.cons (.var 1) .nil)))
 (.cons (.set [3] (.lst (.cons (.bin .mod (.bin .fdiv (.var 1) (.int 4)) (.int 300)) .nil)))
 (.cons (.for_ [4] (.rng1 (.bf .len (.cons (.var 0) .nil))) b_Lrows_3)
 b_Lrows_2)))
theorem c_Lrows : chkSs (ck0 N_Lrows s_Lrows FN GN BN) b_Lrows (defBody s_Lrows) = true := by decide +kernel
abbrev s_Lalike : Stmt := top 20
def N_Lalike : List Str := ["_law_found", "_law_due", "_law_k"]
theorem sc_Lalike : FnScope N_Lalike ["_law_found", "_law_due"] (defScope s_Lalike) := ⟨rfl, rfl, rfl, by decide +kernel, rfl, by decide +kernel, by decide +kernel⟩
def b_Lalike_1 : Ss :=
 (.cons (.ret (.bl true))
 .nil)
def b_Lalike_2 : Ss :=
 (.cons (.ite (.not (.call 13 (.cons (.ix (.var 0) (.var 2)) (.cons (.ix (.var 1) (.var 2)) .nil)))) (.cons (.ret (.bl false))
 .nil) .nil)
 .nil)
def b_Lalike_3 : Ss :=
 (.cons (.for_ [2] (.rng1 (.bf .len (.cons (.var 1) .nil))) b_Lalike_2)
 b_Lalike_1)
def b_Lalike_4 : Ss :=
 (.cons (.ite (.cmp .ne (.bf .len (.cons (.var 0) .nil)) (.bf .len (.cons (.var 1) .nil))) (.cons (.ret (.bl false))
 .nil) .nil)
 b_Lalike_3)
def b_Lalike_5 : Ss :=
 (.cons (.ite (.bf .isinst (.cons (.var 1) (.cons (.ty .tuple) .nil))) (.cons (.ite (.not (.bf .isinst (.cons (.var 0) (.cons (.ty .tuple) .nil)))) (.cons (.ret (.bl false))
 .nil) .nil)
 .nil) (.cons (.ite (.not (.bf .isinst (.cons (.var 0) (.cons (.ty .list) .nil)))) (.cons (.ret (.bl false))
 .nil) .nil)
 .nil))
 b_Lalike_4)
def b_Lalike_6 : Ss :=
 (.cons (.ite (.bf .isinst (.cons (.var 1) (.cons (.ty .str) .nil))) (.cons (.ret (.bop true (.cons (.bf .isinst (.cons (.var 0) (.cons (.ty .str) .nil))) (.cons (.cmp .eq (.var 0) (.var 1)) .nil))))
 .nil) .nil)
 b_Lalike_5)
def b_Lalike_7 : Ss :=
 (.cons (.ite (.bf .isinst (.cons (.var 1) (.cons (.ty .int) .nil))) (.cons (.ret (.bop true (.cons (.bf .isinst (.cons (.var 0) (.cons (.ty .int) .nil))) (.cons (.not (.bf .isinst (.cons (.var 0) (.cons (.ty .bool) .nil)))) (.cons (.cmp .eq (.var 0) (.var 1)) .nil)))))
 .nil) .nil)
 b_Lalike_6)
def b_Lalike_8 : Ss :=
 (.cons (.ite (.bf .isinst (.cons (.var 1) (.cons (.ty .bool) .nil))) (.cons (.ret (.bop true (.cons (.bf .isinst (.cons (.var 0) (.cons (.ty .bool) .nil))) (.cons (.cmp .eq (.var 0) (.var 1)) .nil))))
 .nil) .nil)
 b_Lalike_7)
def b_Lalike : Ss :=
 (.cons (.ite (.cmp .is (.var 1) .non) (.cons (.ret (.cmp .is (.var 0) .non))
 .nil) .nil)
 b_Lalike_8)
theorem c_Lalike : chkSs (ck0 N_Lalike s_Lalike FN GN BN) b_Lalike (defBody s_Lalike) = true := by decide +kernel
abbrev s_Lcome : Stmt := top 21
def N_Lcome : List Str := ["_law_rows_here", "_law_numbers", "_law_at", "_law_seen"]
theorem sc_Lcome : FnScope N_Lcome ["_law_rows_here", "_law_numbers", "_law_at"] (defScope s_Lcome) := ⟨rfl, rfl, rfl, by decide +kernel, rfl, by decide +kernel, by decide +kernel⟩
def b_Lcome_1 : Ss :=
 (.cons (.ret (.var 2))
 .nil)
def b_Lcome_2 : Ss :=
 (.cons (.ite (.cmp .eq (.ix (.ix (.var 0) (.var 2)) (.int 1)) (.str "jump")) (.cons (.ret (.bf .min1 (.cons (.sl (.var 3) (.yes (.mt .index1 (.var 3) (.cons (.var 2) .nil))) .no) .nil)))
 .nil) .nil)
 b_Lcome_1)
def b_Lcome_3 : Ss :=
 (.cons (.expr (.mt .append (.var 3) (.cons (.var 2) .nil)))
 (.cons (.set [2] (.mt .index1 (.var 1) (.cons (.ix (.ix (.var 0) (.var 2)) (.int 2)) .nil)))
 .nil))
def b_Lcome : Ss :=
 (.cons (.set [3] (.lst .nil))
 (.cons (.while_ (.bop true (.cons (.cmp .eq (.ix (.ix (.var 0) (.var 2)) (.int 1)) (.str "jump")) (.cons (.cmp .notin (.var 2) (.var 3)) .nil))) b_Lcome_3)
 b_Lcome_2))
theorem c_Lcome : chkSs (ck0 N_Lcome s_Lcome FN GN BN) b_Lcome (defBody s_Lcome) = true := by decide +kernel
abbrev s_Ldue_ways : Stmt := top 22
def N_Ldue_ways : List Str := ["_law_rows_here", "_law_numbers", "_law_at", "_law_yes"]
theorem sc_Ldue_ways : FnScope N_Ldue_ways ["_law_rows_here", "_law_numbers", "_law_at"] (defScope s_Ldue_ways) := ⟨rfl, rfl, rfl, by decide +kernel, rfl, by decide +kernel, by decide +kernel⟩
def b_Ldue_ways_1 : Ss :=
 (.cons (.ret (.lst .nil))
 .nil)
def b_Ldue_ways_2 : Ss :=
 (.cons (.ite (.cmp .eq (.ix (.ix (.var 0) (.var 2)) (.int 1)) (.str "test")) (.cons (.set [3] (.call 14 (.cons (.var 0) (.cons (.var 1) (.cons (.mt .index1 (.var 1) (.cons (.ix (.ix (.var 0) (.var 2)) (.int 5)) .nil)) .nil)))))
 (.cons (.ret (.lst (.cons (.var 3) (.cons (.call 14 (.cons (.var 0) (.cons (.var 1) (.cons (.bin .add (.var 2) (.int 1)) .nil)))) .nil))))
 .nil)) .nil)
 b_Ldue_ways_1)
def b_Ldue_ways : Ss :=
 (.cons (.ite (.cmp .eq (.ix (.ix (.var 0) (.var 2)) (.int 1)) (.str "sum")) (.cons (.ret (.lst (.cons (.call 14 (.cons (.var 0) (.cons (.var 1) (.cons (.bin .add (.var 2) (.int 1)) .nil)))) .nil)))
 .nil) .nil)
 b_Ldue_ways_2)
theorem c_Ldue_ways : chkSs (ck0 N_Ldue_ways s_Ldue_ways FN GN BN) b_Ldue_ways (defBody s_Ldue_ways) = true := by decide +kernel
abbrev s_Ldue_head : Stmt := top 23
def N_Ldue_head : List Str := ["_law_row_here"]
theorem sc_Ldue_head : FnScope N_Ldue_head ["_law_row_here"] (defScope s_Ldue_head) := ⟨rfl, rfl, rfl, by decide +kernel, rfl, by decide +kernel, by decide +kernel⟩
def b_Ldue_head_1 : Ss :=
 (.cons (.ret (.tup (.cons (.str "spin") .nil)))
 .nil)
def b_Ldue_head_2 : Ss :=
 (.cons (.ite (.cmp .eq (.ix (.var 0) (.int 1)) (.str "end")) (.cons (.ret (.tup (.cons (.str "end") .nil)))
 .nil) .nil)
 b_Ldue_head_1)
def b_Ldue_head_3 : Ss :=
 (.cons (.ite (.cmp .eq (.ix (.var 0) (.int 1)) (.str "test")) (.cons (.ret (.tup (.cons (.str "test") (.cons (.ix (.var 0) (.int 2)) (.cons (.ix (.var 0) (.int 3)) (.cons (.ix (.var 0) (.int 4)) .nil))))))
 .nil) .nil)
 b_Ldue_head_2)
def b_Ldue_head : Ss :=
 (.cons (.ite (.cmp .eq (.ix (.var 0) (.int 1)) (.str "sum")) (.cons (.ret (.tup (.cons (.str "sum") (.cons (.ix (.var 0) (.int 2)) (.cons (.ix (.var 0) (.int 3)) (.cons (.ix (.var 0) (.int 4)) (.cons (.ix (.var 0) (.int 5)) .nil)))))))
 .nil) .nil)
 b_Ldue_head_3)
theorem c_Ldue_head : chkSs (ck0 N_Ldue_head s_Ldue_head FN GN BN) b_Ldue_head (defBody s_Ldue_head) = true := by decide +kernel
abbrev s_Lgood_ways : Stmt := top 24
def N_Lgood_ways : List Str := ["_law_node", "_law_head", "_law_due", "_law_many", "_law_way"]
theorem sc_Lgood_ways : FnScope N_Lgood_ways ["_law_node", "_law_head", "_law_due", "_law_many"] (defScope s_Lgood_ways) := ⟨rfl, rfl, rfl, by decide +kernel, rfl, by decide +kernel, by decide +kernel⟩
def b_Lgood_ways_1 : Ss :=
 (.cons (.ret (.bl true))
 .nil)
def b_Lgood_ways_2 : Ss :=
 (.cons (.ite (.bop false (.cons (.not (.bf .isinst (.cons (.var 4) (.cons (.ty .int) .nil)))) (.cons (.bf .isinst (.cons (.var 4) (.cons (.ty .bool) .nil))) (.cons (.cmp .lt (.var 4) (.int 0)) (.cons (.cmp .ge (.var 4) (.var 3)) .nil))))) (.cons (.ret (.bl false))
 .nil) .nil)
 .nil)
def b_Lgood_ways_3 : Ss :=
 (.cons (.for_ [4] (.seq (.slW (.var 0) (.yes (.bf .len (.cons (.var 1) .nil))) .no)) b_Lgood_ways_2)
 b_Lgood_ways_1)
def b_Lgood_ways_4 : Ss :=
 (.cons (.ite (.cmp .ne (.bf .len (.cons (.var 0) .nil)) (.bin .add (.bf .len (.cons (.var 1) .nil)) (.bf .len (.cons (.var 2) .nil)))) (.cons (.ret (.bl false))
 .nil) .nil)
 b_Lgood_ways_3)
def b_Lgood_ways : Ss :=
 (.cons (.ite (.bop false (.cons (.not (.bf .isinst (.cons (.var 0) (.cons (.ty .tuple) .nil)))) (.cons (.not (.call 13 (.cons (.slW (.var 0) .no (.yes (.bf .len (.cons (.var 1) .nil)))) (.cons (.var 1) .nil)))) .nil))) (.cons (.ret (.bl false))
 .nil) .nil)
 b_Lgood_ways_4)
theorem c_Lgood_ways : chkSs (ck0 N_Lgood_ways s_Lgood_ways FN GN BN) b_Lgood_ways (defBody s_Lgood_ways) = true := by decide +kernel
abbrev s_Lside_by_side : Stmt := top 25
def N_Lside_by_side : List Str := ["_law_graph", "_law_rows_here", "_law_numbers", "_law_pairs", "_law_open_ones", "_law_k", "_law_head", "_law_due", "_law_way", "_law_place"]
theorem sc_Lside_by_side : FnScope N_Lside_by_side ["_law_graph", "_law_rows_here"] (defScope s_Lside_by_side) := ⟨rfl, rfl, rfl, by decide +kernel, rfl, by decide +kernel, by decide +kernel⟩
def b_Lside_by_side_1 : Ss :=
 (.cons (.ret (.bop true (.cons (.cmp .eq (.bf .len (.cons (.var 3) .nil)) (.bf .len (.cons (.var 0) .nil))) (.cons (.cmp .eq (.setf false (.vals (.var 3))) (.bf .len (.cons (.var 0) .nil))) .nil))))
 .nil)
def b_Lside_by_side_2 : Ss :=
 (.cons (.ite (.cmp .ne (.ix (.var 3) (.var 8)) (.var 9)) (.cons (.ret (.bl false))
 .nil) .nil)
 .nil)
def b_Lside_by_side_3 : Ss :=
 (.cons (.ite (.cmp .notin (.var 8) (.var 3)) (.cons (.put (.var 3) (.var 8) (.var 9))
 (.cons (.expr (.mt .append (.var 4) (.cons (.var 8) .nil)))
 .nil)) .nil)
 b_Lside_by_side_2)
def b_Lside_by_side_4 : Ss :=
 (.cons (.for_ [8, 9] (.zip (.cons (.slW (.ix (.var 0) (.var 5)) (.yes (.bf .len (.cons (.var 6) .nil))) .no) (.cons (.var 7) .nil))) b_Lside_by_side_3)
 .nil)
def b_Lside_by_side_5 : Ss :=
 (.cons (.set [5] (.mt .pop0 (.var 4) .nil))
 (.cons (.set [6] (.call 16 (.cons (.ix (.var 1) (.ix (.var 3) (.var 5))) .nil)))
 (.cons (.set [7] (.call 15 (.cons (.var 1) (.cons (.var 2) (.cons (.ix (.var 3) (.var 5)) .nil)))))
 (.cons (.ite (.not (.call 17 (.cons (.ix (.var 0) (.var 5)) (.cons (.var 6) (.cons (.var 7) (.cons (.bf .len (.cons (.var 0) .nil)) .nil)))))) (.cons (.ret (.bl false))
 .nil) .nil)
 b_Lside_by_side_4))))
def b_Lside_by_side : Ss :=
 (.cons (.set [2] (.comp ["_law_row_here"] [none] [0] (.seq (.var 1)) .no (.ix (.var 0) (.int 0))))
 (.cons (.set [3] (.dct (.int 0) (.call 14 (.cons (.var 1) (.cons (.var 2) (.cons (.int 0) .nil))))))
 (.cons (.set [4] (.lst (.cons (.int 0) .nil)))
 (.cons (.while_ (.cmp .ne (.var 4) (.lst .nil)) b_Lside_by_side_5)
 b_Lside_by_side_1))))
theorem c_Lside_by_side : chkSs (ck0 N_Lside_by_side s_Lside_by_side FN GN BN) b_Lside_by_side (defBody s_Lside_by_side) = true := by decide +kernel
abbrev s_Lring : Stmt := top 26
def N_Lring : List Str := ["_law_first", "_law_second", "_law_many", "_law_step", "_law_begin", "_law_rows_here", "_law_k"]
theorem sc_Lring : FnScope N_Lring ["_law_first", "_law_second"] (defScope s_Lring) := ⟨rfl, rfl, rfl, by decide +kernel, rfl, by decide +kernel, by decide +kernel⟩
def b_Lring_1 : Ss :=
 (.cons (.ret (.var 5))
 .nil)
def b_Lring_2 : Ss :=
 (.cons (.expr (.mt .append (.var 5) (.cons (.tup (.cons (.bin .add (.var 4) (.var 6)) (.cons (.str "jump") (.cons (.bin .add (.var 4) (.bin .mod (.bin .add (.var 6) (.var 3)) (.var 2))) .nil)))) .nil)))
 .nil)
def b_Lring : Ss :=
 (.cons (.set [2] (.bin .add (.int 1) (.bin .mod (.var 0) (.int 9))))
 (.cons (.set [3] (.bin .mod (.bin .fdiv (.var 0) (.int 9)) (.var 2)))
 (.cons (.set [4] (.bin .add (.int 3) (.bin .mod (.bin .fdiv (.var 0) (.int 81)) (.int 50))))
 (.cons (.set [5] (.lst (.cons (.tup (.cons (.int 0) (.cons (.str "test") (.cons (.str "x") (.cons (.str "<") (.cons (.bin .mod (.var 0) (.bin .pow (.int 10) (.int 18))) (.cons (.bin .add (.var 4) (.bin .mod (.var 1) (.var 2))) .nil))))))) .nil)))
 (.cons (.expr (.mt .append (.var 5) (.cons (.tup (.cons (.int 1) (.cons (.str "sum") (.cons (.str "x") (.cons (.str "x") (.cons (.str "+") (.cons (.bin .mod (.var 1) (.bin .pow (.int 10) (.int 18))) .nil))))))) .nil)))
 (.cons (.expr (.mt .append (.var 5) (.cons (.tup (.cons (.int 2) (.cons (.str "jump") (.cons (.bin .add (.var 4) (.bin .mod (.bin .fdiv (.var 1) (.int 9)) (.var 2))) .nil)))) .nil)))
 (.cons (.for_ [6] (.rng1 (.var 2)) b_Lring_2)
 b_Lring_1)))))))
theorem c_Lring : chkSs (ck0 N_Lring s_Lring FN GN BN) b_Lring (defBody s_Lring) = true := by decide +kernel
abbrev s_law : Stmt := top 27
def N_law : List Str := ["_law_script", "_law_rows_here", "_law_handed", "_law_found", "_law_circle", "_law_kept"]
theorem sc_law : FnScope N_law ["_law_script"] (defScope s_law) := ⟨rfl, rfl, rfl, by decide +kernel, rfl, by decide +kernel, by decide +kernel⟩
def b_law_1 : Ss :=
 (.cons (.set [5] (.bf .list1 (.cons (.var 3) .nil)))
 (.cons (.expr (.mt .reverse (.var 3) .nil))
 (.cons (.expr (.mt .append (.var 3) (.cons (.tup (.cons (.str "spin") .nil)) .nil)))
 (.cons (.expr (.call 6 (.cons (.lst (.cons (.tup (.cons (.int 3) (.cons (.str "jump") (.cons (.int 3) .nil)))) .nil)) .nil)))
 (.cons (.ret (.bop true (.cons (.call 13 (.cons (.call 6 (.cons (.var 2) .nil)) (.cons (.var 5) .nil))) (.cons (.cmp .eq (.var 3) (.bin .add (.rev (.var 5)) (.lst (.cons (.tup (.cons (.str "spin") .nil)) .nil)))) .nil))))
 .nil)))))
def b_law_2 : Ss :=
 (.cons (.set [4] (.call 19 (.cons (.call 7 (.cons (.var 0) (.cons (.int 0) .nil))) (.cons (.call 7 (.cons (.var 0) (.cons (.int 1) .nil))) .nil))))
 (.cons (.ite (.bop false (.cons (.not (.call 18 (.cons (.var 3) (.cons (.var 1) .nil)))) (.cons (.not (.call 18 (.cons (.call 6 (.cons (.var 4) .nil)) (.cons (.var 4) .nil)))) .nil))) (.cons (.ret (.bl false))
 .nil) .nil)
 b_law_1))
def b_law : Ss :=
 (.cons (.set [1] (.call 12 (.cons (.sl (.var 0) (.yes (.int 1)) (.yes (.int 40))) (.cons (.bin .mod (.call 7 (.cons (.var 0) (.cons (.int 0) .nil))) (.bin .pow (.int 10) (.int 12))) .nil))))
 (.cons (.set [2] (.bf .list1 (.cons (.var 1) .nil)))
 (.cons (.set [3] (.call 6 (.cons (.var 2) .nil)))
 (.cons (.ite (.bop false (.cons (.not (.bf .isinst (.cons (.var 3) (.cons (.ty .list) .nil)))) (.cons (.cmp .eq (.var 3) (.lst .nil)) (.cons (.cmp .ne (.var 2) (.var 1)) .nil)))) (.cons (.ret (.bl false))
 .nil) .nil)
 b_law_2))))
theorem c_law : chkSs (ck0 N_law s_law FN GN BN) b_law (defBody s_law) = true := by decide +kernel
set_option genInjectivity false in
structure Adr where
 mk ::
 a_ways : Addr
 d_ways : FuncData
 a_with_ways : Addr
 d_with_ways : FuncData
 a_walked : Addr
 d_walked : FuncData
 a_numbered : Addr
 d_numbered : FuncData
 a_landings : Addr
 d_landings : FuncData
 a_linked : Addr
 d_linked : FuncData
 a_graph_of : Addr
 d_graph_of : FuncData
 a_Lcell : Addr
 d_Lcell : FuncData
 a_Lmixed : Addr
 d_Lmixed : FuncData
 a_Lnames : Addr
 d_Lnames : FuncData
 a_Loperand : Addr
 d_Loperand : FuncData
 a_Lrow : Addr
 d_Lrow : FuncData
 a_Lrows : Addr
 d_Lrows : FuncData
 a_Lalike : Addr
 d_Lalike : FuncData
 a_Lcome : Addr
 d_Lcome : FuncData
 a_Ldue_ways : Addr
 d_Ldue_ways : FuncData
 a_Ldue_head : Addr
 d_Ldue_head : FuncData
 a_Lgood_ways : Addr
 d_Lgood_ways : FuncData
 a_Lside_by_side : Addr
 d_Lside_by_side : FuncData
 a_Lring : Addr
 d_Lring : FuncData
 a_law : Addr
 d_law : FuncData
structure Tx (K : PySem.W.Frag) (mg : Str → Option Value) (t : Adr) : Prop where
 mk ::
 F_ways : Fun K "ways" "ways" s_ways t.a_ways t.d_ways
 g_ways : mg "ways" = some (.ref t.a_ways)
 k_ways : PySem.W.keepIn K (.ref t.a_ways) = true
 b_ways : Binds K t.d_ways ["node"] []
 F_with_ways : Fun K "with_ways" "with_ways" s_with_ways t.a_with_ways t.d_with_ways
 g_with_ways : mg "with_ways" = some (.ref t.a_with_ways)
 k_with_ways : PySem.W.keepIn K (.ref t.a_with_ways) = true
 b_with_ways : Binds K t.d_with_ways ["node", "goals"] []
 F_walked : Fun K "walked" "walked" s_walked t.a_walked t.d_walked
 g_walked : mg "walked" = some (.ref t.a_walked)
 k_walked : PySem.W.keepIn K (.ref t.a_walked) = true
 b_walked : Binds K t.d_walked ["goals", "starts"] []
 F_numbered : Fun K "numbered" "numbered" s_numbered t.a_numbered t.d_numbered
 g_numbered : mg "numbered" = some (.ref t.a_numbered)
 k_numbered : PySem.W.keepIn K (.ref t.a_numbered) = true
 b_numbered : Binds K t.d_numbered ["nodes", "order"] []
 F_landings : Fun K "landings" "landings" s_landings t.a_landings t.d_landings
 g_landings : mg "landings" = some (.ref t.a_landings)
 k_landings : PySem.W.keepIn K (.ref t.a_landings) = true
 b_landings : Binds K t.d_landings ["rows", "places"] []
 F_linked : Fun K "linked" "linked" s_linked t.a_linked t.d_linked
 g_linked : mg "linked" = some (.ref t.a_linked)
 k_linked : PySem.W.keepIn K (.ref t.a_linked) = true
 b_linked : Binds K t.d_linked ["rows"] []
 F_graph_of : Fun K "graph_of" "graph_of" s_graph_of t.a_graph_of t.d_graph_of
 g_graph_of : mg "graph_of" = some (.ref t.a_graph_of)
 k_graph_of : PySem.W.keepIn K (.ref t.a_graph_of) = true
 b_graph_of : Binds K t.d_graph_of ["rows"] []
 F_Lcell : Fun K "_law_cell" "_law_cell" s_Lcell t.a_Lcell t.d_Lcell
 g_Lcell : mg "_law_cell" = some (.ref t.a_Lcell)
 k_Lcell : PySem.W.keepIn K (.ref t.a_Lcell) = true
 b_Lcell : Binds K t.d_Lcell ["_law_script", "_law_k"] []
 F_Lmixed : Fun K "_law_mixed" "_law_mixed" s_Lmixed t.a_Lmixed t.d_Lmixed
 g_Lmixed : mg "_law_mixed" = some (.ref t.a_Lmixed)
 k_Lmixed : PySem.W.keepIn K (.ref t.a_Lmixed) = true
 b_Lmixed : Binds K t.d_Lmixed ["_law_cell_here", "_law_k"] []
 F_Lnames : Fun K "_law_names" "_law_names" s_Lnames t.a_Lnames t.d_Lnames
 g_Lnames : mg "_law_names" = some (.ref t.a_Lnames)
 k_Lnames : PySem.W.keepIn K (.ref t.a_Lnames) = true
 b_Lnames : Binds K t.d_Lnames ["_law_cell_here"] []
 F_Loperand : Fun K "_law_operand" "_law_operand" s_Loperand t.a_Loperand t.d_Loperand
 g_Loperand : mg "_law_operand" = some (.ref t.a_Loperand)
 k_Loperand : PySem.W.keepIn K (.ref t.a_Loperand) = true
 b_Loperand : Binds K t.d_Loperand ["_law_number", "_law_cell_here", "_law_names_here"] []
 F_Lrow : Fun K "_law_row" "_law_row" s_Lrow t.a_Lrow t.d_Lrow
 g_Lrow : mg "_law_row" = some (.ref t.a_Lrow)
 k_Lrow : PySem.W.keepIn K (.ref t.a_Lrow) = true
 b_Lrow : Binds K t.d_Lrow ["_law_cell_here", "_law_k", "_law_numbers", "_law_names_here"] []
 F_Lrows : Fun K "_law_rows" "_law_rows" s_Lrows t.a_Lrows t.d_Lrows
 g_Lrows : mg "_law_rows" = some (.ref t.a_Lrows)
 k_Lrows : PySem.W.keepIn K (.ref t.a_Lrows) = true
 b_Lrows : Binds K t.d_Lrows ["_law_cells", "_law_head"] []
 F_Lalike : Fun K "_law_alike" "_law_alike" s_Lalike t.a_Lalike t.d_Lalike
 g_Lalike : mg "_law_alike" = some (.ref t.a_Lalike)
 k_Lalike : PySem.W.keepIn K (.ref t.a_Lalike) = true
 b_Lalike : Binds K t.d_Lalike ["_law_found", "_law_due"] []
 F_Lcome : Fun K "_law_come" "_law_come" s_Lcome t.a_Lcome t.d_Lcome
 g_Lcome : mg "_law_come" = some (.ref t.a_Lcome)
 k_Lcome : PySem.W.keepIn K (.ref t.a_Lcome) = true
 b_Lcome : Binds K t.d_Lcome ["_law_rows_here", "_law_numbers", "_law_at"] []
 F_Ldue_ways : Fun K "_law_due_ways" "_law_due_ways" s_Ldue_ways t.a_Ldue_ways t.d_Ldue_ways
 g_Ldue_ways : mg "_law_due_ways" = some (.ref t.a_Ldue_ways)
 k_Ldue_ways : PySem.W.keepIn K (.ref t.a_Ldue_ways) = true
 b_Ldue_ways : Binds K t.d_Ldue_ways ["_law_rows_here", "_law_numbers", "_law_at"] []
 F_Ldue_head : Fun K "_law_due_head" "_law_due_head" s_Ldue_head t.a_Ldue_head t.d_Ldue_head
 g_Ldue_head : mg "_law_due_head" = some (.ref t.a_Ldue_head)
 k_Ldue_head : PySem.W.keepIn K (.ref t.a_Ldue_head) = true
 b_Ldue_head : Binds K t.d_Ldue_head ["_law_row_here"] []
 F_Lgood_ways : Fun K "_law_good_ways" "_law_good_ways" s_Lgood_ways t.a_Lgood_ways t.d_Lgood_ways
 g_Lgood_ways : mg "_law_good_ways" = some (.ref t.a_Lgood_ways)
 k_Lgood_ways : PySem.W.keepIn K (.ref t.a_Lgood_ways) = true
 b_Lgood_ways : Binds K t.d_Lgood_ways ["_law_node", "_law_head", "_law_due", "_law_many"] []
 F_Lside_by_side : Fun K "_law_side_by_side" "_law_side_by_side" s_Lside_by_side t.a_Lside_by_side t.d_Lside_by_side
 g_Lside_by_side : mg "_law_side_by_side" = some (.ref t.a_Lside_by_side)
 k_Lside_by_side : PySem.W.keepIn K (.ref t.a_Lside_by_side) = true
 b_Lside_by_side : Binds K t.d_Lside_by_side ["_law_graph", "_law_rows_here"] []
 F_Lring : Fun K "_law_ring" "_law_ring" s_Lring t.a_Lring t.d_Lring
 g_Lring : mg "_law_ring" = some (.ref t.a_Lring)
 k_Lring : PySem.W.keepIn K (.ref t.a_Lring) = true
 b_Lring : Binds K t.d_Lring ["_law_first", "_law_second"] []
 F_law : Fun K "law" "law" s_law t.a_law t.d_law
 g_law : mg "law" = some (.ref t.a_law)
 k_law : PySem.W.keepIn K (.ref t.a_law) = true
 b_law : Binds K t.d_law ["_law_script"] []
 z_tuple : mg "tuple" = none
 z_list : mg "list" = none
 z_dict : mg "dict" = none
 z_enumerate : mg "enumerate" = none
 z_range : mg "range" = none
 z_len : mg "len" = none
 z_isinstance : mg "isinstance" = none
 z_str : mg "str" = none
 z_int : mg "int" = none
 z_bool : mg "bool" = none
 z_min : mg "min" = none
 z_set : mg "set" = none
 z_zip : mg "zip" = none
 q_MOST_NODES : ∃ tk, mg "MOST_NODES" = some (.int 40 tk)
theorem ents {K : PySem.W.Frag} {mg : Str → Option Value} {t : Adr} (T : Tx K mg t) : ∀ x ∈ FN, Ent K mg x :=
 all_cons ⟨_, _, _, T.g_ways, T.k_ways, T.b_ways⟩ (all_cons ⟨_, _, _, T.g_with_ways, T.k_with_ways, T.b_with_ways⟩ (all_cons ⟨_, _, _, T.g_walked, T.k_walked, T.b_walked⟩ (all_cons ⟨_, _, _, T.g_numbered, T.k_numbered, T.b_numbered⟩ (all_cons ⟨_, _, _, T.g_landings, T.k_landings, T.b_landings⟩ (all_cons ⟨_, _, _, T.g_linked, T.k_linked, T.b_linked⟩ (all_cons ⟨_, _, _, T.g_graph_of, T.k_graph_of, T.b_graph_of⟩ (all_cons ⟨_, _, _, T.g_Lcell, T.k_Lcell, T.b_Lcell⟩ (all_cons ⟨_, _, _, T.g_Lmixed, T.k_Lmixed, T.b_Lmixed⟩ (all_cons ⟨_, _, _, T.g_Lnames, T.k_Lnames, T.b_Lnames⟩ (all_cons ⟨_, _, _, T.g_Loperand, T.k_Loperand, T.b_Loperand⟩ (all_cons ⟨_, _, _, T.g_Lrow, T.k_Lrow, T.b_Lrow⟩ (all_cons ⟨_, _, _, T.g_Lrows, T.k_Lrows, T.b_Lrows⟩ (all_cons ⟨_, _, _, T.g_Lalike, T.k_Lalike, T.b_Lalike⟩ (all_cons ⟨_, _, _, T.g_Lcome, T.k_Lcome, T.b_Lcome⟩ (all_cons ⟨_, _, _, T.g_Ldue_ways, T.k_Ldue_ways, T.b_Ldue_ways⟩ (all_cons ⟨_, _, _, T.g_Ldue_head, T.k_Ldue_head, T.b_Ldue_head⟩ (all_cons ⟨_, _, _, T.g_Lgood_ways, T.k_Lgood_ways, T.b_Lgood_ways⟩ (all_cons ⟨_, _, _, T.g_Lside_by_side, T.k_Lside_by_side, T.b_Lside_by_side⟩ (all_cons ⟨_, _, _, T.g_Lring, T.k_Lring, T.b_Lring⟩ (all_cons ⟨_, _, _, T.g_law, T.k_law, T.b_law⟩ all_nil))))))))))))))))))))
theorem blts {K : PySem.W.Frag} {mg : Str → Option Value} {t : Adr} (T : Tx K mg t) : ∀ x ∈ BN, mg x = none :=
 all_cons T.z_tuple (all_cons T.z_list (all_cons T.z_dict (all_cons T.z_enumerate (all_cons T.z_range (all_cons T.z_len (all_cons T.z_isinstance (all_cons T.z_str (all_cons T.z_int (all_cons T.z_bool (all_cons T.z_min (all_cons T.z_set (all_cons T.z_zip all_nil))))))))))))
set_option maxHeartbeats 0 in
theorem tx_mk {K : PySem.W.Frag} {h : Heap} {mg : Str → Option Value} {f0 f1 f2 f3 f4 f5 f6 f7 f8 f9 f10 f11 f12 f13 f14 f15 f16 f17 f18 f19 f20 : Addr} (X : K.In h) (G : h.Ns mainGlobals mg)
  {od0 an0 od1 an1 od2 an2 od3 an3 od4 an4 od5 an5 od6 an6 od7 an7 od8 an8 od9 an9 od10 an10 od11 an11 od12 an12 od13 an13 od14 an14 od15 an15 od16 an16 od17 an17 od18 an18 od19 an19 od20 an20 : Option Addr} {sl0 sl1 sl2 sl3 sl4 sl5 sl6 sl7 sl8 sl9 sl10 sl11 sl12 sl13 sl14 sl15 sl16 sl17 sl18 sl19 sl20 : Array (Option Value)} {oc0 kV0 dc0 pm0 cd0 ct0 oc1 kV1 dc1 pm1 cd1 ct1 oc2 kV2 dc2 pm2 cd2 ct2 oc3 kV3 dc3 pm3 cd3 ct3 oc4 kV4 dc4 pm4 cd4 ct4 oc5 kV5 dc5 pm5 cd5 ct5 oc6 kV6 dc6 pm6 cd6 ct6 oc7 kV7 dc7 pm7 cd7 ct7 oc8 kV8 dc8 pm8 cd8 ct8 oc9 kV9 dc9 pm9 cd9 ct9 oc10 kV10 dc10 pm10 cd10 ct10 oc11 kV11 dc11 pm11 cd11 ct11 oc12 kV12 dc12 pm12 cd12 ct12 oc13 kV13 dc13 pm13 cd13 ct13 oc14 kV14 dc14 pm14 cd14 ct14 oc15 kV15 dc15 pm15 cd15 ct15 oc16 kV16 dc16 pm16 cd16 ct16 oc17 kV17 dc17 pm17 cd17 ct17 oc18 kV18 dc18 pm18 cd18 ct18 oc19 kV19 dc19 pm19 cd19 ct19 oc20 kV20 dc20 pm20 cd20 ct20 : Value}
  (a0 : PySem.W.nsIn K mainGlobals "ways" = some (some (.ref f0))) (l0 : K.lookup f0 = some ⟨oc0, od0, .func (PySem.W.fnOf "ways" "ways" (defArgs s_ways) (defBody s_ways) (defScope s_ways) .none kV0 dc0 pm0 an0 cd0 ct0), sl0⟩) (c0 : PySem.W.codeIn K cd0 "ways" = true) (k0 : PySem.W.keepIn K (.ref f0) = true)
  (a1 : PySem.W.nsIn K mainGlobals "with_ways" = some (some (.ref f1))) (l1 : K.lookup f1 = some ⟨oc1, od1, .func (PySem.W.fnOf "with_ways" "with_ways" (defArgs s_with_ways) (defBody s_with_ways) (defScope s_with_ways) .none kV1 dc1 pm1 an1 cd1 ct1), sl1⟩) (c1 : PySem.W.codeIn K cd1 "with_ways" = true) (k1 : PySem.W.keepIn K (.ref f1) = true)
  (a2 : PySem.W.nsIn K mainGlobals "walked" = some (some (.ref f2))) (l2 : K.lookup f2 = some ⟨oc2, od2, .func (PySem.W.fnOf "walked" "walked" (defArgs s_walked) (defBody s_walked) (defScope s_walked) .none kV2 dc2 pm2 an2 cd2 ct2), sl2⟩) (c2 : PySem.W.codeIn K cd2 "walked" = true) (k2 : PySem.W.keepIn K (.ref f2) = true)
  (a3 : PySem.W.nsIn K mainGlobals "numbered" = some (some (.ref f3))) (l3 : K.lookup f3 = some ⟨oc3, od3, .func (PySem.W.fnOf "numbered" "numbered" (defArgs s_numbered) (defBody s_numbered) (defScope s_numbered) .none kV3 dc3 pm3 an3 cd3 ct3), sl3⟩) (c3 : PySem.W.codeIn K cd3 "numbered" = true) (k3 : PySem.W.keepIn K (.ref f3) = true)
  (a4 : PySem.W.nsIn K mainGlobals "landings" = some (some (.ref f4))) (l4 : K.lookup f4 = some ⟨oc4, od4, .func (PySem.W.fnOf "landings" "landings" (defArgs s_landings) (defBody s_landings) (defScope s_landings) .none kV4 dc4 pm4 an4 cd4 ct4), sl4⟩) (c4 : PySem.W.codeIn K cd4 "landings" = true) (k4 : PySem.W.keepIn K (.ref f4) = true)
  (a5 : PySem.W.nsIn K mainGlobals "linked" = some (some (.ref f5))) (l5 : K.lookup f5 = some ⟨oc5, od5, .func (PySem.W.fnOf "linked" "linked" (defArgs s_linked) (defBody s_linked) (defScope s_linked) .none kV5 dc5 pm5 an5 cd5 ct5), sl5⟩) (c5 : PySem.W.codeIn K cd5 "linked" = true) (k5 : PySem.W.keepIn K (.ref f5) = true)
  (a6 : PySem.W.nsIn K mainGlobals "graph_of" = some (some (.ref f6))) (l6 : K.lookup f6 = some ⟨oc6, od6, .func (PySem.W.fnOf "graph_of" "graph_of" (defArgs s_graph_of) (defBody s_graph_of) (defScope s_graph_of) .none kV6 dc6 pm6 an6 cd6 ct6), sl6⟩) (c6 : PySem.W.codeIn K cd6 "graph_of" = true) (k6 : PySem.W.keepIn K (.ref f6) = true)
  (a7 : PySem.W.nsIn K mainGlobals "_law_cell" = some (some (.ref f7))) (l7 : K.lookup f7 = some ⟨oc7, od7, .func (PySem.W.fnOf "_law_cell" "_law_cell" (defArgs s_Lcell) (defBody s_Lcell) (defScope s_Lcell) .none kV7 dc7 pm7 an7 cd7 ct7), sl7⟩) (c7 : PySem.W.codeIn K cd7 "_law_cell" = true) (k7 : PySem.W.keepIn K (.ref f7) = true)
  (a8 : PySem.W.nsIn K mainGlobals "_law_mixed" = some (some (.ref f8))) (l8 : K.lookup f8 = some ⟨oc8, od8, .func (PySem.W.fnOf "_law_mixed" "_law_mixed" (defArgs s_Lmixed) (defBody s_Lmixed) (defScope s_Lmixed) .none kV8 dc8 pm8 an8 cd8 ct8), sl8⟩) (c8 : PySem.W.codeIn K cd8 "_law_mixed" = true) (k8 : PySem.W.keepIn K (.ref f8) = true)
  (a9 : PySem.W.nsIn K mainGlobals "_law_names" = some (some (.ref f9))) (l9 : K.lookup f9 = some ⟨oc9, od9, .func (PySem.W.fnOf "_law_names" "_law_names" (defArgs s_Lnames) (defBody s_Lnames) (defScope s_Lnames) .none kV9 dc9 pm9 an9 cd9 ct9), sl9⟩) (c9 : PySem.W.codeIn K cd9 "_law_names" = true) (k9 : PySem.W.keepIn K (.ref f9) = true)
  (a10 : PySem.W.nsIn K mainGlobals "_law_operand" = some (some (.ref f10))) (l10 : K.lookup f10 = some ⟨oc10, od10, .func (PySem.W.fnOf "_law_operand" "_law_operand" (defArgs s_Loperand) (defBody s_Loperand) (defScope s_Loperand) .none kV10 dc10 pm10 an10 cd10 ct10), sl10⟩) (c10 : PySem.W.codeIn K cd10 "_law_operand" = true) (k10 : PySem.W.keepIn K (.ref f10) = true)
  (a11 : PySem.W.nsIn K mainGlobals "_law_row" = some (some (.ref f11))) (l11 : K.lookup f11 = some ⟨oc11, od11, .func (PySem.W.fnOf "_law_row" "_law_row" (defArgs s_Lrow) (defBody s_Lrow) (defScope s_Lrow) .none kV11 dc11 pm11 an11 cd11 ct11), sl11⟩) (c11 : PySem.W.codeIn K cd11 "_law_row" = true) (k11 : PySem.W.keepIn K (.ref f11) = true)
  (a12 : PySem.W.nsIn K mainGlobals "_law_rows" = some (some (.ref f12))) (l12 : K.lookup f12 = some ⟨oc12, od12, .func (PySem.W.fnOf "_law_rows" "_law_rows" (defArgs s_Lrows) (defBody s_Lrows) (defScope s_Lrows) .none kV12 dc12 pm12 an12 cd12 ct12), sl12⟩) (c12 : PySem.W.codeIn K cd12 "_law_rows" = true) (k12 : PySem.W.keepIn K (.ref f12) = true)
  (a13 : PySem.W.nsIn K mainGlobals "_law_alike" = some (some (.ref f13))) (l13 : K.lookup f13 = some ⟨oc13, od13, .func (PySem.W.fnOf "_law_alike" "_law_alike" (defArgs s_Lalike) (defBody s_Lalike) (defScope s_Lalike) .none kV13 dc13 pm13 an13 cd13 ct13), sl13⟩) (c13 : PySem.W.codeIn K cd13 "_law_alike" = true) (k13 : PySem.W.keepIn K (.ref f13) = true)
  (a14 : PySem.W.nsIn K mainGlobals "_law_come" = some (some (.ref f14))) (l14 : K.lookup f14 = some ⟨oc14, od14, .func (PySem.W.fnOf "_law_come" "_law_come" (defArgs s_Lcome) (defBody s_Lcome) (defScope s_Lcome) .none kV14 dc14 pm14 an14 cd14 ct14), sl14⟩) (c14 : PySem.W.codeIn K cd14 "_law_come" = true) (k14 : PySem.W.keepIn K (.ref f14) = true)
  (a15 : PySem.W.nsIn K mainGlobals "_law_due_ways" = some (some (.ref f15))) (l15 : K.lookup f15 = some ⟨oc15, od15, .func (PySem.W.fnOf "_law_due_ways" "_law_due_ways" (defArgs s_Ldue_ways) (defBody s_Ldue_ways) (defScope s_Ldue_ways) .none kV15 dc15 pm15 an15 cd15 ct15), sl15⟩) (c15 : PySem.W.codeIn K cd15 "_law_due_ways" = true) (k15 : PySem.W.keepIn K (.ref f15) = true)
  (a16 : PySem.W.nsIn K mainGlobals "_law_due_head" = some (some (.ref f16))) (l16 : K.lookup f16 = some ⟨oc16, od16, .func (PySem.W.fnOf "_law_due_head" "_law_due_head" (defArgs s_Ldue_head) (defBody s_Ldue_head) (defScope s_Ldue_head) .none kV16 dc16 pm16 an16 cd16 ct16), sl16⟩) (c16 : PySem.W.codeIn K cd16 "_law_due_head" = true) (k16 : PySem.W.keepIn K (.ref f16) = true)
  (a17 : PySem.W.nsIn K mainGlobals "_law_good_ways" = some (some (.ref f17))) (l17 : K.lookup f17 = some ⟨oc17, od17, .func (PySem.W.fnOf "_law_good_ways" "_law_good_ways" (defArgs s_Lgood_ways) (defBody s_Lgood_ways) (defScope s_Lgood_ways) .none kV17 dc17 pm17 an17 cd17 ct17), sl17⟩) (c17 : PySem.W.codeIn K cd17 "_law_good_ways" = true) (k17 : PySem.W.keepIn K (.ref f17) = true)
  (a18 : PySem.W.nsIn K mainGlobals "_law_side_by_side" = some (some (.ref f18))) (l18 : K.lookup f18 = some ⟨oc18, od18, .func (PySem.W.fnOf "_law_side_by_side" "_law_side_by_side" (defArgs s_Lside_by_side) (defBody s_Lside_by_side) (defScope s_Lside_by_side) .none kV18 dc18 pm18 an18 cd18 ct18), sl18⟩) (c18 : PySem.W.codeIn K cd18 "_law_side_by_side" = true) (k18 : PySem.W.keepIn K (.ref f18) = true)
  (a19 : PySem.W.nsIn K mainGlobals "_law_ring" = some (some (.ref f19))) (l19 : K.lookup f19 = some ⟨oc19, od19, .func (PySem.W.fnOf "_law_ring" "_law_ring" (defArgs s_Lring) (defBody s_Lring) (defScope s_Lring) .none kV19 dc19 pm19 an19 cd19 ct19), sl19⟩) (c19 : PySem.W.codeIn K cd19 "_law_ring" = true) (k19 : PySem.W.keepIn K (.ref f19) = true)
  (a20 : PySem.W.nsIn K mainGlobals "law" = some (some (.ref f20))) (l20 : K.lookup f20 = some ⟨oc20, od20, .func (PySem.W.fnOf "law" "law" (defArgs s_law) (defBody s_law) (defScope s_law) .none kV20 dc20 pm20 an20 cd20 ct20), sl20⟩) (c20 : PySem.W.codeIn K cd20 "law" = true) (k20 : PySem.W.keepIn K (.ref f20) = true)
  (z0 : PySem.W.nsIn K mainGlobals "tuple" = some none) (z1 : PySem.W.nsIn K mainGlobals "list" = some none) (z2 : PySem.W.nsIn K mainGlobals "dict" = some none) (z3 : PySem.W.nsIn K mainGlobals "enumerate" = some none) (z4 : PySem.W.nsIn K mainGlobals "range" = some none) (z5 : PySem.W.nsIn K mainGlobals "len" = some none) (z6 : PySem.W.nsIn K mainGlobals "isinstance" = some none) (z7 : PySem.W.nsIn K mainGlobals "str" = some none) (z8 : PySem.W.nsIn K mainGlobals "int" = some none) (z9 : PySem.W.nsIn K mainGlobals "bool" = some none) (z10 : PySem.W.nsIn K mainGlobals "min" = some none) (z11 : PySem.W.nsIn K mainGlobals "set" = some none) (z12 : PySem.W.nsIn K mainGlobals "zip" = some none)
  {tq0 : Tok} (q0 : PySem.W.nsIn K mainGlobals "MOST_NODES" = some (some (.int 40 tq0)))
  : ∃ t : Adr, Tx K mg t ∧ t.a_law = f20 ∧ ∀ (s : Shared) (v : Value), BindsTo s t.d_law ⟨[v], []⟩ [("_law_script", v)] := by
 have F0 := fun_mk (st := s_ways) l0 c0 k0
 have F1 := fun_mk (st := s_with_ways) l1 c1 k1
 have F2 := fun_mk (st := s_walked) l2 c2 k2
 have F3 := fun_mk (st := s_numbered) l3 c3 k3
 have F4 := fun_mk (st := s_landings) l4 c4 k4
 have F5 := fun_mk (st := s_linked) l5 c5 k5
 have F6 := fun_mk (st := s_graph_of) l6 c6 k6
 have F7 := fun_mk (st := s_Lcell) l7 c7 k7
 have F8 := fun_mk (st := s_Lmixed) l8 c8 k8
 have F9 := fun_mk (st := s_Lnames) l9 c9 k9
 have F10 := fun_mk (st := s_Loperand) l10 c10 k10
 have F11 := fun_mk (st := s_Lrow) l11 c11 k11
 have F12 := fun_mk (st := s_Lrows) l12 c12 k12
 have F13 := fun_mk (st := s_Lalike) l13 c13 k13
 have F14 := fun_mk (st := s_Lcome) l14 c14 k14
 have F15 := fun_mk (st := s_Ldue_ways) l15 c15 k15
 have F16 := fun_mk (st := s_Ldue_head) l16 c16 k16
 have F17 := fun_mk (st := s_Lgood_ways) l17 c17 k17
 have F18 := fun_mk (st := s_Lside_by_side) l18 c18 k18
 have F19 := fun_mk (st := s_Lring) l19 c19 k19
 have F20 := fun_mk (st := s_law) l20 c20 k20
 exact ⟨⟨f0, _, f1, _, f2, _, f3, _, f4, _, f5, _, f6, _, f7, _, f8, _, f9, _, f10, _, f11, _, f12, _, f13, _, f14, _, f15, _, f16, _, f17, _, f18, _, f19, _, f20, _⟩, ⟨F0, PySem.W.mg_of X G a0, k0, .all (ofLen1 (fun _ => rfl)),
  F1, PySem.W.mg_of X G a1, k1, .all (ofLen2 (fun _ _ => rfl)),
  F2, PySem.W.mg_of X G a2, k2, .all (ofLen2 (fun _ _ => rfl)),
  F3, PySem.W.mg_of X G a3, k3, .all (ofLen2 (fun _ _ => rfl)),
  F4, PySem.W.mg_of X G a4, k4, .all (ofLen2 (fun _ _ => rfl)),
  F5, PySem.W.mg_of X G a5, k5, .all (ofLen1 (fun _ => rfl)),
  F6, PySem.W.mg_of X G a6, k6, .all (ofLen1 (fun _ => rfl)),
  F7, PySem.W.mg_of X G a7, k7, .all (ofLen2 (fun _ _ => rfl)),
  F8, PySem.W.mg_of X G a8, k8, .all (ofLen2 (fun _ _ => rfl)),
  F9, PySem.W.mg_of X G a9, k9, .all (ofLen1 (fun _ => rfl)),
  F10, PySem.W.mg_of X G a10, k10, .all (ofLen3 (fun _ _ _ => rfl)),
  F11, PySem.W.mg_of X G a11, k11, .all (ofLen4 (fun _ _ _ _ => rfl)),
  F12, PySem.W.mg_of X G a12, k12, .all (ofLen2 (fun _ _ => rfl)),
  F13, PySem.W.mg_of X G a13, k13, .all (ofLen2 (fun _ _ => rfl)),
  F14, PySem.W.mg_of X G a14, k14, .all (ofLen3 (fun _ _ _ => rfl)),
  F15, PySem.W.mg_of X G a15, k15, .all (ofLen3 (fun _ _ _ => rfl)),
  F16, PySem.W.mg_of X G a16, k16, .all (ofLen1 (fun _ => rfl)),
  F17, PySem.W.mg_of X G a17, k17, .all (ofLen4 (fun _ _ _ _ => rfl)),
  F18, PySem.W.mg_of X G a18, k18, .all (ofLen2 (fun _ _ => rfl)),
  F19, PySem.W.mg_of X G a19, k19, .all (ofLen2 (fun _ _ => rfl)),
  F20, PySem.W.mg_of X G a20, k20, .all (ofLen1 (fun _ => rfl)),
  PySem.W.mg_none_of X G z0,
  PySem.W.mg_none_of X G z1,
  PySem.W.mg_none_of X G z2,
  PySem.W.mg_none_of X G z3,
  PySem.W.mg_none_of X G z4,
  PySem.W.mg_none_of X G z5,
  PySem.W.mg_none_of X G z6,
  PySem.W.mg_none_of X G z7,
  PySem.W.mg_none_of X G z8,
  PySem.W.mg_none_of X G z9,
  PySem.W.mg_none_of X G z10,
  PySem.W.mg_none_of X G z11,
  PySem.W.mg_none_of X G z12,
  ⟨_, PySem.W.mg_of X G q0⟩⟩, rfl, fun s v => .of_eq rfl⟩
set_option hygiene false
local macro_rules | `(tactic| walk_at "go") => do
 let ids := ("tss_nil tss_cons ts te tes teo tit tcd tbop tt op_add_i op_add_s op_add_t op_add_l op_sub_i op_mul_i op_mul_l op_fdiv_i op_mod_i op_pow_i cm_lt_i cm_gt_i cm_ge_i cm_eq cm_ne cm_in cm_notin cm_is_n cm_is_i cm_is_s cm_is_b cm_is_t cm_is_r eq_i eq_s eq_b eq_nn eq_is eq_si tru_b tru_i tru_n tru_t ix_t ix_g ix_s sl_s sl_t sl_l is_non is_bl is_int is_str is_tup tyNon tyBl tyInt tyStr tyTup tyLst tyDct bf_len_t bf_len_s bf_is bf_min bf_max bf_min1 bf_list bf_tuple bf_dict on_ref on_tup set_f at2_xy mt_append_r mt_get2_r mt_pop_r mt_reverse_r mt_index_r mk_append mk_pop mk_reverse mk_get2 mk_index tg_one tg_two it_r it_t it_g key_i key_s in_ss start0 List.map_cons List.map_nil List.length_cons List.length_nil List.cons_append List.nil_append List.append_nil List.replicate List.set_cons_zero List.set_cons_succ List.getElem?_cons_zero List.getElem?_cons_succ Nat.reduceAdd Nat.reduceSub Nat.sub_self Nat.zero_add decide_eq_true_eq ne_eq Int.reduceEq not_false_eq_true true_and Bool.not_eq_true' decide_eq_false_iff_not Bool.false_eq_true Bool.true_eq_false if_true if_false Bool.not_true Bool.not_false".splitOn " ").toArray.map fun s => Lean.mkIdent s.toName
 let gs ← (Array.range 28).mapM fun i => `(tactic| try simp only [$(Lean.mkIdent (Lean.Name.mkSimple s!"g{i}")):ident])
 `(tactic| ((try dsimp only [$[$ids:ident],*]); (try simp only [$[$ids:ident],*]); $[$gs:tactic];*))
local macro_rules | `(tactic| walk_at "ev") => `(tactic| (walk_at "go"; repeat (with_reducible refine rest_of ?_; walk_at "go")))
def Kp (M M' : Store) : Prop := ∃ N, M' = M ++ N
theorem Kp.refl (M : Store) : Kp M M := ⟨[], (List.append_nil M).symm⟩
theorem Kp.app {M M' : Store} (h : Kp M M') (N : Store) : Kp M (M' ++ N) := by obtain ⟨L, rfl⟩ := h; exact ⟨L ++ N, by rw [List.append_assoc]⟩
theorem Kp.trans {M M' M2 : Store} (h : Kp M M') (g : Kp M' M2) : Kp M M2 := by obtain ⟨L, rfl⟩ := h; obtain ⟨L2, rfl⟩ := g; exact ⟨L ++ L2, by rw [List.append_assoc]⟩
theorem Kp.new (M N : Store) : Kp M (M ++ N) := ⟨N, rfl⟩
theorem Kp.L {M M' : Store} {a : Nat} {xs : List D} (h : Kp M M') (e : readL M a = some xs) : readL M' a = some xs := by obtain ⟨L, rfl⟩ := h; exact readL_app e
theorem Kp.W {M M' : Store} {a : Nat} {xs : List D} (h : Kp M M') (e : readW M a = some xs) : readW M' a = some xs := by obtain ⟨L, rfl⟩ := h; exact readW_app e
def mixN (c k : Int) : Int := (c % 2147483647 * 48271 + 7919 * k * k + 104729) % 2147483647
def mix (c k : Int) : Int := mixN c k * mixN c k % 2147483629
theorem mixN_lo (c k : Int) : 0 ≤ mixN c k := Int.emod_nonneg _ (by decide)
theorem mixN_hi (c k : Int) : mixN c k < 2147483647 := Int.emod_lt_of_pos _ (by decide)
def cellI (ns : List Int) (k : Nat) : Int := ns.getD k 0
theorem qm {i j : Int} (h : 0 < j) : qmod i j = i % j := qmod_pos h
inductive Opd where
 | nm (x : Str) | no (i : Int)
def Opd.d : Opd → D
 | .nm x => .str x
 | .no i => .int i
inductive Nd where
 | sum (x : Str) (a : Opd) (sg : Str) (b : Opd) (t : Nat) | test (a : Opd) (sg : Str) (b : Opd) (y n : Nat) | fin | spin
def Nd.d : Nd → D
 | .sum x a sg b t => .tup [.str "sum", .str x, a.d, .str sg, b.d, .int t]
 | .test a sg b y n => .tup [.str "test", a.d, .str sg, b.d, .int y, .int n]
 | .fin => .tup [.str "end"]
 | .spin => .tup [.str "spin"]
def Opd.ok : Opd → Bool
 | .nm x => PyData.canLay0 (.str x)
 | .no _ => true
def Nd.ok : Nd → Bool
 | .sum x a sg b _ => PyData.canLay0 (.str x) && a.ok && PyData.canLay0 (.str sg) && b.ok
 | .test a sg b _ _ => a.ok && PyData.canLay0 (.str sg) && b.ok
 | .fin => true
 | .spin => true
def Nd.gs : Nd → List Nat
 | .sum _ _ _ _ t => [t]
 | .test _ _ _ y n => [n, y]
 | .fin => []
 | .spin => []
def Nd.to (f : Nat → Nat) : Nd → Nd
 | .sum x a sg b t => .sum x a sg b (f t)
 | .test a sg b y n => .test a sg b (f y) (f n)
 | .fin => .fin
 | .spin => .spin
theorem Nd.ok_to (f : Nat → Nat) (d : Nd) : (d.to f).ok = d.ok := by cases d <;> rfl
theorem Nd.gs_two (d : Nd) : d.gs.length ≤ 2 := by cases d <;> simp [Nd.gs]
def natD (l : List Nat) : List D := l.map fun (x : Nat) => D.int (x : Int)
theorem natD_len (l : List Nat) : (natD l).length = l.length := by unfold natD; simp
theorem natD_get {l : List Nat} {k x : Nat} (h : l[k]? = some x) : (natD l)[k]? = some (.int x) := by unfold natD; rw [List.getElem?_map, h]; rfl
theorem natD_app (l m : List Nat) : natD (l ++ m) = natD l ++ natD m := by unfold natD; rw [List.map_append]
theorem natD_flat (l : List Nat) : (natD l).all flatD = true := by
 rw [List.all_eq_true]
 intro d h
 unfold natD at h
 obtain ⟨x, _, rfl⟩ := List.mem_map.mp h
 rfl
theorem inD_nat (x : Nat) (l : List Nat) : inD (.int x) (natD l) = decide (x ∈ l) := by
 unfold inD natD
 rw [List.any_map]
 induction l with
 | nil => rfl
 | cons y r ih =>
  rw [List.any_cons, ih]
  show (((y : Int) == (x : Int)) || decide (x ∈ r)) = decide (x ∈ y :: r)
  by_cases h : x = y
  ·subst h; simp
  ·have h' : ¬ (y : Int) = (x : Int) := by omega
   simp [h, h']
theorem in_nat {M : Store} {a x : Nat} {l : List Nat} {B : Bool → Prop} (h : readL M a = some (natD l)) (q : B (decide (x ∈ l))) : inQ M (.int x) (.ref a) B :=
 .inl ⟨_, h, rfl, natD_flat l, by rw [inD_nat]; exact q⟩
def wy (gr : List Nd) (k : Nat) : List Nat := match gr[k]? with
 | some d => d.gs
 | none => []
theorem wy_at {gr : List Nd} {k : Nat} {d : Nd} (h : gr[k]? = some d) : wy gr k = d.gs := by unfold wy; rw [h]
theorem nds_at {gr : List Nd} {k : Nat} {d : Nd} (h : gr[k]? = some d) : (gr.map Nd.d)[k]? = some d.d := by rw [List.getElem?_map, h]; rfl
def spCell : DSp := fun ds M Q _ => ∃ (a : Nat) (ns : List Int) (k : Nat), ds = [.ref a, .int k] ∧ readL M a = some (ns.map .int) ∧ Q (.int (cellI ns k)) M
def spMixed : DSp := fun ds M Q _ => ∃ c k : Int, ds = [.int c, .int k] ∧ 0 ≤ k ∧ k ≤ 1000 ∧ Q (.int (mix c k)) M
section
variable {K : PySem.W.Frag}
theorem r_Lcell {Γ G} : ∀ ds M Q Z, spCell ds M Q Z → tss ⟨K, Γ, G⟩ noX b_Lcell { nx := fun _ M => Q .non M, rt := Q } (start0 N_Lcell ds) M := by
 rintro ds M Q Z ⟨a, ns, k, rfl, hm, q⟩
 simp only [b_Lcell, b_Lcell_1, N_Lcell]
 walk_at "ev"
 refine bf_len_l hm ?_
 walk_at "ev"
 split
 ·rename_i h
  have hk : k < ns.length := by simpa using h
  refine ix_l hm (by rw [List.getElem?_map, List.getElem?_eq_getElem hk]; rfl) ?_
  have e : cellI ns k = ns[k] := by unfold cellI; rw [List.getD_eq_getElem?_getD, List.getElem?_eq_getElem hk]; rfl
  rw [e] at q
  exact q
 ·rename_i h
  have hk : ns.length ≤ k := by simpa using h
  have e : cellI ns k = 0 := by unfold cellI; rw [List.getD_eq_getElem?_getD, List.getElem?_eq_none hk]; rfl
  rw [e] at q
  exact q
theorem r_Lmixed {Γ G} : ∀ ds M Q Z, spMixed ds M Q Z → tss ⟨K, Γ, G⟩ noX b_Lmixed { nx := fun _ M => Q .non M, rt := Q } (start0 N_Lmixed ds) M := by
 rintro ds M Q Z ⟨c, k, rfl, h0, h1, q⟩
 simp only [b_Lmixed, N_Lmixed]
 walk_at "ev"
 rw [qm (by decide), qm (by decide)]
 have m1 := mixN_lo c k
 have m2 := mixN_hi c k
 refine ⟨mulR (by decide) (by decide), mulL (by decide) (by decide), mulR (by omega) (by omega), ?_⟩
 walk_at "ev"
 rw [qm (by decide)]
 exact ⟨mulL (by show -(2 ^ 64) < mixN c k; omega) (by show mixN c k < 2 ^ 64; omega), q⟩
end
theorem natD_snoc (l : List Nat) (x : Nat) : natD (l ++ [x]) = natD l ++ [.int (x : Nat)] := natD_app _ _
def gra (raw : List Nd) (O : List Nat) : List Nd := O.map fun x => (raw.getD x .fin).to fun y => O.idxOf y
theorem gra_len (raw : List Nd) (O : List Nat) : (gra raw O).length = O.length := by unfold gra; simp
theorem gra_get {raw : List Nd} {O : List Nat} {i x : Nat} {d : Nd} (h : O[i]? = some x) (hd : raw[x]? = some d) : (gra raw O)[i]? = some (d.to fun y => O.idxOf y) := by
 unfold gra
 rw [List.getElem?_map, h, Option.map_some, List.getD_eq_getElem?_getD, hd]
 rfl
theorem take_snoc {α : Type} {l : List α} {i : Nat} {x : α} (h : l[i]? = some x) : l.take (i + 1) = l.take i ++ [x] := by
 obtain ⟨h1, h2⟩ := List.getElem?_eq_some_iff.mp h
 rw [← h2]
 exact List.take_succ_eq_append_getElem h1
def begD (B : List Nat) : List (Key × D) := B.map fun (x : Nat) => ((Sum.inl (x : Int), D.bl true) : Key × D)
theorem begD_len (B : List Nat) : (begD B).length = B.length := by unfold begD; simp
theorem begD_in (B : List Nat) (y : Nat) : (valD (begD B) (Sum.inl (y : Int))).isSome = decide (y ∈ B) := by
 unfold valD begD
 induction B with
 | nil => rfl
 | cons x r ih =>
  rw [List.map_cons, List.find?_cons]
  by_cases e : x = y
  ·subst e; simp
  ·have : decide ((Sum.inl (x : Int) : Key) = Sum.inl (y : Int)) = false := by
    rw [decide_eq_false_iff_not]; intro z; exact e (by have := Sum.inl.inj z; omega)
   rw [this]
   simp only
   rw [ih]
   have e' : ¬ y = x := fun z => e z.symm
   simp [e']
theorem begD_put {B : List Nat} {y : Nat} (h : ¬ y ∈ B) : putD (begD B) (Sum.inl (y : Int)) (.bl true) = begD (B ++ [y]) := by
 unfold putD
 rw [if_neg]
 try walk_at "ev"
 ·unfold begD; rw [List.map_append]; rfl
 ·intro z
  obtain ⟨kv, h1, h2⟩ := List.any_eq_true.mp z
  unfold begD at h1
  obtain ⟨x, hx, rfl⟩ := List.mem_map.mp h1
  rw [decide_eq_true_eq] at h2
  have := Sum.inl.inj h2
  have e : x = y := by omega
  exact h (e ▸ hx)
def opD (b : Nat) (O : List (Nat × Nat × List Nat)) : List D := O.map fun p => .tup [.int (p.1 : Nat), .ref (b + 3 + p.2.1)]
theorem opD_len (b : Nat) (O : List (Nat × Nat × List Nat)) : (opD b O).length = O.length := by unfold opD; simp
theorem opD_snoc (b : Nat) (O : List (Nat × Nat × List Nat)) (x j : Nat) (r : List Nat) : opD b (O ++ [(x, j, r)]) = opD b O ++ [.tup [.int (x : Nat), .ref (b + 3 + j)]] := by unfold opD; rw [List.map_append]; rfl
def toW (O : List (Nat × Nat × List Nat)) : List (Nat × List Nat) := O.reverse.map fun p => (p.1, p.2.2)
theorem toW_snoc (O : List (Nat × Nat × List Nat)) (x j : Nat) (r : List Nat) : toW (O ++ [(x, j, r)]) = (x, r) :: toW O := by unfold toW; rw [List.reverse_append]; rfl
structure Lay (L : Store) (O : List (Nat × Nat × List Nat)) : Prop where
 at_ : ∀ p ∈ O, L[p.2.1]? = some (.lst (natD p.2.2.reverse))
 nd : (O.map (·.2.1)).Nodup
theorem Lay.app {L : Store} {O : List (Nat × Nat × List Nat)} (h : Lay L O) (N : Store) : Lay (L ++ N) O :=
 ⟨fun p hp => by have := h.at_ p hp; rw [List.getElem?_append_left (List.getElem?_eq_some_iff.mp this).1]; exact this, h.nd⟩
theorem Lay.init {L : Store} {O : List (Nat × Nat × List Nat)} {q : Nat × Nat × List Nat} (h : Lay L (O ++ [q])) : Lay L O :=
 ⟨fun p hp => h.at_ p (List.mem_append_left _ hp), by have := h.nd; rw [List.map_append] at this; exact (List.nodup_append.mp this).1⟩
theorem Lay.down {L : Store} {O : List (Nat × Nat × List Nat)} {x j : Nat} {r r' : List Nat} (h : Lay L (O ++ [(x, j, r)])) : Lay (L.set j (.lst (natD r'.reverse))) (O ++ [(x, j, r')]) := by
 have nd := h.nd
 rw [List.map_append] at nd
 refine ⟨fun p hp => ?_, by rw [List.map_append]; exact nd⟩
 try walk_at "ev"
 have hj : j < L.length := (List.getElem?_eq_some_iff.mp (h.at_ (x, j, r) (by simp))).1
 rcases List.mem_append.mp hp with hp | hp
 ·have ne : j ≠ p.2.1 := fun e => (List.nodup_append.mp nd).2.2 p.2.1 (List.mem_map.mpr ⟨p, hp, rfl⟩) j (by simp) e.symm
  rw [List.getElem?_set_ne ne]
  exact h.at_ p (List.mem_append_left _ hp)
 ·rw [List.mem_singleton] at hp
  subst hp
  rw [List.getElem?_set_self hj]
theorem Lay.up {L : Store} {O : List (Nat × Nat × List Nat)} {x : Nat} {r : List Nat} (h : Lay L O) : Lay (L ++ [.lst (natD r.reverse)]) (O ++ [(x, L.length, r)]) := by
 refine ⟨fun p hp => ?_, ?_⟩
 ·rcases List.mem_append.mp hp with hp | hp
  ·exact (h.app _).at_ p hp
  ·rw [List.mem_singleton] at hp
   subst hp
   simp
 ·rw [List.map_append]
  refine List.nodup_append.mpr ⟨h.nd, by simp, fun a ha c hc => ?_⟩
  try walk_at "ev"
  obtain ⟨p, hp, rfl⟩ := List.mem_map.mp ha
  have := (List.getElem?_eq_some_iff.mp (h.at_ p hp)).1
  have hc : c = L.length := by simpa using hc
  omega
theorem eq_nat_nil {M : Store} {x y : Nat} {l : List Nat} {B : Bool → Prop} (h1 : readL M x = some (natD l)) (h2 : readL M y = some []) (q : B l.isEmpty) : eqD M (.ref x) (.ref y) B := by
 have pd : ∀ l : List Nat, PDs M (l.map fun (x : Nat) => PyData.int (x : Int)) (natD l) := by
  intro l
  induction l with
  | nil => rfl
  | cons x r ih => exact ⟨_, _, rfl, rfl, ih⟩
 have lay : ∀ l : List Nat, PyData.canLayAll0 (l.map fun (x : Nat) => PyData.int (x : Int)) = true := by
  intro l
  induction l with
  | nil => rw [List.map_nil, PyData.canLayAll0]
  | cons x r ih => rw [List.map_cons]; unfold PyData.canLayAll0; rw [ih]; rfl
 refine .inl ⟨.list (l.map fun (x : Nat) => PyData.int (x : Int)), .list [], ⟨x, _, rfl, h1, pd l⟩, ⟨y, _, rfl, h2, rfl⟩, lay l, rfl, ?_, ?_⟩
 ·exact Nat.le_trans (Nat.min_le_right _ _) (by decide)
 ·cases l with
  | nil => exact q
  | cons p r => exact q
theorem atI_last {α : Type} (xs : List α) (d : α) : atI (xs ++ [d]) (-1) = some d := by
 have h : ixN (xs ++ [d]).length (-1) = some xs.length := by
  unfold ixN
  rw [if_neg (by omega), if_pos (by rw [List.length_append, List.length_singleton]; omega)]
  try walk_at "ev"
  congr 1
  rw [List.length_append, List.length_singleton]
  omega
 unfold atI
 rw [h]
 simp
def gw (gs : List (List Nat)) (y : Nat) : List Nat := (gs.getD y []).reverse
def spWalked : DSp := fun ds M Q _ => ∃ (a b x : Nat) (gs : List (List Nat)), ds = [.ref a, .ref b] ∧ readL M a = some (gs.map fun l => .tup (natD l)) ∧ readL M b = some [.int (x : Nat)] ∧ x < gs.length ∧ gs.length ≤ 2000 ∧ (∀ l ∈ gs, l.length ≤ 2 ∧ ∀ t ∈ l, t < gs.length) ∧
 ∀ d M' r, ND.Ends (gw gs) x d → Kp M M' → readW M' r = some (natD d.reverse) → M.length ≤ r → Q (.ref r) M'
section
variable {K : PySem.W.Frag}
theorem walk_step {Γ G} {M : Store} {a b x0 : Nat} {gs : List (List Nat)} (hr : readL M a = some (gs.map fun l => .tup (natD l))) (h1 : gs.length ≤ 2000) (hg : ∀ l ∈ gs, l.length ≤ 2 ∧ ∀ t ∈ l, t < gs.length)
  {B F : List Nat} {O : List (Nat × Nat × List Nat)} {x j : Nat} {r : List Nat} {L : Store} {Q : DK} {C bk : DEnv → Store → Prop} {d4 d6 d7 d8 : Option D} (ok : ND.Ok (gw gs) x0 ⟨B, toW (O ++ [(x, j, r)]), F⟩) (i : ND.In (· < gs.length) ⟨B, toW (O ++ [(x, j, r)]), F⟩) (lay : Lay L (O ++ [(x, j, r)]))
  (q : ∀ B2 O2 F2 L2 d6 d7 d8, ND.stp (gw gs) ⟨B, toW (O ++ [(x, j, r)]), F⟩ = ⟨B2, toW O2, F2⟩ → Lay L2 O2 → C [some (.ref a), some (.ref b), some (.ref M.length), some (.ref (M.length + 1)), d4, some (.ref (M.length + 2)), d6, d7, d8] (M ++ .dct (begD B2) :: .lst (natD F2) :: .lst (opD M.length O2) :: L2)) :
  tss ⟨K, Γ, G⟩ noX b_walked_2 { nx := C, rt := Q, bk := bk, ct := C } [some (.ref a), some (.ref b), some (.ref M.length), some (.ref (M.length + 1)), d4, some (.ref (M.length + 2)), d6, d7, d8] (M ++ .dct (begD B) :: .lst (natD F) :: .lst (opD M.length (O ++ [(x, j, r)])) :: L) := by
 have rO : ∀ bb f o N', readL (M ++ .dct bb :: .lst f :: .lst o :: N') (M.length + 2) = some o := fun bb f o N' => by rw [readL_endk]; rfl
 have wO : ∀ bb f o N', readW (M ++ .dct bb :: .lst f :: .lst o :: N') (M.length + 2) = some o := fun bb f o N' => by rw [readW_endk]; rfl
 have rF : ∀ bb f N', readL (M ++ .dct bb :: .lst f :: N') (M.length + 1) = some f := fun bb f N' => by rw [readL_endk]; rfl
 have wF : ∀ bb f N', readW (M ++ .dct bb :: .lst f :: N') (M.length + 1) = some f := fun bb f N' => by rw [readW_endk]; rfl
 have rB : ∀ bb N', readD (M ++ .dct bb :: N') M.length = some bb := fun bb N' => readD_end _ _ _
 have hj := lay.at_ (x, j, r) (by simp)
 have wJ : ∀ bb f o N', readW (M ++ .dct bb :: .lst f :: .lst o :: (L ++ N')) (M.length + 3 + j) = some (natD r.reverse) := fun bb f o N' => by
  rw [Nat.add_assoc, readW_endk, Nat.add_comm 3 j]
  show readW (L ++ N') j = _
  unfold readW
  rw [List.getElem?_append_left (List.getElem?_eq_some_iff.mp hj).1, hj]
 simp only [b_walked_2]
 walk_at "ev"
 have last : atI (opD M.length (O ++ [(x, j, r)])) (-1) = some (.tup [.int (x : Nat), .ref (M.length + 3 + j)]) := by
  rw [opD_snoc]; exact atI_last _ _
 refine .inl ⟨_, -1, _, rfl, rO _ _ _ _, last, ?_⟩
 walk_at "ev"
 rw [List.append_assoc]
 simp only [List.cons_append]
 have el : (M ++ .dct (begD B) :: .lst (natD F) :: .lst (opD M.length (O ++ [(x, j, r)])) :: L).length = M.length + (L.length + 3) := by simp
 rw [el]
 have rE : ∀ bb f o, readL (M ++ .dct bb :: .lst f :: .lst o :: (L ++ [.lst []])) (M.length + (L.length + 3)) = some [] := fun bb f o => by rw [readL_endk]; exact readL_end L _ []
 refine ⟨sizeLine_ge (by decide), eq_nat_nil (readW_readL (wJ _ _ _ _)) (rE _ _ _) ?_⟩
 try walk_at "ev"
 have room : (toW (O ++ [(x, j, r)])).length + F.length ≤ gs.length := by
  have := ND.nodup_len gs.length _ ok.nd fun y hy => by
   rcases List.mem_append.mp hy with hy | hy
   ·obtain ⟨p, hp, rfl⟩ := List.mem_map.mp hy
    exact (i.s p hp).1
   ·exact i.d y hy
  rw [List.length_append, List.length_map] at this
  exact this
 have lw : ∀ O, (toW O).length = O.length := fun O => by unfold toW; simp
 rw [lw, List.length_append, List.length_singleton] at room
 have roomB : B.length ≤ gs.length := ND.nodup_len gs.length B ok.nb i.b
 have tS := toW_snoc O x j r
 cases r with
 | nil =>
  rw [if_pos (by simp)]
  try walk_at "ev"
  refine ⟨isSome_of (rF _ _ _), _, wF _ _ _, by rw [natD_len]; exact sizeLine_gt (by omega), ?_⟩
  try walk_at "ev"
  rw [set_endk, ← natD_snoc]
  simp only [List.set_cons_succ, List.set_cons_zero]
  refine ⟨isSome_of (rO _ _ _ _), _, .tup [.int (x : Nat), .ref (M.length + 3 + j)], wO _ _ _ _, by rw [opD_snoc]; simp, ?_⟩
  try walk_at "ev"
  rw [set_endk, opD_snoc, List.dropLast_concat]
  simp only [List.set_cons_succ, List.set_cons_zero]
  exact q B O (F ++ [x]) _ _ _ _ (by rw [tS]; rfl) (lay.init.app _)
 | cons t r =>
  rw [if_neg (by simp)]
  try walk_at "ev"
  have eR : natD (t :: r).reverse = natD r.reverse ++ [.int (t : Nat)] := by rw [List.reverse_cons]; exact natD_snoc _ _
  refine ⟨isSome_of (readW_readL (wJ _ _ _ _)), _, .int (t : Nat), wJ _ _ _ _, by rw [eR]; simp, ?_⟩
  try walk_at "ev"
  rw [eR, List.dropLast_concat]
  have sJ : ∀ bb f o c, (M ++ .dct bb :: .lst f :: .lst o :: (L ++ [.lst []]) : Store).set (M.length + 3 + j) c = M ++ .dct bb :: .lst f :: .lst o :: (L.set j c ++ [.lst []]) := fun bb f o c => by
   rw [Nat.add_assoc, set_endk, Nat.add_comm 3 j]
   simp only [List.set_cons_succ]
   rw [List.set_append_left _ _ (List.getElem?_eq_some_iff.mp hj).1]
  rw [sJ]
  walk_at "ev"
  have hx := i.s (x, t :: r) (by rw [tS]; exact List.mem_cons_self)
  have htn : t < gs.length := hx.2 t List.mem_cons_self
  have ld := (lay.down (r' := r)).app [.lst []]
  have eO : opD M.length (O ++ [(x, j, t :: r)]) = opD M.length (O ++ [(x, j, r)]) := by rw [opD_snoc, opD_snoc]
  rw [eO]
  generalize hL' : L.set j (.lst (natD r.reverse)) ++ [.lst []] = L' at ld
  refine .inr ⟨begD B, _, rB _ _, rfl, ?_⟩
  try walk_at "ev"
  rw [begD_in]
  by_cases hb : t ∈ B
  ·rw [decide_eq_true hb]
   try dsimp only
   rw [if_neg (by decide)]
   try walk_at "ev"
   exact q B (O ++ [(x, j, r)]) F _ _ _ _ (by rw [tS, toW_snoc]; show (if t ∈ B then _ else _) = _; rw [if_pos hb]) ld
  ·rw [decide_eq_false hb]
   try dsimp only
   rw [if_pos rfl]
   try walk_at "ev"
   have hB1 : (B ++ [t]).length ≤ gs.length := ND.nodup_len gs.length (B ++ [t]) (List.nodup_append.mpr ⟨ok.nb, by simp, fun a ha c hc => by rw [List.mem_singleton] at hc; subst hc; exact fun e => hb (e ▸ ha)⟩) fun u hu => by
    rcases List.mem_append.mp hu with hu | hu
    ·exact i.b u hu
    ·rw [List.mem_singleton] at hu; subst hu; exact htn
   rw [List.length_append, List.length_singleton] at hB1
   refine .inr ⟨begD B, _, rB _ _, rfl, by rw [begD_len]; exact sizeLine_gt (by omega), ?_⟩
   try walk_at "ev"
   rw [begD_put hb, set_end]
   obtain ⟨l, hl⟩ : ∃ l, gs[t]? = some l := ⟨_, List.getElem?_eq_getElem htn⟩
   have el2 : (M ++ .dct (begD (B ++ [t])) :: .lst (natD F) :: .lst (opD M.length (O ++ [(x, j, r)])) :: L').length = M.length + 3 + L'.length := by simp; omega
   refine ⟨isSome_of (rO _ _ _ _), ix_l (k := t) (readL_app hr) (by rw [List.getElem?_map, hl]; rfl) ⟨natD l, rfl, sizeLine_ge (by decide), ?_⟩⟩
   rw [List.append_assoc]
   simp only [List.cons_append]
   refine ⟨_, wO _ _ _ _, by rw [opD_len, List.length_append, List.length_singleton]; exact sizeLine_gt (by omega), ?_⟩
   try walk_at "ev"
   rw [set_endk, el2]
   simp only [List.set_cons_succ, List.set_cons_zero]
   have eg : (gw gs t).reverse = l := by unfold gw; rw [List.reverse_reverse, List.getD_eq_getElem?_getD, hl]; rfl
   have eo : opD M.length (O ++ [(x, j, r)]) ++ [.tup [.int (t : Nat), .ref (M.length + 3 + L'.length)]] = opD M.length (O ++ [(x, j, r)] ++ [(t, L'.length, gw gs t)]) := (opD_snoc _ _ _ _ _).symm
   rw [eo]
   have lu := ld.up (x := t) (r := gw gs t)
   rw [eg] at lu
   exact q (B ++ [t]) (O ++ [(x, j, r)] ++ [(t, L'.length, gw gs t)]) F _ _ _ _ (by rw [tS, toW_snoc, toW_snoc]; show (if t ∈ B then _ else _) = _; rw [if_neg hb]) lu
theorem gw_two {gs : List (List Nat)} (hg : ∀ l ∈ gs, l.length ≤ 2 ∧ ∀ t ∈ l, t < gs.length) (y : Nat) : (gw gs y).length ≤ 2 ∧ ∀ t ∈ gw gs y, t < gs.length := by
 unfold gw
 rw [List.getD_eq_getElem?_getD]
 cases e : gs[y]? with
 | none => simp
 | some l =>
  obtain ⟨h1, h2⟩ := hg l (List.mem_of_getElem? e)
  exact ⟨by simpa using h1, fun t ht => h2 t (by simpa using ht)⟩
theorem r_walked {Γ G} : ∀ ds M Q Z, spWalked ds M Q Z → tss ⟨K, Γ, G⟩ noX b_walked { nx := fun _ M => Q .non M, rt := Q } (start0 N_walked ds) M := by
 rintro ds M Q Z ⟨a, b, x, gs, rfl, hr, hb, hx, h1, hg, q⟩
 have two := gw_two hg
 simp only [b_walked, N_walked]
 walk_at "ev"
 rw [List.append_assoc, List.cons_append, List.nil_append, List.length_append, List.length_cons, List.length_nil]
 refine ⟨sizeLine_ge (by decide), _, readL_app hb, ?_⟩
 try walk_at "ev"
 refine forD_by (fun i σ M' => (i = 0 ∧ σ = [some (.ref a), some (.ref b), some (.ref M.length), some (.ref (M.length + 1)), none, none, none, none, none] ∧ M' = M ++ [.dct [], .lst []]) ∨
   (i = 1 ∧ ∃ B F L d4 d5 d6 d7 d8, σ = [some (.ref a), some (.ref b), some (.ref M.length), some (.ref (M.length + 1)), d4, d5, d6, d7, d8] ∧ M' = M ++ .dct (begD B) :: .lst (natD F) :: L ∧ ND.Ends (gw gs) x F)) (.inl ⟨rfl, rfl, rfl⟩) ?_ ?_ ?_
 ·rintro i σ M' _ (⟨rfl, rfl, rfl⟩ | ⟨rfl, B, F, L, d4, d5, d6, d7, d8, rfl, rfl, _⟩)
  ·exact readL_app hb
  ·exact readL_app hb
 ·rintro i dx σ M' C hxi (⟨rfl, rfl, rfl⟩ | ⟨rfl, _⟩) hC
  ·cases hxi
   simp only [b_walked_4]
   walk_at "ev"
   have e2 : (M ++ [.dct [], .lst []] : Store).length = M.length + 2 := by simp
   have e1 : (M ++ [.dct [], .lst []] ++ [.lst []] : Store) = M ++ .dct (begD []) :: .lst (natD []) :: .lst (opD M.length []) :: [] := by rw [List.append_assoc]; rfl
   rw [e1, e2]
   refine ⟨sizeLine_ge (by decide), .inr ⟨begD [], _, readD_end _ _ _, rfl, ?_⟩⟩
   try walk_at "ev"
   rw [begD_in, decide_eq_false (by simp)]
   try dsimp only
   rw [if_pos rfl]
   try walk_at "ev"
   obtain ⟨l, hl⟩ : ∃ l, gs[x]? = some l := ⟨_, List.getElem?_eq_getElem hx⟩
   refine .inr ⟨begD [], _, readD_end _ _ _, rfl, by rw [begD_len]; exact sizeLine_gt (by simp), ?_⟩
   try walk_at "ev"
   rw [begD_put (by simp), set_end]
   refine ⟨isSome_of (by rw [readL_endk]; rfl), ix_l (k := x) (readL_app hr) (by rw [List.getElem?_map, hl]; rfl) ⟨natD l, rfl, sizeLine_ge (by decide), ?_⟩⟩
   rw [List.append_assoc]
   simp only [List.cons_append, List.nil_append]
   refine ⟨_, by rw [readW_endk]; rfl, by rw [opD_len]; exact sizeLine_gt (by simp), ?_⟩
   try walk_at "ev"
   rw [set_endk]
   simp only [List.set_cons_succ, List.set_cons_zero]
   have el2 : (M ++ [.dct (begD [x]), .lst (natD []), .lst (opD M.length [])] : Store).length = M.length + 3 + 0 := by simp
   rw [el2]
   have eg : (gw gs x).reverse = l := by unfold gw; rw [List.reverse_reverse, List.getD_eq_getElem?_getD, hl]; rfl
   have eo : opD M.length [] ++ [.tup [.int (x : Nat), .ref (M.length + 3 + 0)]] = opD M.length [(x, 0, gw gs x)] := rfl
   rw [eo]
   simp only [b_walked_3]
   walk_at "ev"
   have in0 : ND.In (· < gs.length) ⟨[x], [(x, gw gs x)], []⟩ := ⟨fun y hy => by rw [List.mem_singleton] at hy; subst hy; exact hx, fun p hp => by rw [List.mem_singleton] at hp; subst hp; exact ⟨hx, (two x).2⟩, fun y hy => by simp at hy⟩
   have inK : ∀ k, ND.In (· < gs.length) (ND.itr (gw gs) k ⟨[x], [(x, gw gs x)], []⟩) := fun k => by
    induction k with
    | zero => exact in0
    | succ k ih => exact ih.stp fun y _ t ht => (two y).2 t ht
   refine ⟨fun m σ M' => ∃ B O F L d6 d7 d8 k, m = ND.mea gs.length ⟨B, toW O, F⟩ ∧ σ = [some (.ref a), some (.ref b), some (.ref M.length), some (.ref (M.length + 1)), some (.int (x : Nat)), some (.ref (M.length + 2)), d6, d7, d8] ∧ M' = M ++ .dct (begD B) :: .lst (natD F) :: .lst (opD M.length O) :: L ∧ ND.itr (gw gs) k ⟨[x], [(x, gw gs x)], []⟩ = ⟨B, toW O, F⟩ ∧ Lay L O,
    ⟨_, [x], [(x, 0, gw gs x)], [], [.lst (natD l)], none, none, none, 0, rfl, rfl, rfl, rfl, by rw [← eg]; exact ⟨fun p hp => by rw [List.mem_singleton] at hp; subst hp; rfl, by simp⟩⟩, ?_⟩
   rintro m σ M' ⟨B, O, F, L, d6, d7, d8, k, rfl, rfl, rfl, ek, lay⟩
   walk_at "ev"
   have ok := (ND.Ok.begin (gw gs) x).itr k
   have inn := inK k
   rw [ek] at ok inn
   refine .inl ⟨opD M.length O, by rw [readL_endk]; rfl, ?_⟩
   try walk_at "ev"
   try dsimp only
   by_cases hO : O = []
   ·subst hO
    rw [if_neg (by simp [opD])]
    try walk_at "ev"
    exact hC _ _ (.inr ⟨rfl, B, F, _, _, _, _, _, _, rfl, rfl, k, B, ek⟩)
   ·have hne : (!(opD M.length O).isEmpty) = true := by
     cases O with
     | nil => exact absurd rfl hO
     | cons _ _ => rfl
    rw [if_pos (by simpa using hne)]
    try walk_at "ev"
    obtain ⟨O', ⟨y, j, r⟩, rfl⟩ : ∃ O' p, O = O' ++ [p] := ⟨O.dropLast, O.getLast hO, (List.dropLast_concat_getLast hO).symm⟩
    refine walk_step hr h1 hg ok inn lay fun B2 O2 F2 L2 d6 d7 d8 es lay2 => ?_
    try walk_at "ev"
    refine ⟨ND.mea gs.length ⟨B2, toW O2, F2⟩, ?_, B2, O2, F2, L2, d6, d7, d8, k + 1, rfl, rfl, rfl, ?_, lay2⟩
    ·rw [← es]
     exact ND.mea_stp ok inn (fun y => (two y).1) (by rw [toW_snoc]; simp)
    ·show ND.stp (gw gs) (ND.itr (gw gs) k _) = _
     rw [ek, es]
  ·simp at hxi
 ·rintro σ M' (⟨h, _⟩ | ⟨_, B, F, L, d4, d5, d6, d7, d8, rfl, rfl, en⟩)
  ·simp at h
  ·simp only [b_walked_1]
   walk_at "ev"
   have wF : readW (M ++ .dct (begD B) :: .lst (natD F) :: L) (M.length + 1) = some (natD F) := by rw [readW_endk]; rfl
   refine ⟨isSome_of (readW_readL wF), _, wF, ?_⟩
   try walk_at "ev"
   rw [set_endk]
   simp only [List.set_cons_succ, List.set_cons_zero]
   refine q F _ _ en (Kp.new _ _) ?_ (by omega)
   try walk_at "ev"
   rw [readW_endk]
   show some (natD F).reverse = _
   unfold natD
   rw [List.map_reverse]
end
def spWays : DSp := fun ds M Q _ => ∃ d : Nd, ds = [d.d] ∧ Q (.tup (natD d.gs.reverse)) M
def spWith : DSp := fun ds M Q _ => ∃ (d : Nd) (f : Nat → Nat) (g : Nat), ds = [d.d, .ref g] ∧ readL M g = some (natD (d.gs.reverse.map f)) ∧ Q (d.to f).d M
def spNumbered : DSp := fun ds M Q _ => ∃ (a b : Nat) (nds : List Nd) (O : List Nat), ds = [.ref a, .ref b] ∧ readL M a = some (nds.map Nd.d) ∧ readL M b = some (natD O) ∧ O.Nodup ∧ O.length ≤ 2000 ∧ (∀ x ∈ O, x < nds.length) ∧ (∀ x ∈ O, ∀ t ∈ wy nds x, t ∈ O) ∧
 ∀ M' r, Kp M M' → readW M' r = some ((gra nds O).map Nd.d) → M.length ≤ r → Q (.ref r) M'
def numP (O : List Nat) : List (Key × D) := O.mapIdx fun i (x : Nat) => ((Sum.inl (x : Int), D.int (i : Nat)) : Key × D)
theorem numP_snoc (O : List Nat) (y : Nat) : numP (O ++ [y]) = numP O ++ [(Sum.inl (y : Int), D.int (O.length : Nat))] := by unfold numP; rw [List.mapIdx_append]; simp
theorem numP_len (O : List Nat) : (numP O).length = O.length := by unfold numP; simp
theorem valD_put (m : List (Key × D)) (k j : Key) (v : D) : valD (putD m k v) j = if k = j then some v else valD m j := by
 unfold putD
 split
 ·rename_i h
  unfold valD
  induction m with
  | nil => simp at h
  | cons p r ih =>
   rw [List.map_cons, List.find?_cons, List.find?_cons]
   by_cases hp : p.1 = k
   ·rw [if_pos hp]
    try walk_at "ev"
    by_cases hj : k = j
    ·subst hj; simp [hp]
    ·have : decide (p.1 = j) = false := by rw [decide_eq_false_iff_not, hp]; exact hj
     simp only [this]
     rw [if_neg hj]
     try walk_at "ev"
     by_cases hr : (r.any fun kv => decide (kv.1 = k)) = true
     ·have := ih hr; rw [if_neg hj] at this; exact this
     ·have hn : r.map (fun kv => if kv.1 = k then (kv.1, v) else kv) = r := by
       rw [List.map_congr_left (g := id)]
       ·simp
       ·intro kv hkv
        rw [if_neg]
        try walk_at "ev"
        ·rfl
        ·intro z; exact hr (List.any_eq_true.mpr ⟨kv, hkv, by simpa using z⟩)
      rw [hn]
   ·rw [if_neg hp]
    try walk_at "ev"
    have hr : (r.any fun kv => decide (kv.1 = k)) = true := by simpa [hp] using h
    by_cases hj : p.1 = j
    ·have : ¬ k = j := fun z => hp (hj.trans z.symm)
     simp [hj, this]
    ·simp only [hj, decide_false]
     exact ih hr
 ·rename_i h
  unfold valD
  rw [List.find?_append]
  by_cases hj : k = j
  ·subst hj
   have : m.find? (fun kv => decide (kv.1 = k)) = none := by
    rw [List.find?_eq_none]
    intro kv hkv z
    exact h (List.any_eq_true.mpr ⟨kv, hkv, z⟩)
   rw [this]
   simp
  ·rw [if_neg hj]
   try walk_at "ev"
   simp [hj]
theorem foldD_snoc (ps : List (Key × D)) (p : Key × D) : foldD (ps ++ [p]) = putD (foldD ps) p.1 p.2 := by unfold foldD; rw [List.foldl_append]; rfl
theorem val_num : ∀ (n : Nat) (O : List Nat), O.length = n → O.Nodup → ∀ x ∈ O, valD (foldD (numP O)) (Sum.inl (x : Int)) = some (.int (O.idxOf x : Nat))
 | 0, O, h, _, x, hx => by rw [List.length_eq_zero_iff.mp h] at hx; cases hx
 | n + 1, O, h, nd, x, hx => by
  have hne : O ≠ [] := by rintro rfl; cases h
  obtain ⟨O', y, rfl⟩ : ∃ O' y, O = O' ++ [y] := ⟨O.dropLast, O.getLast hne, (List.dropLast_concat_getLast hne).symm⟩
  rw [List.length_append, List.length_singleton] at h
  have nd' := List.nodup_append.mp nd
  rw [numP_snoc, foldD_snoc, valD_put]
  by_cases e : y = x
  ·subst e
   rw [if_pos rfl]
   try walk_at "ev"
   have hn : y ∉ O' := fun z => nd'.2.2 y z y (by simp) rfl
   rw [List.idxOf_append, if_neg hn]
   simp
  ·rw [if_neg (fun z => e (by have := Sum.inl.inj z; omega))]
   try walk_at "ev"
   have hx' : x ∈ O' := (List.mem_append.mp hx).resolve_right (by rw [List.mem_singleton]; exact fun z => e z.symm)
   rw [val_num n O' (by omega) nd'.1 x hx', List.idxOf_append, if_pos hx']
theorem enum_get {xs : List D} {i : Nat} {d : D} (h : (enumD xs)[i]? = some d) : ∃ x, xs[i]? = some x ∧ d = .tup [.int (i : Nat), x] := by
 unfold enumD at h
 rw [List.getElem?_mapIdx, Option.map_eq_some_iff] at h
 obtain ⟨x, h1, rfl⟩ := h
 exact ⟨x, h1, rfl⟩
theorem enum_len (xs : List D) : (enumD xs).length = xs.length := by unfold enumD; simp
section
variable {K : PySem.W.Frag}
theorem r_ways {Γ G} : ∀ ds M Q Z, spWays ds M Q Z → tss ⟨K, Γ, G⟩ noX b_ways { nx := fun _ M => Q .non M, rt := Q } (start0 N_ways ds) M := by
 rintro ds M Q Z ⟨d, rfl, q⟩
 simp only [b_ways, N_ways]
 try walk_at "ev"
 cases d with
 | sum x a sg b t =>
  simp only [Nd.d]
  walk_at "ev"
  refine ⟨_, rfl, ?_⟩
  walk_at "ev"
  exact ⟨_, rfl, sizeLine_ge (by decide), q⟩
 | test a sg b y n =>
  simp only [Nd.d]
  walk_at "ev"
  refine ⟨_, rfl, ?_⟩
  walk_at "ev"
  rw [if_neg (by decide +kernel)]
  try walk_at "ev"
  simp only [b_ways_2]
  walk_at "ev"
  refine ⟨_, rfl, ?_⟩
  walk_at "ev"
  exact ⟨_, rfl, _, rfl, sizeLine_ge (by decide), q⟩
 | fin =>
  simp only [Nd.d]
  walk_at "ev"
  refine ⟨_, rfl, ?_⟩
  walk_at "ev"
  rw [if_neg (by decide +kernel)]
  try walk_at "ev"
  simp only [b_ways_2]
  walk_at "ev"
  refine ⟨_, rfl, ?_⟩
  walk_at "ev"
  rw [if_neg (by decide +kernel)]
  try walk_at "ev"
  simp only [b_ways_1]
  walk_at "ev"
  exact ⟨sizeLine_ge (by decide), q⟩
 | spin =>
  simp only [Nd.d]
  walk_at "ev"
  refine ⟨_, rfl, ?_⟩
  walk_at "ev"
  rw [if_neg (by decide +kernel)]
  try walk_at "ev"
  simp only [b_ways_2]
  walk_at "ev"
  refine ⟨_, rfl, ?_⟩
  walk_at "ev"
  rw [if_neg (by decide +kernel)]
  try walk_at "ev"
  simp only [b_ways_1]
  walk_at "ev"
  exact ⟨sizeLine_ge (by decide), q⟩
theorem r_with {Γ G} : ∀ ds M Q Z, spWith ds M Q Z → tss ⟨K, Γ, G⟩ noX b_with_ways { nx := fun _ M => Q .non M, rt := Q } (start0 N_with_ways ds) M := by
 rintro ds M Q Z ⟨d, f, g, rfl, hg, q⟩
 simp only [b_with_ways, N_with_ways]
 try walk_at "ev"
 cases d with
 | sum x a sg b t =>
  simp only [Nd.d]
  walk_at "ev"
  refine ⟨_, rfl, ?_⟩
  walk_at "ev"
  rw [show U.cutD [.str "sum", .str x, a.d, .str sg, b.d, .int t] none (some 5) = [.str "sum", .str x, a.d, .str sg, b.d] from rfl]
  refine ⟨by decide, _, hg, by simp [Nd.gs, natD], sizeLine_ge (by simp [Nd.gs, natD]), q⟩
 | test a sg b y n =>
  simp only [Nd.d]
  walk_at "ev"
  refine ⟨_, rfl, ?_⟩
  walk_at "ev"
  rw [if_neg (by decide +kernel)]
  try walk_at "ev"
  simp only [b_with_ways_2]
  walk_at "ev"
  refine ⟨_, rfl, ?_⟩
  walk_at "ev"
  rw [show U.cutD [.str "test", a.d, .str sg, b.d, .int y, .int n] none (some 4) = [.str "test", a.d, .str sg, b.d] from rfl]
  refine ⟨by decide, _, hg, by simp [Nd.gs, natD], sizeLine_ge (by simp [Nd.gs, natD]), q⟩
 | fin =>
  simp only [Nd.d]
  walk_at "ev"
  refine ⟨_, rfl, ?_⟩
  walk_at "ev"
  rw [if_neg (by decide +kernel)]
  try walk_at "ev"
  simp only [b_with_ways_2]
  walk_at "ev"
  refine ⟨_, rfl, ?_⟩
  walk_at "ev"
  rw [if_neg (by decide +kernel)]
  try walk_at "ev"
  simp only [b_with_ways_1]
  walk_at "ev"
  exact q
 | spin =>
  simp only [Nd.d]
  walk_at "ev"
  refine ⟨_, rfl, ?_⟩
  walk_at "ev"
  rw [if_neg (by decide +kernel)]
  try walk_at "ev"
  simp only [b_with_ways_2]
  walk_at "ev"
  refine ⟨_, rfl, ?_⟩
  walk_at "ev"
  rw [if_neg (by decide +kernel)]
  try walk_at "ev"
  simp only [b_with_ways_1]
  walk_at "ev"
  exact q
theorem r_numbered {Γ G} (g0 : Γ[0]? = some spWays) (g1 : Γ[1]? = some spWith) : ∀ ds M Q Z, spNumbered ds M Q Z → tss ⟨K, Γ, G⟩ noX b_numbered { nx := fun _ M => Q .non M, rt := Q } (start0 N_numbered ds) M := by
 rintro ds M Q Z ⟨a, b, nds, O, rfl, ha, hb, nd, hl, hlt, hcl, q⟩
 simp only [b_numbered, N_numbered]
 walk_at "ev"
 refine ⟨_, hb, ?_⟩
 try walk_at "ev"
 simp only [capD, List.map_cons, List.map_nil, Option.bind_none, Option.bind_some, List.getElem?_cons_zero, List.getElem?_cons_succ, Option.join_some]
 refine compD_by (fun i σ M' => ∃ d1 d2, σ = [d1, d2] ∧ M' = M ++ [.lst (pairD (numP (O.take i)))]) ⟨none, none, rfl, rfl⟩ ?_ ?_ ?_
 ·rintro i σ M' _ ⟨d1, d2, rfl, rfl⟩
  exact ⟨_, readL_app hb, rfl⟩
 ·rintro i dx σ M' C hx ⟨d1, d2, rfl, rfl⟩ hC
  obtain ⟨y, hy, rfl⟩ := enum_get hx
  have hi : i < O.length := by have := (List.getElem?_eq_some_iff.mp hy).1; rwa [natD_len] at this
  have hgi : O[i]? = some O[i] := List.getElem?_eq_getElem hi
  generalize O[i] = z at hgi
  rw [natD_get hgi] at hy
  cases hy
  walk_at "ev"
  refine ⟨sizeLine_ge (by decide), _, readW_end _ _ [], by unfold U.pairD; rw [List.length_map, numP_len, List.length_take]; exact sizeLine_gt (by omega), ?_⟩
  try walk_at "ev"
  rw [set_end]
  refine hC _ _ ⟨_, _, rfl, ?_⟩
  try walk_at "ev"
  rw [take_snoc hgi, numP_snoc, List.length_take, Nat.min_eq_left (by omega)]
  unfold U.pairD
  rw [List.map_append]
  rfl
 ·rintro σ M' ⟨d1, d2, rfl, rfl⟩
  rw [enum_len, natD_len, List.take_length]
  try walk_at "ev"
  refine .inr ⟨numP O, readL_end _ _ [], by rw [numP_len]; exact sizeLine_gt (by omega), ?_⟩
  try walk_at "ev"
  have k1 : Kp M (M ++ [.lst (U.pairD (numP O))] ++ [.dct (foldD (numP O))]) := (Kp.new _ _).app _
  have hd1 : readD (M ++ [.lst (U.pairD (numP O))] ++ [.dct (foldD (numP O))]) (M ++ [Cell.lst (U.pairD (numP O))] : Store).length = some (foldD (numP O)) := readD_end _ _ []
  generalize M ++ [.lst (U.pairD (numP O))] ++ [.dct (foldD (numP O))] = M1 at k1 hd1
  generalize (M ++ [Cell.lst (U.pairD (numP O))] : Store).length = nn at hd1
  have ha1 := k1.L ha
  have hb1 := k1.L hb
  refine ⟨_, hb1, ?_⟩
  try walk_at "ev"
  refine compD_by (fun i σ M' => ∃ d1 N, σ = [d1, some (.ref a), some (.ref nn)] ∧ M' = M1 ++ .lst (((gra nds O).take i).map Nd.d) :: N) ⟨none, [], rfl, rfl⟩ ?_ ?_ ?_
  ·rintro i σ M' _ ⟨d1, N, rfl, rfl⟩
   exact readL_app hb1
  ·rintro i dx σ M' C hx ⟨d1, N, rfl, rfl⟩ hC
   have hi : i < O.length := by have := (List.getElem?_eq_some_iff.mp hx).1; rwa [natD_len] at this
   have hgi : O[i]? = some O[i] := List.getElem?_eq_getElem hi
   generalize O[i] = x at hgi
   rw [natD_get hgi] at hx
   cases hx
   have hxO := List.mem_of_getElem? hgi
   obtain ⟨d, hd⟩ : ∃ d, nds[x]? = some d := ⟨_, List.getElem?_eq_getElem (hlt x hxO)⟩
   have two := d.gs_two
   walk_at "ev"
   refine ix_l (readL_app ha1) (nds_at hd) (ix_l (readL_app ha1) (nds_at hd) ?_)
   try walk_at "ev"
   try simp only [g0, g1]
   refine ⟨d, rfl, ?_⟩
   walk_at "ev"
   rw [List.append_assoc]
   simp only [List.cons_append]
   have el : (M1 ++ .lst (((gra nds O).take i).map Nd.d) :: N).length = M1.length + (N.length + 1) := by simp
   rw [el]
   refine compD_by (fun j σ M' => ∃ d1, σ = [d1, some (.ref nn)] ∧ M' = M1 ++ .lst (((gra nds O).take i).map Nd.d) :: (N ++ [.lst (natD ((d.gs.reverse.take j).map fun y => O.idxOf y))])) ⟨none, rfl, rfl⟩ (fun _ _ _ _ _ => trivial) ?_ ?_
   ·rintro j dx σ M' C2 hx ⟨d1, rfl, rfl⟩ hC2
    have hj : j < d.gs.reverse.length := by have := (List.getElem?_eq_some_iff.mp hx).1; rwa [natD_len] at this
    have hgj : d.gs.reverse[j]? = some d.gs.reverse[j] := List.getElem?_eq_getElem hj
    generalize d.gs.reverse[j] = y at hgj
    rw [natD_get hgj] at hx
    cases hx
    have hyO : y ∈ O := hcl x hxO y (by rw [wy_at hd]; exact List.mem_reverse.mp (List.mem_of_getElem? hgj))
    walk_at "ev"
    refine ix_d (readD_app hd1) rfl (val_num _ O rfl nd y hyO) ?_
    try walk_at "ev"
    have rd : ∀ c, readW (M1 ++ .lst (((gra nds O).take i).map Nd.d) :: (N ++ [.lst c])) (M1.length + (N.length + 1)) = some c := fun c => by rw [readW_endk]; exact readW_end N _ []
    refine ⟨_, rd _, by rw [natD_len, List.length_map, List.length_take]; rw [List.length_reverse] at hj ⊢; exact sizeLine_gt (by omega), ?_⟩
    try walk_at "ev"
    rw [set_endk, List.set_cons_succ, set_end, ← natD_snoc]
    refine hC2 _ _ ⟨_, rfl, ?_⟩
    try walk_at "ev"
    rw [take_snoc hgj, List.map_append]
    rfl
   ·rintro σ M' ⟨d1, rfl, rfl⟩
    rw [natD_len, List.take_length]
    refine ⟨d, fun y => O.idxOf y, _, rfl, by rw [readL_endk]; exact readL_end N _ [], ?_⟩
    try walk_at "ev"
    refine ⟨_, readW_end _ _ _, by rw [List.length_map, List.length_take, gra_len]; exact sizeLine_gt (by omega), ?_⟩
    try walk_at "ev"
    rw [set_end]
    refine hC _ _ ⟨_, N ++ [.lst (natD (d.gs.reverse.map fun y => O.idxOf y))], rfl, ?_⟩
    try walk_at "ev"
    rw [take_snoc (gra_get hgi hd), List.map_append]
    rfl
  ·rintro σ M' ⟨d1, N, rfl, rfl⟩
   try walk_at "ev"
   refine q _ _ (k1.app _) ?_ ?_
   ·rw [natD_len, ← gra_len nds O, List.take_length]
    exact readW_end _ _ _
   ·obtain ⟨X, rfl⟩ := k1; rw [List.length_append]; omega
end
inductive Rw where
 | sum (k : Nat) (x : Str) (a : Opd) (sg : Str) (b : Opd) | test (k : Nat) (a : Opd) (sg : Str) (b : Opd) (g : Nat) | jump (k g : Nat) | fin (k : Nat)
def Rw.d : Rw → D
 | .sum k x a sg b => .tup [.int k, .str "sum", .str x, a.d, .str sg, b.d]
 | .test k a sg b g => .tup [.int k, .str "test", a.d, .str sg, b.d, .int g]
 | .jump k g => .tup [.int k, .str "jump", .int g]
 | .fin k => .tup [.int k, .str "end"]
def Rw.isJ : Rw → Bool
 | .jump _ _ => true
 | _ => false
def JOf (rows : List Rw) (pl : List (Key × D)) (J : Nat → Option Nat) : Prop := ∀ p r, rows[p]? = some r → match r with
 | Rw.jump _ g => ∃ q, J p = some q ∧ q < rows.length ∧ valD pl (Sum.inl (g : Int)) = some (D.int (q : Nat))
 | _ => J p = none
def LanD (kvs : List (Key × D)) (m : Nat → Option Nat) : Prop := ∀ p : Nat, valD kvs (Sum.inl (p : Int)) = (m p).map fun (g : Nat) => D.int (g : Int)
theorem LanD.put {kvs : List (Key × D)} {m : Nat → Option Nat} (h : LanD kvs m) (p g : Nat) : LanD (putD kvs (Sum.inl (p : Int)) (.int (g : Nat))) (fun x => if x = p then some g else m x) := by
 intro x
 rw [valD_put]
 by_cases e : x = p
 ·subst e; rw [if_pos rfl]; show _ = Option.map _ (if x = x then some g else m x); rw [if_pos rfl]; rfl
 ·rw [if_neg (fun z => e (by have := Sum.inl.inj z; omega))]; show _ = Option.map _ (if x = p then some g else m x); rw [if_neg e]; exact h x
  try walk_at "ev"
theorem putD_len (m : List (Key × D)) (k : Key) (v : D) : (putD m k v).length ≤ m.length + 1 := by
 unfold putD
 split
 ·rw [List.length_map]; omega
 ·rw [List.length_append, List.length_singleton]; exact Nat.le_refl _
def spLandings : DSp := fun ds M Q _ => ∃ (a b : Nat) (rows : List Rw) (pl : List (Key × D)) (J : Nat → Option Nat), ds = [.ref a, .ref b] ∧ readL M a = some (rows.map Rw.d) ∧ readD M b = some pl ∧ rows.length ≤ 2000 ∧ JOf rows pl J ∧
 ∀ kvs m M', LanD kvs m → LN.Ln J rows.length m → (∀ p, p < rows.length → (m p).isSome = true) → Kp M M' → readD M' M.length = some kvs → Q (.ref M.length) M'
theorem isSome_of' {α : Type} {o : Option α} {x : α} (h : o = some x) : o.isSome = true := by rw [h]; rfl
theorem at_endk' (M N : Store) (k : Nat) : (M ++ N)[M.length + k]? = N[k]? := by rw [List.getElem?_append_right (by omega), Nat.add_sub_cancel_left]
section
variable {K : PySem.W.Frag}
theorem r_landings {Γ G} : ∀ ds M Q Z, spLandings ds M Q Z → tss ⟨K, Γ, G⟩ noX b_landings { nx := fun _ M => Q .non M, rt := Q } (start0 N_landings ds) M := by
 rintro ds M Q Z ⟨a, b, rows, pl, J, rfl, ha, hb, hn, hJ, q⟩
 simp only [b_landings, N_landings]
 walk_at "ev"
 refine bf_len_l (readL_app ha) ⟨by omega, by rw [List.length_map]; omega, ?_⟩
 try walk_at "ev"
 rw [Int.toNat_natCast, List.length_map]
 refine forD_rng (fun i σ M' => ∃ kvs m N d3 d4 d5 d6 d7, σ = [some (.ref a), some (.ref b), some (.ref M.length), d3, d4, d5, d6, d7] ∧ M' = M ++ .dct kvs :: N ∧ LanD kvs m ∧ LN.Ln J rows.length m ∧ (∀ p, p < i → (m p).isSome = true) ∧ kvs.length ≤ i * 3000)
  ⟨[], fun _ => none, [], none, none, none, none, none, rfl, rfl, fun p => rfl, (fun p g h => by cases h), (fun p h => by omega), Nat.zero_le _⟩ ?_ ?_
 ·rintro i σ M' C hi ⟨kvs, m, N, d3, d4, d5, d6, d7, rfl, rfl, lan, ln, tot, hk⟩ hC
  have hrow : ∀ p, p < rows.length → ∃ r, rows[p]? = some r := fun p hp => ⟨_, List.getElem?_eq_getElem hp⟩
  simp only [b_landings_5, Int.zero_add]
  walk_at "ev"
  rw [List.append_assoc, List.cons_append]
  have el : (M ++ .dct kvs :: N).length = M.length + (N.length + 1) := by simp
  rw [el]
  have rdP : ∀ kv c, readD (M ++ .dct kv :: (N ++ [.dct c])) (M.length + (N.length + 1)) = some c := fun kv c => by rw [readD_endk]; exact readD_end N _ []
  have rdL : ∀ kv N', readD (M ++ .dct kv :: N') M.length = some kv := fun kv N' => readD_end _ _ _
  refine ⟨fun w σ M' => ∃ (P : List Nat) (p : Nat), w = rows.length - P.length ∧ σ = [some (.ref a), some (.ref b), some (.ref M.length), some (.int (i : Nat)), some (.ref (M.length + (N.length + 1))), some (.int (p : Nat)), d6, d7] ∧ M' = M ++ .dct kvs :: (N ++ [.dct (begD P)]) ∧ LN.Lk J i P p ∧ P.Nodup ∧ (∀ x ∈ P, x < rows.length ∧ m x = none) ∧ p < rows.length,
   ⟨_, [], i, rfl, rfl, rfl, rfl, by simp, by simp, hi⟩, ?_⟩
  rintro w σ M' ⟨P, p, rfl, rfl, rfl, lk, nd, hP, hp⟩
  have hPl : P.length ≤ rows.length := ND.nodup_len rows.length P nd fun x hx => (hP x hx).1
  have hkb : kvs.length ≤ 6000000 := by
   have : i * 3000 ≤ 2000 * 3000 := Nat.mul_le_mul_right _ (by omega)
   omega
  obtain ⟨r, hr⟩ := hrow p hp
  have stop : ∀ bk, ((m p).isSome = true ∨ p ∈ P ∨ J p = none) → tss ⟨K, Γ, G⟩ noX b_landings_3 { nx := C, rt := Q, bk := bk, ct := C } [some (.ref a), some (.ref b), some (.ref M.length), some (.int (i : Nat)), some (.ref (M.length + (N.length + 1))), some (.int (p : Nat)), d6, d7] (M ++ .dct kvs :: (N ++ [.dct (begD P)])) := by
   intro bk hs
   obtain ⟨l1, l2, l3⟩ := ln.land lk hP hp hs
   simp only [b_landings_3]
   walk_at "ev"
   refine ⟨isSome_of' (rdL _ _), kvs, _, rdL _ _, rfl, ?_⟩
   try walk_at "ev"
   have eg : ((valD kvs (Sum.inl (p : Int))).getD (.int (p : Nat))) = .int ((m p).getD p : Nat) := by rw [lan p]; cases m p <;> rfl
   rw [eg]
   generalize hg : (m p).getD p = g at l1 l2 l3
   refine .inr ⟨kvs, _, rdL _ _, rfl, sizeLine_gt (by omega), ?_⟩
   try walk_at "ev"
   rw [set_end]
   refine ⟨begD P, rdP _ _, ?_⟩
   try walk_at "ev"
   have fz : ∀ kv, (M ++ .dct kv :: (N ++ [.fdc (begD P)]) : Store)[M.length + (N.length + 1)]? = some (.fdc (begD P)) := fun kv => by rw [at_endk', List.getElem?_cons_succ, at_end]
   have sz : ∀ kv c, (M ++ .dct kv :: (N ++ [c]) : Store).set (M.length + (N.length + 1)) (.fdc (begD P)) = M ++ .dct kv :: (N ++ [.fdc (begD P)]) := fun kv c => by rw [set_endk, List.set_cons_succ, set_end]
   have st : ∀ kv, (M ++ .dct kv :: (N ++ [.fdc (begD P)]) : Store).set (M.length + (N.length + 1)) (.dct (begD P)) = M ++ .dct kv :: (N ++ [.dct (begD P)]) := fun kv => by rw [set_endk, List.set_cons_succ, set_end]
   have eK : keysD (begD P) = natD P := by unfold keysD begD natD; rw [List.map_map]; rfl
   rw [sz, eK]
   refine forD_by (fun j σ M' => ∃ kv d7, σ = [some (.ref a), some (.ref b), some (.ref M.length), some (.int (i : Nat)), some (.ref (M.length + (N.length + 1))), some (.int (p : Nat)), some (.int (g : Nat)), d7] ∧ M' = M ++ .dct kv :: (N ++ [.fdc (begD P)]) ∧ LanD kv (LN.land m (P.take j) p g) ∧ kv.length ≤ kvs.length + 1 + j)
    ⟨_, d7, rfl, rfl, ?_, by have := putD_len kvs (Sum.inl (p : Int)) (.int (g : Nat)); omega⟩ ?_ ?_ ?_
   ·have := lan.put p g
    intro x
    have h2 := this x
    unfold LN.land
    rw [List.take_zero, if_neg (by simp)]
    exact h2
   ·rintro j σ M' _ ⟨kv, d7, rfl, rfl, _⟩
    exact ⟨begD P, fz _, eK.symm⟩
   ·rintro j dx σ M' C2 hx ⟨kv, d7, rfl, rfl, lan2, hk2⟩ hC2
    have hj : j < P.length := by have := (List.getElem?_eq_some_iff.mp hx).1; rwa [natD_len] at this
    have hgj : P[j]? = some P[j] := List.getElem?_eq_getElem hj
    generalize P[j] = y at hgj
    rw [natD_get hgj] at hx
    cases hx
    simp only [b_landings_2]
    walk_at "ev"
    refine .inr ⟨kv, _, rdL _ _, rfl, sizeLine_gt (by omega), ?_⟩
    try walk_at "ev"
    rw [set_end]
    refine hC2 _ _ ⟨_, _, rfl, rfl, fun x => ?_, by have := putD_len kv (Sum.inl (y : Int)) (.int (g : Nat)); omega⟩
    try walk_at "ev"
    rw [lan2.put y g x, take_snoc hgj]
    congr 1
    unfold LN.land
    try dsimp only
    by_cases ex : x = y
    ·subst ex; rw [if_pos rfl, if_pos (by simp)]
    ·rw [if_neg ex]
     try walk_at "ev"
     have : (x ∈ P.take j ++ [y]) ↔ x ∈ P.take j := by simp [ex]
     simp only [this]
   ·rintro σ M' ⟨kv, d7, rfl, rfl, lan2, hk2⟩
    rw [natD_len] at lan2 hk2
    rw [List.take_length] at lan2
    refine ⟨begD P, fz _, ?_⟩
    try walk_at "ev"
    rw [st]
    refine hC _ _ ⟨kv, _, _, _, _, _, _, _, rfl, rfl, lan2, l1, fun x hx => ?_, by rw [Nat.add_mul]; omega⟩
    try walk_at "ev"
    by_cases ex : x = i
    ·subst ex; exact l2
    ·exact l3 x (tot x (by omega))
  walk_at "ev"
  refine .inr ⟨kvs, _, rdL _ _, rfl, ?_⟩
  try walk_at "ev"
  rw [lan p, Option.isSome_map]
  try dsimp only
  cases hm : (m p).isSome with
  | true =>
   rw [if_neg (by decide)]
   try walk_at "ev"
   try rw [if_neg (by decide)]
   exact stop _ (.inl hm)
  | false =>
   rw [if_pos rfl]
   try walk_at "ev"
   refine .inr ⟨begD P, _, rdP _ _, rfl, ?_⟩
   try walk_at "ev"
   rw [begD_in]
   try dsimp only
   by_cases hpP : p ∈ P
   ·rw [decide_eq_true hpP, if_neg (by decide)]
    try rw [if_neg (by decide)]
    exact stop _ (.inr (.inl hpP))
   ·rw [decide_eq_false hpP, if_pos rfl]
    refine ix_l (k := p) (readL_app ha) (by rw [List.getElem?_map, hr]; rfl) ?_
    have hJp := hJ p r hr
    cases r with
    | jump k g =>
     obtain ⟨q', j1, j2, j3⟩ := hJp
     refine ⟨_, rfl, ?_⟩
     walk_at "ev"
     simp only [b_landings_4]
     walk_at "ev"
     have hm' : m p = none := by cases e : m p with
      | none => rfl
      | some _ => rw [e] at hm; cases hm
     have nd' : (P ++ [p]).Nodup := List.nodup_append.mpr ⟨nd, by simp, fun a ha c hc => by rw [List.mem_singleton] at hc; subst hc; exact fun e => hpP (e ▸ ha)⟩
     have hP' : ∀ x ∈ P ++ [p], x < rows.length ∧ m x = none := fun x hx => by
      rcases List.mem_append.mp hx with hx | hx
      ·exact hP x hx
      ·rw [List.mem_singleton] at hx; subst hx; exact ⟨hp, hm'⟩
     have hl' := ND.nodup_len rows.length (P ++ [p]) nd' fun x hx => (hP' x hx).1
     rw [List.length_append, List.length_singleton] at hl'
     refine .inr ⟨begD P, _, rdP _ _, rfl, by rw [begD_len]; exact sizeLine_gt (by omega), ?_⟩
     try walk_at "ev"
     rw [begD_put hpP, set_endk, List.set_cons_succ, set_end]
     refine ix_l (k := p) (readL_app ha) (by rw [List.getElem?_map, hr]; rfl) ?_
     refine ⟨_, rfl, ?_⟩
     try walk_at "ev"
     refine ix_d (readD_app hb) rfl j3 ?_
     try walk_at "ev"
     exact ⟨_, by rw [List.length_append, List.length_singleton]; omega, P ++ [p], q', rfl, rfl, rfl, lk.snoc j1, nd', hP', j2⟩
    | sum k x o1 sg o2 =>
     refine ⟨_, rfl, ?_⟩
     walk_at "ev"
     rw [if_neg (by decide +kernel)]
     try walk_at "ev"
     exact stop _ (.inr (.inr hJp))
    | test k o1 sg o2 g =>
     refine ⟨_, rfl, ?_⟩
     walk_at "ev"
     rw [if_neg (by decide +kernel)]
     try walk_at "ev"
     exact stop _ (.inr (.inr hJp))
    | fin k =>
     refine ⟨_, rfl, ?_⟩
     walk_at "ev"
     rw [if_neg (by decide +kernel)]
     try walk_at "ev"
     exact stop _ (.inr (.inr hJp))
 ·rintro σ M' ⟨kvs, m, N, d3, d4, d5, d6, d7, rfl, rfl, lan, ln, tot, hk⟩
  simp only [b_landings_1]
  walk_at "ev"
  exact q kvs m _ lan ln tot (Kp.new _ _) (readD_end _ _ _)
end
def Rw.num : Rw → Nat
 | .sum k _ _ _ _ => k
 | .test k _ _ _ _ => k
 | .jump k _ => k
 | .fin k => k
def posOf (rows : List Rw) (g : Nat) : Nat := (rows.map Rw.num).idxOf g
def jmp (rows : List Rw) (p : Nat) : Option Nat := match rows[p]? with
 | some (.jump _ g) => some (posOf rows g)
 | _ => none
def Rw.node (rows : List Rw) (L : Nat → Nat) (p : Nat) : Rw → Nd
 | .sum _ x a sg b => .sum x a sg b (L (p + 1))
 | .test _ a sg b g => .test a sg b (L (posOf rows g)) (L (p + 1))
 | .jump _ _ => .spin
 | .fin _ => .fin
def Rw.goal : Rw → Option Nat
 | .test _ _ _ _ g => some g
 | .jump _ g => some g
 | _ => none
def Rw.goes : Rw → Bool
 | .sum _ _ _ _ _ => true
 | .test _ _ _ _ _ => true
 | _ => false
structure RwOk (rows : List Rw) : Prop where
 pos : 0 < rows.length
 small : rows.length ≤ 2000
 nd : (rows.map Rw.num).Nodup
 goal : ∀ r ∈ rows, ∀ g, r.goal = some g → g ∈ rows.map Rw.num
 last : ∀ p r, rows[p]? = some r → r.goes = true → p + 1 < rows.length
structure Lands (rows : List Rw) (L : Nat → Nat) : Prop where
 lt : ∀ p, p < rows.length → L p < rows.length
 no : ∀ p, p < rows.length → jmp rows p = none → L p = p
 yes : ∀ p q, p < rows.length → jmp rows p = some q → L p = L q
 orb : ∀ p, p < rows.length → LN.Orb (jmp rows) p (L p)
def nodesOf (rows : List Rw) (L : Nat → Nat) : List Nd := rows.mapIdx fun p r => r.node rows L p
def spLinked : DSp := fun ds M Q _ => ∃ (a : Nat) (rows : List Rw), ds = [.ref a] ∧ readL M a = some (rows.map Rw.d) ∧ RwOk rows ∧
 ∀ L M' r, Lands rows L → Kp M M' → readW M' r = some ((nodesOf rows L).map Nd.d) → M.length ≤ r → Q (.tup [.ref r, .int (L 0 : Nat)]) M'
theorem pos_lt {rows : List Rw} {g : Nat} (h : g ∈ rows.map Rw.num) : posOf rows g < rows.length := by
 have := List.idxOf_lt_length_of_mem h
 rwa [List.length_map] at this
theorem jmp_lt {rows : List Rw} (ok : RwOk rows) {p q : Nat} (h : jmp rows p = some q) : q < rows.length := by
 unfold jmp at h
 split at h
 ·rename_i k g e
  cases h
  exact pos_lt (ok.goal _ (List.mem_of_getElem? e) g rfl)
 ·cases h
theorem orb_lt {rows : List Rw} (ok : RwOk rows) {p q : Nat} (h : LN.Orb (jmp rows) p q) (hp : p < rows.length) : q < rows.length := by
 induction h with
 | refl _ => exact hp
 | step e _ ih => exact ih (jmp_lt ok e)
theorem lands_of {rows : List Rw} (ok : RwOk rows) {m : Nat → Option Nat} (h : LN.Ln (jmp rows) rows.length m) (all : ∀ p, p < rows.length → (m p).isSome = true) : Lands rows (fun p => (m p).getD 0) := by
 have get : ∀ p, p < rows.length → m p = some ((m p).getD 0) := fun p hp => by
  obtain ⟨g, e⟩ := Option.isSome_iff_exists.mp (all p hp)
  rw [e]; rfl
 refine ⟨fun p hp => orb_lt ok (h p _ (get p hp)).2.2.2 hp, fun p hp e => (h p _ (get p hp)).2.1 e, fun p q hp e => ?_, fun p hp => (h p _ (get p hp)).2.2.2⟩
 try walk_at "ev"
 have := (h p _ (get p hp)).2.2.1 q e
 show (m p).getD 0 = (m q).getD 0
 rw [this]; rfl
theorem Kp.D {M M' : Store} {a : Nat} {xs : List (Key × D)} (h : Kp M M') (e : readD M a = some xs) : readD M' a = some xs := by obtain ⟨L, rfl⟩ := h; exact readD_app e
theorem nodesOf_len (rows : List Rw) (L : Nat → Nat) : (nodesOf rows L).length = rows.length := by unfold nodesOf; simp
theorem nodesOf_get {rows : List Rw} {L : Nat → Nat} {i : Nat} {r : Rw} (h : rows[i]? = some r) : (nodesOf rows L)[i]? = some (r.node rows L i) := by unfold nodesOf; rw [List.getElem?_mapIdx, h]; rfl
section
variable {K : PySem.W.Frag}
theorem r_linked {Γ G} (g4 : Γ[4]? = some spLandings) : ∀ ds M Q Z, spLinked ds M Q Z → tss ⟨K, Γ, G⟩ noX b_linked { nx := fun _ M => Q .non M, rt := Q } (start0 N_linked ds) M := by
 rintro ds M Q Z ⟨a, rows, rfl, ha, ok, q⟩
 have hn := ok.small
 simp only [b_linked, N_linked]
 walk_at "ev"
 refine ⟨_, ha, ?_⟩
 try walk_at "ev"
 simp only [capD, List.map_cons, List.map_nil, Option.bind_none, Option.bind_some, List.getElem?_cons_zero, List.getElem?_cons_succ, Option.join_some]
 refine compD_by (fun i σ M' => ∃ d1 d2, σ = [d1, d2] ∧ M' = M ++ [.lst (U.pairD (numP ((rows.map Rw.num).take i)))]) ⟨none, none, rfl, rfl⟩ ?_ ?_ ?_
 ·rintro i σ M' _ ⟨d1, d2, rfl, rfl⟩
  exact ⟨_, readL_app ha, rfl⟩
 ·rintro i dx σ M' C hx ⟨d1, d2, rfl, rfl⟩ hC
  obtain ⟨y, hy, rfl⟩ := enum_get hx
  have hi : i < rows.length := by have := (List.getElem?_eq_some_iff.mp hy).1; rwa [List.length_map] at this
  obtain ⟨r, hr⟩ : ∃ r, rows[i]? = some r := ⟨_, List.getElem?_eq_getElem hi⟩
  rw [List.getElem?_map, hr] at hy
  cases hy
  have hnum : (rows.map Rw.num)[i]? = some r.num := by rw [List.getElem?_map, hr]; rfl
  have e0 : ∀ F : D → Prop, F (.int (r.num : Nat)) → ixD (M ++ [.lst (U.pairD (numP ((rows.map Rw.num).take i)))]) r.d (.int 0) F := fun F f => by cases r <;> exact ⟨_, rfl, f⟩
  walk_at "ev"
  refine e0 _ ⟨sizeLine_ge (by decide), _, readW_end _ _ [], by unfold U.pairD; rw [List.length_map, numP_len, List.length_take, List.length_map]; exact sizeLine_gt (by omega), ?_⟩
  try walk_at "ev"
  rw [set_end]
  refine hC _ _ ⟨_, _, rfl, ?_⟩
  try walk_at "ev"
  rw [take_snoc hnum, numP_snoc, List.length_take, List.length_map, Nat.min_eq_left (by omega)]
  unfold U.pairD
  rw [List.map_append]
  rfl
 ·rintro σ M' ⟨d1, d2, rfl, rfl⟩
  rw [enum_len, List.length_map, ← List.length_map (f := Rw.num) (as := rows), List.take_length]
  try walk_at "ev"
  refine .inr ⟨numP (rows.map Rw.num), readL_end _ _ [], by rw [numP_len, List.length_map]; exact sizeLine_gt (by omega), ?_⟩
  try walk_at "ev"
  have k1 : Kp M (M ++ [.lst (U.pairD (numP (rows.map Rw.num)))] ++ [.dct (foldD (numP (rows.map Rw.num)))]) := (Kp.new _ _).app _
  have hd1 : readD (M ++ [.lst (U.pairD (numP (rows.map Rw.num)))] ++ [.dct (foldD (numP (rows.map Rw.num)))]) (M ++ [Cell.lst (U.pairD (numP (rows.map Rw.num)))] : Store).length = some (foldD (numP (rows.map Rw.num))) := readD_end _ _ []
  generalize M ++ [.lst (U.pairD (numP (rows.map Rw.num)))] ++ [.dct (foldD (numP (rows.map Rw.num)))] = M1 at k1 hd1
  generalize (M ++ [Cell.lst (U.pairD (numP (rows.map Rw.num)))] : Store).length = nn at hd1
  have ha1 := k1.L ha
  try simp only [g4]
  have jof : JOf rows (foldD (numP (rows.map Rw.num))) (jmp rows) := by
   intro p r hr
   cases r with
   | jump k g =>
    have hg := ok.goal _ (List.mem_of_getElem? hr) g rfl
    exact ⟨posOf rows g, by unfold jmp; rw [hr], pos_lt hg, val_num _ _ rfl ok.nd g hg⟩
   | _ => show jmp rows p = none; unfold jmp; rw [hr]
  refine ⟨a, nn, rows, _, jmp rows, rfl, ha1, hd1, hn, jof, fun kvs m M2 lan ln tot k2 hk => ?_⟩
  try walk_at "ev"
  have lands := lands_of ok ln tot
  have hd2 := k2.D hd1
  have ha2 := k2.L ha1
  have val : ∀ p : Nat, p < rows.length → valD kvs (Sum.inl (p : Int)) = some (.int ((m p).getD 0 : Nat)) := fun p hp => by
   rw [lan p]
   obtain ⟨g, e⟩ := Option.isSome_iff_exists.mp (tot p hp)
   rw [e]; rfl
  walk_at "ev"
  refine ⟨sizeLine_ge (by decide), _, readL_app ha2, ?_⟩
  try walk_at "ev"
  have hk' : ∀ N, readD (M2 ++ N) M1.length = some kvs := fun N => readD_app hk
  have hp' : ∀ N, readD (M2 ++ N) nn = some (foldD (numP (rows.map Rw.num))) := fun N => readD_app hd2
  generalize hL : (fun p => (m p).getD 0) = L at lands
  have val' : ∀ p : Nat, p < rows.length → valD kvs (Sum.inl (p : Int)) = some (.int (L p : Nat)) := fun p hp => by rw [val p hp, ← hL]
  refine forD_by (fun i σ M' => ∃ d4 d5, σ = [some (.ref a), some (.ref nn), some (.ref M1.length), some (.ref M2.length), d4, d5] ∧ M' = M2 ++ [.lst (((nodesOf rows L).take i).map Nd.d)]) ⟨none, none, rfl, rfl⟩ ?_ ?_ ?_
  ·rintro i σ M' _ ⟨d4, d5, rfl, rfl⟩
   exact ⟨_, readL_app ha2, rfl⟩
  ·rintro i dx σ M' C hx ⟨d4, d5, rfl, rfl⟩ hC
   obtain ⟨y, hy, rfl⟩ := enum_get hx
   have hi : i < rows.length := by have := (List.getElem?_eq_some_iff.mp hy).1; rwa [List.length_map] at this
   obtain ⟨r, hr⟩ : ∃ r, rows[i]? = some r := ⟨_, List.getElem?_eq_getElem hi⟩
   rw [List.getElem?_map, hr] at hy
   cases hy
   have len : (((nodesOf rows L).take i).map Nd.d).length < sizeLine := by
    rw [List.length_map, List.length_take, nodesOf_len]
    exact sizeLine_gt (by omega)
   have fin : ∀ d4 d5, C [some (.ref a), some (.ref nn), some (.ref M1.length), some (.ref M2.length), d4, d5] (M2 ++ [.lst (((nodesOf rows L).take i).map Nd.d ++ [(r.node rows L i).d])]) := by
    intro d4 d5
    refine hC _ _ ⟨d4, d5, rfl, ?_⟩
    try walk_at "ev"
    rw [take_snoc (nodesOf_get hr), List.map_append]
    rfl
   have put : ∀ d4 d5 v, v = (r.node rows L i).d → ∃ xs, readW (M2 ++ [.lst (((nodesOf rows L).take i).map Nd.d)]) M2.length = some xs ∧ xs.length < sizeLine ∧ C [some (.ref a), some (.ref nn), some (.ref M1.length), some (.ref M2.length), d4, d5] ((M2 ++ [.lst (((nodesOf rows L).take i).map Nd.d)] : Store).set M2.length (.lst (xs ++ [v]))) := by
    rintro d4 d5 v rfl
    refine ⟨_, readW_end _ _ [], len, ?_⟩
    try walk_at "ev"
    rw [set_end]
    exact fin d4 d5
   have isS : (readL (M2 ++ [.lst (((nodesOf rows L).take i).map Nd.d)]) M2.length).isSome = true := isSome_of (readL_end _ _ [])
   have e1 : ((i : Int) + 1) = ((i + 1 : Nat) : Int) := by omega
   simp only [b_linked_2]
   try walk_at "ev"
   cases r with
   | sum k x o1 sg o2 =>
    have hl := ok.last i _ hr rfl
    simp only [Rw.d]
    try walk_at "ev"
    refine ⟨_, rfl, ?_⟩
    try walk_at "ev"
    rw [show U.cutD [.int k, .str "sum", .str x, o1.d, .str sg, o2.d] (some 1) none = [.str "sum", .str x, o1.d, .str sg, o2.d] from rfl, e1]
    refine ⟨isS, by decide, ix_d (hk' _) rfl (val' _ hl) ⟨sizeLine_ge (by decide), by simp, sizeLine_ge (by simp), put _ _ _ rfl⟩⟩
   | test k o1 sg o2 g =>
    have hl := ok.last i _ hr rfl
    have hg := ok.goal _ (List.mem_of_getElem? hr) g rfl
    simp only [Rw.d]
    try walk_at "ev"
    refine ⟨_, rfl, ?_⟩
    try walk_at "ev"
    rw [if_neg (by decide +kernel)]
    try walk_at "ev"
    refine ⟨_, rfl, ?_⟩
    try walk_at "ev"
    rw [show U.cutD [.int k, .str "test", o1.d, .str sg, o2.d, .int g] (some 1) (some 5) = [.str "test", o1.d, .str sg, o2.d] from rfl, e1]
    refine ⟨isS, by decide, _, rfl, ix_d (hp' _) rfl (val_num _ _ rfl ok.nd g hg) (ix_d (hk' _) rfl (val' _ (pos_lt hg)) (ix_d (hk' _) rfl (val' _ hl) ⟨sizeLine_ge (by decide), by simp, sizeLine_ge (by simp), put _ _ _ rfl⟩))⟩
   | fin k =>
    simp only [Rw.d]
    try walk_at "ev"
    refine ⟨_, rfl, ?_⟩
    try walk_at "ev"
    rw [if_neg (by decide +kernel)]
    try walk_at "ev"
    refine ⟨_, rfl, ?_⟩
    try walk_at "ev"
    rw [if_neg (by decide +kernel)]
    try walk_at "ev"
    refine ⟨_, rfl, ?_⟩
    try walk_at "ev"
    exact ⟨isS, sizeLine_ge (by decide), put _ _ _ rfl⟩
   | jump k g =>
    simp only [Rw.d]
    try walk_at "ev"
    refine ⟨_, rfl, ?_⟩
    try walk_at "ev"
    rw [if_neg (by decide +kernel)]
    try walk_at "ev"
    refine ⟨_, rfl, ?_⟩
    try walk_at "ev"
    rw [if_neg (by decide +kernel)]
    try walk_at "ev"
    refine ⟨_, rfl, ?_⟩
    try walk_at "ev"
    rw [if_neg (by decide +kernel)]
    try walk_at "ev"
    exact ⟨isS, sizeLine_ge (by decide), put _ _ _ rfl⟩
  ·rintro σ M' ⟨d4, d5, rfl, rfl⟩
   rw [enum_len, List.length_map, ← nodesOf_len rows L, List.take_length]
   simp only [b_linked_1]
   walk_at "ev"
   refine ix_d (y := Sum.inl ((0 : Nat) : Int)) (hk' _) rfl (val' 0 ok.pos) ⟨sizeLine_ge (by decide), ?_⟩
   try walk_at "ev"
   refine q L _ _ lands ((k1.trans k2).app _) (readW_end _ _ []) ?_
   try walk_at "ev"
   obtain ⟨X1, rfl⟩ := k1
   obtain ⟨X2, rfl⟩ := k2
   simp only [List.length_append]
   omega
end
def spGraphOf : DSp := fun ds M Q _ => ∃ (a : Nat) (rows : List Rw), ds = [.ref a] ∧ readL M a = some (rows.map Rw.d) ∧ RwOk rows ∧ (∀ L d, Lands rows L → ND.Ends (wy (nodesOf rows L)) (L 0) d → d.length ≤ 40) ∧
 ∀ L d M' r, Lands rows L → ND.Ends (wy (nodesOf rows L)) (L 0) d → Kp M M' → readW M' r = some ((gra (nodesOf rows L) d.reverse).map Nd.d) → M.length ≤ r → Q (.ref r) M'
theorem gw_nodes (nds : List Nd) : gw (nds.map fun d => d.gs.reverse) = wy nds := by
 funext y
 unfold gw wy
 rw [List.getD_eq_getElem?_getD, List.getElem?_map]
 cases nds[y]? with
 | none => rfl
 | some d => simp
theorem nodes_gs {rows : List Rw} (ok : RwOk rows) {L : Nat → Nat} (h : Lands rows L) : ∀ d ∈ nodesOf rows L, ∀ t ∈ d.gs, t < rows.length := by
 intro d hd t ht
 obtain ⟨i, hi⟩ := List.getElem?_of_mem hd
 unfold nodesOf at hi
 rw [List.getElem?_mapIdx, Option.map_eq_some_iff] at hi
 obtain ⟨r, hr, rfl⟩ := hi
 cases r with
 | sum k x o1 sg o2 =>
  have hl := ok.last i _ hr rfl
  simp [Rw.node, Nd.gs] at ht
  rw [ht]; exact h.lt _ hl
 | test k o1 sg o2 g =>
  have hl := ok.last i _ hr rfl
  have hg := ok.goal _ (List.mem_of_getElem? hr) g rfl
  simp [Rw.node, Nd.gs] at ht
  rcases ht with ht | ht
  ·rw [ht]; exact h.lt _ hl
  ·rw [ht]; exact h.lt _ (pos_lt hg)
 | jump k g => simp [Rw.node, Nd.gs] at ht
 | fin k => simp [Rw.node, Nd.gs] at ht
theorem ends_in {g : Nat → List Nat} {x : Nat} {d : List Nat} {S : Nat → Prop} (cl : ∀ x, S x → ∀ t ∈ g x, S t) (hx : S x) (h : ND.Ends g x d) : ∀ y ∈ d, S y := by
 obtain ⟨k0, b, h⟩ := h
 have i0 : ND.In S ⟨[x], [(x, g x)], []⟩ := ⟨fun y hy => by rw [List.mem_singleton] at hy; subst hy; exact hx, fun p hp => by rw [List.mem_singleton] at hp; subst hp; exact ⟨hx, cl x hx⟩, fun y hy => by simp at hy⟩
 have all : ∀ k, ND.In S (ND.itr g k ⟨[x], [(x, g x)], []⟩) := fun k => by
  induction k with
  | zero => exact i0
  | succ k ih => exact ih.stp cl
 have := all k0
 rw [h] at this
 exact this.d
section
variable {K : PySem.W.Frag}
theorem r_graph_of {Γ} (g0 : Γ[0]? = some spWays) (g2 : Γ[2]? = some spWalked) (g3 : Γ[3]? = some spNumbered) (g5 : Γ[5]? = some spLinked) : ∀ ds M Q Z, spGraphOf ds M Q Z → tss ⟨K, Γ, [.int 40]⟩ noX b_graph_of { nx := fun _ M => Q .non M, rt := Q } (start0 N_graph_of ds) M := by
 rintro ds M Q Z ⟨a, rows, rfl, ha, ok, h40, q⟩
 have hn := ok.small
 simp only [b_graph_of, N_graph_of]
 walk_at "ev"
 try simp only [g0, g2, g3, g5]
 refine ⟨a, rows, rfl, ha, ok, fun L M1 r1 lands k1 hw1 _ => ?_⟩
 try walk_at "ev"
 have hL1 := readW_readL hw1
 have ngs := nodes_gs ok lands
 have hlen := nodesOf_len rows L
 generalize hnds : nodesOf rows L = nds at hw1 hL1 ngs hlen
 walk_at "ev"
 refine ⟨_, hL1, ?_⟩
 try walk_at "ev"
 simp only [capD, List.map_cons, List.map_nil, Option.bind_none, Option.bind_some, List.getElem?_cons_zero, List.getElem?_cons_succ, Option.join_some]
 refine compD_by (fun i σ M' => ∃ d1, σ = [d1] ∧ M' = M1 ++ [.lst ((nds.take i).map fun d => .tup (natD d.gs.reverse))]) ⟨none, rfl, rfl⟩ ?_ ?_ ?_
 ·rintro i σ M' _ ⟨d1, rfl, rfl⟩
  exact readL_app hL1
 ·rintro i dx σ M' C hx ⟨d1, rfl, rfl⟩ hC
  have hi : i < nds.length := by have := (List.getElem?_eq_some_iff.mp hx).1; rwa [List.length_map] at this
  obtain ⟨d, hd⟩ : ∃ d, nds[i]? = some d := ⟨_, List.getElem?_eq_getElem hi⟩
  rw [nds_at hd] at hx
  cases hx
  walk_at "ev"
  refine ⟨d, rfl, _, readW_end _ _ [], by rw [List.length_map, List.length_take]; exact sizeLine_gt (by omega), ?_⟩
  try walk_at "ev"
  rw [set_end]
  refine hC _ _ ⟨_, rfl, ?_⟩
  try walk_at "ev"
  rw [take_snoc hd, List.map_append]
  rfl
 ·rintro σ M' ⟨d1, rfl, rfl⟩
  rw [List.length_map, List.take_length]
  try walk_at "ev"
  refine ⟨sizeLine_ge (by decide), ?_⟩
  try walk_at "ev"
  have k2 : Kp M1 (M1 ++ [.lst (nds.map fun d => .tup (natD d.gs.reverse))] ++ [.lst [.int (L 0 : Nat)]]) := (Kp.new _ _).app _
  have r2 : readL (M1 ++ [.lst (nds.map fun d => .tup (natD d.gs.reverse))] ++ [.lst [.int (L 0 : Nat)]]) M1.length = some (nds.map fun d => .tup (natD d.gs.reverse)) := readL_app (readL_end _ _ [])
  have r3 : readL (M1 ++ [.lst (nds.map fun d => .tup (natD d.gs.reverse))] ++ [.lst [.int (L 0 : Nat)]]) (M1 ++ [Cell.lst (nds.map fun d => .tup (natD d.gs.reverse))] : Store).length = some [.int (L 0 : Nat)] := readL_end _ _ []
  generalize M1 ++ [.lst (nds.map fun d => .tup (natD d.gs.reverse))] ++ [.lst [.int (L 0 : Nat)]] = M2 at k2 r2 r3
  generalize (M1 ++ [Cell.lst (nds.map fun d => .tup (natD d.gs.reverse))] : Store).length = sb at r3
  have h0 := lands.lt 0 ok.pos
  refine ⟨M1.length, sb, L 0, nds.map fun d => d.gs.reverse, rfl, by rw [List.map_map]; exact r2, r3, by rw [List.length_map]; omega, by rw [List.length_map]; omega, ?_, fun d M3 r4 ends k3 hw3 _ => ?_⟩
  ·intro l hl
   obtain ⟨d, hd, rfl⟩ := List.mem_map.mp hl
   have two := d.gs_two
   refine ⟨by rw [List.length_reverse]; omega, fun t ht => ?_⟩
   try walk_at "ev"
   rw [List.length_map, hlen]
   exact ngs d hd t (List.mem_reverse.mp ht)
  rw [gw_nodes] at ends
  have h40' := h40 L d lands (by rw [hnds]; exact ends)
  obtain ⟨nd, cl, last⟩ := ends.facts
  have hO := readW_readL hw3
  have hin : ∀ y ∈ d, y < rows.length := ends_in (S := (· < rows.length)) (fun y hy t ht => by
   obtain ⟨dd, hdd⟩ : ∃ dd, nds[y]? = some dd := ⟨_, List.getElem?_eq_getElem (by rw [hlen]; exact hy)⟩
   rw [wy_at hdd] at ht
   exact ngs dd (List.mem_of_getElem? hdd) t ht) h0 ends
  try walk_at "ev"
  refine bf_len_l hO ?_
  try walk_at "ev"
  rw [natD_len, List.length_reverse]
  try walk_at "ev"
  rw [if_neg (by omega)]
  try walk_at "ev"
  simp only [b_graph_of_1]
  walk_at "ev"
  try simp only [g3]
  refine ⟨r1, r4, nds, d.reverse, rfl, k3.L (k2.L hL1), hO, List.pairwise_reverse.mpr (nd.imp fun h => Ne.symm h), by rw [List.length_reverse]; omega, fun x hx => by rw [hlen]; exact hin x (List.mem_reverse.mp hx), fun x hx t ht => List.mem_reverse.mpr (cl x (List.mem_reverse.mp hx) t ht), fun M4 r5 k4 hw4 hr5 => ?_⟩
  try walk_at "ev"
  refine q L d M4 r5 lands (by rw [hnds]; exact ends) (((k1.trans k2).trans k3).trans k4) (by rw [hnds]; exact hw4) ?_
  try walk_at "ev"
  obtain ⟨X1, rfl⟩ := k1
  obtain ⟨X2, rfl⟩ := k2
  obtain ⟨X3, rfl⟩ := k3
  simp only [List.length_append] at hr5
  omega
end
section
variable {K : PySem.W.Frag}
def AL (M : Store) : Nat → D → D → Prop
 | 0, x, y => x = y ∧ flatD x = true
 | n + 1, x, y => (x = y ∧ flatD x = true) ∨ (∃ xs ys, x = .tup xs ∧ y = .tup ys ∧ xs.length = ys.length ∧ xs.length ≤ 100000 ∧ ∀ (i : Nat) a b, xs[i]? = some a → ys[i]? = some b → AL M n a b) ∨
   ∃ m k xs ys, x = .ref m ∧ y = .ref k ∧ readW M m = some xs ∧ readW M k = some ys ∧ xs.length = ys.length ∧ xs.length ≤ 100000 ∧ ∀ (i : Nat) a b, xs[i]? = some a → ys[i]? = some b → AL M n a b
def spAlike (n : Nat) : DSp := fun ds M Q _ => ∃ x y, ds = [x, y] ∧ AL M n x y ∧ Q (.bl true) M
theorem AL.flat {M : Store} {n : Nat} {x : D} (h : flatD x = true) : AL M n x x := by
 cases n with
 | zero => exact ⟨rfl, h⟩
 | succ n => exact .inl ⟨rfl, h⟩
theorem alike_flat {Γ G} {M : Store} {Q : DK} {x : D} (h : flatD x = true) (q : Q (.bl true) M) : tss ⟨K, Γ, G⟩ noX b_Lalike { nx := fun _ M => Q .non M, rt := Q } (start0 N_Lalike [x, x]) M := by
 simp only [b_Lalike, N_Lalike]
 try walk_at "ev"
 cases x with
 | non =>
  walk_at "ev"
  exact q
 | bl b =>
  walk_at "ev"
  simp only [b_Lalike_8]
  walk_at "ev"
  simpa using q
 | int i =>
  walk_at "ev"
  simp only [b_Lalike_8]
  walk_at "ev"
  simp only [b_Lalike_7]
  walk_at "ev"
  simpa using q
 | str z =>
  walk_at "ev"
  simp only [b_Lalike_8]
  walk_at "ev"
  simp only [b_Lalike_7]
  walk_at "ev"
  simp only [b_Lalike_6]
  walk_at "ev"
  simpa using q
 | _ => exact absurd h Bool.false_ne_true
theorem r_Lalike0 {Γ G} : ∀ ds M Q Z, spAlike 0 ds M Q Z → tss ⟨K, Γ, G⟩ noX b_Lalike { nx := fun _ M => Q .non M, rt := Q } (start0 N_Lalike ds) M := by
 rintro ds M Q Z ⟨x, y, rfl, ⟨rfl, h⟩, q⟩
 exact alike_flat h q
theorem alike_end {Γ G} {n : Nat} (g : Γ[13]? = some (spAlike n)) {M : Store} {Q : DK} {x y : D} {xs ys : List D} {d : Option D} (hl : xs.length = ys.length) (hs : xs.length ≤ 100000) (h : ∀ (i : Nat) a b, xs[i]? = some a → ys[i]? = some b → AL M n a b)
  (lx : ∀ F : DK, F (.int xs.length) M → bfD K .len [x] M F) (ly : ∀ F : DK, F (.int ys.length) M → bfD K .len [y] M F) (ix : ∀ (i : Nat) a (F : D → Prop), xs[i]? = some a → F a → ixD M x (.int i) F) (iy : ∀ (i : Nat) a (F : D → Prop), ys[i]? = some a → F a → ixD M y (.int i) F) (q : Q (.bl true) M) :
  tss ⟨K, Γ, G⟩ noX b_Lalike_4 { nx := fun _ M => Q .non M, rt := Q } [some x, some y, d] M := by
 simp only [b_Lalike_4]
 walk_at "ev"
 refine lx _ (ly _ ?_)
 walk_at "ev"
 rw [if_neg (by rw [hl]; simp)]
 try walk_at "ev"
 simp only [b_Lalike_3]
 walk_at "ev"
 refine ly _ ⟨by omega, by omega, ?_⟩
 try walk_at "ev"
 rw [Int.toNat_natCast]
 refine forD_rng (fun i σ M' => ∃ d, σ = [some x, some y, d] ∧ M' = M) ⟨d, rfl, rfl⟩ ?_ ?_
 ·rintro i σ M' C hi ⟨d, rfl, rfl⟩ hC
  simp only [b_Lalike_2, Int.zero_add]
  walk_at "ev"
  refine ix i _ _ (List.getElem?_eq_getElem (by omega)) (iy i _ _ (List.getElem?_eq_getElem hi) ?_)
  simp only [g]
  refine ⟨_, _, rfl, h i _ _ (List.getElem?_eq_getElem (by omega)) (List.getElem?_eq_getElem hi), ?_⟩
  walk_at "ev"
  exact hC _ _ ⟨_, rfl, rfl⟩
 ·rintro σ M' ⟨d, rfl, rfl⟩
  simp only [b_Lalike_1]
  walk_at "ev"
  exact q
theorem r_LalikeS {Γ G} {n : Nat} (g : Γ[13]? = some (spAlike n)) : ∀ ds M Q Z, spAlike (n + 1) ds M Q Z → tss ⟨K, Γ, G⟩ noX b_Lalike { nx := fun _ M => Q .non M, rt := Q } (start0 N_Lalike ds) M := by
 rintro ds M Q Z ⟨x, y, rfl, h | ⟨xs, ys, rfl, rfl, hl, hs, h⟩ | ⟨m, k, xs, ys, rfl, rfl, h1, h2, hl, hs, h⟩, q⟩
 ·obtain ⟨rfl, h⟩ := h
  exact alike_flat h q
 ·simp only [b_Lalike, N_Lalike]
  walk_at "ev"
  simp only [b_Lalike_8]
  walk_at "ev"
  simp only [b_Lalike_7]
  walk_at "ev"
  simp only [b_Lalike_6]
  walk_at "ev"
  simp only [b_Lalike_5]
  walk_at "ev"
  exact alike_end g hl hs h (fun F f => f) (fun F f => f) (fun i a F e f => ⟨a, atI_nat e, f⟩) (fun i a F e f => ⟨a, atI_nat e, f⟩) q
 ·have i1 : ∀ {t : Ty} {B : Bool → Prop}, isD K M (.ref m) (.ty (tyName t)) B = B (tyLst t) := fun {t B} => is_lst h1
  have i2 : ∀ {t : Ty} {B : Bool → Prop}, isD K M (.ref k) (.ty (tyName t)) B = B (tyLst t) := fun {t B} => is_lst h2
  simp only [b_Lalike, N_Lalike]
  walk_at "ev"
  simp only [b_Lalike_8]
  walk_at "ev"
  simp only [i2]
  walk_at "ev"
  simp only [b_Lalike_7]
  walk_at "ev"
  simp only [i2]
  walk_at "ev"
  simp only [b_Lalike_6]
  walk_at "ev"
  simp only [i2]
  walk_at "ev"
  simp only [b_Lalike_5]
  walk_at "ev"
  simp only [i1, i2]
  walk_at "ev"
  exact alike_end g hl hs h (fun F f => bf_len_l (readW_readL h1) f) (fun F f => bf_len_l (readW_readL h2) f) (fun i a F e f => ix_l (readW_readL h1) e f) (fun i a F e f => ix_l (readW_readL h2) e f) q
end
set_option hygiene false
local macro_rules | `(tactic| walk_at "ew") => do
 let ids := ("tss ts te tes teo tit tcd tbop tt op_add_i op_add_s op_add_t op_add_l op_sub_i op_mul_i op_mul_l op_fdiv_i op_mod_i op_pow_i cm_lt_i cm_gt_i cm_ge_i cm_eq cm_ne cm_in cm_notin cm_is_n cm_is_i cm_is_s cm_is_b cm_is_t cm_is_r eq_i eq_s eq_b eq_nn eq_is eq_si tru_b tru_i tru_n tru_t ix_t ix_g ix_s sl_s sl_t sl_l is_non is_bl is_int is_str is_tup tyNon tyBl tyInt tyStr tyTup tyLst tyDct bf_len_t bf_len_s bf_is bf_min bf_max bf_min1 bf_list bf_tuple bf_dict on_ref on_tup set_f at2_xy mt_append_r mt_get2_r mt_pop_r mt_reverse_r mt_index_r mk_append mk_pop mk_reverse mk_get2 mk_index tg_one tg_two it_r it_t it_g key_i key_s in_ss start0 List.map_cons List.map_nil List.length_cons List.length_nil List.cons_append List.nil_append List.append_nil List.replicate List.set_cons_zero List.set_cons_succ List.getElem?_cons_zero List.getElem?_cons_succ Nat.reduceAdd Nat.reduceSub Nat.sub_self Nat.zero_add decide_eq_true_eq ne_eq Int.reduceEq not_false_eq_true true_and Bool.not_eq_true' decide_eq_false_iff_not Bool.false_eq_true if_true if_false Bool.not_true Bool.not_false".splitOn " ").toArray.map fun s => Lean.mkIdent s.toName
 `(tactic| simp only [$[$ids:ident],*])
def StrsOk (l : List Str) : Prop := ∀ s ∈ l, PyData.canLay0 (.str s) = true
theorem strs_ok {l : List Str} (h : l.all (fun s => PyData.canLay0 (.str s)) = true) : StrsOk l := fun s hs => List.all_eq_true.mp h s hs
def spNames : DSp := fun ds M Q _ => ∃ c : Int, ds = [.int c] ∧ ∀ (l : List Str) M' r, l.length = 4 → StrsOk l → Kp M M' → readL M' r = some (l.map D.str) → Q (.ref r) M'
def spOperand : DSp := fun ds M Q _ => ∃ (u c : Int) (g : Nat) (l : List Str), ds = [.int u, .int c, .ref g] ∧ l.length = 4 ∧ StrsOk l ∧ readL M g = some (l.map D.str) ∧ ∀ o : Opd, o.ok = true → Q o.d M
section
variable {K : PySem.W.Frag}
theorem mod_four (c : Int) : c % 4 = ((0 : Nat) : Int) ∨ c % 4 = ((1 : Nat) : Int) ∨ c % 4 = ((2 : Nat) : Int) ∨ c % 4 = ((3 : Nat) : Int) := by omega
theorem r_Lnames {Γ G} : ∀ ds M Q Z, spNames ds M Q Z → tss ⟨K, Γ, G⟩ noX b_Lnames { nx := fun _ M => Q .non M, rt := Q } (start0 N_Lnames ds) M := by
 rintro ds M Q Z ⟨c, rfl, q⟩
 simp only [b_Lnames, N_Lnames]
 walk_at "ew"
 simp only [List.append_assoc, List.cons_append, List.nil_append, List.length_append, List.length_cons, List.length_nil]
 refine ⟨sizeLine_ge (by decide), sizeLine_ge (by decide), sizeLine_ge (by decide), sizeLine_ge (by decide), ?_⟩
 refine ⟨isSome_of (by rw [readL_endk]; rfl), sizeLine_ge (by decide), _, by rw [readW_endk]; rfl, sizeLine_gt (by simp), ?_⟩
 rw [set_endk]
 simp only [List.set_cons_succ, List.set_cons_zero, List.cons_append, List.nil_append]
 rw [qm (show (0 : Int) < 4 by decide)]
 have rO : ∀ a b c d e : Cell, readL (M ++ [a, b, c, d, e]) (M.length + (0 + 1 + 1 + 1)) = readL [a, b, c, d, e] 3 := fun a b c d e => readL_endk M _ 3
 have fin : ∀ (N : Store) (k : Nat) (l : List Str), readL N k = some (l.map D.str) → l.length = 4 → StrsOk l → Q (.ref (M.length + k)) (M ++ N) := fun N k l h1 h2 h3 => q l _ _ h2 h3 (Kp.new _ _) (by rw [readL_endk]; exact h1)
 rcases mod_four c with e | e | e | e
 ·rw [e]
  refine ix_l (k := 0) (xs := [.ref M.length, .ref (M.length + (0 + 1)), .ref (M.length + (0 + 1 + 1)), .ref (M.length + (0 + 1 + 1 + 1 + 1))]) (by rw [rO]; rfl) rfl ?_
  exact fin _ 0 ["x", "y", "z", "w"] rfl rfl (strs_ok (by decide +kernel))
 ·rw [e]
  refine ix_l (k := 1) (xs := [.ref M.length, .ref (M.length + (0 + 1)), .ref (M.length + (0 + 1 + 1)), .ref (M.length + (0 + 1 + 1 + 1 + 1))]) (by rw [rO]; rfl) rfl ?_
  exact fin _ 1 ["ab", "aa", "bb", "ba"] rfl rfl (strs_ok (by decide +kernel))
 ·rw [e]
  refine ix_l (k := 2) (xs := [.ref M.length, .ref (M.length + (0 + 1)), .ref (M.length + (0 + 1 + 1)), .ref (M.length + (0 + 1 + 1 + 1 + 1))]) (by rw [rO]; rfl) rfl ?_
  exact fin _ 2 ["q1", "q", "q11", "q2"] rfl rfl (strs_ok (by decide +kernel))
 ·rw [e]
  refine ix_l (k := 3) (xs := [.ref M.length, .ref (M.length + (0 + 1)), .ref (M.length + (0 + 1 + 1)), .ref (M.length + (0 + 1 + 1 + 1 + 1))]) (by rw [rO]; rfl) rfl ?_
  exact fin _ 4 ["sum1aaaa", "sum1aaab", "sum2aaaa", "tum1aaaa"] rfl rfl (strs_ok (by decide +kernel))
theorem r_Loperand {Γ G} : ∀ ds M Q Z, spOperand ds M Q Z → tss ⟨K, Γ, G⟩ noX b_Loperand { nx := fun _ M => Q .non M, rt := Q } (start0 N_Loperand ds) M := by
 rintro ds M Q Z ⟨u, c, g, l, rfl, hl, hso, hg, q⟩
 simp only [b_Loperand, N_Loperand]
 walk_at "ew"
 split
 ·exact ⟨⟨by decide, by decide, by decide⟩, mulL (by decide) (by decide), by decide, ⟨by decide, by decide, by decide⟩, q (.no _) rfl⟩
 ·simp only [b_Loperand_2]
  walk_at "ew"
  split
  ·refine ⟨?_, q (.no _) rfl⟩
   exact cdiv_lit (by decide) (by decide)
  ·simp only [b_Loperand_1]
   walk_at "ew"
   refine ⟨cdiv_lit (by decide) (by decide), ?_⟩
   rw [qm (show (0 : Int) < 4 by decide)]
   obtain ⟨k, hk, e⟩ : ∃ k : Nat, k < 4 ∧ qdiv u 8 % 4 = (k : Int) := by
    rcases mod_four (qdiv u 8) with e | e | e | e
    ·exact ⟨0, by decide, e⟩
    ·exact ⟨1, by decide, e⟩
    ·exact ⟨2, by decide, e⟩
    ·exact ⟨3, by decide, e⟩
   rw [e]
   exact ix_l hg (by rw [List.getElem?_map, List.getElem?_eq_getElem (by omega)]; rfl) (q (.nm _) (hso _ (List.getElem_mem _)))
end
def Rw.ok : Rw → Bool
 | .sum _ x a sg b => PyData.canLay0 (.str x) && a.ok && PyData.canLay0 (.str sg) && b.ok
 | .test _ a sg b _ => a.ok && PyData.canLay0 (.str sg) && b.ok
 | _ => true
def spRow : DSp := fun ds M Q _ => ∃ (c : Int) (k nu na : Nat) (nums : List Nat) (l : List Str), ds = [.int c, .int k, .ref nu, .ref na] ∧ readL M nu = some (natD nums) ∧ k < nums.length ∧ nums.length ≤ 1000 ∧ l.length = 4 ∧ StrsOk l ∧ readL M na = some (l.map D.str) ∧
 ∀ (r : Rw) M', r.ok = true → (∀ x, nums[k]? = some x → r.num = x) → (∀ g, r.goal = some g → g ∈ nums) → Kp M M' → Q r.d M'
section
variable {K : PySem.W.Frag}
theorem mod_get {α : Type} {xs : List α} {c : Int} {n : Nat} (hn : xs.length = n) (h : 0 < n) : ∃ (k : Nat) (d : α), c % (n : Int) = (k : Int) ∧ xs[k]? = some d := by
 have h1 := Int.emod_nonneg c (show (n : Int) ≠ 0 by omega)
 have h2 := Int.emod_lt_of_pos c (show (0 : Int) < n by omega)
 exact ⟨(c % (n : Int)).toNat, _, by omega, List.getElem?_eq_getElem (by omega)⟩
theorem str_get {xs : List Str} {k : Nat} {s : Str} (h : xs[k]? = some s) : (xs.map D.str)[k]? = some (.str s) := by rw [List.getElem?_map, h]; rfl
theorem r_Lrow {Γ G} (g8 : Γ[8]? = some spMixed) (g10 : Γ[10]? = some spOperand) : ∀ ds M Q Z, spRow ds M Q Z → tss ⟨K, Γ, G⟩ noX b_Lrow { nx := fun _ M => Q .non M, rt := Q } (start0 N_Lrow ds) M := by
 rintro ds M Q Z ⟨c, k, nu, na, nums, l, rfl, hnu, hk, h1000, hl, hso, hna, q⟩
 obtain ⟨x, hx⟩ : ∃ x, nums[k]? = some x := ⟨_, List.getElem?_eq_getElem hk⟩
 simp only [b_Lrow, N_Lrow]
 walk_at "ew"
 simp only [g8, g10]
 refine ⟨c, k, rfl, by omega, by omega, ?_⟩
 generalize mix c k = u
 walk_at "ew"
 refine ⟨cdiv_lit (by decide) (by decide), _, _, na, l, rfl, hl, hso, hna, fun o1 ok1 => ?_⟩
 walk_at "ew"
 refine ⟨cdiv_lit (by decide) (by decide), cdiv_lit (by decide) (by decide), _, _, na, l, rfl, hl, hso, hna, fun o2 ok2 => ?_⟩
 walk_at "ew"
 refine ⟨cdiv_lit (by decide) (by decide), bf_len_l hnu ?_⟩
 rw [natD_len]
 walk_at "ew"
 refine ⟨by omega, ?_⟩
 rw [qm (show (0 : Int) < nums.length by omega)]
 obtain ⟨j, t, ej, hj⟩ := mod_get (xs := nums) (c := qdiv u 65536) rfl (by omega)
 rw [ej]
 refine ix_l hnu (natD_get hj) ?_
 have ht := List.mem_of_getElem? hj
 have hxe : ∀ y, nums[k]? = some y → x = y := fun y hy => by rw [hx] at hy; cases hy; rfl
 split
 ·obtain ⟨j1, s1, e1, h1⟩ := mod_get (xs := (["+", "-", "/", "rest", "&", "^"] : List Str)) (c := qdiv u 97) (n := 6) rfl (by decide)
  obtain ⟨j2, s2, e2, h2⟩ := mod_get (xs := l) (c := qdiv u 389) (n := 4) hl (by decide)
  rw [qm (show (0 : Int) < 6 by decide), qm (show (0 : Int) < 4 by decide)]
  rw [show qdiv u 97 % 6 = (j1 : Int) from e1, show qdiv u 389 % 4 = (j2 : Int) from e2]
  refine ⟨sizeLine_ge (by decide), cdiv_lit (by decide) (by decide), ix_l (readL_end _ _ []) (str_get h1) (ix_l (readL_app hnu) (natD_get hx) ⟨cdiv_lit (by decide) (by decide), ix_l (readL_app hna) (str_get h2) ⟨sizeLine_ge (by decide), ?_⟩⟩)⟩
  have oks : PyData.canLay0 (.str s1) = true := strs_ok (l := ["+", "-", "/", "rest", "&", "^"]) (by decide +kernel) s1 (List.mem_of_getElem? h1)
  exact q (.sum x s2 o1 s1 o2) _ (by show (_ && _ && _ && _) = true; rw [hso _ (List.mem_of_getElem? h2), ok1, oks, ok2]; rfl) hxe (fun g h => by cases h) (Kp.new _ _)
 ·simp only [b_Lrow_3]
  walk_at "ew"
  split
  ·obtain ⟨j1, s1, e1, h1⟩ := mod_get (xs := (["<", "="] : List Str)) (c := qdiv u 193) (n := 2) rfl (by decide)
   rw [qm (show (0 : Int) < 2 by decide), show qdiv u 193 % 2 = (j1 : Int) from e1]
   refine ix_l hnu (natD_get hx) ⟨sizeLine_ge (by decide), cdiv_lit (by decide) (by decide), ix_l (readL_end _ _ []) (str_get h1) ⟨sizeLine_ge (by decide), ?_⟩⟩
   have oks : PyData.canLay0 (.str s1) = true := strs_ok (l := ["<", "="]) (by decide +kernel) s1 (List.mem_of_getElem? h1)
   exact q (.test x o1 s1 o2 t) _ (by show (_ && _ && _) = true; rw [ok1, oks, ok2]; rfl) hxe (fun g h => by cases h; exact ht) (Kp.new _ _)
  ·simp only [b_Lrow_2]
   walk_at "ew"
   split
   ·refine ix_l hnu (natD_get hx) ⟨sizeLine_ge (by decide), ?_⟩
    exact q (.jump x t) _ rfl hxe (fun g h => by cases h; exact ht) (Kp.refl _)
   ·simp only [b_Lrow_1]
    walk_at "ew"
    refine ix_l hnu (natD_get hx) ⟨sizeLine_ge (by decide), ?_⟩
    exact q (.fin x) _ rfl hxe (fun g h => by cases h) (Kp.refl _)
end
def spRows : DSp := fun ds M Q _ => ∃ (a : Nat) (h : Int) (ns : List Int), ds = [.ref a, .int h] ∧ readL M a = some (ns.map .int) ∧ ns.length ≤ 39 ∧ 0 ≤ h ∧
 ∀ (rows : List Rw) M' r, RwOk rows → (∀ r ∈ rows, r.ok = true) → rows.length ≤ 40 → Kp M M' → readW M' r = some (rows.map Rw.d) → M.length ≤ r → Q (.ref r) M'
theorem rises_nodup {l : List Nat} (h : l.Pairwise (· < ·)) : l.Nodup := h.imp fun h => Nat.ne_of_lt h
section
variable {K : PySem.W.Frag}
theorem r_Lrows {Γ G} (g8 : Γ[8]? = some spMixed) (g9 : Γ[9]? = some spNames) (g11 : Γ[11]? = some spRow) : ∀ ds M Q Z, spRows ds M Q Z → tss ⟨K, Γ, G⟩ noX b_Lrows { nx := fun _ M => Q .non M, rt := Q } (start0 N_Lrows ds) M := by
 rintro ds M Q Z ⟨a, h, ns, rfl, ha, hl, h0, q⟩
 simp only [b_Lrows, N_Lrows]
 walk_at "ew"
 simp only [g9]
 refine ⟨h, rfl, fun l M1 na hl4 hso k1 hna => ?_⟩
 have ha1 := k1.L ha
 walk_at "ew"
 refine ⟨cdiv_lit (by decide) (by decide), sizeLine_ge (by decide), bf_len_l (readL_app ha1) ⟨by omega, by rw [List.length_map]; omega, ?_⟩⟩
 rw [Int.toNat_natCast, List.length_map, qm (show (0 : Int) < 300 by decide)]
 have e0 : qdiv h 4 % 300 = ((qdiv h 4 % 300).toNat : Nat) := by omega
 rw [e0]
 refine forD_rng (fun i σ M' => ∃ (nums : List Nat) (N : Store) (d4 d5 : Option D), σ = [some (.ref a), some (.int h), some (.ref na), some (.ref M1.length), d4, d5] ∧ M' = M1 ++ .lst (natD nums) :: N ∧ nums.length = i + 1 ∧ nums.Pairwise (· < ·))
  ⟨[(qdiv h 4 % 300).toNat], [], none, none, rfl, rfl, rfl, List.pairwise_singleton _ _⟩ ?_ ?_
 ·rintro i σ M' C hi ⟨nums, N, d4, d5, rfl, rfl, hlen, hpw⟩ hC
  obtain ⟨y, hy⟩ : ∃ y, nums[i]? = some y := ⟨_, List.getElem?_eq_getElem (by omega)⟩
  simp only [b_Lrows_3, Int.zero_add]
  walk_at "ew"
  refine ⟨isSome_of (readL_end _ _ _), ix_l (readL_end _ _ _) (natD_get hy) ?_⟩
  simp only [g8]
  refine ⟨h, i, rfl, by omega, by omega, ?_⟩
  walk_at "ew"
  obtain ⟨j, m, ej, hm⟩ := mod_get (xs := ([1, 10, 97] : List Nat)) (c := qdiv h 1200) (n := 3) rfl (by decide)
  have hm0 : 0 < m := by
   have := List.mem_of_getElem? hm
   simp at this
   omega
  rw [qm (show (0 : Int) < 3 by decide), show qdiv h 1200 % 3 = (j : Int) from ej]
  refine ⟨sizeLine_ge (by decide), cdiv_lit (by decide) (by decide), ix_l (xs := natD [1, 10, 97]) (readL_end _ _ []) (natD_get hm) ?_⟩
  rw [op_mod_i]
  refine ⟨by omega, ?_⟩
  rw [qm (show (0 : Int) < m by omega), op_add_i, List.append_assoc, List.cons_append]
  refine ⟨_, readW_end _ _ _, by rw [natD_len]; exact sizeLine_gt (by omega), ?_⟩
  have nn := Int.emod_nonneg (mix h i) (show (m : Int) ≠ 0 by omega)
  generalize mix h i % (m : Int) = v at nn
  rw [show ((y : Int) + 1 + v) = ((y + 1 + v.toNat : Nat) : Int) by omega, set_end, ← natD_snoc]
  refine hC _ _ ⟨nums ++ [y + 1 + v.toNat], _, _, _, rfl, rfl, by rw [List.length_append, hlen]; rfl, List.pairwise_append.mpr ⟨hpw, List.pairwise_singleton _ _, fun x hx z hz => ?_⟩⟩
  rw [List.mem_singleton] at hz
  subst hz
  obtain ⟨p, hp, rfl⟩ := List.mem_iff_getElem.mp hx
  have hyi : nums[i]'(by omega) = y := by rw [List.getElem?_eq_getElem (by omega)] at hy; exact Option.some.inj hy
  by_cases e : p = i
  ·subst e; rw [hyi]; omega
  ·have := List.pairwise_iff_getElem.mp hpw p i hp (by omega) (by omega)
   omega
 ·rintro σ M' ⟨nums, N, d4, d5, rfl, rfl, hlen, hpw⟩
  simp only [b_Lrows_2]
  walk_at "ew"
  refine bf_len_l (readL_app ha1) ⟨by omega, by rw [List.length_map]; omega, ?_⟩
  rw [Int.toNat_natCast, List.length_map]
  simp only [capD, List.map_cons, List.map_nil, Option.bind_none, Option.bind_some, List.getElem?_cons_zero, List.getElem?_cons_succ, Option.join_some]
  rw [List.append_assoc, List.cons_append]
  have el : (M1 ++ .lst (natD nums) :: N).length = M1.length + (N.length + 1) := by simp
  rw [el]
  have hnaN : ∀ N', readL (M1 ++ N') na = some (l.map D.str) := fun N' => readL_app hna
  refine compD_by (fun i σ M' => ∃ (d1 : Option D) (rows : List Rw) (X : Store), σ = [d1, some (.ref a), some (.ref M1.length), some (.ref na)] ∧ M' = M1 ++ .lst (natD nums) :: (N ++ .lst (rows.map Rw.d) :: X) ∧ rows.map Rw.num = nums.take i ∧ (∀ r ∈ rows, r.ok = true) ∧ ∀ r ∈ rows, ∀ g, r.goal = some g → g ∈ nums) ⟨none, [], [], rfl, rfl, rfl, by simp, by simp⟩ (fun _ _ _ _ _ => trivial) ?_ ?_
  ·rintro i dx σ M' C hx ⟨d1, rows, X, rfl, rfl, hn, hrk, hg⟩ hC
   have hi : i < ns.length := by
    have := (List.getElem?_eq_some_iff.mp hx).1
    rwa [intsD_length] at this
   rw [intsD_get hi] at hx
   cases hx
   simp only [Int.zero_add]
   walk_at "ew"
   refine ix_l (k := i) (readL_app ha1) (by rw [List.getElem?_map, List.getElem?_eq_getElem hi]; rfl) ?_
   simp only [g11]
   refine ⟨_, i, M1.length, na, nums, l, rfl, readL_end _ _ _, by omega, by omega, hl4, hso, hnaN _, fun r M2 e0 e1 e2 k2 => ?_⟩
   obtain ⟨Y, rfl⟩ := k2
   have hlr : rows.length = i := by have := congrArg List.length hn; rw [List.length_map, List.length_take] at this; omega
   obtain ⟨y, hy⟩ : ∃ y, nums[i]? = some y := ⟨_, List.getElem?_eq_getElem (by omega)⟩
   rw [List.append_assoc]
   simp only [List.cons_append, List.append_assoc]
   have rd : ∀ c, readW (M1 ++ .lst (natD nums) :: (N ++ .lst c :: (X ++ Y))) (M1.length + (N.length + 1)) = some c := fun c => by rw [readW_endk]; exact readW_end N _ _
   refine ⟨_, rd _, by rw [List.length_map]; exact sizeLine_gt (by omega), ?_⟩
   rw [set_endk, List.set_cons_succ, set_end]
   refine hC _ _ ⟨_, rows ++ [r], X ++ Y, rfl, by rw [List.map_append]; rfl, by rw [List.map_append, hn, take_snoc hy]; show _ ++ [r.num] = _; rw [e1 y hy], fun r' hr' => (List.mem_append.mp hr').elim (hrk r') (fun h => by rw [List.mem_singleton] at h; subst h; exact e0), fun r' hr' => ?_⟩
   rcases List.mem_append.mp hr' with h | h
   ·exact hg r' h
   ·rw [List.mem_singleton] at h; subst h; exact e2
  ·rintro σ M' ⟨d1, rows, X, rfl, rfl, hn, hrk, hg⟩
   rw [intsD_length] at hn
   have hne : nums ≠ [] := by rintro rfl; simp at hlen
   obtain ⟨nums', z, rfl⟩ : ∃ nums' z, nums = nums' ++ [z] := ⟨nums.dropLast, nums.getLast hne, (List.dropLast_concat_getLast hne).symm⟩
   rw [List.length_append, List.length_singleton] at hlen
   have hl' : nums'.length = ns.length := by omega
   rw [List.take_append_of_le_length (by omega), ← hl', List.take_length] at hn
   have hlr : rows.length = ns.length := by have := congrArg List.length hn; rw [List.length_map] at this; omega
   have lastN : atI (natD (nums' ++ [z])) (-1) = some (.int (z : Nat)) := by rw [natD_snoc]; exact atI_last _ _
   have rd : ∀ c, readW (M1 ++ .lst (natD (nums' ++ [z])) :: (N ++ .lst c :: X)) (M1.length + (N.length + 1)) = some c := fun c => by rw [readW_endk]; exact readW_end N _ _
   have fin : ∀ r : Rw, r.ok = true → r.num = z → r.goes = false → (∀ g, r.goal = some g → g ∈ nums' ++ [z]) → ∀ d4, ∃ xs, readW (M1 ++ .lst (natD (nums' ++ [z])) :: (N ++ .lst (rows.map Rw.d) :: X)) (M1.length + (N.length + 1)) = some xs ∧ xs.length < sizeLine ∧ tss ⟨K, Γ, G⟩ noX b_Lrows_1 { nx := fun _ M => Q .non M, rt := Q } [some (.ref a), some (.int h), some (.ref na), some (.ref M1.length), d4, some (.ref (M1.length + (N.length + 1)))] ((M1 ++ .lst (natD (nums' ++ [z])) :: (N ++ .lst (rows.map Rw.d) :: X) : Store).set (M1.length + (N.length + 1)) (.lst (xs ++ [r.d]))) := by
    intro r e0 e1 e2 e3 d4
    refine ⟨_, rd _, by rw [List.length_map]; exact sizeLine_gt (by omega), ?_⟩
    rw [set_endk, List.set_cons_succ, set_end]
    simp only [b_Lrows_1]
    walk_at "ew"
    have en : (rows ++ [r]).map Rw.num = nums' ++ [z] := by rw [List.map_append, hn]; show _ ++ [r.num] = _; rw [e1]
    refine q (rows ++ [r]) _ _ ⟨by simp, by rw [List.length_append, List.length_singleton]; omega, by rw [en]; exact rises_nodup hpw, fun r' hr' g hg' => ?_, fun p r' hp hgo => ?_⟩ (fun r' hr' => (List.mem_append.mp hr').elim (hrk r') (fun h => by rw [List.mem_singleton] at h; subst h; exact e0)) (by rw [List.length_append, List.length_singleton]; omega) (k1.app _) (by rw [List.map_append]; exact rd _) ?_
    ·rw [en]
     rcases List.mem_append.mp hr' with h | h
     ·exact hg r' h g hg'
     ·rw [List.mem_singleton] at h; subst h; exact e3 g hg'
    ·rw [List.length_append, List.length_singleton]
     by_cases hpl : p < rows.length
     ·omega
     ·rw [List.getElem?_append_right (by omega)] at hp
      have := List.mem_of_getElem? hp
      rw [List.mem_singleton] at this
      subst this
      rw [e2] at hgo
      cases hgo
    ·obtain ⟨X1, rfl⟩ := k1; rw [List.length_append]; omega
   have isS : (readL (M1 ++ .lst (natD (nums' ++ [z])) :: (N ++ .lst (rows.map Rw.d) :: X)) (M1.length + (N.length + 1))).isSome = true := isSome_of (readW_readL (rd _))
   refine ⟨cdiv_lit (by decide) (by decide), ?_⟩
   split
   ·refine ⟨isS, .inl ⟨_, -1, _, rfl, readL_end _ _ _, lastN, cdiv_lit (by decide) (by decide), bf_len_l (readL_end _ _ _) ?_⟩⟩
    rw [natD_len, op_mod_i]
    refine ⟨by rw [List.length_append, List.length_singleton]; omega, ?_⟩
    rw [qm (show (0 : Int) < (nums' ++ [z]).length by rw [List.length_append, List.length_singleton]; omega)]
    obtain ⟨j, t, ej, hj⟩ := mod_get (xs := nums' ++ [z]) (c := qdiv h 10800) rfl (by rw [List.length_append, List.length_singleton]; omega)
    rw [ej]
    refine ix_l (readL_end _ _ _) (natD_get hj) ⟨sizeLine_ge (by decide), ?_⟩
    exact fin (.jump z t) rfl rfl rfl (fun g e => by cases e; exact List.mem_of_getElem? hj) _
   ·refine ⟨isS, .inl ⟨_, -1, _, rfl, readL_end _ _ _, lastN, sizeLine_ge (by decide), ?_⟩⟩
    exact fin (.fin z) rfl rfl rfl (fun g e => by cases e) _
end
theorem index_nat {M : Store} {P : Nat → Prop} {a x : Nat} {O : List Nat} (h : readL M a = some (natD O)) (hx : x ∈ O) (q : P (O.idxOf x)) :
  ∃ (xs : List D) (k : Nat) (z : D), readL M a = some xs ∧ flatD (.int (x : Nat)) = true ∧ xs.all flatD = true ∧ xs[k]? = some z ∧ eqF z (.int (x : Nat)) = true ∧ (∀ (j : Nat) u, j < k → xs[j]? = some u → eqF u (.int (x : Nat)) = false) ∧ P k := by
 have hl : O.idxOf x < O.length := List.idxOf_lt_length_of_mem hx
 refine ⟨natD O, O.idxOf x, .int (x : Nat), h, rfl, natD_flat O, natD_get ?_, by simp [eqF], fun j u hj hu => ?_, q⟩
 ·rw [List.getElem?_eq_getElem hl, List.getElem_idxOf hl]
 ·have hj2 : j < O.length := by omega
  rw [natD_get (List.getElem?_eq_getElem hj2)] at hu
  cases hu
  have hne : O[j] ≠ x := by
   have := List.not_of_lt_findIdx (p := (· == x)) (xs := O) (i := j) hj
   simpa using this
  show (((O[j] : Nat) : Int) == ((x : Nat) : Int)) = false
  rw [beq_eq_false_iff_ne]
  omega
def Lst (rows : List Rw) (a c : Nat) : Prop := LN.Orb (jmp rows) a c ∧ ∀ x, LN.Orb (jmp rows) a x → c ≤ x
theorem Lst.uniq {rows : List Rw} {a c d : Nat} (h : Lst rows a c) (g : Lst rows a d) : c = d := Nat.le_antisymm (h.2 d g.1) (g.2 c h.1)
theorem orb_land {rows : List Rw} {L : Nat → Nat} (ok : RwOk rows) (h : Lands rows L) {p q : Nat} (o : LN.Orb (jmp rows) p q) : p < rows.length → L p = L q := by
 induction o with
 | refl _ => intro _; rfl
 | step e _ ih => intro hp; rw [h.yes _ _ hp e]; exact ih (jmp_lt ok e)
theorem land_land {rows : List Rw} {L : Nat → Nat} (ok : RwOk rows) (h : Lands rows L) {p : Nat} (hp : p < rows.length) : L (L p) = L p := (orb_land ok h (h.orb p hp) hp).symm
theorem lk_reach {J : Nat → Option Nat} : ∀ {s p : Nat} {P : List Nat}, LN.Lk J s P p → ∀ x ∈ P, LN.Orb J s x
 | s, p, y :: r, h, x, hx => by
  obtain ⟨rfl, t, h2, h3⟩ := h
  rcases List.mem_cons.mp hx with rfl | hx
  ·exact .refl _
  ·exact .step h2 (lk_reach h3 x hx)
theorem lk_orb {J : Nat → Option Nat} : ∀ {s p : Nat} {P : List Nat}, LN.Lk J s P p → LN.Orb J s p
 | s, p, [], h => by rw [show s = p from h]; exact .refl _
 | s, p, y :: r, h => by
  obtain ⟨rfl, t, h2, h3⟩ := h
  exact .step h2 (lk_orb h3)
theorem lk_drop {J : Nat → Option Nat} : ∀ {s p : Nat} {P : List Nat} (k : Nat) (x : Nat), LN.Lk J s P p → P[k]? = some x → LN.Lk J x (P.drop k) p
 | s, p, y :: r, 0, x, h, e => by
  cases e
  obtain ⟨rfl, h2⟩ := h
  exact ⟨rfl, h2⟩
 | s, p, y :: r, k + 1, x, h, e => by
  obtain ⟨_, t, _, h3⟩ := h
  exact lk_drop k x h3 (by simpa using e)
theorem ring_orb {rows : List Rw} {L : Nat → Nat} {a : Nat} {R : List Nat} (h : Lands rows L) (ha : a < rows.length) (k : LN.Lk (jmp rows) a R a) (hn : R ≠ []) : ∀ x, LN.Orb (jmp rows) (L a) x ↔ x ∈ R := by
 have ain : a ∈ R := by
  cases R with
  | nil => exact absurd rfl hn
  | cons y r => rw [k.1]; exact List.mem_cons_self
 have cl : ∀ {x y}, LN.Orb (jmp rows) x y → x ∈ R → y ∈ R := by
  intro x y o
  induction o with
  | refl _ => exact id
  | step e _ ih =>
   intro hx
   obtain ⟨q, h1, h2, _⟩ := k.next _ hx
   rw [e] at h1
   cases h1
   exact ih (h2.elim id fun z => z ▸ ain)
 have lin : L a ∈ R := cl (h.orb a ha) ain
 intro x
 constructor
 ·exact fun o => cl o lin
 ·intro hx
  obtain ⟨_, _, _, o⟩ := k.next _ lin
  exact o.trans (lk_reach k x hx)
def spCome : DSp := fun ds M Q _ => ∃ (a b p : Nat) (rows : List Rw) (L : Nat → Nat), ds = [.ref a, .ref b, .int p] ∧ readL M a = some (rows.map Rw.d) ∧ readL M b = some (natD (rows.map Rw.num)) ∧ RwOk rows ∧ Lands rows L ∧ p < rows.length ∧
 ∀ c M', Lst rows (L p) c → Kp M M' → Q (.int (c : Nat)) M'
theorem rwd_at {rows : List Rw} {p : Nat} {r : Rw} (h : rows[p]? = some r) : (rows.map Rw.d)[p]? = some r.d := by rw [List.getElem?_map, h]; rfl
def Rw.kd : Rw → Str
 | .sum _ _ _ _ _ => "sum"
 | .test _ _ _ _ _ => "test"
 | .jump _ _ => "jump"
 | .fin _ => "end"
theorem kd_at (r : Rw) {M : Store} {F : D → Prop} (q : F (.str r.kd)) : ixD M r.d (.int 1) F := by cases r <;> exact ⟨_, rfl, q⟩
theorem kd_jump (r : Rw) : r.kd = "jump" ↔ r.isJ = true := by cases r <;> simp [Rw.kd, Rw.isJ] <;> decide +kernel
section
variable {K : PySem.W.Frag}
theorem r_Lcome {Γ G} : ∀ ds M Q Z, spCome ds M Q Z → tss ⟨K, Γ, G⟩ noX b_Lcome { nx := fun _ M => Q .non M, rt := Q } (start0 N_Lcome ds) M := by
 rintro ds M Q Z ⟨a, b, s, rows, L, rfl, ha, hb, ok, la, hs, q⟩
 have small := ok.small
 simp only [b_Lcome, N_Lcome]
 walk_at "ew"
 refine ⟨sizeLine_ge (by decide), fun m σ M' => ∃ (p : Nat) (P : List Nat), m = rows.length - P.length ∧ σ = [some (.ref a), some (.ref b), some (.int (p : Nat)), some (.ref M.length)] ∧ M' = M ++ [.lst (natD P)] ∧ LN.Lk (jmp rows) s P p ∧ P.Nodup ∧ (∀ x ∈ P, x < rows.length) ∧ p < rows.length, ⟨_, s, [], rfl, rfl, rfl, rfl, List.nodup_nil, (fun x hx => absurd hx (by simp)), hs⟩, ?_⟩
 rintro m σ M' ⟨p, P, rfl, rfl, rfl, lk, nd, hlt, hp⟩
 obtain ⟨r, hr⟩ : ∃ r, rows[p]? = some r := ⟨_, List.getElem?_eq_getElem hp⟩
 have hPl : P.length ≤ rows.length := GT.nodup_le nd hlt
 have haA : ∀ N, readL (M ++ N) a = some (rows.map Rw.d) := fun N => readL_app ha
 have hbA : ∀ N, readL (M ++ N) b = some (natD (rows.map Rw.num)) := fun N => readL_app hb
 walk_at "ew"
 refine ix_l (haA _) (rwd_at hr) (kd_at r ?_)
 walk_at "ew"
 by_cases hj : r.kd = "jump"
 ·rw [if_pos hj]
  have hisJ := (kd_jump r).mp hj
  cases r with
  | sum _ _ _ _ _ => cases hisJ
  | test _ _ _ _ _ => cases hisJ
  | fin _ => cases hisJ
  | jump kk g =>
  have hJ : jmp rows p = some (posOf rows g) := by unfold jmp; rw [hr]
  have hg := ok.goal _ (List.mem_of_getElem? hr) g rfl
  refine in_nat (readL_end M (natD P) []) ?_
  walk_at "ew"
  by_cases hin : p ∈ P
  ·rw [if_neg (by simpa using hin)]
   simp only [b_Lcome_2]
   walk_at "ew"
   refine ix_l (haA _) (rwd_at hr) (kd_at _ ?_)
   walk_at "ew"
   rw [if_pos hj]
   refine ⟨isSome_of (readL_end M (natD P) []), index_nat (readL_end M (natD P) []) hin ?_⟩
   try walk_at "ew"
   have hix : P.idxOf p < P.length := List.idxOf_lt_length_of_mem hin
   have hgx : P[P.idxOf p]? = some p := by rw [List.getElem?_eq_getElem hix, List.getElem_idxOf hix]
   have lkR := lk_drop _ _ lk hgx
   generalize P.idxOf p = ix at hix hgx lkR
   refine ⟨_, readL_end M (natD P) [], ?_⟩
   have ecut : U.cutD (natD P) (some (ix : Int)) none = natD (P.drop ix) := by
    unfold U.cutD
    have e1 : HT.sIx (natD P).length 0 (some (ix : Int)) = ix := by
     rw [natD_len]
     unfold HT.sIx
     simp only []
     rw [if_neg (by omega)]
     omega
    have e2 : HT.sIx (natD P).length (natD P).length none = (natD P).length := rfl
    rw [e1, e2, List.take_of_length_le (by rw [List.length_drop]; omega)]
    unfold natD
    rw [List.map_drop]
   rw [ecut]
   try walk_at "ew"
   have hne : P.drop ix ≠ [] := fun e => by
    have := congrArg List.length e
    rw [List.length_drop] at this
    simp at this
    omega
   refine ⟨(P.drop ix).map fun (x : Nat) => (x : Int), ?_, by rw [List.length_map]; exact List.length_pos_iff.mpr hne, fun v hv hmin => ?_⟩
   ·rw [readL_end, List.map_map]
    rfl
   ·obtain ⟨c, hc, rfl⟩ := List.mem_map.mp hv
    have lsp : L s = L p := orb_land ok la (lk_orb lk) hs
    refine q c _ ?_ ((Kp.new _ _).app _)
    rw [lsp]
    have key := ring_orb la hp lkR hne
    refine ⟨(key c).mpr hc, fun x hx => ?_⟩
    have := hmin (x : Int) (List.mem_map.mpr ⟨x, (key x).mp hx, rfl⟩)
    omega
  ·rw [if_pos (by simpa using hin)]
   simp only [b_Lcome_3]
   walk_at "ew"
   refine ⟨isSome_of (readL_end M (natD P) []), _, readW_end M (natD P) [], by rw [natD_len]; exact sizeLine_gt (by omega), ?_⟩
   rw [set_end, ← natD_snoc]
   try walk_at "ew"
   refine ⟨isSome_of (hbA _), ix_l (haA _) (rwd_at hr) ?_⟩
   simp only [Rw.d]
   try walk_at "ew"
   refine ⟨_, rfl, index_nat (hbA _) hg ?_⟩
   try walk_at "ew"
   have hPs : P.length < rows.length := by
    have := GT.nodup_le (B := P ++ [p]) (n := rows.length) (List.nodup_append.mpr ⟨nd, by simp, fun x hx y hy => by simp at hy; subst hy; rintro rfl; exact hin hx⟩) (fun x hx => (List.mem_append.mp hx).elim (hlt x) fun h => by rw [List.mem_singleton] at h; subst h; exact hp)
    rw [List.length_append, List.length_singleton] at this
    omega
   refine ⟨_, ?_, posOf rows g, P ++ [p], rfl, rfl, rfl, lk.snoc hJ, List.nodup_append.mpr ⟨nd, by simp, fun x hx y hy => by simp at hy; subst hy; rintro rfl; exact hin hx⟩, fun x hx => (List.mem_append.mp hx).elim (hlt x) fun h => by rw [List.mem_singleton] at h; subst h; exact hp, pos_lt hg⟩
   rw [List.length_append, List.length_singleton]
   omega
 ·rw [if_neg hj]
  try walk_at "ew"
  simp only [b_Lcome_2]
  walk_at "ew"
  rw [if_neg hj]
  refine ix_l (haA _) (rwd_at hr) (kd_at r ?_)
  walk_at "ew"
  rw [if_neg hj]
  simp only [b_Lcome_1]
  walk_at "ew"
  have hJ : jmp rows p = none := by
   unfold jmp
   rw [hr]
   cases r with
   | jump kk g => exact absurd rfl hj
   | _ => rfl
  have lsp : L s = p := (orb_land ok la (lk_orb lk) hs).trans (la.no p hp hJ)
  refine q p _ ?_ (Kp.new _ _)
  rw [lsp]
  refine ⟨.refl _, fun x o => ?_⟩
  cases o with
  | refl _ => exact Nat.le_refl _
  | step e _ => rw [hJ] at e; cases e
end
def gl (rows : List Rw) (L : Nat → Nat) (p : Nat) : List Nat := match rows[p]? with
 | some (.sum _ _ _ _ _) => [L (p + 1)]
 | some (.test _ _ _ _ g) => [L (posOf rows g), L (p + 1)]
 | _ => []
def All2 (rows : List Rw) (ts cs : List Nat) : Prop := cs.length = ts.length ∧ ∀ (i : Nat) t c, ts[i]? = some t → cs[i]? = some c → Lst rows t c
def spDueWays : DSp := fun ds M Q _ => ∃ (a b p : Nat) (rows : List Rw) (L : Nat → Nat), ds = [.ref a, .ref b, .int p] ∧ readL M a = some (rows.map Rw.d) ∧ readL M b = some (natD (rows.map Rw.num)) ∧ RwOk rows ∧ Lands rows L ∧ p < rows.length ∧
 ∀ cs M' r, All2 rows (gl rows L p) cs → Kp M M' → readW M' r = some (natD cs) → M.length ≤ r → Q (.ref r) M'
def Rw.hd : Rw → List D
 | .sum _ x a sg b => [.str "sum", .str x, a.d, .str sg, b.d]
 | .test _ a sg b _ => [.str "test", a.d, .str sg, b.d]
 | .fin _ => [.str "end"]
 | .jump _ _ => [.str "spin"]
def spDueHead : DSp := fun ds M Q _ => ∃ r : Rw, ds = [r.d] ∧ Q (.tup r.hd) M
def spGood : DSp := fun ds M Q _ => ∃ (hd : List D) (ws : List Nat) (r many : Nat) (cs : List D), ds = [.tup (hd ++ natD ws), .tup hd, .ref r, .int (many : Nat)] ∧ readL M r = some cs ∧ cs.length = ws.length ∧ (∀ w ∈ ws, w < many) ∧ hd.length ≤ 10 ∧ ws.length ≤ 10 ∧ (∀ d ∈ hd, flatD d = true) ∧ Q (.bl true) M
theorem cut_head {hd ws : List D} : U.cutD (hd ++ ws) none (some (hd.length : Int)) = hd := by
 unfold U.cutD
 rw [HT.sIx_nat, HT.sIx_none, List.drop_zero, List.length_append, Nat.min_eq_left (by omega), Nat.sub_zero, List.take_append_of_le_length (Nat.le_refl _), List.take_length]
theorem cut_tail {hd ws : List D} : U.cutD (hd ++ ws) (some (hd.length : Int)) none = ws := by
 unfold U.cutD
 rw [HT.sIx_nat, HT.sIx_none, List.length_append, Nat.min_eq_left (by omega), List.drop_append_of_le_length (Nat.le_refl _), List.drop_length, List.nil_append, List.take_of_length_le (by omega)]
section
variable {K : PySem.W.Frag}
theorem r_Ldue_head {Γ G} : ∀ ds M Q Z, spDueHead ds M Q Z → tss ⟨K, Γ, G⟩ noX b_Ldue_head { nx := fun _ M => Q .non M, rt := Q } (start0 N_Ldue_head ds) M := by
 rintro ds M Q Z ⟨r, rfl, q⟩
 simp only [b_Ldue_head, N_Ldue_head]
 cases r with
 | sum k x a sg b =>
  simp only [Rw.d]
  walk_at "ew"
  refine ⟨_, rfl, ?_⟩
  walk_at "ew"
  exact ⟨_, rfl, _, rfl, _, rfl, _, rfl, sizeLine_ge (by decide), q⟩
 | test k a sg b g =>
  simp only [Rw.d]
  walk_at "ew"
  refine ⟨_, rfl, ?_⟩
  walk_at "ew"
  rw [if_neg (by decide +kernel)]
  simp only [b_Ldue_head_3]
  walk_at "ew"
  refine ⟨_, rfl, ?_⟩
  walk_at "ew"
  exact ⟨_, rfl, _, rfl, _, rfl, sizeLine_ge (by decide), q⟩
 | fin k =>
  simp only [Rw.d]
  walk_at "ew"
  refine ⟨_, rfl, ?_⟩
  walk_at "ew"
  rw [if_neg (by decide +kernel)]
  simp only [b_Ldue_head_3]
  walk_at "ew"
  refine ⟨_, rfl, ?_⟩
  walk_at "ew"
  rw [if_neg (by decide +kernel)]
  simp only [b_Ldue_head_2]
  walk_at "ew"
  refine ⟨_, rfl, ?_⟩
  walk_at "ew"
  exact ⟨sizeLine_ge (by decide), q⟩
 | jump k g =>
  simp only [Rw.d]
  walk_at "ew"
  refine ⟨_, rfl, ?_⟩
  walk_at "ew"
  rw [if_neg (by decide +kernel)]
  simp only [b_Ldue_head_3]
  walk_at "ew"
  refine ⟨_, rfl, ?_⟩
  walk_at "ew"
  rw [if_neg (by decide +kernel)]
  simp only [b_Ldue_head_2]
  walk_at "ew"
  refine ⟨_, rfl, ?_⟩
  walk_at "ew"
  rw [if_neg (by decide +kernel)]
  simp only [b_Ldue_head_1]
  walk_at "ew"
  exact ⟨sizeLine_ge (by decide), q⟩
theorem r_Ldue_ways {Γ G} (g14 : Γ[14]? = some spCome) : ∀ ds M Q Z, spDueWays ds M Q Z → tss ⟨K, Γ, G⟩ noX b_Ldue_ways { nx := fun _ M => Q .non M, rt := Q } (start0 N_Ldue_ways ds) M := by
 rintro ds M Q Z ⟨a, b, p, rows, L, rfl, ha, hb, ok, la, hp, q⟩
 obtain ⟨r, hr⟩ : ∃ r, rows[p]? = some r := ⟨_, List.getElem?_eq_getElem hp⟩
 simp only [b_Ldue_ways, N_Ldue_ways]
 walk_at "ew"
 refine ix_l ha (rwd_at hr) (kd_at r ?_)
 have fin : ∀ (M' : Store) (cs : List Nat), gl rows L p = [] → cs = [] → Kp M M' → Q (.ref M'.length) (M' ++ [.lst []]) := by
  rintro M' cs h1 rfl k
  exact q [] _ _ ⟨by rw [h1], fun i t c h => by rw [h1] at h; simp at h⟩ (k.app _) (readW_end _ _ []) (by obtain ⟨N, rfl⟩ := k; simp)
 cases r with
 | sum k x o1 sg o2 =>
  have hg : gl rows L p = [L (p + 1)] := by unfold gl; rw [hr]
  have hl := ok.last p _ hr rfl
  simp only [Rw.kd]
  walk_at "ew"
  simp only [g14]
  refine ⟨a, b, p + 1, rows, L, rfl, ha, hb, ok, la, hl, fun c M1 hc k1 => ?_⟩
  try walk_at "ew"
  refine ⟨sizeLine_ge (by decide), q [c] _ _ ?_ (k1.app _) (readW_end _ _ []) (by obtain ⟨N, rfl⟩ := k1; simp)⟩
  refine ⟨by rw [hg]; rfl, fun i t c' h1 h2 => ?_⟩
  rw [hg] at h1
  cases i with
  | zero => cases h1; cases h2; exact hc
  | succ i => simp at h1
 | test k o1 sg o2 g =>
  have hg : gl rows L p = [L (posOf rows g), L (p + 1)] := by unfold gl; rw [hr]
  have hl := ok.last p _ hr rfl
  have hgm := ok.goal _ (List.mem_of_getElem? hr) g rfl
  simp only [Rw.kd]
  walk_at "ew"
  rw [if_neg (by decide +kernel)]
  simp only [b_Ldue_ways_2]
  walk_at "ew"
  refine ix_l ha (rwd_at hr) (kd_at _ ?_)
  simp only [Rw.kd]
  walk_at "ew"
  refine ⟨isSome_of hb, ix_l ha (rwd_at hr) ?_⟩
  simp only [Rw.d]
  try walk_at "ew"
  refine ⟨_, rfl, index_nat hb hgm ?_⟩
  try walk_at "ew"
  simp only [g14]
  refine ⟨a, b, posOf rows g, rows, L, rfl, ha, hb, ok, la, pos_lt hgm, fun c1 M1 hc1 k1 => ?_⟩
  try walk_at "ew"
  refine ⟨a, b, p + 1, rows, L, rfl, k1.L ha, k1.L hb, ok, la, hl, fun c2 M2 hc2 k2 => ?_⟩
  try walk_at "ew"
  have k12 := k1.trans k2
  refine ⟨sizeLine_ge (by decide), q [c1, c2] _ _ ?_ (k12.app _) (readW_end _ _ []) (by obtain ⟨N, rfl⟩ := k12; simp)⟩
  refine ⟨by rw [hg]; rfl, fun i t c' h1 h2 => ?_⟩
  rw [hg] at h1
  match i, h1, h2 with
  | 0, h1, h2 => cases h1; cases h2; exact hc1
  | 1, h1, h2 => cases h1; cases h2; exact hc2
  | i + 2, h1, h2 => simp at h1
 | jump k g =>
  have hg : gl rows L p = [] := by unfold gl; rw [hr]
  simp only [Rw.kd]
  walk_at "ew"
  rw [if_neg (by decide +kernel)]
  simp only [b_Ldue_ways_2]
  walk_at "ew"
  refine ix_l ha (rwd_at hr) (kd_at _ ?_)
  simp only [Rw.kd]
  walk_at "ew"
  rw [if_neg (by decide +kernel)]
  simp only [b_Ldue_ways_1]
  walk_at "ew"
  exact ⟨sizeLine_ge (by decide), fin _ [] hg rfl (Kp.refl _)⟩
 | fin k =>
  have hg : gl rows L p = [] := by unfold gl; rw [hr]
  simp only [Rw.kd]
  walk_at "ew"
  rw [if_neg (by decide +kernel)]
  simp only [b_Ldue_ways_2]
  walk_at "ew"
  refine ix_l ha (rwd_at hr) (kd_at _ ?_)
  simp only [Rw.kd]
  walk_at "ew"
  rw [if_neg (by decide +kernel)]
  simp only [b_Ldue_ways_1]
  walk_at "ew"
  exact ⟨sizeLine_ge (by decide), fin _ [] hg rfl (Kp.refl _)⟩
theorem r_Lgood_ways {Γ G} (g13 : Γ[13]? = some (spAlike 2)) : ∀ ds M Q Z, spGood ds M Q Z → tss ⟨K, Γ, G⟩ noX b_Lgood_ways { nx := fun _ M => Q .non M, rt := Q } (start0 N_Lgood_ways ds) M := by
 rintro ds M Q Z ⟨hd, ws, r, many, cs, rfl, hr, hcs, hw, h10, w10, hf, q⟩
 simp only [b_Lgood_ways, N_Lgood_ways]
 walk_at "ew"
 rw [cut_head]
 simp only [g13]
 refine ⟨_, _, rfl, .inr (.inl ⟨hd, hd, rfl, rfl, rfl, by omega, fun i u v hu hv => ?_⟩), ?_⟩
 ·rw [hu] at hv
  cases hv
  exact AL.flat (hf u (List.mem_of_getElem? hu))
 try walk_at "ew"
 simp only [b_Lgood_ways_4]
 try walk_at "ew"
 rw [if_neg (by decide)]
 refine bf_len_l hr ?_
 try walk_at "ew"
 rw [if_neg (by rw [List.length_append, natD_len, hcs]; omega)]
 simp only [b_Lgood_ways_3]
 try walk_at "ew"
 rw [cut_tail]
 refine forD_by (fun i σ M' => ∃ d, σ = [some (.tup (hd ++ natD ws)), some (.tup hd), some (.ref r), some (.int (many : Nat)), d] ∧ M' = M) ⟨none, rfl, rfl⟩ (fun _ _ _ _ _ => trivial) ?_ ?_
 ·rintro i dx σ M' C hx ⟨d, rfl, rfl⟩ hC
  have hi : i < ws.length := by have := (List.getElem?_eq_some_iff.mp hx).1; rwa [natD_len] at this
  have hgi : ws[i]? = some ws[i] := List.getElem?_eq_getElem hi
  have hlt := hw _ (List.getElem_mem hi)
  generalize ws[i] = y at hgi hlt
  rw [natD_get hgi] at hx
  cases hx
  simp only [b_Lgood_ways_2]
  walk_at "ew"
  rw [if_pos (by omega), if_neg (by omega)]
  exact hC _ _ ⟨_, rfl, rfl⟩
 ·rintro σ M' ⟨d, rfl, rfl⟩
  simp only [b_Lgood_ways_1]
  walk_at "ew"
  exact q
end
theorem Kp.set {M M' : Store} {r : Nat} (h : Kp M M') (hr : M.length ≤ r) (c : Cell) : Kp M (M'.set r c) := by
 obtain ⟨L, rfl⟩ := h
 exact ⟨L.set (r - M.length) c, by rw [List.set_append_right _ _ hr]⟩
structure Odr (rows : List Rw) (L : Nat → Nat) (O : List Nat) : Prop where
 nd : O.Nodup
 zero : O[0]? = some (L 0)
 land : ∀ y ∈ O, y < rows.length ∧ L y = y
 cl : ∀ y ∈ O, ∀ t ∈ wy (nodesOf rows L) y, t ∈ O
 all : ∀ A : Nat → Prop, A (L 0) → (∀ y, A y → ∀ t ∈ wy (nodesOf rows L) y, A t) → ∀ y ∈ O, A y
theorem nodes_at {rows : List Rw} {L : Nat → Nat} {p : Nat} {r : Rw} (h : rows[p]? = some r) : (nodesOf rows L)[p]? = some (r.node rows L p) := by
 unfold nodesOf
 rw [List.getElem?_mapIdx, h]
 rfl
theorem wy_gl {rows : List Rw} {L : Nat → Nat} {p : Nat} (t : Nat) : t ∈ wy (nodesOf rows L) p ↔ t ∈ gl rows L p := by
 unfold gl
 cases e : rows[p]? with
 | none =>
  have : (nodesOf rows L)[p]? = none := by unfold nodesOf; rw [List.getElem?_mapIdx, e]; rfl
  unfold wy
  rw [this]
 | some r =>
  rw [wy_at (nodes_at e)]
  cases r with
  | sum k x a sg b => simp [Rw.node, Nd.gs]
  | test k a sg b g => simp [Rw.node, Nd.gs, or_comm]
  | jump k g => simp [Rw.node, Nd.gs]
  | fin k => simp [Rw.node, Nd.gs]
theorem gl_land {rows : List Rw} {L : Nat → Nat} (ok : RwOk rows) (la : Lands rows L) {p t : Nat} (h : t ∈ gl rows L p) : t < rows.length ∧ L t = t := by
 unfold gl at h
 split at h
 ·rename_i k x a sg b e
  have hl := ok.last _ _ e rfl
  rw [List.mem_singleton] at h
  subst h
  exact ⟨la.lt _ hl, land_land ok la hl⟩
 ·rename_i k a sg b g e
  have hl := ok.last _ _ e rfl
  have hg := pos_lt (ok.goal _ (List.mem_of_getElem? e) g rfl)
  rw [List.mem_cons, List.mem_singleton] at h
  rcases h with h | h
  ·subst h; exact ⟨la.lt _ hg, land_land ok la hg⟩
  ·subst h; exact ⟨la.lt _ hl, land_land ok la hl⟩
 ·simp at h
theorem odr_of {rows : List Rw} {L : Nat → Nat} {d : List Nat} (ok : RwOk rows) (la : Lands rows L) (en : ND.Ends (wy (nodesOf rows L)) (L 0) d) : Odr rows L d.reverse where
 nd := List.pairwise_reverse.mpr (en.facts.1.imp fun h => h.symm)
 zero := by
  have h := en.facts.2.2
  rw [← List.head?_reverse, List.head?_eq_getElem?] at h
  exact h
 land := fun y hy => ends_in (S := fun y => y < rows.length ∧ L y = y) (fun x hx t ht => gl_land ok la ((wy_gl t).mp ht)) ⟨la.lt _ ok.pos, land_land ok la ok.pos⟩ en y (List.mem_reverse.mp hy)
 cl := fun y hy t ht => List.mem_reverse.mpr (en.facts.2.1 y (List.mem_reverse.mp hy) t ht)
 all := fun A h0 hc y hy => ends_in hc h0 en y (List.mem_reverse.mp hy)
theorem orb_no {J : Nat → Option Nat} {p c : Nat} (h : J p = none) (o : LN.Orb J p c) : c = p := by
 cases o with
 | refl _ => rfl
 | step e _ => rw [h] at e; cases e
theorem jmp_no {rows : List Rw} {p : Nat} {r : Rw} (e : rows[p]? = some r) (h : r.isJ = false) : jmp rows p = none := by
 unfold jmp
 rw [e]
 cases r <;> first | rfl | cases h
theorem mp_sum {rows : List Rw} {L : Nat → Nat} {O : List Nat} (p : Nat) (r : Rw) (e : rows[p]? = some r) : ((r.node rows L p).to fun y => O.idxOf y).d = .tup (r.hd ++ natD ((gl rows L p).map O.idxOf)) := by
 unfold gl
 rw [e]
 cases r <;> rfl
theorem fit {rows : List Rw} {L : Nat → Nat} {O : List Nat} (ok : RwOk rows) (la : Lands rows L) (o : Odr rows L O) {w p c : Nat} (hw : O[w]? = some p) (hc : Lst rows p c) :
  ∃ rc nd, rows[c]? = some rc ∧ (gra (nodesOf rows L) O)[w]? = some nd ∧ nd.d = .tup (rc.hd ++ natD ((gl rows L c).map O.idxOf)) ∧ (∀ t, t ∈ gl rows L c ↔ t ∈ wy (nodesOf rows L) p) ∧ L c = p := by
 obtain ⟨hp, lp⟩ := o.land p (List.mem_of_getElem? hw)
 have hcl := orb_lt ok hc.1 hp
 have lc : L c = p := (orb_land ok la hc.1 hp).symm.trans lp
 obtain ⟨rp, er⟩ : ∃ r, rows[p]? = some r := ⟨_, List.getElem?_eq_getElem hp⟩
 obtain ⟨rc, ec⟩ : ∃ r, rows[c]? = some r := ⟨_, List.getElem?_eq_getElem hcl⟩
 refine ⟨rc, _, ec, gra_get hw (nodes_at er), ?_⟩
 cases hj : rp.isJ with
 | false =>
  have : c = p := orb_no (jmp_no er hj) hc.1
  subst this
  rw [er] at ec
  cases ec
  exact ⟨mp_sum _ _ er, fun t => (wy_gl t).symm, lc⟩
 | true =>
  have hcj : rc.isJ = true := by
   cases e : rc.isJ with
   | true => rfl
   | false =>
    have : L c = c := la.no c hcl (jmp_no ec e)
    rw [lc] at this
    subst this
    rw [er] at ec
    cases ec
    rw [hj] at e
    cases e
  cases rp with
  | sum _ _ _ _ _ => cases hj
  | test _ _ _ _ _ => cases hj
  | fin _ => cases hj
  | jump k g =>
  cases rc with
  | sum _ _ _ _ _ => cases hcj
  | test _ _ _ _ _ => cases hcj
  | fin _ => cases hcj
  | jump k2 g2 =>
  have hg : gl rows L c = [] := by unfold gl; rw [ec]
  refine ⟨by rw [hg]; rfl, fun t => ?_, lc⟩
  rw [hg, wy_at (nodes_at er)]
  rfl
def prD (S : List (Nat × Nat)) : List (Key × D) := S.map fun p => (Sum.inl (p.1 : Int), D.int (p.2 : Nat))
theorem prD_len (S : List (Nat × Nat)) : (prD S).length = S.length := by unfold prD; rw [List.length_map]
theorem prD_no {S : List (Nat × Nat)} {w : Nat} (h : ∀ c, (w, c) ∉ S) : valD (prD S) (Sum.inl (w : Int)) = none := by
 unfold valD prD
 rw [Option.map_eq_none_iff, List.find?_eq_none]
 intro x hx
 obtain ⟨⟨a, b⟩, hm, rfl⟩ := List.mem_map.mp hx
 rw [decide_eq_true_eq]
 intro e
 have : a = w := by have := Sum.inl.inj e; omega
 subst this
 exact h b hm
theorem prD_at {w c : Nat} : ∀ {S : List (Nat × Nat)}, (S.map (·.1)).Nodup → (w, c) ∈ S → valD (prD S) (Sum.inl (w : Int)) = some (.int (c : Nat))
 |(a, b) :: S, nd, h => by
  rw [List.map_cons, List.nodup_cons] at nd
  unfold valD prD
  rw [List.map_cons, List.find?_cons]
  by_cases e : a = w
  ·subst e
   rw [decide_eq_true rfl]
   rcases List.mem_cons.mp h with h | h
   ·cases h; rfl
   ·exact absurd (List.mem_map.mpr ⟨_, h, rfl⟩) nd.1
  ·rw [decide_eq_false (fun z => e (by have := Sum.inl.inj z; omega))]
   rcases List.mem_cons.mp h with h | h
   ·cases h; exact absurd rfl e
   ·exact prD_at nd.2 h
theorem prD_put {S : List (Nat × Nat)} {w c : Nat} (h : ∀ c, (w, c) ∉ S) : putD (prD S) (Sum.inl (w : Int)) (.int (c : Nat)) = prD (S ++ [(w, c)]) := by
 unfold putD
 rw [if_neg]
 ·unfold prD; rw [List.map_append]; rfl
 ·rw [Bool.not_eq_true, List.any_eq_false]
  intro x hx
  unfold prD at hx
  obtain ⟨⟨a, b⟩, hm, rfl⟩ := List.mem_map.mp hx
  rw [decide_eq_true_eq]
  intro e
  have : a = w := by have := Sum.inl.inj e; omega
  subst this
  exact h b hm
structure Prs (rows : List Rw) (L : Nat → Nat) (O : List Nat) (S : List (Nat × Nat)) : Prop where
 nd : (S.map (·.1)).Nodup
 at_ : ∀ w c, (w, c) ∈ S → ∃ p, O[w]? = some p ∧ Lst rows p c
 zero : ∃ c, (0, c) ∈ S
def Cls (rows : List Rw) (L : Nat → Nat) (O : List Nat) (S : List (Nat × Nat)) (w : Nat) : Prop := ∀ p, O[w]? = some p → ∀ t ∈ wy (nodesOf rows L) p, ∃ c, (O.idxOf t, c) ∈ S
theorem Prs.len {rows : List Rw} {L : Nat → Nat} {O : List Nat} {S : List (Nat × Nat)} (h : Prs rows L O S) : S.length ≤ O.length := by
 have := ND.nodup_len O.length (S.map (·.1)) h.nd (fun x hx => by
  obtain ⟨⟨a, b⟩, hm, rfl⟩ := List.mem_map.mp hx
  obtain ⟨p, e, _⟩ := h.at_ a b hm
  exact (List.getElem?_eq_some_iff.mp e).1)
 rwa [List.length_map] at this
theorem Prs.one {rows : List Rw} {L : Nat → Nat} {O : List Nat} {c : Nat} (o : Odr rows L O) (h : Lst rows (L 0) c) : Prs rows L O [(0, c)] where
 nd := by simp
 at_ := fun w c' hm => by rw [List.mem_singleton] at hm; cases hm; exact ⟨_, o.zero, h⟩
 zero := ⟨c, by simp⟩
theorem Prs.put {rows : List Rw} {L : Nat → Nat} {O : List Nat} {S : List (Nat × Nat)} {w c p : Nat} (h : Prs rows L O S) (hn : ∀ c, (w, c) ∉ S) (hw : O[w]? = some p) (hc : Lst rows p c) : Prs rows L O (S ++ [(w, c)]) where
 nd := by
  rw [List.map_append, List.nodup_append]
  refine ⟨h.nd, by simp, fun a ha b hb => ?_⟩
  obtain ⟨⟨x, y⟩, hm, rfl⟩ := List.mem_map.mp ha
  simp at hb
  subst hb
  rintro rfl
  exact hn _ hm
 at_ := fun w' c' hm => by
  rcases List.mem_append.mp hm with hm | hm
  ·exact h.at_ w' c' hm
  ·rw [List.mem_singleton] at hm; cases hm; exact ⟨p, hw, hc⟩
 zero := by obtain ⟨c, hm⟩ := h.zero; exact ⟨c, List.mem_append_left _ hm⟩
theorem sub_len {α : Type} : ∀ {l m : List α}, l.Nodup → (∀ x ∈ l, x ∈ m) → l.length ≤ m.length
 | [], _, _, _ => Nat.zero_le _
 | x :: l, m, nd, h => by
  rw [List.nodup_cons] at nd
  obtain ⟨a, b, e⟩ := List.append_of_mem (h x List.mem_cons_self)
  have := sub_len (m := a ++ b) nd.2 (fun y hy => by
   have h2 := h y (List.mem_cons_of_mem _ hy)
   rw [e] at h2
   rcases List.mem_append.mp h2 with h2 | h2
   ·exact List.mem_append_left _ h2
   ·rcases List.mem_cons.mp h2 with h2 | h2
    ·subst h2; exact absurd hy nd.1
    ·exact List.mem_append_right _ h2)
  rw [e, List.length_append, List.length_cons, List.length_cons]
  rw [List.length_append] at this
  omega
theorem Prs.done {rows : List Rw} {L : Nat → Nat} {O : List Nat} {S : List (Nat × Nat)} (ok : RwOk rows) (la : Lands rows L) (o : Odr rows L O) (h : Prs rows L O S) (cl : ∀ w c, (w, c) ∈ S → Cls rows L O S w) :
  S.length = O.length ∧ (S.map (·.2)).Nodup := by
 have key : ∀ y ∈ O, ∃ c, (O.idxOf y, c) ∈ S ∧ y ∈ O := by
  refine o.all (fun y => ∃ c, (O.idxOf y, c) ∈ S ∧ y ∈ O) ?_ ?_
  ·obtain ⟨c, hc⟩ := h.zero
   have h0 := (List.getElem?_eq_some_iff.mp o.zero)
   obtain ⟨h1, h2⟩ := h0
   refine ⟨c, ?_, List.mem_of_getElem? o.zero⟩
   rw [← h2, ND.idx_get o.nd h1]
   exact hc
  ·rintro y ⟨c, hm, hy⟩ t ht
   have hi : O.idxOf y < O.length := List.idxOf_lt_length_of_mem hy
   have hg : O[O.idxOf y]? = some y := by rw [List.getElem?_eq_getElem hi, List.getElem_idxOf hi]
   obtain ⟨c2, h2⟩ := cl _ _ hm y hg t ht
   exact ⟨c2, h2, o.cl y hy t ht⟩
 constructor
 ·refine Nat.le_antisymm h.len ?_
  have := sub_len (l := List.range O.length) (m := S.map (·.1)) List.nodup_range (fun i hi => by
   have hi' : i < O.length := List.mem_range.mp hi
   obtain ⟨c, hm, _⟩ := key O[i] (List.getElem_mem hi')
   rw [ND.idx_get o.nd hi'] at hm
   exact List.mem_map.mpr ⟨_, hm, rfl⟩)
  rwa [List.length_range, List.length_map] at this
 ·have inj : ∀ a b c, (a, c) ∈ S → (b, c) ∈ S → a = b := by
   intro a b c h1 h2
   obtain ⟨p, e1, l1⟩ := h.at_ a c h1
   obtain ⟨q, e2, l2⟩ := h.at_ b c h2
   obtain ⟨_, _, _, _, _, _, f1⟩ := fit ok la o e1 l1
   obtain ⟨_, _, _, _, _, _, f2⟩ := fit ok la o e2 l2
   have epq : p = q := f1.symm.trans f2
   subst epq
   obtain ⟨g1, g2⟩ := List.getElem?_eq_some_iff.mp e1
   obtain ⟨g3, g4⟩ := List.getElem?_eq_some_iff.mp e2
   have := ND.idx_get o.nd g1
   rw [g2, ← g4, ND.idx_get o.nd g3] at this
   exact this.symm
  have go : ∀ (T : List (Nat × Nat)), (∀ x ∈ T, x ∈ S) → (T.map (·.1)).Nodup → (T.map (·.2)).Nodup := by
   intro T
   induction T with
   | nil => intro _ _; exact List.nodup_nil
   | cons x T ih =>
    intro hs nd
    rw [List.map_cons, List.nodup_cons] at nd ⊢
    refine ⟨fun hm => ?_, ih (fun y hy => hs y (List.mem_cons_of_mem _ hy)) nd.2⟩
    obtain ⟨y, hy, e⟩ := List.mem_map.mp hm
    have := inj y.1 x.1 x.2 (by rw [← e]; exact hs y (List.mem_cons_of_mem _ hy)) (hs x List.mem_cons_self)
    exact nd.1 (List.mem_map.mpr ⟨y, hy, this⟩)
  exact go S (fun _ h => h) h.nd
def spSide : DSp := fun ds M Q _ => ∃ (g a : Nat) (rows : List Rw) (L : Nat → Nat) (O : List Nat), ds = [.ref g, .ref a] ∧ readL M g = some ((gra (nodesOf rows L) O).map Nd.d) ∧ readL M a = some (rows.map Rw.d) ∧ RwOk rows ∧ Lands rows L ∧ Odr rows L O ∧ O.length ≤ 40 ∧
 ∀ M', Kp M M' → Q (.bl true) M'
theorem hd_flat (r : Rw) : ∀ d ∈ r.hd, flatD d = true := by
 have o : ∀ a : Opd, flatD a.d = true := fun a => by cases a <;> rfl
 intro d hd
 cases r <;> simp [Rw.hd] at hd
 ·rcases hd with rfl | rfl | rfl | rfl | rfl <;> first | rfl | exact o _
 ·rcases hd with rfl | rfl | rfl | rfl <;> first | rfl | exact o _
 ·subst hd; rfl
 ·subst hd; rfl
theorem hd_len (r : Rw) : r.hd.length ≤ 10 := by cases r <;> simp [Rw.hd]
theorem gl_two (rows : List Rw) (L : Nat → Nat) (p : Nat) : (gl rows L p).length ≤ 2 := by unfold gl; split <;> simp
theorem setW {M : Store} {n : Nat} {ys : List D} (xs : List D) (h : readW M n = some ys) : readW (M.set n (.lst xs)) n = some xs := by
 have := read_lt (readW_readL h)
 unfold readW
 rw [List.getElem?_set_self this]
theorem setDc {M : Store} {n : Nat} {ys : List (Key × D)} (xs : List (Key × D)) (h : readD M n = some ys) : readD (M.set n (.dct xs)) n = some xs := by
 have := readD_lt h
 unfold readD
 rw [List.getElem?_set_self this]
structure Sid (rows : List Rw) (L : Nat → Nat) (O : List Nat) (Mn : Store) (D0 T0 : Nat) (k : Option Nat) (m : Nat) (S : List (Nat × Nat)) (T : List Nat) (M' : Store) : Prop where
 kp : Kp Mn M'
 d : readD M' D0 = some (prD S)
 t : readW M' T0 = some (natD T)
 s : Prs rows L O S
 tin : ∀ w ∈ T, ∃ c, (w, c) ∈ S
 tl : T.length ≤ S.length
 cl : ∀ w c, (w, c) ∈ S → w ∉ T → some w ≠ k → Cls rows L O S w
 me : 3 * (O.length - S.length) + T.length ≤ m
section
variable {K : PySem.W.Frag}
theorem r_Lside {Γ G} (g14 : Γ[14]? = some spCome) (g15 : Γ[15]? = some spDueWays) (g16 : Γ[16]? = some spDueHead) (g17 : Γ[17]? = some spGood) : ∀ ds M Q Z, spSide ds M Q Z → tss ⟨K, Γ, G⟩ noX b_Lside_by_side { nx := fun _ M => Q .non M, rt := Q } (start0 N_Lside_by_side ds) M := by
 rintro ds M Q Z ⟨g, a, rows, L, O, rfl, hg, ha, ok, la, o, h40, q⟩
 have small := ok.small
 simp only [b_Lside_by_side, N_Lside_by_side]
 walk_at "ew"
 refine ⟨_, ha, ?_⟩
 try walk_at "ew"
 refine compD_by (fun i σ M' => ∃ d, σ = [d] ∧ M' = M ++ [.lst (natD ((rows.map Rw.num).take i))]) ⟨none, rfl, rfl⟩ (fun i σ M' _ hI => by obtain ⟨d, rfl, rfl⟩ := hI; exact readL_app ha) ?_ ?_
 ·rintro i dx σ M' C hx ⟨d, rfl, rfl⟩ hC
  have hi : i < rows.length := by have := (List.getElem?_eq_some_iff.mp hx).1; rwa [List.length_map] at this
  obtain ⟨r, hr⟩ : ∃ r, rows[i]? = some r := ⟨_, List.getElem?_eq_getElem hi⟩
  rw [rwd_at hr] at hx
  cases hx
  have hnum : (rows.map Rw.num)[i]? = some r.num := by rw [List.getElem?_map, hr]; rfl
  have e0 : ∀ (M2 : Store) (F : D → Prop), F (.int (r.num : Nat)) → ixD M2 r.d (.int 0) F := fun M2 F f => by cases r <;> exact ⟨_, rfl, f⟩
  walk_at "ew"
  refine e0 _ _ ⟨_, readW_end _ _ [], by rw [natD_len, List.length_take, List.length_map]; exact sizeLine_gt (by omega), ?_⟩
  try walk_at "ew"
  rw [set_end]
  refine hC _ _ ⟨_, rfl, ?_⟩
  rw [take_snoc hnum, natD_snoc]
 ·rintro σ M' ⟨d, rfl, rfl⟩
  rw [List.length_map, ← List.length_map (f := Rw.num) (as := rows), List.take_length]
  try walk_at "ew"
  have hMn : readL (M ++ [.lst (natD (rows.map Rw.num))]) M.length = some (natD (rows.map Rw.num)) := readL_end _ _ []
  have kMn : Kp M (M ++ [.lst (natD (rows.map Rw.num))]) := Kp.new _ _
  have lMn : (M ++ [.lst (natD (rows.map Rw.num))] : Store).length = M.length + 1 := by simp
  have nMn : M.length < (M ++ [.lst (natD (rows.map Rw.num))] : Store).length := by omega
  generalize hn : M.length = n0 at *
  generalize (M ++ [.lst (natD (rows.map Rw.num))] : Store) = Mn at *
  simp only [g14]
  refine ⟨a, n0, 0, rows, L, rfl, (kMn.app _).L ha, readL_app hMn, ok, la, ok.pos, fun c0 M1 hc0 k1 => ?_⟩
  try walk_at "ew"
  have k2 : Kp Mn M1 := (Kp.new _ _).trans k1
  have hD0 : readD M1 Mn.length = some [] := k1.D (readD_end _ _ [])
  refine ⟨_, rfl, hD0, sizeLine_ge (by decide), ?_⟩
  rw [List.length_set]
  have hDT : Mn.length < M1.length := readD_lt hD0
  refine ⟨fun m σ M' => ∃ S T d5 d6 d7 d8 d9, σ = [some (.ref g), some (.ref a), some (.ref n0), some (.ref Mn.length), some (.ref M1.length), d5, d6, d7, d8, d9] ∧ Sid rows L O Mn Mn.length M1.length none m S T M', ⟨3 * (O.length - 1) + 1, [(0, c0)], [0], none, none, none, none, none, rfl, ?_⟩, ?_⟩
  ·refine ⟨(k2.set (Nat.le_refl _) _).app _, readD_app (setDc _ hD0), ?_, Prs.one o hc0, fun w hw => ?_, Nat.le_refl _, fun w c hm hw => ?_, Nat.le_refl _⟩
   ·have := readW_end (M1.set Mn.length (.dct [(Sum.inl 0, .int (c0 : Nat))])) [.int 0] []
    rw [List.length_set] at this
    exact this
   ·rw [List.mem_singleton] at hw; subst hw; exact ⟨c0, by simp⟩
   ·rw [List.mem_singleton] at hm; cases hm; exact absurd (List.mem_singleton.mpr rfl) hw
  generalize hD : Mn.length = D0 at *
  generalize hT : M1.length = T0 at *
  rintro m σ M' ⟨S, T, d5, d6, d7, d8, d9, rfl, st⟩
  have kM := kMn.trans st.kp
  have hSl := st.s.len
  try walk_at "ew"
  refine ⟨sizeLine_ge (by decide), eq_nat_nil (readL_app (readW_readL st.t)) (readL_end _ _ []) ?_⟩
  cases hTe : T.isEmpty with
  | true =>
   rw [List.isEmpty_iff] at hTe
   subst hTe
   rw [if_neg (by decide)]
   obtain ⟨e1, e2⟩ := st.s.done ok la o (fun w c hm => st.cl w c hm (by simp) (by simp))
   simp only [b_Lside_by_side_1]
   walk_at "ew"
   have hgM := kM.L hg
   have e3 : ((S.map (·.2)).map fun (c : Nat) => (Sum.inl (c : Int) : Key)).Nodup := List.pairwise_map.mpr (e2.imp fun h z => h (by have := Sum.inl.inj z; omega))
   rw [bf_len_r]
   refine .inr ⟨_, readD_app st.d, bf_len_l (readL_app hgM) ?_⟩
   rw [prD_len, List.length_map, gra_len, eq_i, e1, decide_eq_true rfl, if_pos rfl]
   refine ⟨_, readD_app st.d, (S.map (·.2)).map fun (c : Nat) => (Sum.inl (c : Int) : Key), ?_, ?_, fun ks' nd mem => bf_len_l (readL_app (readL_app hgM)) ?_⟩
   ·rw [readL_end]
    unfold prD
    rw [List.map_map, List.map_map, List.map_map]
    rfl
   ·rw [List.length_map, List.length_map]
    exact Nat.lt_of_le_of_lt (m := 41) (by omega) (by decide)
   ·have e4 := sub_len nd (fun x hx => (mem x).mp hx)
    have e5 := sub_len e3 (fun x hx => (mem x).mpr hx)
    rw [List.length_map, List.length_map] at e4 e5
    rw [eq_i, List.length_map, gra_len, decide_eq_true (by omega)]
    exact q _ ((kM.app _).app _)
  | false =>
   rw [if_pos rfl]
   obtain ⟨k, T', rfl⟩ : ∃ k T', T = T' ++ [k] := by
    rcases List.eq_nil_or_concat T with e | ⟨T', k, e⟩
    ·subst e; cases hTe
    ·exact ⟨k, T', by rw [e]; try rw [List.concat_eq_append]⟩
   simp only [b_Lside_by_side_5]
   walk_at "ew"
   obtain ⟨c, hkc⟩ := st.tin k (by simp)
   obtain ⟨p, hO, hLst⟩ := st.s.at_ k c hkc
   obtain ⟨rc, nd, er, en, ed, eg, lc⟩ := fit ok la o hO hLst
   refine ⟨isSome_of (readL_app (readW_readL st.t)), _, .int (k : Nat), readW_app st.t, ?_, ?_⟩
   ·refine natD_get ?_
    rw [natD_len, List.length_append, List.length_singleton, Nat.add_sub_cancel, List.getElem?_append_right (Nat.le_refl _), Nat.sub_self]
    rfl
   rw [natD_snoc, List.dropLast_concat]
   have kp2 : Kp Mn ((M' ++ [Cell.lst []]).set T0 (Cell.lst (natD T'))) := (st.kp.app _).set (by omega) _
   have d2 : readD ((M' ++ [Cell.lst []]).set T0 (Cell.lst (natD T'))) D0 = some (prD S) := by rw [readD_set_ne (by omega)]; exact readD_app st.d
   have t2 : readW ((M' ++ [Cell.lst []]).set T0 (Cell.lst (natD T'))) T0 = some (natD T') := setW _ (readW_app st.t)
   generalize ((M' ++ [Cell.lst []]).set T0 (Cell.lst (natD T')) : Store) = M2 at kp2 d2 t2
   have kM2 := kMn.trans kp2
   refine ix_d d2 rfl (prD_at st.s.nd hkc) (ix_l (kM2.L ha) (rwd_at er) ?_)
   simp only [g16, g15, g17]
   refine ⟨rc, rfl, ix_d d2 rfl (prD_at st.s.nd hkc) ⟨a, n0, c, rows, L, rfl, kM2.L ha, kp2.L hMn, ok, la, (List.getElem?_eq_some_iff.mp er).1, fun cs M3 r hcs k3 hr hrl => ?_⟩⟩
   have kM3 := kM2.trans k3
   refine ix_l (kM3.L hg) (nds_at en) (bf_len_l (kM3.L hg) ?_)
   rw [ed, List.length_map, gra_len]
   have hws : ∀ w ∈ (gl rows L c).map O.idxOf, w < O.length := fun w hw => by
    obtain ⟨t, ht, rfl⟩ := List.mem_map.mp hw
    exact List.idxOf_lt_length_of_mem (o.cl p (List.mem_of_getElem? hO) t ((eg t).mp ht))
   refine ⟨rc.hd, (gl rows L c).map O.idxOf, r, O.length, natD cs, rfl, readW_readL hr, by rw [natD_len, List.length_map]; exact hcs.1, hws, hd_len rc, by rw [List.length_map]; have := gl_two rows L c; omega, hd_flat rc, ?_⟩
   try walk_at "ew"
   simp only [b_Lside_by_side_4]
   try walk_at "ew"
   rw [if_neg (by decide)]
   refine ix_l (kM3.L hg) (nds_at en) ?_
   rw [ed]
   show ∃ zs, _
   rw [cut_tail]
   refine ⟨_, readW_readL hr, ?_⟩
   have hT2 : T0 < M2.length := read_lt (readW_readL t2)
   have hlen : (zipT (natD ((gl rows L c).map O.idxOf)) (natD cs)).length = cs.length := by
    unfold zipT
    rw [List.length_map, List.length_zip, natD_len, natD_len, List.length_map, hcs.1, Nat.min_self]
   refine forD_by (fun i σ M' => ∃ S2 T2 d8 d9, σ = [some (.ref g), some (.ref a), some (.ref n0), some (.ref D0), some (.ref T0), some (.int (k : Nat)), some (.tup rc.hd), some (.ref r), d8, d9] ∧ Sid rows L O Mn D0 T0 (some k) (m - 1) S2 T2 M' ∧ readW M' r = some (natD cs) ∧ (∀ j t, j < i → (gl rows L c)[j]? = some t → ∃ c, (O.idxOf t, c) ∈ S2)) ?_ ?_ ?_ ?_
   ·have hm := st.me
    rw [List.length_append, List.length_singleton] at hm
    have htl := st.tl
    rw [List.length_append, List.length_singleton] at htl
    refine ⟨S, T', d8, d9, rfl, ⟨kp2.trans k3, k3.D d2, k3.W t2, st.s, fun w hw => st.tin w (List.mem_append_left _ hw), by omega, fun w c' hmm hw hk => st.cl w c' hmm (fun hin => ?_) (by simp), by omega⟩, hr, fun j t hj => by omega⟩
    rcases List.mem_append.mp hin with hin | hin
    ·exact hw hin
    ·rw [List.mem_singleton] at hin; subst hin; exact hk rfl
   ·rintro i σ M4 _ ⟨S2, T2, d8, d9, rfl, _, hr4, _⟩
    exact ⟨_, readW_readL hr4, rfl⟩
   ·rintro i dx σ M4 C hx ⟨S2, T2, d8, d9, rfl, st2, hr4, hdone⟩ hC
    have hi : i < cs.length := by have := (List.getElem?_eq_some_iff.mp hx).1; rwa [hlen] at this
    have hi2 : i < (gl rows L c).length := by rw [← hcs.1]; exact hi
    obtain ⟨t, ht⟩ : ∃ t, (gl rows L c)[i]? = some t := ⟨_, List.getElem?_eq_getElem hi2⟩
    obtain ⟨e, he⟩ : ∃ e, cs[i]? = some e := ⟨_, List.getElem?_eq_getElem hi⟩
    have hte := hcs.2 i t e ht he
    have htO := o.cl p (List.mem_of_getElem? hO) t ((eg t).mp (List.mem_of_getElem? ht))
    have hix : O.idxOf t < O.length := List.idxOf_lt_length_of_mem htO
    have hOt : O[O.idxOf t]? = some t := by rw [List.getElem?_eq_getElem hix, List.getElem_idxOf hix]
    have hx2 : (zipT (natD ((gl rows L c).map O.idxOf)) (natD cs))[i]? = some (.tup [.int (O.idxOf t : Nat), .int (e : Nat)]) := by
     unfold zipT
     rw [List.getElem?_map, List.getElem?_zip_eq_some (z := (D.int (O.idxOf t : Nat), D.int (e : Nat))) |>.mpr ⟨natD_get (x := O.idxOf t) (by rw [List.getElem?_map, ht]; rfl), natD_get he⟩]
     rfl
    rw [hx2] at hx
    cases hx
    have hS2 := st2.s.len
    have hT4 : T0 < M4.length := read_lt (readW_readL st2.t)
    simp only [b_Lside_by_side_3]
    walk_at "ew"
    refine .inr ⟨_, _, st2.d, rfl, ?_⟩
    try walk_at "ew"
    have last : ∀ bk (S3 : List (Nat × Nat)) (T3 : List Nat) (M5 : Store), Sid rows L O Mn D0 T0 (some k) (m - 1) S3 T3 M5 → readW M5 r = some (natD cs) → (∀ x ∈ S2, x ∈ S3) → (O.idxOf t, e) ∈ S3 →
      tss ⟨K, Γ, G⟩ noX b_Lside_by_side_2 { nx := C, rt := Q, bk := bk, ct := C } [some (.ref g), some (.ref a), some (.ref n0), some (.ref D0), some (.ref T0), some (.int (k : Nat)), some (.tup rc.hd), some (.ref r), some (.int (O.idxOf t : Nat)), some (.int (e : Nat))] M5 := by
     intro bk S3 T3 M5 st3 hr5 sub hin
     simp only [b_Lside_by_side_2]
     walk_at "ew"
     refine ix_d st3.d rfl (prD_at st3.s.nd hin) ?_
     try walk_at "ew"
     rw [if_neg (by simp)]
     refine hC _ _ ⟨S3, T3, _, _, rfl, st3, hr5, fun j t' hj ht' => ?_⟩
     by_cases hji : j = i
     ·subst hji
      rw [ht] at ht'
      cases ht'
      exact ⟨e, hin⟩
     ·obtain ⟨c', hc'⟩ := hdone j t' (by omega) ht'
      exact ⟨c', sub _ hc'⟩
    by_cases hnew : ∃ c', (O.idxOf t, c') ∈ S2
    ·obtain ⟨c', hc'⟩ := hnew
     rw [prD_at st2.s.nd hc', if_neg (by simp)]
     obtain ⟨p', hp', hl'⟩ := st2.s.at_ _ _ hc'
     rw [hOt] at hp'
     cases hp'
     have : c' = e := hl'.uniq hte
     subst this
     exact last _ S2 T2 M4 st2 hr4 (fun _ h => h) hc'
    ·have hno : ∀ c', (O.idxOf t, c') ∉ S2 := fun c' h => hnew ⟨c', h⟩
     rw [prD_no hno, if_pos (by simp)]
     have sp := st2.s.put hno hOt hte
     have splen := sp.len
     rw [List.length_append, List.length_singleton] at splen
     have htl := st2.tl
     refine .inr ⟨_, _, st2.d, rfl, by rw [prD_len]; exact sizeLine_gt (by omega), ?_⟩
     rw [prD_put hno]
     have d6 : readD (M4.set D0 (.dct (prD (S2 ++ [(O.idxOf t, e)])))) D0 = some (prD (S2 ++ [(O.idxOf t, e)])) := setDc _ st2.d
     have t6 : readW (M4.set D0 (.dct (prD (S2 ++ [(O.idxOf t, e)])))) T0 = some (natD T2) := by rw [readW_set_ne (by omega)]; exact st2.t
     have r6 : readW (M4.set D0 (.dct (prD (S2 ++ [(O.idxOf t, e)])))) r = some (natD cs) := by rw [readW_set_ne (by omega)]; exact hr4
     have k6 : Kp Mn (M4.set D0 (.dct (prD (S2 ++ [(O.idxOf t, e)])))) := st2.kp.set (by omega) _
     generalize M4.set D0 (.dct (prD (S2 ++ [(O.idxOf t, e)]))) = M6 at d6 t6 r6 k6
     refine ⟨isSome_of (readW_readL t6), _, t6, by rw [natD_len]; exact sizeLine_gt (by omega), ?_⟩
     rw [← natD_snoc]
     refine last _ (S2 ++ [(O.idxOf t, e)]) (T2 ++ [O.idxOf t]) _ ⟨k6.set (by omega) _, by rw [readD_set_ne (by omega)]; exact d6, setW _ t6, sp, fun w hw => ?_, by rw [List.length_append, List.length_append]; exact Nat.add_le_add_right htl 1, fun w c' hm hw hk => ?_, ?_⟩ (by rw [readW_set_ne (by omega)]; exact r6) (fun x hx => List.mem_append_left _ hx) (by simp)
     ·rcases List.mem_append.mp hw with hw | hw
      ·obtain ⟨c', h'⟩ := st2.tin w hw
       exact ⟨c', List.mem_append_left _ h'⟩
      ·rw [List.mem_singleton] at hw; subst hw; exact ⟨e, by simp⟩
     ·rcases List.mem_append.mp hm with hm | hm
      ·intro p' hp' t' ht'
       obtain ⟨c2, h2⟩ := st2.cl w c' hm (fun h => hw (List.mem_append_left _ h)) hk p' hp' t' ht'
       exact ⟨c2, List.mem_append_left _ h2⟩
      ·rw [List.mem_singleton] at hm; cases hm; exact absurd (List.mem_append_right _ (List.mem_singleton.mpr rfl)) hw
     ·have := st2.me
      rw [List.length_append, List.length_append, List.length_singleton, List.length_singleton]
      omega
   ·rintro σ M4 ⟨S2, T2, d8, d9, rfl, st2, hr4, hdone⟩
    have hm := st.me
    rw [List.length_append, List.length_singleton] at hm
    refine ⟨m - 1, by omega, S2, T2, _, _, _, _, _, rfl, ⟨st2.kp, st2.d, st2.t, st2.s, st2.tin, st2.tl, fun w c' hmm hw _ => ?_, st2.me⟩⟩
    by_cases hk : w = k
    ·subst hk
     intro p' hp' t ht
     rw [hO] at hp'
     cases hp'
     obtain ⟨j, hj⟩ := List.getElem?_of_mem ((eg t).mpr ht)
     exact hdone j t (by rw [hlen, hcs.1]; exact (List.getElem?_eq_some_iff.mp hj).1) hj
    ·exact st2.cl w c' hmm hw (fun z => hk (by cases z; rfl))
end
def ringR (m b st g0 g2 : Nat) (c0 c1 : Int) (j : Nat) : List Rw := [.test 0 (.nm "x") "<" (.no c0) (b + g0), .sum 1 "x" (.nm "x") "+" (.no c1), .jump 2 (b + g2)] ++ (List.range j).map fun k => Rw.jump (b + k) (b + (k + st) % m)
def spRing : DSp := fun ds M Q _ => ∃ (i j : Int), ds = [.int i, .int j] ∧
 ∀ rows M' r, RwOk rows → (∀ r ∈ rows, r.ok = true) → rows.length ≤ 12 → Kp M M' → readW M' r = some (rows.map Rw.d) → M.length ≤ r → Q (.ref r) M'
theorem ring_num (m b st g0 g2 : Nat) (c0 c1 : Int) (j : Nat) : (ringR m b st g0 g2 c0 c1 j).map Rw.num = [0, 1, 2] ++ (List.range j).map (b + ·) := by
 unfold ringR
 rw [List.map_append, List.map_map]
 rfl
theorem ring_ok {m b st g0 g2 : Nat} {c0 c1 : Int} (m1 : 1 ≤ m) (m9 : m ≤ 9) (b3 : 3 ≤ b) (h0 : g0 < m) (h2 : g2 < m) : RwOk (ringR m b st g0 g2 c0 c1 m) where
 pos := by unfold ringR; simp
 small := by unfold ringR; rw [List.length_append, List.length_map, List.length_range]; simp; omega
 nd := by
  rw [ring_num, List.nodup_append]
  refine ⟨by decide, List.pairwise_map.mpr (List.nodup_range.imp fun h z => h (by omega)), fun a ha c hc => ?_⟩
  obtain ⟨k, _, rfl⟩ := List.mem_map.mp hc
  simp at ha
  omega
 goal := by
  have key : ∀ x, x < m → b + x ∈ (ringR m b st g0 g2 c0 c1 m).map Rw.num := fun x hx => by
   rw [ring_num]
   exact List.mem_append_right _ (List.mem_map.mpr ⟨x, List.mem_range.mpr hx, rfl⟩)
  intro r hr g hg
  unfold ringR at hr
  rcases List.mem_append.mp hr with hr | hr
  ·simp only [List.mem_cons, List.not_mem_nil, or_false] at hr
   rcases hr with rfl | rfl | rfl
   ·cases hg; exact key _ h0
   ·cases hg
   ·cases hg; exact key _ h2
  ·obtain ⟨k, _, rfl⟩ := List.mem_map.mp hr
   cases hg
   exact key _ (Nat.mod_lt _ (by omega))
 last := by
  intro p r hr hgo
  have hl : (ringR m b st g0 g2 c0 c1 m).length = m + 3 := by unfold ringR; rw [List.length_append, List.length_map, List.length_range]; exact Nat.add_comm _ _
  rw [hl]
  by_cases hp : p < 3
  ·omega
  ·unfold ringR at hr
   rw [List.getElem?_append_right (by simp; omega), List.getElem?_map, Option.map_eq_some_iff] at hr
   obtain ⟨k, _, rfl⟩ := hr
   cases hgo
section
variable {K : PySem.W.Frag}
theorem r_Lring {Γ G} : ∀ ds M Q Z, spRing ds M Q Z → tss ⟨K, Γ, G⟩ noX b_Lring { nx := fun _ M => Q .non M, rt := Q } (start0 N_Lring ds) M := by
 rintro ds M Q Z ⟨i, j, rfl, q⟩
 simp only [b_Lring, N_Lring]
 obtain ⟨m, em, m1, m9⟩ : ∃ m : Nat, 1 + qmod i 9 = (m : Int) ∧ 1 ≤ m ∧ m ≤ 9 := by
  have h1 := Int.emod_nonneg i (show (9 : Int) ≠ 0 by decide)
  have h2 := Int.emod_lt_of_pos i (show (0 : Int) < 9 by decide)
  exact ⟨(1 + i % 9).toNat, by rw [qm (by decide)]; omega, by omega, by omega⟩
 obtain ⟨b, eb, b3, b52⟩ : ∃ b : Nat, 3 + qmod (qdiv i 81) 50 = (b : Int) ∧ 3 ≤ b ∧ b ≤ 52 := by
  have h1 := Int.emod_nonneg (qdiv i 81) (show (50 : Int) ≠ 0 by decide)
  have h2 := Int.emod_lt_of_pos (qdiv i 81) (show (0 : Int) < 50 by decide)
  exact ⟨(3 + qdiv i 81 % 50).toNat, by rw [qm (by decide)]; omega, by omega, by omega⟩
 have md : ∀ x : Int, ∃ v : Nat, qmod x (m : Int) = (v : Int) ∧ v < m := fun x => by
  have h1 := Int.emod_nonneg x (show (m : Int) ≠ 0 by omega)
  have h2 := Int.emod_lt_of_pos x (show (0 : Int) < m by omega)
  exact ⟨(x % m).toNat, by rw [qm (by omega)]; omega, by omega⟩
 obtain ⟨st, es, hst⟩ := md (qdiv i 9)
 obtain ⟨g0, e0, hg0⟩ := md j
 obtain ⟨g2, e2, hg2⟩ := md (qdiv j 9)
 walk_at "ew"
 simp only [em, eb, es, e0, e2]
 have hm0 : ¬ (m : Int) = 0 := by omega
 refine ⟨cdiv_lit (by decide) (by decide), hm0, cdiv_lit (by decide) (by decide), cpow_ok (by decide), by decide, hm0, sizeLine_ge (by decide), sizeLine_ge (by decide), isSome_of (readL_end _ _ []), cpow_ok (by decide), by decide, sizeLine_ge (by decide), _, readW_end _ _ [], sizeLine_gt (by simp), ?_⟩
 rw [set_end]
 generalize qmod i (10 ^ Int.toNat 18) = c0
 generalize qmod j (10 ^ Int.toNat 18) = c1
 refine ⟨isSome_of (readL_end _ _ []), cdiv_lit (by decide) (by decide), hm0, sizeLine_ge (by decide), _, readW_end _ _ [], sizeLine_gt (by simp), ?_⟩
 rw [set_end]
 try walk_at "ew"
 refine ⟨by omega, by omega, ?_⟩
 rw [Int.toNat_natCast]
 have e00 : [D.tup [D.int 0, D.str (Str.ofString "test"), D.str (Str.ofString "x"), D.str (Str.ofString "<"), D.int c0, D.int ((b : Int) + (g0 : Int))], D.tup [D.int 1, D.str (Str.ofString "sum"), D.str (Str.ofString "x"), D.str (Str.ofString "x"), D.str (Str.ofString "+"), D.int c1], D.tup [D.int 2, D.str (Str.ofString "jump"), D.int ((b : Int) + (g2 : Int))]] = (ringR m b st g0 g2 c0 c1 0).map Rw.d := rfl
 refine forD_rng (fun k σ M' => ∃ d, σ = [some (.int i), some (.int j), some (.int m), some (.int st), some (.int b), some (.ref M.length), d] ∧ M' = M ++ [.lst ((ringR m b st g0 g2 c0 c1 k).map Rw.d)]) ⟨none, rfl, by rw [← e00]⟩ ?_ ?_
 ·rintro k σ M' C hk ⟨d, rfl, rfl⟩ hC
  simp only [b_Lring_2, Int.zero_add]
  walk_at "ew"
  have hk2 : (ringR m b st g0 g2 c0 c1 k).length = k + 3 := by unfold ringR; rw [List.length_append, List.length_map, List.length_range]; exact Nat.add_comm _ _
  refine ⟨isSome_of (readL_end _ _ []), hm0, sizeLine_ge (by decide), _, readW_end _ _ [], by rw [List.length_map, hk2]; exact sizeLine_gt (by omega), ?_⟩
  rw [set_end]
  refine hC _ _ ⟨_, rfl, ?_⟩
  have e3 : ringR m b st g0 g2 c0 c1 (k + 1) = ringR m b st g0 g2 c0 c1 k ++ [Rw.jump (b + k) (b + (k + st) % m)] := by
   unfold ringR
   rw [List.range_succ, List.map_append, List.append_assoc]
   rfl
  have e4 : (Rw.jump (b + k) (b + (k + st) % m)).d = .tup [.int ((b : Int) + k), .str (Str.ofString "jump"), .int ((b : Int) + qmod ((k : Int) + st) m)] := by
   rw [qm (by omega)]
   rfl
  rw [e3, List.map_append, List.map_cons, e4]
  rfl
 ·rintro σ M' ⟨d, rfl, rfl⟩
  simp only [b_Lring_1]
  walk_at "ew"
  have hl : (ringR m b st g0 g2 c0 c1 m).length = m + 3 := by unfold ringR; rw [List.length_append, List.length_map, List.length_range]; exact Nat.add_comm _ _
  refine q (ringR m b st g0 g2 c0 c1 m) _ _ (ring_ok m1 m9 b3 hg0 hg2) ?_ (by omega) (Kp.new _ _) (readW_end _ _ []) (Nat.le_refl _)
  intro r hr
  unfold ringR at hr
  rcases List.mem_append.mp hr with hr | hr
  ·have cx : PyData.canLay0 (.str (Str.ofString "x")) = true := by decide +kernel
   have cl : PyData.canLay0 (.str (Str.ofString "<")) = true := by decide +kernel
   have cp : PyData.canLay0 (.str (Str.ofString "+")) = true := by decide +kernel
   simp only [List.mem_cons, List.not_mem_nil, or_false] at hr
   rcases hr with rfl | rfl | rfl
   ·simp only [Rw.ok, Opd.ok, cx, cl, Bool.and_self]
   ·simp only [Rw.ok, Opd.ok, cx, cp, Bool.and_self]
   ·rfl
  ·obtain ⟨k, _, rfl⟩ := List.mem_map.mp hr
   rfl
end
def Opd.p : Opd → PyData
 | .nm x => .str x
 | .no i => .int i
theorem Opd.pd {M : Store} (o : Opd) : PD M o.p o.d := by cases o <;> rfl
def Nd.p : Nd → PyData
 | .sum x a sg b t => .tuple [.str "sum", .str x, a.p, .str sg, b.p, .int t]
 | .test a sg b y n => .tuple [.str "test", a.p, .str sg, b.p, .int y, .int n]
 | .fin => .tuple [.str "end"]
 | .spin => .tuple [.str "spin"]
theorem Nd.pd {M : Store} (d : Nd) : PD M d.p d.d := by
 cases d with
 | sum x a sg b t => exact ⟨_, rfl, _, _, rfl, rfl, _, _, rfl, rfl, _, _, rfl, a.pd, _, _, rfl, rfl, _, _, rfl, b.pd, _, _, rfl, rfl, rfl⟩
 | test a sg b y n => exact ⟨_, rfl, _, _, rfl, rfl, _, _, rfl, a.pd, _, _, rfl, rfl, _, _, rfl, b.pd, _, _, rfl, rfl, _, _, rfl, rfl, rfl⟩
 | fin => exact ⟨_, rfl, _, _, rfl, rfl, rfl⟩
 | spin => exact ⟨_, rfl, _, _, rfl, rfl, rfl⟩
theorem nds_pd {M : Store} : ∀ gr : List Nd, PDs M (gr.map Nd.p) (gr.map Nd.d)
 | [] => rfl
 | d :: r => ⟨_, _, rfl, d.pd, nds_pd r⟩
theorem Opd.lay (o : Opd) (h : o.ok = true) : PyData.canLay0 o.p = true := by
 cases o with
 | nm x => exact h
 | no i => rfl
theorem Nd.lay (d : Nd) (h : d.ok = true) : PyData.canLay0 d.p = true := by
 have i : ∀ t : Int, PyData.canLay0 (.int t) = true := fun _ => rfl
 have s1 : PyData.canLay0 (.str "sum") = true := by decide +kernel
 have s2 : PyData.canLay0 (.str "test") = true := by decide +kernel
 have s3 : PyData.canLay0 (.str "end") = true := by decide +kernel
 have s4 : PyData.canLay0 (.str "spin") = true := by decide +kernel
 have tup : ∀ l, PyData.canLay0 (.tuple l) = PyData.canLayAll0 l := fun _ => by rw [PyData.canLay0]
 have cons : ∀ x l, PyData.canLayAll0 (x :: l) = (PyData.canLay0 x && PyData.canLayAll0 l) := fun _ _ => by rw [PyData.canLayAll0]
 have nil : PyData.canLayAll0 [] = true := by rw [PyData.canLayAll0]
 cases d with
 | sum x a sg b t =>
  simp only [Nd.ok, Bool.and_eq_true] at h
  simp only [Nd.p, tup, cons, nil, s1, i, h.1.1.1, h.1.2, a.lay h.1.1.2, b.lay h.2, Bool.and_self]
 | test a sg b y n =>
  simp only [Nd.ok, Bool.and_eq_true] at h
  simp only [Nd.p, tup, cons, nil, s2, i, h.1.2, a.lay h.1.1, b.lay h.2, Bool.and_self]
 | fin => simp only [Nd.p, tup, cons, nil, s3, Bool.and_self]
 | spin => simp only [Nd.p, tup, cons, nil, s4, Bool.and_self]
theorem nds_lay : ∀ gr : List Nd, (∀ d ∈ gr, d.ok = true) → PyData.canLayAll0 (gr.map Nd.p) = true
 | [], _ => by rw [List.map_nil, PyData.canLayAll0]
 | d :: r, h => by
  rw [List.map_cons]
  unfold PyData.canLayAll0
  rw [nds_lay r fun x hx => h x (List.mem_cons_of_mem _ hx), d.lay (h d List.mem_cons_self)]
  rfl
theorem Nd.dep (d : Nd) : PyData.depth d.p ≤ 5 := by
 cases d with
 | sum x a sg b t => cases a <;> cases b <;> (simp only [Nd.p, Opd.p, PyData.depth, PyData.depthAll]; decide)
 | test a sg b y n => cases a <;> cases b <;> (simp only [Nd.p, Opd.p, PyData.depth, PyData.depthAll]; decide)
 | fin => simp only [Nd.p, PyData.depth, PyData.depthAll]; decide
 | spin => simp only [Nd.p, PyData.depth, PyData.depthAll]; decide
theorem nds_dep : ∀ gr : List Nd, PyData.depthAll (gr.map Nd.p) ≤ 5
 | [] => by simp [PyData.depthAll]
 | d :: r => by
  rw [List.map_cons]
  unfold PyData.depthAll
  have h1 := nds_dep r
  have h2 := d.dep
  omega
theorem eq_gr {M : Store} {m n : Nat} {gr : List Nd} {B : Bool → Prop} (ok : ∀ d ∈ gr, d.ok = true) (h1 : readL M m = some (gr.map Nd.d)) (h2 : readL M n = some (gr.map Nd.d)) (q : B true) : eqD M (.ref m) (.ref n) B := by
 have hc : PyData.canLay0 (.list (gr.map Nd.p)) = true := by unfold PyData.canLay0; exact nds_lay gr ok
 refine .inl ⟨.list (gr.map Nd.p), .list (gr.map Nd.p), ⟨m, _, rfl, h1, nds_pd gr⟩, ⟨n, _, rfl, h2, nds_pd gr⟩, hc, hc, ?_, ?_⟩
 ·unfold PyData.depth
  have := nds_dep gr
  omega
 ·rw [PySem.SeqAt.eqv_refl _ hc]
  exact q
def Rw.p : Rw → PyData
 | .sum k x a sg b => .tuple [.int k, .str "sum", .str x, a.p, .str sg, b.p]
 | .test k a sg b g => .tuple [.int k, .str "test", a.p, .str sg, b.p, .int g]
 | .jump k g => .tuple [.int k, .str "jump", .int g]
 | .fin k => .tuple [.int k, .str "end"]
theorem Rw.pd {M : Store} (d : Rw) : PD M d.p d.d := by
 cases d with
 | sum k x a sg b => exact ⟨_, rfl, _, _, rfl, rfl, _, _, rfl, rfl, _, _, rfl, rfl, _, _, rfl, a.pd, _, _, rfl, rfl, _, _, rfl, b.pd, rfl⟩
 | test k a sg b g => exact ⟨_, rfl, _, _, rfl, rfl, _, _, rfl, rfl, _, _, rfl, a.pd, _, _, rfl, rfl, _, _, rfl, b.pd, _, _, rfl, rfl, rfl⟩
 | jump k g => exact ⟨_, rfl, _, _, rfl, rfl, _, _, rfl, rfl, _, _, rfl, rfl, rfl⟩
 | fin k => exact ⟨_, rfl, _, _, rfl, rfl, _, _, rfl, rfl, rfl⟩
theorem rws_pd {M : Store} : ∀ gr : List Rw, PDs M (gr.map Rw.p) (gr.map Rw.d)
 | [] => rfl
 | d :: r => ⟨_, _, rfl, d.pd, rws_pd r⟩
theorem Rw.lay (d : Rw) (h : d.ok = true) : PyData.canLay0 d.p = true := by
 have i : ∀ t : Int, PyData.canLay0 (.int t) = true := fun _ => rfl
 have s1 : PyData.canLay0 (.str "sum") = true := by decide +kernel
 have s2 : PyData.canLay0 (.str "test") = true := by decide +kernel
 have s3 : PyData.canLay0 (.str "end") = true := by decide +kernel
 have s4 : PyData.canLay0 (.str "jump") = true := by decide +kernel
 have tup : ∀ l, PyData.canLay0 (.tuple l) = PyData.canLayAll0 l := fun _ => by rw [PyData.canLay0]
 have cons : ∀ x l, PyData.canLayAll0 (x :: l) = (PyData.canLay0 x && PyData.canLayAll0 l) := fun _ _ => by rw [PyData.canLayAll0]
 have nil : PyData.canLayAll0 [] = true := by rw [PyData.canLayAll0]
 cases d with
 | sum k x a sg b =>
  simp only [Rw.ok, Bool.and_eq_true] at h
  simp only [Rw.p, tup, cons, nil, s1, i, h.1.1.1, h.1.2, a.lay h.1.1.2, b.lay h.2, Bool.and_self]
 | test k a sg b g =>
  simp only [Rw.ok, Bool.and_eq_true] at h
  simp only [Rw.p, tup, cons, nil, s2, i, h.1.2, a.lay h.1.1, b.lay h.2, Bool.and_self]
 | jump k g => simp only [Rw.p, tup, cons, nil, s4, i, Bool.and_self]
 | fin k => simp only [Rw.p, tup, cons, nil, s3, i, Bool.and_self]
theorem rws_layp : ∀ gr : List Rw, (∀ d ∈ gr, d.ok = true) → PyData.canLayAll0 (gr.map Rw.p) = true
 | [], _ => by rw [List.map_nil, PyData.canLayAll0]
 | d :: r, h => by
  rw [List.map_cons]
  unfold PyData.canLayAll0
  rw [rws_layp r fun x hx => h x (List.mem_cons_of_mem _ hx), d.lay (h d List.mem_cons_self)]
  rfl
theorem Rw.dep (d : Rw) : PyData.depth d.p ≤ 5 := by
 cases d with
 | sum k x a sg b => cases a <;> cases b <;> (simp only [Rw.p, Opd.p, PyData.depth, PyData.depthAll]; decide)
 | test k a sg b g => cases a <;> cases b <;> (simp only [Rw.p, Opd.p, PyData.depth, PyData.depthAll]; decide)
 | jump k g => simp only [Rw.p, PyData.depth, PyData.depthAll]; decide
 | fin k => simp only [Rw.p, PyData.depth, PyData.depthAll]; decide
theorem rws_dep : ∀ gr : List Rw, PyData.depthAll (gr.map Rw.p) ≤ 5
 | [] => by simp [PyData.depthAll]
 | d :: r => by
  rw [List.map_cons]
  unfold PyData.depthAll
  have := rws_dep r
  have := d.dep
  omega
theorem eq_rws {M : Store} {m n : Nat} {rows : List Rw} {B : Bool → Prop} (h1 : readL M m = some (rows.map Rw.d)) (h2 : readL M n = some (rows.map Rw.d)) (ok : ∀ d ∈ rows, d.ok = true) (q : B true) : eqD M (.ref m) (.ref n) B := by
 have hc : PyData.canLay0 (.list (rows.map Rw.p)) = true := by unfold PyData.canLay0; exact rws_layp rows ok
 refine .inl ⟨.list (rows.map Rw.p), .list (rows.map Rw.p), ⟨m, _, rfl, h1, rws_pd rows⟩, ⟨n, _, rfl, h2, rws_pd rows⟩, hc, hc, ?_, ?_⟩
 ·unfold PyData.depth
  have := rws_dep rows
  omega
 ·rw [PySem.SeqAt.eqv_refl _ hc]
  exact q
theorem al_nd {M : Store} (d : Nd) : AL M 1 d.d d.d := by
 have key : ∀ xs : List D, xs.length ≤ 100000 → (∀ x ∈ xs, flatD x = true) → AL M 1 (.tup xs) (.tup xs) := by
  intro xs hs hf
  refine .inr (.inl ⟨xs, xs, rfl, rfl, rfl, hs, fun i u v hu hv => ?_⟩)
  rw [hu] at hv
  cases hv
  exact AL.flat (hf u (List.mem_of_getElem? hu))
 cases d with
 | sum x a sg b t => cases a <;> cases b <;> exact key _ (by simp) (by simp [Opd.d, flatD])
 | test a sg b y n => cases a <;> cases b <;> exact key _ (by simp) (by simp [Opd.d, flatD])
 | fin => exact key _ (by simp) (by simp [flatD])
 | spin => exact key _ (by simp) (by simp [flatD])
theorem al_gr {M : Store} {m k : Nat} {gr : List Nd} (h1 : readW M m = some (gr.map Nd.d)) (h2 : readW M k = some (gr.map Nd.d)) (hs : gr.length ≤ 1000) : AL M 2 (.ref m) (.ref k) := by
 refine .inr (.inr ⟨m, k, _, _, rfl, rfl, h1, h2, rfl, by rw [List.length_map]; omega, fun i u v hu hv => ?_⟩)
 rw [hu] at hv
 cases hv
 rw [List.getElem?_map, Option.map_eq_some_iff] at hu
 obtain ⟨d, _, rfl⟩ := hu
 exact al_nd d
theorem cut_map {α β : Type} (f : α → β) (xs : List α) (lo hi : Option Int) : U.cutD (xs.map f) lo hi = (U.cutD xs lo hi).map f := by
 unfold U.cutD
 rw [List.length_map, List.map_take, List.map_drop]
theorem cut_len {α : Type} (xs : List α) : (U.cutD xs (some 1) (some 40)).length ≤ 39 := by
 unfold U.cutD
 rw [List.length_take]
 have e1 : HT.sIx xs.length xs.length (some 40) = min 40 xs.length := by
  show (if (40 : Int) < 0 then ((40 : Int) + (xs.length : Int)).toNat else min (40 : Int).toNat xs.length) = _
  rw [if_neg (by decide)]
  rfl
 have e2 : HT.sIx xs.length 0 (some 1) = min 1 xs.length := by
  show (if (1 : Int) < 0 then ((1 : Int) + (xs.length : Int)).toNat else min (1 : Int).toNat xs.length) = _
  rw [if_neg (by decide)]
  rfl
 rw [e1, e2]
 omega
theorem gra_ok {raw : List Nd} {O : List Nat} (h : ∀ d ∈ raw, d.ok = true) : ∀ d ∈ gra raw O, d.ok = true := by
 intro d hd
 unfold gra at hd
 obtain ⟨x, _, rfl⟩ := List.mem_map.mp hd
 rw [Nd.ok_to, List.getD_eq_getElem?_getD]
 cases e : raw[x]? with
 | none => rfl
 | some d => exact h d (List.mem_of_getElem? e)
theorem nodes_lay {rows : List Rw} (h : ∀ r ∈ rows, r.ok = true) (L : Nat → Nat) : ∀ d ∈ nodesOf rows L, d.ok = true := by
 intro d hd
 obtain ⟨i, hi⟩ := List.getElem?_of_mem hd
 unfold nodesOf at hi
 rw [List.getElem?_mapIdx, Option.map_eq_some_iff] at hi
 obtain ⟨r, hr, rfl⟩ := hi
 have := h r (List.mem_of_getElem? hr)
 cases r <;> first | exact this | rfl
theorem eq_gr_nil {M : Store} {x y : Nat} {d : Nd} {gr : List Nd} {B : Bool → Prop} (ok : ∀ e ∈ d :: gr, e.ok = true) (h1 : readL M x = some ((d :: gr).map Nd.d)) (h2 : readL M y = some []) (q : B false) : eqD M (.ref x) (.ref y) B := by
 have hc : PyData.canLay0 (.list ((d :: gr).map Nd.p)) = true := by unfold PyData.canLay0; exact nds_lay _ ok
 have hn : PyData.canLay0 (.list []) = true := by unfold PyData.canLay0; rw [PyData.canLayAll0]
 refine .inl ⟨.list ((d :: gr).map Nd.p), .list [], ⟨x, _, rfl, h1, nds_pd _⟩, ⟨y, _, rfl, h2, rfl⟩, hc, hn, ?_, ?_⟩
 ·unfold PyData.depth
  have := nds_dep (d :: gr)
  omega
 ·exact q
theorem idx_map {f : Nat → Nat} : ∀ {O : List Nat} {x : Nat}, x ∈ O → (∀ y ∈ O, f y = f x → y = x) → (O.map f).idxOf (f x) = O.idxOf x
 | y :: O, x, hx, inj => by
  rw [List.map_cons]
  by_cases e : y = x
  ·subst e; rw [List.idxOf_cons_self, List.idxOf_cons_self]
  ·have h1 : f y ≠ f x := fun z => e (inj y List.mem_cons_self z)
   have hx2 : x ∈ O := (List.mem_cons.mp hx).elim (fun z => absurd z.symm e) id
   rw [List.idxOf_cons, List.idxOf_cons, beq_eq_false_iff_ne.mpr h1, beq_eq_false_iff_ne.mpr e, idx_map hx2 fun z hz => inj z (List.mem_cons_of_mem _ hz)]
theorem land_both {rows : List Rw} {L L' : Nat → Nat} (ok : RwOk rows) (la : Lands rows L) (la' : Lands rows L') {q : Nat} (hq : q < rows.length) : L' (L q) = L' q := (orb_land ok la' (la.orb q hq) hq).symm
theorem ring_jmp {rows : List Rw} {L L' : Nat → Nat} (ok : RwOk rows) (la : Lands rows L) (la' : Lands rows L') {y : Nat} (hy : y < rows.length) (hL : L y = y) {k g : Nat} (e : rows[y]? = some (.jump k g)) : ∃ k' g', rows[L' y]? = some (.jump k' g') := by
 have hl := la'.lt y hy
 obtain ⟨r, er⟩ : ∃ r, rows[L' y]? = some r := ⟨_, List.getElem?_eq_getElem hl⟩
 cases hj : r.isJ with
 | true =>
  cases r with
  | sum _ _ _ _ _ => cases hj
  | test _ _ _ _ _ => cases hj
  | fin _ => cases hj
  | jump k' g' => exact ⟨k', g', er⟩
 | false =>
  have h1 : L (L' y) = L' y := la.no _ hl (jmp_no er hj)
  have h2 : L (L' y) = y := (land_both ok la' la hy).trans hL
  have h3 : L' y = y := h1.symm.trans h2
  rw [h3, e] at er
  cases er
  cases hj
theorem same_gra {rows : List Rw} {L L' : Nat → Nat} {d d' : List Nat} (ok : RwOk rows) (la : Lands rows L) (la' : Lands rows L') (en : ND.Ends (wy (nodesOf rows L)) (L 0) d) (en' : ND.Ends (wy (nodesOf rows L')) (L' 0) d') : gra (nodesOf rows L') d'.reverse = gra (nodesOf rows L) d.reverse := by
 have o := odr_of ok la en
 have inj : ∀ x y, (x < rows.length ∧ L x = x) → (y < rows.length ∧ L y = y) → L' x = L' y → x = y := by
  rintro x y ⟨hx, lx⟩ ⟨hy, ly⟩ e
  rw [← lx, ← ly, ← land_both ok la' la hx, ← land_both ok la' la hy, e]
 have lq : ∀ y t, t ∈ gl rows L y → t < rows.length ∧ L t = t := fun y t => gl_land ok la
 have ways : ∀ y, (y < rows.length ∧ L y = y) → wy (nodesOf rows L') (L' y) = (wy (nodesOf rows L) y).map L' := by
  rintro y ⟨hy, ly⟩
  obtain ⟨r, er⟩ : ∃ r, rows[y]? = some r := ⟨_, List.getElem?_eq_getElem hy⟩
  cases r with
  | sum k x a sg b =>
   have hl := ok.last _ _ er rfl
   rw [la'.no y hy (jmp_no er rfl), wy_at (nodes_at er), wy_at (nodes_at er)]
   show [L' (y + 1)] = [L' (L (y + 1))]
   rw [land_both ok la la' hl]
  | test k a sg b g =>
   have hl := ok.last _ _ er rfl
   have hg := pos_lt (ok.goal _ (List.mem_of_getElem? er) g rfl)
   rw [la'.no y hy (jmp_no er rfl), wy_at (nodes_at er), wy_at (nodes_at er)]
   show [L' (y + 1), L' (posOf rows g)] = [L' (L (y + 1)), L' (L (posOf rows g))]
   rw [land_both ok la la' hl, land_both ok la la' hg]
  | fin k =>
   rw [la'.no y hy (jmp_no er rfl), wy_at (nodes_at er), wy_at (nodes_at er)]
   rfl
  | jump k g =>
   obtain ⟨k', g', e'⟩ := ring_jmp ok la la' hy ly er
   rw [wy_at (nodes_at er), wy_at (nodes_at e')]
   rfl
 have em := ND.Ends.map (g' := wy (nodesOf rows L')) (S := fun y => y < rows.length ∧ L y = y) (π := L') (fun x _ t ht => gl_land ok la ((wy_gl t).mp ht)) inj ways ⟨la.lt _ ok.pos, land_land ok la ok.pos⟩ en
 rw [land_both ok la la' ok.pos] at em
 have ed : d' = d.map L' := en'.uniq em
 subst ed
 rw [← List.map_reverse]
 generalize d.reverse = O at o
 have idx : ∀ t ∈ O, (O.map L').idxOf (L' t) = O.idxOf t := fun t ht => idx_map ht fun y hy e => inj y t (o.land y hy) (o.land t ht) e
 unfold gra
 rw [List.map_map]
 refine List.map_congr_left fun y hyO => ?_
 obtain ⟨hy, ly⟩ := o.land y hyO
 obtain ⟨r, er⟩ : ∃ r, rows[y]? = some r := ⟨_, List.getElem?_eq_getElem hy⟩
 have tin : ∀ t ∈ gl rows L y, t ∈ O := fun t ht => o.cl y hyO t ((wy_gl t).mpr ht)
 show ((nodesOf rows L').getD (L' y) .fin).to _ = ((nodesOf rows L).getD y .fin).to _
 rw [List.getD_eq_getElem?_getD, List.getD_eq_getElem?_getD, nodes_at er]
 cases r with
 | sum k x a sg b =>
  have hl := ok.last _ _ er rfl
  rw [la'.no y hy (jmp_no er rfl), nodes_at er]
  show Nd.sum x a sg b ((O.map L').idxOf (L' (y + 1))) = Nd.sum x a sg b (O.idxOf (L (y + 1)))
  rw [← land_both ok la la' hl, idx _ (tin _ (by unfold gl; rw [er]; simp))]
 | test k a sg b g =>
  have hl := ok.last _ _ er rfl
  have hg := pos_lt (ok.goal _ (List.mem_of_getElem? er) g rfl)
  rw [la'.no y hy (jmp_no er rfl), nodes_at er]
  show Nd.test a sg b ((O.map L').idxOf (L' (posOf rows g))) ((O.map L').idxOf (L' (y + 1))) = Nd.test a sg b (O.idxOf (L (posOf rows g))) (O.idxOf (L (y + 1)))
  rw [← land_both ok la la' hl, ← land_both ok la la' hg, idx _ (tin _ (by unfold gl; rw [er]; simp)), idx _ (tin _ (by unfold gl; rw [er]; simp))]
 | fin k =>
  rw [la'.no y hy (jmp_no er rfl), nodes_at er]
  rfl
 | jump k g =>
  obtain ⟨k', g', e'⟩ := ring_jmp ok la la' hy ly er
  rw [nodes_at e']
  rfl
theorem rows_in {rows : List Rw} (ok : RwOk rows) {L : Nat → Nat} (ld : Lands rows L) {d : List Nat} (en : ND.Ends (wy (nodesOf rows L)) (L 0) d) : d.length ≤ rows.length := by
 have o := odr_of ok ld en
 have := ND.nodup_len rows.length d en.facts.1 (fun y hy => (o.land y (List.mem_reverse.mpr hy)).1)
 exact this
theorem one_ok : RwOk [Rw.jump 3 3] where
 pos := by decide
 small := by decide
 nd := by decide
 goal := by
  intro r hr g hg
  rw [List.mem_singleton] at hr
  subst hr
  cases hg
  decide
 last := by
  intro p r hr hgo
  have := List.mem_of_getElem? hr
  rw [List.mem_singleton] at this
  subst this
  cases hgo
section
variable {K : PySem.W.Frag}
theorem r_law {Γ G} (g6 : Γ[6]? = some spGraphOf) (g7 : Γ[7]? = some spCell) (g12 : Γ[12]? = some spRows) (g13 : Γ[13]? = some (spAlike 2)) (g18 : Γ[18]? = some spSide) (g19 : Γ[19]? = some spRing) : ∀ ds M Q Z, spLaw ds M Q Z → tss ⟨K, Γ, G⟩ noX b_law { nx := fun _ M => Q .non M, rt := Q } (start0 N_law ds) M := by
 rintro ds M Q Z ⟨ns, rfl, rfl, hl, hb, q⟩
 simp only [b_law, N_law]
 walk_at "ew"
 try simp only [g7, g12]
 have hs : readL [Cell.frz (ns.map D.int)] 0 = some (ns.map .int) := rfl
 refine ⟨_, hs, ?_⟩
 try walk_at "ew"
 refine ⟨0, ns, 0, rfl, readL_app hs, ?_⟩
 walk_at "ew"
 refine ⟨cpow_ok (by decide), by decide, ?_⟩
 try walk_at "ew"
 have k0 : Kp [Cell.frz (ns.map D.int)] ([Cell.frz (ns.map D.int)] ++ [.lst (U.cutD (ns.map D.int) (some 1) (some 40))]) := ⟨_, rfl⟩
 refine ⟨_, _, U.cutD ns (some 1) (some 40), rfl, by rw [cut_map]; rfl, cut_len ns, ?_, fun rows M1 r1 ok lay h40 k1 hw1 hr1 => ?_⟩
 ·rw [qm (by decide)]; exact Int.emod_nonneg _ (by decide)
 have k01 := k0.trans k1
 have hs1 := k01.L hs
 try walk_at "ew"
 refine ⟨_, (readW_readL hw1 : itemsD M1 (.ref r1) = _), ?_⟩
 have kh : Kp M1 (M1 ++ [.lst (rows.map Rw.d)]) := Kp.new _ _
 have hh : readL (M1 ++ [.lst (rows.map Rw.d)]) M1.length = some (rows.map Rw.d) := readL_end _ _ []
 have lh : M1.length < (M1 ++ [.lst (rows.map Rw.d)] : Store).length := by simp
 generalize M1.length = h1 at hh lh
 generalize (M1 ++ [.lst (rows.map Rw.d)] : Store) = Mh at kh hh lh
 simp only [g6]
 refine ⟨h1, rows, rfl, hh, ok, fun L d ld en => Nat.le_trans (rows_in ok ld en) h40, fun L d M2 r2 ld en k2 hw2 hr2 => ?_⟩
 have o := odr_of ok ld en
 have hlen : d.reverse.length ≤ 40 := by rw [List.length_reverse]; exact Nat.le_trans (rows_in ok ld en) h40
 have gok := gra_ok (O := d.reverse) (nodes_lay lay L)
 obtain ⟨e1, gr1, hgr⟩ : ∃ e1 gr1, gra (nodesOf rows L) d.reverse = e1 :: gr1 := by
  cases e : gra (nodesOf rows L) d.reverse with
  | cons x y => exact ⟨x, y, rfl⟩
  | nil =>
   have h1 := congrArg List.length e
   rw [gra_len] at h1
   have h2 := (List.getElem?_eq_some_iff.mp o.zero).1
   rw [h1] at h2
   cases h2
 try walk_at "ew"
 rw [is_lst hw2]
 rw [show tyLst Ty.list = true from rfl]
 rw [if_pos (by decide)]
 have hr2' : Mh.length ≤ r2 := hr2
 refine ⟨sizeLine_ge (by decide), eq_gr_nil (d := e1) (gr := gr1) (by rw [← hgr]; exact gok) (by rw [← hgr]; exact readL_app (readW_readL hw2)) (readL_end _ _ []) ?_⟩
 rw [if_pos rfl]
 have kh2 : Kp Mh (M2 ++ [.lst []]) := k2.app _
 have hw2' : readW (M2 ++ [.lst []]) r2 = some ((gra (nodesOf rows L) d.reverse).map Nd.d) := readW_app hw2
 generalize (M2 ++ [.lst []] : Store) = M3 at kh2 hw2'
 have hh3 := kh2.L hh
 have hr3 := (kh.trans kh2).L (readW_readL hw1)
 refine eq_rws hh3 hr3 lay ?_
 rw [if_neg (by decide)]
 have hs3 := (kh.trans kh2).L hs1
 simp only [b_law_2]
 walk_at "ew"
 simp only [g7, g19, g18, g6]
 refine ⟨0, ns, 0, rfl, hs3, ⟨0, ns, 1, rfl, hs3, ⟨_, _, rfl, fun crows M4 r4 cok clay c12 k4 hw4 hr4 => ⟨r2, r1, rows, L, d.reverse, rfl, k4.L (readW_readL hw2'), k4.L hr3, ok, ld, o, hlen, fun M5 k5 => ?_⟩⟩⟩⟩
 try walk_at "ew"
 try rw [if_pos (by decide)]
 refine ⟨r4, crows, rfl, k5.L (readW_readL hw4), cok, fun L' d' ld' en' => by have := rows_in cok ld' en'; omega, fun L' d' M6 r6 ld' en' k6 hw6 hr6 => ⟨r6, r4, crows, L', d'.reverse, rfl, readW_readL hw6, k6.L (k5.L (readW_readL hw4)), cok, ld', odr_of cok ld' en', ?_, fun M7 k7 => ?_⟩⟩
 ·have := rows_in cok ld' en'
  rw [List.length_reverse]
  omega
 try walk_at "ew"
 rw [if_neg (by decide)]
 have kk : Kp Mh M7 := kh2.trans (k4.trans (k5.trans (k6.trans k7)))
 have hw7 : readW M7 r2 = some ((gra (nodesOf rows L) d.reverse).map Nd.d) := k7.W (k6.W (k5.W (k4.W hw2')))
 have sg : ∀ L' d', Lands rows L' → ND.Ends (wy (nodesOf rows L')) (L' 0) d' → gra (nodesOf rows L') d'.reverse = gra (nodesOf rows L) d.reverse := fun L' d' ld' en' => same_gra ok ld ld' en en'
 have gl40 : (gra (nodesOf rows L) d.reverse).length ≤ 40 := by rw [gra_len]; exact hlen
 generalize gra (nodesOf rows L) d.reverse = gr at hw7 sg gok gl40
 simp only [b_law_1]
 walk_at "ew"
 simp only [g6, g13]
 have hlt : r2 < M7.length := read_lt (readW_readL hw7)
 have w8 := readW_app (N := [Cell.lst (gr.map Nd.d)]) hw7
 have k8 : Kp Mh (M7 ++ [Cell.lst (gr.map Nd.d)]) := kk.app _
 have q8 : readW (M7 ++ [Cell.lst (gr.map Nd.d)]) M7.length = some (gr.map Nd.d) := readW_end _ _ []
 refine ⟨_, (readW_readL hw7 : itemsD M7 (.ref r2) = _), isSome_of (readW_readL w8), _, w8, ?_⟩
 generalize M7.length = kp at hlt q8
 generalize (M7 ++ [Cell.lst (gr.map Nd.d)] : Store) = M8 at w8 k8 q8
 have w9 := setW (gr.map Nd.d).reverse w8
 have k9 : Kp Mh (M8.set r2 (Cell.lst (gr.map Nd.d).reverse)) := k8.set hr2' _
 have q9 : readW (M8.set r2 (Cell.lst (gr.map Nd.d).reverse)) kp = some (gr.map Nd.d) := by rw [readW_set_ne (by omega)]; exact q8
 generalize (M8.set r2 (Cell.lst (gr.map Nd.d).reverse) : Store) = M9 at w9 k9 q9
 refine ⟨isSome_of (readW_readL w9), sizeLine_ge (by decide), _, w9, by rw [List.length_reverse, List.length_map]; exact sizeLine_gt (by omega), sizeLine_ge (by decide), sizeLine_ge (by decide), ?_⟩
 have eS : (gr.map Nd.d).reverse ++ [D.tup [D.str (Str.ofString "spin")]] = (gr.reverse ++ [Nd.spin]).map Nd.d := by rw [List.map_append, List.map_reverse]; rfl
 have w10 := setW ((gr.map Nd.d).reverse ++ [D.tup [D.str (Str.ofString "spin")]]) w9
 have k10 : Kp Mh (M9.set r2 (Cell.lst ((gr.map Nd.d).reverse ++ [D.tup [D.str (Str.ofString "spin")]]))) := k9.set hr2' _
 have q10 : readW (M9.set r2 (Cell.lst ((gr.map Nd.d).reverse ++ [D.tup [D.str (Str.ofString "spin")]]))) kp = some (gr.map Nd.d) := by rw [readW_set_ne (by omega)]; exact q9
 generalize (M9.set r2 (Cell.lst ((gr.map Nd.d).reverse ++ [D.tup [D.str (Str.ofString "spin")]])) : Store) = M10 at w10 k10 q10
 refine ⟨_, [.jump 3 3], rfl, readL_end _ _ [], one_ok, fun L' d' ld' en' => Nat.le_trans (rows_in one_ok ld' en') (by decide), fun L' d' M11 r11 _ _ k11 _ _ => ?_⟩
 have kx : Kp M10 M11 := (Kp.new _ _).trans k11
 refine ⟨h1, rows, rfl, (k10.trans kx).L hh, ok, fun L' d' ld' en' => Nat.le_trans (rows_in ok ld' en') h40, fun L' d' M12 r12 ld' en' k12 hw12 _ => ?_⟩
 rw [sg L' d' ld' en'] at hw12
 have ky := kx.trans k12
 refine ⟨_, _, rfl, al_gr hw12 (ky.W q10) (by omega), ?_⟩
 try walk_at "ew"
 try rw [if_pos rfl]
 refine ⟨_, readW_readL (ky.W q10), sizeLine_ge (by decide), sizeLine_ge (by decide), _, _, readW_app (readW_end _ _ []), readW_end _ _ [], ?_, ?_⟩
 ·rw [List.length_reverse, List.length_map]
  exact Nat.le_of_lt (sizeLine_gt (by simp; omega))
 ·rw [eS] at w10
  refine eq_gr (gr := gr.reverse ++ [Nd.spin]) (fun d hd => ?_) (readL_app (readL_app (readL_app (readW_readL (ky.W w10))))) (by rw [← eS]; exact readL_end _ _ []) (q _)
  rcases List.mem_append.mp hd with hd | hd
  ·exact gok d (List.mem_reverse.mp hd)
  ·rw [List.mem_singleton] at hd
   subst hd
   rfl
end
set_option maxHeartbeats 0 in
theorem ok_all {P : Program} {w : World} {K : PySem.W.Frag} {mg : Str → Option Value} {base : Heap} {t : Adr} (T : Tx K mg t) : FnOk P w K mg base (CX1 P w) 23 t.a_law t.d_law ["_law_script"] (spF K spLaw) := by
 have PZ : Prg P w K mg base ⟨K, [bot, bot, bot, bot, bot, bot, bot, bot, bot, bot, bot, bot, bot, bot, bot, bot, bot, bot, bot, bot, bot], [.int 40]⟩ FN GN BN 0 := Prg.zero (ents T) rfl (by intro sp h; simp only [List.mem_cons, List.not_mem_nil, or_false, or_self] at h; exact h) (fun g x d h1 h2 => match g, h1, h2 with | 0, h1, h2 => by cases h1; cases h2; obtain ⟨tk, e⟩ := T.q_MOST_NODES; exact ⟨.int 40, _, e, ⟨tk, rfl⟩, fun w _ => rd_int.mpr rfl⟩ | n + 1, h1, h2 => by cases h2) (blts T)
 have P0 := PZ.up (show 0 ≤ 0 by decide)
 have F0 := fn0 P0 T.F_ways sc_ways c_ways (sp := spWays) (by rintro _ _ _ _ ⟨_, rfl, _⟩; rfl) r_ways
 have P1 : Prg P w K mg base ⟨K, [spWays, bot, bot, bot, bot, bot, bot, bot, bot, bot, bot, bot, bot, bot, bot, bot, bot, bot, bot, bot, bot], [.int 40]⟩ FN GN BN 1 := P0.add 0 (x := "ways") rfl F0 (Nat.le_refl _) (Nat.le_succ _) T.g_ways T.k_ways T.b_ways
 have F1 := fn0 P1 T.F_with_ways sc_with_ways c_with_ways (sp := spWith) (by rintro _ _ _ _ ⟨_, _, _, rfl, _⟩; rfl) r_with
 have P2 : Prg P w K mg base ⟨K, [spWays, spWith, bot, bot, bot, bot, bot, bot, bot, bot, bot, bot, bot, bot, bot, bot, bot, bot, bot, bot, bot], [.int 40]⟩ FN GN BN 2 := P1.add 1 (x := "with_ways") rfl F1 (Nat.le_refl _) (Nat.le_succ _) T.g_with_ways T.k_with_ways T.b_with_ways
 have F2 := fn0 P2 T.F_walked sc_walked c_walked (sp := spWalked) (by rintro _ _ _ _ ⟨_, _, _, _, rfl, _⟩; rfl) r_walked
 have P3 : Prg P w K mg base ⟨K, [spWays, spWith, spWalked, bot, bot, bot, bot, bot, bot, bot, bot, bot, bot, bot, bot, bot, bot, bot, bot, bot, bot], [.int 40]⟩ FN GN BN 3 := P2.add 2 (x := "walked") rfl F2 (Nat.le_refl _) (Nat.le_succ _) T.g_walked T.k_walked T.b_walked
 have F3 := fn0 P3 T.F_numbered sc_numbered c_numbered (sp := spNumbered) (by rintro _ _ _ _ ⟨_, _, _, _, rfl, _⟩; rfl) (r_numbered rfl rfl)
 have P4 : Prg P w K mg base ⟨K, [spWays, spWith, spWalked, spNumbered, bot, bot, bot, bot, bot, bot, bot, bot, bot, bot, bot, bot, bot, bot, bot, bot, bot], [.int 40]⟩ FN GN BN 4 := P3.add 3 (x := "numbered") rfl F3 (Nat.le_refl _) (Nat.le_succ _) T.g_numbered T.k_numbered T.b_numbered
 have F4 := fn0 P4 T.F_landings sc_landings c_landings (sp := spLandings) (by rintro _ _ _ _ ⟨_, _, _, _, _, rfl, _⟩; rfl) r_landings
 have P5 : Prg P w K mg base ⟨K, [spWays, spWith, spWalked, spNumbered, spLandings, bot, bot, bot, bot, bot, bot, bot, bot, bot, bot, bot, bot, bot, bot, bot, bot], [.int 40]⟩ FN GN BN 5 := P4.add 4 (x := "landings") rfl F4 (Nat.le_refl _) (Nat.le_succ _) T.g_landings T.k_landings T.b_landings
 have F5 := fn0 P5 T.F_linked sc_linked c_linked (sp := spLinked) (by rintro _ _ _ _ ⟨_, _, rfl, _⟩; rfl) (r_linked rfl)
 have P6 : Prg P w K mg base ⟨K, [spWays, spWith, spWalked, spNumbered, spLandings, spLinked, bot, bot, bot, bot, bot, bot, bot, bot, bot, bot, bot, bot, bot, bot, bot], [.int 40]⟩ FN GN BN 6 := P5.add 5 (x := "linked") rfl F5 (Nat.le_refl _) (Nat.le_succ _) T.g_linked T.k_linked T.b_linked
 have F6 := fn0 P6 T.F_graph_of sc_graph_of c_graph_of (sp := spGraphOf) (by rintro _ _ _ _ ⟨_, _, rfl, _⟩; rfl) (r_graph_of rfl rfl rfl rfl)
 have P7 : Prg P w K mg base ⟨K, [spWays, spWith, spWalked, spNumbered, spLandings, spLinked, spGraphOf, bot, bot, bot, bot, bot, bot, bot, bot, bot, bot, bot, bot, bot, bot], [.int 40]⟩ FN GN BN 7 := P6.add 6 (x := "graph_of") rfl F6 (Nat.le_refl _) (Nat.le_succ _) T.g_graph_of T.k_graph_of T.b_graph_of
 have F7 := fn0 P7 T.F_Lcell sc_Lcell c_Lcell (sp := spCell) (by rintro _ _ _ _ ⟨_, _, _, rfl, _⟩; rfl) r_Lcell
 have P8 : Prg P w K mg base ⟨K, [spWays, spWith, spWalked, spNumbered, spLandings, spLinked, spGraphOf, spCell, bot, bot, bot, bot, bot, bot, bot, bot, bot, bot, bot, bot, bot], [.int 40]⟩ FN GN BN 8 := P7.add 7 (x := "_law_cell") rfl F7 (Nat.le_refl _) (Nat.le_succ _) T.g_Lcell T.k_Lcell T.b_Lcell
 have F8 := fn0 P8 T.F_Lmixed sc_Lmixed c_Lmixed (sp := spMixed) (by rintro _ _ _ _ ⟨_, _, rfl, _⟩; rfl) r_Lmixed
 have P9 : Prg P w K mg base ⟨K, [spWays, spWith, spWalked, spNumbered, spLandings, spLinked, spGraphOf, spCell, spMixed, bot, bot, bot, bot, bot, bot, bot, bot, bot, bot, bot, bot], [.int 40]⟩ FN GN BN 9 := P8.add 8 (x := "_law_mixed") rfl F8 (Nat.le_refl _) (Nat.le_succ _) T.g_Lmixed T.k_Lmixed T.b_Lmixed
 have F9 := fn0 P9 T.F_Lnames sc_Lnames c_Lnames (sp := spNames) (by rintro _ _ _ _ ⟨_, rfl, _⟩; rfl) r_Lnames
 have P10 : Prg P w K mg base ⟨K, [spWays, spWith, spWalked, spNumbered, spLandings, spLinked, spGraphOf, spCell, spMixed, spNames, bot, bot, bot, bot, bot, bot, bot, bot, bot, bot, bot], [.int 40]⟩ FN GN BN 10 := P9.add 9 (x := "_law_names") rfl F9 (Nat.le_refl _) (Nat.le_succ _) T.g_Lnames T.k_Lnames T.b_Lnames
 have F10 := fn0 P10 T.F_Loperand sc_Loperand c_Loperand (sp := spOperand) (by rintro _ _ _ _ ⟨_, _, _, _, rfl, _⟩; rfl) r_Loperand
 have P11 : Prg P w K mg base ⟨K, [spWays, spWith, spWalked, spNumbered, spLandings, spLinked, spGraphOf, spCell, spMixed, spNames, spOperand, bot, bot, bot, bot, bot, bot, bot, bot, bot, bot], [.int 40]⟩ FN GN BN 11 := P10.add 10 (x := "_law_operand") rfl F10 (Nat.le_refl _) (Nat.le_succ _) T.g_Loperand T.k_Loperand T.b_Loperand
 have F11 := fn0 P11 T.F_Lrow sc_Lrow c_Lrow (sp := spRow) (by rintro _ _ _ _ ⟨_, _, _, _, _, _, rfl, _⟩; rfl) (r_Lrow rfl rfl)
 have P12 : Prg P w K mg base ⟨K, [spWays, spWith, spWalked, spNumbered, spLandings, spLinked, spGraphOf, spCell, spMixed, spNames, spOperand, spRow, bot, bot, bot, bot, bot, bot, bot, bot, bot], [.int 40]⟩ FN GN BN 12 := P11.add 11 (x := "_law_row") rfl F11 (Nat.le_refl _) (Nat.le_succ _) T.g_Lrow T.k_Lrow T.b_Lrow
 have F12 := fn0 P12 T.F_Lrows sc_Lrows c_Lrows (sp := spRows) (by rintro _ _ _ _ ⟨_, _, _, rfl, _⟩; rfl) (r_Lrows rfl rfl rfl)
 have P13 : Prg P w K mg base ⟨K, [spWays, spWith, spWalked, spNumbered, spLandings, spLinked, spGraphOf, spCell, spMixed, spNames, spOperand, spRow, spRows, bot, bot, bot, bot, bot, bot, bot, bot], [.int 40]⟩ FN GN BN 13 := P12.add 12 (x := "_law_rows") rfl F12 (Nat.le_refl _) (Nat.le_succ _) T.g_Lrows T.k_Lrows T.b_Lrows
 have F13_0 := fn0 P13 T.F_Lalike sc_Lalike c_Lalike (sp := (spAlike 0)) (by rintro _ _ _ _ ⟨_, _, rfl, _⟩; rfl) r_Lalike0
 have P14_0 : Prg P w K mg base ⟨K, [spWays, spWith, spWalked, spNumbered, spLandings, spLinked, spGraphOf, spCell, spMixed, spNames, spOperand, spRow, spRows, (spAlike 0), bot, bot, bot, bot, bot, bot, bot], [.int 40]⟩ FN GN BN 14 := P13.add 13 (x := "_law_alike") rfl F13_0 (Nat.le_refl _) (Nat.le_succ _) T.g_Lalike T.k_Lalike T.b_Lalike
 have F13_1 := fn0 P14_0 T.F_Lalike sc_Lalike c_Lalike (sp := (spAlike 1)) (by rintro _ _ _ _ ⟨_, _, rfl, _⟩; rfl) (r_LalikeS rfl)
 have P14_1 : Prg P w K mg base ⟨K, [spWays, spWith, spWalked, spNumbered, spLandings, spLinked, spGraphOf, spCell, spMixed, spNames, spOperand, spRow, spRows, (spAlike 1), bot, bot, bot, bot, bot, bot, bot], [.int 40]⟩ FN GN BN 15 := P14_0.add 13 (x := "_law_alike") rfl F13_1 (Nat.le_refl _) (Nat.le_succ _) T.g_Lalike T.k_Lalike T.b_Lalike
 have F13_2 := fn0 P14_1 T.F_Lalike sc_Lalike c_Lalike (sp := (spAlike 2)) (by rintro _ _ _ _ ⟨_, _, rfl, _⟩; rfl) (r_LalikeS rfl)
 have P14 : Prg P w K mg base ⟨K, [spWays, spWith, spWalked, spNumbered, spLandings, spLinked, spGraphOf, spCell, spMixed, spNames, spOperand, spRow, spRows, (spAlike 2), bot, bot, bot, bot, bot, bot, bot], [.int 40]⟩ FN GN BN 16 := P14_1.add 13 (x := "_law_alike") rfl F13_2 (Nat.le_refl _) (Nat.le_succ _) T.g_Lalike T.k_Lalike T.b_Lalike
 have F14 := fn0 P14 T.F_Lcome sc_Lcome c_Lcome (sp := spCome) (by rintro _ _ _ _ ⟨_, _, _, _, _, rfl, _⟩; rfl) r_Lcome
 have P15 : Prg P w K mg base ⟨K, [spWays, spWith, spWalked, spNumbered, spLandings, spLinked, spGraphOf, spCell, spMixed, spNames, spOperand, spRow, spRows, (spAlike 2), spCome, bot, bot, bot, bot, bot, bot], [.int 40]⟩ FN GN BN 17 := P14.add 14 (x := "_law_come") rfl F14 (Nat.le_refl _) (Nat.le_succ _) T.g_Lcome T.k_Lcome T.b_Lcome
 have F15 := fn0 P15 T.F_Ldue_ways sc_Ldue_ways c_Ldue_ways (sp := spDueWays) (by rintro _ _ _ _ ⟨_, _, _, _, _, rfl, _⟩; rfl) (r_Ldue_ways rfl)
 have P16 : Prg P w K mg base ⟨K, [spWays, spWith, spWalked, spNumbered, spLandings, spLinked, spGraphOf, spCell, spMixed, spNames, spOperand, spRow, spRows, (spAlike 2), spCome, spDueWays, bot, bot, bot, bot, bot], [.int 40]⟩ FN GN BN 18 := P15.add 15 (x := "_law_due_ways") rfl F15 (Nat.le_refl _) (Nat.le_succ _) T.g_Ldue_ways T.k_Ldue_ways T.b_Ldue_ways
 have F16 := fn0 P16 T.F_Ldue_head sc_Ldue_head c_Ldue_head (sp := spDueHead) (by rintro _ _ _ _ ⟨_, rfl, _⟩; rfl) r_Ldue_head
 have P17 : Prg P w K mg base ⟨K, [spWays, spWith, spWalked, spNumbered, spLandings, spLinked, spGraphOf, spCell, spMixed, spNames, spOperand, spRow, spRows, (spAlike 2), spCome, spDueWays, spDueHead, bot, bot, bot, bot], [.int 40]⟩ FN GN BN 19 := P16.add 16 (x := "_law_due_head") rfl F16 (Nat.le_refl _) (Nat.le_succ _) T.g_Ldue_head T.k_Ldue_head T.b_Ldue_head
 have F17 := fn0 P17 T.F_Lgood_ways sc_Lgood_ways c_Lgood_ways (sp := spGood) (by rintro _ _ _ _ ⟨_, _, _, _, _, rfl, _⟩; rfl) (r_Lgood_ways rfl)
 have P18 : Prg P w K mg base ⟨K, [spWays, spWith, spWalked, spNumbered, spLandings, spLinked, spGraphOf, spCell, spMixed, spNames, spOperand, spRow, spRows, (spAlike 2), spCome, spDueWays, spDueHead, spGood, bot, bot, bot], [.int 40]⟩ FN GN BN 20 := P17.add 17 (x := "_law_good_ways") rfl F17 (Nat.le_refl _) (Nat.le_succ _) T.g_Lgood_ways T.k_Lgood_ways T.b_Lgood_ways
 have F18 := fn0 P18 T.F_Lside_by_side sc_Lside_by_side c_Lside_by_side (sp := spSide) (by rintro _ _ _ _ ⟨_, _, _, _, _, rfl, _⟩; rfl) (r_Lside rfl rfl rfl rfl)
 have P19 : Prg P w K mg base ⟨K, [spWays, spWith, spWalked, spNumbered, spLandings, spLinked, spGraphOf, spCell, spMixed, spNames, spOperand, spRow, spRows, (spAlike 2), spCome, spDueWays, spDueHead, spGood, spSide, bot, bot], [.int 40]⟩ FN GN BN 21 := P18.add 18 (x := "_law_side_by_side") rfl F18 (Nat.le_refl _) (Nat.le_succ _) T.g_Lside_by_side T.k_Lside_by_side T.b_Lside_by_side
 have F19 := fn0 P19 T.F_Lring sc_Lring c_Lring (sp := spRing) (by rintro _ _ _ _ ⟨_, _, rfl, _⟩; rfl) r_Lring
 have P20 : Prg P w K mg base ⟨K, [spWays, spWith, spWalked, spNumbered, spLandings, spLinked, spGraphOf, spCell, spMixed, spNames, spOperand, spRow, spRows, (spAlike 2), spCome, spDueWays, spDueHead, spGood, spSide, spRing, bot], [.int 40]⟩ FN GN BN 22 := P19.add 19 (x := "_law_ring") rfl F19 (Nat.le_refl _) (Nat.le_succ _) T.g_Lring T.k_Lring T.b_Lring
 have F20 := fn0 P20 T.F_law sc_law c_law (sp := spLaw) (by rintro _ _ _ _ ⟨_, rfl, _⟩; rfl) (r_law rfl rfl rfl rfl rfl rfl)
 exact F20
theorem all_fin {l : PySem.W.OpenLaw} {w : World} {fa f : Addr} {K : PySem.W.Frag} {mg : Str → Option Value} (hfa : mg "law" = some (.ref fa)) (h : ∃ t : Adr, Tx K mg t ∧ t.a_law = f ∧ ∀ (s : Shared) (v : Value), BindsTo s t.d_law ⟨[v], []⟩ [("_law_script", v)])
  : ∃ fd : FuncData, (∀ (s : Shared) (v : Value), BindsTo s fd ⟨[v], []⟩ [("_law_script", v)]) ∧ ∀ base : Heap, K.In base → base.Ns mainGlobals mg → FnOk l.prog w K mg base (CX1 l.prog w) 23 fa fd ["_law_script"] (spF K spLaw) := by
 obtain ⟨t, T, e, hb⟩ := h
 have e2 := hfa.symm.trans T.g_law
 cases e2
 exact ⟨t.d_law, hb, fun base _ _ => ok_all T⟩
end K12
namespace Hand
open PySem PySem.Spec PyProof.Rows L2 L3 U K12
noncomputable def kf (n : Str) (i : Nat) (dV kV dc pm : Value) (an : Option Addr) (cd ct : Value) : Obj := ⟨.type "function", none, .func (PySem.W.fnOf n n (defArgs (top i)) (defBody (top i)) (defScope (top i)) dV kV dc pm an cd ct), #[]⟩
noncomputable def kg (n : Str) (i : Nat) (m : Str) (t c : Nat) : Obj := kf n i .none .none .none (.str m t) none (.ref c) .none
noncomputable def kc (n : Str) (t : Nat) (l a : Int) (r : Nat) (x y : Int) (z : Nat) : Obj := ⟨.type "code", none, .fields #[.str n t, .str n (t + 1), .str "/claim/cut.py" (t + 2), .int l 0, .int a 0, .int 0 0, .int 0 0, .int 3 0, .ref r, .bool true, .int x 0, .ref (r + 1), .none, .ref (r + 2), .ref (r + 3), .ref (r + 4), .int y 0, .int l 0, .str "/claim/cut.py" z], #[]⟩
noncomputable def ke (P : Params) (x : Str) (t : Nat) (v : Value) : DictEntry := ⟨PyData.keyHash P x, .str x t, v⟩
abbrev kd : Value := .type "dict"
abbrev kR (a : Nat) : Value := .ref a
abbrev kS (x : Str) (t : Nat) : Value := .str x t
noncomputable def KH (P : Params) : PySem.W.Frag := (nat_lit 2, ⟨.none, none, .dict #[] 0, #[]⟩) :: (nat_lit 3, ⟨kd, none, .dict #[ke P "__name__" 165 (kS "law_unjump_k12_graph_by_rows" 300), ke P "__doc__" 166 .none, ke P "__package__" 167 .none, ke P "__loader__" 168 (.builtin "__main__.__loader__#opaque"), ke P "__spec__" 169 .none, ke P "__annotations__" 170 (kR 6), ke P "__builtins__" 171 (kR 4), ke P "__file__" 173 (kS "/claim/cut.py" 172), ke P "__cached__" 174 .none, ke P "JumpError" 215 (kR 32), ke P "TooGreat" 231 (kR 45), ke P "ways" 240 (kR 54), ke P "with_ways" 248 (kR 61), ke P "walked" 263 (kR 68), ke P "numbered" 269 (kR 73), ke P "MOST_NODES" 273 (.int 40 272), ke P "graph_of" 279 (kR 78), ke P "linked" 285 (kR 83), ke P "landings" 299 (kR 90), ke P "_law_cell" 309 (kR 97), ke P "_law_mixed" 318 (kR 104), ke P "_law_names" 326 (kR 111), ke P "_law_operand" 335 (kR 118), ke P "_law_row" 350 (kR 125), ke P "_law_rows" 356 (kR 130), ke P "_law_alike" 365 (kR 137), ke P "_law_come" 375 (kR 144), ke P "_law_due_ways" 385 (kR 151), ke P "_law_due_head" 392 (kR 158), ke P "_law_good_ways" 403 (kR 165), ke P "_law_side_by_side" 409 (kR 170), ke P "_law_ring" 422 (kR 177), ke P "law" 434 (kR 184)] 33, #[]⟩) :: (nat_lit 22, ⟨(.type "tuple"), none, .seq #[.none] 0, #[]⟩) :: (nat_lit 28, ⟨(.type "code"), none, .fields #[(.str "__init__" 201), (.str "JumpError.__init__" 202), (.str "/claim/cut.py" 203), (.int 4 0), (.int 2 0), (.int 0 0), (.int 0 0), (.int 3 0), (.ref 23), (.bool true), (.int 181 0), (.ref 24), .none, (.ref 25), (.ref 26), (.ref 27), (.int 206 0), (.int 4 0), (.str "/claim/cut.py" 207)], #[]⟩) :: (nat_lit 29, { cls := Value.type "function", data := Data.func { name := Str.ofString "__init__", qualname := Str.ofString "JumpError.__init__", params := { posonlyargs := [], args := [{ arg := Str.ofString "self", annotation := none, pos := { line := 4, col := 17, endLine := 4, endCol := 21 } }, { arg := Str.ofString "row", annotation := none, pos := { line := 4, col := 23, endLine := 4, endCol := 26 } }], vararg := none, kwonlyargs := [], kw_defaults := [], kwarg := none, defaults := [Expr.Constant Const.none 0 { line := 4, col := 27, endLine := 4, endCol := 31 }] }, body := FuncBody.stmts [Stmt.Assign [(Expr.Name (Str.ofString "self") { line := 5, col := 8, endLine := 5, endCol := 12 }).Attribute (Str.ofString "row") { line := 5, col := 8, endLine := 5, endCol := 16 }] (Expr.Name (Str.ofString "row") { line := 5, col := 19, endLine := 5, endCol := 22 }) { line := 5, col := 8, endLine := 5, endCol := 22 }], scope := { kind := ScopeKind.function, names := [(Str.ofString "self", NameKind.local), (Str.ofString "row", NameKind.local)], isGenerator := false, isCoroutine := false }, globals := 3, closure := [], defaults := Value.ref 22, kwdefaults := Value.none, pyModule := Value.str (Str.ofString "unjump.errors") 187, code := Value.ref 28 } }) :: (nat_lit 31, ⟨kd, none, .dict #[ke P "__module__" 196 (kS "unjump.errors" 187), ke P "__firstlineno__" 200 (.int 2 199), ke P "__init__" 208 (kR 29), ke P "__static_attributes__" 210 (kR 30), ke P "__weakref__" 212 (kR 33), ke P "__doc__" 213 .none] 3, #[]⟩) :: (nat_lit 32, { cls := Value.type "type", data := Data.cls { name := Str.ofString "JumpError", bases := [Value.type "ValueError"], mro := [Value.ref 32, Value.type "ValueError", Value.type "Exception", Value.type "BaseException", Value.type "object"], ns := 31, qualname := Str.ofString "JumpError", subclasses := [Value.ref 45] }, slots := #[some (Value.ref 15), none, some (Value.str (Str.ofString "JumpError") 189), some (Value.str (Str.ofString "JumpError") 197), some (Value.builtin "ValueError.__new__"), some (Value.bool true)] }) :: (nat_lit 44, ⟨kd, none, .dict #[ke P "__module__" 223 (kS "unjump.errors" 187), ke P "__firstlineno__" 227 (.int 6 226), ke P "__static_attributes__" 228 (kR 43), ke P "__doc__" 229 .none] 2, #[]⟩) :: (nat_lit 45, { cls := Value.type "type", data := Data.cls { name := Str.ofString "TooGreat", bases := [Value.ref 32], mro := [Value.ref 45, Value.ref 32, Value.type "ValueError", Value.type "Exception", Value.type "BaseException", Value.type "object"], ns := 44, qualname := Str.ofString "TooGreat" }, slots := #[some (Value.ref 36), none, some (Value.str (Str.ofString "TooGreat") 216), some (Value.str (Str.ofString "TooGreat") 224), some (Value.builtin "ValueError.__new__"), some (Value.bool true)] }) :: (nat_lit 53, kc "ways" 234 9 1 48 181 238 239) :: (nat_lit 54, kg "ways" 4 "unjump.nodes" 232 53) :: (nat_lit 60, kc "with_ways" 241 15 2 55 181 246 247) :: (nat_lit 61, kg "with_ways" 5 "unjump.nodes" 232 60) :: (nat_lit 67, kc "walked" 249 21 2 62 181 261 262) :: (nat_lit 68, kg "walked" 6 "unjump.nodes" 232 67) :: (nat_lit 72, ⟨(.type "code"), none, .fields #[(.str "numbered" 264), (.str "numbered" 265), (.str "/claim/cut.py" 266), (.int 41 0), (.int 2 0), (.int 0 0), (.int 0 0), (.int 3 0), (.ref 69), (.bool true), (.int 181 0), (.ref 70), .none, .none, .none, (.ref 71), (.int 267 0), (.int 41 0), (.str "/claim/cut.py" 268)], #[]⟩) :: (nat_lit 73, kg "numbered" 7 "unjump.nodes" 232 72) :: (nat_lit 77, ⟨(.type "code"), none, .fields #[(.str "graph_of" 274), (.str "graph_of" 275), (.str "/claim/cut.py" 276), (.int 46 0), (.int 1 0), (.int 0 0), (.int 0 0), (.int 3 0), (.ref 74), (.bool true), (.int 181 0), (.ref 75), .none, .none, .none, (.ref 76), (.int 277 0), (.int 46 0), (.str "/claim/cut.py" 278)], #[]⟩) :: (nat_lit 78, kg "graph_of" 10 "unjump.graphs" 270 77) :: (nat_lit 82, ⟨(.type "code"), none, .fields #[(.str "linked" 280), (.str "linked" 281), (.str "/claim/cut.py" 282), (.int 52 0), (.int 1 0), (.int 0 0), (.int 0 0), (.int 3 0), (.ref 79), (.bool true), (.int 181 0), (.ref 80), .none, .none, .none, (.ref 81), (.int 283 0), (.int 52 0), (.str "/claim/cut.py" 284)], #[]⟩) :: (nat_lit 83, kg "linked" 11 "unjump.graphs" 270 82) :: (nat_lit 89, kc "landings" 286 66 2 84 181 297 298) :: (nat_lit 90, kg "landings" 12 "unjump.graphs" 270 89) :: (nat_lit 96, kc "_law_cell" 302 80 2 91 181 307 308) :: (nat_lit 97, kg "_law_cell" 14 "law_unjump_k12_graph_by_rows" 300 96) :: (nat_lit 103, kc "_law_mixed" 310 84 2 98 181 316 317) :: (nat_lit 104, kg "_law_mixed" 15 "law_unjump_k12_graph_by_rows" 300 103) :: (nat_lit 110, kc "_law_names" 319 87 1 105 181 324 325) :: (nat_lit 111, kg "_law_names" 16 "law_unjump_k12_graph_by_rows" 300 110) :: (nat_lit 117, kc "_law_operand" 327 91 3 112 181 333 334) :: (nat_lit 118, kg "_law_operand" 17 "law_unjump_k12_graph_by_rows" 300 117) :: (nat_lit 124, kc "_law_row" 336 97 4 119 181 348 349) :: (nat_lit 125, kg "_law_row" 18 "law_unjump_k12_graph_by_rows" 300 124) :: (nat_lit 129, ⟨(.type "code"), none, .fields #[(.str "_law_rows" 351), (.str "_law_rows" 352), (.str "/claim/cut.py" 353), (.int 110 0), (.int 2 0), (.int 0 0), (.int 0 0), (.int 3 0), (.ref 126), (.bool true), (.int 181 0), (.ref 127), .none, .none, .none, (.ref 128), (.int 354 0), (.int 110 0), (.str "/claim/cut.py" 355)], #[]⟩) :: (nat_lit 130, kg "_law_rows" 19 "law_unjump_k12_graph_by_rows" 300 129) :: (nat_lit 136, kc "_law_alike" 357 121 2 131 181 363 364) :: (nat_lit 137, kg "_law_alike" 20 "law_unjump_k12_graph_by_rows" 300 136) :: (nat_lit 143, kc "_law_come" 366 141 3 138 181 373 374) :: (nat_lit 144, kg "_law_come" 21 "law_unjump_k12_graph_by_rows" 300 143) :: (nat_lit 150, kc "_law_due_ways" 376 149 3 145 181 383 384) :: (nat_lit 151, kg "_law_due_ways" 22 "law_unjump_k12_graph_by_rows" 300 150) :: (nat_lit 157, kc "_law_due_head" 386 156 1 152 181 390 391) :: (nat_lit 158, kg "_law_due_head" 23 "law_unjump_k12_graph_by_rows" 300 157) :: (nat_lit 164, kc "_law_good_ways" 393 164 4 159 181 401 402) :: (nat_lit 165, kg "_law_good_ways" 24 "law_unjump_k12_graph_by_rows" 300 164) :: (nat_lit 169, ⟨(.type "code"), none, .fields #[(.str "_law_side_by_side" 404), (.str "_law_side_by_side" 405), (.str "/claim/cut.py" 406), (.int 173 0), (.int 2 0), (.int 0 0), (.int 0 0), (.int 3 0), (.ref 166), (.bool true), (.int 181 0), (.ref 167), .none, .none, .none, (.ref 168), (.int 407 0), (.int 173 0), (.str "/claim/cut.py" 408)], #[]⟩) :: (nat_lit 170, kg "_law_side_by_side" 25 "law_unjump_k12_graph_by_rows" 300 169) :: (nat_lit 176, kc "_law_ring" 410 190 2 171 181 420 421) :: (nat_lit 177, kg "_law_ring" 26 "law_unjump_k12_graph_by_rows" 300 176) :: (nat_lit 183, kc "law" 423 200 1 178 181 432 433) :: (nat_lit 184, kg "law" 27 "law_unjump_k12_graph_by_rows" 300 183) :: []
noncomputable def qH : Program := { PySem.Challenge.pw_unjump_k12_graph_by_rows with main := { PySem.Challenge.pw_unjump_k12_graph_by_rows.main with body := [top 27] } }
noncomputable def lH : List Str := "JumpError" :: "TooGreat" :: "ways" :: "with_ways" :: "walked" :: "numbered" :: "MOST_NODES" :: "graph_of" :: "linked" :: "landings" :: "_law_cell" :: "_law_mixed" :: "_law_names" :: "_law_operand" :: "_law_row" :: "_law_rows" :: "_law_alike" :: "_law_come" :: "_law_due_ways" :: "_law_due_head" :: "_law_good_ways" :: "_law_side_by_side" :: "_law_ring" :: []
noncomputable def aH : List Addr := 2 :: 3 :: 22 :: 28 :: 29 :: 31 :: 32 :: 44 :: 45 :: 53 :: 54 :: 60 :: 61 :: 67 :: 68 :: 72 :: 73 :: 77 :: 78 :: 82 :: 83 :: 89 :: 90 :: 96 :: 97 :: 103 :: 104 :: 110 :: 111 :: 117 :: 118 :: 124 :: 125 :: 129 :: 130 :: 136 :: 137 :: 143 :: 144 :: 150 :: 151 :: 157 :: 158 :: 164 :: 165 :: 169 :: 170 :: 176 :: 177 :: 183 :: 184 :: []
theorem eH (P : Params) : aH = (KH P).map (·.1) := by kernel_rfl
set_option maxHeartbeats 0 in
theorem hlH : PySem.W.LeftO PySem.Challenge.pw_unjump_k12_graph_by_rows qH lH (fun s => PySem.W.xlAt qH [] s && PySem.W.recOk [] s) (PySem.W.Hook.obs (PySem.W.kHook KH aH eH)) (PySem.W.Hook.val (PySem.W.kHook KH aH eH)) 2374 := by intro w; kernel_rfl
end Hand
open PySem PySem.W PyProof.Rows
set_option maxRecDepth 100000 in
set_option maxHeartbeats 0 in
theorem PySem.Challenge.cw_unjump_k12_graph_by_rows_holds : PySem.Challenge.rw_unjump_k12_graph_by_rows.Holds := by
 w_on; o_law; refine holds_open (q := Hand.qH) (loose := Hand.lH) (Xt := fun s => xlAt Hand.qH [] s && recOk [] s) (XP := XL Hand.qH []) (Yf := Hook.obs (kHook Hand.KH Hand.aH Hand.eH)) (Ya := Hook.val (kHook Hand.KH Hand.aH Hand.eH)) (YP := Hook.says (kHook Hand.KH Hand.aH Hand.eH)) (N := 2374) Hand.hlH (Hook.of _) (Hook.keeps _) (fun s e => xl_of s (Bool.and_eq_true_iff.mp e).1) XL.keeps (by rfl) (by rfl) (by rfl) (fun s e => recFacts_of (Bool.and_eq_true_iff.mp e).2) (by rfl) (by first | assumption | decide +kernel) (by decide +kernel) ⟨rfl, rfl, rfl, rfl, rfl, by decide +kernel⟩ ?hw ?hc; (case hw => w_witness2)
 k_fill
 refine U.law_walk (l := PySem.Challenge.rw_unjump_k12_graph_by_rows) (k := 23) (x := "_law_script") rfl rfl ⟨rfl, by decide, by decide⟩ (fun w h Y => PySem.W.kIn_of Y) ?F
 case F =>
  intro w mg fa h KX G hmg
  refine' K12.all_fin hmg (K12.tx_mk KX G ?a0 ?l0 ?c0 ?k0 ?a1 ?l1 ?c1 ?k1 ?a2 ?l2 ?c2 ?k2 ?a3 ?l3 ?c3 ?k3 ?a4 ?l4 ?c4 ?k4 ?a5 ?l5 ?c5 ?k5 ?a6 ?l6 ?c6 ?k6 ?a7 ?l7 ?c7 ?k7 ?a8 ?l8 ?c8 ?k8 ?a9 ?l9 ?c9 ?k9 ?a10 ?l10 ?c10 ?k10 ?a11 ?l11 ?c11 ?k11 ?a12 ?l12 ?c12 ?k12 ?a13 ?l13 ?c13 ?k13 ?a14 ?l14 ?c14 ?k14 ?a15 ?l15 ?c15 ?k15 ?a16 ?l16 ?c16 ?k16 ?a17 ?l17 ?c17 ?k17 ?a18 ?l18 ?c18 ?k18 ?a19 ?l19 ?c19 ?k19 ?a20 ?l20 ?c20 ?k20 ?z0 ?z1 ?z2 ?z3 ?z4 ?z5 ?z6 ?z7 ?z8 ?z9 ?z10 ?z11 ?z12 ?q0)
  (case a0 => k_is); (case l0 => k_is); (case c0 => k_is); (case k0 => k_is)
  (case a1 => k_is); (case l1 => k_is); (case c1 => k_is); (case k1 => k_is)
  (case a2 => k_is); (case l2 => k_is); (case c2 => k_is); (case k2 => k_is)
  (case a3 => k_is); (case l3 => k_is); (case c3 => k_is); (case k3 => k_is)
  (case a4 => k_is); (case l4 => k_is); (case c4 => k_is); (case k4 => k_is)
  (case a5 => k_is); (case l5 => k_is); (case c5 => k_is); (case k5 => k_is)
  (case a6 => k_is); (case l6 => k_is); (case c6 => k_is); (case k6 => k_is)
  (case a7 => k_is); (case l7 => k_is); (case c7 => k_is); (case k7 => k_is)
  (case a8 => k_is); (case l8 => k_is); (case c8 => k_is); (case k8 => k_is)
  (case a9 => k_is); (case l9 => k_is); (case c9 => k_is); (case k9 => k_is)
  (case a10 => k_is); (case l10 => k_is); (case c10 => k_is); (case k10 => k_is)
  (case a11 => k_is); (case l11 => k_is); (case c11 => k_is); (case k11 => k_is)
  (case a12 => k_is); (case l12 => k_is); (case c12 => k_is); (case k12 => k_is)
  (case a13 => k_is); (case l13 => k_is); (case c13 => k_is); (case k13 => k_is)
  (case a14 => k_is); (case l14 => k_is); (case c14 => k_is); (case k14 => k_is)
  (case a15 => k_is); (case l15 => k_is); (case c15 => k_is); (case k15 => k_is)
  (case a16 => k_is); (case l16 => k_is); (case c16 => k_is); (case k16 => k_is)
  (case a17 => k_is); (case l17 => k_is); (case c17 => k_is); (case k17 => k_is)
  (case a18 => k_is); (case l18 => k_is); (case c18 => k_is); (case k18 => k_is)
  (case a19 => k_is); (case l19 => k_is); (case c19 => k_is); (case k19 => k_is)
  (case a20 => k_is); (case l20 => k_is); (case c20 => k_is); (case k20 => k_is)
  (case z0 => k_is); (case z1 => k_is); (case z2 => k_is); (case z3 => k_is); (case z4 => k_is); (case z5 => k_is); (case z6 => k_is); (case z7 => k_is); (case z8 => k_is); (case z9 => k_is); (case z10 => k_is); (case z11 => k_is); (case z12 => k_is)
  (case q0 => k_is)
