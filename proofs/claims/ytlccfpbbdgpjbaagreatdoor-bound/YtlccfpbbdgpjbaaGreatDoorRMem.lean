import Derived.Test.YtlccfpbbdgpjbaaGreatDoorRows
import Derived.WalkKit
import Derived.WalkSpells
import Derived.WalkLawsBesides
import Derived.LaidEql
import Derived.OwnWalk
import Derived.Deep.RegionHeld3
import Derived.Deep.DrawnRows
import Derived.Deep.MidRow
import Derived.Deep.AppendLies
import Derived.Deep.QuietTactic
import Derived.BigQuiet
namespace Go.Proofs.YtlccfpbbdgpjbaaGreatDoor
open Go.RowKit

theorem hide {p : Prop} (h : p) : Hid p := h

/-- A list of the call's own, in memory: the value v, its entries' cells by enc, each of 'size' cells. -/
def Row {α : Type} (w : World) (b : Nat) (e size : Nat) (enc : α → List Value) (v : Value) (xs : List α) : Prop :=
  w.ownsRow b e size v xs.length (xs.flatMap enc)

theorem flat_get {α β : Type} (enc : α → List β) (m : Nat) (hm : ∀ x, (enc x).length = m) : ∀ (l : List α) (i j : Nat) (h : i < l.length), j < m → (l.flatMap enc)[i * m + j]? = (enc l[i])[j]? := by
  intro l
  induction l with
  | nil => intro i j h _; simp at h
  | cons a r ih =>
    intro i j h hj
    rw [List.flatMap_cons]
    cases i with
    | zero =>
      rw [Nat.zero_mul, Nat.zero_add, List.getElem?_append_left (by rw [hm]; exact hj)]
      rfl
    | succ i =>
      rw [List.getElem?_append_right (by rw [hm, Nat.succ_mul]; omega), hm]
      rw [show (i + 1) * m + j - m = i * m + j by rw [Nat.succ_mul]; omega]
      exact ih i j (by simpa using h) hj

theorem flat_len {α β : Type} (enc : α → List β) (m : Nat) (hm : ∀ x, (enc x).length = m) (l : List α) : (l.flatMap enc).length = l.length * m := by
  induction l with
  | nil => simp
  | cons a r ih => rw [List.flatMap_cons, List.length_append, hm, ih, List.length_cons, Nat.succ_mul]; omega

section
variable {α : Type} {w w' : World} {b e size : Nat} {enc : α → List Value} {v : Value} {xs : List α}

theorem Row.kept {row : Option Nat} (h : Row w b e size enc v xs) (hg : w.grownBy w' row) (hne : v.ownBlock = none ∨ v.ownBlock ≠ row) : Row w' b e size enc v xs :=
  World.ownsRow.kept h hg hne
theorem Row.below (h : Row w b e size enc v xs) (hb : Below w.heap.size w w') : Row w' b e size enc v xs :=
  World.ownsRow.kept (row := none) h ⟨hb.os, hb.tape, hb.output, hb.size, fun k hk _ => hb.block k hk⟩ (by cases v.ownBlock <;> simp)
theorem Row.lt (h : Row w b e size enc v xs) : ∀ k, v.ownBlock = some k → b ≤ k ∧ k < w.heap.size := World.ownsRow.lt h

/-- The row is one of the blocks that have stayed. -/
theorem Row.same (h : Row w b e size enc v xs) (hs : ∀ k, v.ownBlock = some k → w'.heap[k]? = w.heap[k]?) : Row w' b e size enc v xs := by
  refine ⟨h.1, ?_⟩
  rcases h.2 with hn | ⟨g, cap, cur, rfl, hb, hgg, rest⟩
  · exact .inl hn
  · exact .inr ⟨g, cap, cur, rfl, hb, (hs g rfl).trans hgg, rest⟩

theorem Row.base {b' : Nat} (h : Row w b e size enc v xs) (hb : b' ≤ b) : Row w b' e size enc v xs := by
  refine ⟨h.1, ?_⟩
  rcases h.2 with hn | ⟨g, cap, cur, rfl, hb', rest⟩
  · exact .inl hn
  · exact .inr ⟨g, cap, cur, rfl, Nat.le_trans hb hb', rest⟩

/-- What the value looks like. -/
theorem Row.form (h : Row w b e size enc v xs) : ∃ A cap, v = .slice A xs.length cap ∧ xs.length ≤ maxLen ∧
    (∀ i, i < xs.length → ∃ g, A = some ⟨g, 0, none⟩) ∧ ∀ g, A = some ⟨g, 0, none⟩ → b ≤ g ∧ g < w.heap.size ∧ v.ownBlock = some g ∧
      ∀ j u, (xs.flatMap enc)[j]? = some u → w.cell? ⟨g, j, none⟩ = some u ∧ w.frozen? ⟨g, j, none⟩ = false := by
  rcases h.2 with ⟨rfl, h0⟩ | ⟨g, cap, cur, rfl, hb, hgg, hnc, hcm, hcs, htake⟩
  · exact ⟨none, 0, by rw [h0], by rw [h0]; simp [maxLen], fun i hi => by omega, fun g hg => by cases hg⟩
  · refine ⟨some ⟨g, 0, none⟩, cap, rfl, by omega, fun _ _ => ⟨g, rfl⟩, ?_⟩
    intro g' hg'
    have : g = g' := by simpa using hg'
    subst this
    refine ⟨hb, (Array.getElem?_eq_some_iff.1 hgg).1, rfl, fun j u hu => ⟨?_, ?_⟩⟩
    · rw [cell_of_row w g j cur e (0, 0) hgg]
      rw [← htake, List.getElem?_take] at hu
      split at hu
      · simpa using hu
      · cases hu
    · simp [World.frozen?, hgg]

/-- A cell of an entry. -/
theorem Row.cell (h : Row w b e size enc v xs) (hm : ∀ x, (enc x).length = size) {g i j : Nat} {u : Value} (hg : v.ownBlock = some g) (hi : i < xs.length) (hu : (enc xs[i])[j]? = some u) :
    w.cell? ⟨g, i * size + j, none⟩ = some u ∧ w.frozen? ⟨g, i * size + j, none⟩ = false := by
  obtain ⟨A, cap, rfl, _, h1, h2⟩ := h.form
  obtain ⟨g', rfl⟩ := h1 i hi
  have : g' = g := by simpa [Value.ownBlock] using hg
  subst this
  have hj : j < size := by rw [← hm xs[i]]; exact (List.getElem?_eq_some_iff.1 hu).1
  exact (h2 g' rfl).2.2.2 (i * size + j) u (by rw [flat_get enc size hm xs i j hi hj]; exact hu)

theorem Row.nil (w : World) (b e size : Nat) (enc : α → List Value) : Row w b e size enc (.slice none 0 0) ([] : List α) := World.ownsRow_nil w b e size
end

/-- In w' all is as in w, but for the cells J of the block p and the rows R. -/
structure Fr (p : Nat) (J R : List Nat) (w w' : World) : Prop where
  os : w'.os = w.os
  tape : w'.tape = w.tape
  output : w'.output = w.output
  size : w.heap.size ≤ w'.heap.size
  block : ∀ k, k < w.heap.size → k ≠ p → k ∉ R → w'.heap[k]? = w.heap[k]?
  cell : ∀ j, j ∉ J → w'.cell? ⟨p, j, none⟩ = w.cell? ⟨p, j, none⟩
  frozen : ∀ j, w'.frozen? ⟨p, j, none⟩ = w.frozen? ⟨p, j, none⟩

theorem Fr.refl (p : Nat) (J R : List Nat) (w : World) : Fr p J R w w := ⟨rfl, rfl, rfl, Nat.le_refl _, fun _ _ _ _ => rfl, fun _ _ => rfl, fun _ => rfl⟩

theorem Fr.of_below {p : Nat} {J R : List Nat} {w w' : World} (hp : p < w.heap.size) (h : Below w.heap.size w w') : Fr p J R w w' :=
  ⟨h.os, h.tape, h.output, h.size, fun k hk _ _ => h.block k hk, fun _ _ => h.cell hp, fun _ => h.frozen hp⟩

theorem Fr.trans {p : Nat} {J J' J'' R R' : List Nat} {w w1 w2 : World} (h : Fr p J R w w1) (k : Fr p J' R' w1 w2) (hJ : ∀ j, j ∉ J'' → j ∉ J ∧ j ∉ J') (hR : ∀ r ∈ R', r ∈ R ∨ w.heap.size ≤ r) : Fr p J'' R w w2 :=
  ⟨k.os.trans h.os, k.tape.trans h.tape, k.output.trans h.output, Nat.le_trans h.size k.size,
    fun b hb hp hn => (k.block b (Nat.lt_of_lt_of_le hb h.size) hp (fun hr => (hR b hr).elim hn (fun h' => absurd hb (Nat.not_lt.2 h')))).trans (h.block b hb hp hn),
    fun j hj => (k.cell j (hJ j hj).2).trans (h.cell j (hJ j hj).1), fun j => (k.frozen j).trans (h.frozen j)⟩

/-- A store into one cell of the block. -/
theorem Fr.store {p j : Nat} {w : World} (v : Value) : Fr p [j] [] w (w.setCell ⟨p, j, none⟩ v) :=
  ⟨rfl, rfl, rfl, by simp, fun k _ hk _ => Below.heap_setCell w _ v k hk,
    fun i hi => World.cell?_setCell_other _ _ _ _ (by simp; intro e; exact hi (by simp [e])), fun i => by simp⟩

theorem Fr.row {α : Type} {p : Nat} {J R : List Nat} {w w' : World} {b e size : Nat} {enc : α → List Value} {v : Value} {xs : List α} (h : Fr p J R w w') (r : Row w b e size enc v xs) (hv : ∀ k, v.ownBlock = some k → k ≠ p ∧ k ∉ R) : Row w' b e size enc v xs :=
  r.same fun k hk => h.block k (r.lt k hk).2 (hv k hk).1 (hv k hk).2

/-- An append to a row of the call's own: an entry more, laid into a block of its own first. -/
theorem Row.push {α : Type} {w w1 : World} {b e size : Nat} {enc : α → List Value} {v : Value} {xs : List α} {x : α} {g cap : Nat}
    (_ : Row w b e size enc v xs) (hown : w1.ownsRow b e size (.slice (some ⟨g, 0, none⟩) (xs.length + 1) cap) (xs.length + 1) (xs.flatMap enc ++ enc x)) :
    Row w1 b e size enc (.slice (some ⟨g, 0, none⟩) (xs.length + 1) cap) (xs ++ [x]) := by
  unfold Row
  rw [List.flatMap_append, List.length_append]
  simpa using hown

/-- 'x.f = append(x.f, y)': what the append and the store leave. -/
theorem push_post {α : Type} {p j : Nat} {w wa w1 : World} {e size : Nat} {enc : α → List Value} {v : Value} {xs : List α} {x : α} {g cap : Nat} (hp : p < w.heap.size) (hr : Row w 0 e size enc v xs) (ha : Below w.heap.size w wa)
    (hown : w1.ownsRow 0 e size (.slice (some ⟨g, 0, none⟩) (xs.length + 1) cap) (xs.length + 1) (xs.flatMap enc ++ enc x)) (hgrow : wa.grownBy w1 v.ownBlock) (hv : v.ownBlock ≠ some p) (hat : v.ownBlock = some g ∨ w.heap.size ≤ g) (hc : w1.cell? ⟨p, j, none⟩ = some v) :
    ∃ v', (w1.setCell ⟨p, j, none⟩ (.slice (some ⟨g, 0, none⟩) (xs.length + 1) cap)).cell? ⟨p, j, none⟩ = some v' ∧ Row (w1.setCell ⟨p, j, none⟩ (.slice (some ⟨g, 0, none⟩) (xs.length + 1) cap)) 0 e size enc v' (xs ++ [x]) ∧
      (v'.ownBlock = v.ownBlock ∨ ∃ g, v'.ownBlock = some g ∧ w.heap.size ≤ g) ∧ Fr p [j] v.ownBlock.toList w (w1.setCell ⟨p, j, none⟩ (.slice (some ⟨g, 0, none⟩) (xs.length + 1) cap)) := by
  have hgp : g ≠ p := by
    rcases hat with h | h
    · intro e'
      exact hv (e' ▸ h)
    · omega
  have hpa : p < wa.heap.size := Nat.lt_of_lt_of_le hp ha.size
  have hpr : some p ≠ v.ownBlock := Ne.symm hv
  refine ⟨_, World.cell?_setCell_same _ _ _ hc, (hr.push hown).same ?_, ?_, ?_⟩
  · intro k hk
    have : g = k := by simpa [Value.ownBlock] using hk
    subst this
    exact Below.heap_setCell _ _ _ _ hgp
  · rcases hat with h | h
    · exact .inl h.symm
    · exact .inr ⟨g, rfl, h⟩
  · refine ⟨(hgrow.os).trans ha.os, hgrow.tape.trans ha.tape, hgrow.output.trans ha.output, ?_, ?_, ?_, ?_⟩
    · simpa using Nat.le_trans ha.size hgrow.size
    · intro k hk hkp hkr
      rw [Below.heap_setCell _ _ _ _ hkp, hgrow.block k (Nat.lt_of_lt_of_le hk ha.size) (fun e' => hkr (by rw [← e']; simp))]
      exact ha.block k hk
    · intro i hi
      rw [World.cell?_setCell_other _ _ _ _ (by simp; intro e'; exact hi (by simp [e'])), hgrow.cell_far ⟨p, i, none⟩ hpa hpr]
      exact ha.cell (p := ⟨p, i, none⟩) hp
    · intro i
      have h1 : (w1.setCell ⟨p, j, none⟩ (.slice (some ⟨g, 0, none⟩) (xs.length + 1) cap)).frozen? ⟨p, i, none⟩ = w1.frozen? ⟨p, i, none⟩ := by simp
      rw [h1, hgrow.frozen_far ⟨p, i, none⟩ hpa hpr]
      exact ha.frozen (p := ⟨p, i, none⟩) hp

/-- A list that the call builds for itself: one entry more. -/
theorem push_new {α : Type} {w wr wa w1 : World} {e size : Nat} {enc : α → List Value} {v : Value} {xs : List α} {x : α} {g cap : Nat} (hb : Below w.heap.size w wr) (hr : Row wr w.heap.size e size enc v xs) (ha : Below wr.heap.size wr wa)
    (hown : w1.ownsRow w.heap.size e size (.slice (some ⟨g, 0, none⟩) (xs.length + 1) cap) (xs.length + 1) (xs.flatMap enc ++ enc x)) (hgrow : wa.grownBy w1 v.ownBlock) :
    Below w.heap.size w w1 ∧ Row w1 w.heap.size e size enc (.slice (some ⟨g, 0, none⟩) (xs.length + 1) cap) (xs ++ [x]) :=
  ⟨(hb.trans (ha.mono hb.size)).grown hgrow (Nat.le_trans hb.size ha.size) (fun k hk => (hr.lt k hk).1), hr.push hown⟩

/-- .. and stored into a field at the end. -/
theorem store_new {α : Type} {p j : Nat} {w wr : World} {e size : Nat} {enc : α → List Value} {v old : Value} {xs : List α} (hp : p < w.heap.size) (hb : Below w.heap.size w wr) (hr : Row wr w.heap.size e size enc v xs) (hc : wr.cell? ⟨p, j, none⟩ = some old) :
    ∃ v', (wr.setCell ⟨p, j, none⟩ v).cell? ⟨p, j, none⟩ = some v' ∧ Row (wr.setCell ⟨p, j, none⟩ v) w.heap.size e size enc v' xs ∧ Fr p [j] [] w (wr.setCell ⟨p, j, none⟩ v) := by
  refine ⟨v, World.cell?_setCell_same _ _ _ hc, hr.same fun k hk => Below.heap_setCell _ _ _ _ (fun e' => ?_), ?_⟩
  · have := (hr.lt k hk).1
    simp at e'
    omega
  · exact (Fr.of_below (J := [j]) (R := []) hp hb).trans (Fr.store v) (fun _ h => ⟨h, h⟩) (fun r h => by cases h)

theorem block_two (w : World) (B o : Obj) : ((w.alloc B).alloc o).heap[w.heap.size + 1]? = some o := by
  have := heap_alloc_new (w.alloc B) o
  simpa using this

theorem flat_set {α β : Type} (enc : α → List β) (m : Nat) (hm : ∀ x, (enc x).length = m) : ∀ (l : List α) (i j : Nat) (h : i < l.length) (u : β) (x : α), j < m → enc x = (enc l[i]).set j u → (l.set i x).flatMap enc = (l.flatMap enc).set (i * m + j) u := by
  intro l
  induction l with
  | nil => intro i j h; simp at h
  | cons a r ih =>
    intro i j h u x hj hx
    cases i with
    | zero =>
      rw [List.set_cons_zero, List.flatMap_cons, List.flatMap_cons, Nat.zero_mul, Nat.zero_add, List.set_append_left _ _ (by rw [hm]; exact hj), hx]
      rfl
    | succ i =>
      rw [List.set_cons_succ, List.flatMap_cons, List.flatMap_cons, List.set_append_right _ _ (by rw [hm, Nat.succ_mul]; omega), hm, ih i j (by simpa using h) u x hj hx]
      rw [show (i + 1) * m + j - m = i * m + j by rw [Nat.succ_mul]; omega]

theorem Row.set {α : Type} {w : World} {b e size : Nat} {enc : α → List Value} {v : Value} {xs : List α} (h : Row w b e size enc v xs) (hm : ∀ x, (enc x).length = size) {g i j : Nat} (hg : v.ownBlock = some g) (hi : i < xs.length) (hj : j < size) (u : Value) (x : α) (hx : enc x = (enc xs[i]).set j u) :
    Row (w.setCell ⟨g, i * size + j, none⟩ u) b e size enc v (xs.set i x) := by
  have hf := flat_set enc size hm xs i j hi u x hj hx
  have hlen := flat_len enc size hm xs
  have hlt : i * size + j < xs.length * size := by
    have : (i + 1) * size ≤ xs.length * size := Nat.mul_le_mul_right _ hi
    rw [Nat.succ_mul] at this
    omega
  unfold Row
  rw [hf, List.length_set]
  refine ⟨by rw [List.length_set]; exact h.1, ?_⟩
  rcases h.2 with ⟨rfl, _⟩ | ⟨g', cap, cur, rfl, hb, hgg, hnc, hcm, hcs, htake⟩
  · simp [Value.ownBlock] at hg
  · have : g' = g := by simpa [Value.ownBlock] using hg
    subst this
    refine .inr ⟨g', cap, cur.setIfInBounds (i * size + j) u, rfl, hb, ?_, hnc, hcm, by simpa using hcs, ?_⟩
    · simp [World.setCell, Array.getElem?_modify, hgg]
    · rw [Array.toList_setIfInBounds, List.take_set, htake]

/-- A store into a row that may change. -/
theorem Fr.setIn {p : Nat} {J R : List Nat} {w wr : World} (h : Fr p J R w wr) {a : Addr} (ha : a.block ∈ R) (hp : a.block ≠ p) (u : Value) : Fr p J R w (wr.setCell a u) :=
  ⟨h.os, h.tape, h.output, by simpa using h.size, fun k hk hkp hkr => (Below.heap_setCell _ _ _ _ (fun e => hkr (by rw [e]; exact ha))).trans (h.block k hk hkp hkr),
    fun j hj => (World.cell?_of_block (Below.heap_setCell wr a u p (Ne.symm hp))).trans (h.cell j hj), fun j => (World.frozen?_of_block (Below.heap_setCell wr a u p (Ne.symm hp))).trans (h.frozen j)⟩
theorem Fr.drew {p : Nat} {J R : List Nat} {w wr : World} (h : Fr p J R w wr) : Fr p J R w wr.drew := ⟨h.os, h.tape, h.output, h.size, h.block, h.cell, h.frozen⟩
theorem Row.drew {α : Type} {w : World} {b e size : Nat} {enc : α → List Value} {v : Value} {xs : List α} (h : Row w b e size enc v xs) : Row w.drew b e size enc v xs := h.same fun _ _ => rfl
/-- A store into a block that is new. -/
theorem Fr.setNew {p : Nat} {J R : List Nat} {w wr : World} (h : Fr p J R w wr) (hp : p < w.heap.size) {a : Addr} (ha : w.heap.size ≤ a.block) (u : Value) : Fr p J R w (wr.setCell a u) :=
  ⟨h.os, h.tape, h.output, by simpa using h.size, fun k hk hkp hkr => (Below.heap_setCell _ _ _ _ (by omega)).trans (h.block k hk hkp hkr),
    fun j hj => (World.cell?_of_block (Below.heap_setCell wr a u p (by omega))).trans (h.cell j hj), fun j => (World.frozen?_of_block (Below.heap_setCell wr a u p (by omega))).trans (h.frozen j)⟩

theorem filter_snoc {α : Type} (p : α → Bool) (l : List α) (k : Nat) (h : k < l.length) : (l.take (k + 1)).filter p = (l.take k).filter p ++ (if p l[k] then [l[k]] else []) := by
  rw [List.take_succ_eq_append_getElem h, List.filter_append]
  cases hp : p l[k] <;> simp [hp]
theorem below_drewN (w : World) (n : Nat) : Below w.heap.size w (w.drewN n) := ⟨rfl, rfl, rfl, Nat.le_refl _, fun _ _ => rfl⟩
end Go.Proofs.YtlccfpbbdgpjbaaGreatDoor
