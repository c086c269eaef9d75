/-
  What reading an Op gives of its twenty cells.
-/
import Derived.Test.YtlccfpbbdgpjbaaGreatDoorRows
import Derived.ProofKit
import Derived.Deep.Slices
namespace Go.Proofs.YtlccfpbbdgpjbaaGreatDoor
open Go.ChangeShapes Go.WideShapes Go.RowKit Go.Deep

theorem Tryz.cells3 : Tryz.prog.cellsOf 3 = 1 := by kernel_rfl
theorem Tryz.cells4 : Tryz.prog.cellsOf 4 = 1 := by kernel_rfl
theorem Tryz.cells37 : Tryz.prog.cellsOf 37 = 1 := by kernel_rfl
theorem Tryz.cells34 : Tryz.prog.cellsOf 34 = 10 := by kernel_rfl
theorem Tryz.cells39 : Tryz.prog.cellsOf 39 = 8 := by kernel_rfl
theorem Tryz.cells41 : Tryz.prog.cellsOf 41 = 20 := by kernel_rfl

section
variable {H : Type} {enc : TypeId × Value → H} {w : World} {base : Nat} {spare : Nat → Bool} {held : Bool}

theorem int_at {n : Nat} {cs : List Value} {o : Nat} {y : Option (DataW H × List MemPlace)} (hy : y.isSome = true) (h : DataW.trod enc Tryz.prog w base spare held n 3 ((cs.drop o).take (Tryz.prog.cellsOf 3)) = y) : ∃ z, cs[o]? = some (.int .i64 z) := by
  obtain ⟨x, rfl⟩ := Option.isSome_iff_exists.1 hy
  obtain ⟨z, hz, _⟩ := DataW.trod_int Tryz.underlying3 h
  refine ⟨z, ?_⟩
  rw [Tryz.cells3] at hz
  have := congrArg (fun l => l[0]?) hz
  simpa using this
theorem u64_at {n : Nat} {cs : List Value} {o : Nat} {y : Option (DataW H × List MemPlace)} (hy : y.isSome = true) (h : DataW.trod enc Tryz.prog w base spare held n 37 ((cs.drop o).take (Tryz.prog.cellsOf 37)) = y) : ∃ z, cs[o]? = some (.int .u64 z) := by
  obtain ⟨x, rfl⟩ := Option.isSome_iff_exists.1 hy
  obtain ⟨z, hz, _⟩ := DataW.trod_int Tryz.underlying37 h
  refine ⟨z, ?_⟩
  rw [Tryz.cells37] at hz
  have := congrArg (fun l => l[0]?) hz
  simpa using this
theorem bool_at {n : Nat} {cs : List Value} {o : Nat} {y : Option (DataW H × List MemPlace)} (hy : y.isSome = true) (h : DataW.trod enc Tryz.prog w base spare held n 4 ((cs.drop o).take (Tryz.prog.cellsOf 4)) = y) : ∃ z, cs[o]? = some (.bool z) := by
  obtain ⟨x, rfl⟩ := Option.isSome_iff_exists.1 hy
  obtain ⟨z, hz, _⟩ := DataW.trod_bool Tryz.underlying4 h
  refine ⟨z, ?_⟩
  rw [Tryz.cells4] at hz
  have := congrArg (fun l => l[0]?) hz
  simpa using this

theorem isSome_at {α : Type} (l : List α) (k : Nat) (h : k < l.length) : (l[k]?).isSome = true := by simp [h]
theorem part_at {cs : List Value} {o m k : Nat} {v : Value} (hk : k < m) (h : ((cs.drop o).take m)[k]? = some v) : cs[o + k]? = some v := by
  rw [List.getElem?_take, if_pos hk, List.getElem?_drop] at h
  exact h

theorem cfg_at {n : Nat} {cs : List Value} {x : DataW H × List MemPlace} (h : DataW.trod enc Tryz.prog w base spare held n 34 cs = some x) : ∀ k, k < 10 → ∃ z, cs[k]? = some (.int .i64 z) := by
  obtain ⟨xs, m, _, _, _, hl, hf⟩ := DataW.trod_struct Tryz.underlying34 h
  have hl' : xs.length = 10 := hl
  intro k hk
  match k, hk with
  | 0, _ => exact int_at (isSome_at xs 0 (by omega)) (hf 0 _ rfl)
  | 1, _ => exact int_at (isSome_at xs 1 (by omega)) (hf 1 _ rfl)
  | 2, _ => exact int_at (isSome_at xs 2 (by omega)) (hf 2 _ rfl)
  | 3, _ => exact int_at (isSome_at xs 3 (by omega)) (hf 3 _ rfl)
  | 4, _ => exact int_at (isSome_at xs 4 (by omega)) (hf 4 _ rfl)
  | 5, _ => exact int_at (isSome_at xs 5 (by omega)) (hf 5 _ rfl)
  | 6, _ => exact int_at (isSome_at xs 6 (by omega)) (hf 6 _ rfl)
  | 7, _ => exact int_at (isSome_at xs 7 (by omega)) (hf 7 _ rfl)
  | 8, _ => exact int_at (isSome_at xs 8 (by omega)) (hf 8 _ rfl)
  | 9, _ => exact int_at (isSome_at xs 9 (by omega)) (hf 9 _ rfl)

theorem event_at {n : Nat} {cs : List Value} {x : DataW H × List MemPlace} (h : DataW.trod enc Tryz.prog w base spare held n 39 cs = some x) :
    (∀ k, k < 8 → k ≠ 5 → k ≠ 6 → ∃ z, cs[k]? = some (.int .i64 z)) ∧ (∃ z, cs[5]? = some (.bool z)) ∧ (∃ z, cs[6]? = some (.int .u64 z)) := by
  obtain ⟨xs, m, _, _, _, hl, hf⟩ := DataW.trod_struct Tryz.underlying39 h
  have hl' : xs.length = 8 := hl
  refine ⟨fun k hk h5 h6 => ?_, bool_at (isSome_at xs 5 (by omega)) (hf 5 _ rfl), u64_at (isSome_at xs 6 (by omega)) (hf 6 _ rfl)⟩
  match k, hk, h5, h6 with
  | 0, _, _, _ => exact int_at (isSome_at xs 0 (by omega)) (hf 0 _ rfl)
  | 1, _, _, _ => exact int_at (isSome_at xs 1 (by omega)) (hf 1 _ rfl)
  | 2, _, _, _ => exact int_at (isSome_at xs 2 (by omega)) (hf 2 _ rfl)
  | 3, _, _, _ => exact int_at (isSome_at xs 3 (by omega)) (hf 3 _ rfl)
  | 4, _, _, _ => exact int_at (isSome_at xs 4 (by omega)) (hf 4 _ rfl)
  | 7, _, _, _ => exact int_at (isSome_at xs 7 (by omega)) (hf 7 _ rfl)

/-- An Op's cells: twenty, each of its kind. -/
theorem op_at {n : Nat} {cs : List Value} {x : DataW H × List MemPlace} (h : DataW.trod enc Tryz.prog w base spare held n 41 cs = some x) :
    (∀ k, k < 20 → k ≠ 17 → k ≠ 18 → ∃ z, cs[k]? = some (.int .i64 z)) ∧ (∃ z, cs[17]? = some (.bool z)) ∧ (∃ z, cs[18]? = some (.int .u64 z)) := by
  obtain ⟨xs, m, _, _, _, hl, hf⟩ := DataW.trod_struct Tryz.underlying41 h
  have hl' : xs.length = 4 := hl
  have h0 := int_at (isSome_at xs 0 (by omega)) (hf 0 _ rfl)
  have h1 := int_at (isSome_at xs 1 (by omega)) (hf 1 _ rfl)
  have g2 : DataW.trod enc Tryz.prog w base spare held m 34 ((cs.drop 2).take (Tryz.prog.cellsOf 34)) = xs[2]? := hf 2 _ rfl
  have g3 : DataW.trod enc Tryz.prog w base spare held m 39 ((cs.drop 12).take (Tryz.prog.cellsOf 39)) = xs[3]? := hf 3 _ rfl
  rw [List.getElem?_eq_getElem (by omega)] at g2 g3
  rw [Tryz.cells34] at g2
  rw [Tryz.cells39] at g3
  have c := cfg_at g2
  obtain ⟨e, e5, e6⟩ := event_at g3
  refine ⟨fun k hk h17 h18 => ?_, e5.imp fun z hz => part_at (by omega) hz, e6.imp fun z hz => part_at (by omega) hz⟩
  by_cases k0 : k = 0
  · subst k0; exact h0
  by_cases k1 : k = 1
  · subst k1; exact h1
  by_cases k12 : k < 12
  · obtain ⟨z, hz⟩ := c (k - 2) (by omega)
    have := part_at (show k - 2 < 10 by omega) hz
    rw [show 2 + (k - 2) = k by omega] at this
    exact ⟨z, this⟩
  · obtain ⟨z, hz⟩ := e (k - 12) (by omega) (by omega) (by omega)
    have := part_at (show k - 12 < 8 by omega) hz
    rw [show 12 + (k - 12) = k by omega] at this
    exact ⟨z, this⟩
end
end Go.Proofs.YtlccfpbbdgpjbaaGreatDoor
