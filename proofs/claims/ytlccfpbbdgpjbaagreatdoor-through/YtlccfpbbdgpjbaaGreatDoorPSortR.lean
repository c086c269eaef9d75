/-
  slices.Sort of a row of numbers of the call's own.
-/
import Derived.Test.YtlccfpbbdgpjbaaGreatDoorSort
import Derived.Test.YtlccfpbbdgpjbaaGreatDoorPOpen
import Derived.Lib.RowBridge
namespace Go.Proofs.YtlccfpbbdgpjbaaGreatDoor
open Go.RowKit Go.Sort

theorem flat_encI (l : List Int) : l.flatMap encI = l.map (Value.int .i64) := by
  induction l with
  | nil => rfl
  | cons a r ih => rw [List.flatMap_cons, ih]; rfl

theorem sortR (v : Value) (base : Nat) (l : List Int) (w : World) (hl : l.length ≤ 1000000) (hr : Row w base 3 1 encI v l) :
    Calls Tryz.prog 76 #[v] w fun e w' => e = .returned (.tuple #[]) ∧ Row w' base 3 1 encI v l.mergeSort ∧ Kp v.ownBlock.toList w w' := by
  by_cases h0 : l.length = 0
  · obtain ⟨A, cap, rfl, _, _, _⟩ := hr.form
    have hl0 : l = [] := List.length_eq_zero_iff.1 h0
    subst hl0
    refine (Tryz.slices_Sort_int_none A cap w).mono ?_
    rintro e w' ⟨rfl, rfl⟩
    exact ⟨rfl, by simpa using hr, Kp.refl _ _⟩
  · obtain ⟨g, cap, rfl, _⟩ := hr.at (by omega)
    have lg : g < w.heap.size := (hr.lt g rfl).2
    have hH : Holds (Value.int .i64) w g 0 l.toArray := fun j hj => by
      have hj' : j < l.length := by simpa using hj
      have := hr.cell encI_len (g := g) (j := 0) rfl hj' (u := .int .i64 l[j]) rfl
      rw [Nat.mul_one, Nat.add_zero] at this
      have e : l.toArray[j]! = l[j] := by simp [hj']
      rw [Nat.zero_add, e]
      exact this
    refine (Tryz.slices_Sort_int g 0 cap l w hH lg (by omega)).mono ?_
    rintro e w' ⟨rfl, n, os, rfl⟩
    have hlen : (l.mergeSort (fun x y => decide (x ≤ y))).length = l.length := List.length_mergeSort l
    rw [Lib.putRow_eq_setCells (Value.int .i64) w g 0 l.toArray _ n hH (by simp)]
    rw [← flat_encI]
    have hR := (hr.kept (grown_drewN w n) (by simp [Value.ownBlock])).relay encI_len 0 l.mergeSort l.mergeSort (by rw [hlen]; omega) (by rw [hlen]; omega) (by
      rw [List.take_zero, List.nil_append, List.take_append_of_le_length (Nat.le_refl _), List.take_of_length_le (Nat.le_refl _)])
    rw [Nat.zero_mul] at hR
    have hK : Kp [g] w ((w.drewN n).setCells g 0 (l.mergeSort.flatMap encI)) := Kp.setCellsIn (List.mem_singleton.2 rfl) _ _ _ ⟨rfl, rfl, rfl, Nat.le_refl _, fun _ _ _ => rfl⟩
    rw [hlen] at hR
    generalize (w.drewN n).setCells g 0 (l.mergeSort.flatMap encI) = W at hR hK ⊢
    have hgr : Below W.heap.size W (grow W os) := ⟨rfl, rfl, rfl, by simp [grow], fun k hk => by simp only [grow]; exact Array.getElem?_append_left hk⟩
    exact ⟨rfl, hR.below hgr, hK.below hgr⟩
end Go.Proofs.YtlccfpbbdgpjbaaGreatDoor
