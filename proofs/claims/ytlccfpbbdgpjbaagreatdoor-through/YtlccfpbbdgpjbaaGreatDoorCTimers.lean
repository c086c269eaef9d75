/-
  setTimer, dropTimers.
-/
import Derived.Test.YtlccfpbbdgpjbaaGreatDoorCSmall
namespace Go.Proofs.YtlccfpbbdgpjbaaGreatDoor
open Go.RowKit

set_option maxRecDepth 100000 in
set_option maxHeartbeats 4000000 in
theorem setTimer_any (p : Nat) (kind call due n : Int) (v : Value) (xs : List PTimer) (w : World) (hl : xs.length ≤ 999999) (hH : IsHeap xs) (h0 : 0 ≤ n) (h1 : n ≤ 4611686018427387904) (cS : w.cell? ⟨p, 19, none⟩ = some (.int .i64 n)) (fS : w.frozen? ⟨p, 19, none⟩ = false) (hc : w.cell? ⟨p, 18, none⟩ = some v) (hz : w.frozen? ⟨p, 18, none⟩ = false) (hr : Row w 0 114 4 encPT v xs) (hv : v.ownBlock ≠ some p) :
    Calls Tryz.prog 95 #[.pointer (some ⟨p, 0, none⟩), .int .i64 kind, .int .i64 call, .int .i64 due] w fun e w' =>
      e = .returned (.tuple #[]) ∧ w'.cell? ⟨p, 19, none⟩ = some (.int .i64 (n + 1)) ∧ ∃ v' ys, ys.Perm (xs ++ [⟨kind, call, due, n + 1⟩]) ∧ IsHeap ys ∧ w'.cell? ⟨p, 18, none⟩ = some v' ∧ Row w' 0 114 4 encPT v' ys ∧ (v'.ownBlock = v.ownBlock ∨ ∃ g, v'.ownBlock = some g ∧ w.heap.size ≤ g) ∧ Fr p [19, 18] v.ownBlock.toList w w' := by
  have lp : p < w.heap.size := World.block_lt_of_cell? w _ hc
  have hF0 : Fr p [19] [] w (w.setCell ⟨p, 19, none⟩ (.int .i64 (n + 1))) := Fr.store _
  have HP := hide (fun W (hW : Below (w.setCell ⟨p, 19, none⟩ (.int .i64 (n + 1))).heap.size (w.setCell ⟨p, 19, none⟩ (.int .i64 (n + 1))) W) => push_any p 18 ⟨kind, call, due, n + 1⟩ v xs W hl hH ((hW.cell (p := ⟨p, 18, none⟩) (by simpa using lp)).trans ((hF0.cell _ (by simp)).trans hc)) ((hW.frozen (p := ⟨p, 18, none⟩) (by simpa using lp)).trans ((hF0.frozen _).trans hz)) ((hF0.row hr (fun k hk => ⟨fun e => hv (by rw [hk, e]), by simp⟩)).below hW) hv)
  have HC := hide (World.cell?_setCell_same w ⟨p, 19, none⟩ (.int .i64 (n + 1)) cS)
  have HF := hide hF0
  clear hr hc hz hH hF0
  go_enter Tryz.func95, Tryz.ntmps95
  go_wp2_with fail
  have HPD := hide (HP.out _ ((Below.refl _ _).drew))
  have hcS := HC.out
  have hFW := HF.out
  have hsz : (w.setCell ⟨p, 19, none⟩ (.int .i64 (n + 1))).heap.size = w.heap.size := by simp
  generalize w.setCell ⟨p, 19, none⟩ (.int .i64 (n + 1)) = W at HPD hcS hFW hsz ⊢
  clear HP HC HF cS fS
  go_region_held3 (fun w' => w'.cell? ⟨p, 19, none⟩ = some (.int .i64 (n + 1)))
    (first
      | (go_keep; done)
      | exact (hF3.cell 19 (by simp)).trans hcS)
    (first
      | (go_at_call 114; refine HPD.out.mono ?_; rintro e w3 ⟨rfl, v3, ys, hP3, hH3, hc3, hr3, hv3, hF3⟩))
  go_wp2_with fail
  go_end0
  have hsz2 : W.drew.heap.size = w.heap.size := hsz
  exact ⟨rfl, (hF3.cell 19 (by simp)).trans hcS, v3, ys, hP3, hH3, hc3, hr3, hv3.imp id (fun ⟨g, e, h⟩ => ⟨g, e, by omega⟩), (hFW.weakR.drew).trans hF3 (fun _ h => ⟨fun h' => h (by simp at h' ⊢; omega), fun h' => h (by simp at h' ⊢; omega)⟩) (fun r h => .inl h)⟩

set_option maxRecDepth 100000 in
set_option maxHeartbeats 4000000 in
theorem dropTimers_any (p : Nat) (call : Int) (g cap : Nat) (xs : List PTimer) (w : World) (hl : xs.length ≤ 1000000) (hgp : g ≠ p) (hc : w.cell? ⟨p, 18, none⟩ = some (.slice (some ⟨g, 0, none⟩) xs.length cap)) (hz : w.frozen? ⟨p, 18, none⟩ = false) (hr : Row w 0 114 4 encPT (.slice (some ⟨g, 0, none⟩) xs.length cap) xs) :
    Calls Tryz.prog 98 #[.pointer (some ⟨p, 0, none⟩), .int .i64 call] w fun e w' =>
      e = .returned (.tuple #[]) ∧ ∃ ys, ys.Perm (xs.filter (stays call)) ∧ IsHeap ys ∧ w'.cell? ⟨p, 18, none⟩ = some (.slice (some ⟨g, 0, none⟩) ys.length cap) ∧ Row w' 0 114 4 encPT (.slice (some ⟨g, 0, none⟩) ys.length cap) ys ∧ Fr p [18] [g] w w' := by
  have lp : p < w.heap.size := World.block_lt_of_cell? w _ hc
  have lg : g < w.heap.size := (hr.lt g rfl).2
  have hB : Below w.heap.size w (w.alloc (.cells #[.int .i64 call] 3)) := (Below.refl _ _).alloc (Nat.le_refl _) _
  have HD := hide (dropH_any p 18 w.heap.size call g cap xs (w.alloc (.cells #[.int .i64 call] 3)) hl hgp (by omega) (by simp) ((hB.cell lp).trans hc) ((hB.frozen lp).trans hz) (hr.below hB))
  have HF := hide (Fr.of_below (J := [18]) (R := [g]) lp hB)
  clear hr hc hz hB
  go_enter Tryz.func98, Tryz.ntmps98
  go_wp2_with fail
  refine HD.out.mono ?_
  rintro e w1 ⟨rfl, ys, hP, hH, hc1, hr1, hF1⟩
  go_wp2_with fail
  go_end0
  exact ⟨rfl, ys, hP, hH, hc1, hr1, HF.out.trans hF1 (fun _ h => ⟨h, h⟩) (fun r h => .inl h)⟩
end Go.Proofs.YtlccfpbbdgpjbaaGreatDoor
