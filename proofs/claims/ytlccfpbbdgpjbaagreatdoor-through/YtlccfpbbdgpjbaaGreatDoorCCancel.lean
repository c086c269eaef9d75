/-
  cancel.
-/
import Derived.Test.YtlccfpbbdgpjbaaGreatDoorCWhy
namespace Go.Proofs.YtlccfpbbdgpjbaaGreatDoor
open Go.RowKit Go.Maps

set_option maxRecDepth 100000 in
set_option maxHeartbeats 4000000 in
theorem cancel_open (p q bc ba : Nat) (number : Int) (lc : List (Int × Value)) (l : List (Int × PAtt)) (g cap : Nat) (xs : List PTimer) (w : World) (hl : l.length ≤ 1000000) (hlx : xs.length ≤ 1000000) (hgp : g ≠ p) (hw : (Lit.int .i64 number).wf = true)
    (cC : w.cell? ⟨p, 15, none⟩ = some (.map (some bc))) (cA : w.cell? ⟨p, 16, none⟩ = some (.map (some ba))) (cN : w.cell? ⟨q, 0, none⟩ = some (.int .i64 number)) (mC : MapI Tryz.prog 3 okPtr w bc lc) (mA : MapI Tryz.prog 3 okAtt w ba (attL l)) (hbb : ba ≠ bc) (hg : mget lc number = some (.pointer (some ⟨q, 0, none⟩)))
    (hc : w.cell? ⟨p, 18, none⟩ = some (.slice (some ⟨g, 0, none⟩) xs.length cap)) (hz : w.frozen? ⟨p, 18, none⟩ = false) (hr : Row w 0 114 4 encPT (.slice (some ⟨g, 0, none⟩) xs.length cap) xs) :
    Calls Tryz.prog 39 #[.pointer (some ⟨p, 0, none⟩), .int .i64 number] w fun e w' => ∃ v ys, e = .returned v ∧ Row w' w.heap.size 55 6 encAct v (⟨3, number, 0, 4, 0, 0⟩ :: ((l.filter (fun p => p.2.call == number)).map (·.1)).mergeSort.map (fun k => ⟨2, number, k, 0, 0, 0⟩)) ∧
      MapI Tryz.prog 3 okAtt w' ba (attL (l.filter (fun p => !(p.2.call == number)))) ∧ MapI Tryz.prog 3 okPtr w' bc (lc.filter (fun p => p.1 != number)) ∧ ys.Perm (xs.filter (stays number)) ∧ IsHeap ys ∧ w'.cell? ⟨p, 18, none⟩ = some (.slice (some ⟨g, 0, none⟩) ys.length cap) ∧ Row w' 0 114 4 encPT (.slice (some ⟨g, 0, none⟩) ys.length cap) ys ∧ Fr p [18] [ba, bc, g] w w' := by
  have hlk0 := mC.look1 Tryz.underlying3 Tryz.underlying88 (z := .pointer none) (by kernel_rfl) okPtr_none hw
  rw [hg, Option.getD_some] at hlk0
  have HF := hide (finish_T p q bc ba number 4 0 lc l g cap xs w hl hlx hgp hw cC cA cN mC mA hbb hc hz hr)
  clear mC mA hr hc hz hg cA
  go_enter Tryz.func39, Tryz.ntmps39
  go_wp2_with fail
  refine HF.out.mono ?_
  rintro e w1 ⟨v, ys, rfl, hpost⟩
  have HPO := hide hpost
  clear hpost
  go_wp2_with fail
  go_ret
  exact ⟨v, ys, rfl, HPO.out⟩

set_option maxRecDepth 100000 in
set_option maxHeartbeats 4000000 in
theorem cancel_stale (p bc : Nat) (number n : Int) (lc : List (Int × Value)) (w : World) (hw : (Lit.int .i64 number).wf = true) (cC : w.cell? ⟨p, 15, none⟩ = some (.map (some bc))) (mC : MapI Tryz.prog 3 okPtr w bc lc) (hg : mget lc number = none) (h0 : 0 ≤ n) (h1 : n ≤ 4611686018427387904) (cS : w.cell? ⟨p, 21, none⟩ = some (.int .i64 n)) (fS : w.frozen? ⟨p, 21, none⟩ = false) :
    Calls Tryz.prog 39 #[.pointer (some ⟨p, 0, none⟩), .int .i64 number] w fun e w' => e = .returned (.slice none 0 0) ∧ w'.cell? ⟨p, 21, none⟩ = some (.int .i64 (n + 1)) ∧ Fr p [21] [] w w' := by
  have hlk0 := mC.look1 Tryz.underlying3 Tryz.underlying88 (z := .pointer none) (by kernel_rfl) okPtr_none hw
  rw [hg, Option.getD_none] at hlk0
  have HP := hide (pass_any p n w h0 h1 cS fS)
  clear mC hg cS fS
  go_enter Tryz.func39, Tryz.ntmps39
  go_wp2_with fail
  refine HP.out.mono ?_
  rintro e w1 ⟨rfl, hpost⟩
  have HPO := hide hpost
  clear hpost
  go_wp2_with fail
  go_ret
  exact ⟨rfl, HPO.out⟩
end Go.Proofs.YtlccfpbbdgpjbaaGreatDoor
