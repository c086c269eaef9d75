/-
  Drop.
-/
import Derived.Test.YtlccfpbbdgpjbaaGreatDoorHDrop
namespace Go.Proofs.YtlccfpbbdgpjbaaGreatDoor
open Go.RowKit

set_option maxRecDepth 100000 in
set_option maxHeartbeats 4000000 in
theorem dropH_any (p o bx : Nat) (call : Int) (g cap : Nat) (xs : List PTimer) (w : World) (hl : xs.length ≤ 1000000) (hgp : g ≠ p) (hbg : bx ≠ g) (hb : w.cell? ⟨bx, 0, none⟩ = some (.int .i64 call)) (hc : w.cell? ⟨p, o, none⟩ = some (.slice (some ⟨g, 0, none⟩) xs.length cap)) (hz : w.frozen? ⟨p, o, none⟩ = false) (hr : Row w 0 114 4 encPT (.slice (some ⟨g, 0, none⟩) xs.length cap) xs) :
    Calls Tryz.prog 116 #[.pointer (some ⟨p, o, none⟩), .func (.func 117) #[] #[.pointer (some ⟨bx, 0, none⟩)]] w fun e w' =>
      e = .returned (.tuple #[]) ∧ ∃ ys, ys.Perm (xs.filter (stays call)) ∧ IsHeap ys ∧ w'.cell? ⟨p, o, none⟩ = some (.slice (some ⟨g, 0, none⟩) ys.length cap) ∧ Row w' 0 114 4 encPT (.slice (some ⟨g, 0, none⟩) ys.length cap) ys ∧ Fr p [o] [g] w w' := by
  have lp : p < w.heap.size := World.block_lt_of_cell? w _ hc
  have HD := hide (deleteFunc_any g cap bx call xs w hl hbg hb hr)
  have hfl : (xs.filter (stays call)).length ≤ xs.length := List.length_filter_le _ _
  have lg : g < w.heap.size := (hr.lt g rfl).2
  clear hr hb
  generalize xs.filter (stays call) = fs at HD hfl ⊢
  go_enter Tryz.func116, Tryz.ntmps116
  go_wp2_with fail
  refine HD.out.mono ?_
  rintro e w1 ⟨rfl, hr1, hF1⟩
  have hpg : p ∉ [g] := by simpa using Ne.symm hgp
  have c1 : w1.cell? ⟨p, o, none⟩ = some (.slice (some ⟨g, 0, none⟩) xs.length cap) := (hF1.cell lp hpg o).trans hc
  have f1 : w1.frozen? ⟨p, o, none⟩ = false := (hF1.frozen lp hpg o).trans hz
  have hFA : Fr p [] [g] w w1 := hF1.fr lp hpg
  have HC2 := hide (World.cell?_setCell_same w1 ⟨p, o, none⟩ (.slice (some ⟨g, 0, none⟩) fs.length cap) c1)
  have HR2 := hide (hr1.same (w' := w1.setCell ⟨p, o, none⟩ (.slice (some ⟨g, 0, none⟩) fs.length cap)) (fun k hk => Below.heap_setCell _ _ _ _ (by simp [Value.ownBlock] at hk; show k ≠ p; omega)))
  have HF2 := hide (hFA.trans (Fr.store (j := o) (w := w1) (.slice (some ⟨g, 0, none⟩) fs.length cap)) (J'' := [o]) (fun _ h => ⟨by simp, h⟩) (fun r h => by cases h))
  clear HD hFA hF1 hc hz hr1
  go_wp2_with fail
  go_loopw [4] (fun pv wr => ∃ (z : Int) (m : Nat) (ys : List PTimer), pv = .int .i64 z ∧ z = (m : Int) - 1 ∧ m ≤ fs.length ∧ HeapFrom m ys ∧ ys.Perm fs ∧ wr.cell? ⟨p, o, none⟩ = some (.slice (some ⟨g, 0, none⟩) fs.length cap) ∧ Row wr 0 114 4 encPT (.slice (some ⟨g, 0, none⟩) fs.length cap) ys ∧ Fr p [o] [g] w wr) (fun pv _ => (intOf pv + 1).toNat)
  case atStart => exact ⟨_, fs.length / 2, fs, rfl, by omega, by omega, HeapFrom.top fs _ (Nat.le_refl _), List.Perm.refl _, HC2.out, HR2.out, HF2.out⟩
  case round =>
    obtain ⟨z, m, ys, rfl, hzm, hm, hH, hP, hcr, hrr, hF⟩ := hrel
    have hlen := hP.length_eq
    by_cases h0 : 0 ≤ z
    · obtain ⟨k, rfl⟩ : ∃ k : Nat, z = (k : Int) := ⟨z.toNat, by omega⟩
      have hmk : m = k + 1 := by omega
      subst hmk
      have HSK := hide (sink_any p o g cap k ys k wr (by omega) (by omega) (Sinking.start hH) hgp (by rw [hlen]; exact hcr) (by rw [hlen]; exact hrr))
      rw [hlen] at HSK
      clear hrr hH HC2 HR2 HF2 hzm h0
      have k0 : (k : Int) ≤ 1000000 := by omega
      go_wp2_with (first | (go_at_call 101; refine HSK.out.mono ?_; rintro e w2 ⟨rfl, zs, hP2, hH2, hc2, hr2, hF2⟩))
      go_roundw
      case rel => exact ⟨_, k, zs, rfl, rfl, by omega, hH2, hP2.trans hP, hc2, hr2, hF.trans hF2 (J'' := [o]) (fun _ h => ⟨h, by simp⟩) (fun r h => .inl h)⟩
      case measure => (simp [intOf] <;> omega)
    · have hm0 : m = 0 := by omega
      subst hm0
      have hz1 : z = -1 := by omega
      subst hz1
      clear HC2 HR2 HF2 hzm h0
      go_wp2_with fail
      go_end0
      exact ⟨rfl, ys, hP, hH, by rw [hlen]; exact hcr, by rw [hlen]; exact hrr, hF⟩

set_option maxRecDepth 100000 in
set_option maxHeartbeats 4000000 in
theorem dropH_nil (p o bx : Nat) (w : World) (hc : w.cell? ⟨p, o, none⟩ = some (.slice none 0 0)) (hz : w.frozen? ⟨p, o, none⟩ = false) :
    Calls Tryz.prog 116 #[.pointer (some ⟨p, o, none⟩), .func (.func 117) #[] #[.pointer (some ⟨bx, 0, none⟩)]] w fun e w' =>
      e = .returned (.tuple #[]) ∧ w'.cell? ⟨p, o, none⟩ = some (.slice none 0 0) ∧ Fr p [o] [] w w' := by
  have HI : Hid (∀ W, Calls Tryz.prog 145 #[.slice none 0 0, .func (.func 117) #[] #[.pointer (some ⟨bx, 0, none⟩)]] W fun e w' => e = .returned (.int .i64 (-1)) ∧ w' = W) := fun W => by
    go_enter Tryz.func145, Tryz.ntmps145
    go_wp2_with fail
    go_loopw [8] (fun iv wr => iv = .int .i64 0 ∧ wr = W) (fun _ _ => 0)
    case atStart => exact ⟨rfl, rfl⟩
    case round =>
      obtain ⟨rfl, rfl⟩ := hrel
      go_wp2_with fail
      go_ret
      exact ⟨rfl, rfl⟩
  have HD : Hid (∀ W, Calls Tryz.prog 137 #[.slice none 0 0, .func (.func 117) #[] #[.pointer (some ⟨bx, 0, none⟩)]] W fun e w' => e = .returned (.slice none 0 0) ∧ w' = W) := fun W => by
    go_enter Tryz.func137, Tryz.ntmps137
    go_wp2_with fail
    refine (HI.out W).mono ?_
    rintro e w' ⟨rfl, rfl⟩
    go_wp2_with fail
    go_ret
    exact ⟨rfl, rfl⟩
  clear HI
  go_enter Tryz.func116, Tryz.ntmps116
  go_wp2_with fail
  refine (HD.out w).mono ?_
  rintro e w1 ⟨rfl, rfl⟩
  go_wp2_with fail
  go_loopw [4] (fun pv wr => pv = .int .i64 (-1) ∧ wr = w1.setCell ⟨p, o, none⟩ (.slice none 0 0)) (fun _ _ => 0)
  case atStart => exact ⟨by go_num, rfl⟩
  case round =>
    obtain ⟨rfl, rfl⟩ := hrel
    go_wp2_with fail
    go_end0
    exact ⟨rfl, World.cell?_setCell_same _ _ _ hc, Fr.store _⟩
end Go.Proofs.YtlccfpbbdgpjbaaGreatDoor
