/-
  The small functions of the program's client: wait, pass.
-/
import Derived.Test.YtlccfpbbdgpjbaaGreatDoorPTimes
import Derived.Test.YtlccfpbbdgpjbaaGreatDoorBTake
namespace Go.Proofs.YtlccfpbbdgpjbaaGreatDoor
open Go.RowKit

theorem Fr.weakR {p : Nat} {J R : List Nat} {w w' : World} (h : Fr p J [] w w') : Fr p J R w w' :=
  ⟨h.os, h.tape, h.output, h.size, fun k hk hp _ => h.block k hk hp (by simp), h.cell, h.frozen⟩

/-- The wait: Base and what the draw gives, or Most. -/
def waitP (base most last draw : Int) : Int := min (base + draw % (3 * last - base + 1)) most

set_option maxRecDepth 100000 in
set_option maxHeartbeats 1600000 in
theorem wait_any (p : Nat) (base most last draw : Int) (w : World) (hb0 : 1 ≤ base) (hb1 : base ≤ 10000) (hl0 : base ≤ last) (hl1 : last ≤ 10000) (hd0 : 0 ≤ draw)
    (cB : w.cell? ⟨p, 6, none⟩ = some (.int .i64 base)) (cM : w.cell? ⟨p, 7, none⟩ = some (.int .i64 most)) :
    Calls Tryz.prog 100 #[.pointer (some ⟨p, 0, none⟩), .int .i64 last, .int .u64 draw] w fun e w' => e = .returned (.int .i64 (waitP base most last draw)) ∧ Below w.heap.size w w' := by
  have hr0 : 0 ≤ draw % (3 * last - base + 1) := Int.emod_nonneg _ (by omega)
  have hr1 : draw % (3 * last - base + 1) < 3 * last - base + 1 := Int.emod_lt_of_pos _ (by omega)
  have u1 : IntKind.u64.wrap (3 * last - base + 1) = 3 * last - base + 1 := by rw [IntKind.wrap_u64]; omega
  have u2 : draw.tmod (3 * last - base + 1) = draw % (3 * last - base + 1) := Int.tmod_eq_emod_of_nonneg hd0
  have u3 : ¬ (3 * last - base + 1 = 0) := by omega
  unfold waitP
  generalize draw % (3 * last - base + 1) = r at hr0 hr1 u2 ⊢
  go_enter Tryz.func100, Tryz.ntmps100
  go_wp2_with fail
  go_quiet (fail)
  go_wp2_with fail
  go_ret
  exact ⟨rfl, below_drewN _ _⟩

set_option maxRecDepth 100000 in
set_option maxHeartbeats 1600000 in
theorem pass_any (p : Nat) (n : Int) (w : World) (h0 : 0 ≤ n) (h1 : n ≤ 4611686018427387904) (cS : w.cell? ⟨p, 21, none⟩ = some (.int .i64 n)) (fS : w.frozen? ⟨p, 21, none⟩ = false) :
    Calls Tryz.prog 41 #[.pointer (some ⟨p, 0, none⟩)] w fun e w' => e = .returned (.slice none 0 0) ∧ w'.cell? ⟨p, 21, none⟩ = some (.int .i64 (n + 1)) ∧ Fr p [21] [] w w' := by
  go_enter Tryz.func41, Tryz.ntmps41
  go_wp2_with fail
  go_ret
  exact ⟨rfl, World.cell?_setCell_same _ _ _ cS, Fr.store _⟩

set_option maxRecDepth 100000 in
set_option maxHeartbeats 4000000 in
theorem goTo_any (p : Nat) (time window now0 : Int) (v : Value) (l : List PB) (w : World) (hl : l.length ≤ 1000000) (hk : OkB l) (hn0 : 0 ≤ time) (hn1 : time ≤ 1099511627776) (cN : w.cell? ⟨p, 10, none⟩ = some (.int .i64 now0)) (fN : w.frozen? ⟨p, 10, none⟩ = false) (cW : w.cell? ⟨p, 13, none⟩ = some (.int .i64 window)) (hc : w.cell? ⟨p, 14, none⟩ = some v) (hz : w.frozen? ⟨p, 14, none⟩ = false) (hr : Row w 0 150 2 encPB v l) (hv : v.ownBlock ≠ some p) :
    Calls Tryz.prog 72 #[.pointer (some ⟨p, 0, none⟩), .int .i64 time] w fun e w' =>
      e = .returned (.tuple #[]) ∧ w'.cell? ⟨p, 10, none⟩ = some (.int .i64 time) ∧ ∃ v', w'.cell? ⟨p, 14, none⟩ = some v' ∧ Row w' 0 150 2 encPB v' (l.dropWhile (oldB time window)) ∧ v'.ownBlock = v.ownBlock ∧ Fr p [10, 14] v.ownBlock.toList w w' := by
  have hF0 : Fr p [10] [] w (w.setCell ⟨p, 10, none⟩ (.int .i64 time)) := Fr.store _
  have HP := hide (passB_any p 11 time window v l (w.setCell ⟨p, 10, none⟩ (.int .i64 time)) hl hk hn0 hn1 ((hF0.cell _ (by simp)).trans cW) ((hF0.cell _ (by simp)).trans hc) ((hF0.frozen _).trans hz) (hF0.row hr (fun k hk => ⟨fun e => hv (by rw [hk, e]), by simp⟩)) hv)
  have HC := hide (World.cell?_setCell_same w ⟨p, 10, none⟩ (.int .i64 time) cN)
  have HF := hide hF0
  clear hr hc hz cW hk hF0
  go_enter Tryz.func72, Tryz.ntmps72
  go_wp2_with fail
  refine HP.out.mono ?_
  rintro e w1 ⟨rfl, v1, hc1, hr1, hv1, hF1⟩
  go_wp2_with fail
  go_end0
  exact ⟨rfl, (hF1.cell _ (by simp)).trans HC.out, v1, hc1, hr1, hv1, (HF.out.weakR).trans hF1 (fun _ h => ⟨fun h' => h (by simp at h' ⊢; omega), fun h' => h (by simp at h' ⊢; omega)⟩) (fun r h => .inl h)⟩
end Go.Proofs.YtlccfpbbdgpjbaaGreatDoor
