/-
  submit, where the call is refused.
-/
import Derived.Test.YtlccfpbbdgpjbaaGreatDoorCCancel
namespace Go.Proofs.YtlccfpbbdgpjbaaGreatDoor
open Go.RowKit Go.Maps

set_option maxRecDepth 100000 in
set_option maxHeartbeats 4000000 in
theorem submit_refuse (p bc : Nat) (now flight : Int) (ev : PEv) (lc : List (Int × Value)) (w : World) (hw : (Lit.int .i64 ev.call).wf = true) (hn0 : 0 ≤ now) (hn1 : now ≤ 1099511627776) (hp : ∀ x ∈ lc, ∃ q, x.2 = .pointer (some ⟨q, 0, none⟩))
    (cN : w.cell? ⟨p, 10, none⟩ = some (.int .i64 now)) (cF : w.cell? ⟨p, 5, none⟩ = some (.int .i64 flight)) (cC : w.cell? ⟨p, 15, none⟩ = some (.map (some bc))) (mC : MapI Tryz.prog 3 okPtr w bc lc)
    (why : Int) (hy : whyP ev.timeout now flight (mget lc ev.call).isSome lc.length = why) (hy0 : why ≠ 0) :
    Calls Tryz.prog 37 #[.pointer (some ⟨p, 0, none⟩), evV ev] w fun e w' => ∃ v, e = .returned v ∧ Row w' w.heap.size 55 6 encAct v [⟨4, ev.call, 0, why, 0, 0⟩] ∧ Below w.heap.size w w' := by
  have lp : p < w.heap.size := World.block_lt_of_cell? w _ cN
  have HW := hide (fun W (h : Below w.heap.size w W) => whyNot_any p bc now flight ev lc W hw hn0 hn1 hp ((h.cell lp).trans cN) ((h.cell lp).trans cF) ((h.cell lp).trans cC) (mC.same (h.block _ mC.lt)))
  rw [hy] at HW
  have hy1 : (why != 0) = true := by simpa using hy0
  clear hp cN cF cC mC hy hy0
  obtain ⟨k, c, a, v, t, s, d, o⟩ := ev
  unfold evV at HW ⊢
  dsimp only at hw HW ⊢
  go_enter Tryz.func37, Tryz.ntmps37
  go_wp2_with fail
  have hB0 : Below w.heap.size w (w.alloc (.cells #[.int .i64 k, .int .i64 c, .int .i64 a, .int .i64 v, .int .i64 t, .bool s, .int .u64 d, .int .i64 o] 39)) := (Below.refl _ _).alloc (Nat.le_refl _) _
  have e1 : (w.alloc (.cells #[.int .i64 k, .int .i64 c, .int .i64 a, .int .i64 v, .int .i64 t, .bool s, .int .u64 d, .int .i64 o] 39)).cell? ⟨w.heap.size, 1, none⟩ = some (.int .i64 c) := by simp
  have l1 : w.heap.size < (w.alloc (.cells #[.int .i64 k, .int .i64 c, .int .i64 a, .int .i64 v, .int .i64 t, .bool s, .int .u64 d, .int .i64 o] 39)).heap.size := by simp
  refine (HW.out _ hB0).mono ?_
  rintro e w1 ⟨rfl, hb1⟩
  generalize w.alloc (.cells #[.int .i64 k, .int .i64 c, .int .i64 a, .int .i64 v, .int .i64 t, .bool s, .int .u64 d, .int .i64 o] 39) = W at hB0 e1 l1 hb1
  have hB1 : Below w.heap.size w w1 := hB0.trans (hb1.mono hB0.size)
  have e2 := (hb1.cell l1).trans e1
  clear HW hb1 e1 hB0
  go_wp2_with fail
  go_ret
  refine ⟨_, rfl, ?_, hB1.alloc hB1.size _⟩
  exact ⟨rfl, .inr ⟨w1.heap.size, 1, _, rfl, hB1.size, heap_alloc_new _ _, Nat.le_refl _, by simp [maxLen], rfl, rfl⟩⟩
end Go.Proofs.YtlccfpbbdgpjbaaGreatDoor
