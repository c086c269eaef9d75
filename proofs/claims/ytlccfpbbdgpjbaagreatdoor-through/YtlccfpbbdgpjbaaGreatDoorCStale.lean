/-
  answer, of an attempt that is not open.
-/
import Derived.Test.YtlccfpbbdgpjbaaGreatDoorCRefuse
namespace Go.Proofs.YtlccfpbbdgpjbaaGreatDoor
open Go.RowKit Go.Maps

theorem okAtt_zero : okAtt (.agg #[.int .i64 0, .int .i64 0]) = true := rfl

set_option maxRecDepth 100000 in
set_option maxHeartbeats 4000000 in
theorem answer_stale (p ba : Nat) (n : Int) (ev : PEv) (l : List (Int × PAtt)) (w : World) (hw : (Lit.int .i64 ev.attempt).wf = true) (cA : w.cell? ⟨p, 16, none⟩ = some (.map (some ba))) (mA : MapI Tryz.prog 3 okAtt w ba (attL l)) (hg : mget (attL l) ev.attempt = none) (h0 : 0 ≤ n) (h1 : n ≤ 4611686018427387904) (cS : w.cell? ⟨p, 21, none⟩ = some (.int .i64 n)) (fS : w.frozen? ⟨p, 21, none⟩ = false) :
    Calls Tryz.prog 38 #[.pointer (some ⟨p, 0, none⟩), evV ev] w fun e w' => e = .returned (.slice none 0 0) ∧ w'.cell? ⟨p, 21, none⟩ = some (.int .i64 (n + 1)) ∧ Fr p [21] [] w w' := by
  have lp : p < w.heap.size := World.block_lt_of_cell? w _ cS
  obtain ⟨k, c, a, v, t, s, d, o⟩ := ev
  unfold evV
  dsimp only at hw hg ⊢
  obtain ⟨B, hBx⟩ : ∃ B, B = w.alloc (.cells #[.int .i64 k, .int .i64 c, .int .i64 a, .int .i64 v, .int .i64 t, .bool s, .int .u64 d, .int .i64 o] 39) := ⟨_, rfl⟩
  have hB0 : Below w.heap.size w B := by rw [hBx]; exact (Below.refl _ _).alloc (Nat.le_refl _) _
  have e2 : B.cell? ⟨w.heap.size, 2, none⟩ = some (.int .i64 a) := by rw [hBx]; simp
  have mB : MapI Tryz.prog 3 okAtt B ba (attL l) := mA.same (hB0.block _ mA.lt)
  have hlk := mB.drew.look2 Tryz.underlying3 Tryz.underlying89 (z := .agg #[.int .i64 0, .int .i64 0]) (by kernel_rfl) okAtt_zero hw
  have hlk2 : ∀ O : Obj, (Instr.lookup 89 (.map (some ba)) (.int .i64 a) true).run Tryz.prog (B.alloc O).drew = .ok (.tuple #[(mget (attL l) a).getD (.agg #[.int .i64 0, .int .i64 0]), .bool (mget (attL l) a).isSome]) (B.alloc O).drew := fun O =>
    (mB.same (w' := (B.alloc O).drew) (((Below.refl B.heap.size B).alloc (Nat.le_refl _) O).drew.block _ mB.lt)).look2 Tryz.underlying3 Tryz.underlying89 (z := .agg #[.int .i64 0, .int .i64 0]) (by kernel_rfl) okAtt_zero hw
  rw [hg, Option.getD_none, Option.isSome_none] at hlk
  simp only [hg, Option.getD_none, Option.isSome_none] at hlk2
  have lB : p < B.heap.size := Nat.lt_of_lt_of_le lp hB0.size
  have lB2 : w.heap.size < B.heap.size := World.block_lt_of_cell? B _ e2
  have cA' := (hB0.cell lp).trans cA
  have HB := hide hBx
  have HP := hide (fun O : Obj => pass_any p n (B.alloc O).drew h0 h1 (((((Below.refl B.heap.size B).alloc (Nat.le_refl _) O).drew.cell lB).trans (hB0.cell lp)).trans cS) (((((Below.refl B.heap.size B).alloc (Nat.le_refl _) O).drew.frozen lB).trans (hB0.frozen lp)).trans fS))
  have HO := hide (fun O : Obj => hB0.trans ((((Below.refl B.heap.size B).alloc (Nat.le_refl _) O).drew).mono hB0.size))
  clear hBx mA mB hg cS fS
  go_enter Tryz.func38, Tryz.ntmps38
  go_wp2_with fail
  all_goals (try rw [← HB.out])
  go_region
  go_wp2_with fail
  refine (HP.out _).mono ?_
  rintro e w1 ⟨rfl, hc1, hf1⟩
  have HF := hide ((Fr.of_below (J := []) (R := []) lp (HO.out _)).trans hf1 (J'' := [21]) (fun _ h => ⟨by simp, h⟩) (fun r h => .inl h))
  have HC := hide hc1
  clear hc1 hf1 HP HO
  go_wp2_with fail
  go_ret
  exact ⟨rfl, HC.out, HF.out⟩
end Go.Proofs.YtlccfpbbdgpjbaaGreatDoor
