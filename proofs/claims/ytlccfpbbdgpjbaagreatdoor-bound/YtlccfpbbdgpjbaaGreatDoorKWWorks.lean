import Derived.Test.YtlccfpbbdgpjbaaGreatDoorKWJoin
import Derived.Test.YtlccfpbbdgpjbaaGreatDoorZThM
namespace Go.Proofs.YtlccfpbbdgpjbaaGreatDoor
open Go.RowKit

set_option maxRecDepth 100000 in
set_option maxHeartbeats 8000000 in
theorem works_any (W : World) (hL : Laid W) : Calls Tryz.prog 22 #[] W fun e w' => e = .returned (.bool true) ∧ Below W.heap.size W w' := by
  have hz : IntsAt W none 0 [] := ⟨rfl, (fun z hz => by cases hz), by simp [maxLen], .inl rfl⟩
  have HB := hide (begun_any none 0 0 [] W hL hz)
  have hok := kOk []
  have hdep : (confV []).deposit = 0 := by decide
  generalize confV [] = c at HB hok hdep
  obtain ⟨eA, h, set', eM, hh, _⟩ := th_submit hok hdep 0 0 0 [] 3 10 false (by omega) (by omega) (by omega)
  obtain ⟨eA2, eM2⟩ := th_ok (c := c) 0 1 set' [] 3 false 10 0 1 h hh 5
  have eM' : stepM (initS c) ⟨1, 3, 0, 0, 10, false, 0, 0⟩ = thA c 0 1 set' [] 3 false 10 0 1 h := eM
  have HOK := hide hok
  have HE := hide eM'
  have HE2 := hide eA2
  have HE3 := hide eM2
  clear hok hdep eA eM eA2 eM2 eM' hz hL hh
  have w3 : (Lit.int .i64 3).wf = true := by decide
  have w0 : (Lit.int .i64 0).wf = true := by decide
  have w1' : (Lit.int .i64 1).wf = true := by decide
  have HW3 := hide w3
  have HW0 := hide w0
  have HW1 := hide w1'
  clear w3 w0 w1'
  go_enter Tryz.func22, Tryz.ntmps22
  go_wp2_with fail
  refine HB.out.mono ?_
  rintro e w1 ⟨V, U, rfl, hA, hV, hU, hb⟩
  have hX : KX (fun _ _ _ => True) 0 w1 (initS c) W0 V U := ⟨hA, inv_init HOK.out, kept_init c trivial, rfl, rfl, Int.le_refl _, Int.le_refl _⟩
  have HS := hide (wstep_any keeps_true hX (by omega) ⟨1, 3, 0, 0, 10, false, 0, 0⟩ ⟨⟨by decide, by decide⟩, ⟨HW3.out, HW0.out, Int.le_refl _⟩, by decide, by decide⟩)
  rw [HE.out] at HS
  unfold evV at HS
  dsimp only at HS
  obtain ⟨q, HUq⟩ : ∃ q, Hid (U.q = q) := ⟨_, rfl⟩
  rw [show U.q = q from HUq.out] at HS ⊢
  have HV := hide hV
  have HU := hide hU
  have HBB := hide hb
  clear hA hX hV hU hb HB
  go_wp2_with fail
  refine HS.out.mono ?_
  rintro e w2 ⟨rfl, W2, V2, U2, hX2, hM2⟩
  have xq := hX2.all.wr.kk 0 _ rfl
  rw [hM2.q, show U.q = q from HUq.out] at xq
  have hP := hide (rep_step (hedge_all U2.x c) hX2.all.pr hX2.inv (by omega) (sp_of hX2.inv hX2.kept.held.i2) (by have := hX2.st; omega) ⟨2, 0, 1, 5, 0, false, 0, 0⟩ ⟨HW0.out, HW1.out, Int.le_refl _⟩)
  rw [HE2.out, HE3.out] at hP
  unfold evV at hP
  dsimp only at hP
  obtain ⟨hb2, hV2, hU2⟩ := hM2.belowB HBB.out.size HV.out HU.out
  have HB2 := hide (HBB.out.trans hb2)
  have HV2 := hide hV2
  have HU2 := hide hU2
  have hs2 := hide HB2.out.size
  clear hX2 hM2 hb2 hV2 hU2 HS HBB
  go_wp2_with fail
  refine hP.out.mono ?_
  rintro e w3 ⟨v, V3, rfl, r3, h3, m3, t3⟩
  obtain ⟨hb3, -, -⟩ := (XMv.ofP U2 m3).belowB hs2.out HV2.out HU2.out
  have HB3 := hide (HB2.out.trans hb3)
  obtain ⟨g, cap, rfl, hob⟩ := r3.at (by simp)
  have q0 : w3.cell? ⟨g, 0, none⟩ = some (.int .i64 3) := (r3.cell encAct_len (g := g) (i := 0) (j := 0) hob (by simp) rfl).1
  have q1 : w3.cell? ⟨g, 1, none⟩ = some (.int .i64 3) := (r3.cell encAct_len (g := g) (i := 0) (j := 1) hob (by simp) rfl).1
  have q2 : w3.cell? ⟨g, 2, none⟩ = some (.int .i64 0) := (r3.cell encAct_len (g := g) (i := 0) (j := 2) hob (by simp) rfl).1
  have q3 : w3.cell? ⟨g, 3, none⟩ = some (.int .i64 1) := (r3.cell encAct_len (g := g) (i := 0) (j := 3) hob (by simp) rfl).1
  have q4 : w3.cell? ⟨g, 4, none⟩ = some (.int .i64 5) := (r3.cell encAct_len (g := g) (i := 0) (j := 4) hob (by simp) rfl).1
  have q5 : w3.cell? ⟨g, 5, none⟩ = some (.int .i64 0) := (r3.cell encAct_len (g := g) (i := 0) (j := 5) hob (by simp) rfl).1
  simp only [List.length_singleton]
  clear r3 h3 m3 t3 hb3 hP xq hob
  go_wp2_with fail
  go_ret
  exact ⟨rfl, HB3.out⟩
end Go.Proofs.YtlccfpbbdgpjbaaGreatDoor
