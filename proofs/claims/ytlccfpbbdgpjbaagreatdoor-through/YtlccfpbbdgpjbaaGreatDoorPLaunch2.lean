/-
  launch.
-/
import Derived.Test.YtlccfpbbdgpjbaaGreatDoorPLaunch
namespace Go.Proofs.YtlccfpbbdgpjbaaGreatDoor
open Go.RowKit Go.Maps

section
variable {w : World} {p : Nat} {s : PSt} {V : PV}

theorem Gives.one {w W : World} {V V4 : PV} {p : Nat} {s' : PSt} (h : PRep W p s' V4) (m : PMv V w V4 W) (a : RAct) : Gives w (W.alloc (.cells (encAct a).toArray 55)).drew V V4 p (.slice (some ⟨W.heap.size, 0, none⟩) 1 1) [a] s' := by
  have hb : Below W.heap.size W (W.alloc (.cells (encAct a).toArray 55)).drew := ((Below.refl _ _).alloc (Nat.le_refl _) _).drew
  refine ⟨Row.drew ⟨rfl, .inr ⟨W.heap.size, 1, _, rfl, m.size, heap_alloc_new _ _, Nat.le_refl _, by simp [maxLen], rfl, rfl⟩⟩, h.on hb, m.trans (PMv.of_below hb), ?_⟩
  intro k hk
  have e : W.heap.size = k := by simpa [Value.ownBlock] using hk
  rcases Nat.lt_or_ge (V4.tag k) 7 with h2 | h2
  · have := h.tl k h2
    omega
  · exact h2

set_option maxRecDepth 100000 in
set_option maxHeartbeats 8000000 in
theorem rep_launch (h : PRep w p s V) {c : PCall} (hc : c ∈ s.calls) (hl : s.atts.length ≤ 999999) (l0 : 0 ≤ s.launched) (l1 : s.launched ≤ 4611686018427387904) (h0 : 0 ≤ c.had) (h1 : c.had ≤ 1000) (n0 : 0 ≤ s.now) (n1 : s.now ≤ 1099511627776) (d0 : 0 ≤ c.deadline) (d1 : c.deadline ≤ 1099511627776)
    (hfr : mget (attL s.atts) (s.launched + 1) = none) (HS : HedgeOk p (launch0 s c) (hadUp c)) :
    Calls Tryz.prog 96 #[.pointer (some ⟨p, 0, none⟩), .pointer (some ⟨V.q c.number, 0, none⟩)] w fun e w' => ∃ v V', e = .returned v ∧ Gives w w' V V' p v (launchA s c) (launchM s c) := by
  have lp := h.lp
  have lq := h.lq hc
  have hpq : p ≠ V.q c.number := fun e => by
    have h1 := h.tq c hc
    rw [← e, h.tp] at h1
    omega
  have cL : w.cell? ⟨p, 17, none⟩ = some (.int .i64 s.launched) := h.kk _ _ rfl
  have fL : w.frozen? ⟨p, 17, none⟩ = false := h.fz _ (by omega)
  have cN : w.cell? ⟨p, 10, none⟩ = some (.int .i64 s.now) := h.kk _ _ rfl
  have cA : w.cell? ⟨p, 16, none⟩ = some (.map (some V.ba)) := h.kk _ _ rfl
  obtain ⟨cH, fH⟩ := h.cc c hc 3 _ rfl
  obtain ⟨cX, _⟩ := h.cc c hc 0 _ rfl
  obtain ⟨h1', m1⟩ := h.set_cell (s' := { s with launched := s.launched + 1 }) (Fr.store (j := 17) (.int .i64 (s.launched + 1))) (World.cell?_setCell_same _ _ _ cL) rfl rfl rfl rfl rfl rfl id
  obtain ⟨h2', m2⟩ := h1'.set_call hc hadUp (fun _ => rfl) 3 (.int .i64 (c.had + 1)) rfl
  obtain ⟨w3, hrun, hM3, ht3⟩ := h2'.drew.mA.put Tryz.underlying3 Tryz.underlying89 (by simpa [attL] using Nat.le_trans hl (by omega)) (k := s.launched + 1) (WalkArith.wf_i64 (by omega)) hfr (u := attV ⟨c.number, s.now⟩) rfl
  have hM3' : MapI Tryz.prog 3 okAtt w3 V.ba (attL (s.atts ++ [(s.launched + 1, ⟨c.number, s.now⟩)])) := by
    simpa [attL] using hM3
  obtain ⟨h3, m3⟩ := h2'.drew.set_a hM3' (Kp.of_map ht3)
  have HSC := hide (HS w3 V h3 (mem_upd hc rfl))
  have HMV := hide ((m1.trans m2).trans ((PMv.of_below (Below.refl _ _).drew).trans m3))
  unfold attV at hrun
  clear h1' h2' m1 m2 m3 h3 hM3 hM3' ht3 HS hfr h
  go_enter Tryz.func96, Tryz.ntmps96
  go_wp2_with fail
  go_region
  go_wp2_with fail
  refine HSC.out.mono ?_
  rintro e w4 ⟨rfl, V4, h4, m4, q4⟩
  obtain ⟨_, e2, _, e4, _, e6, _⟩ := setHedgeM_same (launch0 s c) (hadUp c)
  have hc4 : hadUp c ∈ (launchM s c).calls := by
    unfold launchM
    rw [e4]
    exact mem_upd hc rfl
  have hq : V4.q (hadUp c).number = V.q c.number := by rw [q4]; rfl
  have cX4 : w4.cell? ⟨V.q c.number, 0, none⟩ = some (.int .i64 c.number) := by rw [← hq]; exact (h4.cc _ hc4 _ _ rfl).1
  have cD4 : w4.cell? ⟨V.q c.number, 2, none⟩ = some (.int .i64 c.deadline) := by rw [← hq]; exact (h4.cc _ hc4 _ _ rfl).1
  have cL4 : w4.cell? ⟨p, 17, none⟩ = some (.int .i64 (s.launched + 1)) := by
    have := h4.kk 17 _ rfl
    rw [e6] at this
    exact this
  have cN4 : w4.cell? ⟨p, 10, none⟩ = some (.int .i64 s.now) := by
    have := h4.kk 10 _ rfl
    rw [e2] at this
    exact this
  have H4 := hide h4
  have M4 := hide m4
  clear h4 m4 HSC hrun cX cL cH cN cA fL fH e2 e4 e6 hq hc4
  have lp4 : p < w4.heap.size := World.block_lt_of_cell? w4 _ cL4
  have lq4 : V.q c.number < w4.heap.size := World.block_lt_of_cell? w4 _ cX4
  go_wp2_with fail
  go_region
  go_wp2_with fail
  go_ret
  exact ⟨_, V4, rfl, Gives.one H4.out (HMV.out.trans M4.out) ⟨1, c.number, s.launched + 1, 0, 0, c.deadline - s.now⟩⟩
end
end Go.Proofs.YtlccfpbbdgpjbaaGreatDoor
