/-
  admit, submit.
-/
import Derived.Test.YtlccfpbbdgpjbaaGreatDoorPPut
namespace Go.Proofs.YtlccfpbbdgpjbaaGreatDoor
open Go.RowKit Go.Maps

section
variable {w : World} {p : Nat} {s : PSt} {V : PV}

set_option maxRecDepth 100000 in
set_option maxHeartbeats 8000000 in
theorem rep_admit (HA : HedgeAll p s.cfg) {N : Int} (h : PRep w p s V) (hI : Inv N s) (hN : N ≤ 60000) (e : PEv) (hw : (Lit.int .i64 e.call).wf = true) (hy : whyM s e = 0) :
    Calls Tryz.prog 65 #[.pointer (some ⟨p, 0, none⟩), evV e] w fun ex w' => ∃ v V', ex = .returned v ∧ Gives w w' V V' p v (admitA s e) (admitM s e) := by
  have lp := h.lp
  obtain ⟨t0, t1, _, t3, t4⟩ := why0 hy
  have hn0 := hI.n0
  have hn1 := hI.n1
  obtain ⟨k, c, a, v, t, sf, d, o⟩ := e
  unfold evV
  dsimp only at hw t0 t1 t4 ⊢
  obtain ⟨B, hBx⟩ : ∃ B, B = w.alloc (.cells #[.int .i64 k, .int .i64 c, .int .i64 a, .int .i64 v, .int .i64 t, .bool sf, .int .u64 d, .int .i64 o] 39) := ⟨_, rfl⟩
  have hB0 : Below w.heap.size w B := by rw [hBx]; exact (Below.refl _ _).alloc (Nat.le_refl _) _
  have hB := h.on hB0
  have e1 : B.cell? ⟨w.heap.size, 1, none⟩ = some (.int .i64 c) := by rw [hBx]; simp
  have e4 : B.cell? ⟨w.heap.size, 4, none⟩ = some (.int .i64 t) := by rw [hBx]; simp
  have e5 : B.cell? ⟨w.heap.size, 5, none⟩ = some (.bool sf) := by rw [hBx]; simp
  have lB : w.heap.size < B.heap.size := World.block_lt_of_cell? B _ e1
  have cN : B.cell? ⟨p, 10, none⟩ = some (.int .i64 s.now) := hB.kk _ _ rfl
  have cK : B.cell? ⟨p, 6, none⟩ = some (.int .i64 s.cfg.base) := hB.kk _ _ rfl
  have cC : B.cell? ⟨p, 15, none⟩ = some (.map (some V.bc)) := hB.kk _ _ rfl
  have HB := hide hBx
  have HH := hide hB
  clear hBx h hB
  go_enter Tryz.func65, Tryz.ntmps65
  go_wp2_with fail
  all_goals (try rw [← HB.out])
  go_region
  go_wp2_with fail
  have hW0 : Below B.heap.size B (B.alloc (.cells #[.int .i64 c, .bool sf, .int .i64 (s.now + t), .int .i64 0, .int .i64 s.cfg.base] 142)).drew := ((Below.refl _ _).alloc (Nat.le_refl _) _).drew
  have hq0 : CallAt (B.alloc (.cells #[.int .i64 c, .bool sf, .int .i64 (s.now + t), .int .i64 0, .int .i64 s.cfg.base] 142)).drew B.heap.size (newCall s ⟨k, c, a, v, t, sf, d, o⟩) := by
    intro j u hu
    have hb := heap_alloc_new B (.cells #[.int .i64 c, .bool sf, .int .i64 (s.now + t), .int .i64 0, .int .i64 s.cfg.base] 142)
    refine ⟨?_, ?_⟩
    · show (B.alloc _).cell? _ = _
      rw [cell_of_row _ _ _ _ _ _ hb]
      simpa [encPC, newCall] using hu
    · show (B.alloc _).frozen? _ = _
      unfold World.frozen?
      dsimp only
      rw [hb]
      simp
  have hl0 : B.heap.size < (B.alloc (.cells #[.int .i64 c, .bool sf, .int .i64 (s.now + t), .int .i64 0, .int .i64 s.cfg.base] 142)).drew.heap.size := by
    show _ < (B.alloc _).heap.size
    simp
  generalize (B.alloc (.cells #[.int .i64 c, .bool sf, .int .i64 (s.now + t), .int .i64 0, .int .i64 s.cfg.base] 142)).drew = W1 at hW0 hq0 hl0 ⊢
  have h1 := HH.out.on hW0
  have hnn := whyM_none hy
  have hmg : mget (callL s.calls V.q) c = none := mget_callL_none (by
    rw [List.find?_eq_none]
    intro x hx
    simpa using hnn x hx)
  obtain ⟨w3, hrun, hM3, ht3⟩ := h1.drew.mC.put Tryz.underlying3 Tryz.underlying88 (by
    have := hI.cl
    have := hI.cfg.f1
    unfold callL
    rw [List.length_map]
    omega) hw hmg (u := .pointer (some ⟨B.heap.size, 0, none⟩)) rfl
  have htB : 7 ≤ V.tag B.heap.size := by
    rcases Nat.lt_or_ge (V.tag B.heap.size) 7 with h2 | h2
    · have := HH.out.tl _ h2
      omega
    · exact h2
  obtain ⟨V3, h3, m3, q3⟩ := h1.drew.put_call (c := newCall s ⟨k, c, a, v, t, sf, d, o⟩) (hq0.same rfl) hl0 htB hnn hM3 (Kp.of_map ht3) ((PMv.of_below (hB0.trans (hW0.mono hB0.size))).trans (PMv.of_below (Below.refl _ _).drew)) hB0.size
  have x0 : W1.cell? ⟨B.heap.size, 0, none⟩ = some (.int .i64 c) := (hq0 _ _ rfl).1
  have cC1 : W1.cell? ⟨p, 15, none⟩ = some (.map (some V.bc)) := h1.kk _ _ rfl
  have lp1 := h1.lp
  have hcf := hI.cfg
  have HBR := hide (rep_bring h3.drew (by have := hI.ul; show s.units.length ≤ _; omega) hI.ub hcf.d0 hcf.d1 hcf.p0 hcf.p1)
  have c3 : w3.cell? ⟨p, 10, none⟩ = some (.int .i64 s.now) := h3.kk _ _ rfl
  have lp3 := h3.lp
  have Hq3 := hide q3
  have M3 := hide (m3.trans (PMv.of_below (Below.refl _ _).drew))
  have HHH := hide hI
  have Hcf := hide hcf
  clear h1 h3 m3 ht3 hM3 hmg hnn hq0 hW0 htB e1 e4 e5 cN cK cC hI hcf q3
  go_region
  go_wp2_with fail
  go_region_held3 (fun w' => w'.cell? ⟨p, 10, none⟩ = some (.int .i64 s.now))
    (first
      | exact c4
      | (go_keep; done))
    (first
      | (go_at_call 94; refine HBR.out.mono ?_; rintro e w4 ⟨rfl, V4, h4, m4, q4⟩
         have c4 : w4.cell? ⟨p, 10, none⟩ = some (.int .i64 s.now) := h4.kk _ _ rfl
         have H4 : Hid (PRep w4 p (bringM { s with calls := s.calls ++ [newCall s ⟨k, c, a, v, t, sf, d, o⟩] }) V4) := h4
         have M4 := hide (M3.out.trans m4)
         have Hq4 := hide (show V4.q c = B.heap.size by rw [q4]; exact Hq3.out)
         clear h4 m4 q4))
  have hc4 : newCall s ⟨k, c, a, v, t, sf, d, o⟩ ∈ (bringM { s with calls := s.calls ++ [newCall s ⟨k, c, a, v, t, sf, d, o⟩] }).calls := List.mem_append_right _ (by simp)
  have x4 : w4.cell? ⟨B.heap.size, 0, none⟩ = some (.int .i64 c) := by rw [← Hq4.out]; exact (H4.out.cc _ hc4 _ _ rfl).1
  have y4 : w4.cell? ⟨B.heap.size, 2, none⟩ = some (.int .i64 (s.now + t)) := by rw [← Hq4.out]; exact (H4.out.cc _ hc4 _ _ rfl).1
  have HST := hide (rep_setTimer H4.out.drew 1 c (s.now + t) (by have := HHH.out.tN; show s.timers.length ≤ _; omega) HHH.out.s0 (by have := HHH.out.sN; show s.set ≤ _; omega))
  have lp4 : p < w4.heap.size := World.block_lt_of_cell? w4 _ c4
  have lq4 : B.heap.size < w4.heap.size := World.block_lt_of_cell? w4 _ x4
  have Hc4 := hide hc4
  clear hc4 HBR M3 Hq3 x0 cC1 hrun c3
  go_wp2_with fail
  go_region_held3 (fun w' => w'.cell? ⟨B.heap.size, 0, none⟩ = some (.int .i64 c) ∧ w'.cell? ⟨B.heap.size, 2, none⟩ = some (.int .i64 (s.now + t)))
    (first
      | exact ⟨x5, y5⟩
      | (go_keep; done))
    (first
      | (go_at_call 95; refine HST.out.mono ?_; rintro e w5 ⟨rfl, V5, h5, m5, q5⟩
         have H5 : Hid (PRep w5 p (admit0 s ⟨k, c, a, v, t, sf, d, o⟩) V5) := h5
         have Hq5 := hide (show V5.q c = B.heap.size by rw [q5]; exact Hq4.out)
         have x5 : w5.cell? ⟨B.heap.size, 0, none⟩ = some (.int .i64 c) := by rw [← Hq5.out]; exact (H5.out.cc _ Hc4.out _ _ rfl).1
         have y5 : w5.cell? ⟨B.heap.size, 2, none⟩ = some (.int .i64 (s.now + t)) := by rw [← Hq5.out]; exact (H5.out.cc _ Hc4.out _ _ rfl).1
         have M5 := hide (M4.out.trans ((PMv.of_below (Below.refl _ _).drew).trans m5))
         clear h5 m5 q5))
  obtain ⟨i0, i1, i2, i3⟩ := inv_admit0 HHH.out _ hy
  have HLL := hide (rep_launch H5.out i1 (by have := i0.aN; omega) i0.l0 (by have := i0.lN; omega) (Int.le_refl _) (by show (0 : Int) ≤ 1000; omega) i0.n0 i0.n1 (by show 0 ≤ s.now + t; omega) t4 (mget_none (by
      intro x hx e'
      obtain ⟨y, hy', rfl⟩ := List.mem_map.1 hx
      have h9 := (i0.ab y hy').2.1
      dsimp only at e'
      omega)) (HA _ _ _ (by omega) rfl (inv_launch0 i0 i1 i2 i3)))
  rw [show V5.q (newCall s ⟨k, c, a, v, t, sf, d, o⟩).number = B.heap.size from Hq5.out] at HLL
  clear i0 i1 i2 i3 HST
  go_wp2_with fail
  refine HLL.out.mono ?_
  rintro e w6 ⟨v6, V6, rfl, g6⟩
  have HG := hide (Gives.after M5.out g6)
  clear g6 HLL M5
  go_wp2_with fail
  go_ret
  exact ⟨v6, V6, rfl, HG.out⟩
end
end Go.Proofs.YtlccfpbbdgpjbaaGreatDoor
