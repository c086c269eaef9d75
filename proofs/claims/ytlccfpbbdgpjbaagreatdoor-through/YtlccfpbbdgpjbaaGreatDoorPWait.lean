/-
  waitOrFail.
-/
import Derived.Test.YtlccfpbbdgpjbaaGreatDoorPLaunch2
namespace Go.Proofs.YtlccfpbbdgpjbaaGreatDoor
open Go.RowKit Go.Maps

section
variable {w : World} {p : Nat} {s : PSt} {V : PV}

theorem Gives.of_nil {w w' : World} {V V' : PV} {p : Nat} {s' : PSt} (h : PRep w' p s' V') (m : PMv V w V' w') : Gives w w' V V' p (.slice none 0 0) [] s' :=
  ⟨Row.nil _ _ _ _ _, h, m, fun k hk => by simp [Value.ownBlock] at hk⟩

/-- Something went before. -/
theorem Gives.after {w w1 w2 : World} {V V1 V2 : PV} {p : Nat} {v : Value} {acts : List RAct} {s' : PSt} (m : PMv V w V1 w1) (g : Gives w1 w2 V1 V2 p v acts s') : Gives w w2 V V2 p v acts s' :=
  ⟨g.1.base m.size, g.2.1, m.trans g.2.2.1, g.2.2.2⟩

set_option maxRecDepth 100000 in
set_option maxHeartbeats 8000000 in
theorem rep_waitOrFail (h : PRep w p s V) {c : PCall} (hc : c ∈ s.calls) (draw : Int) (hd0 : 0 ≤ draw) (hs : 0 < s.set) (hs1 : s.set ≤ 4611686018427387904) (hl : s.atts.length ≤ 1000000) (hlt : s.timers.length ≤ 900000)
    (b0 : 1 ≤ s.cfg.base) (b1 : s.cfg.base ≤ s.cfg.most) (b2 : s.cfg.most ≤ 10000) (w0 : s.cfg.base ≤ c.wait) (wt1 : c.wait ≤ 10000) (n0 : 0 ≤ s.now) (n1 : s.now ≤ 1099511627776) :
    Calls Tryz.prog 69 #[.pointer (some ⟨p, 0, none⟩), .pointer (some ⟨V.q c.number, 0, none⟩), .int .u64 draw] w fun e w' => ∃ v V', e = .returned v ∧ Gives w w' V V' p v (waitA s c draw) (waitM s c draw) := by
  have lp := h.lp
  obtain ⟨q, hq⟩ : ∃ q, V.q c.number = q := ⟨_, rfl⟩
  have cX : w.cell? ⟨q, 0, none⟩ = some (.int .i64 c.number) := by rw [← hq]; exact (h.cc c hc _ _ rfl).1
  have HD := hide (rep_dropHedge h c.number hs (by omega))
  rw [hq]
  have HH := hide h
  clear h
  have hwt : waitOf s c draw ≤ 10000 ∧ 0 ≤ waitOf s c draw := by
    unfold waitOf waitP
    have := Int.emod_nonneg draw (b := 3 * c.wait - s.cfg.base + 1) (by omega)
    omega
  go_enter Tryz.func69, Tryz.ntmps69
  go_wp2_with fail
  refine HD.out.mono ?_
  rintro e w1 ⟨rfl, V1, h1, m1, q1⟩
  have hq1 : V1.q c.number = q := by rw [q1]; exact hq
  have hc1 : c ∈ (noHedge s c.number).calls := hc
  have cW1 : w1.cell? ⟨q, 4, none⟩ = some (.int .i64 c.wait) := by rw [← hq1]; exact (h1.cc c hc1 _ _ rfl).1
  have HW := hide (wait_any p s.cfg.base s.cfg.most c.wait draw w1 b0 (by omega) w0 wt1 hd0 (h1.kk _ _ rfl) (h1.kk _ _ rfl))
  clear HD cX
  go_wp2_with fail
  refine HW.out.mono ?_
  rintro e w2 ⟨rfl, hb2⟩
  have h2 := h1.on hb2
  have cH2 : w2.cell? ⟨q, 3, none⟩ = some (.int .i64 c.had) := by rw [← hq1]; exact (h2.cc c hc1 _ _ rfl).1
  have cD2 : w2.cell? ⟨q, 2, none⟩ = some (.int .i64 c.deadline) := by rw [← hq1]; exact (h2.cc c hc1 _ _ rfl).1
  have cX2 : w2.cell? ⟨q, 0, none⟩ = some (.int .i64 c.number) := by rw [← hq1]; exact (h2.cc c hc1 _ _ rfl).1
  have cA2 : w2.cell? ⟨p, 4, none⟩ = some (.int .i64 s.cfg.attempts) := h2.kk _ _ rfl
  have cN2 : w2.cell? ⟨p, 10, none⟩ = some (.int .i64 s.now) := h2.kk _ _ rfl
  have hwe : waitP s.cfg.base s.cfg.most c.wait draw = waitOf s c draw := rfl
  rw [hwe]
  generalize hz : waitOf s c draw = z at hwt
  have lp2 := h2.lp
  have lq2 : q < w2.heap.size := by rw [← hq1]; exact h2.lq hc1
  obtain ⟨_, fW2⟩ := h2.cc c hc1 4 _ rfl
  rw [hq1] at fW2
  have cW2 : w2.cell? ⟨q, 4, none⟩ = some (.int .i64 c.wait) := by rw [← hq1]; exact (h2.cc c hc1 _ _ rfl).1
  have HFN := hide (fun n => rep_finish (h2.on (below_drewN w2 n)) hc1 2 0 hs hl (Nat.le_trans (List.length_filter_le _ _) (by omega)))
  rw [hq1] at HFN
  have HM := hide (fun n => m1.trans ((PMv.of_below hb2).trans (PMv.of_below (below_drewN w2 n))))
  have HT := hide (fun n => (h2.on (below_drewN w2 n)).set_call hc1 (waitUp z) (fun _ => rfl) 4 (.int .i64 z) rfl)
  rw [hq1] at HT
  have hlt1 : (s.timers.filter (staysH c.number)).length ≤ 900000 := Nat.le_trans (List.length_filter_le _ _) hlt
  clear h1 h2 m1 hb2 HW HH cW1 hwe
  by_cases hA : s.cfg.attempts ≤ c.had
  · have hov : overM s c draw := .inl hA
    have hA' : decide (s.cfg.attempts ≤ c.had) = true := decide_eq_true hA
    clear HT
    go_wp2_with fail
    go_quiet (fail)
    go_wp2_with fail
    refine (HFN.out _).mono ?_
    rintro e w3 ⟨v, V3, rfl, hr3, h3, m3, t3⟩
    have HG := hide (Gives.after (HM.out _) ⟨hr3, h3, m3, t3⟩)
    clear hr3 h3 m3 t3 HFN HM
    go_wp2_with fail
    go_ret
    exact ⟨v, V3, rfl, by rw [show waitA s c draw = finishA (noHedge s c.number) c.number 2 0 from if_pos hov, show waitM s c draw = finishM (noHedge s c.number) c.number from if_pos hov]; exact HG.out⟩
  · have hA' : decide (s.cfg.attempts ≤ c.had) = false := decide_eq_false hA
    by_cases hB : c.deadline ≤ s.now + z
    · have hov : overM s c draw := .inr (by rw [hz]; exact hB)
      have hB' : decide (c.deadline ≤ s.now + z) = true := decide_eq_true hB
      clear HT
      go_wp2_with fail
      go_quiet (fail)
      go_wp2_with fail
      refine (HFN.out _).mono ?_
      rintro e w3 ⟨v, V3, rfl, hr3, h3, m3, t3⟩
      have HG := hide (Gives.after (HM.out _) ⟨hr3, h3, m3, t3⟩)
      clear hr3 h3 m3 t3 HFN HM
      go_wp2_with fail
      go_ret
      exact ⟨v, V3, rfl, by rw [show waitA s c draw = finishA (noHedge s c.number) c.number 2 0 from if_pos hov, show waitM s c draw = finishM (noHedge s c.number) c.number from if_pos hov]; exact HG.out⟩
    · have hov : ¬ overM s c draw := fun h => h.elim hA (fun h' => hB (by rw [hz] at h'; exact h'))
      have hB' : decide (c.deadline ≤ s.now + z) = false := decide_eq_false hB
      have HE : Hid (againM (noHedge s c.number) c draw = addTimer { noHedge s c.number with calls := updCall c.number (waitUp z) s.calls } 2 c.number (s.now + z)) := by
        unfold againM
        rw [show waitOf (noHedge s c.number) c draw = z from hz]
        rfl
      clear HFN
      go_wp2_with fail
      go_quiet (fail)
      go_wp2_with fail
      obtain ⟨h3, m3⟩ := HT.out nq
      have M3 := hide ((HM.out nq).trans m3)
      have hc3 : waitUp z c ∈ updCall c.number (waitUp z) s.calls := mem_upd hc1 rfl
      have cX3 := (h3.cc _ hc3 0 _ rfl).1
      rw [show V1.q (waitUp z c).number = q from hq1] at cX3
      have cN3 : ((w2.drewN nq).setCell ⟨q, 4, none⟩ (.int .i64 z)).cell? ⟨p, 10, none⟩ = some (.int .i64 s.now) := h3.kk _ _ rfl
      have HST := hide (rep_setTimer h3.drew 2 c.number (s.now + z) (by show (s.timers.filter (staysH c.number)).length ≤ _; omega) (by show 0 ≤ s.set; omega) hs1)
      generalize (w2.drewN nq).setCell ⟨q, 4, none⟩ (.int .i64 z) = W at h3 m3 M3 cX3 cN3 HST ⊢
      have cX3' : W.cell? ⟨q, 0, none⟩ = some (.int .i64 c.number) := cX3
      have lpW := h3.lp
      have lqW : q < W.heap.size := World.block_lt_of_cell? W _ cX3'
      clear HT h3 m3 cX3 cW2 cH2 cD2 cX2 cA2 cN2 fW2
      have hwr : IntKind.i64.wrap (s.now + z) = s.now + z := by rw [IntKind.wrap_i64]; omega
      have HWR := hide hwr
      rw [← hwr] at HST
      have Hq := hide (show V1.q (waitUp z c).number = q from hq1)
      have Hc3 := hide hc3
      have Hov := hide hov
      clear hwr hc3 hq1 hov hz hwt hc1 hc q1 hq hA hA' hB hB' hlt1 hlt hl
      go_region_held3 (fun w' => w'.cell? ⟨q, 0, none⟩ = some (.int .i64 c.number) ∧ w'.cell? ⟨p, 10, none⟩ = some (.int .i64 s.now))
        (first
          | exact ⟨c4a, c4b⟩
          | (go_keep; done))
        (first
          | (go_at_call 95; refine HST.out.mono ?_; rintro e w4 ⟨rfl, V4, h4, m4, q4⟩
             have c4a : w4.cell? ⟨q, 0, none⟩ = some (.int .i64 c.number) := by
               have := (h4.cc _ Hc3.out 0 _ rfl).1
               rw [q4, Hq.out] at this
               exact this
             have c4b : w4.cell? ⟨p, 10, none⟩ = some (.int .i64 s.now) := h4.kk _ _ rfl
             rw [HWR.out] at h4
             have H4 := hide h4
             have M4 := hide m4
             clear h4 m4 q4))
      go_wp2_with fail
      go_ret
      refine ⟨_, V4, rfl, ?_⟩
      rw [show waitA s c draw = [] from if_neg Hov.out, show waitM s c draw = againM (noHedge s c.number) c draw from if_neg Hov.out, HE.out]
      exact Gives.of_nil H4.out (M3.out.trans ((PMv.of_below (Below.refl _ _).drew).trans M4.out))
end
end Go.Proofs.YtlccfpbbdgpjbaaGreatDoor
