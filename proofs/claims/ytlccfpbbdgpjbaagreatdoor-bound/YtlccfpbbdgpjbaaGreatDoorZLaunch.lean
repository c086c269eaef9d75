import Derived.Test.YtlccfpbbdgpjbaaGreatDoorZModel
namespace Go.Proofs.YtlccfpbbdgpjbaaGreatDoor
open Go.RowKit Go.Maps

theorem below_drewN2 (w : World) (n m : Nat) : Below w.heap.size w ((w.drewN n).drewN m) := ⟨rfl, rfl, rfl, Nat.le_refl _, fun _ _ => rfl⟩

set_option maxRecDepth 100000 in
set_option maxHeartbeats 1600000 in
theorem countM_any (p o : Nat) (A : Option Addr) (n cap : Nat) (w : World) (hc : w.cell? ⟨p, o, none⟩ = some (.slice A n cap)) :
    Calls Tryz.prog 49 #[.pointer (some ⟨p, o, none⟩)] w fun e w' => e = .returned (.int .i64 n) ∧ w' = w := by
  go_enter Tryz.func49, Tryz.ntmps49
  go_wp2_with fail
  go_ret
  exact ⟨rfl, rfl⟩

section
variable {w : World} {p : Nat} {s : PSt} {V : PV}

set_option maxRecDepth 100000 in
set_option maxHeartbeats 4000000 in
theorem rep_mayHedge (h : PRep w p s V) {c : PCall} (hc : c ∈ s.calls) :
    Calls Tryz.prog 135 #[.pointer (some ⟨p, 0, none⟩), .pointer (some ⟨V.q c.number, 0, none⟩)] w fun e w' => e = .returned (.bool (mayHedgeM s c)) ∧ Below w.heap.size w w' := by
  have cS : w.cell? ⟨p, 9, none⟩ = some (.int .i64 s.cfg.samples) := h.kk _ _ rfl
  have cA : w.cell? ⟨p, 4, none⟩ = some (.int .i64 s.cfg.attempts) := h.kk _ _ rfl
  have cF : w.cell? ⟨V.q c.number, 1, none⟩ = some (.bool c.safe) := (h.cc c hc _ _ rfl).1
  have cH : w.cell? ⟨V.q c.number, 3, none⟩ = some (.int .i64 c.had) := (h.cc c hc _ _ rfl).1
  obtain ⟨A, cap, hm, _, _, _⟩ := h.rm.form
  have cM : w.cell? ⟨p, 20, none⟩ = some V.m := h.kk _ _ rfl
  rw [hm] at cM
  have HC := hide (fun W (hW : W.cell? ⟨p, 20, none⟩ = some (.slice A s.times.length cap)) => countM_any p 20 A s.times.length cap W hW)
  have lp := h.lp
  have lq := h.lq hc
  unfold mayHedgeM
  generalize V.q c.number = q at *
  generalize s.times.length = n at *
  generalize s.cfg.samples = k at *
  generalize s.cfg.attempts = m at *
  clear h hc hm
  by_cases h1 : 0 < k
  · have h1' : decide (0 < k) = true := decide_eq_true h1
    by_cases h2 : k ≤ (n : Int)
    · have h2' : decide (k ≤ (n : Int)) = true := decide_eq_true h2
      rw [h1', h2']
      cases hs : c.safe with
      | true =>
        rw [hs] at cF
        go_enter Tryz.func135, Tryz.ntmps135
        go_wp2_with fail
        go_quiet (first | (go_at_call 49; exact Calls.quiet_of_same (HC.out _ (by simpa using cM))))
        go_wp2_with fail
        go_quiet (fail)
        go_wp2_with fail
        go_ret
        exact ⟨rfl, below_drewN2 _ _ _⟩
      | false =>
        rw [hs] at cF
        go_enter Tryz.func135, Tryz.ntmps135
        go_wp2_with fail
        go_quiet (first | (go_at_call 49; exact Calls.quiet_of_same (HC.out _ (by simpa using cM))))
        go_wp2_with fail
        go_quiet (fail)
        go_wp2_with fail
        go_ret
        exact ⟨rfl, below_drewN2 _ _ _⟩
    · have h2' : decide (k ≤ (n : Int)) = false := decide_eq_false h2
      rw [h1', h2']
      cases hs : c.safe with
      | true =>
        rw [hs] at cF
        go_enter Tryz.func135, Tryz.ntmps135
        go_wp2_with fail
        go_quiet (first | (go_at_call 49; exact Calls.quiet_of_same (HC.out _ (by simpa using cM))))
        go_wp2_with fail
        go_quiet (fail)
        go_wp2_with fail
        go_ret
        exact ⟨rfl, below_drewN2 _ _ _⟩
      | false =>
        rw [hs] at cF
        go_enter Tryz.func135, Tryz.ntmps135
        go_wp2_with fail
        go_quiet (first | (go_at_call 49; exact Calls.quiet_of_same (HC.out _ (by simpa using cM))))
        go_wp2_with fail
        go_quiet (fail)
        go_wp2_with fail
        go_ret
        exact ⟨rfl, below_drewN2 _ _ _⟩
  · have h1' : decide (0 < k) = false := decide_eq_false h1
    rw [h1']
    cases hs : c.safe with
    | true =>
      rw [hs] at cF
      go_enter Tryz.func135, Tryz.ntmps135
      go_wp2_with fail
      go_quiet (fail)
      go_wp2_with fail
      go_quiet (fail)
      go_wp2_with fail
      go_ret
      exact ⟨rfl, below_drewN2 _ _ _⟩
    | false =>
      rw [hs] at cF
      go_enter Tryz.func135, Tryz.ntmps135
      go_wp2_with fail
      go_quiet (fail)
      go_wp2_with fail
      go_quiet (fail)
      go_wp2_with fail
      go_ret
      exact ⟨rfl, below_drewN2 _ _ _⟩

set_option maxRecDepth 100000 in
set_option maxHeartbeats 4000000 in
theorem rep_setHedge0 (h : PRep w p s V) {c : PCall} (hc : c ∈ s.calls) (hm : mayHedgeM s c = false) :
    Calls Tryz.prog 115 #[.pointer (some ⟨p, 0, none⟩), .pointer (some ⟨V.q c.number, 0, none⟩)] w fun e w' => e = .returned (.tuple #[]) ∧ ∃ V', PRep w' p (setHedgeM s c) V' ∧ PMv V w V' w' ∧ V'.q = V.q := by
  have HM := hide (rep_mayHedge h hc)
  rw [hm] at HM
  have HE : setHedgeM s c = s := by
    unfold setHedgeM
    rw [if_neg]
    rw [hm]
    simp
  rw [HE]
  have HR := hide h
  clear h hm HE
  go_enter Tryz.func115, Tryz.ntmps115
  go_wp2_with fail
  refine HM.out.mono ?_
  rintro e w1 ⟨rfl, hb⟩
  go_wp2_with fail
  refine bodyPost_ret (results_none rfl _ _ _) rfl ?_
  exact ⟨rfl, V, HR.out.on hb, PMv.of_below hb, rfl⟩

/-- A launch, whatever setHedge does. -/
def HedgeOk (p : Nat) (s : PSt) (c : PCall) : Prop := ∀ (W : World) (V : PV), PRep W p s V → c ∈ s.calls →
  Calls Tryz.prog 115 #[.pointer (some ⟨p, 0, none⟩), .pointer (some ⟨V.q c.number, 0, none⟩)] W fun e w' => e = .returned (.tuple #[]) ∧ ∃ V', PRep w' p (setHedgeM s c) V' ∧ PMv V W V' w' ∧ V'.q = V.q

/-- What comes back: a list of actions that is the caller's own. -/
def Gives (w w' : World) (V V' : PV) (p : Nat) (v : Value) (acts : List RAct) (s' : PSt) : Prop :=
  Row w' w.heap.size 55 6 encAct v acts ∧ PRep w' p s' V' ∧ PMv V w V' w' ∧ (∀ k, v.ownBlock = some k → 7 ≤ V'.tag k)

end
end Go.Proofs.YtlccfpbbdgpjbaaGreatDoor

namespace Go.Proofs.YtlccfpbbdgpjbaaGreatDoor
open Go.RowKit Go.Maps

section
variable {w : World} {p : Nat} {s : PSt} {V : PV}

theorem Gives.one {w W : World} {V V4 : PV} {p : Nat} {s' : PSt} (h : PRep W p s' V4) (m : PMv V w V4 W) (a : RAct) : Gives w (W.alloc (.cells (encAct a).toArray 55)).drew V V4 p (.slice (some ⟨W.heap.size, 0, none⟩) 1 1) [a] s' := by
  have hb : Below W.heap.size W (W.alloc (.cells (encAct a).toArray 55)).drew := ((Below.refl _ _).alloc (Nat.le_refl _) _).drew
  refine ⟨Row.drew ⟨rfl, .inr ⟨W.heap.size, 1, _, rfl, m.size, heap_alloc_new _ _, Nat.le_refl _, by simp [maxLen], rfl, rfl⟩⟩, h.on hb, m.trans (PMv.of_below hb), ?_⟩
  intro k hk
  have e : W.heap.size = k := by simpa [Value.ownBlock] using hk
  rcases Nat.lt_or_ge (V4.tag k) 7 with h2 | h2
  · have := h.tl k h2
    omega
  · exact h2

set_option maxRecDepth 100000 in
set_option maxHeartbeats 8000000 in
theorem rep_launch (h : PRep w p s V) {c : PCall} (hc : c ∈ s.calls) (hl : s.atts.length ≤ 999999) (l0 : 0 ≤ s.launched) (l1 : s.launched ≤ 4611686018427387904) (h0 : 0 ≤ c.had) (h1 : c.had ≤ 1000) (n0 : 0 ≤ s.now) (n1 : s.now ≤ 1099511627776) (d0 : 0 ≤ c.deadline) (d1 : c.deadline ≤ 1099511627776)
    (hfr : mget (attL s.atts) (s.launched + 1) = none) (HS : HedgeOk p (launch0 s c) (hadUp c)) :
    Calls Tryz.prog 96 #[.pointer (some ⟨p, 0, none⟩), .pointer (some ⟨V.q c.number, 0, none⟩)] w fun e w' => ∃ v V', e = .returned v ∧ Gives w w' V V' p v (launchA s c) (launchM s c) := by
  have lp := h.lp
  have lq := h.lq hc
  have hpq : p ≠ V.q c.number := fun e => by
    have h1 := h.tq c hc
    rw [← e, h.tp] at h1
    omega
  have cL : w.cell? ⟨p, 17, none⟩ = some (.int .i64 s.launched) := h.kk _ _ rfl
  have fL : w.frozen? ⟨p, 17, none⟩ = false := h.fz _ (by omega)
  have cN : w.cell? ⟨p, 10, none⟩ = some (.int .i64 s.now) := h.kk _ _ rfl
  have cA : w.cell? ⟨p, 16, none⟩ = some (.map (some V.ba)) := h.kk _ _ rfl
  obtain ⟨cH, fH⟩ := h.cc c hc 3 _ rfl
  obtain ⟨cX, _⟩ := h.cc c hc 0 _ rfl
  obtain ⟨h1', m1⟩ := h.set_cell (s' := { s with launched := s.launched + 1 }) (Fr.store (j := 17) (.int .i64 (s.launched + 1))) (World.cell?_setCell_same _ _ _ cL) rfl rfl rfl rfl rfl rfl id
  obtain ⟨h2', m2⟩ := h1'.set_call hc hadUp (fun _ => rfl) 3 (.int .i64 (c.had + 1)) rfl
  obtain ⟨w3, hrun, hM3, ht3⟩ := h2'.drew.mA.put Tryz.underlying3 Tryz.underlying89 (by simpa [attL] using Nat.le_trans hl (by omega)) (k := s.launched + 1) (WalkArith.wf_i64 (by omega)) hfr (u := attV ⟨c.number, s.now⟩) rfl
  have hM3' : MapI Tryz.prog 3 okAtt w3 V.ba (attL (s.atts ++ [(s.launched + 1, ⟨c.number, s.now⟩)])) := by
    simpa [attL] using hM3
  obtain ⟨h3, m3⟩ := h2'.drew.set_a hM3' (Kp.of_map ht3)
  have HSC := hide (HS w3 V h3 (mem_upd hc rfl))
  have HMV := hide ((m1.trans m2).trans ((PMv.of_below (Below.refl _ _).drew).trans m3))
  unfold attV at hrun
  clear h1' h2' m1 m2 m3 h3 hM3 hM3' ht3 HS hfr h
  go_enter Tryz.func96, Tryz.ntmps96
  go_wp2_with fail
  go_region
  go_wp2_with fail
  refine HSC.out.mono ?_
  rintro e w4 ⟨rfl, V4, h4, m4, q4⟩
  obtain ⟨_, e2, _, e4, _, e6, _⟩ := setHedgeM_same (launch0 s c) (hadUp c)
  have hc4 : hadUp c ∈ (launchM s c).calls := by
    unfold launchM
    rw [e4]
    exact mem_upd hc rfl
  have hq : V4.q (hadUp c).number = V.q c.number := by rw [q4]; rfl
  have cX4 : w4.cell? ⟨V.q c.number, 0, none⟩ = some (.int .i64 c.number) := by rw [← hq]; exact (h4.cc _ hc4 _ _ rfl).1
  have cD4 : w4.cell? ⟨V.q c.number, 2, none⟩ = some (.int .i64 c.deadline) := by rw [← hq]; exact (h4.cc _ hc4 _ _ rfl).1
  have cL4 : w4.cell? ⟨p, 17, none⟩ = some (.int .i64 (s.launched + 1)) := by
    have := h4.kk 17 _ rfl
    rw [e6] at this
    exact this
  have cN4 : w4.cell? ⟨p, 10, none⟩ = some (.int .i64 s.now) := by
    have := h4.kk 10 _ rfl
    rw [e2] at this
    exact this
  have H4 := hide h4
  have M4 := hide m4
  clear h4 m4 HSC hrun cX cL cH cN cA fL fH e2 e4 e6 hq hc4
  have lp4 : p < w4.heap.size := World.block_lt_of_cell? w4 _ cL4
  have lq4 : V.q c.number < w4.heap.size := World.block_lt_of_cell? w4 _ cX4
  go_wp2_with fail
  go_region
  go_wp2_with fail
  go_ret
  exact ⟨_, V4, rfl, Gives.one H4.out (HMV.out.trans M4.out) ⟨1, c.number, s.launched + 1, 0, 0, c.deadline - s.now⟩⟩
end
end Go.Proofs.YtlccfpbbdgpjbaaGreatDoor

namespace Go.Proofs.YtlccfpbbdgpjbaaGreatDoor
open Go.RowKit Go.Maps

section
variable {w : World} {p : Nat} {s : PSt} {V : PV}

theorem Gives.of_nil {w w' : World} {V V' : PV} {p : Nat} {s' : PSt} (h : PRep w' p s' V') (m : PMv V w V' w') : Gives w w' V V' p (.slice none 0 0) [] s' :=
  ⟨Row.nil _ _ _ _ _, h, m, fun k hk => by simp [Value.ownBlock] at hk⟩

/-- Something went before. -/
theorem Gives.after {w w1 w2 : World} {V V1 V2 : PV} {p : Nat} {v : Value} {acts : List RAct} {s' : PSt} (m : PMv V w V1 w1) (g : Gives w1 w2 V1 V2 p v acts s') : Gives w w2 V V2 p v acts s' :=
  ⟨g.1.base m.size, g.2.1, m.trans g.2.2.1, g.2.2.2⟩

set_option maxRecDepth 100000 in
set_option maxHeartbeats 8000000 in
theorem rep_waitOrFail (h : PRep w p s V) {c : PCall} (hc : c ∈ s.calls) (draw : Int) (hd0 : 0 ≤ draw) (hs : 0 < s.set) (hs1 : s.set ≤ 4611686018427387904) (hl : s.atts.length ≤ 1000000) (hlt : s.timers.length ≤ 900000)
    (b0 : 1 ≤ s.cfg.base) (b1 : s.cfg.base ≤ s.cfg.most) (b2 : s.cfg.most ≤ 10000) (w0 : s.cfg.base ≤ c.wait) (wt1 : c.wait ≤ 10000) (n0 : 0 ≤ s.now) (n1 : s.now ≤ 1099511627776) :
    Calls Tryz.prog 69 #[.pointer (some ⟨p, 0, none⟩), .pointer (some ⟨V.q c.number, 0, none⟩), .int .u64 draw] w fun e w' => ∃ v V', e = .returned v ∧ Gives w w' V V' p v (waitA s c draw) (waitM s c draw) := by
  have lp := h.lp
  obtain ⟨q, hq⟩ : ∃ q, V.q c.number = q := ⟨_, rfl⟩
  have cX : w.cell? ⟨q, 0, none⟩ = some (.int .i64 c.number) := by rw [← hq]; exact (h.cc c hc _ _ rfl).1
  have HD := hide (rep_dropHedge h c.number hs (by omega))
  rw [hq]
  have HH := hide h
  clear h
  have hwt : waitOf s c draw ≤ 10000 ∧ 0 ≤ waitOf s c draw := by
    unfold waitOf waitP
    have := Int.emod_nonneg draw (b := 3 * c.wait - s.cfg.base + 1) (by omega)
    omega
  go_enter Tryz.func69, Tryz.ntmps69
  go_wp2_with fail
  refine HD.out.mono ?_
  rintro e w1 ⟨rfl, V1, h1, m1, q1⟩
  have hq1 : V1.q c.number = q := by rw [q1]; exact hq
  have hc1 : c ∈ (noHedge s c.number).calls := hc
  have cW1 : w1.cell? ⟨q, 4, none⟩ = some (.int .i64 c.wait) := by rw [← hq1]; exact (h1.cc c hc1 _ _ rfl).1
  have HW := hide (wait_any p s.cfg.base s.cfg.most c.wait draw w1 b0 (by omega) w0 wt1 hd0 (h1.kk _ _ rfl) (h1.kk _ _ rfl))
  clear HD cX
  go_wp2_with fail
  refine HW.out.mono ?_
  rintro e w2 ⟨rfl, hb2⟩
  have h2 := h1.on hb2
  have cH2 : w2.cell? ⟨q, 3, none⟩ = some (.int .i64 c.had) := by rw [← hq1]; exact (h2.cc c hc1 _ _ rfl).1
  have cD2 : w2.cell? ⟨q, 2, none⟩ = some (.int .i64 c.deadline) := by rw [← hq1]; exact (h2.cc c hc1 _ _ rfl).1
  have cX2 : w2.cell? ⟨q, 0, none⟩ = some (.int .i64 c.number) := by rw [← hq1]; exact (h2.cc c hc1 _ _ rfl).1
  have cA2 : w2.cell? ⟨p, 4, none⟩ = some (.int .i64 s.cfg.attempts) := h2.kk _ _ rfl
  have cN2 : w2.cell? ⟨p, 10, none⟩ = some (.int .i64 s.now) := h2.kk _ _ rfl
  have hwe : waitP s.cfg.base s.cfg.most c.wait draw = waitOf s c draw := rfl
  rw [hwe]
  generalize hz : waitOf s c draw = z at hwt
  have lp2 := h2.lp
  have lq2 : q < w2.heap.size := by rw [← hq1]; exact h2.lq hc1
  obtain ⟨_, fW2⟩ := h2.cc c hc1 4 _ rfl
  rw [hq1] at fW2
  have cW2 : w2.cell? ⟨q, 4, none⟩ = some (.int .i64 c.wait) := by rw [← hq1]; exact (h2.cc c hc1 _ _ rfl).1
  have HFN := hide (fun n => rep_finish (h2.on (below_drewN w2 n)) hc1 2 0 hs hl (Nat.le_trans (List.length_filter_le _ _) (by omega)))
  rw [hq1] at HFN
  have HM := hide (fun n => m1.trans ((PMv.of_below hb2).trans (PMv.of_below (below_drewN w2 n))))
  have HT := hide (fun n => (h2.on (below_drewN w2 n)).set_call hc1 (waitUp z) (fun _ => rfl) 4 (.int .i64 z) rfl)
  rw [hq1] at HT
  have hlt1 : (s.timers.filter (staysH c.number)).length ≤ 900000 := Nat.le_trans (List.length_filter_le _ _) hlt
  clear h1 h2 m1 hb2 HW HH cW1 hwe
  by_cases hA : s.cfg.attempts ≤ c.had
  · have hov : overM s c draw := .inl hA
    have hA' : decide (s.cfg.attempts ≤ c.had) = true := decide_eq_true hA
    clear HT
    go_wp2_with fail
    go_quiet (fail)
    go_wp2_with fail
    refine (HFN.out _).mono ?_
    rintro e w3 ⟨v, V3, rfl, hr3, h3, m3, t3⟩
    have HG := hide (Gives.after (HM.out _) ⟨hr3, h3, m3, t3⟩)
    clear hr3 h3 m3 t3 HFN HM
    go_wp2_with fail
    go_ret
    exact ⟨v, V3, rfl, by rw [show waitA s c draw = finishA (noHedge s c.number) c.number 2 0 from if_pos hov, show waitM s c draw = finishM (noHedge s c.number) c.number from if_pos hov]; exact HG.out⟩
  · have hA' : decide (s.cfg.attempts ≤ c.had) = false := decide_eq_false hA
    by_cases hB : c.deadline ≤ s.now + z
    · have hov : overM s c draw := .inr (by rw [hz]; exact hB)
      have hB' : decide (c.deadline ≤ s.now + z) = true := decide_eq_true hB
      clear HT
      go_wp2_with fail
      go_quiet (fail)
      go_wp2_with fail
      refine (HFN.out _).mono ?_
      rintro e w3 ⟨v, V3, rfl, hr3, h3, m3, t3⟩
      have HG := hide (Gives.after (HM.out _) ⟨hr3, h3, m3, t3⟩)
      clear hr3 h3 m3 t3 HFN HM
      go_wp2_with fail
      go_ret
      exact ⟨v, V3, rfl, by rw [show waitA s c draw = finishA (noHedge s c.number) c.number 2 0 from if_pos hov, show waitM s c draw = finishM (noHedge s c.number) c.number from if_pos hov]; exact HG.out⟩
    · have hov : ¬ overM s c draw := fun h => h.elim hA (fun h' => hB (by rw [hz] at h'; exact h'))
      have hB' : decide (c.deadline ≤ s.now + z) = false := decide_eq_false hB
      have HE : Hid (againM (noHedge s c.number) c draw = addTimer { noHedge s c.number with calls := updCall c.number (waitUp z) s.calls } 2 c.number (s.now + z)) := by
        unfold againM
        rw [show waitOf (noHedge s c.number) c draw = z from hz]
        rfl
      clear HFN
      go_wp2_with fail
      go_quiet (fail)
      go_wp2_with fail
      obtain ⟨h3, m3⟩ := HT.out nq
      have M3 := hide ((HM.out nq).trans m3)
      have hc3 : waitUp z c ∈ updCall c.number (waitUp z) s.calls := mem_upd hc1 rfl
      have cX3 := (h3.cc _ hc3 0 _ rfl).1
      rw [show V1.q (waitUp z c).number = q from hq1] at cX3
      have cN3 : ((w2.drewN nq).setCell ⟨q, 4, none⟩ (.int .i64 z)).cell? ⟨p, 10, none⟩ = some (.int .i64 s.now) := h3.kk _ _ rfl
      have HST := hide (rep_setTimer h3.drew 2 c.number (s.now + z) (by show (s.timers.filter (staysH c.number)).length ≤ _; omega) (by show 0 ≤ s.set; omega) hs1)
      generalize (w2.drewN nq).setCell ⟨q, 4, none⟩ (.int .i64 z) = W at h3 m3 M3 cX3 cN3 HST ⊢
      have cX3' : W.cell? ⟨q, 0, none⟩ = some (.int .i64 c.number) := cX3
      have lpW := h3.lp
      have lqW : q < W.heap.size := World.block_lt_of_cell? W _ cX3'
      clear HT h3 m3 cX3 cW2 cH2 cD2 cX2 cA2 cN2 fW2
      have hwr : IntKind.i64.wrap (s.now + z) = s.now + z := by rw [IntKind.wrap_i64]; omega
      have HWR := hide hwr
      rw [← hwr] at HST
      have Hq := hide (show V1.q (waitUp z c).number = q from hq1)
      have Hc3 := hide hc3
      have Hov := hide hov
      clear hwr hc3 hq1 hov hz hwt hc1 hc q1 hq hA hA' hB hB' hlt1 hlt hl
      go_region_held3 (fun w' => w'.cell? ⟨q, 0, none⟩ = some (.int .i64 c.number) ∧ w'.cell? ⟨p, 10, none⟩ = some (.int .i64 s.now))
        (first
          | exact ⟨c4a, c4b⟩
          | (go_keep; done))
        (first
          | (go_at_call 95; refine HST.out.mono ?_; rintro e w4 ⟨rfl, V4, h4, m4, q4⟩
             have c4a : w4.cell? ⟨q, 0, none⟩ = some (.int .i64 c.number) := by
               have := (h4.cc _ Hc3.out 0 _ rfl).1
               rw [q4, Hq.out] at this
               exact this
             have c4b : w4.cell? ⟨p, 10, none⟩ = some (.int .i64 s.now) := h4.kk _ _ rfl
             rw [HWR.out] at h4
             have H4 := hide h4
             have M4 := hide m4
             clear h4 m4 q4))
      go_wp2_with fail
      go_ret
      refine ⟨_, V4, rfl, ?_⟩
      rw [show waitA s c draw = [] from if_neg Hov.out, show waitM s c draw = againM (noHedge s c.number) c draw from if_neg Hov.out, HE.out]
      exact Gives.of_nil H4.out (M3.out.trans ((PMv.of_below (Below.refl _ _).drew).trans M4.out))
end
end Go.Proofs.YtlccfpbbdgpjbaaGreatDoor
