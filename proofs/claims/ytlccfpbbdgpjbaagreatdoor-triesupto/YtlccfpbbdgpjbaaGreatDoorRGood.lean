import Derived.Test.YtlccfpbbdgpjbaaGreatDoorRAdvance
import Derived.Test.YtlccfpbbdgpjbaaGreatDoorZSim
namespace Go.Proofs.YtlccfpbbdgpjbaaGreatDoor

/-- How many actions there may still be. -/
def phi (s : PSt) : Int := 2 * credit s.cfg.attempts s.calls + s.calls.length + s.atts.length

theorem len_split {α : Type} (q : α → Bool) (l : List α) : (l.filter q).length + (l.filter (fun a => !(q a))).length = l.length := by
  induction l with
  | nil => rfl
  | cons a r ih =>
    by_cases h : q a = true
    · rw [List.filter_cons_of_pos h, List.filter_cons_of_neg (by simp [h])]
      simp only [List.length_cons]
      omega
    · rw [List.filter_cons_of_neg h, List.filter_cons_of_pos (by simp [h])]
      simp only [List.length_cons]
      omega

section
variable {N M : Int} {s : PSt} {r : St}

theorem phi_pos (h : Inv M s) : 0 ≤ phi s := by
  have := credit_pos s.cfg.attempts (fun c hc => (h.cb c hc).2.1)
  unfold phi
  omega
theorem credit_le (k : Int) {l : List PCall} (h : ∀ c ∈ l, 0 ≤ c.had) : credit k l ≤ k * l.length := by
  induction l with
  | nil => simp [credit]
  | cons a q ih =>
    have h1 := h a (by simp)
    have h2 := ih (fun c hc => h c (by simp [hc]))
    simp only [credit, List.length_cons]
    rw [show k * ((q.length + 1 : Nat) : Int) = k * q.length + k by rw [Int.natCast_add, Int.mul_add]; simp]
    omega
theorem phi_le (h : Inv M s) : phi s ≤ 13 * M + 104 := by
  have h1 := credit_le s.cfg.attempts (fun c hc => (h.cb c hc).1)
  have h2 := h.cl
  have h3 := h.cfg.f1
  have h4 := h.cfg.a1
  have h5 := h.cfg.a0
  have h6 := h.aN
  have h7 : s.cfg.attempts * (s.calls.length : Int) ≤ 6 * 8 := Int.mul_le_mul h4 (by omega) (by omega) (by omega)
  unfold phi
  omega
theorem phi_finish (h : Inv M s) {c : PCall} (hc : c ∈ s.calls) (o v : Int) : ((finishA s c.number o v).length : Int) + phi (finishM s c.number) ≤ phi s := by
  have h1 := credit_filter s.cfg.attempts (fun d => d.number != c.number) (fun d hd => (h.cb d hd).2.1)
  have h2 := len_split (fun a : Int × PAtt => a.2.call == c.number) s.atts
  have h3 : (s.calls.filter (fun d => d.number != c.number)).length < s.calls.length := by
    rw [List.length_filter_lt_length_iff_exists]
    exact ⟨c, hc, by simp⟩
  have h4 : (finishA s c.number o v).length = 1 + (s.atts.filter (fun a => a.2.call == c.number)).length := by
    unfold finishA
    rw [List.length_cons, List.length_map, List.length_mergeSort, List.length_map]
    omega
  rw [h4]
  unfold phi
  show _ + (2 * credit s.cfg.attempts (s.calls.filter (fun d => d.number != c.number)) + ((s.calls.filter (fun d => d.number != c.number)).length : Int) + ((s.atts.filter (fun a => !(a.2.call == c.number))).length : Int)) ≤ _
  omega
theorem phi_launch (h : Inv M s) {c : PCall} (hc : c ∈ s.calls) : ((launchA s c).length : Int) + phi (launchM s c) ≤ phi s := by
  obtain ⟨e1, _, _, e2, e3, _⟩ := setHedgeM_same (launch0 s c) (hadUp c)
  unfold phi launchM
  rw [e1, e2, e3]
  show (1 : Int) + (2 * credit s.cfg.attempts (updCall c.number hadUp s.calls) + ((updCall c.number hadUp s.calls).length : Int) + ((s.atts ++ [(s.launched + 1, (⟨c.number, s.now⟩ : PAtt))]).length : Int)) ≤ _
  rw [credit_had _ hc h.nd, List.length_append]
  unfold updCall
  rw [List.length_map]
  simp
  omega
theorem phi_ring (h : Inv M s) {t : PTimer} (ht : firstT s.timers = some t) : ((ringA (dueM s t) t).length : Int) + phi (ringM (dueM s t) t) ≤ phi s := by
  obtain ⟨c, hc, e, hf, r1, r2, r3⟩ := due_call h ht
  have hd := inv_due h ht
  have e0 : phi (dueM s t) = phi s := rfl
  have e1 : phi (takeM (dueM s t)) = phi s := rfl
  unfold ringM ringA
  rw [hf]
  dsimp only
  unfold ringM1 ringA1
  split
  · have := phi_finish hd (c := c) hc 3 0
    omega
  · split
    · have := phi_launch (inv_take hd) (c := c) hc
      omega
    · split
      · simp
        omega
      · have := phi_finish (inv_take hd) (c := c) hc 2 0
        omega

theorem Sim.openCall (h : Sim N s r) (hI : Inv M s) {c : PCall} {n : Int} (hc : callOf s n = some c) : OpenCall r n := by
  obtain ⟨q1, q2, i, q3, q4, hi, q5⟩ := h.callAt hc
  have hm := (callOf_mem hc).1
  obtain ⟨b1, b2, b3, b4, _⟩ := hI.cb c hm
  have ha := hI.cfg.a1
  refine ⟨by rw [q4, h.calls, List.length_map]; exact hi, by rw [q3]; omega, by rw [q1]; exact q2, by rw [q1]; exact b1, by rw [q1]; show c.had ≤ 1000; omega, by rw [q1]; exact b3, by rw [q1]; exact b4⟩

/-- While time goes on. -/
def AdvG (N M til C : Int) (r : St) : Prop := ∃ s, Sim N s r ∧ Inv M s ∧ s.now ≤ til ∧ (r.out.length : Int) + phi s ≤ C

theorem advG_goes (til C : Int) (hN : N ≤ 70000) (hM : M ≤ 70000) (hC : C ≤ 2000000) : Goes til (AdvG N M til C) := by
  refine ⟨fun r ⟨s, h, hI, h0, hp⟩ => ?_, fun r t' k d ⟨s, h, hI, h0, hp⟩ hk ht' => ?_⟩
  · have hcl : r.calls.length = s.calls.length := by rw [h.calls, List.length_map]
    have hal : r.atts.length = s.atts.length := by rw [h.atts, List.length_map]
    have htl : r.timers.length = s.timers.length := by rw [h.timers, List.length_map]
    have h1 := hI.cl
    have h2 := hI.cfg.f1
    have h3 := hI.aN
    have h4 := hI.tN
    have h5 := phi_pos hI
    have h6 := hI.lN
    have h7 := h.ul
    have h8 := hI.l0
    refine ⟨by omega, by omega, by omega, by omega, by omega, h.uo, by rw [h.now]; exact hI.n0, by rw [h.now]; exact hI.n1, by rw [h.cfg]; have := hI.cfg.c0; omega, by rw [h.cfg]; exact hI.cfg.r0, by rw [h.cfg]; exact hI.cfg.r1, by rw [h.cfg]; exact hI.cfg.s0, by rw [h.times]; exact hI.mt, by rw [h.times]; exact hI.mb, by rw [h.nums]; exact h8, by rw [h.nums]; omega, fun t ht hd => ?_⟩
    rw [h.timers] at ht
    obtain ⟨u, hu, rfl⟩ := List.mem_map.1 ht
    obtain ⟨g1, g2, g3, g4, g5⟩ := hI.tb u hu
    have hn := hI.n0
    have hkk := kR_cases u.kind g3
    refine ⟨by show 0 ≤ u.due; omega, g2, by show kR u.kind = 0 ∨ kR u.kind = 1 ∨ kR u.kind = 2; omega, fun _ => ?_⟩
    obtain ⟨c, hc, e, _⟩ := hI.tc u hu
    have hf := hI.find hc
    rw [e] at hf
    exact h.openCall hI hf
  · rcases h.pick til with ⟨h1, _⟩ | ⟨k2, d2, t, h1, h2, h3, h4⟩
    · rw [h1] at hk; cases hk
    · rw [h1] at hk
      cases hk
      rw [h2] at ht'
      cases ht'
      obtain ⟨a1, a2⟩ := h.adv1 hI h3
      have hr := inv_ring hI h3
      have hnow : (ringM (dueM s t) t).now = t.due := by
        obtain ⟨c, hc, e, hf', _⟩ := due_call hI h3
        unfold ringM
        rw [hf']
        dsimp only
        unfold ringM1
        split
        · rfl
        · split
          · exact (setHedgeM_same _ _).2.1
          · split <;> rfl
      refine ⟨⟨_, a1, hr, by omega, ?_⟩, ?_⟩
      · rw [a2, List.length_append]
        have := phi_ring hI h3
        omega
      · rw [a1.turnsEq, h.turnsEq]
        have := ring_turns hI h3
        have := hI.turns0
        have := hr.turns0
        omega
end
end Go.Proofs.YtlccfpbbdgpjbaaGreatDoor
