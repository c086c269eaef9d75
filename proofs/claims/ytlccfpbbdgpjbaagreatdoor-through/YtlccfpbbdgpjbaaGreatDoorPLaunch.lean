/-
  mayHedge, setHedge (where no timer is set), launch.
-/
import Derived.Test.YtlccfpbbdgpjbaaGreatDoorPModel
namespace Go.Proofs.YtlccfpbbdgpjbaaGreatDoor
open Go.RowKit Go.Maps

theorem below_drewN2 (w : World) (n m : Nat) : Below w.heap.size w ((w.drewN n).drewN m) := ⟨rfl, rfl, rfl, Nat.le_refl _, fun _ _ => rfl⟩

set_option maxRecDepth 100000 in
set_option maxHeartbeats 1600000 in
theorem countM_any (p o : Nat) (A : Option Addr) (n cap : Nat) (w : World) (hc : w.cell? ⟨p, o, none⟩ = some (.slice A n cap)) :
    Calls Tryz.prog 49 #[.pointer (some ⟨p, o, none⟩)] w fun e w' => e = .returned (.int .i64 n) ∧ w' = w := by
  go_enter Tryz.func49, Tryz.ntmps49
  go_wp2_with fail
  go_ret
  exact ⟨rfl, rfl⟩

section
variable {w : World} {p : Nat} {s : PSt} {V : PV}

set_option maxRecDepth 100000 in
set_option maxHeartbeats 4000000 in
theorem rep_mayHedge (h : PRep w p s V) {c : PCall} (hc : c ∈ s.calls) :
    Calls Tryz.prog 135 #[.pointer (some ⟨p, 0, none⟩), .pointer (some ⟨V.q c.number, 0, none⟩)] w fun e w' => e = .returned (.bool (mayHedgeM s c)) ∧ Below w.heap.size w w' := by
  have cS : w.cell? ⟨p, 9, none⟩ = some (.int .i64 s.cfg.samples) := h.kk _ _ rfl
  have cA : w.cell? ⟨p, 4, none⟩ = some (.int .i64 s.cfg.attempts) := h.kk _ _ rfl
  have cF : w.cell? ⟨V.q c.number, 1, none⟩ = some (.bool c.safe) := (h.cc c hc _ _ rfl).1
  have cH : w.cell? ⟨V.q c.number, 3, none⟩ = some (.int .i64 c.had) := (h.cc c hc _ _ rfl).1
  obtain ⟨A, cap, hm, _, _, _⟩ := h.rm.form
  have cM : w.cell? ⟨p, 20, none⟩ = some V.m := h.kk _ _ rfl
  rw [hm] at cM
  have HC := hide (fun W (hW : W.cell? ⟨p, 20, none⟩ = some (.slice A s.times.length cap)) => countM_any p 20 A s.times.length cap W hW)
  have lp := h.lp
  have lq := h.lq hc
  unfold mayHedgeM
  generalize V.q c.number = q at *
  generalize s.times.length = n at *
  generalize s.cfg.samples = k at *
  generalize s.cfg.attempts = m at *
  clear h hc hm
  by_cases h1 : 0 < k
  · have h1' : decide (0 < k) = true := decide_eq_true h1
    by_cases h2 : k ≤ (n : Int)
    · have h2' : decide (k ≤ (n : Int)) = true := decide_eq_true h2
      rw [h1', h2']
      cases hs : c.safe with
      | true =>
        rw [hs] at cF
        go_enter Tryz.func135, Tryz.ntmps135
        go_wp2_with fail
        go_quiet (first | (go_at_call 49; exact Calls.quiet_of_same (HC.out _ (by simpa using cM))))
        go_wp2_with fail
        go_quiet (fail)
        go_wp2_with fail
        go_ret
        exact ⟨rfl, below_drewN2 _ _ _⟩
      | false =>
        rw [hs] at cF
        go_enter Tryz.func135, Tryz.ntmps135
        go_wp2_with fail
        go_quiet (first | (go_at_call 49; exact Calls.quiet_of_same (HC.out _ (by simpa using cM))))
        go_wp2_with fail
        go_quiet (fail)
        go_wp2_with fail
        go_ret
        exact ⟨rfl, below_drewN2 _ _ _⟩
    · have h2' : decide (k ≤ (n : Int)) = false := decide_eq_false h2
      rw [h1', h2']
      cases hs : c.safe with
      | true =>
        rw [hs] at cF
        go_enter Tryz.func135, Tryz.ntmps135
        go_wp2_with fail
        go_quiet (first | (go_at_call 49; exact Calls.quiet_of_same (HC.out _ (by simpa using cM))))
        go_wp2_with fail
        go_quiet (fail)
        go_wp2_with fail
        go_ret
        exact ⟨rfl, below_drewN2 _ _ _⟩
      | false =>
        rw [hs] at cF
        go_enter Tryz.func135, Tryz.ntmps135
        go_wp2_with fail
        go_quiet (first | (go_at_call 49; exact Calls.quiet_of_same (HC.out _ (by simpa using cM))))
        go_wp2_with fail
        go_quiet (fail)
        go_wp2_with fail
        go_ret
        exact ⟨rfl, below_drewN2 _ _ _⟩
  · have h1' : decide (0 < k) = false := decide_eq_false h1
    rw [h1']
    cases hs : c.safe with
    | true =>
      rw [hs] at cF
      go_enter Tryz.func135, Tryz.ntmps135
      go_wp2_with fail
      go_quiet (fail)
      go_wp2_with fail
      go_quiet (fail)
      go_wp2_with fail
      go_ret
      exact ⟨rfl, below_drewN2 _ _ _⟩
    | false =>
      rw [hs] at cF
      go_enter Tryz.func135, Tryz.ntmps135
      go_wp2_with fail
      go_quiet (fail)
      go_wp2_with fail
      go_quiet (fail)
      go_wp2_with fail
      go_ret
      exact ⟨rfl, below_drewN2 _ _ _⟩

set_option maxRecDepth 100000 in
set_option maxHeartbeats 4000000 in
theorem rep_setHedge0 (h : PRep w p s V) {c : PCall} (hc : c ∈ s.calls) (hm : mayHedgeM s c = false) :
    Calls Tryz.prog 115 #[.pointer (some ⟨p, 0, none⟩), .pointer (some ⟨V.q c.number, 0, none⟩)] w fun e w' => e = .returned (.tuple #[]) ∧ ∃ V', PRep w' p (setHedgeM s c) V' ∧ PMv V w V' w' ∧ V'.q = V.q := by
  have HM := hide (rep_mayHedge h hc)
  rw [hm] at HM
  have HE : setHedgeM s c = s := by
    unfold setHedgeM
    rw [if_neg]
    rw [hm]
    simp
  rw [HE]
  have HR := hide h
  clear h hm HE
  go_enter Tryz.func115, Tryz.ntmps115
  go_wp2_with fail
  refine HM.out.mono ?_
  rintro e w1 ⟨rfl, hb⟩
  go_wp2_with fail
  refine bodyPost_ret (results_none rfl _ _ _) rfl ?_
  exact ⟨rfl, V, HR.out.on hb, PMv.of_below hb, rfl⟩

/-- A launch, whatever setHedge does. -/
def HedgeOk (p : Nat) (s : PSt) (c : PCall) : Prop := ∀ (W : World) (V : PV), PRep W p s V → c ∈ s.calls →
  Calls Tryz.prog 115 #[.pointer (some ⟨p, 0, none⟩), .pointer (some ⟨V.q c.number, 0, none⟩)] W fun e w' => e = .returned (.tuple #[]) ∧ ∃ V', PRep w' p (setHedgeM s c) V' ∧ PMv V W V' w' ∧ V'.q = V.q

/-- What comes back: a list of actions that is the caller's own. -/
def Gives (w w' : World) (V V' : PV) (p : Nat) (v : Value) (acts : List RAct) (s' : PSt) : Prop :=
  Row w' w.heap.size 55 6 encAct v acts ∧ PRep w' p s' V' ∧ PMv V w V' w' ∧ (∀ k, v.ownBlock = some k → 7 ≤ V'.tag k)

end
end Go.Proofs.YtlccfpbbdgpjbaaGreatDoor
