import Derived.Test.YtlccfpbbdgpjbaaGreatDoorZAdv
import Derived.Test.YtlccfpbbdgpjbaaGreatDoorKConf
import Derived.Test.YtlccfpbbdgpjbaaGreatDoorZStep
import Derived.Test.YtlccfpbbdgpjbaaGreatDoorZDelay
import Derived.Deep.LoopGhost
namespace Go.Proofs.YtlccfpbbdgpjbaaGreatDoor

def agCfg (zs : List Int) : Cfg := { confV zs with deposit := 100, cost := 1, cap := 100, window := 10000, samples := 0 }
structure AgOk (c : Cfg) : Prop where
  d : c.deposit = 100
  co : c.cost = 1
  ca : c.cap = 100
  wi : c.window = 10000
  sa : c.samples = 0
  b0 : 1 ≤ c.base
  b1 : c.base ≤ 10
  m0 : c.base ≤ c.most
  m1 : c.most ≤ 49
  a0 : 1 ≤ c.attempts
  a1 : c.attempts ≤ 6
  f0 : 1 ≤ c.flight
  f1 : c.flight ≤ 8
  r0 : 1 ≤ c.rank
  r1 : c.rank ≤ 100
theorem agOk (zs : List Int) : AgOk (agCfg zs) := by
  have b4 := atV_lt zs 4 6 (by omega)
  have b5 := atV_lt zs 5 8 (by omega)
  have b6 := atV_lt zs 6 10 (by omega)
  have b7 := atV_lt zs 7 100 (by omega)
  have b9 := atV_lt zs 9 40 (by omega)
  constructor <;> (try rfl) <;> (simp only [agCfg, confV]; omega)
theorem AgOk.cfg {c : Cfg} (h : AgOk c) : CfgOk c := by
  obtain ⟨h1, h2, h3, h4, h5, h6, h7, h8, h9, h10, h11, h12, h13, h14, h15⟩ := h
  constructor <;> omega

theorem inv_init {c : Cfg} (h : CfgOk c) : Inv 0 (initS c) where
  cfg := h
  n0 := Int.le_refl _
  n1 := by show (0 : Int) ≤ _; omega
  ub := fun b hb => by cases hb
  us := by have := h.p0; exact this
  uc := fun b hb => by cases hb
  nd := List.nodup_nil
  cl := by have := h.f0; show (0 : Int) ≤ c.flight; omega
  cb := fun c hc => by cases hc
  ab := fun a ha => by cases ha
  tb := fun t ht => by cases ht
  tc := fun t ht => by cases ht
  tu := fun t ht => by cases ht
  tw := fun t ht => by cases ht
  ts := List.nodup_nil
  mt := by show 0 ≤ 32; omega
  mb := fun t ht => by cases ht
  l0 := Int.le_refl _
  s0 := Int.le_refl _
  z0 := Int.le_refl _
  p1 := by show (0 : Int) + 0 ≤ 6 * 0; omega
  p2 := by show (0 : Int) + ((0 : Nat) : Int) ≤ 2 * 0 + 0; omega
  tl := by show ((0 : Nat) : Int) ≤ 0; omega

/-- An attempt is open, the n-th. -/
def agS (c : Cfg) (n now last : Int) : PSt := ⟨c, now, [⟨0, 101 - n⟩], [⟨1, true, 10000, n, last⟩], [(n, ⟨1, now⟩)], n, [⟨1, 1, 10000, 1⟩], n, [], 0⟩
/-- It has failed, and the next waits. -/
def agW (c : Cfg) (n now wait due : Int) : PSt := ⟨c, now, [⟨0, 101 - n⟩], [⟨1, true, 10000, n, wait⟩], [], n, [⟨1, 1, 10000, 1⟩, ⟨2, 1, due, n + 1⟩], n + 1, [], 0⟩

theorem ag_submit {c : Cfg} (h : AgOk c) : stepM (initS c) ⟨1, 1, 0, 0, 10000, true, 0, 0⟩ = agS c 1 0 c.base ∧ stepA (initS c) ⟨1, 1, 0, 0, 10000, true, 0, 0⟩ = [⟨1, 1, 1, 0, 0, 10000⟩] := by
  have hf : ¬ c.flight ≤ 0 := by have := h.f0; omega
  constructor
  · simp [stepM, submitM, whyM, whyP, callOf, initS, admitM, launchM, setHedgeM, mayHedgeM, launch0, admit0, addTimer, bringM, bringN, sumB, newCall, updCall, hadUp, agS, hf, h.d, h.ca, h.sa]
  · simp [stepA, submitA, whyM, whyP, callOf, initS, admitA, launchA, newCall, hf]

theorem ag_last {c : Cfg} (k now last draw : Int) (hk : k = 3 ∨ k = 4) : stepA (agS c c.attempts now last) ⟨k, 0, c.attempts, 0, 0, false, draw, 0⟩ = [⟨3, 1, 0, 2, 0, 0⟩] := by
  rcases hk with rfl | rfl <;> simp [stepA, answerA, attOf, callOf, agS, answerA1, openOf, closeM, waitA, overM, noHedge, finishA]

theorem ag_more {c : Cfg} (k n now last draw : Int) (hk : k = 3 ∨ k = 4) (hn : n < c.attempts) (hd : ¬ 10000 ≤ now + waitP c.base c.most last draw) :
    stepM (agS c n now last) ⟨k, 0, n, 0, 0, false, draw, 0⟩ = agW c n now (waitP c.base c.most last draw) (now + waitP c.base c.most last draw) ∧ stepA (agS c n now last) ⟨k, 0, n, 0, 0, false, draw, 0⟩ = [] := by
  have hn' : ¬ c.attempts ≤ n := by omega
  rcases hk with rfl | rfl <;> constructor <;>
    simp [stepM, stepA, answerA, answerM, attOf, callOf, agS, agW, answerA1, answerM1, openOf, closeM, waitA, waitM, overM, waitOf, noHedge, againM, addTimer, updCall, waitUp, staysH, hn', hd]

theorem ag_first {c : Cfg} (n now wait due : Int) (hd : due < 10000) : firstT (agW c n now wait due).timers = some ⟨2, 1, due, n + 1⟩ := by
  simp [agW, firstT, PTimer.lt, hd]

theorem ag_adv1 {c : Cfg} (h : AgOk c) (n now wait due til : Int) (h0 : now ≤ til) (h1 : til < due) (h2 : due < 10000) :
    stepM (agW c n now wait due) ⟨6, 0, 0, 0, 0, false, 0, til⟩ = agW c n til wait due ∧ stepA (agW c n now wait due) ⟨6, 0, 0, 0, 0, false, 0, til⟩ = [] := by
  have hst : ¬ (til < (agW c n now wait due).now ∨ 1099511627776 < til) := by show ¬ (til < now ∨ _); omega
  have hs := advF_stop til (turns (agW c n now wait due)).toNat (agW c n now wait due) (fun t ht => by
    rw [ag_first n now wait due h2] at ht
    cases ht
    exact h1)
  have hw : ¬ c.window ≤ til := by have := h.wi; omega
  constructor
  · show advM (agW c n now wait due) til = _
    unfold advM
    rw [if_neg hst, hs]
    simp [goToM, agW, oldB, hw]
  · show advA (agW c n now wait due) til = _
    unfold advA
    rw [if_neg hst, hs]

theorem ag_adv2 {c : Cfg} (h : AgOk c) {N : Int} (n now wait due : Int) (hI : Inv N (agW c n now wait due)) (h0 : now ≤ due) (h2 : due < 10000) (hn0 : 1 ≤ n) (hn1 : n ≤ 90) :
    stepM (agW c n now wait due) ⟨6, 0, 0, 0, 0, false, 0, due⟩ = agS c (n + 1) due wait ∧ stepA (agW c n now wait due) ⟨6, 0, 0, 0, 0, false, 0, due⟩ = [⟨1, 1, n + 1, 0, 0, 10000 - due⟩] := by
  have hst : ¬ (due < (agW c n now wait due).now ∨ 1099511627776 < due) := by show ¬ (due < now ∨ _); omega
  have hf := ag_first (c := c) n now wait due h2
  have hw : ¬ c.window ≤ due := by have := h.wi; omega
  have hne : ¬ (1 : Int) = n + 1 := by omega
  have hdm : dueM (agW c n now wait due) ⟨2, 1, due, n + 1⟩ = ⟨c, due, [⟨0, 101 - n⟩], [⟨1, true, 10000, n, wait⟩], [], n, [⟨1, 1, 10000, 1⟩], n + 1, [], 0⟩ := by
    simp [dueM, popM, goToM, agW, oldB, hw, hne]
  have hp1 : 1 ≤ 101 - n := by omega
  have hp2 : ¬ (101 - n ≤ 1) := by omega
  have hp3 : 101 - n - 1 = 101 - (n + 1) := by omega
  have hp4 : (1 : Int) < 101 - n := by omega
  have hr : ringM (dueM (agW c n now wait due) ⟨2, 1, due, n + 1⟩) ⟨2, 1, due, n + 1⟩ = agS c (n + 1) due wait := by
    rw [hdm]
    simp [ringM, callOf, ringM1, launchM, setHedgeM, mayHedgeM, launch0, takeM, takeB, sumB, hadUp, updCall, agS, h.co, h.sa, hp1, hp4, hp3]
  have ha : ringA (dueM (agW c n now wait due) ⟨2, 1, due, n + 1⟩) ⟨2, 1, due, n + 1⟩ = [⟨1, 1, n + 1, 0, 0, 10000 - due⟩] := by
    rw [hdm]
    simp [ringA, callOf, ringA1, launchA, takeM, sumB, h.co, hp1]
  have hx := advF_next due hI hf (by show ¬ due < due; omega)
  rw [hr, ha] at hx
  have hs := advF_stop due (turns (agS c (n + 1) due wait)).toNat (agS c (n + 1) due wait) (fun t ht => by
    simp [agS, firstT] at ht
    rw [← ht]
    exact h2)
  rw [hs] at hx
  constructor
  · show advM (agW c n now wait due) due = _
    unfold advM
    rw [if_neg hst, hx]
    simp [goToM, agS, oldB, hw]
  · show advA (agW c n now wait due) due = _
    unfold advA
    rw [if_neg hst, hx]
    simp
end Go.Proofs.YtlccfpbbdgpjbaaGreatDoor

namespace Go.Proofs.YtlccfpbbdgpjbaaGreatDoor

/-- Nothing is open; no units. -/
def thS (c : Cfg) (now launched set : Int) (times : List Int) : PSt := ⟨c, now, [], [], [], launched, [], set, times, 0⟩
/-- One call is open, and its attempt; h: its hedge timer, if any. -/
def thA (c : Cfg) (now launched set : Int) (times : List Int) (i : Int) (safe : Bool) (dl at_ : Int) (first : Int) (h : List PTimer) : PSt :=
  ⟨c, now, [], [⟨i, safe, dl, 1, c.base⟩], [(launched, ⟨i, at_⟩)], launched, ⟨1, i, dl, first⟩ :: h, set, times, 0⟩

/-- A hedge timer that may be. -/
def HedgeT (i now dl first set : Int) (h : List PTimer) : Prop := h = [] ∨ ∃ hd, h = [⟨3, i, hd, first + 1⟩] ∧ now ≤ hd ∧ hd < dl ∧ set = first + 1

theorem th_submit {c : Cfg} (hc : CfgOk c) (h0 : c.deposit = 0) (now launched set : Int) (times : List Int) (i timeout : Int) (safe : Bool) (t0 : 1 ≤ timeout) (t1 : timeout ≤ 10000) (hn : now + timeout ≤ 1099511627776) :
    stepA (thS c now launched set times) ⟨1, i, 0, 0, timeout, safe, 0, 0⟩ = [⟨1, i, launched + 1, 0, 0, timeout⟩] ∧
    ∃ h set', stepM (thS c now launched set times) ⟨1, i, 0, 0, timeout, safe, 0, 0⟩ = thA c now (launched + 1) set' times i safe (now + timeout) now (set + 1) h ∧ HedgeT i now (now + timeout) (set + 1) set' h ∧ (h = [] → set' = set + 1) := by
  have hf : ¬ c.flight ≤ 0 := by have := hc.f0; omega
  have h1 : ¬ timeout < 1 := by omega
  have h2 : ¬ 10000 < timeout := by omega
  have h3 : ¬ 1099511627776 < now + timeout := by omega
  have h4 : now + timeout - now = timeout := by omega
  have hb : ¬ (0 < bringN c.deposit c.cap []) := by unfold bringN; rw [h0]; simp [sumB]; omega
  refine ⟨by simp [stepA, submitA, whyM, whyP, callOf, thS, admitA, launchA, newCall, hf, h1, h2, h3, h4], ?_⟩
  have hs : stepM (thS c now launched set times) ⟨1, i, 0, 0, timeout, safe, 0, 0⟩ = setHedgeM (thA c now (launched + 1) (set + 1) times i safe (now + timeout) now (set + 1) []) ⟨i, safe, now + timeout, 1, c.base⟩ := by
    simp [stepM, submitM, whyM, whyP, callOf, thS, admitM, launchM, launch0, admit0, addTimer, bringM, newCall, updCall, hadUp, thA, hf, h1, h2, h3, hb]
  rw [hs]
  unfold setHedgeM
  split
  · rename_i hm
    have hd := delay_pos times c.rank
    refine ⟨[⟨3, i, now + delayM times c.rank, set + 1 + 1⟩], set + 1 + 1, rfl, .inr ⟨_, rfl, by omega, hm.2, rfl⟩, by simp⟩
  · exact ⟨[], set + 1, rfl, .inl rfl, fun _ => rfl⟩

theorem th_first1 (c : Cfg) (now launched set : Int) (times : List Int) (i : Int) (safe : Bool) (dl at_ first : Int) : firstT (thA c now launched set times i safe dl at_ first []).timers = some ⟨1, i, dl, first⟩ := by
  simp [thA, firstT]
theorem th_first2 (c : Cfg) (now launched set : Int) (times : List Int) (i : Int) (safe : Bool) (dl at_ first hd : Int) (h : hd < dl) : firstT (thA c now launched set times i safe dl at_ first [⟨3, i, hd, first + 1⟩]).timers = some ⟨3, i, hd, first + 1⟩ := by
  simp [thA, firstT, PTimer.lt, h]

/-- The hedge timer rings: there are no units. -/
theorem th_ring (c : Cfg) (hcost : 1 ≤ c.cost) (now launched set : Int) (times : List Int) (i : Int) (safe : Bool) (dl at_ first hd : Int) :
    ringM (dueM (thA c now launched set times i safe dl at_ first [⟨3, i, hd, first + 1⟩]) ⟨3, i, hd, first + 1⟩) ⟨3, i, hd, first + 1⟩ = thA c hd launched set times i safe dl at_ first [] ∧
    ringA (dueM (thA c now launched set times i safe dl at_ first [⟨3, i, hd, first + 1⟩]) ⟨3, i, hd, first + 1⟩) ⟨3, i, hd, first + 1⟩ = [] := by
  have hne : ¬ first = first + 1 := by omega
  have hc : ¬ c.cost ≤ 0 := by omega
  have hdm : dueM (thA c now launched set times i safe dl at_ first [⟨3, i, hd, first + 1⟩]) ⟨3, i, hd, first + 1⟩ = thA c hd launched set times i safe dl at_ first [] := by
    simp [dueM, popM, goToM, thA, hne]
  rw [hdm]
  constructor
  · simp [ringM, callOf, ringM1, thA, takeM, sumB, hc]
  · simp [ringA, callOf, ringA1, thA, sumB, hc]

theorem th_adv {c : Cfg} {N : Int} (hcost : 1 ≤ c.cost) (now launched set : Int) (times : List Int) (i : Int) (safe : Bool) (dl at_ first : Int) (h : List PTimer) (hh : HedgeT i now dl first set h) (hI : Inv N (thA c now launched set times i safe dl at_ first h)) (til : Int) (h0 : now ≤ til) (h1 : til < dl) (h2 : dl ≤ 1099511627776) :
    stepA (thA c now launched set times i safe dl at_ first h) ⟨6, 0, 0, 0, 0, false, 0, til⟩ = [] ∧
    ∃ h', stepM (thA c now launched set times i safe dl at_ first h) ⟨6, 0, 0, 0, 0, false, 0, til⟩ = thA c til launched set times i safe dl at_ first h' ∧ HedgeT i til dl first set h' := by
  have hst : ¬ (til < (thA c now launched set times i safe dl at_ first h).now ∨ 1099511627776 < til) := by show ¬ (til < now ∨ _); omega
  have hgo : ∀ (z : Int) (g : List PTimer), goToM (thA c z launched set times i safe dl at_ first g) til = thA c til launched set times i safe dl at_ first g := fun z g => by simp [goToM, thA]
  have eA : stepA (thA c now launched set times i safe dl at_ first h) ⟨6, 0, 0, 0, 0, false, 0, til⟩ = (advF til (turns (thA c now launched set times i safe dl at_ first h)).toNat (thA c now launched set times i safe dl at_ first h)).2 := by
    show advA _ til = _
    unfold advA
    rw [if_neg hst]
  have eM : stepM (thA c now launched set times i safe dl at_ first h) ⟨6, 0, 0, 0, 0, false, 0, til⟩ = (advF til (turns (thA c now launched set times i safe dl at_ first h)).toNat (thA c now launched set times i safe dl at_ first h)).1 := by
    show advM _ til = _
    unfold advM
    rw [if_neg hst]
  rw [eA, eM]
  rcases hh with rfl | ⟨hd, rfl, hd0, hd1, hset⟩
  · rw [advF_stop til _ _ (fun t ht => by rw [th_first1] at ht; cases ht; exact h1)]
    exact ⟨rfl, [], hgo _ _, .inl rfl⟩
  · by_cases hdue : til < hd
    · rw [advF_stop til _ _ (fun t ht => by rw [th_first2 _ _ _ _ _ _ _ _ _ _ _ hd1] at ht; cases ht; exact hdue)]
      exact ⟨rfl, _, hgo _ _, .inr ⟨hd, rfl, by omega, hd1, hset⟩⟩
    · obtain ⟨r1, r2⟩ := th_ring c hcost now launched set times i safe dl at_ first hd
      rw [advF_next til hI (th_first2 _ _ _ _ _ _ _ _ _ _ _ hd1) hdue, r1, r2, advF_stop til _ _ (fun t ht => by rw [th_first1] at ht; cases ht; exact h1)]
      exact ⟨rfl, [], hgo _ _, .inl rfl⟩

theorem hedge_call {i now dl first set : Int} {h : List PTimer} (hh : HedgeT i now dl first set h) : h.filter (stays i) = [] ∧ h.filter (staysH i) = [] := by
  rcases hh with rfl | ⟨hd, rfl, _⟩
  · simp
  · simp [stays, staysH]

theorem th_ok {c : Cfg} (now launched set : Int) (times : List Int) (i : Int) (safe : Bool) (dl at_ first : Int) (h : List PTimer) (hh : HedgeT i now dl first set h) (value : Int) :
    stepA (thA c now launched set times i safe dl at_ first h) ⟨2, 0, launched, value, 0, false, 0, 0⟩ = [⟨3, i, 0, 1, value, 0⟩] ∧
    stepM (thA c now launched set times i safe dl at_ first h) ⟨2, 0, launched, value, 0, false, 0, 0⟩ = thS c now launched set (addT times (now - at_)) := by
  obtain ⟨e1, _⟩ := hedge_call hh
  constructor
  · simp [stepA, answerA, attOf, callOf, thA, answerA1, closeM, addM, finishA]
  · simp [stepM, answerM, attOf, callOf, thA, answerM1, closeM, addM, finishM, thS, e1, stays]

/-- The next attempt waits. -/
def thW (c : Cfg) (now launched set : Int) (times : List Int) (i : Int) (safe : Bool) (dl first w due : Int) : PSt :=
  ⟨c, now, [], [⟨i, safe, dl, 1, w⟩], [], launched, [⟨1, i, dl, first⟩, ⟨2, i, due, set⟩], set, times, 0⟩

theorem th_nack {c : Cfg} (now launched set : Int) (times : List Int) (i : Int) (safe : Bool) (dl at_ first : Int) (h : List PTimer) (hh : HedgeT i now dl first set h) (draw : Int) :
    (stepA (thA c now launched set times i safe dl at_ first h) ⟨4, 0, launched, 0, 0, false, draw, 0⟩ = [⟨3, i, 0, 2, 0, 0⟩] ∧
      stepM (thA c now launched set times i safe dl at_ first h) ⟨4, 0, launched, 0, 0, false, draw, 0⟩ = thS c now launched set times) ∨
    (stepA (thA c now launched set times i safe dl at_ first h) ⟨4, 0, launched, 0, 0, false, draw, 0⟩ = [] ∧
      stepM (thA c now launched set times i safe dl at_ first h) ⟨4, 0, launched, 0, 0, false, draw, 0⟩ = thW c now launched (set + 1) times i safe dl first (waitP c.base c.most c.base draw) (now + waitP c.base c.most c.base draw) ∧ now + waitP c.base c.most c.base draw < dl) := by
  obtain ⟨e1, e2⟩ := hedge_call hh
  have eF : stepA (thA c now launched set times i safe dl at_ first h) ⟨4, 0, launched, 0, 0, false, draw, 0⟩ = waitA (closeM (thA c now launched set times i safe dl at_ first h) launched) ⟨i, safe, dl, 1, c.base⟩ draw := by
    simp [stepA, answerA, attOf, callOf, thA, answerA1, closeM, openOf]
  have eM : stepM (thA c now launched set times i safe dl at_ first h) ⟨4, 0, launched, 0, 0, false, draw, 0⟩ = waitM (closeM (thA c now launched set times i safe dl at_ first h) launched) ⟨i, safe, dl, 1, c.base⟩ draw := by
    simp [stepM, answerM, attOf, callOf, thA, answerM1, closeM, openOf]
  rw [eF, eM]
  unfold waitA waitM
  by_cases ho : overM (closeM (thA c now launched set times i safe dl at_ first h) launched) ⟨i, safe, dl, 1, c.base⟩ draw
  · left
    rw [if_pos ho, if_pos ho]
    constructor
    · simp [finishA, noHedge, closeM, thA]
    · simp [finishM, noHedge, closeM, thA, thS, staysH, stays, e2]
  · right
    rw [if_neg ho, if_neg ho]
    unfold overM at ho
    have hd : ¬ dl ≤ now + waitP c.base c.most c.base draw := fun x => ho (.inr x)
    refine ⟨rfl, ?_, by omega⟩
    simp [againM, addTimer, noHedge, closeM, thA, thW, updCall, waitUp, waitOf, staysH, e2]

theorem th_wait {c : Cfg} {N : Int} (hcost : 1 ≤ c.cost) (now launched set : Int) (times : List Int) (i : Int) (safe : Bool) (dl first w due : Int) (hI : Inv N (thW c now launched set times i safe dl first w due)) (hdl : due < dl) (hfs : first < set) (til : Int) (h0 : now ≤ til) (h1 : due ≤ til) (h2 : til ≤ 1099511627776) :
    stepA (thW c now launched set times i safe dl first w due) ⟨6, 0, 0, 0, 0, false, 0, til⟩ = [⟨3, i, 0, 2, 0, 0⟩] ∧
    stepM (thW c now launched set times i safe dl first w due) ⟨6, 0, 0, 0, 0, false, 0, til⟩ = thS c til launched set times := by
  have hst : ¬ (til < (thW c now launched set times i safe dl first w due).now ∨ 1099511627776 < til) := by show ¬ (til < now ∨ _); omega
  have hf : firstT (thW c now launched set times i safe dl first w due).timers = some ⟨2, i, due, set⟩ := by simp [thW, firstT, PTimer.lt, hdl]
  have hne : ¬ first = set := by omega
  have hc : ¬ c.cost ≤ 0 := by omega
  have hdm : dueM (thW c now launched set times i safe dl first w due) ⟨2, i, due, set⟩ = ⟨c, due, [], [⟨i, safe, dl, 1, w⟩], [], launched, [⟨1, i, dl, first⟩], set, times, 0⟩ := by
    simp [dueM, popM, goToM, thW, hne]
  have hr : ringM (dueM (thW c now launched set times i safe dl first w due) ⟨2, i, due, set⟩) ⟨2, i, due, set⟩ = thS c due launched set times := by
    rw [hdm]
    simp [ringM, callOf, ringM1, takeM, sumB, hc, finishM, thS, stays]
  have ha : ringA (dueM (thW c now launched set times i safe dl first w due) ⟨2, i, due, set⟩) ⟨2, i, due, set⟩ = [⟨3, i, 0, 2, 0, 0⟩] := by
    rw [hdm]
    simp [ringA, callOf, ringA1, takeM, sumB, hc, finishA]
  have hx := advF_next til hI hf (by show ¬ til < due; omega)
  rw [hr, ha, advF_stop til _ (thS c due launched set times) (fun t ht => by simp [thS, firstT] at ht)] at hx
  constructor
  · show advA _ til = _
    unfold advA
    rw [if_neg hst, hx]
    simp
  · show advM _ til = _
    unfold advM
    rw [if_neg hst, hx]
    simp [goToM, thS]

theorem th_idle {c : Cfg} (now launched set : Int) (times : List Int) (til : Int) (h0 : now ≤ til) (h2 : til ≤ 1099511627776) :
    stepA (thS c now launched set times) ⟨6, 0, 0, 0, 0, false, 0, til⟩ = [] ∧ stepM (thS c now launched set times) ⟨6, 0, 0, 0, 0, false, 0, til⟩ = thS c til launched set times := by
  have hst : ¬ (til < (thS c now launched set times).now ∨ 1099511627776 < til) := by show ¬ (til < now ∨ _); omega
  have hx := advF_stop til (turns (thS c now launched set times)).toNat (thS c now launched set times) (fun t ht => by simp [thS, firstT] at ht)
  constructor
  · show advA _ til = _
    unfold advA
    rw [if_neg hst, hx]
  · show advM _ til = _
    unfold advM
    rw [if_neg hst, hx]
    simp [goToM, thS]

/-- The deadline is reached. -/
theorem th_late {c : Cfg} {N : Int} (hcost : 1 ≤ c.cost) (now launched set : Int) (times : List Int) (i : Int) (safe : Bool) (dl at_ first : Int) (h : List PTimer) (hh : HedgeT i now dl first set h) (hI : Inv N (thA c now launched set times i safe dl at_ first h)) (til : Int) (h0 : now ≤ til) (h1 : dl ≤ til) (h2 : til ≤ 1099511627776) :
    stepA (thA c now launched set times i safe dl at_ first h) ⟨6, 0, 0, 0, 0, false, 0, til⟩ = [⟨3, i, 0, 3, 0, 0⟩, ⟨2, i, launched, 0, 0, 0⟩] ∧
    stepM (thA c now launched set times i safe dl at_ first h) ⟨6, 0, 0, 0, 0, false, 0, til⟩ = thS c til launched set times := by
  have hst : ∀ g, ¬ (til < (thA c now launched set times i safe dl at_ first g).now ∨ 1099511627776 < til) := fun g => by show ¬ (til < now ∨ _); omega
  have hlast : ∀ {M : Int} (z : Int), Inv M (thA c z launched set times i safe dl at_ first []) → advF til (turns (thA c z launched set times i safe dl at_ first [])).toNat (thA c z launched set times i safe dl at_ first []) = (thS c til launched set times, [⟨3, i, 0, 3, 0, 0⟩, ⟨2, i, launched, 0, 0, 0⟩]) := fun {M} z hz => by
    have hdm : dueM (thA c z launched set times i safe dl at_ first []) ⟨1, i, dl, first⟩ = ⟨c, dl, [], [⟨i, safe, dl, 1, c.base⟩], [(launched, ⟨i, at_⟩)], launched, [], set, times, 0⟩ := by
      simp [dueM, popM, goToM, thA]
    rw [advF_next til hz (th_first1 _ _ _ _ _ _ _ _ _ _) (by show ¬ til < dl; omega)]
    have hr : ringM (dueM (thA c z launched set times i safe dl at_ first []) ⟨1, i, dl, first⟩) ⟨1, i, dl, first⟩ = thS c dl launched set times := by
      rw [hdm]
      simp [ringM, callOf, ringM1, finishM, thS]
    have ha : ringA (dueM (thA c z launched set times i safe dl at_ first []) ⟨1, i, dl, first⟩) ⟨1, i, dl, first⟩ = [⟨3, i, 0, 3, 0, 0⟩, ⟨2, i, launched, 0, 0, 0⟩] := by
      rw [hdm]
      simp [ringA, callOf, ringA1, finishA]
    rw [hr, ha, advF_stop til _ (thS c dl launched set times) (fun t ht => by simp [thS, firstT] at ht)]
    simp [goToM, thS]
  have hfin : advF til (turns (thA c now launched set times i safe dl at_ first h)).toNat (thA c now launched set times i safe dl at_ first h) = (thS c til launched set times, [⟨3, i, 0, 3, 0, 0⟩, ⟨2, i, launched, 0, 0, 0⟩]) := by
    rcases hh with rfl | ⟨hd, rfl, hd0, hd1, hset⟩
    · exact hlast now hI
    · obtain ⟨r1, r2⟩ := th_ring c hcost now launched set times i safe dl at_ first hd
      have hI2 := inv_ring hI (th_first2 c now launched set times i safe dl at_ first hd hd1)
      rw [r1] at hI2
      rw [advF_next til hI (th_first2 _ _ _ _ _ _ _ _ _ _ _ hd1) (by show ¬ til < hd; omega), r1, r2, hlast hd hI2]
      rfl
  constructor
  · show advA _ til = _
    unfold advA
    rw [if_neg (hst h), hfin]
  · show advM _ til = _
    unfold advM
    rw [if_neg (hst h), hfin]
end Go.Proofs.YtlccfpbbdgpjbaaGreatDoor

namespace Go.Proofs.YtlccfpbbdgpjbaaGreatDoor
open Go.RowKit Go.Maps

theorem src_none {P : Program} {size : Nat} {tx e' : TypeId} (w : World) (hk : P.underlying tx = some (.slice e')) (A : Option Addr) (c : Nat) : Src P size tx (.slice A 0 c) 0 [] w := by
  cases A with
  | none => exact Src.ofNil w hk c
  | some a => exact Src.ofSlice w hk a 0 c [] (by simp) (fun j u hu => by simp at hu) (fun u hu => by cases hu)

/-- Some actions more. -/
theorem wpList_append_acts (w : World) {ops : Array Oper} {rest : List Oper} {o : Oper} {a : Act} {Q : Exit → Act → World → Prop} (hgd : o.guard = none) (s x : Operand)
    (ho : o.op = .call { callee := .builtin .append, args := #[s, x], argTypes := #[52, 52] })
    (base b2 : Nat) (v1 v2 : Value) (l1 l2 : List RAct) (hs : a.eval s = v1) (hx : a.eval x = v2) (r1 : Row w base 55 6 encAct v1 l1) (r2 : Row w b2 55 6 encAct v2 l2)
    (hb : l1.length + l2.length ≤ 1000000) (hbase : base ≤ w.heap.size)
    (hK : ∀ v' w', Row w' base 55 6 encAct v' (l1 ++ l2) → w.grownBy w' v1.ownBlock → (∀ k, v'.ownBlock = some k → v1.ownBlock = some k ∨ w.heap.size ≤ k) → wpList Tryz.prog ops Q rest (a.put o.dst v') w') : wpList Tryz.prog ops Q (o :: rest) a w := by
  obtain ⟨i0, hi0, z0, z1, z2⟩ := info_parts Tryz.infoActP
  by_cases hn : l2 = []
  · subst hn
    obtain ⟨A1, c1, rfl, _⟩ := r1.form
    obtain ⟨A2, c2, rfl, _⟩ := r2.form
    have hrun := run_append_nothing (P := Tryz.prog) w 52 52 52 55 i0 Tryz.underlying52 hi0 A1 l1.length c1 r1.le_cap (.slice A2 0 c2) (src_none w Tryz.underlying52 A2 c2)
    refine Lib.wpList_append_run w hgd s x 52 52 ho _ _ hs hx _ _ hrun ?_
    exact hK _ _ (by rw [List.append_nil]; exact r1) ⟨rfl, rfl, rfl, Nat.le_refl _, fun _ _ _ => rfl⟩ (fun k hk => .inl hk)
  · have hm0 : 0 < l2.length := List.length_pos_iff.2 hn
    obtain ⟨g4, cap4, rfl, _⟩ := r2.at hm0
    obtain ⟨A4, cap4', hv4, _, _, hcl⟩ := r2.form
    have hcells : ∀ j u, (l2.flatMap encAct)[j]? = some u → w.cell? ((⟨g4, 0, none⟩ : Addr).add j) = some u := fun j u hu => by
      have h9 := ((hcl g4 (by cases hv4; rfl)).2.2.2 j u hu).1
      have h8 : (⟨g4, 0, none⟩ : Addr).add j = ⟨g4, j, none⟩ := by cases j <;> simp [Addr.add]
      rw [h8]
      exact h9
    refine wpList_append_lies w hgd s x 52 ho base 55 i0 _ 6 48 Tryz.underlying52 hi0 z0 z1 z2 rfl (by omega) v1 l1.length (l1.flatMap encAct) hs r1 ⟨g4, 0, none⟩ l2.length cap4 (l2.flatMap encAct) hx (flat_len encAct 6 encAct_len l2) hcells (acts_one l2) hm0 (by simp only [maxLen]; omega) (by omega) hbase w.heap.size rfl ?_
    intro g cap w' hown hgrow hat hlt
    refine hK _ _ ?_ hgrow (fun k hk => ?_)
    · unfold Row
      rw [List.flatMap_append, List.length_append]
      exact hown
    · have e5 : g = k := by simpa [Value.ownBlock] using hk
      subst e5
      rcases hat with h9 | h9
      · exact .inl h9
      · exact .inr (by omega)

/-- Six cells of one box are written. -/
def box6 (w : World) (b : Nat) (v0 v1 v2 v3 v4 v5 : Value) : World := (((((w.setCell ⟨b, 0, none⟩ v0).setCell ⟨b, 1, none⟩ v1).setCell ⟨b, 2, none⟩ v2).setCell ⟨b, 3, none⟩ v3).setCell ⟨b, 4, none⟩ v4).setCell ⟨b, 5, none⟩ v5
theorem box6_block (w : World) (b : Nat) (v0 v1 v2 v3 v4 v5 : Value) {k : Nat} (hk : k ≠ b) : (box6 w b v0 v1 v2 v3 v4 v5).heap[k]? = w.heap[k]? := by
  unfold box6
  rw [Below.heap_setCell _ _ _ _ hk, Below.heap_setCell _ _ _ _ hk, Below.heap_setCell _ _ _ _ hk, Below.heap_setCell _ _ _ _ hk, Below.heap_setCell _ _ _ _ hk, Below.heap_setCell _ _ _ _ hk]
theorem box6_below {B b : Nat} {W w : World} (h : Below B W w) (hb : B ≤ b) (v0 v1 v2 v3 v4 v5 : Value) : Below B W (box6 w b v0 v1 v2 v3 v4 v5) := by
  have h0 := h.setCell (p := ⟨b, 0, none⟩) hb v0
  have h1 := h0.setCell (p := ⟨b, 1, none⟩) hb v1
  have h2 := h1.setCell (p := ⟨b, 2, none⟩) hb v2
  have h3 := h2.setCell (p := ⟨b, 3, none⟩) hb v3
  have h4 := h3.setCell (p := ⟨b, 4, none⟩) hb v4
  exact h4.setCell (p := ⟨b, 5, none⟩) hb v5
theorem box6_rep {w : World} {p b : Nat} {s : PSt} {V : PV} (h : PRep w p s V) (hb : 7 ≤ V.tag b) (v0 v1 v2 v3 v4 v5 : Value) : PRep (box6 w b v0 v1 v2 v3 v4 v5) p s V :=
  h.keep (by unfold box6; simp) (fun k hk => box6_block w b v0 v1 v2 v3 v4 v5 (fun e => by rw [e] at hk; omega))

theorem six_below {B b n : Nat} {W w : World} (h : Below B W w) (hb : B ≤ b) (v0 v1 v2 v3 v4 v5 : Value) : Below B W (((((((w.setCell ⟨b, 0, none⟩ v0).setCell ⟨b, 1, none⟩ v1).setCell ⟨b, 2, none⟩ v2).setCell ⟨b, 3, none⟩ v3).setCell ⟨b, 4, none⟩ v4).setCell ⟨b, 5, none⟩ v5).drewN n) := by
  have h0 : Below B W (box6 w b v0 v1 v2 v3 v4 v5) := box6_below h hb v0 v1 v2 v3 v4 v5
  unfold box6 at h0
  generalize (((((w.setCell ⟨b, 0, none⟩ v0).setCell ⟨b, 1, none⟩ v1).setCell ⟨b, 2, none⟩ v2).setCell ⟨b, 3, none⟩ v3).setCell ⟨b, 4, none⟩ v4).setCell ⟨b, 5, none⟩ v5 = z at h0 ⊢
  exact ⟨h0.os, h0.tape, h0.output, h0.size, h0.block⟩
theorem six_rep {w : World} {p b n : Nat} {s : PSt} {V : PV} (h : PRep w p s V) (hb : 7 ≤ V.tag b) (v0 v1 v2 v3 v4 v5 : Value) : PRep (((((((w.setCell ⟨b, 0, none⟩ v0).setCell ⟨b, 1, none⟩ v1).setCell ⟨b, 2, none⟩ v2).setCell ⟨b, 3, none⟩ v3).setCell ⟨b, 4, none⟩ v4).setCell ⟨b, 5, none⟩ v5).drewN n) p s V := by
  have h0 : PRep (box6 w b v0 v1 v2 v3 v4 v5) p s V := box6_rep h hb v0 v1 v2 v3 v4 v5
  unfold box6 at h0
  exact h0.on (below_drewN _ n)

/-- The attempt fails; time goes on: one result. -/
theorem th_fail {c : Cfg} {N : Int} (hok : CfgOk c) (now launched set : Int) (times : List Int) (i : Int) (safe : Bool) (dl at_ first : Int) (h : List PTimer) (hh : HedgeT i now dl first set h) (hfs : first ≤ set) (hI : Inv N (thA c now launched set times i safe dl at_ first h)) (draw til : Int) (h0 : now + 10000 ≤ til) (h2 : til ≤ 1099511627776) :
    ∃ l1 l2 s8 set8, stepA (thA c now launched set times i safe dl at_ first h) ⟨4, 0, launched, 0, 0, false, draw, 0⟩ = l1 ∧ stepM (thA c now launched set times i safe dl at_ first h) ⟨4, 0, launched, 0, 0, false, draw, 0⟩ = s8 ∧
      stepA s8 ⟨6, 0, 0, 0, 0, false, 0, til⟩ = l2 ∧ stepM s8 ⟨6, 0, 0, 0, 0, false, 0, til⟩ = thS c til launched set8 times ∧ l1 ++ l2 = [⟨3, i, 0, 2, 0, 0⟩] ∧ l1.length + l2.length = 1 ∧ s8.stale = 0 ∧ (s8.calls = [] ∨ 0 < s8.set) := by
  have hs0 := hI.s0
  have hs0' : 0 ≤ set := hs0
  rcases th_nack (c := c) now launched set times i safe dl at_ first h hh draw with ⟨e1, e2⟩ | ⟨e1, e2, e3⟩
  · obtain ⟨q1, q2⟩ := th_idle (c := c) now launched set times til (by omega) h2
    exact ⟨_, _, _, set, e1, e2, q1, q2, rfl, rfl, rfl, .inl rfl⟩
  · have hI2 := inv_step hI ⟨4, 0, launched, 0, 0, false, draw, 0⟩
    rw [e2] at hI2
    have hw : waitP c.base c.most c.base draw ≤ 10000 := by have := hok.m1; unfold waitP; omega
    obtain ⟨q1, q2⟩ := th_wait hok.c0 now launched (set + 1) times i safe dl first _ _ hI2 e3 (by omega) til (by omega) (by omega) h2
    exact ⟨_, _, _, set + 1, e1, e2, q1, q2, rfl, rfl, rfl, .inr (by show 0 < set + 1; omega)⟩
end Go.Proofs.YtlccfpbbdgpjbaaGreatDoor

namespace Go.Proofs.YtlccfpbbdgpjbaaGreatDoor
open Go.RowKit Go.Maps

def thCfg (zs : List Int) : Cfg := { confV zs with deposit := 0 }
theorem thOk (zs : List Int) : CfgOk (thCfg zs) ∧ (thCfg zs).deposit = 0 := by
  have b1 := atV_lt zs 1 5 (by omega)
  have b2 := atV_lt zs 2 30 (by omega)
  have b3 := atV_lt zs 3 120 (by omega)
  have b4 := atV_lt zs 4 6 (by omega)
  have b5 := atV_lt zs 5 8 (by omega)
  have b6 := atV_lt zs 6 10 (by omega)
  have b7 := atV_lt zs 7 100 (by omega)
  have b8 := atV_lt zs 8 4 (by omega)
  have b9 := atV_lt zs 9 40 (by omega)
  refine ⟨?_, rfl⟩
  constructor <;> (simp only [thCfg, confV]; omega)

/-- What lay below B has stayed. -/
theorem PMv.belowB {V V' : PV} {w w' : World} (m : PMv V w V' w') {B : Nat} (hB : B ≤ w.heap.size) (ht : ∀ k, V.tag k < 7 → B ≤ k) : Below B w w' ∧ ∀ k, V'.tag k < 7 → B ≤ k := by
  refine ⟨⟨m.os, m.tape, m.output, m.size, fun k hk => m.block k (Nat.lt_of_lt_of_le hk hB) ?_⟩, fun k hk => ?_⟩
  · rcases Nat.lt_or_ge (V.tag k) 7 with h1 | h1
    · have := ht k h1
      omega
    · exact h1
  · rcases m.news k hk with h1 | h1
    · exact ht k h1
    · omega

theorem Below.drewN' {B : Nat} {w w' : World} (h : Below B w w') (n : Nat) : Below B w (w'.drewN n) := ⟨h.os, h.tape, h.output, h.size, h.block⟩

set_option maxRecDepth 100000 in
set_option maxHeartbeats 60000000 in
theorem through_walk (A1 : Option Addr) (len1 cap1 : Nat) (zs : List Int) (A2 : Option Addr) (len2 cap2 : Nat) (ds : List Int) (W : World) (hL : Laid W) (hz : IntsAt W A1 len1 zs) (hd : IntsAt W A2 len2 ds) :
    Calls Tryz.prog 5 #[.slice A1 len1 cap1, .slice A2 len2 cap2] W fun e w' => e = .returned (.bool true) ∧ Below W.heap.size W w' := by
  have HC := hide (fun W' (hb : Below W.heap.size W W') => kconfig_any A1 len1 cap1 zs W' (hz.below hb))
  obtain ⟨hok, hdep⟩ := thOk zs
  have HN := hide (fun W' (hb : Below W.heap.size W W') => new_full 0 (thCfg zs).cost (thCfg zs).cap (thCfg zs).window (thCfg zs).attempts (thCfg zs).flight (thCfg zs).base (thCfg zs).most (thCfg zs).rank (thCfg zs).samples W' (hL.on hb) (by
    unfold cfgErr
    obtain ⟨h1, h2, h3, h4, h5, h6, h7, h8, h9, h10, h11, h12, h13, h14, h15, h16, h17, h18, h19⟩ := hok
    rw [if_neg (by omega), if_neg (by omega), if_neg (by omega)]))
  have HD := hide hd
  have HOK := hide hok
  have HDEP := hide hdep
  have hcv : cfgVal (confV zs) = .agg #[.int .i64 (confV zs).deposit, .int .i64 (thCfg zs).cost, .int .i64 (thCfg zs).cap, .int .i64 (thCfg zs).window, .int .i64 (thCfg zs).attempts, .int .i64 (thCfg zs).flight, .int .i64 (thCfg zs).base, .int .i64 (thCfg zs).most, .int .i64 (thCfg zs).rank, .int .i64 (thCfg zs).samples] := rfl
  rw [hcv] at HC
  have hcc : (⟨0, (thCfg zs).cost, (thCfg zs).cap, (thCfg zs).window, (thCfg zs).attempts, (thCfg zs).flight, (thCfg zs).base, (thCfg zs).most, (thCfg zs).rank, (thCfg zs).samples⟩ : Cfg) = thCfg zs := rfl
  rw [hcc] at HN
  generalize thCfg zs = c at HC HN HOK HDEP
  generalize confV zs = c0 at HC
  clear hL hd hz hok hcv hcc hdep
  go_enter Tryz.func5, Tryz.ntmps5
  go_wp2_with fail
  refine (HC.out _ ?_).mono ?_
  · repeat (first | exact Below.refl _ _ | refine Below.drew ?_ | refine Below.alloc ?_ (by first | (simp; done) | (simp; omega)) _)
  rintro e w1 ⟨rfl, hb1⟩
  go_wp2_with fail
  have hbW : Below W.heap.size W (w1.alloc (.cells #[.int .i64 0, .int .i64 c.cost, .int .i64 c.cap, .int .i64 c.window, .int .i64 c.attempts, .int .i64 c.flight, .int .i64 c.base, .int .i64 c.most, .int .i64 c.rank, .int .i64 c.samples] 34)) := hb1.alloc hb1.size _
  generalize w1.alloc (.cells #[.int .i64 0, .int .i64 c.cost, .int .i64 c.cap, .int .i64 c.window, .int .i64 c.attempts, .int .i64 c.flight, .int .i64 c.base, .int .i64 c.most, .int .i64 c.rank, .int .i64 c.samples] 34) = W1 at hbW ⊢
  refine (HN.out W1 hbW).mono ?_
  rintro e w2 ⟨x, V, rfl, h2, hb2, ht2⟩
  have lx2 := h2.lp
  have H2 : Hid (PRep w2 x (thS c 0 0 0 []) V) := h2
  have I2 : Hid (Inv 0 (thS c 0 0 0 [])) := inv_init HOK.out
  have HT2 := hide ht2
  have HB2 := hide hb2
  have HbW := hide hbW
  clear h2 ht2 HN HC hbW hb1 hb2
  go_wp2_with fail
  go_loopg [8, 9, 10] 50 (fun gk nowv attv iv wr => ∃ (j : Nat) (now set : Int) (times : List Int) (V' : PV), gk = 50 - j ∧ nowv = .int .i64 now ∧ attv = .int .i64 j ∧ iv = .int .i64 (4 * (j : Int)) ∧ j ≤ 50 ∧ 0 ≤ now ∧ now ≤ 10200 * (j : Int) ∧ PRep wr x (thS c now j set times) V' ∧ Inv (4 * (j : Int)) (thS c now j set times) ∧ (∀ k, V'.tag k < 7 → W1.heap.size ≤ k) ∧ Below W1.heap.size W1 wr)
  case atStart => exact ⟨0, 0, 0, [], V, rfl, rfl, rfl, rfl, by omega, by omega, by omega, H2.out, I2.out, HT2.out, HB2.out⟩
  case round =>
    obtain ⟨j, now, set, times, V', hgk, rfl, rfl, rfl, hj, n0, n1, R, I, T, B⟩ := hrel
    obtain ⟨wo, hwo⟩ : ∃ wo : World, wo = wr := ⟨_, rfl⟩
    rw [← hwo] at R B ⊢
    clear hwo H2 HB2 HT2 I2
    by_cases hgo : 4 * j + 3 < len2 ∧ 4 * j < 200
    · obtain ⟨g1, g2⟩ := hgo
      have g1' : 4 * (j : Int) + 3 < (len2 : Int) := by omega
      have g2' : 4 * (j : Int) < 200 := by omega
      have HDS : ∃ sb so z0 z1 z2 z3, A2 = some ⟨sb, so, none⟩ ∧ sb < W1.heap.size ∧ W1.cell? ⟨sb, so + 4 * j, none⟩ = some (.int .i64 z0) ∧ W1.cell? ⟨sb, so + (4 * j + 1), none⟩ = some (.int .i64 z1) ∧ W1.cell? ⟨sb, so + (4 * j + 2), none⟩ = some (.int .i64 z2) ∧ W1.cell? ⟨sb, so + (4 * j + 3), none⟩ = some (.int .i64 z3) ∧ (-9223372036854775808 ≤ z0 ∧ z0 ≤ 9223372036854775807) ∧ (-9223372036854775808 ≤ z1 ∧ z1 ≤ 9223372036854775807) ∧ (-9223372036854775808 ≤ z2 ∧ z2 ≤ 9223372036854775807) ∧ (-9223372036854775808 ≤ z3 ∧ z3 ≤ 9223372036854775807) := by
        obtain ⟨q1, q2, q3, q4⟩ := HD.out
        rcases q4 with q4 | ⟨sb, so, e, hl, hc⟩
        · omega
        · exact ⟨sb, so, _, _, _, _, e, Nat.lt_of_lt_of_le hl HbW.out.size, (HbW.out.cell hl).trans (hc (4 * j) (by omega)), (HbW.out.cell hl).trans (hc (4 * j + 1) (by omega)), (HbW.out.cell hl).trans (hc (4 * j + 2) (by omega)), (HbW.out.cell hl).trans (hc (4 * j + 3) (by omega)), q2 _ (List.getElem_mem _), q2 _ (List.getElem_mem _), q2 _ (List.getElem_mem _), q2 _ (List.getElem_mem _)⟩
      obtain ⟨sb, so, z0, z1, z2, z3, rfl, lsb, d0, d1, d2, d3, r0, r1, r2, r3⟩ := HDS
      have hidx0 : (4 * (j : Int)).toNat = 4 * j := by omega
      have o0 := (B.cell lsb).trans d0
      have o1 := (B.cell lsb).trans d1
      have lso : sb < wo.heap.size := World.block_lt_of_cell? wo _ o0
      have HP0 := hide (pick_any z0 100 wo r0.1 r0.2 (by omega) (by omega))
      have HR := hide R
      have HII := hide I
      have HTT := hide T
      have HBB := hide B
      clear R I T B
      go_wp2_with fail
      refine HP0.out.mono ?_
      rintro e w3 ⟨rfl, rfl⟩
      obtain ⟨tm0, tm1⟩ := pickV_lt z0 100 (by omega)
      generalize pickV z0 100 = tq at tm0 tm1 ⊢
      clear HP0
      go_wp2_with fail
      generalize (z1.tmod 2 == 0) = sf
      have hw4 : (Lit.int .i64 (4 * (j : Int))).wf = true := WalkArith.wf_i64 (by omega)
      have hw0 : (Lit.int .i64 0).wf = true := by decide
      have Hw0 := hide hw0
      obtain ⟨eA, h, set', eM, hh, _⟩ := th_submit HOK.out HDEP.out now j set times (4 * (j : Int)) (1 + tq) sf (by omega) (by omega) (by omega)
      have HX := hide (rep_step (hedge_all x c) HR.out HII.out (by omega) (.inl rfl) (by show (0 : Int) ≤ _; omega) ⟨1, 4 * (j : Int), 0, 0, 1 + tq, sf, 0, 0⟩ ⟨hw4, hw0, Int.le_refl _⟩)
      rw [eA, eM] at HX
      have I4 : Hid (Inv (4 * (j : Int) + 1) (thA c now ((j : Int) + 1) set' times (4 * (j : Int)) sf (now + (1 + tq)) now (set + 1) h)) := by
        have h9 := inv_step HII.out ⟨1, 4 * (j : Int), 0, 0, 1 + tq, sf, 0, 0⟩
        rw [eM] at h9
        exact h9
      unfold evV at HX
      dsimp only at HX
      have HH := hide hh
      clear eA eM hh hw4 hw0
      refine HX.out.mono ?_
      rintro e w4 ⟨v4, V4, rfl, r4, h4, m4, t4⟩
      obtain ⟨hb4, ht4⟩ := m4.belowB (B := W1.heap.size) HBB.out.size HTT.out
      have hB4 := HBB.out.trans hb4
      obtain ⟨g4, cap4, rfl, _⟩ := r4.at (by simp)
      have q0 := (r4.cell encAct_len (g := g4) (i := 0) (j := 0) rfl (by simp) rfl).1
      have q1 := (r4.cell encAct_len (g := g4) (i := 0) (j := 1) rfl (by simp) rfl).1
      have q2 := (r4.cell encAct_len (g := g4) (i := 0) (j := 2) rfl (by simp) rfl).1
      have q3 := (r4.cell encAct_len (g := g4) (i := 0) (j := 3) rfl (by simp) rfl).1
      have q4 := (r4.cell encAct_len (g := g4) (i := 0) (j := 4) rfl (by simp) rfl).1
      have q5 := (r4.cell encAct_len (g := g4) (i := 0) (j := 5) rfl (by simp) rfl).1
      simp only [Nat.zero_mul, Nat.zero_add] at q0 q1 q2 q3 q4 q5
      have p2 := (hB4.cell lsb).trans d2
      have lg4 : g4 < w4.heap.size := World.block_lt_of_cell? w4 _ q0
      have ls4 : sb < w4.heap.size := World.block_lt_of_cell? w4 _ p2
      have HP2 := hide (pick_any z2 (1 + tq) w4 r2.1 r2.2 (by omega) (by omega))
      have H4 := hide h4
      have HB4 := hide hB4
      have HT4 := hide ht4
      have hsz4 := hB4.size
      clear HX r4 h4 m4 t4 hb4 hB4 ht4 o0 o1 lso HR HII HTT HBB
      simp only [List.length_singleton]
      have hidx2 : (4 * (j : Int) + 2).toNat = 4 * j + 2 := by omega
      go_wp2_with fail
      refine HP2.out.mono ?_
      rintro e w5 ⟨rfl, rfl⟩
      obtain ⟨pq0, pq1⟩ := pickV_lt z2 (1 + tq) (by omega)
      generalize pickV z2 (1 + tq) = pq at pq0 pq1 ⊢
      obtain ⟨eA2, h', eM2, hh2⟩ := th_adv HOK.out.c0 now ((j : Int) + 1) set' times (4 * (j : Int)) sf (now + (1 + tq)) now (set + 1) h HH.out I4.out (now + pq) (by omega) (by omega) (by omega)
      have HY := hide (rep_step (hedge_all x c) H4.out I4.out (by omega) (.inr (by have h9 := I4.out.tb ⟨1, 4 * (j : Int), now + (1 + tq), set + 1⟩ (by simp [thA]); have h8 : 1 ≤ set + 1 ∧ set + 1 ≤ set' := h9.2.2.2; show 0 < set'; omega)) (by show (0 : Int) ≤ _; omega) ⟨6, 0, 0, 0, 0, false, 0, now + pq⟩ ⟨Hw0.out, Hw0.out, Int.le_refl _⟩)
      rw [eA2, eM2] at HY
      have I5 : Hid (Inv (4 * (j : Int) + 2) (thA c (now + pq) ((j : Int) + 1) set' times (4 * (j : Int)) sf (now + (1 + tq)) now (set + 1) h')) := by
        have h9 := inv_step I4.out ⟨6, 0, 0, 0, 0, false, 0, now + pq⟩
        rw [eM2] at h9
        exact h9.mono (by omega)
      unfold evV at HY
      dsimp only at HY
      have HH2 := hide hh2
      clear eA2 eM2 hh2 HP2 q0 q1 q2 q3 q4 q5 lg4 I4
      go_wp2_with fail
      refine HY.out.mono ?_
      rintro e w6 ⟨v6, V6, rfl, r6, h6, m6, t6⟩
      obtain ⟨hb6, ht6⟩ := m6.belowB (B := W1.heap.size) hsz4 HT4.out
      have hB6 := HB4.out.trans hb6
      obtain ⟨A6, cap6, rfl, _, _, _⟩ := r6.form
      have p0 := (hB6.cell lsb).trans d0
      have p3 := (hB6.cell lsb).trans d3
      have ls6 : sb < w6.heap.size := World.block_lt_of_cell? w6 _ p3
      have HP3 := hide (fun n => pick_any z3 3 (w6.drewN n) r3.1 r3.2 (by omega) (by omega))
      have HP3a := hide (fun O => pick_any z3 3 (w6.alloc O) r3.1 r3.2 (by omega) (by omega))
      have H6 := hide h6
      have HB6 := hide hB6
      have HT6 := hide ht6
      have hsz6 := hB6.size
      clear HY r6 h6 m6 t6 hb6 hB6 ht6 H4 HB4 HT4 p2 ls4 hsz4
      simp only [List.length_nil]
      have hidx3 : (4 * (j : Int) + 3).toNat = 4 * j + 3 := by omega
      have HSP : Hid (0 < set') := by
        have h9 := I5.out.tb ⟨1, 4 * (j : Int), now + (1 + tq), set + 1⟩ (by simp [thA])
        have h8 : 1 ≤ set + 1 ∧ set + 1 ≤ set' := h9.2.2.2
        show 0 < set'
        omega
      have HFS : Hid (set + 1 ≤ set') := (I5.out.tb ⟨1, 4 * (j : Int), now + (1 + tq), set + 1⟩ (by simp [thA])).2.2.2.2
      go_wp2_with fail
      refine (HP3a.out _).mono ?_
      rintro e w7 ⟨rfl, rfl⟩
      obtain ⟨k0, k1⟩ := pickV_lt z3 3 (by omega)
      have hbx : Below w6.heap.size w6 (w6.alloc (.cells #[.int .i64 0, .int .i64 0, .int .i64 0, .int .i64 0, .int .i64 0, .int .i64 0] 55)) := (Below.refl _ _).alloc (Nat.le_refl _) _
      have H7 := hide (H6.out.on hbx)
      have HB7 := hide (HB6.out.trans (hbx.mono hsz6))
      have b7 : ∀ i, i < 6 → (w6.alloc (.cells #[.int .i64 0, .int .i64 0, .int .i64 0, .int .i64 0, .int .i64 0, .int .i64 0] 55)).cell? ⟨w6.heap.size, i, none⟩ = some (.int .i64 0) := fun i hi => by
        match i, hi with
        | 0, _ => simp
        | 1, _ => simp
        | 2, _ => simp
        | 3, _ => simp
        | 4, _ => simp
        | 5, _ => simp
      have f7 : ∀ i, (w6.alloc (.cells #[.int .i64 0, .int .i64 0, .int .i64 0, .int .i64 0, .int .i64 0, .int .i64 0] 55)).frozen? ⟨w6.heap.size, i, none⟩ = false := fun i => by
        unfold World.frozen?
        dsimp only
        rw [heap_alloc_new]
        simp
      have tb7 : 7 ≤ V6.tag w6.heap.size := by
        rcases Nat.lt_or_ge (V6.tag w6.heap.size) 7 with h9 | h9
        · have := H6.out.tl _ h9
          omega
        · exact h9
      have lb7 : w6.heap.size < (w6.alloc (.cells #[.int .i64 0, .int .i64 0, .int .i64 0, .int .i64 0, .int .i64 0, .int .i64 0] 55)).heap.size := by simp
      generalize w6.alloc (.cells #[.int .i64 0, .int .i64 0, .int .i64 0, .int .i64 0, .int .i64 0, .int .i64 0] 55) = W7 at H7 HB7 b7 f7 lb7 ⊢
      have hwb6 : W1.heap.size ≤ w6.heap.size := hsz6
      generalize w6.heap.size = wb at b7 f7 tb7 lb7 hwb6 ⊢
      by_cases c0' : pickV z3 3 = 0
      · rw [c0']
        obtain ⟨eA3, eM3⟩ := th_ok (c := c) (now + pq) ((j : Int) + 1) set' times (4 * (j : Int)) sf (now + (1 + tq)) now (set + 1) h' HH2.out (4 * (j : Int))
        have HZ := hide (rep_step (hedge_all x c) H7.out I5.out (by omega) (.inr HSP.out) (by show (0 : Int) ≤ _; omega) ⟨2, 0, (j : Int) + 1, 4 * (j : Int), 0, false, 0, 0⟩ ⟨Hw0.out, WalkArith.wf_i64 (show -9223372036854775808 ≤ (j : Int) + 1 ∧ (j : Int) + 1 ≤ 9223372036854775807 by omega), Int.le_refl _⟩)
        rw [eA3, eM3] at HZ
        have I8 : Hid (Inv (4 * (j : Int) + 3) (thS c (now + pq) ((j : Int) + 1) set' (addT times (now + pq - now)))) := by
          have h9 := inv_step I5.out ⟨2, 0, (j : Int) + 1, 4 * (j : Int), 0, false, 0, 0⟩
          rw [eM3] at h9
          exact h9.mono (by omega)
        unfold evV at HZ
        dsimp only at HZ
        clear eA3 eM3
        go_wp2_with fail
        refine HZ.out.mono ?_
        rintro e w8 ⟨v8, V8, rfl, r8, h8, m8, t8⟩
        obtain ⟨hb8, ht8⟩ := m8.belowB (B := W1.heap.size) HB7.out.size HT6.out
        have hB8 := HB7.out.trans hb8
        obtain ⟨g8, cap8, rfl, _⟩ := r8.at (by simp)
        have q0 := (r8.cell encAct_len (g := g8) (i := 0) (j := 0) rfl (by simp) rfl).1
        have q1 := (r8.cell encAct_len (g := g8) (i := 0) (j := 1) rfl (by simp) rfl).1
        have q2 := (r8.cell encAct_len (g := g8) (i := 0) (j := 2) rfl (by simp) rfl).1
        have q3 := (r8.cell encAct_len (g := g8) (i := 0) (j := 3) rfl (by simp) rfl).1
        have q4 := (r8.cell encAct_len (g := g8) (i := 0) (j := 4) rfl (by simp) rfl).1
        have q5 := (r8.cell encAct_len (g := g8) (i := 0) (j := 5) rfl (by simp) rfl).1
        simp only [Nat.zero_mul, Nat.zero_add] at q0 q1 q2 q3 q4 q5
        have hwb := m8.block wb lb7 tb7
        have y0 := (World.cell?_of_block (a := ⟨wb, 0, none⟩) hwb).trans (b7 0 (by omega))
        have y1 := (World.cell?_of_block (a := ⟨wb, 1, none⟩) hwb).trans (b7 1 (by omega))
        have y2 := (World.cell?_of_block (a := ⟨wb, 2, none⟩) hwb).trans (b7 2 (by omega))
        have y3 := (World.cell?_of_block (a := ⟨wb, 3, none⟩) hwb).trans (b7 3 (by omega))
        have y4 := (World.cell?_of_block (a := ⟨wb, 4, none⟩) hwb).trans (b7 4 (by omega))
        have y5 := (World.cell?_of_block (a := ⟨wb, 5, none⟩) hwb).trans (b7 5 (by omega))
        have x0 := (World.frozen?_of_block (a := ⟨wb, 0, none⟩) hwb).trans (f7 0)
        have x1 := (World.frozen?_of_block (a := ⟨wb, 1, none⟩) hwb).trans (f7 1)
        have x2 := (World.frozen?_of_block (a := ⟨wb, 2, none⟩) hwb).trans (f7 2)
        have x3 := (World.frozen?_of_block (a := ⟨wb, 3, none⟩) hwb).trans (f7 3)
        have x4 := (World.frozen?_of_block (a := ⟨wb, 4, none⟩) hwb).trans (f7 4)
        have x5 := (World.frozen?_of_block (a := ⟨wb, 5, none⟩) hwb).trans (f7 5)
        have lg8 : g8 < w8.heap.size := World.block_lt_of_cell? w8 _ q0
        have lw8 : wb < w8.heap.size := World.block_lt_of_cell? w8 _ y0
        have hgw : g8 ≠ wb := fun e => by have := (r8.lt g8 rfl).1; omega
        have H8 := hide h8
        have HB8 := hide hB8
        have HT8 := hide ht8
        have HTB := hide (m8.tag7 lb7 tb7)
        clear HZ r8 h8 m8 t8 hb8 hB8 ht8 H6 HB6 HT6 H7 HB7 b7 f7 HP3 HP3a hwb p0 p3
        simp only [List.length_singleton]
        go_wp2_with fail
        go_quiet (fail)
        go_wp2_with fail
        go_roundg (50 - (j + 1))
        case measure => omega
        case rel =>
          refine ⟨j + 1, now + pq, set', addT times (now + pq - now), V8, rfl, rfl, by go_num, ?_, by omega, by omega, by omega, ?_, ?_, HT8.out, ?_⟩
          · go_num
          · exact six_rep H8.out HTB.out _ _ _ _ _ _
          · exact I8.out.mono (by omega)
          · exact six_below HB8.out hwb6 _ _ _ _ _ _
      · by_cases c1' : pickV z3 3 = 1
        · rw [c1']
          have d7 := (HB7.out.cell lsb).trans d0
          have ls7 : sb < W7.heap.size := World.block_lt_of_cell? W7 _ d7
          obtain ⟨dr, hdr⟩ : ∃ dr, dr = IntKind.u64.wrap z0 := ⟨_, rfl⟩
          have hdr0 : 0 ≤ dr := by rw [hdr, IntKind.wrap_u64]; omega
          obtain ⟨l1, l2, s8, set8, eA3, eM3, eA4, eM4, hcat, hlen, hst8, hsp8⟩ := th_fail HOK.out (now + pq) ((j : Int) + 1) set' times (4 * (j : Int)) sf (now + (1 + tq)) now (set + 1) h' HH2.out HFS.out I5.out dr (now + pq + 10000) (by omega) (by omega)
          have HZ := hide (rep_step (hedge_all x c) H7.out I5.out (by omega) (.inr HSP.out) (by show (0 : Int) ≤ _; omega) ⟨4, 0, (j : Int) + 1, 0, 0, false, dr, 0⟩ ⟨Hw0.out, WalkArith.wf_i64 (show -9223372036854775808 ≤ (j : Int) + 1 ∧ (j : Int) + 1 ≤ 9223372036854775807 by omega), hdr0⟩)
          rw [eA3, eM3] at HZ
          have I8 : Hid (Inv (4 * (j : Int) + 3) s8) := by
            have h9 := inv_step I5.out ⟨4, 0, (j : Int) + 1, 0, 0, false, dr, 0⟩
            rw [eM3] at h9
            exact h9.mono (by omega)
          have I9 : Hid (Inv (4 * (j : Int) + 4) (thS c (now + pq + 10000) ((j : Int) + 1) set8 times)) := by
            have h9 := inv_step I8.out ⟨6, 0, 0, 0, 0, false, 0, now + pq + 10000⟩
            rw [eM4] at h9
            exact h9.mono (by omega)
          have HST := hide (fun w V (hh : PRep w x s8 V) => rep_step (hedge_all x s8.cfg) hh I8.out (by omega) hsp8 (by rw [hst8]; omega) ⟨6, 0, 0, 0, 0, false, 0, now + pq + 10000⟩ ⟨Hw0.out, Hw0.out, Int.le_refl _⟩)
          rw [eA4, eM4] at HST
          unfold evV at HZ HST
          dsimp only at HZ HST
          clear eA3 eM3 eA4 eM4 hsp8 hst8
          have HCAT := hide hcat
          clear hcat
          go_wp2_with fail
          rw [← hdr]
          refine HZ.out.mono ?_
          rintro e w8 ⟨v8, V8, rfl, r8, h8, m8, t8⟩
          obtain ⟨hb8, ht8⟩ := m8.belowB (B := W1.heap.size) HB7.out.size HT6.out
          have hB8 := HB7.out.trans hb8
          obtain ⟨A8, cap8, rfl, _, _, _⟩ := r8.form
          have HX9 := hide (HST.out w8 V8 h8)
          have hwb8 := m8.block wb lb7 tb7
          have lb8 : wb < w8.heap.size := Nat.lt_of_lt_of_le lb7 m8.size
          have t78 := m8.tag7 lb7 tb7
          have R8 := hide r8
          have T8 := hide t8
          have HB8 := hide hB8
          have HT8 := hide ht8
          have hw18 : W7.heap.size ≤ w8.heap.size := m8.size
          have HWB8 := hide hwb8
          clear HZ HST r8 h8 m8 t8 hb8 hB8 ht8 H6 HB6 HT6 H7 hwb8 p0 p3 HP3 HP3a d7 ls7
          go_wp2_with fail
          refine HX9.out.mono ?_
          rintro e w9 ⟨v9, V9, rfl, r9, h9, m9, t9⟩
          obtain ⟨hb9, ht9⟩ := m9.belowB (B := W1.heap.size) HB8.out.size HT8.out
          have hB9 := HB8.out.trans hb9
          obtain ⟨r8', t8'⟩ := R8.out.pmv m9 T8.out
          obtain ⟨A9, cap9, rfl, _, _, _⟩ := r9.form
          have hwb9 := (m9.block wb lb8 t78).trans HWB8.out
          have lb9 : wb < w9.heap.size := Nat.lt_of_lt_of_le lb8 m9.size
          have t79 := hide (m9.tag7 lb8 t78)
          have hw19 : W7.heap.size ≤ w9.heap.size := Nat.le_trans hw18 m9.size
          have RA := hide r8'
          have RB := hide r9
          have TA := hide t8'
          have H9 := hide h9
          have HB9 := hide hB9
          have HT9 := hide ht9
          have HWB9 := hide hwb9
          clear HX9 r9 h9 m9 t9 hb9 hB9 ht9 r8' t8' R8 T8 HB8 HT8 HWB8 hwb9
          go_wp2_with (first
            | (at_builtin
               refine wpList_append_acts w9 (by rfl) _ _ (by rfl) W7.heap.size w8.heap.size (.slice A8 l1.length cap8) (.slice A9 l2.length cap9) l1 l2 (by rfl) (by rfl) RA.out RB.out (by omega) hw19 ?_
               intro v10 w10 hrow hgrow hnew
               rw [HCAT.out] at hrow
               obtain ⟨g10, cap10, rfl, _⟩ := hrow.at (by simp)
               have hown : some wb ≠ (Value.slice A8 l1.length cap8).ownBlock := fun e => (by have := (RA.out.lt wb e.symm).1; omega)
               have hwbB := (hgrow.block wb lb9 hown).trans HWB9.out
               have q0 := (hrow.cell encAct_len (g := g10) (i := 0) (j := 0) rfl (by simp) rfl).1
               have q1 := (hrow.cell encAct_len (g := g10) (i := 0) (j := 1) rfl (by simp) rfl).1
               have q2 := (hrow.cell encAct_len (g := g10) (i := 0) (j := 2) rfl (by simp) rfl).1
               have q3 := (hrow.cell encAct_len (g := g10) (i := 0) (j := 3) rfl (by simp) rfl).1
               have q4 := (hrow.cell encAct_len (g := g10) (i := 0) (j := 4) rfl (by simp) rfl).1
               have q5 := (hrow.cell encAct_len (g := g10) (i := 0) (j := 5) rfl (by simp) rfl).1
               simp only [Nat.zero_mul, Nat.zero_add] at q0 q1 q2 q3 q4 q5
               have y0 := (World.cell?_of_block (a := ⟨wb, 0, none⟩) hwbB).trans (b7 0 (by omega))
               have x0 := (World.frozen?_of_block (a := ⟨wb, 0, none⟩) hwbB).trans (f7 0)
               have y1 := (World.cell?_of_block (a := ⟨wb, 1, none⟩) hwbB).trans (b7 1 (by omega))
               have x1 := (World.frozen?_of_block (a := ⟨wb, 1, none⟩) hwbB).trans (f7 1)
               have y2 := (World.cell?_of_block (a := ⟨wb, 2, none⟩) hwbB).trans (b7 2 (by omega))
               have x2 := (World.frozen?_of_block (a := ⟨wb, 2, none⟩) hwbB).trans (f7 2)
               have y3 := (World.cell?_of_block (a := ⟨wb, 3, none⟩) hwbB).trans (b7 3 (by omega))
               have x3 := (World.frozen?_of_block (a := ⟨wb, 3, none⟩) hwbB).trans (f7 3)
               have y4 := (World.cell?_of_block (a := ⟨wb, 4, none⟩) hwbB).trans (b7 4 (by omega))
               have x4 := (World.frozen?_of_block (a := ⟨wb, 4, none⟩) hwbB).trans (f7 4)
               have y5 := (World.cell?_of_block (a := ⟨wb, 5, none⟩) hwbB).trans (b7 5 (by omega))
               have x5 := (World.frozen?_of_block (a := ⟨wb, 5, none⟩) hwbB).trans (f7 5)
               have lg10 : g10 < w10.heap.size := World.block_lt_of_cell? w10 _ q0
               have lw10 : wb < w10.heap.size := World.block_lt_of_cell? w10 _ y0
               have hgw : g10 ≠ wb := fun e => (by have := (hrow.lt g10 rfl).1; omega)
               have HG := hide hgrow
               clear hrow hgrow hnew hwbB hown
               simp only [List.length_singleton]))
          go_quiet (fail)
          go_wp2_with fail
          go_roundg (50 - (j + 1))
          case measure => omega
          case rel =>
            have R10 := H9.out.keep HG.out.size (fun k hk => HG.out.block k (H9.out.tl k hk) (fun e => by have := TA.out k e.symm; omega))
            have B10 := HB9.out.grown HG.out (Nat.le_trans HB7.out.size hw19) (fun k hk => Nat.le_trans HB7.out.size (RA.out.lt k hk).1)
            refine ⟨j + 1, now + pq + 10000, set8, times, V9, rfl, by go_num, by go_num, ?_, by omega, by omega, by omega, ?_, ?_, HT9.out, ?_⟩
            · go_num
            · exact six_rep R10 t79.out _ _ _ _ _ _
            · exact I9.out.mono (by omega)
            · exact six_below B10 hwb6 _ _ _ _ _ _
        · have c2' : pickV z3 3 = 2 := by omega
          rw [c2']
          obtain ⟨eA3, eM3⟩ := th_late HOK.out.c0 (now + pq) ((j : Int) + 1) set' times (4 * (j : Int)) sf (now + (1 + tq)) now (set + 1) h' HH2.out I5.out (now + pq + (1 + tq)) (by omega) (by omega) (by omega)
          have HZ := hide (rep_step (hedge_all x c) H7.out I5.out (by omega) (.inr HSP.out) (by show (0 : Int) ≤ _; omega) ⟨6, 0, 0, 0, 0, false, 0, now + pq + (1 + tq)⟩ ⟨Hw0.out, Hw0.out, Int.le_refl _⟩)
          rw [eA3, eM3] at HZ
          have I8 : Hid (Inv (4 * (j : Int) + 3) (thS c (now + pq + (1 + tq)) ((j : Int) + 1) set' times)) := by
            have h9 := inv_step I5.out ⟨6, 0, 0, 0, 0, false, 0, now + pq + (1 + tq)⟩
            rw [eM3] at h9
            exact h9.mono (by omega)
          unfold evV at HZ
          dsimp only at HZ
          clear eA3 eM3
          go_wp2_with fail
          refine HZ.out.mono ?_
          rintro e w8 ⟨v8, V8, rfl, r8, h8, m8, t8⟩
          obtain ⟨hb8, ht8⟩ := m8.belowB (B := W1.heap.size) HB7.out.size HT6.out
          have hB8 := HB7.out.trans hb8
          obtain ⟨g10, cap8, rfl, _⟩ := r8.at (by simp)
          have hrow := r8
          have hcap := hrow.le_cap
          have q0 := (hrow.cell encAct_len (g := g10) (i := 0) (j := 0) rfl (by simp) rfl).1
          have q1 := (hrow.cell encAct_len (g := g10) (i := 0) (j := 1) rfl (by simp) rfl).1
          have q2 := (hrow.cell encAct_len (g := g10) (i := 0) (j := 2) rfl (by simp) rfl).1
          have q3 := (hrow.cell encAct_len (g := g10) (i := 0) (j := 3) rfl (by simp) rfl).1
          have q4 := (hrow.cell encAct_len (g := g10) (i := 0) (j := 4) rfl (by simp) rfl).1
          have q5 := (hrow.cell encAct_len (g := g10) (i := 0) (j := 5) rfl (by simp) rfl).1
          have z0' := (hrow.cell encAct_len (g := g10) (i := 1) (j := 0) rfl (by simp) rfl).1
          have z1' := (hrow.cell encAct_len (g := g10) (i := 1) (j := 1) rfl (by simp) rfl).1
          have z2' := (hrow.cell encAct_len (g := g10) (i := 1) (j := 2) rfl (by simp) rfl).1
          have z3' := (hrow.cell encAct_len (g := g10) (i := 1) (j := 3) rfl (by simp) rfl).1
          have z4' := (hrow.cell encAct_len (g := g10) (i := 1) (j := 4) rfl (by simp) rfl).1
          have z5' := (hrow.cell encAct_len (g := g10) (i := 1) (j := 5) rfl (by simp) rfl).1
          simp only [Nat.zero_mul, Nat.zero_add, Nat.one_mul, Nat.reduceAdd] at q0 q1 q2 q3 q4 q5 z0' z1' z2' z3' z4' z5'
          have hwbB := m8.block wb lb7 tb7
          have y0 := (World.cell?_of_block (a := ⟨wb, 0, none⟩) hwbB).trans (b7 0 (by omega))
          have x0 := (World.frozen?_of_block (a := ⟨wb, 0, none⟩) hwbB).trans (f7 0)
          have y1 := (World.cell?_of_block (a := ⟨wb, 1, none⟩) hwbB).trans (b7 1 (by omega))
          have x1 := (World.frozen?_of_block (a := ⟨wb, 1, none⟩) hwbB).trans (f7 1)
          have y2 := (World.cell?_of_block (a := ⟨wb, 2, none⟩) hwbB).trans (b7 2 (by omega))
          have x2 := (World.frozen?_of_block (a := ⟨wb, 2, none⟩) hwbB).trans (f7 2)
          have y3 := (World.cell?_of_block (a := ⟨wb, 3, none⟩) hwbB).trans (b7 3 (by omega))
          have x3 := (World.frozen?_of_block (a := ⟨wb, 3, none⟩) hwbB).trans (f7 3)
          have y4 := (World.cell?_of_block (a := ⟨wb, 4, none⟩) hwbB).trans (b7 4 (by omega))
          have x4 := (World.frozen?_of_block (a := ⟨wb, 4, none⟩) hwbB).trans (f7 4)
          have y5 := (World.cell?_of_block (a := ⟨wb, 5, none⟩) hwbB).trans (b7 5 (by omega))
          have x5 := (World.frozen?_of_block (a := ⟨wb, 5, none⟩) hwbB).trans (f7 5)
          have lg8 : g10 < w8.heap.size := World.block_lt_of_cell? w8 _ q0
          have lw8 : wb < w8.heap.size := World.block_lt_of_cell? w8 _ y0
          have hgw : g10 ≠ wb := fun e => by have := (r8.lt g10 rfl).1; omega
          have H8 := hide h8
          have HB8 := hide hB8
          have HT8 := hide ht8
          have HTB := hide (m8.tag7 lb7 tb7)
          clear HZ r8 hrow h8 m8 t8 hb8 hB8 ht8 H6 HB6 HT6 H7 HB7 b7 f7 HP3 HP3a hwbB p0 p3
          simp only [List.length_cons, List.length_nil] at hcap ⊢
          go_wp2_with fail
          go_quiet (fail)
          go_wp2_with fail
          go_roundg (50 - (j + 1))
          case measure => omega
          case rel =>
            refine ⟨j + 1, now + pq + (1 + tq), set', times, V8, rfl, by go_num, by go_num, ?_, by omega, by omega, by omega, ?_, ?_, HT8.out, ?_⟩
            · go_num
            · exact six_rep H8.out HTB.out _ _ _ _ _ _
            · exact I8.out.mono (by omega)
            · exact six_below HB8.out hwb6 _ _ _ _ _ _
    · by_cases hg1 : 4 * (j : Int) + 3 < (len2 : Int)
      · have hg2 : ¬ 4 * (j : Int) < 200 := by omega
        have HEND := hide (HbW.out.trans (B.mono HbW.out.size))
        clear R I T B
        go_wp2_with fail
        go_ret
        exact ⟨rfl, HEND.out⟩
      · have HEND := hide (HbW.out.trans (B.mono HbW.out.size))
        clear R I T B
        go_wp2_with fail
        go_ret
        exact ⟨rfl, HEND.out⟩
end Go.Proofs.YtlccfpbbdgpjbaaGreatDoor
