import Derived.Test.YtlccfpbbdgpjbaaGreatDoorZAdv
import Derived.Test.YtlccfpbbdgpjbaaGreatDoorKConf
namespace Go.Proofs.YtlccfpbbdgpjbaaGreatDoor

def agCfg (zs : List Int) : Cfg := { confV zs with deposit := 100, cost := 1, cap := 100, window := 10000, samples := 0 }
structure AgOk (c : Cfg) : Prop where
  d : c.deposit = 100
  co : c.cost = 1
  ca : c.cap = 100
  wi : c.window = 10000
  sa : c.samples = 0
  b0 : 1 ≤ c.base
  b1 : c.base ≤ 10
  m0 : c.base ≤ c.most
  m1 : c.most ≤ 49
  a0 : 1 ≤ c.attempts
  a1 : c.attempts ≤ 6
  f0 : 1 ≤ c.flight
  f1 : c.flight ≤ 8
  r0 : 1 ≤ c.rank
  r1 : c.rank ≤ 100
theorem agOk (zs : List Int) : AgOk (agCfg zs) := by
  have b4 := atV_lt zs 4 6 (by omega)
  have b5 := atV_lt zs 5 8 (by omega)
  have b6 := atV_lt zs 6 10 (by omega)
  have b7 := atV_lt zs 7 100 (by omega)
  have b9 := atV_lt zs 9 40 (by omega)
  constructor <;> (try rfl) <;> (simp only [agCfg, confV]; omega)
theorem AgOk.cfg {c : Cfg} (h : AgOk c) : CfgOk c := by
  obtain ⟨h1, h2, h3, h4, h5, h6, h7, h8, h9, h10, h11, h12, h13, h14, h15⟩ := h
  constructor <;> omega

theorem inv_init {c : Cfg} (h : CfgOk c) : Inv 0 (initS c) where
  cfg := h
  n0 := Int.le_refl _
  n1 := by show (0 : Int) ≤ _; omega
  ub := fun b hb => by cases hb
  us := by have := h.p0; exact this
  uc := fun b hb => by cases hb
  nd := List.nodup_nil
  cl := by have := h.f0; show (0 : Int) ≤ c.flight; omega
  cb := fun c hc => by cases hc
  ab := fun a ha => by cases ha
  tb := fun t ht => by cases ht
  tc := fun t ht => by cases ht
  tu := fun t ht => by cases ht
  tw := fun t ht => by cases ht
  ts := List.nodup_nil
  mt := by show 0 ≤ 32; omega
  mb := fun t ht => by cases ht
  l0 := Int.le_refl _
  s0 := Int.le_refl _
  z0 := Int.le_refl _
  p1 := by show (0 : Int) + 0 ≤ 6 * 0; omega
  p2 := by show (0 : Int) + ((0 : Nat) : Int) ≤ 2 * 0 + 0; omega
  tl := by show ((0 : Nat) : Int) ≤ 0; omega

/-- An attempt is open, the n-th. -/
def agS (c : Cfg) (n now last : Int) : PSt := ⟨c, now, [⟨0, 101 - n⟩], [⟨1, true, 10000, n, last⟩], [(n, ⟨1, now⟩)], n, [⟨1, 1, 10000, 1⟩], n, [], 0⟩
/-- It has failed, and the next waits. -/
def agW (c : Cfg) (n now wait due : Int) : PSt := ⟨c, now, [⟨0, 101 - n⟩], [⟨1, true, 10000, n, wait⟩], [], n, [⟨1, 1, 10000, 1⟩, ⟨2, 1, due, n + 1⟩], n + 1, [], 0⟩

theorem ag_submit {c : Cfg} (h : AgOk c) : stepM (initS c) ⟨1, 1, 0, 0, 10000, true, 0, 0⟩ = agS c 1 0 c.base ∧ stepA (initS c) ⟨1, 1, 0, 0, 10000, true, 0, 0⟩ = [⟨1, 1, 1, 0, 0, 10000⟩] := by
  have hf : ¬ c.flight ≤ 0 := by have := h.f0; omega
  constructor
  · simp [stepM, submitM, whyM, whyP, callOf, initS, admitM, launchM, setHedgeM, mayHedgeM, launch0, admit0, addTimer, bringM, bringN, sumB, newCall, updCall, hadUp, agS, hf, h.d, h.ca, h.sa]
  · simp [stepA, submitA, whyM, whyP, callOf, initS, admitA, launchA, newCall, hf]

theorem ag_last {c : Cfg} (k now last draw : Int) (hk : k = 3 ∨ k = 4) : stepA (agS c c.attempts now last) ⟨k, 0, c.attempts, 0, 0, false, draw, 0⟩ = [⟨3, 1, 0, 2, 0, 0⟩] := by
  rcases hk with rfl | rfl <;> simp [stepA, answerA, attOf, callOf, agS, answerA1, openOf, closeM, waitA, overM, noHedge, finishA]

theorem ag_more {c : Cfg} (k n now last draw : Int) (hk : k = 3 ∨ k = 4) (hn : n < c.attempts) (hd : ¬ 10000 ≤ now + waitP c.base c.most last draw) :
    stepM (agS c n now last) ⟨k, 0, n, 0, 0, false, draw, 0⟩ = agW c n now (waitP c.base c.most last draw) (now + waitP c.base c.most last draw) ∧ stepA (agS c n now last) ⟨k, 0, n, 0, 0, false, draw, 0⟩ = [] := by
  have hn' : ¬ c.attempts ≤ n := by omega
  rcases hk with rfl | rfl <;> constructor <;>
    simp [stepM, stepA, answerA, answerM, attOf, callOf, agS, agW, answerA1, answerM1, openOf, closeM, waitA, waitM, overM, waitOf, noHedge, againM, addTimer, updCall, waitUp, staysH, hn', hd]

theorem ag_first {c : Cfg} (n now wait due : Int) (hd : due < 10000) : firstT (agW c n now wait due).timers = some ⟨2, 1, due, n + 1⟩ := by
  simp [agW, firstT, PTimer.lt, hd]

theorem ag_adv1 {c : Cfg} (h : AgOk c) (n now wait due til : Int) (h0 : now ≤ til) (h1 : til < due) (h2 : due < 10000) :
    stepM (agW c n now wait due) ⟨6, 0, 0, 0, 0, false, 0, til⟩ = agW c n til wait due ∧ stepA (agW c n now wait due) ⟨6, 0, 0, 0, 0, false, 0, til⟩ = [] := by
  have hst : ¬ (til < (agW c n now wait due).now ∨ 1099511627776 < til) := by show ¬ (til < now ∨ _); omega
  have hs := advF_stop til (turns (agW c n now wait due)).toNat (agW c n now wait due) (fun t ht => by
    rw [ag_first n now wait due h2] at ht
    cases ht
    exact h1)
  have hw : ¬ c.window ≤ til := by have := h.wi; omega
  constructor
  · show advM (agW c n now wait due) til = _
    unfold advM
    rw [if_neg hst, hs]
    simp [goToM, agW, oldB, hw]
  · show advA (agW c n now wait due) til = _
    unfold advA
    rw [if_neg hst, hs]

theorem ag_adv2 {c : Cfg} (h : AgOk c) {N : Int} (n now wait due : Int) (hI : Inv N (agW c n now wait due)) (h0 : now ≤ due) (h2 : due < 10000) (hn0 : 1 ≤ n) (hn1 : n ≤ 90) :
    stepM (agW c n now wait due) ⟨6, 0, 0, 0, 0, false, 0, due⟩ = agS c (n + 1) due wait ∧ stepA (agW c n now wait due) ⟨6, 0, 0, 0, 0, false, 0, due⟩ = [⟨1, 1, n + 1, 0, 0, 10000 - due⟩] := by
  have hst : ¬ (due < (agW c n now wait due).now ∨ 1099511627776 < due) := by show ¬ (due < now ∨ _); omega
  have hf := ag_first (c := c) n now wait due h2
  have hw : ¬ c.window ≤ due := by have := h.wi; omega
  have hne : ¬ (1 : Int) = n + 1 := by omega
  have hdm : dueM (agW c n now wait due) ⟨2, 1, due, n + 1⟩ = ⟨c, due, [⟨0, 101 - n⟩], [⟨1, true, 10000, n, wait⟩], [], n, [⟨1, 1, 10000, 1⟩], n + 1, [], 0⟩ := by
    simp [dueM, popM, goToM, agW, oldB, hw, hne]
  have hp1 : 1 ≤ 101 - n := by omega
  have hp2 : ¬ (101 - n ≤ 1) := by omega
  have hp3 : 101 - n - 1 = 101 - (n + 1) := by omega
  have hp4 : (1 : Int) < 101 - n := by omega
  have hr : ringM (dueM (agW c n now wait due) ⟨2, 1, due, n + 1⟩) ⟨2, 1, due, n + 1⟩ = agS c (n + 1) due wait := by
    rw [hdm]
    simp [ringM, callOf, ringM1, launchM, setHedgeM, mayHedgeM, launch0, takeM, takeB, sumB, hadUp, updCall, agS, h.co, h.sa, hp1, hp4, hp3]
  have ha : ringA (dueM (agW c n now wait due) ⟨2, 1, due, n + 1⟩) ⟨2, 1, due, n + 1⟩ = [⟨1, 1, n + 1, 0, 0, 10000 - due⟩] := by
    rw [hdm]
    simp [ringA, callOf, ringA1, launchA, takeM, sumB, h.co, hp1]
  have hx := advF_next due hI hf (by show ¬ due < due; omega)
  rw [hr, ha] at hx
  have hs := advF_stop due (turns (agS c (n + 1) due wait)).toNat (agS c (n + 1) due wait) (fun t ht => by
    simp [agS, firstT] at ht
    rw [← ht]
    exact h2)
  rw [hs] at hx
  constructor
  · show advM (agW c n now wait due) due = _
    unfold advM
    rw [if_neg hst, hx]
    simp [goToM, agS, oldB, hw]
  · show advA (agW c n now wait due) due = _
    unfold advA
    rw [if_neg hst, hx]
    simp
end Go.Proofs.YtlccfpbbdgpjbaaGreatDoor

namespace Go.Proofs.YtlccfpbbdgpjbaaGreatDoor

/-- Nothing is open; no units. -/
def thS (c : Cfg) (now launched set : Int) (times : List Int) : PSt := ⟨c, now, [], [], [], launched, [], set, times, 0⟩
/-- One call is open, and its attempt; h: its hedge timer, if any. -/
def thA (c : Cfg) (now launched set : Int) (times : List Int) (i : Int) (safe : Bool) (dl at_ : Int) (first : Int) (h : List PTimer) : PSt :=
  ⟨c, now, [], [⟨i, safe, dl, 1, c.base⟩], [(launched, ⟨i, at_⟩)], launched, ⟨1, i, dl, first⟩ :: h, set, times, 0⟩

/-- A hedge timer that may be. -/
def HedgeT (i now dl first set : Int) (h : List PTimer) : Prop := h = [] ∨ ∃ hd, h = [⟨3, i, hd, first + 1⟩] ∧ now ≤ hd ∧ hd < dl ∧ set = first + 1

theorem th_submit {c : Cfg} (hc : CfgOk c) (h0 : c.deposit = 0) (now launched set : Int) (times : List Int) (i timeout : Int) (safe : Bool) (t0 : 1 ≤ timeout) (t1 : timeout ≤ 10000) (hn : now + timeout ≤ 1099511627776) :
    stepA (thS c now launched set times) ⟨1, i, 0, 0, timeout, safe, 0, 0⟩ = [⟨1, i, launched + 1, 0, 0, timeout⟩] ∧
    ∃ h set', stepM (thS c now launched set times) ⟨1, i, 0, 0, timeout, safe, 0, 0⟩ = thA c now (launched + 1) set' times i safe (now + timeout) now (set + 1) h ∧ HedgeT i now (now + timeout) (set + 1) set' h ∧ (h = [] → set' = set + 1) := by
  have hf : ¬ c.flight ≤ 0 := by have := hc.f0; omega
  have h1 : ¬ timeout < 1 := by omega
  have h2 : ¬ 10000 < timeout := by omega
  have h3 : ¬ 1099511627776 < now + timeout := by omega
  have h4 : now + timeout - now = timeout := by omega
  have hb : ¬ (0 < bringN c.deposit c.cap []) := by unfold bringN; rw [h0]; simp [sumB]; omega
  refine ⟨by simp [stepA, submitA, whyM, whyP, callOf, thS, admitA, launchA, newCall, hf, h1, h2, h3, h4], ?_⟩
  have hs : stepM (thS c now launched set times) ⟨1, i, 0, 0, timeout, safe, 0, 0⟩ = setHedgeM (thA c now (launched + 1) (set + 1) times i safe (now + timeout) now (set + 1) []) ⟨i, safe, now + timeout, 1, c.base⟩ := by
    simp [stepM, submitM, whyM, whyP, callOf, thS, admitM, launchM, launch0, admit0, addTimer, bringM, newCall, updCall, hadUp, thA, hf, h1, h2, h3, hb]
  rw [hs]
  unfold setHedgeM
  split
  · rename_i hm
    have hd := delay_pos times c.rank
    refine ⟨[⟨3, i, now + delayM times c.rank, set + 1 + 1⟩], set + 1 + 1, rfl, .inr ⟨_, rfl, by omega, hm.2, rfl⟩, by simp⟩
  · exact ⟨[], set + 1, rfl, .inl rfl, fun _ => rfl⟩

theorem th_first1 (c : Cfg) (now launched set : Int) (times : List Int) (i : Int) (safe : Bool) (dl at_ first : Int) : firstT (thA c now launched set times i safe dl at_ first []).timers = some ⟨1, i, dl, first⟩ := by
  simp [thA, firstT]
theorem th_first2 (c : Cfg) (now launched set : Int) (times : List Int) (i : Int) (safe : Bool) (dl at_ first hd : Int) (h : hd < dl) : firstT (thA c now launched set times i safe dl at_ first [⟨3, i, hd, first + 1⟩]).timers = some ⟨3, i, hd, first + 1⟩ := by
  simp [thA, firstT, PTimer.lt, h]

/-- The hedge timer rings: there are no units. -/
theorem th_ring (c : Cfg) (hcost : 1 ≤ c.cost) (now launched set : Int) (times : List Int) (i : Int) (safe : Bool) (dl at_ first hd : Int) :
    ringM (dueM (thA c now launched set times i safe dl at_ first [⟨3, i, hd, first + 1⟩]) ⟨3, i, hd, first + 1⟩) ⟨3, i, hd, first + 1⟩ = thA c hd launched set times i safe dl at_ first [] ∧
    ringA (dueM (thA c now launched set times i safe dl at_ first [⟨3, i, hd, first + 1⟩]) ⟨3, i, hd, first + 1⟩) ⟨3, i, hd, first + 1⟩ = [] := by
  have hne : ¬ first = first + 1 := by omega
  have hc : ¬ c.cost ≤ 0 := by omega
  have hdm : dueM (thA c now launched set times i safe dl at_ first [⟨3, i, hd, first + 1⟩]) ⟨3, i, hd, first + 1⟩ = thA c hd launched set times i safe dl at_ first [] := by
    simp [dueM, popM, goToM, thA, hne]
  rw [hdm]
  constructor
  · simp [ringM, callOf, ringM1, thA, takeM, sumB, hc]
  · simp [ringA, callOf, ringA1, thA, sumB, hc]

theorem th_adv {c : Cfg} {N : Int} (hcost : 1 ≤ c.cost) (now launched set : Int) (times : List Int) (i : Int) (safe : Bool) (dl at_ first : Int) (h : List PTimer) (hh : HedgeT i now dl first set h) (hI : Inv N (thA c now launched set times i safe dl at_ first h)) (til : Int) (h0 : now ≤ til) (h1 : til < dl) (h2 : dl ≤ 1099511627776) :
    stepA (thA c now launched set times i safe dl at_ first h) ⟨6, 0, 0, 0, 0, false, 0, til⟩ = [] ∧
    ∃ h', stepM (thA c now launched set times i safe dl at_ first h) ⟨6, 0, 0, 0, 0, false, 0, til⟩ = thA c til launched set times i safe dl at_ first h' ∧ HedgeT i til dl first set h' := by
  have hst : ¬ (til < (thA c now launched set times i safe dl at_ first h).now ∨ 1099511627776 < til) := by show ¬ (til < now ∨ _); omega
  have hgo : ∀ (z : Int) (g : List PTimer), goToM (thA c z launched set times i safe dl at_ first g) til = thA c til launched set times i safe dl at_ first g := fun z g => by simp [goToM, thA]
  have eA : stepA (thA c now launched set times i safe dl at_ first h) ⟨6, 0, 0, 0, 0, false, 0, til⟩ = (advF til (turns (thA c now launched set times i safe dl at_ first h)).toNat (thA c now launched set times i safe dl at_ first h)).2 := by
    show advA _ til = _
    unfold advA
    rw [if_neg hst]
  have eM : stepM (thA c now launched set times i safe dl at_ first h) ⟨6, 0, 0, 0, 0, false, 0, til⟩ = (advF til (turns (thA c now launched set times i safe dl at_ first h)).toNat (thA c now launched set times i safe dl at_ first h)).1 := by
    show advM _ til = _
    unfold advM
    rw [if_neg hst]
  rw [eA, eM]
  rcases hh with rfl | ⟨hd, rfl, hd0, hd1, hset⟩
  · rw [advF_stop til _ _ (fun t ht => by rw [th_first1] at ht; cases ht; exact h1)]
    exact ⟨rfl, [], hgo _ _, .inl rfl⟩
  · by_cases hdue : til < hd
    · rw [advF_stop til _ _ (fun t ht => by rw [th_first2 _ _ _ _ _ _ _ _ _ _ _ hd1] at ht; cases ht; exact hdue)]
      exact ⟨rfl, _, hgo _ _, .inr ⟨hd, rfl, by omega, hd1, hset⟩⟩
    · obtain ⟨r1, r2⟩ := th_ring c hcost now launched set times i safe dl at_ first hd
      rw [advF_next til hI (th_first2 _ _ _ _ _ _ _ _ _ _ _ hd1) hdue, r1, r2, advF_stop til _ _ (fun t ht => by rw [th_first1] at ht; cases ht; exact h1)]
      exact ⟨rfl, [], hgo _ _, .inl rfl⟩

theorem hedge_call {i now dl first set : Int} {h : List PTimer} (hh : HedgeT i now dl first set h) : h.filter (stays i) = [] ∧ h.filter (staysH i) = [] := by
  rcases hh with rfl | ⟨hd, rfl, _⟩
  · simp
  · simp [stays, staysH]

theorem th_ok {c : Cfg} (now launched set : Int) (times : List Int) (i : Int) (safe : Bool) (dl at_ first : Int) (h : List PTimer) (hh : HedgeT i now dl first set h) (value : Int) :
    stepA (thA c now launched set times i safe dl at_ first h) ⟨2, 0, launched, value, 0, false, 0, 0⟩ = [⟨3, i, 0, 1, value, 0⟩] ∧
    stepM (thA c now launched set times i safe dl at_ first h) ⟨2, 0, launched, value, 0, false, 0, 0⟩ = thS c now launched set (addT times (now - at_)) := by
  obtain ⟨e1, _⟩ := hedge_call hh
  constructor
  · simp [stepA, answerA, attOf, callOf, thA, answerA1, closeM, addM, finishA]
  · simp [stepM, answerM, attOf, callOf, thA, answerM1, closeM, addM, finishM, thS, e1, stays]

/-- The next attempt waits. -/
def thW (c : Cfg) (now launched set : Int) (times : List Int) (i : Int) (safe : Bool) (dl first w due : Int) : PSt :=
  ⟨c, now, [], [⟨i, safe, dl, 1, w⟩], [], launched, [⟨1, i, dl, first⟩, ⟨2, i, due, set⟩], set, times, 0⟩

theorem th_nack {c : Cfg} (now launched set : Int) (times : List Int) (i : Int) (safe : Bool) (dl at_ first : Int) (h : List PTimer) (hh : HedgeT i now dl first set h) (draw : Int) :
    (stepA (thA c now launched set times i safe dl at_ first h) ⟨4, 0, launched, 0, 0, false, draw, 0⟩ = [⟨3, i, 0, 2, 0, 0⟩] ∧
      stepM (thA c now launched set times i safe dl at_ first h) ⟨4, 0, launched, 0, 0, false, draw, 0⟩ = thS c now launched set times) ∨
    (stepA (thA c now launched set times i safe dl at_ first h) ⟨4, 0, launched, 0, 0, false, draw, 0⟩ = [] ∧
      stepM (thA c now launched set times i safe dl at_ first h) ⟨4, 0, launched, 0, 0, false, draw, 0⟩ = thW c now launched (set + 1) times i safe dl first (waitP c.base c.most c.base draw) (now + waitP c.base c.most c.base draw) ∧ now + waitP c.base c.most c.base draw < dl) := by
  obtain ⟨e1, e2⟩ := hedge_call hh
  have eF : stepA (thA c now launched set times i safe dl at_ first h) ⟨4, 0, launched, 0, 0, false, draw, 0⟩ = waitA (closeM (thA c now launched set times i safe dl at_ first h) launched) ⟨i, safe, dl, 1, c.base⟩ draw := by
    simp [stepA, answerA, attOf, callOf, thA, answerA1, closeM, openOf]
  have eM : stepM (thA c now launched set times i safe dl at_ first h) ⟨4, 0, launched, 0, 0, false, draw, 0⟩ = waitM (closeM (thA c now launched set times i safe dl at_ first h) launched) ⟨i, safe, dl, 1, c.base⟩ draw := by
    simp [stepM, answerM, attOf, callOf, thA, answerM1, closeM, openOf]
  rw [eF, eM]
  unfold waitA waitM
  by_cases ho : overM (closeM (thA c now launched set times i safe dl at_ first h) launched) ⟨i, safe, dl, 1, c.base⟩ draw
  · left
    rw [if_pos ho, if_pos ho]
    constructor
    · simp [finishA, noHedge, closeM, thA]
    · simp [finishM, noHedge, closeM, thA, thS, staysH, stays, e2]
  · right
    rw [if_neg ho, if_neg ho]
    unfold overM at ho
    have hd : ¬ dl ≤ now + waitP c.base c.most c.base draw := fun x => ho (.inr x)
    refine ⟨rfl, ?_, by omega⟩
    simp [againM, addTimer, noHedge, closeM, thA, thW, updCall, waitUp, waitOf, staysH, e2]

theorem th_wait {c : Cfg} {N : Int} (hcost : 1 ≤ c.cost) (now launched set : Int) (times : List Int) (i : Int) (safe : Bool) (dl first w due : Int) (hI : Inv N (thW c now launched set times i safe dl first w due)) (hdl : due < dl) (hfs : first < set) (til : Int) (h0 : now ≤ til) (h1 : due ≤ til) (h2 : til ≤ 1099511627776) :
    stepA (thW c now launched set times i safe dl first w due) ⟨6, 0, 0, 0, 0, false, 0, til⟩ = [⟨3, i, 0, 2, 0, 0⟩] ∧
    stepM (thW c now launched set times i safe dl first w due) ⟨6, 0, 0, 0, 0, false, 0, til⟩ = thS c til launched set times := by
  have hst : ¬ (til < (thW c now launched set times i safe dl first w due).now ∨ 1099511627776 < til) := by show ¬ (til < now ∨ _); omega
  have hf : firstT (thW c now launched set times i safe dl first w due).timers = some ⟨2, i, due, set⟩ := by simp [thW, firstT, PTimer.lt, hdl]
  have hne : ¬ first = set := by omega
  have hc : ¬ c.cost ≤ 0 := by omega
  have hdm : dueM (thW c now launched set times i safe dl first w due) ⟨2, i, due, set⟩ = ⟨c, due, [], [⟨i, safe, dl, 1, w⟩], [], launched, [⟨1, i, dl, first⟩], set, times, 0⟩ := by
    simp [dueM, popM, goToM, thW, hne]
  have hr : ringM (dueM (thW c now launched set times i safe dl first w due) ⟨2, i, due, set⟩) ⟨2, i, due, set⟩ = thS c due launched set times := by
    rw [hdm]
    simp [ringM, callOf, ringM1, takeM, sumB, hc, finishM, thS, stays]
  have ha : ringA (dueM (thW c now launched set times i safe dl first w due) ⟨2, i, due, set⟩) ⟨2, i, due, set⟩ = [⟨3, i, 0, 2, 0, 0⟩] := by
    rw [hdm]
    simp [ringA, callOf, ringA1, takeM, sumB, hc, finishA]
  have hx := advF_next til hI hf (by show ¬ til < due; omega)
  rw [hr, ha, advF_stop til _ (thS c due launched set times) (fun t ht => by simp [thS, firstT] at ht)] at hx
  constructor
  · show advA _ til = _
    unfold advA
    rw [if_neg hst, hx]
    simp
  · show advM _ til = _
    unfold advM
    rw [if_neg hst, hx]
    simp [goToM, thS]

theorem th_idle {c : Cfg} (now launched set : Int) (times : List Int) (til : Int) (h0 : now ≤ til) (h2 : til ≤ 1099511627776) :
    stepA (thS c now launched set times) ⟨6, 0, 0, 0, 0, false, 0, til⟩ = [] ∧ stepM (thS c now launched set times) ⟨6, 0, 0, 0, 0, false, 0, til⟩ = thS c til launched set times := by
  have hst : ¬ (til < (thS c now launched set times).now ∨ 1099511627776 < til) := by show ¬ (til < now ∨ _); omega
  have hx := advF_stop til (turns (thS c now launched set times)).toNat (thS c now launched set times) (fun t ht => by simp [thS, firstT] at ht)
  constructor
  · show advA _ til = _
    unfold advA
    rw [if_neg hst, hx]
  · show advM _ til = _
    unfold advM
    rw [if_neg hst, hx]
    simp [goToM, thS]

/-- The deadline is reached. -/
theorem th_late {c : Cfg} {N : Int} (hcost : 1 ≤ c.cost) (now launched set : Int) (times : List Int) (i : Int) (safe : Bool) (dl at_ first : Int) (h : List PTimer) (hh : HedgeT i now dl first set h) (hI : Inv N (thA c now launched set times i safe dl at_ first h)) (til : Int) (h0 : now ≤ til) (h1 : dl ≤ til) (h2 : til ≤ 1099511627776) :
    stepA (thA c now launched set times i safe dl at_ first h) ⟨6, 0, 0, 0, 0, false, 0, til⟩ = [⟨3, i, 0, 3, 0, 0⟩, ⟨2, i, launched, 0, 0, 0⟩] ∧
    stepM (thA c now launched set times i safe dl at_ first h) ⟨6, 0, 0, 0, 0, false, 0, til⟩ = thS c til launched set times := by
  have hst : ∀ g, ¬ (til < (thA c now launched set times i safe dl at_ first g).now ∨ 1099511627776 < til) := fun g => by show ¬ (til < now ∨ _); omega
  have hlast : ∀ {M : Int} (z : Int), Inv M (thA c z launched set times i safe dl at_ first []) → advF til (turns (thA c z launched set times i safe dl at_ first [])).toNat (thA c z launched set times i safe dl at_ first []) = (thS c til launched set times, [⟨3, i, 0, 3, 0, 0⟩, ⟨2, i, launched, 0, 0, 0⟩]) := fun {M} z hz => by
    have hdm : dueM (thA c z launched set times i safe dl at_ first []) ⟨1, i, dl, first⟩ = ⟨c, dl, [], [⟨i, safe, dl, 1, c.base⟩], [(launched, ⟨i, at_⟩)], launched, [], set, times, 0⟩ := by
      simp [dueM, popM, goToM, thA]
    rw [advF_next til hz (th_first1 _ _ _ _ _ _ _ _ _ _) (by show ¬ til < dl; omega)]
    have hr : ringM (dueM (thA c z launched set times i safe dl at_ first []) ⟨1, i, dl, first⟩) ⟨1, i, dl, first⟩ = thS c dl launched set times := by
      rw [hdm]
      simp [ringM, callOf, ringM1, finishM, thS]
    have ha : ringA (dueM (thA c z launched set times i safe dl at_ first []) ⟨1, i, dl, first⟩) ⟨1, i, dl, first⟩ = [⟨3, i, 0, 3, 0, 0⟩, ⟨2, i, launched, 0, 0, 0⟩] := by
      rw [hdm]
      simp [ringA, callOf, ringA1, finishA]
    rw [hr, ha, advF_stop til _ (thS c dl launched set times) (fun t ht => by simp [thS, firstT] at ht)]
    simp [goToM, thS]
  have hfin : advF til (turns (thA c now launched set times i safe dl at_ first h)).toNat (thA c now launched set times i safe dl at_ first h) = (thS c til launched set times, [⟨3, i, 0, 3, 0, 0⟩, ⟨2, i, launched, 0, 0, 0⟩]) := by
    rcases hh with rfl | ⟨hd, rfl, hd0, hd1, hset⟩
    · exact hlast now hI
    · obtain ⟨r1, r2⟩ := th_ring c hcost now launched set times i safe dl at_ first hd
      have hI2 := inv_ring hI (th_first2 c now launched set times i safe dl at_ first hd hd1)
      rw [r1] at hI2
      rw [advF_next til hI (th_first2 _ _ _ _ _ _ _ _ _ _ _ hd1) (by show ¬ til < hd; omega), r1, r2, hlast hd hI2]
      rfl
  constructor
  · show advA _ til = _
    unfold advA
    rw [if_neg (hst h), hfin]
  · show advM _ til = _
    unfold advM
    rw [if_neg (hst h), hfin]
end Go.Proofs.YtlccfpbbdgpjbaaGreatDoor
