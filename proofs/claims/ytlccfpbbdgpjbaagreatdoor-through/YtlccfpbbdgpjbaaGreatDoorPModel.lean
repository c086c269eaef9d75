/-
  The program's client as plain functions on lists and numbers.
-/
import Derived.Test.YtlccfpbbdgpjbaaGreatDoorPPrim
import Derived.Test.YtlccfpbbdgpjbaaGreatDoorBucket
namespace Go.Proofs.YtlccfpbbdgpjbaaGreatDoor

/-- The greatest number of a time's bucket. -/
def topB (t : Int) : Int := if t < 0 ∨ 1099511627776 < t then 0 else t - t % (wd t.toNat : Int) + (wd t.toNat : Int) - 1
theorem buckV_top (t : Int) : ∃ a : Int, buckV t = .tuple #[.int .i64 a, .int .i64 (topB t)] := by
  unfold buckV topB
  split
  · exact ⟨_, rfl⟩
  · exact ⟨_, rfl⟩

def placeM (n : Nat) (rank : Int) : Int := ((n : Int) * rank + 99) / 100
def delayM (times : List Int) (rank : Int) : Int := topB ((times.mergeSort[(placeM times.length rank - 1).toNat]?).getD 0)
def mayHedgeM (s : PSt) (c : PCall) : Bool := c.safe && (decide (0 < s.cfg.samples) && decide (s.cfg.samples ≤ (s.times.length : Int))) && decide (c.had < s.cfg.attempts)
def addTimer (s : PSt) (kind call due : Int) : PSt := { s with set := s.set + 1, timers := s.timers ++ [⟨kind, call, due, s.set + 1⟩] }
def setHedgeM (s : PSt) (c : PCall) : PSt :=
  if mayHedgeM s c = true ∧ s.now + delayM s.times s.cfg.rank < c.deadline then addTimer s 3 c.number (s.now + delayM s.times s.cfg.rank) else s
def hadUp (c : PCall) : PCall := { c with had := c.had + 1 }
def waitUp (z : Int) (c : PCall) : PCall := { c with wait := z }
def launch0 (s : PSt) (c : PCall) : PSt := { s with launched := s.launched + 1, calls := updCall c.number hadUp s.calls, atts := s.atts ++ [(s.launched + 1, ⟨c.number, s.now⟩)] }
def launchM (s : PSt) (c : PCall) : PSt := setHedgeM (launch0 s c) (hadUp c)
def launchA (s : PSt) (c : PCall) : List RAct := [⟨1, c.number, s.launched + 1, 0, 0, c.deadline - s.now⟩]

def noHedge (s : PSt) (call : Int) : PSt := { s with timers := s.timers.filter (staysH call) }
def waitOf (s : PSt) (c : PCall) (draw : Int) : Int := waitP s.cfg.base s.cfg.most c.wait draw
def overM (s : PSt) (c : PCall) (draw : Int) : Prop := s.cfg.attempts ≤ c.had ∨ c.deadline ≤ s.now + waitOf s c draw
instance (s : PSt) (c : PCall) (draw : Int) : Decidable (overM s c draw) := inferInstanceAs (Decidable (_ ∨ _))
def againM (s : PSt) (c : PCall) (draw : Int) : PSt := addTimer { s with calls := updCall c.number (waitUp (waitOf s c draw)) s.calls } 2 c.number (s.now + waitOf s c draw)
def waitM (s : PSt) (c : PCall) (draw : Int) : PSt := if overM s c draw then finishM (noHedge s c.number) c.number else againM (noHedge s c.number) c draw
def waitA (s : PSt) (c : PCall) (draw : Int) : List RAct := if overM s c draw then finishA (noHedge s c.number) c.number 2 0 else []

def callOf (s : PSt) (n : Int) : Option PCall := s.calls.find? (fun c => c.number == n)
def attOf (s : PSt) (n : Int) : Option (Int × PAtt) := s.atts.find? (fun a => a.1 == n)
def closeM (s : PSt) (n : Int) : PSt := { s with atts := s.atts.filter (fun a => a.1 != n) }
def addM (s : PSt) (t : Int) : PSt := { s with times := addT s.times t }
def staleM (s : PSt) : PSt := { s with stale := s.stale + 1 }
def openOf (s : PSt) (n : Int) : List Int := (s.atts.filter (fun a => a.2.call == n)).map (·.1)

/-- An open attempt a of the open call c is answered. -/
def answerM1 (s : PSt) (e : PEv) (a : PAtt) (c : PCall) : PSt :=
  if e.kind = 2 then finishM (addM (closeM s e.attempt) (s.now - a.launched)) c.number
  else if e.kind = 3 ∧ c.safe = false then finishM (closeM s e.attempt) c.number
  else if 0 < (openOf (closeM s e.attempt) c.number).length then closeM s e.attempt
  else waitM (closeM s e.attempt) c e.draw
def answerA1 (s : PSt) (e : PEv) (a : PAtt) (c : PCall) : List RAct :=
  if e.kind = 2 then finishA (addM (closeM s e.attempt) (s.now - a.launched)) c.number 1 e.value
  else if e.kind = 3 ∧ c.safe = false then finishA (closeM s e.attempt) c.number 2 0
  else if 0 < (openOf (closeM s e.attempt) c.number).length then []
  else waitA (closeM s e.attempt) c e.draw
def answerM (s : PSt) (e : PEv) : PSt :=
  match attOf s e.attempt with
  | none => staleM s
  | some (_, a) => match callOf s a.call with
    | none => s
    | some c => answerM1 s e a c
def answerA (s : PSt) (e : PEv) : List RAct :=
  match attOf s e.attempt with
  | none => []
  | some (_, a) => match callOf s a.call with
    | none => []
    | some c => answerA1 s e a c

def whyM (s : PSt) (e : PEv) : Int := whyP e.timeout s.now s.cfg.flight (callOf s e.call).isSome s.calls.length
def newCall (s : PSt) (e : PEv) : PCall := ⟨e.call, e.safe, s.now + e.timeout, 0, s.cfg.base⟩
def bringM (s : PSt) : PSt := { s with units := if 0 < bringN s.cfg.deposit s.cfg.cap s.units then s.units ++ [⟨s.now, bringN s.cfg.deposit s.cfg.cap s.units⟩] else s.units }
def admit0 (s : PSt) (e : PEv) : PSt := addTimer (bringM { s with calls := s.calls ++ [newCall s e] }) 1 e.call (s.now + e.timeout)
def admitM (s : PSt) (e : PEv) : PSt := launchM (admit0 s e) (newCall s e)
def admitA (s : PSt) (e : PEv) : List RAct := launchA s (newCall s e)
def submitM (s : PSt) (e : PEv) : PSt := if whyM s e = 0 then admitM s e else s
def submitA (s : PSt) (e : PEv) : List RAct := if whyM s e = 0 then admitA s e else [⟨4, e.call, 0, whyM s e, 0, 0⟩]

def cancelM (s : PSt) (n : Int) : PSt := if (callOf s n).isSome then finishM s n else staleM s
def cancelA (s : PSt) (n : Int) : List RAct := if (callOf s n).isSome then finishA s n 4 0 else []

def takeM (s : PSt) : PSt := { s with units := if s.cfg.cost ≤ sumB s.units then takeB s.units s.cfg.cost else s.units }
def ringM1 (s : PSt) (t : PTimer) (c : PCall) : PSt :=
  if t.kind = 1 then finishM s c.number
  else if s.cfg.cost ≤ sumB s.units then launchM (takeM s) c
  else if t.kind = 3 then takeM s
  else finishM (takeM s) c.number
def ringA1 (s : PSt) (t : PTimer) (c : PCall) : List RAct :=
  if t.kind = 1 then finishA s c.number 3 0
  else if s.cfg.cost ≤ sumB s.units then launchA (takeM s) c
  else if t.kind = 3 then []
  else finishA (takeM s) c.number 2 0
def ringM (s : PSt) (t : PTimer) : PSt := match callOf s t.call with
  | none => s
  | some c => ringM1 s t c
def ringA (s : PSt) (t : PTimer) : List RAct := match callOf s t.call with
  | none => []
  | some c => ringA1 s t c

/-- The timer that comes first. -/
def firstT : List PTimer → Option PTimer
  | [] => none
  | t :: r => match firstT r with
    | none => some t
    | some u => if u.lt t then some u else some t
def popM (s : PSt) (t : PTimer) : PSt := { s with timers := s.timers.filter (fun u => u.set != t.set) }
def goToM (s : PSt) (time : Int) : PSt := { s with now := time, units := s.units.dropWhile (oldB time s.cfg.window) }
def dueM (s : PSt) (t : PTimer) : PSt := goToM (popM s t) t.due
def advF (til : Int) : Nat → PSt → PSt × List RAct
  | 0, s => (goToM s til, [])
  | f + 1, s =>
    match firstT s.timers with
    | none => (goToM s til, [])
    | some t => if til < t.due then (goToM s til, []) else
      let r := advF til f (ringM (dueM s t) t)
      (r.1, ringA (dueM s t) t ++ r.2)

theorem firstT_none {l : List PTimer} : firstT l = none ↔ l = [] := by
  cases l with
  | nil => simp [firstT]
  | cons t r =>
    simp only [firstT]
    cases firstT r with
    | none => simp
    | some u => by_cases h : u.lt t <;> simp [h]
theorem firstT_some : ∀ {l : List PTimer} {t : PTimer}, firstT l = some t → t ∈ l ∧ ∀ u ∈ l, ¬ u.lt t := by
  intro l
  induction l with
  | nil => intro t h; simp [firstT] at h
  | cons a r ih =>
    intro t h
    simp only [firstT] at h
    cases hr : firstT r with
    | none =>
      rw [hr] at h
      cases h
      have : r = [] := firstT_none.1 hr
      subst this
      refine ⟨by simp, fun u hu => ?_⟩
      have : u = a := by simpa using hu
      rw [this]
      exact PTimer.lt_irrefl a
    | some v =>
      rw [hr] at h
      obtain ⟨hv, hm⟩ := ih hr
      by_cases hl : v.lt a
      · simp only [hl, if_true] at h
        cases h
        refine ⟨List.mem_cons_of_mem _ hv, fun u hu => ?_⟩
        rcases List.mem_cons.1 hu with rfl | hu
        · exact PTimer.lt_asymm hl
        · exact hm u hu
      · simp only [hl, if_false] at h
        cases h
        refine ⟨by simp, fun u hu => ?_⟩
        rcases List.mem_cons.1 hu with rfl | hu
        · exact PTimer.lt_irrefl u
        · exact PTimer.le_trans hl (hm u hu)

/-- The heap's top is the timer that comes first. -/
theorem top_first {xs ts : List PTimer} (hP : xs.Perm ts) (hH : IsHeap xs) (hs : (ts.map (·.set)).Nodup) (h0 : 0 < xs.length) : firstT ts = some (pt xs 0) := by
  cases hf : firstT ts with
  | none =>
    have : ts = [] := firstT_none.1 hf
    subst this
    rw [hP.length_eq] at h0
    simp at h0
  | some t =>
    obtain ⟨h1, h2⟩ := firstT_some hf
    have h3 : pt xs 0 ∈ ts := hP.mem_iff.1 (by rw [pt_get h0]; exact List.getElem_mem _)
    have h4 : t ∈ xs := hP.mem_iff.2 h1
    obtain ⟨i, hi, e⟩ := List.getElem_of_mem h4
    have h5 := hH.least i hi
    rw [pt_get hi, e] at h5
    have h6 := h2 _ h3
    have h7 : t.set = (pt xs 0).set := by
      unfold PTimer.lt at h5 h6
      omega
    congr 1
    exact nodup_inj (fun t : PTimer => t.set) hs h1 h3 h7

theorem pop_perm {ts : List PTimer} {t : PTimer} (hs : (ts.map (·.set)).Nodup) (ht : t ∈ ts) : (t :: ts.filter (fun u => u.set != t.set)).Perm ts := by
  induction ts with
  | nil => cases ht
  | cons a r ih =>
    rw [List.map_cons, List.nodup_cons] at hs
    rcases List.mem_cons.1 ht with rfl | h
    · have : r.filter (fun u => u.set != t.set) = r := by
        rw [List.filter_eq_self]
        intro u hu
        have : u.set ≠ t.set := fun e => hs.1 (by rw [← e]; exact List.mem_map_of_mem hu)
        simpa using this
      rw [List.filter_cons_of_neg (by simp), this]
    · have hne : a.set ≠ t.set := fun e => hs.1 (by rw [e]; exact List.mem_map_of_mem h)
      rw [List.filter_cons_of_pos (by simpa using hne)]
      exact (List.Perm.swap _ _ _).trans ((ih hs.2 h).cons a)
theorem setHedgeM_same (s : PSt) (c : PCall) : (setHedgeM s c).cfg = s.cfg ∧ (setHedgeM s c).now = s.now ∧ (setHedgeM s c).units = s.units ∧ (setHedgeM s c).calls = s.calls ∧ (setHedgeM s c).atts = s.atts ∧ (setHedgeM s c).launched = s.launched ∧ (setHedgeM s c).times = s.times ∧ (setHedgeM s c).stale = s.stale := by
  unfold setHedgeM
  split <;> exact ⟨rfl, rfl, rfl, rfl, rfl, rfl, rfl, rfl⟩

theorem mem_upd {n : Int} {f : PCall → PCall} {l : List PCall} {c : PCall} (hc : c ∈ l) (hn : c.number = n) : f c ∈ updCall n f l := List.mem_map.2 ⟨c, hc, by rw [if_pos hn]⟩

end Go.Proofs.YtlccfpbbdgpjbaaGreatDoor
