import Derived.Test.YtlccfpbbdgpjbaaGreatDoorPPrim
import Derived.Test.YtlccfpbbdgpjbaaGreatDoorZBuck
namespace Go.Proofs.YtlccfpbbdgpjbaaGreatDoor

/-- The greatest number of a time's bucket. -/
def topB (t : Int) : Int := if t < 0 ∨ 1099511627776 < t then 0 else t - t % (wd t.toNat : Int) + (wd t.toNat : Int) - 1
theorem buckV_top (t : Int) : ∃ a : Int, buckV t = .tuple #[.int .i64 a, .int .i64 (topB t)] := by
  unfold buckV topB
  split
  · exact ⟨_, rfl⟩
  · exact ⟨_, rfl⟩

def placeM (n : Nat) (rank : Int) : Int := ((n : Int) * rank + 99) / 100
def delayM (times : List Int) (rank : Int) : Int := topB ((times.mergeSort[(placeM times.length rank - 1).toNat]?).getD 0)
def mayHedgeM (s : PSt) (c : PCall) : Bool := c.safe && (decide (0 < s.cfg.samples) && decide (s.cfg.samples ≤ (s.times.length : Int))) && decide (c.had < s.cfg.attempts)
def addTimer (s : PSt) (kind call due : Int) : PSt := { s with set := s.set + 1, timers := s.timers ++ [⟨kind, call, due, s.set + 1⟩] }
def setHedgeM (s : PSt) (c : PCall) : PSt :=
  if mayHedgeM s c = true ∧ s.now + delayM s.times s.cfg.rank < c.deadline then addTimer s 3 c.number (s.now + delayM s.times s.cfg.rank) else s
def hadUp (c : PCall) : PCall := { c with had := c.had + 1 }
def waitUp (z : Int) (c : PCall) : PCall := { c with wait := z }
def launch0 (s : PSt) (c : PCall) : PSt := { s with launched := s.launched + 1, calls := updCall c.number hadUp s.calls, atts := s.atts ++ [(s.launched + 1, ⟨c.number, s.now⟩)] }
def launchM (s : PSt) (c : PCall) : PSt := setHedgeM (launch0 s c) (hadUp c)
def launchA (s : PSt) (c : PCall) : List RAct := [⟨1, c.number, s.launched + 1, 0, 0, c.deadline - s.now⟩]

def noHedge (s : PSt) (call : Int) : PSt := { s with timers := s.timers.filter (staysH call) }
def waitOf (s : PSt) (c : PCall) (draw : Int) : Int := waitP s.cfg.base s.cfg.most c.wait draw
def overM (s : PSt) (c : PCall) (draw : Int) : Prop := s.cfg.attempts ≤ c.had ∨ c.deadline ≤ s.now + waitOf s c draw
instance (s : PSt) (c : PCall) (draw : Int) : Decidable (overM s c draw) := inferInstanceAs (Decidable (_ ∨ _))
def againM (s : PSt) (c : PCall) (draw : Int) : PSt := addTimer { s with calls := updCall c.number (waitUp (waitOf s c draw)) s.calls } 2 c.number (s.now + waitOf s c draw)
def waitM (s : PSt) (c : PCall) (draw : Int) : PSt := if overM s c draw then finishM (noHedge s c.number) c.number else againM (noHedge s c.number) c draw
def waitA (s : PSt) (c : PCall) (draw : Int) : List RAct := if overM s c draw then finishA (noHedge s c.number) c.number 2 0 else []

def callOf (s : PSt) (n : Int) : Option PCall := s.calls.find? (fun c => c.number == n)
def attOf (s : PSt) (n : Int) : Option (Int × PAtt) := s.atts.find? (fun a => a.1 == n)
def closeM (s : PSt) (n : Int) : PSt := { s with atts := s.atts.filter (fun a => a.1 != n) }
def addM (s : PSt) (t : Int) : PSt := { s with times := addT s.times t }
def staleM (s : PSt) : PSt := { s with stale := s.stale + 1 }
def openOf (s : PSt) (n : Int) : List Int := (s.atts.filter (fun a => a.2.call == n)).map (·.1)

/-- An open attempt a of the open call c is answered. -/
def answerM1 (s : PSt) (e : PEv) (a : PAtt) (c : PCall) : PSt :=
  if e.kind = 2 then finishM (addM (closeM s e.attempt) (s.now - a.launched)) c.number
  else if e.kind = 3 ∧ c.safe = false then finishM (closeM s e.attempt) c.number
  else if 0 < (openOf (closeM s e.attempt) c.number).length then closeM s e.attempt
  else waitM (closeM s e.attempt) c e.draw
def answerA1 (s : PSt) (e : PEv) (a : PAtt) (c : PCall) : List RAct :=
  if e.kind = 2 then finishA (addM (closeM s e.attempt) (s.now - a.launched)) c.number 1 e.value
  else if e.kind = 3 ∧ c.safe = false then finishA (closeM s e.attempt) c.number 2 0
  else if 0 < (openOf (closeM s e.attempt) c.number).length then []
  else waitA (closeM s e.attempt) c e.draw
def answerM (s : PSt) (e : PEv) : PSt :=
  match attOf s e.attempt with
  | none => staleM s
  | some (_, a) => match callOf s a.call with
    | none => s
    | some c => answerM1 s e a c
def answerA (s : PSt) (e : PEv) : List RAct :=
  match attOf s e.attempt with
  | none => []
  | some (_, a) => match callOf s a.call with
    | none => []
    | some c => answerA1 s e a c

def whyM (s : PSt) (e : PEv) : Int := whyP e.timeout s.now s.cfg.flight (callOf s e.call).isSome s.calls.length
def newCall (s : PSt) (e : PEv) : PCall := ⟨e.call, e.safe, s.now + e.timeout, 0, s.cfg.base⟩
def bringM (s : PSt) : PSt := { s with units := if 0 < bringN s.cfg.deposit s.cfg.cap s.units then s.units ++ [⟨s.now, bringN s.cfg.deposit s.cfg.cap s.units⟩] else s.units }
def admit0 (s : PSt) (e : PEv) : PSt := addTimer (bringM { s with calls := s.calls ++ [newCall s e] }) 1 e.call (s.now + e.timeout)
def admitM (s : PSt) (e : PEv) : PSt := launchM (admit0 s e) (newCall s e)
def admitA (s : PSt) (e : PEv) : List RAct := launchA s (newCall s e)
def submitM (s : PSt) (e : PEv) : PSt := if whyM s e = 0 then admitM s e else s
def submitA (s : PSt) (e : PEv) : List RAct := if whyM s e = 0 then admitA s e else [⟨4, e.call, 0, whyM s e, 0, 0⟩]

def cancelM (s : PSt) (n : Int) : PSt := if (callOf s n).isSome then finishM s n else staleM s
def cancelA (s : PSt) (n : Int) : List RAct := if (callOf s n).isSome then finishA s n 4 0 else []

def takeM (s : PSt) : PSt := { s with units := if s.cfg.cost ≤ sumB s.units then takeB s.units s.cfg.cost else s.units }
def ringM1 (s : PSt) (t : PTimer) (c : PCall) : PSt :=
  if t.kind = 1 then finishM s c.number
  else if s.cfg.cost ≤ sumB s.units then launchM (takeM s) c
  else if t.kind = 3 then takeM s
  else finishM (takeM s) c.number
def ringA1 (s : PSt) (t : PTimer) (c : PCall) : List RAct :=
  if t.kind = 1 then finishA s c.number 3 0
  else if s.cfg.cost ≤ sumB s.units then launchA (takeM s) c
  else if t.kind = 3 then []
  else finishA (takeM s) c.number 2 0
def ringM (s : PSt) (t : PTimer) : PSt := match callOf s t.call with
  | none => s
  | some c => ringM1 s t c
def ringA (s : PSt) (t : PTimer) : List RAct := match callOf s t.call with
  | none => []
  | some c => ringA1 s t c

/-- The timer that comes first. -/
def firstT : List PTimer → Option PTimer
  | [] => none
  | t :: r => match firstT r with
    | none => some t
    | some u => if u.lt t then some u else some t
def popM (s : PSt) (t : PTimer) : PSt := { s with timers := s.timers.filter (fun u => u.set != t.set) }
def goToM (s : PSt) (time : Int) : PSt := { s with now := time, units := s.units.dropWhile (oldB time s.cfg.window) }
def dueM (s : PSt) (t : PTimer) : PSt := goToM (popM s t) t.due
def advF (til : Int) : Nat → PSt → PSt × List RAct
  | 0, s => (goToM s til, [])
  | f + 1, s =>
    match firstT s.timers with
    | none => (goToM s til, [])
    | some t => if til < t.due then (goToM s til, []) else
      let r := advF til f (ringM (dueM s t) t)
      (r.1, ringA (dueM s t) t ++ r.2)

theorem firstT_none {l : List PTimer} : firstT l = none ↔ l = [] := by
  cases l with
  | nil => simp [firstT]
  | cons t r =>
    simp only [firstT]
    cases firstT r with
    | none => simp
    | some u => by_cases h : u.lt t <;> simp [h]
theorem firstT_some : ∀ {l : List PTimer} {t : PTimer}, firstT l = some t → t ∈ l ∧ ∀ u ∈ l, ¬ u.lt t := by
  intro l
  induction l with
  | nil => intro t h; simp [firstT] at h
  | cons a r ih =>
    intro t h
    simp only [firstT] at h
    cases hr : firstT r with
    | none =>
      rw [hr] at h
      cases h
      have : r = [] := firstT_none.1 hr
      subst this
      refine ⟨by simp, fun u hu => ?_⟩
      have : u = a := by simpa using hu
      rw [this]
      exact PTimer.lt_irrefl a
    | some v =>
      rw [hr] at h
      obtain ⟨hv, hm⟩ := ih hr
      by_cases hl : v.lt a
      · simp only [hl, if_true] at h
        cases h
        refine ⟨List.mem_cons_of_mem _ hv, fun u hu => ?_⟩
        rcases List.mem_cons.1 hu with rfl | hu
        · exact PTimer.lt_asymm hl
        · exact hm u hu
      · simp only [hl, if_false] at h
        cases h
        refine ⟨by simp, fun u hu => ?_⟩
        rcases List.mem_cons.1 hu with rfl | hu
        · exact PTimer.lt_irrefl u
        · exact PTimer.le_trans hl (hm u hu)

/-- The heap's top is the timer that comes first. -/
theorem top_first {xs ts : List PTimer} (hP : xs.Perm ts) (hH : IsHeap xs) (hs : (ts.map (·.set)).Nodup) (h0 : 0 < xs.length) : firstT ts = some (pt xs 0) := by
  cases hf : firstT ts with
  | none =>
    have : ts = [] := firstT_none.1 hf
    subst this
    rw [hP.length_eq] at h0
    simp at h0
  | some t =>
    obtain ⟨h1, h2⟩ := firstT_some hf
    have h3 : pt xs 0 ∈ ts := hP.mem_iff.1 (by rw [pt_get h0]; exact List.getElem_mem _)
    have h4 : t ∈ xs := hP.mem_iff.2 h1
    obtain ⟨i, hi, e⟩ := List.getElem_of_mem h4
    have h5 := hH.least i hi
    rw [pt_get hi, e] at h5
    have h6 := h2 _ h3
    have h7 : t.set = (pt xs 0).set := by
      unfold PTimer.lt at h5 h6
      omega
    congr 1
    exact nodup_inj (fun t : PTimer => t.set) hs h1 h3 h7

theorem pop_perm {ts : List PTimer} {t : PTimer} (hs : (ts.map (·.set)).Nodup) (ht : t ∈ ts) : (t :: ts.filter (fun u => u.set != t.set)).Perm ts := by
  induction ts with
  | nil => cases ht
  | cons a r ih =>
    rw [List.map_cons, List.nodup_cons] at hs
    rcases List.mem_cons.1 ht with rfl | h
    · have : r.filter (fun u => u.set != t.set) = r := by
        rw [List.filter_eq_self]
        intro u hu
        have : u.set ≠ t.set := fun e => hs.1 (by rw [← e]; exact List.mem_map_of_mem hu)
        simpa using this
      rw [List.filter_cons_of_neg (by simp), this]
    · have hne : a.set ≠ t.set := fun e => hs.1 (by rw [e]; exact List.mem_map_of_mem h)
      rw [List.filter_cons_of_pos (by simpa using hne)]
      exact (List.Perm.swap _ _ _).trans ((ih hs.2 h).cons a)
theorem setHedgeM_same (s : PSt) (c : PCall) : (setHedgeM s c).cfg = s.cfg ∧ (setHedgeM s c).now = s.now ∧ (setHedgeM s c).units = s.units ∧ (setHedgeM s c).calls = s.calls ∧ (setHedgeM s c).atts = s.atts ∧ (setHedgeM s c).launched = s.launched ∧ (setHedgeM s c).times = s.times ∧ (setHedgeM s c).stale = s.stale := by
  unfold setHedgeM
  split <;> exact ⟨rfl, rfl, rfl, rfl, rfl, rfl, rfl, rfl⟩

theorem mem_upd {n : Int} {f : PCall → PCall} {l : List PCall} {c : PCall} (hc : c ∈ l) (hn : c.number = n) : f c ∈ updCall n f l := List.mem_map.2 ⟨c, hc, by rw [if_pos hn]⟩

end Go.Proofs.YtlccfpbbdgpjbaaGreatDoor

namespace Go.Proofs.YtlccfpbbdgpjbaaGreatDoor

structure CfgOk (c : Cfg) : Prop where
  d0 : 0 ≤ c.deposit
  d1 : c.deposit ≤ 1000
  c0 : 1 ≤ c.cost
  c1 : c.cost ≤ 1000
  p0 : 0 ≤ c.cap
  p1 : c.cap ≤ 1000
  w0 : 1 ≤ c.window
  w1 : c.window ≤ 10000
  a0 : 1 ≤ c.attempts
  a1 : c.attempts ≤ 6
  f0 : 1 ≤ c.flight
  f1 : c.flight ≤ 8
  b0 : 1 ≤ c.base
  b1 : c.base ≤ c.most
  m1 : c.most ≤ 10000
  r0 : 1 ≤ c.rank
  r1 : c.rank ≤ 100
  s0 : 0 ≤ c.samples
  s1 : c.samples ≤ 32

/-- How many attempts the open calls may still have. -/
def credit (k : Int) : List PCall → Int
  | [] => 0
  | c :: r => (k - c.had) + credit k r

theorem credit_append (k : Int) (l m : List PCall) : credit k (l ++ m) = credit k l + credit k m := by
  induction l with
  | nil => simp [credit]
  | cons a r ih => simp only [List.cons_append, credit, ih]; omega
theorem credit_pos (k : Int) {l : List PCall} (h : ∀ c ∈ l, c.had ≤ k) : 0 ≤ credit k l := by
  induction l with
  | nil => simp [credit]
  | cons a r ih =>
    have h1 := h a (by simp)
    have h2 := ih (fun c hc => h c (by simp [hc]))
    simp only [credit]; omega
theorem credit_filter (k : Int) (q : PCall → Bool) {l : List PCall} (h : ∀ c ∈ l, c.had ≤ k) : credit k (l.filter q) ≤ credit k l := by
  induction l with
  | nil => simp [credit]
  | cons a r ih =>
    have h1 := h a (by simp)
    have h2 := ih (fun c hc => h c (by simp [hc]))
    by_cases hq : q a = true
    · rw [List.filter_cons_of_pos hq]; simp only [credit]; omega
    · rw [List.filter_cons_of_neg hq]; simp only [credit]; omega
theorem credit_wait (k : Int) (n z : Int) (l : List PCall) : credit k (updCall n (waitUp z) l) = credit k l := by
  unfold updCall
  induction l with
  | nil => rfl
  | cons a r ih =>
    rw [List.map_cons]
    simp only [credit, ih]
    split <;> rfl
theorem upd_id {n : Int} {f : PCall → PCall} {l : List PCall} (h : ∀ d ∈ l, d.number ≠ n) : updCall n f l = l := by
  unfold updCall
  rw [List.map_congr_left (g := id)]
  · simp
  · intro d hd
    rw [if_neg (h d hd)]
    rfl
theorem credit_had (k : Int) {l : List PCall} {c : PCall} (hc : c ∈ l) (hn : (l.map (·.number)).Nodup) : credit k (updCall c.number hadUp l) = credit k l - 1 := by
  induction l with
  | nil => cases hc
  | cons a r ih =>
    rw [List.map_cons, List.nodup_cons] at hn
    rcases List.mem_cons.1 hc with rfl | h
    · have hr : updCall c.number hadUp r = r := upd_id (fun d hd e => hn.1 (by rw [← e]; exact List.mem_map_of_mem hd))
      have e1 : updCall c.number hadUp (c :: r) = hadUp c :: updCall c.number hadUp r := by simp [updCall]
      rw [e1, hr]
      simp only [credit, hadUp]; omega
    · have hne : a.number ≠ c.number := fun e => hn.1 (by rw [e]; exact List.mem_map_of_mem h)
      have e1 : updCall c.number hadUp (a :: r) = a :: updCall c.number hadUp r := by simp [updCall, hne]
      rw [e1]
      simp only [credit, ih h hn.2]; omega
theorem upd_numbers (n : Int) (f : PCall → PCall) (hf : ∀ d, (f d).number = d.number) (l : List PCall) : (updCall n f l).map (·.number) = l.map (·.number) := by
  unfold updCall
  rw [List.map_map]
  apply List.map_congr_left
  intro d _
  simp only [Function.comp]
  split
  · rw [hf]
  · rfl
theorem mem_upd_inv {n : Int} {f : PCall → PCall} {l : List PCall} {d : PCall} (h : d ∈ updCall n f l) : (∃ e ∈ l, e.number = n ∧ d = f e) ∨ (d ∈ l ∧ d.number ≠ n) := by
  obtain ⟨e, he, rfl⟩ := List.mem_map.1 h
  by_cases hn : e.number = n
  · rw [if_pos hn]; exact .inl ⟨e, he, hn, rfl⟩
  · rw [if_neg hn]; exact .inr ⟨he, hn⟩
theorem mem_upd_of {n : Int} {f : PCall → PCall} {l : List PCall} {e : PCall} (he : e ∈ l) : (if e.number = n then f e else e) ∈ updCall n f l := List.mem_map.2 ⟨e, he, rfl⟩

structure Inv (N : Int) (s : PSt) : Prop where
  cfg : CfgOk s.cfg
  n0 : 0 ≤ s.now
  n1 : s.now ≤ 1099511627776
  ub : OkB s.units
  us : sumB s.units ≤ s.cfg.cap
  uc : ∀ b ∈ s.units, b.came ≤ s.now
  nd : (s.calls.map (·.number)).Nodup
  cl : (s.calls.length : Int) ≤ s.cfg.flight
  cb : ∀ c ∈ s.calls, 0 ≤ c.had ∧ c.had ≤ s.cfg.attempts ∧ 0 ≤ c.deadline ∧ c.deadline ≤ 1099511627776 ∧ s.cfg.base ≤ c.wait ∧ c.wait ≤ s.cfg.most
  ab : ∀ a ∈ s.atts, 1 ≤ a.1 ∧ a.1 ≤ s.launched ∧ 0 ≤ a.2.launched ∧ a.2.launched ≤ s.now ∧ ∃ c ∈ s.calls, c.number = a.2.call
  tb : ∀ t ∈ s.timers, s.now ≤ t.due ∧ t.due ≤ 1099511627776 ∧ (t.kind = 1 ∨ t.kind = 2 ∨ t.kind = 3) ∧ 1 ≤ t.set ∧ t.set ≤ s.set
  tc : ∀ t ∈ s.timers, ∃ c ∈ s.calls, c.number = t.call ∧ (t.kind ≠ 1 → c.had < s.cfg.attempts ∧ t.due < c.deadline) ∧ (t.kind = 1 → t.due = c.deadline)
  tu : ∀ t ∈ s.timers, ∀ u ∈ s.timers, t.call = u.call → t.kind ≠ 1 → u.kind ≠ 1 → t.set = u.set
  tw : ∀ t ∈ s.timers, t.kind = 2 → ∀ a ∈ s.atts, a.2.call ≠ t.call
  ts : (s.timers.map (·.set)).Nodup
  mt : s.times.length ≤ 32
  mb : ∀ t ∈ s.times, 0 ≤ t ∧ t ≤ 1099511627776
  l0 : 0 ≤ s.launched
  s0 : 0 ≤ s.set
  z0 : 0 ≤ s.stale
  p1 : s.launched + credit s.cfg.attempts s.calls ≤ 6 * N
  p2 : s.set + s.atts.length ≤ 2 * s.launched + N
  tl : (s.timers.length : Int) ≤ s.set

theorem sumB_len {l : List PB} (h : OkB l) : (l.length : Int) ≤ sumB l := by
  induction l with
  | nil => simp [sumB]
  | cons a r ih =>
    have h1 := h a (by simp)
    have h2 := ih (fun b hb => h b (by simp [hb]))
    simp only [sumB, List.length_cons]
    omega

section
variable {N : Int} {s : PSt}

theorem Inv.ul (h : Inv N s) : s.units.length ≤ 1000 := by
  have := sumB_len h.ub
  have := h.us
  have := h.cfg.p1
  omega
theorem Inv.lN (h : Inv N s) : s.launched ≤ 6 * N := by
  have := credit_pos s.cfg.attempts (fun c hc => (h.cb c hc).2.1)
  have := h.p1
  omega
theorem Inv.sN (h : Inv N s) : s.set ≤ 13 * N := by
  have := h.lN
  have := h.p2
  omega
theorem Inv.aN (h : Inv N s) : (s.atts.length : Int) ≤ 13 * N := by
  have := h.lN
  have := h.p2
  have := h.s0
  omega
theorem Inv.tN (h : Inv N s) : (s.timers.length : Int) ≤ 13 * N := by
  have := h.sN
  have := h.tl
  omega

theorem Inv.find (h : Inv N s) {c : PCall} (hc : c ∈ s.calls) : callOf s c.number = some c := by
  unfold callOf
  have hnd := h.nd
  revert hc hnd
  generalize s.calls = l
  intro hc hnd
  induction l with
  | nil => cases hc
  | cons a r ih =>
    rw [List.map_cons, List.nodup_cons] at hnd
    rcases List.mem_cons.1 hc with rfl | h'
    · simp
    · have hne : a.number ≠ c.number := fun e => hnd.1 (by rw [e]; exact List.mem_map_of_mem h')
      rw [List.find?_cons_of_neg (by simpa using hne)]
      exact ih h' hnd.2
theorem callOf_mem {n : Int} {c : PCall} (h : callOf s n = some c) : c ∈ s.calls ∧ c.number = n :=
  ⟨List.mem_of_find?_eq_some h, by simpa using List.find?_some h⟩
theorem Inv.same (h : Inv N s) {c d : PCall} (hc : c ∈ s.calls) (hd : d ∈ s.calls) (e : c.number = d.number) : c = d := by
  have h1 := h.find hc
  rw [e, h.find hd] at h1
  exact (Option.some.inj h1).symm

theorem inv_stale (h : Inv N s) : Inv N (staleM s) :=
  { h with z0 := by have := h.z0; show 0 ≤ s.stale + 1; omega }

theorem inv_finish (h : Inv N s) (n : Int) : Inv N (finishM s n) where
  cfg := h.cfg
  n0 := h.n0
  n1 := h.n1
  ub := h.ub
  us := h.us
  uc := h.uc
  nd := h.nd.sublist (List.filter_sublist.map _)
  cl := by
    have := h.cl
    have h1 : (s.calls.filter (fun c => c.number != n)).length ≤ s.calls.length := List.length_filter_le _ _
    show ((s.calls.filter _).length : Int) ≤ _
    show ((s.calls.filter (fun c => c.number != n)).length : Int) ≤ s.cfg.flight
    omega
  cb c hc := h.cb c (List.mem_filter.1 hc).1
  ab a ha := by
    obtain ⟨h1, h2⟩ := List.mem_filter.1 ha
    obtain ⟨a1, a2, a3, a4, c, hc, e⟩ := h.ab a h1
    refine ⟨a1, a2, a3, a4, c, List.mem_filter.2 ⟨hc, ?_⟩, e⟩
    rw [e]
    simpa using h2
  tb t ht := h.tb t (List.mem_filter.1 ht).1
  tc t ht := by
    obtain ⟨h1, h2⟩ := List.mem_filter.1 ht
    obtain ⟨c, hc, e, r⟩ := h.tc t h1
    refine ⟨c, List.mem_filter.2 ⟨hc, ?_⟩, e, r⟩
    rw [e]
    simpa [stays] using h2
  tu t ht u hu := h.tu t (List.mem_filter.1 ht).1 u (List.mem_filter.1 hu).1
  tw t ht k a ha := h.tw t (List.mem_filter.1 ht).1 k a (List.mem_filter.1 ha).1
  ts := h.ts.sublist (List.filter_sublist.map _)
  mt := h.mt
  mb := h.mb
  l0 := h.l0
  s0 := h.s0
  z0 := h.z0
  p1 := by
    have := credit_filter s.cfg.attempts (fun c => c.number != n) (fun c hc => (h.cb c hc).2.1)
    have := h.p1
    show s.launched + credit s.cfg.attempts (s.calls.filter (fun c => c.number != n)) ≤ 6 * N
    omega
  p2 := by
    have := h.p2
    have h1 : (s.atts.filter (fun a => !(a.2.call == n))).length ≤ s.atts.length := List.length_filter_le _ _
    show s.set + ((s.atts.filter (fun a => !(a.2.call == n))).length : Int) ≤ 2 * s.launched + N
    omega
  tl := by
    have := h.tl
    have h1 : (s.timers.filter (stays n)).length ≤ s.timers.length := List.length_filter_le _ _
    show ((s.timers.filter (stays n)).length : Int) ≤ s.set
    omega

theorem inv_close (h : Inv N s) (n : Int) : Inv N (closeM s n) :=
  { h with
    ab := fun a ha => h.ab a (List.mem_filter.1 ha).1
    tw := fun t ht k a ha => h.tw t ht k a (List.mem_filter.1 ha).1
    p2 := by
      have := h.p2
      have h1 : (s.atts.filter (fun a => a.1 != n)).length ≤ s.atts.length := List.length_filter_le _ _
      show s.set + ((s.atts.filter (fun a => a.1 != n)).length : Int) ≤ 2 * s.launched + N
      omega }
theorem close_len {n : Int} {a : Int × PAtt} (ha : a ∈ s.atts) (hn : a.1 = n) : (closeM s n).atts.length < s.atts.length := by
  show (s.atts.filter (fun a => a.1 != n)).length < _
  revert ha
  generalize s.atts = l
  intro ha
  induction l with
  | nil => cases ha
  | cons b r ih =>
    rcases List.mem_cons.1 ha with rfl | h'
    · rw [List.filter_cons_of_neg (by simp [hn])]
      exact Nat.lt_succ_of_le (List.length_filter_le _ _)
    · have := ih h'
      by_cases hb : (b.1 != n) = true
      · rw [List.filter_cons_of_pos (p := fun a : Int × PAtt => a.1 != n) hb, List.length_cons, List.length_cons]; omega
      · rw [List.filter_cons_of_neg (p := fun a : Int × PAtt => a.1 != n) hb, List.length_cons]; omega

theorem inv_add (h : Inv N s) (t : Int) (h0 : 0 ≤ t) (h1 : t ≤ 1099511627776) : Inv N (addM s t) :=
  { h with
    mt := by
      have := h.mt
      show (addT s.times t).length ≤ 32
      unfold addT
      split
      · simp; omega
      · simp; omega
    mb := fun u hu => by
      have hu' : u ∈ addT s.times t := hu
      unfold addT at hu'
      rcases List.mem_append.1 hu' with h2 | h2
      · split at h2
        · exact h.mb u (List.mem_of_mem_drop h2)
        · exact h.mb u h2
      · have : u = t := by simpa using h2
        rw [this]
        exact ⟨h0, h1⟩ }

theorem inv_timers (h : Inv N s) (q : PTimer → Bool) : Inv N { s with timers := s.timers.filter q } :=
  { h with
    tb := fun t ht => h.tb t (List.mem_filter.1 ht).1
    tc := fun t ht => h.tc t (List.mem_filter.1 ht).1
    tu := fun t ht u hu => h.tu t (List.mem_filter.1 ht).1 u (List.mem_filter.1 hu).1
    tw := fun t ht => h.tw t (List.mem_filter.1 ht).1
    ts := h.ts.sublist (List.filter_sublist.map _)
    tl := by
      have := h.tl
      have h1 : (s.timers.filter q).length ≤ s.timers.length := List.length_filter_le _ _
      show ((s.timers.filter q).length : Int) ≤ s.set
      omega }
theorem inv_noHedge (h : Inv N s) (n : Int) : Inv N (noHedge s n) := inv_timers h _
theorem inv_pop (h : Inv N s) (t : PTimer) : Inv N (popM s t) := inv_timers h _

/-- A timer more. -/
theorem inv_addTimer (h : Inv N s) (kind due : Int) {c : PCall} (hc : c ∈ s.calls) (hd0 : s.now ≤ due) (hd1 : due ≤ 1099511627776) (hk : kind = 1 ∨ kind = 2 ∨ kind = 3) (h1 : kind ≠ 1 → c.had < s.cfg.attempts ∧ due < c.deadline) (h2 : kind = 1 → due = c.deadline)
    (hu : kind ≠ 1 → ∀ t ∈ s.timers, t.call = c.number → t.kind = 1) (hw : kind = 2 → ∀ a ∈ s.atts, a.2.call ≠ c.number) (hp : s.set + s.atts.length + 1 ≤ 2 * s.launched + N) : Inv N (addTimer s kind c.number due) :=
  { h with
    tb := fun t ht => by
      rcases List.mem_append.1 ht with h' | h'
      · obtain ⟨a, b, c', d, e⟩ := h.tb t h'
        exact ⟨a, b, c', d, by show t.set ≤ s.set + 1; omega⟩
      · have : t = ⟨kind, c.number, due, s.set + 1⟩ := by simpa using h'
        subst this
        have := h.s0
        exact ⟨hd0, hd1, hk, by show 1 ≤ s.set + 1; omega, by show s.set + 1 ≤ s.set + 1; omega⟩
    tc := fun t ht => by
      rcases List.mem_append.1 ht with h' | h'
      · exact h.tc t h'
      · have : t = ⟨kind, c.number, due, s.set + 1⟩ := by simpa using h'
        subst this
        exact ⟨c, hc, rfl, h1, h2⟩
    tu := fun t ht u hu' e k1 k2 => by
      rcases List.mem_append.1 ht with h' | h' <;> rcases List.mem_append.1 hu' with h'' | h''
      · exact h.tu t h' u h'' e k1 k2
      · have : u = ⟨kind, c.number, due, s.set + 1⟩ := by simpa using h''
        subst this
        exact absurd (hu k2 t h' e) k1
      · have : t = ⟨kind, c.number, due, s.set + 1⟩ := by simpa using h'
        subst this
        exact absurd (hu k1 u h'' e.symm) k2
      · have e1 : t = ⟨kind, c.number, due, s.set + 1⟩ := by simpa using h'
        have e2 : u = ⟨kind, c.number, due, s.set + 1⟩ := by simpa using h''
        rw [e1, e2]
    tw := fun t ht k a ha => by
      rcases List.mem_append.1 ht with h' | h'
      · exact h.tw t h' k a ha
      · have : t = ⟨kind, c.number, due, s.set + 1⟩ := by simpa using h'
        subst this
        exact hw k a ha
    ts := by
      show ((s.timers ++ [(⟨kind, c.number, due, s.set + 1⟩ : PTimer)]).map (fun t => t.set)).Nodup
      rw [List.map_append, List.nodup_append]
      refine ⟨h.ts, by simp, ?_⟩
      intro x hx y hy
      obtain ⟨t, ht, rfl⟩ := List.mem_map.1 hx
      have hy' : y = s.set + 1 := by simpa using hy
      have := (h.tb t ht).2.2.2.2
      omega
    s0 := by
      have := h.s0
      show 0 ≤ s.set + 1
      omega
    p2 := by
      show s.set + 1 + (s.atts.length : Int) ≤ _
      show s.set + 1 + (s.atts.length : Int) ≤ 2 * s.launched + N
      omega
    tl := by
      have := h.tl
      show (((s.timers ++ [_]).length : Nat) : Int) ≤ s.set + 1
      rw [List.length_append]
      simp
      omega }

/-- A call's own numbers change. -/
theorem inv_upd (h : Inv N s) {c : PCall} (hc : c ∈ s.calls) (f : PCall → PCall) (hf : ∀ d, (f d).number = d.number) (hd : ∀ d, (f d).deadline = d.deadline) (h1 : 0 ≤ (f c).had ∧ (f c).had ≤ s.cfg.attempts ∧ s.cfg.base ≤ (f c).wait ∧ (f c).wait ≤ s.cfg.most)
    (h2 : ∀ t ∈ s.timers, t.call = c.number → t.kind ≠ 1 → (f c).had < s.cfg.attempts) (l' : Int) (hl : s.launched ≤ l') (hp : l' + credit s.cfg.attempts (updCall c.number f s.calls) ≤ 6 * N) : Inv N { s with calls := updCall c.number f s.calls, launched := l' } :=
  { h with
    nd := by
      show ((updCall _ _ _).map _).Nodup
      rw [upd_numbers _ _ hf]
      exact h.nd
    cl := by
      show ((updCall _ _ _).length : Int) ≤ _
      unfold updCall
      rw [List.length_map]
      exact h.cl
    cb := fun d hd' => by
      rcases mem_upd_inv hd' with ⟨e, he, hn, rfl⟩ | ⟨he, _⟩
      · obtain rfl := h.same he hc hn
        obtain ⟨_, _, b3, b4, _, _⟩ := h.cb e he
        rw [hd]
        exact ⟨h1.1, h1.2.1, b3, b4, h1.2.2⟩
      · exact h.cb d he
    ab := fun a ha => by
      obtain ⟨a1, a2, a3, a4, d, hd', e⟩ := h.ab a ha
      refine ⟨a1, Int.le_trans a2 hl, a3, a4, _, mem_upd_of hd', ?_⟩
      split
      · rw [hf]; exact e
      · exact e
    tc := fun t ht => by
      obtain ⟨d, hd', e, r1, r2⟩ := h.tc t ht
      refine ⟨_, mem_upd_of hd', ?_, ?_, ?_⟩
      · split
        · rw [hf]; exact e
        · exact e
      · intro k
        obtain ⟨x1, x2⟩ := r1 k
        split
        · rename_i hn
          obtain rfl := h.same hd' hc hn
          rw [hd]
          exact ⟨h2 t ht e.symm k, x2⟩
        · exact ⟨x1, x2⟩
      · intro k
        split
        · rw [hd]; exact r2 k
        · exact r2 k
    l0 := Int.le_trans h.l0 hl
    p1 := hp
    p2 := by
      have := h.p2
      show s.set + (s.atts.length : Int) ≤ 2 * l' + N
      omega }

theorem inv_again (h : Inv N s) {c : PCall} (hc : c ∈ s.calls) (draw : Int) (ho : ¬ overM s c draw) (hu : ∀ t ∈ s.timers, t.call = c.number → t.kind = 1) (hw : ∀ a ∈ s.atts, a.2.call ≠ c.number) (hp : s.set + s.atts.length + 1 ≤ 2 * s.launched + N) : Inv N (againM s c draw) := by
  unfold overM at ho
  obtain ⟨b1, b2, b3, b4, b5, b6⟩ := h.cb c hc
  have hb := h.cfg.b0
  have hb1 := h.cfg.b1
  have hz : s.cfg.base ≤ waitOf s c draw ∧ waitOf s c draw ≤ s.cfg.most := by
    unfold waitOf waitP
    have := Int.emod_nonneg draw (b := 3 * c.wait - s.cfg.base + 1) (by omega)
    omega
  have h1 := inv_upd h hc (waitUp (waitOf s c draw)) (fun _ => rfl) (fun _ => rfl) ⟨b1, b2, hz.1, hz.2⟩ (fun t ht e k => absurd (hu t ht e) k) s.launched (Int.le_refl _) (by rw [credit_wait]; exact h.p1)
  have hc' : waitUp (waitOf s c draw) c ∈ updCall c.number (waitUp (waitOf s c draw)) s.calls := List.mem_map.2 ⟨c, hc, by rw [if_pos rfl]⟩
  refine inv_addTimer (c := waitUp (waitOf s c draw) c) (s := { s with calls := updCall c.number (waitUp (waitOf s c draw)) s.calls }) h1 2 (s.now + waitOf s c draw) hc' (by show s.now ≤ _; omega) ?_ (.inr (.inl rfl)) (fun _ => ⟨?_, ?_⟩) (fun k => by omega) (fun _ => hu) (fun _ => hw) hp
  · omega
  · show c.had < s.cfg.attempts
    omega
  · show s.now + waitOf s c draw < c.deadline
    omega

theorem inv_launch0 (h : Inv N s) {c : PCall} (hc : c ∈ s.calls) (ha : c.had < s.cfg.attempts) (hu : ∀ t ∈ s.timers, t.call = c.number → t.kind = 1) : Inv N (launch0 s c) := by
  obtain ⟨b1, b2, b3, b4, b5, b6⟩ := h.cb c hc
  have h1 := inv_upd h hc hadUp (fun _ => rfl) (fun _ => rfl) ⟨by show 0 ≤ c.had + 1; omega, by show c.had + 1 ≤ _; omega, b5, b6⟩ (fun t ht e k => absurd (hu t ht e) k) (s.launched + 1) (by omega) (by
    rw [credit_had _ hc h.nd]
    have := h.p1
    omega)
  have hc' : hadUp c ∈ updCall c.number hadUp s.calls := List.mem_map.2 ⟨c, hc, by rw [if_pos rfl]⟩
  exact
    { h1 with
      ab := fun a ha' => by
        rcases List.mem_append.1 ha' with h' | h'
        · exact h1.ab a h'
        · have : a = (s.launched + 1, ⟨c.number, s.now⟩) := by simpa using h'
          subst this
          have := h.l0
          exact ⟨by show 1 ≤ s.launched + 1; omega, by show s.launched + 1 ≤ s.launched + 1; omega, h.n0, Int.le_refl _, hadUp c, hc', rfl⟩
      tw := fun t ht k a ha' => by
        rcases List.mem_append.1 ha' with h' | h'
        · exact h1.tw t ht k a h'
        · have : a = (s.launched + 1, ⟨c.number, s.now⟩) := by simpa using h'
          subst this
          intro e
          have := hu t ht e.symm
          omega
      p2 := by
        have := h.p2
        show s.set + ((s.atts ++ [_]).length : Int) ≤ 2 * (s.launched + 1) + N
        rw [List.length_append]
        simp
        omega }

end
theorem wd_pos (t : Nat) : 0 < wd t := by
  unfold wd
  split
  · omega
  · exact Nat.pow_pos (by omega)
theorem topB_nonneg (t : Int) : 0 ≤ topB t := by
  unfold topB
  split
  · omega
  · have hw := wd_pos t.toNat
    have h2 := Int.emod_lt_of_pos t (b := (wd t.toNat : Int)) (by omega)
    omega
theorem delay_pos (times : List Int) (rank : Int) : 0 ≤ delayM times rank := topB_nonneg _

theorem takeB_sum : ∀ (l : List PB) (n : Int), OkB l → 0 ≤ n → n ≤ sumB l → sumB (takeB l n) = sumB l - n := by
  intro l
  induction l with
  | nil => intro n _ h0 h1; simp [sumB] at h1; simp [takeB, sumB]; omega
  | cons b r ih =>
    intro n h h0 h1
    have hb := h b (by simp)
    simp only [takeB]
    split
    · simp only [sumB]; omega
    · split
      · simp only [sumB]; omega
      · simp only [sumB] at h1
        rw [ih _ (fun x hx => h x (by simp [hx])) (by omega) (by omega)]
        simp only [sumB]; omega
theorem takeB_came : ∀ (l : List PB) (n : Int), ∀ b ∈ takeB l n, ∃ b' ∈ l, b'.came = b.came := by
  intro l
  induction l with
  | nil => intro n b hb; simp [takeB] at hb
  | cons a r ih =>
    intro n b hb
    simp only [takeB] at hb
    split at hb
    · exact ⟨b, hb, rfl⟩
    · split at hb
      · rcases List.mem_cons.1 hb with rfl | hb
        · exact ⟨a, by simp, rfl⟩
        · exact ⟨b, by simp [hb], rfl⟩
      · obtain ⟨b', h1, h2⟩ := ih _ b hb
        exact ⟨b', by simp [h1], h2⟩
theorem dropWhile_sum (q : PB → Bool) : ∀ (l : List PB), OkB l → sumB (l.dropWhile q) ≤ sumB l := by
  intro l
  induction l with
  | nil => intro _; simp
  | cons b r ih =>
    intro h
    have hb := h b (by simp)
    rw [List.dropWhile_cons]
    split
    · have := ih (fun x hx => h x (by simp [hx]))
      simp only [sumB]; omega
    · exact Int.le_refl _
theorem dropWhile_mem {α : Type} (q : α → Bool) {l : List α} {b : α} (h : b ∈ l.dropWhile q) : b ∈ l := (List.dropWhile_sublist q).mem h

section
variable {N : Int} {s : PSt}

theorem inv_setHedge (h : Inv N s) {c : PCall} (hc : c ∈ s.calls) (hu : ∀ t ∈ s.timers, t.call = c.number → t.kind = 1) (hp : s.set + s.atts.length + 1 ≤ 2 * s.launched + N) : Inv N (setHedgeM s c) := by
  unfold setHedgeM
  split
  · rename_i hm
    obtain ⟨hm1, hm2⟩ := hm
    unfold mayHedgeM at hm1
    simp only [Bool.and_eq_true, decide_eq_true_eq] at hm1
    have h1 := delay_pos s.times s.cfg.rank
    have h2 := (h.cb c hc).2.2.2.1
    exact inv_addTimer h 3 _ hc (by omega) (by omega) (.inr (.inr rfl)) (fun _ => ⟨hm1.2, hm2⟩) (fun k => by omega) (fun _ => hu) (fun k => by omega) hp
  · exact h

theorem inv_launch (h : Inv N s) {c : PCall} (hc : c ∈ s.calls) (ha : c.had < s.cfg.attempts) (hu : ∀ t ∈ s.timers, t.call = c.number → t.kind = 1) : Inv N (launchM s c) := by
  have hc' : hadUp c ∈ updCall c.number hadUp s.calls := List.mem_map.2 ⟨c, hc, by rw [if_pos rfl]⟩
  refine inv_setHedge (inv_launch0 h hc ha hu) hc' hu ?_
  have := h.p2
  show s.set + ((s.atts ++ [_]).length : Int) + 1 ≤ 2 * (s.launched + 1) + N
  rw [List.length_append]
  simp
  omega

theorem inv_wait (h : Inv N s) {c : PCall} (hc : c ∈ s.calls) (draw : Int) (hu : ∀ t ∈ s.timers, t.call = c.number → t.kind ≠ 2) (hw : ∀ a ∈ s.atts, a.2.call ≠ c.number) (hp : s.set + s.atts.length + 1 ≤ 2 * s.launched + N) : Inv N (waitM s c draw) := by
  unfold waitM
  split
  · exact inv_finish (inv_noHedge h _) _
  · rename_i ho
    refine inv_again (inv_noHedge h _) hc draw ho ?_ hw hp
    intro t ht e
    obtain ⟨h1, h2⟩ := List.mem_filter.1 ht
    have h3 := hu t h1 e
    have h4 := (h.tb t h1).2.2.1
    have h5 : t.kind ≠ 3 := by
      intro k
      simp [staysH, e, k] at h2
    omega

theorem inv_answer (h : Inv N s) (e : PEv) : Inv N (answerM s e) := by
  unfold answerM
  cases ha : attOf s e.attempt with
  | none => exact inv_stale h
  | some x =>
    obtain ⟨k, a⟩ := x
    have hm : (k, a) ∈ s.atts := List.mem_of_find?_eq_some ha
    have hk : k = e.attempt := by simpa using List.find?_some ha
    subst hk
    obtain ⟨a1, a2, a3, a4, c, hc, hn⟩ := h.ab _ hm
    dsimp only at a3 a4 hn ⊢
    rw [← hn, h.find hc]
    dsimp only
    have hcl := inv_close h e.attempt
    unfold answerM1
    split
    · exact inv_finish (inv_add hcl _ (by have := h.n1; omega) (by have := h.n1; omega)) _
    · split
      · exact inv_finish hcl _
      · split
        · exact hcl
        · rename_i ho
          refine inv_wait hcl hc e.draw ?_ ?_ ?_
          · intro t ht e' k2
            exact h.tw t ht k2 _ hm (by rw [← hn, e'])
          · intro b hb eb
            apply ho
            have : b.1 ∈ openOf (closeM s e.attempt) c.number := List.mem_map.2 ⟨b, List.mem_filter.2 ⟨hb, by simpa using eb⟩, rfl⟩
            exact List.length_pos_of_mem this
          · have h1 := h.p2
            have h2 := close_len (s := s) hm rfl
            show s.set + ((closeM s e.attempt).atts.length : Int) + 1 ≤ 2 * s.launched + N
            dsimp only at h2
            omega

theorem inv_cancel (h : Inv N s) (n : Int) : Inv N (cancelM s n) := by
  unfold cancelM
  split
  · exact inv_finish h n
  · exact inv_stale h

theorem why0 {timeout now flight : Int} {known : Bool} {n : Nat} (h : whyP timeout now flight known n = 0) : 1 ≤ timeout ∧ timeout ≤ 10000 ∧ known = false ∧ (n : Int) < flight ∧ now + timeout ≤ 1099511627776 := by
  unfold whyP at h
  split at h
  · omega
  · split at h
    · omega
    · split at h
      · omega
      · split at h
        · omega
        · rename_i h1 h2 h3 h4
          refine ⟨by omega, by omega, by simpa using h2, by omega, by omega⟩

theorem inv_bring (h : Inv N s) : Inv N (bringM s) := by
  unfold bringM
  split
  · rename_i hb
    have h1 := h.us
    have h2 := h.cfg
    have hle : bringN s.cfg.deposit s.cfg.cap s.units ≤ s.cfg.deposit ∧ bringN s.cfg.deposit s.cfg.cap s.units ≤ s.cfg.cap - sumB s.units := by unfold bringN; omega
    exact
      { h with
        ub := fun b hb' => by
          rcases List.mem_append.1 hb' with h' | h'
          · exact h.ub b h'
          · have : b = ⟨s.now, bringN s.cfg.deposit s.cfg.cap s.units⟩ := by simpa using h'
            subst this
            have := h.n0
            have := h.n1
            have := h2.d1
            exact ⟨hb, by show bringN _ _ _ ≤ 1000; omega, h.n0, h.n1⟩
        us := by
          show sumB (s.units ++ [_]) ≤ s.cfg.cap
          rw [sumB_append]
          simp only [sumB]
          omega
        uc := fun b hb' => by
          rcases List.mem_append.1 hb' with h' | h'
          · exact h.uc b h'
          · have : b = ⟨s.now, bringN s.cfg.deposit s.cfg.cap s.units⟩ := by simpa using h'
            subst this
            exact Int.le_refl _ }
  · exact h

theorem whyM_none {e : PEv} (h : whyM s e = 0) : ∀ c ∈ s.calls, c.number ≠ e.call := by
  intro c hc hn
  obtain ⟨_, _, hk, _, _⟩ := why0 h
  have : (callOf s e.call).isSome = true := by
    unfold callOf
    rw [List.find?_isSome]
    exact ⟨c, hc, by simpa using hn⟩
  rw [hk] at this
  cases this

theorem inv_newCall (h : Inv N s) (e : PEv) (hw : whyM s e = 0) : Inv (N + 1) { s with calls := s.calls ++ [newCall s e] } := by
  obtain ⟨t0, t1, _, t3, t4⟩ := why0 hw
  have hn := whyM_none hw
  have h2 := h.cfg
  have hn0 := h.n0
  exact
    { h with
      nd := by
        show ((s.calls ++ [newCall s e]).map (fun c => c.number)).Nodup
        rw [List.map_append, List.nodup_append]
        refine ⟨h.nd, by simp, ?_⟩
        intro x hx y hy
        obtain ⟨c, hc, rfl⟩ := List.mem_map.1 hx
        have : y = e.call := by simpa [newCall] using hy
        rw [this]
        exact hn c hc
      cl := by
        show ((s.calls ++ [_]).length : Int) ≤ s.cfg.flight
        rw [List.length_append]
        simp
        omega
      cb := fun c hc => by
        rcases List.mem_append.1 hc with h' | h'
        · exact h.cb c h'
        · have : c = newCall s e := by simpa using h'
          subst this
          have := h2.a0
          have := h2.b1
          exact ⟨Int.le_refl _, by show (0 : Int) ≤ s.cfg.attempts; omega, by show 0 ≤ s.now + e.timeout; omega, t4, Int.le_refl _, h2.b1⟩
      ab := fun a ha => by
        obtain ⟨a1, a2, a3, a4, c, hc, hx⟩ := h.ab a ha
        exact ⟨a1, a2, a3, a4, c, List.mem_append_left _ hc, hx⟩
      tc := fun t ht => by
        obtain ⟨c, hc, hx⟩ := h.tc t ht
        exact ⟨c, List.mem_append_left _ hc, hx⟩
      p1 := by
        have := h.p1
        have := h2.a1
        show s.launched + credit s.cfg.attempts (s.calls ++ [newCall s e]) ≤ 6 * (N + 1)
        rw [credit_append]
        simp only [credit, newCall]
        omega
      p2 := by
        have := h.p2
        show s.set + (s.atts.length : Int) ≤ 2 * s.launched + (N + 1)
        omega }

theorem inv_admit0 (h : Inv N s) (e : PEv) (hw : whyM s e = 0) : Inv (N + 1) (admit0 s e) ∧ newCall s e ∈ (admit0 s e).calls ∧ (newCall s e).had < (admit0 s e).cfg.attempts ∧ ∀ t ∈ (admit0 s e).timers, t.call = (newCall s e).number → t.kind = 1 := by
  have hn := whyM_none hw
  obtain ⟨t0, t1, _, t3, t4⟩ := why0 hw
  have hn0 := h.n0
  have h1 := inv_bring (inv_newCall h e hw)
  have hc : newCall s e ∈ (bringM { s with calls := s.calls ++ [newCall s e] }).calls := List.mem_append_right _ (by simp)
  have ht : ∀ t ∈ s.timers, t.call ≠ e.call := fun t ht k => by
    obtain ⟨c, hc, hx, _⟩ := h.tc t ht
    exact hn c hc (hx.trans k)
  refine ⟨?_, hc, ?_, ?_⟩
  · refine inv_addTimer h1 1 (s.now + e.timeout) hc ?_ t4 (.inl rfl) (fun k => absurd rfl k) (fun _ => rfl) (fun k => absurd rfl k) (fun k => by omega) ?_
    · show s.now ≤ _
      omega
    · have := h.p2
      show s.set + (s.atts.length : Int) + 1 ≤ 2 * s.launched + (N + 1)
      omega
  · have := h.cfg.a0
    show (0 : Int) < s.cfg.attempts
    omega
  · intro t ht' k
    rcases List.mem_append.1 ht' with h' | h'
    · exact absurd k (ht t h')
    · rw [List.mem_singleton.1 h']
theorem inv_admit (h : Inv N s) (e : PEv) (hw : whyM s e = 0) : Inv (N + 1) (admitM s e) :=
  let ⟨h1, h2, h3, h4⟩ := inv_admit0 h e hw
  inv_launch h1 h2 h3 h4

theorem inv_submit (h : Inv N s) (e : PEv) : Inv (N + 1) (submitM s e) := by
  unfold submitM
  split
  · exact inv_admit h e (by assumption)
  · exact
      { h with
        p1 := by have := h.p1; omega
        p2 := by have := h.p2; omega }
theorem Inv.mono (h : Inv N s) {M : Int} (hM : N ≤ M) : Inv M s :=
  { h with
    p1 := by have := h.p1; omega
    p2 := by have := h.p2; omega }

theorem inv_take (h : Inv N s) : Inv N (takeM s) := by
  unfold takeM
  split
  · rename_i hc
    have h0 := h.cfg.c0
    exact
      { h with
        ub := takeB_okB _ _ h.ub
        us := by
          show sumB (takeB s.units s.cfg.cost) ≤ _
          rw [takeB_sum _ _ h.ub (by omega) hc]
          have := h.us
          show _ ≤ s.cfg.cap
          omega
        uc := fun b hb => by
          obtain ⟨b', h1, h2⟩ := takeB_came _ _ b hb
          rw [← h2]
          exact h.uc b' h1 }
  · exact h
theorem inv_goTo (h : Inv N s) (time : Int) (h0 : s.now ≤ time) (h1 : time ≤ 1099511627776) (ht : ∀ t ∈ s.timers, time ≤ t.due) : Inv N (goToM s time) :=
  { h with
    n0 := by have := h.n0; show 0 ≤ time; omega
    n1 := h1
    ub := fun b hb => h.ub b (dropWhile_mem _ hb)
    us := Int.le_trans (dropWhile_sum _ _ h.ub) h.us
    uc := fun b hb => Int.le_trans (h.uc b (dropWhile_mem _ hb)) h0
    ab := fun a ha => by
      obtain ⟨a1, a2, a3, a4, r⟩ := h.ab a ha
      exact ⟨a1, a2, a3, Int.le_trans a4 h0, r⟩
    tb := fun t ht' => by
      obtain ⟨_, r⟩ := h.tb t ht'
      exact ⟨ht t ht', r⟩ }

theorem first_due {l : List PTimer} {t : PTimer} (h : firstT l = some t) : ∀ u ∈ l, t.due ≤ u.due := by
  intro u hu
  have := (firstT_some h).2 u hu
  unfold PTimer.lt at this
  omega

theorem inv_due (h : Inv N s) {t : PTimer} (ht : firstT s.timers = some t) : Inv N (dueM s t) := by
  have hm := (firstT_some ht).1
  obtain ⟨h1, h2, _⟩ := h.tb t hm
  exact inv_goTo (inv_pop h t) t.due h1 h2 (fun u hu => first_due ht u (List.mem_filter.1 hu).1)

/-- The call of a timer that is due, and that nothing else waits for. -/
theorem due_call (h : Inv N s) {t : PTimer} (ht : firstT s.timers = some t) : ∃ c ∈ s.calls, c.number = t.call ∧ callOf (dueM s t) t.call = some c ∧ (t.kind ≠ 1 → c.had < s.cfg.attempts ∧ t.due < c.deadline) ∧ (t.kind = 1 → t.due = c.deadline) ∧
    (t.kind ≠ 1 → ∀ u ∈ (dueM s t).timers, u.call = c.number → u.kind = 1) := by
  have hm := (firstT_some ht).1
  obtain ⟨c, hc, e, r1, r2⟩ := h.tc t hm
  refine ⟨c, hc, e, by rw [← e]; exact h.find hc, r1, r2, fun k u hu e' => ?_⟩
  obtain ⟨h1, h2⟩ := List.mem_filter.1 hu
  by_cases hk : u.kind = 1
  · exact hk
  · have := h.tu t hm u h1 (by rw [← e, e']) k hk
    simp [this] at h2

theorem inv_ring (h : Inv N s) {t : PTimer} (ht : firstT s.timers = some t) : Inv N (ringM (dueM s t) t) := by
  obtain ⟨c, hc, e, hf, r1, r2, r3⟩ := due_call h ht
  have hd := inv_due h ht
  unfold ringM
  rw [hf]
  dsimp only
  unfold ringM1
  split
  · exact inv_finish hd _
  · rename_i hk
    split
    · exact inv_launch (inv_take hd) hc (r1 hk).1 (r3 hk)
    · split
      · exact inv_take hd
      · exact inv_finish (inv_take hd) _

/-- How often a timer may still ring. -/
def turns (s : PSt) : Int := credit s.cfg.attempts s.calls + s.timers.length

theorem Inv.turns0 (h : Inv N s) : 0 ≤ turns s := by
  have := credit_pos s.cfg.attempts (fun c hc => (h.cb c hc).2.1)
  unfold turns
  omega
theorem pop_len (h : Inv N s) {t : PTimer} (ht : firstT s.timers = some t) : ((dueM s t).timers.length : Int) + 1 = s.timers.length := by
  have := (pop_perm h.ts (firstT_some ht).1).length_eq
  rw [List.length_cons] at this
  show ((s.timers.filter (fun u => u.set != t.set)).length : Int) + 1 = _
  omega
theorem setHedgeM_len (s : PSt) (c : PCall) : ((setHedgeM s c).timers.length : Int) ≤ s.timers.length + 1 := by
  unfold setHedgeM
  split
  · show (((s.timers ++ [_]).length : Nat) : Int) ≤ _
    rw [List.length_append]
    simp
  · omega
theorem finish_turns (h : Inv N s) (n : Int) : turns (finishM s n) ≤ turns s := by
  have h1 := credit_filter s.cfg.attempts (fun c => c.number != n) (fun c hc => (h.cb c hc).2.1)
  have h2 : (s.timers.filter (stays n)).length ≤ s.timers.length := List.length_filter_le _ _
  unfold turns
  show credit s.cfg.attempts (s.calls.filter (fun c => c.number != n)) + ((s.timers.filter (stays n)).length : Int) ≤ _
  omega
theorem ring_turns (h : Inv N s) {t : PTimer} (ht : firstT s.timers = some t) : turns (ringM (dueM s t) t) < turns s := by
  obtain ⟨c, hc, e, hf, r1, r2, r3⟩ := due_call h ht
  have hd := inv_due h ht
  have hl := pop_len h ht
  have hdt : turns (dueM s t) + 1 = turns s := by
    unfold turns
    show credit s.cfg.attempts s.calls + ((dueM s t).timers.length : Int) + 1 = _
    omega
  unfold ringM
  rw [hf]
  dsimp only
  unfold ringM1
  split
  · have := finish_turns hd c.number
    omega
  · split
    · have h1 := setHedgeM_len (launch0 (takeM (dueM s t)) c) (hadUp c)
      obtain ⟨e1, _, _, e2, _⟩ := setHedgeM_same (launch0 (takeM (dueM s t)) c) (hadUp c)
      unfold launchM turns
      rw [e1, e2]
      show credit s.cfg.attempts (updCall c.number hadUp s.calls) + _ < _
      rw [credit_had _ hc h.nd]
      have h2 : ((launch0 (takeM (dueM s t)) c).timers.length : Int) = (dueM s t).timers.length := rfl
      omega
    · split
      · have h1 : turns (takeM (dueM s t)) = turns (dueM s t) := rfl
        omega
      · have h1 : turns (takeM (dueM s t)) = turns (dueM s t) := rfl
        have := finish_turns (inv_take hd) c.number
        omega

theorem inv_adv (til : Int) (h1 : til ≤ 1099511627776) : ∀ (f : Nat) (s : PSt), Inv N s → s.now ≤ til → turns s ≤ f → Inv N (advF til f s).1 := by
  intro f
  induction f with
  | zero =>
    intro s h h0 hf
    have h2 := credit_pos s.cfg.attempts (fun c hc => (h.cb c hc).2.1)
    have h3 : s.timers = [] := by
      apply List.eq_nil_of_length_eq_zero
      unfold turns at hf
      omega
    exact inv_goTo h til h0 h1 (fun t ht => by rw [h3] at ht; cases ht)
  | succ f ih =>
    intro s h h0 hf
    unfold advF
    cases ht : firstT s.timers with
    | none =>
      have h3 : s.timers = [] := firstT_none.1 ht
      exact inv_goTo h til h0 h1 (fun t ht => by rw [h3] at ht; cases ht)
    | some t =>
      dsimp only
      split
      · rename_i hlt
        exact inv_goTo h til h0 h1 (fun u hu => by have := first_due ht u hu; omega)
      · rename_i hlt
        have h4 := ring_turns h ht
        refine ih _ (inv_ring h ht) ?_ (by omega)
        have : (ringM (dueM s t) t).now = t.due := by
          obtain ⟨c, hc, e, hf', _⟩ := due_call h ht
          unfold ringM
          rw [hf']
          dsimp only
          unfold ringM1
          split
          · rfl
          · split
            · exact (setHedgeM_same _ _).2.1
            · split <;> rfl
        omega

def advM (s : PSt) (til : Int) : PSt := if til < s.now ∨ 1099511627776 < til then staleM s else (advF til (turns s).toNat s).1
def advA (s : PSt) (til : Int) : List RAct := if til < s.now ∨ 1099511627776 < til then [] else (advF til (turns s).toNat s).2
theorem inv_advM (h : Inv N s) (til : Int) : Inv N (advM s til) := by
  unfold advM
  split
  · exact inv_stale h
  · exact inv_adv til (by omega) _ s h (by omega) (by have := h.turns0; omega)

def stepM (s : PSt) (e : PEv) : PSt :=
  if e.kind = 1 then submitM s e else if e.kind = 2 ∨ e.kind = 3 ∨ e.kind = 4 then answerM s e else if e.kind = 5 then cancelM s e.call else if e.kind = 6 then advM s e.to_ else staleM s
def stepA (s : PSt) (e : PEv) : List RAct :=
  if e.kind = 1 then submitA s e else if e.kind = 2 ∨ e.kind = 3 ∨ e.kind = 4 then answerA s e else if e.kind = 5 then cancelA s e.call else if e.kind = 6 then advA s e.to_ else []
theorem inv_step (h : Inv N s) (e : PEv) : Inv (N + 1) (stepM s e) := by
  unfold stepM
  split
  · exact inv_submit h e
  · refine Inv.mono (N := N) ?_ (by omega)
    split
    · exact inv_answer h e
    · split
      · exact inv_cancel h _
      · split
        · exact inv_advM h _
        · exact inv_stale h
end
end Go.Proofs.YtlccfpbbdgpjbaaGreatDoor

namespace Go.Proofs.YtlccfpbbdgpjbaaGreatDoor

/-- How many of them are at or below k. -/
def cntLe (l : List Int) (k : Int) : Int := ((l.filter (fun x => decide (x ≤ k))).length : Int)
theorem cntLe_perm {l m : List Int} (h : l.Perm m) (k : Int) : cntLe l k = cntLe m k := by
  unfold cntLe
  rw [(h.filter _).length_eq]
theorem cntLe_le (l : List Int) (k : Int) : 0 ≤ cntLe l k ∧ cntLe l k ≤ (l.length : Int) := by
  unfold cntLe
  have := List.length_filter_le (fun x : Int => decide (x ≤ k)) l
  omega

theorem sorted_ge {l : List Int} (hs : l.Pairwise (· ≤ ·)) {i : Nat} (hi : i < l.length) : (i : Int) + 1 ≤ cntLe l l[i] := by
  have h1 : (l.take (i + 1)).filter (fun x => decide (x ≤ l[i])) = l.take (i + 1) := by
    rw [List.filter_eq_self]
    intro x hx
    obtain ⟨j, hj, rfl⟩ := List.getElem_of_mem hx
    rw [List.length_take] at hj
    rw [List.getElem_take]
    rw [List.pairwise_iff_getElem] at hs
    rcases Nat.lt_or_ge j i with h | h
    · have := hs j i (by omega) hi h
      simpa using this
    · have e : j = i := by omega
      subst e
      simp
  have h2 : ((l.take (i + 1)).filter (fun x => decide (x ≤ l[i]))).length ≤ (l.filter (fun x => decide (x ≤ l[i]))).length := ((List.take_sublist (i + 1) l).filter _).length_le
  rw [h1, List.length_take] at h2
  unfold cntLe
  omega
theorem sorted_lt {l : List Int} (hs : l.Pairwise (· ≤ ·)) {i : Nat} (hi : i < l.length) {k : Int} (hk : k < l[i]) : cntLe l k ≤ (i : Int) := by
  have h1 : (l.drop i).filter (fun x => decide (x ≤ k)) = [] := by
    rw [List.filter_eq_nil_iff]
    intro x hx
    obtain ⟨j, hj, rfl⟩ := List.getElem_of_mem hx
    rw [List.length_drop] at hj
    rw [List.getElem_drop]
    rw [List.pairwise_iff_getElem] at hs
    have : l[i] ≤ l[i + j] := by
      rcases Nat.eq_zero_or_pos j with h | h
      · subst h; simp
      · exact hs i (i + j) hi (by omega) (by omega)
    simp only [decide_eq_true_eq]
    omega
  have h2 : l.filter (fun x => decide (x ≤ k)) = (l.take i).filter (fun x => decide (x ≤ k)) := by
    conv => lhs; rw [← List.take_append_drop i l]
    rw [List.filter_append, h1, List.append_nil]
  have h3 := List.length_filter_le (fun x : Int => decide (x ≤ k)) (l.take i)
  rw [List.length_take] at h3
  unfold cntLe
  rw [h2]
  omega
theorem ms_sorted (l : List Int) : l.mergeSort.Pairwise (· ≤ ·) := by
  have := List.pairwise_mergeSort (le := fun a b : Int => decide (a ≤ b)) (fun a b c h1 h2 => by simp only [decide_eq_true_eq] at *; omega) (fun a b => by simp only [Bool.or_eq_true, decide_eq_true_eq]; omega) l
  simpa using this
end Go.Proofs.YtlccfpbbdgpjbaaGreatDoor
