import Derived.Test.YtlccfpbbdgpjbaaGreatDoorZRef
import Derived.Test.YtlccfpbbdgpjbaaGreatDoorZModel
namespace Go.Proofs.YtlccfpbbdgpjbaaGreatDoor

/-- How many of the times are below t; how many are the same. -/
def belowT (l : List Int) (t : Int) : Int := ((l.filter (fun x => decide (x < t))).length : Int)
def sameT (l : List Int) (t : Int) : Int := ((l.filter (fun x => decide (x = t))).length : Int)
def kthR (n : Int) (rank : Int) : Int := if 0 < n * rank % 100 then n * rank / 100 + 1 else n * rank / 100
/-- The delay, as the document's answer finds it. -/
def delayR (times : List Int) (rank : Int) : Int :=
  match times.find? (fun t => decide (belowT times t < kthR times.length rank ∧ kthR times.length rank ≤ belowT times t + sameT times t)) with
  | none => 0
  | some t => topB t

/-- What launching does, but for the second attempt's timer. -/
def launch1 (s : St) (i : Nat) (x : RCall) : St :=
  { s with
    numbers := s.numbers + 1
    calls := s.calls.set i { x with had := x.had + 1 }
    atts := s.atts ++ [⟨s.numbers + 1, x.number, s.now⟩]
    out := s.out ++ [⟨1, x.number, s.numbers + 1, 0, 0, x.deadline - s.now⟩] }
def mayR (s : St) (x : RCall) : Bool := x.safe && (decide (x.had + 1 < s.cfg.attempts) && (decide (0 < s.cfg.samples) && decide (s.cfg.samples ≤ (s.times.length : Int))))
/-- The second attempt's timer; x: the call as it was ahead of the launch. -/
def hedgeR (s : St) (x : RCall) : St :=
  if mayR s x = true ∧ s.now + delayR s.times s.cfg.rank < x.deadline then { s with timers := s.timers ++ [⟨x.number, 1, s.now + delayR s.times s.cfg.rank⟩] } else s
def launchR (s : St) (i : Nat) (x : RCall) : St := hedgeR (launch1 s i x) x

/-- One attempt of the call that ends: it is stopped. -/
def endStep (call : Int) (s : St) (a : RAtt) : St :=
  if a.call = call then { s with out := s.out ++ [⟨2, call, a.number, 0, 0, 0⟩], atts := s.atts.filter (keepAtt a.number) } else s
def keepCall (number : Int) (c : RCall) : Bool := c.number != number
/-- A call's result. -/
def endS (s : St) (call outcome value : Int) : St :=
  let s1 := { s with out := s.out ++ [⟨3, call, 0, outcome, value, 0⟩] }
  let s2 := s.atts.foldl (endStep call) s1
  { s2 with timers := s2.timers.filter (keepTimer call 0 2), calls := s2.calls.filter (keepCall call) }

/-- Why a call is refused; 0: it is admitted. -/
def whyS (s : St) (e : PEv) : Int :=
  if ¬ (1 ≤ e.timeout ∧ e.timeout ≤ 10000) then 5
  else if 0 ≤ findI s.calls e.call then 6
  else if s.cfg.flight ≤ (s.calls.length : Int) then 7
  else if 1099511627776 < s.now + e.timeout then 8
  else 0
def refuseS (s : St) (e : PEv) : St := { s with out := s.out ++ [⟨4, e.call, 0, whyS s e, 0, 0⟩] }
/-- How many units a call brings. -/
def bringS (s : St) : Int := if s.cfg.cap - sumUnits s.fresh < s.cfg.deposit then s.cfg.cap - sumUnits s.fresh else s.cfg.deposit
def rNewCall (s : St) (e : PEv) : RCall := ⟨e.call, s.now + e.timeout, 0, s.cfg.base, e.safe⟩
/-- A call that is admitted, ahead of its first attempt. -/
def admitS (s : St) (e : PEv) : St :=
  { s with
    units := s.fresh ++ [⟨s.now, bringS s⟩]
    calls := s.calls ++ [rNewCall s e]
    timers := s.timers ++ [⟨e.call, 0, s.now + e.timeout⟩] }
def submitS (s : St) (e : PEv) : St := if whyS s e = 0 then launchR (admitS s e) s.calls.length (rNewCall s e) else refuseS s e

def isOpen (call : Int) (l : List RAtt) : Bool := l.any fun a => a.call == call
/-- The wait ahead of an attempt anew. -/
def waitS (s : St) (x : RCall) (draw : Int) : Int :=
  if s.cfg.most < s.cfg.base + draw % (3 * x.wait - s.cfg.base + 1) then s.cfg.most else s.cfg.base + draw % (3 * x.wait - s.cfg.base + 1)
/-- A Fail or a Nack of the call x, which stands at i, its attempt closed. -/
def lostS (s : St) (e : PEv) (i : Nat) (x : RCall) : St :=
  if e.kind = 3 ∧ x.safe = false then endS s x.number 2 0
  else if isOpen x.number s.atts = true then s
  else
    let s1 := { s with timers := s.timers.filter (keepTimer x.number 1 1) }
    if x.had < s.cfg.attempts ∧ s.now + waitS s x e.draw < x.deadline then
      { s1 with calls := s.calls.set i { x with wait := waitS s x e.draw }, timers := s1.timers ++ [⟨x.number, 2, s.now + waitS s x e.draw⟩] }
    else endS s1 x.number 2 0

/-- Which timer is due first, by its place and its time: i entries are passed by, b is the best of them. -/
def pickTo (til : Int) : List RTimer → Nat → Option (Nat × Int) → Option (Nat × Int)
  | [], _, b => b
  | t :: r, i, none => pickTo til r (i + 1) (if t.due ≤ til then some (i, t.due) else none)
  | t :: r, i, some (k, d) => pickTo til r (i + 1) (if t.due ≤ til ∧ t.due < d then some (i, t.due) else some (k, d))
def callAt (s : St) (call : Int) : RCall := (s.calls[(findI s.calls call).toNat]?).getD ⟨0, 0, 0, 0, false⟩
def launchS (s : St) (call : Int) : St := launchR s (findI s.calls call).toNat (callAt s call)
/-- A timer is taken away, at its time. -/
def rAdvA (s : St) (t : RTimer) : St := { s with now := t.due, timers := s.timers.filter (keepTimer t.call t.kind t.kind) }
/-- The units for it are taken, if there are as many. -/
def advB (s : St) : St := { s with units := if s.cfg.cost ≤ sumUnits s.fresh then takeU s.fresh s.cfg.cost else s.fresh }
/-- One timer, gone through at its time. -/
def adv1 (s : St) (t : RTimer) : St :=
  if t.kind = 0 then endS (rAdvA s t) t.call 3 0
  else if s.cfg.cost ≤ sumUnits (rAdvA s t).fresh then launchS (advB (rAdvA s t)) t.call
  else if t.kind = 2 then endS (advB (rAdvA s t)) t.call 2 0
  else advB (rAdvA s t)
def rAdvF (til : Int) : Nat → St → St
  | 0, s => { s with now := til }
  | f + 1, s =>
    match pickTo til s.timers 0 none with
    | none => { s with now := til }
    | some (k, _) => match s.timers[k]? with
      | none => { s with now := til }
      | some t => rAdvF til f (adv1 s t)
/-- How often a timer may still ring. -/
def creditR (k : Int) : List RCall → Int
  | [] => 0
  | c :: r => (k - c.had) + creditR k r
def turnsR (s : St) : Nat := (creditR s.cfg.attempts s.calls + s.timers.length).toNat

/-- The last of the attempts that has this number. -/
def attLast (n : Int) (l : List RAtt) : RAtt := l.foldl (fun x a => if a.number = n then a else x) ⟨0, 0, 0⟩
def addR (l : List Int) (t : Int) : List Int := if 32 < (l ++ [t]).length then (l ++ [t]).drop 1 else l ++ [t]
def closeS (s : St) (n : Int) : St := { s with atts := s.atts.filter (keepAtt n) }
def stepR0 (s : St) (e : PEv) : St :=
  if e.kind = 1 then submitS s e
  else if e.kind = 2 ∧ 0 < (attLast e.attempt s.atts).number then endS (closeS { s with times := addR s.times (s.now - (attLast e.attempt s.atts).at_) } (attLast e.attempt s.atts).number) (attLast e.attempt s.atts).call 1 e.value
  else if (e.kind = 3 ∨ e.kind = 4) ∧ 0 < (attLast e.attempt s.atts).number then lostS (closeS s (attLast e.attempt s.atts).number) e (findI s.calls (attLast e.attempt s.atts).call).toNat (callAt s (attLast e.attempt s.atts).call)
  else if e.kind = 5 ∧ 0 ≤ findI s.calls e.call then endS s e.call 4 0
  else if e.kind = 6 ∧ s.now ≤ e.to_ ∧ e.to_ ≤ 1099511627776 then rAdvF e.to_ (turnsR s) s
  else { s with stale := s.stale + 1 }
/-- Step of the document's answer. -/
def stepR (s : St) (e : PEv) : St := stepR0 { s with out := [] } e
end Go.Proofs.YtlccfpbbdgpjbaaGreatDoor

namespace Go.Proofs.YtlccfpbbdgpjbaaGreatDoor

def cR (c : PCall) : RCall := ⟨c.number, c.deadline, c.had, c.wait, c.safe⟩
def aR (a : Int × PAtt) : RAtt := ⟨a.1, a.2.call, a.2.launched⟩
def kR (k : Int) : Int := if k = 1 then 0 else if k = 3 then 1 else 2
def tR (t : PTimer) : RTimer := ⟨t.call, kR t.kind, t.due⟩
def uR (b : PB) : RUnits := ⟨b.came, b.units⟩
def posU (u : RUnits) : Bool := decide (0 < u.n)

/-- The program's client and the document's, side by side. -/
structure Sim (N : Int) (s : PSt) (r : St) : Prop where
  cfg : r.cfg = s.cfg
  now : r.now = s.now
  calls : r.calls = s.calls.map cR
  atts : r.atts = s.atts.map aR
  nums : r.numbers = s.launched
  timers : r.timers = s.timers.map tR
  units : r.fresh.filter posU = s.units.map uR
  times : r.times = s.times
  stale : r.stale = s.stale
  uo : UnitsOk r.units
  un : ∀ u ∈ r.units, u.at_ ≤ r.now
  us : r.units.Pairwise (fun a b => a.at_ ≤ b.at_)
  ul : (r.units.length : Int) ≤ N
  as_ : s.atts.Pairwise (fun a b => a.1 < b.1)
  ts : s.timers.Pairwise (fun a b => a.set < b.set)
  td : ∀ t ∈ s.timers, ∀ u ∈ s.timers, t.call = u.call → t.kind = 1 → u.kind = 1 → t.set = u.set

theorem sumU_cons (u : RUnits) (l : List RUnits) : sumUnits (u :: l) = u.n + sumUnits l := by
  have h : ∀ (m : List Int) (a : Int), m.foldl (· + ·) a = a + m.foldl (· + ·) 0 := by
    intro m
    induction m with
    | nil => intro a; simp
    | cons x q ih => intro a; rw [List.foldl_cons, List.foldl_cons, ih (a + x), ih (0 + x)]; omega
  unfold sumUnits
  rw [List.map_cons, List.foldl_cons, h]
  omega
theorem sumU_pos {l : List RUnits} (h : ∀ u ∈ l, 0 ≤ u.n) : sumUnits (l.filter posU) = sumUnits l := by
  induction l with
  | nil => rfl
  | cons u r ih =>
    have h1 := h u (by simp)
    have h2 := ih (fun x hx => h x (by simp [hx]))
    by_cases hp : posU u = true
    · rw [List.filter_cons_of_pos hp, sumU_cons, sumU_cons, h2]
    · rw [List.filter_cons_of_neg hp, sumU_cons, h2]
      unfold posU at hp
      simp at hp
      omega
theorem sumU_map (l : List PB) : sumUnits (l.map uR) = sumB l := by
  induction l with
  | nil => rfl
  | cons a r ih => rw [List.map_cons, sumU_cons, ih]; rfl

theorem takeU_sim : ∀ (l : List RUnits) (us : List PB) (n : Int), (∀ u ∈ l, 0 ≤ u.n) → l.filter posU = us.map uR → 0 < n → (takeU l n).filter posU = (takeB us n).map uR := by
  intro l
  induction l with
  | nil =>
    intro us n _ h _
    cases us with
    | nil => rfl
    | cons a r => simp at h
  | cons u r ih =>
    intro us n h0 h hn
    have hu := h0 u (by simp)
    have hr : ∀ x ∈ r, 0 ≤ x.n := fun x hx => h0 x (by simp [hx])
    by_cases hp : 0 < u.n
    · rw [List.filter_cons_of_pos (by simp [posU, hp])] at h
      cases us with
      | nil => simp at h
      | cons b q =>
        rw [List.map_cons, List.cons.injEq] at h
        obtain ⟨hb, hq⟩ := h
        have e1 : u.at_ = b.came := by rw [hb]; rfl
        have e2 : u.n = b.units := by rw [hb]; rfl
        unfold takeU takeB
        rw [if_neg (show ¬ n ≤ 0 by omega)]
        by_cases c1 : n < b.units
        · rw [if_pos c1, if_pos (by omega), List.filter_cons_of_pos (by simp [posU]; omega), hq, e1, e2]
          rfl
        · rw [if_neg c1]
          by_cases c2 : n = b.units
          · rw [if_pos (by omega), List.filter_cons_of_neg (by simp [posU]; omega), hq, c2]
            congr 1
            cases q <;> simp [takeB]
          · rw [if_neg (by omega), List.filter_cons_of_neg (by simp [posU]), e2]
            exact ih q _ hr hq (by omega)
    · rw [List.filter_cons_of_neg (by simp [posU]; omega)] at h
      have e0 : u.n = 0 := by omega
      unfold takeU
      rw [if_neg (by omega), List.filter_cons_of_neg (by simp [posU]), e0, Int.sub_zero]
      exact ih us n hr h hn
theorem takeU_at : ∀ (l : List RUnits) (n : Int), (takeU l n).map (·.at_) = l.map (·.at_) := by
  intro l
  induction l with
  | nil => intro n; rfl
  | cons u r ih =>
    intro n
    unfold takeU
    split
    · rfl
    · rw [List.map_cons, List.map_cons, ih]
theorem takeU_ok : ∀ (l : List RUnits) (n : Int), UnitsOk l → 0 ≤ n → UnitsOk (takeU l n) := by
  intro l
  induction l with
  | nil => intro n h _; exact h
  | cons u r ih =>
    intro n h hn
    obtain ⟨h1, h2, h3, h4⟩ := h u (by simp)
    have hr : UnitsOk r := fun x hx => h x (by simp [hx])
    unfold takeU
    split
    · intro x hx
      rcases List.mem_cons.1 hx with rfl | hx
      · exact ⟨h1, h2, by show 0 ≤ u.n - n; omega, by show u.n - n ≤ 1000; omega⟩
      · exact hr x hx
    · intro x hx
      rcases List.mem_cons.1 hx with rfl | hx
      · exact ⟨h1, h2, by show (0 : Int) ≤ 0; omega, by show (0 : Int) ≤ 1000; omega⟩
      · exact ih _ hr (by omega) x hx
theorem takeU_mem {l : List RUnits} {n : Int} {x : RUnits} (h : x ∈ takeU l n) : ∃ y ∈ l, y.at_ = x.at_ := by
  have : x.at_ ∈ (takeU l n).map (·.at_) := List.mem_map_of_mem h
  rw [takeU_at] at this
  obtain ⟨y, hy, e⟩ := List.mem_map.1 this
  exact ⟨y, hy, e⟩
theorem takeU_sorted {l : List RUnits} (n : Int) (h : l.Pairwise (fun a b => a.at_ ≤ b.at_)) : (takeU l n).Pairwise (fun a b => a.at_ ≤ b.at_) := by
  have h1 : (l.map (·.at_)).Pairwise (· ≤ ·) := List.pairwise_map.2 h
  rw [← takeU_at l n] at h1
  exact List.pairwise_map.1 h1
theorem takeU_len (l : List RUnits) (n : Int) : (takeU l n).length = l.length := by
  have := congrArg List.length (takeU_at l n)
  simpa using this

section
variable {N : Int} {s : PSt} {r : St}

theorem Sim.fo (h : Sim N s r) : ∀ u ∈ r.fresh, 0 ≤ u.n := fun u hu => (h.uo u (List.mem_filter.1 hu).1).2.2.1
theorem Sim.sum (h : Sim N s r) : sumUnits r.fresh = sumB s.units := by
  rw [← sumU_pos h.fo, h.units, sumU_map]
theorem Sim.mono (h : Sim N s r) {M : Int} (hM : N ≤ M) : Sim M s r := { h with ul := Int.le_trans h.ul hM }
theorem Sim.clear (h : Sim N s r) (o : List RAct) : Sim N s { r with out := o } := { h with }

/-- The units that are gone are left out. -/
theorem fresh_fresh (r : St) : { r with units := r.fresh }.fresh = r.fresh := by
  show (r.units.filter _).filter _ = r.units.filter _
  rw [List.filter_filter]
  congr 1
  funext u
  show (keepUnits _ _ u && keepUnits _ _ u) = _
  cases keepUnits r.now r.cfg.window u <;> rfl
theorem Sim.toFresh (h : Sim N s r) : Sim N s { r with units := r.fresh } :=
  { h with
    units := by rw [fresh_fresh]; exact h.units
    uo := fun u hu => h.uo u (List.mem_filter.1 hu).1
    un := fun u hu => h.un u (List.mem_filter.1 hu).1
    us := h.us.sublist List.filter_sublist
    ul := by
      have h1 : r.fresh.length ≤ r.units.length := List.length_filter_le _ _
      have := h.ul
      show (r.fresh.length : Int) ≤ N
      omega }

theorem filter_comm' {α : Type} (p q : α → Bool) (l : List α) : (l.filter p).filter q = (l.filter q).filter p := by
  rw [List.filter_filter, List.filter_filter]
  congr 1
  funext a
  exact Bool.and_comm _ _
theorem dw_filter {l : List PB} {t win : Int} (h : l.Pairwise (fun a b => a.came ≤ b.came)) : l.dropWhile (oldB t win) = l.filter (fun b => !(oldB t win b)) := by
  induction l with
  | nil => rfl
  | cons a q ih =>
    rw [List.pairwise_cons] at h
    rw [List.dropWhile_cons]
    by_cases ha : oldB t win a = true
    · rw [if_pos ha, List.filter_cons_of_neg (by simp [ha]), ih h.2]
    · rw [if_neg ha, List.filter_cons_of_pos (by simp [ha])]
      congr 1
      symm
      rw [List.filter_eq_self]
      intro b hb
      have h1 := h.1 b hb
      unfold oldB at ha ⊢
      simp at ha ⊢
      omega

/-- Time goes on. -/
theorem Sim.goTo (h : Sim N s r) (t : Int) (ht : s.now ≤ t) : Sim N (goToM s t) { r with now := t } := by
  have hn := h.now
  have hc := h.cfg
  have hus : s.units.Pairwise (fun a b => a.came ≤ b.came) := by
    have h1 : (s.units.map uR).Pairwise (fun a b => a.at_ ≤ b.at_) := by
      rw [← h.units]
      exact (h.us.sublist List.filter_sublist).sublist List.filter_sublist
    have h2 : s.units.Pairwise (fun a b => (uR a).at_ ≤ (uR b).at_) := (List.pairwise_map (f := uR) (R := fun a b => a.at_ ≤ b.at_)).1 h1
    exact h2
  exact
    { h with
      now := rfl
      units := by
        show (r.units.filter (keepUnits t r.cfg.window)).filter posU = (s.units.dropWhile (oldB t s.cfg.window)).map uR
        rw [dw_filter hus]
        have e1 : r.units.filter (keepUnits t r.cfg.window) = (r.units.filter (keepUnits r.now r.cfg.window)).filter (keepUnits t r.cfg.window) := by
          rw [List.filter_filter]
          congr 1
          funext u
          unfold keepUnits
          by_cases c : t - u.at_ < r.cfg.window
          · have : r.now - u.at_ < r.cfg.window := by omega
            simp [c, this]
          · simp [c]
        rw [e1, filter_comm']
        show (r.fresh.filter posU).filter _ = _
        rw [h.units, List.filter_map]
        congr 1
        congr 1
        funext b
        show keepUnits t r.cfg.window (uR b) = !(oldB t s.cfg.window b)
        unfold keepUnits oldB uR
        rw [hc]
        by_cases c : t - b.came < s.cfg.window
        · have c2 : ¬ s.cfg.window ≤ t - b.came := by omega
          simp [c, c2]
        · have c2 : s.cfg.window ≤ t - b.came := by omega
          simp [c, c2]
      un := fun u hu => by have := h.un u hu; show u.at_ ≤ t; omega }

/-- Units are taken. -/
theorem Sim.take (h : Sim N s r) (hc : 0 < s.cfg.cost) : Sim N (takeM s) (advB r) := by
  have hs := h.sum
  have hcf := h.cfg
  by_cases c : s.cfg.cost ≤ sumB s.units
  · have e1 : takeM s = { s with units := takeB s.units s.cfg.cost } := by unfold takeM; rw [if_pos c]
    have e2 : advB r = { r with units := takeU r.fresh s.cfg.cost } := by unfold advB; rw [hs, hcf, if_pos c, ← hcf]
    rw [e1, e2]
    have hf : ({ r with units := takeU r.fresh s.cfg.cost } : St).fresh = takeU r.fresh s.cfg.cost := by
      show (takeU r.fresh s.cfg.cost).filter _ = _
      rw [List.filter_eq_self]
      intro u hu
      obtain ⟨y, hy, e⟩ := takeU_mem hu
      have := (List.mem_filter.1 hy).2
      unfold keepUnits at this ⊢
      rw [← e]
      exact this
    have hT := h.toFresh
    exact
      { h with
        units := by rw [hf]; exact takeU_sim r.fresh s.units _ h.fo h.units hc
        uo := takeU_ok _ _ hT.uo (by omega)
        un := fun u hu => by
          obtain ⟨y, hy, e⟩ := takeU_mem hu
          have := hT.un y hy
          show u.at_ ≤ r.now
          rw [← e]
          exact this
        us := takeU_sorted _ hT.us
        ul := by
          show ((takeU r.fresh s.cfg.cost).length : Int) ≤ N
          rw [takeU_len]
          exact hT.ul }
  · have e1 : takeM s = s := by unfold takeM; rw [if_neg c]
    have e2 : advB r = { r with units := r.fresh } := by unfold advB; rw [hs, hcf, if_neg c, ← hcf]
    rw [e1, e2]
    exact h.toFresh
theorem Sim.paid (h : Sim N s r) : (r.cfg.cost ≤ sumUnits r.fresh) = (s.cfg.cost ≤ sumB s.units) := by rw [h.sum, h.cfg]

/-- Calls are found. -/
theorem findFrom_map : ∀ (l : List PCall) (n : Int) (k : Nat), (findFrom n (l.map cR) k = -1 ∧ ∀ c ∈ l, c.number ≠ n) ∨ ∃ i, ∃ h : i < l.length, findFrom n (l.map cR) k = ((k + i : Nat) : Int) ∧ l[i].number = n ∧ l.find? (fun c => c.number == n) = some l[i] := by
  intro l
  induction l with
  | nil => intro n k; exact .inl ⟨rfl, by simp⟩
  | cons a q ih =>
    intro n k
    rw [List.map_cons]
    unfold findFrom
    by_cases ha : a.number = n
    · right
      refine ⟨0, by simp, ?_, by simpa using ha, ?_⟩
      · rw [if_pos (show (cR a).number = n from ha)]; simp
      · rw [List.find?_cons_of_pos (by simpa using ha)]; rfl
    · rw [if_neg (show ¬ (cR a).number = n from ha)]
      rcases ih n (k + 1) with ⟨h1, h2⟩ | ⟨i, hi, h1, h2, h3⟩
      · exact .inl ⟨h1, fun c hc => (List.mem_cons.1 hc).elim (fun e => by rw [e]; exact ha) (h2 c)⟩
      · refine .inr ⟨i + 1, by simpa using hi, ?_, by simpa using h2, ?_⟩
        · rw [h1]; congr 1; omega
        · rw [List.find?_cons_of_neg (by simpa using ha), h3]; simp
theorem Sim.find (h : Sim N s r) (n : Int) : (findI r.calls n = -1 ∧ callOf s n = none) ∨ ∃ (i : Nat) (c : PCall) (hi : i < s.calls.length), findI r.calls n = (i : Int) ∧ s.calls[i] = c ∧ callOf s n = some c ∧ c.number = n ∧ i < r.calls.length ∧ r.calls[i]? = some (cR c) := by
  unfold findI
  rw [h.calls]
  rcases findFrom_map s.calls n 0 with ⟨h1, h2⟩ | ⟨i, hi, h1, h2, h3⟩
  · exact .inl ⟨h1, by unfold callOf; rw [List.find?_eq_none]; intro c hc; simpa using h2 c hc⟩
  · refine .inr ⟨i, s.calls[i], hi, by rw [h1]; congr 1; omega, rfl, h3, h2, by simpa using hi, ?_⟩
    rw [List.getElem?_map, List.getElem?_eq_getElem hi]; rfl
theorem Sim.callAt (h : Sim N s r) {n : Int} {c : PCall} (hc : callOf s n = some c) : callAt r n = cR c ∧ (cR c).number = n ∧ ∃ i : Nat, findI r.calls n = (i : Int) ∧ (findI r.calls n).toNat = i ∧ ∃ hi : i < s.calls.length, s.calls[i] = c := by
  rcases h.find n with ⟨_, h2⟩ | ⟨i, d, hi, h1, h2, h3, h4, h5, h6⟩
  · rw [hc] at h2; cases h2
  · rw [hc] at h3
    cases h3
    refine ⟨?_, h4, i, h1, by rw [h1]; rfl, hi, h2⟩
    unfold YtlccfpbbdgpjbaaGreatDoor.callAt
    rw [h1]
    show (r.calls[i]?).getD _ = _
    rw [h6]
    rfl

/-- A call that is open is changed in its place. -/
theorem set_upd {l : List PCall} {i : Nat} (hi : i < l.length) (hn : (l.map (·.number)).Nodup) (f : PCall → PCall) (x : RCall) (hx : x = cR (f l[i])) : (l.map cR).set i x = (updCall l[i].number f l).map cR := by
  subst hx
  apply List.ext_getElem
  · simp [updCall]
  · intro j h1 h2
    rw [List.length_set, List.length_map] at h1
    simp only [updCall, List.getElem_map, List.getElem_set]
    by_cases e : i = j
    · subst e
      rw [if_pos rfl, if_pos rfl]
    · rw [if_neg e]
      have : ¬ l[j].number = l[i].number := by
        intro e'
        have h3 := List.pairwise_iff_getElem.1 (List.pairwise_map.1 hn)
        rcases Nat.lt_or_gt_of_ne e with h4 | h4
        · exact h3 i j hi h1 h4 e'.symm
        · exact h3 j i h1 hi h4 e'
      rw [if_neg this]
end

section
variable {N : Int} {s : PSt} {r : St}

/-- What the stops of a call's end leave. -/
theorem endStep_fold (call : Int) : ∀ (l : List RAtt) (r : St), l.foldl (endStep call) r = { r with
    out := r.out ++ (l.filter (fun a => a.call == call)).map (fun a => (⟨2, call, a.number, 0, 0, 0⟩ : RAct))
    atts := r.atts.filter (fun a => !((l.filter (fun b => b.call == call)).any (fun b => b.number == a.number))) } := by
  intro l
  induction l with
  | nil =>
    intro r
    have h1 : r.atts.filter (fun _ => true) = r.atts := List.filter_eq_self.2 (fun _ _ => rfl)
    simp [h1]
  | cons a q ih =>
    intro r
    rw [List.foldl_cons, ih]
    unfold endStep
    by_cases ha : a.call = call
    · rw [if_pos ha, List.filter_cons_of_pos (by simpa using ha)]
      simp only [List.map_cons, List.any_cons, List.append_assoc, List.singleton_append, List.filter_filter]
      congr 1
      congr 1
      funext b
      show (_ && keepAtt a.number b) = _
      unfold keepAtt
      rw [show (b.number != a.number) = !(a.number == b.number) by rw [Bool.beq_comm]; rfl]
      cases (a.number == b.number) <;> simp
    · rw [if_neg ha, List.filter_cons_of_neg (by simpa using ha)]
theorem mergeSort_rising {l : List Int} (h : l.Pairwise (· < ·)) : l.mergeSort = l := by
  apply List.mergeSort_of_pairwise
  exact h.imp (fun {a b} hab => by simp only [decide_eq_true_eq]; omega)

theorem kR_cases (k : Int) (h : k = 1 ∨ k = 2 ∨ k = 3) : (k = 1 ∧ kR k = 0) ∨ (k = 2 ∧ kR k = 2) ∨ (k = 3 ∧ kR k = 1) := by
  rcases h with rfl | rfl | rfl <;> simp [kR]

/-- A call's end. -/
theorem Sim.fin {M : Int} (h : Sim N s r) (hI : Inv M s) (n o v : Int) : Sim N (finishM s n) (endS r n o v) ∧ (endS r n o v).out = r.out ++ finishA s n o v := by
  have hp : ∀ l : List (Int × PAtt), (l.map aR).filter (fun a => a.call == n) = (l.filter (fun a => a.2.call == n)).map aR := fun l => by rw [List.filter_map]; rfl
  have hatts : r.atts.filter (fun a => !((r.atts.filter (fun b => b.call == n)).any (fun b => b.number == a.number))) = (s.atts.filter (fun a => !(a.2.call == n))).map aR := by
    rw [h.atts, hp, List.filter_map]
    congr 1
    apply List.filter_congr
    intro a ha
    show (!_) = !_
    congr 1
    rw [Bool.eq_iff_iff, List.any_eq_true]
    constructor
    · rintro ⟨b, hb, e⟩
      obtain ⟨b', hb', rfl⟩ := List.mem_map.1 hb
      obtain ⟨h1, h2⟩ := List.mem_filter.1 hb'
      have e' : b'.1 = a.1 := by simpa [aR] using e
      have hnd : (s.atts.map (·.1)).Nodup := by
        apply List.pairwise_map.2
        exact h.as_.imp (fun {x y} hxy => by omega)
      have := nodup_inj (fun x : Int × PAtt => x.1) hnd h1 ha e'
      rw [← this]
      exact h2
    · intro e
      exact ⟨aR a, List.mem_map_of_mem (List.mem_filter.2 ⟨ha, e⟩), by simp⟩
  have htim : r.timers.filter (keepTimer n 0 2) = (s.timers.filter (stays n)).map tR := by
    rw [h.timers, List.filter_map]
    congr 1
    apply List.filter_congr
    intro t ht
    have hk := kR_cases t.kind (hI.tb t ht).2.2.1
    show ((tR t).call != n || decide ((tR t).kind < 0) || decide (2 < (tR t).kind)) = !(t.call == n)
    have h1 : decide ((tR t).kind < 0) = false := decide_eq_false (by show ¬ kR t.kind < 0; omega)
    have h2 : decide (2 < (tR t).kind) = false := decide_eq_false (by show ¬ 2 < kR t.kind; omega)
    rw [h1, h2]
    show (t.call != n || false || false) = _
    rw [Bool.or_false, Bool.or_false]
    rfl
  have hcal : r.calls.filter (keepCall n) = (s.calls.filter (fun c => c.number != n)).map cR := by
    rw [h.calls, List.filter_map]
    rfl
  have e0 : endS r n o v = { r with
      out := (r.out ++ [⟨3, n, 0, o, v, 0⟩]) ++ (r.atts.filter (fun a => a.call == n)).map (fun a => (⟨2, n, a.number, 0, 0, 0⟩ : RAct))
      atts := (s.atts.filter (fun a => !(a.2.call == n))).map aR
      timers := (s.timers.filter (stays n)).map tR
      calls := (s.calls.filter (fun c => c.number != n)).map cR } := by
    unfold endS
    dsimp only
    rw [endStep_fold]
    dsimp only
    rw [hatts, htim, hcal]
  rw [e0]
  refine ⟨{ h with calls := rfl, atts := rfl, timers := rfl, as_ := h.as_.sublist List.filter_sublist, ts := h.ts.sublist List.filter_sublist, td := fun t ht u hu => h.td t (List.mem_filter.1 ht).1 u (List.mem_filter.1 hu).1 }, ?_⟩
  show (r.out ++ _) ++ _ = r.out ++ finishA s n o v
  rw [List.append_assoc]
  congr 1
  unfold finishA
  rw [h.atts, hp, mergeSort_rising, List.map_map, List.map_map]
  · rfl
  · apply List.pairwise_map.2
    exact (h.as_.sublist List.filter_sublist)
end

theorem cnt_split (l : List Int) (t : Int) : belowT l t + sameT l t = cntLe l t := by
  unfold belowT sameT cntLe
  induction l with
  | nil => rfl
  | cons a q ih =>
    simp only [List.filter_cons]
    split <;> split <;> split <;> simp at * <;> omega
theorem below_cnt {l : List Int} {a b : Int} (h : a < b) : cntLe l a ≤ belowT l b := by
  unfold cntLe belowT
  have : (l.filter (fun x => decide (x ≤ a))).length ≤ (l.filter (fun x => decide (x < b))).length := by
    have e : l.filter (fun x => decide (x ≤ a)) = (l.filter (fun x => decide (x < b))).filter (fun x => decide (x ≤ a)) := by
      rw [List.filter_filter]
      apply List.filter_congr
      intro x _
      by_cases hx : x ≤ a
      · have h1 : x < b := by omega
        simp [hx, h1]
      · simp [hx]
    rw [e]
    exact List.length_filter_le _ _
  omega
theorem sorted_below {l : List Int} (hs : l.Pairwise (· ≤ ·)) {i : Nat} (hi : i < l.length) : belowT l l[i] ≤ (i : Int) := by
  have h := sorted_lt hs hi (k := l[i] - 1) (by omega)
  have e : belowT l l[i] = cntLe l (l[i] - 1) := by
    unfold belowT cntLe
    rw [List.filter_congr (q := fun x => decide (x ≤ l[i] - 1))]
    intro x _
    exact decide_eq_decide.2 (by omega)
  omega
theorem belowT_perm {l m : List Int} (h : l.Perm m) (k : Int) : belowT l k = belowT m k := by
  unfold belowT
  rw [(h.filter _).length_eq]
theorem kthR_eq (n rank : Int) : kthR n rank = (n * rank + 99) / 100 := by
  unfold kthR
  generalize n * rank = m
  split <;> omega
/-- The delay is the same one. -/
theorem delay_same {l : List Int} (h0 : 1 ≤ l.length) {rank : Int} (r0 : 1 ≤ rank) (r1 : rank ≤ 100) : delayR l rank = delayM l rank := by
  have hlen : l.mergeSort.length = l.length := List.length_mergeSort l
  have hm0 : (1 : Int) ≤ (l.length : Int) * rank := by
    have := Int.mul_le_mul (show (1 : Int) ≤ (l.length : Int) by omega) r0 (by omega) (by omega)
    omega
  have hm1 : (l.length : Int) * rank ≤ (l.length : Int) * 100 := Int.mul_le_mul_of_nonneg_left r1 (by omega)
  unfold delayR delayM placeM
  rw [kthR_eq]
  generalize (l.length : Int) * rank = m at hm0 hm1
  obtain ⟨p, hp⟩ : ∃ p : Nat, (p : Int) = (m + 99) / 100 - 1 := ⟨((m + 99) / 100 - 1).toNat, by omega⟩
  have hpl : p < l.mergeSort.length := by rw [hlen]; omega
  have hpt : ((m + 99) / 100 - 1).toNat = p := by omega
  have hk : (m + 99) / 100 = (p : Int) + 1 := by omega
  rw [hpt, List.getElem?_eq_getElem hpl, hk]
  have hP : l.mergeSort.Perm l := List.mergeSort_perm l _
  have hv := hP.mem_iff.1 (List.getElem_mem hpl)
  have h1 := sorted_ge (ms_sorted l) hpl
  have h2 := sorted_below (ms_sorted l) hpl
  rw [cntLe_perm hP] at h1
  rw [belowT_perm hP] at h2
  generalize l.mergeSort[p] = v at hv h1 h2
  show _ = topB v
  cases hf : l.find? (fun t => decide (belowT l t < (p : Int) + 1 ∧ (p : Int) + 1 ≤ belowT l t + sameT l t)) with
  | none =>
    have := List.find?_eq_none.1 hf v hv
    rw [cnt_split] at this
    simp at this
    omega
  | some t =>
    have ht := List.find?_some hf
    rw [cnt_split] at ht
    simp at ht
    show topB t = topB v
    congr 1
    rcases Int.lt_trichotomy t v with h | h | h
    · have := below_cnt (l := l) h
      omega
    · exact h
    · have := below_cnt (l := l) h
      omega

section
variable {N M : Int} {s : PSt} {r : St}

theorem Sim.addTimer (h : Sim N s r) (hI : Inv M s) (kind call due : Int) (hk : kind = 1 → ∀ t ∈ s.timers, t.call = call → t.kind ≠ 1) : Sim N (addTimer s kind call due) { r with timers := r.timers ++ [⟨call, kR kind, due⟩] } :=
  { h with
    timers := by
      show r.timers ++ _ = (s.timers ++ _).map tR
      rw [h.timers, List.map_append]
      rfl
    ts := by
      show (s.timers ++ [(⟨kind, call, due, s.set + 1⟩ : PTimer)]).Pairwise _
      rw [List.pairwise_append]
      refine ⟨h.ts, by simp, fun a ha b hb => ?_⟩
      obtain rfl : b = ⟨kind, call, due, s.set + 1⟩ := by simpa using hb
      have := (hI.tb a ha).2.2.2.2
      show a.set < s.set + 1
      omega
    td := fun t ht u hu e k1 k2 => by
      rcases List.mem_append.1 ht with h' | h' <;> rcases List.mem_append.1 hu with h'' | h''
      · exact h.td t h' u h'' e k1 k2
      · obtain rfl : u = ⟨kind, call, due, s.set + 1⟩ := by simpa using h''
        exact absurd k1 (hk k2 t h' e)
      · obtain rfl : t = ⟨kind, call, due, s.set + 1⟩ := by simpa using h'
        exact absurd k2 (hk k1 u h'' e.symm)
      · obtain rfl : t = ⟨kind, call, due, s.set + 1⟩ := by simpa using h'
        obtain rfl : u = ⟨kind, call, due, s.set + 1⟩ := by simpa using h''
        rfl }

/-- An attempt is launched. -/
theorem Sim.launch (h : Sim N s r) (hI : Inv M s) {c : PCall} {i : Nat} (hi : i < s.calls.length) (hc : s.calls[i] = c) (hh : c.had < s.cfg.attempts) (hu : ∀ t ∈ s.timers, t.call = c.number → t.kind = 1) :
    Sim N (launchM s c) (launchR r i (cR c)) ∧ (launchR r i (cR c)).out = r.out ++ launchA s c := by
  have hm : c ∈ s.calls := by rw [← hc]; exact List.getElem_mem _
  have h0 : Sim N (launch0 s c) (launch1 r i (cR c)) :=
    { h with
      calls := by
        show r.calls.set i _ = (updCall c.number hadUp s.calls).map cR
        rw [h.calls, ← hc]
        exact set_upd hi hI.nd hadUp _ rfl
      atts := by
        show r.atts ++ _ = (s.atts ++ _).map aR
        rw [h.atts, List.map_append, h.nums, h.now]
        rfl
      nums := by show r.numbers + 1 = s.launched + 1; rw [h.nums]
      as_ := by
        show (s.atts ++ [_]).Pairwise _
        rw [List.pairwise_append]
        refine ⟨h.as_, by simp, fun a ha b hb => ?_⟩
        obtain rfl : b = (s.launched + 1, ⟨c.number, s.now⟩) := by simpa using hb
        have := (hI.ab a ha).2.1
        show a.1 < s.launched + 1
        omega }
  have hI0 := inv_launch0 hI hm hh hu
  constructor
  · unfold launchM launchR setHedgeM hedgeR
    have hcf : (launch1 r i (cR c)).cfg = s.cfg := h.cfg
    have htm : (launch1 r i (cR c)).times = s.times := h.times
    have hnw : (launch1 r i (cR c)).now = s.now := h.now
    have e1 : mayR (launch1 r i (cR c)) (cR c) = mayHedgeM (launch0 s c) (hadUp c) := by
      unfold mayR mayHedgeM
      rw [hcf, htm]
      show (c.safe && (decide (c.had + 1 < s.cfg.attempts) && (decide (0 < s.cfg.samples) && decide (s.cfg.samples ≤ (s.times.length : Int))))) = (c.safe && (decide (0 < s.cfg.samples) && decide (s.cfg.samples ≤ (s.times.length : Int))) && decide (c.had + 1 < s.cfg.attempts))
      cases c.safe <;> cases decide (c.had + 1 < s.cfg.attempts) <;> simp
    by_cases hmay : mayHedgeM (launch0 s c) (hadUp c) = true
    · have hd : delayR (launch1 r i (cR c)).times (launch1 r i (cR c)).cfg.rank = delayM (launch0 s c).times (launch0 s c).cfg.rank := by
        rw [hcf, htm]
        have h2 := hmay
        unfold mayHedgeM at h2
        simp only [Bool.and_eq_true, decide_eq_true_eq] at h2
        have h3 : (0 : Int) < s.cfg.samples := h2.1.2.1
        have h4 : s.cfg.samples ≤ (s.times.length : Int) := h2.1.2.2
        exact delay_same (by omega) hI.cfg.r0 hI.cfg.r1
      have e9 : (launch1 r i (cR c)).now + delayM (launch0 s c).times (launch0 s c).cfg.rank = (launch0 s c).now + delayM (launch0 s c).times (launch0 s c).cfg.rank := by rw [hnw]; rfl
      rw [e1, hd, e9]
      by_cases c2 : (launch0 s c).now + delayM (launch0 s c).times (launch0 s c).cfg.rank < (hadUp c).deadline
      · rw [if_pos ⟨hmay, c2⟩, if_pos ⟨hmay, c2⟩]
        exact h0.addTimer hI0 3 c.number _ (fun e => by omega)
      · rw [if_neg (fun hx => c2 hx.2), if_neg (fun hx => c2 hx.2)]
        exact h0
    · rw [if_neg (fun hx => hmay hx.1), if_neg (fun hx => hmay (by rw [← e1]; exact hx.1))]
      exact h0
  · have : (launchR r i (cR c)).out = (launch1 r i (cR c)).out := by
      unfold launchR hedgeR
      split <;> rfl
    rw [this]
    show r.out ++ _ = r.out ++ launchA s c
    unfold launchA
    rw [h.nums, h.now]
    rfl
end

section
variable {N M : Int} {s : PSt} {r : St}

theorem Sim.why (h : Sim N s r) (e : PEv) : whyS r e = whyM s e := by
  unfold whyS whyM whyP
  have hl : r.calls.length = s.calls.length := by rw [h.calls, List.length_map]
  rw [h.cfg, h.now, hl]
  rcases h.find e.call with ⟨h1, h2⟩ | ⟨i, c, hi, h1, _, h2, _⟩
  · rw [h1, h2]
    by_cases c1 : 1 ≤ e.timeout ∧ e.timeout ≤ 10000
    · rw [if_neg (fun hx => hx c1), if_neg (show ¬ (e.timeout < 1 ∨ 10000 < e.timeout) by omega), if_neg (show ¬ (0 : Int) ≤ -1 by omega), if_neg (show ¬ (none : Option PCall).isSome = true by simp)]
    · rw [if_pos c1, if_pos (show e.timeout < 1 ∨ 10000 < e.timeout by omega)]
  · rw [h1, h2]
    by_cases c1 : 1 ≤ e.timeout ∧ e.timeout ≤ 10000
    · rw [if_neg (fun hx => hx c1), if_neg (show ¬ (e.timeout < 1 ∨ 10000 < e.timeout) by omega), if_pos (show (0 : Int) ≤ (i : Int) by omega), if_pos (show (some c).isSome = true by simp)]
    · rw [if_pos c1, if_pos (show e.timeout < 1 ∨ 10000 < e.timeout by omega)]

/-- A Submit. -/
theorem Sim.submit (h : Sim N s r) (hI : Inv M s) (e : PEv) : Sim (N + 1) (submitM s e) (submitS r e) ∧ (submitS r e).out = r.out ++ submitA s e := by
  have hw := h.why e
  unfold submitM submitS submitA
  rw [hw]
  by_cases c : whyM s e = 0
  · rw [if_pos c, if_pos c, if_pos c]
    obtain ⟨q1, q2, q3, q4⟩ := inv_admit0 hI e c
    have hcs := hI.cfg
    have hb : bringS r = bringN s.cfg.deposit s.cfg.cap s.units := by
      unfold bringS bringN
      rw [h.sum, h.cfg]
      split <;> omega
    have hus := hI.us
    have hb0 : 0 ≤ bringS r := by rw [hb]; unfold bringN; have := hcs.d0; omega
    have hb1 : bringS r ≤ 1000 := by rw [hb]; unfold bringN; have := hcs.d1; omega
    have hT := h.toFresh
    have hwin := hcs.w0
    have hkeep : keepUnits r.now r.cfg.window ⟨r.now, bringS r⟩ = true := by
      unfold keepUnits
      rw [h.cfg]
      simp
      omega
    have hff : r.fresh.filter (keepUnits r.now r.cfg.window) = r.fresh := fresh_fresh r
    have hnow := h.now
    have h1 : Sim (N + 1) (bringM { s with calls := s.calls ++ [newCall s e] }) { r with units := r.fresh ++ [⟨r.now, bringS r⟩], calls := r.calls ++ [rNewCall r e] } :=
      { h with
        calls := by
          show r.calls ++ _ = (s.calls ++ _).map cR
          rw [h.calls, List.map_append]
          unfold rNewCall newCall
          rw [h.now, h.cfg]
          rfl
        units := by
          show ((r.fresh ++ [(⟨r.now, bringS r⟩ : RUnits)]).filter (keepUnits r.now r.cfg.window)).filter posU = (if 0 < bringN s.cfg.deposit s.cfg.cap s.units then s.units ++ [⟨s.now, bringN s.cfg.deposit s.cfg.cap s.units⟩] else s.units).map uR
          rw [List.filter_append, hff, List.filter_cons_of_pos hkeep, List.filter_nil, List.filter_append, h.units]
          rw [← hb]
          by_cases c0 : 0 < bringS r
          · rw [if_pos c0, List.filter_cons_of_pos (by simpa [posU] using c0), List.map_append, hnow]
            rfl
          · rw [if_neg c0, List.filter_cons_of_neg (by simpa [posU] using c0)]
            simp
        uo := fun u hu => by
          rcases List.mem_append.1 hu with h' | h'
          · exact hT.uo u h'
          · obtain rfl : u = ⟨r.now, bringS r⟩ := by simpa using h'
            have := hI.n0
            have := hI.n1
            exact ⟨by show 0 ≤ r.now; omega, by show r.now ≤ _; omega, hb0, hb1⟩
        un := fun u hu => by
          rcases List.mem_append.1 hu with h' | h'
          · exact hT.un u h'
          · obtain rfl : u = ⟨r.now, bringS r⟩ := by simpa using h'
            exact Int.le_refl _
        us := by
          show (r.fresh ++ [(⟨r.now, bringS r⟩ : RUnits)]).Pairwise _
          rw [List.pairwise_append]
          refine ⟨hT.us, by simp, fun a ha b hb => ?_⟩
          obtain rfl : b = ⟨r.now, bringS r⟩ := by simpa using hb
          exact hT.un a ha
        ul := by
          have := hT.ul
          show ((r.fresh ++ [(⟨r.now, bringS r⟩ : RUnits)]).length : Int) ≤ N + 1
          rw [List.length_append]
          have h9 : (r.fresh.length : Int) ≤ N := this
          simp
          omega }
    have hb1' : Inv (M + 1) (bringM { s with calls := s.calls ++ [newCall s e] }) := inv_bring (inv_newCall hI e c)
    have h2 := h1.addTimer hb1' 1 e.call (s.now + e.timeout) (fun _ t ht k => by
      obtain ⟨d, hd, hx, _⟩ := hI.tc t ht
      exact absurd (hx.trans k) (whyM_none c d hd))
    have e1 : ({ ({ r with units := r.fresh ++ [⟨r.now, bringS r⟩], calls := r.calls ++ [rNewCall r e] } : St) with timers := r.timers ++ [⟨e.call, kR 1, s.now + e.timeout⟩] } : St) = admitS r e := by
      unfold admitS
      rw [h.now]
      rfl
    have h3 : Sim (N + 1) (admit0 s e) (admitS r e) := by
      rw [← e1]
      exact h2
    have hlen : r.calls.length = s.calls.length := by rw [h.calls, List.length_map]
    have e2 : rNewCall r e = cR (newCall s e) := by
      unfold rNewCall newCall cR
      rw [h.now, h.cfg]
    rw [hlen, e2]
    have hi : s.calls.length < (admit0 s e).calls.length := by
      show _ < (s.calls ++ [newCall s e]).length
      simp
    have hci : (admit0 s e).calls[s.calls.length] = newCall s e := by
      have h9 : (s.calls ++ [newCall s e])[s.calls.length]? = some (newCall s e) := by simp
      have h8 : (admit0 s e).calls[s.calls.length]? = some (newCall s e) := h9
      exact (List.getElem?_eq_some_iff.1 h8).2
    exact h3.launch q1 hi hci q3 q4
  · rw [if_neg c, if_neg c, if_neg c]
    refine ⟨(h.mono (by omega)).clear _, ?_⟩
    show r.out ++ [_] = _
    rw [hw]

theorem Sim.close (h : Sim N s r) (n : Int) : Sim N (closeM s n) (closeS r n) :=
  { h with
    atts := by
      show r.atts.filter (keepAtt n) = (s.atts.filter _).map aR
      rw [h.atts, List.filter_map]
      rfl
    as_ := h.as_.sublist List.filter_sublist }
theorem Sim.add (h : Sim N s r) (t : Int) (hl : s.times.length ≤ 32) : Sim N (addM s t) { r with times := addR r.times t } :=
  { h with
    times := by
      show addR r.times t = addT s.times t
      rw [h.times]
      unfold addR addT
      by_cases c : s.times.length = 32
      · rw [if_pos (by simp [c]), if_pos c, List.drop_append_of_le_length (by omega)]
      · rw [if_neg (by simp; omega), if_neg c] }

theorem Sim.last (h : Sim N s r) (hI : Inv M s) (n : Int) : (attOf s n = none ∧ (attLast n r.atts).number = 0) ∨ ∃ a : PAtt, attOf s n = some (n, a) ∧ attLast n r.atts = ⟨n, a.call, a.launched⟩ ∧ 0 < n := by
  have key : ∀ (l : List (Int × PAtt)) (x : RAtt), l.Pairwise (fun a b => a.1 < b.1) → (l.map aR).foldl (fun x a => if a.number = n then a else x) x = match l.find? (fun a => a.1 == n) with | none => x | some a => aR a := by
    intro l
    induction l with
    | nil => intro x _; rfl
    | cons a q ih =>
      intro x hp
      rw [List.pairwise_cons] at hp
      rw [List.map_cons, List.foldl_cons]
      by_cases ha : a.1 = n
      · rw [if_pos (show (aR a).number = n from ha), ih _ hp.2, List.find?_cons_of_pos (by simpa using ha)]
        have : q.find? (fun a => a.1 == n) = none := by
          rw [List.find?_eq_none]
          intro b hb
          have := hp.1 b hb
          simp
          omega
        rw [this]
      · rw [if_neg (show ¬ (aR a).number = n from ha), ih _ hp.2, List.find?_cons_of_neg (by simpa using ha)]
  have hk := key s.atts ⟨0, 0, 0⟩ h.as_
  unfold attLast
  rw [h.atts, hk]
  unfold attOf
  cases hf : s.atts.find? (fun a => a.1 == n) with
  | none => exact .inl ⟨rfl, rfl⟩
  | some x =>
    obtain ⟨m, a⟩ := x
    have hm : m = n := by simpa using List.find?_some hf
    subst hm
    have := (hI.ab _ (List.mem_of_find?_eq_some hf)).1
    exact .inr ⟨a, rfl, rfl, by omega⟩

/-- A Fail, or a Nack. -/
theorem Sim.wait (h : Sim N s r) (c : PCall) (draw : Int) :
    waitS r (cR c) draw = waitOf s c draw := by
  unfold waitS waitOf waitP
  rw [h.cfg]
  show (if s.cfg.most < s.cfg.base + draw % (3 * c.wait - s.cfg.base + 1) then s.cfg.most else s.cfg.base + draw % (3 * c.wait - s.cfg.base + 1)) = _
  split <;> omega
theorem Sim.open (h : Sim N s r) (n : Int) : isOpen n r.atts = true ↔ 0 < (openOf s n).length := by
  unfold isOpen openOf
  rw [h.atts, List.any_map, List.length_map, List.any_eq_true]
  constructor
  · rintro ⟨a, ha, e⟩
    exact List.length_pos_of_mem (List.mem_filter.2 ⟨ha, e⟩)
  · intro hl
    obtain ⟨a, ha⟩ := List.exists_mem_of_length_pos hl
    exact ⟨a, (List.mem_filter.1 ha).1, (List.mem_filter.1 ha).2⟩
theorem Sim.noHedge (h : Sim N s r) (hI : Inv M s) (n : Int) : Sim N (noHedge s n) { r with timers := r.timers.filter (keepTimer n 1 1) } :=
  { h with
    timers := by
      show r.timers.filter _ = (s.timers.filter (staysH n)).map tR
      rw [h.timers, List.filter_map]
      congr 1
      apply List.filter_congr
      intro t ht
      show (t.call != n || decide (kR t.kind < 1) || decide (1 < kR t.kind)) = !(t.call == n && t.kind == 3)
      rcases kR_cases t.kind (hI.tb t ht).2.2.1 with ⟨h1, h2⟩ | ⟨h1, h2⟩ | ⟨h1, h2⟩
      · rw [h2, h1]; simp
      · rw [h2, h1]; simp
      · rw [h2, h1]; simp
        rfl
    ts := h.ts.sublist List.filter_sublist
    td := fun t ht u hu => h.td t (List.mem_filter.1 ht).1 u (List.mem_filter.1 hu).1 }
theorem Sim.lost (h : Sim N s r) (hI : Inv M s) (e : PEv) {c : PCall} {i : Nat} (hi : i < s.calls.length) (hc : s.calls[i] = c) :
    Sim N (if e.kind = 3 ∧ c.safe = false then finishM s c.number else if 0 < (openOf s c.number).length then s else waitM s c e.draw) (lostS r e i (cR c)) ∧
    (lostS r e i (cR c)).out = r.out ++ (if e.kind = 3 ∧ c.safe = false then finishA s c.number 2 0 else if 0 < (openOf s c.number).length then [] else waitA s c e.draw) := by
  unfold lostS
  by_cases c1 : e.kind = 3 ∧ c.safe = false
  · rw [if_pos c1, if_pos c1, if_pos (show e.kind = 3 ∧ (cR c).safe = false from c1)]
    exact h.fin hI c.number 2 0
  · rw [if_neg c1, if_neg c1, if_neg (show ¬ (e.kind = 3 ∧ (cR c).safe = false) from c1)]
    by_cases c2 : 0 < (openOf s c.number).length
    · rw [if_pos c2, if_pos c2, if_pos (show isOpen (cR c).number r.atts = true from (h.open c.number).2 c2)]
      exact ⟨h, by simp⟩
    · rw [if_neg c2, if_neg c2, if_neg (show ¬ isOpen (cR c).number r.atts = true from fun hx => c2 ((h.open c.number).1 hx))]
      dsimp only
      have hH := h.noHedge hI c.number
      have hIH := inv_noHedge hI c.number
      rw [h.wait c]
      unfold waitM waitA
      by_cases c3 : overM s c e.draw
      · rw [if_pos c3, if_pos c3, if_neg (by
          rw [h.cfg, h.now]
          unfold overM at c3
          show ¬ (c.had < s.cfg.attempts ∧ s.now + waitOf s c e.draw < c.deadline)
          omega)]
        exact hH.fin hIH c.number 2 0
      · rw [if_neg c3, if_neg c3, if_pos (by
          rw [h.cfg, h.now]
          unfold overM at c3
          show c.had < s.cfg.attempts ∧ s.now + waitOf s c e.draw < c.deadline
          omega)]
        refine ⟨?_, by simp⟩
        unfold againM
        have h1 : Sim N { YtlccfpbbdgpjbaaGreatDoor.noHedge s c.number with calls := updCall c.number (waitUp (waitOf s c e.draw)) s.calls } { r with timers := r.timers.filter (keepTimer c.number 1 1), calls := r.calls.set i { cR c with wait := waitOf s c e.draw } } :=
          { hH with
            calls := by
              show r.calls.set i _ = (updCall c.number (waitUp (waitOf s c e.draw)) s.calls).map cR
              rw [h.calls, ← hc]
              exact set_upd hi hI.nd (waitUp (waitOf s s.calls[i] e.draw)) _ rfl }
        have hts : ∀ t ∈ (YtlccfpbbdgpjbaaGreatDoor.noHedge s c.number).timers, t.set ≤ s.set := fun t ht => (hI.tb t (List.mem_filter.1 ht).1).2.2.2.2
        have h2 : Sim N (YtlccfpbbdgpjbaaGreatDoor.addTimer { YtlccfpbbdgpjbaaGreatDoor.noHedge s c.number with calls := updCall c.number (waitUp (waitOf s c e.draw)) s.calls } 2 c.number (s.now + waitOf s c e.draw)) { ({ r with timers := r.timers.filter (keepTimer c.number 1 1), calls := r.calls.set i { cR c with wait := waitOf s c e.draw } } : St) with timers := r.timers.filter (keepTimer c.number 1 1) ++ [⟨c.number, kR 2, s.now + waitOf s c e.draw⟩] } := by
          have hb : ∀ t ∈ ({ YtlccfpbbdgpjbaaGreatDoor.noHedge s c.number with calls := updCall c.number (waitUp (waitOf s c e.draw)) s.calls } : PSt).timers, t.set ≤ s.set := hts
          exact
            { h1 with
              timers := by
                show r.timers.filter (keepTimer c.number 1 1) ++ _ = ((YtlccfpbbdgpjbaaGreatDoor.noHedge s c.number).timers ++ _).map tR
                rw [List.map_append, show r.timers.filter (keepTimer c.number 1 1) = _ from hH.timers]
                rfl
              ts := by
                show ((YtlccfpbbdgpjbaaGreatDoor.noHedge s c.number).timers ++ [(⟨2, c.number, s.now + waitOf s c e.draw, s.set + 1⟩ : PTimer)]).Pairwise _
                rw [List.pairwise_append]
                refine ⟨hH.ts, by simp, fun a ha b hb => ?_⟩
                obtain rfl : b = ⟨2, c.number, s.now + waitOf s c e.draw, s.set + 1⟩ := by simpa using hb
                have := hts a ha
                show a.set < s.set + 1
                omega
              td := fun t ht u hu ee k1 k2 => by
                rcases List.mem_append.1 ht with h' | h' <;> rcases List.mem_append.1 hu with h'' | h''
                · exact hH.td t h' u h'' ee k1 k2
                · have h9 : u.kind = 2 := by rw [List.mem_singleton.1 h'']
                  omega
                · have h9 : t.kind = 2 := by rw [List.mem_singleton.1 h']
                  omega
                · have h9 : t.kind = 2 := by rw [List.mem_singleton.1 h']
                  omega }
        have e9 : r.now + waitOf s c e.draw = s.now + waitOf s c e.draw := by rw [h.now]
        rw [e9]
        exact h2
end

/-- What pickTo picks. -/
structure Best (til : Int) (l : List RTimer) (n : Nat) (b : Option (Nat × Int)) : Prop where
  no : b = none → ∀ j t, j < n → l[j]? = some t → til < t.due
  at_ : ∀ k d, b = some (k, d) → ∃ t, l[k]? = some t ∧ t.due = d ∧ d ≤ til ∧ k < n
  le : ∀ k d, b = some (k, d) → ∀ j t, j < n → l[j]? = some t → d ≤ t.due
  lt : ∀ k d, b = some (k, d) → ∀ j t, j < k → l[j]? = some t → d < t.due
theorem pick_best (til : Int) (l : List RTimer) : ∀ (q : List RTimer) (n : Nat) (b : Option (Nat × Int)), q = l.drop n → n + q.length = l.length → Best til l n b → Best til l l.length (pickTo til q n b) := by
  intro q
  induction q with
  | nil =>
    intro n b _ hn h
    have : n = l.length := by simpa using hn
    subst this
    cases b <;> exact h
  | cons t q ih =>
    intro n b hq hn h
    have hlt : n < l.length := by rw [List.length_cons] at hn; omega
    rw [List.drop_eq_getElem_cons hlt] at hq
    have ht : l[n]? = some t := by rw [List.getElem?_eq_getElem hlt]; rw [List.cons.injEq] at hq; rw [hq.1]
    have hq' : q = l.drop (n + 1) := by rw [List.cons.injEq] at hq; exact hq.2
    have hn' : n + 1 + q.length = l.length := by rw [List.length_cons] at hn; omega
    have lift : ∀ {P : Nat → RTimer → Prop}, (∀ j u, j < n → l[j]? = some u → P j u) → P n t → ∀ j u, j < n + 1 → l[j]? = some u → P j u := fun h1 h2 j u hj hu => by
      by_cases e : j = n
      · subst e
        rw [ht] at hu
        cases hu
        exact h2
      · exact h1 j u (by omega) hu
    cases b with
    | none =>
      refine ih (n + 1) _ hq' hn' ?_
      have hno := h.no rfl
      split
      · rename_i hd
        refine ⟨fun e => (by cases e), fun k d e => ?_, fun k d e => ?_, fun k d e => ?_⟩
        · cases e
          exact ⟨t, ht, rfl, hd, by omega⟩
        · cases e
          exact lift (P := fun _ u => t.due ≤ u.due) (fun j u hj hu => by have := hno j u hj hu; omega) (Int.le_refl _)
        · cases e
          intro j u hj hu
          have := hno j u hj hu
          omega
      · rename_i hd
        refine ⟨fun _ => lift (P := fun _ u => til < u.due) hno (by omega), fun k d e => (by cases e), fun k d e => (by cases e), fun k d e => by cases e⟩
    | some kd =>
      obtain ⟨k0, d0⟩ := kd
      refine ih (n + 1) _ hq' hn' ?_
      obtain ⟨t0, g1, g2, g3, g4⟩ := h.at_ k0 d0 rfl
      have hle := h.le k0 d0 rfl
      have hl := h.lt k0 d0 rfl
      split
      · rename_i hd
        refine ⟨fun e => (by cases e), fun k d e => ?_, fun k d e => ?_, fun k d e => ?_⟩
        · cases e
          exact ⟨t, ht, rfl, hd.1, by omega⟩
        · cases e
          exact lift (P := fun _ u => t.due ≤ u.due) (fun j u hj hu => by have := hle j u hj hu; omega) (Int.le_refl _)
        · cases e
          intro j u hj hu
          have := hle j u hj hu
          omega
      · rename_i hd
        refine ⟨fun e => (by cases e), fun k d e => ?_, fun k d e => ?_, fun k d e => ?_⟩
        · cases e
          exact ⟨t0, g1, g2, g3, by omega⟩
        · cases e
          exact lift (P := fun _ u => d0 ≤ u.due) hle (by omega)
        · cases e
          exact hl
theorem pick_all (til : Int) (l : List RTimer) : Best til l l.length (pickTo til l 0 none) :=
  pick_best til l l 0 none rfl (by simp) ⟨fun _ j t hj => absurd hj (by omega), fun k d e => (by cases e), fun k d e => (by cases e), fun k d e => by cases e⟩

section
variable {N M : Int} {s : PSt} {r : St}

/-- The same timer is picked. -/
theorem Sim.pick (h : Sim N s r) (til : Int) : (pickTo til r.timers 0 none = none ∧ ∀ t, firstT s.timers = some t → til < t.due) ∨ ∃ k d t, pickTo til r.timers 0 none = some (k, d) ∧ r.timers[k]? = some (tR t) ∧ firstT s.timers = some t ∧ ¬ til < t.due := by
  have hb := pick_all til r.timers
  cases hp : pickTo til r.timers 0 none with
  | none =>
    left
    refine ⟨rfl, fun t ht => ?_⟩
    have hm := (firstT_some ht).1
    obtain ⟨j, hj, e⟩ := List.getElem_of_mem hm
    rw [hp] at hb
    have h1 : r.timers[j]? = some (tR t) := by rw [h.timers, List.getElem?_map, List.getElem?_eq_getElem hj, e]; rfl
    exact hb.no rfl j (tR t) (by rw [h.timers, List.length_map]; exact hj) h1
  | some kd =>
    obtain ⟨k, d⟩ := kd
    right
    rw [hp] at hb
    obtain ⟨t0, g1, g2, g3, g4⟩ := hb.at_ k d rfl
    have g1' := g1
    rw [h.timers, List.getElem?_map] at g1'
    cases hk : s.timers[k]? with
    | none => rw [hk] at g1'; cases g1'
    | some t =>
      rw [hk] at g1'
      have e0 : tR t = t0 := by simpa using g1'
      subst e0
      have hm : t ∈ s.timers := List.mem_of_getElem? hk
      cases hf : firstT s.timers with
      | none => rw [firstT_none.1 hf] at hm; cases hm
      | some u =>
        obtain ⟨hu, hmin⟩ := firstT_some hf
        obtain ⟨j, hj, e⟩ := List.getElem_of_mem hu
        have hju : r.timers[j]? = some (tR u) := by rw [h.timers, List.getElem?_map, List.getElem?_eq_getElem hj, e]; rfl
        have h1 : d ≤ u.due := hb.le k d rfl j (tR u) (by rw [h.timers, List.length_map]; exact hj) hju
        have h2 := hmin t hm
        have h3 : t.due = d := g2
        have hkl : k < s.timers.length := (List.getElem?_eq_some_iff.1 hk).1
        have hkt : s.timers[k] = t := (List.getElem?_eq_some_iff.1 hk).2
        have hjk : j = k := by
          rcases Nat.lt_trichotomy j k with hh | hh | hh
          · have : d < u.due := hb.lt k d rfl j (tR u) hh hju
            unfold PTimer.lt at h2
            omega
          · exact hh
          · have := List.pairwise_iff_getElem.1 h.ts k j hkl hj hh
            rw [hkt, e] at this
            unfold PTimer.lt at h2
            omega
        subst hjk
        have : u = t := by rw [← e, ← hkt]
        subst this
        exact ⟨j, d, u, rfl, g1, rfl, by omega⟩

/-- A timer is gone through at its time. -/
theorem Sim.adv1 (h : Sim N s r) (hI : Inv M s) {t : PTimer} (ht : firstT s.timers = some t) : Sim N (ringM (dueM s t) t) (adv1 r (tR t)) ∧ (adv1 r (tR t)).out = r.out ++ ringA (dueM s t) t := by
  have hm := (firstT_some ht).1
  have hkd := (hI.tb t hm).2.2.1
  have hkk := kR_cases t.kind hkd
  have hdue := (hI.tb t hm).1
  have hA : Sim N (dueM s t) (rAdvA r (tR t)) := by
    have h1 : Sim N (popM s t) { r with timers := r.timers.filter (keepTimer t.call (kR t.kind) (kR t.kind)) } :=
      { h with
        timers := by
          show r.timers.filter _ = (s.timers.filter _).map tR
          rw [h.timers, List.filter_map]
          congr 1
          apply List.filter_congr
          intro u hu
          show (u.call != t.call || decide (kR u.kind < kR t.kind) || decide (kR t.kind < kR u.kind)) = (u.set != t.set)
          have huk := kR_cases u.kind (hI.tb u hu).2.2.1
          by_cases e : u.set = t.set
          · have : u = t := nodup_inj (fun t : PTimer => t.set) hI.ts hu hm e
            subst this
            simp
          · have e2 : (u.set != t.set) = true := by simpa using e
            rw [e2]
            by_cases e3 : u.call = t.call
            · have e4 : kR u.kind ≠ kR t.kind := by
                intro e5
                have e6 : u.kind = t.kind := by omega
                by_cases k1 : t.kind = 1
                · exact e (h.td u hu t hm e3 (by omega) k1)
                · exact e (hI.tu u hu t hm e3 (by omega) k1)
              by_cases e7 : kR u.kind < kR t.kind
              · simp [e7]
              · have e8 : kR t.kind < kR u.kind := by omega
                simp [e8]
            · have : (u.call != t.call) = true := by simpa using e3
              rw [this]
              rfl
        ts := h.ts.sublist List.filter_sublist
        td := fun a ha b hb => h.td a (List.mem_filter.1 ha).1 b (List.mem_filter.1 hb).1 }
    exact h1.goTo t.due hdue
  obtain ⟨c, hc, e, hf, r1, r2, r3⟩ := due_call hI ht
  have hd := inv_due hI ht
  obtain ⟨q1, q2, i, q3, q4, hi, q5⟩ := hA.callAt hf
  unfold YtlccfpbbdgpjbaaGreatDoor.adv1 ringM ringA
  rw [hf]
  dsimp only
  unfold ringM1 ringA1
  have e' : (tR t).call = c.number := e.symm
  by_cases k1 : t.kind = 1
  · rw [if_pos k1, if_pos k1, if_pos (show (tR t).kind = 0 by show kR t.kind = 0; omega), e']
    exact hA.fin hd c.number 3 0
  · rw [if_neg k1, if_neg k1, if_neg (show ¬ (tR t).kind = 0 by show ¬ kR t.kind = 0; omega)]
    have hp : (r.cfg.cost ≤ sumUnits (rAdvA r (tR t)).fresh) = ((dueM s t).cfg.cost ≤ sumB (dueM s t).units) := hA.paid
    have hT := hA.take (by have := hI.cfg.c0; show 0 < s.cfg.cost; omega)
    by_cases c1 : (dueM s t).cfg.cost ≤ sumB (dueM s t).units
    · rw [if_pos c1, if_pos c1, if_pos (show r.cfg.cost ≤ sumUnits (rAdvA r (tR t)).fresh by rw [hp]; exact c1)]
      unfold launchS
      have e3 : YtlccfpbbdgpjbaaGreatDoor.callAt (advB (rAdvA r (tR t))) (tR t).call = cR c := q1
      have e4 : (findI (advB (rAdvA r (tR t))).calls (tR t).call).toNat = i := q4
      rw [e3, e4]
      exact hT.launch (inv_take hd) hi q5 (r1 k1).1 (r3 k1)
    · rw [if_neg c1, if_neg c1, if_neg (show ¬ r.cfg.cost ≤ sumUnits (rAdvA r (tR t)).fresh by rw [hp]; exact c1)]
      by_cases k3 : t.kind = 3
      · rw [if_pos k3, if_pos k3, if_neg (show ¬ (tR t).kind = 2 by show ¬ kR t.kind = 2; omega)]
        exact ⟨hT, by show r.out = r.out ++ []; simp⟩
      · rw [if_neg k3, if_neg k3, if_pos (show (tR t).kind = 2 by show kR t.kind = 2; omega), e']
        exact hT.fin (inv_take hd) c.number 2 0

theorem Sim.turnsEq (h : Sim N s r) : turnsR r = (turns s).toNat := by
  unfold turnsR turns
  rw [h.timers, List.length_map, h.calls, h.cfg]
  congr 2
  generalize s.calls = l
  induction l with
  | nil => rfl
  | cons a q ih => rw [List.map_cons]; unfold creditR credit; rw [ih]; rfl

theorem Sim.adv (til : Int) : ∀ (f : Nat) (s : PSt) (r : St), Sim N s r → Inv M s → s.now ≤ til → turns s ≤ f → Sim N (YtlccfpbbdgpjbaaGreatDoor.advF til f s).1 (rAdvF til f r) ∧ (rAdvF til f r).out = r.out ++ (YtlccfpbbdgpjbaaGreatDoor.advF til f s).2 := by
  intro f
  induction f with
  | zero =>
    intro s r h hI h0 _
    exact ⟨h.goTo til h0, by show r.out = r.out ++ []; simp⟩
  | succ f ih =>
    intro s r h hI h0 hf
    unfold YtlccfpbbdgpjbaaGreatDoor.advF rAdvF
    rcases h.pick til with ⟨h1, h2⟩ | ⟨k, d, t, h1, h2, h3, h4⟩
    · rw [h1]
      dsimp only
      cases hft : firstT s.timers with
      | none => exact ⟨h.goTo til h0, by show r.out = r.out ++ []; simp⟩
      | some t =>
        dsimp only
        rw [if_pos (h2 t hft)]
        exact ⟨h.goTo til h0, by show r.out = r.out ++ []; simp⟩
    · rw [h1, h3]
      dsimp only
      rw [h2, if_neg h4]
      dsimp only
      obtain ⟨a1, a2⟩ := h.adv1 hI h3
      have ht := ring_turns hI h3
      have hnow : (ringM (dueM s t) t).now = t.due := by
        obtain ⟨c, hc, e, hf', _⟩ := due_call hI h3
        unfold ringM
        rw [hf']
        dsimp only
        unfold ringM1
        split
        · rfl
        · split
          · exact (setHedgeM_same _ _).2.1
          · split <;> rfl
      obtain ⟨b1, b2⟩ := ih _ _ a1 (inv_ring hI h3) (by omega) (by omega)
      exact ⟨b1, by rw [b2, a2, List.append_assoc]⟩

/-- Step of both. -/
theorem sim_step (h : Sim N s r) (hI : Inv M s) (e : PEv) : Sim (N + 1) (stepM s e) (stepR r e) ∧ (stepR r e).out = stepA s e := by
  have h0 : Sim N s { r with out := [] } := h.clear []
  unfold stepR
  generalize hr0 : ({ r with out := [] } : St) = r0 at h0
  have ho : r0.out = [] := by rw [← hr0]
  have fin : ∀ {s' : PSt} {r' : St} {l : List RAct}, Sim N s' r' ∧ r'.out = r0.out ++ l → Sim (N + 1) s' r' ∧ r'.out = l := fun ⟨a, b⟩ => ⟨a.mono (by omega), by rw [b, ho]; rfl⟩
  unfold stepM stepA stepR0
  by_cases k1 : e.kind = 1
  · rw [if_pos k1, if_pos k1, if_pos k1]
    obtain ⟨a, b⟩ := h0.submit hI e
    exact ⟨a, by rw [b, ho]; rfl⟩
  · rw [if_neg k1, if_neg k1, if_neg k1]
    have hst : Sim N (staleM s) { r0 with stale := r0.stale + 1 } ∧ ({ r0 with stale := r0.stale + 1 } : St).out = r0.out ++ [] :=
      ⟨{ h0 with stale := by show r0.stale + 1 = s.stale + 1; rw [h0.stale] }, by simp⟩
    by_cases k2 : e.kind = 2 ∨ e.kind = 3 ∨ e.kind = 4
    · rw [if_pos k2, if_pos k2]
      apply fin
      rcases h0.last hI e.attempt with ⟨h1, h2⟩ | ⟨a, h1, h2, h3⟩
      · rw [if_neg (show ¬ (e.kind = 2 ∧ 0 < (attLast e.attempt r0.atts).number) by omega), if_neg (show ¬ ((e.kind = 3 ∨ e.kind = 4) ∧ 0 < (attLast e.attempt r0.atts).number) by omega), if_neg (show ¬ (e.kind = 5 ∧ 0 ≤ findI r0.calls e.call) by omega), if_neg (show ¬ (e.kind = 6 ∧ r0.now ≤ e.to_ ∧ e.to_ ≤ 1099511627776) by omega)]
        unfold answerM answerA
        rw [h1]
        exact hst
      · obtain ⟨_, _, _, hle, c, hc, hn⟩ := hI.ab _ (List.mem_of_find?_eq_some h1)
        have hcf := hI.find hc
        have hn' : c.number = a.call := hn
        rw [hn'] at hcf
        unfold answerM answerA
        rw [h1]
        dsimp only
        rw [hcf]
        dsimp only
        unfold answerM1 answerA1
        rw [h2]
        dsimp only
        have hcl := h0.close e.attempt
        have hIc := inv_close hI e.attempt
        by_cases k3 : e.kind = 2
        · rw [if_pos k3, if_pos k3, if_pos ⟨k3, h3⟩, ← hn']
          have h4 := hcl.add (s.now - a.launched) hI.mt
          have hIa : Inv M (addM (closeM s e.attempt) (s.now - a.launched)) := inv_add hIc _ (by have := hle; dsimp only at this; omega) (by have := hI.n1; have := (hI.ab _ (List.mem_of_find?_eq_some h1)).2.2.1; dsimp only at this; omega)
          have h5 := h4.fin hIa c.number 1 e.value
          have e5 : closeS { r0 with times := addR r0.times (r0.now - a.launched) } e.attempt = { closeS r0 e.attempt with times := addR (closeS r0 e.attempt).times (s.now - a.launched) } := by
            unfold closeS
            rw [h0.now]
          rw [e5]
          exact h5
        · rw [if_neg k3, if_neg k3, if_neg (show ¬ (e.kind = 2 ∧ 0 < e.attempt) from fun hx => k3 hx.1), if_pos (show (e.kind = 3 ∨ e.kind = 4) ∧ 0 < e.attempt from ⟨by omega, h3⟩)]
          obtain ⟨q1, q2, i, q3, q4, hi, q5⟩ := h0.callAt hcf
          rw [q1, q4]
          exact hcl.lost hIc e hi q5
    · rw [if_neg k2, if_neg k2, if_neg (show ¬ (e.kind = 2 ∧ 0 < (attLast e.attempt r0.atts).number) from fun hx => k2 (.inl hx.1)), if_neg (show ¬ ((e.kind = 3 ∨ e.kind = 4) ∧ 0 < (attLast e.attempt r0.atts).number) from fun hx => k2 (.inr hx.1))]
      apply fin
      by_cases k5 : e.kind = 5
      · rw [if_pos k5, if_pos k5, if_neg (show ¬ (e.kind = 6 ∧ r0.now ≤ e.to_ ∧ e.to_ ≤ 1099511627776) from fun hx => by have := hx.1; omega)]
        unfold cancelM cancelA
        rcases h0.find e.call with ⟨h1, h2⟩ | ⟨i, c, hi, h1, _, h2, h3, _⟩
        · rw [h1, h2, if_neg (show ¬ (e.kind = 5 ∧ (0 : Int) ≤ -1) by omega), if_neg (show ¬ (none : Option PCall).isSome = true by simp), if_neg (show ¬ (none : Option PCall).isSome = true by simp)]
          exact hst
        · rw [h1, h2, if_pos (show e.kind = 5 ∧ (0 : Int) ≤ (i : Int) by omega), if_pos (show (some c).isSome = true by simp), if_pos (show (some c).isSome = true by simp)]
          exact h0.fin hI e.call 4 0
      · rw [if_neg k5, if_neg k5, if_neg (show ¬ (e.kind = 5 ∧ 0 ≤ findI r0.calls e.call) from fun hx => k5 hx.1)]
        by_cases k6 : e.kind = 6
        · rw [if_pos k6, if_pos k6]
          unfold advM YtlccfpbbdgpjbaaGreatDoor.advA
          have hnow := h0.now
          by_cases c1 : e.to_ < s.now ∨ 1099511627776 < e.to_
          · rw [if_pos c1, if_pos c1, if_neg (fun hx => by omega)]
            exact hst
          · rw [if_neg c1, if_neg c1, if_pos ⟨k6, by omega, by omega⟩, h0.turnsEq]
            exact Sim.adv e.to_ _ s r0 h0 hI (by omega) (by have := hI.turns0; omega)
        · rw [if_neg k6, if_neg k6, if_neg (show ¬ (e.kind = 6 ∧ r0.now ≤ e.to_ ∧ e.to_ ≤ 1099511627776) from fun hx => k6 hx.1)]
          exact hst
end
end Go.Proofs.YtlccfpbbdgpjbaaGreatDoor
