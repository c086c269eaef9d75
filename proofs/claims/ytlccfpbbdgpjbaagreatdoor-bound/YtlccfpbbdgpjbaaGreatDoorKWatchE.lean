import Derived.Test.YtlccfpbbdgpjbaaGreatDoorKWatchM
namespace Go.Proofs.YtlccfpbbdgpjbaaGreatDoor

section
variable {Bd : PSt → List Int → List Int → Prop} {N : Int} {s : PSt} {W : WSt}

theorem ring_now (h : Inv N s) {t : PTimer} (ht : firstT s.timers = some t) : (ringM (dueM s t) t).now = t.due ∧ (ringM (dueM s t) t).cfg = s.cfg := by
  obtain ⟨c, hc, e, hf', _⟩ := due_call h ht
  unfold ringM
  rw [hf']
  dsimp only
  unfold ringM1
  split
  · exact ⟨rfl, rfl⟩
  · split
    · exact ⟨(setHedgeM_same _ _).2.1, (setHedgeM_same _ _).1⟩
    · split <;> exact ⟨rfl, rfl⟩

theorem rel_adv (K : Keeps Bd) (til : Int) (_h1 : til ≤ 1099511627776) : ∀ (f : Nat) (s : PSt) (W : WSt), Inv N s → Held Bd s W → s.now ≤ til → turns s ≤ f →
    ∃ W', Run s.cfg.attempts true til W (advF til f s).2 W' ∧ Held Bd (advF til f s).1 { W' with now := til } ∧ W'.now ≤ til ∧ (advF til f s).1.now = til ∧ ∀ t ∈ (advF til f s).1.timers, til < t.due := by
  have hstop : ∀ (s : PSt) (W : WSt), Inv N s → Held Bd s W → s.now ≤ til → (∀ t ∈ s.timers, til < t.due) →
      ∃ W', Run s.cfg.attempts true til W [] W' ∧ Held Bd (goToM s til) { W' with now := til } ∧ W'.now ≤ til ∧ (goToM s til).now = til ∧ ∀ t ∈ (goToM s til).timers, til < t.due := fun s W hI H h0 ht =>
    ⟨W, .nil _, ⟨⟨Int.le_refl _, H.rel.co, H.rel.oc, H.rel.un, H.rel.al, H.rel.ao, H.rel.oa⟩, ⟨H.i2.hs, H.i2.dl, H.i2.an, H.i2.u1⟩, K.go til H.bd hI h0⟩, Int.le_trans H.rel.nw h0, rfl, ht⟩
  intro f
  induction f with
  | zero =>
    intro s W hI H h0 hf
    have h2 := credit_pos s.cfg.attempts (fun c hc => (hI.cb c hc).2.1)
    have h3 : s.timers = [] := by
      apply List.eq_nil_of_length_eq_zero
      unfold turns at hf
      omega
    exact hstop s W hI H h0 (fun t ht => by rw [h3] at ht; cases ht)
  | succ f ih =>
    intro s W hI H h0 hf
    unfold advF
    cases ht : firstT s.timers with
    | none =>
      have h3 : s.timers = [] := firstT_none.1 ht
      exact hstop s W hI H h0 (fun t ht => by rw [h3] at ht; cases ht)
    | some t =>
      dsimp only
      by_cases hlt : til < t.due
      · rw [if_pos hlt]
        exact hstop s W hI H h0 (fun u hu => by have := first_due ht u hu; omega)
      · rw [if_neg hlt]
        have h4 := ring_turns hI ht
        obtain ⟨e1, e2⟩ := ring_now hI ht
        obtain ⟨W1, q1, q2⟩ := rel_ring K hI H ht (til := til) (by omega)
        obtain ⟨W2, p1, p2, p3, p4, p5⟩ := ih _ W1 (inv_ring hI ht) q2 (by omega) (by omega)
        rw [e2] at p1
        exact ⟨W2, q1.append p1, p2, p3, p4, p5⟩

/-- An answer of an open attempt is marked ahead. -/
inductive Mark (W : WSt) (e : PEv) : WSt → Prop
  | no (h : ¬ ((e.kind = 2 ∨ e.kind = 3 ∨ e.kind = 4) ∧ ∃ (m : Nat) (x : WAtt), e.attempt = (m : Int) + 1 ∧ W.atts[m]? = some x ∧ x.opn = true)) : Mark W e W
  | yes (m : Nat) (x : WAtt) (k : WCall) (hk : e.kind = 2 ∨ e.kind = 3 ∨ e.kind = 4) (he : e.attempt = (m : Int) + 1) (hx : W.atts[m]? = some x) (ho : x.opn = true) (hc : W.calls[x.call]? = some k) :
      Mark W e { W with atts := W.atts.set m { x with opn := false }, calls := W.calls.set x.call { k with answered := k.answered || e.kind != 4 } }

/-- What holds between two events. -/
structure Kept (Bd : PSt → List Int → List Int → Prop) (s : PSt) (W : WSt) : Prop where
  held : Held Bd s W
  nw : W.now = s.now
  dl : ∀ c ∈ s.calls, s.now < c.deadline

/-- w.now at the end of an event. -/
def endNow (e : PEv) (W : WSt) : WSt := { W with now := if e.kind = 6 ∧ W.now ≤ e.to_ ∧ e.to_ ≤ 1099511627776 then e.to_ else W.now }

theorem kept_stale (K : Keeps Bd) (H : Kept Bd s W) : Kept Bd (staleM s) W :=
  ⟨⟨H.held.rel.of rfl rfl rfl (Int.le_refl _), ⟨H.held.i2.hs, H.held.i2.dl, H.held.i2.an, H.held.i2.u1⟩, K.same H.held.bd rfl rfl rfl⟩, H.nw, H.dl⟩

theorem kept_adv (K : Keeps Bd) (hI : Inv N s) (H : Kept Bd s W) (e : PEv) (hk : e.kind = 6) :
    ∃ W2, Run s.cfg.attempts true e.to_ W (stepA s e) W2 ∧ Kept Bd (stepM s e) (endNow e W2) := by
  have eA : stepA s e = advA s e.to_ := by unfold stepA; rw [hk]; rfl
  have eM : stepM s e = advM s e.to_ := by unfold stepM; rw [hk]; rfl
  rw [eA, eM]
  unfold advA advM
  by_cases hst : e.to_ < s.now ∨ 1099511627776 < e.to_
  · rw [if_pos hst, if_pos hst]
    refine ⟨W, .nil _, ?_⟩
    have : endNow e W = W := by
      unfold endNow
      rw [if_neg (by have := H.nw; omega)]
    rw [this]
    exact kept_stale K H
  · rw [if_neg hst, if_neg hst]
    have h0 : s.now ≤ e.to_ := by omega
    have h1 : e.to_ ≤ 1099511627776 := by omega
    have ht0 := hI.turns0
    obtain ⟨W2, p1, p2, p3, p4, p5⟩ := rel_adv K e.to_ h1 (turns s).toNat s W hI H.held h0 (by omega)
    refine ⟨W2, p1, ?_⟩
    have : endNow e W2 = { W2 with now := e.to_ } := by
      unfold endNow
      rw [if_pos ⟨hk, p3, h1⟩]
    rw [this]
    refine ⟨p2, p4.symm, fun c hc => ?_⟩
    have hI2 := inv_adv e.to_ h1 (turns s).toNat s hI h0 (by omega)
    obtain ⟨t, ht, k1, k2⟩ := p2.i2.dl c hc
    obtain ⟨d, hd, e1, _, e3⟩ := hI2.tc t ht
    have hdc := hI2.same hd hc (by rw [e1, k2])
    subst hdc
    rw [p4, ← e3 k1]
    exact p5 t ht
end

section
variable {Bd : PSt → List Int → List Int → Prop} {N : Int} {s : PSt} {W : WSt}

theorem rel_close (h : Rel s W) {m : Nat} {x : WAtt} {k : WCall} (_hx : W.atts[m]? = some x) {n : Int} (hn : n = (m : Int) + 1) {call : Int} (hA : At W call x.call k) (b : Bool) :
    RelX (fun z => z = call ∧ b = true) (closeM s n) { W with atts := W.atts.set m { x with opn := false }, calls := W.calls.set x.call { k with answered := k.answered || b } } := by
  have hAt : ∀ {z j l}, At W z j l → ∃ l', At { W with atts := W.atts.set m { x with opn := false }, calls := W.calls.set x.call { k with answered := k.answered || b } } z j l' ∧ l'.deadline = l.deadline ∧ l'.had = l.had ∧ l'.safe = l.safe ∧ ((z = call ∧ b = true) ∨ l'.answered = l.answered) := fun {z j l} hB => by
    by_cases e : j = x.call
    · subst e
      obtain ⟨rfl, rfl⟩ := hB.eq hA
      refine ⟨_, ⟨get_set_same hA.1, hA.2.1, hA.2.2⟩, rfl, rfl, rfl, ?_⟩
      cases b with
      | true => exact .inl ⟨rfl, rfl⟩
      | false => exact .inr (by simp)
    · exact ⟨l, ⟨by show (W.calls.set x.call _)[j]? = _; rw [get_set_ne e]; exact hB.1, hB.2⟩, rfl, rfl, rfl, .inr rfl⟩
  have hAt' : ∀ {z j l}, At { W with atts := W.atts.set m { x with opn := false }, calls := W.calls.set x.call { k with answered := k.answered || b } } z j l → ∃ l', At W z j l' := fun {z j l} hB => by
    obtain ⟨b1, b2, b3⟩ := hB
    rcases set_get b1 with ⟨e1, e2, _⟩ | ⟨_, b1⟩
    · rw [e1]
      exact ⟨k, hA.1, hA.2.1, by rw [← b3, e2]⟩
    · exact ⟨l, b1, b2, b3⟩
  refine ⟨h.nw, ?_, ?_, ?_, ?_, ?_, ?_⟩
  · intro c hc
    obtain ⟨i, l, hB, q1, q2, q3, q4⟩ := h.co c hc
    obtain ⟨l', hB', p1, p2, p3, p4⟩ := hAt hB
    refine ⟨i, l', hB', p1.trans q1, p2.trans q2, p3.trans q3, fun hs hex => ?_⟩
    rcases p4 with p4 | p4
    · exact absurd p4 hex
    · rw [p4]; exact q4 hs (fun q => q)
  · intro j l hj ho
    obtain ⟨l', hB⟩ := hAt' (z := l.number) ⟨hj, ho, rfl⟩
    obtain ⟨c, hc, e⟩ := h.oc j l' hB.1 hB.2.1
    exact ⟨c, hc, by rw [e]; exact hB.2.2⟩
  · intro z j l j' l' hB hB'
    obtain ⟨_, q1⟩ := hAt' hB
    obtain ⟨_, q2⟩ := hAt' hB'
    exact h.un z _ _ _ _ q1 q2
  · show ((W.atts.set m _).length : Int) = s.launched
    rw [List.length_set]
    exact h.al
  · intro a ha
    obtain ⟨ha1, ha2⟩ := List.mem_filter.1 ha
    have hne : a.1 ≠ n := by simpa using ha2
    obtain ⟨m', x', l, e, q1, q2, q3⟩ := h.ao a ha1
    obtain ⟨l', hB', _⟩ := hAt q3
    exact ⟨m', x', l', e, by show (W.atts.set m _)[m']? = _; rw [get_set_ne (fun q => hne (by rw [e, q, hn]))]; exact q1, q2, hB'⟩
  · intro m' x' hx' ho
    rcases set_get hx' with ⟨_, rfl, _⟩ | ⟨hne, hx'⟩
    · cases ho
    · obtain ⟨a, ha, e⟩ := h.oa m' x' hx' ho
      refine ⟨a, List.mem_filter.2 ⟨ha, ?_⟩, e⟩
      have : a.1 ≠ n := fun q => hne (by omega)
      simpa using this

theorem rel_again (h : Rel s W) (c : PCall) (draw : Int) : Rel (againM s c draw) W := by
  have hup : ∀ d ∈ (againM s c draw).calls, ∃ e ∈ s.calls, e.number = d.number ∧ e.deadline = d.deadline ∧ e.had = d.had ∧ e.safe = d.safe := fun d hd => by
    rcases mem_upd_inv hd with ⟨e, he, _, rfl⟩ | ⟨hd1, _⟩
    · exact ⟨e, he, rfl, rfl, rfl, rfl⟩
    · exact ⟨d, hd1, rfl, rfl, rfl, rfl⟩
  refine ⟨h.nw, ?_, ?_, h.un, h.al, h.ao, h.oa⟩
  · intro d hd
    obtain ⟨e, he, e1, e2, e3, e4⟩ := hup d hd
    obtain ⟨i, k, q⟩ := h.co e he
    rw [e1, e2, e3, e4] at q
    exact ⟨i, k, q⟩
  · intro i k hi ho
    obtain ⟨d, hd, e⟩ := h.oc i k hi ho
    have h9 := mem_upd_of (n := c.number) (f := waitUp (waitOf s c draw)) hd
    refine ⟨_, h9, ?_⟩
    rw [← e]
    split <;> rfl

theorem kept_cancel (K : Keeps Bd) (_hI : Inv N s) (H : Kept Bd s W) (e : PEv) (hk : e.kind = 5) :
    ∃ W2, Run s.cfg.attempts false e.to_ W (stepA s e) W2 ∧ Kept Bd (stepM s e) W2 := by
  have eA : stepA s e = cancelA s e.call := by unfold stepA; rw [hk]; rfl
  have eM : stepM s e = cancelM s e.call := by unfold stepM; rw [hk]; rfl
  rw [eA, eM]
  unfold cancelA cancelM
  cases hc : callOf s e.call with
  | none => exact ⟨W, .nil _, kept_stale K H⟩
  | some c =>
    obtain ⟨hm, hn⟩ := callOf_mem hc
    simp only [Option.isSome_some, if_true]
    rw [← hn]
    obtain ⟨W', q1, q2, q3, q4, q5⟩ := rel_finish (att := s.cfg.attempts) (adv := false) (til := e.to_) H.held.rel H.held.i2.an hm (fun n q => q.elim) 4 0 (by omega) (by omega) (by have := H.dl c hm; omega) (fun q => by omega) (fun _ => by omega) (fun q => by cases q)
    exact ⟨W', q1, ⟨q2, i2_finish H.held.i2 _, by rw [q4, q5]; exact K.same H.held.bd rfl rfl rfl⟩, (q3 rfl).trans H.nw, fun d hd => H.dl d (List.mem_filter.1 hd).1⟩

theorem kept_answer (K : Keeps Bd) (hI : Inv N s) (H : Kept Bd s W) (e : PEv) (hk : e.kind = 2 ∨ e.kind = 3 ∨ e.kind = 4) :
    ∃ W1 W2, Mark W e W1 ∧ Run s.cfg.attempts false e.to_ W1 (stepA s e) W2 ∧ Kept Bd (stepM s e) W2 := by
  have h1 : e.kind ≠ 1 := by omega
  have eA : stepA s e = answerA s e := by unfold stepA; rw [if_neg h1, if_pos hk]
  have eM : stepM s e = answerM s e := by unfold stepM; rw [if_neg h1, if_pos hk]
  rw [eA, eM]
  unfold answerA answerM
  cases ha : attOf s e.attempt with
  | none =>
    refine ⟨W, W, .no ?_, .nil _, kept_stale K H⟩
    rintro ⟨_, m, x, e1, e2, e3⟩
    obtain ⟨a, ham, e4⟩ := H.held.rel.oa m x e2 e3
    have := List.find?_eq_none.1 ha a ham
    simp only [beq_iff_eq] at this
    exact this (by rw [e4, e1])
  | some y =>
    obtain ⟨n, a⟩ := y
    have hm : (n, a) ∈ s.atts := List.mem_of_find?_eq_some ha
    have hn : n = e.attempt := by simpa using List.find?_some ha
    subst hn
    obtain ⟨a1, a2, a3, a4, c, hc, hcn⟩ := hI.ab _ hm
    dsimp only at a3 a4 hcn ⊢
    rw [← hcn, hI.find hc]
    dsimp only
    obtain ⟨m, x, k, e1, e2, e3, hA⟩ := H.held.rel.ao _ hm
    dsimp only at e1 hA
    rw [← hcn] at hA
    have hmark := Mark.yes (W := W) (e := e) m x k hk e1 e2 e3 hA.1
    have hR := rel_close H.held.rel e2 e1 hA (e.kind != 4)
    have h2 := i2_close H.held.i2 e.attempt
    unfold answerA1 answerM1
    by_cases k2 : e.kind = 2
    · rw [if_pos k2, if_pos k2]
      have hR' := RelX.of (s' := addM (closeM s e.attempt) (s.now - a.launched)) hR rfl rfl rfl (Int.le_refl _)
      obtain ⟨W', q1, q2, q3, q4, q5⟩ := rel_finish (att := s.cfg.attempts) (adv := false) (til := e.to_) hR' h2.an hc (fun n q => q.1) 1 e.value (by omega) (by omega) (by have := H.dl c hc; show s.now ≤ _; omega) (fun q => by omega) (fun _ => by omega) (fun q => by cases q)
      exact ⟨_, W', hmark, q1, ⟨q2, i2_finish (s := addM (closeM s e.attempt) (s.now - a.launched)) ⟨h2.hs, h2.dl, h2.an, h2.u1⟩ _, by rw [q4, q5]; exact K.same H.held.bd rfl rfl rfl⟩, (q3 rfl).trans H.nw, fun d hd => H.dl d (List.mem_filter.1 hd).1⟩
    · rw [if_neg k2, if_neg k2]
      by_cases k3 : e.kind = 3 ∧ c.safe = false
      · rw [if_pos k3, if_pos k3]
        obtain ⟨W', q1, q2, q3, q4, q5⟩ := rel_finish (att := s.cfg.attempts) (adv := false) (til := e.to_) hR h2.an hc (fun n q => q.1) 2 0 (by omega) (by omega) (by have := H.dl c hc; show s.now ≤ _; omega) (fun q => by omega) (fun _ => by omega) (fun q => by cases q)
        exact ⟨_, W', hmark, q1, ⟨q2, i2_finish h2 _, by rw [q4, q5]; exact K.same H.held.bd rfl rfl rfl⟩, (q3 rfl).trans H.nw, fun d hd => H.dl d (List.mem_filter.1 hd).1⟩
      · rw [if_neg k3, if_neg k3]
        have hR2 : Rel (closeM s e.attempt) { W with atts := W.atts.set m { x with opn := false }, calls := W.calls.set x.call { k with answered := k.answered || (e.kind != 4) } } :=
          ⟨hR.nw, fun d hd => by
            obtain ⟨i, l, hB, q1, q2, q3, q4⟩ := hR.co d hd
            refine ⟨i, l, hB, q1, q2, q3, fun hs _ => q4 hs ?_⟩
            rintro ⟨z1, z2⟩
            have hdc : d = c := hI.same hd hc z1
            subst hdc
            have : e.kind ≠ 4 := by simpa using z2
            exact k3 ⟨by omega, hs⟩, hR.oc, hR.un, hR.al, hR.ao, hR.oa⟩
        by_cases ho : 0 < (openOf (closeM s e.attempt) c.number).length
        · rw [if_pos ho, if_pos ho]
          exact ⟨_, _, hmark, .nil _, ⟨hR2, h2, K.same H.held.bd rfl rfl rfl⟩, H.nw, H.dl⟩
        · rw [if_neg ho, if_neg ho]
          unfold waitA waitM
          by_cases hov : overM (closeM s e.attempt) c e.draw
          · rw [if_pos hov, if_pos hov]
            have hR3 := RelX.of (s' := noHedge (closeM s e.attempt) c.number) hR2 rfl rfl rfl (Int.le_refl _)
            have h3 := i2_noHedge h2 c.number
            obtain ⟨W', q1, q2, q3, q4, q5⟩ := rel_finish (att := s.cfg.attempts) (adv := false) (til := e.to_) hR3 h3.an hc (fun n q => q.elim) 2 0 (by omega) (by omega) (by have := H.dl c hc; show s.now ≤ _; omega) (fun q => by omega) (fun _ => by omega) (fun q => by cases q)
            exact ⟨_, W', hmark, q1, ⟨q2, i2_finish h3 _, by rw [q4, q5]; exact K.same H.held.bd rfl rfl rfl⟩, (q3 rfl).trans H.nw, fun d hd => H.dl d (List.mem_filter.1 hd).1⟩
          · rw [if_neg hov, if_neg hov]
            have hR3 := RelX.of (s' := noHedge (closeM s e.attempt) c.number) hR2 rfl rfl rfl (Int.le_refl _)
            refine ⟨_, _, hmark, .nil _, ⟨rel_again hR3 _ _, i2_again (i2_noHedge h2 _) _ _, K.same H.held.bd rfl rfl rfl⟩, H.nw, fun d hd => ?_⟩
            rcases mem_upd_inv hd with ⟨d', he, _, rfl⟩ | ⟨hd1, _⟩
            · exact H.dl d' he
            · exact H.dl d hd1
end

section
variable {Bd : PSt → List Int → List Int → Prop} {N : Int} {s : PSt} {W : WSt}

theorem open_len {ex : Int → Prop} (hI : Inv N s) (h : RelX ex s W) : (W.calls.filter (·.opn)).length = s.calls.length := by
  have hn1 : ((W.calls.filter (·.opn)).map (·.number)).Nodup := by
    unfold List.Nodup
    rw [List.pairwise_map, List.pairwise_filter, List.pairwise_iff_getElem]
    intro i j hi hj hij h1 h2 e
    have := h.un W.calls[j].number i _ j _ ⟨List.getElem?_eq_getElem hi, h1, e⟩ ⟨List.getElem?_eq_getElem hj, h2, rfl⟩
    omega
  have hp : ((W.calls.filter (·.opn)).map (·.number)).Perm (s.calls.map (·.number)) := by
    rw [List.perm_ext_iff_of_nodup hn1 hI.nd]
    intro n
    constructor
    · intro hm
      obtain ⟨k, hk, rfl⟩ := List.mem_map.1 hm
      obtain ⟨k1, k2⟩ := List.mem_filter.1 hk
      obtain ⟨i, hi, rfl⟩ := List.getElem_of_mem k1
      obtain ⟨c, hc, e⟩ := h.oc i _ (List.getElem?_eq_getElem hi) k2
      exact List.mem_map.2 ⟨c, hc, e⟩
    · intro hm
      obtain ⟨c, hc, rfl⟩ := List.mem_map.1 hm
      obtain ⟨i, k, hA, _⟩ := h.co c hc
      exact List.mem_map.2 ⟨k, List.mem_filter.2 ⟨List.mem_of_getElem? hA.1, hA.2.1⟩, hA.2.2⟩
  have := hp.length_eq
  simpa using this

/-- A call is admitted. -/
def addW (W : WSt) (e : PEv) : WSt := { W with calls := W.calls ++ [⟨e.call, W.now + e.timeout, 0, e.safe, true, false⟩], adm := W.adm ++ [W.now] }

theorem may_iff (hI : Inv N s) (H : Kept Bd s W) (e : PEv) : whyM s e = 0 ↔ (∀ i k, ¬ At W e.call i k) ∧ ((W.calls.filter (·.opn)).length : Int) < s.cfg.flight ∧ 0 < e.timeout ∧ e.timeout ≤ 10000 ∧ W.now + e.timeout ≤ 1099511627776 := by
  rw [open_len hI H.held.rel, H.nw]
  have hnone : (∀ i k, ¬ At W e.call i k) ↔ (callOf s e.call).isSome = false := by
    constructor
    · intro h
      cases hc : callOf s e.call with
      | none => rfl
      | some c =>
        obtain ⟨hm, hn⟩ := callOf_mem hc
        obtain ⟨i, k, hA, _⟩ := H.held.rel.co c hm
        rw [hn] at hA
        exact absurd hA (h i k)
    · intro h i k hA
      obtain ⟨c, hc, e1⟩ := H.held.rel.oc i k hA.1 hA.2.1
      have h9 := hI.find hc
      rw [e1, hA.2.2] at h9
      rw [h9] at h
      cases h
  rw [hnone]
  unfold whyM whyP
  constructor
  · intro h
    split at h
    · omega
    · split at h
      · omega
      · split at h
        · omega
        · split at h
          · omega
          · rename_i q1 q2 q3 q4
            exact ⟨by simpa using q2, by omega, by omega, by omega, by omega⟩
  · rintro ⟨h1, h2, h3, h4, h5⟩
    rw [if_neg (by omega), if_neg (by rw [h1]; decide), if_neg (by omega), if_neg (by omega)]

theorem why_range (s : PSt) (e : PEv) (h : whyM s e ≠ 0) : 5 ≤ whyM s e ∧ whyM s e ≤ 8 := by
  revert h
  unfold whyM whyP
  intro h
  split at h
  · rw [if_pos (by assumption)]; omega
  · split at h
    · rw [if_neg (by assumption), if_pos (by assumption)]; omega
    · split at h
      · rw [if_neg (by assumption), if_neg (by assumption), if_pos (by assumption)]; omega
      · split at h
        · rw [if_neg (by assumption), if_neg (by assumption), if_neg (by assumption), if_pos (by assumption)]; omega
        · exact absurd rfl h

theorem rel_admit (hI : Inv N s) (H : Kept Bd s W) (e : PEv) (hw : whyM s e = 0) : Rel (admit0 s e) (addW W e) := by
  have hno := ((may_iff hI H e).1 hw).1
  have h := H.held.rel
  have hAt : ∀ {n j l}, At W n j l → At (addW W e) n j l := fun {n j l} hB =>
    ⟨by show (W.calls ++ [_])[j]? = _; rw [List.getElem?_append_left (List.getElem?_eq_some_iff.1 hB.1).1]; exact hB.1, hB.2⟩
  have hAt' : ∀ {n j l}, At (addW W e) n j l → At W n j l ∨ (j = W.calls.length ∧ n = e.call) := fun {n j l} hB => by
    obtain ⟨b1, b2, b3⟩ := hB
    have b1' : (W.calls ++ [⟨e.call, W.now + e.timeout, 0, e.safe, true, false⟩])[j]? = some l := b1
    by_cases hj : j < W.calls.length
    · rw [List.getElem?_append_left hj] at b1'
      exact .inl ⟨b1', b2, b3⟩
    · have hl := (List.getElem?_eq_some_iff.1 b1').1
      rw [List.length_append, List.length_singleton] at hl
      have hj' : j = W.calls.length := by omega
      subst hj'
      rw [List.getElem?_append_right (Nat.le_refl _), Nat.sub_self] at b1'
      have b2' : (⟨e.call, W.now + e.timeout, 0, e.safe, true, false⟩ : WCall) = l := by simpa using b1'
      exact .inr ⟨rfl, by rw [← b3, ← b2']⟩
  refine ⟨h.nw, ?_, ?_, ?_, h.al, ?_, h.oa⟩
  · intro c hc
    rcases List.mem_append.1 hc with hc | hc
    · obtain ⟨i, k, hA, q⟩ := h.co c hc
      exact ⟨i, k, hAt hA, q⟩
    · have hc' := List.mem_singleton.1 hc
      subst hc'
      exact ⟨W.calls.length, ⟨e.call, W.now + e.timeout, 0, e.safe, true, false⟩, ⟨by show (W.calls ++ [_])[W.calls.length]? = _; simp, rfl, rfl⟩, by show W.now + e.timeout = s.now + e.timeout; rw [H.nw], rfl, rfl, fun _ _ => rfl⟩
  · intro i k hi ho
    rcases hAt' (n := k.number) ⟨hi, ho, rfl⟩ with hB | ⟨_, hn⟩
    · obtain ⟨c, hc, e1⟩ := h.oc i k hB.1 ho
      exact ⟨c, List.mem_append_left _ hc, e1⟩
    · exact ⟨newCall s e, List.mem_append_right _ (by simp), hn.symm⟩
  · intro n j l j' l' hB hB'
    rcases hAt' hB with q | ⟨q1, q2⟩ <;> rcases hAt' hB' with p | ⟨p1, p2⟩
    · exact h.un n _ _ _ _ q p
    · rw [p2] at q
      exact absurd q (hno _ _)
    · rw [q2] at p
      exact absurd p (hno _ _)
    · rw [q1, p1]
  · intro a ha
    obtain ⟨m, x, k, e1, e2, e3, hA⟩ := h.ao a ha
    exact ⟨m, x, k, e1, e2, e3, hAt hA⟩

theorem i2_admit (hI : Inv N s) (h2 : Inv2 s) (e : PEv) (hw : whyM s e = 0) : Inv2 (admit0 s e) := by
  have hno := whyM_none hw
  refine ⟨?_, ?_, h2.an, ?_⟩
  · intro t ht hk d hd en
    rcases List.mem_append.1 ht with ht | ht
    · obtain ⟨c, hc, e1, _⟩ := hI.tc t ht
      rcases List.mem_append.1 hd with hd | hd
      · exact h2.hs t ht hk d hd en
      · have hd' := List.mem_singleton.1 hd
        subst hd'
        exact absurd (e1.trans en.symm) (hno c hc)
    · have ht' := List.mem_singleton.1 ht
      subst ht'
      cases hk
  · intro d hd
    rcases List.mem_append.1 hd with hd | hd
    · obtain ⟨t, ht, q⟩ := h2.dl d hd
      exact ⟨t, List.mem_append_left _ ht, q⟩
    · have hd' := List.mem_singleton.1 hd
      subst hd'
      exact ⟨_, List.mem_append_right _ (List.mem_singleton.2 rfl), rfl, rfl⟩
  · intro d hd hs a ha b hb ea eb
    rcases List.mem_append.1 hd with hd | hd
    · exact h2.u1 d hd hs a ha b hb ea eb
    · have hd' := List.mem_singleton.1 hd
      subst hd'
      obtain ⟨_, _, _, _, c, hc, e1⟩ := hI.ab a ha
      exact absurd (e1.trans ea) (hno c hc)

theorem kept_admit (K : Keeps Bd) (hI : Inv N s) (H : Kept Bd s W) (e : PEv) (hk : e.kind = 1) (hw : whyM s e = 0) :
    ∃ W2, stepA s e = [⟨1, e.call, s.launched + 1, 0, 0, s.now + e.timeout - s.now⟩] ∧ See s.cfg.attempts W.now (addW W e) ⟨1, e.call, s.launched + 1, 0, 0, s.now + e.timeout - s.now⟩ W2 ∧ Kept Bd (stepM s e) W2 := by
  have eA : stepA s e = admitA s e := by unfold stepA; rw [if_pos hk]; unfold submitA; rw [if_pos hw]
  have eM : stepM s e = admitM s e := by unfold stepM; rw [if_pos hk]; unfold submitM; rw [if_pos hw]
  obtain ⟨j1, j2, j3, j4⟩ := inv_admit0 hI e hw
  have hR := rel_admit hI H e hw
  have h2 := i2_admit hI H.held.i2 e hw
  have hwt := why0 (show whyP _ _ _ _ _ = 0 from hw)
  have hno : ∀ a ∈ (admit0 s e).atts, a.2.call ≠ (newCall s e).number := fun a ha q => by
    obtain ⟨_, _, _, _, c, hc, e1⟩ := hI.ab a ha
    exact whyM_none hw c hc (e1.trans q)
  obtain ⟨W2, q1, q2, q3, q4, q5⟩ := see_launch (s := admit0 s e) (W := addW W e) (att := s.cfg.attempts) hR (c := newCall s e) j2 (fun d hd q => j1.same hd j2 q) j3 (by show s.now < s.now + e.timeout; omega) (.inr hno)
  have hW : ({ addW W e with now := (admit0 s e).now } : WSt) = addW W e := by
    show ({ addW W e with now := s.now } : WSt) = addW W e
    rw [← H.nw]
    rfl
  rw [hW] at q1
  refine ⟨W2, eA, by rw [H.nw]; exact q1, ?_⟩
  rw [eM]
  have hh := setHedgeM_same (launch0 (admit0 s e) (newCall s e)) (hadUp (newCall s e))
  refine ⟨⟨q2.of hh.2.2.2.1 hh.2.2.2.2.1 hh.2.2.2.2.2.1 (by show _ ≤ (setHedgeM _ _).now; rw [hh.2.1]; exact Int.le_refl _), i2_launch j1 h2 j2 (.inr hno), ?_⟩, ?_, ?_⟩
  · rw [q4, q5]
    have hB := K.admit H.held.bd hI
    show Bd _ (W.adm ++ [W.now]) (W.lau ++ [s.now])
    rw [H.nw]
    exact K.same hB hh.1 hh.2.1 hh.2.2.1
  · rw [q3]
    exact hh.2.1.symm
  · intro d hd
    have hd1 : d ∈ (launch0 (admit0 s e) (newCall s e)).calls := by
      have : d ∈ (setHedgeM (launch0 (admit0 s e) (newCall s e)) (hadUp (newCall s e))).calls := hd
      rwa [hh.2.2.2.1] at this
    show (setHedgeM _ _).now < _
    rw [hh.2.1]
    show s.now < _
    have hold : ∀ d' ∈ (admit0 s e).calls, s.now < d'.deadline := fun d' hd' => by
      rcases List.mem_append.1 hd' with hd' | hd'
      · exact H.dl d' hd'
      · have h9 := List.mem_singleton.1 hd'
        subst h9
        show s.now < s.now + e.timeout
        omega
    rcases mem_upd_inv hd1 with ⟨d', he, _, rfl⟩ | ⟨hd2, _⟩
    · exact hold d' he
    · exact hold d hd2

theorem kept_refuse (H : Kept Bd s W) (e : PEv) (hk : e.kind = 1) (hw : whyM s e ≠ 0) :
    stepA s e = [⟨4, e.call, 0, whyM s e, 0, 0⟩] ∧ See s.cfg.attempts W.now W ⟨4, e.call, 0, whyM s e, 0, 0⟩ W ∧ Kept Bd (stepM s e) W := by
  have eA : stepA s e = [⟨4, e.call, 0, whyM s e, 0, 0⟩] := by unfold stepA; rw [if_pos hk]; unfold submitA; rw [if_neg hw]
  have eM : stepM s e = s := by unfold stepM; rw [if_pos hk]; unfold submitM; rw [if_neg hw]
  obtain ⟨r0, r1⟩ := why_range s e hw
  rw [eM]
  exact ⟨eA, .refuse rfl r0 r1, H⟩

/-- An event that is no Submit. -/
theorem kept_event (K : Keeps Bd) (hI : Inv N s) (H : Kept Bd s W) (e : PEv) (h0 : 2 ≤ e.kind) (h1 : e.kind ≤ 6) :
    ∃ W1 W2, Mark W e W1 ∧ Run s.cfg.attempts (e.kind == 6) e.to_ W1 (stepA s e) W2 ∧ Kept Bd (stepM s e) (endNow e W2) := by
  by_cases k6 : e.kind = 6
  · obtain ⟨W2, q1, q2⟩ := kept_adv K hI H e k6
    refine ⟨W, W2, .no (fun q => by have := q.1; omega), ?_, q2⟩
    rw [show (e.kind == 6) = true by simpa using k6]
    exact q1
  · have hb : (e.kind == 6) = false := by simpa using k6
    have hE : ∀ W2, endNow e W2 = W2 := fun W2 => by unfold endNow; rw [if_neg (fun q => k6 q.1)]
    rw [hb]
    by_cases k5 : e.kind = 5
    · obtain ⟨W2, q1, q2⟩ := kept_cancel K hI H e k5
      exact ⟨W, W2, .no (fun q => by have := q.1; omega), q1, by rw [hE]; exact q2⟩
    · obtain ⟨W1, W2, q0, q1, q2⟩ := kept_answer K hI H e (by omega)
      exact ⟨W1, W2, q0, q1, by rw [hE]; exact q2⟩

theorem see_calls {att now : Int} {W W' : WSt} {a : RAct} (h : See att now W a W') : ∀ (i : Nat) (k' : WCall), W'.calls[i]? = some k' → ∃ k, W.calls[i]? = some k ∧ k.deadline = k'.deadline ∧ (k'.opn = true → k.opn = true) := by
  intro i k' hi
  cases h with
  | refuse => exact ⟨k', hi, rfl, fun q => q⟩
  | launch j k hk hf =>
    rcases set_get hi with ⟨rfl, rfl, _⟩ | ⟨_, hi⟩
    · exact ⟨k, hf.1, rfl, fun q => q⟩
    · exact ⟨k', hi, rfl, fun q => q⟩
  | stop => exact ⟨k', hi, rfl, fun q => q⟩
  | result j k hk hf =>
    rcases set_get hi with ⟨rfl, rfl, _⟩ | ⟨_, hi⟩
    · exact ⟨k, hf.1, rfl, fun q => by cases q⟩
    · exact ⟨k', hi, rfl, fun q => q⟩

theorem run_calls {att : Int} {adv : Bool} {til : Int} {W W' : WSt} {l : List RAct} (h : Run att adv til W l W') : ∀ (i : Nat) (k' : WCall), W'.calls[i]? = some k' → ∃ k, W.calls[i]? = some k ∧ k.deadline = k'.deadline ∧ (k'.opn = true → k.opn = true) := by
  induction h with
  | nil => intro i k' hi; exact ⟨k', hi, rfl, fun q => q⟩
  | now W a l W1 W2 ha hs hr ih =>
    intro i k' hi
    obtain ⟨k1, e1, e2, e3⟩ := ih i k' hi
    obtain ⟨k, q1, q2, q3⟩ := see_calls hs i k1 e1
    exact ⟨k, q1, q2.trans e2, fun z => q3 (e3 z)⟩
  | adv W a l t W1 W2 ha hw h0 h1 hs hr ih =>
    intro i k' hi
    obtain ⟨k1, e1, e2, e3⟩ := ih i k' hi
    obtain ⟨k, q1, q2, q3⟩ := see_calls hs i k1 e1
    exact ⟨k, q1, q2.trans e2, fun z => q3 (e3 z)⟩

/-- The last deadline is reached: nothing is left. -/
theorem kept_end (K : Keeps Bd) (hI : Inv N s) (H : Kept Bd s W) (e : PEv) (hk : e.kind = 6) (h0 : s.now ≤ e.to_) (h1 : e.to_ ≤ 1099511627776) (hl : ∀ (i : Nat) (k : WCall), W.calls[i]? = some k → k.opn = true → k.deadline ≤ e.to_) :
    ∃ W2, Run s.cfg.attempts true e.to_ W (stepA s e) W2 ∧ Kept Bd (stepM s e) (endNow e W2) ∧ (∀ k ∈ W2.calls, k.opn = false) ∧ (stepM s e).calls = [] ∧ (stepM s e).atts = [] ∧ (stepM s e).timers = [] := by
  obtain ⟨W2, q1, q2⟩ := kept_adv K hI H e hk
  have hI2 := inv_step hI e
  have hnow : (stepM s e).now = e.to_ := by
    have eM : stepM s e = advM s e.to_ := by unfold stepM; rw [hk]; rfl
    have ht0 := hI.turns0
    obtain ⟨_, _, _, _, p4, _⟩ := rel_adv K e.to_ h1 (turns s).toNat s W hI H.held h0 (by omega)
    rw [eM]
    unfold advM
    rw [if_neg (by omega)]
    exact p4
  have hcl : ∀ (i : Nat) (k : WCall), W2.calls[i]? = some k → k.opn = false := fun i k hi => by
    cases ho : k.opn with
    | false => rfl
    | true =>
      obtain ⟨c, hc, e1⟩ := q2.held.rel.oc i k hi ho
      obtain ⟨i', k', hA, kd, _⟩ := q2.held.rel.co c hc
      have hii := q2.held.rel.un c.number i k i' k' ⟨hi, ho, e1.symm⟩ hA
      subst hii
      have hkk : k = k' := Option.some.inj (hi.symm.trans hA.1)
      subst hkk
      obtain ⟨k0, z1, z2, z3⟩ := run_calls q1 i k hi
      have := hl i k0 z1 (z3 ho)
      have := q2.dl c hc
      rw [hnow] at this
      omega
  have hc0 : (stepM s e).calls = [] := by
    rw [List.eq_nil_iff_forall_not_mem]
    intro c hc
    obtain ⟨i, k, hA, _⟩ := q2.held.rel.co c hc
    have := hcl i k hA.1
    rw [hA.2.1] at this
    cases this
  refine ⟨W2, q1, q2, fun k hk' => ?_, hc0, ?_, ?_⟩
  · obtain ⟨i, hi, rfl⟩ := List.getElem_of_mem hk'
    exact hcl i _ (List.getElem?_eq_getElem hi)
  · rw [List.eq_nil_iff_forall_not_mem]
    intro a ha
    obtain ⟨_, _, _, _, c, hc, _⟩ := hI2.ab a ha
    rw [hc0] at hc
    cases hc
  · rw [List.eq_nil_iff_forall_not_mem]
    intro t ht
    obtain ⟨c, hc, _⟩ := hI2.tc t ht
    rw [hc0] at hc
    cases hc
end

theorem ring_stale (s : PSt) (t : PTimer) : (ringM s t).stale = s.stale := by
  unfold ringM
  split
  · rfl
  · unfold ringM1
    split
    · rfl
    · split
      · exact (setHedgeM_same _ _).2.2.2.2.2.2.2
      · split <;> rfl
theorem adv_stale (til : Int) : ∀ (f : Nat) (s : PSt), (advF til f s).1.stale = s.stale := by
  intro f
  induction f with
  | zero => intro s; rfl
  | succ f ih =>
    intro s
    unfold advF
    split
    · rfl
    · split
      · rfl
      · rename_i t _ _
        show (advF til f (ringM (dueM s t) t)).1.stale = _
        rw [ih, ring_stale]
        rfl
theorem stale_step (s : PSt) (e : PEv) : s.stale ≤ (stepM s e).stale ∧ (stepM s e).stale ≤ s.stale + 1 := by
  have hst : (staleM s).stale = s.stale + 1 := rfl
  unfold stepM
  split
  · unfold submitM
    split
    · have : (admitM s e).stale = s.stale := (setHedgeM_same _ _).2.2.2.2.2.2.2
      omega
    · omega
  · split
    · unfold answerM
      split
      · omega
      · split
        · omega
        · rename_i c _
          have hw : ∀ s' : PSt, s'.stale = s.stale → (waitM s' c e.draw).stale = s.stale := fun s' h => by
            unfold waitM
            split <;> exact h
          unfold answerM1
          split
          · show s.stale ≤ s.stale ∧ s.stale ≤ s.stale + 1; omega
          · split
            · show s.stale ≤ s.stale ∧ s.stale ≤ s.stale + 1; omega
            · split
              · show s.stale ≤ s.stale ∧ s.stale ≤ s.stale + 1; omega
              · rw [hw (closeM s e.attempt) rfl]; omega
    · split
      · unfold cancelM
        split
        · show s.stale ≤ s.stale ∧ s.stale ≤ s.stale + 1; omega
        · omega
      · split
        · unfold advM
          split
          · omega
          · rw [adv_stale]; omega
        · omega
theorem sp_of {s : PSt} {N : Int} (hI : Inv N s) (h2 : Inv2 s) : s.calls = [] ∨ 0 < s.set := by
  cases hc : s.calls with
  | nil => exact .inl rfl
  | cons c r =>
    obtain ⟨t, ht, _⟩ := h2.dl c (by rw [hc]; simp)
    have := (hI.tb t ht).2.2.2
    exact .inr (by omega)

/-- What is always so of a Watch. -/
structure WOk (W : WSt) : Prop where
  un : ∀ n i k j l, At W n i k → At W n j l → i = j
  hb : ∀ n i k, At W n i k → 0 ≤ k.deadline ∧ k.deadline ≤ 1099511627776 ∧ 0 ≤ k.had ∧ k.had ≤ 6
  ll : W.lau.length = W.atts.length

theorem WOk.now {W : WSt} (h : WOk W) (t : Int) : WOk { W with now := t } := ⟨h.un, h.hb, h.ll⟩
theorem see_ok {att now : Int} (ha : att ≤ 6) {W W' : WSt} {a : RAct} (h : See att now W a W') (ok : WOk W) : WOk W' := by
  cases h with
  | refuse => exact ok
  | launch i k hk hf _ _ _ hh =>
    have hAt' : ∀ {n j l}, At { W with calls := W.calls.set i { k with had := k.had + 1 }, atts := W.atts ++ [⟨i, now, true⟩], lau := W.lau ++ [now] } n j l → ∃ l', At W n j l' ∧ l.deadline = l'.deadline ∧ (l.had = l'.had ∨ (l.had = l'.had + 1 ∧ l'.had < att)) := fun {n j l} hB => by
      obtain ⟨b1, b2, b3⟩ := hB
      rcases set_get b1 with ⟨e1, e2, _⟩ | ⟨_, b1⟩
      · subst e1
        subst e2
        exact ⟨k, ⟨hf.1, hf.2.1, b3⟩, rfl, .inr ⟨rfl, hh⟩⟩
      · exact ⟨l, ⟨b1, b2, b3⟩, rfl, .inl rfl⟩
    refine ⟨fun n i k j l h1 h2 => ?_, fun n i k h1 => ?_, ?_⟩
    · obtain ⟨_, q1, _⟩ := hAt' h1
      obtain ⟨_, q2, _⟩ := hAt' h2
      exact ok.un n _ _ _ _ q1 q2
    · obtain ⟨l', q1, q2, q3⟩ := hAt' h1
      have := ok.hb n _ _ q1
      rw [q2]
      omega
    · show (W.lau ++ [now]).length = (W.atts ++ [_]).length
      rw [List.length_append, List.length_append, ok.ll]
      rfl
  | stop m x k _ _ hx =>
    refine ⟨ok.un, ok.hb, ?_⟩
    show W.lau.length = (W.atts.set m _).length
    rw [List.length_set]
    exact ok.ll
  | result i k hk hf =>
    have hAt' : ∀ {n j l}, At { W with calls := W.calls.set i { k with opn := false } } n j l → At W n j l := fun {n j l} hB => by
      obtain ⟨b1, b2, b3⟩ := hB
      rcases set_get b1 with ⟨e1, e2, _⟩ | ⟨_, b1⟩
      · subst e2
        cases b2
      · exact ⟨b1, b2, b3⟩
    exact ⟨fun n i k j l h1 h2 => ok.un n _ _ _ _ (hAt' h1) (hAt' h2), fun n i k h1 => ok.hb n _ _ (hAt' h1), ok.ll⟩

theorem see_len {att now : Int} {W W' : WSt} {a : RAct} (h : See att now W a W') : W'.calls.length = W.calls.length ∧ W.atts.length ≤ W'.atts.length := by
  cases h with
  | refuse => exact ⟨rfl, Nat.le_refl _⟩
  | launch i k hk hf => exact ⟨by show (W.calls.set i _).length = _; rw [List.length_set], by show _ ≤ (W.atts ++ [_]).length; rw [List.length_append]; omega⟩
  | stop m x k _ _ hx => exact ⟨rfl, by show _ ≤ (W.atts.set m _).length; rw [List.length_set]; exact Nat.le_refl _⟩
  | result i k hk hf => exact ⟨by show (W.calls.set i _).length = _; rw [List.length_set], Nat.le_refl _⟩
theorem run_len {att : Int} {adv : Bool} {til : Int} {W W' : WSt} {l : List RAct} (h : Run att adv til W l W') : W'.calls.length = W.calls.length ∧ W.atts.length ≤ W'.atts.length := by
  induction h with
  | nil => exact ⟨rfl, Nat.le_refl _⟩
  | now W a l W1 W2 ha hs hr ih =>
    have := see_len hs
    omega
  | adv W a l t W1 W2 ha hw h0 h1 hs hr ih =>
    have := see_len hs
    dsimp only at this
    omega

theorem ok_of {Bd : PSt → List Int → List Int → Prop} {N : Int} {s : PSt} {W : WSt} (hI : Inv N s) (H : Kept Bd s W) (hll : W.lau.length = W.atts.length) : WOk W := by
  refine ⟨H.held.rel.un, fun n i k hA => ?_, hll⟩
  obtain ⟨c, hc, e⟩ := H.held.rel.oc i k hA.1 hA.2.1
  obtain ⟨j, l, hB, q1, q2, _⟩ := H.held.rel.co c hc
  rw [e] at hB
  have hij := H.held.rel.un k.number i k j l ⟨hA.1, hA.2.1, rfl⟩ hB
  subst hij
  have hkl : k = l := Option.some.inj (hA.1.symm.trans hB.1)
  subst hkl
  have := hI.cb c hc
  have := hI.cfg.a1
  omega
theorem mark_ok {W W1 : WSt} {e : PEv} (h : Mark W e W1) (ok : WOk W) : WOk W1 := by
  cases h with
  | no => exact ok
  | yes m x k hk he hx ho hc =>
    have hAt' : ∀ {n j l}, At { W with atts := W.atts.set m { x with opn := false }, calls := W.calls.set x.call { k with answered := k.answered || e.kind != 4 } } n j l → ∃ l', At W n j l' ∧ l.deadline = l'.deadline ∧ l.had = l'.had := fun {n j l} hB => by
      obtain ⟨b1, b2, b3⟩ := hB
      rcases set_get b1 with ⟨e1, e2, _⟩ | ⟨_, b1⟩
      · subst e2
        rw [e1]
        exact ⟨k, ⟨hc, b2, b3⟩, rfl, rfl⟩
      · exact ⟨l, ⟨b1, b2, b3⟩, rfl, rfl⟩
    refine ⟨fun n i k j l h1 h2 => ?_, fun n i k h1 => ?_, ?_⟩
    · obtain ⟨_, q1, _⟩ := hAt' h1
      obtain ⟨_, q2, _⟩ := hAt' h2
      exact ok.un n _ _ _ _ q1 q2
    · obtain ⟨l', q1, q2, q3⟩ := hAt' h1
      rw [q2, q3]
      exact ok.hb n _ _ q1
    · show W.lau.length = (W.atts.set m _).length
      rw [List.length_set]
      exact ok.ll
theorem mark_len {W W1 : WSt} {e : PEv} (h : Mark W e W1) : W1.calls.length = W.calls.length ∧ W1.atts.length = W.atts.length := by
  cases h with
  | no => exact ⟨rfl, rfl⟩
  | yes m x k hk he hx ho hc => exact ⟨by show (W.calls.set x.call _).length = _; rw [List.length_set], by show (W.atts.set m _).length = _; rw [List.length_set]⟩

end Go.Proofs.YtlccfpbbdgpjbaaGreatDoor
