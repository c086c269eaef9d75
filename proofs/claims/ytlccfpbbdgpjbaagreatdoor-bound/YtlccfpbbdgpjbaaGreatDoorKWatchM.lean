import Derived.Test.YtlccfpbbdgpjbaaGreatDoorZModel
namespace Go.Proofs.YtlccfpbbdgpjbaaGreatDoor

structure WCall where
  number : Int
  deadline : Int
  had : Int
  safe : Bool
  opn : Bool
  answered : Bool
structure WAtt where
  call : Nat
  at_ : Int
  opn : Bool
/-- What a Watch knows. -/
structure WSt where
  now : Int
  calls : List WCall
  atts : List WAtt
  adm : List Int
  lau : List Int

/-- The open call n, and its place. -/
def At (W : WSt) (n : Int) (i : Nat) (k : WCall) : Prop := W.calls[i]? = some k ∧ k.opn = true ∧ k.number = n

/-- An action may be; what is known by it. -/
inductive See (att now : Int) (W : WSt) (a : RAct) : WSt → Prop
  | refuse (hk : a.kind = 4) (h0 : 5 ≤ a.outcome) (h1 : a.outcome ≤ 8) : See att now W a W
  | launch (i : Nat) (k : WCall) (hk : a.kind = 1) (hf : At W a.call i k) (ha : a.attempt = (W.atts.length : Int) + 1) (hl : a.left = k.deadline - now) (h1 : 1 ≤ a.left) (hh : k.had < att)
      (hs : k.safe = true ∨ (k.answered = false ∧ ∀ x ∈ W.atts, x.opn = true → x.call ≠ i)) :
      See att now W a { W with calls := W.calls.set i { k with had := k.had + 1 }, atts := W.atts ++ [⟨i, now, true⟩], lau := W.lau ++ [now] }
  | stop (m : Nat) (x : WAtt) (k : WCall) (hk : a.kind = 2) (ha : a.attempt = (m : Int) + 1) (hx : W.atts[m]? = some x) (ho : x.opn = true) (hc : W.calls[x.call]? = some k) (hn : k.number = a.call) (hz : k.opn = false) :
      See att now W a { W with atts := W.atts.set m { x with opn := false } }
  | result (i : Nat) (k : WCall) (hk : a.kind = 3) (hf : At W a.call i k) (h0 : 1 ≤ a.outcome) (h1 : a.outcome ≤ 4) (hl : a.outcome = 3 → now = k.deadline) (hd : now ≤ k.deadline) :
      See att now W a { W with calls := W.calls.set i { k with opn := false } }

/-- When an action of an Advance was done. -/
inductive When (W : WSt) (a : RAct) : Int → Prop
  | launch (i : Nat) (k : WCall) (hk : a.kind = 1) (hf : At W a.call i k) : When W a (k.deadline - a.left)
  | late (i : Nat) (k : WCall) (hk : a.kind = 3) (ho : a.outcome = 3) (hf : At W a.call i k) : When W a k.deadline
  | other (hk : a.kind = 2 ∨ (a.kind = 3 ∧ a.outcome ≠ 3)) : When W a W.now

/-- All that is done by an event. -/
inductive Run (att : Int) (adv : Bool) (til : Int) : WSt → List RAct → WSt → Prop
  | nil (W : WSt) : Run att adv til W [] W
  | now (W : WSt) (a : RAct) (l : List RAct) (W1 W2 : WSt) (ha : adv = false) (hs : See att W.now W a W1) (hr : Run att adv til W1 l W2) : Run att adv til W (a :: l) W2
  | adv (W : WSt) (a : RAct) (l : List RAct) (t : Int) (W1 W2 : WSt) (ha : adv = true) (hw : When W a t) (h0 : W.now ≤ t) (h1 : t ≤ til) (hs : See att t { W with now := t } a W1) (hr : Run att adv til W1 l W2) : Run att adv til W (a :: l) W2

theorem Run.append {att : Int} {adv : Bool} {til : Int} {W W1 W2 : WSt} {l m : List RAct} (h : Run att adv til W l W1) (k : Run att adv til W1 m W2) : Run att adv til W (l ++ m) W2 := by
  induction h with
  | nil => exact k
  | now W a l W1 W2 ha hs hr ih => exact .now _ _ _ _ _ ha hs (ih k)
  | adv W a l t W1 W2 ha hw h0 h1 hs hr ih => exact .adv _ _ _ t _ _ ha hw h0 h1 hs (ih k)

/-- What the client holds, and what is known of it; ex: a call that was answered and will end. -/
structure RelX (ex : Int → Prop) (s : PSt) (W : WSt) : Prop where
  nw : W.now ≤ s.now
  co : ∀ c ∈ s.calls, ∃ i k, At W c.number i k ∧ k.deadline = c.deadline ∧ k.had = c.had ∧ k.safe = c.safe ∧ (c.safe = false → ¬ ex c.number → k.answered = false)
  oc : ∀ (i : Nat) (k : WCall), W.calls[i]? = some k → k.opn = true → ∃ c ∈ s.calls, c.number = k.number
  un : ∀ n i k j l, At W n i k → At W n j l → i = j
  al : (W.atts.length : Int) = s.launched
  ao : ∀ a ∈ s.atts, ∃ (m : Nat) (x : WAtt) (k : WCall), a.1 = (m : Int) + 1 ∧ W.atts[m]? = some x ∧ x.opn = true ∧ At W a.2.call x.call k
  oa : ∀ (m : Nat) (x : WAtt), W.atts[m]? = some x → x.opn = true → ∃ a ∈ s.atts, a.1 = (m : Int) + 1

abbrev Rel : PSt → WSt → Prop := RelX (fun _ => False)

/-- What holds of the client besides. -/
structure Inv2 (s : PSt) : Prop where
  hs : ∀ t ∈ s.timers, t.kind = 3 → ∀ c ∈ s.calls, c.number = t.call → c.safe = true
  dl : ∀ c ∈ s.calls, ∃ t ∈ s.timers, t.kind = 1 ∧ t.call = c.number
  an : (s.atts.map (·.1)).Nodup
  u1 : ∀ c ∈ s.calls, c.safe = false → ∀ a ∈ s.atts, ∀ b ∈ s.atts, a.2.call = c.number → b.2.call = c.number → a.1 = b.1

theorem At.eq {W : WSt} {n m : Int} {i : Nat} {k l : WCall} (h : At W n i k) (g : At W m i l) : k = l ∧ n = m := by
  have e : k = l := Option.some.inj (h.1.symm.trans g.1)
  exact ⟨e, by rw [← h.2.2, ← g.2.2, e]⟩

theorem set_get {α : Type} {l : List α} {i j : Nat} {x y : α} (h : (l.set i x)[j]? = some y) : (j = i ∧ y = x ∧ i < l.length) ∨ (j ≠ i ∧ l[j]? = some y) := by
  by_cases e : j = i
  · subst e
    rw [List.getElem?_set_self'] at h
    cases hx : l[j]? with
    | none => rw [hx] at h; cases h
    | some z =>
      rw [hx] at h
      have h' : x = y := by simpa using h
      exact .inl ⟨rfl, h'.symm, (List.getElem?_eq_some_iff.1 hx).1⟩
  · rw [List.getElem?_set_ne (Ne.symm e)] at h
    exact .inr ⟨e, h⟩
theorem get_set_same {α : Type} {l : List α} {i : Nat} {x z : α} (h : l[i]? = some z) : (l.set i x)[i]? = some x := by
  rw [List.getElem?_set_self', h]; rfl
theorem get_set_ne {α : Type} {l : List α} {i j : Nat} {x : α} (h : j ≠ i) : (l.set i x)[j]? = l[j]? := List.getElem?_set_ne (Ne.symm h)

/-- The Stops of a call that has its result. -/
theorem run_stops {att : Int} {adv : Bool} {til n : Int} : ∀ (l : List Int) (W : WSt), l.Nodup → (adv = true → W.now ≤ til) →
    (∀ x ∈ l, ∃ (m : Nat) (y : WAtt) (k : WCall), x = (m : Int) + 1 ∧ W.atts[m]? = some y ∧ y.opn = true ∧ W.calls[y.call]? = some k ∧ k.number = n ∧ k.opn = false) →
    ∃ W', Run att adv til W (l.map (fun k => (⟨2, n, k, 0, 0, 0⟩ : RAct))) W' ∧ W'.now = W.now ∧ W'.calls = W.calls ∧ W'.adm = W.adm ∧ W'.lau = W.lau ∧ W'.atts.length = W.atts.length ∧
      ∀ m : Nat, W'.atts[m]? = if (m : Int) + 1 ∈ l then (W.atts[m]?).map (fun y => { y with opn := false }) else W.atts[m]? := by
  intro l
  induction l with
  | nil =>
    intro W _ _ _
    exact ⟨W, .nil _, rfl, rfl, rfl, rfl, rfl, fun m => by simp⟩
  | cons x r ih =>
    intro W hnd hn hx
    rw [List.nodup_cons] at hnd
    obtain ⟨m, y, k, e, h1, h2, h3, h4, h5⟩ := hx x (by simp)
    obtain ⟨W', hr, e1, e2, e3, e4, e5, e6⟩ := ih { W with atts := W.atts.set m { y with opn := false } } hnd.2 hn (fun z hz => by
      obtain ⟨m', y', k', e', h1', h2', h3', h4', h5'⟩ := hx z (by simp [hz])
      have hne : m' ≠ m := fun q => hnd.1 (by rw [show x = z by omega]; exact hz)
      exact ⟨m', y', k', e', by show (W.atts.set m _)[m']? = _; rw [get_set_ne hne]; exact h1', h2', h3', h4', h5'⟩)
    refine ⟨W', ?_, e1, e2, e3, e4, by rw [e5]; simp, fun j => ?_⟩
    · rw [List.map_cons]
      cases hadv : adv with
      | false =>
        subst hadv
        exact .now _ _ _ _ _ rfl (.stop m y k rfl e h1 h2 h3 h4 h5) hr
      | true =>
        subst hadv
        exact .adv _ _ _ W.now _ _ rfl (.other (.inl rfl)) (Int.le_refl _) (hn rfl) (.stop m y k rfl e h1 h2 h3 h4 h5) hr
    · rw [e6 j]
      by_cases hj : j = m
      · subst hj
        have h8 : (j : Int) + 1 ∉ r := fun q => hnd.1 (by rw [e]; exact q)
        rw [if_neg h8, if_pos (by rw [e]; simp)]
        show (W.atts.set j _)[j]? = _
        rw [get_set_same h1, h1]
        rfl
      · have h9 : ((j : Int) + 1 ∈ x :: r) ↔ ((j : Int) + 1 ∈ r) := by
          rw [List.mem_cons]
          constructor
          · rintro (q | q)
            · omega
            · exact q
          · exact .inr
        show (if _ then ((W.atts.set m _)[j]?).map _ else (W.atts.set m _)[j]?) = _
        rw [get_set_ne hj]
        by_cases h7 : (j : Int) + 1 ∈ r
        · rw [if_pos h7, if_pos (h9.2 h7)]
        · rw [if_neg h7, if_neg (fun q => h7 (h9.1 q))]

theorem RelX.att_call {ex : Int → Prop} {s : PSt} {W : WSt} (h : RelX ex s W) {m : Nat} {x : WAtt} (hx : W.atts[m]? = some x) (ho : x.opn = true) : ∃ a ∈ s.atts, ∃ k, a.1 = (m : Int) + 1 ∧ At W a.2.call x.call k := by
  obtain ⟨a, ha, e⟩ := h.oa m x hx ho
  obtain ⟨m', x', k, e', h1, h2, h3⟩ := h.ao a ha
  have hm : m' = m := by omega
  subst hm
  obtain rfl : x' = x := Option.some.inj (h1.symm.trans hx)
  exact ⟨a, ha, k, e, h3⟩

/-- A call has its result, and its open attempts are stopped. -/
theorem rel_finish {ex : Int → Prop} {s : PSt} {W : WSt} {att : Int} {adv : Bool} {til : Int} (h : RelX ex s W) (han : (s.atts.map (·.1)).Nodup) {c : PCall} (hc : c ∈ s.calls) (hex : ∀ n, ex n → n = c.number) (outcome value : Int) (o0 : 1 ≤ outcome) (o1 : outcome ≤ 4)
    (hnow : s.now ≤ c.deadline) (hl : outcome = 3 → s.now = c.deadline) (hadv : adv = false → outcome ≠ 3) (ht : adv = true → s.now ≤ til) :
    ∃ W', Run att adv til W (finishA s c.number outcome value) W' ∧ Rel (finishM s c.number) W' ∧ (adv = false → W'.now = W.now) ∧ W'.adm = W.adm ∧ W'.lau = W.lau := by
  obtain ⟨i, k, hA, kd, kh, ks, ka⟩ := h.co c hc
  have hln : ((s.atts.filter (fun a => a.2.call == c.number)).map (·.1)).mergeSort.Nodup :=
    (List.mergeSort_perm _ _).nodup_iff.2 (han.sublist (List.filter_sublist.map _))
  obtain ⟨t, ht0, ht1, htl⟩ : ∃ t, W.now ≤ t ∧ t ≤ s.now ∧ (t = if outcome = 3 then k.deadline else W.now) := by
    by_cases ho : outcome = 3
    · exact ⟨k.deadline, by have := h.nw; have := hl ho; omega, by have := hl ho; omega, by rw [if_pos ho]⟩
    · exact ⟨W.now, Int.le_refl _, h.nw, by rw [if_neg ho]⟩
  have hmem : ∀ (m : Nat) (x : WAtt), W.atts[m]? = some x → x.opn = true → ((m : Int) + 1 ∈ ((s.atts.filter (fun a => a.2.call == c.number)).map (·.1)).mergeSort ↔ x.call = i) := by
    intro m x hx ho
    obtain ⟨a, ha, k', e, hk'⟩ := h.att_call hx ho
    rw [(List.mergeSort_perm _ _).mem_iff]
    constructor
    · intro hm
      obtain ⟨b, hb, eb⟩ := List.mem_map.1 hm
      obtain ⟨hb1, hb2⟩ := List.mem_filter.1 hb
      obtain ⟨m', x', k2, e', q1, q2, q3⟩ := h.ao b hb1
      have hmm : m' = m := by omega
      subst hmm
      obtain rfl : x' = x := Option.some.inj (q1.symm.trans hx)
      have e9 : b.2.call = c.number := by simpa using hb2
      rw [e9] at q3
      exact h.un _ _ _ _ _ q3 hA
    · intro hi
      subst hi
      have := (hk'.eq hA).2
      exact List.mem_map.2 ⟨a, List.mem_filter.2 ⟨ha, by simpa using this⟩, e⟩
  obtain ⟨W', hr, e1, e2, e3, e4, e5, e6⟩ := run_stops (att := att) (adv := adv) (til := til) (n := c.number) _ { W with now := t, calls := W.calls.set i { k with opn := false } } hln (fun ha => Int.le_trans ht1 (ht ha)) (fun x hx => by
    have hx' := (List.mergeSort_perm _ _).mem_iff.1 hx
    obtain ⟨b, hb, rfl⟩ := List.mem_map.1 hx'
    obtain ⟨hb1, hb2⟩ := List.mem_filter.1 hb
    obtain ⟨m, y, k2, e', q1, q2, q3⟩ := h.ao b hb1
    have e9 : b.2.call = c.number := by simpa using hb2
    rw [e9] at q3
    have hi := h.un _ _ _ _ _ q3 hA
    exact ⟨m, y, { k with opn := false }, e', q1, q2, by rw [hi]; exact get_set_same hA.1, hA.2.2, rfl⟩)
  refine ⟨W', ?_, ⟨?_, ?_, ?_, ?_, ?_, ?_, ?_⟩, ?_, e3, e4⟩
  · unfold finishA
    cases hv : adv with
    | false =>
      subst hv
      have ho := hadv rfl
      rw [if_neg ho] at htl
      subst htl
      refine .now _ _ _ _ _ rfl (.result i k rfl hA o0 o1 (fun q => absurd q ho) (by rw [kd]; exact Int.le_trans ht1 hnow)) hr
    | true =>
      subst hv
      refine .adv _ _ _ t _ _ rfl ?_ ht0 (Int.le_trans ht1 (ht rfl)) (.result i k rfl hA o0 o1 (fun q => by rw [htl, if_pos q]) (by rw [kd]; exact Int.le_trans ht1 hnow)) hr
      by_cases ho : outcome = 3
      · rw [htl, if_pos ho]
        exact .late i k rfl ho hA
      · rw [htl, if_neg ho]
        exact .other (.inr ⟨rfl, ho⟩)
  · rw [e1]
    exact ht1
  · intro d hd
    obtain ⟨hd1, hd2⟩ := List.mem_filter.1 hd
    have hdn : d.number ≠ c.number := by simpa using hd2
    obtain ⟨j, l, hB, q1, q2, q3, q4⟩ := h.co d hd1
    have hji : j ≠ i := fun e => by
      subst e
      exact hdn (hB.eq hA).2
    exact ⟨j, l, ⟨by rw [e2]; show (W.calls.set i _)[j]? = _; rw [get_set_ne hji]; exact hB.1, hB.2⟩, q1, q2, q3, fun z _ => q4 z (fun y => hdn (hex _ y))⟩
  · intro j l hj ho
    rw [e2] at hj
    rcases set_get hj with ⟨_, rfl, _⟩ | ⟨hne, hj⟩
    · cases ho
    · obtain ⟨d, hd, e⟩ := h.oc j l hj ho
      refine ⟨d, List.mem_filter.2 ⟨hd, ?_⟩, e⟩
      have : d.number ≠ c.number := fun q => hne (h.un c.number j l i k ⟨hj, ho, by rw [← e, q]⟩ hA)
      simpa using this
  · intro n j l j' l' hB hB'
    have hx : ∀ {j l}, At W' n j l → At W n j l := fun {j l} hB => by
      obtain ⟨b1, b2, b3⟩ := hB
      rw [e2] at b1
      rcases set_get b1 with ⟨_, rfl, _⟩ | ⟨_, b1⟩
      · cases b2
      · exact ⟨b1, b2, b3⟩
    exact h.un n _ _ _ _ (hx hB) (hx hB')
  · rw [e5]
    exact h.al
  · intro a ha
    obtain ⟨ha1, ha2⟩ := List.mem_filter.1 ha
    have hne : a.2.call ≠ c.number := by simpa using ha2
    obtain ⟨m, x, l, e, q1, q2, q3⟩ := h.ao a ha1
    have hxi : x.call ≠ i := fun e => by
      rw [e] at q3
      exact hne (q3.eq hA).2
    refine ⟨m, x, l, e, ?_, q2, by rw [e2]; show (W.calls.set i _)[x.call]? = _; rw [get_set_ne hxi]; exact q3.1, q3.2⟩
    rw [e6 m, if_neg (fun q => hxi ((hmem m x q1 q2).1 q))]
    exact q1
  · intro m x hx ho
    rw [e6 m] at hx
    split at hx
    · cases hy : W.atts[m]? with
      | none =>
        have : (none : Option WAtt) = some x := by
          have h9 := hx
          dsimp only at h9
          rw [hy] at h9
          exact h9
        cases this
      | some y =>
        have h9 := hx
        dsimp only at h9
        rw [hy] at h9
        have : { y with opn := false } = x := Option.some.inj h9
        rw [← this] at ho
        cases ho
    · rename_i hm
      obtain ⟨a, ha, l, e, hB⟩ := h.att_call hx ho
      refine ⟨a, List.mem_filter.2 ⟨ha, ?_⟩, e⟩
      have hxi : x.call ≠ i := fun q => hm ((hmem m x hx ho).2 q)
      have : a.2.call ≠ c.number := fun q => hxi (h.un c.number _ _ _ _ (by rw [← q]; exact hB) hA)
      simpa using this
  · intro ha
    have ho := hadv ha
    rw [if_neg ho] at htl
    rw [e1]
    exact htl

theorem nodup_snoc {α : Type} {l : List α} {x : α} (h : l.Nodup) (hx : x ∉ l) : (l ++ [x]).Nodup := by
  rw [List.nodup_append]
  refine ⟨h, by simp, fun a ha b hb => ?_⟩
  have : b = x := by simpa using hb
  rw [this]
  exact fun e => hx (by rw [← e]; exact ha)

/-- An attempt is launched. -/
theorem see_launch {s : PSt} {W : WSt} {att : Int} (h : Rel s W) {c : PCall} (hc : c ∈ s.calls) (hu : ∀ d ∈ s.calls, d.number = c.number → d = c) (hh : c.had < att) (hd : s.now < c.deadline) (hs : c.safe = true ∨ ∀ a ∈ s.atts, a.2.call ≠ c.number) :
    ∃ W', See att s.now { W with now := s.now } ⟨1, c.number, s.launched + 1, 0, 0, c.deadline - s.now⟩ W' ∧ Rel (launch0 s c) W' ∧ W'.now = s.now ∧ W'.adm = W.adm ∧ W'.lau = W.lau ++ [s.now] := by
  obtain ⟨i, k, hA, kd, kh, ks, ka⟩ := h.co c hc
  have hil : i < W.calls.length := (List.getElem?_eq_some_iff.1 hA.1).1
  have hAt : ∀ {n j l}, At W n j l → ∃ l', At { W with now := s.now, calls := W.calls.set i { k with had := k.had + 1 }, atts := W.atts ++ [⟨i, s.now, true⟩], lau := W.lau ++ [s.now] } n j l' ∧ (j ≠ i → l' = l) ∧ (j = i → l' = { k with had := k.had + 1 }) := fun {n j l} hB => by
    by_cases e : j = i
    · subst e
      exact ⟨_, ⟨get_set_same hA.1, hA.2.1, (hA.eq hB).2 ▸ hA.2.2⟩, fun q => absurd rfl q, fun _ => rfl⟩
    · exact ⟨l, ⟨by show (W.calls.set i _)[j]? = _; rw [get_set_ne e]; exact hB.1, hB.2⟩, fun _ => rfl, fun q => absurd q e⟩
  have hAt' : ∀ {n j l}, At { W with now := s.now, calls := W.calls.set i { k with had := k.had + 1 }, atts := W.atts ++ [⟨i, s.now, true⟩], lau := W.lau ++ [s.now] } n j l → ∃ l', At W n j l' := fun {n j l} hB => by
    obtain ⟨b1, b2, b3⟩ := hB
    rcases set_get b1 with ⟨e1, e2, _⟩ | ⟨_, b1⟩
    · subst e1
      exact ⟨k, hA.1, hA.2.1, by rw [← b3, e2]⟩
    · exact ⟨l, b1, b2, b3⟩
  refine ⟨_, .launch i k rfl hA (by show s.launched + 1 = (W.atts.length : Int) + 1; rw [h.al]) (by show c.deadline - s.now = _; rw [kd]) (by show 1 ≤ c.deadline - s.now; omega) (by omega) ?_, ⟨Int.le_refl _, ?_, ?_, ?_, ?_, ?_, ?_⟩, rfl, rfl, rfl⟩
  · rcases hs with hs | hs
    · exact .inl (ks.trans hs)
    · cases hsf : c.safe with
      | true => exact .inl (ks.trans hsf)
      | false =>
        refine .inr ⟨ka hsf (fun q => q), fun x hx ho e => ?_⟩
        obtain ⟨m, hm, rfl⟩ := List.getElem_of_mem hx
        obtain ⟨a, ha, l, e', hB⟩ := h.att_call (List.getElem?_eq_getElem hm) ho
        rw [e] at hB
        exact hs a ha (hB.eq hA).2
  · intro d hd'
    rcases mem_upd_inv hd' with ⟨e, he, hn, rfl⟩ | ⟨hd1, hdn⟩
    · obtain rfl := hu e he hn
      exact ⟨i, _, ⟨get_set_same hA.1, hA.2⟩, kd, by show k.had + 1 = e.had + 1; rw [kh], ks, ka⟩
    · obtain ⟨j, l, hB, q⟩ := h.co d hd1
      have hji : j ≠ i := fun e => by
        subst e
        exact hdn (hB.eq hA).2
      exact ⟨j, l, ⟨by show (W.calls.set i _)[j]? = _; rw [get_set_ne hji]; exact hB.1, hB.2⟩, q⟩
  · intro j l hj ho
    have hx : ∃ l', At W l.number j l' := hAt' ⟨hj, ho, rfl⟩
    obtain ⟨l', hB⟩ := hx
    obtain ⟨d, hd', e⟩ := h.oc j l' hB.1 hB.2.1
    have h9 := mem_upd_of (n := c.number) (f := hadUp) hd'
    refine ⟨_, h9, ?_⟩
    rw [← hB.2.2, ← e]
    split <;> rfl
  · intro n j l j' l' hB hB'
    obtain ⟨_, q1⟩ := hAt' hB
    obtain ⟨_, q2⟩ := hAt' hB'
    exact h.un n _ _ _ _ q1 q2
  · show ((W.atts ++ [_]).length : Int) = s.launched + 1
    rw [List.length_append]
    have := h.al
    simp only [List.length_singleton]
    omega
  · intro a ha
    rcases List.mem_append.1 ha with ha | ha
    · obtain ⟨m, x, l, e, q1, q2, q3⟩ := h.ao a ha
      obtain ⟨l', hB, _⟩ := hAt q3
      refine ⟨m, x, l', e, ?_, q2, hB⟩
      show (W.atts ++ [_])[m]? = _
      rw [List.getElem?_append_left (List.getElem?_eq_some_iff.1 q1).1]
      exact q1
    · have e : a = (s.launched + 1, ⟨c.number, s.now⟩) := by simpa using ha
      subst e
      obtain ⟨l', hB, _⟩ := hAt hA
      refine ⟨W.atts.length, ⟨i, s.now, true⟩, l', by show s.launched + 1 = _; rw [h.al], by show (W.atts ++ [_])[W.atts.length]? = _; simp, rfl, hB⟩
  · intro m x hx ho
    have hx' : (W.atts ++ [⟨i, s.now, true⟩])[m]? = some x := hx
    by_cases hm : m < W.atts.length
    · rw [List.getElem?_append_left hm] at hx'
      obtain ⟨a, ha, e⟩ := h.oa m x hx' ho
      exact ⟨a, List.mem_append_left _ ha, e⟩
    · have hml : m < (W.atts ++ [(⟨i, s.now, true⟩ : WAtt)]).length := (List.getElem?_eq_some_iff.1 hx').1
      rw [List.length_append, List.length_singleton] at hml
      refine ⟨(s.launched + 1, ⟨c.number, s.now⟩), List.mem_append_right _ (by simp), ?_⟩
      show s.launched + 1 = (m : Int) + 1
      have := h.al
      omega

section
variable {N : Int} {s : PSt}

theorem i2_launch0 (h : Inv N s) (h2 : Inv2 s) {c : PCall} (hc : c ∈ s.calls) (hs : c.safe = true ∨ ∀ a ∈ s.atts, a.2.call ≠ c.number) : Inv2 (launch0 s c) := by
  have hsafe : ∀ d ∈ (launch0 s c).calls, ∃ e ∈ s.calls, e.number = d.number ∧ e.safe = d.safe := fun d hd => by
    rcases mem_upd_inv hd with ⟨e, he, _, rfl⟩ | ⟨hd1, _⟩
    · exact ⟨e, he, rfl, rfl⟩
    · exact ⟨d, hd1, rfl, rfl⟩
  refine ⟨?_, ?_, ?_, ?_⟩
  · intro t ht hk d hd e
    obtain ⟨d', hd', e1, e2⟩ := hsafe d hd
    rw [← e2]
    exact h2.hs t ht hk d' hd' (by rw [e1, e])
  · intro d hd
    obtain ⟨d', hd', e1, e2⟩ := hsafe d hd
    obtain ⟨t, ht, k1, k2⟩ := h2.dl d' hd'
    exact ⟨t, ht, k1, by rw [k2, e1]⟩
  · show ((s.atts ++ [(s.launched + 1, (⟨c.number, s.now⟩ : PAtt))]).map (·.1)).Nodup
    rw [List.map_append]
    refine nodup_snoc h2.an (fun hm => ?_)
    obtain ⟨a, ha, e⟩ := List.mem_map.1 hm
    have := (h.ab a ha).2.1
    have e' : a.1 = s.launched + 1 := e
    omega
  · intro d hd hsf a ha b hb ea eb
    obtain ⟨d', hd', e1, e2⟩ := hsafe d hd
    have hnew : d.number = c.number → ∀ y ∈ s.atts, y.2.call ≠ d.number := fun e y hy q => by
      have h9 : d' = c := h.same hd' hc (e1.trans e)
      rcases hs with hs | hs
      · rw [← h9, e2, hsf] at hs; cases hs
      · exact hs y hy (by rw [q, e])
    rcases List.mem_append.1 ha with ha | ha <;> rcases List.mem_append.1 hb with hb | hb
    · exact h2.u1 d' hd' (e2.trans hsf) a ha b hb (by rw [ea, e1]) (by rw [eb, e1])
    · have e : b = (s.launched + 1, ⟨c.number, s.now⟩) := by simpa using hb
      subst e
      exact absurd ea (hnew eb.symm a ha)
    · have e : a = (s.launched + 1, ⟨c.number, s.now⟩) := by simpa using ha
      subst e
      exact absurd eb (hnew ea.symm b hb)
    · have e : a = (s.launched + 1, ⟨c.number, s.now⟩) := by simpa using ha
      have e' : b = (s.launched + 1, ⟨c.number, s.now⟩) := by simpa using hb
      rw [e, e']

theorem i2_hedge (h2 : Inv2 s) {c : PCall} (hu : ∀ d ∈ s.calls, d.number = c.number → d.safe = c.safe) : Inv2 (setHedgeM s c) := by
  unfold setHedgeM
  split
  · rename_i hm
    refine ⟨?_, ?_, h2.an, h2.u1⟩
    · intro t ht hk d hd e
      rcases List.mem_append.1 ht with ht | ht
      · exact h2.hs t ht hk d hd e
      · have e' := List.mem_singleton.1 ht
        subst e'
        rw [hu d hd e]
        have := hm.1
        unfold mayHedgeM at this
        simp only [Bool.and_eq_true] at this
        exact this.1.1
    · intro d hd
      obtain ⟨t, ht, q⟩ := h2.dl d hd
      exact ⟨t, List.mem_append_left _ ht, q⟩
  · exact h2

theorem i2_launch (h : Inv N s) (h2 : Inv2 s) {c : PCall} (hc : c ∈ s.calls) (hs : c.safe = true ∨ ∀ a ∈ s.atts, a.2.call ≠ c.number) : Inv2 (launchM s c) := by
  unfold launchM
  refine i2_hedge (i2_launch0 h h2 hc hs) (fun d hd e => ?_)
  rcases mem_upd_inv hd with ⟨d', he, hn, rfl⟩ | ⟨_, hdn⟩
  · rw [h.same he hc hn]
  · exact absurd e hdn

theorem i2_finish (h2 : Inv2 s) (n : Int) : Inv2 (finishM s n) := by
  refine ⟨?_, ?_, h2.an.sublist (List.filter_sublist.map _), ?_⟩
  · intro t ht hk d hd e
    exact h2.hs t (List.mem_filter.1 ht).1 hk d (List.mem_filter.1 hd).1 e
  · intro d hd
    obtain ⟨hd1, hd2⟩ := List.mem_filter.1 hd
    obtain ⟨t, ht, k1, k2⟩ := h2.dl d hd1
    refine ⟨t, List.mem_filter.2 ⟨ht, ?_⟩, k1, k2⟩
    have : d.number ≠ n := by simpa using hd2
    unfold stays
    rw [k2]
    simpa using this
  · intro d hd hsf a ha b hb
    exact h2.u1 d (List.mem_filter.1 hd).1 hsf a (List.mem_filter.1 ha).1 b (List.mem_filter.1 hb).1

theorem i2_close (h2 : Inv2 s) (n : Int) : Inv2 (closeM s n) :=
  ⟨h2.hs, h2.dl, h2.an.sublist (List.filter_sublist.map _), fun d hd hsf a ha b hb => h2.u1 d hd hsf a (List.mem_filter.1 ha).1 b (List.mem_filter.1 hb).1⟩

theorem i2_noHedge (h2 : Inv2 s) (n : Int) : Inv2 (noHedge s n) :=
  ⟨fun t ht => h2.hs t (List.mem_filter.1 ht).1, fun d hd => by
    obtain ⟨t, ht, k1, k2⟩ := h2.dl d hd
    exact ⟨t, List.mem_filter.2 ⟨ht, by unfold staysH; rw [k1]; simp⟩, k1, k2⟩, h2.an, h2.u1⟩

theorem i2_again (h2 : Inv2 s) (c : PCall) (draw : Int) : Inv2 (againM s c draw) := by
  have hsafe : ∀ d ∈ (againM s c draw).calls, ∃ e ∈ s.calls, e.number = d.number ∧ e.safe = d.safe := fun d hd => by
    rcases mem_upd_inv hd with ⟨e, he, _, rfl⟩ | ⟨hd1, _⟩
    · exact ⟨e, he, rfl, rfl⟩
    · exact ⟨d, hd1, rfl, rfl⟩
  refine ⟨?_, ?_, h2.an, ?_⟩
  · intro t ht hk d hd e
    obtain ⟨d', hd', e1, e2⟩ := hsafe d hd
    rcases List.mem_append.1 ht with ht | ht
    · rw [← e2]
      exact h2.hs t ht hk d' hd' (by rw [e1, e])
    · have e' := List.mem_singleton.1 ht
      subst e'
      cases hk
  · intro d hd
    obtain ⟨d', hd', e1, e2⟩ := hsafe d hd
    obtain ⟨t, ht, k1, k2⟩ := h2.dl d' hd'
    exact ⟨t, List.mem_append_left _ ht, k1, by rw [k2, e1]⟩
  · intro d hd hsf a ha b hb ea eb
    obtain ⟨d', hd', e1, e2⟩ := hsafe d hd
    exact h2.u1 d' hd' (e2.trans hsf) a ha b hb (by rw [ea, e1]) (by rw [eb, e1])

theorem i2_wait (h2 : Inv2 s) (c : PCall) (draw : Int) : Inv2 (waitM s c draw) := by
  unfold waitM
  split
  · exact i2_finish (i2_noHedge h2 _) _
  · exact i2_again (i2_noHedge h2 _) _ _

theorem pop_mem {l : List PTimer} {t u : PTimer} (h : u ∈ l) (hs : (l.map (·.set)).Nodup) (ht : t ∈ l) (hne : u ≠ t) : u ∈ l.filter (fun v => v.set != t.set) := by
  refine List.mem_filter.2 ⟨h, ?_⟩
  have : u.set ≠ t.set := fun e => hne (nodup_inj (fun t : PTimer => t.set) hs h ht e)
  simpa using this

theorem i2_due (h : Inv N s) (h2 : Inv2 s) {t : PTimer} (ht : t ∈ s.timers) (hk : t.kind ≠ 1) : Inv2 (dueM s t) :=
  ⟨fun u hu => h2.hs u (List.mem_filter.1 hu).1, fun d hd => by
    obtain ⟨u, hu, k1, k2⟩ := h2.dl d hd
    exact ⟨u, pop_mem hu h.ts ht (fun e => hk (by rw [← e]; exact k1)), k1, k2⟩, h2.an, h2.u1⟩

theorem i2_due_finish (h : Inv N s) (h2 : Inv2 s) {t : PTimer} (ht : t ∈ s.timers) : Inv2 (finishM (dueM s t) t.call) := by
  refine ⟨?_, ?_, h2.an.sublist (List.filter_sublist.map _), ?_⟩
  · intro u hu hk d hd e
    exact h2.hs u (List.mem_filter.1 (List.mem_filter.1 hu).1).1 hk d (List.mem_filter.1 hd).1 e
  · intro d hd
    obtain ⟨hd1, hd2⟩ := List.mem_filter.1 hd
    have hdn : d.number ≠ t.call := by simpa using hd2
    obtain ⟨u, hu, k1, k2⟩ := h2.dl d hd1
    refine ⟨u, List.mem_filter.2 ⟨pop_mem hu h.ts ht (fun e => hdn (by rw [← e]; exact k2.symm)), ?_⟩, k1, k2⟩
    unfold stays
    rw [k2]
    simpa using hdn
  · intro d hd hsf a ha b hb
    exact h2.u1 d (List.mem_filter.1 hd).1 hsf a (List.mem_filter.1 ha).1 b (List.mem_filter.1 hb).1
end

theorem RelX.of {ex : Int → Prop} {s s' : PSt} {W : WSt} (h : RelX ex s W) (e1 : s'.calls = s.calls) (e2 : s'.atts = s.atts) (e3 : s'.launched = s.launched) (e4 : s.now ≤ s'.now) : RelX ex s' W :=
  ⟨Int.le_trans h.nw e4, by rw [e1]; exact h.co, by rw [e1]; exact h.oc, h.un, by rw [e3]; exact h.al, by rw [e2]; exact h.ao, by rw [e2]; exact h.oa⟩

/-- What the units and the lists of times must keep. -/
structure Keeps (Bd : PSt → List Int → List Int → Prop) : Prop where
  same : ∀ {s s' : PSt} {m l : List Int}, Bd s m l → s'.cfg = s.cfg → s'.now = s.now → s'.units = s.units → Bd s' m l
  go : ∀ {s : PSt} {m l : List Int} {N : Int} (t : Int), Bd s m l → Inv N s → s.now ≤ t → Bd (goToM s t) m l
  take : ∀ {s : PSt} {m l : List Int} {N : Int}, Bd s m l → Inv N s → s.cfg.cost ≤ sumB s.units → Bd (takeM s) m (l ++ [s.now])
  admit : ∀ {s : PSt} {m l : List Int} {N : Int}, Bd s m l → Inv N s → Bd (bringM s) (m ++ [s.now]) (l ++ [s.now])

structure Held (Bd : PSt → List Int → List Int → Prop) (s : PSt) (W : WSt) : Prop where
  rel : Rel s W
  i2 : Inv2 s
  bd : Bd s W.adm W.lau

section
variable {Bd : PSt → List Int → List Int → Prop} {N : Int} {s : PSt} {W : WSt}

theorem rel_ring (K : Keeps Bd) (hI : Inv N s) (H : Held Bd s W) {t : PTimer} (ht : firstT s.timers = some t) {til : Int} (hle : t.due ≤ til) :
    ∃ W', Run s.cfg.attempts true til W (ringA (dueM s t) t) W' ∧ Held Bd (ringM (dueM s t) t) W' := by
  obtain ⟨c, hc, e, hf, r1, r2, r3⟩ := due_call hI ht
  have hm := (firstT_some ht).1
  have hdue := inv_due hI ht
  have hR : Rel (dueM s t) W := H.rel.of rfl rfl rfl (hI.tb t hm).1
  have hB : Bd (dueM s t) W.adm W.lau := K.go t.due (K.same H.bd rfl rfl rfl : Bd (popM s t) _ _) (inv_pop hI t) (hI.tb t hm).1
  have hu : ∀ d ∈ s.calls, d.number = c.number → d = c := fun d hd q => hI.same hd hc q
  unfold ringM ringA
  rw [hf]
  dsimp only
  unfold ringM1 ringA1
  by_cases k1 : t.kind = 1
  · rw [if_pos k1, if_pos k1]
    have h2f := i2_due_finish hI H.i2 hm
    obtain ⟨W', q1, q2, _, q3, q4⟩ := rel_finish (att := s.cfg.attempts) (adv := true) (til := til) hR H.i2.an hc (fun n q => q.elim) 3 0 (by omega) (by omega) (by show t.due ≤ _; rw [r2 k1]; exact Int.le_refl _) (fun _ => r2 k1) (fun q => by cases q) (fun _ => hle)
    refine ⟨W', q1, q2, by rw [e]; exact h2f, by rw [q3, q4]; exact K.same hB rfl rfl rfl⟩
  · rw [if_neg k1, if_neg k1]
    have h2d := i2_due hI H.i2 hm k1
    obtain ⟨a1, a2⟩ := r1 k1
    by_cases hcost : (dueM s t).cfg.cost ≤ sumB (dueM s t).units
    · rw [if_pos hcost, if_pos hcost]
      have hsafe : c.safe = true ∨ ∀ a ∈ s.atts, a.2.call ≠ c.number := by
        rcases (hI.tb t hm).2.2.1 with q | q | q
        · exact absurd q k1
        · exact .inr (fun a ha => by rw [e]; exact hI.tw t hm q a ha)
        · exact .inl (H.i2.hs t hm q c hc e)
      obtain ⟨W', q1, q2, q3, q4, q5⟩ := see_launch (s := takeM (dueM s t)) (W := W) (att := s.cfg.attempts) (hR.of rfl rfl rfl (Int.le_refl _)) (c := c) hc hu a1 (by show t.due < _; exact a2) hsafe
      obtain ⟨i, k, hA, kd, kh, ks, ka⟩ := hR.co c hc
      have hB2 := K.take hB hdue hcost
      refine ⟨W', ?_, q2.of ?_ ?_ ?_ ?_, ?_, ?_⟩
      · refine .adv _ _ _ t.due _ _ rfl ?_ (Int.le_trans H.rel.nw (hI.tb t hm).1) hle q1 (.nil _)
        have h9 := When.launch (W := W) (a := ⟨1, c.number, (takeM (dueM s t)).launched + 1, 0, 0, c.deadline - (takeM (dueM s t)).now⟩) i k rfl hA
        have h8 : k.deadline - (c.deadline - t.due) = t.due := by rw [kd]; omega
        rw [show (⟨1, c.number, (takeM (dueM s t)).launched + 1, 0, 0, c.deadline - (takeM (dueM s t)).now⟩ : RAct).left = c.deadline - t.due from rfl, h8] at h9
        exact h9
      · exact (setHedgeM_same _ _).2.2.2.1
      · exact (setHedgeM_same _ _).2.2.2.2.1
      · exact (setHedgeM_same _ _).2.2.2.2.2.1
      · show _ ≤ (setHedgeM _ _).now
        rw [(setHedgeM_same _ _).2.1]
        exact Int.le_refl _
      · exact i2_launch (inv_take hdue) ⟨h2d.hs, h2d.dl, h2d.an, h2d.u1⟩ hc hsafe
      · rw [q4, q5]
        exact K.same hB2 (setHedgeM_same _ _).1 (setHedgeM_same _ _).2.1 (setHedgeM_same _ _).2.2.1
    · rw [if_neg hcost, if_neg hcost]
      have htk : (takeM (dueM s t)).units = (dueM s t).units := by
        unfold takeM
        dsimp only
        rw [if_neg hcost]
      have hBt : Bd (takeM (dueM s t)) W.adm W.lau := K.same hB rfl rfl htk
      by_cases k3 : t.kind = 3
      · rw [if_pos k3, if_pos k3]
        exact ⟨W, .nil _, hR.of rfl rfl rfl (Int.le_refl _), ⟨h2d.hs, h2d.dl, h2d.an, h2d.u1⟩, hBt⟩
      · rw [if_neg k3, if_neg k3]
        have hR2 : Rel (takeM (dueM s t)) W := hR.of rfl rfl rfl (Int.le_refl _)
        have h2t : Inv2 (takeM (dueM s t)) := ⟨h2d.hs, h2d.dl, h2d.an, h2d.u1⟩
        obtain ⟨W', q1, q2, _, q3, q4⟩ := rel_finish (att := s.cfg.attempts) (adv := true) (til := til) hR2 h2t.an hc (fun n q => q.elim) 2 0 (by omega) (by omega) (by show t.due ≤ _; omega) (fun q => by omega) (fun q => by cases q) (fun _ => hle)
        exact ⟨W', q1, q2, i2_finish h2t _, by rw [q3, q4]; exact K.same hBt rfl rfl rfl⟩
end

end Go.Proofs.YtlccfpbbdgpjbaaGreatDoor
