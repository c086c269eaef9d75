import Derived.Test.YtlccfpbbdgpjbaaGreatDoorRows
import Derived.StillTail
import Derived.OrdersHeld
namespace Go.Proofs.YtlccfpbbdgpjbaaGreatDoor
open Go

section
variable {P : Program} {ops : Array Oper} {Q : Exit → Act → World → Prop} {md : Region.Mode} {S : World → Prop} {k : Nat}

/-- Whatever order is picked from here on; S holds behind every operation but number k. -/
def wpAnyK (P : Program) (md : Region.Mode) (ops : Array Oper) (Q : Exit → Act → World → Prop) (S : World → Prop) (k : Nat) : Nat → Array Bool → Act → World → Prop
  | 0, listed, a, w => Region.ready md ops listed = [] ∧ Q .normal a w
  | fuel + 1, listed, a, w =>
    (Region.ready md ops listed = [] → Q .normal a w) ∧
    ∀ i ∈ Region.ready md ops listed, wpOp P ops Q i (fun a' w' => (i = k ∨ S w') ∧ wpAnyK P md ops Q S k fuel (listed.setIfInBounds i true) a' w') a w

theorem wpAny_of_K : ∀ (fuel : Nat) (listed : Array Bool) (a : Act) (w : World), wpAnyK P md ops Q S k fuel listed a w → wpAny P md ops Q fuel listed a w
  | 0, _, _, _, h => h
  | fuel + 1, _, _, _, h => ⟨h.1, fun i hi => wpOp_mono (fun a' w' h' => wpAny_of_K fuel _ a' w' h'.2) (h.2 i hi)⟩

/-- Number k waits for number i, by whatever way. -/
def reachB (md : Region.Mode) (ops : Array Oper) : Nat → Nat → Nat → Bool
  | 0, k, i => Region.waitsFor md ops k i
  | f + 1, k, i => Region.waitsFor md ops k i || (List.range ops.size).any fun j => Region.waitsFor md ops k j && reachB md ops f j i

/-- What has come up has come up behind all that it waits for. -/
def Closed (md : Region.Mode) (ops : Array Oper) (listed : Array Bool) : Prop :=
  ∀ j oj, ops[j]? = some oj → listed.getD j false = true → ∀ e ∈ oj.after, Region.binds md e = true → listed.getD e.on false = true
theorem Closed.set {i : Nat} {listed : Array Bool} (h : Closed md ops listed) (hi : i ∈ Region.ready md ops listed) : Closed md ops (listed.setIfInBounds i true) := by
  obtain ⟨_, oi, hoi, hall⟩ := mem_ready.1 hi
  intro j oj hj hl e he hb
  by_cases hij : i = j
  · subst hij
    have : oj = oi := Option.some.inj (hj.symm.trans hoi)
    subst this
    exact getD_set_true (hall e he hb)
  · rw [getD_set_ne false hij] at hl
    exact getD_set_true (h j oj hj hl e he hb)
theorem reach_listed {listed : Array Bool} (h : Closed md ops listed) {i : Nat} : ∀ (f k : Nat), (∀ o, ops[k]? = some o → ∀ e ∈ o.after, Region.binds md e = true → listed.getD e.on false = true) → reachB md ops f k i = true → listed.getD i false = true
  | 0, k, hk, hr => by
    obtain ⟨o, ho, e, he, hb, hon⟩ := Region.waitsFor_spec hr
    rw [← hon]
    exact hk o ho e he hb
  | f + 1, k, hk, hr => by
    simp only [reachB, Bool.or_eq_true, List.any_eq_true, Bool.and_eq_true] at hr
    rcases hr with hr | ⟨j, _, hw, hr⟩
    · obtain ⟨o, ho, e, he, hb, hon⟩ := Region.waitsFor_spec hr
      rw [← hon]
      exact hk o ho e he hb
    · obtain ⟨o, ho, e, he, hb, hon⟩ := Region.waitsFor_spec hw
      have hj : listed.getD j false = true := by rw [← hon]; exact hk o ho e he hb
      exact reach_listed h f j (fun oj hoj e' he' hb' => h j oj hoj hj e' he' hb') hr

theorem wpAnyK_first {i : Nat} {oi : Oper} {v : Value} (hi : ops[i]? = some oi) (hsel : ∀ (j : Nat) (o : Oper) cs b, ops[j]? = some o → o.op ≠ .select cs b)
    (hQ : ∀ c a w, Q (.panic c) (a.put oi.dst v) w → Q (.panic c) a w) {f : Nat} (hwait : reachB md ops f k i = true) :
    ∀ (fuel : Nat) (listed : Array Bool) (a : Act) (w : World), Closed md ops listed →
      (∀ j oj, ops[j]? = some oj → j ≠ i → listed.getD j true = false → (∀ e ∈ oj.after, Region.binds md e = true → e.on ≠ i) → oi.apart ops oj = true) →
      i ∈ Region.ready md ops listed → YieldsIf P ops S oi v a → S w →
      wpAnyK P md ops Q S k fuel (listed.setIfInBounds i true) (a.put oi.dst v) w → wpAnyK P md ops Q S k (fuel + 1) listed a w := by
  have hno : ∀ listed, Closed md ops listed → i ∈ Region.ready md ops listed → k ∉ Region.ready md ops listed := fun listed hcl hr hk => by
    obtain ⟨_, ok, hok, hall⟩ := mem_ready.1 hk
    have h1 := reach_listed hcl f k (fun o ho e he hb => by
      have : o = ok := Option.some.inj (ho.symm.trans hok)
      subst this
      exact hall e he hb) hwait
    rw [getD_both (mem_ready.1 hr).1] at h1
    cases h1
  intro fuel
  induction fuel with
  | zero =>
    intro listed a w _ _ hr hy hS H
    refine ⟨fun h => (by rw [h] at hr; cases hr), fun j hj => ?_⟩
    by_cases hji : j = i
    · subst hji; exact hy.wpOp hi hS ⟨.inr hS, H⟩
    · have := ready_mono hj hji
      rw [H.1] at this
      cases this
  | succ fuel ih =>
    intro listed a w hcl hfree hr hy hS H
    refine ⟨fun h => (by rw [h] at hr; cases hr), fun j hj => ?_⟩
    by_cases hji : j = i
    · subst hji; exact hy.wpOp hi hS ⟨.inr hS, H⟩
    · have h1 := H.2 j (ready_mono hj hji)
      obtain ⟨hjun, oj, hoj, hall⟩ := mem_ready.1 hj
      have hjk : j ≠ k := fun e => hno listed hcl hr (e ▸ hj)
      have hnot : ∀ e ∈ oj.after, Region.binds md e = true → e.on ≠ i := fun e he hb heq => by
        have h1 := hall e he hb
        rw [heq, getD_both (mem_ready.1 hr).1] at h1
        cases h1
      have h2 := wpOp_putIf hoj (hfree j oj hoj hji hjun hnot) (fun cs b => hsel i oi cs b hi) (fun cs b => hsel j oj cs b hoj) hQ hy h1
      have hfree' : ∀ q oq, ops[q]? = some oq → q ≠ i → (listed.setIfInBounds j true).getD q true = false →
          (∀ e ∈ oq.after, Region.binds md e = true → e.on ≠ i) → oi.apart ops oq = true := fun q oq hq hqi hun hno => by
        refine hfree q oq hq hqi ?_ hno
        by_cases hjq : j = q
        · subst hjq; exact hjun
        · rw [getD_set_ne true hjq] at hun; exact hun
      refine wpOp_mono (fun a' w' h3 => ?_) h2
      have hS' : S w' := h3.2.1.resolve_left hjk
      refine ⟨.inr hS', ih (listed.setIfInBounds j true) a' w' (hcl.set hj) hfree' (ready_mono hr (Ne.symm hji)) h3.1 hS' ?_⟩
      rw [Array.setIfInBounds_comm _ _ hji]
      exact h3.2.2

/-- The walk in the order of the text: 'reads' tells what is taken first. -/
def wpLexK (P : Program) (ops : Array Oper) (Q : Exit → Act → World → Prop) (S : World → Prop) (k : Nat) (reads : Nat → Bool) : List Oper → Nat → Act → World → Prop
  | [], _, a, w => Q .normal a w
  | o :: r, i, a, w =>
    if reads i = true then ∃ v, YieldsIf P ops S o v a ∧ S w ∧ (∀ c a w, Q (.panic c) (a.put o.dst v) w → Q (.panic c) a w) ∧ wpLexK P ops Q S k reads r (i + 1) (a.put o.dst v) w
    else wpOp P ops Q i (fun a' w' => (i = k ∨ S w') ∧ wpLexK P ops Q S k reads r (i + 1) a' w') a w

def lexKB (md : Region.Mode) (ops : Array Oper) (k : Nat) (reads : Nat → Bool) : Nat → Nat → Array Bool → Bool
  | 0, _, listed => (Region.ready md ops listed).isEmpty
  | f + 1, i, listed =>
    (if reads i then (Region.ready md ops listed).contains i && Region.free md ops listed i && reachB md ops 6 k i else decide (Region.ready md ops listed = [i])) && lexKB md ops k reads f (i + 1) (listed.setIfInBounds i true)

theorem wpAnyK_lex (hsel : Region.noSelect ops = true) (reads : Nat → Bool) : ∀ (l : List Oper) (i : Nat) (listed : Array Bool) (a : Act) (w : World), Closed md ops listed → (∀ j, l[j]? = ops[i + j]?) →
    lexKB md ops k reads l.length i listed = true → wpLexK P ops Q S k reads l i a w → wpAnyK P md ops Q S k l.length listed a w
  | [], _, _, _, _, _, _, hB, h => ⟨by simpa [lexKB] using hB, h⟩
  | o :: l, i, listed, a, w, hcl, hl, hB, h => by
    have h0 : ops[i]? = some o := by simpa using (hl 0).symm
    have hl' : ∀ j, l[j]? = ops[i + 1 + j]? := fun j => by have := hl (j + 1); simpa [Nat.add_assoc, Nat.add_comm 1 j] using this
    simp only [List.length_cons, lexKB, Bool.and_eq_true] at hB
    obtain ⟨hB1, hB2⟩ := hB
    unfold wpLexK at h
    by_cases hr : reads i = true
    · rw [if_pos hr] at h hB1
      obtain ⟨v, hy, hS, hQ, hrest⟩ := h
      simp only [Bool.and_eq_true] at hB1
      have hri : i ∈ Region.ready md ops listed := by simpa using hB1.1.1
      exact wpAnyK_first h0 (Region.noSelect_spec hsel) hQ hB1.2 l.length listed a w hcl (Region.free_spec h0 hB1.1.2) hri hy hS (wpAnyK_lex hsel reads l (i + 1) _ _ w (hcl.set hri) hl' hB2 hrest)
    · rw [if_neg hr] at h hB1
      have hB1' : Region.ready md ops listed = [i] := by simpa using hB1
      refine ⟨fun h1 => (by rw [hB1'] at h1; cases h1), fun j hj => ?_⟩
      rw [hB1'] at hj
      have hji : j = i := by simpa using hj
      subst hji
      have hri : j ∈ Region.ready md ops listed := by rw [hB1']; simp
      exact wpOp_mono (fun a' w' h' => ⟨h'.1, wpAnyK_lex hsel reads l (j + 1) _ a' w' (hcl.set hri) hl' hB2 h'.2⟩) h

theorem wp_region_lexK {id : Nat} {a : Act} {w : World} {l : List Oper} (S : World → Prop) (k : Nat) (reads : Nat → Bool) (hm : P.follows .mixedOrders = true) (hsel : Region.noSelect l.toArray = true)
    (hB : lexKB .any l.toArray k reads l.length 0 (Array.replicate l.length false) = true) (h : wpLexK P l.toArray Q S k reads l 0 a { w with drawn := w.drawn + 1 }) : (Code.region id l.toArray true).wp P Q a w := by
  refine wp_region_any hm ?_
  have := wpAny_of_K _ _ _ _ (wpAnyK_lex (md := .any) (k := k) (S := S) hsel reads l 0 (Array.replicate l.length false) a { w with drawn := w.drawn + 1 } (fun j oj _ hl => by rw [getD_replicate_false] at hl; cases hl) (fun j => by simp) hB h)
  simpa using this

/-- Taken first. -/
theorem lexK_read {reads : Nat → Bool} {o : Oper} {r : List Oper} {i : Nat} {a : Act} {w : World} {v : Value} (hr : reads i = true) (hw : Region.wanted o (yielded ops a.tmps) = true) (hy : ∀ w, S w → (execOp a.eval o).run P w = .ok (.value v) w) (hS : S w)
    (hQ : ∀ c a w, Q (.panic c) (a.put o.dst v) w → Q (.panic c) a w) (h : wpLexK P ops Q S k reads r (i + 1) (a.put o.dst v) w) : wpLexK P ops Q S k reads (o :: r) i a w := by
  unfold wpLexK
  rw [if_pos hr]
  exact ⟨v, .inl ⟨hw, hy⟩, hS, hQ, h⟩
/-- Carried out in its turn. -/
theorem lexK_turn {reads : Nat → Bool} {o : Oper} {r : List Oper} {i : Nat} {a : Act} {w : World} (hr : reads i = false) (ho : ops[i]? = some o) (hg : o.guard = none) (h : o.wp P a w (fun a' w' => (i = k ∨ S w') ∧ wpLexK P ops Q S k reads r (i + 1) a' w') Q) : wpLexK P ops Q S k reads (o :: r) i a w := by
  unfold wpLexK
  rw [if_neg (by rw [hr]; simp)]
  unfold wpOp
  rw [ho]
  simp only [Region.wanted, hg, if_true]
  exact .inl h
theorem lexK_end {reads : Nat → Bool} {i : Nat} {a : Act} {w : World} (h : Q .normal a w) : wpLexK P ops Q S k reads [] i a w := h
end
end Go.Proofs.YtlccfpbbdgpjbaaGreatDoor
