import Derived.Test.YtlccfpbbdgpjbaaGreatDoorRLost
import Derived.Deep.LoopGhost
namespace Go.Proofs.YtlccfpbbdgpjbaaGreatDoor
open Go.RowKit

def rPickV : Option (Nat × Int) → Int
  | none => -1
  | some (k, _) => k
theorem pickTo_none (til : Int) (l : List RTimer) (i : Nat) (h : i < l.length) : pickTo til (l.drop i) i none = pickTo til (l.drop (i + 1)) (i + 1) (if l[i].due ≤ til then some (i, l[i].due) else none) := by
  rw [List.drop_eq_getElem_cons h]
  rfl
theorem pickTo_some (til : Int) (l : List RTimer) (i : Nat) (h : i < l.length) (k : Nat) (d : Int) : pickTo til (l.drop i) i (some (k, d)) = pickTo til (l.drop (i + 1)) (i + 1) (if l[i].due ≤ til ∧ l[i].due < d then some (i, l[i].due) else some (k, d)) := by
  rw [List.drop_eq_getElem_cons h]
  rfl

/-- The best so far is an entry of the list, and due. -/
def BestOk (til : Int) (l : List RTimer) (b : Option (Nat × Int)) : Prop := ∀ k d, b = some (k, d) → ∃ h : k < l.length, l[k].due = d ∧ d ≤ til

/-- A call that is open, by its number. -/
structure OpenCall (s : St) (call : Int) : Prop where
  lt : (findI s.calls call).toNat < s.calls.length
  pos : 0 ≤ findI s.calls call
  num : (callAt s call).number = call
  had0 : 0 ≤ (callAt s call).had
  had1 : (callAt s call).had ≤ 1000
  dl0 : 0 ≤ (callAt s call).deadline
  dl1 : (callAt s call).deadline ≤ 1099511627776

/-- What a round of advance asks of a client. -/
structure GoodAt (s : St) (til : Int) : Prop where
  l1 : s.calls.length ≤ 90000000
  l2 : s.atts.length ≤ 10000000
  l3 : s.out.length ≤ 10000000
  l4 : s.timers.length ≤ 90000000
  l5 : s.units.length ≤ 90000000
  hu : UnitsOk s.units
  n0 : 0 ≤ s.now
  n1 : s.now ≤ 1099511627776
  cost : 0 ≤ s.cfg.cost
  rank0 : 1 ≤ s.cfg.rank
  rank1 : s.cfg.rank ≤ 100
  smp0 : 0 ≤ s.cfg.samples
  tml : s.times.length ≤ 32
  tmb : ∀ t ∈ s.times, 0 ≤ t ∧ t ≤ 1099511627776
  b1 : 0 ≤ s.numbers
  b2 : s.numbers ≤ 1000000000
  tim : ∀ t ∈ s.timers, t.due ≤ til → 0 ≤ t.due ∧ t.due ≤ 1099511627776 ∧ (t.kind = 0 ∨ t.kind = 1 ∨ t.kind = 2) ∧ (t.kind ≠ 0 → OpenCall s t.call)

/-- What a round of advance keeps, and that there is an end. -/
structure Goes (til : Int) (G : St → Prop) : Prop where
  ok : ∀ s, G s → GoodAt s til
  next : ∀ s t k d, G s → pickTo til s.timers 0 none = some (k, d) → s.timers[k]? = some t → G (adv1 s t) ∧ turnsR (adv1 s t) < turnsR s

theorem rAdvF_none (til : Int) (f : Nat) (s : St) (h : pickTo til s.timers 0 none = none) : rAdvF til f s = { s with now := til } := by
  cases f with
  | zero => rfl
  | succ f =>
    unfold rAdvF
    rw [h]
theorem rAdvF_more {til : Int} {G : St → Prop} (hG : Goes til G) : ∀ (f g : Nat) (s : St), G s → turnsR s ≤ f → turnsR s ≤ g → rAdvF til f s = rAdvF til g s := by
  intro f
  induction f with
  | zero =>
    intro g s h0 h _
    cases hp : pickTo til s.timers 0 none with
    | none => rw [rAdvF_none _ _ _ hp, rAdvF_none _ _ _ hp]
    | some kd =>
      obtain ⟨k, d⟩ := kd
      cases hk : s.timers[k]? with
      | none =>
        cases g with
        | zero => rfl
        | succ g => conv => rhs; unfold rAdvF
                    rw [hp]; dsimp only; rw [hk]; rfl
      | some t =>
        have := (hG.next s t k d h0 hp hk).2
        omega
  | succ f ih =>
    intro g s h0 h hg
    cases hp : pickTo til s.timers 0 none with
    | none => rw [rAdvF_none _ _ _ hp, rAdvF_none _ _ _ hp]
    | some kd =>
      obtain ⟨k, d⟩ := kd
      cases hk : s.timers[k]? with
      | none =>
        cases g with
        | zero => conv => lhs; unfold rAdvF
                  rw [hp]; dsimp only; rw [hk]; rfl
        | succ g => unfold rAdvF
                    rw [hp]; dsimp only; rw [hk]
      | some t =>
        obtain ⟨h1, h2⟩ := hG.next s t k d h0 hp hk
        cases g with
        | zero => omega
        | succ g =>
          unfold rAdvF
          rw [hp]
          dsimp only
          rw [hk]
          exact ih g (adv1 s t) h1 (by omega) (by omega)
theorem rAdvF_step {til : Int} {G : St → Prop} (hG : Goes til G) {s : St} (h0 : G s) {k : Nat} {d : Int} {t : RTimer} (h : pickTo til s.timers 0 none = some (k, d)) (hk : s.timers[k]? = some t) : rAdvF til (turnsR s) s = rAdvF til (turnsR (adv1 s t)) (adv1 s t) := by
  obtain ⟨h1, h2⟩ := hG.next s t k d h0 h hk
  cases hn : turnsR s with
  | zero => omega
  | succ n =>
    conv => lhs; unfold rAdvF
    rw [h]
    dsimp only
    rw [hk]
    exact rAdvF_more hG n _ _ h1 (by omega) (Nat.le_refl _)
end Go.Proofs.YtlccfpbbdgpjbaaGreatDoor
