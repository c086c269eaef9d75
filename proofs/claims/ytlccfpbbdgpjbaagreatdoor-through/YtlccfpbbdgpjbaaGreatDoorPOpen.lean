/-
  openAttempts: the numbers of a call's open attempts.
-/
import Derived.Test.YtlccfpbbdgpjbaaGreatDoorPMap
namespace Go.Proofs.YtlccfpbbdgpjbaaGreatDoor
open Go.RowKit Go.Maps

structure PAtt where
  call : Int
  launched : Int
def attV (a : PAtt) : Value := .agg #[.int .i64 a.call, .int .i64 a.launched]
def okPair : List Value → Bool
  | [.int .i64 _, .int .i64 _] => true
  | _ => false
def okAtt : Value → Bool
  | .agg cs => okPair cs.toList
  | _ => false
theorem okAtt_mk (a : PAtt) : okAtt (attV a) = true := rfl
theorem okAtt_inv {v : Value} (h : okAtt v = true) : ∃ a, v = attV a := by
  unfold okAtt at h
  split at h
  · rename_i cs
    unfold okPair at h
    split at h
    · rename_i x y e
      exact ⟨⟨x, y⟩, by unfold attV; rw [← e]⟩
    · cases h
  · cases h

def encI (n : Int) : List Value := [.int .i64 n]
theorem encI_len (n : Int) : (encI n).length = 1 := rfl

/-- The attempts that are open, by their numbers. -/
def attL (l : List (Int × PAtt)) : List (Int × Value) := l.map (fun p => (p.1, attV p.2))
/-- Those of one call that have come by. -/
def ofCall (call : Int) (left : Lit → Bool) (l : List (Int × PAtt)) : List Int := (l.filter (fun p => !left (.int .i64 p.1) && p.2.call == call)).map (·.1)

theorem mget_attL {l : List (Int × PAtt)} {k : Int} {v : Value} (h : mget (attL l) k = some v) : ∃ p ∈ l, p.1 = k ∧ v = attV p.2 := by
  unfold mget at h
  obtain ⟨q, hq, rfl⟩ := Option.map_eq_some_iff.1 h
  have h1 := List.mem_of_find?_eq_some hq
  have h2 := List.find?_some hq
  obtain ⟨p, hp, rfl⟩ := List.mem_map.1 h1
  exact ⟨p, hp, by simpa using h2, rfl⟩

theorem sameKey_int (x y : Int) : (Lit.int .i64 x).sameKey (.int .i64 y) = (x == y) := by
  by_cases h : x = y
  · subst h
    simp [Lit.sameKey]
  · rw [sameKey_ne (int_ne h), beq_eq_false_iff_ne.2 h]

/-- One more has come by. -/
theorem ofCall_step (call : Int) (left : Lit → Bool) : ∀ (l : List (Int × PAtt)) (x : Int) (a : PAtt), (l.map (·.1)).Nodup → (x, a) ∈ l → left (.int .i64 x) = true →
    (ofCall call (fun z => left z && !z.sameKey (.int .i64 x)) l).Perm (ofCall call left l ++ (if a.call == call then [x] else [])) := by
  intro l
  induction l with
  | nil => intro x a _ h; cases h
  | cons p r ih =>
    intro x a hn hm hl
    rw [List.map_cons, List.nodup_cons] at hn
    rcases List.mem_cons.1 hm with rfl | hm
    · have hr : ofCall call (fun z => left z && !z.sameKey (.int .i64 x)) r = ofCall call left r := by
        unfold ofCall
        rw [List.filter_congr]
        intro q hq
        have : q.1 ≠ x := fun e => hn.1 (List.mem_map.2 ⟨q, hq, e⟩)
        dsimp only
        rw [sameKey_int, beq_eq_false_iff_ne.2 this]
        simp
      have h1 : ofCall call left ((x, a) :: r) = ofCall call left r := by
        unfold ofCall
        rw [List.filter_cons_of_neg (by simp [hl])]
      rw [h1]
      unfold ofCall at hr ⊢
      rw [List.filter_cons]
      simp only [sameKey_int, beq_self_eq_true, Bool.not_true, Bool.and_false, Bool.not_false, Bool.true_and]
      cases hc : a.call == call
      · simp only [Bool.false_eq_true, if_false, List.append_nil]
        simp only [sameKey_int] at hr
        rw [hr]
      · simp only [if_true, List.map_cons]
        simp only [sameKey_int] at hr
        rw [hr]
        exact (List.perm_append_singleton x _).symm
    · have hne : p.1 ≠ x := fun e => hn.1 (List.mem_map.2 ⟨(x, a), hm, e.symm⟩)
      have ih' := ih x a hn.2 hm hl
      unfold ofCall at ih' ⊢
      rw [List.filter_cons, List.filter_cons]
      have he : (!(left (Lit.int .i64 p.1) && !(Lit.int .i64 p.1).sameKey (Lit.int .i64 x)) && p.2.call == call) = (!left (Lit.int .i64 p.1) && p.2.call == call) := by
        rw [sameKey_int, beq_eq_false_iff_ne.2 hne]
        simp
      rw [he]
      split
      · rw [List.map_cons, List.map_cons, List.cons_append]
        exact ih'.cons _
      · exact ih'

theorem ofCall_start (call : Int) (l : List (Int × PAtt)) (left : Lit → Bool) (h : ∀ p ∈ l, left (.int .i64 p.1) = true) : ofCall call left l = [] := by
  unfold ofCall
  rw [List.filter_eq_nil_iff.2]
  · rfl
  · intro p hp
    simp [h p hp]
theorem ofCall_end (call : Int) (l : List (Int × PAtt)) (left : Lit → Bool) (h : ∀ kl, left kl = false) : ofCall call left l = (l.filter (fun p => p.2.call == call)).map (·.1) := by
  unfold ofCall
  simp [h]

theorem grown_drewN (w : World) (n : Nat) : w.grownBy (w.drewN n) none := ⟨rfl, rfl, rfl, Nat.le_refl _, fun _ _ _ => rfl⟩
end Go.Proofs.YtlccfpbbdgpjbaaGreatDoor
