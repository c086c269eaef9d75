/-
  Timers of the program, as plain lists: the heap's order.
-/
import Derived.Test.YtlccfpbbdgpjbaaGreatDoorRMem
namespace Go.Proofs.YtlccfpbbdgpjbaaGreatDoor

structure PTimer where
  kind : Int
  call : Int
  due : Int
  set : Int
deriving Inhabited

def encPT (t : PTimer) : List Value := [.int .i64 t.kind, .int .i64 t.call, .int .i64 t.due, .int .i64 t.set]
theorem encPT_len (t : PTimer) : (encPT t).length = 4 := rfl

/-- t comes before u. -/
def PTimer.lt (t u : PTimer) : Prop := t.due < u.due ∨ (t.due = u.due ∧ t.set < u.set)
instance (t u : PTimer) : Decidable (t.lt u) := inferInstanceAs (Decidable (_ ∨ _))

theorem PTimer.le_trans {a b c : PTimer} (h1 : ¬ b.lt a) (h2 : ¬ c.lt b) : ¬ c.lt a := by
  unfold PTimer.lt at *
  omega
theorem PTimer.lt_asymm {a b : PTimer} (h1 : a.lt b) : ¬ b.lt a := by
  unfold PTimer.lt at *
  omega
theorem PTimer.lt_irrefl (a : PTimer) : ¬ a.lt a := by
  unfold PTimer.lt
  omega

/-- What stands at a place. -/
def pt (xs : List PTimer) (i : Nat) : PTimer := xs.getD i default
theorem pt_get {xs : List PTimer} {i : Nat} (h : i < xs.length) : pt xs i = xs[i] := by
  simp [pt, h]

def swapL (xs : List PTimer) (i j : Nat) : List PTimer := (xs.set i (pt xs j)).set j (pt xs i)
theorem swapL_len (xs : List PTimer) (i j : Nat) : (swapL xs i j).length = xs.length := by simp [swapL]
theorem swapL_perm (xs : List PTimer) (i j : Nat) (hi : i < xs.length) (hj : j < xs.length) : (swapL xs i j).Perm xs := by
  unfold swapL
  rw [pt_get hi, pt_get hj]
  exact List.set_set_perm hi hj
theorem pt_swapL (xs : List PTimer) (i j k : Nat) (hi : i < xs.length) (hj : j < xs.length) : pt (swapL xs i j) k = if k = j then pt xs i else if k = i then pt xs j else pt xs k := by
  unfold pt swapL
  simp only [List.getD_eq_getElem?_getD, List.getElem?_set, List.length_set]
  by_cases h1 : j = k
  · subst h1
    simp [hj, pt]
  · by_cases h2 : i = k
    · subst h2
      simp [hi, h1, pt, Ne.symm h1]
    · simp [h1, h2, Ne.symm h1, Ne.symm h2]

/-- The order that a heap keeps, from place lo on. -/
def HeapFrom (lo : Nat) (xs : List PTimer) : Prop := ∀ i, 0 < i → i < xs.length → lo ≤ (i - 1) / 2 → ¬ (pt xs i).lt (pt xs ((i - 1) / 2))
def IsHeap (xs : List PTimer) : Prop := HeapFrom 0 xs

theorem HeapFrom.top (xs : List PTimer) (lo : Nat) (h : xs.length / 2 ≤ lo) : HeapFrom lo xs := by
  intro i h0 hi hlo
  omega

theorem IsHeap.least {xs : List PTimer} (h : IsHeap xs) : ∀ i, i < xs.length → ¬ (pt xs i).lt (pt xs 0) := by
  intro i
  induction i using Nat.strongRecOn with
  | ind i ih =>
    intro hi
    by_cases h0 : i = 0
    · subst h0
      exact PTimer.lt_irrefl _
    · exact PTimer.le_trans (ih ((i - 1) / 2) (by omega) (by omega)) (h i (by omega) hi (Nat.zero_le _))

/-- What 'rise' keeps: all but place k stands right. -/
structure Rising (xs : List PTimer) (k : Nat) : Prop where
  lt : k < xs.length
  rest : ∀ i, 0 < i → i < xs.length → i ≠ k → ¬ (pt xs i).lt (pt xs ((i - 1) / 2))
  over : ∀ i, 0 < i → i < xs.length → (i - 1) / 2 = k → 0 < k → ¬ (pt xs i).lt (pt xs ((k - 1) / 2))

theorem Rising.stop {xs : List PTimer} {k : Nat} (h : Rising xs k) (hk : k = 0 ∨ ¬ (pt xs k).lt (pt xs ((k - 1) / 2))) : IsHeap xs := by
  intro i h0 hi _
  by_cases e : i = k
  · subst e
    rcases hk with hk | hk
    · omega
    · exact hk
  · exact h.rest i h0 hi e

theorem Rising.go {xs : List PTimer} {k : Nat} (h : Rising xs k) (h0 : 0 < k) (hl : (pt xs k).lt (pt xs ((k - 1) / 2))) : Rising (swapL xs k ((k - 1) / 2)) ((k - 1) / 2) := by
  have hk := h.lt
  have hp : (k - 1) / 2 < xs.length := by omega
  have e := fun m => pt_swapL xs k ((k - 1) / 2) m hk hp
  refine ⟨by rw [swapL_len]; exact hp, ?_, ?_⟩
  · intro i i0 hi hne
    rw [swapL_len] at hi
    rw [e, e, if_neg hne]
    by_cases ik : i = k
    · subst ik
      rw [if_pos rfl, if_pos rfl]
      exact PTimer.lt_asymm hl
    · rw [if_neg ik]
      by_cases c1 : (i - 1) / 2 = (k - 1) / 2
      · rw [if_pos c1]
        have := h.rest i i0 hi ik
        rw [c1] at this
        exact PTimer.le_trans (PTimer.lt_asymm hl) this
      · rw [if_neg c1]
        by_cases c2 : (i - 1) / 2 = k
        · rw [if_pos c2]
          exact h.over i i0 hi c2 h0
        · rw [if_neg c2]
          exact h.rest i i0 hi ik
  · intro i i0 hi hpar hpos
    rw [swapL_len] at hi
    have hq := h.rest ((k - 1) / 2) hpos hp (by omega)
    rw [e, e]
    rw [if_neg (by omega), if_neg (by omega : ¬ ((k - 1) / 2 - 1) / 2 = (k - 1) / 2), if_neg (by omega : ¬ ((k - 1) / 2 - 1) / 2 = k)]
    by_cases ik : i = k
    · rw [if_pos ik]
      exact hq
    · rw [if_neg ik]
      have := h.rest i i0 hi ik
      rw [hpar] at this
      exact PTimer.le_trans hq this

/-- What 'sink' keeps: from lo on all stands right, but for the children of place k. -/
structure Sinking (lo : Nat) (xs : List PTimer) (k : Nat) : Prop where
  from_ : lo ≤ k
  rest : ∀ i, 0 < i → i < xs.length → lo ≤ (i - 1) / 2 → (i - 1) / 2 ≠ k → ¬ (pt xs i).lt (pt xs ((i - 1) / 2))
  over : ∀ i, 0 < i → i < xs.length → (i - 1) / 2 = k → 0 < k → lo ≤ (k - 1) / 2 → ¬ (pt xs i).lt (pt xs ((k - 1) / 2))

/-- c is the first child of place k. -/
def FirstChild (xs : List PTimer) (k c : Nat) : Prop :=
  (c = 2 * k + 1 ∨ c = 2 * k + 2) ∧ (xs.length ≤ c → xs.length ≤ 2 * k + 1) ∧ (c < xs.length → ∀ i, 0 < i → i < xs.length → (i - 1) / 2 = k → ¬ (pt xs i).lt (pt xs c))

theorem Sinking.stop {lo : Nat} {xs : List PTimer} {k c : Nat} (h : Sinking lo xs k) (hc : FirstChild xs k c) (hk : xs.length ≤ c ∨ ¬ (pt xs c).lt (pt xs k)) : HeapFrom lo xs := by
  intro i h0 hi hlo
  by_cases e : (i - 1) / 2 = k
  · by_cases hcl : xs.length ≤ c
    · have := hc.2.1 hcl
      omega
    · rw [e]
      exact PTimer.le_trans (hk.resolve_left hcl) (hc.2.2 (by omega) i h0 hi e)
  · exact h.rest i h0 hi hlo e

theorem Sinking.go {lo : Nat} {xs : List PTimer} {k c : Nat} (h : Sinking lo xs k) (hc : FirstChild xs k c) (hcl : c < xs.length) (hl : (pt xs c).lt (pt xs k)) : Sinking lo (swapL xs k c) c := by
  have hlo := h.from_
  have hck : k < c := by rcases hc.1 with e | e <;> omega
  have hpar : (c - 1) / 2 = k := by rcases hc.1 with e | e <;> omega
  have hk : k < xs.length := by omega
  have e := fun m => pt_swapL xs k c m hk hcl
  refine ⟨by omega, ?_, ?_⟩
  · intro i i0 hi hl1 hne
    rw [swapL_len] at hi
    rw [e, e, if_neg hne]
    by_cases ic : i = c
    · subst ic
      rw [if_pos rfl, if_pos hpar]
      exact PTimer.lt_asymm hl
    · rw [if_neg ic]
      by_cases ik : i = k
      · subst ik
        rw [if_pos rfl, if_neg (by omega)]
        exact h.over c (by omega) hcl hpar (by omega) hl1
      · rw [if_neg ik]
        by_cases c1 : (i - 1) / 2 = k
        · rw [if_pos c1]
          exact hc.2.2 hcl i i0 hi c1
        · rw [if_neg c1]
          exact h.rest i i0 hi hl1 c1
  · intro i i0 hi hp c0 hl1
    rw [swapL_len] at hi
    rw [e, e, hpar, if_neg (by omega), if_neg (by omega), if_neg (by omega), if_pos rfl]
    have := h.rest i i0 hi (by omega) (by omega)
    rw [hp] at this
    exact this

theorem Sinking.start {lo : Nat} {xs : List PTimer} (h : HeapFrom (lo + 1) xs) : Sinking lo xs lo :=
  ⟨Nat.le_refl _, fun i h0 hi hl hne => h i h0 hi (by omega), fun i _ _ _ h0 hl => by omega⟩

/-- A new last one. -/
theorem Rising.start {xs : List PTimer} (h : IsHeap xs) (x : PTimer) : Rising (xs ++ [x]) xs.length := by
  have e : ∀ i, i < xs.length → pt (xs ++ [x]) i = pt xs i := fun i hi => by
    rw [pt_get hi, pt_get (by simp; omega), List.getElem_append_left hi]
  refine ⟨by simp, fun i h0 hi hne => ?_, fun i h0 hi hp hk => ?_⟩
  · simp at hi
    rw [e i (by omega), e _ (by omega)]
    exact h i h0 (by omega) (Nat.zero_le _)
  · simp at hi
    omega

/-- The last one stands first, and is to sink. -/
theorem Sinking.popped {xs : List PTimer} (h : IsHeap xs) (x : PTimer) : Sinking 0 ((xs.dropLast).set 0 x) 0 := by
  refine ⟨Nat.le_refl _, fun i h0 hi _ hne => ?_, fun i _ _ _ h0 => by omega⟩
  simp at hi
  have e : ∀ j, 0 < j → j < xs.length - 1 → pt ((xs.dropLast).set 0 x) j = pt xs j := fun j hj hl => by
    rw [pt_get (by simp; omega), pt_get (by omega), List.getElem_set_ne (by omega), List.getElem_dropLast]
  rw [e i h0 hi, e _ (by omega) (by omega)]
  exact h i h0 (by omega) (Nat.zero_le _)

theorem popped_perm {xs : List PTimer} (h : 0 < xs.length) : (pt xs 0 :: (xs.dropLast).set 0 (pt xs (xs.length - 1))).Perm xs ∨ (xs.length = 1 ∧ xs = [pt xs 0]) := by
  cases xs with
  | nil => simp at h
  | cons a r =>
    cases hr : r.reverse with
    | nil =>
      have : r = [] := by simpa using hr
      subst this
      exact .inr ⟨rfl, rfl⟩
    | cons z m =>
      left
      have e : r = m.reverse ++ [z] := by
        have := congrArg List.reverse hr
        simpa using this
      subst e
      have hp : pt (a :: (m.reverse ++ [z])) ((a :: (m.reverse ++ [z])).length - 1) = z := by
        rw [pt_get (by simp)]
        simp
      rw [hp]
      have hd : (a :: (m.reverse ++ [z])).dropLast = a :: m.reverse := by
        rw [show a :: (m.reverse ++ [z]) = (a :: m.reverse) ++ [z] by simp, List.dropLast_concat]
      rw [hd]
      show (a :: z :: m.reverse).Perm (a :: (m.reverse ++ [z]))
      exact List.Perm.cons a (List.perm_append_singleton z m.reverse).symm
end Go.Proofs.YtlccfpbbdgpjbaaGreatDoor
