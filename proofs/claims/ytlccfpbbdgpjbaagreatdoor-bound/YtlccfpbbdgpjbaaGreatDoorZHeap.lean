import Derived.Test.YtlccfpbbdgpjbaaGreatDoorRMem
import Derived.BigRegion
import Derived.Deep.RegionLaw
namespace Go.Proofs.YtlccfpbbdgpjbaaGreatDoor

structure PTimer where
  kind : Int
  call : Int
  due : Int
  set : Int
deriving Inhabited

def encPT (t : PTimer) : List Value := [.int .i64 t.kind, .int .i64 t.call, .int .i64 t.due, .int .i64 t.set]
theorem encPT_len (t : PTimer) : (encPT t).length = 4 := rfl

/-- t comes before u. -/
def PTimer.lt (t u : PTimer) : Prop := t.due < u.due ∨ (t.due = u.due ∧ t.set < u.set)
instance (t u : PTimer) : Decidable (t.lt u) := inferInstanceAs (Decidable (_ ∨ _))

theorem PTimer.le_trans {a b c : PTimer} (h1 : ¬ b.lt a) (h2 : ¬ c.lt b) : ¬ c.lt a := by
  unfold PTimer.lt at *
  omega
theorem PTimer.lt_asymm {a b : PTimer} (h1 : a.lt b) : ¬ b.lt a := by
  unfold PTimer.lt at *
  omega
theorem PTimer.lt_irrefl (a : PTimer) : ¬ a.lt a := by
  unfold PTimer.lt
  omega

/-- What stands at a place. -/
def pt (xs : List PTimer) (i : Nat) : PTimer := xs.getD i default
theorem pt_get {xs : List PTimer} {i : Nat} (h : i < xs.length) : pt xs i = xs[i] := by
  simp [pt, h]

def swapL (xs : List PTimer) (i j : Nat) : List PTimer := (xs.set i (pt xs j)).set j (pt xs i)
theorem swapL_len (xs : List PTimer) (i j : Nat) : (swapL xs i j).length = xs.length := by simp [swapL]
theorem swapL_perm (xs : List PTimer) (i j : Nat) (hi : i < xs.length) (hj : j < xs.length) : (swapL xs i j).Perm xs := by
  unfold swapL
  rw [pt_get hi, pt_get hj]
  exact List.set_set_perm hi hj
theorem pt_swapL (xs : List PTimer) (i j k : Nat) (hi : i < xs.length) (hj : j < xs.length) : pt (swapL xs i j) k = if k = j then pt xs i else if k = i then pt xs j else pt xs k := by
  unfold pt swapL
  simp only [List.getD_eq_getElem?_getD, List.getElem?_set, List.length_set]
  by_cases h1 : j = k
  · subst h1
    simp [hj, pt]
  · by_cases h2 : i = k
    · subst h2
      simp [hi, h1, pt, Ne.symm h1]
    · simp [h1, h2, Ne.symm h1, Ne.symm h2]

/-- The order that a heap keeps, from place lo on. -/
def HeapFrom (lo : Nat) (xs : List PTimer) : Prop := ∀ i, 0 < i → i < xs.length → lo ≤ (i - 1) / 2 → ¬ (pt xs i).lt (pt xs ((i - 1) / 2))
def IsHeap (xs : List PTimer) : Prop := HeapFrom 0 xs

theorem HeapFrom.top (xs : List PTimer) (lo : Nat) (h : xs.length / 2 ≤ lo) : HeapFrom lo xs := by
  intro i h0 hi hlo
  omega

theorem IsHeap.least {xs : List PTimer} (h : IsHeap xs) : ∀ i, i < xs.length → ¬ (pt xs i).lt (pt xs 0) := by
  intro i
  induction i using Nat.strongRecOn with
  | ind i ih =>
    intro hi
    by_cases h0 : i = 0
    · subst h0
      exact PTimer.lt_irrefl _
    · exact PTimer.le_trans (ih ((i - 1) / 2) (by omega) (by omega)) (h i (by omega) hi (Nat.zero_le _))

/-- What 'rise' keeps: all but place k stands right. -/
structure Rising (xs : List PTimer) (k : Nat) : Prop where
  lt : k < xs.length
  rest : ∀ i, 0 < i → i < xs.length → i ≠ k → ¬ (pt xs i).lt (pt xs ((i - 1) / 2))
  over : ∀ i, 0 < i → i < xs.length → (i - 1) / 2 = k → 0 < k → ¬ (pt xs i).lt (pt xs ((k - 1) / 2))

theorem Rising.stop {xs : List PTimer} {k : Nat} (h : Rising xs k) (hk : k = 0 ∨ ¬ (pt xs k).lt (pt xs ((k - 1) / 2))) : IsHeap xs := by
  intro i h0 hi _
  by_cases e : i = k
  · subst e
    rcases hk with hk | hk
    · omega
    · exact hk
  · exact h.rest i h0 hi e

theorem Rising.go {xs : List PTimer} {k : Nat} (h : Rising xs k) (h0 : 0 < k) (hl : (pt xs k).lt (pt xs ((k - 1) / 2))) : Rising (swapL xs k ((k - 1) / 2)) ((k - 1) / 2) := by
  have hk := h.lt
  have hp : (k - 1) / 2 < xs.length := by omega
  have e := fun m => pt_swapL xs k ((k - 1) / 2) m hk hp
  refine ⟨by rw [swapL_len]; exact hp, ?_, ?_⟩
  · intro i i0 hi hne
    rw [swapL_len] at hi
    rw [e, e, if_neg hne]
    by_cases ik : i = k
    · subst ik
      rw [if_pos rfl, if_pos rfl]
      exact PTimer.lt_asymm hl
    · rw [if_neg ik]
      by_cases c1 : (i - 1) / 2 = (k - 1) / 2
      · rw [if_pos c1]
        have := h.rest i i0 hi ik
        rw [c1] at this
        exact PTimer.le_trans (PTimer.lt_asymm hl) this
      · rw [if_neg c1]
        by_cases c2 : (i - 1) / 2 = k
        · rw [if_pos c2]
          exact h.over i i0 hi c2 h0
        · rw [if_neg c2]
          exact h.rest i i0 hi ik
  · intro i i0 hi hpar hpos
    rw [swapL_len] at hi
    have hq := h.rest ((k - 1) / 2) hpos hp (by omega)
    rw [e, e]
    rw [if_neg (by omega), if_neg (by omega : ¬ ((k - 1) / 2 - 1) / 2 = (k - 1) / 2), if_neg (by omega : ¬ ((k - 1) / 2 - 1) / 2 = k)]
    by_cases ik : i = k
    · rw [if_pos ik]
      exact hq
    · rw [if_neg ik]
      have := h.rest i i0 hi ik
      rw [hpar] at this
      exact PTimer.le_trans hq this

/-- What 'sink' keeps: from lo on all stands right, but for the children of place k. -/
structure Sinking (lo : Nat) (xs : List PTimer) (k : Nat) : Prop where
  from_ : lo ≤ k
  rest : ∀ i, 0 < i → i < xs.length → lo ≤ (i - 1) / 2 → (i - 1) / 2 ≠ k → ¬ (pt xs i).lt (pt xs ((i - 1) / 2))
  over : ∀ i, 0 < i → i < xs.length → (i - 1) / 2 = k → 0 < k → lo ≤ (k - 1) / 2 → ¬ (pt xs i).lt (pt xs ((k - 1) / 2))

/-- c is the first child of place k. -/
def FirstChild (xs : List PTimer) (k c : Nat) : Prop :=
  (c = 2 * k + 1 ∨ c = 2 * k + 2) ∧ (xs.length ≤ c → xs.length ≤ 2 * k + 1) ∧ (c < xs.length → ∀ i, 0 < i → i < xs.length → (i - 1) / 2 = k → ¬ (pt xs i).lt (pt xs c))

theorem Sinking.stop {lo : Nat} {xs : List PTimer} {k c : Nat} (h : Sinking lo xs k) (hc : FirstChild xs k c) (hk : xs.length ≤ c ∨ ¬ (pt xs c).lt (pt xs k)) : HeapFrom lo xs := by
  intro i h0 hi hlo
  by_cases e : (i - 1) / 2 = k
  · by_cases hcl : xs.length ≤ c
    · have := hc.2.1 hcl
      omega
    · rw [e]
      exact PTimer.le_trans (hk.resolve_left hcl) (hc.2.2 (by omega) i h0 hi e)
  · exact h.rest i h0 hi hlo e

theorem Sinking.go {lo : Nat} {xs : List PTimer} {k c : Nat} (h : Sinking lo xs k) (hc : FirstChild xs k c) (hcl : c < xs.length) (hl : (pt xs c).lt (pt xs k)) : Sinking lo (swapL xs k c) c := by
  have hlo := h.from_
  have hck : k < c := by rcases hc.1 with e | e <;> omega
  have hpar : (c - 1) / 2 = k := by rcases hc.1 with e | e <;> omega
  have hk : k < xs.length := by omega
  have e := fun m => pt_swapL xs k c m hk hcl
  refine ⟨by omega, ?_, ?_⟩
  · intro i i0 hi hl1 hne
    rw [swapL_len] at hi
    rw [e, e, if_neg hne]
    by_cases ic : i = c
    · subst ic
      rw [if_pos rfl, if_pos hpar]
      exact PTimer.lt_asymm hl
    · rw [if_neg ic]
      by_cases ik : i = k
      · subst ik
        rw [if_pos rfl, if_neg (by omega)]
        exact h.over c (by omega) hcl hpar (by omega) hl1
      · rw [if_neg ik]
        by_cases c1 : (i - 1) / 2 = k
        · rw [if_pos c1]
          exact hc.2.2 hcl i i0 hi c1
        · rw [if_neg c1]
          exact h.rest i i0 hi hl1 c1
  · intro i i0 hi hp c0 hl1
    rw [swapL_len] at hi
    rw [e, e, hpar, if_neg (by omega), if_neg (by omega), if_neg (by omega), if_pos rfl]
    have := h.rest i i0 hi (by omega) (by omega)
    rw [hp] at this
    exact this

theorem Sinking.start {lo : Nat} {xs : List PTimer} (h : HeapFrom (lo + 1) xs) : Sinking lo xs lo :=
  ⟨Nat.le_refl _, fun i h0 hi hl hne => h i h0 hi (by omega), fun i _ _ _ h0 hl => by omega⟩

/-- A new last one. -/
theorem Rising.start {xs : List PTimer} (h : IsHeap xs) (x : PTimer) : Rising (xs ++ [x]) xs.length := by
  have e : ∀ i, i < xs.length → pt (xs ++ [x]) i = pt xs i := fun i hi => by
    rw [pt_get hi, pt_get (by simp; omega), List.getElem_append_left hi]
  refine ⟨by simp, fun i h0 hi hne => ?_, fun i h0 hi hp hk => ?_⟩
  · simp at hi
    rw [e i (by omega), e _ (by omega)]
    exact h i h0 (by omega) (Nat.zero_le _)
  · simp at hi
    omega

/-- The last one stands first, and is to sink. -/
theorem Sinking.popped {xs : List PTimer} (h : IsHeap xs) (x : PTimer) : Sinking 0 ((xs.dropLast).set 0 x) 0 := by
  refine ⟨Nat.le_refl _, fun i h0 hi _ hne => ?_, fun i _ _ _ h0 => by omega⟩
  simp at hi
  have e : ∀ j, 0 < j → j < xs.length - 1 → pt ((xs.dropLast).set 0 x) j = pt xs j := fun j hj hl => by
    rw [pt_get (by simp; omega), pt_get (by omega), List.getElem_set_ne (by omega), List.getElem_dropLast]
  rw [e i h0 hi, e _ (by omega) (by omega)]
  exact h i h0 (by omega) (Nat.zero_le _)

theorem popped_perm {xs : List PTimer} (h : 0 < xs.length) : (pt xs 0 :: (xs.dropLast).set 0 (pt xs (xs.length - 1))).Perm xs ∨ (xs.length = 1 ∧ xs = [pt xs 0]) := by
  cases xs with
  | nil => simp at h
  | cons a r =>
    cases hr : r.reverse with
    | nil =>
      have : r = [] := by simpa using hr
      subst this
      exact .inr ⟨rfl, rfl⟩
    | cons z m =>
      left
      have e : r = m.reverse ++ [z] := by
        have := congrArg List.reverse hr
        simpa using this
      subst e
      have hp : pt (a :: (m.reverse ++ [z])) ((a :: (m.reverse ++ [z])).length - 1) = z := by
        rw [pt_get (by simp)]
        simp
      rw [hp]
      have hd : (a :: (m.reverse ++ [z])).dropLast = a :: m.reverse := by
        rw [show a :: (m.reverse ++ [z]) = (a :: m.reverse) ++ [z] by simp, List.dropLast_concat]
      rw [hd]
      show (a :: z :: m.reverse).Perm (a :: (m.reverse ++ [z]))
      exact List.Perm.cons a (List.perm_append_singleton z m.reverse).symm
end Go.Proofs.YtlccfpbbdgpjbaaGreatDoor

namespace Go.Proofs.YtlccfpbbdgpjbaaGreatDoor
open Go.RowKit

set_option maxRecDepth 100000 in
set_option maxHeartbeats 800000 in
theorem before_any (a b : PTimer) (w : World) :
    Calls Tryz.prog 165 #[.agg #[.int .i64 a.kind, .int .i64 a.call, .int .i64 a.due, .int .i64 a.set], .agg #[.int .i64 b.kind, .int .i64 b.call, .int .i64 b.due, .int .i64 b.set]] w fun e w' => e = .returned (.bool (decide (a.lt b))) ∧ Below w.heap.size w w' := by
  obtain ⟨a0, a1, a2, a3⟩ := a
  obtain ⟨b0, b1, b2, b3⟩ := b
  dsimp only
  by_cases h : a2 = b2
  · have h1 : (a2 != b2) = false := by simp [h]
    have h2 : decide ((⟨a0, a1, a2, a3⟩ : PTimer).lt ⟨b0, b1, b2, b3⟩) = decide (a3 < b3) := by
      unfold PTimer.lt
      exact decide_eq_decide.2 ⟨fun h3 => by dsimp only at h3; omega, fun h3 => by dsimp only; omega⟩
    rw [h2]
    clear h h2
    go_enter Tryz.func165, Tryz.ntmps165
    go_wp2_with fail
    go_ret
    exact ⟨rfl, ((Below.refl _ _).alloc (Nat.le_refl _) _).alloc (by simp) _⟩
  · have h1 : (a2 != b2) = true := by simp [h]
    have h2 : decide ((⟨a0, a1, a2, a3⟩ : PTimer).lt ⟨b0, b1, b2, b3⟩) = decide (a2 < b2) := by
      unfold PTimer.lt
      exact decide_eq_decide.2 ⟨fun h3 => by dsimp only at h3; omega, fun h3 => by dsimp only; omega⟩
    rw [h2]
    clear h h2
    go_enter Tryz.func165, Tryz.ntmps165
    go_wp2_with fail
    go_ret
    exact ⟨rfl, ((Below.refl _ _).alloc (Nat.le_refl _) _).alloc (by simp) _⟩

theorem Row.put4 {w : World} {b e : Nat} {v : Value} {xs : List PTimer} (h : Row w b e 4 encPT v xs) {g i : Nat} (hg : v.ownBlock = some g) (hi : i < xs.length) (x : PTimer) :
    Row ((((w.setCell ⟨g, i * 4, none⟩ (.int .i64 x.kind)).setCell ⟨g, i * 4 + 1, none⟩ (.int .i64 x.call)).setCell ⟨g, i * 4 + 2, none⟩ (.int .i64 x.due)).setCell ⟨g, i * 4 + 3, none⟩ (.int .i64 x.set)) b e 4 encPT v (xs.set i x) := by
  generalize hy : xs[i] = y
  obtain ⟨y0, y1, y2, y3⟩ := y
  have h0 := h.set encPT_len hg hi (j := 0) (by omega) (.int .i64 x.kind) ⟨x.kind, y1, y2, y3⟩ (by rw [hy]; rfl)
  have h1 := h0.set encPT_len hg (i := i) (by simpa using hi) (j := 1) (by omega) (.int .i64 x.call) ⟨x.kind, x.call, y2, y3⟩ (by rw [List.getElem_set_self]; rfl)
  have h2 := h1.set encPT_len hg (i := i) (by simpa using hi) (j := 2) (by omega) (.int .i64 x.due) ⟨x.kind, x.call, x.due, y3⟩ (by rw [List.getElem_set_self]; rfl)
  have h3 := h2.set encPT_len hg (i := i) (by simpa using hi) (j := 3) (by omega) (.int .i64 x.set) x (by rw [List.getElem_set_self]; rfl)
  simp only [List.set_set] at h3
  exact h3

set_option maxRecDepth 100000 in
set_option maxHeartbeats 1600000 in
theorem swap_any (p o : Nat) (g cap : Nat) (xs : List PTimer) (i j : Nat) (w : World) (hi : i < xs.length) (hj : j < xs.length) (hij : i ≠ j) (hgp : g ≠ p) (hc : w.cell? ⟨p, o, none⟩ = some (.slice (some ⟨g, 0, none⟩) xs.length cap)) (hr : Row w 0 114 4 encPT (.slice (some ⟨g, 0, none⟩) xs.length cap) xs) :
    Calls Tryz.prog 120 #[.pointer (some ⟨p, o, none⟩), .int .i64 i, .int .i64 j] w fun e w' =>
      e = .returned (.tuple #[]) ∧ w'.cell? ⟨p, o, none⟩ = some (.slice (some ⟨g, 0, none⟩) xs.length cap) ∧ Row w' 0 114 4 encPT (.slice (some ⟨g, 0, none⟩) xs.length cap) (swapL xs i j) ∧ Fr p [] [g] w w' := by
  have hi' : (i : Int) < (xs.length : Int) := by omega
  have hj' : (j : Int) < (xs.length : Int) := by omega
  obtain ⟨i0, z0⟩ := show w.cell? ⟨g, i * 4, none⟩ = some (.int .i64 xs[i].kind) ∧ w.frozen? ⟨g, i * 4, none⟩ = false from hr.cell encPT_len (g := g) (j := 0) rfl hi rfl
  obtain ⟨i1, z1⟩ := show w.cell? ⟨g, i * 4 + 1, none⟩ = some (.int .i64 xs[i].call) ∧ w.frozen? ⟨g, i * 4 + 1, none⟩ = false from hr.cell encPT_len (g := g) (j := 1) rfl hi rfl
  obtain ⟨i2, z2⟩ := show w.cell? ⟨g, i * 4 + 2, none⟩ = some (.int .i64 xs[i].due) ∧ w.frozen? ⟨g, i * 4 + 2, none⟩ = false from hr.cell encPT_len (g := g) (j := 2) rfl hi rfl
  obtain ⟨i3, z3⟩ := show w.cell? ⟨g, i * 4 + 3, none⟩ = some (.int .i64 xs[i].set) ∧ w.frozen? ⟨g, i * 4 + 3, none⟩ = false from hr.cell encPT_len (g := g) (j := 3) rfl hi rfl
  obtain ⟨j0, y0⟩ := show w.cell? ⟨g, j * 4, none⟩ = some (.int .i64 xs[j].kind) ∧ w.frozen? ⟨g, j * 4, none⟩ = false from hr.cell encPT_len (g := g) (j := 0) rfl hj rfl
  obtain ⟨j1, y1⟩ := show w.cell? ⟨g, j * 4 + 1, none⟩ = some (.int .i64 xs[j].call) ∧ w.frozen? ⟨g, j * 4 + 1, none⟩ = false from hr.cell encPT_len (g := g) (j := 1) rfl hj rfl
  obtain ⟨j2, y2⟩ := show w.cell? ⟨g, j * 4 + 2, none⟩ = some (.int .i64 xs[j].due) ∧ w.frozen? ⟨g, j * 4 + 2, none⟩ = false from hr.cell encPT_len (g := g) (j := 2) rfl hj rfl
  obtain ⟨j3, y3⟩ := show w.cell? ⟨g, j * 4 + 3, none⟩ = some (.int .i64 xs[j].set) ∧ w.frozen? ⟨g, j * 4 + 3, none⟩ = false from hr.cell encPT_len (g := g) (j := 3) rfl hj rfl
  have HR := hide hr
  have ei : xs[i] = pt xs i := (pt_get hi).symm
  have ej : xs[j] = pt xs j := (pt_get hj).symm
  rw [ei] at i0 i1 i2 i3
  rw [ej] at j0 j1 j2 j3
  have HS : Hid (∃ a b, a = pt xs i ∧ b = pt xs j) := ⟨_, _, rfl, rfl⟩
  generalize ha : pt xs i = a at i0 i1 i2 i3
  generalize hb : pt xs j = b at j0 j1 j2 j3
  have HA := hide ha
  have HB := hide hb
  obtain ⟨a0, a1, a2, a3⟩ := a
  obtain ⟨b0, b1, b2, b3⟩ := b
  dsimp only at i0 i1 i2 i3 j0 j1 j2 j3
  clear ha hb ei ej hr HS hi hj
  have n00 : ¬ j = i := Ne.symm hij
  have n01 : ¬ j * 4 = i * 4 + 1 := by omega
  have n02 : ¬ j * 4 = i * 4 + 2 := by omega
  have n03 : ¬ j * 4 = i * 4 + 3 := by omega
  have n10 : ¬ j * 4 + 1 = i * 4 := by omega
  have n12 : ¬ j * 4 + 1 = i * 4 + 2 := by omega
  have n13 : ¬ j * 4 + 1 = i * 4 + 3 := by omega
  have n20 : ¬ j * 4 + 2 = i * 4 := by omega
  have n21 : ¬ j * 4 + 2 = i * 4 + 1 := by omega
  have n23 : ¬ j * 4 + 2 = i * 4 + 3 := by omega
  have n30 : ¬ j * 4 + 3 = i * 4 := by omega
  have n31 : ¬ j * 4 + 3 = i * 4 + 1 := by omega
  have n32 : ¬ j * 4 + 3 = i * 4 + 2 := by omega
  go_enter Tryz.func120, Tryz.ntmps120
  go_wp2_with fail
  go_region
  go_end0
  have li : i < xs.length := by omega
  have lj : j < xs.length := by omega
  have q1 := HR.out.put4 (g := g) rfl li ⟨b0, b1, b2, b3⟩
  have q2 := q1.put4 (g := g) (i := j) rfl (by simpa using lj) ⟨a0, a1, a2, a3⟩
  refine ⟨rfl, ?_, ?_, ?_⟩
  · have hm : ∀ x : Nat, (⟨g, x, none⟩ : Addr).block ∈ [g] := fun _ => List.mem_singleton.2 rfl
    exact (((((((((Fr.refl p [] [g] w).setIn (hm _) hgp _).setIn (hm _) hgp _).setIn (hm _) hgp _).setIn (hm _) hgp _).setIn (hm _) hgp _).setIn (hm _) hgp _).setIn (hm _) hgp _).setIn (hm _) hgp _ |>.drew.cell o (by simp)).trans hc
  · have e : swapL xs i j = (xs.set i ⟨b0, b1, b2, b3⟩).set j ⟨a0, a1, a2, a3⟩ := by
      unfold swapL
      rw [HA.out, HB.out]
    rw [e]
    exact q2.drew
  · have hm : ∀ x : Nat, (⟨g, x, none⟩ : Addr).block ∈ [g] := fun _ => List.mem_singleton.2 rfl
    exact ((((((((Fr.refl p [] [g] w).setIn (hm _) hgp _).setIn (hm _) hgp _).setIn (hm _) hgp _).setIn (hm _) hgp _).setIn (hm _) hgp _).setIn (hm _) hgp _).setIn (hm _) hgp _).setIn (hm _) hgp _ |>.drew
end Go.Proofs.YtlccfpbbdgpjbaaGreatDoor

namespace Go.Proofs.YtlccfpbbdgpjbaaGreatDoor
open Go.RowKit

/-- The cells of an entry. -/
theorem Row.pt_cells {w : World} {b e : Nat} {g n cap : Nat} {xs : List PTimer} (h : Row w b e 4 encPT (.slice (some ⟨g, 0, none⟩) n cap) xs) (i : Nat) (hi : i < xs.length) (x : PTimer) (hx : pt xs i = x) :
    w.cell? ⟨g, i * 4, none⟩ = some (.int .i64 x.kind) ∧ w.cell? ⟨g, i * 4 + 1, none⟩ = some (.int .i64 x.call) ∧ w.cell? ⟨g, i * 4 + 2, none⟩ = some (.int .i64 x.due) ∧ w.cell? ⟨g, i * 4 + 3, none⟩ = some (.int .i64 x.set) := by
  rw [pt_get hi] at hx
  subst hx
  exact ⟨(h.cell encPT_len (g := g) (j := 0) rfl hi rfl).1, (h.cell encPT_len (g := g) (j := 1) rfl hi rfl).1, (h.cell encPT_len (g := g) (j := 2) rfl hi rfl).1, (h.cell encPT_len (g := g) (j := 3) rfl hi rfl).1⟩


theorem firstChild_left {xs : List PTimer} {k : Nat} (h : xs.length ≤ 2 * k + 2 ∨ ¬ (pt xs (2 * k + 2)).lt (pt xs (2 * k + 1))) : FirstChild xs k (2 * k + 1) := by
  refine ⟨.inl rfl, fun h => h, fun hl i h0 hi hp => ?_⟩
  by_cases e : i = 2 * k + 1
  · rw [e]
    exact PTimer.lt_irrefl _
  · have e2 : i = 2 * k + 2 := by omega
    subst e2
    exact h.resolve_left (by omega)
theorem firstChild_right {xs : List PTimer} {k : Nat} (hl : 2 * k + 2 < xs.length) (h : (pt xs (2 * k + 2)).lt (pt xs (2 * k + 1))) : FirstChild xs k (2 * k + 2) := by
  refine ⟨.inr rfl, fun h => by omega, fun _ i h0 hi hp => ?_⟩
  by_cases e : i = 2 * k + 1
  · rw [e]
    exact PTimer.lt_asymm h
  · have e2 : i = 2 * k + 2 := by omega
    subst e2
    exact PTimer.lt_irrefl _

set_option maxRecDepth 100000 in
set_option maxHeartbeats 1600000 in
theorem firstChild_any (p o : Nat) (g cap : Nat) (xs : List PTimer) (k : Nat) (w : World) (hk : k ≤ 1000000) (hc : w.cell? ⟨p, o, none⟩ = some (.slice (some ⟨g, 0, none⟩) xs.length cap)) (hr : Row w 0 114 4 encPT (.slice (some ⟨g, 0, none⟩) xs.length cap) xs) :
    Calls Tryz.prog 119 #[.pointer (some ⟨p, o, none⟩), .int .i64 k] w fun e w' => ∃ c : Nat, e = .returned (.int .i64 c) ∧ FirstChild xs k c ∧ Below w.heap.size w w' := by
  have k0 : (0 : Int) ≤ (k : Int) := by omega
  have k1 : (k : Int) ≤ 1000000 := by omega
  by_cases c1 : 2 * k + 2 < xs.length
  · have c1' : (2 * (k : Int) + 2) < (xs.length : Int) := by omega
    have c2' : (2 * (k : Int) + 1) < (xs.length : Int) := by omega
    have t1 : (2 * (k : Int) + 1).toNat = 2 * k + 1 := by omega
    have t2 : (2 * (k : Int) + 2).toNat = 2 * k + 2 := by omega
    have HL := hide (fun h => firstChild_left (xs := xs) (k := k) (.inr h))
    have HG := hide (firstChild_right (xs := xs) (k := k) c1)
    generalize ha : pt xs (2 * k + 2) = a at HL HG
    generalize hb : pt xs (2 * k + 1) = b at HL HG
    obtain ⟨i0, i1, i2, i3⟩ := hr.pt_cells _ c1 a ha
    obtain ⟨j0, j1, j2, j3⟩ := hr.pt_cells _ (by omega) b hb
    clear ha hb hr c1
    have lg : g < w.heap.size := World.block_lt_of_cell? w _ i0
    have p1 : (0 : Int) ≤ 2 * (k : Int) + 1 := by omega
    have p2 : (0 : Int) ≤ 2 * (k : Int) + 2 := by omega
    have hm : ∀ w : World, (method 362 114 (.agg #[.int .i64 a.kind, .int .i64 a.call, .int .i64 a.due, .int .i64 a.set]) "Before").run Tryz.prog w = .ok (165, .agg #[.int .i64 a.kind, .int .i64 a.call, .int .i64 a.due, .int .i64 a.set]) w := fun _ => by kernel_rfl
    have lp : p < w.heap.size := World.block_lt_of_cell? w _ hc
    go_enter Tryz.func119, Tryz.ntmps119
    go_wp2_with fail
    go_region_held3 (fun w' => w'.cell? ⟨p, o, none⟩ = some (.slice (some ⟨g, 0, none⟩) xs.length cap) ∧ w'.cell? ⟨g, (2 * k + 2) * 4, none⟩ = some (.int .i64 a.kind) ∧ w'.cell? ⟨g, (2 * k + 2) * 4 + 1, none⟩ = some (.int .i64 a.call) ∧ w'.cell? ⟨g, (2 * k + 2) * 4 + 2, none⟩ = some (.int .i64 a.due) ∧ w'.cell? ⟨g, (2 * k + 2) * 4 + 3, none⟩ = some (.int .i64 a.set)
        ∧ w'.cell? ⟨g, (2 * k + 1) * 4, none⟩ = some (.int .i64 b.kind) ∧ w'.cell? ⟨g, (2 * k + 1) * 4 + 1, none⟩ = some (.int .i64 b.call) ∧ w'.cell? ⟨g, (2 * k + 1) * 4 + 2, none⟩ = some (.int .i64 b.due) ∧ w'.cell? ⟨g, (2 * k + 1) * 4 + 3, none⟩ = some (.int .i64 b.set))
      (first
        | (go_keep; done)
        | (go_split_ands
           refine ⟨?_, ?_, ?_, ?_, ?_, ?_, ?_, ?_, ?_⟩
           all_goals (first | (rw [hb.cell (by assumption)]; assumption) | (go_keep; done))))
      (first
        | (go_at_call 165; refine (before_any a b _).mono ?_; rintro e w' ⟨rfl, hb⟩))
    clear i0 i1 i2 i3 j0 j1 j2 j3 hc hm
    have hB : Below w.heap.size w w' := (Below.refl w.heap.size w).drew.trans hb
    cases hd : decide (a.lt b) with
    | true =>
      have hF := HG.out (of_decide_eq_true hd)
      clear hd
      go_wp2_with fail
      go_ret
      exact ⟨2 * k + 2, by go_num, hF, hB⟩
    | false =>
      have hF := HL.out (of_decide_eq_false hd)
      clear hd
      go_wp2_with fail
      go_ret
      exact ⟨2 * k + 1, by go_num, hF, hB⟩
  · have c1' : decide ((2 * (k : Int) + 2) < (xs.length : Int)) = false := decide_eq_false (by omega)
    go_enter Tryz.func119, Tryz.ntmps119
    go_wp2_with fail
    go_quiet (fail)
    go_wp2_with fail
    go_ret
    exact ⟨2 * k + 1, by go_num, firstChild_left (.inl (by omega)), below_drewN _ _⟩
end Go.Proofs.YtlccfpbbdgpjbaaGreatDoor

namespace Go.Proofs.YtlccfpbbdgpjbaaGreatDoor
open Go.RowKit

theorem Fr.below {p : Nat} {J R : List Nat} {w wr w1 : World} (h : Fr p J R w wr) (hp : p < w.heap.size) (hb : Below wr.heap.size wr w1) : Fr p J R w w1 :=
  h.trans (Fr.of_below (J := []) (R := []) (Nat.lt_of_lt_of_le hp h.size) hb) (fun _ hj => ⟨hj, by simp⟩) (fun r hr => by cases hr)

set_option maxRecDepth 100000 in
set_option maxHeartbeats 4000000 in
theorem sink_any (p o : Nat) (g cap lo : Nat) (xs : List PTimer) (k0 : Nat) (w : World) (hl : xs.length ≤ 1000000) (hk0 : k0 ≤ xs.length) (hS : Sinking lo xs k0) (hgp : g ≠ p) (hc : w.cell? ⟨p, o, none⟩ = some (.slice (some ⟨g, 0, none⟩) xs.length cap)) (hr : Row w 0 114 4 encPT (.slice (some ⟨g, 0, none⟩) xs.length cap) xs) :
    Calls Tryz.prog 101 #[.pointer (some ⟨p, o, none⟩), .int .i64 k0] w fun e w' =>
      e = .returned (.tuple #[]) ∧ ∃ ys, ys.Perm xs ∧ HeapFrom lo ys ∧ w'.cell? ⟨p, o, none⟩ = some (.slice (some ⟨g, 0, none⟩) xs.length cap) ∧ Row w' 0 114 4 encPT (.slice (some ⟨g, 0, none⟩) xs.length cap) ys ∧ Fr p [] [g] w w' := by
  have lp : p < w.heap.size := World.block_lt_of_cell? w _ hc
  go_enter Tryz.func101, Tryz.ntmps101
  go_wp2_with fail
  go_loopw [1] (fun pv wr => ∃ (k : Nat) (ys : List PTimer), pv = .int .i64 k ∧ k ≤ xs.length ∧ Sinking lo ys k ∧ ys.Perm xs ∧ wr.cell? ⟨p, o, none⟩ = some (.slice (some ⟨g, 0, none⟩) xs.length cap) ∧ Row wr 0 114 4 encPT (.slice (some ⟨g, 0, none⟩) xs.length cap) ys ∧ Fr p [] [g] w wr) (fun pv _ => xs.length - (intOf pv).toNat)
  case atStart => exact ⟨k0, xs, rfl, hk0, hS, List.Perm.refl _, hc, hr, Fr.refl _ _ _ _⟩
  case round =>
    obtain ⟨k, ys, rfl, hk, hSk, hP, hcr, hrr, hF⟩ := hrel
    clear hr hc hS
    have hlen := hP.length_eq
    have HFC := hide (firstChild_any p o g cap ys k wr (by omega) (by rw [hlen]; exact hcr) (by rw [hlen]; exact hrr))
    go_wp2_with (first | (go_at_call 119; refine HFC.out.mono ?_; rintro e w1 ⟨c, rfl, hC, hb1⟩))
    have lp1 : p < w1.heap.size := Nat.lt_of_lt_of_le lp (Nat.le_trans hF.size hb1.size)
    have hc1 : w1.cell? ⟨p, o, none⟩ = some (.slice (some ⟨g, 0, none⟩) xs.length cap) := (hb1.cell (Nat.lt_of_lt_of_le lp hF.size)).trans hcr
    have hr1 := hrr.below hb1
    have hF1 := hF.below lp hb1
    clear hcr hrr hF HFC
    by_cases hlt : c < xs.length
    · have c1 : (c : Int) < (xs.length : Int) := by omega
      have hkc : k < c := by rcases hC.1 with e | e <;> omega
      have k1 : (k : Int) < (xs.length : Int) := by omega
      have hd1 : decide (xs.length ≤ c) = false := decide_eq_false (by omega)
      have hck : k ≠ c := by rcases hC.1 with e | e <;> omega
      have HSW := hide (fun W hcW hrW => swap_any p o g cap ys k c W (by omega) (by omega) hck hgp hcW hrW)
      rw [hlen] at HSW
      have HST := hide (fun h => hSk.stop hC (.inr h))
      have HGO := hide (hSk.go hC (by omega))
      generalize ha : pt ys c = a at HST HGO
      generalize hz : pt ys k = b at HST HGO
      obtain ⟨i0, i1, i2, i3⟩ := hr1.pt_cells _ (by omega) a ha
      obtain ⟨j0, j1, j2, j3⟩ := hr1.pt_cells _ (by omega) b hz
      have lg : g < w1.heap.size := World.block_lt_of_cell? w1 _ i0
      have HR1 := hide hr1
      have HPP := hide (swapL_perm ys k c (by omega) (by omega))
      have hm : ∀ w : World, (method 362 114 (.agg #[.int .i64 a.kind, .int .i64 a.call, .int .i64 a.due, .int .i64 a.set]) "Before").run Tryz.prog w = .ok (165, .agg #[.int .i64 a.kind, .int .i64 a.call, .int .i64 a.due, .int .i64 a.set]) w := fun _ => by kernel_rfl
      clear ha hz hr1 hSk
      go_region_held3 (fun w' => w'.cell? ⟨p, o, none⟩ = some (.slice (some ⟨g, 0, none⟩) xs.length cap) ∧ w'.cell? ⟨g, c * 4, none⟩ = some (.int .i64 a.kind) ∧ w'.cell? ⟨g, c * 4 + 1, none⟩ = some (.int .i64 a.call) ∧ w'.cell? ⟨g, c * 4 + 2, none⟩ = some (.int .i64 a.due) ∧ w'.cell? ⟨g, c * 4 + 3, none⟩ = some (.int .i64 a.set)
                ∧ w'.cell? ⟨g, k * 4, none⟩ = some (.int .i64 b.kind) ∧ w'.cell? ⟨g, k * 4 + 1, none⟩ = some (.int .i64 b.call) ∧ w'.cell? ⟨g, k * 4 + 2, none⟩ = some (.int .i64 b.due) ∧ w'.cell? ⟨g, k * 4 + 3, none⟩ = some (.int .i64 b.set))
        (first
          | (go_keep; done)
          | (go_split_ands
             refine ⟨?_, ?_, ?_, ?_, ?_, ?_, ?_, ?_, ?_⟩
             all_goals (first | (rw [hb.cell (by assumption)]; assumption) | (go_keep; done))))
        (first
          | (go_at_call 165; refine (before_any a b _).mono ?_; rintro e w' ⟨rfl, hb⟩))
      rename_i hH
      have hcw := hH.1
      clear i0 i1 i2 i3 j0 j1 j2 j3 hm hH
      have hB1 : Below w1.heap.size w1 w' := (Below.refl w1.heap.size w1).drew.trans hb
      have hF2 := hF1.below lp hB1
      have hr2 := HR1.out.below hB1
      have HSW2 := hide (HSW.out w' hcw hr2)
      clear HSW HR1 hb hB1 hb1 hc1 hF1
      cases hd : decide (a.lt b) with
      | true =>
        have hG := HGO.out (of_decide_eq_true hd)
        clear hd HGO HST
        go_wp2_with (first | (go_at_call 120; refine HSW2.out.mono ?_; rintro e w2 ⟨rfl, hc3, hr3, hF3⟩))
        go_roundw
        case rel => exact ⟨c, swapL ys k c, rfl, Nat.le_of_lt hlt, hG, HPP.out.trans hP, hc3, hr3, hF2.trans hF3 (fun _ h => ⟨h, h⟩) (fun _ h => .inl h)⟩
        case measure =>
          have : k < c := by rcases hC.1 with e | e <;> omega
          simp [intOf]
          omega
      | false =>
        have hG := HST.out (of_decide_eq_false hd)
        clear hd HGO HST
        go_wp2_with fail
        exact bodyPost_ret (v := .tuple #[]) (by simp [results, Tryz.results101, go_sem]) rfl ⟨rfl, ys, hP, hG, hcw, hr2, hF2⟩
    · have c1 : decide (xs.length ≤ c) = true := decide_eq_true (by omega)
      go_quiet (fail)
      go_wp2_with fail
      exact bodyPost_ret (v := .tuple #[]) (by simp [results, Tryz.results101, go_sem]) rfl ⟨rfl, ys, hP, hSk.stop hC (.inl (by omega)), hc1, hr1.below (below_drewN _ _), hF1.below lp (below_drewN _ _)⟩

set_option maxRecDepth 100000 in
set_option maxHeartbeats 4000000 in
theorem rise_any (p o : Nat) (g cap : Nat) (xs : List PTimer) (k0 : Nat) (w : World) (hl : xs.length ≤ 1000000) (hS : Rising xs k0) (hgp : g ≠ p) (hc : w.cell? ⟨p, o, none⟩ = some (.slice (some ⟨g, 0, none⟩) xs.length cap)) (hr : Row w 0 114 4 encPT (.slice (some ⟨g, 0, none⟩) xs.length cap) xs) :
    Calls Tryz.prog 134 #[.pointer (some ⟨p, o, none⟩), .int .i64 k0] w fun e w' =>
      e = .returned (.tuple #[]) ∧ ∃ ys, ys.Perm xs ∧ IsHeap ys ∧ w'.cell? ⟨p, o, none⟩ = some (.slice (some ⟨g, 0, none⟩) xs.length cap) ∧ Row w' 0 114 4 encPT (.slice (some ⟨g, 0, none⟩) xs.length cap) ys ∧ Fr p [] [g] w w' := by
  have lp : p < w.heap.size := World.block_lt_of_cell? w _ hc
  go_enter Tryz.func134, Tryz.ntmps134
  go_wp2_with fail
  go_loopw [1] (fun pv wr => ∃ (k : Nat) (ys : List PTimer), pv = .int .i64 k ∧ Rising ys k ∧ ys.Perm xs ∧ wr.cell? ⟨p, o, none⟩ = some (.slice (some ⟨g, 0, none⟩) xs.length cap) ∧ Row wr 0 114 4 encPT (.slice (some ⟨g, 0, none⟩) xs.length cap) ys ∧ Fr p [] [g] w wr) (fun pv _ => (intOf pv).toNat)
  case atStart => exact ⟨k0, xs, rfl, hS, List.Perm.refl _, hc, hr, Fr.refl _ _ _ _⟩
  case round =>
    obtain ⟨k, ys, rfl, hSk, hP, hcr, hrr, hF⟩ := hrel
    clear hr hc hS
    have hlen := hP.length_eq
    have hk := hSk.lt
    by_cases h0 : 0 < k
    · have k1 : (k : Int) < (xs.length : Int) := by omega
      have k2 : (0 : Int) < (k : Int) := by omega
      have hq : ((k : Int) - 1).tdiv 2 = (((k - 1) / 2 : Nat) : Int) := by
        rw [Int.tdiv_eq_ediv_of_nonneg (by omega)]
        omega
      have HST := hide (fun h => hSk.stop (.inr h))
      have HGO := hide (hSk.go h0)
      have HSW := hide (fun W hcW hrW => swap_any p o g cap ys k ((k - 1) / 2) W (by omega) (by omega) (by omega) hgp hcW hrW)
      have HPP := hide (swapL_perm ys k ((k - 1) / 2) (by omega) (by omega))
      have hpk : (k - 1) / 2 < k := by omega
      generalize (k - 1) / 2 = q at hq HST HGO HSW HPP hpk
      rw [hlen] at HSW
      generalize ha : pt ys k = a at HST HGO
      generalize hz : pt ys q = b at HST HGO
      obtain ⟨i0, i1, i2, i3⟩ := hrr.pt_cells _ (by omega) a ha
      obtain ⟨j0, j1, j2, j3⟩ := hrr.pt_cells _ (by omega) b hz
      have lg : g < wr.heap.size := World.block_lt_of_cell? wr _ i0
      have lp1 : p < wr.heap.size := Nat.lt_of_lt_of_le lp hF.size
      have q1 : (q : Int) < (xs.length : Int) := by omega
      have HR1 := hide hrr
      have hm : ∀ w : World, (method 362 114 (.agg #[.int .i64 a.kind, .int .i64 a.call, .int .i64 a.due, .int .i64 a.set]) "Before").run Tryz.prog w = .ok (165, .agg #[.int .i64 a.kind, .int .i64 a.call, .int .i64 a.due, .int .i64 a.set]) w := fun _ => by kernel_rfl
      clear ha hz hrr hSk
      go_wp2_with fail
      go_region_held3 (fun w' => w'.cell? ⟨p, o, none⟩ = some (.slice (some ⟨g, 0, none⟩) xs.length cap) ∧ w'.cell? ⟨g, k * 4, none⟩ = some (.int .i64 a.kind) ∧ w'.cell? ⟨g, k * 4 + 1, none⟩ = some (.int .i64 a.call) ∧ w'.cell? ⟨g, k * 4 + 2, none⟩ = some (.int .i64 a.due) ∧ w'.cell? ⟨g, k * 4 + 3, none⟩ = some (.int .i64 a.set)
          ∧ w'.cell? ⟨g, q * 4, none⟩ = some (.int .i64 b.kind) ∧ w'.cell? ⟨g, q * 4 + 1, none⟩ = some (.int .i64 b.call) ∧ w'.cell? ⟨g, q * 4 + 2, none⟩ = some (.int .i64 b.due) ∧ w'.cell? ⟨g, q * 4 + 3, none⟩ = some (.int .i64 b.set))
        (first
          | (go_keep; done)
          | (go_split_ands
             refine ⟨?_, ?_, ?_, ?_, ?_, ?_, ?_, ?_, ?_⟩
             all_goals (first | (rw [hb.cell (by assumption)]; assumption) | (go_keep; done))))
        (first
          | (go_at_call 165; refine (before_any a b _).mono ?_; rintro e w' ⟨rfl, hb⟩))
      rename_i hH
      have hcw := hH.1
      clear i0 i1 i2 i3 j0 j1 j2 j3 hm hH
      have hB1 : Below wr.heap.size wr w' := (Below.refl wr.heap.size wr).drew.trans hb
      have hF2 := hF.below lp hB1
      have hr2 := HR1.out.below hB1
      have HSW2 := hide (HSW.out w' hcw hr2)
      clear HSW HR1 hb hB1 hcr hF
      cases hd : decide (a.lt b) with
      | true =>
        have hG := HGO.out (of_decide_eq_true hd)
        clear hd HGO HST
        go_wp2_with (first | (go_at_call 120; refine HSW2.out.mono ?_; rintro e w2 ⟨rfl, hc3, hr3, hF3⟩))
        go_roundw
        case rel => exact ⟨q, swapL ys k q, rfl, hG, HPP.out.trans hP, hc3, hr3, hF2.trans hF3 (fun _ h => ⟨h, h⟩) (fun _ h => .inl h)⟩
        case measure =>
          simp [intOf]
          omega
      | false =>
        have hG := HST.out (of_decide_eq_false hd)
        clear hd HGO HST
        go_wp2_with fail
        exact bodyPost_ret (v := .tuple #[]) (by simp [results, Tryz.results134, go_sem]) rfl ⟨rfl, ys, hP, hG, hcw, hr2, hF2⟩
    · have e0 : k = 0 := by omega
      subst e0
      go_wp2_with fail
      go_end0
      exact ⟨rfl, ys, hP, hSk.stop (.inl rfl), hcr, hrr, hF⟩
end Go.Proofs.YtlccfpbbdgpjbaaGreatDoor

namespace Go.Proofs.YtlccfpbbdgpjbaaGreatDoor
open Go.RowKit

theorem Tryz.infoPT : (Tryz.prog.info? 114).map (fun i => (i.zero, i.size, i.bytes)) = some (some (.agg #[.int .i64 0, .int .i64 0, .int .i64 0, .int .i64 0]), 4, 32) := by kernel_rfl

/-- A row of its own has this form, if it is not empty. -/
theorem Row.at {α : Type} {w : World} {b e size : Nat} {enc : α → List Value} {v : Value} {xs : List α} (h : Row w b e size enc v xs) (h0 : 0 < xs.length) : ∃ g cap, v = .slice (some ⟨g, 0, none⟩) xs.length cap ∧ v.ownBlock = some g := by
  obtain ⟨A, cap, rfl, _, h1, _⟩ := h.form
  obtain ⟨g, rfl⟩ := h1 0 h0
  exact ⟨g, cap, rfl, rfl⟩

set_option maxRecDepth 100000 in
set_option maxHeartbeats 4000000 in
theorem push_any (p o : Nat) (a : PTimer) (v : Value) (xs : List PTimer) (w : World) (hl : xs.length ≤ 999999) (hH : IsHeap xs) (hc : w.cell? ⟨p, o, none⟩ = some v) (hz : w.frozen? ⟨p, o, none⟩ = false) (hr : Row w 0 114 4 encPT v xs) (hv : v.ownBlock ≠ some p) :
    Calls Tryz.prog 114 #[.pointer (some ⟨p, o, none⟩), .agg #[.int .i64 a.kind, .int .i64 a.call, .int .i64 a.due, .int .i64 a.set]] w fun e w' =>
      e = .returned (.tuple #[]) ∧ ∃ v' ys, ys.Perm (xs ++ [a]) ∧ IsHeap ys ∧ w'.cell? ⟨p, o, none⟩ = some v' ∧ Row w' 0 114 4 encPT v' ys ∧ (v'.ownBlock = v.ownBlock ∨ ∃ g, v'.ownBlock = some g ∧ w.heap.size ≤ g) ∧ Fr p [o] v.ownBlock.toList w w' := by
  obtain ⟨i0, hi0, z0, z1, z2⟩ := info_parts Tryz.infoPT
  have lp : p < w.heap.size := World.block_lt_of_cell? w _ hc
  have hne := World.new_ne w _ hc
  have hvn : some w.heap.size ≠ v.ownBlock := fun e => by have := (hr.lt _ e.symm).2; omega
  have hnb : ∀ B : Obj, ((w.alloc B).alloc (.cells (encPT a).toArray 114)).heap[w.heap.size + 1]? = some (.cells (encPT a).toArray 114) := fun B => by
    have := heap_alloc_new (w.alloc B) (.cells (encPT a).toArray 114)
    simpa using this
  have HN := hide hnb
  clear hnb
  have hzA : ∀ B B' : Obj, ((w.alloc B).alloc B').frozen? ⟨p, o, none⟩ = false := fun B B' => by
    rw [World.frozen?_alloc_old _ _ _ (by simp; omega), World.frozen?_alloc_old _ _ _ (by simp; omega)]
    exact hz
  have hcA : ∀ B B' : Obj, ((w.alloc B).alloc B').cell? ⟨p, o, none⟩ = some v := fun B B' => by
    rw [World.cell?_alloc_lt _ _ _ (by simp; omega), World.cell?_alloc_lt _ _ _ (by simp; omega)]
    exact hc
  have HZ := hide hzA
  have HC := hide hcA
  clear hzA hcA
  go_enter Tryz.func114, Tryz.ntmps114
  go_wp2_with fail
  go_region_law
    ((refine step_append_lies _ (by rfl) _ _ _ (by rfl) 0 114 i0 _ 4 32 Tryz.underlying90 hi0 z0 z1 z2 rfl (by omega) v xs.length (xs.flatMap encPT) (by rfl) (((World.ownsRow.alloc hr _).alloc _).drew)
        ⟨w.heap.size + 1, 0, none⟩ 1 1 (encPT a) (by rfl) (by rfl) (World.news_of_block (cs := (encPT a).toArray) (t := 114) (fr := (0, 0)) (HN.out _)) (by simp [Value.oneCell', encPT])
        (by omega) (by simp only [maxLen]; omega) (by omega) (by omega) (w.heap.size + 1 + 1) (by simp) ?_; intro g cap w1 hown hgrow hat hlt; have fz : w1.frozen? ⟨p, o, none⟩ = false := (by rw [hgrow.frozen_far _ (by simp; omega) (Ne.symm hv)]; exact HZ.out _ _); have cz : w1.cell? ⟨p, o, none⟩ = some v := (by rw [hgrow.cell_far _ (by simp; omega) (Ne.symm hv)]; exact HC.out _ _)))
  all_goals
    have hat' : v.ownBlock = some g ∨ w.heap.size ≤ g := hat.imp id (fun h => by omega)
    obtain ⟨v', hc2, hr2, hv2, hF2⟩ := push_post (x := a) lp hr (((Below.refl _ _).alloc (Nat.le_refl _) _).alloc (by simp) _).drew hown hgrow hv hat' cz
    have hc2' : (w1.setCell ⟨p, o, none⟩ (.slice (some ⟨g, 0, none⟩) (xs.length + 1) cap)).cell? ⟨p, o, none⟩ = some (.slice (some ⟨g, 0, none⟩) (xs.length + 1) cap) := World.cell?_setCell_same _ _ _ cz
    obtain rfl : v' = .slice (some ⟨g, 0, none⟩) (xs.length + 1) cap := Option.some.inj (hc2.symm.trans hc2')
    have hgp : g ≠ p := fun e => hat'.elim (fun h => hv (e ▸ h)) (fun h => by omega)
    generalize w1.setCell ⟨p, o, none⟩ (.slice (some ⟨g, 0, none⟩) (xs.length + 1) cap) = W2 at hc2 hr2 hF2 ⊢
    have HR := rise_any p o g cap (xs ++ [a]) xs.length W2 (by simp; omega) (Rising.start hH a) hgp (by simpa using hc2) (by simpa using hr2)
    have HRH := hide HR
    have HX := hide hat'
    clear HR hat hat' hown hgrow cz fz hr hH hr2 hlt HN HZ HC hc hz hc2'
    go_wp2_with (first | (go_at_call 134; refine HRH.out.mono ?_; rintro e w3 ⟨rfl, ys, hP, hI, hc3, hr3, hF3⟩))
    go_end0
    refine ⟨rfl, _, ys, hP, hI, hc3, hr3, ?_, ?_⟩
    · exact HX.out.imp (fun h => h.symm) (fun h => ⟨g, rfl, h⟩)
    · exact hF2.trans hF3 (fun _ h => ⟨h, by simp⟩) (fun r hr => by
        have : r = g := by simpa using hr
        subst this
        exact HX.out.imp (fun h => by simp [h]) id)
end Go.Proofs.YtlccfpbbdgpjbaaGreatDoor
