/-
  A run of cells laid into a row in its place; clear.
-/
import Derived.Test.YtlccfpbbdgpjbaaGreatDoorRMem
import Derived.Lib.SliceRun
namespace Go.Proofs.YtlccfpbbdgpjbaaGreatDoor
open Go.RowKit

def layA (cur : Array Value) : Nat → List Value → Array Value
  | _, [] => cur
  | o, v :: r => layA (cur.setIfInBounds o v) (o + 1) r

theorem layA_size : ∀ (vs : List Value) (cur : Array Value) (o : Nat), (layA cur o vs).size = cur.size := by
  intro vs
  induction vs with
  | nil => intro cur o; rfl
  | cons v r ih => intro cur o; rw [layA, ih]; simp

theorem layA_list : ∀ (vs : List Value) (cur : Array Value) (o : Nat), o + vs.length ≤ cur.size → (layA cur o vs).toList = cur.toList.take o ++ vs ++ cur.toList.drop (o + vs.length) := by
  intro vs
  induction vs with
  | nil => intro cur o _; simp [layA]
  | cons v r ih =>
    intro cur o h
    simp only [List.length_cons] at h ⊢
    rw [layA, ih _ _ (by simp; omega), Array.toList_setIfInBounds]
    have hl : o < cur.toList.length := by simp; omega
    rw [List.take_set, List.take_succ_eq_append_getElem hl, List.set_append_right _ _ (by rw [List.length_take]; omega), List.drop_set_of_lt (by omega)]
    have : o - (cur.toList.take o).length = 0 := by rw [List.length_take]; omega
    rw [this, show o + 1 + r.length = o + (r.length + 1) by omega]
    simp

theorem heap_setCells {g : Nat} {e : TypeId} {fr : Nat × Nat} : ∀ (vs : List Value) (o : Nat) (w : World) (cur : Array Value), w.heap[g]? = some (.cells cur e fr) → (w.setCells g o vs).heap[g]? = some (.cells (layA cur o vs) e fr) := by
  intro vs
  induction vs with
  | nil => intro o w cur h; exact h
  | cons v r ih =>
    intro o w cur h
    exact ih (o + 1) _ _ (by simp [World.setCell, Array.getElem?_modify, h])

theorem flat_take {α β : Type} (enc : α → List β) (m : Nat) (hm : ∀ x, (enc x).length = m) : ∀ (l : List α) (k : Nat), (l.take k).flatMap enc = (l.flatMap enc).take (k * m) := by
  intro l
  induction l with
  | nil => intro k; simp
  | cons a r ih =>
    intro k
    cases k with
    | zero => simp
    | succ k =>
      have e1 : (enc a).take ((k + 1) * m) = enc a := List.take_of_length_le (by rw [hm, Nat.succ_mul]; omega)
      rw [List.take_succ_cons, List.flatMap_cons, List.flatMap_cons, ih, List.take_append, hm, e1]
      rw [show (k + 1) * m - m = k * m by rw [Nat.succ_mul]; omega]
theorem flat_drop {α β : Type} (enc : α → List β) (m : Nat) (hm : ∀ x, (enc x).length = m) : ∀ (l : List α) (k : Nat), (l.drop k).flatMap enc = (l.flatMap enc).drop (k * m) := by
  intro l
  induction l with
  | nil => intro k; simp
  | cons a r ih =>
    intro k
    cases k with
    | zero => simp
    | succ k =>
      have e1 : (enc a).drop ((k + 1) * m) = [] := List.drop_of_length_le (by rw [hm, Nat.succ_mul]; omega)
      rw [List.drop_succ_cons, List.flatMap_cons, ih, List.drop_append, hm, e1, List.nil_append]
      rw [show (k + 1) * m - m = k * m by rw [Nat.succ_mul]; omega]

section
variable {α : Type} {w : World} {b e size g cap n : Nat} {enc : α → List Value} {xs : List α}

theorem Row.cap_le (h : Row w b e size enc (.slice (some ⟨g, 0, none⟩) n cap) xs) : xs.length ≤ cap ∧ cap ≤ maxLen := by
  rcases h.2 with ⟨hn, _⟩ | ⟨g', cap', cur, hv, hb, hgg, hnc, hcm, hcs, htake⟩
  · cases hn
  · cases hv
    exact ⟨hnc, hcm⟩

theorem Row.there (h : Row w b e size enc (.slice (some ⟨g, 0, none⟩) n cap) xs) (hm : ∀ x, (enc x).length = size) (j : Nat) (hj : j < xs.length * size) : (w.cell? ⟨g, j, none⟩).isSome = true ∧ w.frozen? ⟨g, j, none⟩ = false := by
  obtain ⟨A, cap', hv, _, _, h2⟩ := h.form
  cases hv
  have hl := flat_len enc size hm xs
  obtain ⟨h3, h4⟩ := (h2 g rfl).2.2.2 j ((xs.flatMap enc)[j]'(by rw [hl]; exact hj)) (List.getElem?_eq_getElem _)
  exact ⟨by rw [h3]; rfl, h4⟩

/-- The entries from place i on hold what is laid there; the row is then cut to k entries. -/
theorem Row.relay (h : Row w b e size enc (.slice (some ⟨g, 0, none⟩) n cap) xs) (hm : ∀ x, (enc x).length = size) (i : Nat) (zs ys : List α) (hi : i + zs.length ≤ xs.length) (hk : ys.length ≤ xs.length) (hy : ys = (xs.take i ++ zs ++ xs.drop (i + zs.length)).take ys.length) :
    Row (w.setCells g (i * size) (zs.flatMap enc)) b e size enc (.slice (some ⟨g, 0, none⟩) ys.length cap) ys := by
  rcases h.2 with ⟨hn, _⟩ | ⟨g', cap', cur, hv, hb, hgg, hnc, hcm, hcs, htake⟩
  · cases hn
  · cases hv
    have hlx := flat_len enc size hm xs
    have hlz := flat_len enc size hm zs
    have hle : i * size + (zs.flatMap enc).length ≤ xs.length * size := by
      rw [hlz, ← Nat.add_mul]
      exact Nat.mul_le_mul_right _ hi
    have hle2 : xs.length * size ≤ cur.size := by
      rw [hcs]
      exact Nat.mul_le_mul_right _ hnc
    refine ⟨?_, .inr ⟨g, cap, layA cur (i * size) (zs.flatMap enc), rfl, hb, heap_setCells _ _ _ _ hgg, by omega, hcm, by rw [layA_size]; exact hcs, ?_⟩⟩
    · rw [flat_len enc size hm]
    · rw [layA_list _ _ _ (Nat.le_trans hle hle2)]
      obtain ⟨D, hD⟩ : ∃ D, cur.toList = xs.flatMap enc ++ D := ⟨cur.toList.drop (xs.length * size), by rw [← htake, List.take_append_drop]⟩
      have hp : ys.flatMap enc = (((xs.take i ++ zs ++ xs.drop (i + zs.length)).flatMap enc).take (ys.length * size)) := by
        rw [← flat_take enc size hm, ← hy]
      have e1 : (xs.flatMap enc ++ D).take (i * size) = (xs.flatMap enc).take (i * size) := List.take_append_of_le_length (by rw [hlx]; omega)
      have e2 : (xs.flatMap enc ++ D).drop (i * size + (zs.flatMap enc).length) = (xs.flatMap enc).drop (i * size + (zs.flatMap enc).length) ++ D := List.drop_append_of_le_length (by rw [hlx]; exact hle)
      rw [hD, e1, e2, hp, List.flatMap_append, List.flatMap_append, flat_take enc size hm, flat_drop enc size hm, hlz, Nat.add_mul]
      rw [← List.append_assoc, List.take_append_of_le_length]
      simp only [List.length_append, List.length_take, List.length_drop, hlx, hlz]
      have h3 : ys.length * size ≤ xs.length * size := Nat.mul_le_mul_right _ hk
      rw [hlz] at hle
      omega
end

/-- 'clear(s)' of a slice whose entries have several cells. -/
theorem run_clear_rows {P : Program} {α : Type} (enc : α → List Value) (m : Nat) (hm : ∀ x, (enc x).length = m) (w : World) (t e ty : TypeId) (z : α) (ht : P.underlying t = some (.slice e)) (hv : ∀ w, (zeroValue e).run P w = .ok (.agg (enc z).toArray) w) (hz : (Value.agg (enc z).toArray).cells = (enc z).toArray) (h1 : ∀ u ∈ enc z, u.oneCell' = true) (b o n c : Nat) (hn : 0 < n)
    (hc : ∀ j, j < n * m → (w.cell? ⟨b, o + j, none⟩).isSome = true) (hf : ∀ j, j < n * m → w.frozen? ⟨b, o + j, none⟩ = false) :
    (Builtin.clear_ #[t] ty #[.slice (some ⟨b, o, none⟩) n c]).run P w = .ok (.tuple #[]) (w.setCells b o ((List.replicate n z).flatMap enc)) := by
  have hlen := flat_len enc m hm (List.replicate n z)
  rw [List.length_replicate] at hlen
  have hzc : (Builtin.zeroCells (Value.agg (enc z).toArray).cells n).toList = (List.replicate n z).flatMap enc := by
    rw [hz]
    simp only [Builtin.zeroCells, List.size_toArray, hm, Array.toList_map, Array.toList_range]
    apply List.ext_getElem
    · simp [hlen]
    · intro i h1 h2
      rw [hlen] at h2
      have hm0 : 0 < m := Nat.pos_of_ne_zero (fun h => by rw [h] at h2; omega)
      have hi : i / m < n := (Nat.div_lt_iff_lt_mul hm0).2 h2
      have hj : i % m < m := Nat.mod_lt _ hm0
      have := flat_get enc m hm (List.replicate n z) (i / m) (i % m) (by simpa using hi) hj
      rw [show i / m * m + i % m = i by rw [Nat.mul_comm]; exact Nat.div_add_mod i m, List.getElem_replicate] at this
      rw [List.getElem?_eq_getElem (by rw [hlen]; exact h2), List.getElem?_eq_getElem (by rw [hm]; exact hj)] at this
      simp only [Option.some.injEq] at this
      rw [this]
      simp [hm, hj]
  have hst := run_storeCells_cells (P := P) b o ((List.replicate n z).flatMap enc) 0 w (by rw [hlen]; simpa using hc) (by rw [hlen]; simpa using hf) (by
    intro v hv'
    obtain ⟨x, hx, hx'⟩ := List.mem_flatMap.1 hv'
    rw [List.eq_of_mem_replicate hx] at hx'
    exact h1 v hx')
  simp only [Nat.add_zero] at hst
  obtain ⟨k, rfl⟩ : ∃ k, n = k + 1 := ⟨n - 1, by omega⟩
  simp [Builtin.clear_, run_underlying ht, hv, hzc, hst]
end Go.Proofs.YtlccfpbbdgpjbaaGreatDoor
