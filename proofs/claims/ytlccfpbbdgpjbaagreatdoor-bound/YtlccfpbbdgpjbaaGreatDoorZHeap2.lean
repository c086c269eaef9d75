import Derived.Test.YtlccfpbbdgpjbaaGreatDoorRMem
import Derived.Lib.SliceRun
import Derived.Test.YtlccfpbbdgpjbaaGreatDoorZHeap
namespace Go.Proofs.YtlccfpbbdgpjbaaGreatDoor
open Go.RowKit

def layA (cur : Array Value) : Nat → List Value → Array Value
  | _, [] => cur
  | o, v :: r => layA (cur.setIfInBounds o v) (o + 1) r

theorem layA_size : ∀ (vs : List Value) (cur : Array Value) (o : Nat), (layA cur o vs).size = cur.size := by
  intro vs
  induction vs with
  | nil => intro cur o; rfl
  | cons v r ih => intro cur o; rw [layA, ih]; simp

theorem layA_list : ∀ (vs : List Value) (cur : Array Value) (o : Nat), o + vs.length ≤ cur.size → (layA cur o vs).toList = cur.toList.take o ++ vs ++ cur.toList.drop (o + vs.length) := by
  intro vs
  induction vs with
  | nil => intro cur o _; simp [layA]
  | cons v r ih =>
    intro cur o h
    simp only [List.length_cons] at h ⊢
    rw [layA, ih _ _ (by simp; omega), Array.toList_setIfInBounds]
    have hl : o < cur.toList.length := by simp; omega
    rw [List.take_set, List.take_succ_eq_append_getElem hl, List.set_append_right _ _ (by rw [List.length_take]; omega), List.drop_set_of_lt (by omega)]
    have : o - (cur.toList.take o).length = 0 := by rw [List.length_take]; omega
    rw [this, show o + 1 + r.length = o + (r.length + 1) by omega]
    simp

theorem heap_setCells {g : Nat} {e : TypeId} {fr : Nat × Nat} : ∀ (vs : List Value) (o : Nat) (w : World) (cur : Array Value), w.heap[g]? = some (.cells cur e fr) → (w.setCells g o vs).heap[g]? = some (.cells (layA cur o vs) e fr) := by
  intro vs
  induction vs with
  | nil => intro o w cur h; exact h
  | cons v r ih =>
    intro o w cur h
    exact ih (o + 1) _ _ (by simp [World.setCell, Array.getElem?_modify, h])

theorem flat_take {α β : Type} (enc : α → List β) (m : Nat) (hm : ∀ x, (enc x).length = m) : ∀ (l : List α) (k : Nat), (l.take k).flatMap enc = (l.flatMap enc).take (k * m) := by
  intro l
  induction l with
  | nil => intro k; simp
  | cons a r ih =>
    intro k
    cases k with
    | zero => simp
    | succ k =>
      have e1 : (enc a).take ((k + 1) * m) = enc a := List.take_of_length_le (by rw [hm, Nat.succ_mul]; omega)
      rw [List.take_succ_cons, List.flatMap_cons, List.flatMap_cons, ih, List.take_append, hm, e1]
      rw [show (k + 1) * m - m = k * m by rw [Nat.succ_mul]; omega]
theorem flat_drop {α β : Type} (enc : α → List β) (m : Nat) (hm : ∀ x, (enc x).length = m) : ∀ (l : List α) (k : Nat), (l.drop k).flatMap enc = (l.flatMap enc).drop (k * m) := by
  intro l
  induction l with
  | nil => intro k; simp
  | cons a r ih =>
    intro k
    cases k with
    | zero => simp
    | succ k =>
      have e1 : (enc a).drop ((k + 1) * m) = [] := List.drop_of_length_le (by rw [hm, Nat.succ_mul]; omega)
      rw [List.drop_succ_cons, List.flatMap_cons, ih, List.drop_append, hm, e1, List.nil_append]
      rw [show (k + 1) * m - m = k * m by rw [Nat.succ_mul]; omega]

section
variable {α : Type} {w : World} {b e size g cap n : Nat} {enc : α → List Value} {xs : List α}

theorem Row.cap_le (h : Row w b e size enc (.slice (some ⟨g, 0, none⟩) n cap) xs) : xs.length ≤ cap ∧ cap ≤ maxLen := by
  rcases h.2 with ⟨hn, _⟩ | ⟨g', cap', cur, hv, hb, hgg, hnc, hcm, hcs, htake⟩
  · cases hn
  · cases hv
    exact ⟨hnc, hcm⟩

theorem Row.there (h : Row w b e size enc (.slice (some ⟨g, 0, none⟩) n cap) xs) (hm : ∀ x, (enc x).length = size) (j : Nat) (hj : j < xs.length * size) : (w.cell? ⟨g, j, none⟩).isSome = true ∧ w.frozen? ⟨g, j, none⟩ = false := by
  obtain ⟨A, cap', hv, _, _, h2⟩ := h.form
  cases hv
  have hl := flat_len enc size hm xs
  obtain ⟨h3, h4⟩ := (h2 g rfl).2.2.2 j ((xs.flatMap enc)[j]'(by rw [hl]; exact hj)) (List.getElem?_eq_getElem _)
  exact ⟨by rw [h3]; rfl, h4⟩

/-- The entries from place i on hold what is laid there; the row is then cut to k entries. -/
theorem Row.relay (h : Row w b e size enc (.slice (some ⟨g, 0, none⟩) n cap) xs) (hm : ∀ x, (enc x).length = size) (i : Nat) (zs ys : List α) (hi : i + zs.length ≤ xs.length) (hk : ys.length ≤ xs.length) (hy : ys = (xs.take i ++ zs ++ xs.drop (i + zs.length)).take ys.length) :
    Row (w.setCells g (i * size) (zs.flatMap enc)) b e size enc (.slice (some ⟨g, 0, none⟩) ys.length cap) ys := by
  rcases h.2 with ⟨hn, _⟩ | ⟨g', cap', cur, hv, hb, hgg, hnc, hcm, hcs, htake⟩
  · cases hn
  · cases hv
    have hlx := flat_len enc size hm xs
    have hlz := flat_len enc size hm zs
    have hle : i * size + (zs.flatMap enc).length ≤ xs.length * size := by
      rw [hlz, ← Nat.add_mul]
      exact Nat.mul_le_mul_right _ hi
    have hle2 : xs.length * size ≤ cur.size := by
      rw [hcs]
      exact Nat.mul_le_mul_right _ hnc
    refine ⟨?_, .inr ⟨g, cap, layA cur (i * size) (zs.flatMap enc), rfl, hb, heap_setCells _ _ _ _ hgg, by omega, hcm, by rw [layA_size]; exact hcs, ?_⟩⟩
    · rw [flat_len enc size hm]
    · rw [layA_list _ _ _ (Nat.le_trans hle hle2)]
      obtain ⟨D, hD⟩ : ∃ D, cur.toList = xs.flatMap enc ++ D := ⟨cur.toList.drop (xs.length * size), by rw [← htake, List.take_append_drop]⟩
      have hp : ys.flatMap enc = (((xs.take i ++ zs ++ xs.drop (i + zs.length)).flatMap enc).take (ys.length * size)) := by
        rw [← flat_take enc size hm, ← hy]
      have e1 : (xs.flatMap enc ++ D).take (i * size) = (xs.flatMap enc).take (i * size) := List.take_append_of_le_length (by rw [hlx]; omega)
      have e2 : (xs.flatMap enc ++ D).drop (i * size + (zs.flatMap enc).length) = (xs.flatMap enc).drop (i * size + (zs.flatMap enc).length) ++ D := List.drop_append_of_le_length (by rw [hlx]; exact hle)
      rw [hD, e1, e2, hp, List.flatMap_append, List.flatMap_append, flat_take enc size hm, flat_drop enc size hm, hlz, Nat.add_mul]
      rw [← List.append_assoc, List.take_append_of_le_length]
      simp only [List.length_append, List.length_take, List.length_drop, hlx, hlz]
      have h3 : ys.length * size ≤ xs.length * size := Nat.mul_le_mul_right _ hk
      rw [hlz] at hle
      omega
end

/-- 'clear(s)' of a slice whose entries have several cells. -/
theorem run_clear_rows {P : Program} {α : Type} (enc : α → List Value) (m : Nat) (hm : ∀ x, (enc x).length = m) (w : World) (t e ty : TypeId) (z : α) (ht : P.underlying t = some (.slice e)) (hv : ∀ w, (zeroValue e).run P w = .ok (.agg (enc z).toArray) w) (hz : (Value.agg (enc z).toArray).cells = (enc z).toArray) (h1 : ∀ u ∈ enc z, u.oneCell' = true) (b o n c : Nat) (hn : 0 < n)
    (hc : ∀ j, j < n * m → (w.cell? ⟨b, o + j, none⟩).isSome = true) (hf : ∀ j, j < n * m → w.frozen? ⟨b, o + j, none⟩ = false) :
    (Builtin.clear_ #[t] ty #[.slice (some ⟨b, o, none⟩) n c]).run P w = .ok (.tuple #[]) (w.setCells b o ((List.replicate n z).flatMap enc)) := by
  have hlen := flat_len enc m hm (List.replicate n z)
  rw [List.length_replicate] at hlen
  have hzc : (Builtin.zeroCells (Value.agg (enc z).toArray).cells n).toList = (List.replicate n z).flatMap enc := by
    rw [hz]
    simp only [Builtin.zeroCells, List.size_toArray, hm, Array.toList_map, Array.toList_range]
    apply List.ext_getElem
    · simp [hlen]
    · intro i h1 h2
      rw [hlen] at h2
      have hm0 : 0 < m := Nat.pos_of_ne_zero (fun h => by rw [h] at h2; omega)
      have hi : i / m < n := (Nat.div_lt_iff_lt_mul hm0).2 h2
      have hj : i % m < m := Nat.mod_lt _ hm0
      have := flat_get enc m hm (List.replicate n z) (i / m) (i % m) (by simpa using hi) hj
      rw [show i / m * m + i % m = i by rw [Nat.mul_comm]; exact Nat.div_add_mod i m, List.getElem_replicate] at this
      rw [List.getElem?_eq_getElem (by rw [hlen]; exact h2), List.getElem?_eq_getElem (by rw [hm]; exact hj)] at this
      simp only [Option.some.injEq] at this
      rw [this]
      simp [hm, hj]
  have hst := run_storeCells_cells (P := P) b o ((List.replicate n z).flatMap enc) 0 w (by rw [hlen]; simpa using hc) (by rw [hlen]; simpa using hf) (by
    intro v hv'
    obtain ⟨x, hx, hx'⟩ := List.mem_flatMap.1 hv'
    rw [List.eq_of_mem_replicate hx] at hx'
    exact h1 v hx')
  simp only [Nat.add_zero] at hst
  obtain ⟨k, rfl⟩ : ∃ k, n = k + 1 := ⟨n - 1, by omega⟩
  simp [Builtin.clear_, run_underlying ht, hv, hzc, hst]
end Go.Proofs.YtlccfpbbdgpjbaaGreatDoor

namespace Go.Proofs.YtlccfpbbdgpjbaaGreatDoor
open Go.RowKit

set_option maxRecDepth 100000 in
set_option maxHeartbeats 1600000 in
theorem first_none (p o : Nat) (v : Value) (w : World) (hc : w.cell? ⟨p, o, none⟩ = some v) (hr : Row w 0 114 4 encPT v ([] : List PTimer)) :
    Calls Tryz.prog 70 #[.pointer (some ⟨p, o, none⟩)] w fun e w' => e = .returned (.tuple #[.agg #[.int .i64 0, .int .i64 0, .int .i64 0, .int .i64 0], .bool false]) ∧ Below w.heap.size w w' := by
  obtain ⟨A, cap, rfl, _, _, _⟩ := hr.form
  have lp : p < w.heap.size := World.block_lt_of_cell? w _ hc
  rw [List.length_nil] at hc
  clear hr
  go_enter Tryz.func70, Tryz.ntmps70
  go_wp2_with fail
  exact bodyPost_ret (v := .tuple #[.agg #[.int .i64 0, .int .i64 0, .int .i64 0, .int .i64 0], .bool false]) (by simp [results, Tryz.results70, go_sem]) rfl ⟨rfl, ((Below.refl _ _).alloc (Nat.le_refl _) _).alloc (by simp) _⟩

set_option maxRecDepth 100000 in
set_option maxHeartbeats 1600000 in
theorem first_some (p o : Nat) (g cap : Nat) (xs : List PTimer) (w : World) (h0 : 0 < xs.length) (hc : w.cell? ⟨p, o, none⟩ = some (.slice (some ⟨g, 0, none⟩) xs.length cap)) (hr : Row w 0 114 4 encPT (.slice (some ⟨g, 0, none⟩) xs.length cap) xs) :
    Calls Tryz.prog 70 #[.pointer (some ⟨p, o, none⟩)] w fun e w' => e = .returned (.tuple #[.agg #[.int .i64 (pt xs 0).kind, .int .i64 (pt xs 0).call, .int .i64 (pt xs 0).due, .int .i64 (pt xs 0).set], .bool true]) ∧ Below w.heap.size w w' := by
  obtain ⟨i0, i1, i2, i3⟩ := hr.pt_cells 0 h0 _ rfl
  generalize pt xs 0 = a at i0 i1 i2 i3 ⊢
  have h1 : (0 : Int) < (xs.length : Int) := by omega
  have h2 : ((xs.length : Int) == 0) = false := by rw [beq_eq_false_iff_ne]; omega
  rw [Nat.zero_mul] at i0 i1 i2 i3
  have lp : p < w.heap.size := World.block_lt_of_cell? w _ hc
  have lg : g < w.heap.size := World.block_lt_of_cell? w _ i0
  clear hr
  go_enter Tryz.func70, Tryz.ntmps70
  go_wp2_with fail
  exact bodyPost_ret (v := .tuple #[.agg #[.int .i64 a.kind, .int .i64 a.call, .int .i64 a.due, .int .i64 a.set], .bool true]) (by simp [results, Tryz.results70, go_sem]) rfl ⟨rfl, (Below.refl _ _).alloc (Nat.le_refl _) _⟩

theorem Row.pt_all {w : World} {b e : Nat} {g n cap : Nat} {xs : List PTimer} (h : Row w b e 4 encPT (.slice (some ⟨g, 0, none⟩) n cap) xs) (i : Nat) (hi : i < xs.length) (x : PTimer) (hx : pt xs i = x) :
    (w.cell? ⟨g, i * 4, none⟩ = some (.int .i64 x.kind) ∧ w.cell? ⟨g, i * 4 + 1, none⟩ = some (.int .i64 x.call) ∧ w.cell? ⟨g, i * 4 + 2, none⟩ = some (.int .i64 x.due) ∧ w.cell? ⟨g, i * 4 + 3, none⟩ = some (.int .i64 x.set)) ∧
    w.frozen? ⟨g, i * 4, none⟩ = false ∧ w.frozen? ⟨g, i * 4 + 1, none⟩ = false ∧ w.frozen? ⟨g, i * 4 + 2, none⟩ = false ∧ w.frozen? ⟨g, i * 4 + 3, none⟩ = false := by
  refine ⟨h.pt_cells i hi x hx, ?_⟩
  exact ⟨(h.cell encPT_len (g := g) (j := 0) rfl hi rfl).2, (h.cell encPT_len (g := g) (j := 1) rfl hi rfl).2, (h.cell encPT_len (g := g) (j := 2) rfl hi rfl).2, (h.cell encPT_len (g := g) (j := 3) rfl hi rfl).2⟩

theorem Fr.setCellsIn {p g : Nat} {J R : List Nat} {w : World} (hg : g ∈ R) (hp : g ≠ p) : ∀ (vs : List Value) (o : Nat) (wr : World), Fr p J R w wr → Fr p J R w (wr.setCells g o vs) := by
  intro vs
  induction vs with
  | nil => intro o wr h; exact h
  | cons v r ih => intro o wr h; exact ih (o + 1) _ (h.setIn (a := ⟨g, o, none⟩) hg hp v)

theorem Fr.cell_of {p : Nat} {J R : List Nat} {w w' : World} (h : Fr p J R w w') {k : Nat} (hk : k < w.heap.size) (hp : k ≠ p) (hR : k ∉ R) (j : Nat) : w'.cell? ⟨k, j, none⟩ = w.cell? ⟨k, j, none⟩ ∧ w'.frozen? ⟨k, j, none⟩ = w.frozen? ⟨k, j, none⟩ :=
  ⟨World.cell?_of_block (h.block k hk hp hR), World.frozen?_of_block (h.block k hk hp hR)⟩

def pt0 : PTimer := ⟨0, 0, 0, 0⟩

theorem popped_list (xs : List PTimer) (z : PTimer) : xs.dropLast.set 0 z = ((xs.set 0 z).take (xs.length - 1) ++ [pt0] ++ (xs.set 0 z).drop (xs.length - 1 + 1)).take (xs.dropLast.set 0 z).length := by
  have hl : (xs.dropLast.set 0 z).length = xs.length - 1 := by simp
  rw [hl, List.append_assoc, List.take_append_of_le_length (by simp), List.take_take, Nat.min_self, List.take_set, List.dropLast_eq_take]

set_option maxRecDepth 100000 in
set_option maxHeartbeats 4000000 in
theorem pop_any (p o : Nat) (g cap : Nat) (xs : List PTimer) (w : World) (h0 : 0 < xs.length) (hl : xs.length ≤ 1000000) (hH : IsHeap xs) (hgp : g ≠ p) (hc : w.cell? ⟨p, o, none⟩ = some (.slice (some ⟨g, 0, none⟩) xs.length cap)) (hz : w.frozen? ⟨p, o, none⟩ = false) (hr : Row w 0 114 4 encPT (.slice (some ⟨g, 0, none⟩) xs.length cap) xs) :
    Calls Tryz.prog 71 #[.pointer (some ⟨p, o, none⟩)] w fun e w' =>
      (∃ v, e = .returned v) ∧ ∃ ys, (pt xs 0 :: ys).Perm xs ∧ IsHeap ys ∧ w'.cell? ⟨p, o, none⟩ = some (.slice (some ⟨g, 0, none⟩) ys.length cap) ∧ Row w' 0 114 4 encPT (.slice (some ⟨g, 0, none⟩) ys.length cap) ys ∧ Fr p [o] [g] w w' := by
  have lp : p < w.heap.size := World.block_lt_of_cell? w _ hc
  have hn : xs.length - 1 < xs.length := by omega
  have lg : g < w.heap.size := (hr.lt g rfl).2
  have hA : ∀ B, Below w.heap.size w (w.alloc B) := fun B => (Below.refl _ _).alloc (Nat.le_refl _) _
  have HFS := hide (fun B => first_some p o g cap xs (w.alloc B) h0 (((hA B).cell lp).trans hc) (hr.below (hA B)))
  have HF1 := hide (fun (B : Obj) (w1 : World) (hb1 : Below (w.alloc B).heap.size (w.alloc B) w1) => (hA B).trans (hb1.mono (hA B).size))
  have h1 : (0 : Int) < (xs.length : Int) := by omega
  have h2 : ((xs.length : Int) - 1).toNat = xs.length - 1 := by omega
  have h3 : (0 : Int) ≤ (xs.length : Int) - 1 := by omega
  have hf : ∀ w1, Below w.heap.size w w1 → Row w1 0 114 4 encPT (.slice (some ⟨g, 0, none⟩) xs.length cap) xs := fun w1 h => hr.below h
  have hfc : ∀ w1, Below w.heap.size w w1 → w1.cell? ⟨p, o, none⟩ = some (.slice (some ⟨g, 0, none⟩) xs.length cap) := fun w1 h => (h.cell lp).trans hc
  have hfz : ∀ w1, Below w.heap.size w w1 → w1.frozen? ⟨p, o, none⟩ = false := fun w1 h => (h.frozen lp).trans hz
  have HF := hide hf
  have HFC := hide hfc
  have HFZ := hide hfz
  obtain ⟨z, hz9⟩ : ∃ z, pt xs (xs.length - 1) = z := ⟨_, rfl⟩
  obtain ⟨a, ha9⟩ : ∃ a, pt xs 0 = a := ⟨_, rfl⟩
  rw [ha9] at HFS ⊢
  have HZ9 := hide hz9
  have HA9 := hide ha9
  have HX := hide (⟨hr, hc, hz, hA⟩ : _ ∧ _ ∧ _ ∧ _)
  have hle : xs.length ≤ cap := hr.cap_le.1
  have hlm : cap ≤ 9223372036854775807 := hr.cap_le.2
  clear hr hc hz hA hf hfc hfz hz9 ha9
  go_enter Tryz.func71, Tryz.ntmps71
  go_wp2_with (first | (go_at_call 70; refine (HFS.out _).mono ?_; rintro e w1 ⟨rfl, hb1⟩; have hB := HF1.out _ w1 hb1; have lp1 : p < w1.heap.size := Nat.lt_of_lt_of_le lp hB.size; have lg1 : g < w1.heap.size := Nat.lt_of_lt_of_le lg hB.size; have c1 := HFC.out w1 hB; have f1 := HFZ.out w1 hB; obtain ⟨⟨a0, a1, a2, a3⟩, b0, b1, b2, b3⟩ := (HF.out w1 hB).pt_all 0 h0 a HA9.out; rw [Nat.zero_mul] at a0 a1 a2 a3 b0 b1 b2 b3; obtain ⟨⟨d0, d1, d2, d3⟩, e0, e1, e2, e3⟩ := (HF.out w1 hB).pt_all _ hn z HZ9.out))
  have hB2 : Below w.heap.size w (w1.alloc (.cells #[.int .i64 a.kind, .int .i64 a.call, .int .i64 a.due, .int .i64 a.set] 114)) := hB.alloc hB.size _
  have lr1 : w.heap.size < w1.heap.size := by
    have := hb1.size
    rw [World.size_alloc] at this
    omega
  have hrb : ∀ j, j < 4 → (w1.alloc (.cells #[.int .i64 a.kind, .int .i64 a.call, .int .i64 a.due, .int .i64 a.set] 114)).cell? ⟨w.heap.size, j, none⟩ = some (.int .i64 0) ∧ (w1.alloc (.cells #[.int .i64 a.kind, .int .i64 a.call, .int .i64 a.due, .int .i64 a.set] 114)).frozen? ⟨w.heap.size, j, none⟩ = false := fun j hj => by
    rw [World.cell?_alloc_lt _ _ _ lr1, World.frozen?_alloc_old _ _ _ (by simp; omega), hb1.cell (by simp), hb1.frozen (by simp)]
    match j, hj with
    | 0, _ => simp
    | 1, _ => simp
    | 2, _ => simp
    | 3, _ => simp
  have hlb : ∀ j u, #[Value.int .i64 a.kind, .int .i64 a.call, .int .i64 a.due, .int .i64 a.set][j]? = some u → (w1.alloc (.cells #[.int .i64 a.kind, .int .i64 a.call, .int .i64 a.due, .int .i64 a.set] 114)).cell? ⟨w1.heap.size, j, none⟩ = some u := fun j u hu => by
    simp [hu]
  clear c1 f1 a0 a1 a2 a3 b0 b1 b2 b3 d0 d1 d2 d3 e0 e1 e2 e3
  have lW : w1.heap.size < (w1.alloc (.cells #[.int .i64 a.kind, .int .i64 a.call, .int .i64 a.due, .int .i64 a.set] 114)).heap.size := by simp
  generalize w1.alloc (.cells #[.int .i64 a.kind, .int .i64 a.call, .int .i64 a.due, .int .i64 a.set] 114) = W at hB2 hrb hlb lW ⊢
  have c1 := HFC.out W hB2
  have f1 := HFZ.out W hB2
  obtain ⟨⟨a0, a1, a2, a3⟩, b0, b1, b2, b3⟩ := (HF.out W hB2).pt_all 0 h0 a HA9.out
  rw [Nat.zero_mul] at a0 a1 a2 a3 b0 b1 b2 b3
  obtain ⟨⟨d0, d1, d2, d3⟩, e0, e1, e2, e3⟩ := (HF.out W hB2).pt_all _ hn z HZ9.out
  have HRB := hide hrb
  have HLB := hide hlb
  clear hrb hlb
  have HFW := hide ((((((Fr.refl p [] [g] W).setIn (a := ⟨g, 0, none⟩) (List.mem_singleton.2 rfl) hgp (.int .i64 z.kind)).setIn (a := ⟨g, 1, none⟩) (List.mem_singleton.2 rfl) hgp (.int .i64 z.call)).setIn (a := ⟨g, 2, none⟩) (List.mem_singleton.2 rfl) hgp (.int .i64 z.due)).setIn (a := ⟨g, 3, none⟩) (List.mem_singleton.2 rfl) hgp (.int .i64 z.set)).drew)
  have hq := (HF.out W hB2).put4 (g := g) (i := 0) rfl h0 z
  simp only [Nat.zero_mul, Nat.zero_add] at hq
  have HQ := hide hq.drew
  clear hq
  go_region
  clear a0 a1 a2 a3 b0 b1 b2 b3 d0 d1 d2 d3 e0 e1 e2 e3
  generalize ((((W.setCell ⟨g, 0, none⟩ (.int .i64 z.kind)).setCell ⟨g, 1, none⟩ (.int .i64 z.call)).setCell ⟨g, 2, none⟩ (.int .i64 z.due)).setCell ⟨g, 3, none⟩ (.int .i64 z.set)).drew = W5 at HFW HQ ⊢
  have c5 : W5.cell? ⟨p, o, none⟩ = some (.slice (some ⟨g, 0, none⟩) xs.length cap) := (HFW.out.cell o (by simp)).trans c1
  have f5 : W5.frozen? ⟨p, o, none⟩ = false := (HFW.out.frozen o).trans f1
  obtain ⟨W6, hW6⟩ : ∃ W6, W6 = W5.setCells g ((xs.length - 1) * 4) ([pt0].flatMap encPT) := ⟨_, rfl⟩
  have hcl : ∀ ty, (Builtin.clear_ #[90] ty #[.slice (some ⟨g, (xs.length - 1) * 4, none⟩) (xs.length - (xs.length - 1)) (cap - (xs.length - 1))]).run Tryz.prog W5 = .ok (.tuple #[]) W6 := fun ty => by
    have e1 : xs.length - (xs.length - 1) = 1 := by omega
    rw [e1, hW6]
    exact run_clear_rows encPT 4 encPT_len W5 90 114 ty pt0 Tryz.underlying90 (fun w => by kernel_rfl) rfl (by simp [encPT, Value.oneCell']) g ((xs.length - 1) * 4) 1 _ (by omega)
      (fun j hj => (HQ.out.there encPT_len _ (by simp; omega)).1) (fun j hj => (HQ.out.there encPT_len _ (by simp; omega)).2)
  have HL := hide (HQ.out.relay encPT_len (xs.length - 1) [pt0] (xs.dropLast.set 0 z) (by simp; omega) (by simp) (by simpa using popped_list xs z))
  have HF6 := hide (Fr.setCellsIn (g := g) (List.mem_singleton.2 rfl) hgp ([pt0].flatMap encPT) ((xs.length - 1) * 4) W5 HFW.out)
  obtain ⟨ys, hys⟩ : ∃ ys, ys = xs.dropLast.set 0 z := ⟨_, rfl⟩
  have hyl : ys.length = xs.length - 1 := by rw [hys]; simp
  have hS : Sinking 0 ys 0 := by rw [hys]; exact Sinking.popped hH z
  have hPP : (a :: ys).Perm xs := by
    rw [hys, ← HZ9.out, ← HA9.out]
    rcases popped_perm h0 with h | ⟨h, h'⟩
    · exact h
    · have hd : xs.dropLast = [] := by rw [h']; rfl
      rw [hd]
      exact (List.Perm.of_eq h').symm
  rw [← hW6, ← hys, hyl] at HL
  rw [← hW6] at HF6
  have l6 : W.heap.size ≤ W6.heap.size := HF6.out.size
  have c6 : W6.cell? ⟨p, o, none⟩ = some (.slice (some ⟨g, 0, none⟩) xs.length cap) := (HF6.out.cell o (by simp)).trans c1
  have f6 : W6.frozen? ⟨p, o, none⟩ = false := (HF6.out.frozen o).trans f1
  have HF7 := hide (HF6.out.trans (Fr.store (j := o) (w := W6) (.slice (some ⟨g, 0, none⟩) (xs.length - 1) cap)) (J'' := [o]) (fun _ h => ⟨by simp, h⟩) (fun r h => by cases h))
  have HR7 := hide (HL.out.same (w' := W6.setCell ⟨p, o, none⟩ (.slice (some ⟨g, 0, none⟩) (xs.length - 1) cap)) (fun k hk => Below.heap_setCell _ _ _ _ (by simp [Value.ownBlock] at hk; show k ≠ p; omega)))
  have HC7 := hide (World.cell?_setCell_same _ _ (.slice (some ⟨g, 0, none⟩) (xs.length - 1) cap) c6)
  have HSK := hide (fun W7 hc hr => sink_any p o g cap 0 ys 0 W7 (by omega) (by omega) hS hgp hc hr)
  rw [hyl] at HSK
  have lpW : p < W.heap.size := by omega
  have lgW : g < W.heap.size := by omega
  have HFB := hide (Fr.of_below (J := [o]) (R := [g]) lp hB2)
  clear c1 f1 HFW HQ HL HF HFC HFZ HFS HF1 hW6 hys hB2 hb1
  go_wp2_with (first
    | (go_at_call 101; refine (HSK.out _ HC7.out HR7.out).mono ?_; rintro e w8 ⟨rfl, zs, hP8, hH8, hc8, hr8, hF8⟩
       have hF9 := HF7.out.trans hF8 (J'' := [o]) (fun _ h => ⟨h, by simp⟩) (fun r h => .inl h)
       have kR := fun j => hF9.cell_of (k := w.heap.size) (by omega) (by omega) (by simp; omega) j
       have kL := fun j => hF9.cell_of (k := w1.heap.size) (by omega) (by omega) (by simp; omega) j
       have r0 := (kR 0).1.trans (HRB.out 0 (by omega)).1
       have r1 := (kR 1).1.trans (HRB.out 1 (by omega)).1
       have r2 := (kR 2).1.trans (HRB.out 2 (by omega)).1
       have r3 := (kR 3).1.trans (HRB.out 3 (by omega)).1
       have s0 := (kR 0).2.trans (HRB.out 0 (by omega)).2
       have s1 := (kR 1).2.trans (HRB.out 1 (by omega)).2
       have s2 := (kR 2).2.trans (HRB.out 2 (by omega)).2
       have s3 := (kR 3).2.trans (HRB.out 3 (by omega)).2
       have m0 := (kL 0).1.trans (HLB.out 0 _ rfl)
       have m1 := (kL 1).1.trans (HLB.out 1 _ rfl)
       have m2 := (kL 2).1.trans (HLB.out 2 _ rfl)
       have m3 := (kL 3).1.trans (HLB.out 3 _ rfl)
       clear kR kL))
  have hk : ∀ (j : Nat) (v : Value) (wx : World) (k : Nat), k ≠ w.heap.size → (wx.setCell ⟨w.heap.size, j, none⟩ v).heap[k]? = wx.heap[k]? := fun j v wx k h => Below.heap_setCell wx ⟨w.heap.size, j, none⟩ v k h
  have hkk : ∀ k, k ≠ w.heap.size → ((((w8.setCell ⟨w.heap.size, 0, none⟩ (.int .i64 a.kind)).setCell ⟨w.heap.size, 1, none⟩ (.int .i64 a.call)).setCell ⟨w.heap.size, 2, none⟩ (.int .i64 a.due)).setCell ⟨w.heap.size, 3, none⟩ (.int .i64 a.set)).heap[k]? = w8.heap[k]? := fun k h =>
    (hk _ _ _ k h).trans ((hk _ _ _ k h).trans ((hk _ _ _ k h).trans (hk _ _ _ k h)))
  have hzl : zs.length = xs.length - 1 := hP8.length_eq.trans hyl
  have hFE := (((((HFB.out.trans hF9 (J'' := [o]) (fun _ h => ⟨h, h⟩) (fun r h => .inl h)).setNew lp (a := ⟨w.heap.size, 0, none⟩) (Nat.le_refl _) (.int .i64 a.kind)).setNew lp (a := ⟨w.heap.size, 1, none⟩) (Nat.le_refl _) (.int .i64 a.call)).setNew lp (a := ⟨w.heap.size, 2, none⟩) (Nat.le_refl _) (.int .i64 a.due)).setNew lp (a := ⟨w.heap.size, 3, none⟩) (Nat.le_refl _) (.int .i64 a.set))
  refine bodyPost_ret (v := .tuple #[.agg #[.int .i64 a.kind, .int .i64 a.call, .int .i64 a.due, .int .i64 a.set], .bool true]) (by simp [results, Tryz.results71, go_sem, r0, r1, r2, r3]) rfl ⟨⟨_, rfl⟩, zs, (hP8.cons a).trans hPP, hH8, ?_, ?_, hFE⟩
  · rw [World.cell?_of_block (hkk p (by omega)), hzl]
    exact hc8
  · rw [hzl]
    exact hr8.same (fun k hk' => hkk k (by simp [Value.ownBlock] at hk'; omega))
end Go.Proofs.YtlccfpbbdgpjbaaGreatDoor

namespace Go.Proofs.YtlccfpbbdgpjbaaGreatDoor
open Go.RowKit

/-- In w' all is as in w, but for the blocks R. -/
structure Kp (R : List Nat) (w w' : World) : Prop where
  os : w'.os = w.os
  tape : w'.tape = w.tape
  output : w'.output = w.output
  size : w.heap.size ≤ w'.heap.size
  block : ∀ k, k < w.heap.size → k ∉ R → w'.heap[k]? = w.heap[k]?
theorem Kp.of_below {R : List Nat} {w w' : World} (h : Below w.heap.size w w') : Kp R w w' := ⟨h.os, h.tape, h.output, h.size, fun k hk _ => h.block k hk⟩
theorem Kp.refl (R : List Nat) (w : World) : Kp R w w := ⟨rfl, rfl, rfl, Nat.le_refl _, fun _ _ _ => rfl⟩
theorem Kp.trans {R R' : List Nat} {w w1 w2 : World} (h : Kp R w w1) (k : Kp R' w1 w2) (hR : ∀ r ∈ R', r ∈ R ∨ w.heap.size ≤ r) : Kp R w w2 :=
  ⟨k.os.trans h.os, k.tape.trans h.tape, k.output.trans h.output, Nat.le_trans h.size k.size,
    fun b hb hn => (k.block b (Nat.lt_of_lt_of_le hb h.size) (fun hr => (hR b hr).elim hn (fun h' => absurd hb (Nat.not_lt.2 h')))).trans (h.block b hb hn)⟩
theorem Kp.below {R : List Nat} {w w1 w2 : World} (h : Kp R w w1) (k : Below w1.heap.size w1 w2) : Kp R w w2 := h.trans (Kp.of_below (R := []) k) (fun r hr => by cases hr)
theorem Kp.setIn {R : List Nat} {w wr : World} (h : Kp R w wr) {a : Addr} (ha : a.block ∈ R) (u : Value) : Kp R w (wr.setCell a u) :=
  ⟨h.os, h.tape, h.output, by simpa using h.size, fun k hk hkr => (Below.heap_setCell _ _ _ _ (fun e => hkr (by rw [e]; exact ha))).trans (h.block k hk hkr)⟩
theorem Kp.setCellsIn {g : Nat} {R : List Nat} {w : World} (hg : g ∈ R) : ∀ (vs : List Value) (o : Nat) (wr : World), Kp R w wr → Kp R w (wr.setCells g o vs) := by
  intro vs
  induction vs with
  | nil => intro o wr h; exact h
  | cons v r ih => intro o wr h; exact ih (o + 1) _ (h.setIn (a := ⟨g, o, none⟩) hg v)
theorem Kp.cell {R : List Nat} {w w' : World} (h : Kp R w w') {k : Nat} (hk : k < w.heap.size) (hR : k ∉ R) (j : Nat) : w'.cell? ⟨k, j, none⟩ = w.cell? ⟨k, j, none⟩ := World.cell?_of_block (h.block k hk hR)
theorem Kp.frozen {R : List Nat} {w w' : World} (h : Kp R w w') {k : Nat} (hk : k < w.heap.size) (hR : k ∉ R) (j : Nat) : w'.frozen? ⟨k, j, none⟩ = w.frozen? ⟨k, j, none⟩ := World.frozen?_of_block (h.block k hk hR)
theorem Kp.fr {R : List Nat} {w w' : World} (h : Kp R w w') {p : Nat} (hp : p < w.heap.size) (hR : p ∉ R) : Fr p [] R w w' :=
  ⟨h.os, h.tape, h.output, h.size, fun k hk _ hkr => h.block k hk hkr, fun j _ => h.cell hp hR j, fun j => h.frozen hp hR j⟩

/-- Not to go. -/
def stays (call : Int) (t : PTimer) : Bool := !(t.call == call)

set_option maxRecDepth 100000 in
set_option maxHeartbeats 800000 in
theorem goes_any (a : PTimer) (bx : Nat) (call : Int) (w : World) (hc : w.cell? ⟨bx, 0, none⟩ = some (.int .i64 call)) :
    Calls Tryz.prog 117 #[.agg #[.int .i64 a.kind, .int .i64 a.call, .int .i64 a.due, .int .i64 a.set], .pointer (some ⟨bx, 0, none⟩)] w fun e w' => e = .returned (.bool (!stays call a)) ∧ Below w.heap.size w w' := by
  have lb : bx < w.heap.size := World.block_lt_of_cell? w _ hc
  unfold stays
  rw [Bool.not_not]
  go_enter Tryz.func117, Tryz.ntmps117
  go_wp2_with fail
  go_ret
  exact ⟨rfl, (Below.refl _ _).alloc (Nat.le_refl _) _⟩

/-- Where the first one stands that is to go; nothing if none is. -/
def firstOf? (call : Int) (xs : List PTimer) (k : Nat) : Prop := k < xs.length ∧ stays call (pt xs k) = false ∧ ∀ j, j < k → stays call (pt xs j) = true

set_option maxRecDepth 100000 in
set_option maxHeartbeats 4000000 in
theorem indexFunc_any (g cap bx : Nat) (call : Int) (xs : List PTimer) (w : World) (hl : xs.length ≤ 1000000) (hc : w.cell? ⟨bx, 0, none⟩ = some (.int .i64 call)) (hr : Row w 0 114 4 encPT (.slice (some ⟨g, 0, none⟩) xs.length cap) xs) :
    Calls Tryz.prog 145 #[.slice (some ⟨g, 0, none⟩) xs.length cap, .func (.func 117) #[] #[.pointer (some ⟨bx, 0, none⟩)]] w fun e w' =>
      ((e = .returned (.int .i64 (-1)) ∧ ∀ j, j < xs.length → stays call (pt xs j) = true) ∨ ∃ k : Nat, e = .returned (.int .i64 k) ∧ firstOf? call xs k) ∧ Below w.heap.size w w' := by
  have lb : bx < w.heap.size := World.block_lt_of_cell? w _ hc
  have lg : g < w.heap.size := (hr.lt g rfl).2
  have HR := hide hr
  clear hr
  go_enter Tryz.func145, Tryz.ntmps145
  go_wp2_with fail
  go_loopw [8] (fun iv wr => ∃ k : Nat, k ≤ xs.length ∧ iv = .int .i64 k ∧ (∀ j, j < k → stays call (pt xs j) = true) ∧ Below w.heap.size w wr) (fun iv _ => xs.length - (intOf iv).toNat)
  case atStart => exact ⟨0, Nat.zero_le _, rfl, fun j hj => by omega, Below.refl _ _⟩
  case round =>
    obtain ⟨k, hk, rfl, hno, hb⟩ := hrel
    have HNO := hide hno
    clear hno
    by_cases hlt : k < xs.length
    · have hlt' : (k : Int) < (xs.length : Int) := by omega
      obtain ⟨a, ha⟩ : ∃ a, pt xs k = a := ⟨_, rfl⟩
      obtain ⟨e0, e1, e2, e3⟩ := (HR.out.below hb).pt_cells k hlt a ha
      have HA := hide ha
      clear ha
      have HG := hide (goes_any a bx call wr ((hb.cell lb).trans hc))
      cases hd : stays call a with
      | false =>
        rw [hd] at HG
        have hd' := hide hd
        clear hd
        go_wp2_with (first | (go_at_call 117; refine HG.out.mono ?_; rintro e w1 ⟨rfl, hb1⟩))
        go_ret
        exact ⟨.inr ⟨k, rfl, hlt, by rw [HA.out]; exact hd'.out, HNO.out⟩, hb.trans (hb1.mono hb.size)⟩
      | true =>
        rw [hd] at HG
        have hd' := hide hd
        clear hd
        go_wp2_with (first | (go_at_call 117; refine HG.out.mono ?_; rintro e w1 ⟨rfl, hb1⟩))
        go_roundw
        case rel =>
          refine ⟨k + 1, by omega, by go_num, fun j hj => ?_, hb.trans (hb1.mono hb.size)⟩
          by_cases hjk : j = k
          · subst hjk
            rw [HA.out]
            exact hd'.out
          · exact HNO.out j (by omega)
        case measure => simp [intOf]; omega
    · go_wp2_with fail
      go_ret
      exact ⟨.inl ⟨rfl, fun j hj => HNO.out j (by omega)⟩, hb⟩

set_option maxRecDepth 100000 in
set_option maxHeartbeats 4000000 in
theorem deleteFunc_any (g cap bx : Nat) (call : Int) (xs : List PTimer) (w : World) (hl : xs.length ≤ 1000000) (hbg : bx ≠ g) (hc : w.cell? ⟨bx, 0, none⟩ = some (.int .i64 call)) (hr : Row w 0 114 4 encPT (.slice (some ⟨g, 0, none⟩) xs.length cap) xs) :
    Calls Tryz.prog 137 #[.slice (some ⟨g, 0, none⟩) xs.length cap, .func (.func 117) #[] #[.pointer (some ⟨bx, 0, none⟩)]] w fun e w' =>
      e = .returned (.slice (some ⟨g, 0, none⟩) (xs.filter (stays call)).length cap) ∧ Row w' 0 114 4 encPT (.slice (some ⟨g, 0, none⟩) (xs.filter (stays call)).length cap) (xs.filter (stays call)) ∧ Kp [g] w w' := by
  have lb : bx < w.heap.size := World.block_lt_of_cell? w _ hc
  have lg : g < w.heap.size := (hr.lt g rfl).2
  have HI := hide (indexFunc_any g cap bx call xs w hl hc hr)
  have HR := hide hr
  clear hr
  go_enter Tryz.func137, Tryz.ntmps137
  go_wp2_with fail
  refine HI.out.mono ?_
  rintro e w1 ⟨⟨rfl, hno⟩ | ⟨k, rfl, hk, hkc, hno⟩, hb1⟩
  · go_wp2_with fail
    go_ret
    have hf : xs.filter (stays call) = xs := by
      rw [List.filter_eq_self]
      intro t ht
      obtain ⟨j, hj, rfl⟩ := List.getElem_of_mem ht
      have := hno j hj
      rw [pt_get hj] at this
      exact this
    rw [hf]
    exact ⟨rfl, HR.out.below hb1, Kp.of_below hb1⟩
  · have hk1 : ((k : Int) == -1) = false := by rw [beq_eq_false_iff_ne]; omega
    have hkl : (k : Int) < (xs.length : Int) := by omega
    have hst : (xs.take (k + 1)).filter (stays call) = xs.take k := by
      rw [filter_snoc _ _ _ hk, List.filter_eq_self.2, if_neg, List.append_nil]
      · rw [pt_get hk] at hkc
        simp [hkc]
      · intro t ht
        obtain ⟨j, hj, rfl⟩ := List.getElem_of_mem ht
        have hj' : j < k := by simp at hj; omega
        have := hno j hj'
        rw [pt_get (by omega)] at this
        rw [List.getElem_take]
        exact this
    have HST := hide hst
    have hle : xs.length ≤ cap := HR.out.cap_le.1
    have hlm : cap ≤ 9223372036854775807 := HR.out.cap_le.2
    clear hst hkc hno HI
    go_wp2_with fail
    go_loopw [5, 6] (fun iv jv wr => ∃ (i j : Nat) (ys : List PTimer), iv = .int .i64 i ∧ jv = .int .i64 j ∧ i < j ∧ j ≤ xs.length ∧ ys.length = xs.length ∧ ys.take i = (xs.take j).filter (stays call) ∧ ys.drop j = xs.drop j ∧ Row wr 0 114 4 encPT (.slice (some ⟨g, 0, none⟩) xs.length cap) ys ∧ Kp [g] w wr) (fun _ jv _ => xs.length - (intOf jv).toNat)
    case atStart => exact ⟨k, k + 1, xs, rfl, by go_num, by omega, by omega, rfl, HST.out.symm, rfl, HR.out.below hb1, Kp.of_below hb1⟩
    case round =>
      obtain ⟨i, j, ys, rfl, rfl, hij, hjl, hyl, hyt, hyd, hrr, hF⟩ := hrel
      have HYT := hide hyt
      have HYD := hide hyd
      have lgr : g < wr.heap.size := Nat.lt_of_lt_of_le lg hF.size
      have lbr : bx < wr.heap.size := Nat.lt_of_lt_of_le lb hF.size
      have cr : wr.cell? ⟨bx, 0, none⟩ = some (.int .i64 call) := (hF.cell lb (by simpa using hbg) 0).trans hc
      clear hyt hyd HST
      by_cases hlt : j < xs.length
      · have hlt' : (j : Int) < (xs.length : Int) := by omega
        have hil : (i : Int) < (xs.length : Int) := by omega
        obtain ⟨a, ha⟩ : ∃ a, pt ys j = a := ⟨_, rfl⟩
        obtain ⟨e0, e1, e2, e3⟩ := hrr.pt_cells j (by omega) a ha
        have HA := hide (show xs[j] = a by
          have h9 := congrArg (fun l => l[0]?) HYD.out
          simp only [List.getElem?_drop, Nat.add_zero] at h9
          rw [List.getElem?_eq_getElem (by omega), List.getElem?_eq_getElem hlt] at h9
          rw [← ha, pt_get (by omega)]
          exact (Option.some.inj h9).symm)
        clear ha
        have HFS := hide (filter_snoc (stays call) xs j hlt)
        rw [HA.out] at HFS
        have HRR := hide hrr
        clear hrr
        have hbA : ∀ B, Below wr.heap.size wr (wr.alloc B) := fun B => (Below.refl _ _).alloc (Nat.le_refl _) _
        have HG := hide (fun B => goes_any a bx call (wr.alloc B) (((hbA B).cell lbr).trans cr))
        have HBA := hide (fun B w1 (h : Below (wr.alloc B).heap.size (wr.alloc B) w1) => (hbA B).trans (h.mono (hbA B).size))
        clear hbA
        cases hd : stays call a with
        | false =>
          rw [hd] at HG
          have hd' := hide hd
          clear hd
          go_wp2_with (first | (go_at_call 117; refine (HG.out _).mono ?_; rintro e w2 ⟨rfl, hb2⟩))
          go_roundw
          case rel =>
            have hB := HBA.out _ _ hb2
            exact ⟨i, j + 1, ys, rfl, by go_num, by omega, by omega, hyl, by rw [HFS.out, HYT.out, hd'.out]; simp, by rw [← List.drop_drop, HYD.out, List.drop_drop], HRR.out.below hB, hF.below hB⟩
          case measure => simp [intOf]; omega
        | true =>
          rw [hd] at HG
          have hd' := hide hd
          clear hd
          go_wp2_with (first
            | (go_at_call 117; refine (HG.out _).mono ?_; rintro e w2 ⟨rfl, hb2⟩
               have hB := HBA.out _ _ hb2
               have m0 : w2.cell? ⟨wr.heap.size, 0, none⟩ = some (.int .i64 a.kind) := (hb2.cell (by simp)).trans (by simp)
               have m1 : w2.cell? ⟨wr.heap.size, 1, none⟩ = some (.int .i64 a.call) := (hb2.cell (by simp)).trans (by simp)
               have m2 : w2.cell? ⟨wr.heap.size, 2, none⟩ = some (.int .i64 a.due) := (hb2.cell (by simp)).trans (by simp)
               have m3 : w2.cell? ⟨wr.heap.size, 3, none⟩ = some (.int .i64 a.set) := (hb2.cell (by simp)).trans (by simp)
               obtain ⟨⟨d0, d1, d2, d3⟩, f0, f1, f2, f3⟩ := (HRR.out.below hB).pt_all i (by omega) _ rfl))
          go_roundw
          case rel =>
            refine ⟨i + 1, j + 1, ys.set i a, by go_num, by go_num, by omega, by omega, by simpa using hyl, ?_, ?_, (HRR.out.below hB).put4 (g := g) rfl (by omega) a, ?_⟩
            · rw [HFS.out, ← HYT.out, hd'.out, if_pos rfl, List.take_succ_eq_append_getElem (by simp; omega), List.getElem_set_self, List.take_set_of_le (Nat.le_refl _)]
            · rw [List.drop_set_of_lt (by omega), ← List.drop_drop, HYD.out, List.drop_drop]
            · have hm : ∀ x : Nat, (⟨g, x, none⟩ : Addr).block ∈ [g] := fun _ => List.mem_singleton.2 rfl
              exact ((((hF.below hB).setIn (hm _) _).setIn (hm _) _).setIn (hm _) _).setIn (hm _) _
          case measure => simp [intOf]; omega
      · have hje : j = xs.length := by omega
        subst hje
        have hyf : ys.take i = xs.filter (stays call) := by rw [HYT.out, List.take_of_length_le (Nat.le_refl _)]
        have hil : (xs.filter (stays call)).length = i := by rw [← hyf, List.length_take]; omega
        obtain ⟨W6, hW6⟩ : ∃ W6, W6 = wr.setCells g (i * 4) ((List.replicate (xs.length - i) pt0).flatMap encPT) := ⟨_, rfl⟩
        have hcl : ∀ ty, (Builtin.clear_ #[90] ty #[.slice (some ⟨g, i * 4, none⟩) (xs.length - i) (cap - i)]).run Tryz.prog wr = .ok (.tuple #[]) W6 := fun ty => by
          rw [hW6]
          exact run_clear_rows encPT 4 encPT_len wr 90 114 ty pt0 Tryz.underlying90 (fun w => by kernel_rfl) rfl (by simp [encPT, pt0, Value.oneCell']) g (i * 4) (xs.length - i) _ (by omega)
            (fun j hj => (hrr.there encPT_len _ (by omega)).1) (fun j hj => (hrr.there encPT_len _ (by omega)).2)
        have hR6 := hrr.relay encPT_len i (List.replicate (xs.length - i) pt0) (xs.filter (stays call)) (by simp; omega) (by omega) (by
          rw [hil, List.append_assoc, List.take_append_of_le_length (by rw [List.length_take]; omega), List.take_take, Nat.min_self, hyf])
        have hF6 := Kp.setCellsIn (g := g) (List.mem_singleton.2 rfl) ((List.replicate (xs.length - i) pt0).flatMap encPT) (i * 4) wr hF
        rw [← hW6] at hR6 hF6
        rw [hil] at hR6
        have HIL := hide hil
        have HR6 := hide hR6
        have hi1 : (i : Int) < (xs.length : Int) := by omega
        clear hR6 hil hyf hW6 HYT HYD hrr
        go_wp2_with fail
        go_ret
        rw [HIL.out]
        exact ⟨rfl, HR6.out, hF6⟩
end Go.Proofs.YtlccfpbbdgpjbaaGreatDoor

namespace Go.Proofs.YtlccfpbbdgpjbaaGreatDoor
open Go.RowKit

set_option maxRecDepth 100000 in
set_option maxHeartbeats 4000000 in
theorem dropH_any (p o bx : Nat) (call : Int) (g cap : Nat) (xs : List PTimer) (w : World) (hl : xs.length ≤ 1000000) (hgp : g ≠ p) (hbg : bx ≠ g) (hb : w.cell? ⟨bx, 0, none⟩ = some (.int .i64 call)) (hc : w.cell? ⟨p, o, none⟩ = some (.slice (some ⟨g, 0, none⟩) xs.length cap)) (hz : w.frozen? ⟨p, o, none⟩ = false) (hr : Row w 0 114 4 encPT (.slice (some ⟨g, 0, none⟩) xs.length cap) xs) :
    Calls Tryz.prog 116 #[.pointer (some ⟨p, o, none⟩), .func (.func 117) #[] #[.pointer (some ⟨bx, 0, none⟩)]] w fun e w' =>
      e = .returned (.tuple #[]) ∧ ∃ ys, ys.Perm (xs.filter (stays call)) ∧ IsHeap ys ∧ w'.cell? ⟨p, o, none⟩ = some (.slice (some ⟨g, 0, none⟩) ys.length cap) ∧ Row w' 0 114 4 encPT (.slice (some ⟨g, 0, none⟩) ys.length cap) ys ∧ Fr p [o] [g] w w' := by
  have lp : p < w.heap.size := World.block_lt_of_cell? w _ hc
  have HD := hide (deleteFunc_any g cap bx call xs w hl hbg hb hr)
  have hfl : (xs.filter (stays call)).length ≤ xs.length := List.length_filter_le _ _
  have lg : g < w.heap.size := (hr.lt g rfl).2
  clear hr hb
  generalize xs.filter (stays call) = fs at HD hfl ⊢
  go_enter Tryz.func116, Tryz.ntmps116
  go_wp2_with fail
  refine HD.out.mono ?_
  rintro e w1 ⟨rfl, hr1, hF1⟩
  have hpg : p ∉ [g] := by simpa using Ne.symm hgp
  have c1 : w1.cell? ⟨p, o, none⟩ = some (.slice (some ⟨g, 0, none⟩) xs.length cap) := (hF1.cell lp hpg o).trans hc
  have f1 : w1.frozen? ⟨p, o, none⟩ = false := (hF1.frozen lp hpg o).trans hz
  have hFA : Fr p [] [g] w w1 := hF1.fr lp hpg
  have HC2 := hide (World.cell?_setCell_same w1 ⟨p, o, none⟩ (.slice (some ⟨g, 0, none⟩) fs.length cap) c1)
  have HR2 := hide (hr1.same (w' := w1.setCell ⟨p, o, none⟩ (.slice (some ⟨g, 0, none⟩) fs.length cap)) (fun k hk => Below.heap_setCell _ _ _ _ (by simp [Value.ownBlock] at hk; show k ≠ p; omega)))
  have HF2 := hide (hFA.trans (Fr.store (j := o) (w := w1) (.slice (some ⟨g, 0, none⟩) fs.length cap)) (J'' := [o]) (fun _ h => ⟨by simp, h⟩) (fun r h => by cases h))
  clear HD hFA hF1 hc hz hr1
  go_wp2_with fail
  go_loopw [4] (fun pv wr => ∃ (z : Int) (m : Nat) (ys : List PTimer), pv = .int .i64 z ∧ z = (m : Int) - 1 ∧ m ≤ fs.length ∧ HeapFrom m ys ∧ ys.Perm fs ∧ wr.cell? ⟨p, o, none⟩ = some (.slice (some ⟨g, 0, none⟩) fs.length cap) ∧ Row wr 0 114 4 encPT (.slice (some ⟨g, 0, none⟩) fs.length cap) ys ∧ Fr p [o] [g] w wr) (fun pv _ => (intOf pv + 1).toNat)
  case atStart => exact ⟨_, fs.length / 2, fs, rfl, by omega, by omega, HeapFrom.top fs _ (Nat.le_refl _), List.Perm.refl _, HC2.out, HR2.out, HF2.out⟩
  case round =>
    obtain ⟨z, m, ys, rfl, hzm, hm, hH, hP, hcr, hrr, hF⟩ := hrel
    have hlen := hP.length_eq
    by_cases h0 : 0 ≤ z
    · obtain ⟨k, rfl⟩ : ∃ k : Nat, z = (k : Int) := ⟨z.toNat, by omega⟩
      have hmk : m = k + 1 := by omega
      subst hmk
      have HSK := hide (sink_any p o g cap k ys k wr (by omega) (by omega) (Sinking.start hH) hgp (by rw [hlen]; exact hcr) (by rw [hlen]; exact hrr))
      rw [hlen] at HSK
      clear hrr hH HC2 HR2 HF2 hzm h0
      have k0 : (k : Int) ≤ 1000000 := by omega
      go_wp2_with (first | (go_at_call 101; refine HSK.out.mono ?_; rintro e w2 ⟨rfl, zs, hP2, hH2, hc2, hr2, hF2⟩))
      go_roundw
      case rel => exact ⟨_, k, zs, rfl, rfl, by omega, hH2, hP2.trans hP, hc2, hr2, hF.trans hF2 (J'' := [o]) (fun _ h => ⟨h, by simp⟩) (fun r h => .inl h)⟩
      case measure => (simp [intOf] <;> omega)
    · have hm0 : m = 0 := by omega
      subst hm0
      have hz1 : z = -1 := by omega
      subst hz1
      clear HC2 HR2 HF2 hzm h0
      go_wp2_with fail
      go_end0
      exact ⟨rfl, ys, hP, hH, by rw [hlen]; exact hcr, by rw [hlen]; exact hrr, hF⟩

set_option maxRecDepth 100000 in
set_option maxHeartbeats 4000000 in
theorem dropH_nil (p o bx : Nat) (w : World) (hc : w.cell? ⟨p, o, none⟩ = some (.slice none 0 0)) (hz : w.frozen? ⟨p, o, none⟩ = false) :
    Calls Tryz.prog 116 #[.pointer (some ⟨p, o, none⟩), .func (.func 117) #[] #[.pointer (some ⟨bx, 0, none⟩)]] w fun e w' =>
      e = .returned (.tuple #[]) ∧ w'.cell? ⟨p, o, none⟩ = some (.slice none 0 0) ∧ Fr p [o] [] w w' := by
  have HI : Hid (∀ W, Calls Tryz.prog 145 #[.slice none 0 0, .func (.func 117) #[] #[.pointer (some ⟨bx, 0, none⟩)]] W fun e w' => e = .returned (.int .i64 (-1)) ∧ w' = W) := fun W => by
    go_enter Tryz.func145, Tryz.ntmps145
    go_wp2_with fail
    go_loopw [8] (fun iv wr => iv = .int .i64 0 ∧ wr = W) (fun _ _ => 0)
    case atStart => exact ⟨rfl, rfl⟩
    case round =>
      obtain ⟨rfl, rfl⟩ := hrel
      go_wp2_with fail
      go_ret
      exact ⟨rfl, rfl⟩
  have HD : Hid (∀ W, Calls Tryz.prog 137 #[.slice none 0 0, .func (.func 117) #[] #[.pointer (some ⟨bx, 0, none⟩)]] W fun e w' => e = .returned (.slice none 0 0) ∧ w' = W) := fun W => by
    go_enter Tryz.func137, Tryz.ntmps137
    go_wp2_with fail
    refine (HI.out W).mono ?_
    rintro e w' ⟨rfl, rfl⟩
    go_wp2_with fail
    go_ret
    exact ⟨rfl, rfl⟩
  clear HI
  go_enter Tryz.func116, Tryz.ntmps116
  go_wp2_with fail
  refine (HD.out w).mono ?_
  rintro e w1 ⟨rfl, rfl⟩
  go_wp2_with fail
  go_loopw [4] (fun pv wr => pv = .int .i64 (-1) ∧ wr = w1.setCell ⟨p, o, none⟩ (.slice none 0 0)) (fun _ _ => 0)
  case atStart => exact ⟨by go_num, rfl⟩
  case round =>
    obtain ⟨rfl, rfl⟩ := hrel
    go_wp2_with fail
    go_end0
    exact ⟨rfl, World.cell?_setCell_same _ _ _ hc, Fr.store _⟩
end Go.Proofs.YtlccfpbbdgpjbaaGreatDoor
