import Derived.Test.YtlccfpbbdgpjbaaGreatDoorRows
import Derived.ProofKit
import Derived.Deep.Slices
import Derived.Test.YtlccfpbbdgpjbaaGreatDoorLPlays
namespace Go.Proofs.YtlccfpbbdgpjbaaGreatDoor
open Go.ChangeShapes Go.WideShapes Go.RowKit Go.Deep

theorem Tryz.cells3 : Tryz.prog.cellsOf 3 = 1 := by kernel_rfl
theorem Tryz.cells4 : Tryz.prog.cellsOf 4 = 1 := by kernel_rfl
theorem Tryz.cells37 : Tryz.prog.cellsOf 37 = 1 := by kernel_rfl
theorem Tryz.cells34 : Tryz.prog.cellsOf 34 = 10 := by kernel_rfl
theorem Tryz.cells39 : Tryz.prog.cellsOf 39 = 8 := by kernel_rfl
theorem Tryz.cells41 : Tryz.prog.cellsOf 41 = 20 := by kernel_rfl

section
variable {H : Type} {enc : TypeId × Value → H} {w : World} {base : Nat} {spare : Nat → Bool} {held : Bool}

theorem int_at {n : Nat} {cs : List Value} {o : Nat} {y : Option (DataW H × List MemPlace)} (hy : y.isSome = true) (h : DataW.trod enc Tryz.prog w base spare held n 3 ((cs.drop o).take (Tryz.prog.cellsOf 3)) = y) : ∃ z, cs[o]? = some (.int .i64 z) := by
  obtain ⟨x, rfl⟩ := Option.isSome_iff_exists.1 hy
  obtain ⟨z, hz, _⟩ := DataW.trod_int Tryz.underlying3 h
  refine ⟨z, ?_⟩
  rw [Tryz.cells3] at hz
  have := congrArg (fun l => l[0]?) hz
  simpa using this
theorem u64_at {n : Nat} {cs : List Value} {o : Nat} {y : Option (DataW H × List MemPlace)} (hy : y.isSome = true) (h : DataW.trod enc Tryz.prog w base spare held n 37 ((cs.drop o).take (Tryz.prog.cellsOf 37)) = y) : ∃ z, cs[o]? = some (.int .u64 z) := by
  obtain ⟨x, rfl⟩ := Option.isSome_iff_exists.1 hy
  obtain ⟨z, hz, _⟩ := DataW.trod_int Tryz.underlying37 h
  refine ⟨z, ?_⟩
  rw [Tryz.cells37] at hz
  have := congrArg (fun l => l[0]?) hz
  simpa using this
theorem bool_at {n : Nat} {cs : List Value} {o : Nat} {y : Option (DataW H × List MemPlace)} (hy : y.isSome = true) (h : DataW.trod enc Tryz.prog w base spare held n 4 ((cs.drop o).take (Tryz.prog.cellsOf 4)) = y) : ∃ z, cs[o]? = some (.bool z) := by
  obtain ⟨x, rfl⟩ := Option.isSome_iff_exists.1 hy
  obtain ⟨z, hz, _⟩ := DataW.trod_bool Tryz.underlying4 h
  refine ⟨z, ?_⟩
  rw [Tryz.cells4] at hz
  have := congrArg (fun l => l[0]?) hz
  simpa using this

theorem isSome_at {α : Type} (l : List α) (k : Nat) (h : k < l.length) : (l[k]?).isSome = true := by simp [h]
theorem part_at {cs : List Value} {o m k : Nat} {v : Value} (hk : k < m) (h : ((cs.drop o).take m)[k]? = some v) : cs[o + k]? = some v := by
  rw [List.getElem?_take, if_pos hk, List.getElem?_drop] at h
  exact h

theorem cfg_at {n : Nat} {cs : List Value} {x : DataW H × List MemPlace} (h : DataW.trod enc Tryz.prog w base spare held n 34 cs = some x) : ∀ k, k < 10 → ∃ z, cs[k]? = some (.int .i64 z) := by
  obtain ⟨xs, m, _, _, _, hl, hf⟩ := DataW.trod_struct Tryz.underlying34 h
  have hl' : xs.length = 10 := hl
  intro k hk
  match k, hk with
  | 0, _ => exact int_at (isSome_at xs 0 (by omega)) (hf 0 _ rfl)
  | 1, _ => exact int_at (isSome_at xs 1 (by omega)) (hf 1 _ rfl)
  | 2, _ => exact int_at (isSome_at xs 2 (by omega)) (hf 2 _ rfl)
  | 3, _ => exact int_at (isSome_at xs 3 (by omega)) (hf 3 _ rfl)
  | 4, _ => exact int_at (isSome_at xs 4 (by omega)) (hf 4 _ rfl)
  | 5, _ => exact int_at (isSome_at xs 5 (by omega)) (hf 5 _ rfl)
  | 6, _ => exact int_at (isSome_at xs 6 (by omega)) (hf 6 _ rfl)
  | 7, _ => exact int_at (isSome_at xs 7 (by omega)) (hf 7 _ rfl)
  | 8, _ => exact int_at (isSome_at xs 8 (by omega)) (hf 8 _ rfl)
  | 9, _ => exact int_at (isSome_at xs 9 (by omega)) (hf 9 _ rfl)

theorem event_at {n : Nat} {cs : List Value} {x : DataW H × List MemPlace} (h : DataW.trod enc Tryz.prog w base spare held n 39 cs = some x) :
    (∀ k, k < 8 → k ≠ 5 → k ≠ 6 → ∃ z, cs[k]? = some (.int .i64 z)) ∧ (∃ z, cs[5]? = some (.bool z)) ∧ (∃ z, cs[6]? = some (.int .u64 z)) := by
  obtain ⟨xs, m, _, _, _, hl, hf⟩ := DataW.trod_struct Tryz.underlying39 h
  have hl' : xs.length = 8 := hl
  refine ⟨fun k hk h5 h6 => ?_, bool_at (isSome_at xs 5 (by omega)) (hf 5 _ rfl), u64_at (isSome_at xs 6 (by omega)) (hf 6 _ rfl)⟩
  match k, hk, h5, h6 with
  | 0, _, _, _ => exact int_at (isSome_at xs 0 (by omega)) (hf 0 _ rfl)
  | 1, _, _, _ => exact int_at (isSome_at xs 1 (by omega)) (hf 1 _ rfl)
  | 2, _, _, _ => exact int_at (isSome_at xs 2 (by omega)) (hf 2 _ rfl)
  | 3, _, _, _ => exact int_at (isSome_at xs 3 (by omega)) (hf 3 _ rfl)
  | 4, _, _, _ => exact int_at (isSome_at xs 4 (by omega)) (hf 4 _ rfl)
  | 7, _, _, _ => exact int_at (isSome_at xs 7 (by omega)) (hf 7 _ rfl)

/-- An Op's cells: twenty, each of its kind. -/
theorem op_at {n : Nat} {cs : List Value} {x : DataW H × List MemPlace} (h : DataW.trod enc Tryz.prog w base spare held n 41 cs = some x) :
    (∀ k, k < 20 → k ≠ 17 → k ≠ 18 → ∃ z, cs[k]? = some (.int .i64 z)) ∧ (∃ z, cs[17]? = some (.bool z)) ∧ (∃ z, cs[18]? = some (.int .u64 z)) := by
  obtain ⟨xs, m, _, _, _, hl, hf⟩ := DataW.trod_struct Tryz.underlying41 h
  have hl' : xs.length = 4 := hl
  have h0 := int_at (isSome_at xs 0 (by omega)) (hf 0 _ rfl)
  have h1 := int_at (isSome_at xs 1 (by omega)) (hf 1 _ rfl)
  have g2 : DataW.trod enc Tryz.prog w base spare held m 34 ((cs.drop 2).take (Tryz.prog.cellsOf 34)) = xs[2]? := hf 2 _ rfl
  have g3 : DataW.trod enc Tryz.prog w base spare held m 39 ((cs.drop 12).take (Tryz.prog.cellsOf 39)) = xs[3]? := hf 3 _ rfl
  rw [List.getElem?_eq_getElem (by omega)] at g2 g3
  rw [Tryz.cells34] at g2
  rw [Tryz.cells39] at g3
  have c := cfg_at g2
  obtain ⟨e, e5, e6⟩ := event_at g3
  refine ⟨fun k hk h17 h18 => ?_, e5.imp fun z hz => part_at (by omega) hz, e6.imp fun z hz => part_at (by omega) hz⟩
  by_cases k0 : k = 0
  · subst k0; exact h0
  by_cases k1 : k = 1
  · subst k1; exact h1
  by_cases k12 : k < 12
  · obtain ⟨z, hz⟩ := c (k - 2) (by omega)
    have := part_at (show k - 2 < 10 by omega) hz
    rw [show 2 + (k - 2) = k by omega] at this
    exact ⟨z, this⟩
  · obtain ⟨z, hz⟩ := e (k - 12) (by omega) (by omega) (by omega)
    have := part_at (show k - 12 < 8 by omega) hz
    rw [show 12 + (k - 12) = k by omega] at this
    exact ⟨z, this⟩
end
end Go.Proofs.YtlccfpbbdgpjbaaGreatDoor

namespace Go.Proofs.YtlccfpbbdgpjbaaGreatDoor
open Go.ChangeShapes Go.WideShapes Go.RowKit Go.Deep

section
variable {H : Type} {enc : TypeId × Value → H} {w : World} {base : Nat} {spare : Nat → Bool} {held : Bool}

theorem int_wf {n : Nat} {cs : List Value} {o : Nat} {y : Option (DataW H × List MemPlace)} (hy : y.isSome = true) (h : DataW.trod enc Tryz.prog w base spare held n 3 ((cs.drop o).take (Tryz.prog.cellsOf 3)) = y) : ∃ z, cs[o]? = some (.int .i64 z) ∧ (Lit.int .i64 z).wf = true := by
  obtain ⟨x, rfl⟩ := Option.isSome_iff_exists.1 hy
  obtain ⟨z, hz, _, hw⟩ := DataW.trod_int Tryz.underlying3 h
  refine ⟨z, ?_, hw⟩
  rw [Tryz.cells3] at hz
  have := congrArg (fun l => l[0]?) hz
  simpa using this
theorem u64_wf {n : Nat} {cs : List Value} {o : Nat} {y : Option (DataW H × List MemPlace)} (hy : y.isSome = true) (h : DataW.trod enc Tryz.prog w base spare held n 37 ((cs.drop o).take (Tryz.prog.cellsOf 37)) = y) : ∃ z, cs[o]? = some (.int .u64 z) ∧ (Lit.int .u64 z).wf = true := by
  obtain ⟨x, rfl⟩ := Option.isSome_iff_exists.1 hy
  obtain ⟨z, hz, _, hw⟩ := DataW.trod_int Tryz.underlying37 h
  refine ⟨z, ?_, hw⟩
  rw [Tryz.cells37] at hz
  have := congrArg (fun l => l[0]?) hz
  simpa using this

theorem bulk_one (d : DataW H) : 1 ≤ Rows.uptoBulk d := by
  cases d with
  | lit l => cases l <;> simp [Rows.uptoBulk]
  | nil => simp [Rows.uptoBulk]
  | ptr d => simp [Rows.uptoBulk]
  | slice elems spare => simp [Rows.uptoBulk]
  | agg parts => simp [Rows.uptoBulk]
  | iface t d => simp [Rows.uptoBulk]
  | map entries => simp [Rows.uptoBulk]
  | held h => simp [Rows.uptoBulk]
theorem bulk_all (c : Nat) : ∀ (l : List (DataW H)), (∀ d ∈ l, c ≤ Rows.uptoBulk d) → c * l.length ≤ Rows.uptoBulkAll l := by
  intro l
  induction l with
  | nil => intro _; simp
  | cons x r ih =>
    intro h
    have h1 := h x (by simp)
    have h2 := ih (fun d hd => h d (by simp [hd]))
    simp only [Rows.uptoBulkAll, List.length_cons, Nat.mul_succ]
    omega

theorem cfg_wf {n : Nat} {cs : List Value} {x : DataW H × List MemPlace} (h : DataW.trod enc Tryz.prog w base spare held n 34 cs = some x) : (∀ k, k < 10 → ∃ z, cs[k]? = some (.int .i64 z)) ∧ 11 ≤ Rows.uptoBulk x.1 := by
  refine ⟨cfg_at h, ?_⟩
  obtain ⟨xs, m, _, hx, _, hl, _⟩ := DataW.trod_struct Tryz.underlying34 h
  have hl' : xs.length = 10 := hl
  have h1 := bulk_all 1 (xs.map (·.1)) (fun d _ => bulk_one d)
  rw [List.length_map, hl'] at h1
  rw [hx]
  show 11 ≤ Rows.uptoBulkAll (xs.map (·.1)) + 1
  omega
theorem event_wf {n : Nat} {cs : List Value} {x : DataW H × List MemPlace} (h : DataW.trod enc Tryz.prog w base spare held n 39 cs = some x) :
    (∀ k, k < 8 → k ≠ 5 → k ≠ 6 → ∃ z, cs[k]? = some (.int .i64 z) ∧ (Lit.int .i64 z).wf = true) ∧ (∃ z, cs[5]? = some (.bool z)) ∧ (∃ z, cs[6]? = some (.int .u64 z) ∧ (Lit.int .u64 z).wf = true) ∧ 9 ≤ Rows.uptoBulk x.1 := by
  obtain ⟨xs, m, _, hx, _, hl, hf⟩ := DataW.trod_struct Tryz.underlying39 h
  have hl' : xs.length = 8 := hl
  have h1 := bulk_all 1 (xs.map (·.1)) (fun d _ => bulk_one d)
  rw [List.length_map, hl'] at h1
  refine ⟨fun k hk h5 h6 => ?_, bool_at (isSome_at xs 5 (by omega)) (hf 5 _ rfl), u64_wf (isSome_at xs 6 (by omega)) (hf 6 _ rfl), by rw [hx]; show 9 ≤ Rows.uptoBulkAll (xs.map (·.1)) + 1; omega⟩
  match k, hk, h5, h6 with
  | 0, _, _, _ => exact int_wf (isSome_at xs 0 (by omega)) (hf 0 _ rfl)
  | 1, _, _, _ => exact int_wf (isSome_at xs 1 (by omega)) (hf 1 _ rfl)
  | 2, _, _, _ => exact int_wf (isSome_at xs 2 (by omega)) (hf 2 _ rfl)
  | 3, _, _, _ => exact int_wf (isSome_at xs 3 (by omega)) (hf 3 _ rfl)
  | 4, _, _, _ => exact int_wf (isSome_at xs 4 (by omega)) (hf 4 _ rfl)
  | 7, _, _, _ => exact int_wf (isSome_at xs 7 (by omega)) (hf 7 _ rfl)

theorem wf_i {z : Int} (h : (Lit.int .i64 z).wf = true) : -9223372036854775808 ≤ z ∧ z ≤ 9223372036854775807 := by
  have h3 : IntKind.i64.min ≤ z ∧ z ≤ IntKind.i64.max := by simpa [Lit.wf] using h
  have h4 : IntKind.i64.min = -9223372036854775808 := by decide
  have h5 : IntKind.i64.max = 9223372036854775807 := by decide
  rw [h4, h5] at h3
  exact h3
theorem wf_u {z : Int} (h : (Lit.int .u64 z).wf = true) : 0 ≤ z ∧ z ≤ 18446744073709551615 := by
  have h3 : IntKind.u64.min ≤ z ∧ z ≤ IntKind.u64.max := by simpa [Lit.wf] using h
  have h4 : IntKind.u64.min = 0 := by decide
  have h5 : IntKind.u64.max = 18446744073709551615 := by decide
  rw [h4, h5] at h3
  exact h3

/-- A step, out of its twenty cells. -/
theorem op_wf {n : Nat} {cs : List Value} {x : DataW H × List MemPlace} (hlen : cs.length = 20) (h : DataW.trod enc Tryz.prog w base spare held n 41 cs = some x) :
    (∃ o, cs = encOp o ∧ OpOk o) ∧ 23 ≤ Rows.uptoBulk x.1 := by
  obtain ⟨xs, m, _, hx, _, hl, hf⟩ := DataW.trod_struct Tryz.underlying41 h
  have hl' : xs.length = 4 := hl
  obtain ⟨kd, z0', _⟩ := int_wf (isSome_at xs 0 (by omega)) (hf 0 _ rfl)
  obtain ⟨nn, z1', w1⟩ := int_wf (isSome_at xs 1 (by omega)) (hf 1 _ rfl)
  have z0 : cs[0]? = some (.int .i64 kd) := z0'
  have z1 : cs[1]? = some (.int .i64 nn) := z1'
  have g2 : DataW.trod enc Tryz.prog w base spare held m 34 ((cs.drop 2).take (Tryz.prog.cellsOf 34)) = xs[2]? := hf 2 _ rfl
  have g3 : DataW.trod enc Tryz.prog w base spare held m 39 ((cs.drop 12).take (Tryz.prog.cellsOf 39)) = xs[3]? := hf 3 _ rfl
  rw [List.getElem?_eq_getElem (by omega)] at g2 g3
  rw [Tryz.cells34] at g2
  rw [Tryz.cells39] at g3
  obtain ⟨c, bc⟩ := cfg_wf g2
  obtain ⟨e, e5, e6, be⟩ := event_wf g3
  have cc : ∀ k, k < 10 → ∃ z, cs[2 + k]? = some (.int .i64 z) := fun k hk => (c k hk).imp fun z hz => part_at hk hz
  have ee : ∀ k, k < 8 → k ≠ 5 → k ≠ 6 → ∃ z, cs[12 + k]? = some (.int .i64 z) ∧ (Lit.int .i64 z).wf = true := fun k hk h5 h6 => (e k hk h5 h6).imp fun z hz => ⟨part_at hk hz.1, hz.2⟩
  obtain ⟨a, z2⟩ := cc 0 (by omega)
  obtain ⟨b, z3⟩ := cc 1 (by omega)
  obtain ⟨c', z4⟩ := cc 2 (by omega)
  obtain ⟨d, z5⟩ := cc 3 (by omega)
  obtain ⟨e', z6⟩ := cc 4 (by omega)
  obtain ⟨f, z7⟩ := cc 5 (by omega)
  obtain ⟨g, z8⟩ := cc 6 (by omega)
  obtain ⟨h', z9⟩ := cc 7 (by omega)
  obtain ⟨i, z10⟩ := cc 8 (by omega)
  obtain ⟨j, z11⟩ := cc 9 (by omega)
  obtain ⟨v0, z12, _⟩ := ee 0 (by omega) (by omega) (by omega)
  obtain ⟨v1, z13, wf1⟩ := ee 1 (by omega) (by omega) (by omega)
  obtain ⟨v2, z14, wf2⟩ := ee 2 (by omega) (by omega) (by omega)
  obtain ⟨v3, z15, _⟩ := ee 3 (by omega) (by omega) (by omega)
  obtain ⟨v4, z16, _⟩ := ee 4 (by omega) (by omega) (by omega)
  obtain ⟨v7, z19, _⟩ := ee 7 (by omega) (by omega) (by omega)
  obtain ⟨v5, z17'⟩ := e5
  obtain ⟨v6, z18', w6⟩ := e6
  have z17 : cs[17]? = some (.bool v5) := part_at (o := 12) (m := 8) (k := 5) (by omega) z17'
  have z18 : cs[18]? = some (.int .u64 v6) := part_at (o := 12) (m := 8) (k := 6) (by omega) z18'
  refine ⟨⟨⟨kd, nn, a, b, c', d, e', f, g, h', i, j, v0, v1, v2, v3, v4, v5, v6, v7⟩, ?_, ⟨(wf_i w1).1, (wf_i w1).2, wf1, wf2, (wf_u w6).1, (wf_u w6).2⟩⟩, ?_⟩
  · refine List.ext_getElem? fun k => ?_
    by_cases hk : k < 20
    · match k, hk with
      | 0, _ => rw [z0]; rfl
      | 1, _ => rw [z1]; rfl
      | 2, _ => rw [z2]; rfl
      | 3, _ => rw [z3]; rfl
      | 4, _ => rw [z4]; rfl
      | 5, _ => rw [z5]; rfl
      | 6, _ => rw [z6]; rfl
      | 7, _ => rw [z7]; rfl
      | 8, _ => rw [z8]; rfl
      | 9, _ => rw [z9]; rfl
      | 10, _ => rw [z10]; rfl
      | 11, _ => rw [z11]; rfl
      | 12, _ => rw [z12]; rfl
      | 13, _ => rw [z13]; rfl
      | 14, _ => rw [z14]; rfl
      | 15, _ => rw [z15]; rfl
      | 16, _ => rw [z16]; rfl
      | 17, _ => rw [z17]; rfl
      | 18, _ => rw [z18]; rfl
      | 19, _ => rw [z19]; rfl
      | k + 20, h => exact absurd h (by omega)
    · rw [List.getElem?_eq_none (by omega), List.getElem?_eq_none (by simp [encOp]; omega)]
  · obtain ⟨x0, x1, x2, x3, rfl⟩ : ∃ x0 x1 x2 x3, xs = [x0, x1, x2, x3] := by
      match xs, hl' with
      | [x0, x1, x2, x3], _ => exact ⟨x0, x1, x2, x3, rfl⟩
    rw [hx]
    show 23 ≤ Rows.uptoBulkAll [x0.1, x1.1, x2.1, x3.1] + 1
    have b0 := bulk_one x0.1
    have b1 := bulk_one x1.1
    have bc' : 11 ≤ Rows.uptoBulk x2.1 := bc
    have be' : 9 ≤ Rows.uptoBulk x3.1 := be
    simp only [Rows.uptoBulkAll]
    omega
end

/-- The steps of a script, as they lie; their number by its bulk. -/
theorem script_of {H : Type} {enc : TypeId × Value → H} {W : World} {fuel : Nat} {A : Option Addr} {len cap : Nat} {x : DataW H × List MemPlace}
    (h : DataW.trod enc Tryz.prog W 0 (fun _ => true) true fuel 22 [.slice A len cap] = some x) :
    ∃ os : List OpV, os.length = len ∧ (∀ o ∈ os, OpOk o) ∧ (∀ k (hk : k < os.length), ∃ sb so, A = some ⟨sb, so, none⟩ ∧ sb < W.heap.size ∧ W.rangeAt sb (so + k * 20) (encOp os[k])) ∧ 23 * len ≤ Rows.uptoBulk x.1 := by
  rcases open_slice Tryz.underlying22 h with ⟨h0, _⟩ | ⟨a, len', cap', m, n, D, Pl, h0, hb, hl, hm, hmm, hx, hel⟩
  · simp at h0
    obtain ⟨rfl, rfl, rfl⟩ := h0
    exact ⟨[], rfl, (fun o ho => by cases ho), (fun k hk => by simp at hk), by omega⟩
  · simp at h0
    obtain ⟨rfl, rfl, rfl⟩ := h0
    have hm' : m = cap := by simpa using hmm
    subst hm'
    rw [Tryz.cells41] at hel
    have H1 : ∀ k, k < len → (∃ o : OpV, OpOk o ∧ ∃ sb so, a = ⟨sb, so, none⟩ ∧ sb < W.heap.size ∧ W.rangeAt sb (so + k * 20) (encOp o)) ∧ 23 ≤ Rows.uptoBulk (D k) := fun k hk => by
      obtain ⟨cs, h1, h2⟩ := hel k (by omega)
      obtain ⟨_, hlen, hc⟩ := World.cells?_some h1
      obtain ⟨⟨o, ho, hok⟩, hbk⟩ := op_wf hlen h2
      refine ⟨⟨o, hok, ?_⟩, hbk⟩
      obtain ⟨cs0, g1, g2⟩ := hel 0 (by omega)
      obtain ⟨_, l0, c0⟩ := World.cells?_some g1
      have e0 := c0 0 (by omega)
      rw [add_add, List.getElem?_eq_getElem (by omega)] at e0
      have sp : a.spot = none := by
        have := World.cell?_spot e0
        simpa [Addr.add] using this
      have lt0 : a.block < W.heap.size := by
        have := World.block_lt_of_cell? W _ e0
        simpa [Addr.add] using this
      obtain ⟨sb, so, spt⟩ := a
      simp at sp lt0
      subst sp
      refine ⟨sb, so, rfl, lt0, fun j v hv => ?_⟩
      have hj : j < 20 := by
        have := (List.getElem?_eq_some_iff.1 hv).1
        exact this
      have := hc j hj
      rw [add_add, ho, hv, add_plain] at this
      rw [Nat.add_assoc]
      exact this
    refine ⟨List.ofFn (fun k : Fin len => Classical.choose (H1 k.1 k.2).1), by simp, fun o ho => ?_, fun k hk => ?_, ?_⟩
    · obtain ⟨k, hk⟩ := List.mem_ofFn.1 ho
      rw [← hk]
      exact (Classical.choose_spec (H1 k.1 k.2).1).1
    · have hk' : k < len := by simpa using hk
      rw [List.getElem_ofFn]
      obtain ⟨sb, so, e1, e2, e3⟩ := (Classical.choose_spec (H1 k hk').1).2
      exact ⟨sb, so, by rw [e1], e2, e3⟩
    · have h1 := bulk_all 23 ((List.range len).map D) (fun d hd => by
        obtain ⟨k, hk, rfl⟩ := List.mem_map.1 hd
        exact (H1 k (List.mem_range.1 hk)).2)
      rw [List.length_map, List.length_range] at h1
      rw [hx]
      show 23 * len ≤ Rows.uptoBulkAll ((List.range len).map D) + _ + 1
      omega
end Go.Proofs.YtlccfpbbdgpjbaaGreatDoor
