/-
  swap, Before, firstChild.
-/
import Derived.Test.YtlccfpbbdgpjbaaGreatDoorHModel
import Derived.BigRegion
namespace Go.Proofs.YtlccfpbbdgpjbaaGreatDoor
open Go.RowKit

set_option maxRecDepth 100000 in
set_option maxHeartbeats 800000 in
theorem before_any (a b : PTimer) (w : World) :
    Calls Tryz.prog 165 #[.agg #[.int .i64 a.kind, .int .i64 a.call, .int .i64 a.due, .int .i64 a.set], .agg #[.int .i64 b.kind, .int .i64 b.call, .int .i64 b.due, .int .i64 b.set]] w fun e w' => e = .returned (.bool (decide (a.lt b))) ∧ Below w.heap.size w w' := by
  obtain ⟨a0, a1, a2, a3⟩ := a
  obtain ⟨b0, b1, b2, b3⟩ := b
  dsimp only
  by_cases h : a2 = b2
  · have h1 : (a2 != b2) = false := by simp [h]
    have h2 : decide ((⟨a0, a1, a2, a3⟩ : PTimer).lt ⟨b0, b1, b2, b3⟩) = decide (a3 < b3) := by
      unfold PTimer.lt
      exact decide_eq_decide.2 ⟨fun h3 => by dsimp only at h3; omega, fun h3 => by dsimp only; omega⟩
    rw [h2]
    clear h h2
    go_enter Tryz.func165, Tryz.ntmps165
    go_wp2_with fail
    go_ret
    exact ⟨rfl, ((Below.refl _ _).alloc (Nat.le_refl _) _).alloc (by simp) _⟩
  · have h1 : (a2 != b2) = true := by simp [h]
    have h2 : decide ((⟨a0, a1, a2, a3⟩ : PTimer).lt ⟨b0, b1, b2, b3⟩) = decide (a2 < b2) := by
      unfold PTimer.lt
      exact decide_eq_decide.2 ⟨fun h3 => by dsimp only at h3; omega, fun h3 => by dsimp only; omega⟩
    rw [h2]
    clear h h2
    go_enter Tryz.func165, Tryz.ntmps165
    go_wp2_with fail
    go_ret
    exact ⟨rfl, ((Below.refl _ _).alloc (Nat.le_refl _) _).alloc (by simp) _⟩

theorem Row.put4 {w : World} {b e : Nat} {v : Value} {xs : List PTimer} (h : Row w b e 4 encPT v xs) {g i : Nat} (hg : v.ownBlock = some g) (hi : i < xs.length) (x : PTimer) :
    Row ((((w.setCell ⟨g, i * 4, none⟩ (.int .i64 x.kind)).setCell ⟨g, i * 4 + 1, none⟩ (.int .i64 x.call)).setCell ⟨g, i * 4 + 2, none⟩ (.int .i64 x.due)).setCell ⟨g, i * 4 + 3, none⟩ (.int .i64 x.set)) b e 4 encPT v (xs.set i x) := by
  generalize hy : xs[i] = y
  obtain ⟨y0, y1, y2, y3⟩ := y
  have h0 := h.set encPT_len hg hi (j := 0) (by omega) (.int .i64 x.kind) ⟨x.kind, y1, y2, y3⟩ (by rw [hy]; rfl)
  have h1 := h0.set encPT_len hg (i := i) (by simpa using hi) (j := 1) (by omega) (.int .i64 x.call) ⟨x.kind, x.call, y2, y3⟩ (by rw [List.getElem_set_self]; rfl)
  have h2 := h1.set encPT_len hg (i := i) (by simpa using hi) (j := 2) (by omega) (.int .i64 x.due) ⟨x.kind, x.call, x.due, y3⟩ (by rw [List.getElem_set_self]; rfl)
  have h3 := h2.set encPT_len hg (i := i) (by simpa using hi) (j := 3) (by omega) (.int .i64 x.set) x (by rw [List.getElem_set_self]; rfl)
  simp only [List.set_set] at h3
  exact h3

set_option maxRecDepth 100000 in
set_option maxHeartbeats 1600000 in
theorem swap_any (p o : Nat) (g cap : Nat) (xs : List PTimer) (i j : Nat) (w : World) (hi : i < xs.length) (hj : j < xs.length) (hij : i ≠ j) (hgp : g ≠ p) (hc : w.cell? ⟨p, o, none⟩ = some (.slice (some ⟨g, 0, none⟩) xs.length cap)) (hr : Row w 0 114 4 encPT (.slice (some ⟨g, 0, none⟩) xs.length cap) xs) :
    Calls Tryz.prog 120 #[.pointer (some ⟨p, o, none⟩), .int .i64 i, .int .i64 j] w fun e w' =>
      e = .returned (.tuple #[]) ∧ w'.cell? ⟨p, o, none⟩ = some (.slice (some ⟨g, 0, none⟩) xs.length cap) ∧ Row w' 0 114 4 encPT (.slice (some ⟨g, 0, none⟩) xs.length cap) (swapL xs i j) ∧ Fr p [] [g] w w' := by
  have hi' : (i : Int) < (xs.length : Int) := by omega
  have hj' : (j : Int) < (xs.length : Int) := by omega
  obtain ⟨i0, z0⟩ := show w.cell? ⟨g, i * 4, none⟩ = some (.int .i64 xs[i].kind) ∧ w.frozen? ⟨g, i * 4, none⟩ = false from hr.cell encPT_len (g := g) (j := 0) rfl hi rfl
  obtain ⟨i1, z1⟩ := show w.cell? ⟨g, i * 4 + 1, none⟩ = some (.int .i64 xs[i].call) ∧ w.frozen? ⟨g, i * 4 + 1, none⟩ = false from hr.cell encPT_len (g := g) (j := 1) rfl hi rfl
  obtain ⟨i2, z2⟩ := show w.cell? ⟨g, i * 4 + 2, none⟩ = some (.int .i64 xs[i].due) ∧ w.frozen? ⟨g, i * 4 + 2, none⟩ = false from hr.cell encPT_len (g := g) (j := 2) rfl hi rfl
  obtain ⟨i3, z3⟩ := show w.cell? ⟨g, i * 4 + 3, none⟩ = some (.int .i64 xs[i].set) ∧ w.frozen? ⟨g, i * 4 + 3, none⟩ = false from hr.cell encPT_len (g := g) (j := 3) rfl hi rfl
  obtain ⟨j0, y0⟩ := show w.cell? ⟨g, j * 4, none⟩ = some (.int .i64 xs[j].kind) ∧ w.frozen? ⟨g, j * 4, none⟩ = false from hr.cell encPT_len (g := g) (j := 0) rfl hj rfl
  obtain ⟨j1, y1⟩ := show w.cell? ⟨g, j * 4 + 1, none⟩ = some (.int .i64 xs[j].call) ∧ w.frozen? ⟨g, j * 4 + 1, none⟩ = false from hr.cell encPT_len (g := g) (j := 1) rfl hj rfl
  obtain ⟨j2, y2⟩ := show w.cell? ⟨g, j * 4 + 2, none⟩ = some (.int .i64 xs[j].due) ∧ w.frozen? ⟨g, j * 4 + 2, none⟩ = false from hr.cell encPT_len (g := g) (j := 2) rfl hj rfl
  obtain ⟨j3, y3⟩ := show w.cell? ⟨g, j * 4 + 3, none⟩ = some (.int .i64 xs[j].set) ∧ w.frozen? ⟨g, j * 4 + 3, none⟩ = false from hr.cell encPT_len (g := g) (j := 3) rfl hj rfl
  have HR := hide hr
  have ei : xs[i] = pt xs i := (pt_get hi).symm
  have ej : xs[j] = pt xs j := (pt_get hj).symm
  rw [ei] at i0 i1 i2 i3
  rw [ej] at j0 j1 j2 j3
  have HS : Hid (∃ a b, a = pt xs i ∧ b = pt xs j) := ⟨_, _, rfl, rfl⟩
  generalize ha : pt xs i = a at i0 i1 i2 i3
  generalize hb : pt xs j = b at j0 j1 j2 j3
  have HA := hide ha
  have HB := hide hb
  obtain ⟨a0, a1, a2, a3⟩ := a
  obtain ⟨b0, b1, b2, b3⟩ := b
  dsimp only at i0 i1 i2 i3 j0 j1 j2 j3
  clear ha hb ei ej hr HS hi hj
  have n00 : ¬ j = i := Ne.symm hij
  have n01 : ¬ j * 4 = i * 4 + 1 := by omega
  have n02 : ¬ j * 4 = i * 4 + 2 := by omega
  have n03 : ¬ j * 4 = i * 4 + 3 := by omega
  have n10 : ¬ j * 4 + 1 = i * 4 := by omega
  have n12 : ¬ j * 4 + 1 = i * 4 + 2 := by omega
  have n13 : ¬ j * 4 + 1 = i * 4 + 3 := by omega
  have n20 : ¬ j * 4 + 2 = i * 4 := by omega
  have n21 : ¬ j * 4 + 2 = i * 4 + 1 := by omega
  have n23 : ¬ j * 4 + 2 = i * 4 + 3 := by omega
  have n30 : ¬ j * 4 + 3 = i * 4 := by omega
  have n31 : ¬ j * 4 + 3 = i * 4 + 1 := by omega
  have n32 : ¬ j * 4 + 3 = i * 4 + 2 := by omega
  go_enter Tryz.func120, Tryz.ntmps120
  go_wp2_with fail
  go_region
  go_end0
  have li : i < xs.length := by omega
  have lj : j < xs.length := by omega
  have q1 := HR.out.put4 (g := g) rfl li ⟨b0, b1, b2, b3⟩
  have q2 := q1.put4 (g := g) (i := j) rfl (by simpa using lj) ⟨a0, a1, a2, a3⟩
  refine ⟨rfl, ?_, ?_, ?_⟩
  · have hm : ∀ x : Nat, (⟨g, x, none⟩ : Addr).block ∈ [g] := fun _ => List.mem_singleton.2 rfl
    exact (((((((((Fr.refl p [] [g] w).setIn (hm _) hgp _).setIn (hm _) hgp _).setIn (hm _) hgp _).setIn (hm _) hgp _).setIn (hm _) hgp _).setIn (hm _) hgp _).setIn (hm _) hgp _).setIn (hm _) hgp _ |>.drew.cell o (by simp)).trans hc
  · have e : swapL xs i j = (xs.set i ⟨b0, b1, b2, b3⟩).set j ⟨a0, a1, a2, a3⟩ := by
      unfold swapL
      rw [HA.out, HB.out]
    rw [e]
    exact q2.drew
  · have hm : ∀ x : Nat, (⟨g, x, none⟩ : Addr).block ∈ [g] := fun _ => List.mem_singleton.2 rfl
    exact ((((((((Fr.refl p [] [g] w).setIn (hm _) hgp _).setIn (hm _) hgp _).setIn (hm _) hgp _).setIn (hm _) hgp _).setIn (hm _) hgp _).setIn (hm _) hgp _).setIn (hm _) hgp _).setIn (hm _) hgp _ |>.drew
end Go.Proofs.YtlccfpbbdgpjbaaGreatDoor
