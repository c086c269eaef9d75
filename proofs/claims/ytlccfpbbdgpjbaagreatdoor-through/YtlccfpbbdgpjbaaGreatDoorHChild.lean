/-
  firstChild.
-/
import Derived.Test.YtlccfpbbdgpjbaaGreatDoorHSwap
namespace Go.Proofs.YtlccfpbbdgpjbaaGreatDoor
open Go.RowKit

/-- The cells of an entry. -/
theorem Row.pt_cells {w : World} {b e : Nat} {g n cap : Nat} {xs : List PTimer} (h : Row w b e 4 encPT (.slice (some ⟨g, 0, none⟩) n cap) xs) (i : Nat) (hi : i < xs.length) (x : PTimer) (hx : pt xs i = x) :
    w.cell? ⟨g, i * 4, none⟩ = some (.int .i64 x.kind) ∧ w.cell? ⟨g, i * 4 + 1, none⟩ = some (.int .i64 x.call) ∧ w.cell? ⟨g, i * 4 + 2, none⟩ = some (.int .i64 x.due) ∧ w.cell? ⟨g, i * 4 + 3, none⟩ = some (.int .i64 x.set) := by
  rw [pt_get hi] at hx
  subst hx
  exact ⟨(h.cell encPT_len (g := g) (j := 0) rfl hi rfl).1, (h.cell encPT_len (g := g) (j := 1) rfl hi rfl).1, (h.cell encPT_len (g := g) (j := 2) rfl hi rfl).1, (h.cell encPT_len (g := g) (j := 3) rfl hi rfl).1⟩


theorem firstChild_left {xs : List PTimer} {k : Nat} (h : xs.length ≤ 2 * k + 2 ∨ ¬ (pt xs (2 * k + 2)).lt (pt xs (2 * k + 1))) : FirstChild xs k (2 * k + 1) := by
  refine ⟨.inl rfl, fun h => h, fun hl i h0 hi hp => ?_⟩
  by_cases e : i = 2 * k + 1
  · rw [e]
    exact PTimer.lt_irrefl _
  · have e2 : i = 2 * k + 2 := by omega
    subst e2
    exact h.resolve_left (by omega)
theorem firstChild_right {xs : List PTimer} {k : Nat} (hl : 2 * k + 2 < xs.length) (h : (pt xs (2 * k + 2)).lt (pt xs (2 * k + 1))) : FirstChild xs k (2 * k + 2) := by
  refine ⟨.inr rfl, fun h => by omega, fun _ i h0 hi hp => ?_⟩
  by_cases e : i = 2 * k + 1
  · rw [e]
    exact PTimer.lt_asymm h
  · have e2 : i = 2 * k + 2 := by omega
    subst e2
    exact PTimer.lt_irrefl _

set_option maxRecDepth 100000 in
set_option maxHeartbeats 1600000 in
theorem firstChild_any (p o : Nat) (g cap : Nat) (xs : List PTimer) (k : Nat) (w : World) (hk : k ≤ 1000000) (hc : w.cell? ⟨p, o, none⟩ = some (.slice (some ⟨g, 0, none⟩) xs.length cap)) (hr : Row w 0 114 4 encPT (.slice (some ⟨g, 0, none⟩) xs.length cap) xs) :
    Calls Tryz.prog 119 #[.pointer (some ⟨p, o, none⟩), .int .i64 k] w fun e w' => ∃ c : Nat, e = .returned (.int .i64 c) ∧ FirstChild xs k c ∧ Below w.heap.size w w' := by
  have k0 : (0 : Int) ≤ (k : Int) := by omega
  have k1 : (k : Int) ≤ 1000000 := by omega
  by_cases c1 : 2 * k + 2 < xs.length
  · have c1' : (2 * (k : Int) + 2) < (xs.length : Int) := by omega
    have c2' : (2 * (k : Int) + 1) < (xs.length : Int) := by omega
    have t1 : (2 * (k : Int) + 1).toNat = 2 * k + 1 := by omega
    have t2 : (2 * (k : Int) + 2).toNat = 2 * k + 2 := by omega
    have HL := hide (fun h => firstChild_left (xs := xs) (k := k) (.inr h))
    have HG := hide (firstChild_right (xs := xs) (k := k) c1)
    generalize ha : pt xs (2 * k + 2) = a at HL HG
    generalize hb : pt xs (2 * k + 1) = b at HL HG
    obtain ⟨i0, i1, i2, i3⟩ := hr.pt_cells _ c1 a ha
    obtain ⟨j0, j1, j2, j3⟩ := hr.pt_cells _ (by omega) b hb
    clear ha hb hr c1
    have lg : g < w.heap.size := World.block_lt_of_cell? w _ i0
    have p1 : (0 : Int) ≤ 2 * (k : Int) + 1 := by omega
    have p2 : (0 : Int) ≤ 2 * (k : Int) + 2 := by omega
    have hm : ∀ w : World, (method 362 114 (.agg #[.int .i64 a.kind, .int .i64 a.call, .int .i64 a.due, .int .i64 a.set]) "Before").run Tryz.prog w = .ok (165, .agg #[.int .i64 a.kind, .int .i64 a.call, .int .i64 a.due, .int .i64 a.set]) w := fun _ => by kernel_rfl
    have lp : p < w.heap.size := World.block_lt_of_cell? w _ hc
    go_enter Tryz.func119, Tryz.ntmps119
    go_wp2_with fail
    go_region_held3 (fun w' => w'.cell? ⟨p, o, none⟩ = some (.slice (some ⟨g, 0, none⟩) xs.length cap) ∧ w'.cell? ⟨g, (2 * k + 2) * 4, none⟩ = some (.int .i64 a.kind) ∧ w'.cell? ⟨g, (2 * k + 2) * 4 + 1, none⟩ = some (.int .i64 a.call) ∧ w'.cell? ⟨g, (2 * k + 2) * 4 + 2, none⟩ = some (.int .i64 a.due) ∧ w'.cell? ⟨g, (2 * k + 2) * 4 + 3, none⟩ = some (.int .i64 a.set)
        ∧ w'.cell? ⟨g, (2 * k + 1) * 4, none⟩ = some (.int .i64 b.kind) ∧ w'.cell? ⟨g, (2 * k + 1) * 4 + 1, none⟩ = some (.int .i64 b.call) ∧ w'.cell? ⟨g, (2 * k + 1) * 4 + 2, none⟩ = some (.int .i64 b.due) ∧ w'.cell? ⟨g, (2 * k + 1) * 4 + 3, none⟩ = some (.int .i64 b.set))
      (first
        | (go_keep; done)
        | (go_split_ands
           refine ⟨?_, ?_, ?_, ?_, ?_, ?_, ?_, ?_, ?_⟩
           all_goals (first | (rw [hb.cell (by assumption)]; assumption) | (go_keep; done))))
      (first
        | (go_at_call 165; refine (before_any a b _).mono ?_; rintro e w' ⟨rfl, hb⟩))
    clear i0 i1 i2 i3 j0 j1 j2 j3 hc hm
    have hB : Below w.heap.size w w' := (Below.refl w.heap.size w).drew.trans hb
    cases hd : decide (a.lt b) with
    | true =>
      have hF := HG.out (of_decide_eq_true hd)
      clear hd
      go_wp2_with fail
      go_ret
      exact ⟨2 * k + 2, by go_num, hF, hB⟩
    | false =>
      have hF := HL.out (of_decide_eq_false hd)
      clear hd
      go_wp2_with fail
      go_ret
      exact ⟨2 * k + 1, by go_num, hF, hB⟩
  · have c1' : decide ((2 * (k : Int) + 2) < (xs.length : Int)) = false := decide_eq_false (by omega)
    go_enter Tryz.func119, Tryz.ntmps119
    go_wp2_with fail
    go_quiet (fail)
    go_wp2_with fail
    go_ret
    exact ⟨2 * k + 1, by go_num, firstChild_left (.inl (by omega)), below_drewN _ _⟩
end Go.Proofs.YtlccfpbbdgpjbaaGreatDoor
