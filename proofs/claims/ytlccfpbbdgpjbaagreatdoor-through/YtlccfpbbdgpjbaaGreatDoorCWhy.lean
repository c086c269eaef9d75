/-
  whyNot.
-/
import Derived.Test.YtlccfpbbdgpjbaaGreatDoorCFinish
namespace Go.Proofs.YtlccfpbbdgpjbaaGreatDoor
open Go.RowKit Go.Maps

/-- Why a call is refused; 0: it is not. -/
def whyP (timeout now flight : Int) (known : Bool) (n : Nat) : Int :=
  if timeout < 1 ∨ 10000 < timeout then 5 else if known = true then 6 else if flight ≤ (n : Int) then 7 else if 1099511627776 < now + timeout then 8 else 0

structure PEv where
  kind : Int
  call : Int
  attempt : Int
  value : Int
  timeout : Int
  safe : Bool
  draw : Int
  to_ : Int
def evV (e : PEv) : Value := .agg #[.int .i64 e.kind, .int .i64 e.call, .int .i64 e.attempt, .int .i64 e.value, .int .i64 e.timeout, .bool e.safe, .int .u64 e.draw, .int .i64 e.to_]

theorem okPtr_none : okPtr (.pointer none) = true := rfl

set_option maxRecDepth 100000 in
set_option maxHeartbeats 8000000 in
theorem whyNot_any (p bc : Nat) (now flight : Int) (ev : PEv) (lc : List (Int × Value)) (w : World) (hw : (Lit.int .i64 ev.call).wf = true) (hn0 : 0 ≤ now) (hn1 : now ≤ 1099511627776) (hp : ∀ x ∈ lc, ∃ q, x.2 = .pointer (some ⟨q, 0, none⟩))
    (cN : w.cell? ⟨p, 10, none⟩ = some (.int .i64 now)) (cF : w.cell? ⟨p, 5, none⟩ = some (.int .i64 flight)) (cC : w.cell? ⟨p, 15, none⟩ = some (.map (some bc))) (mC : MapI Tryz.prog 3 okPtr w bc lc) :
    Calls Tryz.prog 64 #[.pointer (some ⟨p, 0, none⟩), evV ev] w fun e w' => e = .returned (.int .i64 (whyP ev.timeout now flight (mget lc ev.call).isSome lc.length)) ∧ Below w.heap.size w w' := by
  have lp : p < w.heap.size := World.block_lt_of_cell? w _ cN
  obtain ⟨k, c, a, v, t, s, d, o⟩ := ev
  unfold evV
  dsimp only at hw ⊢
  obtain ⟨B, hBx⟩ : ∃ B, B = w.alloc (.cells #[.int .i64 k, .int .i64 c, .int .i64 a, .int .i64 v, .int .i64 t, .bool s, .int .u64 d, .int .i64 o] 39) := ⟨_, rfl⟩
  have hB0 : Below w.heap.size w B := by rw [hBx]; exact (Below.refl _ _).alloc (Nat.le_refl _) _
  have mB : MapI Tryz.prog 3 okPtr B bc lc := mC.same (hB0.block _ mC.lt)
  have e1 : B.cell? ⟨w.heap.size, 1, none⟩ = some (.int .i64 c) := by rw [hBx]; simp
  have e4 : B.cell? ⟨w.heap.size, 4, none⟩ = some (.int .i64 t) := by rw [hBx]; simp
  have cN' := (hB0.cell lp).trans cN
  have cF' := (hB0.cell lp).trans cF
  have cC' := (hB0.cell lp).trans cC
  have HB := hide hBx
  unfold whyP
  by_cases h1 : t < 1 ∨ 10000 < t
  · rw [if_pos h1]
    have h1' : (decide (t < 1) || decide (10000 < t)) = true := by simpa using h1
    clear mB e1 e4 cN' cF' cC' hBx hB0 mC
    go_enter Tryz.func64, Tryz.ntmps64
    go_wp2_with fail
    all_goals (go_ret; exact ⟨rfl, (Below.refl _ _).alloc (Nat.le_refl _) _⟩)
  · rw [if_neg h1]
    have h1' : (decide (t < 1) || decide (10000 < t)) = false := by simpa using h1
    have t1 : 1 ≤ t := by omega
    have t2 : t ≤ 10000 := by omega
    have hlk := mB.drew.look1 Tryz.underlying3 Tryz.underlying88 (z := .pointer none) (by kernel_rfl) okPtr_none hw
    cases hg : mget lc c with
    | some u =>
      obtain ⟨q, rfl⟩ : ∃ q, u = .pointer (some ⟨q, 0, none⟩) := by
        unfold mget at hg
        obtain ⟨pr, hpr, rfl⟩ := Option.map_eq_some_iff.1 hg
        exact hp pr (List.mem_of_find?_eq_some hpr)
      rw [hg, Option.getD_some] at hlk
      rw [Option.isSome_some, if_pos rfl]
      clear hg hBx mB mC h1 hp
      go_enter Tryz.func64, Tryz.ntmps64
      go_wp2_with fail
      all_goals (try rw [← HB.out])
      go_region
      go_wp2_with fail
      go_ret
      exact ⟨rfl, hB0.drew⟩
    | none =>
      rw [hg, Option.getD_none] at hlk
      rw [Option.isSome_none, if_neg (by simp)]
      have hln := fun ty => mB.drew.drew.len Tryz.underlying88 ty
      have hB1 : Below w.heap.size w B.drew := hB0.drew
      have lb : p < B.heap.size := Nat.lt_of_lt_of_le lp hB0.size
      by_cases h2 : flight ≤ (lc.length : Int)
      · rw [if_pos h2]
        have h2' : decide (flight ≤ (lc.length : Int)) = true := decide_eq_true h2
        clear hg hBx mB mC h1 hp
        go_enter Tryz.func64, Tryz.ntmps64
        go_wp2_with fail
        all_goals (try rw [← HB.out])
        go_region
        go_wp2_with fail
        go_region
        go_wp2_with fail
        go_ret
        exact ⟨rfl, hB1.drew⟩
      · rw [if_neg h2]
        have h2' : decide (flight ≤ (lc.length : Int)) = false := decide_eq_false h2
        by_cases h3 : 1099511627776 < now + t
        · rw [if_pos h3]
          have h3' : decide (1099511627776 < now + t) = true := decide_eq_true h3
          clear hg hBx mB mC h1 hp
          go_enter Tryz.func64, Tryz.ntmps64
          go_wp2_with fail
          all_goals (try rw [← HB.out])
          go_region
          go_wp2_with fail
          go_region
          go_wp2_with fail
          go_region
          go_wp2_with fail
          go_ret
          exact ⟨rfl, hB1.drew.drew⟩
        · rw [if_neg h3]
          have h3' : decide (1099511627776 < now + t) = false := decide_eq_false h3
          clear hg hBx mB mC h1 hp
          go_enter Tryz.func64, Tryz.ntmps64
          go_wp2_with fail
          all_goals (try rw [← HB.out])
          go_region
          go_wp2_with fail
          go_region
          go_wp2_with fail
          go_region
          go_wp2_with fail
          go_ret
          exact ⟨rfl, hB1.drew.drew⟩
end Go.Proofs.YtlccfpbbdgpjbaaGreatDoor
