import Derived.Test.YtlccfpbbdgpjbaaGreatDoorZCl
namespace Go.Proofs.YtlccfpbbdgpjbaaGreatDoor
open Go.RowKit Go.Maps

/-- Why a call is refused; 0: it is not. -/
def whyP (timeout now flight : Int) (known : Bool) (n : Nat) : Int :=
  if timeout < 1 ∨ 10000 < timeout then 5 else if known = true then 6 else if flight ≤ (n : Int) then 7 else if 1099511627776 < now + timeout then 8 else 0

structure PEv where
  kind : Int
  call : Int
  attempt : Int
  value : Int
  timeout : Int
  safe : Bool
  draw : Int
  to_ : Int
def evV (e : PEv) : Value := .agg #[.int .i64 e.kind, .int .i64 e.call, .int .i64 e.attempt, .int .i64 e.value, .int .i64 e.timeout, .bool e.safe, .int .u64 e.draw, .int .i64 e.to_]

theorem okPtr_none : okPtr (.pointer none) = true := rfl

set_option maxRecDepth 100000 in
set_option maxHeartbeats 8000000 in
theorem whyNot_any (p bc : Nat) (now flight : Int) (ev : PEv) (lc : List (Int × Value)) (w : World) (hw : (Lit.int .i64 ev.call).wf = true) (hn0 : 0 ≤ now) (hn1 : now ≤ 1099511627776) (hp : ∀ x ∈ lc, ∃ q, x.2 = .pointer (some ⟨q, 0, none⟩))
    (cN : w.cell? ⟨p, 10, none⟩ = some (.int .i64 now)) (cF : w.cell? ⟨p, 5, none⟩ = some (.int .i64 flight)) (cC : w.cell? ⟨p, 15, none⟩ = some (.map (some bc))) (mC : MapI Tryz.prog 3 okPtr w bc lc) :
    Calls Tryz.prog 64 #[.pointer (some ⟨p, 0, none⟩), evV ev] w fun e w' => e = .returned (.int .i64 (whyP ev.timeout now flight (mget lc ev.call).isSome lc.length)) ∧ Below w.heap.size w w' := by
  have lp : p < w.heap.size := World.block_lt_of_cell? w _ cN
  obtain ⟨k, c, a, v, t, s, d, o⟩ := ev
  unfold evV
  dsimp only at hw ⊢
  obtain ⟨B, hBx⟩ : ∃ B, B = w.alloc (.cells #[.int .i64 k, .int .i64 c, .int .i64 a, .int .i64 v, .int .i64 t, .bool s, .int .u64 d, .int .i64 o] 39) := ⟨_, rfl⟩
  have hB0 : Below w.heap.size w B := by rw [hBx]; exact (Below.refl _ _).alloc (Nat.le_refl _) _
  have mB : MapI Tryz.prog 3 okPtr B bc lc := mC.same (hB0.block _ mC.lt)
  have e1 : B.cell? ⟨w.heap.size, 1, none⟩ = some (.int .i64 c) := by rw [hBx]; simp
  have e4 : B.cell? ⟨w.heap.size, 4, none⟩ = some (.int .i64 t) := by rw [hBx]; simp
  have cN' := (hB0.cell lp).trans cN
  have cF' := (hB0.cell lp).trans cF
  have cC' := (hB0.cell lp).trans cC
  have HB := hide hBx
  unfold whyP
  by_cases h1 : t < 1 ∨ 10000 < t
  · rw [if_pos h1]
    have h1' : (decide (t < 1) || decide (10000 < t)) = true := by simpa using h1
    clear mB e1 e4 cN' cF' cC' hBx hB0 mC
    go_enter Tryz.func64, Tryz.ntmps64
    go_wp2_with fail
    all_goals (go_ret; exact ⟨rfl, (Below.refl _ _).alloc (Nat.le_refl _) _⟩)
  · rw [if_neg h1]
    have h1' : (decide (t < 1) || decide (10000 < t)) = false := by simpa using h1
    have t1 : 1 ≤ t := by omega
    have t2 : t ≤ 10000 := by omega
    have hlk := mB.drew.look1 Tryz.underlying3 Tryz.underlying88 (z := .pointer none) (by kernel_rfl) okPtr_none hw
    cases hg : mget lc c with
    | some u =>
      obtain ⟨q, rfl⟩ : ∃ q, u = .pointer (some ⟨q, 0, none⟩) := by
        unfold mget at hg
        obtain ⟨pr, hpr, rfl⟩ := Option.map_eq_some_iff.1 hg
        exact hp pr (List.mem_of_find?_eq_some hpr)
      rw [hg, Option.getD_some] at hlk
      rw [Option.isSome_some, if_pos rfl]
      clear hg hBx mB mC h1 hp
      go_enter Tryz.func64, Tryz.ntmps64
      go_wp2_with fail
      all_goals (try rw [← HB.out])
      go_region
      go_wp2_with fail
      go_ret
      exact ⟨rfl, hB0.drew⟩
    | none =>
      rw [hg, Option.getD_none] at hlk
      rw [Option.isSome_none, if_neg (by simp)]
      have hln := fun ty => mB.drew.drew.len Tryz.underlying88 ty
      have hB1 : Below w.heap.size w B.drew := hB0.drew
      have lb : p < B.heap.size := Nat.lt_of_lt_of_le lp hB0.size
      by_cases h2 : flight ≤ (lc.length : Int)
      · rw [if_pos h2]
        have h2' : decide (flight ≤ (lc.length : Int)) = true := decide_eq_true h2
        clear hg hBx mB mC h1 hp
        go_enter Tryz.func64, Tryz.ntmps64
        go_wp2_with fail
        all_goals (try rw [← HB.out])
        go_region
        go_wp2_with fail
        go_region
        go_wp2_with fail
        go_ret
        exact ⟨rfl, hB1.drew⟩
      · rw [if_neg h2]
        have h2' : decide (flight ≤ (lc.length : Int)) = false := decide_eq_false h2
        by_cases h3 : 1099511627776 < now + t
        · rw [if_pos h3]
          have h3' : decide (1099511627776 < now + t) = true := decide_eq_true h3
          clear hg hBx mB mC h1 hp
          go_enter Tryz.func64, Tryz.ntmps64
          go_wp2_with fail
          all_goals (try rw [← HB.out])
          go_region
          go_wp2_with fail
          go_region
          go_wp2_with fail
          go_region
          go_wp2_with fail
          go_ret
          exact ⟨rfl, hB1.drew.drew⟩
        · rw [if_neg h3]
          have h3' : decide (1099511627776 < now + t) = false := decide_eq_false h3
          clear hg hBx mB mC h1 hp
          go_enter Tryz.func64, Tryz.ntmps64
          go_wp2_with fail
          all_goals (try rw [← HB.out])
          go_region
          go_wp2_with fail
          go_region
          go_wp2_with fail
          go_region
          go_wp2_with fail
          go_ret
          exact ⟨rfl, hB1.drew.drew⟩
end Go.Proofs.YtlccfpbbdgpjbaaGreatDoor

namespace Go.Proofs.YtlccfpbbdgpjbaaGreatDoor
open Go.RowKit Go.Maps

set_option maxRecDepth 100000 in
set_option maxHeartbeats 4000000 in
theorem cancel_open (p q bc ba : Nat) (number : Int) (lc : List (Int × Value)) (l : List (Int × PAtt)) (g cap : Nat) (xs : List PTimer) (w : World) (hl : l.length ≤ 1000000) (hlx : xs.length ≤ 1000000) (hgp : g ≠ p) (hw : (Lit.int .i64 number).wf = true)
    (cC : w.cell? ⟨p, 15, none⟩ = some (.map (some bc))) (cA : w.cell? ⟨p, 16, none⟩ = some (.map (some ba))) (cN : w.cell? ⟨q, 0, none⟩ = some (.int .i64 number)) (mC : MapI Tryz.prog 3 okPtr w bc lc) (mA : MapI Tryz.prog 3 okAtt w ba (attL l)) (hbb : ba ≠ bc) (hg : mget lc number = some (.pointer (some ⟨q, 0, none⟩)))
    (hc : w.cell? ⟨p, 18, none⟩ = some (.slice (some ⟨g, 0, none⟩) xs.length cap)) (hz : w.frozen? ⟨p, 18, none⟩ = false) (hr : Row w 0 114 4 encPT (.slice (some ⟨g, 0, none⟩) xs.length cap) xs) :
    Calls Tryz.prog 39 #[.pointer (some ⟨p, 0, none⟩), .int .i64 number] w fun e w' => ∃ v ys, e = .returned v ∧ Row w' w.heap.size 55 6 encAct v (⟨3, number, 0, 4, 0, 0⟩ :: ((l.filter (fun p => p.2.call == number)).map (·.1)).mergeSort.map (fun k => ⟨2, number, k, 0, 0, 0⟩)) ∧
      MapI Tryz.prog 3 okAtt w' ba (attL (l.filter (fun p => !(p.2.call == number)))) ∧ MapI Tryz.prog 3 okPtr w' bc (lc.filter (fun p => p.1 != number)) ∧ ys.Perm (xs.filter (stays number)) ∧ IsHeap ys ∧ w'.cell? ⟨p, 18, none⟩ = some (.slice (some ⟨g, 0, none⟩) ys.length cap) ∧ Row w' 0 114 4 encPT (.slice (some ⟨g, 0, none⟩) ys.length cap) ys ∧ Fr p [18] [ba, bc, g] w w' := by
  have hlk0 := mC.look1 Tryz.underlying3 Tryz.underlying88 (z := .pointer none) (by kernel_rfl) okPtr_none hw
  rw [hg, Option.getD_some] at hlk0
  have HF := hide (finish_T p q bc ba number 4 0 lc l g cap xs w hl hlx hgp hw cC cA cN mC mA hbb hc hz hr)
  clear mC mA hr hc hz hg cA
  go_enter Tryz.func39, Tryz.ntmps39
  go_wp2_with fail
  refine HF.out.mono ?_
  rintro e w1 ⟨v, ys, rfl, hpost⟩
  have HPO := hide hpost
  clear hpost
  go_wp2_with fail
  go_ret
  exact ⟨v, ys, rfl, HPO.out⟩

set_option maxRecDepth 100000 in
set_option maxHeartbeats 4000000 in
theorem cancel_stale (p bc : Nat) (number n : Int) (lc : List (Int × Value)) (w : World) (hw : (Lit.int .i64 number).wf = true) (cC : w.cell? ⟨p, 15, none⟩ = some (.map (some bc))) (mC : MapI Tryz.prog 3 okPtr w bc lc) (hg : mget lc number = none) (h0 : 0 ≤ n) (h1 : n ≤ 4611686018427387904) (cS : w.cell? ⟨p, 21, none⟩ = some (.int .i64 n)) (fS : w.frozen? ⟨p, 21, none⟩ = false) :
    Calls Tryz.prog 39 #[.pointer (some ⟨p, 0, none⟩), .int .i64 number] w fun e w' => e = .returned (.slice none 0 0) ∧ w'.cell? ⟨p, 21, none⟩ = some (.int .i64 (n + 1)) ∧ Fr p [21] [] w w' := by
  have hlk0 := mC.look1 Tryz.underlying3 Tryz.underlying88 (z := .pointer none) (by kernel_rfl) okPtr_none hw
  rw [hg, Option.getD_none] at hlk0
  have HP := hide (pass_any p n w h0 h1 cS fS)
  clear mC hg cS fS
  go_enter Tryz.func39, Tryz.ntmps39
  go_wp2_with fail
  refine HP.out.mono ?_
  rintro e w1 ⟨rfl, hpost⟩
  have HPO := hide hpost
  clear hpost
  go_wp2_with fail
  go_ret
  exact ⟨rfl, HPO.out⟩
end Go.Proofs.YtlccfpbbdgpjbaaGreatDoor

namespace Go.Proofs.YtlccfpbbdgpjbaaGreatDoor
open Go.RowKit Go.Maps

set_option maxRecDepth 100000 in
set_option maxHeartbeats 4000000 in
theorem submit_refuse (p bc : Nat) (now flight : Int) (ev : PEv) (lc : List (Int × Value)) (w : World) (hw : (Lit.int .i64 ev.call).wf = true) (hn0 : 0 ≤ now) (hn1 : now ≤ 1099511627776) (hp : ∀ x ∈ lc, ∃ q, x.2 = .pointer (some ⟨q, 0, none⟩))
    (cN : w.cell? ⟨p, 10, none⟩ = some (.int .i64 now)) (cF : w.cell? ⟨p, 5, none⟩ = some (.int .i64 flight)) (cC : w.cell? ⟨p, 15, none⟩ = some (.map (some bc))) (mC : MapI Tryz.prog 3 okPtr w bc lc)
    (why : Int) (hy : whyP ev.timeout now flight (mget lc ev.call).isSome lc.length = why) (hy0 : why ≠ 0) :
    Calls Tryz.prog 37 #[.pointer (some ⟨p, 0, none⟩), evV ev] w fun e w' => ∃ v, e = .returned v ∧ Row w' w.heap.size 55 6 encAct v [⟨4, ev.call, 0, why, 0, 0⟩] ∧ Below w.heap.size w w' := by
  have lp : p < w.heap.size := World.block_lt_of_cell? w _ cN
  have HW := hide (fun W (h : Below w.heap.size w W) => whyNot_any p bc now flight ev lc W hw hn0 hn1 hp ((h.cell lp).trans cN) ((h.cell lp).trans cF) ((h.cell lp).trans cC) (mC.same (h.block _ mC.lt)))
  rw [hy] at HW
  have hy1 : (why != 0) = true := by simpa using hy0
  clear hp cN cF cC mC hy hy0
  obtain ⟨k, c, a, v, t, s, d, o⟩ := ev
  unfold evV at HW ⊢
  dsimp only at hw HW ⊢
  go_enter Tryz.func37, Tryz.ntmps37
  go_wp2_with fail
  have hB0 : Below w.heap.size w (w.alloc (.cells #[.int .i64 k, .int .i64 c, .int .i64 a, .int .i64 v, .int .i64 t, .bool s, .int .u64 d, .int .i64 o] 39)) := (Below.refl _ _).alloc (Nat.le_refl _) _
  have e1 : (w.alloc (.cells #[.int .i64 k, .int .i64 c, .int .i64 a, .int .i64 v, .int .i64 t, .bool s, .int .u64 d, .int .i64 o] 39)).cell? ⟨w.heap.size, 1, none⟩ = some (.int .i64 c) := by simp
  have l1 : w.heap.size < (w.alloc (.cells #[.int .i64 k, .int .i64 c, .int .i64 a, .int .i64 v, .int .i64 t, .bool s, .int .u64 d, .int .i64 o] 39)).heap.size := by simp
  refine (HW.out _ hB0).mono ?_
  rintro e w1 ⟨rfl, hb1⟩
  generalize w.alloc (.cells #[.int .i64 k, .int .i64 c, .int .i64 a, .int .i64 v, .int .i64 t, .bool s, .int .u64 d, .int .i64 o] 39) = W at hB0 e1 l1 hb1
  have hB1 : Below w.heap.size w w1 := hB0.trans (hb1.mono hB0.size)
  have e2 := (hb1.cell l1).trans e1
  clear HW hb1 e1 hB0
  go_wp2_with fail
  go_ret
  refine ⟨_, rfl, ?_, hB1.alloc hB1.size _⟩
  exact ⟨rfl, .inr ⟨w1.heap.size, 1, _, rfl, hB1.size, heap_alloc_new _ _, Nat.le_refl _, by simp [maxLen], rfl, rfl⟩⟩
end Go.Proofs.YtlccfpbbdgpjbaaGreatDoor

namespace Go.Proofs.YtlccfpbbdgpjbaaGreatDoor
open Go.RowKit Go.Maps

theorem okAtt_zero : okAtt (.agg #[.int .i64 0, .int .i64 0]) = true := rfl

set_option maxRecDepth 100000 in
set_option maxHeartbeats 4000000 in
theorem answer_stale (p ba : Nat) (n : Int) (ev : PEv) (l : List (Int × PAtt)) (w : World) (hw : (Lit.int .i64 ev.attempt).wf = true) (cA : w.cell? ⟨p, 16, none⟩ = some (.map (some ba))) (mA : MapI Tryz.prog 3 okAtt w ba (attL l)) (hg : mget (attL l) ev.attempt = none) (h0 : 0 ≤ n) (h1 : n ≤ 4611686018427387904) (cS : w.cell? ⟨p, 21, none⟩ = some (.int .i64 n)) (fS : w.frozen? ⟨p, 21, none⟩ = false) :
    Calls Tryz.prog 38 #[.pointer (some ⟨p, 0, none⟩), evV ev] w fun e w' => e = .returned (.slice none 0 0) ∧ w'.cell? ⟨p, 21, none⟩ = some (.int .i64 (n + 1)) ∧ Fr p [21] [] w w' := by
  have lp : p < w.heap.size := World.block_lt_of_cell? w _ cS
  obtain ⟨k, c, a, v, t, s, d, o⟩ := ev
  unfold evV
  dsimp only at hw hg ⊢
  obtain ⟨B, hBx⟩ : ∃ B, B = w.alloc (.cells #[.int .i64 k, .int .i64 c, .int .i64 a, .int .i64 v, .int .i64 t, .bool s, .int .u64 d, .int .i64 o] 39) := ⟨_, rfl⟩
  have hB0 : Below w.heap.size w B := by rw [hBx]; exact (Below.refl _ _).alloc (Nat.le_refl _) _
  have e2 : B.cell? ⟨w.heap.size, 2, none⟩ = some (.int .i64 a) := by rw [hBx]; simp
  have mB : MapI Tryz.prog 3 okAtt B ba (attL l) := mA.same (hB0.block _ mA.lt)
  have hlk := mB.drew.look2 Tryz.underlying3 Tryz.underlying89 (z := .agg #[.int .i64 0, .int .i64 0]) (by kernel_rfl) okAtt_zero hw
  have hlk2 : ∀ O : Obj, (Instr.lookup 89 (.map (some ba)) (.int .i64 a) true).run Tryz.prog (B.alloc O).drew = .ok (.tuple #[(mget (attL l) a).getD (.agg #[.int .i64 0, .int .i64 0]), .bool (mget (attL l) a).isSome]) (B.alloc O).drew := fun O =>
    (mB.same (w' := (B.alloc O).drew) (((Below.refl B.heap.size B).alloc (Nat.le_refl _) O).drew.block _ mB.lt)).look2 Tryz.underlying3 Tryz.underlying89 (z := .agg #[.int .i64 0, .int .i64 0]) (by kernel_rfl) okAtt_zero hw
  rw [hg, Option.getD_none, Option.isSome_none] at hlk
  simp only [hg, Option.getD_none, Option.isSome_none] at hlk2
  have lB : p < B.heap.size := Nat.lt_of_lt_of_le lp hB0.size
  have lB2 : w.heap.size < B.heap.size := World.block_lt_of_cell? B _ e2
  have cA' := (hB0.cell lp).trans cA
  have HB := hide hBx
  have HP := hide (fun O : Obj => pass_any p n (B.alloc O).drew h0 h1 (((((Below.refl B.heap.size B).alloc (Nat.le_refl _) O).drew.cell lB).trans (hB0.cell lp)).trans cS) (((((Below.refl B.heap.size B).alloc (Nat.le_refl _) O).drew.frozen lB).trans (hB0.frozen lp)).trans fS))
  have HO := hide (fun O : Obj => hB0.trans ((((Below.refl B.heap.size B).alloc (Nat.le_refl _) O).drew).mono hB0.size))
  clear hBx mA mB hg cS fS
  go_enter Tryz.func38, Tryz.ntmps38
  go_wp2_with fail
  all_goals (try rw [← HB.out])
  go_region
  go_wp2_with fail
  refine (HP.out _).mono ?_
  rintro e w1 ⟨rfl, hc1, hf1⟩
  have HF := hide ((Fr.of_below (J := []) (R := []) lp (HO.out _)).trans hf1 (J'' := [21]) (fun _ h => ⟨by simp, h⟩) (fun r h => .inl h))
  have HC := hide hc1
  clear hc1 hf1 HP HO
  go_wp2_with fail
  go_ret
  exact ⟨rfl, HC.out, HF.out⟩
end Go.Proofs.YtlccfpbbdgpjbaaGreatDoor
