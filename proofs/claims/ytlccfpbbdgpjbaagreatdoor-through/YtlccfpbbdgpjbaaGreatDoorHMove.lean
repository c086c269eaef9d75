/-
  sink, rise.
-/
import Derived.Test.YtlccfpbbdgpjbaaGreatDoorHChild
namespace Go.Proofs.YtlccfpbbdgpjbaaGreatDoor
open Go.RowKit

theorem Fr.below {p : Nat} {J R : List Nat} {w wr w1 : World} (h : Fr p J R w wr) (hp : p < w.heap.size) (hb : Below wr.heap.size wr w1) : Fr p J R w w1 :=
  h.trans (Fr.of_below (J := []) (R := []) (Nat.lt_of_lt_of_le hp h.size) hb) (fun _ hj => ⟨hj, by simp⟩) (fun r hr => by cases hr)

set_option maxRecDepth 100000 in
set_option maxHeartbeats 4000000 in
theorem sink_any (p o : Nat) (g cap lo : Nat) (xs : List PTimer) (k0 : Nat) (w : World) (hl : xs.length ≤ 1000000) (hk0 : k0 ≤ xs.length) (hS : Sinking lo xs k0) (hgp : g ≠ p) (hc : w.cell? ⟨p, o, none⟩ = some (.slice (some ⟨g, 0, none⟩) xs.length cap)) (hr : Row w 0 114 4 encPT (.slice (some ⟨g, 0, none⟩) xs.length cap) xs) :
    Calls Tryz.prog 101 #[.pointer (some ⟨p, o, none⟩), .int .i64 k0] w fun e w' =>
      e = .returned (.tuple #[]) ∧ ∃ ys, ys.Perm xs ∧ HeapFrom lo ys ∧ w'.cell? ⟨p, o, none⟩ = some (.slice (some ⟨g, 0, none⟩) xs.length cap) ∧ Row w' 0 114 4 encPT (.slice (some ⟨g, 0, none⟩) xs.length cap) ys ∧ Fr p [] [g] w w' := by
  have lp : p < w.heap.size := World.block_lt_of_cell? w _ hc
  go_enter Tryz.func101, Tryz.ntmps101
  go_wp2_with fail
  go_loopw [1] (fun pv wr => ∃ (k : Nat) (ys : List PTimer), pv = .int .i64 k ∧ k ≤ xs.length ∧ Sinking lo ys k ∧ ys.Perm xs ∧ wr.cell? ⟨p, o, none⟩ = some (.slice (some ⟨g, 0, none⟩) xs.length cap) ∧ Row wr 0 114 4 encPT (.slice (some ⟨g, 0, none⟩) xs.length cap) ys ∧ Fr p [] [g] w wr) (fun pv _ => xs.length - (intOf pv).toNat)
  case atStart => exact ⟨k0, xs, rfl, hk0, hS, List.Perm.refl _, hc, hr, Fr.refl _ _ _ _⟩
  case round =>
    obtain ⟨k, ys, rfl, hk, hSk, hP, hcr, hrr, hF⟩ := hrel
    clear hr hc hS
    have hlen := hP.length_eq
    have HFC := hide (firstChild_any p o g cap ys k wr (by omega) (by rw [hlen]; exact hcr) (by rw [hlen]; exact hrr))
    go_wp2_with (first | (go_at_call 119; refine HFC.out.mono ?_; rintro e w1 ⟨c, rfl, hC, hb1⟩))
    have lp1 : p < w1.heap.size := Nat.lt_of_lt_of_le lp (Nat.le_trans hF.size hb1.size)
    have hc1 : w1.cell? ⟨p, o, none⟩ = some (.slice (some ⟨g, 0, none⟩) xs.length cap) := (hb1.cell (Nat.lt_of_lt_of_le lp hF.size)).trans hcr
    have hr1 := hrr.below hb1
    have hF1 := hF.below lp hb1
    clear hcr hrr hF HFC
    by_cases hlt : c < xs.length
    · have c1 : (c : Int) < (xs.length : Int) := by omega
      have hkc : k < c := by rcases hC.1 with e | e <;> omega
      have k1 : (k : Int) < (xs.length : Int) := by omega
      have hd1 : decide (xs.length ≤ c) = false := decide_eq_false (by omega)
      have hck : k ≠ c := by rcases hC.1 with e | e <;> omega
      have HSW := hide (fun W hcW hrW => swap_any p o g cap ys k c W (by omega) (by omega) hck hgp hcW hrW)
      rw [hlen] at HSW
      have HST := hide (fun h => hSk.stop hC (.inr h))
      have HGO := hide (hSk.go hC (by omega))
      generalize ha : pt ys c = a at HST HGO
      generalize hz : pt ys k = b at HST HGO
      obtain ⟨i0, i1, i2, i3⟩ := hr1.pt_cells _ (by omega) a ha
      obtain ⟨j0, j1, j2, j3⟩ := hr1.pt_cells _ (by omega) b hz
      have lg : g < w1.heap.size := World.block_lt_of_cell? w1 _ i0
      have HR1 := hide hr1
      have HPP := hide (swapL_perm ys k c (by omega) (by omega))
      have hm : ∀ w : World, (method 362 114 (.agg #[.int .i64 a.kind, .int .i64 a.call, .int .i64 a.due, .int .i64 a.set]) "Before").run Tryz.prog w = .ok (165, .agg #[.int .i64 a.kind, .int .i64 a.call, .int .i64 a.due, .int .i64 a.set]) w := fun _ => by kernel_rfl
      clear ha hz hr1 hSk
      go_region_held3 (fun w' => w'.cell? ⟨p, o, none⟩ = some (.slice (some ⟨g, 0, none⟩) xs.length cap) ∧ w'.cell? ⟨g, c * 4, none⟩ = some (.int .i64 a.kind) ∧ w'.cell? ⟨g, c * 4 + 1, none⟩ = some (.int .i64 a.call) ∧ w'.cell? ⟨g, c * 4 + 2, none⟩ = some (.int .i64 a.due) ∧ w'.cell? ⟨g, c * 4 + 3, none⟩ = some (.int .i64 a.set)
                ∧ w'.cell? ⟨g, k * 4, none⟩ = some (.int .i64 b.kind) ∧ w'.cell? ⟨g, k * 4 + 1, none⟩ = some (.int .i64 b.call) ∧ w'.cell? ⟨g, k * 4 + 2, none⟩ = some (.int .i64 b.due) ∧ w'.cell? ⟨g, k * 4 + 3, none⟩ = some (.int .i64 b.set))
        (first
          | (go_keep; done)
          | (go_split_ands
             refine ⟨?_, ?_, ?_, ?_, ?_, ?_, ?_, ?_, ?_⟩
             all_goals (first | (rw [hb.cell (by assumption)]; assumption) | (go_keep; done))))
        (first
          | (go_at_call 165; refine (before_any a b _).mono ?_; rintro e w' ⟨rfl, hb⟩))
      rename_i hH
      have hcw := hH.1
      clear i0 i1 i2 i3 j0 j1 j2 j3 hm hH
      have hB1 : Below w1.heap.size w1 w' := (Below.refl w1.heap.size w1).drew.trans hb
      have hF2 := hF1.below lp hB1
      have hr2 := HR1.out.below hB1
      have HSW2 := hide (HSW.out w' hcw hr2)
      clear HSW HR1 hb hB1 hb1 hc1 hF1
      cases hd : decide (a.lt b) with
      | true =>
        have hG := HGO.out (of_decide_eq_true hd)
        clear hd HGO HST
        go_wp2_with (first | (go_at_call 120; refine HSW2.out.mono ?_; rintro e w2 ⟨rfl, hc3, hr3, hF3⟩))
        go_roundw
        case rel => exact ⟨c, swapL ys k c, rfl, Nat.le_of_lt hlt, hG, HPP.out.trans hP, hc3, hr3, hF2.trans hF3 (fun _ h => ⟨h, h⟩) (fun _ h => .inl h)⟩
        case measure =>
          have : k < c := by rcases hC.1 with e | e <;> omega
          simp [intOf]
          omega
      | false =>
        have hG := HST.out (of_decide_eq_false hd)
        clear hd HGO HST
        go_wp2_with fail
        exact bodyPost_ret (v := .tuple #[]) (by simp [results, Tryz.results101, go_sem]) rfl ⟨rfl, ys, hP, hG, hcw, hr2, hF2⟩
    · have c1 : decide (xs.length ≤ c) = true := decide_eq_true (by omega)
      go_quiet (fail)
      go_wp2_with fail
      exact bodyPost_ret (v := .tuple #[]) (by simp [results, Tryz.results101, go_sem]) rfl ⟨rfl, ys, hP, hSk.stop hC (.inl (by omega)), hc1, hr1.below (below_drewN _ _), hF1.below lp (below_drewN _ _)⟩

set_option maxRecDepth 100000 in
set_option maxHeartbeats 4000000 in
theorem rise_any (p o : Nat) (g cap : Nat) (xs : List PTimer) (k0 : Nat) (w : World) (hl : xs.length ≤ 1000000) (hS : Rising xs k0) (hgp : g ≠ p) (hc : w.cell? ⟨p, o, none⟩ = some (.slice (some ⟨g, 0, none⟩) xs.length cap)) (hr : Row w 0 114 4 encPT (.slice (some ⟨g, 0, none⟩) xs.length cap) xs) :
    Calls Tryz.prog 134 #[.pointer (some ⟨p, o, none⟩), .int .i64 k0] w fun e w' =>
      e = .returned (.tuple #[]) ∧ ∃ ys, ys.Perm xs ∧ IsHeap ys ∧ w'.cell? ⟨p, o, none⟩ = some (.slice (some ⟨g, 0, none⟩) xs.length cap) ∧ Row w' 0 114 4 encPT (.slice (some ⟨g, 0, none⟩) xs.length cap) ys ∧ Fr p [] [g] w w' := by
  have lp : p < w.heap.size := World.block_lt_of_cell? w _ hc
  go_enter Tryz.func134, Tryz.ntmps134
  go_wp2_with fail
  go_loopw [1] (fun pv wr => ∃ (k : Nat) (ys : List PTimer), pv = .int .i64 k ∧ Rising ys k ∧ ys.Perm xs ∧ wr.cell? ⟨p, o, none⟩ = some (.slice (some ⟨g, 0, none⟩) xs.length cap) ∧ Row wr 0 114 4 encPT (.slice (some ⟨g, 0, none⟩) xs.length cap) ys ∧ Fr p [] [g] w wr) (fun pv _ => (intOf pv).toNat)
  case atStart => exact ⟨k0, xs, rfl, hS, List.Perm.refl _, hc, hr, Fr.refl _ _ _ _⟩
  case round =>
    obtain ⟨k, ys, rfl, hSk, hP, hcr, hrr, hF⟩ := hrel
    clear hr hc hS
    have hlen := hP.length_eq
    have hk := hSk.lt
    by_cases h0 : 0 < k
    · have k1 : (k : Int) < (xs.length : Int) := by omega
      have k2 : (0 : Int) < (k : Int) := by omega
      have hq : ((k : Int) - 1).tdiv 2 = (((k - 1) / 2 : Nat) : Int) := by
        rw [Int.tdiv_eq_ediv_of_nonneg (by omega)]
        omega
      have HST := hide (fun h => hSk.stop (.inr h))
      have HGO := hide (hSk.go h0)
      have HSW := hide (fun W hcW hrW => swap_any p o g cap ys k ((k - 1) / 2) W (by omega) (by omega) (by omega) hgp hcW hrW)
      have HPP := hide (swapL_perm ys k ((k - 1) / 2) (by omega) (by omega))
      have hpk : (k - 1) / 2 < k := by omega
      generalize (k - 1) / 2 = q at hq HST HGO HSW HPP hpk
      rw [hlen] at HSW
      generalize ha : pt ys k = a at HST HGO
      generalize hz : pt ys q = b at HST HGO
      obtain ⟨i0, i1, i2, i3⟩ := hrr.pt_cells _ (by omega) a ha
      obtain ⟨j0, j1, j2, j3⟩ := hrr.pt_cells _ (by omega) b hz
      have lg : g < wr.heap.size := World.block_lt_of_cell? wr _ i0
      have lp1 : p < wr.heap.size := Nat.lt_of_lt_of_le lp hF.size
      have q1 : (q : Int) < (xs.length : Int) := by omega
      have HR1 := hide hrr
      have hm : ∀ w : World, (method 362 114 (.agg #[.int .i64 a.kind, .int .i64 a.call, .int .i64 a.due, .int .i64 a.set]) "Before").run Tryz.prog w = .ok (165, .agg #[.int .i64 a.kind, .int .i64 a.call, .int .i64 a.due, .int .i64 a.set]) w := fun _ => by kernel_rfl
      clear ha hz hrr hSk
      go_wp2_with fail
      go_region_held3 (fun w' => w'.cell? ⟨p, o, none⟩ = some (.slice (some ⟨g, 0, none⟩) xs.length cap) ∧ w'.cell? ⟨g, k * 4, none⟩ = some (.int .i64 a.kind) ∧ w'.cell? ⟨g, k * 4 + 1, none⟩ = some (.int .i64 a.call) ∧ w'.cell? ⟨g, k * 4 + 2, none⟩ = some (.int .i64 a.due) ∧ w'.cell? ⟨g, k * 4 + 3, none⟩ = some (.int .i64 a.set)
          ∧ w'.cell? ⟨g, q * 4, none⟩ = some (.int .i64 b.kind) ∧ w'.cell? ⟨g, q * 4 + 1, none⟩ = some (.int .i64 b.call) ∧ w'.cell? ⟨g, q * 4 + 2, none⟩ = some (.int .i64 b.due) ∧ w'.cell? ⟨g, q * 4 + 3, none⟩ = some (.int .i64 b.set))
        (first
          | (go_keep; done)
          | (go_split_ands
             refine ⟨?_, ?_, ?_, ?_, ?_, ?_, ?_, ?_, ?_⟩
             all_goals (first | (rw [hb.cell (by assumption)]; assumption) | (go_keep; done))))
        (first
          | (go_at_call 165; refine (before_any a b _).mono ?_; rintro e w' ⟨rfl, hb⟩))
      rename_i hH
      have hcw := hH.1
      clear i0 i1 i2 i3 j0 j1 j2 j3 hm hH
      have hB1 : Below wr.heap.size wr w' := (Below.refl wr.heap.size wr).drew.trans hb
      have hF2 := hF.below lp hB1
      have hr2 := HR1.out.below hB1
      have HSW2 := hide (HSW.out w' hcw hr2)
      clear HSW HR1 hb hB1 hcr hF
      cases hd : decide (a.lt b) with
      | true =>
        have hG := HGO.out (of_decide_eq_true hd)
        clear hd HGO HST
        go_wp2_with (first | (go_at_call 120; refine HSW2.out.mono ?_; rintro e w2 ⟨rfl, hc3, hr3, hF3⟩))
        go_roundw
        case rel => exact ⟨q, swapL ys k q, rfl, hG, HPP.out.trans hP, hc3, hr3, hF2.trans hF3 (fun _ h => ⟨h, h⟩) (fun _ h => .inl h)⟩
        case measure =>
          simp [intOf]
          omega
      | false =>
        have hG := HST.out (of_decide_eq_false hd)
        clear hd HGO HST
        go_wp2_with fail
        exact bodyPost_ret (v := .tuple #[]) (by simp [results, Tryz.results134, go_sem]) rfl ⟨rfl, ys, hP, hG, hcw, hr2, hF2⟩
    · have e0 : k = 0 := by omega
      subst e0
      go_wp2_with fail
      go_end0
      exact ⟨rfl, ys, hP, hSk.stop (.inl rfl), hcr, hrr, hF⟩
end Go.Proofs.YtlccfpbbdgpjbaaGreatDoor
