import Derived.Test.YtlccfpbbdgpjbaaGreatDoorKWRep
namespace Go.Proofs.YtlccfpbbdgpjbaaGreatDoor
open Go.RowKit
attribute [local go_sem ↓] Go.wp_at_zero Go.wp_at_succ

/-- What find says. -/
def Found (W : WSt) (n r : Int) : Prop := (r = -1 ∧ ∀ i c, ¬ At W n i c) ∨ ∃ (i : Nat) (c : WCall), r = (i : Int) ∧ At W n i c

set_option maxRecDepth 100000 in
set_option maxHeartbeats 1600000 in
theorem wfind_any {w : World} {k : Cfg} {W : WSt} {U : WV} (h : WRep w k W U) (n : Int) (hl : W.calls.length ≤ 1000000) :
    Calls Tryz.prog 42 #[.pointer (some ⟨U.q, 0, none⟩), .int .i64 n] w fun e w' => (∃ r : Int, e = .returned (.int .i64 r) ∧ Found W n r) ∧ w' = w := by
  have hc := h.kk 12 _ rfl
  obtain ⟨A, cap, he, hlen, hA, hB⟩ := h.rc.form
  have HB : Hid (∀ i (h : i < W.calls.length), ∃ g, A = some ⟨g, 0, none⟩ ∧ w.cell? ⟨g, i * 6, none⟩ = some (.int .i64 W.calls[i].number) ∧ w.cell? ⟨g, i * 6 + 4, none⟩ = some (.bool W.calls[i].opn)) := fun i hi => by
    obtain ⟨g, rfl⟩ := hA i hi
    have ho : U.vc.ownBlock = some g := by rw [he]; rfl
    exact ⟨g, rfl, (h.rc.cell encWC_len (g := g) (j := 0) ho hi rfl).1, (h.rc.cell encWC_len (g := g) (j := 4) ho hi rfl).1⟩
  rw [he] at hc
  clear hB hA hlen he
  have hl' : (W.calls.length : Int) ≤ 1000000 := by omega
  generalize U.q = q at hc ⊢
  clear h
  go_enter Tryz.func42, Tryz.ntmps42
  go_wp2_with fail
  go_loop [5] (fun i => ∃ j : Nat, j ≤ W.calls.length ∧ i = .int .i64 j ∧ Hid (∀ i c, i < j → ¬ At W n i c)) (fun i => W.calls.length - (intOf i).toNat)
  case atStart => exact ⟨0, Nat.zero_le _, rfl, fun i c hi => by omega⟩
  case round =>
    obtain ⟨j, hj, rfl, HF⟩ := hrel
    by_cases hlt : (j : Int) < (W.calls.length : Int)
    · have hjl : j < W.calls.length := by omega
      obtain ⟨g, rfl, c0, c4⟩ := HB.out j hjl
      have HG := hide (List.getElem?_eq_getElem hjl)
      generalize W.calls[j] = c at c0 c4 HG
      obtain ⟨number, deadline, had, safe, opn, answered⟩ := c
      dsimp only at c0 c4
      cases opn with
      | false =>
        go_wp2_with fail
        go_round
        case rel => exact ⟨j + 1, by omega, by go_num, fun i c hi hA => by
          by_cases hij : i = j
          · rw [hij] at hA
            have := Option.some.inj (HG.out.symm.trans hA.1)
            rw [← this] at hA
            cases hA.2.1
          · exact HF.out i c (by omega) hA⟩
        case measure => simp [intOf]; omega
      | true =>
        by_cases hn : number = n
        · subst hn
          go_wp2_with fail
          go_ret
          exact ⟨⟨_, rfl, .inr ⟨j, _, rfl, HG.out, rfl, rfl⟩⟩, rfl⟩
        · have hn' : (number == n) = false := by simpa using hn
          go_wp2_with fail
          go_round
          case rel => exact ⟨j + 1, by omega, by go_num, fun i c hi hA => by
            by_cases hij : i = j
            · rw [hij] at hA
              have := Option.some.inj (HG.out.symm.trans hA.1)
              rw [← this] at hA
              exact hn hA.2.2
            · exact HF.out i c (by omega) hA⟩
          case measure => simp [intOf]; omega
    · go_wp2_with fail
      go_ret
      refine ⟨⟨-1, rfl, .inl ⟨rfl, fun i c hA => HF.out i c ?_ hA⟩⟩, rfl⟩
      have := (List.getElem?_eq_some_iff.1 hA.1).1
      omega

set_option maxRecDepth 100000 in
set_option maxHeartbeats 1600000 in
theorem wothers_any {w : World} {k : Cfg} {W : WSt} {U : WV} (h : WRep w k W U) (call : Nat) (hl : W.atts.length ≤ 1000000) :
    Calls Tryz.prog 74 #[.pointer (some ⟨U.q, 0, none⟩), .int .i64 call] w fun e w' => (∃ r : Int, e = .returned (.int .i64 r) ∧ 0 ≤ r ∧ ((∀ x ∈ W.atts, x.opn = true → x.call ≠ call) → r = 0)) ∧ w' = w := by
  have hc := h.kk 13 _ rfl
  obtain ⟨A, cap, he, hlen, hA, hB⟩ := h.ra.form
  have HB : Hid (∀ i (h : i < W.atts.length), ∃ g, A = some ⟨g, 0, none⟩ ∧ w.cell? ⟨g, i * 3, none⟩ = some (.int .i64 W.atts[i].call) ∧ w.cell? ⟨g, i * 3 + 2, none⟩ = some (.bool W.atts[i].opn)) := fun i hi => by
    obtain ⟨g, rfl⟩ := hA i hi
    have ho : U.va.ownBlock = some g := by rw [he]; rfl
    exact ⟨g, rfl, (h.ra.cell encWA_len (g := g) (j := 0) ho hi rfl).1, (h.ra.cell encWA_len (g := g) (j := 2) ho hi rfl).1⟩
  rw [he] at hc
  clear hB hA hlen he
  have hl' : (W.atts.length : Int) ≤ 1000000 := by omega
  generalize U.q = q at hc ⊢
  clear h
  go_enter Tryz.func74, Tryz.ntmps74
  go_wp2_with fail
  go_loop [5, 6] (fun nv i => ∃ (j : Nat) (r : Int), j ≤ W.atts.length ∧ nv = .int .i64 r ∧ i = .int .i64 j ∧ 0 ≤ r ∧ r ≤ (j : Int) ∧ Hid ((∀ x ∈ W.atts, x.opn = true → x.call ≠ call) → r = 0)) (fun _ i => W.atts.length - (intOf i).toNat)
  case atStart => exact ⟨0, 0, Nat.zero_le _, rfl, rfl, by omega, by omega, fun _ => rfl⟩
  case round =>
    obtain ⟨j, r, hj, rfl, rfl, r0, r1, HF⟩ := hrel
    by_cases hlt : (j : Int) < (W.atts.length : Int)
    · have hjl : j < W.atts.length := by omega
      obtain ⟨g, rfl, c0, c2⟩ := HB.out j hjl
      have HG := hide (List.getElem_mem hjl)
      generalize W.atts[j] = c at c0 c2 HG
      obtain ⟨cl, at_, opn⟩ := c
      dsimp only at c0 c2
      cases opn with
      | false =>
        go_wp2_with fail
        go_round
        case rel => exact ⟨j + 1, r, by omega, rfl, by go_num, r0, by omega, HF⟩
        case measure => simp [intOf]; omega
      | true =>
        by_cases hn : (cl : Int) = (call : Int)
        · have hn' : ((cl : Int) == (call : Int)) = true := by simpa using hn
          have HN : Hid ((∀ x ∈ W.atts, x.opn = true → x.call ≠ call) → r + 1 = 0) := fun q => absurd (by exact_mod_cast hn) (q _ HG.out rfl)
          go_wp2_with fail
          go_round
          case rel => exact ⟨j + 1, r + 1, by omega, by go_num, by go_num, by omega, by omega, HN⟩
          case measure => simp [intOf]; omega
        · have hn' : ((cl : Int) == (call : Int)) = false := by simpa using hn
          go_wp2_with fail
          go_round
          case rel => exact ⟨j + 1, r, by omega, rfl, by go_num, r0, by omega, HF⟩
          case measure => simp [intOf]; omega
    · go_wp2_with fail
      go_ret
      exact ⟨⟨r, rfl, r0, HF.out⟩, rfl⟩
end Go.Proofs.YtlccfpbbdgpjbaaGreatDoor
