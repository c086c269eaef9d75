import Derived.Test.YtlccfpbbdgpjbaaGreatDoorKWFind
namespace Go.Proofs.YtlccfpbbdgpjbaaGreatDoor
open Go.RowKit
attribute [local go_sem ↓] Go.wp_at_zero Go.wp_at_succ

def actV (a : RAct) : Value := .agg #[.int .i64 a.kind, .int .i64 a.call, .int .i64 a.attempt, .int .i64 a.outcome, .int .i64 a.value, .int .i64 a.left]


set_option maxRecDepth 100000 in
set_option maxHeartbeats 4000000 in
theorem wsees_refuse {w : World} {k : Cfg} {W : WSt} {U : WV} (h : WRep w k W U) (hc : W.calls.length ≤ 1000000) (call attempt outcome value left now : Int) (h0 : 5 ≤ outcome) (h1 : outcome ≤ 8) :
    Calls Tryz.prog 43 #[.pointer (some ⟨U.q, 0, none⟩), .agg #[.int .i64 4, .int .i64 call, .int .i64 attempt, .int .i64 outcome, .int .i64 value, .int .i64 left], .int .i64 now] w fun e w' => e = .returned (.bool true) ∧ ∃ U', WRep w' k W U' ∧ WMv U w U' w' := by
  have hbA : Below w.heap.size w (w.alloc (.cells #[.int .i64 4, .int .i64 call, .int .i64 attempt, .int .i64 outcome, .int .i64 value, .int .i64 left] 55)) := (Below.refl _ _).alloc (Nat.le_refl _) _
  have hW := h.on hbA
  have hM := WMv.of_below (U := U) hbA
  have b0 : (w.alloc (.cells #[.int .i64 4, .int .i64 call, .int .i64 attempt, .int .i64 outcome, .int .i64 value, .int .i64 left] 55)).cell? ⟨w.heap.size, 0, none⟩ = some (.int .i64 4) := by simp
  have b1 : (w.alloc (.cells #[.int .i64 4, .int .i64 call, .int .i64 attempt, .int .i64 outcome, .int .i64 value, .int .i64 left] 55)).cell? ⟨w.heap.size, 1, none⟩ = some (.int .i64 call) := by simp
  have b2 : (w.alloc (.cells #[.int .i64 4, .int .i64 call, .int .i64 attempt, .int .i64 outcome, .int .i64 value, .int .i64 left] 55)).cell? ⟨w.heap.size, 2, none⟩ = some (.int .i64 attempt) := by simp
  have b3 : (w.alloc (.cells #[.int .i64 4, .int .i64 call, .int .i64 attempt, .int .i64 outcome, .int .i64 value, .int .i64 left] 55)).cell? ⟨w.heap.size, 3, none⟩ = some (.int .i64 outcome) := by simp
  have b4 : (w.alloc (.cells #[.int .i64 4, .int .i64 call, .int .i64 attempt, .int .i64 outcome, .int .i64 value, .int .i64 left] 55)).cell? ⟨w.heap.size, 4, none⟩ = some (.int .i64 value) := by simp
  have b5 : (w.alloc (.cells #[.int .i64 4, .int .i64 call, .int .i64 attempt, .int .i64 outcome, .int .i64 value, .int .i64 left] 55)).cell? ⟨w.heap.size, 5, none⟩ = some (.int .i64 left) := by simp
  have lbx : w.heap.size < (w.alloc (.cells #[.int .i64 4, .int .i64 call, .int .i64 attempt, .int .i64 outcome, .int .i64 value, .int .i64 left] 55)).heap.size := by simp
  have hnt : 5 ≤ U.tag w.heap.size := by
    rcases Nat.lt_or_ge (U.tag w.heap.size) 5 with h9 | h9
    · have := h.tl _ h9
      omega
    · exact h9
  have HF := hide (wfind_any hW call hc)
  have HW := hide hW
  have HM := hide hM
  clear h hW hM hbA hnt
  go_enter Tryz.func43, Tryz.ntmps43
  go_wp2_with fail
  generalize w.alloc (.cells #[.int .i64 4, .int .i64 call, .int .i64 attempt, .int .i64 outcome, .int .i64 value, .int .i64 left] 55) = wA at HF HW HM b0 b1 b2 b3 b4 b5 lbx ⊢
  generalize w.heap.size = bx at b0 b1 b2 b3 b4 b5 lbx ⊢
  refine HF.out.mono ?_
  rintro e w1 ⟨⟨r, rfl, _⟩, rfl⟩
  go_wp2_with fail
  go_ret
  exact ⟨rfl, U, HW.out, HM.out⟩

set_option maxRecDepth 100000 in
set_option maxHeartbeats 8000000 in
theorem wsees_result {w : World} {k : Cfg} {W : WSt} {U : WV} (h : WRep w k W U) (ok : WOk W) (hc : W.calls.length ≤ 1000000) (call attempt outcome value left now : Int) (i : Nat) (c : WCall) (hA : At W call i c) (h0 : 1 ≤ outcome) (h1 : outcome ≤ 4) (hl : outcome = 3 → now = c.deadline) (hd : now ≤ c.deadline) :
    Calls Tryz.prog 43 #[.pointer (some ⟨U.q, 0, none⟩), .agg #[.int .i64 3, .int .i64 call, .int .i64 attempt, .int .i64 outcome, .int .i64 value, .int .i64 left], .int .i64 now] w fun e w' => e = .returned (.bool true) ∧ ∃ U', WRep w' k { W with calls := W.calls.set i { c with opn := false } } U' ∧ WMv U w U' w' := by
  have hbA : Below w.heap.size w (w.alloc (.cells #[.int .i64 3, .int .i64 call, .int .i64 attempt, .int .i64 outcome, .int .i64 value, .int .i64 left] 55)) := (Below.refl _ _).alloc (Nat.le_refl _) _
  have hW := h.on hbA
  have hM := WMv.of_below (U := U) hbA
  have b0 : (w.alloc (.cells #[.int .i64 3, .int .i64 call, .int .i64 attempt, .int .i64 outcome, .int .i64 value, .int .i64 left] 55)).cell? ⟨w.heap.size, 0, none⟩ = some (.int .i64 3) := by simp
  have b1 : (w.alloc (.cells #[.int .i64 3, .int .i64 call, .int .i64 attempt, .int .i64 outcome, .int .i64 value, .int .i64 left] 55)).cell? ⟨w.heap.size, 1, none⟩ = some (.int .i64 call) := by simp
  have b2 : (w.alloc (.cells #[.int .i64 3, .int .i64 call, .int .i64 attempt, .int .i64 outcome, .int .i64 value, .int .i64 left] 55)).cell? ⟨w.heap.size, 2, none⟩ = some (.int .i64 attempt) := by simp
  have b3 : (w.alloc (.cells #[.int .i64 3, .int .i64 call, .int .i64 attempt, .int .i64 outcome, .int .i64 value, .int .i64 left] 55)).cell? ⟨w.heap.size, 3, none⟩ = some (.int .i64 outcome) := by simp
  have b4 : (w.alloc (.cells #[.int .i64 3, .int .i64 call, .int .i64 attempt, .int .i64 outcome, .int .i64 value, .int .i64 left] 55)).cell? ⟨w.heap.size, 4, none⟩ = some (.int .i64 value) := by simp
  have b5 : (w.alloc (.cells #[.int .i64 3, .int .i64 call, .int .i64 attempt, .int .i64 outcome, .int .i64 value, .int .i64 left] 55)).cell? ⟨w.heap.size, 5, none⟩ = some (.int .i64 left) := by simp
  have lbx : w.heap.size < (w.alloc (.cells #[.int .i64 3, .int .i64 call, .int .i64 attempt, .int .i64 outcome, .int .i64 value, .int .i64 left] 55)).heap.size := by simp
  have hnt : 5 ≤ U.tag w.heap.size := by
    rcases Nat.lt_or_ge (U.tag w.heap.size) 5 with h9 | h9
    · have := h.tl _ h9
      omega
    · exact h9
  have HF := hide (wfind_any hW call hc)
  obtain ⟨g, cap, he, ho, hil, c0, c1, c2, c3, c4, c5, hf⟩ := hW.call_at hA.1
  have hf4 := hf 4 (by omega)
  have cq := hW.kk 12 _ rfl
  rw [he] at cq
  have HP := hide (hW.put_c (j := 4) (c' := { c with opn := false }) ho hA.1 (by omega) (.bool false) rfl)
  have HU := hide (ok.un call i c)
  have HA := hide hA
  have HM := hide hM
  have hil' : (i : Int) < (W.calls.length : Int) := by omega
  have hcl : (W.calls.length : Int) ≤ 1000000 := by omega
  obtain ⟨number, deadline, had, safe, opn, answered⟩ := c
  dsimp only at c0 c1 c2 c3 c4 c5 hl hd
  clear h ok hf he ho hc hil hA hW hM hbA hnt
  go_enter Tryz.func43, Tryz.ntmps43
  go_wp2_with fail
  generalize w.alloc (.cells #[.int .i64 3, .int .i64 call, .int .i64 attempt, .int .i64 outcome, .int .i64 value, .int .i64 left] 55) = wA at HF HM HP b0 b1 b2 b3 b4 b5 lbx c0 c1 c2 c3 c4 c5 cq hf4 ⊢
  generalize w.heap.size = bx at b0 b1 b2 b3 b4 b5 lbx ⊢
  generalize U.q = q at HF cq ⊢
  generalize W.calls.length = cl at hil' hcl cq
  refine HF.out.mono ?_
  rintro e w1 ⟨⟨r, rfl, hr⟩, rfl⟩
  obtain rfl : r = (i : Int) := by
    rcases hr with ⟨_, hr⟩ | ⟨j, l, rfl, hB⟩
    · exact absurd HA.out (hr i _)
    · rw [HU.out j l HA.out hB]
  clear hr
  have hi0 : ¬ (i : Int) < 0 := by omega
  by_cases h3 : outcome = 3
  · have hn := hl h3
    subst h3
    subst hn
    clear hl
    go_wp2_with fail
    go_ret
    obtain ⟨U', q1, q2, _⟩ := HP.out
    exact ⟨rfl, U', q1, HM.out.trans q2⟩
  · clear hl
    go_wp2_with fail
    go_ret
    obtain ⟨U', q1, q2, _⟩ := HP.out
    exact ⟨rfl, U', q1, HM.out.trans q2⟩

end Go.Proofs.YtlccfpbbdgpjbaaGreatDoor

namespace Go.Proofs.YtlccfpbbdgpjbaaGreatDoor
open Go.RowKit
attribute [local go_sem ↓] Go.wp_at_zero Go.wp_at_succ

set_option maxRecDepth 100000 in
set_option maxHeartbeats 8000000 in
theorem wsees_stop {w : World} {k : Cfg} {W : WSt} {U : WV} (h : WRep w k W U) (hc : W.calls.length ≤ 1000000) (ha : W.atts.length ≤ 1000000) (call outcome value left now : Int) (m : Nat) (x : WAtt) (c : WCall) (hx : W.atts[m]? = some x) (hxo : x.opn = true) (hcc : W.calls[x.call]? = some c) (hn : c.number = call) (hz : c.opn = false) :
    Calls Tryz.prog 43 #[.pointer (some ⟨U.q, 0, none⟩), .agg #[.int .i64 2, .int .i64 call, .int .i64 ((m : Int) + 1), .int .i64 outcome, .int .i64 value, .int .i64 left], .int .i64 now] w fun e w' => e = .returned (.bool true) ∧ ∃ U', WRep w' k { W with atts := W.atts.set m { x with opn := false } } U' ∧ WMv U w U' w' := by
  have hbA : Below w.heap.size w (w.alloc (.cells #[.int .i64 2, .int .i64 call, .int .i64 ((m : Int) + 1), .int .i64 outcome, .int .i64 value, .int .i64 left] 55)) := (Below.refl _ _).alloc (Nat.le_refl _) _
  have hW := h.on hbA
  have hM := WMv.of_below (U := U) hbA
  have b0 : (w.alloc (.cells #[.int .i64 2, .int .i64 call, .int .i64 ((m : Int) + 1), .int .i64 outcome, .int .i64 value, .int .i64 left] 55)).cell? ⟨w.heap.size, 0, none⟩ = some (.int .i64 2) := by simp
  have b1 : (w.alloc (.cells #[.int .i64 2, .int .i64 call, .int .i64 ((m : Int) + 1), .int .i64 outcome, .int .i64 value, .int .i64 left] 55)).cell? ⟨w.heap.size, 1, none⟩ = some (.int .i64 call) := by simp
  have b2 : (w.alloc (.cells #[.int .i64 2, .int .i64 call, .int .i64 ((m : Int) + 1), .int .i64 outcome, .int .i64 value, .int .i64 left] 55)).cell? ⟨w.heap.size, 2, none⟩ = some (.int .i64 ((m : Int) + 1)) := by simp
  have b3 : (w.alloc (.cells #[.int .i64 2, .int .i64 call, .int .i64 ((m : Int) + 1), .int .i64 outcome, .int .i64 value, .int .i64 left] 55)).cell? ⟨w.heap.size, 3, none⟩ = some (.int .i64 outcome) := by simp
  have b4 : (w.alloc (.cells #[.int .i64 2, .int .i64 call, .int .i64 ((m : Int) + 1), .int .i64 outcome, .int .i64 value, .int .i64 left] 55)).cell? ⟨w.heap.size, 4, none⟩ = some (.int .i64 value) := by simp
  have b5 : (w.alloc (.cells #[.int .i64 2, .int .i64 call, .int .i64 ((m : Int) + 1), .int .i64 outcome, .int .i64 value, .int .i64 left] 55)).cell? ⟨w.heap.size, 5, none⟩ = some (.int .i64 left) := by simp
  have lbx : w.heap.size < (w.alloc (.cells #[.int .i64 2, .int .i64 call, .int .i64 ((m : Int) + 1), .int .i64 outcome, .int .i64 value, .int .i64 left] 55)).heap.size := by simp
  have hnt : 5 ≤ U.tag w.heap.size := by
    rcases Nat.lt_or_ge (U.tag w.heap.size) 5 with h9 | h9
    · have := h.tl _ h9
      omega
    · exact h9
  have HF := hide (wfind_any hW call hc)
  obtain ⟨g, cap, he, ho, hil, a0, a1, a2, hf⟩ := hW.att_at hx
  obtain ⟨gc, capc, hec, hoc, hilc, c0, c1, c2, c3, c4, c5, _⟩ := hW.call_at hcc
  have hf2 := hf 2 (by omega)
  have cq := hW.kk 12 _ rfl
  have aq := hW.kk 13 _ rfl
  rw [hec] at cq
  rw [he] at aq
  have hgg : gc ≠ g := fun e => by
    have h1 := h.ta g ho
    have h2 := h.tc gc hoc
    rw [e, h1] at h2
    omega
  have hgq : U.q ≠ g := fun e => by
    have h1 := h.ta g ho
    rw [← e, h.tq] at h1
    omega
  have hgb : w.heap.size ≠ g := fun e => by
    have h1 := h.ta g ho
    rw [← e] at h1
    omega
  have HP := hide (fun W' (hb : Below _ _ W') => (hW.on (w' := W') hb).put_a (j := 2) (c' := { x with opn := false }) ho hx (by omega) (.bool false) rfl)
  have HM2 := hide (fun W' (hb : Below _ _ W') => hM.trans (WMv.of_below (U := U) (w' := W') hb))
  have lg := World.block_lt_of_cell? _ _ a0
  have lgc := World.block_lt_of_cell? _ _ c0
  have lq := World.block_lt_of_cell? _ _ cq
  have hil' : (m : Int) < (W.atts.length : Int) := by omega
  have hcl : (W.atts.length : Int) ≤ 1000000 := by omega
  have hilc' : (x.call : Int) < (W.calls.length : Int) := by omega
  have hclc : (W.calls.length : Int) ≤ 1000000 := by omega
  obtain ⟨number, deadline, had, safe, opn, answered⟩ := c
  obtain ⟨xc, xa, xo⟩ := x
  dsimp only at c0 c1 c2 c3 c4 c5 hn hz hxo a0 a1 a2 hilc'
  subst hn
  subst hz
  subst hxo
  have hm1 : ((m : Int) + 1 - 1).toNat = m := by omega
  have hg1 : ¬ ((m : Int) + 1 < 1) := by omega
  clear h hf he ho hc hil hec hoc hilc hx hcc ha hW hM hbA hnt
  go_enter Tryz.func43, Tryz.ntmps43
  go_wp2_with fail
  generalize w.alloc (.cells #[.int .i64 2, .int .i64 number, .int .i64 ((m : Int) + 1), .int .i64 outcome, .int .i64 value, .int .i64 left] 55) = wA at HF HM2 HP lg lgc lq b0 b1 b2 b3 b4 b5 lbx c0 c1 c2 c3 c4 c5 cq aq a0 a1 a2 hf2 ⊢
  generalize w.heap.size = bx at b0 b1 b2 b3 b4 b5 lbx hgb ⊢
  generalize U.q = q at HF cq aq hgq lq ⊢
  generalize W.calls.length = cl at hilc' hclc cq
  generalize W.atts.length = al at hil' hcl aq
  have hg2 : ¬ ((al : Int) < (m : Int) + 1) := by omega
  have hwm : IntKind.i64.wrap (m : Int) = (m : Int) := by rw [IntKind.wrap_i64]; omega
  refine HF.out.mono ?_
  rintro e w1 ⟨⟨r, rfl, _⟩, rfl⟩
  go_wp2_with fail
  go_quiet (fail)
  go_wp2_with fail
  have c0' : (w1.drewN nq).cell? ⟨gc, xc * 6, none⟩ = some (.int .i64 number) := c0
  have c4' : (w1.drewN nq).cell? ⟨gc, xc * 6 + 4, none⟩ = some (.bool false) := c4
  have a0' : (w1.drewN nq).cell? ⟨g, m * 3, none⟩ = some (.int .i64 (xc : Int)) := a0
  have a1' : (w1.drewN nq).cell? ⟨g, m * 3 + 1, none⟩ = some (.int .i64 xa) := a1
  have a2' : (w1.drewN nq).cell? ⟨g, m * 3 + 2, none⟩ = some (.bool true) := a2
  have f2' : (w1.drewN nq).frozen? ⟨g, m * 3 + 2, none⟩ = false := hf2
  have cq' : (w1.drewN nq).cell? ⟨q, 12, none⟩ = some (.slice (some ⟨gc, 0, none⟩) cl capc) := cq
  have aq' : (w1.drewN nq).cell? ⟨q, 13, none⟩ = some (.slice (some ⟨g, 0, none⟩) al cap) := aq
  have b1' : (w1.drewN nq).cell? ⟨bx, 1, none⟩ = some (.int .i64 number) := b1
  have b2' : (w1.drewN nq).cell? ⟨bx, 2, none⟩ = some (.int .i64 ((m : Int) + 1)) := b2
  have l1' : gc < (w1.drewN nq).heap.size := lgc
  have l2' : g < (w1.drewN nq).heap.size := lg
  have l3' : q < (w1.drewN nq).heap.size := lq
  have l4' : bx < (w1.drewN nq).heap.size := lbx
  have HBN := hide (fun (O : Obj) => ((below_drewN w1 nq).alloc (Nat.le_refl _) O).drew)
  have HBM := hide (fun (O : Obj) => ((below_drewN w1 nq).drew.alloc (Nat.le_refl _) O))
  clear c0 c1 c2 c3 c4 c5 a0 a1 a2 hf2 cq aq b0 b1 b2 b3 b4 b5 lgc lg lq lbx
  generalize w1.drewN nq = w2 at c0' c4' a0' a1' a2' f2' cq' aq' b1' b2' l1' l2' l3' l4' HBN HBM ⊢
  go_region
  go_wp2_with fail
  have hb3 : Below w2.heap.size w2 (w2.alloc (.cells #[.int .i64 (xc : Int), .int .i64 xa, .bool true] 100)).drew := ((Below.refl _ _).alloc (Nat.le_refl _) _).drew
  have e0 := (hb3.cell l1').trans c0'
  have e4 := (hb3.cell l1').trans c4'
  have d0 := (hb3.cell l2').trans a0'
  have d1 := (hb3.cell l2').trans a1'
  have d2 := (hb3.cell l2').trans a2'
  have g2 := (hb3.frozen l2').trans f2'
  have eq := (hb3.cell l3').trans cq'
  have dq := (hb3.cell l3').trans aq'
  have y1 := (hb3.cell l4').trans b1'
  have y2 := (hb3.cell l4').trans b2'
  have x0 : (w2.alloc (.cells #[.int .i64 (xc : Int), .int .i64 xa, .bool true] 100)).drew.cell? ⟨w2.heap.size, 0, none⟩ = some (.int .i64 (xc : Int)) := by simp
  have x2 : (w2.alloc (.cells #[.int .i64 (xc : Int), .int .i64 xa, .bool true] 100)).drew.cell? ⟨w2.heap.size, 2, none⟩ = some (.bool true) := by simp
  have hg3 : w2.heap.size ≠ g := by omega
  have HB3 := hide (HBN.out (.cells #[.int .i64 (xc : Int), .int .i64 xa, .bool true] 100))
  clear c0' c4' a0' a1' a2' f2' cq' aq' b1' b2' hb3 HBN HBM
  generalize (w2.alloc (.cells #[.int .i64 (xc : Int), .int .i64 xa, .bool true] 100)).drew = w3 at e0 e4 d0 d1 d2 g2 eq dq y1 y2 x0 x2 HB3 ⊢
  generalize w2.heap.size = bz at x0 x2 hg3 ⊢
  clear l1' l2' l3' l4'
  go_region
  go_wp2_with fail
  go_quiet (fail)
  go_wp2_with fail
  go_ret
  obtain ⟨U', q1, q2, _⟩ := HP.out _ HB3.out.drew
  exact ⟨rfl, U', q1.on (below_drewN _ _), ((HM2.out _ HB3.out.drew).trans q2).trans (WMv.of_below (below_drewN _ _))⟩
end Go.Proofs.YtlccfpbbdgpjbaaGreatDoor
