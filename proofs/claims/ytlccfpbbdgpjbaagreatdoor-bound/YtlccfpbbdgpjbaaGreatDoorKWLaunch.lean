import Derived.Test.YtlccfpbbdgpjbaaGreatDoorKWFind
namespace Go.Proofs.YtlccfpbbdgpjbaaGreatDoor
open Go.RowKit
attribute [local go_sem ↓] Go.wp_at_zero Go.wp_at_succ

theorem Tryz.infoWA : (Tryz.prog.info? 100).map (fun i => (i.zero, i.size, i.bytes)) = some (some (.agg #[.int .i64 0, .int .i64 0, .bool false]), 3, 24) := by kernel_rfl

set_option maxRecDepth 100000 in
set_option maxHeartbeats 16000000 in
theorem wsees_launch {w : World} {k : Cfg} {W : WSt} {U : WV} (h : WRep w k W U) (ok : WOk W) (hc : W.calls.length ≤ 1000000) (ha : W.atts.length ≤ 1000000) (call outcome value now left : Int) (i : Nat) (c : WCall) (hA : At W call i c) (hn0 : 0 ≤ now) (hlf : left = c.deadline - now) (h1 : 1 ≤ left) (hh : c.had < k.attempts)
    (hs : c.safe = true ∨ (c.answered = false ∧ ∀ x ∈ W.atts, x.opn = true → x.call ≠ i)) :
    Calls Tryz.prog 43 #[.pointer (some ⟨U.q, 0, none⟩), .agg #[.int .i64 1, .int .i64 call, .int .i64 ((W.atts.length : Int) + 1), .int .i64 outcome, .int .i64 value, .int .i64 left], .int .i64 now] w fun e w' => e = .returned (.bool true) ∧ ∃ U', WRep w' k { W with calls := W.calls.set i { c with had := c.had + 1 }, atts := W.atts ++ [⟨i, now, true⟩], lau := W.lau ++ [now] } U' ∧ WMv U w U' w' := by
  obtain ⟨i0, hi0, z0, z1, z2⟩ := info_parts Tryz.infoWA
  obtain ⟨i1, hi1, y0, y1, y2⟩ := info_parts Tryz.infoInt
  obtain ⟨d0, d1, e0, e1⟩ := ok.hb call i c hA
  have hbA : Below w.heap.size w (w.alloc (.cells #[.int .i64 1, .int .i64 call, .int .i64 ((W.atts.length : Int) + 1), .int .i64 outcome, .int .i64 value, .int .i64 left] 55)) := (Below.refl _ _).alloc (Nat.le_refl _) _
  have hW := h.on hbA
  have hM := WMv.of_below (U := U) hbA
  have b0 : (w.alloc (.cells #[.int .i64 1, .int .i64 call, .int .i64 ((W.atts.length : Int) + 1), .int .i64 outcome, .int .i64 value, .int .i64 left] 55)).cell? ⟨w.heap.size, 0, none⟩ = some (.int .i64 1) := by simp
  have b2 : (w.alloc (.cells #[.int .i64 1, .int .i64 call, .int .i64 ((W.atts.length : Int) + 1), .int .i64 outcome, .int .i64 value, .int .i64 left] 55)).cell? ⟨w.heap.size, 2, none⟩ = some (.int .i64 ((W.atts.length : Int) + 1)) := by simp
  have b5 : (w.alloc (.cells #[.int .i64 1, .int .i64 call, .int .i64 ((W.atts.length : Int) + 1), .int .i64 outcome, .int .i64 value, .int .i64 left] 55)).cell? ⟨w.heap.size, 5, none⟩ = some (.int .i64 left) := by simp
  have b1 : (w.alloc (.cells #[.int .i64 1, .int .i64 call, .int .i64 ((W.atts.length : Int) + 1), .int .i64 outcome, .int .i64 value, .int .i64 left] 55)).cell? ⟨w.heap.size, 1, none⟩ = some (.int .i64 call) := by simp
  have lbx : w.heap.size < (w.alloc (.cells #[.int .i64 1, .int .i64 call, .int .i64 ((W.atts.length : Int) + 1), .int .i64 outcome, .int .i64 value, .int .i64 left] 55)).heap.size := by simp
  have HF := hide (wfind_any hW call hc)
  have HO := hide (fun W' (hb : Below _ _ W') => wothers_any (hW.on (w' := W') hb) i ha)
  obtain ⟨gc, capc, hec, hoc, hil, c0, c1, c2, c3, c4, c5, hf⟩ := hW.call_at hA.1
  have hf2 := hf 2 (by omega)
  have cq := hW.kk 12 _ rfl
  have aq := hW.kk 13 _ rfl
  have kq := hW.kk 5 _ rfl
  rw [hec] at cq
  obtain ⟨A, capa, hea, -, -, -⟩ := hW.ra.form
  rw [hea] at aq
  have HP := hide (fun W' (hb : Below _ _ W') => (hW.on (w' := W') hb).put_c (j := 2) (c' := { c with had := c.had + 1 }) hoc hA.1 (by omega) (.int .i64 (c.had + 1)) rfl)
  have HM := hide (fun W' (hb : Below _ _ W') => hM.trans (WMv.of_below (U := U) (w' := W') hb))
  have HU := hide (ok.un call i c)
  have HA := hide hA
  have hil' : (i : Int) < (W.calls.length : Int) := by omega
  have hcl : (W.calls.length : Int) ≤ 1000000 := by omega
  have hal : (W.atts.length : Int) ≤ 1000000 := by omega
  have hll := hide ok.ll
  have hbq : U.q ≠ w.heap.size := fun e => by have := h.lq; omega
  have lq := World.block_lt_of_cell? _ _ cq
  have lgc := World.block_lt_of_cell? _ _ c0
  obtain ⟨number, deadline, had, safe, opn, answered⟩ := c
  dsimp only at c0 c1 c2 c3 c4 c5 hh hs d0 d1 e0 e1 hA hlf
  have hwl : IntKind.i64.wrap ((W.atts.length : Int) + 1) = (W.atts.length : Int) + 1 := by rw [IntKind.wrap_i64]; omega
  have hwd : IntKind.i64.wrap (deadline - now) = left := by rw [IntKind.wrap_i64]; omega
  have hle : ¬ left < 1 := by omega
  have hha : ¬ k.attempts ≤ had := by omega
  have HS := hide hs
  clear h ok hf hc hil hW hM hbA hs hA hec hoc hea ha hlf
  go_enter Tryz.func43, Tryz.ntmps43
  go_wp2_with fail
  generalize w.alloc (.cells #[.int .i64 1, .int .i64 call, .int .i64 ((W.atts.length : Int) + 1), .int .i64 outcome, .int .i64 value, .int .i64 left] 55) = wA at HF HO HP HM b0 b1 b2 b5 lbx c0 c1 c2 c3 c4 c5 cq aq kq hf2 lq lgc ⊢
  generalize w.heap.size = bx at b0 b1 b2 b5 lbx hbq ⊢
  obtain ⟨q, HUq⟩ : ∃ q, Hid (U.q = q) := ⟨_, rfl⟩
  rw [show U.q = q from HUq.out] at HF HO cq aq kq lq hbq ⊢
  refine HF.out.mono ?_
  rintro e w1 ⟨⟨r, rfl, hr⟩, rfl⟩
  obtain rfl : r = (i : Int) := by
    rcases hr with ⟨_, hr⟩ | ⟨j, l, rfl, hB⟩
    · exact absurd HA.out (hr i _)
    · rw [HU.out j l HA.out hB]
  clear hr
  have hi0 : ¬ (i : Int) < 0 := by omega
  go_wp2_with fail
  go_quiet (fail)
  have c0' : (w1.drewN nq).cell? ⟨gc, i * 6, none⟩ = some (.int .i64 number) := c0
  have c1' : (w1.drewN nq).cell? ⟨gc, i * 6 + 1, none⟩ = some (.int .i64 deadline) := c1
  have c2' : (w1.drewN nq).cell? ⟨gc, i * 6 + 2, none⟩ = some (.int .i64 had) := c2
  have c3' : (w1.drewN nq).cell? ⟨gc, i * 6 + 3, none⟩ = some (.bool safe) := c3
  have c4' : (w1.drewN nq).cell? ⟨gc, i * 6 + 4, none⟩ = some (.bool opn) := c4
  have c5' : (w1.drewN nq).cell? ⟨gc, i * 6 + 5, none⟩ = some (.bool answered) := c5
  have f2' : (w1.drewN nq).frozen? ⟨gc, i * 6 + 2, none⟩ = false := hf2
  have cq' : (w1.drewN nq).cell? ⟨q, 12, none⟩ = some (.slice (some ⟨gc, 0, none⟩) W.calls.length capc) := cq
  have kq' : (w1.drewN nq).cell? ⟨q, 5, none⟩ = some (.int .i64 k.attempts) := kq
  have b5' : (w1.drewN nq).cell? ⟨bx, 5, none⟩ = some (.int .i64 left) := b5
  have l1' : gc < (w1.drewN nq).heap.size := lgc
  have l3' : q < (w1.drewN nq).heap.size := lq
  have l4' : bx < (w1.drewN nq).heap.size := lbx
  have HBN := hide (below_drewN w1 nq)
  clear c0 c1 c2 c3 c4 c5 hf2 cq aq kq b0 b1 b2 b5 lgc lq lbx
  generalize w1.drewN nq = w2 at c0' c1' c2' c3' c4' c5' f2' cq' kq' b5' l1' l3' l4' HBN ⊢
  go_wp2_with fail
  have hb3 : Below w2.heap.size w2 (w2.alloc (.cells #[.int .i64 number, .int .i64 deadline, .int .i64 had, .bool safe, .bool opn, .bool answered] 71)) := (Below.refl _ _).alloc (Nat.le_refl _) _
  have c2 := (hb3.cell l1').trans c2'
  have f2 := (hb3.frozen l1').trans f2'
  have cq := (hb3.cell l3').trans cq'
  have kq := (hb3.cell l3').trans kq'
  have b5 := (hb3.cell l4').trans b5'
  have x1 : (w2.alloc (.cells #[.int .i64 number, .int .i64 deadline, .int .i64 had, .bool safe, .bool opn, .bool answered] 71)).cell? ⟨w2.heap.size, 1, none⟩ = some (.int .i64 deadline) := by simp
  have x2 : (w2.alloc (.cells #[.int .i64 number, .int .i64 deadline, .int .i64 had, .bool safe, .bool opn, .bool answered] 71)).cell? ⟨w2.heap.size, 2, none⟩ = some (.int .i64 had) := by simp
  have x3 : (w2.alloc (.cells #[.int .i64 number, .int .i64 deadline, .int .i64 had, .bool safe, .bool opn, .bool answered] 71)).cell? ⟨w2.heap.size, 3, none⟩ = some (.bool safe) := by simp
  have x5 : (w2.alloc (.cells #[.int .i64 number, .int .i64 deadline, .int .i64 had, .bool safe, .bool opn, .bool answered] 71)).cell? ⟨w2.heap.size, 5, none⟩ = some (.bool answered) := by simp
  have HB3 := hide (HBN.out.trans (hb3.mono HBN.out.size))
  clear c0' c1' c2' c3' c4' c5' f2' cq' kq' b5' l1' l3' l4' hb3 HBN
  generalize (w2.alloc (.cells #[.int .i64 number, .int .i64 deadline, .int .i64 had, .bool safe, .bool opn, .bool answered] 71)) = w3 at c2 f2 cq kq b5 x1 x2 x3 x5 HB3 ⊢
  generalize w2.heap.size = bz at x1 x2 x3 x5 ⊢
  refine (HO.out _ HB3.out).mono ?_
  rintro e w4 ⟨⟨r, rfl, r0, hr⟩, rfl⟩
  have hs3 : safe = true ∨ (safe = false ∧ answered = false ∧ r = 0) := by
    rcases HS.out with h9 | ⟨h9, h8⟩
    · exact .inl h9
    · cases safe with
      | true => exact .inl rfl
      | false => exact .inr ⟨rfl, h9, hr h8⟩
  clear hr HS HF HO HU HA hwl hi0 r0 hn0 d0 d1
  have g1 : decide (left < 1) = false := decide_eq_false (by omega)
  have g2 : decide (k.attempts ≤ had) = false := decide_eq_false (by omega)
  have g3 : decide (had ≥ k.attempts) = false := decide_eq_false (by omega)
  have HSF := hide hs3
  rcases hs3 with rfl | ⟨rfl, rfl, rfl⟩
  · go_wp2_with fail
    go_big_quiet (fail)
    have c2' : (w4.drewN nq).cell? ⟨gc, i * 6 + 2, none⟩ = some (.int .i64 had) := c2
    have f2' : (w4.drewN nq).frozen? ⟨gc, i * 6 + 2, none⟩ = false := f2
    have cq' : (w4.drewN nq).cell? ⟨q, 12, none⟩ = some (.slice (some ⟨gc, 0, none⟩) W.calls.length capc) := cq
    have HB5 := hide (HB3.out.trans ((below_drewN w4 nq).mono HB3.out.size))
    clear c2 f2 cq kq b5 x1 x2 x3 x5 HB3
    generalize w4.drewN nq = w5 at c2' f2' cq' HB5 ⊢
    obtain ⟨U1, hW1, hM1, -⟩ := HP.out _ HB5.out
    have hq1 : U1.q = q := hM1.q.trans HUq.out
    subst hq1
    have aq1 := hW1.kk 13 _ rfl
    have fa1 := hW1.fz 13 (by omega)
    have hsz : (w5.setCell ⟨gc, i * 6 + 2, none⟩ (.int .i64 (had + 1))).heap.size = w5.heap.size := by simp
    have HW1 := hide hW1
    have HM1 := hide hM1
    clear hW1 hM1 HP
    go_wp2_with (first
      | (at_builtin
         generalize w5.setCell ⟨gc, i * 6 + 2, none⟩ (.int .i64 (had + 1)) = w6 at HW1 HM1 aq1 fa1 hsz ⊢
         refine wpList_append_lies _ (by rfl) _ _ _ (by rfl) 0 100 i0 _ 3 24 Tryz.underlying66 hi0 z0 z1 z2 rfl (by omega) U1.va W.atts.length (W.atts.flatMap encWA) (by rfl) (World.ownsRow.alloc HW1.out.ra _) ⟨w5.heap.size, 0, none⟩ 1 1 (encWA ⟨i, now, true⟩) (by rfl) (by rfl) (by rw [← hsz]; exact World.news_of_block (cs := (encWA ⟨i, now, true⟩).toArray) (t := 100) (fr := (0, 0)) (heap_alloc_new w6 _)) (by simp [Value.oneCell', encWA]) (by omega) (by simp only [maxLen]; omega) (by omega) (by simp) (w5.heap.size + 1) (by simp [hsz]) ?_
         intro g7 cap7 w7 hown hgrow hat hlt7
         have hva : U1.va.ownBlock ≠ some U1.q := fun e => (by have h9 := HW1.out.ta _ e; rw [HW1.out.tq] at h9; omega)
         have lq6 : U1.q < w6.heap.size := HW1.out.lq
         have cz : w7.cell? ⟨U1.q, 13, none⟩ = some U1.va := (by rw [hgrow.cell_far _ (by simp; omega) (Ne.symm hva), World.cell?_alloc_lt _ _ _ (by simp; omega)]; exact aq1)
         have fz : w7.frozen? ⟨U1.q, 13, none⟩ = false := (by rw [hgrow.frozen_far _ (by simp; omega) (Ne.symm hva), World.frozen?_alloc_old _ _ _ (by simp; omega)]; exact fa1)
         have HPP := hide (push_post (j := 13) (cap := cap7) (x := (⟨i, now, true⟩ : WAtt)) lq6 HW1.out.ra ((Below.refl _ _).alloc (Nat.le_refl _) _) hown hgrow hva (hat.imp id (fun e => by omega)) cz)
         have hvl : U1.vl.ownBlock ≠ some U1.q := fun e => (by have h9 := HW1.out.tn _ e; rw [HW1.out.tq] at h9; omega)
         have lz : w7.cell? ⟨U1.q, 15, none⟩ = some U1.vl := (by rw [hgrow.cell_far _ (by simp; omega) (Ne.symm hva), World.cell?_alloc_lt _ _ _ (by simp; omega)]; exact HW1.out.kk 15 _ rfl)
         have fl : w7.frozen? ⟨U1.q, 15, none⟩ = false := (by rw [hgrow.frozen_far _ (by simp; omega) (Ne.symm hva), World.frozen?_alloc_old _ _ _ (by simp; omega)]; exact HW1.out.fz 15 (by omega))
         have hq7 : U1.q < w7.heap.size := World.block_lt_of_cell? _ _ cz
         have hsz7 : (w7.setCell ⟨U1.q, 13, none⟩ (.slice (some ⟨g7, 0, none⟩) (W.atts.length + 1) cap7)).heap.size = w7.heap.size := by simp
         clear hown hgrow hat)
      | (at_builtin
         obtain ⟨v8, hc8, hr8, hv8, hF8⟩ := HPP.out
         obtain ⟨U2, hW2, hM2, -, -, -, el2⟩ := HW1.out.set_a hF8 hc8 hr8 hv8
         have l8 : (w7.setCell ⟨U1.q, 13, none⟩ (.slice (some ⟨g7, 0, none⟩) (W.atts.length + 1) cap7)).cell? ⟨U1.q, 15, none⟩ = some U1.vl := (by rw [World.cell?_setCell_other _ _ _ _ (by simp)]; exact lz)
         have f8 : (w7.setCell ⟨U1.q, 13, none⟩ (.slice (some ⟨g7, 0, none⟩) (W.atts.length + 1) cap7)).frozen? ⟨U1.q, 15, none⟩ = false := (by rw [World.frozen?_setCell]; exact fl)
         have HW2 := hide hW2
         have HM2 := hide hM2
         have HEL := hide el2
         have RL := hide hW2.rl
         rw [el2] at RL
         clear hW2 hM2 el2 hc8 hr8 hv8 hF8 HPP lz fl cz fz
         generalize w7.setCell ⟨U1.q, 13, none⟩ (.slice (some ⟨g7, 0, none⟩) (W.atts.length + 1) cap7) = w8 at HW2 HM2 RL l8 f8 hsz7 ⊢
         refine wpList_append_lies _ (by rfl) _ _ _ (by rfl) 0 3 i1 _ 1 8 Tryz.underlying45 hi1 y0 y1 y2 rfl (by omega) U1.vl W.lau.length (W.lau.flatMap encI) (by rfl) (World.ownsRow.alloc RL.out _) ⟨w7.heap.size, 0, none⟩ 1 1 (encI now) (by rfl) (by rfl) (by rw [← hsz7]; exact World.news_of_block (cs := (encI now).toArray) (t := 3) (fr := (0, 0)) (heap_alloc_new w8 _)) (by simp [Value.oneCell', encI]) (by omega) (by simp only [maxLen]; have := hll.out; omega) (by have := hll.out; omega) (by simp) (w7.heap.size + 1) (by simp [hsz7]) ?_
         intro g9 cap9 w9 hown hgrow hat hlt9
         have lq8 : U1.q < w8.heap.size := (by omega)
         have cz : w9.cell? ⟨U1.q, 15, none⟩ = some U1.vl := (by rw [hgrow.cell_far _ (by simp; omega) (Ne.symm hvl), World.cell?_alloc_lt _ _ _ (by simp; omega)]; exact l8)
         have fz : w9.frozen? ⟨U1.q, 15, none⟩ = false := (by rw [hgrow.frozen_far _ (by simp; omega) (Ne.symm hvl), World.frozen?_alloc_old _ _ _ (by simp; omega)]; exact f8)
         have HPP := hide (push_post (j := 15) (cap := cap9) (x := now) lq8 RL.out ((Below.refl _ _).alloc (Nat.le_refl _) _) hown hgrow hvl (hat.imp id (fun e => by omega)) cz)
         clear hown hgrow hat))
    go_ret
    obtain ⟨v, hc, hr, hv, hF⟩ := HPP.out
    obtain ⟨U3, hW3, hM3, -⟩ := HW2.out.set_l (by rw [HM2.out.q, HEL.out]; exact hF) (by rw [HM2.out.q]; exact hc) hr (by rw [HEL.out]; exact hv)
    exact ⟨rfl, U3, hW3, (((HM.out _ HB5.out).trans HM1.out).trans HM2.out).trans hM3⟩
  · go_wp2_with fail
    go_big_quiet (fail)
    have c2' : (w4.drewN nq).cell? ⟨gc, i * 6 + 2, none⟩ = some (.int .i64 had) := c2
    have f2' : (w4.drewN nq).frozen? ⟨gc, i * 6 + 2, none⟩ = false := f2
    have cq' : (w4.drewN nq).cell? ⟨q, 12, none⟩ = some (.slice (some ⟨gc, 0, none⟩) W.calls.length capc) := cq
    have HB5 := hide (HB3.out.trans ((below_drewN w4 nq).mono HB3.out.size))
    clear c2 f2 cq kq b5 x1 x2 x3 x5 HB3
    generalize w4.drewN nq = w5 at c2' f2' cq' HB5 ⊢
    obtain ⟨U1, hW1, hM1, -⟩ := HP.out _ HB5.out
    have hq1 : U1.q = q := hM1.q.trans HUq.out
    subst hq1
    have aq1 := hW1.kk 13 _ rfl
    have fa1 := hW1.fz 13 (by omega)
    have hsz : (w5.setCell ⟨gc, i * 6 + 2, none⟩ (.int .i64 (had + 1))).heap.size = w5.heap.size := by simp
    have HW1 := hide hW1
    have HM1 := hide hM1
    clear hW1 hM1 HP
    go_wp2_with (first
      | (at_builtin
         generalize w5.setCell ⟨gc, i * 6 + 2, none⟩ (.int .i64 (had + 1)) = w6 at HW1 HM1 aq1 fa1 hsz ⊢
         refine wpList_append_lies _ (by rfl) _ _ _ (by rfl) 0 100 i0 _ 3 24 Tryz.underlying66 hi0 z0 z1 z2 rfl (by omega) U1.va W.atts.length (W.atts.flatMap encWA) (by rfl) (World.ownsRow.alloc HW1.out.ra _) ⟨w5.heap.size, 0, none⟩ 1 1 (encWA ⟨i, now, true⟩) (by rfl) (by rfl) (by rw [← hsz]; exact World.news_of_block (cs := (encWA ⟨i, now, true⟩).toArray) (t := 100) (fr := (0, 0)) (heap_alloc_new w6 _)) (by simp [Value.oneCell', encWA]) (by omega) (by simp only [maxLen]; omega) (by omega) (by simp) (w5.heap.size + 1) (by simp [hsz]) ?_
         intro g7 cap7 w7 hown hgrow hat hlt7
         have hva : U1.va.ownBlock ≠ some U1.q := fun e => (by have h9 := HW1.out.ta _ e; rw [HW1.out.tq] at h9; omega)
         have lq6 : U1.q < w6.heap.size := HW1.out.lq
         have cz : w7.cell? ⟨U1.q, 13, none⟩ = some U1.va := (by rw [hgrow.cell_far _ (by simp; omega) (Ne.symm hva), World.cell?_alloc_lt _ _ _ (by simp; omega)]; exact aq1)
         have fz : w7.frozen? ⟨U1.q, 13, none⟩ = false := (by rw [hgrow.frozen_far _ (by simp; omega) (Ne.symm hva), World.frozen?_alloc_old _ _ _ (by simp; omega)]; exact fa1)
         have HPP := hide (push_post (j := 13) (cap := cap7) (x := (⟨i, now, true⟩ : WAtt)) lq6 HW1.out.ra ((Below.refl _ _).alloc (Nat.le_refl _) _) hown hgrow hva (hat.imp id (fun e => by omega)) cz)
         have hvl : U1.vl.ownBlock ≠ some U1.q := fun e => (by have h9 := HW1.out.tn _ e; rw [HW1.out.tq] at h9; omega)
         have lz : w7.cell? ⟨U1.q, 15, none⟩ = some U1.vl := (by rw [hgrow.cell_far _ (by simp; omega) (Ne.symm hva), World.cell?_alloc_lt _ _ _ (by simp; omega)]; exact HW1.out.kk 15 _ rfl)
         have fl : w7.frozen? ⟨U1.q, 15, none⟩ = false := (by rw [hgrow.frozen_far _ (by simp; omega) (Ne.symm hva), World.frozen?_alloc_old _ _ _ (by simp; omega)]; exact HW1.out.fz 15 (by omega))
         have hq7 : U1.q < w7.heap.size := World.block_lt_of_cell? _ _ cz
         have hsz7 : (w7.setCell ⟨U1.q, 13, none⟩ (.slice (some ⟨g7, 0, none⟩) (W.atts.length + 1) cap7)).heap.size = w7.heap.size := by simp
         clear hown hgrow hat)
      | (at_builtin
         obtain ⟨v8, hc8, hr8, hv8, hF8⟩ := HPP.out
         obtain ⟨U2, hW2, hM2, -, -, -, el2⟩ := HW1.out.set_a hF8 hc8 hr8 hv8
         have l8 : (w7.setCell ⟨U1.q, 13, none⟩ (.slice (some ⟨g7, 0, none⟩) (W.atts.length + 1) cap7)).cell? ⟨U1.q, 15, none⟩ = some U1.vl := (by rw [World.cell?_setCell_other _ _ _ _ (by simp)]; exact lz)
         have f8 : (w7.setCell ⟨U1.q, 13, none⟩ (.slice (some ⟨g7, 0, none⟩) (W.atts.length + 1) cap7)).frozen? ⟨U1.q, 15, none⟩ = false := (by rw [World.frozen?_setCell]; exact fl)
         have HW2 := hide hW2
         have HM2 := hide hM2
         have HEL := hide el2
         have RL := hide hW2.rl
         rw [el2] at RL
         clear hW2 hM2 el2 hc8 hr8 hv8 hF8 HPP lz fl cz fz
         generalize w7.setCell ⟨U1.q, 13, none⟩ (.slice (some ⟨g7, 0, none⟩) (W.atts.length + 1) cap7) = w8 at HW2 HM2 RL l8 f8 hsz7 ⊢
         refine wpList_append_lies _ (by rfl) _ _ _ (by rfl) 0 3 i1 _ 1 8 Tryz.underlying45 hi1 y0 y1 y2 rfl (by omega) U1.vl W.lau.length (W.lau.flatMap encI) (by rfl) (World.ownsRow.alloc RL.out _) ⟨w7.heap.size, 0, none⟩ 1 1 (encI now) (by rfl) (by rfl) (by rw [← hsz7]; exact World.news_of_block (cs := (encI now).toArray) (t := 3) (fr := (0, 0)) (heap_alloc_new w8 _)) (by simp [Value.oneCell', encI]) (by omega) (by simp only [maxLen]; have := hll.out; omega) (by have := hll.out; omega) (by simp) (w7.heap.size + 1) (by simp [hsz7]) ?_
         intro g9 cap9 w9 hown hgrow hat hlt9
         have lq8 : U1.q < w8.heap.size := (by omega)
         have cz : w9.cell? ⟨U1.q, 15, none⟩ = some U1.vl := (by rw [hgrow.cell_far _ (by simp; omega) (Ne.symm hvl), World.cell?_alloc_lt _ _ _ (by simp; omega)]; exact l8)
         have fz : w9.frozen? ⟨U1.q, 15, none⟩ = false := (by rw [hgrow.frozen_far _ (by simp; omega) (Ne.symm hvl), World.frozen?_alloc_old _ _ _ (by simp; omega)]; exact f8)
         have HPP := hide (push_post (j := 15) (cap := cap9) (x := now) lq8 RL.out ((Below.refl _ _).alloc (Nat.le_refl _) _) hown hgrow hvl (hat.imp id (fun e => by omega)) cz)
         clear hown hgrow hat))
    go_ret
    obtain ⟨v, hc, hr, hv, hF⟩ := HPP.out
    obtain ⟨U3, hW3, hM3, -⟩ := HW2.out.set_l (by rw [HM2.out.q, HEL.out]; exact hF) (by rw [HM2.out.q]; exact hc) hr (by rw [HEL.out]; exact hv)
    exact ⟨rfl, U3, hW3, (((HM.out _ HB5.out).trans HM1.out).trans HM2.out).trans hM3⟩
end Go.Proofs.YtlccfpbbdgpjbaaGreatDoor
