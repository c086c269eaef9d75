import Derived.Test.YtlccfpbbdgpjbaaGreatDoorKWMv
import Derived.Deep.RegionWith
namespace Go.Proofs.YtlccfpbbdgpjbaaGreatDoor
open Go.RowKit
attribute [local go_sem ↓] Go.wp_at_zero Go.wp_at_succ

set_option maxRecDepth 100000 in
set_option maxHeartbeats 40000000 in
theorem wstep_adv {Bd : PSt → List Int → List Int → Prop} {N : Int} {w : World} {s : PSt} {W W2 : WSt} {V : PV} {U : WV} (hA : WAll w s W V U) (hI : Inv N s) (hN : N ≤ 50000) (H : Kept Bd s W) (ok : WOk W) (hcl : W.calls.length ≤ 100000) (hst : s.stale ≤ 1000000) (call attempt value timeout : Int) (safe : Bool) (draw tt : Int) (evok : EvOk ⟨6, call, attempt, value, timeout, safe, draw, tt⟩)
    (hr : Run s.cfg.attempts true tt W (stepA s ⟨6, call, attempt, value, timeout, safe, draw, tt⟩) W2) (W3 : WSt) (hW3 : W3 = endNow ⟨6, call, attempt, value, timeout, safe, draw, tt⟩ W2) (hk : Kept Bd (stepM s ⟨6, call, attempt, value, timeout, safe, draw, tt⟩) W3) :
    Calls Tryz.prog 24 #[.pointer (some ⟨U.q, 0, none⟩), .agg #[.int .i64 6, .int .i64 call, .int .i64 attempt, .int .i64 value, .int .i64 timeout, .bool safe, .int .u64 draw, .int .i64 tt]] w fun ex w' => ex = .returned (.bool true) ∧ ∃ V' U', WAll w' (stepM s ⟨6, call, attempt, value, timeout, safe, draw, tt⟩) W3 V' U' ∧ XMv V U w V' U' w' := by
  have hal : (W.atts.length : Int) ≤ 300000 := by
    have := H.held.rel.al
    have := hI.lN
    omega
  have ea3 : W3.atts = W2.atts := by rw [hW3]; rfl
  have ec3 : W3.calls = W2.calls := by rw [hW3]; rfl
  have hal2 : (W2.atts.length : Int) ≤ 300006 := by
    rw [← ea3]
    have := hk.held.rel.al
    have := (inv_step hI ⟨6, call, attempt, value, timeout, safe, draw, tt⟩).lN
    omega
  have hnw : 0 ≤ W.now := by
    have := hI.n0
    have := H.nw
    omega
  have hat6 : s.cfg.attempts ≤ 6 := hI.cfg.a1
  have HST := hide (fun w' V' U' W' (hX : WAll w' s W' V' U') => rep_step (hedge_all U'.x s.cfg) hX.pr hI (by omega) (sp_of hI H.held.i2) (by omega) ⟨6, call, attempt, value, timeout, safe, draw, tt⟩ evok)
  have hcfg : (stepM s ⟨6, call, attempt, value, timeout, safe, draw, tt⟩).cfg = s.cfg := stepM_cfg _ _
  generalize stepA s ⟨6, call, attempt, value, timeout, safe, draw, tt⟩ = acts at hr HST
  generalize stepM s ⟨6, call, attempt, value, timeout, safe, draw, tt⟩ = s2 at hk HST hcfg ⊢
  have HATO : Hid (∀ (m : Nat) (x : WAtt), W2.atts[m]? = some x → x.opn = true → ∃ c, W2.calls[x.call]? = some c ∧ c.opn = true) := fun m x hx ho => by
    obtain ⟨a, ha, c, _, hB⟩ := hk.held.rel.att_call (by rw [ea3]; exact hx) ho
    exact ⟨c, by rw [← ec3]; exact hB.1, hB.2.1⟩
  have hbA : Below w.heap.size w (w.alloc (.cells #[.int .i64 6, .int .i64 call, .int .i64 attempt, .int .i64 value, .int .i64 timeout, .bool safe, .int .u64 draw, .int .i64 tt] 39)) := (Below.refl _ _).alloc (Nat.le_refl _) _
  have hAA := hA.on hbA
  have b0 : (w.alloc (.cells #[.int .i64 6, .int .i64 call, .int .i64 attempt, .int .i64 value, .int .i64 timeout, .bool safe, .int .u64 draw, .int .i64 tt] 39)).cell? ⟨w.heap.size, 0, none⟩ = some (.int .i64 6) := by simp
  have b1 : (w.alloc (.cells #[.int .i64 6, .int .i64 call, .int .i64 attempt, .int .i64 value, .int .i64 timeout, .bool safe, .int .u64 draw, .int .i64 tt] 39)).cell? ⟨w.heap.size, 1, none⟩ = some (.int .i64 call) := by simp
  have b2 : (w.alloc (.cells #[.int .i64 6, .int .i64 call, .int .i64 attempt, .int .i64 value, .int .i64 timeout, .bool safe, .int .u64 draw, .int .i64 tt] 39)).cell? ⟨w.heap.size, 2, none⟩ = some (.int .i64 attempt) := by simp
  have b3 : (w.alloc (.cells #[.int .i64 6, .int .i64 call, .int .i64 attempt, .int .i64 value, .int .i64 timeout, .bool safe, .int .u64 draw, .int .i64 tt] 39)).cell? ⟨w.heap.size, 3, none⟩ = some (.int .i64 value) := by simp
  have b4 : (w.alloc (.cells #[.int .i64 6, .int .i64 call, .int .i64 attempt, .int .i64 value, .int .i64 timeout, .bool safe, .int .u64 draw, .int .i64 tt] 39)).cell? ⟨w.heap.size, 4, none⟩ = some (.int .i64 timeout) := by simp
  have b5 : (w.alloc (.cells #[.int .i64 6, .int .i64 call, .int .i64 attempt, .int .i64 value, .int .i64 timeout, .bool safe, .int .u64 draw, .int .i64 tt] 39)).cell? ⟨w.heap.size, 5, none⟩ = some (.bool safe) := by simp
  have b6 : (w.alloc (.cells #[.int .i64 6, .int .i64 call, .int .i64 attempt, .int .i64 value, .int .i64 timeout, .bool safe, .int .u64 draw, .int .i64 tt] 39)).cell? ⟨w.heap.size, 6, none⟩ = some (.int .u64 draw) := by simp
  have b7 : (w.alloc (.cells #[.int .i64 6, .int .i64 call, .int .i64 attempt, .int .i64 value, .int .i64 timeout, .bool safe, .int .u64 draw, .int .i64 tt] 39)).cell? ⟨w.heap.size, 7, none⟩ = some (.int .i64 tt) := by simp
  have lbx : w.heap.size < (w.alloc (.cells #[.int .i64 6, .int .i64 call, .int .i64 attempt, .int .i64 value, .int .i64 timeout, .bool safe, .int .u64 draw, .int .i64 tt] 39)).heap.size := by simp
  obtain ⟨fv, fu⟩ := hA.fresh (Nat.le_refl _)
  have HXA := hide (XMv.of_below (V := V) (U := U) hbA)
  have HAA := hide hAA
  have aq := hAA.wr.kk 13 _ rfl
  have xq := hAA.wr.kk 0 _ rfl
  obtain ⟨A, capa, hea, -, -, -⟩ := hAA.wr.ra.form
  rw [hea] at aq
  have HRUN := hide hr
  have HW3 := hide hW3
  clear hW3 ea3 ec3
  have HFV := hide fv
  have HFU := hide fu
  have HOK := hide ok
  have HCF := hide hcfg
  clear hA hAA hbA hea hr hk hI H ok fv fu evok hcfg
  go_enter Tryz.func24, Tryz.ntmps24
  go_upto_region 17 with fail
  generalize (w.alloc (.cells #[.int .i64 6, .int .i64 call, .int .i64 attempt, .int .i64 value, .int .i64 timeout, .bool safe, .int .u64 draw, .int .i64 tt] 39)) = wA at b0 b1 b2 b3 b4 b5 b6 b7 lbx HXA HAA aq xq ⊢
  generalize w.heap.size = bx at b0 b1 b2 b3 b4 b5 b6 b7 lbx HFV HFU ⊢
  obtain ⟨q, HUq⟩ : ∃ q, Hid (U.q = q) := ⟨_, rfl⟩
  rw [show U.q = q from HUq.out] at aq xq ⊢
  go_big_quiet (fail)
  go_wp2_with fail
  have HX1 := hide (HAA.out.on (below_drewN wA nq))
  have HM1 := hide (HXA.out.trans (XMv.of_below (below_drewN wA nq)))
  have hbq : ∀ j, (wA.drewN nq).cell? ⟨bx, j, none⟩ = wA.cell? ⟨bx, j, none⟩ := fun _ => rfl
  have xq' : (wA.drewN nq).cell? ⟨q, 0, none⟩ = some (.pointer (some ⟨U.x, 0, none⟩)) := xq
  have d0 : (wA.drewN nq).cell? ⟨bx, 0, none⟩ = some (.int .i64 6) := b0
  have d1 : (wA.drewN nq).cell? ⟨bx, 1, none⟩ = some (.int .i64 call) := b1
  have d2 : (wA.drewN nq).cell? ⟨bx, 2, none⟩ = some (.int .i64 attempt) := b2
  have d3 : (wA.drewN nq).cell? ⟨bx, 3, none⟩ = some (.int .i64 value) := b3
  have d4 : (wA.drewN nq).cell? ⟨bx, 4, none⟩ = some (.int .i64 timeout) := b4
  have d5 : (wA.drewN nq).cell? ⟨bx, 5, none⟩ = some (.bool safe) := b5
  have d6 : (wA.drewN nq).cell? ⟨bx, 6, none⟩ = some (.int .u64 draw) := b6
  have d7 : (wA.drewN nq).cell? ⟨bx, 7, none⟩ = some (.int .i64 tt) := b7
  have lb' : bx < (wA.drewN nq).heap.size := lbx
  clear hbq b0 b1 b2 b3 b4 b5 b6 b7 aq xq lbx HAA HXA
  generalize wA.drewN nq = w1 at HX1 HM1 xq' d0 d1 d2 d3 d4 d5 d6 d7 lb' ⊢
  have HXD := hide (fun w' (hb : Below w1.heap.size w1 w') => HX1.out.on hb)
  have HMD := hide (fun w' (hb : Below w1.heap.size w1 w') => HM1.out.trans (XMv.of_below (V := V) (U := U) hb))
  unfold evV at HST
  dsimp only at HST
  have HSD := hide (fun w' (hb : Below w1.heap.size w1 w') => HST.out w' V U W (HXD.out w' hb))
  have d0h := hide d0
  clear HST
  go_cut [11] (fun v wx => ∃ V2, Row wx w1.heap.size 55 6 encAct v acts ∧ WAll wx s2 W V2 U ∧ XMv V U w V2 U wx ∧ (∀ k, v.ownBlock = some k → 7 ≤ V2.tag k) ∧ 7 ≤ V2.tag bx ∧ wx.heap[bx]? = w1.heap[bx]?)
  case first =>
    as_aux_lemma =>
      go_region_with (first
        | (go_at_call 20; refine (HSD.out _ (by first | exact (Below.refl _ _).drew | exact Below.refl _ _)).mono ?_; rintro e w2 ⟨v, V2, rfl, hrow, hp2, hm2, ht2⟩; have HG : Hid (∃ V2, Row w2 w1.heap.size 55 6 encAct v acts ∧ WAll w2 s2 W V2 U ∧ XMv V U w V2 U w2 ∧ (∀ k, v.ownBlock = some k → 7 ≤ V2.tag k) ∧ 7 ≤ V2.tag bx ∧ w2.heap[bx]? = w1.heap[bx]?) := ⟨V2, hrow, (HXD.out _ (by first | exact (Below.refl _ _).drew | exact Below.refl _ _)).step hp2 hm2 HCF.out, (HMD.out _ (by first | exact (Below.refl _ _).drew | exact Below.refl _ _)).trans (XMv.ofP U hm2), ht2, hm2.tag7 lb' HFV.out, hm2.block bx lb' HFV.out⟩; clear hrow hp2 hm2 ht2))
      all_goals
        go_wp2_with fail
        go_meet
        exact HG.out
  case rest =>
    obtain ⟨V2, hrow, hX2, hM2, ht2, h7, hbx⟩ := hcut
    obtain ⟨A8, cap8, rfl, hml, -, -⟩ := hrow.form
    unfold maxLen at hml
    have hml' : (acts.length : Int) ≤ 9223372036854775807 := by omega
    have HBX := hide (fun j => World.cell?_of_block (a := ⟨bx, j, none⟩) hbx)
    have hz : ∀ k, (Value.slice A8 acts.length cap8).ownBlock = some k → 7 ≤ V2.tag k ∧ 5 ≤ U.tag k := fun k hk => by
      refine ⟨ht2 k hk, ?_⟩
      rcases Nat.lt_or_ge (U.tag k) 5 with h1 | h1
      · have := HX1.out.wr.tl k h1
        have := (hrow.lt k hk).1
        omega
      · exact h1
    have HROW := hide hrow
    have HX2 := hide hX2
    have HM2 := hide hM2
    have HZ := hide hz
    have HHB := hide hbx
    have H7 := hide h7
    have hqx : wc.cell? ⟨q, 11, none⟩ = some (.int .i64 W.now) := by rw [← show U.q = q from HUq.out]; exact hX2.wr.kk 11 _ rfl
    clear hrow hX2 hM2 ht2 h7 hz hbx hml
    go_wp2_with fail
    go_loopg [12] acts.length (fun gk iv wr => ∃ (j : Nat) (Wj : WSt) (Uj : WV), gk = acts.length - j ∧ iv = .int .i64 j ∧ j ≤ acts.length ∧ WAll wr s2 Wj V2 Uj ∧ Run s.cfg.attempts true tt Wj (acts.drop j) W2 ∧ WOk Wj ∧ Wj.calls.length ≤ 100000 ∧ 0 ≤ Wj.now ∧ XMv V U w V2 Uj wr ∧ 5 ≤ Uj.tag bx ∧ Row wr w1.heap.size 55 6 encAct (.slice A8 acts.length cap8) acts ∧ (∀ k, (Value.slice A8 acts.length cap8).ownBlock = some k → 7 ≤ V2.tag k ∧ 5 ≤ Uj.tag k) ∧ wr.heap[bx]? = w1.heap[bx]?)
    case atStart => exact ⟨0, W, U, rfl, rfl, Nat.zero_le _, HX2.out, HRUN.out, HOK.out, hcl, hnw, HM2.out, HFU.out, HROW.out, HZ.out, HHB.out⟩
    case round =>
      as_aux_lemma =>
        obtain ⟨j, Wj, Uj, hgk, rfl, hj, hX, hR, hO, hC, hn, hM, h5, hrow, hz, hbb⟩ := hrel
        have hq : Uj.q = q := hM.q.trans HUq.out
        have e0 := (World.cell?_of_block (a := ⟨bx, 0, none⟩) hbb).trans d0
        by_cases hlt : (j : Int) < (acts.length : Int)
        · have hjl : j < acts.length := by omega
          obtain ⟨g, hAg⟩ : ∃ g, A8 = some ⟨g, 0, none⟩ := by
            obtain ⟨A9, c9, h9, _, h8, _⟩ := hrow.form
            obtain ⟨g, hg⟩ := h8 j hjl
            injection h9 with h9 _ _
            exact ⟨g, h9.trans hg⟩
          subst hAg
          rw [List.drop_eq_getElem_cons hjl] at hR
          have qa0 := (hrow.cell encAct_len (g := g) (i := j) (j := 0) rfl hjl rfl).1
          have qa1 := (hrow.cell encAct_len (g := g) (i := j) (j := 1) rfl hjl rfl).1
          have qa2 := (hrow.cell encAct_len (g := g) (i := j) (j := 2) rfl hjl rfl).1
          have qa3 := (hrow.cell encAct_len (g := g) (i := j) (j := 3) rfl hjl rfl).1
          have qa4 := (hrow.cell encAct_len (g := g) (i := j) (j := 4) rfl hjl rfl).1
          have qa5 := (hrow.cell encAct_len (g := g) (i := j) (j := 5) rfl hjl rfl).1
          simp only [Nat.add_zero] at qa0
          have hlen := run_len hR
          obtain ⟨tw, W9, hwhen, hw0, hw1, hS, hR9⟩ : ∃ tw W9, When Wj acts[j] tw ∧ Wj.now ≤ tw ∧ tw ≤ tt ∧ See s.cfg.attempts tw { Wj with now := tw } acts[j] W9 ∧ Run s.cfg.attempts true tt W9 (acts.drop (j + 1)) W2 := by
            cases hR with
            | now _ _ _ _ _ ha => cases ha
            | adv _ _ _ tw W9 _ _ h1 h2 h3 h4 h5 => exact ⟨tw, W9, h1, h2, h3, h4, h5⟩
          have HFI := hide (wfind_any hX.wr acts[j].call (by omega))
          have HSN := hide (fun W' (hb : Below wr.heap.size wr W') => (hX.wr.on hb).set_now tw)
          have HSE := hide (fun W' U' (hW' : WRep W' s2.cfg { Wj with now := tw } U') => wsees_any (now := tw) hW' (hO.now tw) (by show Wj.calls.length ≤ _; omega) (by show Wj.atts.length ≤ _; omega) (by rw [HCF.out]; exact hS) (by omega))
          have nq' := hX.wr.kk 11 _ rfl
          have fq' := hX.wr.fz 11 (by omega)
          have cq' := hX.wr.kk 12 _ rfl
          rw [hq] at nq' fq' cq' HFI
          have e7 := (World.cell?_of_block (a := ⟨bx, 7, none⟩) hbb).trans d7
          have hgq : g ≠ q := fun e => by
            have h1 := (hz g rfl).2
            rw [e, ← hq, hX.wr.tq] at h1
            omega
          have hbq : bx ≠ q := fun e => by
            rw [e, ← hq, hX.wr.tq] at h5
            omega
          have lgr : g < wr.heap.size := (hrow.lt g rfl).2
          have lbr : bx < wr.heap.size := World.block_lt_of_cell? wr _ e0
          have lqr : q < wr.heap.size := World.block_lt_of_cell? wr _ nq'
          have hleft : acts[j].kind = 1 → 1 ≤ acts[j].left := by
            intro h1
            cases hS with
            | refuse hk => omega
            | launch _ _ _ _ _ _ h9 => exact h9
            | stop _ _ _ hk => omega
            | result _ _ hk => omega
          have hO9 := see_ok hat6 hS (hO.now tw)
          have hL9 := see_len hS
          dsimp only at hL9
          have HO9 := hide hO9
          have HC9 := hide (show W9.calls.length ≤ 100000 by omega)
          have hn9 : W9.now = tw := by cases hS <;> rfl
          have HN9 := hide (show 0 ≤ W9.now by omega)
          have HR9 := hide hR9
          have HX := hide hX
          have HMj := hide hM
          have H5 := hide h5
          have HRW := hide hrow
          have HZJ := hide hz
          have HBB := hide hbb
          have HUN := hide hO.un
          have HTQ := hide (show Uj.tag q = 0 by rw [← hq]; exact hX.wr.tq)
          have HHB := hide hO.hb
          unfold actV at HSE
          generalize acts[j] = a at qa0 qa1 qa2 qa3 qa4 qa5 HSE HFI hwhen hleft
          obtain ⟨ak, ac, aa, ao, av, al⟩ := a
          dsimp only at qa0 qa1 qa2 qa3 qa4 qa5 HSE HFI
          have HWN := hide hwhen
          clear hR hS hO hX hM h5 hrow hz hbb hR9 hO9 hL9 hn9 hlen hwhen
          have hng1 : decide (tw < Wj.now) = false := decide_eq_false (by omega)
          have hng2 : decide (tw > tt) = false := decide_eq_false (by omega)
          have hng3 : decide (tt < tw) = false := decide_eq_false (by omega)
          cases HWN.out with
          | launch i k hk hf =>
            as_aux_lemma =>
              obtain rfl : ak = 1 := hk
              have hlf : 1 ≤ al := hleft rfl
              dsimp only at hw0 hw1 hng1 hng2 hng3 HSE HSN
              obtain ⟨gc, capc, hec, -, hil, c0, c1, c2, c3, c4, c5, -⟩ := HX.out.wr.call_at hf.1
              rw [hec] at cq'
              obtain ⟨dl0, dl1, -, -⟩ := HHB.out _ i k hf
              have hwd : IntKind.i64.wrap (k.deadline - al) = k.deadline - al := by rw [IntKind.wrap_i64]; omega
              have hil' : (i : Int) < (Wj.calls.length : Int) := by omega
              have HAF := hide hf
              have HUF := hide (fun i' l => HUN.out ac i k i' l hf)
              have lgc : gc < wr.heap.size := World.block_lt_of_cell? wr _ c1
              clear hec hil c0 c2 c3 c4 c5 hf
              generalize k.deadline = dl at c1 dl0 dl1 hwd HSE HSN hw0 hw1 hng1 hng2 hng3 HR9 HO9 HC9 HN9
              go_wp2_with fail
              refine HFI.out.mono ?_
              rintro e w3 ⟨⟨r, rfl, hr⟩, rfl⟩
              obtain rfl : r = (i : Int) := by
                rcases hr with ⟨_, hr⟩ | ⟨i', l, rfl, hB⟩
                · exact absurd HAF.out (hr i _)
                · rw [HUF.out i' l hB]
              clear hr
              have hi0 : decide ((i : Int) ≥ 0) = true := decide_eq_true (by omega)
              have hi0' : (0 : Int) ≤ (i : Int) := by omega
              go_wp2_with fail
              go_big_quiet (fail)
              obtain ⟨hN1, hN2⟩ := HSN.out (w3.drewN nq) (below_drewN w3 nq)
              have HSE2 := hide (HSE.out _ Uj hN1)
              have HX5 := hide ((HX.out.on (w' := w3.drewN nq) (below_drewN w3 nq)).seen hN1 hN2)
              have HM5 := hide ((HMj.out.trans (XMv.of_below (V := V2) (U := Uj) (w' := w3.drewN nq) (below_drewN w3 nq))).trans (XMv.ofW V2 hN2))
              rw [hq] at HSE2 HX5 HM5
              have H5B := hide (fun k (hk : k < w3.heap.size) (hkq : k ≠ q) => (Below.heap_setCell (w3.drewN nq) ⟨q, 11, none⟩ (.int .i64 (dl - al)) k hkq).trans ((below_drewN w3 nq).block k hk))
              have H5S := hide (show ((w3.drewN nq).setCell ⟨q, 11, none⟩ (.int .i64 (dl - al))).heap.size = w3.heap.size by simp)
              clear hN1 hN2 HSE HSN
              go_wp2_with fail
              refine HSE2.out.mono ?_
              rintro e w6 ⟨rfl, U9, hW9, hM9⟩
              have HX9 := hide (HX5.out.seen hW9 hM9)
              have HM9 := hide hM9
              clear hW9 hM9
              go_wp2_with fail
              go_roundg (acts.length - (j + 1))
              case measure => omega
              case rel =>
                have hU : ∀ k, k < w3.heap.size → 5 ≤ Uj.tag k → 5 ≤ U9.tag k := fun k hk h5 => by
                  rcases Nat.lt_or_ge (U9.tag k) 5 with h1 | h1
                  · rcases HM9.out.news k h1 with h2 | h2
                    · omega
                    · have := H5S.out
                      omega
                  · exact h1
                have hne : ∀ k, 5 ≤ Uj.tag k → k ≠ q := fun k h5 e => by
                  rw [e, HTQ.out] at h5
                  omega
                have hsame : ∀ k, k < w3.heap.size → 5 ≤ Uj.tag k → w6.heap[k]? = w3.heap[k]? := fun k hk h5 => (HM9.out.block k (by have := H5S.out; omega) h5).trans (H5B.out k hk (hne k h5))
                exact ⟨j + 1, W9, U9, rfl, by go_num, by omega, HX9.out, HR9.out, HO9.out, HC9.out, HN9.out, HM5.out.trans (XMv.ofW V2 HM9.out), hU bx lbr H5.out, HRW.out.same (fun k hk => hsame k (HRW.out.lt k hk).2 (HZJ.out k hk).2), fun k hk => ⟨(HZJ.out k hk).1, hU k (HRW.out.lt k hk).2 (HZJ.out k hk).2⟩, (hsame bx lbr H5.out).trans HBB.out⟩
          | late i k hk ho hf =>
            as_aux_lemma =>
              obtain rfl : ak = 3 := hk
              obtain rfl : ao = 3 := ho
              obtain ⟨gc, capc, hec, -, hil, c0, c1, c2, c3, c4, c5, -⟩ := HX.out.wr.call_at hf.1
              rw [hec] at cq'
              have hil' : (i : Int) < (Wj.calls.length : Int) := by omega
              have HAF := hide hf
              have HUF := hide (fun i' l => HUN.out ac i k i' l hf)
              clear hec hil c0 c2 c3 c4 c5 hf
              generalize k.deadline = dl at c1 HSE HSN hw0 hw1 hng1 hng2 hng3 HR9 HO9 HC9 HN9
              go_wp2_with fail
              refine HFI.out.mono ?_
              rintro e w3 ⟨⟨r, rfl, hr⟩, rfl⟩
              obtain rfl : r = (i : Int) := by
                rcases hr with ⟨_, hr⟩ | ⟨i', l, rfl, hB⟩
                · exact absurd HAF.out (hr i _)
                · rw [HUF.out i' l hB]
              clear hr
              have hi0' : (0 : Int) ≤ (i : Int) := by omega
              obtain ⟨hN1, hN2⟩ := HSN.out (w3) (Below.refl _ _)
              have HSE2 := hide (HSE.out _ Uj hN1)
              have HX5 := hide ((HX.out.on (w' := w3) (Below.refl _ _)).seen hN1 hN2)
              have HM5 := hide ((HMj.out.trans (XMv.of_below (V := V2) (U := Uj) (w' := w3) (Below.refl _ _))).trans (XMv.ofW V2 hN2))
              rw [hq] at HSE2 HX5 HM5
              have H5B := hide (fun k (hk : k < w3.heap.size) (hkq : k ≠ q) => (Below.heap_setCell (w3) ⟨q, 11, none⟩ (.int .i64 dl) k hkq).trans ((Below.refl _ _).block k hk))
              have H5S := hide (show ((w3).setCell ⟨q, 11, none⟩ (.int .i64 dl)).heap.size = w3.heap.size by simp)
              clear hN1 hN2 HSE HSN
              go_wp2_with fail
              refine HSE2.out.mono ?_
              rintro e w6 ⟨rfl, U9, hW9, hM9⟩
              have HX9 := hide (HX5.out.seen hW9 hM9)
              have HM9 := hide hM9
              clear hW9 hM9
              go_wp2_with fail
              go_roundg (acts.length - (j + 1))
              case measure => omega
              case rel =>
                have hU : ∀ k, k < w3.heap.size → 5 ≤ Uj.tag k → 5 ≤ U9.tag k := fun k hk h5 => by
                  rcases Nat.lt_or_ge (U9.tag k) 5 with h1 | h1
                  · rcases HM9.out.news k h1 with h2 | h2
                    · omega
                    · have := H5S.out
                      omega
                  · exact h1
                have hne : ∀ k, 5 ≤ Uj.tag k → k ≠ q := fun k h5 e => by
                  rw [e, HTQ.out] at h5
                  omega
                have hsame : ∀ k, k < w3.heap.size → 5 ≤ Uj.tag k → w6.heap[k]? = w3.heap[k]? := fun k hk h5 => (HM9.out.block k (by have := H5S.out; omega) h5).trans (H5B.out k hk (hne k h5))
                exact ⟨j + 1, W9, U9, rfl, by go_num, by omega, HX9.out, HR9.out, HO9.out, HC9.out, HN9.out, HM5.out.trans (XMv.ofW V2 HM9.out), hU bx lbr H5.out, HRW.out.same (fun k hk => hsame k (HRW.out.lt k hk).2 (HZJ.out k hk).2), fun k hk => ⟨(HZJ.out k hk).1, hU k (HRW.out.lt k hk).2 (HZJ.out k hk).2⟩, (hsame bx lbr H5.out).trans HBB.out⟩
          | other hk =>
            as_aux_lemma =>
              rcases hk with hk | ⟨hk, ho⟩
              · obtain rfl : ak = 2 := hk
                go_wp2_with fail
                refine HFI.out.mono ?_
                rintro e w3 ⟨⟨r, rfl, -⟩, rfl⟩
                obtain ⟨hN1, hN2⟩ := HSN.out (w3) (Below.refl _ _)
                have HSE2 := hide (HSE.out _ Uj hN1)
                have HX5 := hide ((HX.out.on (w' := w3) (Below.refl _ _)).seen hN1 hN2)
                have HM5 := hide ((HMj.out.trans (XMv.of_below (V := V2) (U := Uj) (w' := w3) (Below.refl _ _))).trans (XMv.ofW V2 hN2))
                rw [hq] at HSE2 HX5 HM5
                have H5B := hide (fun k (hk : k < w3.heap.size) (hkq : k ≠ q) => (Below.heap_setCell (w3) ⟨q, 11, none⟩ (.int .i64 Wj.now) k hkq).trans ((Below.refl _ _).block k hk))
                have H5S := hide (show ((w3).setCell ⟨q, 11, none⟩ (.int .i64 Wj.now)).heap.size = w3.heap.size by simp)
                clear hN1 hN2 HSE HSN
                go_wp2_with fail
                refine HSE2.out.mono ?_
                rintro e w6 ⟨rfl, U9, hW9, hM9⟩
                have HX9 := hide (HX5.out.seen hW9 hM9)
                have HM9 := hide hM9
                clear hW9 hM9
                go_wp2_with fail
                go_roundg (acts.length - (j + 1))
                case measure => omega
                case rel =>
                  have hU : ∀ k, k < w3.heap.size → 5 ≤ Uj.tag k → 5 ≤ U9.tag k := fun k hk h5 => by
                    rcases Nat.lt_or_ge (U9.tag k) 5 with h1 | h1
                    · rcases HM9.out.news k h1 with h2 | h2
                      · omega
                      · have := H5S.out
                        omega
                    · exact h1
                  have hne : ∀ k, 5 ≤ Uj.tag k → k ≠ q := fun k h5 e => by
                    rw [e, HTQ.out] at h5
                    omega
                  have hsame : ∀ k, k < w3.heap.size → 5 ≤ Uj.tag k → w6.heap[k]? = w3.heap[k]? := fun k hk h5 => (HM9.out.block k (by have := H5S.out; omega) h5).trans (H5B.out k hk (hne k h5))
                  exact ⟨j + 1, W9, U9, rfl, by go_num, by omega, HX9.out, HR9.out, HO9.out, HC9.out, HN9.out, HM5.out.trans (XMv.ofW V2 HM9.out), hU bx lbr H5.out, HRW.out.same (fun k hk => hsame k (HRW.out.lt k hk).2 (HZJ.out k hk).2), fun k hk => ⟨(HZJ.out k hk).1, hU k (HRW.out.lt k hk).2 (HZJ.out k hk).2⟩, (hsame bx lbr H5.out).trans HBB.out⟩
              · obtain rfl : ak = 3 := hk
                have ho' : (ao == 3) = false := by simpa using ho
                have ho2 : ¬ ao = 3 := ho
                go_wp2_with fail
                refine HFI.out.mono ?_
                rintro e w3 ⟨⟨r, rfl, -⟩, rfl⟩
                obtain ⟨hN1, hN2⟩ := HSN.out (w3) (Below.refl _ _)
                have HSE2 := hide (HSE.out _ Uj hN1)
                have HX5 := hide ((HX.out.on (w' := w3) (Below.refl _ _)).seen hN1 hN2)
                have HM5 := hide ((HMj.out.trans (XMv.of_below (V := V2) (U := Uj) (w' := w3) (Below.refl _ _))).trans (XMv.ofW V2 hN2))
                rw [hq] at HSE2 HX5 HM5
                have H5B := hide (fun k (hk : k < w3.heap.size) (hkq : k ≠ q) => (Below.heap_setCell (w3) ⟨q, 11, none⟩ (.int .i64 Wj.now) k hkq).trans ((Below.refl _ _).block k hk))
                have H5S := hide (show ((w3).setCell ⟨q, 11, none⟩ (.int .i64 Wj.now)).heap.size = w3.heap.size by simp)
                clear hN1 hN2 HSE HSN
                go_wp2_with fail
                refine HSE2.out.mono ?_
                rintro e w6 ⟨rfl, U9, hW9, hM9⟩
                have HX9 := hide (HX5.out.seen hW9 hM9)
                have HM9 := hide hM9
                clear hW9 hM9
                go_wp2_with fail
                go_roundg (acts.length - (j + 1))
                case measure => omega
                case rel =>
                  have hU : ∀ k, k < w3.heap.size → 5 ≤ Uj.tag k → 5 ≤ U9.tag k := fun k hk h5 => by
                    rcases Nat.lt_or_ge (U9.tag k) 5 with h1 | h1
                    · rcases HM9.out.news k h1 with h2 | h2
                      · omega
                      · have := H5S.out
                        omega
                    · exact h1
                  have hne : ∀ k, 5 ≤ Uj.tag k → k ≠ q := fun k h5 e => by
                    rw [e, HTQ.out] at h5
                    omega
                  have hsame : ∀ k, k < w3.heap.size → 5 ≤ Uj.tag k → w6.heap[k]? = w3.heap[k]? := fun k hk h5 => (HM9.out.block k (by have := H5S.out; omega) h5).trans (H5B.out k hk (hne k h5))
                  exact ⟨j + 1, W9, U9, rfl, by go_num, by omega, HX9.out, HR9.out, HO9.out, HC9.out, HN9.out, HM5.out.trans (XMv.ofW V2 HM9.out), hU bx lbr H5.out, HRW.out.same (fun k hk => hsame k (HRW.out.lt k hk).2 (HZJ.out k hk).2), fun k hk => ⟨(HZJ.out k hk).1, hU k (HRW.out.lt k hk).2 (HZJ.out k hk).2⟩, (hsame bx lbr H5.out).trans HBB.out⟩
        · have hWj : Wj = W2 := by
            rw [List.drop_of_length_le (by omega)] at hR
            cases hR
            rfl
          subst hWj
          have e7 := (World.cell?_of_block (a := ⟨bx, 7, none⟩) hbb).trans d7
          have nq' := hX.wr.kk 11 _ rfl
          have fq' := hX.wr.fz 11 (by omega)
          rw [hq] at nq' fq'
          have lenA : (Wj.atts.length : Int) ≤ 300006 := hal2
          have HXX := hide hX
          have HMM := hide hM
          clear hX hM hR hO hrow hz hbb h5
          obtain ⟨cnd, hcnd⟩ : ∃ cnd : Bool, (cnd = true ∧ Wj.now ≤ tt ∧ tt ≤ 1099511627776) ∨ (cnd = false ∧ tt < Wj.now) ∨ (cnd = false ∧ Wj.now ≤ tt ∧ 1099511627776 < tt) := by
            by_cases h1 : Wj.now ≤ tt
            · by_cases h2 : tt ≤ 1099511627776
              · exact ⟨true, .inl ⟨rfl, h1, h2⟩⟩
              · exact ⟨false, .inr (.inr ⟨rfl, h1, by omega⟩)⟩
            · exact ⟨false, .inr (.inl ⟨rfl, by omega⟩)⟩
          have HCN := hide hcnd
          clear hcnd
          go_upto_region 38 with fail
          go_cut [343] (fun c wx => c = .bool cnd ∧ ∃ n, wx = wr.drewN n)
          case first =>
            as_aux_lemma =>
              rcases HCN.out with ⟨rfl, h1, h2⟩ | ⟨rfl, h1⟩ | ⟨rfl, h1, h2⟩
              · skip
                have g1 : decide (tt ≥ Wj.now) = true := decide_eq_true (by omega)
                have g1' : decide (Wj.now ≤ tt) = true := decide_eq_true (by omega)
                have g2 : decide (tt ≤ 1099511627776) = true := decide_eq_true (by omega)
                go_big_quiet (fail)
                go_wp2_with fail
                go_meet
                exact ⟨rfl, _, rfl⟩
              · skip
                have g1 : decide (tt ≥ Wj.now) = false := decide_eq_false (by omega)
                have g1' : decide (Wj.now ≤ tt) = false := decide_eq_false (by omega)
                go_big_quiet (fail)
                go_wp2_with fail
                go_meet
                exact ⟨rfl, _, rfl⟩
              · skip
                have g1 : decide (tt ≥ Wj.now) = true := decide_eq_true (by omega)
                have g1' : decide (Wj.now ≤ tt) = true := decide_eq_true (by omega)
                have g2 : decide (tt ≤ 1099511627776) = false := decide_eq_false (by omega)
                go_big_quiet (fail)
                go_wp2_with fail
                go_meet
                exact ⟨rfl, _, rfl⟩
          case rest =>
            obtain ⟨rfl, n, rfl⟩ := hcut
            cases cnd with
            | false =>
              as_aux_lemma =>
                have HE3 : Hid (W3 = Wj) := by
                  show W3 = Wj
                  rw [HW3.out]
                  unfold endNow
                  rw [if_neg]
                  rintro ⟨_, q1, q2⟩
                  dsimp only at q1 q2
                  rcases HCN.out with ⟨h, _⟩ | ⟨_, h⟩ | ⟨_, _, h⟩
                  · cases h
                  · omega
                  · omega
                have HXS := hide (HXX.out.on (below_drewN wr n))
                have HMS := hide (HMM.out.trans (XMv.of_below (V := V2) (U := Uj) (below_drewN wr n)))
                go_wp2_with fail
                go_loopg [16] Wj.atts.length (fun gk iv wz => ∃ (j : Nat), gk = Wj.atts.length - j ∧ iv = .int .i64 j ∧ j ≤ Wj.atts.length ∧ WAll wz s2 (Wj) V2 Uj ∧ XMv V U w V2 Uj wz)
                case atStart => exact ⟨0, rfl, rfl, Nat.zero_le _, HXS.out, HMS.out⟩
                case round =>
                  as_aux_lemma =>
                    obtain ⟨i, hgi, rfl, hi, hX, hM⟩ := hrel
                    have aq := hX.wr.kk 13 _ rfl
                    have cq := hX.wr.kk 12 _ rfl
                    rw [hq] at aq cq
                    have HXI := hide (fun n => hX.on (below_drewN wr n))
                    have HMI := hide (fun n => hM.trans (XMv.of_below (V := V2) (U := Uj) (below_drewN wr n)))
                    by_cases hil : (i : Int) < (Wj.atts.length : Int)
                    · have hin : i < Wj.atts.length := by omega
                      obtain ⟨ga, capa', hea, _, _, a0, a1, a2, _⟩ := hX.wr.att_at (List.getElem?_eq_getElem hin)
                      rw [hea] at aq
                      have hao := HATO.out i _ (List.getElem?_eq_getElem hin)
                      generalize Wj.atts[i] = x at a0 a1 a2 hao
                      obtain ⟨xc, xa, xo⟩ := x
                      dsimp only at a0 a1 a2 hao
                      cases xo with
                      | false =>
                        clear hao hX hM hea
                        go_wp2_with fail
                        go_big_quiet (fail)
                        go_wp2_with fail
                        go_roundg (Wj.atts.length - (i + 1))
                        case measure => omega
                        case rel => exact ⟨i + 1, rfl, by go_num, by omega, HXI.out _, HMI.out _⟩
                      | true =>
                        obtain ⟨c, hc, ho⟩ := hao rfl
                        obtain ⟨gc, capc', hec, _, hcl', c0, c1, c2, c3, c4, c5, _⟩ := hX.wr.call_at hc
                        rw [hec] at cq
                        rw [ho] at c4
                        have hcl2 : (xc : Int) < (Wj.calls.length : Int) := by
                          have h9 : xc < Wj.calls.length := hcl'
                          omega
                        clear hX hM hea hec hc c0 c1 c2 c3 c5 hcl' ho
                        go_wp2_with fail
                        go_big_quiet (fail)
                        go_wp2_with fail
                        go_roundg (Wj.atts.length - (i + 1))
                        case measure => omega
                        case rel => exact ⟨i + 1, rfl, by go_num, by omega, HXI.out _, HMI.out _⟩
                    · obtain ⟨Aa, capa', hea, -, -, -⟩ := hX.wr.ra.form
                      rw [hea] at aq
                      have HXE := hide hX
                      have HME := hide hM
                      clear hX hM hea
                      go_wp2_with fail
                      go_ret
                      exact ⟨rfl, V2, Uj, by rw [HE3.out]; exact HXE.out, HME.out⟩
            | true =>
              as_aux_lemma =>
                have HE3 : Hid (W3 = { Wj with now := tt }) := by
                  show W3 = _
                  rw [HW3.out]
                  unfold endNow
                  rw [if_pos]
                  rcases HCN.out with ⟨_, h1, h2⟩ | ⟨h, _⟩ | ⟨h, _⟩
                  · exact ⟨rfl, h1, h2⟩
                  · cases h
                  · cases h
                obtain ⟨hN1, hN2⟩ := (HXX.out.wr.on (below_drewN wr n)).set_now tt
                have HXS := hide ((HXX.out.on (below_drewN wr n)).seen hN1 hN2)
                have HMS := hide ((HMM.out.trans (XMv.of_below (V := V2) (U := Uj) (below_drewN wr n))).trans (XMv.ofW V2 hN2))
                rw [hq] at HXS HMS
                clear hN1 hN2
                go_wp2_with fail
                go_loopg [16] Wj.atts.length (fun gk iv wz => ∃ (j : Nat), gk = Wj.atts.length - j ∧ iv = .int .i64 j ∧ j ≤ Wj.atts.length ∧ WAll wz s2 ({ Wj with now := tt }) V2 Uj ∧ XMv V U w V2 Uj wz)
                case atStart => exact ⟨0, rfl, rfl, Nat.zero_le _, HXS.out, HMS.out⟩
                case round =>
                  as_aux_lemma =>
                    obtain ⟨i, hgi, rfl, hi, hX, hM⟩ := hrel
                    have aq := hX.wr.kk 13 _ rfl
                    have cq := hX.wr.kk 12 _ rfl
                    rw [hq] at aq cq
                    have HXI := hide (fun n => hX.on (below_drewN wr n))
                    have HMI := hide (fun n => hM.trans (XMv.of_below (V := V2) (U := Uj) (below_drewN wr n)))
                    by_cases hil : (i : Int) < (Wj.atts.length : Int)
                    · have hin : i < Wj.atts.length := by omega
                      obtain ⟨ga, capa', hea, _, _, a0, a1, a2, _⟩ := hX.wr.att_at (List.getElem?_eq_getElem hin)
                      rw [hea] at aq
                      have hao := HATO.out i _ (List.getElem?_eq_getElem hin)
                      generalize Wj.atts[i] = x at a0 a1 a2 hao
                      obtain ⟨xc, xa, xo⟩ := x
                      dsimp only at a0 a1 a2 hao
                      cases xo with
                      | false =>
                        clear hao hX hM hea
                        go_wp2_with fail
                        go_big_quiet (fail)
                        go_wp2_with fail
                        go_roundg (Wj.atts.length - (i + 1))
                        case measure => omega
                        case rel => exact ⟨i + 1, rfl, by go_num, by omega, HXI.out _, HMI.out _⟩
                      | true =>
                        obtain ⟨c, hc, ho⟩ := hao rfl
                        obtain ⟨gc, capc', hec, _, hcl', c0, c1, c2, c3, c4, c5, _⟩ := hX.wr.call_at hc
                        rw [hec] at cq
                        rw [ho] at c4
                        have hcl2 : (xc : Int) < (Wj.calls.length : Int) := by
                          have h9 : xc < Wj.calls.length := hcl'
                          omega
                        clear hX hM hea hec hc c0 c1 c2 c3 c5 hcl' ho
                        go_wp2_with fail
                        go_big_quiet (fail)
                        go_wp2_with fail
                        go_roundg (Wj.atts.length - (i + 1))
                        case measure => omega
                        case rel => exact ⟨i + 1, rfl, by go_num, by omega, HXI.out _, HMI.out _⟩
                    · obtain ⟨Aa, capa', hea, -, -, -⟩ := hX.wr.ra.form
                      rw [hea] at aq
                      have HXE := hide hX
                      have HME := hide hM
                      clear hX hM hea
                      go_wp2_with fail
                      go_ret
                      exact ⟨rfl, V2, Uj, by rw [HE3.out]; exact HXE.out, HME.out⟩
end Go.Proofs.YtlccfpbbdgpjbaaGreatDoor
