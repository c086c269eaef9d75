import Derived.Test.YtlccfpbbdgpjbaaGreatDoorKWMv
import Derived.Deep.RegionWith
namespace Go.Proofs.YtlccfpbbdgpjbaaGreatDoor
open Go.RowKit
attribute [local go_sem ↓] Go.wp_at_zero Go.wp_at_succ

set_option maxRecDepth 100000 in
set_option maxHeartbeats 40000000 in
theorem wstep_stale2 {Bd : PSt → List Int → List Int → Prop} {N : Int} {w : World} {s : PSt} {W W2 : WSt} {V : PV} {U : WV} (hA : WAll w s W V U) (hI : Inv N s) (hN : N ≤ 50000) (H : Kept Bd s W) (ok : WOk W) (hcl : W.calls.length ≤ 100000) (hst : s.stale ≤ 1000000) (call attempt value timeout : Int) (safe : Bool) (draw tt : Int) (evok : EvOk ⟨2, call, attempt, value, timeout, safe, draw, tt⟩)
    (hno : attempt ≤ 0 ∨ (W.atts.length : Int) < attempt ∨ ∃ (m : Nat) (x : WAtt), attempt = (m : Int) + 1 ∧ W.atts[m]? = some x ∧ x.opn = false) (hr : Run s.cfg.attempts false tt W (stepA s ⟨2, call, attempt, value, timeout, safe, draw, tt⟩) W2) (hk : Kept Bd (stepM s ⟨2, call, attempt, value, timeout, safe, draw, tt⟩) W2) :
    Calls Tryz.prog 24 #[.pointer (some ⟨U.q, 0, none⟩), .agg #[.int .i64 2, .int .i64 call, .int .i64 attempt, .int .i64 value, .int .i64 timeout, .bool safe, .int .u64 draw, .int .i64 tt]] w fun ex w' => ex = .returned (.bool true) ∧ ∃ V' U', WAll w' (stepM s ⟨2, call, attempt, value, timeout, safe, draw, tt⟩) W2 V' U' ∧ XMv V U w V' U' w' := by
  have hal : (W.atts.length : Int) ≤ 300000 := by
    have := H.held.rel.al
    have := hI.lN
    omega
  have hal2 : (W2.atts.length : Int) ≤ 300006 := by
    have := hk.held.rel.al
    have := (inv_step hI ⟨2, call, attempt, value, timeout, safe, draw, tt⟩).lN
    omega
  have hnw : 0 ≤ W.now := by
    have := hI.n0
    have := H.nw
    omega
  have hat6 : s.cfg.attempts ≤ 6 := hI.cfg.a1
  have HST := hide (fun w' V' U' W' (hX : WAll w' s W' V' U') => rep_step (hedge_all U'.x s.cfg) hX.pr hI (by omega) (sp_of hI H.held.i2) (by omega) ⟨2, call, attempt, value, timeout, safe, draw, tt⟩ evok)
  have hcfg : (stepM s ⟨2, call, attempt, value, timeout, safe, draw, tt⟩).cfg = s.cfg := stepM_cfg _ _
  generalize stepA s ⟨2, call, attempt, value, timeout, safe, draw, tt⟩ = acts at hr HST
  generalize stepM s ⟨2, call, attempt, value, timeout, safe, draw, tt⟩ = s2 at hk HST hcfg ⊢
  have HATO : Hid (∀ (m : Nat) (x : WAtt), W2.atts[m]? = some x → x.opn = true → ∃ c, W2.calls[x.call]? = some c ∧ c.opn = true) := fun m x hx ho => by
    obtain ⟨a, ha, c, _, hB⟩ := hk.held.rel.att_call hx ho
    exact ⟨c, hB.1, hB.2.1⟩
  have hbA : Below w.heap.size w (w.alloc (.cells #[.int .i64 2, .int .i64 call, .int .i64 attempt, .int .i64 value, .int .i64 timeout, .bool safe, .int .u64 draw, .int .i64 tt] 39)) := (Below.refl _ _).alloc (Nat.le_refl _) _
  have hAA := hA.on hbA
  have b0 : (w.alloc (.cells #[.int .i64 2, .int .i64 call, .int .i64 attempt, .int .i64 value, .int .i64 timeout, .bool safe, .int .u64 draw, .int .i64 tt] 39)).cell? ⟨w.heap.size, 0, none⟩ = some (.int .i64 2) := by simp
  have b1 : (w.alloc (.cells #[.int .i64 2, .int .i64 call, .int .i64 attempt, .int .i64 value, .int .i64 timeout, .bool safe, .int .u64 draw, .int .i64 tt] 39)).cell? ⟨w.heap.size, 1, none⟩ = some (.int .i64 call) := by simp
  have b2 : (w.alloc (.cells #[.int .i64 2, .int .i64 call, .int .i64 attempt, .int .i64 value, .int .i64 timeout, .bool safe, .int .u64 draw, .int .i64 tt] 39)).cell? ⟨w.heap.size, 2, none⟩ = some (.int .i64 attempt) := by simp
  have b3 : (w.alloc (.cells #[.int .i64 2, .int .i64 call, .int .i64 attempt, .int .i64 value, .int .i64 timeout, .bool safe, .int .u64 draw, .int .i64 tt] 39)).cell? ⟨w.heap.size, 3, none⟩ = some (.int .i64 value) := by simp
  have b4 : (w.alloc (.cells #[.int .i64 2, .int .i64 call, .int .i64 attempt, .int .i64 value, .int .i64 timeout, .bool safe, .int .u64 draw, .int .i64 tt] 39)).cell? ⟨w.heap.size, 4, none⟩ = some (.int .i64 timeout) := by simp
  have b5 : (w.alloc (.cells #[.int .i64 2, .int .i64 call, .int .i64 attempt, .int .i64 value, .int .i64 timeout, .bool safe, .int .u64 draw, .int .i64 tt] 39)).cell? ⟨w.heap.size, 5, none⟩ = some (.bool safe) := by simp
  have b6 : (w.alloc (.cells #[.int .i64 2, .int .i64 call, .int .i64 attempt, .int .i64 value, .int .i64 timeout, .bool safe, .int .u64 draw, .int .i64 tt] 39)).cell? ⟨w.heap.size, 6, none⟩ = some (.int .u64 draw) := by simp
  have b7 : (w.alloc (.cells #[.int .i64 2, .int .i64 call, .int .i64 attempt, .int .i64 value, .int .i64 timeout, .bool safe, .int .u64 draw, .int .i64 tt] 39)).cell? ⟨w.heap.size, 7, none⟩ = some (.int .i64 tt) := by simp
  have lbx : w.heap.size < (w.alloc (.cells #[.int .i64 2, .int .i64 call, .int .i64 attempt, .int .i64 value, .int .i64 timeout, .bool safe, .int .u64 draw, .int .i64 tt] 39)).heap.size := by simp
  obtain ⟨fv, fu⟩ := hA.fresh (Nat.le_refl _)
  have HXA := hide (XMv.of_below (V := V) (U := U) hbA)
  have HAA := hide hAA
  have aq := hAA.wr.kk 13 _ rfl
  have xq := hAA.wr.kk 0 _ rfl
  obtain ⟨A, capa, hea, -, -, -⟩ := hAA.wr.ra.form
  have HEA := hide hea
  have HATT := hide (fun m x (hx : W.atts[m]? = some x) => hAA.wr.att_at hx)
  rw [hea] at aq
  have HNO := hide hno
  have HRUN := hide hr
  have HFV := hide fv
  have HFU := hide fu
  have HOK := hide ok
  have HCF := hide hcfg
  clear hno hA hAA hbA hea hr hk hI H ok fv fu evok hcfg
  go_enter Tryz.func24, Tryz.ntmps24
  go_upto_region 17 with fail
  generalize (w.alloc (.cells #[.int .i64 2, .int .i64 call, .int .i64 attempt, .int .i64 value, .int .i64 timeout, .bool safe, .int .u64 draw, .int .i64 tt] 39)) = wA at b0 b1 b2 b3 b4 b5 b6 b7 lbx HXA HAA HATT aq xq ⊢
  generalize w.heap.size = bx at b0 b1 b2 b3 b4 b5 b6 b7 lbx HFV HFU ⊢
  obtain ⟨q, HUq⟩ : ∃ q, Hid (U.q = q) := ⟨_, rfl⟩
  rw [show U.q = q from HUq.out] at aq xq ⊢
  have hal0 : (0 : Int) ≤ (W.atts.length : Int) := by omega
  go_cut [184] (fun c wx => c = .bool false ∧ ∃ n, wx = wA.drewN n)
  case first =>
    as_aux_lemma =>
      rcases HNO.out with ha | ha | ⟨m, x, rfl, hx, hxo⟩
      · have g1 : decide (attempt > 0) = false := decide_eq_false (by omega)
        have g1' : decide (0 < attempt) = false := decide_eq_false (by omega)
        go_big_quiet (fail)
        go_wp2_with fail
        go_meet
        exact ⟨rfl, _, rfl⟩
      · have g1 : decide (attempt > 0) = true := decide_eq_true (by omega)
        have g1' : decide (0 < attempt) = true := decide_eq_true (by omega)
        have g2 : decide (attempt ≤ (W.atts.length : Int)) = false := decide_eq_false (by omega)
        go_big_quiet (fail)
        go_wp2_with fail
        go_meet
        exact ⟨rfl, _, rfl⟩
      · obtain ⟨g, cap, hv, ho, hil, a0, a1, a2, -⟩ := HATT.out m x hx
        have hAg : A = some ⟨g, 0, none⟩ := by
          have h9 := HEA.out.symm.trans hv
          injection h9
        subst hAg
        have hwm : IntKind.i64.wrap (m : Int) = (m : Int) := by rw [IntKind.wrap_i64]; omega
        have hml : (m : Int) < (W.atts.length : Int) := by omega
        have g1 : decide ((m : Int) + 1 > 0) = true := decide_eq_true (by omega)
        have g1' : decide (0 < (m : Int) + 1) = true := decide_eq_true (by omega)
        have g2 : decide ((m : Int) + 1 ≤ (W.atts.length : Int)) = true := decide_eq_true (by omega)
        obtain ⟨xc, xa, xo⟩ := x
        dsimp only at a0 a1 a2 hxo
        subst hxo
        go_big_quiet (fail)
        go_wp2_with fail
        go_meet
        exact ⟨rfl, _, rfl⟩
  case rest =>
    obtain ⟨rfl, nq, rfl⟩ := hcut
    go_wp2_with fail
    have HX1 := hide (HAA.out.on (below_drewN wA nq))
    have HM1 := hide (HXA.out.trans (XMv.of_below (below_drewN wA nq)))
    have hbq : ∀ j, (wA.drewN nq).cell? ⟨bx, j, none⟩ = wA.cell? ⟨bx, j, none⟩ := fun _ => rfl
    have xq' : (wA.drewN nq).cell? ⟨q, 0, none⟩ = some (.pointer (some ⟨U.x, 0, none⟩)) := xq
    have d0 : (wA.drewN nq).cell? ⟨bx, 0, none⟩ = some (.int .i64 2) := b0
    have d1 : (wA.drewN nq).cell? ⟨bx, 1, none⟩ = some (.int .i64 call) := b1
    have d2 : (wA.drewN nq).cell? ⟨bx, 2, none⟩ = some (.int .i64 attempt) := b2
    have d3 : (wA.drewN nq).cell? ⟨bx, 3, none⟩ = some (.int .i64 value) := b3
    have d4 : (wA.drewN nq).cell? ⟨bx, 4, none⟩ = some (.int .i64 timeout) := b4
    have d5 : (wA.drewN nq).cell? ⟨bx, 5, none⟩ = some (.bool safe) := b5
    have d6 : (wA.drewN nq).cell? ⟨bx, 6, none⟩ = some (.int .u64 draw) := b6
    have d7 : (wA.drewN nq).cell? ⟨bx, 7, none⟩ = some (.int .i64 tt) := b7
    have lb' : bx < (wA.drewN nq).heap.size := lbx
    clear hbq b0 b1 b2 b3 b4 b5 b6 b7 aq xq lbx HAA HXA
    generalize wA.drewN nq = w1 at HX1 HM1 xq' d0 d1 d2 d3 d4 d5 d6 d7 lb' ⊢
    have HXD := hide (fun w' (hb : Below w1.heap.size w1 w') => HX1.out.on hb)
    have HMD := hide (fun w' (hb : Below w1.heap.size w1 w') => HM1.out.trans (XMv.of_below (V := V) (U := U) hb))
    unfold evV at HST
    dsimp only at HST
    have HSD := hide (fun w' (hb : Below w1.heap.size w1 w') => HST.out w' V U W (HXD.out w' hb))
    have d0h := hide d0
    clear HST
    go_cut [11] (fun v wx => ∃ V2, Row wx w1.heap.size 55 6 encAct v acts ∧ WAll wx s2 W V2 U ∧ XMv V U w V2 U wx ∧ (∀ k, v.ownBlock = some k → 7 ≤ V2.tag k) ∧ 7 ≤ V2.tag bx ∧ wx.heap[bx]? = w1.heap[bx]?)
    case first =>
      as_aux_lemma =>
        go_region_with (first
          | (go_at_call 20; refine (HSD.out _ (by first | exact (Below.refl _ _).drew | exact Below.refl _ _)).mono ?_; rintro e w2 ⟨v, V2, rfl, hrow, hp2, hm2, ht2⟩; have HG : Hid (∃ V2, Row w2 w1.heap.size 55 6 encAct v acts ∧ WAll w2 s2 W V2 U ∧ XMv V U w V2 U w2 ∧ (∀ k, v.ownBlock = some k → 7 ≤ V2.tag k) ∧ 7 ≤ V2.tag bx ∧ w2.heap[bx]? = w1.heap[bx]?) := ⟨V2, hrow, (HXD.out _ (by first | exact (Below.refl _ _).drew | exact Below.refl _ _)).step hp2 hm2 HCF.out, (HMD.out _ (by first | exact (Below.refl _ _).drew | exact Below.refl _ _)).trans (XMv.ofP U hm2), ht2, hm2.tag7 lb' HFV.out, hm2.block bx lb' HFV.out⟩; clear hrow hp2 hm2 ht2))
        all_goals
          go_wp2_with fail
          go_meet
          exact HG.out
    case rest =>
      obtain ⟨V2, hrow, hX2, hM2, ht2, h7, hbx⟩ := hcut
      obtain ⟨A8, cap8, rfl, hml, -, -⟩ := hrow.form
      unfold maxLen at hml
      have hml' : (acts.length : Int) ≤ 9223372036854775807 := by omega
      have HBX := hide (fun j => World.cell?_of_block (a := ⟨bx, j, none⟩) hbx)
      have hz : ∀ k, (Value.slice A8 acts.length cap8).ownBlock = some k → 7 ≤ V2.tag k ∧ 5 ≤ U.tag k := fun k hk => by
        refine ⟨ht2 k hk, ?_⟩
        rcases Nat.lt_or_ge (U.tag k) 5 with h1 | h1
        · have := HX1.out.wr.tl k h1
          have := (hrow.lt k hk).1
          omega
        · exact h1
      have HROW := hide hrow
      have HX2 := hide hX2
      have HM2 := hide hM2
      have HZ := hide hz
      have HHB := hide hbx
      have H7 := hide h7
      have hqx : wc.cell? ⟨q, 11, none⟩ = some (.int .i64 W.now) := by rw [← show U.q = q from HUq.out]; exact hX2.wr.kk 11 _ rfl
      clear hrow hX2 hM2 ht2 h7 hz hbx hml
      go_wp2_with fail
      go_loopg [12] acts.length (fun gk iv wr => ∃ (j : Nat) (Wj : WSt) (Uj : WV), gk = acts.length - j ∧ iv = .int .i64 j ∧ j ≤ acts.length ∧ WAll wr s2 Wj V2 Uj ∧ Run s.cfg.attempts false tt Wj (acts.drop j) W2 ∧ WOk Wj ∧ Wj.calls.length ≤ 100000 ∧ 0 ≤ Wj.now ∧ XMv V U w V2 Uj wr ∧ 5 ≤ Uj.tag bx ∧ Row wr w1.heap.size 55 6 encAct (.slice A8 acts.length cap8) acts ∧ (∀ k, (Value.slice A8 acts.length cap8).ownBlock = some k → 7 ≤ V2.tag k ∧ 5 ≤ Uj.tag k) ∧ wr.heap[bx]? = w1.heap[bx]?)
      case atStart => exact ⟨0, W, U, rfl, rfl, Nat.zero_le _, HX2.out, HRUN.out, HOK.out, hcl, hnw, HM2.out, HFU.out, HROW.out, HZ.out, HHB.out⟩
      case round =>
        as_aux_lemma =>
          obtain ⟨j, Wj, Uj, hgk, rfl, hj, hX, hR, hO, hC, hn, hM, h5, hrow, hz, hbb⟩ := hrel
          have hq : Uj.q = q := hM.q.trans HUq.out
          have e0 := (World.cell?_of_block (a := ⟨bx, 0, none⟩) hbb).trans d0
          by_cases hlt : (j : Int) < (acts.length : Int)
          · have hjl : j < acts.length := by omega
            obtain ⟨g, hAg⟩ : ∃ g, A8 = some ⟨g, 0, none⟩ := by
              obtain ⟨A9, c9, h9, _, h8, _⟩ := hrow.form
              obtain ⟨g, hg⟩ := h8 j hjl
              injection h9 with h9 _ _
              exact ⟨g, h9.trans hg⟩
            subst hAg
            rw [List.drop_eq_getElem_cons hjl] at hR
            have qa0 := (hrow.cell encAct_len (g := g) (i := j) (j := 0) rfl hjl rfl).1
            have qa1 := (hrow.cell encAct_len (g := g) (i := j) (j := 1) rfl hjl rfl).1
            have qa2 := (hrow.cell encAct_len (g := g) (i := j) (j := 2) rfl hjl rfl).1
            have qa3 := (hrow.cell encAct_len (g := g) (i := j) (j := 3) rfl hjl rfl).1
            have qa4 := (hrow.cell encAct_len (g := g) (i := j) (j := 4) rfl hjl rfl).1
            have qa5 := (hrow.cell encAct_len (g := g) (i := j) (j := 5) rfl hjl rfl).1
            simp only [Nat.add_zero] at qa0
            have hlen := run_len hR
            obtain ⟨W9, hS, hR9⟩ : ∃ W9, See s.cfg.attempts Wj.now Wj acts[j] W9 ∧ Run s.cfg.attempts false tt W9 (acts.drop (j + 1)) W2 := by
              cases hR with
              | now _ _ _ W9 _ _ hs hr => exact ⟨W9, hs, hr⟩
              | adv _ _ _ _ _ _ ha => cases ha
            have HSE := hide (wsees_any hX.wr hO (by omega) (by omega) (by rw [HCF.out]; exact hS) hn)
            have nq' := hX.wr.kk 11 _ rfl
            rw [hq] at HSE nq'
            have hO9 := see_ok hat6 hS hO
            have hL9 := see_len hS
            have HO9 := hide hO9
            have HC9 := hide (show W9.calls.length ≤ 100000 by omega)
            have hn9 : W9.now = Wj.now := by cases hS <;> rfl
            have HN9 := hide (show 0 ≤ W9.now by omega)
            have HR9 := hide hR9
            have HX := hide hX
            have HMj := hide hM
            have H5 := hide h5
            have HRW := hide hrow
            have HZJ := hide hz
            have HBB := hide hbb
            unfold actV at HSE
            generalize acts[j] = a at qa0 qa1 qa2 qa3 qa4 qa5 HSE
            obtain ⟨ak, ac, aa, ao, av, al⟩ := a
            dsimp only at qa0 qa1 qa2 qa3 qa4 qa5 HSE
            clear hR hS hO hX hM h5 hrow hz hbb hR9 hO9 hL9 hn9 hlen
            go_wp2_with fail
            refine HSE.out.mono ?_
            rintro e w3 ⟨rfl, U9, hW9, hM9⟩
            have hX9 := HX.out.seen hW9 hM9
            have HX9 := hide hX9
            have HM9 := hide hM9
            clear hX9 hW9 hM9
            go_wp2_with fail
            go_roundg (acts.length - (j + 1))
            case measure => omega
            case rel =>
              have hU : ∀ k, k < wr.heap.size → 5 ≤ Uj.tag k → 5 ≤ U9.tag k := fun k hk h5 => by
                rcases Nat.lt_or_ge (U9.tag k) 5 with h1 | h1
                · rcases HM9.out.news k h1 with h2 | h2 <;> omega
                · exact h1
              have hbr : bx < wr.heap.size := World.block_lt_of_cell? wr _ e0
              exact ⟨j + 1, W9, U9, rfl, by go_num, by omega, HX9.out, HR9.out, HO9.out, HC9.out, HN9.out, HMj.out.trans (XMv.ofW V2 HM9.out), hU bx hbr H5.out, HRW.out.same (fun k hk => HM9.out.block k (HRW.out.lt k hk).2 (HZJ.out k hk).2), fun k hk => ⟨(HZJ.out k hk).1, hU k (HRW.out.lt k hk).2 (HZJ.out k hk).2⟩, (HM9.out.block bx hbr H5.out).trans HBB.out⟩
          · have hWj : Wj = W2 := by
              rw [List.drop_of_length_le (by omega)] at hR
              cases hR
              rfl
            subst hWj
            have hXD := hide (fun n => hX.on (below_drewN wr n))
            have hMD := hide (fun n => hM.trans (XMv.of_below (V := V2) (U := Uj) (below_drewN wr n)))
            have lenA : (Wj.atts.length : Int) ≤ 300006 := hal2
            clear hX hM hR hO hrow hz hbb h5
            go_wp2_with fail
            go_big_quiet (fail)
            go_wp2_with fail
            go_loopg [16] Wj.atts.length (fun gk iv wz => ∃ (j : Nat), gk = Wj.atts.length - j ∧ iv = .int .i64 j ∧ j ≤ Wj.atts.length ∧ WAll wz s2 Wj V2 Uj ∧ XMv V U w V2 Uj wz)
            case atStart => exact ⟨0, rfl, rfl, Nat.zero_le _, hXD.out _, hMD.out _⟩
            case round =>
              as_aux_lemma =>
                obtain ⟨i, hgi, rfl, hi, hX, hM⟩ := hrel
                have aq := hX.wr.kk 13 _ rfl
                have cq := hX.wr.kk 12 _ rfl
                rw [hq] at aq cq
                have HXI := hide (fun n => hX.on (below_drewN wr n))
                have HMI := hide (fun n => hM.trans (XMv.of_below (V := V2) (U := Uj) (below_drewN wr n)))
                by_cases hil : (i : Int) < (Wj.atts.length : Int)
                · have hin : i < Wj.atts.length := by omega
                  obtain ⟨ga, capa', hea, _, _, a0, a1, a2, _⟩ := hX.wr.att_at (List.getElem?_eq_getElem hin)
                  rw [hea] at aq
                  have hao := HATO.out i _ (List.getElem?_eq_getElem hin)
                  generalize Wj.atts[i] = x at a0 a1 a2 hao
                  obtain ⟨xc, xa, xo⟩ := x
                  dsimp only at a0 a1 a2 hao
                  cases xo with
                  | false =>
                    clear hao hX hM hea
                    go_wp2_with fail
                    go_big_quiet (fail)
                    go_wp2_with fail
                    go_roundg (Wj.atts.length - (i + 1))
                    case measure => omega
                    case rel => exact ⟨i + 1, rfl, by go_num, by omega, HXI.out _, HMI.out _⟩
                  | true =>
                    obtain ⟨c, hc, ho⟩ := hao rfl
                    obtain ⟨gc, capc', hec, _, hcl', c0, c1, c2, c3, c4, c5, _⟩ := hX.wr.call_at hc
                    rw [hec] at cq
                    rw [ho] at c4
                    have hcl2 : (xc : Int) < (Wj.calls.length : Int) := by omega
                    clear hX hM hea hec hc c0 c1 c2 c3 c5 hcl' ho
                    go_wp2_with fail
                    go_big_quiet (fail)
                    go_wp2_with fail
                    go_roundg (Wj.atts.length - (i + 1))
                    case measure => omega
                    case rel => exact ⟨i + 1, rfl, by go_num, by omega, HXI.out _, HMI.out _⟩
                · obtain ⟨Aa, capa', hea, -, -, -⟩ := hX.wr.ra.form
                  rw [hea] at aq
                  have HXE := hide hX
                  have HME := hide hM
                  clear hX hM hea
                  go_wp2_with fail
                  go_ret
                  exact ⟨rfl, V2, Uj, HXE.out, HME.out⟩
end Go.Proofs.YtlccfpbbdgpjbaaGreatDoor
