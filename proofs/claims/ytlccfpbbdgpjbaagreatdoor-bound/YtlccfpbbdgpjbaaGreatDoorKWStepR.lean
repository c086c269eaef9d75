import Derived.Test.YtlccfpbbdgpjbaaGreatDoorKWMv
import Derived.Deep.RegionWith
namespace Go.Proofs.YtlccfpbbdgpjbaaGreatDoor
open Go.RowKit
attribute [local go_sem ↓] Go.wp_at_zero Go.wp_at_succ

set_option maxRecDepth 100000 in
set_option maxHeartbeats 40000000 in
theorem wstep_refuse {Bd : PSt → List Int → List Int → Prop} {N : Int} {w : World} {s : PSt} {W : WSt} {V : PV} {U : WV} (hA : WAll w s W V U) (hI : Inv N s) (hN : N ≤ 50000) (H : Kept Bd s W) (ok : WOk W) (hcl : W.calls.length ≤ 100000) (hst : s.stale ≤ 1000000) (call attempt value timeout : Int) (safe : Bool) (draw tt : Int) (evok : EvOk ⟨1, call, attempt, value, timeout, safe, draw, tt⟩) (t0 : 1 ≤ timeout) (t1 : timeout ≤ 150)
    (hw : whyM s ⟨1, call, attempt, value, timeout, safe, draw, tt⟩ ≠ 0) :
    Calls Tryz.prog 24 #[.pointer (some ⟨U.q, 0, none⟩), .agg #[.int .i64 1, .int .i64 call, .int .i64 attempt, .int .i64 value, .int .i64 timeout, .bool safe, .int .u64 draw, .int .i64 tt]] w fun ex w' => ex = .returned (.bool true) ∧ ∃ V' U', WAll w' (stepM s ⟨1, call, attempt, value, timeout, safe, draw, tt⟩) W V' U' ∧ XMv V U w V' U' w' := by
  have hmay := may_iff hI H ⟨1, call, attempt, value, timeout, safe, draw, tt⟩
  obtain ⟨eA, hsee, -⟩ := kept_refuse H ⟨1, call, attempt, value, timeout, safe, draw, tt⟩ rfl hw
  have HMY := hide (fun h => hw (hmay.2 h))
  dsimp only at eA hsee HMY
  have hal : (W.atts.length : Int) ≤ 300000 := by
    have := H.held.rel.al
    have := hI.lN
    omega
  have hnow0 : 0 ≤ W.now := by have := hI.n0; have := H.nw; omega
  have hnow1 : W.now ≤ 1099511627776 := by have := hI.n1; have := H.nw; omega
  have HST := hide (fun w' V' U' W' (hX : WAll w' s W' V' U') => rep_step (hedge_all U'.x s.cfg) hX.pr hI (by omega) (sp_of hI H.held.i2) (by omega) ⟨1, call, attempt, value, timeout, safe, draw, tt⟩ evok)
  rw [eA] at HST
  have hcfg : (stepM s ⟨1, call, attempt, value, timeout, safe, draw, tt⟩).cfg = s.cfg := stepM_cfg _ _
  have HCF := hide hcfg
  generalize whyM s ⟨1, call, attempt, value, timeout, safe, draw, tt⟩ = why at HST hsee
  generalize stepM s ⟨1, call, attempt, value, timeout, safe, draw, tt⟩ = s2 at HST HCF ⊢
  have hbA : Below w.heap.size w (w.alloc (.cells #[.int .i64 1, .int .i64 call, .int .i64 attempt, .int .i64 value, .int .i64 timeout, .bool safe, .int .u64 draw, .int .i64 tt] 39)) := (Below.refl _ _).alloc (Nat.le_refl _) _
  have hAA := hA.on hbA
  have b0 : (w.alloc (.cells #[.int .i64 1, .int .i64 call, .int .i64 attempt, .int .i64 value, .int .i64 timeout, .bool safe, .int .u64 draw, .int .i64 tt] 39)).cell? ⟨w.heap.size, 0, none⟩ = some (.int .i64 1) := by simp
  have b1 : (w.alloc (.cells #[.int .i64 1, .int .i64 call, .int .i64 attempt, .int .i64 value, .int .i64 timeout, .bool safe, .int .u64 draw, .int .i64 tt] 39)).cell? ⟨w.heap.size, 1, none⟩ = some (.int .i64 call) := by simp
  have b2 : (w.alloc (.cells #[.int .i64 1, .int .i64 call, .int .i64 attempt, .int .i64 value, .int .i64 timeout, .bool safe, .int .u64 draw, .int .i64 tt] 39)).cell? ⟨w.heap.size, 2, none⟩ = some (.int .i64 attempt) := by simp
  have b3 : (w.alloc (.cells #[.int .i64 1, .int .i64 call, .int .i64 attempt, .int .i64 value, .int .i64 timeout, .bool safe, .int .u64 draw, .int .i64 tt] 39)).cell? ⟨w.heap.size, 3, none⟩ = some (.int .i64 value) := by simp
  have b4 : (w.alloc (.cells #[.int .i64 1, .int .i64 call, .int .i64 attempt, .int .i64 value, .int .i64 timeout, .bool safe, .int .u64 draw, .int .i64 tt] 39)).cell? ⟨w.heap.size, 4, none⟩ = some (.int .i64 timeout) := by simp
  have b5 : (w.alloc (.cells #[.int .i64 1, .int .i64 call, .int .i64 attempt, .int .i64 value, .int .i64 timeout, .bool safe, .int .u64 draw, .int .i64 tt] 39)).cell? ⟨w.heap.size, 5, none⟩ = some (.bool safe) := by simp
  have b6 : (w.alloc (.cells #[.int .i64 1, .int .i64 call, .int .i64 attempt, .int .i64 value, .int .i64 timeout, .bool safe, .int .u64 draw, .int .i64 tt] 39)).cell? ⟨w.heap.size, 6, none⟩ = some (.int .u64 draw) := by simp
  have b7 : (w.alloc (.cells #[.int .i64 1, .int .i64 call, .int .i64 attempt, .int .i64 value, .int .i64 timeout, .bool safe, .int .u64 draw, .int .i64 tt] 39)).cell? ⟨w.heap.size, 7, none⟩ = some (.int .i64 tt) := by simp
  have lbx : w.heap.size < (w.alloc (.cells #[.int .i64 1, .int .i64 call, .int .i64 attempt, .int .i64 value, .int .i64 timeout, .bool safe, .int .u64 draw, .int .i64 tt] 39)).heap.size := by simp
  obtain ⟨fv, fu⟩ := hA.fresh (Nat.le_refl _)
  have HXA := hide (XMv.of_below (V := V) (U := U) hbA)
  have HAA := hide hAA
  have cq := hAA.wr.kk 12 _ rfl
  have nq0 := hAA.wr.kk 11 _ rfl
  have fq0 := hAA.wr.kk 6 _ rfl
  have xq0 := hAA.wr.kk 0 _ rfl
  obtain ⟨A, capc, hec, -, hAf, -⟩ := hAA.wr.rc.form
  have HB : Hid (∀ i (h : i < W.calls.length), ∃ g, A = some ⟨g, 0, none⟩ ∧ (w.alloc (.cells #[.int .i64 1, .int .i64 call, .int .i64 attempt, .int .i64 value, .int .i64 timeout, .bool safe, .int .u64 draw, .int .i64 tt] 39)).cell? ⟨g, i * 6 + 4, none⟩ = some (.bool W.calls[i].opn)) := fun i hi => by
    obtain ⟨g, rfl⟩ := hAf i hi
    have ho : U.vc.ownBlock = some g := by rw [hec]; rfl
    exact ⟨g, rfl, (hAA.wr.rc.cell encWC_len (g := g) (j := 4) ho hi rfl).1⟩
  rw [hec] at cq
  have HFI := hide (wfind_any hAA.wr call (by omega))
  have HSEE := hide hsee
  have HFV := hide fv
  have HFU := hide fu
  have HOK := hide ok
  clear hA hAA hbA hec hI H ok fv fu evok hw hmay eA hsee hAf hcfg
  go_enter Tryz.func24, Tryz.ntmps24
  go_wp2_with fail
  generalize (w.alloc (.cells #[.int .i64 1, .int .i64 call, .int .i64 attempt, .int .i64 value, .int .i64 timeout, .bool safe, .int .u64 draw, .int .i64 tt] 39)) = wA at b0 b1 b2 b3 b4 b5 b6 b7 lbx HXA HAA cq nq0 fq0 xq0 HB HFI ⊢
  generalize w.heap.size = bx at b0 b1 b2 b3 b4 b5 b6 b7 lbx HFV HFU ⊢
  obtain ⟨q, HUq⟩ : ∃ q, Hid (U.q = q) := ⟨_, rfl⟩
  rw [show U.q = q from HUq.out] at cq nq0 fq0 xq0 HFI ⊢
  refine HFI.out.mono ?_
  rintro e w1 ⟨⟨r, rfl, hr⟩, rfl⟩
  have HFR := hide hr
  clear hr HFI
  go_wp2_with fail
  go_loop [6, 7] (fun nv kv => ∃ j : Nat, j ≤ W.calls.length ∧ nv = .int .i64 (((W.calls.take j).filter (·.opn)).length : Int) ∧ kv = .int .i64 j) (fun _ kv => W.calls.length - (intOf kv).toNat)
  case atStart => exact ⟨0, Nat.zero_le _, rfl, rfl⟩
  case round =>
    obtain ⟨j, hj, rfl, rfl⟩ := hrel
    have hle : ((W.calls.take j).filter (·.opn)).length ≤ j := Nat.le_trans (List.length_filter_le _ _) (by rw [List.length_take]; omega)
    by_cases hlt : (j : Int) < (W.calls.length : Int)
    · have hjl : j < W.calls.length := by omega
      obtain ⟨g, rfl, c4⟩ := HB.out j hjl
      have HS := hide (filter_snoc (fun c : WCall => c.opn) W.calls j hjl)
      generalize W.calls[j] = c at c4 HS
      obtain ⟨c1, c2, c3, c5, op, c6⟩ := c
      dsimp only at c4 HS
      generalize ((W.calls.take j).filter (·.opn)) = L at HS hle ⊢
      cases op with
      | false =>
        go_wp2_with fail
        go_round
        case rel => exact ⟨j + 1, by omega, by rw [HS.out]; simp, by go_num⟩
        case measure => simp [intOf]; omega
      | true =>
        go_wp2_with fail
        go_round
        case rel => exact ⟨j + 1, by omega, by rw [HS.out]; simp, by go_num⟩
        case measure => simp [intOf]; omega
    · have hall : W.calls.take j = W.calls := List.take_of_length_le (by omega)
      rw [hall] at hle ⊢
      have hcase : (∃ (i : Nat), r = (i : Int)) ∨ (r = -1 ∧ s.cfg.flight ≤ ((W.calls.filter (·.opn)).length : Int)) ∨ (r = -1 ∧ ((W.calls.filter (·.opn)).length : Int) < s.cfg.flight ∧ 1099511627776 < W.now + timeout) := by
        rcases HFR.out with ⟨h1, h2⟩ | ⟨i, c, h1, _⟩
        · by_cases h3 : ((W.calls.filter (·.opn)).length : Int) < s.cfg.flight
          · by_cases h4 : W.now + timeout ≤ 1099511627776
            · exact absurd ⟨h2, h3, by show 0 < timeout; omega, by show timeout ≤ 10000; omega, h4⟩ HMY.out
            · exact .inr (.inr ⟨h1, h3, by omega⟩)
          · exact .inr (.inl ⟨h1, by omega⟩)
        · exact .inl ⟨i, h1⟩
      have HCASE := hide hcase
      clear hcase
      generalize ((W.calls.filter (·.opn)).length) = cnt at HCASE hle ⊢
      go_upto_region 9 with fail
      go_cut [8] (fun mv wx => mv = .bool false ∧ ∃ n9, wx = w1.drewN n9)
      case first =>
        as_aux_lemma =>
          rcases HCASE.out with ⟨i, rfl⟩ | ⟨rfl, h2⟩ | ⟨rfl, h2, h3⟩
          · have g1 : decide ((i : Int) < 0) = false := decide_eq_false (by omega)
            go_big_quiet (fail)
            go_wp2_with fail
            go_meet
            exact ⟨rfl, _, rfl⟩
          · have g2 : decide ((cnt : Int) < s.cfg.flight) = false := decide_eq_false (by omega)
            go_big_quiet (fail)
            go_wp2_with fail
            go_meet
            exact ⟨rfl, _, rfl⟩
          · have g2 : decide ((cnt : Int) < s.cfg.flight) = true := decide_eq_true (by omega)
            have g3 : decide (timeout > 0) = true := decide_eq_true (by omega)
            have g3' : decide (0 < timeout) = true := decide_eq_true (by omega)
            have g4 : decide (timeout ≤ 10000) = true := decide_eq_true (by omega)
            have g5 : IntKind.i64.wrap (W.now + timeout) = W.now + timeout := by rw [IntKind.wrap_i64]; omega
            have g6 : decide (W.now + timeout ≤ 1099511627776) = false := decide_eq_false (by omega)
            go_big_quiet (fail)
            go_wp2_with fail
            go_meet
            exact ⟨rfl, _, rfl⟩
      case rest =>
        obtain ⟨rfl, n9, rfl⟩ := hcut
        have HX1 := hide (HAA.out.on (below_drewN w1 n9))
        have HM1 := hide (HXA.out.trans (XMv.of_below (below_drewN w1 n9)))
        have xq' : (w1.drewN n9).cell? ⟨q, 0, none⟩ = some (.pointer (some ⟨U.x, 0, none⟩)) := xq0
        have d0 : (w1.drewN n9).cell? ⟨bx, 0, none⟩ = some (.int .i64 1) := b0
        have d1 : (w1.drewN n9).cell? ⟨bx, 1, none⟩ = some (.int .i64 call) := b1
        have d2 : (w1.drewN n9).cell? ⟨bx, 2, none⟩ = some (.int .i64 attempt) := b2
        have d3 : (w1.drewN n9).cell? ⟨bx, 3, none⟩ = some (.int .i64 value) := b3
        have d4 : (w1.drewN n9).cell? ⟨bx, 4, none⟩ = some (.int .i64 timeout) := b4
        have d5 : (w1.drewN n9).cell? ⟨bx, 5, none⟩ = some (.bool safe) := b5
        have d6 : (w1.drewN n9).cell? ⟨bx, 6, none⟩ = some (.int .u64 draw) := b6
        have d7 : (w1.drewN n9).cell? ⟨bx, 7, none⟩ = some (.int .i64 tt) := b7
        have lb' : bx < (w1.drewN n9).heap.size := lbx
        clear b0 b1 b2 b3 b4 b5 b6 b7 cq nq0 fq0 xq0 lbx HAA HXA HB HCASE HFR HMY
        generalize w1.drewN n9 = w2 at HX1 HM1 xq' d0 d1 d2 d3 d4 d5 d6 d7 lb' ⊢
        have HXD := hide (fun w' (hb : Below w2.heap.size w2 w') => HX1.out.on hb)
        have HMD := hide (fun w' (hb : Below w2.heap.size w2 w') => HM1.out.trans (XMv.of_below (V := V) (U := U) hb))
        unfold evV at HST
        dsimp only at HST
        have HSD := hide (fun w' (hb : Below w2.heap.size w2 w') => HST.out w' V U W (HXD.out w' hb))
        clear HST
        go_wp2_with fail
        go_cut [9] (fun v wx => ∃ V2, Row wx w2.heap.size 55 6 encAct v [⟨4, call, 0, why, 0, 0⟩] ∧ WAll wx s2 W V2 U ∧ XMv V U w V2 U wx ∧ wx.heap[bx]? = w2.heap[bx]?)
        case first =>
          as_aux_lemma =>
            go_region_with (first
              | (go_at_call 20; refine (HSD.out _ (by first | exact (Below.refl _ _).drew | exact Below.refl _ _)).mono ?_; rintro e w3 ⟨v, V2, rfl, hrow, hp2, hm2, ht2⟩; have HG : Hid (∃ V2, Row w3 w2.heap.size 55 6 encAct v [⟨4, call, 0, why, 0, 0⟩] ∧ WAll w3 s2 W V2 U ∧ XMv V U w V2 U w3 ∧ w3.heap[bx]? = w2.heap[bx]?) := ⟨V2, hrow, (HXD.out _ (by first | exact (Below.refl _ _).drew | exact Below.refl _ _)).step hp2 hm2 HCF.out, (HMD.out _ (by first | exact (Below.refl _ _).drew | exact Below.refl _ _)).trans (XMv.ofP U hm2), hm2.block bx lb' HFV.out⟩; clear hrow hp2 hm2 ht2))
            all_goals
              go_wp2_with fail
              go_meet
              exact HG.out
        case rest =>
          obtain ⟨V2, hrow, hX2, hM2, hbx⟩ := hcut
          rename World => wx3
          obtain ⟨g, cap8, rfl, hob⟩ := hrow.at (by simp)
          have qa0 : wx3.cell? ⟨g, 0, none⟩ = some (.int .i64 4) := (hrow.cell encAct_len (g := g) (i := 0) (j := 0) hob (by simp) rfl).1
          have qa1 : wx3.cell? ⟨g, 1, none⟩ = some (.int .i64 call) := (hrow.cell encAct_len (g := g) (i := 0) (j := 1) hob (by simp) rfl).1
          have qa2 : wx3.cell? ⟨g, 2, none⟩ = some (.int .i64 0) := (hrow.cell encAct_len (g := g) (i := 0) (j := 2) hob (by simp) rfl).1
          have qa3 : wx3.cell? ⟨g, 3, none⟩ = some (.int .i64 why) := (hrow.cell encAct_len (g := g) (i := 0) (j := 3) hob (by simp) rfl).1
          have qa4 : wx3.cell? ⟨g, 4, none⟩ = some (.int .i64 0) := (hrow.cell encAct_len (g := g) (i := 0) (j := 4) hob (by simp) rfl).1
          have qa5 : wx3.cell? ⟨g, 5, none⟩ = some (.int .i64 0) := (hrow.cell encAct_len (g := g) (i := 0) (j := 5) hob (by simp) rfl).1
          have e1 : wx3.cell? ⟨bx, 1, none⟩ = some (.int .i64 call) := (World.cell?_of_block (a := ⟨bx, 1, none⟩) hbx).trans d1
          have hqn : wx3.cell? ⟨q, 11, none⟩ = some (.int .i64 W.now) := by rw [← show U.q = q from HUq.out]; exact hX2.wr.kk 11 _ rfl
          have HXE := hide (fun n => hX2.on (below_drewN wx3 n))
          have HME := hide (fun n => hM2.trans (XMv.of_below (V := V2) (U := U) (below_drewN wx3 n)))
          clear hrow hX2 hM2 hbx d0 d1 d2 d3 d4 d5 d6 d7 xq' lb' HXD HMD HSD HX1 HM1 hob
          simp only [List.length_singleton]
          go_upto_region 14 with fail
          go_cut [135] (fun cv wx => cv = .bool false ∧ ∃ n, wx = wx3.drewN n)
          case first =>
            as_aux_lemma =>
              go_big_quiet (fail)
              go_wp2_with fail
              go_meet
              exact ⟨rfl, _, rfl⟩
          case rest =>
            obtain ⟨rfl, n14, rfl⟩ := hcut
            have HXF := hide (HXE.out n14)
            have HMF := hide (HME.out n14)
            have r0 : (wx3.drewN n14).cell? ⟨g, 0, none⟩ = some (.int .i64 4) := qa0
            have r1 : (wx3.drewN n14).cell? ⟨g, 1, none⟩ = some (.int .i64 call) := qa1
            have r2 : (wx3.drewN n14).cell? ⟨g, 2, none⟩ = some (.int .i64 0) := qa2
            have r3 : (wx3.drewN n14).cell? ⟨g, 3, none⟩ = some (.int .i64 why) := qa3
            have r4 : (wx3.drewN n14).cell? ⟨g, 4, none⟩ = some (.int .i64 0) := qa4
            have r5 : (wx3.drewN n14).cell? ⟨g, 5, none⟩ = some (.int .i64 0) := qa5
            have rq : (wx3.drewN n14).cell? ⟨q, 11, none⟩ = some (.int .i64 W.now) := hqn
            clear qa0 qa1 qa2 qa3 qa4 qa5 hqn e1 HXE HME
            generalize wx3.drewN n14 = w4 at HXF HMF r0 r1 r2 r3 r4 r5 rq ⊢
            have HXG := hide (fun w' (hb : Below w4.heap.size w4 w') => HXF.out.on hb)
            have HMG := hide (fun w' (hb : Below w4.heap.size w4 w') => HMF.out.trans (XMv.of_below (V := V2) (U := U) hb))
            have HSE := hide (fun w' (hb : Below w4.heap.size w4 w') => wsees_any (HXG.out w' hb).wr HOK.out (by omega) (by omega) (by rw [HCF.out]; exact HSEE.out) hnow0)
            rw [show U.q = q from HUq.out] at HSE
            unfold actV at HSE
            dsimp only at HSE
            clear HXF HMF HSEE
            go_wp2_with fail
            go_region_with (first
              | (go_at_call 43; refine (HSE.out _ (by first | exact (Below.refl _ _).drew | exact Below.refl _ _)).mono ?_; rintro e w5 ⟨rfl, U9, hW9, hM9⟩; have HG : Hid (∃ V' U', WAll w5 s2 W V' U' ∧ XMv V U w V' U' w5) := ⟨V2, U9, (HXG.out _ (by first | exact (Below.refl _ _).drew | exact Below.refl _ _)).seen hW9 hM9, (HMG.out _ (by first | exact (Below.refl _ _).drew | exact Below.refl _ _)).trans (XMv.ofW V2 hM9)⟩; clear hW9 hM9))
            all_goals
              go_wp2_with fail
              go_ret
              exact ⟨rfl, HG.out⟩
end Go.Proofs.YtlccfpbbdgpjbaaGreatDoor
