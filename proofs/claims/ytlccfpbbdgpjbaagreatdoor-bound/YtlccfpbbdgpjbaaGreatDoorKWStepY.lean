import Derived.Test.YtlccfpbbdgpjbaaGreatDoorKWTail
import Derived.Deep.RegionHeld3
import Derived.Deep.AppendLies
import Derived.Deep.RegionWith
namespace Go.Proofs.YtlccfpbbdgpjbaaGreatDoor
open Go.RowKit
attribute [local go_sem ↓] Go.wp_at_zero Go.wp_at_succ

theorem code_swap {P : Program} {C D : Code} {Q : Exit → Act → World → Prop} {K : Act → World → Prop} (h : ∀ a w, Code.wp P C Q a w → K a w) (e : C = D) : ∀ a w, Code.wp P D Q a w → K a w := by
  subst e
  exact h

set_option maxRecDepth 100000 in
set_option maxHeartbeats 40000000 in
theorem wstep_admit {Bd : PSt → List Int → List Int → Prop} {N : Int} {w : World} {s : PSt} {W W2 : WSt} {V : PV} {U : WV} (hA : WAll w s W V U) (hI : Inv N s) (hN : N ≤ 50000) (H : Kept Bd s W) (ok : WOk W) (hcl : W.calls.length ≤ 100000) (hst : s.stale ≤ 1000000) (call attempt value timeout : Int) (safe : Bool) (draw tt : Int) (evok : EvOk ⟨1, call, attempt, value, timeout, safe, draw, tt⟩) (t0 : 1 ≤ timeout) (t1 : timeout ≤ 150) (ham : W.adm.length ≤ 100000)
    (hw : whyM s ⟨1, call, attempt, value, timeout, safe, draw, tt⟩ = 0) (eA : stepA s ⟨1, call, attempt, value, timeout, safe, draw, tt⟩ = [⟨1, call, s.launched + 1, 0, 0, s.now + timeout - s.now⟩]) (hsee : See s.cfg.attempts W.now (addW W ⟨1, call, attempt, value, timeout, safe, draw, tt⟩) ⟨1, call, s.launched + 1, 0, 0, s.now + timeout - s.now⟩ W2) :
    Calls Tryz.prog 24 #[.pointer (some ⟨U.q, 0, none⟩), .agg #[.int .i64 1, .int .i64 call, .int .i64 attempt, .int .i64 value, .int .i64 timeout, .bool safe, .int .u64 draw, .int .i64 tt]] w fun ex w' => ex = .returned (.bool true) ∧ ∃ V' U', WAll w' (stepM s ⟨1, call, attempt, value, timeout, safe, draw, tt⟩) W2 V' U' ∧ XMv V U w V' U' w' := by
  obtain ⟨i0, hi0, z0, z1, z2⟩ := info_parts Tryz.infoWC
  obtain ⟨i1, hi1, y0, y1, y2⟩ := info_parts Tryz.infoInt
  have hmay := (may_iff hI H ⟨1, call, attempt, value, timeout, safe, draw, tt⟩).1 hw
  have hok1 := addW_ok hI H ok ⟨1, call, attempt, value, timeout, safe, draw, tt⟩ hw
  have hw1 : addW W ⟨1, call, attempt, value, timeout, safe, draw, tt⟩ = ({ ({ W with calls := W.calls ++ [⟨call, W.now + timeout, 0, safe, true, false⟩] } : WSt) with adm := W.adm ++ [W.now] } : WSt) := rfl
  rw [hw1] at hok1 hsee
  dsimp only at hmay
  have HMY := hide hmay
  have HOK1 := hide hok1
  generalize s.launched + 1 = an at eA hsee
  generalize s.now + timeout - s.now = lf at eA hsee
  clear hw1 hok1
  have hal : (W.atts.length : Int) ≤ 300000 := by
    have := H.held.rel.al
    have := hI.lN
    omega
  have hnow0 : 0 ≤ W.now := by have := hI.n0; have := H.nw; omega
  have hnow1 : W.now ≤ 1099511627776 := by have := hI.n1; have := H.nw; omega
  have HST := hide (fun w' V' U' W' (hX : WAll w' s W' V' U') => rep_step (hedge_all U'.x s.cfg) hX.pr hI (by omega) (sp_of hI H.held.i2) (by omega) ⟨1, call, attempt, value, timeout, safe, draw, tt⟩ evok)
  rw [eA] at HST
  have hcfg : (stepM s ⟨1, call, attempt, value, timeout, safe, draw, tt⟩).cfg = s.cfg := stepM_cfg _ _
  have HCF := hide hcfg
  generalize stepM s ⟨1, call, attempt, value, timeout, safe, draw, tt⟩ = s2 at HST HCF ⊢
  have hbA : Below w.heap.size w (w.alloc (.cells #[.int .i64 1, .int .i64 call, .int .i64 attempt, .int .i64 value, .int .i64 timeout, .bool safe, .int .u64 draw, .int .i64 tt] 39)) := (Below.refl _ _).alloc (Nat.le_refl _) _
  have hAA := hA.on hbA
  have b0 : (w.alloc (.cells #[.int .i64 1, .int .i64 call, .int .i64 attempt, .int .i64 value, .int .i64 timeout, .bool safe, .int .u64 draw, .int .i64 tt] 39)).cell? ⟨w.heap.size, 0, none⟩ = some (.int .i64 1) := by simp
  have b1 : (w.alloc (.cells #[.int .i64 1, .int .i64 call, .int .i64 attempt, .int .i64 value, .int .i64 timeout, .bool safe, .int .u64 draw, .int .i64 tt] 39)).cell? ⟨w.heap.size, 1, none⟩ = some (.int .i64 call) := by simp
  have b2 : (w.alloc (.cells #[.int .i64 1, .int .i64 call, .int .i64 attempt, .int .i64 value, .int .i64 timeout, .bool safe, .int .u64 draw, .int .i64 tt] 39)).cell? ⟨w.heap.size, 2, none⟩ = some (.int .i64 attempt) := by simp
  have b3 : (w.alloc (.cells #[.int .i64 1, .int .i64 call, .int .i64 attempt, .int .i64 value, .int .i64 timeout, .bool safe, .int .u64 draw, .int .i64 tt] 39)).cell? ⟨w.heap.size, 3, none⟩ = some (.int .i64 value) := by simp
  have b4 : (w.alloc (.cells #[.int .i64 1, .int .i64 call, .int .i64 attempt, .int .i64 value, .int .i64 timeout, .bool safe, .int .u64 draw, .int .i64 tt] 39)).cell? ⟨w.heap.size, 4, none⟩ = some (.int .i64 timeout) := by simp
  have b5 : (w.alloc (.cells #[.int .i64 1, .int .i64 call, .int .i64 attempt, .int .i64 value, .int .i64 timeout, .bool safe, .int .u64 draw, .int .i64 tt] 39)).cell? ⟨w.heap.size, 5, none⟩ = some (.bool safe) := by simp
  have b6 : (w.alloc (.cells #[.int .i64 1, .int .i64 call, .int .i64 attempt, .int .i64 value, .int .i64 timeout, .bool safe, .int .u64 draw, .int .i64 tt] 39)).cell? ⟨w.heap.size, 6, none⟩ = some (.int .u64 draw) := by simp
  have b7 : (w.alloc (.cells #[.int .i64 1, .int .i64 call, .int .i64 attempt, .int .i64 value, .int .i64 timeout, .bool safe, .int .u64 draw, .int .i64 tt] 39)).cell? ⟨w.heap.size, 7, none⟩ = some (.int .i64 tt) := by simp
  have lbx : w.heap.size < (w.alloc (.cells #[.int .i64 1, .int .i64 call, .int .i64 attempt, .int .i64 value, .int .i64 timeout, .bool safe, .int .u64 draw, .int .i64 tt] 39)).heap.size := by simp
  obtain ⟨fv, fu⟩ := hA.fresh (Nat.le_refl _)
  have HXA := hide (XMv.of_below (V := V) (U := U) hbA)
  have HAA := hide hAA
  have cq := hAA.wr.kk 12 _ rfl
  have nq0 := hAA.wr.kk 11 _ rfl
  have fq0 := hAA.wr.kk 6 _ rfl
  have xq0 := hAA.wr.kk 0 _ rfl
  obtain ⟨A, capc, hec, -, hAf, -⟩ := hAA.wr.rc.form
  have HB : Hid (∀ i (h : i < W.calls.length), ∃ g, A = some ⟨g, 0, none⟩ ∧ (w.alloc (.cells #[.int .i64 1, .int .i64 call, .int .i64 attempt, .int .i64 value, .int .i64 timeout, .bool safe, .int .u64 draw, .int .i64 tt] 39)).cell? ⟨g, i * 6 + 4, none⟩ = some (.bool W.calls[i].opn)) := fun i hi => by
    obtain ⟨g, rfl⟩ := hAf i hi
    have ho : U.vc.ownBlock = some g := by rw [hec]; rfl
    exact ⟨g, rfl, (hAA.wr.rc.cell encWC_len (g := g) (j := 4) ho hi rfl).1⟩
  rw [hec] at cq
  have HFI := hide (wfind_any hAA.wr call (by omega))
  have HSEE := hide hsee
  have HFV := hide fv
  have HFU := hide fu
  have HOK := hide ok
  clear hA hAA hbA hec hI H ok fv fu evok hw hmay eA hsee hAf hcfg
  go_enter Tryz.func24, Tryz.ntmps24
  go_wp2_with fail
  generalize (w.alloc (.cells #[.int .i64 1, .int .i64 call, .int .i64 attempt, .int .i64 value, .int .i64 timeout, .bool safe, .int .u64 draw, .int .i64 tt] 39)) = wA at b0 b1 b2 b3 b4 b5 b6 b7 lbx HXA HAA cq nq0 fq0 xq0 HB HFI ⊢
  generalize w.heap.size = bx at b0 b1 b2 b3 b4 b5 b6 b7 lbx HFV HFU ⊢
  obtain ⟨q, HUq⟩ : ∃ q, Hid (U.q = q) := ⟨_, rfl⟩
  rw [show U.q = q from HUq.out] at cq nq0 fq0 xq0 HFI ⊢
  refine HFI.out.mono ?_
  rintro e w1 ⟨⟨r, rfl, hr⟩, rfl⟩
  have HFR := hide hr
  clear hr HFI
  go_wp2_with fail
  go_loop [6, 7] (fun nv kv => ∃ j : Nat, j ≤ W.calls.length ∧ nv = .int .i64 (((W.calls.take j).filter (·.opn)).length : Int) ∧ kv = .int .i64 j) (fun _ kv => W.calls.length - (intOf kv).toNat)
  case atStart => exact ⟨0, Nat.zero_le _, rfl, rfl⟩
  case round =>
    obtain ⟨j, hj, rfl, rfl⟩ := hrel
    have hle : ((W.calls.take j).filter (·.opn)).length ≤ j := Nat.le_trans (List.length_filter_le _ _) (by rw [List.length_take]; omega)
    by_cases hlt : (j : Int) < (W.calls.length : Int)
    · have hjl : j < W.calls.length := by omega
      obtain ⟨g, rfl, c4⟩ := HB.out j hjl
      have HS := hide (filter_snoc (fun c : WCall => c.opn) W.calls j hjl)
      generalize W.calls[j] = c at c4 HS
      obtain ⟨c1, c2, c3, c5, op, c6⟩ := c
      dsimp only at c4 HS
      generalize ((W.calls.take j).filter (·.opn)) = L at HS hle ⊢
      cases op with
      | false =>
        go_wp2_with fail
        go_round
        case rel => exact ⟨j + 1, by omega, by rw [HS.out]; simp, by go_num⟩
        case measure => simp [intOf]; omega
      | true =>
        go_wp2_with fail
        go_round
        case rel => exact ⟨j + 1, by omega, by rw [HS.out]; simp, by go_num⟩
        case measure => simp [intOf]; omega
    · have hall : W.calls.take j = W.calls := List.take_of_length_le (by omega)
      rw [hall] at hle ⊢
      obtain rfl : r = -1 := by
        rcases HFR.out with ⟨h1, h2⟩ | ⟨i, c, h1, h2⟩
        · exact h1
        · exact absurd h2 (HMY.out.1 i c)
      have hcnt := HMY.out.2.1
      have hsum := HMY.out.2.2.2.2
      generalize ((W.calls.filter (·.opn)).length) = cnt at hcnt hle ⊢
      clear HMY
      go_upto_region 9 with fail
      go_cut [8] (fun mv wx => mv = .bool true ∧ ∃ n9, wx = w1.drewN n9)
      case first =>
        as_aux_lemma =>
          have g2 : decide ((cnt : Int) < s.cfg.flight) = true := decide_eq_true (by omega)
          have g3 : decide (timeout > 0) = true := decide_eq_true (by omega)
          have g3' : decide (0 < timeout) = true := decide_eq_true (by omega)
          have g4 : decide (timeout ≤ 10000) = true := decide_eq_true (by omega)
          have g5 : IntKind.i64.wrap (W.now + timeout) = W.now + timeout := by rw [IntKind.wrap_i64]; omega
          have g6 : decide (W.now + timeout ≤ 1099511627776) = true := decide_eq_true (by omega)
          go_big_quiet (fail)
          go_wp2_with fail
          go_meet
          exact ⟨rfl, _, rfl⟩
      case rest =>
        obtain ⟨rfl, n9, rfl⟩ := hcut
        have HX1 := hide (HAA.out.on (below_drewN w1 n9))
        have HM1 := hide (HXA.out.trans (XMv.of_below (below_drewN w1 n9)))
        have xq' : (w1.drewN n9).cell? ⟨q, 0, none⟩ = some (.pointer (some ⟨U.x, 0, none⟩)) := xq0
        have d0 : (w1.drewN n9).cell? ⟨bx, 0, none⟩ = some (.int .i64 1) := b0
        have d1 : (w1.drewN n9).cell? ⟨bx, 1, none⟩ = some (.int .i64 call) := b1
        have d2 : (w1.drewN n9).cell? ⟨bx, 2, none⟩ = some (.int .i64 attempt) := b2
        have d3 : (w1.drewN n9).cell? ⟨bx, 3, none⟩ = some (.int .i64 value) := b3
        have d4 : (w1.drewN n9).cell? ⟨bx, 4, none⟩ = some (.int .i64 timeout) := b4
        have d5 : (w1.drewN n9).cell? ⟨bx, 5, none⟩ = some (.bool safe) := b5
        have d6 : (w1.drewN n9).cell? ⟨bx, 6, none⟩ = some (.int .u64 draw) := b6
        have d7 : (w1.drewN n9).cell? ⟨bx, 7, none⟩ = some (.int .i64 tt) := b7
        have lb' : bx < (w1.drewN n9).heap.size := lbx
        clear b0 b1 b2 b3 b4 b5 b6 b7 cq nq0 fq0 xq0 lbx HAA HXA HB HFR
        generalize w1.drewN n9 = w1' at HX1 HM1 xq' d0 d1 d2 d3 d4 d5 d6 d7 lb' ⊢
        go_upto_if 74 with fail
        go_cut [] (fun wx => ∃ U3, WAll wx s ({ ({ W with calls := W.calls ++ [⟨call, W.now + timeout, 0, safe, true, false⟩] } : WSt) with adm := W.adm ++ [W.now] } : WSt) V U3 ∧ XMv V U w V U3 wx ∧ U3.q = q ∧ U3.x = U.x ∧ 5 ≤ U3.tag bx ∧ wx.heap[bx]? = w1'.heap[bx]? ∧ bx < wx.heap.size)
        case first =>
          as_aux_lemma =>
            have nq1 : w1'.cell? ⟨q, 11, none⟩ = some (.int .i64 W.now) := by rw [← show U.q = q from HUq.out]; exact HX1.out.wr.kk 11 _ rfl
            have cq1 : w1'.cell? ⟨q, 12, none⟩ = some U.vc := by rw [← show U.q = q from HUq.out]; exact HX1.out.wr.kk 12 _ rfl
            have fq1 : w1'.frozen? ⟨q, 12, none⟩ = false := by rw [← show U.q = q from HUq.out]; exact HX1.out.wr.fz 12 (by omega)
            have lq1 : q < w1'.heap.size := World.block_lt_of_cell? _ _ nq1
            have hvq : U.vc.ownBlock ≠ some q := fun e => by have h9 := HX1.out.wr.tc _ e; rw [← show U.q = q from HUq.out, HX1.out.wr.tq] at h9; omega
            have hvb : U.vc.ownBlock ≠ some bx := fun e => by have h9 := HX1.out.wr.tc _ e; have := HFU.out; omega
            have hqb : q ≠ bx := fun e => by have h9 := HX1.out.wr.tq; have := HFU.out; rw [show U.q = q from HUq.out, e] at h9; omega
            have HRC := hide HX1.out.wr.rc
            have hwr : IntKind.i64.wrap (W.now + timeout) = W.now + timeout := by rw [IntKind.wrap_i64]; omega
            have HA1 : Hid (∀ B : Obj, (w1'.alloc B).frozen? ⟨q, 12, none⟩ = false ∧ (w1'.alloc B).cell? ⟨q, 12, none⟩ = some U.vc) := fun B => by
              rw [World.frozen?_alloc_old _ _ _ (by simp; omega), World.cell?_alloc_lt _ _ _ lq1]
              exact ⟨fq1, cq1⟩
            go_wp2_with fail
            go_cut [8] (fun mv wx => mv = .bool true ∧ ∃ U1, WAll wx s { W with calls := W.calls ++ [⟨call, W.now + timeout, 0, safe, true, false⟩] } V U1 ∧ XMv V U w V U1 wx ∧ U1.q = q ∧ U1.x = U.x ∧ 5 ≤ U1.tag bx ∧ wx.heap[bx]? = w1'.heap[bx]? ∧ bx < wx.heap.size)
            case first =>
              as_aux_lemma =>
                have hS : w1'.drew.cell? ⟨q, 12, none⟩ = some (U.vc) ∧ w1'.drew.cell? ⟨bx, 1, none⟩ = some (.int .i64 call) ∧ w1'.drew.cell? ⟨bx, 5, none⟩ = some (.bool safe) ∧ w1'.drew.cell? ⟨q, 11, none⟩ = some (.int .i64 W.now) ∧ w1'.drew.cell? ⟨bx, 4, none⟩ = some (.int .i64 timeout) := ⟨by simpa using cq1, by simpa using d1, by simpa using d5, by simpa using nq1, by simpa using d4⟩
                refine wp_region_lexK (fun w' => w'.cell? ⟨q, 12, none⟩ = some (U.vc) ∧ w'.cell? ⟨bx, 1, none⟩ = some (.int .i64 call) ∧ w'.cell? ⟨bx, 5, none⟩ = some (.bool safe) ∧ w'.cell? ⟨q, 11, none⟩ = some (.int .i64 W.now) ∧ w'.cell? ⟨bx, 4, none⟩ = some (.int .i64 timeout)) 21 (fun i => decide (i < 17)) (by kernel_rfl) (by kernel_rfl) (by kernel_rfl) ?_
                generalize ha0 : Act.mk _ _ = a0
                have hz0 : a0.tmps.size = 384 := by rw [← ha0]; rfl
                have e0_0 : a0.eval (.tmp 0) = Value.pointer (some ⟨q, 0, none⟩) := by rw [← ha0]; rfl
                have e0_3 : a0.eval (.tmp 3) = Value.pointer (some ⟨bx, 0, none⟩) := by rw [← ha0]; rfl
                refine lexK_read (v := Value.pointer (some ⟨q, 0, none⟩)) rfl rfl (fun wz hSz => by obtain ⟨s1, s2, s3, s4, s5⟩ := hSz; simp only [execOp, e0_0]; go_simp) hS (fun _ _ _ h => h) ?_
                obtain ⟨a1, ha1⟩ : ∃ a1, a1 = a0.put (some 75) (Value.pointer (some ⟨q, 0, none⟩)) := ⟨_, rfl⟩
                rw [← ha1]
                have hz1 : a1.tmps.size = 384 := by rw [ha1, put_size]; exact hz0
                have e1_0 : a1.eval (.tmp 0) = Value.pointer (some ⟨q, 0, none⟩) := by rw [ha1, put_ne _ _ (by decide)]; exact e0_0
                have e1_3 : a1.eval (.tmp 3) = Value.pointer (some ⟨bx, 0, none⟩) := by rw [ha1, put_ne _ _ (by decide)]; exact e0_3
                have e1_75 : a1.eval (.tmp 75) = Value.pointer (some ⟨q, 0, none⟩) := by rw [ha1]; exact put_same _ _ (by rw [hz0]; decide)
                refine lexK_read (v := Value.pointer (some ⟨q, 0, none⟩)) rfl rfl (fun wz hSz => by obtain ⟨s1, s2, s3, s4, s5⟩ := hSz; simp only [execOp, e1_0]; go_simp) hS (fun _ _ _ h => h) ?_
                obtain ⟨a2, ha2⟩ : ∃ a2, a2 = a1.put (some 76) (Value.pointer (some ⟨q, 0, none⟩)) := ⟨_, rfl⟩
                rw [← ha2]
                have hz2 : a2.tmps.size = 384 := by rw [ha2, put_size]; exact hz1
                have e2_0 : a2.eval (.tmp 0) = Value.pointer (some ⟨q, 0, none⟩) := by rw [ha2, put_ne _ _ (by decide)]; exact e1_0
                have e2_3 : a2.eval (.tmp 3) = Value.pointer (some ⟨bx, 0, none⟩) := by rw [ha2, put_ne _ _ (by decide)]; exact e1_3
                have e2_75 : a2.eval (.tmp 75) = Value.pointer (some ⟨q, 0, none⟩) := by rw [ha2, put_ne _ _ (by decide)]; exact e1_75
                have e2_76 : a2.eval (.tmp 76) = Value.pointer (some ⟨q, 0, none⟩) := by rw [ha2]; exact put_same _ _ (by rw [hz1]; decide)
                refine lexK_read (v := Value.pointer (some ⟨q, 0, none⟩)) rfl rfl (fun wz hSz => by obtain ⟨s1, s2, s3, s4, s5⟩ := hSz; simp only [execOp, e2_76]; go_simp) hS (fun _ _ _ h => h) ?_
                obtain ⟨a3, ha3⟩ : ∃ a3, a3 = a2.put (some 77) (Value.pointer (some ⟨q, 0, none⟩)) := ⟨_, rfl⟩
                rw [← ha3]
                have hz3 : a3.tmps.size = 384 := by rw [ha3, put_size]; exact hz2
                have e3_0 : a3.eval (.tmp 0) = Value.pointer (some ⟨q, 0, none⟩) := by rw [ha3, put_ne _ _ (by decide)]; exact e2_0
                have e3_3 : a3.eval (.tmp 3) = Value.pointer (some ⟨bx, 0, none⟩) := by rw [ha3, put_ne _ _ (by decide)]; exact e2_3
                have e3_75 : a3.eval (.tmp 75) = Value.pointer (some ⟨q, 0, none⟩) := by rw [ha3, put_ne _ _ (by decide)]; exact e2_75
                have e3_77 : a3.eval (.tmp 77) = Value.pointer (some ⟨q, 0, none⟩) := by rw [ha3]; exact put_same _ _ (by rw [hz2]; decide)
                refine lexK_read (v := Value.pointer (some ⟨q, 12, none⟩)) rfl rfl (fun wz hSz => by obtain ⟨s1, s2, s3, s4, s5⟩ := hSz; simp only [execOp, e3_77]; go_simp) hS (fun _ _ _ h => h) ?_
                obtain ⟨a4, ha4⟩ : ∃ a4, a4 = a3.put (some 78) (Value.pointer (some ⟨q, 12, none⟩)) := ⟨_, rfl⟩
                rw [← ha4]
                have hz4 : a4.tmps.size = 384 := by rw [ha4, put_size]; exact hz3
                have e4_0 : a4.eval (.tmp 0) = Value.pointer (some ⟨q, 0, none⟩) := by rw [ha4, put_ne _ _ (by decide)]; exact e3_0
                have e4_3 : a4.eval (.tmp 3) = Value.pointer (some ⟨bx, 0, none⟩) := by rw [ha4, put_ne _ _ (by decide)]; exact e3_3
                have e4_75 : a4.eval (.tmp 75) = Value.pointer (some ⟨q, 0, none⟩) := by rw [ha4, put_ne _ _ (by decide)]; exact e3_75
                have e4_78 : a4.eval (.tmp 78) = Value.pointer (some ⟨q, 12, none⟩) := by rw [ha4]; exact put_same _ _ (by rw [hz3]; decide)
                refine lexK_read (v := U.vc) rfl rfl (fun wz hSz => by obtain ⟨s1, s2, s3, s4, s5⟩ := hSz; simp only [execOp, e4_78]; go_simp) hS (fun _ _ _ h => h) ?_
                obtain ⟨a5, ha5⟩ : ∃ a5, a5 = a4.put (some 79) (U.vc) := ⟨_, rfl⟩
                rw [← ha5]
                have hz5 : a5.tmps.size = 384 := by rw [ha5, put_size]; exact hz4
                have e5_0 : a5.eval (.tmp 0) = Value.pointer (some ⟨q, 0, none⟩) := by rw [ha5, put_ne _ _ (by decide)]; exact e4_0
                have e5_3 : a5.eval (.tmp 3) = Value.pointer (some ⟨bx, 0, none⟩) := by rw [ha5, put_ne _ _ (by decide)]; exact e4_3
                have e5_75 : a5.eval (.tmp 75) = Value.pointer (some ⟨q, 0, none⟩) := by rw [ha5, put_ne _ _ (by decide)]; exact e4_75
                have e5_79 : a5.eval (.tmp 79) = U.vc := by rw [ha5]; exact put_same _ _ (by rw [hz4]; decide)
                refine lexK_read (v := Value.pointer (some ⟨bx, 1, none⟩)) rfl rfl (fun wz hSz => by obtain ⟨s1, s2, s3, s4, s5⟩ := hSz; simp only [execOp, e5_3]; go_simp) hS (fun _ _ _ h => h) ?_
                obtain ⟨a6, ha6⟩ : ∃ a6, a6 = a5.put (some 80) (Value.pointer (some ⟨bx, 1, none⟩)) := ⟨_, rfl⟩
                rw [← ha6]
                have hz6 : a6.tmps.size = 384 := by rw [ha6, put_size]; exact hz5
                have e6_0 : a6.eval (.tmp 0) = Value.pointer (some ⟨q, 0, none⟩) := by rw [ha6, put_ne _ _ (by decide)]; exact e5_0
                have e6_3 : a6.eval (.tmp 3) = Value.pointer (some ⟨bx, 0, none⟩) := by rw [ha6, put_ne _ _ (by decide)]; exact e5_3
                have e6_75 : a6.eval (.tmp 75) = Value.pointer (some ⟨q, 0, none⟩) := by rw [ha6, put_ne _ _ (by decide)]; exact e5_75
                have e6_79 : a6.eval (.tmp 79) = U.vc := by rw [ha6, put_ne _ _ (by decide)]; exact e5_79
                have e6_80 : a6.eval (.tmp 80) = Value.pointer (some ⟨bx, 1, none⟩) := by rw [ha6]; exact put_same _ _ (by rw [hz5]; decide)
                refine lexK_read (v := .int .i64 call) rfl rfl (fun wz hSz => by obtain ⟨s1, s2, s3, s4, s5⟩ := hSz; simp only [execOp, e6_80]; go_simp) hS (fun _ _ _ h => h) ?_
                obtain ⟨a7, ha7⟩ : ∃ a7, a7 = a6.put (some 81) (.int .i64 call) := ⟨_, rfl⟩
                rw [← ha7]
                have hz7 : a7.tmps.size = 384 := by rw [ha7, put_size]; exact hz6
                have e7_0 : a7.eval (.tmp 0) = Value.pointer (some ⟨q, 0, none⟩) := by rw [ha7, put_ne _ _ (by decide)]; exact e6_0
                have e7_3 : a7.eval (.tmp 3) = Value.pointer (some ⟨bx, 0, none⟩) := by rw [ha7, put_ne _ _ (by decide)]; exact e6_3
                have e7_75 : a7.eval (.tmp 75) = Value.pointer (some ⟨q, 0, none⟩) := by rw [ha7, put_ne _ _ (by decide)]; exact e6_75
                have e7_79 : a7.eval (.tmp 79) = U.vc := by rw [ha7, put_ne _ _ (by decide)]; exact e6_79
                have e7_81 : a7.eval (.tmp 81) = .int .i64 call := by rw [ha7]; exact put_same _ _ (by rw [hz6]; decide)
                refine lexK_read (v := Value.pointer (some ⟨bx, 5, none⟩)) rfl rfl (fun wz hSz => by obtain ⟨s1, s2, s3, s4, s5⟩ := hSz; simp only [execOp, e7_3]; go_simp) hS (fun _ _ _ h => h) ?_
                obtain ⟨a8, ha8⟩ : ∃ a8, a8 = a7.put (some 82) (Value.pointer (some ⟨bx, 5, none⟩)) := ⟨_, rfl⟩
                rw [← ha8]
                have hz8 : a8.tmps.size = 384 := by rw [ha8, put_size]; exact hz7
                have e8_0 : a8.eval (.tmp 0) = Value.pointer (some ⟨q, 0, none⟩) := by rw [ha8, put_ne _ _ (by decide)]; exact e7_0
                have e8_3 : a8.eval (.tmp 3) = Value.pointer (some ⟨bx, 0, none⟩) := by rw [ha8, put_ne _ _ (by decide)]; exact e7_3
                have e8_75 : a8.eval (.tmp 75) = Value.pointer (some ⟨q, 0, none⟩) := by rw [ha8, put_ne _ _ (by decide)]; exact e7_75
                have e8_79 : a8.eval (.tmp 79) = U.vc := by rw [ha8, put_ne _ _ (by decide)]; exact e7_79
                have e8_81 : a8.eval (.tmp 81) = .int .i64 call := by rw [ha8, put_ne _ _ (by decide)]; exact e7_81
                have e8_82 : a8.eval (.tmp 82) = Value.pointer (some ⟨bx, 5, none⟩) := by rw [ha8]; exact put_same _ _ (by rw [hz7]; decide)
                refine lexK_read (v := .bool safe) rfl rfl (fun wz hSz => by obtain ⟨s1, s2, s3, s4, s5⟩ := hSz; simp only [execOp, e8_82]; go_simp) hS (fun _ _ _ h => h) ?_
                obtain ⟨a9, ha9⟩ : ∃ a9, a9 = a8.put (some 83) (.bool safe) := ⟨_, rfl⟩
                rw [← ha9]
                have hz9 : a9.tmps.size = 384 := by rw [ha9, put_size]; exact hz8
                have e9_0 : a9.eval (.tmp 0) = Value.pointer (some ⟨q, 0, none⟩) := by rw [ha9, put_ne _ _ (by decide)]; exact e8_0
                have e9_3 : a9.eval (.tmp 3) = Value.pointer (some ⟨bx, 0, none⟩) := by rw [ha9, put_ne _ _ (by decide)]; exact e8_3
                have e9_75 : a9.eval (.tmp 75) = Value.pointer (some ⟨q, 0, none⟩) := by rw [ha9, put_ne _ _ (by decide)]; exact e8_75
                have e9_79 : a9.eval (.tmp 79) = U.vc := by rw [ha9, put_ne _ _ (by decide)]; exact e8_79
                have e9_81 : a9.eval (.tmp 81) = .int .i64 call := by rw [ha9, put_ne _ _ (by decide)]; exact e8_81
                have e9_83 : a9.eval (.tmp 83) = .bool safe := by rw [ha9]; exact put_same _ _ (by rw [hz8]; decide)
                refine lexK_read (v := Value.pointer (some ⟨q, 0, none⟩)) rfl rfl (fun wz hSz => by obtain ⟨s1, s2, s3, s4, s5⟩ := hSz; simp only [execOp, e9_0]; go_simp) hS (fun _ _ _ h => h) ?_
                obtain ⟨a10, ha10⟩ : ∃ a10, a10 = a9.put (some 84) (Value.pointer (some ⟨q, 0, none⟩)) := ⟨_, rfl⟩
                rw [← ha10]
                have hz10 : a10.tmps.size = 384 := by rw [ha10, put_size]; exact hz9
                have e10_3 : a10.eval (.tmp 3) = Value.pointer (some ⟨bx, 0, none⟩) := by rw [ha10, put_ne _ _ (by decide)]; exact e9_3
                have e10_75 : a10.eval (.tmp 75) = Value.pointer (some ⟨q, 0, none⟩) := by rw [ha10, put_ne _ _ (by decide)]; exact e9_75
                have e10_79 : a10.eval (.tmp 79) = U.vc := by rw [ha10, put_ne _ _ (by decide)]; exact e9_79
                have e10_81 : a10.eval (.tmp 81) = .int .i64 call := by rw [ha10, put_ne _ _ (by decide)]; exact e9_81
                have e10_83 : a10.eval (.tmp 83) = .bool safe := by rw [ha10, put_ne _ _ (by decide)]; exact e9_83
                have e10_84 : a10.eval (.tmp 84) = Value.pointer (some ⟨q, 0, none⟩) := by rw [ha10]; exact put_same _ _ (by rw [hz9]; decide)
                refine lexK_read (v := Value.pointer (some ⟨q, 0, none⟩)) rfl rfl (fun wz hSz => by obtain ⟨s1, s2, s3, s4, s5⟩ := hSz; simp only [execOp, e10_84]; go_simp) hS (fun _ _ _ h => h) ?_
                obtain ⟨a11, ha11⟩ : ∃ a11, a11 = a10.put (some 85) (Value.pointer (some ⟨q, 0, none⟩)) := ⟨_, rfl⟩
                rw [← ha11]
                have hz11 : a11.tmps.size = 384 := by rw [ha11, put_size]; exact hz10
                have e11_3 : a11.eval (.tmp 3) = Value.pointer (some ⟨bx, 0, none⟩) := by rw [ha11, put_ne _ _ (by decide)]; exact e10_3
                have e11_75 : a11.eval (.tmp 75) = Value.pointer (some ⟨q, 0, none⟩) := by rw [ha11, put_ne _ _ (by decide)]; exact e10_75
                have e11_79 : a11.eval (.tmp 79) = U.vc := by rw [ha11, put_ne _ _ (by decide)]; exact e10_79
                have e11_81 : a11.eval (.tmp 81) = .int .i64 call := by rw [ha11, put_ne _ _ (by decide)]; exact e10_81
                have e11_83 : a11.eval (.tmp 83) = .bool safe := by rw [ha11, put_ne _ _ (by decide)]; exact e10_83
                have e11_85 : a11.eval (.tmp 85) = Value.pointer (some ⟨q, 0, none⟩) := by rw [ha11]; exact put_same _ _ (by rw [hz10]; decide)
                refine lexK_read (v := Value.pointer (some ⟨q, 11, none⟩)) rfl rfl (fun wz hSz => by obtain ⟨s1, s2, s3, s4, s5⟩ := hSz; simp only [execOp, e11_85]; go_simp) hS (fun _ _ _ h => h) ?_
                obtain ⟨a12, ha12⟩ : ∃ a12, a12 = a11.put (some 86) (Value.pointer (some ⟨q, 11, none⟩)) := ⟨_, rfl⟩
                rw [← ha12]
                have hz12 : a12.tmps.size = 384 := by rw [ha12, put_size]; exact hz11
                have e12_3 : a12.eval (.tmp 3) = Value.pointer (some ⟨bx, 0, none⟩) := by rw [ha12, put_ne _ _ (by decide)]; exact e11_3
                have e12_75 : a12.eval (.tmp 75) = Value.pointer (some ⟨q, 0, none⟩) := by rw [ha12, put_ne _ _ (by decide)]; exact e11_75
                have e12_79 : a12.eval (.tmp 79) = U.vc := by rw [ha12, put_ne _ _ (by decide)]; exact e11_79
                have e12_81 : a12.eval (.tmp 81) = .int .i64 call := by rw [ha12, put_ne _ _ (by decide)]; exact e11_81
                have e12_83 : a12.eval (.tmp 83) = .bool safe := by rw [ha12, put_ne _ _ (by decide)]; exact e11_83
                have e12_86 : a12.eval (.tmp 86) = Value.pointer (some ⟨q, 11, none⟩) := by rw [ha12]; exact put_same _ _ (by rw [hz11]; decide)
                refine lexK_read (v := .int .i64 W.now) rfl rfl (fun wz hSz => by obtain ⟨s1, s2, s3, s4, s5⟩ := hSz; simp only [execOp, e12_86]; go_simp) hS (fun _ _ _ h => h) ?_
                obtain ⟨a13, ha13⟩ : ∃ a13, a13 = a12.put (some 87) (.int .i64 W.now) := ⟨_, rfl⟩
                rw [← ha13]
                have hz13 : a13.tmps.size = 384 := by rw [ha13, put_size]; exact hz12
                have e13_3 : a13.eval (.tmp 3) = Value.pointer (some ⟨bx, 0, none⟩) := by rw [ha13, put_ne _ _ (by decide)]; exact e12_3
                have e13_75 : a13.eval (.tmp 75) = Value.pointer (some ⟨q, 0, none⟩) := by rw [ha13, put_ne _ _ (by decide)]; exact e12_75
                have e13_79 : a13.eval (.tmp 79) = U.vc := by rw [ha13, put_ne _ _ (by decide)]; exact e12_79
                have e13_81 : a13.eval (.tmp 81) = .int .i64 call := by rw [ha13, put_ne _ _ (by decide)]; exact e12_81
                have e13_83 : a13.eval (.tmp 83) = .bool safe := by rw [ha13, put_ne _ _ (by decide)]; exact e12_83
                have e13_87 : a13.eval (.tmp 87) = .int .i64 W.now := by rw [ha13]; exact put_same _ _ (by rw [hz12]; decide)
                refine lexK_read (v := Value.pointer (some ⟨bx, 4, none⟩)) rfl rfl (fun wz hSz => by obtain ⟨s1, s2, s3, s4, s5⟩ := hSz; simp only [execOp, e13_3]; go_simp) hS (fun _ _ _ h => h) ?_
                obtain ⟨a14, ha14⟩ : ∃ a14, a14 = a13.put (some 88) (Value.pointer (some ⟨bx, 4, none⟩)) := ⟨_, rfl⟩
                rw [← ha14]
                have hz14 : a14.tmps.size = 384 := by rw [ha14, put_size]; exact hz13
                have e14_75 : a14.eval (.tmp 75) = Value.pointer (some ⟨q, 0, none⟩) := by rw [ha14, put_ne _ _ (by decide)]; exact e13_75
                have e14_79 : a14.eval (.tmp 79) = U.vc := by rw [ha14, put_ne _ _ (by decide)]; exact e13_79
                have e14_81 : a14.eval (.tmp 81) = .int .i64 call := by rw [ha14, put_ne _ _ (by decide)]; exact e13_81
                have e14_83 : a14.eval (.tmp 83) = .bool safe := by rw [ha14, put_ne _ _ (by decide)]; exact e13_83
                have e14_87 : a14.eval (.tmp 87) = .int .i64 W.now := by rw [ha14, put_ne _ _ (by decide)]; exact e13_87
                have e14_88 : a14.eval (.tmp 88) = Value.pointer (some ⟨bx, 4, none⟩) := by rw [ha14]; exact put_same _ _ (by rw [hz13]; decide)
                refine lexK_read (v := .int .i64 timeout) rfl rfl (fun wz hSz => by obtain ⟨s1, s2, s3, s4, s5⟩ := hSz; simp only [execOp, e14_88]; go_simp) hS (fun _ _ _ h => h) ?_
                obtain ⟨a15, ha15⟩ : ∃ a15, a15 = a14.put (some 89) (.int .i64 timeout) := ⟨_, rfl⟩
                rw [← ha15]
                have hz15 : a15.tmps.size = 384 := by rw [ha15, put_size]; exact hz14
                have e15_75 : a15.eval (.tmp 75) = Value.pointer (some ⟨q, 0, none⟩) := by rw [ha15, put_ne _ _ (by decide)]; exact e14_75
                have e15_79 : a15.eval (.tmp 79) = U.vc := by rw [ha15, put_ne _ _ (by decide)]; exact e14_79
                have e15_81 : a15.eval (.tmp 81) = .int .i64 call := by rw [ha15, put_ne _ _ (by decide)]; exact e14_81
                have e15_83 : a15.eval (.tmp 83) = .bool safe := by rw [ha15, put_ne _ _ (by decide)]; exact e14_83
                have e15_87 : a15.eval (.tmp 87) = .int .i64 W.now := by rw [ha15, put_ne _ _ (by decide)]; exact e14_87
                have e15_89 : a15.eval (.tmp 89) = .int .i64 timeout := by rw [ha15]; exact put_same _ _ (by rw [hz14]; decide)
                refine lexK_read (v := .int .i64 (W.now + timeout)) rfl rfl (fun wz hSz => by obtain ⟨s1, s2, s3, s4, s5⟩ := hSz; simp only [execOp, e15_87, e15_89]; go_simp) hS (fun _ _ _ h => h) ?_
                obtain ⟨a16, ha16⟩ : ∃ a16, a16 = a15.put (some 90) (.int .i64 (W.now + timeout)) := ⟨_, rfl⟩
                rw [← ha16]
                have hz16 : a16.tmps.size = 384 := by rw [ha16, put_size]; exact hz15
                have e16_75 : a16.eval (.tmp 75) = Value.pointer (some ⟨q, 0, none⟩) := by rw [ha16, put_ne _ _ (by decide)]; exact e15_75
                have e16_79 : a16.eval (.tmp 79) = U.vc := by rw [ha16, put_ne _ _ (by decide)]; exact e15_79
                have e16_81 : a16.eval (.tmp 81) = .int .i64 call := by rw [ha16, put_ne _ _ (by decide)]; exact e15_81
                have e16_83 : a16.eval (.tmp 83) = .bool safe := by rw [ha16, put_ne _ _ (by decide)]; exact e15_83
                have e16_90 : a16.eval (.tmp 90) = .int .i64 (W.now + timeout) := by rw [ha16]; exact put_same _ _ (by rw [hz15]; decide)
                refine lexK_read (v := .agg #[.int .i64 call, .int .i64 (W.now + timeout), .int .i64 0, .bool safe, .bool true, .bool false]) rfl rfl (fun wz _ => by
                  have hb := run_build (P := Tryz.prog) wz 71 #[(0, .int .i64 call), (3, .bool safe), (1, .int .i64 (W.now + timeout)), (4, .bool true)] #[.int .i64 call, .int .i64 (W.now + timeout), .int .i64 0, .bool safe, .bool true, .bool false] (by kernel_rfl)
                  have ec : a16.eval (.const (.bool true)) = .bool true := rfl
                  simp only [execOp, List.map_toArray, List.map_cons, List.map_nil, e16_81, e16_83, e16_90, ec, Sem.run_bind, hb, Result.andThen_ok, Sem.run_pure]) hS (fun _ _ _ h => h) ?_
                obtain ⟨a17, ha17⟩ : ∃ a17, a17 = a16.put (some 91) (.agg #[.int .i64 call, .int .i64 (W.now + timeout), .int .i64 0, .bool safe, .bool true, .bool false]) := ⟨_, rfl⟩
                rw [← ha17]
                have hz17 : a17.tmps.size = 384 := by rw [ha17, put_size]; exact hz16
                have e17_75 : a17.eval (.tmp 75) = Value.pointer (some ⟨q, 0, none⟩) := by rw [ha17, put_ne _ _ (by decide)]; exact e16_75
                have e17_79 : a17.eval (.tmp 79) = U.vc := by rw [ha17, put_ne _ _ (by decide)]; exact e16_79
                have e17_91 : a17.eval (.tmp 91) = .agg #[.int .i64 call, .int .i64 (W.now + timeout), .int .i64 0, .bool safe, .bool true, .bool false] := by rw [ha17]; exact put_same _ _ (by rw [hz16]; decide)
                have hfill : Instr.fill (fun i => some (i * 6, 6)) ((Array.range (1 * 6)).map ((.agg #[.int .i64 0, .int .i64 0, .int .i64 0, .bool false, .bool false, .bool false] : Value).cells[· % (.agg #[.int .i64 0, .int .i64 0, .int .i64 0, .bool false, .bool false, .bool false] : Value).cells.size]!)) [(0, .agg #[.int .i64 call, .int .i64 (W.now + timeout), .int .i64 0, .bool safe, .bool true, .bool false])] = some #[.int .i64 call, .int .i64 (W.now + timeout), .int .i64 0, .bool safe, .bool true, .bool false] := by kernel_rfl
                refine lexK_turn rfl rfl rfl ?_
                refine wp_buildSlice 65 71 1 _ (by rfl) #[.int .i64 call, .int .i64 (W.now + timeout), .int .i64 0, .bool safe, .bool true, .bool false] i0 _ Tryz.underlying65 hi0 z0 (by rw [z1]; decide) (by rw [z1]; decide) (by rw [z1]; simp only [List.map_toArray, List.map_cons, List.map_nil, e17_91]; exact hfill) ⟨.inr ⟨(World.cell?_alloc_lt _ _ ⟨q, 12, none⟩ lq1).trans hS.1, (World.cell?_alloc_lt _ _ ⟨bx, 1, none⟩ lb').trans hS.2.1, (World.cell?_alloc_lt _ _ ⟨bx, 5, none⟩ lb').trans hS.2.2.1, (World.cell?_alloc_lt _ _ ⟨q, 11, none⟩ lq1).trans hS.2.2.2.1, (World.cell?_alloc_lt _ _ ⟨bx, 4, none⟩ lb').trans hS.2.2.2.2⟩, ?_⟩
                obtain ⟨a18, ha18⟩ : ∃ a18, a18 = a17.put (some 92) (Value.slice (some ⟨w1'.heap.size, 0, none⟩) 1 1) := ⟨_, rfl⟩
                rw [show (Act.put a17 (some 92) _) = a18 from ha18.symm]
                have hz18 : a18.tmps.size = 384 := by rw [ha18, put_size]; exact hz17
                have e18_79 : a18.eval (.tmp 79) = U.vc := by rw [ha18, put_ne _ _ (by decide)]; exact e17_79
                have e18_75 : a18.eval (.tmp 75) = Value.pointer (some ⟨q, 0, none⟩) := by rw [ha18, put_ne _ _ (by decide)]; exact e17_75
                have e18_92 : a18.eval (.tmp 92) = Value.slice (some ⟨w1'.heap.size, 0, none⟩) 1 1 := by rw [ha18]; exact put_same _ _ (by rw [hz17]; decide)
                refine lexK_turn rfl rfl rfl ?_
                refine wp_append_lies _ _ _ _ (by rfl) 0 71 i0 _ 6 32 Tryz.underlying65 hi0 z0 z1 z2 rfl (by omega) U.vc W.calls.length (W.calls.flatMap encWC) e18_79 (World.ownsRow.alloc (Row.drew HRC.out) _) ⟨w1'.heap.size, 0, none⟩ 1 1 (encWC ⟨call, W.now + timeout, 0, safe, true, false⟩) e18_92 (by rfl) (World.news_of_block (cs := (encWC ⟨call, W.now + timeout, 0, safe, true, false⟩).toArray) (t := 71) (fr := (0, 0)) (heap_alloc_new w1'.drew _)) (by simp [Value.oneCell', encWC]) (by omega) (by simp only [maxLen]; omega) (by omega) (by omega) (w1'.heap.size + 1) (by simp) ?_
                intro g cap wn hown hgrow hat hlt
                have cz : wn.cell? ⟨q, 12, none⟩ = some U.vc := by rw [hgrow.cell_far _ (by simp; omega) (Ne.symm hvq)]; exact (World.cell?_alloc_lt _ _ ⟨q, 12, none⟩ lq1).trans cq1
                have fz : wn.frozen? ⟨q, 12, none⟩ = false := by rw [hgrow.frozen_far _ (by simp; omega) (Ne.symm hvq)]; exact (World.frozen?_alloc_old _ _ _ (by simp; omega)).trans fq1
                have n1 : wn.cell? ⟨bx, 1, none⟩ = some (.int .i64 call) := by rw [hgrow.cell_far _ (by simp; omega) (Ne.symm hvb)]; exact (World.cell?_alloc_lt _ _ ⟨bx, 1, none⟩ lb').trans d1
                have n5 : wn.cell? ⟨bx, 5, none⟩ = some (.bool safe) := by rw [hgrow.cell_far _ (by simp; omega) (Ne.symm hvb)]; exact (World.cell?_alloc_lt _ _ ⟨bx, 5, none⟩ lb').trans d5
                have n11 : wn.cell? ⟨q, 11, none⟩ = some (.int .i64 W.now) := by rw [hgrow.cell_far _ (by simp; omega) (Ne.symm hvq)]; exact (World.cell?_alloc_lt _ _ ⟨q, 11, none⟩ lq1).trans nq1
                have n4 : wn.cell? ⟨bx, 4, none⟩ = some (.int .i64 timeout) := by rw [hgrow.cell_far _ (by simp; omega) (Ne.symm hvb)]; exact (World.cell?_alloc_lt _ _ ⟨bx, 4, none⟩ lb').trans d4
                refine ⟨.inr ⟨cz, n1, n5, n11, n4⟩, ?_⟩
                obtain ⟨a19, ha19⟩ : ∃ a19, a19 = a18.put (some 93) (Value.slice (some ⟨g, 0, none⟩) (W.calls.length + 1) cap) := ⟨_, rfl⟩
                rw [show (Act.put a18 (some 93) _) = a19 from ha19.symm]
                have hz19 : a19.tmps.size = 384 := by rw [ha19, put_size]; exact hz18
                have e19_75 : a19.eval (.tmp 75) = Value.pointer (some ⟨q, 0, none⟩) := by rw [ha19, put_ne _ _ (by decide)]; exact e18_75
                have e19_93 : a19.eval (.tmp 93) = Value.slice (some ⟨g, 0, none⟩) (W.calls.length + 1) cap := by rw [ha19]; exact put_same _ _ (by rw [hz18]; decide)
                refine lexK_turn rfl rfl rfl ?_
                refine wp_value (v := Value.pointer (some ⟨q, 0, none⟩)) (w' := wn) (by simp only [execOp, e19_75]; go_simp) ⟨.inr ⟨cz, n1, n5, n11, n4⟩, ?_⟩
                obtain ⟨a20, ha20⟩ : ∃ a20, a20 = a19.put (some 94) (Value.pointer (some ⟨q, 0, none⟩)) := ⟨_, rfl⟩
                rw [show (Act.put a19 (some 94) _) = a20 from ha20.symm]
                have hz20 : a20.tmps.size = 384 := by rw [ha20, put_size]; exact hz19
                have e20_93 : a20.eval (.tmp 93) = Value.slice (some ⟨g, 0, none⟩) (W.calls.length + 1) cap := by rw [ha20, put_ne _ _ (by decide)]; exact e19_93
                have e20_94 : a20.eval (.tmp 94) = Value.pointer (some ⟨q, 0, none⟩) := by rw [ha20]; exact put_same _ _ (by rw [hz19]; decide)
                refine lexK_turn rfl rfl rfl ?_
                refine wp_value (v := Value.pointer (some ⟨q, 12, none⟩)) (w' := wn) (by simp only [execOp, e20_94]; go_simp) ⟨.inr ⟨cz, n1, n5, n11, n4⟩, ?_⟩
                obtain ⟨a21, ha21⟩ : ∃ a21, a21 = a20.put (some 95) (Value.pointer (some ⟨q, 12, none⟩)) := ⟨_, rfl⟩
                rw [show (Act.put a20 (some 95) _) = a21 from ha21.symm]
                have hz21 : a21.tmps.size = 384 := by rw [ha21, put_size]; exact hz20
                have e21_93 : a21.eval (.tmp 93) = Value.slice (some ⟨g, 0, none⟩) (W.calls.length + 1) cap := by rw [ha21, put_ne _ _ (by decide)]; exact e20_93
                have e21_95 : a21.eval (.tmp 95) = Value.pointer (some ⟨q, 12, none⟩) := by rw [ha21]; exact put_same _ _ (by rw [hz20]; decide)
                refine lexK_turn rfl rfl rfl ?_
                refine wp_skip (w' := wn.setCell ⟨q, 12, none⟩ (Value.slice (some ⟨g, 0, none⟩) (W.calls.length + 1) cap)) (by simp only [execOp, e21_95, e21_93]; go_simp) ⟨.inl rfl, ?_⟩
                refine lexK_end ?_
                show Exit.then _ _ _ _ _
                rw [ha21, ha20, ha19, ha18, ha17, ha16, ha15, ha14, ha13, ha12, ha11, ha10, ha9, ha8, ha7, ha6, ha5, ha4, ha3, ha2, ha1, ← ha0]
                clear e0_0 e0_3 e1_0 e1_3 e1_75 e2_0 e2_3 e2_75 e2_76 e3_0 e3_3 e3_75 e3_77 e4_0 e4_3 e4_75 e4_78 e5_0 e5_3 e5_75 e5_79 e6_0 e6_3 e6_75 e6_79 e6_80 e7_0 e7_3 e7_75 e7_79 e7_81 e8_0 e8_3 e8_75 e8_79 e8_81 e8_82 e9_0 e9_3 e9_75 e9_79 e9_81 e9_83 e10_3 e10_75 e10_79 e10_81 e10_83 e10_84 e11_3 e11_75 e11_79 e11_81 e11_83 e11_85 e12_3 e12_75 e12_79 e12_81 e12_83 e12_86 e13_3 e13_75 e13_79 e13_81 e13_83 e13_87 e14_75 e14_79 e14_81 e14_83 e14_87 e14_88 e15_75 e15_79 e15_81 e15_83 e15_87 e15_89 e16_75 e16_79 e16_81 e16_83 e16_90 e17_75 e17_79 e17_91 e18_79 e18_75 e18_92 e19_75 e19_93 e20_93 e20_94 e21_93 e21_95 hz21 hz20 hz19 hz18 hz17 hz16 hz15 hz14 hz13 hz12 hz11 hz10 hz9 hz8 hz7 hz6 hz5 hz4 hz3 hz2 hz1 hz0
                clear ha21 ha20 ha19 ha18 ha17 ha16 ha15 ha14 ha13 ha12 ha11 ha10 ha9 ha8 ha7 ha6 ha5 ha4 ha3 ha2 ha1 ha0
                simp only [Act.put, List.setIfInBounds_toArray, List.set_cons_zero, List.set_cons_succ]
                go_wp2_with fail
                go_meet
                obtain ⟨v', hc2, hr2, hv2, hF2⟩ := push_post (x := (⟨call, W.now + timeout, 0, safe, true, false⟩ : WCall)) lq1 HRC.out ((Below.refl _ _).drew.alloc (Nat.le_refl _) _) hown hgrow hvq (hat.imp id (fun h => by omega)) cz
                exact ⟨rfl, add_c HX1.out HM1.out HUq.out HFU.out lb' hF2 hc2 hr2 hv2⟩
            case rest =>
              obtain ⟨rfl, U1, hX1, hM1, hq1, hx1, h51, hbx1, lb1⟩ := hcut
              rename World => wx1
              have nq2 : wx1.cell? ⟨q, 11, none⟩ = some (.int .i64 W.now) := by rw [← hq1]; exact hX1.wr.kk 11 _ rfl
              have mq2 : wx1.cell? ⟨q, 14, none⟩ = some U1.vm := by rw [← hq1]; exact hX1.wr.kk 14 _ rfl
              have fq2 : wx1.frozen? ⟨q, 14, none⟩ = false := by rw [← hq1]; exact hX1.wr.fz 14 (by omega)
              have lq2 : q < wx1.heap.size := World.block_lt_of_cell? _ _ nq2
              have hmq : U1.vm.ownBlock ≠ some q := fun e => by have h9 := hX1.wr.tm _ e; rw [← hq1, hX1.wr.tq] at h9; omega
              have HRM := hide hX1.wr.rm
              have HA2 : Hid (∀ B : Obj, (wx1.alloc B).frozen? ⟨q, 14, none⟩ = false ∧ (wx1.alloc B).cell? ⟨q, 14, none⟩ = some U1.vm) := fun B => by
                rw [World.frozen?_alloc_old _ _ _ (by simp; omega), World.cell?_alloc_lt _ _ _ lq2]
                exact ⟨fq2, mq2⟩
              have HX1' := hide hX1
              have HM1' := hide hM1
              have HQ1 := hide hq1
              have HXX1 := hide hx1
              have H51 := hide h51
              have HBX1 := hide hbx1
              clear hX1 hM1 hq1 hx1 h51 hbx1 HX1 HM1 HRC HA1 cq1 fq1 nq1
              go_wp2_with fail
              have hS : wx1.drew.cell? ⟨q, 14, none⟩ = some (U1.vm) ∧ wx1.drew.cell? ⟨q, 11, none⟩ = some (.int .i64 W.now) := ⟨by simpa using mq2, by simpa using nq2⟩
              refine wp_region_lexK (fun w' => w'.cell? ⟨q, 14, none⟩ = some (U1.vm) ∧ w'.cell? ⟨q, 11, none⟩ = some (.int .i64 W.now)) 13 (fun i => decide (i < 9)) (by kernel_rfl) (by kernel_rfl) (by kernel_rfl) ?_
              generalize ha0 : Act.mk _ _ = a0
              have hz0 : a0.tmps.size = 384 := by rw [← ha0]; rfl
              have e0_0 : a0.eval (.tmp 0) = Value.pointer (some ⟨q, 0, none⟩) := by rw [← ha0]; rfl
              refine lexK_read (v := Value.pointer (some ⟨q, 0, none⟩)) rfl rfl (fun wz hSz => by obtain ⟨s1, s2⟩ := hSz; simp only [execOp, e0_0]; go_simp) hS (fun _ _ _ h => h) ?_
              obtain ⟨a1, ha1⟩ : ∃ a1, a1 = a0.put (some 96) (Value.pointer (some ⟨q, 0, none⟩)) := ⟨_, rfl⟩
              rw [← ha1]
              have hz1 : a1.tmps.size = 384 := by rw [ha1, put_size]; exact hz0
              have e1_0 : a1.eval (.tmp 0) = Value.pointer (some ⟨q, 0, none⟩) := by rw [ha1, put_ne _ _ (by decide)]; exact e0_0
              have e1_96 : a1.eval (.tmp 96) = Value.pointer (some ⟨q, 0, none⟩) := by rw [ha1]; exact put_same _ _ (by rw [hz0]; decide)
              refine lexK_read (v := Value.pointer (some ⟨q, 0, none⟩)) rfl rfl (fun wz hSz => by obtain ⟨s1, s2⟩ := hSz; simp only [execOp, e1_0]; go_simp) hS (fun _ _ _ h => h) ?_
              obtain ⟨a2, ha2⟩ : ∃ a2, a2 = a1.put (some 97) (Value.pointer (some ⟨q, 0, none⟩)) := ⟨_, rfl⟩
              rw [← ha2]
              have hz2 : a2.tmps.size = 384 := by rw [ha2, put_size]; exact hz1
              have e2_0 : a2.eval (.tmp 0) = Value.pointer (some ⟨q, 0, none⟩) := by rw [ha2, put_ne _ _ (by decide)]; exact e1_0
              have e2_96 : a2.eval (.tmp 96) = Value.pointer (some ⟨q, 0, none⟩) := by rw [ha2, put_ne _ _ (by decide)]; exact e1_96
              have e2_97 : a2.eval (.tmp 97) = Value.pointer (some ⟨q, 0, none⟩) := by rw [ha2]; exact put_same _ _ (by rw [hz1]; decide)
              refine lexK_read (v := Value.pointer (some ⟨q, 0, none⟩)) rfl rfl (fun wz hSz => by obtain ⟨s1, s2⟩ := hSz; simp only [execOp, e2_97]; go_simp) hS (fun _ _ _ h => h) ?_
              obtain ⟨a3, ha3⟩ : ∃ a3, a3 = a2.put (some 98) (Value.pointer (some ⟨q, 0, none⟩)) := ⟨_, rfl⟩
              rw [← ha3]
              have hz3 : a3.tmps.size = 384 := by rw [ha3, put_size]; exact hz2
              have e3_0 : a3.eval (.tmp 0) = Value.pointer (some ⟨q, 0, none⟩) := by rw [ha3, put_ne _ _ (by decide)]; exact e2_0
              have e3_96 : a3.eval (.tmp 96) = Value.pointer (some ⟨q, 0, none⟩) := by rw [ha3, put_ne _ _ (by decide)]; exact e2_96
              have e3_98 : a3.eval (.tmp 98) = Value.pointer (some ⟨q, 0, none⟩) := by rw [ha3]; exact put_same _ _ (by rw [hz2]; decide)
              refine lexK_read (v := Value.pointer (some ⟨q, 14, none⟩)) rfl rfl (fun wz hSz => by obtain ⟨s1, s2⟩ := hSz; simp only [execOp, e3_98]; go_simp) hS (fun _ _ _ h => h) ?_
              obtain ⟨a4, ha4⟩ : ∃ a4, a4 = a3.put (some 99) (Value.pointer (some ⟨q, 14, none⟩)) := ⟨_, rfl⟩
              rw [← ha4]
              have hz4 : a4.tmps.size = 384 := by rw [ha4, put_size]; exact hz3
              have e4_0 : a4.eval (.tmp 0) = Value.pointer (some ⟨q, 0, none⟩) := by rw [ha4, put_ne _ _ (by decide)]; exact e3_0
              have e4_96 : a4.eval (.tmp 96) = Value.pointer (some ⟨q, 0, none⟩) := by rw [ha4, put_ne _ _ (by decide)]; exact e3_96
              have e4_99 : a4.eval (.tmp 99) = Value.pointer (some ⟨q, 14, none⟩) := by rw [ha4]; exact put_same _ _ (by rw [hz3]; decide)
              refine lexK_read (v := U1.vm) rfl rfl (fun wz hSz => by obtain ⟨s1, s2⟩ := hSz; simp only [execOp, e4_99]; go_simp) hS (fun _ _ _ h => h) ?_
              obtain ⟨a5, ha5⟩ : ∃ a5, a5 = a4.put (some 100) (U1.vm) := ⟨_, rfl⟩
              rw [← ha5]
              have hz5 : a5.tmps.size = 384 := by rw [ha5, put_size]; exact hz4
              have e5_0 : a5.eval (.tmp 0) = Value.pointer (some ⟨q, 0, none⟩) := by rw [ha5, put_ne _ _ (by decide)]; exact e4_0
              have e5_96 : a5.eval (.tmp 96) = Value.pointer (some ⟨q, 0, none⟩) := by rw [ha5, put_ne _ _ (by decide)]; exact e4_96
              have e5_100 : a5.eval (.tmp 100) = U1.vm := by rw [ha5]; exact put_same _ _ (by rw [hz4]; decide)
              refine lexK_read (v := Value.pointer (some ⟨q, 0, none⟩)) rfl rfl (fun wz hSz => by obtain ⟨s1, s2⟩ := hSz; simp only [execOp, e5_0]; go_simp) hS (fun _ _ _ h => h) ?_
              obtain ⟨a6, ha6⟩ : ∃ a6, a6 = a5.put (some 101) (Value.pointer (some ⟨q, 0, none⟩)) := ⟨_, rfl⟩
              rw [← ha6]
              have hz6 : a6.tmps.size = 384 := by rw [ha6, put_size]; exact hz5
              have e6_96 : a6.eval (.tmp 96) = Value.pointer (some ⟨q, 0, none⟩) := by rw [ha6, put_ne _ _ (by decide)]; exact e5_96
              have e6_100 : a6.eval (.tmp 100) = U1.vm := by rw [ha6, put_ne _ _ (by decide)]; exact e5_100
              have e6_101 : a6.eval (.tmp 101) = Value.pointer (some ⟨q, 0, none⟩) := by rw [ha6]; exact put_same _ _ (by rw [hz5]; decide)
              refine lexK_read (v := Value.pointer (some ⟨q, 0, none⟩)) rfl rfl (fun wz hSz => by obtain ⟨s1, s2⟩ := hSz; simp only [execOp, e6_101]; go_simp) hS (fun _ _ _ h => h) ?_
              obtain ⟨a7, ha7⟩ : ∃ a7, a7 = a6.put (some 102) (Value.pointer (some ⟨q, 0, none⟩)) := ⟨_, rfl⟩
              rw [← ha7]
              have hz7 : a7.tmps.size = 384 := by rw [ha7, put_size]; exact hz6
              have e7_96 : a7.eval (.tmp 96) = Value.pointer (some ⟨q, 0, none⟩) := by rw [ha7, put_ne _ _ (by decide)]; exact e6_96
              have e7_100 : a7.eval (.tmp 100) = U1.vm := by rw [ha7, put_ne _ _ (by decide)]; exact e6_100
              have e7_102 : a7.eval (.tmp 102) = Value.pointer (some ⟨q, 0, none⟩) := by rw [ha7]; exact put_same _ _ (by rw [hz6]; decide)
              refine lexK_read (v := Value.pointer (some ⟨q, 11, none⟩)) rfl rfl (fun wz hSz => by obtain ⟨s1, s2⟩ := hSz; simp only [execOp, e7_102]; go_simp) hS (fun _ _ _ h => h) ?_
              obtain ⟨a8, ha8⟩ : ∃ a8, a8 = a7.put (some 103) (Value.pointer (some ⟨q, 11, none⟩)) := ⟨_, rfl⟩
              rw [← ha8]
              have hz8 : a8.tmps.size = 384 := by rw [ha8, put_size]; exact hz7
              have e8_96 : a8.eval (.tmp 96) = Value.pointer (some ⟨q, 0, none⟩) := by rw [ha8, put_ne _ _ (by decide)]; exact e7_96
              have e8_100 : a8.eval (.tmp 100) = U1.vm := by rw [ha8, put_ne _ _ (by decide)]; exact e7_100
              have e8_103 : a8.eval (.tmp 103) = Value.pointer (some ⟨q, 11, none⟩) := by rw [ha8]; exact put_same _ _ (by rw [hz7]; decide)
              refine lexK_read (v := .int .i64 W.now) rfl rfl (fun wz hSz => by obtain ⟨s1, s2⟩ := hSz; simp only [execOp, e8_103]; go_simp) hS (fun _ _ _ h => h) ?_
              obtain ⟨a9, ha9⟩ : ∃ a9, a9 = a8.put (some 104) (.int .i64 W.now) := ⟨_, rfl⟩
              rw [← ha9]
              have hz9 : a9.tmps.size = 384 := by rw [ha9, put_size]; exact hz8
              have e9_96 : a9.eval (.tmp 96) = Value.pointer (some ⟨q, 0, none⟩) := by rw [ha9, put_ne _ _ (by decide)]; exact e8_96
              have e9_100 : a9.eval (.tmp 100) = U1.vm := by rw [ha9, put_ne _ _ (by decide)]; exact e8_100
              have e9_104 : a9.eval (.tmp 104) = .int .i64 W.now := by rw [ha9]; exact put_same _ _ (by rw [hz8]; decide)
              have hfill : Instr.fill (fun i => some (i * 1, 1)) ((Array.range (1 * 1)).map ((.int .i64 0 : Value).cells[· % (.int .i64 0 : Value).cells.size]!)) [(0, .int .i64 W.now)] = some #[.int .i64 W.now] := by kernel_rfl
              refine lexK_turn rfl rfl rfl ?_
              refine wp_buildSlice 45 3 1 _ (by rfl) #[.int .i64 W.now] i1 _ Tryz.underlying45 hi1 y0 (by rw [y1]; decide) (by rw [y1]; decide) (by rw [y1]; simp only [List.map_toArray, List.map_cons, List.map_nil, e9_104]; exact hfill) ⟨.inr ⟨(World.cell?_alloc_lt _ _ ⟨q, 14, none⟩ lq2).trans hS.1, (World.cell?_alloc_lt _ _ ⟨q, 11, none⟩ lq2).trans hS.2⟩, ?_⟩
              obtain ⟨a10, ha10⟩ : ∃ a10, a10 = a9.put (some 105) (Value.slice (some ⟨wx1.heap.size, 0, none⟩) 1 1) := ⟨_, rfl⟩
              rw [show (Act.put a9 (some 105) _) = a10 from ha10.symm]
              have hz10 : a10.tmps.size = 384 := by rw [ha10, put_size]; exact hz9
              have e10_100 : a10.eval (.tmp 100) = U1.vm := by rw [ha10, put_ne _ _ (by decide)]; exact e9_100
              have e10_96 : a10.eval (.tmp 96) = Value.pointer (some ⟨q, 0, none⟩) := by rw [ha10, put_ne _ _ (by decide)]; exact e9_96
              have e10_105 : a10.eval (.tmp 105) = Value.slice (some ⟨wx1.heap.size, 0, none⟩) 1 1 := by rw [ha10]; exact put_same _ _ (by rw [hz9]; decide)
              refine lexK_turn rfl rfl rfl ?_
              refine wp_append_lies _ _ _ _ (by rfl) 0 3 i1 _ 1 8 Tryz.underlying45 hi1 y0 y1 y2 rfl (by omega) U1.vm W.adm.length (W.adm.flatMap encI) e10_100 (World.ownsRow.alloc (Row.drew HRM.out) _) ⟨wx1.heap.size, 0, none⟩ 1 1 (encI W.now) e10_105 (by rfl) (World.news_of_block (cs := (encI W.now).toArray) (t := 3) (fr := (0, 0)) (heap_alloc_new wx1.drew _)) (by simp [Value.oneCell', encI]) (by omega) (by simp only [maxLen]; omega) (by omega) (by omega) (wx1.heap.size + 1) (by simp) ?_
              intro g cap wn hown hgrow hat hlt
              have cz : wn.cell? ⟨q, 14, none⟩ = some U1.vm := by rw [hgrow.cell_far _ (by simp; omega) (Ne.symm hmq)]; exact (World.cell?_alloc_lt _ _ ⟨q, 14, none⟩ lq2).trans mq2
              have fz : wn.frozen? ⟨q, 14, none⟩ = false := by rw [hgrow.frozen_far _ (by simp; omega) (Ne.symm hmq)]; exact (World.frozen?_alloc_old _ _ _ (by simp; omega)).trans fq2
              have n11 : wn.cell? ⟨q, 11, none⟩ = some (.int .i64 W.now) := by rw [hgrow.cell_far _ (by simp; omega) (Ne.symm hmq)]; exact (World.cell?_alloc_lt _ _ ⟨q, 11, none⟩ lq2).trans nq2
              refine ⟨.inr ⟨cz, n11⟩, ?_⟩
              obtain ⟨a11, ha11⟩ : ∃ a11, a11 = a10.put (some 106) (Value.slice (some ⟨g, 0, none⟩) (W.adm.length + 1) cap) := ⟨_, rfl⟩
              rw [show (Act.put a10 (some 106) _) = a11 from ha11.symm]
              have hz11 : a11.tmps.size = 384 := by rw [ha11, put_size]; exact hz10
              have e11_96 : a11.eval (.tmp 96) = Value.pointer (some ⟨q, 0, none⟩) := by rw [ha11, put_ne _ _ (by decide)]; exact e10_96
              have e11_106 : a11.eval (.tmp 106) = Value.slice (some ⟨g, 0, none⟩) (W.adm.length + 1) cap := by rw [ha11]; exact put_same _ _ (by rw [hz10]; decide)
              refine lexK_turn rfl rfl rfl ?_
              refine wp_value (v := Value.pointer (some ⟨q, 0, none⟩)) (w' := wn) (by simp only [execOp, e11_96]; go_simp) ⟨.inr ⟨cz, n11⟩, ?_⟩
              obtain ⟨a12, ha12⟩ : ∃ a12, a12 = a11.put (some 107) (Value.pointer (some ⟨q, 0, none⟩)) := ⟨_, rfl⟩
              rw [show (Act.put a11 (some 107) _) = a12 from ha12.symm]
              have hz12 : a12.tmps.size = 384 := by rw [ha12, put_size]; exact hz11
              have e12_106 : a12.eval (.tmp 106) = Value.slice (some ⟨g, 0, none⟩) (W.adm.length + 1) cap := by rw [ha12, put_ne _ _ (by decide)]; exact e11_106
              have e12_107 : a12.eval (.tmp 107) = Value.pointer (some ⟨q, 0, none⟩) := by rw [ha12]; exact put_same _ _ (by rw [hz11]; decide)
              refine lexK_turn rfl rfl rfl ?_
              refine wp_value (v := Value.pointer (some ⟨q, 14, none⟩)) (w' := wn) (by simp only [execOp, e12_107]; go_simp) ⟨.inr ⟨cz, n11⟩, ?_⟩
              obtain ⟨a13, ha13⟩ : ∃ a13, a13 = a12.put (some 108) (Value.pointer (some ⟨q, 14, none⟩)) := ⟨_, rfl⟩
              rw [show (Act.put a12 (some 108) _) = a13 from ha13.symm]
              have hz13 : a13.tmps.size = 384 := by rw [ha13, put_size]; exact hz12
              have e13_106 : a13.eval (.tmp 106) = Value.slice (some ⟨g, 0, none⟩) (W.adm.length + 1) cap := by rw [ha13, put_ne _ _ (by decide)]; exact e12_106
              have e13_108 : a13.eval (.tmp 108) = Value.pointer (some ⟨q, 14, none⟩) := by rw [ha13]; exact put_same _ _ (by rw [hz12]; decide)
              refine lexK_turn rfl rfl rfl ?_
              refine wp_skip (w' := wn.setCell ⟨q, 14, none⟩ (Value.slice (some ⟨g, 0, none⟩) (W.adm.length + 1) cap)) (by simp only [execOp, e13_108, e13_106]; go_simp) ⟨.inl rfl, ?_⟩
              refine lexK_end ?_
              show Exit.then _ _ _ _ _
              rw [ha13, ha12, ha11, ha10, ha9, ha8, ha7, ha6, ha5, ha4, ha3, ha2, ha1, ← ha0]
              clear e0_0 e1_0 e1_96 e2_0 e2_96 e2_97 e3_0 e3_96 e3_98 e4_0 e4_96 e4_99 e5_0 e5_96 e5_100 e6_96 e6_100 e6_101 e7_96 e7_100 e7_102 e8_96 e8_100 e8_103 e9_96 e9_100 e9_104 e10_100 e10_96 e10_105 e11_96 e11_106 e12_106 e12_107 e13_106 e13_108 hz13 hz12 hz11 hz10 hz9 hz8 hz7 hz6 hz5 hz4 hz3 hz2 hz1 hz0
              clear ha13 ha12 ha11 ha10 ha9 ha8 ha7 ha6 ha5 ha4 ha3 ha2 ha1 ha0
              simp only [Act.put, List.setIfInBounds_toArray, List.set_cons_zero, List.set_cons_succ]
              go_wp2_with fail
              go_meet
              obtain ⟨v', hc2, hr2, hv2, hF2⟩ := push_post (x := W.now) lq2 HRM.out ((Below.refl _ _).drew.alloc (Nat.le_refl _) _) hown hgrow hmq (hat.imp id (fun h => by omega)) cz
              obtain ⟨U3, r1, r2, r3, r4, r5, r6, r7⟩ := add_m HX1'.out HM1'.out HQ1.out H51.out lb1 hF2 hc2 hr2 hv2
              exact ⟨U3, r1, r2, r3, r4.trans HXX1.out, r5, r6.trans HBX1.out, r7⟩
        case rest =>
          obtain ⟨U3, hX3, hM3, hq3, hx5, h53, hbb, lb'3⟩ := hcut
          rename_i hK
          refine code_swap (D := stepTail) hK (by kernel_rfl) _ _ ?_
          refine wstep_tail _ _ ?_ hX3 hM3 hq3 hx5 lb'3 ((World.cell?_of_block (a := ⟨bx, 0, none⟩) hbb).trans d0) ((World.cell?_of_block (a := ⟨bx, 1, none⟩) hbb).trans d1) ((World.cell?_of_block (a := ⟨bx, 2, none⟩) hbb).trans d2) ((World.cell?_of_block (a := ⟨bx, 3, none⟩) hbb).trans d3) ((World.cell?_of_block (a := ⟨bx, 4, none⟩) hbb).trans d4) ((World.cell?_of_block (a := ⟨bx, 5, none⟩) hbb).trans d5) ((World.cell?_of_block (a := ⟨bx, 6, none⟩) hbb).trans d6) ((World.cell?_of_block (a := ⟨bx, 7, none⟩) hbb).trans d7) HST HCF HFV HOK1 HSEE hcl hal hnow0
          exact fun w5 h => ⟨rfl, h⟩
end Go.Proofs.YtlccfpbbdgpjbaaGreatDoor
