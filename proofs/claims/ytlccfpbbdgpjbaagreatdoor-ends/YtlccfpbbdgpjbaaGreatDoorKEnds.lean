import Derived.Test.YtlccfpbbdgpjbaaGreatDoorKWWorks
import Derived.Test.YtlccfpbbdgpjbaaGreatDoorZState
import Derived.Deep.LoopGhost
import Derived.Deep.DeepCutAuto
namespace Go.Proofs.YtlccfpbbdgpjbaaGreatDoor
open Go.RowKit


set_option maxRecDepth 100000 in
set_option maxHeartbeats 40000000 in
theorem ends_walk (A1 : Option Addr) (len1 cap1 : Nat) (zs : List Int) (A2 : Option Addr) (len2 cap2 : Nat) (ds : List Int) (W : World) (hL : Laid W) (hz : IntsAt W A1 len1 zs) (hd : IntsAt W A2 len2 ds) (hcap : len2 ≤ cap2) :
    Calls Tryz.prog 10 #[.slice A1 len1 cap1, .slice A2 len2 cap2] W fun e w' => e = .returned (.bool true) ∧ Below W.heap.size W w' := by
  have HBG := hide (begun_any A1 len1 cap1 zs W hL hz)
  have HWK := hide (fun W' (hb : Below W.heap.size W W') => works_any W' (hL.on hb))
  have HOK := hide (kOk zs)
  have HD := hide hd
  generalize confV zs = c at HBG HOK
  have hl2 : (len2 : Int) ≤ 9223372036854775807 := by have := hd.2.2.1; simp only [maxLen] at this; omega
  clear hL hz hd
  go_enter Tryz.func10, Tryz.ntmps10
  go_wp2_with fail
  refine HBG.out.mono ?_
  rintro e w1 ⟨V, U, rfl, hA, hV, hU, hb⟩
  have HX : Hid (KX (fun _ _ _ => True) 0 w1 (initS c) W0 V U) := ⟨hA, inv_init HOK.out, kept_init c (trivial), rfl, rfl, Int.le_refl _, Int.le_refl _⟩
  obtain ⟨q, HUq⟩ : ∃ q, Hid (U.q = q) := ⟨_, rfl⟩
  rw [show U.q = q from HUq.out]
  have HV := hide hV
  have HU := hide hU
  have HB1 := hide hb
  clear hA hV hU hb HBG
  go_wp2_with fail
  refine (HWK.out w1 HB1.out).mono ?_
  rintro e w2 ⟨rfl, hb2⟩
  have HX2 := hide (HX.out.on hb2)
  have HB2 := hide (HB1.out.trans (hb2.mono HB1.out.size))
  clear HX HB1 hb2 HWK
  go_wp2_with fail
  go_loopg [8] 67 (fun gk iv wr => ∃ (j : Nat) (s : PSt) (Wj : WSt) (Vj : PV) (Uj : WV), gk = 67 - j ∧ iv = .int .i64 (6 * (j : Int)) ∧ j ≤ 67 ∧ KX (fun _ _ _ => True) (j : Int) wr s Wj Vj Uj ∧ s.cfg = c ∧ Uj.q = q ∧ (∀ k, Vj.tag k < 7 → W.heap.size ≤ k) ∧ (∀ k, Uj.tag k < 5 → W.heap.size ≤ k) ∧ Below W.heap.size W wr)
  case atStart => exact ⟨0, initS c, W0, V, U, rfl, rfl, by omega, HX2.out, rfl, HUq.out, HV.out, HU.out, HB2.out⟩
  case round =>
    obtain ⟨j, s, Wj, Vj, Uj, hgk, rfl, hj, hX, hcfg, hq, hV, hU, hB⟩ := hrel
    obtain ⟨wo, hwo⟩ : ∃ wo : World, wo = wr := ⟨_, rfl⟩
    rw [← hwo] at hX hB ⊢
    clear hwo HX2 HB2
    by_cases hgo : 6 * j + 5 < len2 ∧ 6 * j < 400
    · obtain ⟨g1, g2⟩ := hgo
      have g1' : 6 * (j : Int) + 5 < (len2 : Int) := by omega
      have g2' : 6 * (j : Int) < 400 := by omega
      have HDS : ∃ sb so z0 z1 z2 z3 z4 z5, A2 = some ⟨sb, so, none⟩ ∧ sb < W.heap.size ∧ W.cell? ⟨sb, so + 6 * j, none⟩ = some (.int .i64 z0) ∧ W.cell? ⟨sb, so + 6 * j + 1, none⟩ = some (.int .i64 z1) ∧ W.cell? ⟨sb, so + 6 * j + 2, none⟩ = some (.int .i64 z2) ∧ W.cell? ⟨sb, so + 6 * j + 3, none⟩ = some (.int .i64 z3) ∧ W.cell? ⟨sb, so + 6 * j + 4, none⟩ = some (.int .i64 z4) ∧ W.cell? ⟨sb, so + 6 * j + 5, none⟩ = some (.int .i64 z5) ∧ (-9223372036854775808 ≤ z0 ∧ z0 ≤ 9223372036854775807) ∧ (-9223372036854775808 ≤ z1 ∧ z1 ≤ 9223372036854775807) ∧ (-9223372036854775808 ≤ z2 ∧ z2 ≤ 9223372036854775807) := by
        obtain ⟨q1, q2, q3, q4⟩ := HD.out
        rcases q4 with q4 | ⟨sb, so, e, hl, hc⟩
        · omega
        · exact ⟨sb, so, _, _, _, _, _, _, e, hl, hc (6 * j) (by omega), hc (6 * j + 1) (by omega), hc (6 * j + 2) (by omega), hc (6 * j + 3) (by omega), hc (6 * j + 4) (by omega), hc (6 * j + 5) (by omega), q2 _ (List.getElem_mem _), q2 _ (List.getElem_mem _), q2 _ (List.getElem_mem _)⟩
      obtain ⟨sb, so, z0, z1, z2, z3, z4, z5, rfl, lsb, d0, d1, d2, d3, d4, d5, r0, r1, r2⟩ := HDS
      have hn0 : 0 ≤ Wj.now := by have := hX.inv.n0; have := hX.kept.nw; omega
      have hn1 : Wj.now ≤ 1099511627776 := by have := hX.inv.n1; have := hX.kept.nw; omega
      have HEV := hide (wevent_any hX.all.wr (by have := hX.al; omega) hn0 hn1 sb (so + 6 * j) (cap2 - 6 * j) z0 z1 z2 z3 z4 z5 ((hB.cell lsb).trans d0) ((hB.cell lsb).trans d1) ((hB.cell lsb).trans d2) ((hB.cell lsb).trans d3) ((hB.cell lsb).trans d4) ((hB.cell lsb).trans d5) r0 r1 r2)
      rw [hq] at HEV
      have HSX := hide (fun w' (hb : Below wo.heap.size wo w') ev (he : EvGood ev) => wstep_in keeps_true hX (by omega) hB hV hU hq hcfg hb ev he)
      have hidx0 : (6 * (j : Int)).toNat = 6 * j := by omega
      have hidx6 : (6 * (j : Int) + 6).toNat = 6 * j + 6 := by omega
      have hsub : 6 * j + 6 - 6 * j = 6 := by omega
      clear hX hV hU hB hcfg hq d0 d1 d2 d3 d4 d5
      go_wp2_with fail
      refine HEV.out.mono ?_
      rintro e w3 ⟨⟨ev, rfl, hgood⟩, hb3⟩
      have HSY := hide (fun w' (hb : Below w3.heap.size w3 w') => HSX.out w' (hb3.trans (hb.mono hb3.size)) ev hgood)
      obtain ⟨kd, cl, at_, vl, tm, sf, dr, to_⟩ := ev
      unfold evV at HSY ⊢
      dsimp only at HSY ⊢
      clear hb3 hgood HSX HEV
      go_wp2_with fail
      refine (HSY.out _ ?_).mono ?_
      · repeat (first | exact Below.refl _ _ | refine Below.drew ?_ | refine Below.setCell ?_ (by first | omega | (simp; done) | (simp; omega)) _ | refine Below.alloc ?_ (by first | omega | (simp; done) | (simp; omega)) _)
      rintro e w5 ⟨rfl, s5, W5, V5, U5, hX5, hc5, hq5, hV5, hU5, hB5⟩
      clear HSY
      have HX5 := hide hX5
      have HV5 := hide hV5
      have HU5 := hide hU5
      have HB5 := hide hB5
      have HC5 := hide hc5
      have HQ5 := hide hq5
      clear hX5 hV5 hU5 hB5 hc5 hq5
      go_wp2_with fail
      go_roundg (67 - (j + 1))
      case measure => omega
      case rel => exact ⟨j + 1, s5, W5, V5, U5, rfl, by go_num, by omega, (by rw [show ((j + 1 : Nat) : Int) = (j : Int) + 1 by omega]; exact HX5.out), HC5.out, HQ5.out, HV5.out, HU5.out, HB5.out⟩
    · have hok := hX.ok
      have hn0 : 0 ≤ Wj.now := by have := hX.inv.n0; have := hX.kept.nw; omega
      have hn1 : Wj.now ≤ 1099511627776 := by have := hX.inv.n1; have := hX.kept.nw; omega
      have hcl := hX.cl
      have lenC : (Wj.calls.length : Int) ≤ 1000 := by omega
      have nq := hX.all.wr.kk 11 _ rfl
      have cq := hX.all.wr.kk 12 _ rfl
      rw [hq] at nq cq
      obtain ⟨AC, capc, hec, -, hCf, -⟩ := hX.all.wr.rc.form
      have HC : Hid (∀ i (h : i < Wj.calls.length), ∃ g, AC = some ⟨g, 0, none⟩ ∧ wo.cell? ⟨g, i * 6 + 1, none⟩ = some (.int .i64 Wj.calls[i].deadline) ∧ wo.cell? ⟨g, i * 6 + 4, none⟩ = some (.bool Wj.calls[i].opn) ∧ (Wj.calls[i].opn = true → Wj.calls[i].deadline ≤ 1099511627776)) := fun i hi => by
        obtain ⟨g, rfl⟩ := hCf i hi
        have ho : Uj.vc.ownBlock = some g := by rw [hec]; rfl
        exact ⟨g, rfl, (hX.all.wr.rc.cell encWC_len (g := g) (j := 1) ho hi rfl).1, (hX.all.wr.rc.cell encWC_len (g := g) (j := 4) ho hi rfl).1, fun h => (hok.hb _ i _ ⟨List.getElem?_eq_getElem hi, h, rfl⟩).2.1⟩
      rw [hec] at cq
      have HX := hide hX
      have HV9 := hide hV
      have HU9 := hide hU
      have HB9 := hide hB
      have HQ9 := hide hq
      have HNW := hide hX.kept.nw
      clear hX hok hec hCf hV hU hB hq hcfg hcl
      have hgx : (6 * (j : Int) + 5 < (len2 : Int) ∧ ¬ 6 * (j : Int) < 400) ∨ ¬ 6 * (j : Int) + 5 < (len2 : Int) := by omega
      clear hgo
      rcases hgx with ⟨gx1, gx2⟩ | gx1
      all_goals
        go_wp2_with fail
        go_loop [11, 12] (fun lv kv => ∃ (k : Nat) (t : Int), k ≤ Wj.calls.length ∧ lv = .int .i64 t ∧ kv = .int .i64 (k : Int) ∧ Wj.now ≤ t ∧ t ≤ 1099511627776 ∧ ∀ i (h : i < Wj.calls.length), i < k → Wj.calls[i].opn = true → Wj.calls[i].deadline ≤ t) (fun _ kv => Wj.calls.length - (intOf kv).toNat)
        case atStart => exact ⟨0, Wj.now, Nat.zero_le _, rfl, rfl, Int.le_refl _, hn1, fun i _ h => absurd h (Nat.not_lt_zero _)⟩
        case round =>
          obtain ⟨k, t, hk, rfl, rfl, ht0, ht1, hall⟩ := hrel
          by_cases hkl : (k : Int) < (Wj.calls.length : Int)
          · have hkn : k < Wj.calls.length := by omega
            obtain ⟨g, rfl, c1, c4, hdl⟩ := HC.out k hkn
            have hstep : Hid (∀ t', t ≤ t' → (Wj.calls[k].opn = true → Wj.calls[k].deadline ≤ t') → ∀ i (h : i < Wj.calls.length), i < k + 1 → Wj.calls[i].opn = true → Wj.calls[i].deadline ≤ t') := fun t' h1 h2 i hi hik ho => by
              rcases Nat.lt_or_eq_of_le (Nat.lt_succ_iff.1 hik) with h3 | h3
              · exact Int.le_trans (hall i hi h3 ho) h1
              · subst h3
                exact h2 ho
            clear hall
            generalize Wj.calls[k].deadline = dl at c1 hdl hstep
            generalize Wj.calls[k].opn = op at c4 hdl hstep
            cases op with
            | false =>
              go_wp2_with fail
              go_round
              case rel => exact ⟨k + 1, t, by omega, rfl, by go_num, ht0, ht1, hstep.out t (Int.le_refl _) (fun h => by cases h)⟩
              case measure => simp [intOf]; omega
            | true =>
              have hdl' := hdl rfl
              by_cases hgt : t < dl
              · go_wp2_with fail
                go_round
                case rel => exact ⟨k + 1, dl, by omega, rfl, by go_num, by omega, hdl', hstep.out dl (by omega) (fun _ => Int.le_refl _)⟩
                case measure => simp [intOf]; omega
              · go_wp2_with fail
                go_round
                case rel => exact ⟨k + 1, t, by omega, rfl, by go_num, ht0, ht1, hstep.out t (Int.le_refl _) (fun _ => by omega)⟩
                case measure => simp [intOf]; omega
          · have hX := HX.out
            have hw0 : (Lit.int .i64 0).wf = true := by decide
            obtain ⟨W2, hrun, hkept, hclosed, ec, ea, et⟩ := kept_end keeps_true hX.inv hX.kept ⟨6, 0, 0, 0, 0, false, 0, t⟩ rfl (by show s.now ≤ t; have := HNW.out; omega) ht1 (fun i c hi ho => by
              obtain ⟨hil, rfl⟩ := List.getElem?_eq_some_iff.1 hi
              exact hall i hil (by omega) ho)
            have HST := hide (wstep_advX hX (by omega) ⟨6, 0, 0, 0, 0, false, 0, t⟩ ⟨hw0, hw0, Int.le_refl _⟩ rfl hrun hkept)
            rw [show Uj.q = q from HQ9.out] at HST
            unfold evV at HST
            dsimp only at HST
            have HCL := hide hclosed
            have HEC := hide ec
            have HEA := hide ea
            have HET := hide et
            generalize stepM s ⟨6, 0, 0, 0, 0, false, 0, t⟩ = s5 at HST HEC HEA HET
            generalize hW5 : endNow ⟨6, 0, 0, 0, 0, false, 0, t⟩ W2 = W5 at HST
            have HCL5 : Hid (∀ c ∈ W5.calls, c.opn = false) := by
              rw [← hW5]
              exact HCL.out
            clear hX hrun hkept hclosed ec ea et HCL hall hW5 HX hw0
            go_wp2_with fail
            refine HST.out.mono ?_
            rintro e w5 ⟨rfl, V5, U5, hX5, hM5⟩
            obtain ⟨hb5, hV5, hU5⟩ := hM5.belowB (B := W.heap.size) HB9.out.size HV9.out HU9.out
            have hq5 : U5.q = q := hM5.q.trans HQ9.out
            have HB5 := hide (HB9.out.trans hb5)
            have xq5 := hX5.all.wr.kk 0 _ rfl
            have cq5 := hX5.all.wr.kk 12 _ rfl
            rw [hq5] at xq5 cq5
            obtain ⟨A5, cap5, he5, -, hCf5, -⟩ := hX5.all.wr.rc.form
            have HC5 : Hid (∀ i (h : i < W5.calls.length), ∃ g, A5 = some ⟨g, 0, none⟩ ∧ w5.cell? ⟨g, i * 6 + 4, none⟩ = some (.bool false)) := fun i hi => by
              obtain ⟨g, rfl⟩ := hCf5 i hi
              have ho : U5.vc.ownBlock = some g := by rw [he5]; rfl
              have h8 := (hX5.all.wr.rc.cell encWC_len (g := g) (j := 4) ho hi rfl).1
              rw [HCL5.out _ (List.getElem_mem hi)] at h8
              exact ⟨g, rfl, h8⟩
            rw [he5] at cq5
            have hcl5 := hX5.cl
            have lenC5 : (W5.calls.length : Int) ≤ 1000 := by omega
            have HSS := hide (rep_state hX5.all.pr hX5.inv (by omega))
            rw [HEC.out, HEA.out, HET.out] at HSS
            simp only [List.map_nil, List.mergeSort_nil, List.length_nil] at HSS
            clear hX5 hM5 hb5 hV5 hU5 hq5 he5 hCf5 hcl5 HST nq cq HC HB9 HV9 HU9
            go_wp2_with fail
            go_loop [14] (fun kv => ∃ (k : Nat), k ≤ W5.calls.length ∧ kv = .int .i64 (k : Int)) (fun kv => W5.calls.length - (intOf kv).toNat)
            case atStart => exact ⟨0, Nat.zero_le _, rfl⟩
            case round =>
              obtain ⟨k, hk, rfl⟩ := hrel
              by_cases hkl : (k : Int) < (W5.calls.length : Int)
              · have hkn : k < W5.calls.length := by omega
                obtain ⟨g, rfl, c4⟩ := HC5.out k hkn
                go_wp2_with fail
                go_round
                case rel => exact ⟨k + 1, by omega, by go_num⟩
                case measure => simp [intOf]; omega
              · go_wp2_with fail
                refine HSS.out.mono ?_
                rintro e w6 ⟨vc, va, rfl, r1, r2, hb6⟩
                obtain ⟨a1, q1, rfl, -⟩ := r1.form
                obtain ⟨a2, q2, rfl, -⟩ := r2.form
                have HB6 := hide (HB5.out.trans (hb6.mono HB5.out.size))
                clear r1 r2 hb6
                go_wp2_with fail
                go_ret
                refine ⟨rfl, ?_⟩
                have hs6 := HB6.out.size
                repeat (first | exact HB6.out | refine Below.drew ?_ | refine Below.setCell ?_ (by first | omega | (simp; done) | (simp; omega)) _ | refine Below.alloc ?_ (by first | omega | (simp; done) | (simp; omega)) _)

end Go.Proofs.YtlccfpbbdgpjbaaGreatDoor
