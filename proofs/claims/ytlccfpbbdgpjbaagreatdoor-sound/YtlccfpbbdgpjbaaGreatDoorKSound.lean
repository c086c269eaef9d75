import Derived.Test.YtlccfpbbdgpjbaaGreatDoorKWWorks
import Derived.Test.YtlccfpbbdgpjbaaGreatDoorZState
import Derived.Deep.LoopGhost
import Derived.Deep.DeepCutAuto
namespace Go.Proofs.YtlccfpbbdgpjbaaGreatDoor
open Go.RowKit

theorem kept_open {Bd : PSt → List Int → List Int → Prop} {s : PSt} {W : WSt} (H : Kept Bd s W) {i : Nat} {k : WCall} (hi : W.calls[i]? = some k) (ho : k.opn = true) : W.now < k.deadline := by
  obtain ⟨c, hc, e⟩ := H.held.rel.oc i k hi ho
  obtain ⟨j, l, hB, q1, _⟩ := H.held.rel.co c hc
  rw [e] at hB
  have hij := H.held.rel.un k.number i k j l ⟨hi, ho, rfl⟩ hB
  subst hij
  obtain rfl := Option.some.inj (hi.symm.trans hB.1)
  have := H.dl c hc
  have := H.nw
  omega

set_option maxRecDepth 100000 in
set_option maxHeartbeats 40000000 in
theorem sound_walk (A1 : Option Addr) (len1 cap1 : Nat) (zs : List Int) (A2 : Option Addr) (len2 cap2 : Nat) (ds : List Int) (W : World) (hL : Laid W) (hz : IntsAt W A1 len1 zs) (hd : IntsAt W A2 len2 ds) (hcap : len2 ≤ cap2) :
    Calls Tryz.prog 8 #[.slice A1 len1 cap1, .slice A2 len2 cap2] W fun e w' => e = .returned (.bool true) ∧ Below W.heap.size W w' := by
  have HBG := hide (begun_any A1 len1 cap1 zs W hL hz)
  have HWK := hide (fun W' (hb : Below W.heap.size W W') => works_any W' (hL.on hb))
  have HOK := hide (kOk zs)
  have HD := hide hd
  generalize confV zs = c at HBG HOK
  have hl2 : (len2 : Int) ≤ 9223372036854775807 := by have := hd.2.2.1; simp only [maxLen] at this; omega
  clear hL hz hd
  go_enter Tryz.func8, Tryz.ntmps8
  go_wp2_with fail
  refine HBG.out.mono ?_
  rintro e w1 ⟨V, U, rfl, hA, hV, hU, hb⟩
  have HX : Hid (KX (fun _ _ _ => True) 0 w1 (initS c) W0 V U) := ⟨hA, inv_init HOK.out, kept_init c (trivial), rfl, rfl, Int.le_refl _, Int.le_refl _⟩
  obtain ⟨q, HUq⟩ : ∃ q, Hid (U.q = q) := ⟨_, rfl⟩
  rw [show U.q = q from HUq.out]
  have HV := hide hV
  have HU := hide hU
  have HB1 := hide hb
  clear hA hV hU hb HBG
  go_wp2_with fail
  refine (HWK.out w1 HB1.out).mono ?_
  rintro e w2 ⟨rfl, hb2⟩
  have HX2 := hide (HX.out.on hb2)
  have HB2 := hide (HB1.out.trans (hb2.mono HB1.out.size))
  clear HX HB1 hb2 HWK
  go_wp2_with fail
  go_loopg [8] 100 (fun gk iv wr => ∃ (j : Nat) (s : PSt) (Wj : WSt) (Vj : PV) (Uj : WV), gk = 100 - j ∧ iv = .int .i64 (6 * (j : Int)) ∧ j ≤ 100 ∧ KX (fun _ _ _ => True) (j : Int) wr s Wj Vj Uj ∧ s.cfg = c ∧ Uj.q = q ∧ (∀ k, Vj.tag k < 7 → W.heap.size ≤ k) ∧ (∀ k, Uj.tag k < 5 → W.heap.size ≤ k) ∧ Below W.heap.size W wr)
  case atStart => exact ⟨0, initS c, W0, V, U, rfl, rfl, by omega, HX2.out, rfl, HUq.out, HV.out, HU.out, HB2.out⟩
  case round =>
    obtain ⟨j, s, Wj, Vj, Uj, hgk, rfl, hj, hX, hcfg, hq, hV, hU, hB⟩ := hrel
    obtain ⟨wo, hwo⟩ : ∃ wo : World, wo = wr := ⟨_, rfl⟩
    rw [← hwo] at hX hB ⊢
    clear hwo HX2 HB2
    by_cases hgo : 6 * j + 5 < len2 ∧ 6 * j < 600
    · obtain ⟨g1, g2⟩ := hgo
      have g1' : 6 * (j : Int) + 5 < (len2 : Int) := by omega
      have g2' : 6 * (j : Int) < 600 := by omega
      have HDS : ∃ sb so z0 z1 z2 z3 z4 z5, A2 = some ⟨sb, so, none⟩ ∧ sb < W.heap.size ∧ W.cell? ⟨sb, so + 6 * j, none⟩ = some (.int .i64 z0) ∧ W.cell? ⟨sb, so + 6 * j + 1, none⟩ = some (.int .i64 z1) ∧ W.cell? ⟨sb, so + 6 * j + 2, none⟩ = some (.int .i64 z2) ∧ W.cell? ⟨sb, so + 6 * j + 3, none⟩ = some (.int .i64 z3) ∧ W.cell? ⟨sb, so + 6 * j + 4, none⟩ = some (.int .i64 z4) ∧ W.cell? ⟨sb, so + 6 * j + 5, none⟩ = some (.int .i64 z5) ∧ (-9223372036854775808 ≤ z0 ∧ z0 ≤ 9223372036854775807) ∧ (-9223372036854775808 ≤ z1 ∧ z1 ≤ 9223372036854775807) ∧ (-9223372036854775808 ≤ z2 ∧ z2 ≤ 9223372036854775807) := by
        obtain ⟨q1, q2, q3, q4⟩ := HD.out
        rcases q4 with q4 | ⟨sb, so, e, hl, hc⟩
        · omega
        · exact ⟨sb, so, _, _, _, _, _, _, e, hl, hc (6 * j) (by omega), hc (6 * j + 1) (by omega), hc (6 * j + 2) (by omega), hc (6 * j + 3) (by omega), hc (6 * j + 4) (by omega), hc (6 * j + 5) (by omega), q2 _ (List.getElem_mem _), q2 _ (List.getElem_mem _), q2 _ (List.getElem_mem _)⟩
      obtain ⟨sb, so, z0, z1, z2, z3, z4, z5, rfl, lsb, d0, d1, d2, d3, d4, d5, r0, r1, r2⟩ := HDS
      have hn0 : 0 ≤ Wj.now := by have := hX.inv.n0; have := hX.kept.nw; omega
      have hn1 : Wj.now ≤ 1099511627776 := by have := hX.inv.n1; have := hX.kept.nw; omega
      have HEV := hide (wevent_any hX.all.wr (by have := hX.al; omega) hn0 hn1 sb (so + 6 * j) (cap2 - 6 * j) z0 z1 z2 z3 z4 z5 ((hB.cell lsb).trans d0) ((hB.cell lsb).trans d1) ((hB.cell lsb).trans d2) ((hB.cell lsb).trans d3) ((hB.cell lsb).trans d4) ((hB.cell lsb).trans d5) r0 r1 r2)
      rw [hq] at HEV
      have HSX := hide (fun w' (hb : Below wo.heap.size wo w') ev (he : EvGood ev) => wstep_in keeps_true hX (by omega) hB hV hU hq hcfg hb ev he)
      have hidx0 : (6 * (j : Int)).toNat = 6 * j := by omega
      have hidx6 : (6 * (j : Int) + 6).toNat = 6 * j + 6 := by omega
      have hsub : 6 * j + 6 - 6 * j = 6 := by omega
      clear hX hV hU hB hcfg hq d0 d1 d2 d3 d4 d5
      go_wp2_with fail
      refine HEV.out.mono ?_
      rintro e w3 ⟨⟨ev, rfl, hgood⟩, hb3⟩
      have HSY := hide (fun w' (hb : Below w3.heap.size w3 w') => HSX.out w' (hb3.trans (hb.mono hb3.size)) ev hgood)
      obtain ⟨kd, cl, at_, vl, tm, sf, dr, to_⟩ := ev
      unfold evV at HSY ⊢
      dsimp only at HSY ⊢
      clear hb3 hgood HSX HEV
      go_wp2_with fail
      refine (HSY.out _ ?_).mono ?_
      · repeat (first | exact Below.refl _ _ | refine Below.drew ?_ | refine Below.setCell ?_ (by first | omega | (simp; done) | (simp; omega)) _ | refine Below.alloc ?_ (by first | omega | (simp; done) | (simp; omega)) _)
      rintro e w5 ⟨rfl, s5, W5, V5, U5, hX5, hc5, hq5, hV5, hU5, hB5⟩
      clear HSY
      have xq5 := hX5.all.wr.kk 0 _ rfl
      rw [hq5] at xq5
      have HSS := hide (rep_state hX5.all.pr hX5.inv (by omega))
      rw [← show W5.now = s5.now from hX5.kept.nw] at HSS
      have hb0 : 0 ≤ sumB s5.units := sumB_pos hX5.inv.ub
      have hb1 : sumB s5.units ≤ c.cap := by rw [← hc5]; exact hX5.inv.us
      have hol : (W5.calls.filter (·.opn)).length = s5.calls.length := open_len hX5.inv hX5.kept.held.rel
      have HLN : Hid (((s5.calls.map (·.number)).mergeSort).length = s5.calls.length) := by show _ = _; rw [List.length_mergeSort, List.length_map]
      have hcl5 : (W5.calls.length : Int) ≤ 1000 := by have := hX5.cl; omega
      have hcs5 : (s5.calls.length : Int) ≤ 1000 := by have := List.length_filter_le (fun x : WCall => x.opn) W5.calls; omega
      have HOL := hide hol
      have HX5 := hide hX5
      have HV5 := hide hV5
      have HU5 := hide hU5
      have HB5 := hide hB5
      have HC5 := hide hc5
      have HQ5 := hide hq5
      have HKO := hide (fun i k hi ho => kept_open hX5.kept (i := i) (k := k) hi ho)
      clear hX5 hV5 hU5 hB5 hc5 hq5 hol
      go_wp2_with fail
      refine HSS.out.mono ?_
      rintro e w6 ⟨vc, va, rfl, r1, r2, hb6⟩
      obtain ⟨a2, q2, e2, -⟩ := r2.form
      obtain ⟨nva, hnva⟩ : ∃ nva, nva = ((s5.atts.map (·.1)).mergeSort).length := ⟨_, rfl⟩
      rw [← hnva] at e2
      clear hnva
      obtain ⟨a1, q1, e1, -⟩ := r1.form
      rw [HLN.out] at e1
      clear r2
      subst e1 e2
      have HXB := hide (fun w' (hb : Below w6.heap.size w6 w') => HX5.out.on (hb6.trans (hb.mono hb6.size)))
      have HBB := hide (fun w' (hb : Below w6.heap.size w6 w') => HB5.out.trans (hb6.trans (hb.mono hb6.size) |>.mono HB5.out.size))
      generalize sumB s5.units = bal at hb0 hb1 ⊢
      generalize s5.timers.length = ntm
      generalize s5.times.length = nti
      generalize s5.stale = nst
      generalize s5.calls.length = ncl at HOL hcs5 ⊢
      clear r1 hb6 HSS xq5 HLN
      go_upto_region 14 with fail
      have hbx : Below w6.heap.size w6 (w6.alloc (.cells #[.int .i64 W5.now, .int .i64 bal, .slice a1 ncl q1, .slice a2 nva q2, .int .i64 ntm, .int .i64 nti, .int .i64 nst] 64)) := (Below.refl _ _).alloc (Nat.le_refl _) _
      have HX7 := hide (HXB.out _ hbx)
      have HB7 := hide (HBB.out _ hbx)
      have y0 : (w6.alloc (.cells #[.int .i64 W5.now, .int .i64 bal, .slice a1 ncl q1, .slice a2 nva q2, .int .i64 ntm, .int .i64 nti, .int .i64 nst] 64)).cell? ⟨w6.heap.size, 0, none⟩ = some (.int .i64 W5.now) := by simp
      have y1 : (w6.alloc (.cells #[.int .i64 W5.now, .int .i64 bal, .slice a1 ncl q1, .slice a2 nva q2, .int .i64 ntm, .int .i64 nti, .int .i64 nst] 64)).cell? ⟨w6.heap.size, 1, none⟩ = some (.int .i64 bal) := by simp
      have y2 : (w6.alloc (.cells #[.int .i64 W5.now, .int .i64 bal, .slice a1 ncl q1, .slice a2 nva q2, .int .i64 ntm, .int .i64 nti, .int .i64 nst] 64)).cell? ⟨w6.heap.size, 2, none⟩ = some (.slice a1 ncl q1) := by simp
      clear hbx HXB HBB HX5 HB5
      generalize (w6.alloc (.cells #[.int .i64 W5.now, .int .i64 bal, .slice a1 ncl q1, .slice a2 nva q2, .int .i64 ntm, .int .i64 nti, .int .i64 nst] 64)) = w7 at HX7 HB7 y0 y1 y2 ⊢
      generalize w6.heap.size = sb7 at y0 y1 y2 ⊢
      have cq7 := HX7.out.all.wr.kk 12 _ rfl
      have nq7 := HX7.out.all.wr.kk 11 _ rfl
      have pq7 := HX7.out.all.wr.kk 3 _ rfl
      rw [show U5.q = q from HQ5.out] at cq7 nq7 pq7
      rw [show s5.cfg = c from HC5.out] at pq7
      obtain ⟨AC, capc, hec, -, hCf, -⟩ := HX7.out.all.wr.rc.form
      have HCC : Hid (∀ i (h : i < W5.calls.length), ∃ g, AC = some ⟨g, 0, none⟩ ∧ w7.cell? ⟨g, i * 6 + 1, none⟩ = some (.int .i64 W5.calls[i].deadline) ∧ w7.cell? ⟨g, i * 6 + 4, none⟩ = some (.bool W5.calls[i].opn) ∧ (W5.calls[i].opn = true → W5.now < W5.calls[i].deadline)) := fun i hi => by
        obtain ⟨g, rfl⟩ := hCf i hi
        have ho : U5.vc.ownBlock = some g := by rw [hec]; rfl
        exact ⟨g, rfl, (HX7.out.all.wr.rc.cell encWC_len (g := g) (j := 1) ho hi rfl).1, (HX7.out.all.wr.rc.cell encWC_len (g := g) (j := 4) ho hi rfl).1, fun h => HKO.out i _ (List.getElem?_eq_getElem hi) h⟩
      rw [hec] at cq7
      clear hec hCf HKO
      go_wp2_with fail
      go_loopg [12, 13] W5.calls.length (fun gk ov kv wx => ∃ (k n : Nat), gk = W5.calls.length - k ∧ k ≤ W5.calls.length ∧ ov = .int .i64 (((W5.calls.take k).filter (·.opn)).length : Int) ∧ kv = .int .i64 (k : Int) ∧ wx = w7.drewN n)
      case atStart => exact ⟨0, 0, rfl, Nat.zero_le _, rfl, rfl, rfl⟩
      case round =>
        obtain ⟨k, n1, hgk2, hk, rfl, rfl, rfl⟩ := hrel
        have cq8 : (w7.drewN n1).cell? ⟨q, 12, none⟩ = some (.slice AC W5.calls.length capc) := cq7
        have nq8 : (w7.drewN n1).cell? ⟨q, 11, none⟩ = some (.int .i64 W5.now) := nq7
        have hle : ((W5.calls.take k).filter (·.opn)).length ≤ k := Nat.le_trans (List.length_filter_le _ _) (by rw [List.length_take]; omega)
        by_cases hkl : (k : Int) < (W5.calls.length : Int)
        · have hkn : k < W5.calls.length := by omega
          obtain ⟨g, rfl, c1, c4, hdl⟩ := HCC.out k hkn
          have HS := hide (filter_snoc (fun c : WCall => c.opn) W5.calls k hkn)
          generalize W5.calls[k] = cc at c1 c4 hdl HS
          obtain ⟨cc1, dl, cc3, cc5, op, cc6⟩ := cc
          dsimp only at c1 c4 hdl HS
          have c18 : (w7.drewN n1).cell? ⟨g, k * 6 + 1, none⟩ = some (.int .i64 dl) := c1
          have c48 : (w7.drewN n1).cell? ⟨g, k * 6 + 4, none⟩ = some (.bool op) := c4

          generalize ((W5.calls.take k).filter (·.opn)) = Lk at HS hle ⊢
          cases op with
          | false =>
            go_wp2_with fail
            go_roundg (W5.calls.length - (k + 1))
            case measure => omega
            case rel => exact ⟨k + 1, n1, rfl, by omega, by rw [HS.out]; simp, by go_num, rfl⟩
          | true =>
            have hdl' := hdl rfl
            have y5 : decide (dl ≤ W5.now) = false := decide_eq_false (by omega)
            clear hdl
            go_wp2_with fail
            go_big_quiet (fail)
            go_wp2_with fail
            go_roundg (W5.calls.length - (k + 1))
            case measure => omega
            case rel => exact ⟨k + 1, _, rfl, by omega, by rw [HS.out]; simp, by go_num, rfl⟩
        · have hall : W5.calls.take k = W5.calls := List.take_of_length_le (by omega)
          rw [hall, HOL.out]
          have y08 : (w7.drewN n1).cell? ⟨sb7, 0, none⟩ = some (.int .i64 W5.now) := y0
          have y18 : (w7.drewN n1).cell? ⟨sb7, 1, none⟩ = some (.int .i64 bal) := y1
          have y28 : (w7.drewN n1).cell? ⟨sb7, 2, none⟩ = some (.slice a1 ncl q1) := y2
          have pq8 : (w7.drewN n1).cell? ⟨q, 3, none⟩ = some (.int .i64 c.cap) := pq7
          have y6 : decide (bal < 0) = false := decide_eq_false (by omega)
          have y7 : decide (bal > c.cap) = false := decide_eq_false (by omega)
          have y7' : decide (c.cap < bal) = false := decide_eq_false (by omega)
          have HXN := hide (fun n => HX7.out.on (below_drewN w7 n))
          have HBN := hide (fun n => HB7.out.trans ((below_drewN w7 n).mono HB7.out.size))
          clear HCC hle hall
          go_wp2_with fail
          go_big_quiet (fail)
          go_wp2_with fail
          go_roundg (100 - (j + 1))
          case measure => omega
          case rel => exact ⟨j + 1, s5, W5, V5, U5, rfl, by go_num, by omega, (by rw [show ((j + 1 : Nat) : Int) = (j : Int) + 1 by omega]; exact HXN.out _), HC5.out, HQ5.out, HV5.out, HU5.out, HBN.out _⟩
    · have HB9 := hide hB
      have hgx : (6 * (j : Int) + 5 < (len2 : Int) ∧ ¬ 6 * (j : Int) < 600) ∨ ¬ 6 * (j : Int) + 5 < (len2 : Int) := by omega
      clear hgo hX hcfg hq hV hU hB
      rcases hgx with ⟨gx1, gx2⟩ | gx1
      all_goals
        go_wp2_with fail
        go_ret
        exact ⟨rfl, HB9.out⟩

end Go.Proofs.YtlccfpbbdgpjbaaGreatDoor
