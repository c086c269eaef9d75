import Derived.Test.YtlccfpbbdgpjbaaGreatDoorKWWorks
import Derived.Deep.LoopGhost
import Derived.Deep.DeepCutAuto
namespace Go.Proofs.YtlccfpbbdgpjbaaGreatDoor
open Go.RowKit

/-- With times that are no less than 0. -/
def Bdd0 (s : PSt) (m l : List Int) : Prop := Bdd s m l ∧ (∀ x ∈ l, 0 ≤ x) ∧ ∀ x ∈ m, 0 ≤ x
theorem bdd0_keeps : Keeps Bdd0 where
  same h e1 e2 e3 := ⟨bdd_keeps.same h.1 e1 e2 e3, h.2⟩
  go t h hI ht := ⟨bdd_keeps.go t h.1 hI ht, h.2⟩
  take h hI hc := ⟨bdd_keeps.take h.1 hI hc, fun x hx => by
    rcases List.mem_append.1 hx with h1 | h1
    · exact h.2.1 x h1
    · rw [List.mem_singleton.1 h1]; exact hI.n0, h.2.2⟩
  admit h hI := ⟨bdd_keeps.admit h.1 hI, fun x hx => by
    rcases List.mem_append.1 hx with h1 | h1
    · exact h.2.1 x h1
    · rw [List.mem_singleton.1 h1]; exact hI.n0, fun x hx => by
    rcases List.mem_append.1 hx with h1 | h1
    · exact h.2.2 x h1
    · rw [List.mem_singleton.1 h1]; exact hI.n0⟩
theorem cntI_take (p : Int → Bool) (l : List Int) (j : Nat) (h : j < l.length) : cntI p (l.take (j + 1)) = cntI p (l.take j) + if p l[j] then 1 else 0 := by
  rw [List.take_succ_eq_append_getElem h, cntI_snoc]
theorem cntI_le (p : Int → Bool) (l : List Int) : cntI p l ≤ (l.length : Int) := by
  unfold cntI
  have := List.length_filter_le p l
  omega
theorem mul_in {a b x y : Int} (a0 : 0 ≤ a) (a1 : a ≤ x) (b0 : 0 ≤ b) (b1 : b ≤ y) : 0 ≤ a * b ∧ a * b ≤ x * y :=
  ⟨Int.mul_nonneg a0 b0, Int.mul_le_mul a1 b1 b0 (Int.le_trans a0 a1)⟩
theorem wrap_in {x : Int} (h0 : -9223372036854775808 ≤ x) (h1 : x ≤ 9223372036854775807) : IntKind.i64.wrap x = x := by
  rw [IntKind.wrap_i64]; omega

set_option maxRecDepth 100000 in
set_option maxHeartbeats 40000000 in
theorem bound_walk (A1 : Option Addr) (len1 cap1 : Nat) (zs : List Int) (A2 : Option Addr) (len2 cap2 : Nat) (ds : List Int) (W : World) (hL : Laid W) (hz : IntsAt W A1 len1 zs) (hd : IntsAt W A2 len2 ds) (hcap : len2 ≤ cap2) :
    Calls Tryz.prog 9 #[.slice A1 len1 cap1, .slice A2 len2 cap2] W fun e w' => e = .returned (.bool true) ∧ Below W.heap.size W w' := by
  have HBG := hide (begun_any A1 len1 cap1 zs W hL hz)
  have HWK := hide (fun W' (hb : Below W.heap.size W W') => works_any W' (hL.on hb))
  have HOK := hide (kOk zs)
  have HD := hide hd
  generalize confV zs = c at HBG HOK
  have hl2 : (len2 : Int) ≤ 9223372036854775807 := by have := hd.2.2.1; simp only [maxLen] at this; omega
  clear hL hz hd
  go_enter Tryz.func9, Tryz.ntmps9
  go_wp2_with fail
  refine HBG.out.mono ?_
  rintro e w1 ⟨V, U, rfl, hA, hV, hU, hb⟩
  have HX : Hid (KX Bdd0 0 w1 (initS c) W0 V U) := ⟨hA, inv_init HOK.out, kept_init c (⟨bdd_init HOK.out, (fun x hx => by cases hx), (fun x hx => by cases hx)⟩), rfl, rfl, Int.le_refl _, Int.le_refl _⟩
  obtain ⟨q, HUq⟩ : ∃ q, Hid (U.q = q) := ⟨_, rfl⟩
  rw [show U.q = q from HUq.out]
  have HV := hide hV
  have HU := hide hU
  have HB1 := hide hb
  clear hA hV hU hb HBG
  go_wp2_with fail
  refine (HWK.out w1 HB1.out).mono ?_
  rintro e w2 ⟨rfl, hb2⟩
  have HX2 := hide (HX.out.on hb2)
  have HB2 := hide (HB1.out.trans (hb2.mono HB1.out.size))
  clear HX HB1 hb2 HWK
  go_wp2_with fail
  go_loopg [8] 67 (fun gk iv wr => ∃ (j : Nat) (s : PSt) (Wj : WSt) (Vj : PV) (Uj : WV), gk = 67 - j ∧ iv = .int .i64 (6 * (j : Int)) ∧ j ≤ 67 ∧ KX Bdd0 (j : Int) wr s Wj Vj Uj ∧ s.cfg = c ∧ Uj.q = q ∧ (∀ k, Vj.tag k < 7 → W.heap.size ≤ k) ∧ (∀ k, Uj.tag k < 5 → W.heap.size ≤ k) ∧ Below W.heap.size W wr)
  case atStart => exact ⟨0, initS c, W0, V, U, rfl, rfl, by omega, HX2.out, rfl, HUq.out, HV.out, HU.out, HB2.out⟩
  case round =>
    obtain ⟨j, s, Wj, Vj, Uj, hgk, rfl, hj, hX, hcfg, hq, hV, hU, hB⟩ := hrel
    obtain ⟨wo, hwo⟩ : ∃ wo : World, wo = wr := ⟨_, rfl⟩
    rw [← hwo] at hX hB ⊢
    clear hwo HX2 HB2
    by_cases hgo : 6 * j + 5 < len2 ∧ 6 * j < 400
    · obtain ⟨g1, g2⟩ := hgo
      have g1' : 6 * (j : Int) + 5 < (len2 : Int) := by omega
      have g2' : 6 * (j : Int) < 400 := by omega
      have HDS : ∃ sb so z0 z1 z2 z3 z4 z5, A2 = some ⟨sb, so, none⟩ ∧ sb < W.heap.size ∧ W.cell? ⟨sb, so + 6 * j, none⟩ = some (.int .i64 z0) ∧ W.cell? ⟨sb, so + 6 * j + 1, none⟩ = some (.int .i64 z1) ∧ W.cell? ⟨sb, so + 6 * j + 2, none⟩ = some (.int .i64 z2) ∧ W.cell? ⟨sb, so + 6 * j + 3, none⟩ = some (.int .i64 z3) ∧ W.cell? ⟨sb, so + 6 * j + 4, none⟩ = some (.int .i64 z4) ∧ W.cell? ⟨sb, so + 6 * j + 5, none⟩ = some (.int .i64 z5) ∧ (-9223372036854775808 ≤ z0 ∧ z0 ≤ 9223372036854775807) ∧ (-9223372036854775808 ≤ z1 ∧ z1 ≤ 9223372036854775807) ∧ (-9223372036854775808 ≤ z2 ∧ z2 ≤ 9223372036854775807) := by
        obtain ⟨q1, q2, q3, q4⟩ := HD.out
        rcases q4 with q4 | ⟨sb, so, e, hl, hc⟩
        · omega
        · exact ⟨sb, so, _, _, _, _, _, _, e, hl, hc (6 * j) (by omega), hc (6 * j + 1) (by omega), hc (6 * j + 2) (by omega), hc (6 * j + 3) (by omega), hc (6 * j + 4) (by omega), hc (6 * j + 5) (by omega), q2 _ (List.getElem_mem _), q2 _ (List.getElem_mem _), q2 _ (List.getElem_mem _)⟩
      obtain ⟨sb, so, z0, z1, z2, z3, z4, z5, rfl, lsb, d0, d1, d2, d3, d4, d5, r0, r1, r2⟩ := HDS
      have hn0 : 0 ≤ Wj.now := by have := hX.inv.n0; have := hX.kept.nw; omega
      have hn1 : Wj.now ≤ 1099511627776 := by have := hX.inv.n1; have := hX.kept.nw; omega
      have HEV := hide (wevent_any hX.all.wr (by have := hX.al; omega) hn0 hn1 sb (so + 6 * j) (cap2 - 6 * j) z0 z1 z2 z3 z4 z5 ((hB.cell lsb).trans d0) ((hB.cell lsb).trans d1) ((hB.cell lsb).trans d2) ((hB.cell lsb).trans d3) ((hB.cell lsb).trans d4) ((hB.cell lsb).trans d5) r0 r1 r2)
      rw [hq] at HEV
      have HSX := hide (fun w' (hb : Below wo.heap.size wo w') ev (he : EvGood ev) => wstep_in bdd0_keeps hX (by omega) hB hV hU hq hcfg hb ev he)
      have hidx0 : (6 * (j : Int)).toNat = 6 * j := by omega
      have hidx6 : (6 * (j : Int) + 6).toNat = 6 * j + 6 := by omega
      have hsub : 6 * j + 6 - 6 * j = 6 := by omega
      clear hX hV hU hB hcfg hq d0 d1 d2 d3 d4 d5
      go_wp2_with fail
      refine HEV.out.mono ?_
      rintro e w3 ⟨⟨ev, rfl, hgood⟩, hb3⟩
      have HSY := hide (fun w' (hb : Below w3.heap.size w3 w') => HSX.out w' (hb3.trans (hb.mono hb3.size)) ev hgood)
      obtain ⟨kd, cl, at_, vl, tm, sf, dr, to_⟩ := ev
      unfold evV at HSY ⊢
      dsimp only at HSY ⊢
      clear hb3 hgood HSX HEV
      go_wp2_with fail
      refine (HSY.out _ ?_).mono ?_
      · repeat (first | exact Below.refl _ _ | refine Below.drew ?_ | refine Below.setCell ?_ (by first | omega | (simp; done) | (simp; omega)) _ | refine Below.alloc ?_ (by first | omega | (simp; done) | (simp; omega)) _)
      rintro e w5 ⟨rfl, s5, W5, V5, U5, hX5, hc5, hq5, hV5, hU5, hB5⟩
      clear HSY
      have HX5 := hide hX5
      have HV5 := hide hV5
      have HU5 := hide hU5
      have HB5 := hide hB5
      have HC5 := hide hc5
      have HQ5 := hide hq5
      clear hX5 hV5 hU5 hB5 hc5 hq5
      go_wp2_with fail
      go_roundg (67 - (j + 1))
      case measure => omega
      case rel => exact ⟨j + 1, s5, W5, V5, U5, rfl, by go_num, by omega, (by rw [show ((j + 1 : Nat) : Int) = (j : Int) + 1 by omega]; exact HX5.out), HC5.out, HQ5.out, HV5.out, HU5.out, HB5.out⟩
    · have hbnd := hX.kept.held.bd
      have hinv := hX.inv
      have HALL := hide (fun a b (ha : a ∈ Wj.lau) => bdd_all hinv hbnd.1 a b ha)
      rw [hcfg] at HALL
      obtain ⟨h9, -, -, -⟩ := HD.out
      have hal := hX.al
      have hll := hX.ll
      have ham := hX.am
      have hcl := hX.cl
      have lenL : (Wj.lau.length : Int) ≤ 1000 := by omega
      have lenM : (Wj.adm.length : Int) ≤ 1000 := by omega
      have hL0 : Hid (∀ x ∈ Wj.lau, 0 ≤ x ∧ x ≤ 1099511627776) := fun x hx => ⟨hbnd.2.1 x hx, Int.le_trans (hbnd.1.lm x hx) hinv.n1⟩
      have hM0 : Hid (∀ x ∈ Wj.adm, 0 ≤ x ∧ x ≤ 1099511627776) := fun x hx => ⟨hbnd.2.2 x hx, Int.le_trans (hbnd.1.mm x hx) hinv.n1⟩
      have lq := hX.all.wr.kk 15 _ rfl
      have mq := hX.all.wr.kk 14 _ rfl
      have k1 := hX.all.wr.kk 1 _ rfl
      have k2 := hX.all.wr.kk 2 _ rfl
      have k3 := hX.all.wr.kk 3 _ rfl
      have k4 := hX.all.wr.kk 4 _ rfl
      rw [hcfg] at k1 k2 k3 k4
      rw [hq] at lq mq k1 k2 k3 k4
      obtain ⟨AL, capl, hel, -, hLf, -⟩ := hX.all.wr.rl.form
      obtain ⟨AM, capm, hem, -, hMf, -⟩ := hX.all.wr.rm.form
      have HL : Hid (∀ i (h : i < Wj.lau.length), ∃ g, AL = some ⟨g, 0, none⟩ ∧ wo.cell? ⟨g, i, none⟩ = some (.int .i64 Wj.lau[i])) := fun i hi => by
        obtain ⟨g, rfl⟩ := hLf i hi
        have ho : Uj.vl.ownBlock = some g := by rw [hel]; rfl
        have := (hX.all.wr.rl.cell (fun _ => rfl) (g := g) (j := 0) ho hi rfl).1
        exact ⟨g, rfl, by simpa using this⟩
      have HM : Hid (∀ i (h : i < Wj.adm.length), ∃ g, AM = some ⟨g, 0, none⟩ ∧ wo.cell? ⟨g, i, none⟩ = some (.int .i64 Wj.adm[i])) := fun i hi => by
        obtain ⟨g, rfl⟩ := hMf i hi
        have ho : Uj.vm.ownBlock = some g := by rw [hem]; rfl
        have := (hX.all.wr.rm.cell (fun _ => rfl) (g := g) (j := 0) ho hi rfl).1
        exact ⟨g, rfl, by simpa using this⟩
      rw [hel] at lq
      rw [hem] at mq
      have HBE := hide hB
      obtain ⟨cd0, cd1, cc0, cc1, cp0, cp1, cw0, cw1, -⟩ := HOK.out
      generalize Wj.lau = L at HALL lenL hL0 lq HL
      generalize Wj.adm = M at HALL lenM hM0 mq HM
      clear hX hinv hbnd hcfg hq hV hU hB hel hem hLf hMf hal hll ham hcl h9
      obtain ⟨dep, cost, kcap, win, ka, kf, kb, km, kr, ks⟩ := c
      dsimp only at cd0 cd1 cc0 cc1 cp0 cp1 cw0 cw1 k1 k2 k3 k4 HALL
      have gx : ¬ (6 * (j : Int) + 5 < (len2 : Int) ∧ 6 * (j : Int) < 400) := by omega
      have hgx : (6 * (j : Int) + 5 < (len2 : Int) ∧ ¬ 6 * (j : Int) < 400) ∨ ¬ 6 * (j : Int) + 5 < (len2 : Int) := by omega
      clear hgo gx
      rcases hgx with ⟨gx1, gx2⟩ | gx1
      all_goals
        go_wp2_with fail
        go_loopg [11] L.length (fun gk iv wx => ∃ (i n : Nat), gk = L.length - i ∧ iv = .int .i64 (i : Int) ∧ i ≤ L.length ∧ wx = wo.drewN n)
        case atStart => exact ⟨0, 0, rfl, rfl, Nat.zero_le _, rfl⟩
        case round =>
          as_aux_lemma =>
            obtain ⟨i, n1, hgi, rfl, hi, rfl⟩ := hrel
            have lq1 : (wo.drewN n1).cell? ⟨q, 15, none⟩ = some (.slice AL L.length capl) := lq
            by_cases hil : (i : Int) < (L.length : Int)
            · have hin : i < L.length := by omega
              obtain ⟨gl, rfl, ca⟩ := HL.out i hin
              have hLi := hL0.out _ (List.getElem_mem hin)
              have HAI := hide (fun b => HALL.out L[i] b (List.getElem_mem hin))
              generalize L[i] = a at ca hLi HAI
              obtain ⟨ha0, ha1⟩ := hLi
              have hwa : IntKind.i64.wrap (a - win) = a - win := wrap_in (by omega) (by omega)
              go_wp2_with fail
              go_loopg [12] (L.length - i) (fun gk kv wx => ∃ (k n : Nat), gk = L.length - k ∧ kv = .int .i64 (k : Int) ∧ i ≤ k ∧ k ≤ L.length ∧ wx = wo.drewN n)
              case atStart => exact ⟨i, n1, rfl, rfl, Nat.le_refl _, hi, rfl⟩
              case round =>
                as_aux_lemma =>
                  obtain ⟨k, n2, hgk2, rfl, hik, hk, rfl⟩ := hrel
                  have lq2 : (wo.drewN n2).cell? ⟨q, 15, none⟩ = some (.slice (some ⟨gl, 0, none⟩) L.length capl) := lq
                  by_cases hkl : (k : Int) < (L.length : Int)
                  · have hkn : k < L.length := by omega
                    obtain ⟨gl', hgl', cb⟩ := HL.out k hkn
                    obtain rfl : gl' = gl := by simpa using hgl'.symm
                    have ca2 : (wo.drewN n2).cell? ⟨gl', i, none⟩ = some (.int .i64 a) := ca
                    have cb2 : (wo.drewN n2).cell? ⟨gl', k, none⟩ = some (.int .i64 L[k]) := cb
                    have HAB := hide (HAI.out L[k])
                    generalize L[k] = b at cb2 HAB
                    clear cb
                    go_wp2_with fail
                    go_loop [15, 16] (fun nv jv => ∃ m : Nat, m ≤ L.length ∧ nv = .int .i64 (cntI (inAB a b) (L.take m)) ∧ jv = .int .i64 (m : Int)) (fun _ jv => L.length - (intOf jv).toNat)
                    case atStart => exact ⟨0, Nat.zero_le _, rfl, rfl⟩
                    case round =>
                      as_aux_lemma =>
                        obtain ⟨m, hm, rfl, rfl⟩ := hrel
                        have h0 := cntI_pos (inAB a b) (L.take m)
                        have h1 := cntI_le (inAB a b) (L.take m)
                        have h2 : (L.take m).length ≤ L.length := by rw [List.length_take]; omega
                        by_cases hml : (m : Int) < (L.length : Int)
                        · have hmn : m < L.length := by omega
                          obtain ⟨gl2, hgl2, cx⟩ := HL.out m hmn
                          obtain rfl : gl2 = gl' := by simpa using hgl2.symm
                          have cx2 : (wo.drewN n2).cell? ⟨gl2, m, none⟩ = some (.int .i64 L[m]) := cx
                          have HT := hide (cntI_take (inAB a b) L m hmn)
                          generalize L[m] = x at cx2 HT
                          clear cx
                          generalize cntI (inAB a b) (L.take m) = nn at h0 h1 HT ⊢
                          by_cases x1 : a ≤ x
                          · by_cases x2 : x ≤ b
                            · have hin' : inAB a b x = true := by unfold inAB; simp [x1, x2]
                              go_wp2_with fail
                              go_round
                              case rel => exact ⟨m + 1, by omega, by rw [HT.out, if_pos hin'], by go_num⟩
                              case measure => simp [intOf]; omega
                            · have hin' : inAB a b x = false := by unfold inAB; simp [x2]
                              go_wp2_with fail
                              go_round
                              case rel => exact ⟨m + 1, by omega, by rw [HT.out, hin']; simp, by go_num⟩
                              case measure => simp [intOf]; omega
                          · have hin' : inAB a b x = false := by unfold inAB; simp [x1]
                            go_wp2_with fail
                            go_round
                            case rel => exact ⟨m + 1, by omega, by rw [HT.out, hin']; simp, by go_num⟩
                            case measure => simp [intOf]; omega
                        · have hall : L.take m = L := List.take_of_length_le (by omega)
                          rw [hall] at h0 h1 ⊢
                          obtain ⟨n0, hn0⟩ : ∃ n0, n0 = cntI (inAB a b) L := ⟨_, rfl⟩
                          rw [← hn0] at h0 h1 ⊢
                          have HN0 := hide hn0
                          clear hn0
                          go_wp2_with fail
                          go_loopg [17, 18, 19] M.length (fun gk cv pv jv wx => ∃ (m n : Nat), gk = M.length - m ∧ m ≤ M.length ∧ cv = .int .i64 (cntI (inAB a b) (M.take m)) ∧ pv = .int .i64 (cntI (befA a win) (M.take m)) ∧ jv = .int .i64 (m : Int) ∧ wx = wo.drewN n)
                          case atStart => exact ⟨0, n2, rfl, Nat.zero_le _, rfl, rfl, rfl, rfl⟩
                          case round =>
                            as_aux_lemma =>
                              obtain ⟨m, n3, hgm, hm, rfl, rfl, rfl, rfl⟩ := hrel
                              have mq3 : (wo.drewN n3).cell? ⟨q, 14, none⟩ = some (.slice AM M.length capm) := mq
                              have c0 := cntI_pos (inAB a b) (M.take m)
                              have c1 := cntI_le (inAB a b) (M.take m)
                              have p0 := cntI_pos (befA a win) (M.take m)
                              have p1 := cntI_le (befA a win) (M.take m)
                              have h2 : (M.take m).length ≤ M.length := by rw [List.length_take]; omega
                              by_cases hml : (m : Int) < (M.length : Int)
                              · have hmn : m < M.length := by omega
                                obtain ⟨gm, rfl, cx⟩ := HM.out m hmn
                                have cx2 : (wo.drewN n3).cell? ⟨gm, m, none⟩ = some (.int .i64 M[m]) := cx
                                have kw : (wo.drewN n3).cell? ⟨q, 4, none⟩ = some (.int .i64 win) := k4
                                have HT := hide (cntI_take (inAB a b) M m hmn)
                                have HP := hide (cntI_take (befA a win) M m hmn)
                                generalize M[m] = x at cx cx2 HT HP
                                generalize cntI (inAB a b) (M.take m) = nc at c0 c1 HT ⊢
                                generalize cntI (befA a win) (M.take m) = np at p0 p1 HP ⊢
                                have x1c : a ≤ x ∨ x < a := by omega
                                rcases x1c with x1 | x1
                                · have hbe : befA a win x = false := by unfold befA; simp; omega
                                  have y1 : decide (x < a) = false := decide_eq_false (by omega)
                                  by_cases x2 : x ≤ b
                                  · have hin' : inAB a b x = true := by unfold inAB; simp [x1, x2]
                                    go_wp2_with fail
                                    go_big_quiet (fail)
                                    go_wp2_with fail
                                    go_roundg (M.length - (m + 1))
                                    case measure => omega
                                    case rel => exact ⟨m + 1, _, rfl, by omega, by rw [HT.out, if_pos hin'], by rw [HP.out, hbe]; simp, by go_num, rfl⟩
                                  · have hin' : inAB a b x = false := by unfold inAB; simp [x2]
                                    go_wp2_with fail
                                    go_big_quiet (fail)
                                    go_wp2_with fail
                                    go_roundg (M.length - (m + 1))
                                    case measure => omega
                                    case rel => exact ⟨m + 1, _, rfl, by omega, by rw [HT.out, hin']; simp, by rw [HP.out, hbe]; simp, by go_num, rfl⟩
                                · have hin' : inAB a b x = false := by unfold inAB; simp; omega
                                  have y1 : decide (x < a) = true := decide_eq_true x1
                                  have x0 : ¬ a ≤ x := by omega
                                  by_cases x2 : a - win < x
                                  · have hbe : befA a win x = true := by unfold befA; simp [x1, x2]
                                    have y2 : decide (a - win < x) = true := decide_eq_true x2
                                    have y2' : decide (x > a - win) = true := decide_eq_true x2
                                    go_wp2_with fail
                                    go_big_quiet (fail)
                                    go_wp2_with fail
                                    go_roundg (M.length - (m + 1))
                                    case measure => omega
                                    case rel => exact ⟨m + 1, _, rfl, by omega, by rw [HT.out, hin']; simp, by rw [HP.out, if_pos hbe], by go_num, rfl⟩
                                  · have hbe : befA a win x = false := by unfold befA; simp [x2]
                                    have y2 : decide (a - win < x) = false := decide_eq_false x2
                                    have y2' : decide (x > a - win) = false := decide_eq_false x2
                                    go_wp2_with fail
                                    go_big_quiet (fail)
                                    go_wp2_with fail
                                    go_roundg (M.length - (m + 1))
                                    case measure => omega
                                    case rel => exact ⟨m + 1, _, rfl, by omega, by rw [HT.out, hin']; simp, by rw [HP.out, hbe]; simp, by go_num, rfl⟩
                              · have hall2 : M.take m = M := List.take_of_length_le (by omega)
                                rw [hall2] at c0 c1 p0 p1 ⊢
                                have hfin := HAB.out
                                unfold moreM at hfin
                                dsimp only at hfin
                                rw [← HN0.out] at hfin
                                generalize cntI (inAB a b) M = nc at c0 c1 hfin ⊢
                                generalize cntI (befA a win) M = np at p0 p1 hfin ⊢
                                have b1 := mul_in cd0 cd1 p0 (show np ≤ 1000 by omega)
                                have b2 := mul_in (show 0 ≤ cost by omega) cc1 h0 (show n0 ≤ 1000 by omega)
                                have b3 := mul_in (show 0 ≤ cost + dep by omega) (show cost + dep ≤ 2000 by omega) c0 (show nc ≤ 1000 by omega)
                                obtain ⟨q1, e1⟩ : ∃ z, z = dep * np := ⟨_, rfl⟩
                                obtain ⟨q2, e2⟩ : ∃ z, z = cost * n0 := ⟨_, rfl⟩
                                obtain ⟨q3, e3⟩ : ∃ z, z = (cost + dep) * nc := ⟨_, rfl⟩
                                rw [← e1] at b1 hfin
                                rw [← e2] at b2 hfin
                                rw [← e3] at b3 hfin
                                obtain ⟨b10, b11⟩ := b1
                                obtain ⟨b20, b21⟩ := b2
                                obtain ⟨b30, b31⟩ := b3
                                have w1 : IntKind.i64.wrap (dep * np) = q1 := by rw [← e1]; exact wrap_in (by omega) (by omega)
                                have w2 : IntKind.i64.wrap (cost * n0) = q2 := by rw [← e2]; exact wrap_in (by omega) (by omega)
                                have w3 : IntKind.i64.wrap (cost + dep) = cost + dep := wrap_in (by omega) (by omega)
                                have w4 : IntKind.i64.wrap ((cost + dep) * nc) = q3 := by rw [← e3]; exact wrap_in (by omega) (by omega)
                                have kd3 : (wo.drewN n3).cell? ⟨q, 1, none⟩ = some (.int .i64 dep) := k1
                                have kc3 : (wo.drewN n3).cell? ⟨q, 2, none⟩ = some (.int .i64 cost) := k2
                                have kp3 : (wo.drewN n3).cell? ⟨q, 3, none⟩ = some (.int .i64 kcap) := k3
                                clear e1 e2 e3 HAB HN0
                                by_cases hm1 : kcap < q1
                                · have hf : q2 ≤ q3 + kcap := by rw [show min kcap q1 = kcap by omega] at hfin; exact hfin
                                  have w5 : IntKind.i64.wrap (q3 + kcap) = q3 + kcap := wrap_in (by omega) (by omega)
                                  have y1 : decide (q2 > q3 + kcap) = false := decide_eq_false (by omega)
                                  have y1' : decide (q3 + kcap < q2) = false := decide_eq_false (by omega)
                                  have y2 : ¬ q3 + kcap < q2 := by omega
                                  clear hfin
                                  go_wp2_with fail
                                  go_big_quiet (fail)
                                  go_wp2_with fail
                                  go_roundg (L.length - (k + 1))
                                  case measure => omega
                                  case rel => exact ⟨k + 1, _, rfl, by go_num, by omega, by omega, rfl⟩
                                · have hf : q2 ≤ q3 + q1 := by rw [show min kcap q1 = q1 by omega] at hfin; exact hfin
                                  have w5 : IntKind.i64.wrap (q3 + q1) = q3 + q1 := wrap_in (by omega) (by omega)
                                  have y1 : decide (q2 > q3 + q1) = false := decide_eq_false (by omega)
                                  have y1' : decide (q3 + q1 < q2) = false := decide_eq_false (by omega)
                                  have y2 : ¬ q3 + q1 < q2 := by omega
                                  clear hfin
                                  go_wp2_with fail
                                  go_big_quiet (fail)
                                  go_wp2_with fail
                                  go_roundg (L.length - (k + 1))
                                  case measure => omega
                                  case rel => exact ⟨k + 1, _, rfl, by go_num, by omega, by omega, rfl⟩
                  · go_wp2_with fail
                    go_roundg (L.length - (i + 1))
                    case measure => omega
                    case rel => exact ⟨i + 1, n2, rfl, by go_num, by omega, rfl⟩
            · go_wp2_with fail
              go_ret
              exact ⟨rfl, HBE.out.trans ((below_drewN wo n1).mono HBE.out.size)⟩

end Go.Proofs.YtlccfpbbdgpjbaaGreatDoor
