import Derived.Test.YtlccfpbbdgpjbaaGreatDoorRAdvance
namespace Go.Proofs.YtlccfpbbdgpjbaaGreatDoor
open Go.RowKit

set_option maxRecDepth 100000 in
set_option maxHeartbeats 3200000 in
theorem advance_T (p : Nat) (s : St) (V : V6) (w : World) (h : Rep w p s V) (til : Int) (G : St → Prop) (hG : Goes til G) (g0 : G s) :
    Calls Tryz.prog 85 #[.pointer (some ⟨p, 0, none⟩), .int .i64 til] w fun ev w' => ev = .returned (.tuple #[]) ∧ Now p V w (rAdvF til (turnsR s) s) w' := by
  have HGG := hide hG
  clear hG
  go_enter Tryz.func85, Tryz.ntmps85
  go_wp2_with fail
  go_loopg [] (turnsR s) (fun gk wr => ∃ s' V', gk = turnsR s' ∧ Rep wr p s' V' ∧ Mv p V w V' wr ∧ G s' ∧ Hid (rAdvF til (turnsR s) s = rAdvF til (turnsR s') s'))
  case atStart => exact ⟨s, V, rfl, h, Mv.refl _ _ _, g0, rfl⟩
  case round =>
    obtain ⟨s', V', hgk, R, M, hg, HE⟩ := hrel
    obtain ⟨wo, hwo⟩ : ∃ wo : World, wo = wr := ⟨_, rfl⟩
    rw [← hwo] at R M ⊢
    clear hwo h g0
    have GA := HGG.out.ok s' hg
    have ln := GA.l4
    obtain ⟨A, cap, hA, _, hA1, hA2⟩ := R.rt.form
    have kt : wo.cell? ⟨p, 14, none⟩ = some (.slice A s'.timers.length cap) := by rw [← hA]; exact R.kt
    have HB : Hid (∀ i (h : i < s'.timers.length), ∃ g, A = some ⟨g, 0, none⟩ ∧ g < wo.heap.size ∧ wo.cell? ⟨g, i * 3, none⟩ = some (.int .i64 s'.timers[i].call) ∧ wo.cell? ⟨g, i * 3 + 1, none⟩ = some (.int .i64 s'.timers[i].kind) ∧ wo.cell? ⟨g, i * 3 + 2, none⟩ = some (.int .i64 s'.timers[i].due)) := fun i h => by
      obtain ⟨g, rfl⟩ := hA1 i h
      have hg : V'.t.ownBlock = some g := by rw [hA]; rfl
      exact ⟨g, rfl, (hA2 g rfl).2.1, (R.rt.cell encTimer_len hg h (j := 0) rfl).1, (R.rt.cell encTimer_len hg h (j := 1) rfl).1, (R.rt.cell encTimer_len hg h (j := 2) rfl).1⟩
    have lp := R.lp
    have HR := hide R
    have HM := hide M
    have HGA := hide GA
    have HG1 := hide hg
    clear hA hA1 hA2 R M GA hg
    have hl' : (s'.timers.length : Int) ≤ 90000000 := by omega
    go_wp2_with fail
    go_loopg [4, 5] s'.timers.length (fun gi v4 v5 wx => ∃ (j : Nat) (b : Option (Nat × Int)), j ≤ s'.timers.length ∧ gi = s'.timers.length - j ∧ v5 = .int .i64 j ∧ v4 = .int .i64 (rPickV b) ∧ BestOk til s'.timers b ∧ Hid (pickTo til s'.timers 0 none = pickTo til (s'.timers.drop j) j b) ∧ Below wo.heap.size wo wx)
    case atStart => exact ⟨0, none, Nat.zero_le _, rfl, rfl, rfl, (fun k d hb => by cases hb), rfl, Below.refl _ _⟩
    case round =>
      obtain ⟨j, b, hj, hgi, rfl, rfl, hbest, HP, hb⟩ := hrel
      have hktr : wr.cell? ⟨p, 14, none⟩ = some (.slice A s'.timers.length cap) := (hb.cell lp).trans kt
      have hsz := hb.size
      by_cases hlt : (j : Int) < (s'.timers.length : Int)
      · have hj' : j < s'.timers.length := by omega
        obtain ⟨g, rfl, hgl, _, _, e2⟩ := HB.out j hj'
        rw [← hb.cell (p := ⟨g, j * 3 + 2, none⟩) hgl] at e2
        have hji : (0 : Int) ≤ (j : Int) := by omega
        cases b with
        | none =>
          have HP1 := hide (HP.out.trans (pickTo_none til s'.timers j hj'))
          have HBN : Hid (s'.timers[j].due ≤ til → BestOk til s'.timers (some (j, s'.timers[j].due))) := fun hd k d hb' => by
            obtain ⟨rfl, rfl⟩ : j = k ∧ s'.timers[j].due = d := by simpa using hb'
            exact ⟨hj', rfl, hd⟩
          generalize s'.timers[j].due = z at e2 HP1 HBN
          simp only [rPickV]
          have HBO := hide hbest
          clear HP HB kt hbest
          by_cases c1 : z ≤ til
          · go_wp2_with fail
            go_quiet (fail)
            go_wp2_with fail
            go_roundg (s'.timers.length - (j + 1))
            case measure => omega
            case rel => exact ⟨j + 1, some (j, z), by omega, rfl, by go_num, rfl, HBN.out (by omega), by show _ = _; rw [HP1.out, if_pos (by omega)], hb.trans ((below_drewN _ _).mono hsz)⟩
          · have c1' : decide (z ≤ til) = false := by simpa using c1
            go_wp2_with fail
            go_quiet (fail)
            go_wp2_with fail
            go_roundg (s'.timers.length - (j + 1))
            case measure => omega
            case rel => exact ⟨j + 1, none, by omega, rfl, by go_num, rfl, HBO.out, by show _ = _; rw [HP1.out, if_neg (by omega)], hb.trans ((below_drewN _ _).mono hsz)⟩
        | some kd =>
          obtain ⟨k, d⟩ := kd
          obtain ⟨hkl, hkd, hdt⟩ := hbest k d rfl
          obtain ⟨g', hg', _, _, _, e3⟩ := HB.out k hkl
          have : g = g' := by simpa using hg'
          subst this
          rw [hkd] at e3
          rw [← hb.cell (p := ⟨g, k * 3 + 2, none⟩) hgl] at e3
          have HP1 := hide (HP.out.trans (pickTo_some til s'.timers j hj' k d))
          have HBN : Hid (s'.timers[j].due ≤ til → BestOk til s'.timers (some (j, s'.timers[j].due))) := fun hd k d hb' => by
            obtain ⟨rfl, rfl⟩ : j = k ∧ s'.timers[j].due = d := by simpa using hb'
            exact ⟨hj', rfl, hd⟩
          generalize s'.timers[j].due = z at e2 HP1 HBN
          simp only [rPickV]
          have HBO := hide hbest
          have hk0 : (0 : Int) ≤ (k : Int) := by omega
          have hk1 : (k : Int) < (s'.timers.length : Int) := by omega
          have hk2 : decide ((k : Int) < 0) = false := by simp
          clear HP HB kt hbest hkd hg' hdt
          by_cases c1 : z ≤ til
          · by_cases c2 : z < d
            · go_wp2_with fail
              go_quiet (fail)
              go_wp2_with fail
              go_roundg (s'.timers.length - (j + 1))
              case measure => omega
              case rel => exact ⟨j + 1, some (j, z), by omega, rfl, by go_num, rfl, HBN.out (by omega), by show _ = _; rw [HP1.out, if_pos ⟨by omega, by omega⟩], hb.trans ((below_drewN _ _).mono hsz)⟩
            · have c2' : decide (z < d) = false := by simpa using c2
              go_wp2_with fail
              go_quiet (fail)
              go_wp2_with fail
              go_roundg (s'.timers.length - (j + 1))
              case measure => omega
              case rel => exact ⟨j + 1, some (k, d), by omega, rfl, by go_num, rfl, HBO.out, by show _ = _; rw [HP1.out, if_neg (fun hh => by omega)], hb.trans ((below_drewN _ _).mono hsz)⟩
          · have c1' : decide (z ≤ til) = false := by simpa using c1
            go_wp2_with fail
            go_quiet (fail)
            go_wp2_with fail
            go_roundg (s'.timers.length - (j + 1))
            case measure => omega
            case rel => exact ⟨j + 1, some (k, d), by omega, rfl, by go_num, rfl, HBO.out, by show _ = _; rw [HP1.out, if_neg (fun hh => by omega)], hb.trans ((below_drewN _ _).mono hsz)⟩
      · have ej : j = s'.timers.length := by omega
        have HP1 : Hid (pickTo til s'.timers 0 none = b) := by show _ = _; rw [HP.out, List.drop_of_length_le (by omega)]; rfl
        clear HP
        cases b with
        | none =>
          simp only [rPickV]
          have HEND := hide ((HE.out).trans (rAdvF_none til _ s' HP1.out))
          have R1 := HR.out.on hb
          have fN := R1.fz 10 (by omega)
          have kN := R1.kN
          have R2 := R1.set_now til
          have HNW := hide (show Now p V w { s' with now := til } _ from ⟨V', R2.1, (HM.out.trans (Mv.of_below hb)).trans R2.2⟩)
          clear R1 R2 HB hbest
          go_wp2_with fail
          exact bodyPost_ret (v := .tuple #[]) (by simp [results, Tryz.results85, go_sem]) rfl ⟨rfl, by rw [HEND.out]; exact HNW.out⟩
        | some kd =>
          obtain ⟨k, d⟩ := kd
          obtain ⟨hkl, hkd, hdt⟩ := hbest k d rfl
          simp only [rPickV]
          obtain ⟨g, rfl, hgl, e0, e1, e2⟩ := HB.out k hkl
          rw [← hb.cell (p := ⟨g, k * 3, none⟩) hgl] at e0
          rw [← hb.cell (p := ⟨g, k * 3 + 1, none⟩) hgl] at e1
          rw [← hb.cell (p := ⟨g, k * 3 + 2, none⟩) hgl] at e2
          have hst : s'.timers[k]? = some s'.timers[k] := List.getElem?_eq_getElem hkl
          have HGN := hide (HGG.out.next s' s'.timers[k] k d HG1.out HP1.out hst).1
          have HEN := hide ((HE.out).trans (rAdvF_step HGG.out HG1.out HP1.out hst))
          have HLT := hide (HGG.out.next s' s'.timers[k] k d HG1.out HP1.out hst).2
          have HTM := hide (HGA.out.tim s'.timers[k] (List.getElem_mem _) (by rw [hkd]; exact hdt))
          generalize s'.timers[k] = t at e0 e1 e2 HGN HEN HLT HTM
          obtain ⟨tc, tk, td⟩ := t
          dsimp only at e0 e1 e2
          have R1 := HR.out.on hb
          have kN := R1.kN
          have fN := R1.fz 10 (by omega)
          have MB0 := MidB.begin R1 #[.int .i64 tc, .int .i64 tk, .int .i64 td] 188
          obtain ⟨RN, MN⟩ := MB0.rep.set_now td
          have MB := MB0.step RN MN
          have M2 := hide (HM.out.trans (Mv.of_below (p := p) (V := V') hb))
          have hk0 : (0 : Int) ≤ (k : Int) := by omega
          have hk1 : (k : Int) < (s'.timers.length : Int) := by omega
          have hpw : wr.heap.size ≠ p := by omega
          have fN' : (wr.alloc (.cells #[.int .i64 tc, .int .i64 tk, .int .i64 td] 188)).frozen? ⟨p, 10, none⟩ = false := by rw [World.frozen?_alloc_old _ _ _ (by show p ≠ wr.heap.size; omega)]; exact fN
          have kN' : (wr.alloc (.cells #[.int .i64 tc, .int .i64 tk, .int .i64 td] 188)).cell? ⟨p, 10, none⟩ = some (.int .i64 s'.now) := MB0.rep.kN
          have ec0 := MB.cell 0 rfl
          have ec1 := MB.cell 1 rfl
          clear HB hbest hkd hdt hst RN MN MB0 R1
          go_wp2_with fail
          refine (rep_drop MB.rep (by show s'.timers.length ≤ 100000000; omega) tc tk tk).mono ?_
          rintro ev w4 ⟨rfl, V4, r4, m4⟩
          have MB4 := MB.step r4 m4
          have M4 := hide (M2.out.trans MB4.mv)
          have R4 : Rep w4 p (rAdvA s' ⟨tc, tk, td⟩) V4 := MB4.rep
          have HR4 := hide R4
          have ck : w4.cell? ⟨wr.heap.size, 1, none⟩ = some (.int .i64 tk) := MB4.cell 1 rfl
          have cc : w4.cell? ⟨wr.heap.size, 0, none⟩ = some (.int .i64 tc) := MB4.cell 0 rfl
          have k1 : w4.cell? ⟨p, 1, none⟩ = some (.int .i64 s'.cfg.cost) := R4.k1
          clear MB r4 m4 M2 R4 e0 e1 e2 kN fN hktr kt ec0 ec1 fN' kN'
          have GA := HGA.out
          have q1 := GA.l1
          have q2 := GA.l2
          have q3 := GA.l3
          have q5 := GA.l5
          have qc := GA.cost
          have qb1 := GA.b1
          have qb2 := GA.b2
          have qtf : ((rAdvA s' ⟨tc, tk, td⟩).timers).length ≤ 100000000 := Nat.le_trans (List.length_filter_le _ _) (by omega)
          have qtf5 : ((rAdvA s' ⟨tc, tk, td⟩).timers).length ≤ 95000000 := Nat.le_trans (List.length_filter_le _ _) (by have := GA.l4; omega)
          have HQU := hide GA.hu
          have HQT := hide GA.tmb
          have qtl := GA.tml
          have qr0 := GA.rank0
          have qr1 := GA.rank1
          obtain ⟨td0, td1, tkk, top⟩ := HTM.out
          try dsimp only at td0 td1 tkk top
          have HTOP := hide top
          clear GA top HTM
          rcases tkk with rfl | rfl | rfl
          · have HAD : Hid (adv1 s' ⟨tc, 0, td⟩ = endS (rAdvA s' ⟨tc, 0, td⟩) tc 3 0) := rfl
            go_wp2_with fail
            refine (end_any p _ _ _ HR4.out tc 3 0 (by show s'.calls.length ≤ 100000000; omega) q2 q3 qtf).mono ?_
            rintro ev w5 ⟨rfl, V5, r5, m5⟩
            have M5 := hide (M4.out.trans m5)
            have R5 := hide r5
            clear r5 m5
            go_wp2_with fail
            go_roundg (turnsR (adv1 s' ⟨tc, 0, td⟩))
            case measure => have := HLT.out; omega
            case rel => exact ⟨adv1 s' ⟨tc, 0, td⟩, V5, rfl, R5.out, M5.out, HGN.out, HEN.out⟩
          · have HAD : Hid (adv1 s' ⟨tc, 1, td⟩ = if s'.cfg.cost ≤ sumUnits (rAdvA s' ⟨tc, 1, td⟩).fresh then launchS (advB (rAdvA s' ⟨tc, 1, td⟩)) tc else advB (rAdvA s' ⟨tc, 1, td⟩)) := rfl
            go_wp2_with fail
            refine (rrep_take HR4.out (by show s'.units.length ≤ 100000000; omega) HQU.out td0 td1 s'.cfg.cost qc).mono ?_
            rintro ev w5 ⟨rfl, V5, r5, m5⟩
            have MB5 := MB4.step r5 m5
            have R5 : Rep w5 p (advB (rAdvA s' ⟨tc, 1, td⟩)) V5 := r5
            have HR5 := hide R5
            have M5 := hide (M4.out.trans m5)
            have ck5 : w5.cell? ⟨wr.heap.size, 1, none⟩ = some (.int .i64 1) := MB5.cell 1 rfl
            have cc5 : w5.cell? ⟨wr.heap.size, 0, none⟩ = some (.int .i64 tc) := MB5.cell 0 rfl
            clear MB4 MB5 r5 m5 R5 ck cc k1
            by_cases hpaid : s'.cfg.cost ≤ sumUnits (rAdvA s' ⟨tc, 1, td⟩).fresh
            · have hpd : decide (s'.cfg.cost ≤ sumUnits (rAdvA s' ⟨tc, 1, td⟩).fresh) = true := by simpa using hpaid
              have HAD' : Hid (adv1 s' ⟨tc, 1, td⟩ = launchS (advB (rAdvA s' ⟨tc, 1, td⟩)) tc) := by show _ = _; rw [HAD.out, if_pos hpaid]
              have OC := HTOP.out (by first | decide | omega)
              have hnum : (callAt (advB (rAdvA s' ⟨tc, 1, td⟩)) tc).number = tc := OC.num
              have HL := hide (launch_any p (advB (rAdvA s' ⟨tc, 1, td⟩)) V5 w5 HR5.out (findI s'.calls tc).toNat (callAt (advB (rAdvA s' ⟨tc, 1, td⟩)) tc) OC.lt (by show s'.calls[(findI s'.calls tc).toNat]'OC.lt = (s'.calls[(findI s'.calls tc).toNat]?).getD _; rw [List.getElem?_eq_getElem OC.lt]; rfl) (by rw [hnum]; show findI s'.calls tc = _; have := OC.pos; omega) (by show s'.calls.length ≤ 100000000; omega) (by show s'.atts.length ≤ 100000000; omega) (by show s'.out.length ≤ 100000000; omega) qtf5 qtl HQT.out qr0 qr1 qb1 qb2 OC.had0 OC.had1 td0 td1 OC.dl0 OC.dl1)
              rw [hnum] at HL
              clear OC hnum hpaid HAD
              go_wp2_with fail
              refine HL.out.mono ?_
              rintro ev w6 ⟨rfl, V6', r6, m6⟩
              have M6 := hide (M5.out.trans m6)
              have R6 := hide r6
              clear r6 m6 HL
              go_wp2_with fail
              go_roundg (turnsR (adv1 s' ⟨tc, 1, td⟩))
              case measure => have := HLT.out; omega
              case rel => exact ⟨adv1 s' ⟨tc, 1, td⟩, V6', rfl, by rw [HAD'.out]; exact R6.out, M6.out, HGN.out, HEN.out⟩
            · have hpd : decide (s'.cfg.cost ≤ sumUnits (rAdvA s' ⟨tc, 1, td⟩).fresh) = false := by simpa using hpaid
              have HAD' : Hid (adv1 s' ⟨tc, 1, td⟩ = advB (rAdvA s' ⟨tc, 1, td⟩)) := by show _ = _; rw [HAD.out, if_neg hpaid]
              clear hpaid HAD
              go_wp2_with fail
              go_roundg (turnsR (adv1 s' ⟨tc, 1, td⟩))
              case measure => have := HLT.out; omega
              case rel => exact ⟨adv1 s' ⟨tc, 1, td⟩, V5, rfl, by rw [HAD'.out]; exact HR5.out, M5.out, HGN.out, HEN.out⟩
          · have HAD : Hid (adv1 s' ⟨tc, 2, td⟩ = if s'.cfg.cost ≤ sumUnits (rAdvA s' ⟨tc, 2, td⟩).fresh then launchS (advB (rAdvA s' ⟨tc, 2, td⟩)) tc else endS (advB (rAdvA s' ⟨tc, 2, td⟩)) tc 2 0) := rfl
            go_wp2_with fail
            refine (rrep_take HR4.out (by show s'.units.length ≤ 100000000; omega) HQU.out td0 td1 s'.cfg.cost qc).mono ?_
            rintro ev w5 ⟨rfl, V5, r5, m5⟩
            have MB5 := MB4.step r5 m5
            have R5 : Rep w5 p (advB (rAdvA s' ⟨tc, 2, td⟩)) V5 := r5
            have HR5 := hide R5
            have M5 := hide (M4.out.trans m5)
            have ck5 : w5.cell? ⟨wr.heap.size, 1, none⟩ = some (.int .i64 2) := MB5.cell 1 rfl
            have cc5 : w5.cell? ⟨wr.heap.size, 0, none⟩ = some (.int .i64 tc) := MB5.cell 0 rfl
            clear MB4 MB5 r5 m5 R5 ck cc k1
            by_cases hpaid : s'.cfg.cost ≤ sumUnits (rAdvA s' ⟨tc, 2, td⟩).fresh
            · have hpd : decide (s'.cfg.cost ≤ sumUnits (rAdvA s' ⟨tc, 2, td⟩).fresh) = true := by simpa using hpaid
              have HAD' : Hid (adv1 s' ⟨tc, 2, td⟩ = launchS (advB (rAdvA s' ⟨tc, 2, td⟩)) tc) := by show _ = _; rw [HAD.out, if_pos hpaid]
              have OC := HTOP.out (by first | decide | omega)
              have hnum : (callAt (advB (rAdvA s' ⟨tc, 2, td⟩)) tc).number = tc := OC.num
              have HL := hide (launch_any p (advB (rAdvA s' ⟨tc, 2, td⟩)) V5 w5 HR5.out (findI s'.calls tc).toNat (callAt (advB (rAdvA s' ⟨tc, 2, td⟩)) tc) OC.lt (by show s'.calls[(findI s'.calls tc).toNat]'OC.lt = (s'.calls[(findI s'.calls tc).toNat]?).getD _; rw [List.getElem?_eq_getElem OC.lt]; rfl) (by rw [hnum]; show findI s'.calls tc = _; have := OC.pos; omega) (by show s'.calls.length ≤ 100000000; omega) (by show s'.atts.length ≤ 100000000; omega) (by show s'.out.length ≤ 100000000; omega) qtf5 qtl HQT.out qr0 qr1 qb1 qb2 OC.had0 OC.had1 td0 td1 OC.dl0 OC.dl1)
              rw [hnum] at HL
              clear OC hnum hpaid HAD
              go_wp2_with fail
              refine HL.out.mono ?_
              rintro ev w6 ⟨rfl, V6', r6, m6⟩
              have M6 := hide (M5.out.trans m6)
              have R6 := hide r6
              clear r6 m6 HL
              go_wp2_with fail
              go_roundg (turnsR (adv1 s' ⟨tc, 2, td⟩))
              case measure => have := HLT.out; omega
              case rel => exact ⟨adv1 s' ⟨tc, 2, td⟩, V6', rfl, by rw [HAD'.out]; exact R6.out, M6.out, HGN.out, HEN.out⟩
            · have hpd : decide (s'.cfg.cost ≤ sumUnits (rAdvA s' ⟨tc, 2, td⟩).fresh) = false := by simpa using hpaid
              have HAD' : Hid (adv1 s' ⟨tc, 2, td⟩ = endS (advB (rAdvA s' ⟨tc, 2, td⟩)) tc 2 0) := by show _ = _; rw [HAD.out, if_neg hpaid]
              clear hpaid HAD
              go_wp2_with fail
              refine (end_any p _ _ _ HR5.out tc 2 0 (by show s'.calls.length ≤ 100000000; omega) q2 q3 qtf).mono ?_
              rintro ev w6 ⟨rfl, V6', r6, m6⟩
              have M6 := hide (M5.out.trans m6)
              have R6 := hide r6
              clear r6 m6
              go_wp2_with fail
              go_roundg (turnsR (adv1 s' ⟨tc, 2, td⟩))
              case measure => have := HLT.out; omega
              case rel => exact ⟨adv1 s' ⟨tc, 2, td⟩, V6', rfl, by rw [HAD'.out]; exact R6.out, M6.out, HGN.out, HEN.out⟩
end Go.Proofs.YtlccfpbbdgpjbaaGreatDoor
