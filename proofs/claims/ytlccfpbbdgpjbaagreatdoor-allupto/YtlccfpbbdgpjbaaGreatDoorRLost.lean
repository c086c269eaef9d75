import Derived.Test.YtlccfpbbdgpjbaaGreatDoorRAdmit
namespace Go.Proofs.YtlccfpbbdgpjbaaGreatDoor
open Go.RowKit

theorem isOpen_snoc (call : Int) (l : List RAtt) (k : Nat) (h : k < l.length) : isOpen call (l.take (k + 1)) = (isOpen call (l.take k) || (l[k].call == call)) := by
  unfold isOpen
  rw [List.take_succ_eq_append_getElem h, List.any_append]
  simp

theorem waitS_bound (s : St) (x : RCall) (draw : Int) (b7 : 1 ≤ s.cfg.base) (b8 : s.cfg.base ≤ s.cfg.most) (b10 : s.cfg.base ≤ x.wait) : s.cfg.base ≤ waitS s x draw ∧ waitS s x draw ≤ s.cfg.most := by
  have m0 : 0 ≤ draw % (3 * x.wait - s.cfg.base + 1) := Int.emod_nonneg _ (by omega)
  unfold waitS
  split <;> omega

theorem MidB.second {p : Nat} {V V' : V6} {w wx : World} {s' : St} {B : Nat} {cs : Array Value} {t : TypeId} (h : MidB p V w s' V' B cs t wx) (cs' : Array Value) (t' : TypeId) :
    MidB p V w s' V' B cs t (wx.alloc (.cells cs' t')) ∧ MidB p V w s' V' wx.heap.size cs' t' (wx.alloc (.cells cs' t')) :=
  ⟨h.on ((Below.refl _ _).alloc (Nat.le_refl _) _), (h.on ((Below.refl _ _).alloc (Nat.le_refl _) _)).rep, (h.on ((Below.refl _ _).alloc (Nat.le_refl _) _)).mv, fun ⟨j, hj⟩ => by have := h.rep.lt j _ hj; omega, heap_alloc_new wx _⟩

set_option maxRecDepth 100000 in
set_option maxHeartbeats 3200000 in
theorem lost_any (p : Nat) (s : St) (V : V6) (w : World) (h : Rep w p s V) (e : Ev) (i : Nat) (x : RCall) (hi : i < s.calls.length) (hx : s.calls[i] = x) (hf : findI s.calls x.number = i) (l1 : s.calls.length ≤ 100000000) (l2 : s.atts.length ≤ 10000000) (l3 : s.out.length ≤ 10000000) (l4 : s.timers.length ≤ 90000000)
    (b3 : 0 ≤ x.had) (b4 : x.had ≤ 1000) (b5 : 0 ≤ s.now) (b6 : s.now ≤ 1099511627776) (b7 : 1 ≤ s.cfg.base) (b8 : s.cfg.base ≤ s.cfg.most) (b9 : s.cfg.most ≤ 10000) (b10 : s.cfg.base ≤ x.wait) (b11 : x.wait ≤ s.cfg.most) (d0 : 0 ≤ e.draw) (d1 : e.draw ≤ 18446744073709551615) :
    Calls Tryz.prog 84 #[.pointer (some ⟨p, 0, none⟩), .int .i64 x.number, .agg (encEv e)] w fun ev w' => ev = .returned (.tuple #[]) ∧ Now p V w (lostS s e i x) w' := by
  have M0 := MidB.begin h (encEv e) 39
  have HF := hide (rep_find M0.rep l1 x.number)
  rw [hf] at HF
  obtain ⟨MA, MC⟩ := M0.second #[.int .i64 x.number, .int .i64 x.deadline, .int .i64 x.had, .int .i64 x.wait, .bool x.safe] 159
  obtain ⟨A, cap, hA, _, hA1, hA2⟩ := M0.rep.rc.form
  obtain ⟨g, rfl⟩ := hA1 i hi
  have hg : V.c.ownBlock = some g := by rw [hA]; rfl
  have e0 := (M0.rep.rc.cell encCall_len hg hi (j := 0) rfl).1
  have e1 := (M0.rep.rc.cell encCall_len hg hi (j := 1) rfl).1
  have e2 := (M0.rep.rc.cell encCall_len hg hi (j := 2) rfl).1
  have e3 := (M0.rep.rc.cell encCall_len hg hi (j := 3) rfl).1
  have e4 := (M0.rep.rc.cell encCall_len hg hi (j := 4) rfl).1
  rw [hx] at e0 e1 e2 e3 e4
  rw [Nat.add_zero] at e0
  have kc := M0.rep.kc
  rw [hA] at kc
  have hii : (i : Int) < (s.calls.length : Int) := by omega
  have HG := hide hg
  have HX := hide hx
  have hgp : g ≠ p := fun e' => M0.rep.ap 1 0 (by decide) g hg (by rw [e']; rfl)
  unfold encEv at M0 HF MA MC kc e0 e1 e2 e3 e4 ⊢
  clear hA hA1 hA2 hg hx hf
  by_cases c1 : e.kind = 3 ∧ x.safe = false
  · have HLS : Hid (lostS s e i x = endS s x.number 2 0) := by show _ = _; unfold lostS; rw [if_pos c1]
    obtain ⟨c1a, c1b⟩ := c1
    have HE := hide (end_any p s V _ MA.rep x.number 2 0 l1 l2 l3 (by omega))
    rw [c1b] at e4 HE MA MC
    clear c1b M0
    obtain ⟨ek, ec, ea, ev', et, es, ed, eto⟩ := e
    dsimp only at *
    subst c1a
    go_enter Tryz.func84, Tryz.ntmps84
    go_wp2_with fail
    refine HF.out.mono ?_
    rintro ev w' ⟨rfl, rfl⟩
    clear HF
    go_wp2_with fail
    refine HE.out.mono ?_
    rintro ev w2 ⟨rfl, V2, r2, m2⟩
    have HN := hide (show Now p V w _ w2 from ⟨V2, r2, MA.mv.trans m2⟩)
    clear r2 m2 HE
    go_wp2_with fail
    exact bodyPost_ret (v := .tuple #[]) (by simp [results, Tryz.results84, go_sem]) rfl ⟨rfl, by rw [HLS.out]; exact HN.out⟩
  · go_enter Tryz.func84, Tryz.ntmps84
    go_wp2_with fail
    refine HF.out.mono ?_
    rintro ev w' ⟨rfl, rfl⟩
    clear HF
    go_upto_region 3 with fail
    go_cut [27] (fun v27 wx => v27 = .bool false ∧ wx = (w.alloc (.cells #[.int .i64 e.kind, .int .i64 e.call, .int .i64 e.attempt, .int .i64 e.value, .int .i64 e.timeout, .bool e.safe, .int .u64 e.draw, .int .i64 e.to_] 39)).alloc (.cells #[.int .i64 x.number, .int .i64 x.deadline, .int .i64 x.had, .int .i64 x.wait, .bool x.safe] 159))
    case first =>
      by_cases c2 : e.kind = 3
      · have c3 : x.safe = true := by cases hsf : x.safe with | true => rfl | false => exact absurd ⟨c2, hsf⟩ c1
        have HC2 := hide c2
        have HC3 := hide c3
        clear c1 c2 c3
        obtain ⟨ek, ec, ea, ev', et, es, ed, eto⟩ := e
        obtain ⟨xn, xd, xh, xw, xs⟩ := x
        dsimp only at *
        obtain rfl := HC2.out
        obtain rfl := HC3.out
        go_wp2_with fail
        go_meet
        case rel => exact ⟨rfl, rfl⟩
      · have c2' : (e.kind == 3) = false := by simpa using c2
        clear c1 c2
        go_wp2_with fail
        go_meet
        case rel => exact ⟨rfl, rfl⟩
    case rest =>
      obtain ⟨rfl, rfl⟩ := hcut
      clear M0 e0 e1 e2 e3 e4 kc
      have MA' : MidB p V w s V w.heap.size #[.int .i64 e.kind, .int .i64 e.call, .int .i64 e.attempt, .int .i64 e.value, .int .i64 e.timeout, .bool e.safe, .int .u64 e.draw, .int .i64 e.to_] 39 ((w.alloc (.cells #[.int .i64 e.kind, .int .i64 e.call, .int .i64 e.attempt, .int .i64 e.value, .int .i64 e.timeout, .bool e.safe, .int .u64 e.draw, .int .i64 e.to_] 39)).alloc (.cells #[.int .i64 x.number, .int .i64 x.deadline, .int .i64 x.had, .int .i64 x.wait, .bool x.safe] 159)) := MA
      have MC' : MidB p V w s V (w.heap.size + 1) #[.int .i64 x.number, .int .i64 x.deadline, .int .i64 x.had, .int .i64 x.wait, .bool x.safe] 159 ((w.alloc (.cells #[.int .i64 e.kind, .int .i64 e.call, .int .i64 e.attempt, .int .i64 e.value, .int .i64 e.timeout, .bool e.safe, .int .u64 e.draw, .int .i64 e.to_] 39)).alloc (.cells #[.int .i64 x.number, .int .i64 x.deadline, .int .i64 x.had, .int .i64 x.wait, .bool x.safe] 159)) := by simpa using MC
      clear MA MC
      obtain ⟨W, hW⟩ : ∃ W, W = (w.alloc (.cells #[.int .i64 e.kind, .int .i64 e.call, .int .i64 e.attempt, .int .i64 e.value, .int .i64 e.timeout, .bool e.safe, .int .u64 e.draw, .int .i64 e.to_] 39)).alloc (.cells #[.int .i64 x.number, .int .i64 x.deadline, .int .i64 x.had, .int .i64 x.wait, .bool x.safe] 159) := ⟨_, rfl⟩
      rw [← hW] at MA' MC' ⊢
      clear hW
      have HLS : Hid (lostS s e i x = if isOpen x.number s.atts = true then s else if x.had < s.cfg.attempts ∧ s.now + waitS s x e.draw < x.deadline then { s with calls := s.calls.set i { x with wait := waitS s x e.draw }, timers := s.timers.filter (keepTimer x.number 1 1) ++ [⟨x.number, 2, s.now + waitS s x e.draw⟩] } else endS { s with timers := s.timers.filter (keepTimer x.number 1 1) } x.number 2 0) := by
        show _ = _
        unfold lostS
        rw [if_neg c1]
      obtain ⟨A2, cap2, hA2, _, hA21, hA22⟩ := MA'.rep.ra.form
      have ka : W.cell? ⟨p, 12, none⟩ = some (.slice A2 s.atts.length cap2) := by rw [← hA2]; exact MA'.rep.ka
      have HB : Hid (∀ i (h : i < s.atts.length), ∃ g, A2 = some ⟨g, 0, none⟩ ∧ W.cell? ⟨g, i * 3 + 1, none⟩ = some (.int .i64 s.atts[i].call)) := fun i h => by
        obtain ⟨g, rfl⟩ := hA21 i h
        have hg : V.a.ownBlock = some g := by rw [hA2]; rfl
        exact ⟨g, rfl, (MA'.rep.ra.cell encAtt_len hg h (j := 1) rfl).1⟩
      have HNO := hide (show Now p V w s W from ⟨V, MA'.rep, MA'.mv⟩)
      clear hA2 hA21 hA22 hgp
      have hl2 : (s.atts.length : Int) ≤ 10000000 := by omega
      go_wp2_with fail
      go_loop [8] (fun v => ∃ k : Nat, k ≤ s.atts.length ∧ v = .int .i64 k ∧ Hid (isOpen x.number (s.atts.take k) = false)) (fun v => s.atts.length - (intOf v).toNat)
      case atStart => exact ⟨0, Nat.zero_le _, rfl, rfl⟩
      case round =>
        obtain ⟨k, hk, rfl, HK⟩ := hrel
        by_cases hlt : (k : Int) < (s.atts.length : Int)
        · obtain ⟨g2, rfl, hcell⟩ := HB.out k (by omega)
          have HSN := hide (isOpen_snoc x.number s.atts k (by omega))
          have HAT : Hid (s.atts[k].call = x.number → isOpen x.number s.atts = true) := fun hh => List.any_eq_true.2 ⟨s.atts[k], List.getElem_mem _, by simpa using hh⟩
          generalize s.atts[k].call = zc at hcell HSN HAT
          by_cases c5 : zc = x.number
          · have c5' : (zc == x.number) = true := by simpa using c5
            have HO := hide (HAT.out c5)
            clear HAT HSN c5
            go_wp2_with fail
            exact bodyPost_ret (v := .tuple #[]) (by simp [results, Tryz.results84, go_sem]) rfl ⟨rfl, by rw [HLS.out, if_pos HO.out]; exact HNO.out⟩
          · have c5' : (zc == x.number) = false := by simpa using c5
            clear HAT
            go_wp2_with fail
            go_round
            case rel => exact ⟨k + 1, by omega, by go_num, by show isOpen _ _ = _; rw [HSN.out, HK.out, c5']; rfl⟩
            case measure => simp [intOf]; omega
        · have HO : Hid (isOpen x.number s.atts = false) := by have := HK.out; rwa [List.take_of_length_le (by omega)] at this
          clear HK HB HNO
          go_wp2_with fail
          refine (rep_drop MA'.rep (by omega) x.number 1 1).mono ?_
          rintro ev w3 ⟨rfl, V3, r3, m3⟩
          have MA3 := MA'.step r3 m3
          have MC3 := MC'.step r3 m3
          clear MA' MC' r3 m3 ka
          have k6 : w3.cell? ⟨p, 6, none⟩ = some (.int .i64 s.cfg.base) := MA3.rep.k6
          have cd : w3.cell? ⟨w.heap.size, 6, none⟩ = some (.int .u64 e.draw) := MA3.cell 6 rfl
          have cw : w3.cell? ⟨w.heap.size + 1, 3, none⟩ = some (.int .i64 x.wait) := MC3.cell 3 rfl
          have m0 : 0 ≤ e.draw % (3 * x.wait - s.cfg.base + 1) := Int.emod_nonneg _ (by omega)
          have m1 : e.draw % (3 * x.wait - s.cfg.base + 1) < 3 * x.wait - s.cfg.base + 1 := Int.emod_lt_of_pos _ (by omega)
          go_wp2_with fail
          go_quiet (fail)
          obtain ⟨wq, hwq⟩ : ∃ wq, wq = w3.drewN nq := ⟨_, rfl⟩
          have hbq : Below w3.heap.size w3 wq := by rw [hwq]; exact below_drewN _ _
          rw [← hwq]
          clear hwq
          have MA4 := MA3.on hbq
          have MC4 := MC3.on hbq
          clear MA3 MC3 hbq k6 cd cw
          have k7 : wq.cell? ⟨p, 7, none⟩ = some (.int .i64 s.cfg.most) := MA4.rep.k7
          have HWB := hide (waitS_bound s x e.draw b7 b8 b10)
          go_upto_if 80 with fail
          go_cut [9] (fun v9 wx => v9 = .int .i64 (waitS s x e.draw) ∧ wx = wq)
          case first =>
            by_cases c5 : s.cfg.most < s.cfg.base + e.draw % (3 * x.wait - s.cfg.base + 1)
            · go_wp2_with fail
              go_meet
              case rel => exact ⟨by rw [waitS, if_pos (by omega)], rfl⟩
            · go_wp2_with fail
              go_meet
              case rel => exact ⟨by rw [waitS, if_neg (by omega)], rfl⟩
          case rest =>
            obtain ⟨rfl, rfl⟩ := hcut
            clear k7 m0 m1
            have HWZ : Hid (∃ wt, wt = waitS s x e.draw) := ⟨_, rfl⟩
            obtain ⟨wt, hwt⟩ := HWZ.out
            rw [← hwt] at HWB HLS ⊢
            obtain ⟨wb1, wb2⟩ := HWB.out
            clear HWB HWZ hwt
            rw [HO.out] at HLS
            have HLS' : Hid (lostS s e i x = if x.had < s.cfg.attempts ∧ s.now + wt < x.deadline then { s with calls := s.calls.set i { x with wait := wt }, timers := s.timers.filter (keepTimer x.number 1 1) ++ [⟨x.number, 2, s.now + wt⟩] } else endS { s with timers := s.timers.filter (keepTimer x.number 1 1) } x.number 2 0) := HLS.out
            clear HLS HO
            have lt' : (s.timers.filter (keepTimer x.number 1 1)).length ≤ 90000000 := Nat.le_trans (List.length_filter_le _ _) l4
            have ch : wc.cell? ⟨w.heap.size + 1, 2, none⟩ = some (.int .i64 x.had) := MC4.cell 2 rfl
            have cdl : wc.cell? ⟨w.heap.size + 1, 1, none⟩ = some (.int .i64 x.deadline) := MC4.cell 1 rfl
            have k4 : wc.cell? ⟨p, 4, none⟩ = some (.int .i64 s.cfg.attempts) := MA4.rep.k4
            have kN : wc.cell? ⟨p, 10, none⟩ = some (.int .i64 s.now) := MA4.rep.kN
            by_cases c6 : x.had < s.cfg.attempts
            · by_cases c7 : s.now + wt < x.deadline
              · have HL9 : Hid (lostS s e i x = { s with calls := s.calls.set i { x with wait := wt }, timers := s.timers.filter (keepTimer x.number 1 1) ++ [⟨x.number, 2, s.now + wt⟩] }) := by show _ = _; rw [HLS'.out, if_pos ⟨c6, c7⟩]
                clear HLS'
                go_wp2_with fail
                go_quiet (fail)
                obtain ⟨wz, hwz⟩ : ∃ wz, wz = wc.drewN nq := ⟨_, rfl⟩
                have hbz : Below wc.heap.size wc wz := by rw [hwz]; exact below_drewN _ _
                rw [← hwz]
                clear hwz
                have MA5 := MA4.on hbz
                clear MA4 MC4 hbz ch cdl k4 kN
                obtain ⟨A5, cap5, hA5, _, hA51, _⟩ := MA5.rep.rc.form
                obtain ⟨g5, rfl⟩ := hA51 i hi
                have hg5 : V3.c.ownBlock = some g5 := by rw [hA5]; rfl
                obtain ⟨ew, fw⟩ := MA5.rep.rc.cell encCall_len hg5 hi (j := 3) rfl
                have kc5 : wz.cell? ⟨p, 11, none⟩ = some (.slice (some ⟨g5, 0, none⟩) s.calls.length cap5) := by rw [← hA5]; exact MA5.rep.kc
                have Rput := MA5.rep.put_c hg5 (i := i) (j := 3) hi (by omega) (.int .i64 wt) { x with wait := wt } (by show _ = (encCall s.calls[i]).set 3 _; rw [HX.out]; rfl)
                have M6 := MA5.step Rput.1 Rput.2
                clear Rput MA5 hA5 hA51 hg5 c6 c7
                go_wp2_with fail
                obtain ⟨W6, hW6⟩ : ∃ W6, W6 = wz.setCell ⟨g5, i * 5 + 3, none⟩ (.int .i64 wt) := ⟨_, rfl⟩
                rw [← hW6] at M6 ⊢
                clear hW6 ew fw kc5 HX HG
                obtain ⟨i3, hi3, z0, z1, z2⟩ := info_parts Tryz.infoTimer
                generalize hB : w.heap.size = B at M6 ⊢
                generalize hTF : s.timers.filter (keepTimer x.number 1 1) = tf at M6 HL9 lt'
                go_cut [] (fun wx => ∃ V', MidB p V w { s with calls := s.calls.set i { x with wait := wt }, timers := tf ++ [⟨x.number, 2, s.now + wt⟩] } V' B #[.int .i64 e.kind, .int .i64 e.call, .int .i64 e.attempt, .int .i64 e.value, .int .i64 e.timeout, .bool e.safe, .int .u64 e.draw, .int .i64 e.to_] 39 wx)
                case first =>
                  have q1 : W6.cell? ⟨p, 14, none⟩ = some (V3.t) := M6.rep.kt
                  have q2 : W6.cell? ⟨p, 10, none⟩ = some (.int .i64 s.now) := M6.rep.kN
                  have fa := M6.rep.fz 14 (by omega)
                  have ra : W6.ownsRow 0 188 3 V3.t tf.length (tf.flatMap encTimer) := M6.rep.rt
                  have lW : p < W6.heap.size := M6.rep.lp
                  have lB : B < W6.heap.size := M6.lt
                  have hv : some p ≠ V3.t.ownBlock := fun e => M6.rep.ap 3 0 (by decide) p e.symm rfl
                  have hvB : some B ≠ V3.t.ownBlock := fun e => M6.no ⟨3, e.symm⟩
                  have hnp : W6.heap.size ≠ p := by omega
                  have hnB : W6.heap.size ≠ B := by omega
                  have hS : W6.drew.cell? ⟨p, 14, none⟩ = some (V3.t) ∧ W6.drew.cell? ⟨p, 10, none⟩ = some (.int .i64 s.now) := ⟨by simpa using q1, by simpa using q2⟩
                  refine wp_region_lexK (fun w' => w'.cell? ⟨p, 14, none⟩ = some (V3.t) ∧ w'.cell? ⟨p, 10, none⟩ = some (.int .i64 s.now)) 17 (fun i => decide (i < 13)) (by kernel_rfl) (by kernel_rfl) (by kernel_rfl) ?_
                  refine lexK_read (v := .pointer (some ⟨p, 0, none⟩)) rfl rfl (fun wz hSz => by obtain ⟨s1, s2⟩ := hSz; go_simp) hS (fun _ _ _ h => h) ?_
                  simp only [Act.put, List.setIfInBounds_toArray, List.set_cons_zero, List.set_cons_succ]
                  refine lexK_read (v := .pointer (some ⟨p, 0, none⟩)) rfl rfl (fun wz hSz => by obtain ⟨s1, s2⟩ := hSz; go_simp) hS (fun _ _ _ h => h) ?_
                  simp only [Act.put, List.setIfInBounds_toArray, List.set_cons_zero, List.set_cons_succ]
                  refine lexK_read (v := .pointer (some ⟨p, 0, none⟩)) rfl rfl (fun wz hSz => by obtain ⟨s1, s2⟩ := hSz; go_simp) hS (fun _ _ _ h => h) ?_
                  simp only [Act.put, List.setIfInBounds_toArray, List.set_cons_zero, List.set_cons_succ]
                  refine lexK_read (v := .pointer (some ⟨p, 14, none⟩)) rfl rfl (fun wz hSz => by obtain ⟨s1, s2⟩ := hSz; go_simp) hS (fun _ _ _ h => h) ?_
                  simp only [Act.put, List.setIfInBounds_toArray, List.set_cons_zero, List.set_cons_succ]
                  refine lexK_read (v := V3.t) rfl rfl (fun wz hSz => by obtain ⟨s1, s2⟩ := hSz; go_simp) hS (fun _ _ _ h => h) ?_
                  simp only [Act.put, List.setIfInBounds_toArray, List.set_cons_zero, List.set_cons_succ]
                  refine lexK_read (v := .int .i64 x.number) rfl rfl (fun wz hSz => by obtain ⟨s1, s2⟩ := hSz; go_simp) hS (fun _ _ _ h => h) ?_
                  simp only [Act.put, List.setIfInBounds_toArray, List.set_cons_zero, List.set_cons_succ]
                  refine lexK_read (v := .pointer (some ⟨p, 0, none⟩)) rfl rfl (fun wz hSz => by obtain ⟨s1, s2⟩ := hSz; go_simp) hS (fun _ _ _ h => h) ?_
                  simp only [Act.put, List.setIfInBounds_toArray, List.set_cons_zero, List.set_cons_succ]
                  refine lexK_read (v := .pointer (some ⟨p, 0, none⟩)) rfl rfl (fun wz hSz => by obtain ⟨s1, s2⟩ := hSz; go_simp) hS (fun _ _ _ h => h) ?_
                  simp only [Act.put, List.setIfInBounds_toArray, List.set_cons_zero, List.set_cons_succ]
                  refine lexK_read (v := .pointer (some ⟨p, 10, none⟩)) rfl rfl (fun wz hSz => by obtain ⟨s1, s2⟩ := hSz; go_simp) hS (fun _ _ _ h => h) ?_
                  simp only [Act.put, List.setIfInBounds_toArray, List.set_cons_zero, List.set_cons_succ]
                  refine lexK_read (v := .int .i64 s.now) rfl rfl (fun wz hSz => by obtain ⟨s1, s2⟩ := hSz; go_simp) hS (fun _ _ _ h => h) ?_
                  simp only [Act.put, List.setIfInBounds_toArray, List.set_cons_zero, List.set_cons_succ]
                  refine lexK_read (v := .int .i64 wt) rfl rfl (fun wz hSz => by obtain ⟨s1, s2⟩ := hSz; go_simp) hS (fun _ _ _ h => h) ?_
                  simp only [Act.put, List.setIfInBounds_toArray, List.set_cons_zero, List.set_cons_succ]
                  refine lexK_read (v := .int .i64 (s.now + wt)) rfl rfl (fun wz hSz => by obtain ⟨s1, s2⟩ := hSz; go_simp; exact wrap_small _ (by omega) (by omega)) hS (fun _ _ _ h => h) ?_
                  simp only [Act.put, List.setIfInBounds_toArray, List.set_cons_zero, List.set_cons_succ]
                  refine lexK_read (v := .agg #[.int .i64 x.number, .int .i64 2, .int .i64 (s.now + wt)]) rfl rfl (fun wz hSz => by obtain ⟨s1, s2⟩ := hSz; go_simp) hS (fun _ _ _ h => h) ?_
                  simp only [Act.put, List.setIfInBounds_toArray, List.set_cons_zero, List.set_cons_succ]
                  refine lexK_turn rfl rfl rfl ?_
                  go_simp
                  refine lexK_turn rfl rfl rfl ?_
                  refine wp_append_lies _ _ _ _ (by rfl) 0 188 i3 _ 3 24 Tryz.underlying118 hi3 z0 z1 z2 rfl (by omega) V3.t tf.length (tf.flatMap encTimer) (by rfl) ((World.ownsRow.alloc ra _).drew) ⟨W6.heap.size, 0, none⟩ 1 1 (encTimer (⟨x.number, 2, s.now + wt⟩ : RTimer)) (by rfl) (by rfl) (World.news_of_block (cs := (encTimer (⟨x.number, 2, s.now + wt⟩ : RTimer)).toArray) (t := 188) (fr := (0, 0)) (block_one W6 _)) (by simp [Value.oneCell', encTimer]) (by omega) (by simp only [maxLen]; omega) (by omega) (by omega) (W6.heap.size + 1) (by simp) ?_
                  intro g1 cap1 w1 hown hgrow hat hlt
                  have farp : ∀ j u, W6.cell? ⟨p, j, none⟩ = some u → w1.cell? ⟨p, j, none⟩ = some u := fun j u hu => by
                    rw [hgrow.cell_far ⟨p, j, none⟩ (by simp; omega) hv]
                    exact (World.cell?_alloc_lt _ _ ⟨p, j, none⟩ lW).trans hu
                  have farB : ∀ j u, W6.cell? ⟨B, j, none⟩ = some u → w1.cell? ⟨B, j, none⟩ = some u := fun j u hu => by
                    rw [hgrow.cell_far ⟨B, j, none⟩ (by simp; omega) hvB]
                    exact (World.cell?_alloc_lt _ _ ⟨B, j, none⟩ lB).trans hu
                  have c1 := farp _ _ q1
                  have c2 := farp _ _ q2
                  have cz : w1.cell? ⟨p, 14, none⟩ = some V3.t := farp 14 _ M6.rep.kt
                  have fz : w1.frozen? ⟨p, 14, none⟩ = false := by
                    rw [hgrow.frozen_far _ (by simp; omega) hv]
                    exact (World.frozen?_alloc_old _ _ _ (by simp; omega)).trans fa
                  clear farp farB
                  refine ⟨.inr ⟨c1, c2⟩, ?_⟩
                  simp only [Act.put, List.setIfInBounds_toArray, List.set_cons_zero, List.set_cons_succ]
                  refine lexK_turn rfl rfl rfl ?_
                  go_simp
                  refine lexK_turn rfl rfl rfl ?_
                  go_simp
                  refine lexK_turn rfl rfl rfl ?_
                  go_simp
                  refine lexK_end ?_
                  go_wp2_with fail
                  go_meet
                  case rel =>
                    obtain ⟨V', r, m⟩ := M6.rep.push_t (x := (⟨x.number, 2, s.now + wt⟩ : RTimer)) ((Below.refl _ _).alloc (Nat.le_refl _) _).drew hown hgrow (hat.imp id (fun h => by omega)) cz
                    exact ⟨V', M6.step r m⟩
                case rest =>
                  obtain ⟨V7, M7⟩ := hcut
                  have HN := hide (show Now p V w _ wc from ⟨V7, M7.rep, M7.mv⟩)
                  clear M7 M6
                  go_wp2_with fail
                  exact bodyPost_ret (v := .tuple #[]) (by simp [results, Tryz.results84, go_sem]) rfl ⟨rfl, by rw [HL9.out]; exact HN.out⟩
              · have HL9 : Hid (lostS s e i x = endS { s with timers := s.timers.filter (keepTimer x.number 1 1) } x.number 2 0) := by show _ = _; rw [HLS'.out, if_neg (fun hh => c7 hh.2)]
                have c7' : decide (s.now + wt < x.deadline) = false := by simpa using c7
                clear HLS' c7
                go_wp2_with fail
                go_quiet (fail)
                obtain ⟨wz, hwz⟩ : ∃ wz, wz = wc.drewN nq := ⟨_, rfl⟩
                have hbz : Below wc.heap.size wc wz := by rw [hwz]; exact below_drewN _ _
                rw [← hwz]
                clear hwz
                have MA5 := MA4.on hbz
                clear MA4 MC4 hbz ch cdl k4 kN
                go_wp2_with fail
                refine (end_any p _ _ _ MA5.rep x.number 2 0 l1 l2 l3 (by show (s.timers.filter _).length ≤ 100000000; omega)).mono ?_
                rintro ev w2 ⟨rfl, V2, r2, m2⟩
                have HN := hide (show Now p V w _ w2 from ⟨V2, r2, MA5.mv.trans m2⟩)
                clear r2 m2
                go_wp2_with fail
                go_end0
                exact ⟨rfl, by rw [HL9.out]; exact HN.out⟩
            · have HL9 : Hid (lostS s e i x = endS { s with timers := s.timers.filter (keepTimer x.number 1 1) } x.number 2 0) := by show _ = _; rw [HLS'.out, if_neg (fun hh => c6 hh.1)]
              have c6' : decide (x.had < s.cfg.attempts) = false := by simpa using c6
              clear HLS' c6
              go_wp2_with fail
              go_quiet (fail)
              obtain ⟨wz, hwz⟩ : ∃ wz, wz = wc.drewN nq := ⟨_, rfl⟩
              have hbz : Below wc.heap.size wc wz := by rw [hwz]; exact below_drewN _ _
              rw [← hwz]
              clear hwz
              have MA5 := MA4.on hbz
              clear MA4 MC4 hbz ch cdl k4 kN
              go_wp2_with fail
              refine (end_any p _ _ _ MA5.rep x.number 2 0 l1 l2 l3 (by show (s.timers.filter _).length ≤ 100000000; omega)).mono ?_
              rintro ev w2 ⟨rfl, V2, r2, m2⟩
              have HN := hide (show Now p V w _ w2 from ⟨V2, r2, MA5.mv.trans m2⟩)
              clear r2 m2
              go_wp2_with fail
              go_end0
              exact ⟨rfl, by rw [HL9.out]; exact HN.out⟩
end Go.Proofs.YtlccfpbbdgpjbaaGreatDoor
