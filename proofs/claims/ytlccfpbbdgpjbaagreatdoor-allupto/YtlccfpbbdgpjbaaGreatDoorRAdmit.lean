import Derived.Test.YtlccfpbbdgpjbaaGreatDoorRSubmit
namespace Go.Proofs.YtlccfpbbdgpjbaaGreatDoor
open Go.RowKit

theorem Rep.push_u {w wa w1 : World} {p : Nat} {s : St} {V : V6} (h : Rep w p s V) {x : RUnits} {g cap : Nat} (ha : Below w.heap.size w wa)
    (hown : w1.ownsRow 0 186 2 (.slice (some ⟨g, 0, none⟩) (s.units.length + 1) cap) (s.units.length + 1) (s.units.flatMap encUnits ++ encUnits x)) (hgrow : wa.grownBy w1 V.u.ownBlock) (hat : V.u.ownBlock = some g ∨ w.heap.size ≤ g) (hc : w1.cell? ⟨p, 15, none⟩ = some V.u) :
    Now p V w { s with units := s.units ++ [x] } (w1.setCell ⟨p, 15, none⟩ (.slice (some ⟨g, 0, none⟩) (s.units.length + 1) cap)) := by
  obtain ⟨v', h1, h2, h3, h4⟩ := push_post h.lp h.ru ha hown hgrow (fun e => h.ap 4 0 (by decide) p e rfl) hat hc
  exact ⟨_, h.set_u h4 h1 h2 (h3.imp id (fun ⟨g, e, hg⟩ g' e' => by have : g = g' := Option.some.inj (e.symm.trans e'); omega))⟩

theorem Rep.push_c {w wa w1 : World} {p : Nat} {s : St} {V : V6} (h : Rep w p s V) {x : RCall} {g cap : Nat} (ha : Below w.heap.size w wa)
    (hown : w1.ownsRow 0 159 5 (.slice (some ⟨g, 0, none⟩) (s.calls.length + 1) cap) (s.calls.length + 1) (s.calls.flatMap encCall ++ encCall x)) (hgrow : wa.grownBy w1 V.c.ownBlock) (hat : V.c.ownBlock = some g ∨ w.heap.size ≤ g) (hc : w1.cell? ⟨p, 11, none⟩ = some V.c) :
    Now p V w { s with calls := s.calls ++ [x] } (w1.setCell ⟨p, 11, none⟩ (.slice (some ⟨g, 0, none⟩) (s.calls.length + 1) cap)) := by
  obtain ⟨v', h1, h2, h3, h4⟩ := push_post h.lp h.rc ha hown hgrow (fun e => h.ap 1 0 (by decide) p e rfl) hat hc
  exact ⟨_, h.set_c h4 h1 h2 (h3.imp id (fun ⟨g, e, hg⟩ g' e' => by have : g = g' := Option.some.inj (e.symm.trans e'); omega))⟩

theorem findFrom_append (number : Int) (c : RCall) (hc : c.number = number) : ∀ (l : List RCall) (k : Nat), findFrom number l k < 0 → findFrom number (l ++ [c]) k = ((k + l.length : Nat) : Int)
  | [], k, _ => by simp [findFrom, hc]
  | a :: r, k, h => by
    unfold findFrom at h
    rw [List.cons_append]
    unfold findFrom
    by_cases ha : a.number = number
    · rw [if_pos ha] at h
      omega
    · rw [if_neg ha] at h ⊢
      rw [findFrom_append number c hc r (k + 1) h]
      simp
      omega

set_option maxRecDepth 100000 in
set_option maxHeartbeats 3200000 in
theorem submit_admit (p : Nat) (s : St) (V : V6) (w : World) (h : Rep w p s V) (e : Ev) (l1 : s.calls.length ≤ 90000000) (l2 : s.atts.length ≤ 100000000) (l3 : s.out.length ≤ 100000000) (l4 : s.timers.length ≤ 90000000) (l5 : s.units.length ≤ 90000000) (hu : UnitsOk s.units)
    (tl : s.times.length ≤ 32) (tb : ∀ t ∈ s.times, 0 ≤ t ∧ t ≤ 1099511627776) (r0 : 1 ≤ s.cfg.rank) (r1 : s.cfg.rank ≤ 100) (b1 : 0 ≤ s.numbers) (b2 : s.numbers ≤ 1000000000) (b5 : 0 ≤ s.now) (b6 : s.now ≤ 1099511627776) (b7 : 0 ≤ s.cfg.cap) (b8 : s.cfg.cap ≤ 1000) (b9 : 0 ≤ s.cfg.deposit) (b10 : s.cfg.deposit ≤ 1000)
    (hw : whyS s e = 0) :
    Calls Tryz.prog 81 #[.pointer (some ⟨p, 0, none⟩), .agg (encEv e)] w fun ev w' => ev = .returned (.tuple #[]) ∧ Now p V w (launchR (admitS s e) s.calls.length (rNewCall s e)) w' := by
  have M0 := MidB.begin h (encEv e) 39
  have HF := hide (rep_find M0.rep (by omega) e.call)
  have lC : (s.calls.length : Int) ≤ 90000000 := by omega
  obtain ⟨A, cap, hA, _, _, _⟩ := h.rc.form
  have kc : (w.alloc (.cells (encEv e) 39)).cell? ⟨p, 11, none⟩ = some (.slice A s.calls.length cap) := by rw [← hA]; exact M0.rep.kc
  have k5 : (w.alloc (.cells (encEv e) 39)).cell? ⟨p, 5, none⟩ = some (.int .i64 s.cfg.flight) := M0.rep.k5
  have kN : (w.alloc (.cells (encEv e) 39)).cell? ⟨p, 10, none⟩ = some (.int .i64 s.now) := M0.rep.kN
  have hpw : w.heap.size ≠ p := by have := h.lp; omega
  have hsf := sumUnits_bound s.fresh (fun u hu' => hu u (List.mem_filter.1 hu').1)
  have hfl : s.fresh.length ≤ s.units.length := List.length_filter_le _ _
  obtain ⟨i1, hi1, x0, x1, x2⟩ := info_parts Tryz.infoUnits
  obtain ⟨i2, hi2, y0, y1, y2⟩ := info_parts Tryz.infoCall
  obtain ⟨i3, hi3, z0, z1, z2⟩ := info_parts Tryz.infoTimer
  unfold whyS at hw
  by_cases c1 : 1 ≤ e.timeout ∧ e.timeout ≤ 10000
  case neg => rw [if_pos c1] at hw; cases hw
  rw [if_neg (fun h => h c1)] at hw
  by_cases c2 : 0 ≤ findI s.calls e.call
  case pos => rw [if_pos c2] at hw; cases hw
  rw [if_neg c2] at hw
  by_cases c3 : s.cfg.flight ≤ (s.calls.length : Int)
  case pos => rw [if_pos c3] at hw; cases hw
  rw [if_neg c3] at hw
  by_cases c4 : 1099511627776 < s.now + e.timeout
  case pos => rw [if_pos c4] at hw; cases hw
  clear hw
  have HFA := hide (findFrom_append e.call (rNewCall s e) rfl s.calls 0 (by unfold findI at c2; omega))
  unfold encEv at M0 HF kc k5 kN ⊢
  generalize findI s.calls e.call = fi at HF c2
  obtain ⟨t1, t2⟩ := c1
  have c2' : fi < 0 := by omega
  have c3' : decide (s.cfg.flight ≤ (s.calls.length : Int)) = false := by simpa using c3
  have c4' : decide (1099511627776 < s.now + e.timeout) = false := by simpa using c4
  have H4 := hide (show s.now + e.timeout ≤ 1099511627776 by omega)
  have HU := hide hu
  have HTB := hide tb
  clear hA hu tb
  obtain ⟨f1, f2⟩ := hsf
  go_enter Tryz.func81, Tryz.ntmps81
  go_wp2_with fail
  refine HF.out.mono ?_
  rintro ev w' ⟨rfl, rfl⟩
  go_wp2_with fail
  refine (rwithin_yes _ _ _ _ t1 t2).mono ?_
  rintro ev w' ⟨rfl, rfl⟩
  go_wp2_with fail
  go_quiet (fail)
  obtain ⟨wq, hwq⟩ : ∃ wq, wq = (w.alloc (.cells #[.int .i64 e.kind, .int .i64 e.call, .int .i64 e.attempt, .int .i64 e.value, .int .i64 e.timeout, .bool e.safe, .int .u64 e.draw, .int .i64 e.to_] 39)).drewN nq := ⟨_, rfl⟩
  have hbq : Below (w.alloc (.cells #[.int .i64 e.kind, .int .i64 e.call, .int .i64 e.attempt, .int .i64 e.value, .int .i64 e.timeout, .bool e.safe, .int .u64 e.draw, .int .i64 e.to_] 39)).heap.size (w.alloc (.cells #[.int .i64 e.kind, .int .i64 e.call, .int .i64 e.attempt, .int .i64 e.value, .int .i64 e.timeout, .bool e.safe, .int .u64 e.draw, .int .i64 e.to_] 39)) wq := by rw [hwq]; exact below_drewN _ _
  rw [← hwq]
  clear hwq
  have M1 := M0.on hbq
  have kN1 : wq.cell? ⟨p, 10, none⟩ = some (.int .i64 s.now) := M1.rep.kN
  have et1 : wq.cell? ⟨w.heap.size, 4, none⟩ = some (.int .i64 e.timeout) := M1.cell 4 rfl
  clear kc k5 kN hbq HF M0
  go_wp2_with fail
  go_quiet (fail)
  obtain ⟨wz, hwz⟩ : ∃ wz, wz = wq.drewN nq := ⟨_, rfl⟩
  have hbz : Below wq.heap.size wq wz := by rw [hwz]; exact below_drewN _ _
  rw [← hwz]
  clear hwz
  have M2 := M1.on hbz
  clear kN1 et1 hbz M1 c3 c4
  go_wp2_with fail
  refine (rep_balance M2.rep (by omega) HU.out b5 b6).mono ?_
  rintro ev w3 ⟨rfl, V3, r3, m3⟩
  have M3 := M2.step r3 m3
  have k0 : w3.cell? ⟨p, 0, none⟩ = some (.int .i64 s.cfg.deposit) := M3.rep.k0
  have k2 : w3.cell? ⟨p, 2, none⟩ = some (.int .i64 s.cfg.cap) := M3.rep.k2
  clear M2 r3 m3
  generalize hB : w.heap.size = B at M3 ⊢
  go_upto_if 64 with fail
  go_cut [7] (fun v7 wx => v7 = .int .i64 (bringS s) ∧ wx = w3)
  case first =>
    by_cases c5 : s.cfg.cap - sumUnits s.fresh < s.cfg.deposit
    · go_wp2_with fail
      go_meet
      case rel => exact ⟨by rw [bringS, if_pos (by omega)], rfl⟩
    · go_wp2_with fail
      go_meet
      case rel => exact ⟨by rw [bringS, if_neg (by omega)], rfl⟩
  case rest =>
    obtain ⟨rfl, rfl⟩ := hcut
    clear k0 k2 c2 c2' c3' c4' hpw f1 f2
    have HB9 : Hid (∃ n0, n0 = bringS s) := ⟨_, rfl⟩
    obtain ⟨n0, hn0⟩ := HB9.out
    rw [← hn0]
    have HN0 := hide hn0
    clear hn0 HB9
    go_wp2_with fail
    go_cut [] (fun wx => ∃ V', MidB p V w { s with units := s.fresh ++ [⟨s.now, n0⟩] } V' B #[.int .i64 e.kind, .int .i64 e.call, .int .i64 e.attempt, .int .i64 e.value, .int .i64 e.timeout, .bool e.safe, .int .u64 e.draw, .int .i64 e.to_] 39 wx)
    case first =>
      have q1 : wc.cell? ⟨p, 15, none⟩ = some (V3.u) := M3.rep.ku
      have q2 : wc.cell? ⟨p, 10, none⟩ = some (.int .i64 s.now) := M3.rep.kN
      have fa := M3.rep.fz 15 (by omega)
      have ra : wc.ownsRow 0 186 2 V3.u s.fresh.length (s.fresh.flatMap encUnits) := M3.rep.ru
      have lW : p < wc.heap.size := M3.rep.lp
      have lB : B < wc.heap.size := M3.lt
      have hv : some p ≠ V3.u.ownBlock := fun e => M3.rep.ap 4 0 (by decide) p e.symm rfl
      have hvB : some B ≠ V3.u.ownBlock := fun e => M3.no ⟨4, e.symm⟩
      have hnp : wc.heap.size ≠ p := by omega
      have hnB : wc.heap.size ≠ B := by omega
      have hS : wc.drew.cell? ⟨p, 15, none⟩ = some (V3.u) ∧ wc.drew.cell? ⟨p, 10, none⟩ = some (.int .i64 s.now) := ⟨by simpa using q1, by simpa using q2⟩
      refine wp_region_lexK (fun w' => w'.cell? ⟨p, 15, none⟩ = some (V3.u) ∧ w'.cell? ⟨p, 10, none⟩ = some (.int .i64 s.now)) 15 (fun i => decide (i < 11)) (by kernel_rfl) (by kernel_rfl) (by kernel_rfl) ?_
      refine lexK_read (v := .pointer (some ⟨p, 0, none⟩)) rfl rfl (fun wz hSz => by obtain ⟨s1, s2⟩ := hSz; go_simp) hS (fun _ _ _ h => h) ?_
      simp only [Act.put, List.setIfInBounds_toArray, List.set_cons_zero, List.set_cons_succ]
      refine lexK_read (v := .pointer (some ⟨p, 0, none⟩)) rfl rfl (fun wz hSz => by obtain ⟨s1, s2⟩ := hSz; go_simp) hS (fun _ _ _ h => h) ?_
      simp only [Act.put, List.setIfInBounds_toArray, List.set_cons_zero, List.set_cons_succ]
      refine lexK_read (v := .pointer (some ⟨p, 0, none⟩)) rfl rfl (fun wz hSz => by obtain ⟨s1, s2⟩ := hSz; go_simp) hS (fun _ _ _ h => h) ?_
      simp only [Act.put, List.setIfInBounds_toArray, List.set_cons_zero, List.set_cons_succ]
      refine lexK_read (v := .pointer (some ⟨p, 15, none⟩)) rfl rfl (fun wz hSz => by obtain ⟨s1, s2⟩ := hSz; go_simp) hS (fun _ _ _ h => h) ?_
      simp only [Act.put, List.setIfInBounds_toArray, List.set_cons_zero, List.set_cons_succ]
      refine lexK_read (v := V3.u) rfl rfl (fun wz hSz => by obtain ⟨s1, s2⟩ := hSz; go_simp) hS (fun _ _ _ h => h) ?_
      simp only [Act.put, List.setIfInBounds_toArray, List.set_cons_zero, List.set_cons_succ]
      refine lexK_read (v := .pointer (some ⟨p, 0, none⟩)) rfl rfl (fun wz hSz => by obtain ⟨s1, s2⟩ := hSz; go_simp) hS (fun _ _ _ h => h) ?_
      simp only [Act.put, List.setIfInBounds_toArray, List.set_cons_zero, List.set_cons_succ]
      refine lexK_read (v := .pointer (some ⟨p, 0, none⟩)) rfl rfl (fun wz hSz => by obtain ⟨s1, s2⟩ := hSz; go_simp) hS (fun _ _ _ h => h) ?_
      simp only [Act.put, List.setIfInBounds_toArray, List.set_cons_zero, List.set_cons_succ]
      refine lexK_read (v := .pointer (some ⟨p, 10, none⟩)) rfl rfl (fun wz hSz => by obtain ⟨s1, s2⟩ := hSz; go_simp) hS (fun _ _ _ h => h) ?_
      simp only [Act.put, List.setIfInBounds_toArray, List.set_cons_zero, List.set_cons_succ]
      refine lexK_read (v := .int .i64 s.now) rfl rfl (fun wz hSz => by obtain ⟨s1, s2⟩ := hSz; go_simp) hS (fun _ _ _ h => h) ?_
      simp only [Act.put, List.setIfInBounds_toArray, List.set_cons_zero, List.set_cons_succ]
      refine lexK_read (v := .int .i64 n0) rfl rfl (fun wz hSz => by obtain ⟨s1, s2⟩ := hSz; go_simp) hS (fun _ _ _ h => h) ?_
      simp only [Act.put, List.setIfInBounds_toArray, List.set_cons_zero, List.set_cons_succ]
      refine lexK_read (v := .agg #[.int .i64 s.now, .int .i64 n0]) rfl rfl (fun wz hSz => by obtain ⟨s1, s2⟩ := hSz; go_simp) hS (fun _ _ _ h => h) ?_
      simp only [Act.put, List.setIfInBounds_toArray, List.set_cons_zero, List.set_cons_succ]
      refine lexK_turn rfl rfl rfl ?_
      go_simp
      refine lexK_turn rfl rfl rfl ?_
      refine wp_append_lies _ _ _ _ (by rfl) 0 186 i1 _ 2 16 Tryz.underlying119 hi1 x0 x1 x2 rfl (by omega) V3.u s.fresh.length (s.fresh.flatMap encUnits) (by rfl) ((World.ownsRow.alloc ra _).drew) ⟨wc.heap.size, 0, none⟩ 1 1 (encUnits (⟨s.now, n0⟩ : RUnits)) (by rfl) (by rfl) (World.news_of_block (cs := (encUnits (⟨s.now, n0⟩ : RUnits)).toArray) (t := 186) (fr := (0, 0)) (block_one wc _)) (by simp [Value.oneCell', encUnits]) (by omega) (by simp only [maxLen]; omega) (by omega) (by omega) (wc.heap.size + 1) (by simp) ?_
      intro g1 cap1 w1 hown hgrow hat hlt
      have farp : ∀ j u, wc.cell? ⟨p, j, none⟩ = some u → w1.cell? ⟨p, j, none⟩ = some u := fun j u hu => by
        rw [hgrow.cell_far ⟨p, j, none⟩ (by simp; omega) hv]
        exact (World.cell?_alloc_lt _ _ ⟨p, j, none⟩ lW).trans hu
      have farB : ∀ j u, wc.cell? ⟨B, j, none⟩ = some u → w1.cell? ⟨B, j, none⟩ = some u := fun j u hu => by
        rw [hgrow.cell_far ⟨B, j, none⟩ (by simp; omega) hvB]
        exact (World.cell?_alloc_lt _ _ ⟨B, j, none⟩ lB).trans hu
      have c1 := farp _ _ q1
      have c2 := farp _ _ q2
      have cz : w1.cell? ⟨p, 15, none⟩ = some V3.u := farp 15 _ M3.rep.ku
      have fz : w1.frozen? ⟨p, 15, none⟩ = false := by
        rw [hgrow.frozen_far _ (by simp; omega) hv]
        exact (World.frozen?_alloc_old _ _ _ (by simp; omega)).trans fa
      clear farp farB
      refine ⟨.inr ⟨c1, c2⟩, ?_⟩
      simp only [Act.put, List.setIfInBounds_toArray, List.set_cons_zero, List.set_cons_succ]
      refine lexK_turn rfl rfl rfl ?_
      go_simp
      refine lexK_turn rfl rfl rfl ?_
      go_simp
      refine lexK_turn rfl rfl rfl ?_
      go_simp
      refine lexK_end ?_
      go_wp2_with fail
      go_meet
      case rel =>
        obtain ⟨V', r, m⟩ := M3.rep.push_u (x := (⟨s.now, n0⟩ : RUnits)) ((Below.refl _ _).alloc (Nat.le_refl _) _).drew hown hgrow (hat.imp id (fun h => by omega)) cz
        exact ⟨V', M3.step r m⟩
    case rest =>
      obtain ⟨V4, M4⟩ := hcut
      clear M3 x0 x1 x2 hi1
      go_wp2_with fail
      go_cut [] (fun wx => ∃ V', MidB p V w { s with units := s.fresh ++ [⟨s.now, n0⟩], calls := s.calls ++ [rNewCall s e] } V' B #[.int .i64 e.kind, .int .i64 e.call, .int .i64 e.attempt, .int .i64 e.value, .int .i64 e.timeout, .bool e.safe, .int .u64 e.draw, .int .i64 e.to_] 39 wx)
      case first =>
        have q1 : wc.cell? ⟨p, 11, none⟩ = some (V4.c) := M4.rep.kc
        have q2 : wc.cell? ⟨p, 10, none⟩ = some (.int .i64 s.now) := M4.rep.kN
        have q3 : wc.cell? ⟨p, 6, none⟩ = some (.int .i64 s.cfg.base) := M4.rep.k6
        have q4 : wc.cell? ⟨B, 1, none⟩ = some (.int .i64 e.call) := M4.cell 1 rfl
        have q5 : wc.cell? ⟨B, 4, none⟩ = some (.int .i64 e.timeout) := M4.cell 4 rfl
        have q6 : wc.cell? ⟨B, 5, none⟩ = some (.bool e.safe) := M4.cell 5 rfl
        have fa := M4.rep.fz 11 (by omega)
        have ra : wc.ownsRow 0 159 5 V4.c s.calls.length (s.calls.flatMap encCall) := M4.rep.rc
        have lW : p < wc.heap.size := M4.rep.lp
        have lB : B < wc.heap.size := M4.lt
        have hv : some p ≠ V4.c.ownBlock := fun e => M4.rep.ap 1 0 (by decide) p e.symm rfl
        have hvB : some B ≠ V4.c.ownBlock := fun e => M4.no ⟨1, e.symm⟩
        have hnp : wc.heap.size ≠ p := by omega
        have hnB : wc.heap.size ≠ B := by omega
        have hS : wc.drew.cell? ⟨p, 11, none⟩ = some (V4.c) ∧ wc.drew.cell? ⟨p, 10, none⟩ = some (.int .i64 s.now) ∧ wc.drew.cell? ⟨p, 6, none⟩ = some (.int .i64 s.cfg.base) ∧ wc.drew.cell? ⟨B, 1, none⟩ = some (.int .i64 e.call) ∧ wc.drew.cell? ⟨B, 4, none⟩ = some (.int .i64 e.timeout) ∧ wc.drew.cell? ⟨B, 5, none⟩ = some (.bool e.safe) := ⟨by simpa using q1, by simpa using q2, by simpa using q3, by simpa using q4, by simpa using q5, by simpa using q6⟩
        refine wp_region_lexK (fun w' => w'.cell? ⟨p, 11, none⟩ = some (V4.c) ∧ w'.cell? ⟨p, 10, none⟩ = some (.int .i64 s.now) ∧ w'.cell? ⟨p, 6, none⟩ = some (.int .i64 s.cfg.base) ∧ w'.cell? ⟨B, 1, none⟩ = some (.int .i64 e.call) ∧ w'.cell? ⟨B, 4, none⟩ = some (.int .i64 e.timeout) ∧ w'.cell? ⟨B, 5, none⟩ = some (.bool e.safe)) 26 (fun i => decide (i < 22)) (by kernel_rfl) (by kernel_rfl) (by kernel_rfl) ?_
        refine lexK_read (v := .pointer (some ⟨p, 0, none⟩)) rfl rfl (fun wz hSz => by obtain ⟨s1, s2, s3, s4, s5, s6⟩ := hSz; go_simp) hS (fun _ _ _ h => h) ?_
        simp only [Act.put, List.setIfInBounds_toArray, List.set_cons_zero, List.set_cons_succ]
        refine lexK_read (v := .pointer (some ⟨p, 0, none⟩)) rfl rfl (fun wz hSz => by obtain ⟨s1, s2, s3, s4, s5, s6⟩ := hSz; go_simp) hS (fun _ _ _ h => h) ?_
        simp only [Act.put, List.setIfInBounds_toArray, List.set_cons_zero, List.set_cons_succ]
        refine lexK_read (v := .pointer (some ⟨p, 0, none⟩)) rfl rfl (fun wz hSz => by obtain ⟨s1, s2, s3, s4, s5, s6⟩ := hSz; go_simp) hS (fun _ _ _ h => h) ?_
        simp only [Act.put, List.setIfInBounds_toArray, List.set_cons_zero, List.set_cons_succ]
        refine lexK_read (v := .pointer (some ⟨p, 11, none⟩)) rfl rfl (fun wz hSz => by obtain ⟨s1, s2, s3, s4, s5, s6⟩ := hSz; go_simp) hS (fun _ _ _ h => h) ?_
        simp only [Act.put, List.setIfInBounds_toArray, List.set_cons_zero, List.set_cons_succ]
        refine lexK_read (v := V4.c) rfl rfl (fun wz hSz => by obtain ⟨s1, s2, s3, s4, s5, s6⟩ := hSz; go_simp) hS (fun _ _ _ h => h) ?_
        simp only [Act.put, List.setIfInBounds_toArray, List.set_cons_zero, List.set_cons_succ]
        refine lexK_read (v := .pointer (some ⟨B, 1, none⟩)) rfl rfl (fun wz hSz => by obtain ⟨s1, s2, s3, s4, s5, s6⟩ := hSz; go_simp) hS (fun _ _ _ h => h) ?_
        simp only [Act.put, List.setIfInBounds_toArray, List.set_cons_zero, List.set_cons_succ]
        refine lexK_read (v := .int .i64 e.call) rfl rfl (fun wz hSz => by obtain ⟨s1, s2, s3, s4, s5, s6⟩ := hSz; go_simp) hS (fun _ _ _ h => h) ?_
        simp only [Act.put, List.setIfInBounds_toArray, List.set_cons_zero, List.set_cons_succ]
        refine lexK_read (v := .pointer (some ⟨p, 0, none⟩)) rfl rfl (fun wz hSz => by obtain ⟨s1, s2, s3, s4, s5, s6⟩ := hSz; go_simp) hS (fun _ _ _ h => h) ?_
        simp only [Act.put, List.setIfInBounds_toArray, List.set_cons_zero, List.set_cons_succ]
        refine lexK_read (v := .pointer (some ⟨p, 0, none⟩)) rfl rfl (fun wz hSz => by obtain ⟨s1, s2, s3, s4, s5, s6⟩ := hSz; go_simp) hS (fun _ _ _ h => h) ?_
        simp only [Act.put, List.setIfInBounds_toArray, List.set_cons_zero, List.set_cons_succ]
        refine lexK_read (v := .pointer (some ⟨p, 10, none⟩)) rfl rfl (fun wz hSz => by obtain ⟨s1, s2, s3, s4, s5, s6⟩ := hSz; go_simp) hS (fun _ _ _ h => h) ?_
        simp only [Act.put, List.setIfInBounds_toArray, List.set_cons_zero, List.set_cons_succ]
        refine lexK_read (v := .int .i64 s.now) rfl rfl (fun wz hSz => by obtain ⟨s1, s2, s3, s4, s5, s6⟩ := hSz; go_simp) hS (fun _ _ _ h => h) ?_
        simp only [Act.put, List.setIfInBounds_toArray, List.set_cons_zero, List.set_cons_succ]
        refine lexK_read (v := .pointer (some ⟨B, 4, none⟩)) rfl rfl (fun wz hSz => by obtain ⟨s1, s2, s3, s4, s5, s6⟩ := hSz; go_simp) hS (fun _ _ _ h => h) ?_
        simp only [Act.put, List.setIfInBounds_toArray, List.set_cons_zero, List.set_cons_succ]
        refine lexK_read (v := .int .i64 e.timeout) rfl rfl (fun wz hSz => by obtain ⟨s1, s2, s3, s4, s5, s6⟩ := hSz; go_simp) hS (fun _ _ _ h => h) ?_
        simp only [Act.put, List.setIfInBounds_toArray, List.set_cons_zero, List.set_cons_succ]
        refine lexK_read (v := .int .i64 (s.now + e.timeout)) rfl rfl (fun wz hSz => by obtain ⟨s1, s2, s3, s4, s5, s6⟩ := hSz; go_simp; exact wrap_small _ (by omega) (by omega)) hS (fun _ _ _ h => h) ?_
        simp only [Act.put, List.setIfInBounds_toArray, List.set_cons_zero, List.set_cons_succ]
        refine lexK_read (v := .pointer (some ⟨p, 0, none⟩)) rfl rfl (fun wz hSz => by obtain ⟨s1, s2, s3, s4, s5, s6⟩ := hSz; go_simp) hS (fun _ _ _ h => h) ?_
        simp only [Act.put, List.setIfInBounds_toArray, List.set_cons_zero, List.set_cons_succ]
        refine lexK_read (v := .pointer (some ⟨p, 0, none⟩)) rfl rfl (fun wz hSz => by obtain ⟨s1, s2, s3, s4, s5, s6⟩ := hSz; go_simp) hS (fun _ _ _ h => h) ?_
        simp only [Act.put, List.setIfInBounds_toArray, List.set_cons_zero, List.set_cons_succ]
        refine lexK_read (v := .pointer (some ⟨p, 0, none⟩)) rfl rfl (fun wz hSz => by obtain ⟨s1, s2, s3, s4, s5, s6⟩ := hSz; go_simp) hS (fun _ _ _ h => h) ?_
        simp only [Act.put, List.setIfInBounds_toArray, List.set_cons_zero, List.set_cons_succ]
        refine lexK_read (v := .pointer (some ⟨p, 6, none⟩)) rfl rfl (fun wz hSz => by obtain ⟨s1, s2, s3, s4, s5, s6⟩ := hSz; go_simp) hS (fun _ _ _ h => h) ?_
        simp only [Act.put, List.setIfInBounds_toArray, List.set_cons_zero, List.set_cons_succ]
        refine lexK_read (v := .int .i64 s.cfg.base) rfl rfl (fun wz hSz => by obtain ⟨s1, s2, s3, s4, s5, s6⟩ := hSz; go_simp) hS (fun _ _ _ h => h) ?_
        simp only [Act.put, List.setIfInBounds_toArray, List.set_cons_zero, List.set_cons_succ]
        refine lexK_read (v := .pointer (some ⟨B, 5, none⟩)) rfl rfl (fun wz hSz => by obtain ⟨s1, s2, s3, s4, s5, s6⟩ := hSz; go_simp) hS (fun _ _ _ h => h) ?_
        simp only [Act.put, List.setIfInBounds_toArray, List.set_cons_zero, List.set_cons_succ]
        refine lexK_read (v := .bool e.safe) rfl rfl (fun wz hSz => by obtain ⟨s1, s2, s3, s4, s5, s6⟩ := hSz; go_simp) hS (fun _ _ _ h => h) ?_
        simp only [Act.put, List.setIfInBounds_toArray, List.set_cons_zero, List.set_cons_succ]
        refine lexK_read (v := .agg #[.int .i64 e.call, .int .i64 (s.now + e.timeout), .int .i64 0, .int .i64 s.cfg.base, .bool e.safe]) rfl rfl (fun wz hSz => by obtain ⟨s1, s2, s3, s4, s5, s6⟩ := hSz; go_simp) hS (fun _ _ _ h => h) ?_
        simp only [Act.put, List.setIfInBounds_toArray, List.set_cons_zero, List.set_cons_succ]
        refine lexK_turn rfl rfl rfl ?_
        go_simp
        refine lexK_turn rfl rfl rfl ?_
        refine wp_append_lies _ _ _ _ (by rfl) 0 159 i2 _ 5 40 Tryz.underlying116 hi2 y0 y1 y2 rfl (by omega) V4.c s.calls.length (s.calls.flatMap encCall) (by rfl) ((World.ownsRow.alloc ra _).drew) ⟨wc.heap.size, 0, none⟩ 1 1 (encCall (rNewCall s e)) (by rfl) (by rfl) (World.news_of_block (cs := (encCall (rNewCall s e)).toArray) (t := 159) (fr := (0, 0)) (block_one wc _)) (by simp [Value.oneCell', encCall]) (by omega) (by simp only [maxLen]; omega) (by omega) (by omega) (wc.heap.size + 1) (by simp) ?_
        intro g1 cap1 w1 hown hgrow hat hlt
        have farp : ∀ j u, wc.cell? ⟨p, j, none⟩ = some u → w1.cell? ⟨p, j, none⟩ = some u := fun j u hu => by
          rw [hgrow.cell_far ⟨p, j, none⟩ (by simp; omega) hv]
          exact (World.cell?_alloc_lt _ _ ⟨p, j, none⟩ lW).trans hu
        have farB : ∀ j u, wc.cell? ⟨B, j, none⟩ = some u → w1.cell? ⟨B, j, none⟩ = some u := fun j u hu => by
          rw [hgrow.cell_far ⟨B, j, none⟩ (by simp; omega) hvB]
          exact (World.cell?_alloc_lt _ _ ⟨B, j, none⟩ lB).trans hu
        have c1 := farp _ _ q1
        have c2 := farp _ _ q2
        have c3 := farp _ _ q3
        have c4 := farB _ _ q4
        have c5 := farB _ _ q5
        have c6 := farB _ _ q6
        have cz : w1.cell? ⟨p, 11, none⟩ = some V4.c := farp 11 _ M4.rep.kc
        have fz : w1.frozen? ⟨p, 11, none⟩ = false := by
          rw [hgrow.frozen_far _ (by simp; omega) hv]
          exact (World.frozen?_alloc_old _ _ _ (by simp; omega)).trans fa
        clear farp farB
        refine ⟨.inr ⟨c1, c2, c3, c4, c5, c6⟩, ?_⟩
        simp only [Act.put, List.setIfInBounds_toArray, List.set_cons_zero, List.set_cons_succ]
        refine lexK_turn rfl rfl rfl ?_
        go_simp
        refine lexK_turn rfl rfl rfl ?_
        go_simp
        refine lexK_turn rfl rfl rfl ?_
        go_simp
        refine lexK_end ?_
        go_wp2_with fail
        go_meet
        case rel =>
          obtain ⟨V', r, m⟩ := M4.rep.push_c (x := (rNewCall s e)) ((Below.refl _ _).alloc (Nat.le_refl _) _).drew hown hgrow (hat.imp id (fun h => by omega)) cz
          exact ⟨V', M4.step r m⟩
      case rest =>
        obtain ⟨V5, M5⟩ := hcut
        clear M4 y0 y1 y2 hi2
        go_wp2_with fail
        go_cut [] (fun wx => ∃ V', MidB p V w { s with units := s.fresh ++ [⟨s.now, n0⟩], calls := s.calls ++ [rNewCall s e], timers := s.timers ++ [⟨e.call, 0, s.now + e.timeout⟩] } V' B #[.int .i64 e.kind, .int .i64 e.call, .int .i64 e.attempt, .int .i64 e.value, .int .i64 e.timeout, .bool e.safe, .int .u64 e.draw, .int .i64 e.to_] 39 wx)
        case first =>
          have q1 : wc.cell? ⟨p, 14, none⟩ = some (V5.t) := M5.rep.kt
          have q2 : wc.cell? ⟨p, 10, none⟩ = some (.int .i64 s.now) := M5.rep.kN
          have q3 : wc.cell? ⟨B, 1, none⟩ = some (.int .i64 e.call) := M5.cell 1 rfl
          have q4 : wc.cell? ⟨B, 4, none⟩ = some (.int .i64 e.timeout) := M5.cell 4 rfl
          have fa := M5.rep.fz 14 (by omega)
          have ra : wc.ownsRow 0 188 3 V5.t s.timers.length (s.timers.flatMap encTimer) := M5.rep.rt
          have lW : p < wc.heap.size := M5.rep.lp
          have lB : B < wc.heap.size := M5.lt
          have hv : some p ≠ V5.t.ownBlock := fun e => M5.rep.ap 3 0 (by decide) p e.symm rfl
          have hvB : some B ≠ V5.t.ownBlock := fun e => M5.no ⟨3, e.symm⟩
          have hnp : wc.heap.size ≠ p := by omega
          have hnB : wc.heap.size ≠ B := by omega
          have hS : wc.drew.cell? ⟨p, 14, none⟩ = some (V5.t) ∧ wc.drew.cell? ⟨p, 10, none⟩ = some (.int .i64 s.now) ∧ wc.drew.cell? ⟨B, 1, none⟩ = some (.int .i64 e.call) ∧ wc.drew.cell? ⟨B, 4, none⟩ = some (.int .i64 e.timeout) := ⟨by simpa using q1, by simpa using q2, by simpa using q3, by simpa using q4⟩
          refine wp_region_lexK (fun w' => w'.cell? ⟨p, 14, none⟩ = some (V5.t) ∧ w'.cell? ⟨p, 10, none⟩ = some (.int .i64 s.now) ∧ w'.cell? ⟨B, 1, none⟩ = some (.int .i64 e.call) ∧ w'.cell? ⟨B, 4, none⟩ = some (.int .i64 e.timeout)) 19 (fun i => decide (i < 15)) (by kernel_rfl) (by kernel_rfl) (by kernel_rfl) ?_
          refine lexK_read (v := .pointer (some ⟨p, 0, none⟩)) rfl rfl (fun wz hSz => by obtain ⟨s1, s2, s3, s4⟩ := hSz; go_simp) hS (fun _ _ _ h => h) ?_
          simp only [Act.put, List.setIfInBounds_toArray, List.set_cons_zero, List.set_cons_succ]
          refine lexK_read (v := .pointer (some ⟨p, 0, none⟩)) rfl rfl (fun wz hSz => by obtain ⟨s1, s2, s3, s4⟩ := hSz; go_simp) hS (fun _ _ _ h => h) ?_
          simp only [Act.put, List.setIfInBounds_toArray, List.set_cons_zero, List.set_cons_succ]
          refine lexK_read (v := .pointer (some ⟨p, 0, none⟩)) rfl rfl (fun wz hSz => by obtain ⟨s1, s2, s3, s4⟩ := hSz; go_simp) hS (fun _ _ _ h => h) ?_
          simp only [Act.put, List.setIfInBounds_toArray, List.set_cons_zero, List.set_cons_succ]
          refine lexK_read (v := .pointer (some ⟨p, 14, none⟩)) rfl rfl (fun wz hSz => by obtain ⟨s1, s2, s3, s4⟩ := hSz; go_simp) hS (fun _ _ _ h => h) ?_
          simp only [Act.put, List.setIfInBounds_toArray, List.set_cons_zero, List.set_cons_succ]
          refine lexK_read (v := V5.t) rfl rfl (fun wz hSz => by obtain ⟨s1, s2, s3, s4⟩ := hSz; go_simp) hS (fun _ _ _ h => h) ?_
          simp only [Act.put, List.setIfInBounds_toArray, List.set_cons_zero, List.set_cons_succ]
          refine lexK_read (v := .pointer (some ⟨B, 1, none⟩)) rfl rfl (fun wz hSz => by obtain ⟨s1, s2, s3, s4⟩ := hSz; go_simp) hS (fun _ _ _ h => h) ?_
          simp only [Act.put, List.setIfInBounds_toArray, List.set_cons_zero, List.set_cons_succ]
          refine lexK_read (v := .int .i64 e.call) rfl rfl (fun wz hSz => by obtain ⟨s1, s2, s3, s4⟩ := hSz; go_simp) hS (fun _ _ _ h => h) ?_
          simp only [Act.put, List.setIfInBounds_toArray, List.set_cons_zero, List.set_cons_succ]
          refine lexK_read (v := .pointer (some ⟨p, 0, none⟩)) rfl rfl (fun wz hSz => by obtain ⟨s1, s2, s3, s4⟩ := hSz; go_simp) hS (fun _ _ _ h => h) ?_
          simp only [Act.put, List.setIfInBounds_toArray, List.set_cons_zero, List.set_cons_succ]
          refine lexK_read (v := .pointer (some ⟨p, 0, none⟩)) rfl rfl (fun wz hSz => by obtain ⟨s1, s2, s3, s4⟩ := hSz; go_simp) hS (fun _ _ _ h => h) ?_
          simp only [Act.put, List.setIfInBounds_toArray, List.set_cons_zero, List.set_cons_succ]
          refine lexK_read (v := .pointer (some ⟨p, 10, none⟩)) rfl rfl (fun wz hSz => by obtain ⟨s1, s2, s3, s4⟩ := hSz; go_simp) hS (fun _ _ _ h => h) ?_
          simp only [Act.put, List.setIfInBounds_toArray, List.set_cons_zero, List.set_cons_succ]
          refine lexK_read (v := .int .i64 s.now) rfl rfl (fun wz hSz => by obtain ⟨s1, s2, s3, s4⟩ := hSz; go_simp) hS (fun _ _ _ h => h) ?_
          simp only [Act.put, List.setIfInBounds_toArray, List.set_cons_zero, List.set_cons_succ]
          refine lexK_read (v := .pointer (some ⟨B, 4, none⟩)) rfl rfl (fun wz hSz => by obtain ⟨s1, s2, s3, s4⟩ := hSz; go_simp) hS (fun _ _ _ h => h) ?_
          simp only [Act.put, List.setIfInBounds_toArray, List.set_cons_zero, List.set_cons_succ]
          refine lexK_read (v := .int .i64 e.timeout) rfl rfl (fun wz hSz => by obtain ⟨s1, s2, s3, s4⟩ := hSz; go_simp) hS (fun _ _ _ h => h) ?_
          simp only [Act.put, List.setIfInBounds_toArray, List.set_cons_zero, List.set_cons_succ]
          refine lexK_read (v := .int .i64 (s.now + e.timeout)) rfl rfl (fun wz hSz => by obtain ⟨s1, s2, s3, s4⟩ := hSz; go_simp; exact wrap_small _ (by omega) (by omega)) hS (fun _ _ _ h => h) ?_
          simp only [Act.put, List.setIfInBounds_toArray, List.set_cons_zero, List.set_cons_succ]
          refine lexK_read (v := .agg #[.int .i64 e.call, .int .i64 0, .int .i64 (s.now + e.timeout)]) rfl rfl (fun wz hSz => by obtain ⟨s1, s2, s3, s4⟩ := hSz; go_simp) hS (fun _ _ _ h => h) ?_
          simp only [Act.put, List.setIfInBounds_toArray, List.set_cons_zero, List.set_cons_succ]
          refine lexK_turn rfl rfl rfl ?_
          go_simp
          refine lexK_turn rfl rfl rfl ?_
          refine wp_append_lies _ _ _ _ (by rfl) 0 188 i3 _ 3 24 Tryz.underlying118 hi3 z0 z1 z2 rfl (by omega) V5.t s.timers.length (s.timers.flatMap encTimer) (by rfl) ((World.ownsRow.alloc ra _).drew) ⟨wc.heap.size, 0, none⟩ 1 1 (encTimer (⟨e.call, 0, s.now + e.timeout⟩ : RTimer)) (by rfl) (by rfl) (World.news_of_block (cs := (encTimer (⟨e.call, 0, s.now + e.timeout⟩ : RTimer)).toArray) (t := 188) (fr := (0, 0)) (block_one wc _)) (by simp [Value.oneCell', encTimer]) (by omega) (by simp only [maxLen]; omega) (by omega) (by omega) (wc.heap.size + 1) (by simp) ?_
          intro g1 cap1 w1 hown hgrow hat hlt
          have farp : ∀ j u, wc.cell? ⟨p, j, none⟩ = some u → w1.cell? ⟨p, j, none⟩ = some u := fun j u hu => by
            rw [hgrow.cell_far ⟨p, j, none⟩ (by simp; omega) hv]
            exact (World.cell?_alloc_lt _ _ ⟨p, j, none⟩ lW).trans hu
          have farB : ∀ j u, wc.cell? ⟨B, j, none⟩ = some u → w1.cell? ⟨B, j, none⟩ = some u := fun j u hu => by
            rw [hgrow.cell_far ⟨B, j, none⟩ (by simp; omega) hvB]
            exact (World.cell?_alloc_lt _ _ ⟨B, j, none⟩ lB).trans hu
          have c1 := farp _ _ q1
          have c2 := farp _ _ q2
          have c3 := farB _ _ q3
          have c4 := farB _ _ q4
          have cz : w1.cell? ⟨p, 14, none⟩ = some V5.t := farp 14 _ M5.rep.kt
          have fz : w1.frozen? ⟨p, 14, none⟩ = false := by
            rw [hgrow.frozen_far _ (by simp; omega) hv]
            exact (World.frozen?_alloc_old _ _ _ (by simp; omega)).trans fa
          clear farp farB
          refine ⟨.inr ⟨c1, c2, c3, c4⟩, ?_⟩
          simp only [Act.put, List.setIfInBounds_toArray, List.set_cons_zero, List.set_cons_succ]
          refine lexK_turn rfl rfl rfl ?_
          go_simp
          refine lexK_turn rfl rfl rfl ?_
          go_simp
          refine lexK_turn rfl rfl rfl ?_
          go_simp
          refine lexK_end ?_
          go_wp2_with fail
          go_meet
          case rel =>
            obtain ⟨V', r, m⟩ := M5.rep.push_t (x := (⟨e.call, 0, s.now + e.timeout⟩ : RTimer)) ((Below.refl _ _).alloc (Nat.le_refl _) _).drew hown hgrow (hat.imp id (fun h => by omega)) cz
            exact ⟨V', M5.step r m⟩
        case rest =>
          obtain ⟨V6', M6⟩ := hcut
          clear M5 z0 z1 z2 hi3
          have ec : wc.cell? ⟨B, 1, none⟩ = some (.int .i64 e.call) := M6.cell 1 rfl
          have HL := hide (launch_any p _ V6' wc M6.rep s.calls.length (rNewCall s e) (by simp) (by simp) (by have := HFA.out; simpa [findI, rNewCall] using this) (by simp; omega) (by simpa using l2) (by simpa using l3) (by show (s.timers ++ [(⟨e.call, 0, s.now + e.timeout⟩ : RTimer)]).length ≤ 95000000; rw [List.length_append]; show s.timers.length + 1 ≤ 95000000; omega) tl HTB.out r0 r1 b1 b2 (Int.le_refl _) (by show (0 : Int) ≤ 1000; omega) b5 b6 (by show 0 ≤ s.now + e.timeout; omega) H4.out)
          go_wp2_with fail
          refine HL.out.mono ?_
          rintro ev w9 ⟨rfl, V9, r9, m9⟩
          have HN := hide (show Now p V w _ w9 from ⟨V9, r9, M6.mv.trans m9⟩)
          clear r9 m9 HL
          go_wp2_with fail
          go_end0
          refine ⟨rfl, ?_⟩
          have e9 := HN.out
          unfold admitS
          rw [← HN0.out]
          exact e9
end Go.Proofs.YtlccfpbbdgpjbaaGreatDoor
