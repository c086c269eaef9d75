import Derived.Test.YtlccfpbbdgpjbaaGreatDoorZRing
import Derived.Deep.LoopGhost
import Derived.Deep.Upon
import Derived.Lib.AppendZeros
namespace Go.Proofs.YtlccfpbbdgpjbaaGreatDoor
open Go.RowKit Go.Maps

section
variable {w : World} {p : Nat} {s : PSt} {V : PV}

theorem fresh_att {N : Int} (hI : Inv N s) : mget (attL s.atts) (s.launched + 1) = none := mget_none (by
  intro x hx e'
  obtain ⟨y, hy', rfl⟩ := List.mem_map.1 hx
  have h9 := (hI.ab y hy').2.1
  dsimp only at e'
  omega)

theorem rep_launchI (HA : HedgeAll p s.cfg) {N : Int} (h : PRep w p s V) (hI : Inv N s) (hN : N ≤ 60000) {c : PCall} (hc : c ∈ s.calls) (ha : c.had < s.cfg.attempts) (hu : ∀ t ∈ s.timers, t.call = c.number → t.kind = 1) :
    Calls Tryz.prog 96 #[.pointer (some ⟨p, 0, none⟩), .pointer (some ⟨V.q c.number, 0, none⟩)] w fun e w' => ∃ v V', e = .returned v ∧ Gives w w' V V' p v (launchA s c) (launchM s c) := by
  obtain ⟨b1, b2, b3, b4, _, _⟩ := hI.cb c hc
  have h6 := hI.cfg.a1
  exact rep_launch h hc (by have := hI.aN; omega) hI.l0 (by have := hI.lN; omega) b1 (by omega) hI.n0 hI.n1 b3 b4 (fresh_att hI) (HA _ _ _ (by omega) rfl (inv_launch0 hI hc ha hu))

theorem ringM_cfg (s : PSt) (t : PTimer) : (ringM s t).cfg = s.cfg := by
  unfold ringM
  split
  · rfl
  · unfold ringM1
    split
    · rfl
    · split
      · exact (setHedgeM_same _ _).1
      · split <;> rfl

theorem rep_ringI (HA : HedgeAll p s.cfg) {N : Int} {t : PTimer} (h : PRep w p (dueM s t) V) (hI : Inv N s) (hN : N ≤ 60000) (ht : firstT s.timers = some t) :
    Calls Tryz.prog 73 #[.pointer (some ⟨p, 0, none⟩), .agg #[.int .i64 t.kind, .int .i64 t.call, .int .i64 t.due, .int .i64 t.set]] w fun e w' => ∃ v V', e = .returned v ∧ Gives w w' V V' p v (ringA (dueM s t) t) (ringM (dueM s t) t) ∧ (ringA (dueM s t) t = [] → v = .slice none 0 0) := by
  obtain ⟨c, hc, e, hf, r1, r2, r3⟩ := due_call hI ht
  have hd := inv_due hI ht
  have hm := (firstT_some ht).1
  obtain ⟨_, _, hk, k1, k2⟩ := hI.tb t hm
  have hs : 0 < (dueM s t).set := by show 0 < s.set; omega
  have hal : (dueM s t).atts.length ≤ 1000000 := by have := hd.aN; omega
  have htl : (dueM s t).timers.length ≤ 999999 := by have := hd.tN; omega
  have hul : (dueM s t).units.length ≤ 1000000 := by have := hd.ul; omega
  have hcc : c ∈ (dueM s t).calls := hc
  have eM : ringM (dueM s t) t = ringM1 (dueM s t) t c := by unfold ringM; rw [hf]
  have eA : ringA (dueM s t) t = ringA1 (dueM s t) t c := by unfold ringA; rw [hf]
  rw [eM, eA]
  have hc0 : 0 ≤ (dueM s t).cfg.cost := by have := hI.cfg.c0; show 0 ≤ s.cfg.cost; omega
  by_cases hk1 : t.kind = 1
  · rw [show ringM1 (dueM s t) t c = finishM (dueM s t) c.number from if_pos hk1, show ringA1 (dueM s t) t c = finishA (dueM s t) c.number 3 0 from if_pos hk1, hk1, e]
    refine (rep_ring_late h t.call t.due t.set hf hs hal htl).mono ?_
    rintro ex w' ⟨v, V', rfl, g⟩
    exact ⟨v, V', rfl, g, fun x => by simp [finishA] at x⟩
  · by_cases hp : (dueM s t).cfg.cost ≤ sumB (dueM s t).units
    · rw [show ringM1 (dueM s t) t c = launchM (takeM (dueM s t)) c by unfold ringM1; rw [if_neg hk1, if_pos hp], show ringA1 (dueM s t) t c = launchA (takeM (dueM s t)) c by unfold ringA1; rw [if_neg hk1, if_pos hp]]
      refine (rep_ring_paid h t.kind t.call t.due t.set hk1 hf hul hd.ub hc0 hp (fun W V' h' => rep_launchI (s := takeM (dueM s t)) HA h' (inv_take hd) hN hcc (r1 hk1).1 (r3 hk1))).mono ?_
      rintro ex w' ⟨v, V', rfl, g⟩
      exact ⟨v, V', rfl, g, fun x => by simp [launchA] at x⟩
    · by_cases hk3 : t.kind = 3
      · rw [show ringM1 (dueM s t) t c = takeM (dueM s t) by unfold ringM1; rw [if_neg hk1, if_neg hp, if_pos hk3], show ringA1 (dueM s t) t c = [] by unfold ringA1; rw [if_neg hk1, if_neg hp, if_pos hk3], hk3]
        refine (rep_ring_hedge h t.call t.due t.set hf hul hd.ub hc0 hp).mono ?_
        rintro ex w' ⟨rfl, V', g⟩
        exact ⟨_, V', rfl, g, fun _ => rfl⟩
      · have hk2 : t.kind = 2 := by omega
        rw [show ringM1 (dueM s t) t c = finishM (takeM (dueM s t)) c.number by unfold ringM1; rw [if_neg hk1, if_neg hp, if_neg hk3], show ringA1 (dueM s t) t c = finishA (takeM (dueM s t)) c.number 2 0 by unfold ringA1; rw [if_neg hk1, if_neg hp, if_neg hk3], hk2, e]
        refine (rep_ring_fail h t.call t.due t.set hf hul hd.ub hc0 hp hs hal htl).mono ?_
        rintro ex w' ⟨v, V', rfl, g⟩
        exact ⟨v, V', rfl, g, fun x => by simp [finishA] at x⟩
end
end Go.Proofs.YtlccfpbbdgpjbaaGreatDoor

namespace Go.Proofs.YtlccfpbbdgpjbaaGreatDoor
open Go.RowKit Go.Maps

section
variable {w : World} {p : Nat} {s : PSt} {V : PV}

set_option maxRecDepth 100000 in
set_option maxHeartbeats 12000000 in
theorem rep_adv_stale (h : PRep w p s V) {N : Int} (hI : Inv N s) (til : Int) (hz : s.stale ≤ 4611686018427387904) (hst : til < s.now ∨ 1099511627776 < til) :
    Calls Tryz.prog 40 #[.pointer (some ⟨p, 0, none⟩), .int .i64 til] w fun e w' => ∃ v V', e = .returned v ∧ Gives w w' V V' p v [] (staleM s) := by
  have lp := h.lp
  have cN : w.cell? ⟨p, 10, none⟩ = some (.int .i64 s.now) := h.kk _ _ rfl
  have HP := hide (rep_pass h hI.z0 hz)
  by_cases h1 : til < s.now
  · have h1' : decide (til < s.now) = true := decide_eq_true h1
    clear h hI
    go_enter Tryz.func40, Tryz.ntmps40
    go_wp2_with fail
    refine HP.out.mono ?_
    rintro e w1 ⟨rfl, h1, m1⟩
    have HG : Hid (Gives w w1 V V p (.slice none 0 0) [] (staleM s)) := Gives.of_nil h1 m1
    clear h1 m1 HP
    go_wp2_with fail
    go_ret
    exact ⟨_, V, rfl, HG.out⟩
  · have h1' : decide (til < s.now) = false := decide_eq_false h1
    have h2 : 1099511627776 < til := hst.resolve_left h1
    have h2' : decide (1099511627776 < til) = true := decide_eq_true h2
    clear h hI
    go_enter Tryz.func40, Tryz.ntmps40
    go_wp2_with fail
    refine HP.out.mono ?_
    rintro e w1 ⟨rfl, h1, m1⟩
    have HG : Hid (Gives w w1 V V p (.slice none 0 0) [] (staleM s)) := Gives.of_nil h1 m1
    clear h1 m1 HP
    go_wp2_with fail
    go_ret
    exact ⟨_, V, rfl, HG.out⟩

theorem advF_stop (til : Int) (f : Nat) (s : PSt) (h : ∀ t, firstT s.timers = some t → til < t.due) : advF til f s = (goToM s til, []) := by
  cases f with
  | zero => rfl
  | succ f =>
    unfold advF
    cases ht : firstT s.timers with
    | none => rfl
    | some t =>
      dsimp only
      rw [if_pos (h t ht)]
theorem turns_nil {N : Int} {s : PSt} (h : Inv N s) (hf : turns s ≤ 0) : s.timers = [] := by
  have h2 := credit_pos s.cfg.attempts (fun c hc => (h.cb c hc).2.1)
  apply List.eq_nil_of_length_eq_zero
  unfold turns at hf
  omega
theorem advF_fuel {N : Int} (til : Int) : ∀ (f g : Nat) (s : PSt), Inv N s → turns s ≤ f → turns s ≤ g → advF til f s = advF til g s := by
  intro f
  induction f with
  | zero =>
    intro g s h hf _
    have hn := turns_nil h hf
    rw [advF_stop til 0 s (fun t ht => by rw [hn] at ht; cases ht), advF_stop til g s (fun t ht => by rw [hn] at ht; cases ht)]
  | succ f ih =>
    intro g s h hf hg
    cases g with
    | zero =>
      have hn := turns_nil h hg
      rw [advF_stop til _ s (fun t ht => by rw [hn] at ht; cases ht), advF_stop til _ s (fun t ht => by rw [hn] at ht; cases ht)]
    | succ g =>
      cases ht : firstT s.timers with
      | none => rw [advF_stop til _ s (fun t h' => by rw [ht] at h'; cases h'), advF_stop til _ s (fun t h' => by rw [ht] at h'; cases h')]
      | some t =>
        have h4 := ring_turns h ht
        unfold advF
        rw [ht]
        dsimp only
        rw [ih g _ (inv_ring h ht) (by omega) (by omega)]
theorem advF_next {N : Int} (til : Int) {s : PSt} (hI : Inv N s) {t : PTimer} (ht : firstT s.timers = some t) (hd : ¬ til < t.due) : advF til (turns s).toNat s = ((advF til (turns (ringM (dueM s t) t)).toNat (ringM (dueM s t) t)).1, ringA (dueM s t) t ++ (advF til (turns (ringM (dueM s t) t)).toNat (ringM (dueM s t) t)).2) := by
  have h1 := ring_turns hI ht
  have h2 := (inv_ring hI ht).turns0
  obtain ⟨k, hk⟩ : ∃ k, (turns s).toNat = k + 1 := ⟨(turns s).toNat - 1, by omega⟩
  rw [hk]
  conv => lhs; unfold advF
  rw [ht]
  dsimp only
  rw [if_neg hd, advF_fuel til k (turns (ringM (dueM s t) t)).toNat _ (inv_ring hI ht) (by omega) (by omega)]
theorem ringA_len (s : PSt) (t : PTimer) : (ringA s t).length ≤ s.atts.length + 1 := by
  have hf : ∀ (s : PSt) (n o v : Int), (finishA s n o v).length ≤ s.atts.length + 1 := fun s n o v => by
    unfold finishA
    rw [List.length_cons, List.length_map, List.length_mergeSort, List.length_map]
    have := List.length_filter_le (fun a : Int × PAtt => a.2.call == n) s.atts
    omega
  unfold ringA
  split
  · simp
  · unfold ringA1
    split
    · exact hf _ _ _ _
    · split
      · simp [launchA]
      · split
        · simp
        · exact hf (takeM s) _ _ _

theorem Row.pmv {α : Type} {w w' : World} {V V' : PV} {b e size : Nat} {enc : α → List Value} {v : Value} {xs : List α} (r : Row w b e size enc v xs) (m : PMv V w V' w') (ht : ∀ k, v.ownBlock = some k → 7 ≤ V.tag k) : Row w' b e size enc v xs ∧ ∀ k, v.ownBlock = some k → 7 ≤ V'.tag k := by
  refine ⟨r.same (fun k hk => m.block k (r.lt k hk).2 (ht k hk)), fun k hk => ?_⟩
  rcases Nat.lt_or_ge (V'.tag k) 7 with h2 | h2
  · rcases m.news k h2 with h3 | h3
    · have := ht k hk
      omega
    · have := (r.lt k hk).2
      omega
  · exact h2

theorem Row.le_cap {α : Type} {w : World} {b e size n cap : Nat} {A : Option Addr} {enc : α → List Value} {xs : List α} (r : Row w b e size enc (.slice A n cap) xs) : n ≤ cap := by
  rcases r.2 with ⟨h, _⟩ | ⟨g, cap', cur, h, _, _, hc, _⟩
  · cases h
    omega
  · cases h
    exact hc
theorem acts_one (l : List RAct) : ∀ u ∈ l.flatMap encAct, u.oneCell' = true := by
  intro u hu
  obtain ⟨a, _, ha⟩ := List.mem_flatMap.1 hu
  simp only [encAct, List.mem_cons, List.not_mem_nil, or_false] at ha
  rcases ha with rfl | rfl | rfl | rfl | rfl | rfl <;> rfl

/-- A block that is not the client's stays, and stays so. -/
theorem PMv.cell {w w' : World} {V V' : PV} (m : PMv V w V' w') {k : Nat} (hk : k < w.heap.size) (ht : 7 ≤ V.tag k) (j : Nat) : w'.cell? ⟨k, j, none⟩ = w.cell? ⟨k, j, none⟩ := World.cell?_of_block (m.block k hk ht)
theorem PMv.tag7 {w w' : World} {V V' : PV} (m : PMv V w V' w') {k : Nat} (hk : k < w.heap.size) (ht : 7 ≤ V.tag k) : 7 ≤ V'.tag k := by
  rcases Nat.lt_or_ge (V'.tag k) 7 with h2 | h2
  · rcases m.news k h2 with h3 | h3 <;> omega
  · exact h2

set_option maxRecDepth 100000 in
set_option maxHeartbeats 12000000 in
theorem rep_adv_go (HA : HedgeAll p s.cfg) {N : Int} (h : PRep w p s V) (hI : Inv N s) (hN : N ≤ 60000) (til : Int) (h1 : ¬ til < s.now) (h2 : ¬ 1099511627776 < til) :
    Calls Tryz.prog 40 #[.pointer (some ⟨p, 0, none⟩), .int .i64 til] w fun e w' => ∃ v V', e = .returned v ∧ Gives w w' V V' p v (advF til (turns s).toNat s).2 (advF til (turns s).toNat s).1 := by
  have lp := h.lp
  have cN : w.cell? ⟨p, 10, none⟩ = some (.int .i64 s.now) := h.kk _ _ rfl
  have h1' : decide (til < s.now) = false := decide_eq_false h1
  have h2' : decide (1099511627776 < til) = false := decide_eq_false h2
  have H0 := hide h
  have HI := hide hI
  clear h hI
  go_enter Tryz.func40, Tryz.ntmps40
  go_wp2_with fail
  go_loopg [5] (turns s).toNat (fun gk av wr => ∃ s1 V1 acts, gk = (turns s1).toNat ∧ PRep wr p s1 V1 ∧ PMv V w V1 wr ∧ Inv N s1 ∧ (s1.cfg = s.cfg ∧ s1.now ≤ til) ∧ Row wr w.heap.size 55 6 encAct av acts ∧ (∀ k, av.ownBlock = some k → 7 ≤ V1.tag k) ∧ acts.length + (turns s1).toNat * 1200000 ≤ (turns s).toNat * 1200000 ∧ Hid (advF til (turns s).toNat s = ((advF til (turns s1).toNat s1).1, acts ++ (advF til (turns s1).toNat s1).2)))
  case atStart => exact ⟨s, V, [], rfl, H0.out, PMv.refl _ _, HI.out, ⟨rfl, by omega⟩, Row.nil _ _ _ _ _, (fun k hk => by simp [Value.ownBlock] at hk), by simp, by show _ = _; simp⟩
  case round =>
    obtain ⟨s1, V1, acts, hgk, R, M, I1, ⟨hcfg, hn⟩, hrow, htag, hlen, HE⟩ := hrel
    obtain ⟨wo, hwo⟩ : ∃ wo : World, wo = wr := ⟨_, rfl⟩
    rw [← hwo] at R M hrow ⊢
    clear hwo
    obtain ⟨A5, cap5, rfl, _, _, _⟩ := hrow.form
    have hle5 := hrow.le_cap
    have Hcfg := hide hcfg
    clear hcfg
    obtain ⟨i0, hi0, z0, z1, z2⟩ := info_parts Tryz.infoActP
    cases ht : firstT s1.timers with
    | none =>
      have hnil : s1.timers = [] := firstT_none.1 ht
      have hx : V1.xs = [] := by
        have := R.xlen
        rw [hnil] at this
        exact List.eq_nil_of_length_eq_zero this
      have HF1 := hide (first_none p 18 V1.t wo (R.kk _ _ rfl) (by have := R.rt; rw [hx] at this; exact this))
      have HES : Hid ((advF til (turns s).toNat s).1 = goToM s1 til ∧ (advF til (turns s).toNat s).2 = acts) := by
        show _ ∧ _
        rw [HE.out, advF_stop til _ s1 (fun t h9 => by rw [ht] at h9; cases h9)]
        simp
      have HGT := hide (fun W (hb : Below wo.heap.size wo W) => rep_goTo (R.on hb) til (by have := I1.ul; omega) I1.ub (by have := I1.n0; omega) (by omega))
      have HMM := hide (fun W (hb : Below wo.heap.size wo W) => M.trans (PMv.of_below hb))
      have HRO := hide (fun W (hb : Below wo.heap.size wo W) => hrow.below hb)
      have HTG := hide htag
      have lpo := R.lp
      clear R M I1 hrow htag
      go_wp2_with (first | (go_at_call 70; refine HF1.out.mono ?_; rintro e w1 ⟨rfl, hb1⟩))
      have hbA : Below wo.heap.size wo (w1.alloc (.cells #[.int .i64 0, .int .i64 0, .int .i64 0, .int .i64 0] 114)) := hb1.alloc hb1.size _
      refine (HGT.out _ hbA).mono ?_
      rintro e w2 ⟨rfl, V2, h2, m2, _⟩
      obtain ⟨ro2, tg2⟩ := (HRO.out _ hbA).pmv m2 HTG.out
      have HG : Hid (Gives w w2 V V2 p (.slice A5 acts.length cap5) acts (goToM s1 til)) := ⟨ro2, h2, (HMM.out _ hbA).trans m2, tg2⟩
      clear h2 m2 ro2 tg2 HGT HRO HMM
      go_wp2_with fail
      go_ret
      exact ⟨_, V2, rfl, by rw [HES.out.1, HES.out.2]; exact HG.out⟩
    | some t =>
      have hm := (firstT_some ht).1
      obtain ⟨_, td1, _, k1, k2⟩ := I1.tb t hm
      have hs1 : 0 < s1.set := by omega
      obtain ⟨g, cap, he, hgp, htg⟩ := R.tform hs1
      have hx0 : 0 < V1.xs.length := by
        rw [R.xlen]
        exact List.length_pos_of_mem hm
      have htop : pt V1.xs 0 = t := by
        have := top_first R.xp R.xh I1.ts hx0
        rw [ht] at this
        exact (Option.some.inj this).symm
      have HF1 := hide (first_some p 18 g cap V1.xs wo hx0 (by rw [← he]; exact R.kk _ _ rfl) (by rw [← he]; exact R.rt))
      rw [htop] at HF1
      by_cases hdue : til < t.due
      · have hdd : decide (til < t.due) = true := decide_eq_true hdue
        have HES : Hid ((advF til (turns s).toNat s).1 = goToM s1 til ∧ (advF til (turns s).toNat s).2 = acts) := by
          show _ ∧ _
          rw [HE.out, advF_stop til _ s1 (fun u h9 => by rw [ht] at h9; cases h9; exact hdue)]
          simp
        have HGT := hide (fun W (hb : Below wo.heap.size wo W) => rep_goTo (R.on hb) til (by have := I1.ul; omega) I1.ub (by have := I1.n0; omega) (by omega))
        have HMM := hide (fun W (hb : Below wo.heap.size wo W) => M.trans (PMv.of_below hb))
        have HRO := hide (fun W (hb : Below wo.heap.size wo W) => hrow.below hb)
        have HTG := hide htag
        have lpo := R.lp
        clear R M I1 hrow htag
        go_wp2_with (first | (go_at_call 70; refine HF1.out.mono ?_; rintro e w1 ⟨rfl, hb1⟩))
        have hbA : Below wo.heap.size wo (w1.alloc (.cells #[.int .i64 t.kind, .int .i64 t.call, .int .i64 t.due, .int .i64 t.set] 114)) := hb1.alloc hb1.size _
        refine (HGT.out _ hbA).mono ?_
        rintro e w2 ⟨rfl, V2, h2, m2, _⟩
        obtain ⟨ro2, tg2⟩ := (HRO.out _ hbA).pmv m2 HTG.out
        have HG : Hid (Gives w w2 V V2 p (.slice A5 acts.length cap5) acts (goToM s1 til)) := ⟨ro2, h2, (HMM.out _ hbA).trans m2, tg2⟩
        clear h2 m2 ro2 tg2 HGT HRO HMM
        go_wp2_with fail
        go_ret
        exact ⟨_, V2, rfl, by rw [HES.out.1, HES.out.2]; exact HG.out⟩
      · have HEN : Hid (advF til (turns s).toNat s = ((advF til (turns (ringM (dueM s1 t) t)).toNat (ringM (dueM s1 t) t)).1, (acts ++ ringA (dueM s1 t) t) ++ (advF til (turns (ringM (dueM s1 t) t)).toNat (ringM (dueM s1 t) t)).2)) := by
          show _ = _
          rw [HE.out, advF_next til I1 ht hdue, List.append_assoc]
        have hdue' : decide (til < t.due) = false := decide_eq_false hdue
        have lpo := R.lp
        have HR := hide R
        have HM := hide M
        have H1I := hide I1
        have HRO := hide hrow
        have HTG := hide htag
        clear R M I1 hrow htag
        go_wp2_with (first | (go_at_call 70; refine HF1.out.mono ?_; rintro e w1 ⟨rfl, hb1⟩))
        have hbA : Below w1.heap.size w1 (w1.alloc (.cells #[.int .i64 t.kind, .int .i64 t.call, .int .i64 t.due, .int .i64 t.set] 114)) := (Below.refl _ _).alloc (Nat.le_refl _) _
        have a0 : (w1.alloc (.cells #[.int .i64 t.kind, .int .i64 t.call, .int .i64 t.due, .int .i64 t.set] 114)).cell? ⟨w1.heap.size, 0, none⟩ = some (.int .i64 t.kind) := by simp
        have a1 : (w1.alloc (.cells #[.int .i64 t.kind, .int .i64 t.call, .int .i64 t.due, .int .i64 t.set] 114)).cell? ⟨w1.heap.size, 1, none⟩ = some (.int .i64 t.call) := by simp
        have a2 : (w1.alloc (.cells #[.int .i64 t.kind, .int .i64 t.call, .int .i64 t.due, .int .i64 t.set] 114)).cell? ⟨w1.heap.size, 2, none⟩ = some (.int .i64 t.due) := by simp
        have a3 : (w1.alloc (.cells #[.int .i64 t.kind, .int .i64 t.call, .int .i64 t.due, .int .i64 t.set] 114)).cell? ⟨w1.heap.size, 3, none⟩ = some (.int .i64 t.set) := by simp
        generalize w1.alloc (.cells #[.int .i64 t.kind, .int .i64 t.call, .int .i64 t.due, .int .i64 t.set] 114) = W1 at hbA a0 a1 a2 a3 ⊢
        have hB1 : Below wo.heap.size wo W1 := hb1.trans (hbA.mono hb1.size)
        have R1 := HR.out.on hB1
        have hb7 : 7 ≤ V1.tag w1.heap.size := by
          rcases Nat.lt_or_ge (V1.tag w1.heap.size) 7 with h9 | h9
          · have := HR.out.tl _ h9
            have := hb1.size
            omega
          · exact h9
        have hbl : w1.heap.size < W1.heap.size := World.block_lt_of_cell? W1 _ a0
        have ro1 := (HRO.out).below hB1
        refine (rep_pop R1 (by have := H1I.out.tN; omega) hs1 (List.length_pos_of_mem hm)).mono ?_
        rintro e w2 ⟨⟨vp, rfl⟩, hpop⟩
        rw [htop] at hpop
        obtain ⟨V2, h2r, m2, _⟩ := hpop _ (pop_perm H1I.out.ts hm)
        have R2 : PRep w2 p (popM s1 t) V2 := h2r
        obtain ⟨ro2, tg2⟩ := ro1.pmv m2 HTG.out
        have b7 := m2.tag7 hbl hb7
        have hbl2 : w1.heap.size < w2.heap.size := Nat.lt_of_lt_of_le hbl m2.size
        have c0 := (m2.cell hbl hb7 0).trans a0
        have c1 := (m2.cell hbl hb7 1).trans a1
        have c2 := (m2.cell hbl hb7 2).trans a2
        have c3 := (m2.cell hbl hb7 3).trans a3
        have M2 := hide ((HM.out.trans (PMv.of_below hB1)).trans m2)
        have htd0 : 0 ≤ t.due := by have := H1I.out.n0; have := (H1I.out.tb t hm).1; omega
        have HGT := hide (rep_goTo R2 t.due (by have := H1I.out.ul; show s1.units.length ≤ _; omega) H1I.out.ub htd0 td1)
        have HRO2 := hide ro2
        have HTG2 := hide tg2
        clear h2r R2 hpop R1 ro1 hB1 hbA hb1 a0 a1 a2 a3 HRO HTG m2 ro2 tg2
        go_wp2_with fail
        refine HGT.out.mono ?_
        rintro e w3 ⟨rfl, V3, h3r, m3, _⟩
        have R3 : PRep w3 p (dueM s1 t) V3 := h3r
        obtain ⟨ro3, tg3⟩ := HRO2.out.pmv m3 HTG2.out
        have d0 := (m3.cell hbl2 b7 0).trans c0
        have d1 := (m3.cell hbl2 b7 1).trans c1
        have d2 := (m3.cell hbl2 b7 2).trans c2
        have d3 := (m3.cell hbl2 b7 3).trans c3
        have hbl3 : w1.heap.size < w3.heap.size := Nat.lt_of_lt_of_le hbl2 m3.size
        have M3 := hide (M2.out.trans m3)
        have HRG := hide (rep_ringI (by rw [Hcfg.out]; exact HA) R3 H1I.out hN ht)
        have HRO3 := hide ro3
        have HTG3 := hide tg3
        clear h3r R3 m3 ro3 tg3 HRO2 HTG2 HGT M2 c0 c1 c2 c3
        have hnow2 : (ringM (dueM s1 t) t).now ≤ til := by
          have : (ringM (dueM s1 t) t).now = t.due := by
            obtain ⟨c, hc, e, hf', _⟩ := due_call H1I.out ht
            unfold ringM
            rw [hf']
            dsimp only
            unfold ringM1
            split
            · rfl
            · split
              · exact (setHedgeM_same _ _).2.1
              · split <;> rfl
          omega
        have hturn := ring_turns H1I.out ht
        have hturn0 := (inv_ring H1I.out ht).turns0
        have hrl := ringA_len (dueM s1 t) t
        have haN : ((dueM s1 t).atts.length : Int) ≤ 13 * N := H1I.out.aN
        have hTT : turns s ≤ 1200000 := by
          have h9 := HI.out.tN
          have h8 := HI.out.p1
          have h7 := HI.out.l0
          unfold turns
          omega
        have Hnow := hide hnow2
        have HL2 := hide (show acts.length + (ringA (dueM s1 t) t).length + (turns (ringM (dueM s1 t) t)).toNat * 1200000 ≤ (turns s).toNat * 1200000 by omega)
        have HL3 := hide (show (acts.length + (ringA (dueM s1 t) t).length) * 48 ≤ 140737488355328 by omega)
        have Htm := hide (show (turns (ringM (dueM s1 t) t)).toNat < gk by omega)
        clear hturn hturn0 hTT hrl haN
        clear hnow2
        by_cases hne : ringA (dueM s1 t) t = []
        · rw [hne] at HEN
          have Hne := hide hne
          clear hne
          go_wp2_with fail
          refine HRG.out.mono ?_
          rintro e w4 ⟨v, V4, rfl, ⟨hr4, h4, m4, t4⟩, hnil⟩
          obtain ⟨ro4, tg4⟩ := HRO3.out.pmv m4 HTG3.out
          have HRO4 := hide ro4
          have HTG4 := hide tg4
          have H4 := hide h4
          have M4 := hide (M3.out.trans m4)
          have hsz4 := m4.size
          obtain rfl := hnil Hne.out
          clear hr4 hnil
          clear ro4 tg4 h4 m4 t4
          have HAN := hide (run_append_nothing w4 52 52 52 55 i0 Tryz.underlying52 hi0 A5 acts.length cap5 hle5 (.slice none 0 0) (Src.ofNil w4 Tryz.underlying52 0))
          go_wp2_with (first
            | (at_builtin; refine Lib.wpList_append_run w4 (by rfl) _ _ 52 52 (by rfl) (.slice A5 acts.length cap5) (.slice none 0 0) (by rfl) (by rfl) _ _ HAN.out ?_))
          go_roundg (turns (ringM (dueM s1 t) t)).toNat
          case measure => exact Htm.out
          case rel => exact ⟨ringM (dueM s1 t) t, V4, acts, rfl, H4.out, M4.out, inv_ring H1I.out ht, ⟨(ringM_cfg _ _).trans Hcfg.out, Hnow.out⟩, HRO4.out, HTG4.out, Nat.le_trans (Nat.add_le_add_right (Nat.le_add_right _ _) _) HL2.out, by show _ = _; rw [HEN.out, List.append_nil]⟩
        · have hm0 : 0 < (ringA (dueM s1 t) t).length := List.length_pos_iff.2 hne
          have Hne := hide hne
          clear hne
          generalize hnew : ringA (dueM s1 t) t = new at HRG HEN HL2 HL3 hm0
          clear hnew
          go_wp2_with fail
          refine HRG.out.mono ?_
          rintro e w4 ⟨v, V4, rfl, ⟨hr4, h4, m4, t4⟩, hnil⟩
          obtain ⟨ro4, tg4⟩ := HRO3.out.pmv m4 HTG3.out
          have HRO4 := hide ro4
          have HTG4 := hide tg4
          have H4 := hide h4
          have M4 := hide (M3.out.trans m4)
          have hsz4 := m4.size
          obtain ⟨g4, cap4, rfl, _⟩ := hr4.at hm0
          obtain ⟨A4, cap4', hv4, _, _, hcl⟩ := hr4.form
          have hcells : ∀ j u, (new.flatMap encAct)[j]? = some u → w4.cell? ((⟨g4, 0, none⟩ : Addr).add j) = some u := fun j u hu => by
            have h9 := ((hcl g4 (by cases hv4; rfl)).2.2.2 j u hu).1
            have h8 : (⟨g4, 0, none⟩ : Addr).add j = ⟨g4, j, none⟩ := by cases j <;> simp [Addr.add]
            rw [h8]
            exact h9
          have HCE := hide hcells
          have HR4 := hide hr4
          clear hr4 hnil hcl hv4 hcells
          clear ro4 tg4 h4 m4 t4
          go_wp2_with (first
            | (at_builtin; refine wpList_append_lies _ (by rfl) _ _ _ (by rfl) w.heap.size 55 i0 _ 6 48 Tryz.underlying52 hi0 z0 z1 z2 rfl (by omega) (.slice A5 acts.length cap5) acts.length (acts.flatMap encAct) (by rfl) HRO4.out ⟨g4, 0, none⟩ new.length cap4 (new.flatMap encAct) (by rfl) (flat_len encAct 6 encAct_len new) HCE.out (acts_one new) hm0 (by have := HL3.out; simp only [maxLen]; omega) HL3.out (by have := M4.out.size; omega) w4.heap.size rfl ?_; intro g5 cap6 w5 hown hgrow hat hlt5))
          have hu5 : ∀ k, (Value.slice A5 acts.length cap5).ownBlock = some k → w.heap.size ≤ k := fun k hk => (HRO4.out.lt k hk).1
          have hne5 : ∀ k, V4.tag k < 7 → some k ≠ (Value.slice A5 acts.length cap5).ownBlock := fun k hk e => by
            have := HTG4.out k e.symm
            omega
          have R5 := H4.out.keep hgrow.size (fun k hk => hgrow.block k (H4.out.tl k hk) (hne5 k hk))
          have M5 : PMv V w V4 w5 := ⟨hgrow.os.trans M4.out.os, hgrow.tape.trans M4.out.tape, hgrow.output.trans M4.out.output, Nat.le_trans M4.out.size hgrow.size, fun k hk h7 => (hgrow.block k (Nat.lt_of_lt_of_le hk M4.out.size) (fun e => by
            have := hu5 k e.symm
            omega)).trans (M4.out.block k hk h7), M4.out.news⟩
          have ro5 : Row w5 w.heap.size 55 6 encAct (.slice (some ⟨g5, 0, none⟩) (acts.length + new.length) cap6) (acts ++ new) := by
            unfold Row
            rw [List.flatMap_append, List.length_append]
            exact hown
          have tg5 : ∀ k, (Value.slice (some ⟨g5, 0, none⟩) (acts.length + new.length) cap6).ownBlock = some k → 7 ≤ V4.tag k := fun k hk => by
            have e5 : g5 = k := by simpa [Value.ownBlock] using hk
            subst e5
            rcases hat with h9 | h9
            · exact HTG4.out _ h9
            · rcases Nat.lt_or_ge (V4.tag g5) 7 with h8 | h8
              · have := H4.out.tl _ h8
                omega
              · exact h8
          go_roundg (turns (ringM (dueM s1 t) t)).toNat
          case measure => exact Htm.out
          case rel => exact ⟨ringM (dueM s1 t) t, V4, acts ++ new, rfl, R5, M5, inv_ring H1I.out ht, ⟨(ringM_cfg _ _).trans Hcfg.out, Hnow.out⟩, ro5, tg5, by rw [List.length_append]; exact HL2.out, by show _ = _; rw [HEN.out]⟩
end
end Go.Proofs.YtlccfpbbdgpjbaaGreatDoor
