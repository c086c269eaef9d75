import Derived.Test.YtlccfpbbdgpjbaaGreatDoorPRep
namespace Go.Proofs.YtlccfpbbdgpjbaaGreatDoor
open Go.RowKit Go.Maps

section
variable {w : World} {p : Nat} {s : PSt} {V : PV}

theorem PRep.cellP (h : PRep w p s V) (j : Nat) (v : Value) (hv : (cellsP s V)[j]? = some v) : w.cell? ⟨p, j, none⟩ = some v := h.kk j v hv
theorem PRep.une (h : PRep w p s V) : V.u.ownBlock ≠ some p := fun e => by have := h.tu p e; rw [h.tp] at this; omega
theorem PRep.tne (h : PRep w p s V) : V.t.ownBlock ≠ some p := fun e => by have := h.tt p e; rw [h.tp] at this; omega
theorem PRep.mne (h : PRep w p s V) : V.m.ownBlock ≠ some p := fun e => by have := h.tm p e; rw [h.tp] at this; omega
theorem PRep.xlen (h : PRep w p s V) : V.xs.length = s.timers.length := h.xp.length_eq
/-- The timers' row, as it must look once one has been set. -/
theorem PRep.tform (h : PRep w p s V) (hs : 0 < s.set) : ∃ g cap, V.t = .slice (some ⟨g, 0, none⟩) V.xs.length cap ∧ g ≠ p ∧ V.tag g = 4 := by
  obtain ⟨g, hg⟩ := h.tg hs
  obtain ⟨A, cap, e, _, _, h2⟩ := h.rt.form
  rw [e] at hg
  cases A with
  | none => simp [Value.ownBlock] at hg
  | some a =>
    rcases h.rt.2 with ⟨e', _⟩ | ⟨g', cap', cur, e', _⟩
    · rw [e] at e'; cases e'
    · rw [e] at e'
      cases e'
      refine ⟨g', cap, e, fun e'' => h.tne (by rw [e, e'']; rfl), h.tt g' (by rw [e]; rfl)⟩

theorem rep_setTimer (h : PRep w p s V) (kind call due : Int) (hl : s.timers.length ≤ 999999) (h0 : 0 ≤ s.set) (h1 : s.set ≤ 4611686018427387904) :
    Calls Tryz.prog 95 #[.pointer (some ⟨p, 0, none⟩), .int .i64 kind, .int .i64 call, .int .i64 due] w fun e w' =>
      e = .returned (.tuple #[]) ∧ ∃ V', PRep w' p { s with set := s.set + 1, timers := s.timers ++ [⟨kind, call, due, s.set + 1⟩] } V' ∧ PMv V w V' w' ∧ V'.q = V.q := by
  refine (setTimer_any p kind call due s.set V.t V.xs w (by rw [h.xlen]; exact hl) h.xh h0 h1 (h.kk _ _ rfl) (h.fz _ (by omega)) (h.kk _ _ rfl) (h.fz _ (by omega)) h.rt h.tne).mono ?_
  rintro e w' ⟨rfl, cS, v', ys, hP, hH, hc, hr, hv, hF⟩
  refine ⟨rfl, h.set_t (fun j hj => hj) hF cS hc hr (hP.trans (h.xp.append_right _)) hH hv (fun _ => ?_)⟩
  have hlen : 0 < ys.length := by rw [hP.length_eq]; simp
  obtain ⟨g, cap, rfl, hg⟩ := hr.at hlen
  exact ⟨g, hg⟩

theorem rep_pass (h : PRep w p s V) (h0 : 0 ≤ s.stale) (h1 : s.stale ≤ 4611686018427387904) :
    Calls Tryz.prog 41 #[.pointer (some ⟨p, 0, none⟩)] w fun e w' => e = .returned (.slice none 0 0) ∧ PRep w' p { s with stale := s.stale + 1 } V ∧ PMv V w V w' := by
  refine (pass_any p s.stale w h0 h1 (h.kk _ _ rfl) (h.fz _ (by omega))).mono ?_
  rintro e w' ⟨rfl, hc, hF⟩
  exact ⟨rfl, h.set_cell hF hc rfl rfl rfl rfl rfl rfl id⟩

theorem rep_goTo (h : PRep w p s V) (time : Int) (hl : s.units.length ≤ 1000000) (hk : OkB s.units) (hn0 : 0 ≤ time) (hn1 : time ≤ 1099511627776) :
    Calls Tryz.prog 72 #[.pointer (some ⟨p, 0, none⟩), .int .i64 time] w fun e w' =>
      e = .returned (.tuple #[]) ∧ ∃ V', PRep w' p { s with now := time, units := s.units.dropWhile (oldB time s.cfg.window) } V' ∧ PMv V w V' w' ∧ V'.q = V.q := by
  refine (goTo_any p time s.cfg.window s.now V.u s.units w hl hk hn0 hn1 (h.kk _ _ rfl) (h.fz _ (by omega)) (h.kk _ _ rfl) (h.kk _ _ rfl) (h.fz _ (by omega)) h.ru h.une).mono ?_
  rintro e w' ⟨rfl, cN, v', hc, hr, hv, hF⟩
  exact ⟨rfl, h.set_u (fun j hj => hj) hF cN hc hr (.inl hv)⟩

theorem rep_bring (h : PRep w p s V) (hl : s.units.length ≤ 999999) (hk : OkB s.units) (hd0 : 0 ≤ s.cfg.deposit) (hd1 : s.cfg.deposit ≤ 1000) (hm0 : 0 ≤ s.cfg.cap) (hm1 : s.cfg.cap ≤ 1000) :
    Calls Tryz.prog 94 #[.pointer (some ⟨p, 11, none⟩), .int .i64 s.now] w fun e w' =>
      e = .returned (.tuple #[]) ∧ ∃ V', PRep w' p { s with units := if 0 < bringN s.cfg.deposit s.cfg.cap s.units then s.units ++ [⟨s.now, bringN s.cfg.deposit s.cfg.cap s.units⟩] else s.units } V' ∧ PMv V w V' w' ∧ V'.q = V.q := by
  refine (bringB_any p 11 s.now s.cfg.deposit s.cfg.cap V.u s.units w hl hk hd0 hd1 hm0 hm1 (h.kk _ _ rfl) (h.kk _ _ rfl) (h.kk _ _ rfl) (h.fz _ (by omega)) h.ru h.une).mono ?_
  rintro e w' ⟨rfl, v', hc, hr, hv, hF⟩
  exact ⟨rfl, h.set_u (fun j hj h' => hj (by simp at h' ⊢; omega)) hF ((hF.cell 10 (by simp)).trans (h.kk _ _ rfl)) hc hr hv⟩

theorem rep_take (h : PRep w p s V) (hl : s.units.length ≤ 1000000) (hk : OkB s.units) (hc0 : 0 ≤ s.cfg.cost) :
    Calls Tryz.prog 103 #[.pointer (some ⟨p, 11, none⟩), .int .i64 s.cfg.cost] w fun e w' =>
      e = .returned (.bool (decide (s.cfg.cost ≤ sumB s.units))) ∧ ∃ V', PRep w' p { s with units := if s.cfg.cost ≤ sumB s.units then takeB s.units s.cfg.cost else s.units } V' ∧ PMv V w V' w' ∧ V'.q = V.q := by
  refine (takeBudget_any p 11 s.cfg.cost V.u s.units w hl hk hc0 (h.kk _ _ rfl) (h.fz _ (by omega)) h.ru h.une).mono ?_
  rintro e w' ⟨rfl, v', hc, hr, hv, hF⟩
  exact ⟨rfl, h.set_u (fun j hj h' => hj (by simp at h' ⊢; omega)) hF ((hF.cell 10 (by simp)).trans (h.kk _ _ rfl)) hc hr (.inl hv)⟩

theorem rep_add (h : PRep w p s V) (t : Int) (hl : s.times.length ≤ 32) :
    Calls Tryz.prog 66 #[.pointer (some ⟨p, 20, none⟩), .int .i64 t] w fun e w' => e = .returned (.tuple #[]) ∧ ∃ V', PRep w' p { s with times := addT s.times t } V' ∧ PMv V w V' w' ∧ V'.q = V.q := by
  refine (addT_any p 20 t V.m s.times w hl (h.kk _ _ rfl) (h.fz _ (by omega)) h.rm h.mne).mono ?_
  rintro e w' ⟨rfl, v', hc, hr, hv, hF⟩
  exact ⟨rfl, h.set_m hF hc hr hv⟩

/-- dropTimers, dropHedge: the timers' row stays where it is. -/
theorem PRep.set_t' (h : PRep w p s V) {w' : World} {g cap : Nat} (he : V.t = .slice (some ⟨g, 0, none⟩) V.xs.length cap) {ys ts : List PTimer} (hP : ys.Perm ts) (hH : IsHeap ys) (hc : w'.cell? ⟨p, 18, none⟩ = some (.slice (some ⟨g, 0, none⟩) ys.length cap)) (hr : Row w' 0 114 4 encPT (.slice (some ⟨g, 0, none⟩) ys.length cap) ys) (hF : Fr p [18] [g] w w') :
    ∃ V', PRep w' p { s with timers := ts } V' ∧ PMv V w V' w' ∧ V'.q = V.q := by
  have hF' : Fr p [18] V.t.ownBlock.toList w w' := by rw [he]; exact hF
  exact h.set_t (n := s.set) (fun j hj h' => hj (by simp at h' ⊢; omega)) hF' ((hF.cell 19 (by simp)).trans (h.kk _ _ rfl)) hc hr hP hH (.inl (by rw [he]; rfl)) (fun _ => ⟨g, rfl⟩)

set_option maxRecDepth 100000 in
set_option maxHeartbeats 4000000 in
theorem dropHedge_any (p : Nat) (call : Int) (g cap : Nat) (xs : List PTimer) (w : World) (hl : xs.length ≤ 1000000) (hgp : g ≠ p) (hc : w.cell? ⟨p, 18, none⟩ = some (.slice (some ⟨g, 0, none⟩) xs.length cap)) (hz : w.frozen? ⟨p, 18, none⟩ = false) (hr : Row w 0 114 4 encPT (.slice (some ⟨g, 0, none⟩) xs.length cap) xs) :
    Calls Tryz.prog 99 #[.pointer (some ⟨p, 0, none⟩), .int .i64 call] w fun e w' =>
      e = .returned (.tuple #[]) ∧ ∃ ys, ys.Perm (xs.filter (staysH call)) ∧ IsHeap ys ∧ w'.cell? ⟨p, 18, none⟩ = some (.slice (some ⟨g, 0, none⟩) ys.length cap) ∧ Row w' 0 114 4 encPT (.slice (some ⟨g, 0, none⟩) ys.length cap) ys ∧ Fr p [18] [g] w w' := by
  have lp : p < w.heap.size := World.block_lt_of_cell? w _ hc
  have lg : g < w.heap.size := (hr.lt g rfl).2
  have hB : Below w.heap.size w (w.alloc (.cells #[.int .i64 call] 3)) := (Below.refl _ _).alloc (Nat.le_refl _) _
  have HD := hide (dropHH_any p 18 w.heap.size call g cap xs (w.alloc (.cells #[.int .i64 call] 3)) hl hgp (by omega) (by simp) ((hB.cell lp).trans hc) ((hB.frozen lp).trans hz) (hr.below hB))
  have HF := hide (Fr.of_below (J := [18]) (R := [g]) lp hB)
  clear hr hc hz hB
  go_enter Tryz.func99, Tryz.ntmps99
  go_wp2_with fail
  refine HD.out.mono ?_
  rintro e w1 ⟨rfl, ys, hP, hH, hc1, hr1, hF1⟩
  go_wp2_with fail
  go_end0
  exact ⟨rfl, ys, hP, hH, hc1, hr1, HF.out.trans hF1 (fun _ h => ⟨h, h⟩) (fun r h => .inl h)⟩

theorem rep_dropHedge (h : PRep w p s V) (call : Int) (hs : 0 < s.set) (hl : s.timers.length ≤ 999999) :
    Calls Tryz.prog 99 #[.pointer (some ⟨p, 0, none⟩), .int .i64 call] w fun e w' =>
      e = .returned (.tuple #[]) ∧ ∃ V', PRep w' p { s with timers := s.timers.filter (staysH call) } V' ∧ PMv V w V' w' ∧ V'.q = V.q := by
  obtain ⟨g, cap, he, hgp, htg⟩ := h.tform hs
  have hl' : V.xs.length ≤ 1000000 := by rw [h.xlen]; omega
  refine (dropHedge_any p call g cap V.xs w hl' hgp (by rw [← he]; exact h.kk _ _ rfl) (h.fz _ (by omega)) (by rw [← he]; exact h.rt)).mono ?_
  rintro e w' ⟨rfl, ys, hP, hH, hc, hr, hF⟩
  exact ⟨rfl, h.set_t' he (hP.trans (h.xp.filter _)) hH hc hr hF⟩

theorem rep_pop (h : PRep w p s V) (hl : s.timers.length ≤ 999999) (hs : 0 < s.set) (h0 : 0 < s.timers.length) :
    Calls Tryz.prog 71 #[.pointer (some ⟨p, 18, none⟩)] w fun e w' =>
      (∃ v, e = .returned v) ∧ ∀ ts, (pt V.xs 0 :: ts).Perm s.timers → ∃ V', PRep w' p { s with timers := ts } V' ∧ PMv V w V' w' ∧ V'.q = V.q := by
  obtain ⟨g, cap, he, hgp, htg⟩ := h.tform hs
  have hl' : V.xs.length ≤ 1000000 := by rw [h.xlen]; omega
  refine (pop_any p 18 g cap V.xs w (by rw [h.xlen]; exact h0) hl' h.xh hgp (by rw [← he]; exact h.kk _ _ rfl) (h.fz _ (by omega)) (by rw [← he]; exact h.rt)).mono ?_
  rintro e w' ⟨hv, ys, hP, hH, hc, hr, hF⟩
  exact ⟨hv, fun ts hts => h.set_t' he ((List.perm_cons _).1 ((hP.trans h.xp).trans hts.symm)) hH hc hr hF⟩

/-- A call is over. -/
def finishM (s : PSt) (number : Int) : PSt := { s with calls := s.calls.filter (fun c => c.number != number), atts := s.atts.filter (fun a => !(a.2.call == number)), timers := s.timers.filter (stays number) }
def finishA (s : PSt) (number outcome value : Int) : List RAct := ⟨3, number, 0, outcome, value, 0⟩ :: ((s.atts.filter (fun a => a.2.call == number)).map (·.1)).mergeSort.map (fun k => ⟨2, number, k, 0, 0, 0⟩)

theorem callL_filter (l : List PCall) (q : Int → Nat) (n : Int) : (callL l q).filter (fun p => p.1 != n) = callL (l.filter (fun c => c.number != n)) q := by
  unfold callL
  rw [List.filter_map]
  rfl

theorem rep_finish (h : PRep w p s V) {c : PCall} (hc : c ∈ s.calls) (outcome value : Int) (hs : 0 < s.set) (hl : s.atts.length ≤ 1000000) (hlt : s.timers.length ≤ 999999) :
    Calls Tryz.prog 67 #[.pointer (some ⟨p, 0, none⟩), .pointer (some ⟨V.q c.number, 0, none⟩), .int .i64 outcome, .int .i64 value] w fun e w' => ∃ v V', e = .returned v ∧ Row w' w.heap.size 55 6 encAct v (finishA s c.number outcome value) ∧
      PRep w' p (finishM s c.number) V' ∧ PMv V w V' w' ∧ (∀ k, v.ownBlock = some k → 7 ≤ V'.tag k) := by
  obtain ⟨g, cap, he, hgp, htg⟩ := h.tform hs
  have hl' : V.xs.length ≤ 1000000 := by rw [h.xlen]; omega
  have hwf : (Lit.int .i64 c.number).wf = true := h.mC.wf (c.number, .pointer (some ⟨V.q c.number, 0, none⟩)) (List.mem_map.2 ⟨c, hc, rfl⟩)
  have hbb : V.ba ≠ V.bc := fun e => by have := h.ta; rw [e, h.tc] at this; omega
  refine (finish_T p (V.q c.number) V.bc V.ba c.number outcome value (callL s.calls V.q) s.atts g cap V.xs w hl hl' hgp hwf (h.kk _ _ rfl) (h.kk _ _ rfl) (h.cc c hc _ _ rfl).1 h.mC h.mA hbb (by rw [← he]; exact h.kk _ _ rfl) (h.fz _ (by omega)) (by rw [← he]; exact h.rt)).mono ?_
  rintro e w' ⟨v, ys, rfl, hrow, mA', mC', hP, hH, hc', hr', hF⟩
  rw [callL_filter] at mC'
  have hb : ∀ {k : Nat}, V.tag k < 7 → V.tag k ≠ 0 → V.tag k ≠ 1 → V.tag k ≠ 2 → V.tag k ≠ 4 → w'.heap[k]? = w.heap[k]? := fun {k} h1 h2 h3 h4 h5 => hF.block k (h.tl k h1) (fun e => h2 (by rw [e]; exact h.tp)) (fun hr => by
    simp only [List.mem_cons, List.not_mem_nil, or_false] at hr
    rcases hr with rfl | rfl | rfl
    · exact h4 h.ta
    · exact h3 h.tc
    · exact h5 htg)
  have hcc : ∀ d, d ∈ (s.calls.filter (fun c' => c'.number != c.number)) → d ∈ s.calls := fun d hd => (List.mem_filter.1 hd).1
  refine ⟨v, { V with t := .slice (some ⟨g, 0, none⟩) ys.length cap, xs := ys }, rfl, hrow, ⟨?_, fun j hj => (hF.frozen j).trans (h.fz j hj), mC', mA', fun d hd => (h.cc d (hcc d hd)).same (hb (by rw [h.tq d (hcc d hd)]; omega) (by rw [h.tq d (hcc d hd)]; omega) (by rw [h.tq d (hcc d hd)]; omega) (by rw [h.tq d (hcc d hd)]; omega) (by rw [h.tq d (hcc d hd)]; omega)),
    h.ru.same fun k hk => hb (by rw [h.tu k hk]; omega) (by rw [h.tu k hk]; omega) (by rw [h.tu k hk]; omega) (by rw [h.tu k hk]; omega) (by rw [h.tu k hk]; omega), hr', h.rm.same fun k hk => hb (by rw [h.tm k hk]; omega) (by rw [h.tm k hk]; omega) (by rw [h.tm k hk]; omega) (by rw [h.tm k hk]; omega) (by rw [h.tm k hk]; omega),
    hP.trans (h.xp.filter _), hH, h.tp, h.tc, h.ta, h.tu, ?_, h.tm, fun d hd => h.tq d (hcc d hd), fun a ha b hb' => h.qi a (hcc a ha) b (hcc b hb'), fun k hk => Nat.lt_of_lt_of_le (h.tl k hk) hF.size, fun _ => ⟨g, rfl⟩⟩,
    ⟨hF.os, hF.tape, hF.output, hF.size, fun k hk h7 => hF.block k hk (fun e => by rw [e, h.tp] at h7; omega) (fun hr => by
      simp only [List.mem_cons, List.not_mem_nil, or_false] at hr
      rcases hr with rfl | rfl | rfl
      · rw [h.ta] at h7; omega
      · rw [h.tc] at h7; omega
      · rw [htg] at h7; omega), fun _ h => .inl h⟩, ?_⟩
  · refine cells_upd [18] h.kk (fun j hj => hF.cell j hj) ?_ ?_
    · intro j hj
      have e : cellsP (finishM s c.number) { V with t := .slice (some ⟨g, 0, none⟩) ys.length cap, xs := ys } = (cellsP s V).set 18 (.slice (some ⟨g, 0, none⟩) ys.length cap) := rfl
      simp only [List.mem_cons, List.not_mem_nil, or_false] at hj
      rw [e, List.getElem?_set_ne (Ne.symm hj)]
    · intro j hj u hu
      simp only [List.mem_cons, List.not_mem_nil, or_false] at hj
      subst hj
      rw [hc']; exact hu
  · intro k hk
    have : g = k := by simpa [Value.ownBlock] using hk
    rw [← this]
    exact htg
  · intro k hk
    have h1 := (hrow.lt k hk).1
    rcases Nat.lt_or_ge (V.tag k) 7 with h2 | h2
    · have := h.tl k h2
      omega
    · exact h2
end
end Go.Proofs.YtlccfpbbdgpjbaaGreatDoor
