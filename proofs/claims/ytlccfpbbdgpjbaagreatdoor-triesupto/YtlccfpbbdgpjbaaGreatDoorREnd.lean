import Derived.Test.YtlccfpbbdgpjbaaGreatDoorRLaunch
namespace Go.Proofs.YtlccfpbbdgpjbaaGreatDoor
open Go.RowKit

/-- act, and which blocks it leaves alone. -/
theorem rep_act' {w : World} {p : Nat} {s : St} {V : V6} (h : Rep w p s V) (hl : s.out.length ≤ 100000000) (a : RAct) :
    Calls Tryz.prog 107 #[.pointer (some ⟨p, 0, none⟩), .agg #[.int .i64 a.kind, .int .i64 a.call, .int .i64 a.attempt, .int .i64 a.outcome, .int .i64 a.value, .int .i64 a.left]] w fun e w' =>
      e = .returned (.tuple #[]) ∧ ∃ v, Rep w' p { s with out := s.out ++ [a] } { V with o := v } ∧ Mv p V w { V with o := v } w' ∧ (∀ k, k < w.heap.size → k ≠ p → V.o.ownBlock ≠ some k → w'.heap[k]? = w.heap[k]?) ∧ (∀ k, v.ownBlock = some k → V.o.ownBlock = some k ∨ w.heap.size ≤ k) := by
  refine (act_any p a V.o s.out w hl h.ko (h.fz 18 (by omega)) h.ro (fun e => h.ap 6 0 (by decide) p e rfl)).mono ?_
  rintro e w' ⟨rfl, v, hc, hr, hv, hf⟩
  have hv' : v.ownBlock = V.o.ownBlock ∨ ∀ g, v.ownBlock = some g → w.heap.size ≤ g := hv.imp id (fun ⟨g, e, hg⟩ g' e' => by have : g = g' := Option.some.inj (e.symm.trans e'); omega)
  obtain ⟨r, m⟩ := h.set_o hf hc hr hv'
  refine ⟨rfl, v, r, m, fun k hk hp ho => hf.block k hk hp (by simpa using ho), fun k hk => ?_⟩
  rcases hv' with e' | e'
  · exact .inl (e' ▸ hk)
  · exact .inr (e' k hk)

theorem rep_close' {w : World} {p : Nat} {s : St} {V : V6} (h : Rep w p s V) (hl : s.atts.length ≤ 100000000) (number : Int) :
    Calls Tryz.prog 82 #[.pointer (some ⟨p, 0, none⟩), .int .i64 number] w fun e w' =>
      e = .returned (.tuple #[]) ∧ ∃ v, Rep w' p { s with atts := s.atts.filter (keepAtt number) } { V with a := v } ∧ Mv p V w { V with a := v } w' ∧ (∀ k, k < w.heap.size → k ≠ p → w'.heap[k]? = w.heap[k]?) := by
  refine (close_any p number V.a s.atts w hl h.ka (h.fz 12 (by omega)) h.ra).mono ?_
  rintro e w' ⟨rfl, v, hc, hr, hf⟩
  obtain ⟨r, m⟩ := h.set_a hf.weak hc (hr.base (Nat.zero_le _)) (.inr fun g hg => (hr.lt g hg).1)
  exact ⟨rfl, v, r, m, fun k hk hp => hf.block k hk hp (by simp)⟩

theorem endStep_fields (call : Int) (l : List RAtt) (s : St) : (l.foldl (endStep call) s).calls = s.calls ∧ (l.foldl (endStep call) s).timers = s.timers ∧ (l.foldl (endStep call) s).out.length ≤ s.out.length + l.length ∧ (l.foldl (endStep call) s).atts.length ≤ s.atts.length := by
  induction l generalizing s with
  | nil => exact ⟨rfl, rfl, by simp, by simp⟩
  | cons a r ih =>
    rw [List.foldl_cons]
    obtain ⟨h1, h2, h3, h4⟩ := ih (endStep call s a)
    unfold endStep at h1 h2 h3 h4 ⊢
    split at h1
    · rename_i h
      simp only [h, if_true] at h1 h2 h3 h4 ⊢
      refine ⟨h1, h2, ?_, ?_⟩
      · have h3' : _ ≤ (s.out ++ [(⟨2, call, a.number, 0, 0, 0⟩ : RAct)]).length + r.length := h3
        rw [List.length_append] at h3'
        rw [List.length_cons]
        simp at h3'
        omega
      · exact Nat.le_trans h4 (List.length_filter_le (keepAtt a.number) s.atts)
    · rename_i h
      simp only [h, if_false] at h1 h2 h3 h4 ⊢
      exact ⟨h1, h2, by rw [List.length_cons]; omega, h4⟩

theorem foldl_snoc {α β : Type} (f : β → α → β) (s : β) (l : List α) (k : Nat) (h : k < l.length) : (l.take (k + 1)).foldl f s = f ((l.take k).foldl f s) l[k] := by
  rw [List.take_succ_eq_append_getElem h, List.foldl_append]
  rfl

/-- In the midst of end: k of the attempts are gone through; the list that is gone through stands as it was. -/
structure Ending1 (p : Nat) (V : V6) (w : World) (s1 : St) (call : Int) (atts : List RAtt) (k : Nat) (wr : World) (V' : V6) : Prop where
  rep : Rep wr p ((atts.take k).foldl (endStep call) s1) V'
  mv : Mv p V w V' wr
  row : Row wr 0 154 3 encAtt V.a atts
  far : ∀ g, V.a.ownBlock = some g → g ≠ p ∧ V'.o.ownBlock ≠ some g

set_option maxRecDepth 100000 in
set_option maxHeartbeats 1600000 in
theorem end_any (p : Nat) (s : St) (V : V6) (w : World) (h : Rep w p s V) (call outcome value : Int) (l1 : s.calls.length ≤ 100000000) (l2 : s.atts.length ≤ 10000000) (l3 : s.out.length ≤ 10000000) (l4 : s.timers.length ≤ 100000000) :
    Calls Tryz.prog 83 #[.pointer (some ⟨p, 0, none⟩), .int .i64 call, .int .i64 outcome, .int .i64 value] w fun e w' => e = .returned (.tuple #[]) ∧ Now p V w (endS s call outcome value) w' := by
  have HA := hide (rep_act' h (by omega) ⟨3, call, 0, outcome, value, 0⟩)
  have ap0 : ∀ g, V.a.ownBlock = some g → g ≠ p ∧ V.o.ownBlock ≠ some g ∧ g < w.heap.size := fun g hg => ⟨fun e => h.ap 2 0 (by decide) g hg (by rw [e]; rfl), fun e => h.ap 2 6 (by decide) g hg e, (h.ra.lt g hg).2⟩
  have r0 := h.ra
  go_enter Tryz.func83, Tryz.ntmps83
  go_wp2_with fail
  refine HA.out.mono ?_
  rintro e w1 ⟨rfl, v1, r1, m1, b1, n1⟩
  clear HA
  have E0 : Ending1 p V w { s with out := s.out ++ [⟨3, call, 0, outcome, value, 0⟩] } call s.atts 0 w1 { V with o := v1 } :=
    ⟨r1, m1, r0.same (fun g hg => b1 g (ap0 g hg).2.2 (ap0 g hg).1 (ap0 g hg).2.1), fun g hg => ⟨(ap0 g hg).1, fun e => (n1 g e).elim (ap0 g hg).2.1 (fun h' => by have := (ap0 g hg).2.2; omega)⟩⟩
  have ka : w1.cell? ⟨p, 12, none⟩ = some V.a := r1.ka
  obtain ⟨A, cap, hA, hlen, hA1, hA2⟩ := r0.form
  rw [hA] at ka
  have HVA := hide hA
  clear hA m1 r1 b1 n1 hlen hA1 hA2
  have hl' : (s.atts.length : Int) ≤ 10000000 := by omega
  go_wp2_with fail
  go_loopw [9] (fun i wr => ∃ (k : Nat) (V' : V6), k ≤ s.atts.length ∧ i = .int .i64 k ∧ Ending1 p V w { s with out := s.out ++ [⟨3, call, 0, outcome, value, 0⟩] } call s.atts k wr V') (fun i _ => s.atts.length - (intOf i).toNat)
  case atStart => exact ⟨0, _, Nat.zero_le _, rfl, E0⟩
  case round =>
    obtain ⟨k, V', hk, rfl, E⟩ := hrel
    by_cases hlt : (k : Int) < (s.atts.length : Int)
    · have hk' : k < s.atts.length := by omega
      obtain ⟨A0, cap0, hA0, _, hA1, hA2⟩ := E.row.form
      rw [HVA.out] at hA0
      have eA : A = A0 := by simpa using congrArg (fun v => match v with | Value.slice a _ _ => a | _ => none) hA0
      subst eA
      obtain ⟨g, rfl⟩ := hA1 k hk'
      have hg : V.a.ownBlock = some g := by rw [HVA.out]; rfl
      have e0 := (E.row.cell encAtt_len hg hk' (j := 0) rfl).1
      have e1 := (E.row.cell encAtt_len hg hk' (j := 1) rfl).1
      rw [Nat.add_zero] at e0
      obtain ⟨_, _, lo, la⟩ := endStep_fields call (s.atts.take k) { s with out := s.out ++ [⟨3, call, 0, outcome, value, 0⟩] }
      have HFS := hide (foldl_snoc (endStep call) { s with out := s.out ++ [⟨3, call, 0, outcome, value, 0⟩] } s.atts k hk')
      have lo' : ((s.atts.take k).foldl (endStep call) { s with out := s.out ++ [⟨3, call, 0, outcome, value, 0⟩] }).out.length ≤ 100000000 := by
        simp at lo
        omega
      have la' : ((s.atts.take k).foldl (endStep call) { s with out := s.out ++ [⟨3, call, 0, outcome, value, 0⟩] }).atts.length ≤ 100000000 := by
        have la2 : _ ≤ s.atts.length := la
        omega
      have HG := hide hg
      have hfar := E.far g hg
      have hgl := (hA2 g rfl).2.1
      generalize s.atts[k] = t at e0 e1 HFS
      obtain ⟨zn, zc, za⟩ := t
      dsimp only at e0 e1
      have E' := hide E
      clear hA0 hA1 hA2 ka E0 hg lo la E ap0 r0
      obtain ⟨rE, mE, wE, fE⟩ := E'.out
      generalize hS9 : (s.atts.take k).foldl (endStep call) { s with out := s.out ++ [⟨3, call, 0, outcome, value, 0⟩] } = S9 at HFS lo' la' rE
      have HS9 := hide hS9
      have HRE := hide rE
      clear hS9 wE fE rE
      by_cases hc : zc = call
      · subst hc
        have HE : Hid ((s.atts.take (k + 1)).foldl (endStep zc) { s with out := s.out ++ [⟨3, zc, 0, outcome, value, 0⟩] } = { S9 with out := S9.out ++ [⟨2, zc, zn, 0, 0, 0⟩], atts := S9.atts.filter (keepAtt zn) }) := by
          show _ = _
          rw [HFS.out]
          simp [endStep]
        clear HFS
        go_wp2_with fail
        refine (rep_act' HRE.out lo' ⟨2, zc, zn, 0, 0, 0⟩).mono ?_
        rintro e w2 ⟨rfl, v2, r2, m2, b2, n2⟩
        have hb2 := b2 g hgl hfar.1 hfar.2
        have e0' : w2.cell? ⟨g, k * 3, none⟩ = some (.int .i64 zn) := (World.cell?_of_block (a := ⟨g, k * 3, none⟩) hb2).trans e0
        have row2 := hide (E'.out.row.same (w' := w2) (fun g' hg' => by have : g = g' := Option.some.inj (HG.out.symm.trans hg'); subst this; exact hb2))
        have hgl2 : g < w2.heap.size := Nat.lt_of_lt_of_le hgl m2.size
        have HR2 := hide r2
        have M2 := hide m2
        have N2 := hide n2
        clear r2 m2 b2 n2 hb2 e0 e1
        go_wp2_with fail
        refine (rep_close' HR2.out la' zn).mono ?_
        rintro e w3 ⟨rfl, v3, r3, m3, b3⟩
        have HE3 := hide r3
        have M3 := hide m3
        have row3 := hide (row2.out.same (w' := w3) (fun g' hg' => by have : g = g' := Option.some.inj (HG.out.symm.trans hg'); subst this; exact b3 g hgl2 hfar.1))
        clear r3 m3 b3
        go_wp2_with fail
        go_roundw
        case rel =>
          refine ⟨k + 1, _, by omega, by go_num, ⟨?_, (mE.trans M2.out).trans M3.out, row3.out, ?_⟩⟩
          · rw [HE.out]
            exact HE3.out
          · intro g' hg'
            have : g = g' := Option.some.inj (HG.out.symm.trans hg')
            subst this
            exact ⟨hfar.1, fun e => (N2.out g e).elim hfar.2 (fun h' => by omega)⟩
        case measure => simp [intOf]; omega
      · have hc' : (zc == call) = false := by simpa using hc
        have HE : Hid ((s.atts.take (k + 1)).foldl (endStep call) { s with out := s.out ++ [⟨3, call, 0, outcome, value, 0⟩] } = S9) := by
          show _ = _
          rw [HFS.out]
          simp [endStep, hc]
        clear HFS
        go_wp2_with fail
        go_roundw
        case rel =>
          refine ⟨k + 1, V', by omega, by go_num, ⟨?_, mE, E'.out.row, E'.out.far⟩⟩
          rw [HE.out]
          exact HRE.out
        case measure => simp [intOf]; omega
    · have ek : s.atts.take k = s.atts := List.take_of_length_le (by omega)
      obtain ⟨rE, mE, _, _⟩ := E
      rw [ek] at rE
      obtain ⟨q1, q2, _, _⟩ := endStep_fields call s.atts { s with out := s.out ++ [⟨3, call, 0, outcome, value, 0⟩] }
      have HES : Hid (endS s call outcome value = { s.atts.foldl (endStep call) { s with out := s.out ++ [⟨3, call, 0, outcome, value, 0⟩] } with timers := (s.atts.foldl (endStep call) { s with out := s.out ++ [⟨3, call, 0, outcome, value, 0⟩] }).timers.filter (keepTimer call 0 2), calls := (s.atts.foldl (endStep call) { s with out := s.out ++ [⟨3, call, 0, outcome, value, 0⟩] }).calls.filter (keepCall call) }) := rfl
      generalize s.atts.foldl (endStep call) { s with out := s.out ++ [⟨3, call, 0, outcome, value, 0⟩] } = S2 at rE q1 q2 HES
      have lt4 : S2.timers.length ≤ 100000000 := by rw [q2]; exact l4
      have lc4 : S2.calls.length ≤ 100000000 := by rw [q1]; exact l1
      have HRE := hide rE
      have ME := hide mE
      clear rE mE q1 q2 ek ka HVA ap0 r0 E0 l1 l2 l3 l4 hl'
      go_wp2_with fail
      refine (rep_drop HRE.out lt4 call 0 2).mono ?_
      rintro e w4 ⟨rfl, V4, r4, m4⟩
      have M4 := hide (ME.out.trans m4)
      have lp := r4.lp
      have kc4 : w4.cell? ⟨p, 11, none⟩ = some V4.c := r4.kc
      have fc4 := r4.fz 11 (by omega)
      have rc4 : Row w4 0 159 5 encCall V4.c S2.calls := r4.rc
      have HR4 := hide r4
      clear r4 m4 HRE ME
      obtain ⟨i0, hi0, z0, z1, z2⟩ := info_parts Tryz.infoCall
      obtain ⟨A4, cap4, hA4, _, hA1, hA2⟩ := rc4.form
      have HB : Hid (∀ i (h : i < S2.calls.length), ∃ g, A4 = some ⟨g, 0, none⟩ ∧ g < w4.heap.size ∧ w4.cell? ⟨g, i * 5, none⟩ = some (.int .i64 S2.calls[i].number) ∧ w4.cell? ⟨g, i * 5 + 1, none⟩ = some (.int .i64 S2.calls[i].deadline) ∧ w4.cell? ⟨g, i * 5 + 2, none⟩ = some (.int .i64 S2.calls[i].had) ∧ w4.cell? ⟨g, i * 5 + 3, none⟩ = some (.int .i64 S2.calls[i].wait) ∧ w4.cell? ⟨g, i * 5 + 4, none⟩ = some (.bool S2.calls[i].safe)) := fun i h => by
        obtain ⟨g, rfl⟩ := hA1 i h
        have hg : V4.c.ownBlock = some g := by rw [hA4]; rfl
        exact ⟨g, rfl, (hA2 g rfl).2.1, (rc4.cell encCall_len hg h (j := 0) rfl).1, (rc4.cell encCall_len hg h (j := 1) rfl).1, (rc4.cell encCall_len hg h (j := 2) rfl).1, (rc4.cell encCall_len hg h (j := 3) rfl).1, (rc4.cell encCall_len hg h (j := 4) rfl).1⟩
      rw [hA4] at kc4
      have HA4 := hide hA4
      have RC4 := hide rc4
      clear hA4 hA1 hA2 rc4
      have hl4 : (S2.calls.length : Int) ≤ 100000000 := by omega
      go_wp2_with fail
      go_loopw [10, 11] (fun lv i wq => ∃ k : Nat, k ≤ S2.calls.length ∧ i = .int .i64 k ∧ Below w4.heap.size w4 wq ∧ Row wq w4.heap.size 159 5 encCall lv ((S2.calls.take k).filter (keepCall call))) (fun _ i _ => S2.calls.length - (intOf i).toNat)
      case atStart => exact ⟨0, Nat.zero_le _, rfl, Below.refl _ _, Row.nil _ _ _ _ _⟩
      case round =>
        obtain ⟨k, hk, rfl, hb, hrow⟩ := hrel
        have hcr : wr.cell? ⟨p, 11, none⟩ = some (.slice A4 S2.calls.length cap4) := (hb.cell lp).trans kc4
        have hsz := hb.size
        by_cases hlt : (k : Int) < (S2.calls.length : Int)
        · obtain ⟨g, rfl, hg, e0, e1, e2, e3, e4⟩ := HB.out k (by omega)
          rw [← hb.cell (p := ⟨g, k * 5, none⟩) hg] at e0
          rw [← hb.cell (p := ⟨g, k * 5 + 1, none⟩) hg] at e1
          rw [← hb.cell (p := ⟨g, k * 5 + 2, none⟩) hg] at e2
          rw [← hb.cell (p := ⟨g, k * 5 + 3, none⟩) hg] at e3
          rw [← hb.cell (p := ⟨g, k * 5 + 4, none⟩) hg] at e4
          have HF := hide (filter_snoc (keepCall call) S2.calls k (by omega))
          have HL := take_filter_len (keepCall call) S2.calls k
          generalize (S2.calls.take k).filter (keepCall call) = ks at hrow HF HL
          generalize S2.calls[k] = t at e0 e1 e2 e3 e4 HF
          obtain ⟨zn, zd, zh, zw, zs⟩ := t
          dsimp only at e0 e1 e2 e3 e4
          clear HB kc4
          by_cases c1 : zn = call
          · have c1' : (zn != call) = false := by simp [c1]
            have k0 : keepCall call ⟨zn, zd, zh, zw, zs⟩ = false := by simp [keepCall, c1]
            clear c1
            go_wp2_with fail
            go_roundw
            case rel => exact ⟨k + 1, by omega, by go_num, hb, by rw [HF.out, k0]; simpa using hrow⟩
            case measure => simp [intOf]; omega
          · have c1' : (zn != call) = true := by simpa using c1
            have k0 : keepCall call ⟨zn, zd, zh, zw, zs⟩ = true := by simp [keepCall, c1]
            clear c1
            go_wp2_with (first | (at_builtin; refine wpList_append_lies _ (by rfl) _ _ _ (by rfl) w4.heap.size 159 i0 _ 5 40 Tryz.underlying116 hi0 z0 z1 z2 rfl (by omega) u10 ks.length (ks.flatMap encCall) (by rfl) (World.ownsRow.alloc hrow _) ⟨wr.heap.size, 0, none⟩ 1 1 (encCall ⟨zn, zd, zh, zw, zs⟩) (by rfl) (by rfl) (World.news_of_block (cs := (encCall ⟨zn, zd, zh, zw, zs⟩).toArray) (t := 159) (fr := (0, 0)) (block_one wr _)) (by simp [Value.oneCell', encCall]) (by omega) (by simp only [maxLen]; omega) (by omega) (by simp; omega) (wr.heap.size + 1) (by simp) ?_; intro g1 cap1 w5 hown hgrow hat hlt1))
            obtain ⟨nb, nr⟩ := push_new (x := (⟨zn, zd, zh, zw, zs⟩ : RCall)) hb hrow ((Below.refl _ _).alloc (Nat.le_refl _) _) hown hgrow
            go_roundw
            case rel => exact ⟨k + 1, by omega, by go_num, nb, by rw [HF.out, if_pos k0]; exact nr⟩
            case measure => simp [intOf]; omega
        · have e : S2.calls.take k = S2.calls := List.take_of_length_le (by omega)
          rw [e] at hrow
          have hzr : wr.frozen? ⟨p, 11, none⟩ = false := (hb.frozen lp).trans fc4
          obtain ⟨A', cap', rfl, _, _, _⟩ := hrow.form
          clear HB
          go_wp2_with fail
          go_end0
          obtain ⟨v5, g1, g2, g3⟩ := store_new lp hb hrow hcr
          obtain ⟨r5, m5⟩ := HR4.out.set_c g3.weak g1 (g2.base (Nat.zero_le _)) (.inr fun g hg => (g2.lt g hg).1)
          refine ⟨rfl, _, ?_, M4.out.trans m5⟩
          rw [HES.out]
          exact r5
end Go.Proofs.YtlccfpbbdgpjbaaGreatDoor
