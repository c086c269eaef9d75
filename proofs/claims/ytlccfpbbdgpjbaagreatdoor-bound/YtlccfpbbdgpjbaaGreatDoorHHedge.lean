import Derived.Test.YtlccfpbbdgpjbaaGreatDoorZHeap2
namespace Go.Proofs.YtlccfpbbdgpjbaaGreatDoor
open Go.RowKit

/-- Not to go. -/
def staysH (call : Int) (t : PTimer) : Bool := !(t.call == call && t.kind == 3)

set_option maxRecDepth 100000 in
set_option maxHeartbeats 800000 in
theorem goesH_any (a : PTimer) (bx : Nat) (call : Int) (w : World) (hc : w.cell? ⟨bx, 0, none⟩ = some (.int .i64 call)) :
    Calls Tryz.prog 118 #[.agg #[.int .i64 a.kind, .int .i64 a.call, .int .i64 a.due, .int .i64 a.set], .pointer (some ⟨bx, 0, none⟩)] w fun e w' => e = .returned (.bool (!staysH call a)) ∧ Below w.heap.size w w' := by
  have lb : bx < w.heap.size := World.block_lt_of_cell? w _ hc
  unfold staysH
  rw [Bool.not_not]
  cases hd : a.call == call with
  | true =>
    have hd' : a.call = call := by simpa using hd
    rw [Bool.true_and]
    clear hd
    go_enter Tryz.func118, Tryz.ntmps118
    go_wp2_with fail
    go_ret
    exact ⟨rfl, (Below.refl _ _).alloc (Nat.le_refl _) _⟩
  | false =>
    have hd' : ¬ a.call = call := by simpa using hd
    rw [Bool.false_and]
    go_enter Tryz.func118, Tryz.ntmps118
    go_wp2_with fail
    go_ret
    exact ⟨rfl, (Below.refl _ _).alloc (Nat.le_refl _) _⟩

/-- Where the first one stands that is to go; nothing if none is. -/
def firstOfH? (call : Int) (xs : List PTimer) (k : Nat) : Prop := k < xs.length ∧ staysH call (pt xs k) = false ∧ ∀ j, j < k → staysH call (pt xs j) = true

set_option maxRecDepth 100000 in
set_option maxHeartbeats 4000000 in
theorem indexFuncH_any (g cap bx : Nat) (call : Int) (xs : List PTimer) (w : World) (hl : xs.length ≤ 1000000) (hc : w.cell? ⟨bx, 0, none⟩ = some (.int .i64 call)) (hr : Row w 0 114 4 encPT (.slice (some ⟨g, 0, none⟩) xs.length cap) xs) :
    Calls Tryz.prog 145 #[.slice (some ⟨g, 0, none⟩) xs.length cap, .func (.func 118) #[] #[.pointer (some ⟨bx, 0, none⟩)]] w fun e w' =>
      ((e = .returned (.int .i64 (-1)) ∧ ∀ j, j < xs.length → staysH call (pt xs j) = true) ∨ ∃ k : Nat, e = .returned (.int .i64 k) ∧ firstOfH? call xs k) ∧ Below w.heap.size w w' := by
  have lb : bx < w.heap.size := World.block_lt_of_cell? w _ hc
  have lg : g < w.heap.size := (hr.lt g rfl).2
  have HR := hide hr
  clear hr
  go_enter Tryz.func145, Tryz.ntmps145
  go_wp2_with fail
  go_loopw [8] (fun iv wr => ∃ k : Nat, k ≤ xs.length ∧ iv = .int .i64 k ∧ (∀ j, j < k → staysH call (pt xs j) = true) ∧ Below w.heap.size w wr) (fun iv _ => xs.length - (intOf iv).toNat)
  case atStart => exact ⟨0, Nat.zero_le _, rfl, fun j hj => by omega, Below.refl _ _⟩
  case round =>
    obtain ⟨k, hk, rfl, hno, hb⟩ := hrel
    have HNO := hide hno
    clear hno
    by_cases hlt : k < xs.length
    · have hlt' : (k : Int) < (xs.length : Int) := by omega
      obtain ⟨a, ha⟩ : ∃ a, pt xs k = a := ⟨_, rfl⟩
      obtain ⟨e0, e1, e2, e3⟩ := (HR.out.below hb).pt_cells k hlt a ha
      have HA := hide ha
      clear ha
      have HG := hide (goesH_any a bx call wr ((hb.cell lb).trans hc))
      cases hd : staysH call a with
      | false =>
        rw [hd] at HG
        have hd' := hide hd
        clear hd
        go_wp2_with (first | (go_at_call 118; refine HG.out.mono ?_; rintro e w1 ⟨rfl, hb1⟩))
        go_ret
        exact ⟨.inr ⟨k, rfl, hlt, by rw [HA.out]; exact hd'.out, HNO.out⟩, hb.trans (hb1.mono hb.size)⟩
      | true =>
        rw [hd] at HG
        have hd' := hide hd
        clear hd
        go_wp2_with (first | (go_at_call 118; refine HG.out.mono ?_; rintro e w1 ⟨rfl, hb1⟩))
        go_roundw
        case rel =>
          refine ⟨k + 1, by omega, by go_num, fun j hj => ?_, hb.trans (hb1.mono hb.size)⟩
          by_cases hjk : j = k
          · subst hjk
            rw [HA.out]
            exact hd'.out
          · exact HNO.out j (by omega)
        case measure => simp [intOf]; omega
    · go_wp2_with fail
      go_ret
      exact ⟨.inl ⟨rfl, fun j hj => HNO.out j (by omega)⟩, hb⟩

set_option maxRecDepth 100000 in
set_option maxHeartbeats 4000000 in
theorem deleteFuncH_any (g cap bx : Nat) (call : Int) (xs : List PTimer) (w : World) (hl : xs.length ≤ 1000000) (hbg : bx ≠ g) (hc : w.cell? ⟨bx, 0, none⟩ = some (.int .i64 call)) (hr : Row w 0 114 4 encPT (.slice (some ⟨g, 0, none⟩) xs.length cap) xs) :
    Calls Tryz.prog 137 #[.slice (some ⟨g, 0, none⟩) xs.length cap, .func (.func 118) #[] #[.pointer (some ⟨bx, 0, none⟩)]] w fun e w' =>
      e = .returned (.slice (some ⟨g, 0, none⟩) (xs.filter (staysH call)).length cap) ∧ Row w' 0 114 4 encPT (.slice (some ⟨g, 0, none⟩) (xs.filter (staysH call)).length cap) (xs.filter (staysH call)) ∧ Kp [g] w w' := by
  have lb : bx < w.heap.size := World.block_lt_of_cell? w _ hc
  have lg : g < w.heap.size := (hr.lt g rfl).2
  have HI := hide (indexFuncH_any g cap bx call xs w hl hc hr)
  have HR := hide hr
  clear hr
  go_enter Tryz.func137, Tryz.ntmps137
  go_wp2_with fail
  refine HI.out.mono ?_
  rintro e w1 ⟨⟨rfl, hno⟩ | ⟨k, rfl, hk, hkc, hno⟩, hb1⟩
  · go_wp2_with fail
    go_ret
    have hf : xs.filter (staysH call) = xs := by
      rw [List.filter_eq_self]
      intro t ht
      obtain ⟨j, hj, rfl⟩ := List.getElem_of_mem ht
      have := hno j hj
      rw [pt_get hj] at this
      exact this
    rw [hf]
    exact ⟨rfl, HR.out.below hb1, Kp.of_below hb1⟩
  · have hk1 : ((k : Int) == -1) = false := by rw [beq_eq_false_iff_ne]; omega
    have hkl : (k : Int) < (xs.length : Int) := by omega
    have hst : (xs.take (k + 1)).filter (staysH call) = xs.take k := by
      rw [filter_snoc _ _ _ hk, List.filter_eq_self.2, if_neg, List.append_nil]
      · rw [pt_get hk] at hkc
        simp [hkc]
      · intro t ht
        obtain ⟨j, hj, rfl⟩ := List.getElem_of_mem ht
        have hj' : j < k := by simp at hj; omega
        have := hno j hj'
        rw [pt_get (by omega)] at this
        rw [List.getElem_take]
        exact this
    have HST := hide hst
    have hle : xs.length ≤ cap := HR.out.cap_le.1
    have hlm : cap ≤ 9223372036854775807 := HR.out.cap_le.2
    clear hst hkc hno HI
    go_wp2_with fail
    go_loopw [5, 6] (fun iv jv wr => ∃ (i j : Nat) (ys : List PTimer), iv = .int .i64 i ∧ jv = .int .i64 j ∧ i < j ∧ j ≤ xs.length ∧ ys.length = xs.length ∧ ys.take i = (xs.take j).filter (staysH call) ∧ ys.drop j = xs.drop j ∧ Row wr 0 114 4 encPT (.slice (some ⟨g, 0, none⟩) xs.length cap) ys ∧ Kp [g] w wr) (fun _ jv _ => xs.length - (intOf jv).toNat)
    case atStart => exact ⟨k, k + 1, xs, rfl, by go_num, by omega, by omega, rfl, HST.out.symm, rfl, HR.out.below hb1, Kp.of_below hb1⟩
    case round =>
      obtain ⟨i, j, ys, rfl, rfl, hij, hjl, hyl, hyt, hyd, hrr, hF⟩ := hrel
      have HYT := hide hyt
      have HYD := hide hyd
      have lgr : g < wr.heap.size := Nat.lt_of_lt_of_le lg hF.size
      have lbr : bx < wr.heap.size := Nat.lt_of_lt_of_le lb hF.size
      have cr : wr.cell? ⟨bx, 0, none⟩ = some (.int .i64 call) := (hF.cell lb (by simpa using hbg) 0).trans hc
      clear hyt hyd HST
      by_cases hlt : j < xs.length
      · have hlt' : (j : Int) < (xs.length : Int) := by omega
        have hil : (i : Int) < (xs.length : Int) := by omega
        obtain ⟨a, ha⟩ : ∃ a, pt ys j = a := ⟨_, rfl⟩
        obtain ⟨e0, e1, e2, e3⟩ := hrr.pt_cells j (by omega) a ha
        have HA := hide (show xs[j] = a by
          have h9 := congrArg (fun l => l[0]?) HYD.out
          simp only [List.getElem?_drop, Nat.add_zero] at h9
          rw [List.getElem?_eq_getElem (by omega), List.getElem?_eq_getElem hlt] at h9
          rw [← ha, pt_get (by omega)]
          exact (Option.some.inj h9).symm)
        clear ha
        have HFS := hide (filter_snoc (staysH call) xs j hlt)
        rw [HA.out] at HFS
        have HRR := hide hrr
        clear hrr
        have hbA : ∀ B, Below wr.heap.size wr (wr.alloc B) := fun B => (Below.refl _ _).alloc (Nat.le_refl _) _
        have HG := hide (fun B => goesH_any a bx call (wr.alloc B) (((hbA B).cell lbr).trans cr))
        have HBA := hide (fun B w1 (h : Below (wr.alloc B).heap.size (wr.alloc B) w1) => (hbA B).trans (h.mono (hbA B).size))
        clear hbA
        cases hd : staysH call a with
        | false =>
          rw [hd] at HG
          have hd' := hide hd
          clear hd
          go_wp2_with (first | (go_at_call 118; refine (HG.out _).mono ?_; rintro e w2 ⟨rfl, hb2⟩))
          go_roundw
          case rel =>
            have hB := HBA.out _ _ hb2
            exact ⟨i, j + 1, ys, rfl, by go_num, by omega, by omega, hyl, by rw [HFS.out, HYT.out, hd'.out]; simp, by rw [← List.drop_drop, HYD.out, List.drop_drop], HRR.out.below hB, hF.below hB⟩
          case measure => simp [intOf]; omega
        | true =>
          rw [hd] at HG
          have hd' := hide hd
          clear hd
          go_wp2_with (first
            | (go_at_call 118; refine (HG.out _).mono ?_; rintro e w2 ⟨rfl, hb2⟩
               have hB := HBA.out _ _ hb2
               have m0 : w2.cell? ⟨wr.heap.size, 0, none⟩ = some (.int .i64 a.kind) := (hb2.cell (by simp)).trans (by simp)
               have m1 : w2.cell? ⟨wr.heap.size, 1, none⟩ = some (.int .i64 a.call) := (hb2.cell (by simp)).trans (by simp)
               have m2 : w2.cell? ⟨wr.heap.size, 2, none⟩ = some (.int .i64 a.due) := (hb2.cell (by simp)).trans (by simp)
               have m3 : w2.cell? ⟨wr.heap.size, 3, none⟩ = some (.int .i64 a.set) := (hb2.cell (by simp)).trans (by simp)
               obtain ⟨⟨d0, d1, d2, d3⟩, f0, f1, f2, f3⟩ := (HRR.out.below hB).pt_all i (by omega) _ rfl))
          go_roundw
          case rel =>
            refine ⟨i + 1, j + 1, ys.set i a, by go_num, by go_num, by omega, by omega, by simpa using hyl, ?_, ?_, (HRR.out.below hB).put4 (g := g) rfl (by omega) a, ?_⟩
            · rw [HFS.out, ← HYT.out, hd'.out, if_pos rfl, List.take_succ_eq_append_getElem (by simp; omega), List.getElem_set_self, List.take_set_of_le (Nat.le_refl _)]
            · rw [List.drop_set_of_lt (by omega), ← List.drop_drop, HYD.out, List.drop_drop]
            · have hm : ∀ x : Nat, (⟨g, x, none⟩ : Addr).block ∈ [g] := fun _ => List.mem_singleton.2 rfl
              exact ((((hF.below hB).setIn (hm _) _).setIn (hm _) _).setIn (hm _) _).setIn (hm _) _
          case measure => simp [intOf]; omega
      · have hje : j = xs.length := by omega
        subst hje
        have hyf : ys.take i = xs.filter (staysH call) := by rw [HYT.out, List.take_of_length_le (Nat.le_refl _)]
        have hil : (xs.filter (staysH call)).length = i := by rw [← hyf, List.length_take]; omega
        obtain ⟨W6, hW6⟩ : ∃ W6, W6 = wr.setCells g (i * 4) ((List.replicate (xs.length - i) pt0).flatMap encPT) := ⟨_, rfl⟩
        have hcl : ∀ ty, (Builtin.clear_ #[90] ty #[.slice (some ⟨g, i * 4, none⟩) (xs.length - i) (cap - i)]).run Tryz.prog wr = .ok (.tuple #[]) W6 := fun ty => by
          rw [hW6]
          exact run_clear_rows encPT 4 encPT_len wr 90 114 ty pt0 Tryz.underlying90 (fun w => by kernel_rfl) rfl (by simp [encPT, pt0, Value.oneCell']) g (i * 4) (xs.length - i) _ (by omega)
            (fun j hj => (hrr.there encPT_len _ (by omega)).1) (fun j hj => (hrr.there encPT_len _ (by omega)).2)
        have hR6 := hrr.relay encPT_len i (List.replicate (xs.length - i) pt0) (xs.filter (staysH call)) (by simp; omega) (by omega) (by
          rw [hil, List.append_assoc, List.take_append_of_le_length (by rw [List.length_take]; omega), List.take_take, Nat.min_self, hyf])
        have hF6 := Kp.setCellsIn (g := g) (List.mem_singleton.2 rfl) ((List.replicate (xs.length - i) pt0).flatMap encPT) (i * 4) wr hF
        rw [← hW6] at hR6 hF6
        rw [hil] at hR6
        have HIL := hide hil
        have HR6 := hide hR6
        have hi1 : (i : Int) < (xs.length : Int) := by omega
        clear hR6 hil hyf hW6 HYT HYD hrr
        go_wp2_with fail
        go_ret
        rw [HIL.out]
        exact ⟨rfl, HR6.out, hF6⟩

set_option maxRecDepth 100000 in
set_option maxHeartbeats 4000000 in
theorem dropHH_any (p o bx : Nat) (call : Int) (g cap : Nat) (xs : List PTimer) (w : World) (hl : xs.length ≤ 1000000) (hgp : g ≠ p) (hbg : bx ≠ g) (hb : w.cell? ⟨bx, 0, none⟩ = some (.int .i64 call)) (hc : w.cell? ⟨p, o, none⟩ = some (.slice (some ⟨g, 0, none⟩) xs.length cap)) (hz : w.frozen? ⟨p, o, none⟩ = false) (hr : Row w 0 114 4 encPT (.slice (some ⟨g, 0, none⟩) xs.length cap) xs) :
    Calls Tryz.prog 116 #[.pointer (some ⟨p, o, none⟩), .func (.func 118) #[] #[.pointer (some ⟨bx, 0, none⟩)]] w fun e w' =>
      e = .returned (.tuple #[]) ∧ ∃ ys, ys.Perm (xs.filter (staysH call)) ∧ IsHeap ys ∧ w'.cell? ⟨p, o, none⟩ = some (.slice (some ⟨g, 0, none⟩) ys.length cap) ∧ Row w' 0 114 4 encPT (.slice (some ⟨g, 0, none⟩) ys.length cap) ys ∧ Fr p [o] [g] w w' := by
  have lp : p < w.heap.size := World.block_lt_of_cell? w _ hc
  have HD := hide (deleteFuncH_any g cap bx call xs w hl hbg hb hr)
  have hfl : (xs.filter (staysH call)).length ≤ xs.length := List.length_filter_le _ _
  have lg : g < w.heap.size := (hr.lt g rfl).2
  clear hr hb
  generalize xs.filter (staysH call) = fs at HD hfl ⊢
  go_enter Tryz.func116, Tryz.ntmps116
  go_wp2_with fail
  refine HD.out.mono ?_
  rintro e w1 ⟨rfl, hr1, hF1⟩
  have hpg : p ∉ [g] := by simpa using Ne.symm hgp
  have c1 : w1.cell? ⟨p, o, none⟩ = some (.slice (some ⟨g, 0, none⟩) xs.length cap) := (hF1.cell lp hpg o).trans hc
  have f1 : w1.frozen? ⟨p, o, none⟩ = false := (hF1.frozen lp hpg o).trans hz
  have hFA : Fr p [] [g] w w1 := hF1.fr lp hpg
  have HC2 := hide (World.cell?_setCell_same w1 ⟨p, o, none⟩ (.slice (some ⟨g, 0, none⟩) fs.length cap) c1)
  have HR2 := hide (hr1.same (w' := w1.setCell ⟨p, o, none⟩ (.slice (some ⟨g, 0, none⟩) fs.length cap)) (fun k hk => Below.heap_setCell _ _ _ _ (by simp [Value.ownBlock] at hk; show k ≠ p; omega)))
  have HF2 := hide (hFA.trans (Fr.store (j := o) (w := w1) (.slice (some ⟨g, 0, none⟩) fs.length cap)) (J'' := [o]) (fun _ h => ⟨by simp, h⟩) (fun r h => by cases h))
  clear HD hFA hF1 hc hz hr1
  go_wp2_with fail
  go_loopw [4] (fun pv wr => ∃ (z : Int) (m : Nat) (ys : List PTimer), pv = .int .i64 z ∧ z = (m : Int) - 1 ∧ m ≤ fs.length ∧ HeapFrom m ys ∧ ys.Perm fs ∧ wr.cell? ⟨p, o, none⟩ = some (.slice (some ⟨g, 0, none⟩) fs.length cap) ∧ Row wr 0 114 4 encPT (.slice (some ⟨g, 0, none⟩) fs.length cap) ys ∧ Fr p [o] [g] w wr) (fun pv _ => (intOf pv + 1).toNat)
  case atStart => exact ⟨_, fs.length / 2, fs, rfl, by omega, by omega, HeapFrom.top fs _ (Nat.le_refl _), List.Perm.refl _, HC2.out, HR2.out, HF2.out⟩
  case round =>
    obtain ⟨z, m, ys, rfl, hzm, hm, hH, hP, hcr, hrr, hF⟩ := hrel
    have hlen := hP.length_eq
    by_cases h0 : 0 ≤ z
    · obtain ⟨k, rfl⟩ : ∃ k : Nat, z = (k : Int) := ⟨z.toNat, by omega⟩
      have hmk : m = k + 1 := by omega
      subst hmk
      have HSK := hide (sink_any p o g cap k ys k wr (by omega) (by omega) (Sinking.start hH) hgp (by rw [hlen]; exact hcr) (by rw [hlen]; exact hrr))
      rw [hlen] at HSK
      clear hrr hH HC2 HR2 HF2 hzm h0
      have k0 : (k : Int) ≤ 1000000 := by omega
      go_wp2_with (first | (go_at_call 101; refine HSK.out.mono ?_; rintro e w2 ⟨rfl, zs, hP2, hH2, hc2, hr2, hF2⟩))
      go_roundw
      case rel => exact ⟨_, k, zs, rfl, rfl, by omega, hH2, hP2.trans hP, hc2, hr2, hF.trans hF2 (J'' := [o]) (fun _ h => ⟨h, by simp⟩) (fun r h => .inl h)⟩
      case measure => (simp [intOf] <;> omega)
    · have hm0 : m = 0 := by omega
      subst hm0
      have hz1 : z = -1 := by omega
      subst hz1
      clear HC2 HR2 HF2 hzm h0
      go_wp2_with fail
      go_end0
      exact ⟨rfl, ys, hP, hH, by rw [hlen]; exact hcr, by rw [hlen]; exact hrr, hF⟩

set_option maxRecDepth 100000 in
set_option maxHeartbeats 4000000 in
theorem dropHH_nil (p o bx : Nat) (w : World) (hc : w.cell? ⟨p, o, none⟩ = some (.slice none 0 0)) (hz : w.frozen? ⟨p, o, none⟩ = false) :
    Calls Tryz.prog 116 #[.pointer (some ⟨p, o, none⟩), .func (.func 118) #[] #[.pointer (some ⟨bx, 0, none⟩)]] w fun e w' =>
      e = .returned (.tuple #[]) ∧ w'.cell? ⟨p, o, none⟩ = some (.slice none 0 0) ∧ Fr p [o] [] w w' := by
  have HI : Hid (∀ W, Calls Tryz.prog 145 #[.slice none 0 0, .func (.func 118) #[] #[.pointer (some ⟨bx, 0, none⟩)]] W fun e w' => e = .returned (.int .i64 (-1)) ∧ w' = W) := fun W => by
    go_enter Tryz.func145, Tryz.ntmps145
    go_wp2_with fail
    go_loopw [8] (fun iv wr => iv = .int .i64 0 ∧ wr = W) (fun _ _ => 0)
    case atStart => exact ⟨rfl, rfl⟩
    case round =>
      obtain ⟨rfl, rfl⟩ := hrel
      go_wp2_with fail
      go_ret
      exact ⟨rfl, rfl⟩
  have HD : Hid (∀ W, Calls Tryz.prog 137 #[.slice none 0 0, .func (.func 118) #[] #[.pointer (some ⟨bx, 0, none⟩)]] W fun e w' => e = .returned (.slice none 0 0) ∧ w' = W) := fun W => by
    go_enter Tryz.func137, Tryz.ntmps137
    go_wp2_with fail
    refine (HI.out W).mono ?_
    rintro e w' ⟨rfl, rfl⟩
    go_wp2_with fail
    go_ret
    exact ⟨rfl, rfl⟩
  clear HI
  go_enter Tryz.func116, Tryz.ntmps116
  go_wp2_with fail
  refine (HD.out w).mono ?_
  rintro e w1 ⟨rfl, rfl⟩
  go_wp2_with fail
  go_loopw [4] (fun pv wr => pv = .int .i64 (-1) ∧ wr = w1.setCell ⟨p, o, none⟩ (.slice none 0 0)) (fun _ _ => 0)
  case atStart => exact ⟨by go_num, rfl⟩
  case round =>
    obtain ⟨rfl, rfl⟩ := hrel
    go_wp2_with fail
    go_end0
    exact ⟨rfl, World.cell?_setCell_same _ _ _ hc, Fr.store _⟩
end Go.Proofs.YtlccfpbbdgpjbaaGreatDoor
