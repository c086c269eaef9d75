/-
  openAttempts, walked.
-/
import Derived.Test.YtlccfpbbdgpjbaaGreatDoorPSortR
namespace Go.Proofs.YtlccfpbbdgpjbaaGreatDoor
open Go.RowKit Go.Maps

theorem Tryz.infoInt : (Tryz.prog.info? 3).map (fun i => (i.zero, i.size, i.bytes)) = some (some (.int .i64 0), 1, 8) := by kernel_rfl



theorem mergeSort_perm {l m : List Int} (h : l.Perm m) : l.mergeSort = m.mergeSort := by
  have ht : ∀ a b c : Int, decide (a ≤ b) = true → decide (b ≤ c) = true → decide (a ≤ c) = true := fun a b c h1 h2 => by simp at *; omega
  have htot : ∀ a b : Int, (decide (a ≤ b) || decide (b ≤ a)) = true := fun a b => by simp; omega
  have s1 := List.pairwise_mergeSort ht htot l
  have s2 := List.pairwise_mergeSort ht htot m
  have hp : l.mergeSort.Perm m.mergeSort := (List.mergeSort_perm l _).trans (h.trans (List.mergeSort_perm m _).symm)
  exact hp.eq_of_pairwise (fun a b _ _ h1 h2 => by simp at h1 h2; omega) s1 s2

set_option maxRecDepth 100000 in
set_option maxHeartbeats 4000000 in
theorem openAttempts_T (p q b : Nat) (number : Int) (l : List (Int × PAtt)) (w : World) (hl : l.length ≤ 1000000)
    (cA : w.cell? ⟨p, 16, none⟩ = some (.map (some b))) (cN : w.cell? ⟨q, 0, none⟩ = some (.int .i64 number)) (hM : MapI Tryz.prog 3 okAtt w b (attL l)) :
    Calls Tryz.prog 68 #[.pointer (some ⟨p, 0, none⟩), .pointer (some ⟨q, 0, none⟩)] w fun e w' =>
      ∃ v, e = .returned v ∧ Row w' w.heap.size 3 1 encI v (((l.filter (fun p => p.2.call == number)).map (·.1)).mergeSort) ∧ Below w.heap.size w w' := by
  obtain ⟨i0, hi0, z0, z1, z2⟩ := info_parts Tryz.infoInt
  have lp : p < w.heap.size := World.block_lt_of_cell? w _ cA
  have lq : q < w.heap.size := World.block_lt_of_cell? w _ cN
  have lb := hM.lt
  obtain ⟨D, hown, v⟩ := hM
  go_enter Tryz.func68, Tryz.ntmps68
  go_wp2_with (first | (at_range; refine wpList_range_own _ rfl _ 89 rfl 3 111 (int_keyed Tryz.underlying3) Tryz.underlying89 (Rv okAtt) b _ _ rfl hown ?_; intro w0 hrg0 hg0 hs0))
  go_frame
  go_loopw [5] (fun nv wr => ∃ (left : Lit → Bool) (cnt : Nat) (acc : List Int), wr.ranges Tryz.prog 3 (Rv okAtt) b w.heap.size (attL l).length D left cnt ∧ Row wr (w.heap.size + 1) 3 1 encI nv acc ∧ acc.Perm (ofCall number left l) ∧ Below w.heap.size w wr) (fun _ wr => wr.rangeLeft b w.heap.size)
  case atStart =>
    refine ⟨_, _, [], hrg0, Row.nil _ _ _ _ _, ?_, ⟨hg0.os, hg0.tape, hg0.output, hg0.size, fun k hk => hg0.block k hk (by simp)⟩⟩
    rw [ofCall_start number l]
    intro p hp
    rw [v.has]
    exact mget_isSome.2 ⟨(p.1, attV p.2), List.mem_map.2 ⟨p, hp, rfl⟩, rfl⟩
  case round =>
    obtain ⟨left, cnt, acc, hrg, hrow, hperm, hb⟩ := hrel
    have hsz := hb.size
    have cN' : wr.cell? ⟨q, 0, none⟩ = some (.int .i64 number) := (hb.cell lq).trans cN
    have hal : acc.length ≤ 1000000 := by
      rw [hperm.length_eq]
      unfold ofCall
      rw [List.length_map]
      exact Nat.le_trans (List.length_filter_le _ _) hl
    have hnd : (l.map (·.1)).Nodup := by
      have := v.nodup
      unfold attL at this
      rw [List.map_map] at this
      exact this
    have HN := hide hnd
    have HV := hide v
    have HP := hide hperm
    clear hrg0 hg0 hs0 hown cA hnd v hperm
    go_wp2_with (first | (at_next; refine wpList_next_I Tryz.underlying3 rfl _ rfl (fun c : PAtt => .agg #[.int .i64 c.call, .int .i64 c.launched]) (fun u hu => okAtt_inv hu) HV.out rfl hrg ?_ ?_))
    · intro hc0 hl0
      obtain ⟨A, cap, rfl, _, _, _⟩ := hrow.form
      have HS := hide (sortR _ _ acc wr hal hrow)
      have hKp : (Value.slice A acc.length cap).ownBlock.toList = [] ∨ ∃ g, (Value.slice A acc.length cap).ownBlock = some g ∧ w.heap.size + 1 ≤ g := by
        cases ho : (Value.slice A acc.length cap).ownBlock with
        | none => exact .inl rfl
        | some g => exact .inr ⟨g, rfl, (hrow.lt g ho).1⟩
      have HKP := hide hKp
      have hfin : acc.mergeSort = ((l.filter (fun p => p.2.call == number)).map (·.1)).mergeSort := by
        have hpe := HP.out
        rw [ofCall_end number l left hl0] at hpe
        exact mergeSort_perm hpe
      have HFI := hide hfin
      clear hfin hKp HP
      go_wp2_with fail
      refine HS.out.mono ?_
      rintro e w3 ⟨rfl, hr3, hk3⟩
      go_wp2_with fail
      go_ret
      refine ⟨_, rfl, ?_, ?_⟩
      · rw [← HFI.out]
        exact hr3.base (Nat.le_succ _)
      · refine hb.trans ⟨hk3.os, hk3.tape, hk3.output, hk3.size, fun k hk => hk3.block k (Nat.lt_of_lt_of_le hk hsz) ?_⟩
        rcases HKP.out with h | ⟨g, h, hg⟩
        · rw [h]; simp
        · rw [h]
          simp
          omega
    · intro x c w1 cnt1 hwx hlx hmg hrg1 hlt hg1 hs1 hen
      obtain ⟨pc, hpm, hpx, hpv⟩ := mget_attL hmg
      have hpc : (x, c) ∈ l := by
        obtain ⟨p1, p2⟩ := pc
        obtain rfl : p1 = x := hpx
        have : c = p2 := by
          unfold attV at hpv
          cases c
          cases p2
          simpa using hpv
        rw [this]
        exact hpm
      have HST := hide (ofCall_step number left l x c HN.out hpc hlx)
      have hb1 : Below w.heap.size w w1 := hb.grown hg1 hsz (fun k hk => by cases hk; exact Nat.le_refl _)
      have hrow1 := hrow.kept hg1 (by
        cases ho : u5.ownBlock with
        | none => exact .inl rfl
        | some g => exact .inr (fun e => by have := (hrow.lt g ho).1; cases e; omega))
      have cN1 : w1.cell? ⟨q, 0, none⟩ = some (.int .i64 number) := (hb1.cell lq).trans cN
      have lq1 : q < w1.heap.size := by omega
      have hle1 : wr.heap.size = w1.heap.size := hs1.symm
      have hmeas : w1.rangeLeft b w.heap.size < wr.rangeLeft b w.heap.size := by rw [hrg1.left_eq, hrg.left_eq]; exact hlt
      have HME := hide hmeas
      clear hrow hg1 hmg hpm hpx hpv hpc cN' hrg hle1 hs1 hsz hmeas
      cases hd : c.call == number with
      | true =>
        rw [hd] at HST
        go_wp2_with fail
        go_quiet (fail)
        have hrg2 := ((hrg1.alloc (.cells #[.int .i64 c.call, .int .i64 c.launched] 111)).kept (grown_drewN _ nq) (by simp) (by simp))
        have hrow2 := (hrow1.below ((Below.refl _ _).alloc (Nat.le_refl _) (.cells #[.int .i64 c.call, .int .i64 c.launched] 111))).kept (grown_drewN _ nq) (by cases u5.ownBlock <;> simp)
        have hb2 : Below w.heap.size w ((w1.alloc (.cells #[.int .i64 c.call, .int .i64 c.launched] 111)).drewN nq) := (hb1.alloc hb1.size _).trans ⟨rfl, rfl, rfl, Nat.le_refl _, fun _ _ => rfl⟩
        have hsz2 : w.heap.size + 1 ≤ ((w1.alloc (.cells #[.int .i64 c.call, .int .i64 c.launched] 111)).drewN nq).heap.size := by
          have := hb1.size
          have h8 : ((w1.alloc (.cells #[.int .i64 c.call, .int .i64 c.launched] 111)).drewN nq).heap.size = w1.heap.size + 1 := World.size_alloc _ _
          omega
        generalize (w1.alloc (.cells #[.int .i64 c.call, .int .i64 c.launched] 111)).drewN nq = W2 at hrg2 hrow2 hb2 hsz2 ⊢
        clear hrow1 hb1 cN1 lq1 hen
        go_wp2_with (first
          | (at_builtin; refine wpList_append_lies _ (by rfl) _ _ _ (by rfl) (w.heap.size + 1) 3 i0 _ 1 8 Tryz.underlying45 hi0 z0 z1 z2 rfl (by omega) u5 acc.length (acc.flatMap encI) (by rfl) (World.ownsRow.alloc hrow2 _) ⟨W2.heap.size, 0, none⟩ 1 1 (encI x) (by rfl) (by rfl) (World.news_of_block (cs := (encI x).toArray) (t := 3) (fr := (0, 0)) (heap_alloc_new W2 _)) (by simp [Value.oneCell', encI]) (by omega) (by simp only [maxLen]; omega) (by omega) (by simp <;> omega) (W2.heap.size + 1) (by simp) ?_; intro g cap w3 hown hgrow hat hlt1))
        have hgr3 : W2.grownBy w3 u5.ownBlock := (World.grownBy_alloc W2 _ _).trans hgrow
        have hrg3 := hrg2.kept hgr3 (fun e => by have := (hrow2.lt b e.symm).1; omega) (fun e => by have := (hrow2.lt _ e.symm).1; omega)
        have hb3 : Below w.heap.size w w3 := hb2.grown hgr3 (by omega) (fun k hk => by have := (hrow2.lt k hk).1; omega)
        go_roundw
        case rel =>
          refine ⟨_, cnt1, acc ++ [x], hrg3, ?_, ?_, hb3⟩
          · have := hrow2.push (x := x) hown
            simpa using this
          · exact (HP.out.append_right [x]).trans (HST.out.trans (by simp)).symm
        case measure =>
          rw [hrg3.left_eq, ← hrg1.left_eq]
          exact HME.out
      | false =>
        rw [hd] at HST
        go_wp2_with fail
        go_quiet (fail)
        have hrg2 := ((hrg1.alloc (.cells #[.int .i64 c.call, .int .i64 c.launched] 111)).kept (grown_drewN _ nq) (by simp) (by simp))
        have hrow2 := (hrow1.below ((Below.refl _ _).alloc (Nat.le_refl _) (.cells #[.int .i64 c.call, .int .i64 c.launched] 111))).kept (grown_drewN _ nq) (by cases u5.ownBlock <;> simp)
        have hb2 : Below w.heap.size w ((w1.alloc (.cells #[.int .i64 c.call, .int .i64 c.launched] 111)).drewN nq) := (hb1.alloc hb1.size _).trans ⟨rfl, rfl, rfl, Nat.le_refl _, fun _ _ => rfl⟩
        have hsz2 : w.heap.size + 1 ≤ ((w1.alloc (.cells #[.int .i64 c.call, .int .i64 c.launched] 111)).drewN nq).heap.size := by
          have := hb1.size
          have h8 : ((w1.alloc (.cells #[.int .i64 c.call, .int .i64 c.launched] 111)).drewN nq).heap.size = w1.heap.size + 1 := World.size_alloc _ _
          omega
        generalize (w1.alloc (.cells #[.int .i64 c.call, .int .i64 c.launched] 111)).drewN nq = W2 at hrg2 hrow2 hb2 hsz2 ⊢
        clear hrow1 hb1 cN1 lq1 hen
        go_wp2_with fail
        go_roundw
        case rel =>
          refine ⟨_, cnt1, acc, hrg2, hrow2, (HP.out.trans ?_), hb2⟩
          exact (HST.out.trans (by simp)).symm
        case measure =>
          rw [hrg2.left_eq, ← hrg1.left_eq]
          exact HME.out
end Go.Proofs.YtlccfpbbdgpjbaaGreatDoor
