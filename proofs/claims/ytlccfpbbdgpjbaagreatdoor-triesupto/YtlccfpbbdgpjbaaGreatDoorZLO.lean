import Derived.Test.YtlccfpbbdgpjbaaGreatDoorLStep
import Derived.Test.YtlccfpbbdgpjbaaGreatDoorZLR
import Derived.Test.YtlccfpbbdgpjbaaGreatDoorRef
import Derived.Test.YtlccfpbbdgpjbaaGreatDoorPNew
import Derived.Test.YtlccfpbbdgpjbaaGreatDoorKConf
import Derived.Test.YtlccfpbbdgpjbaaGreatDoorZBuck
namespace Go.Proofs.YtlccfpbbdgpjbaaGreatDoor
open Go.RowKit
attribute [local go_sem ↓] Go.wp_at_zero Go.wp_at_succ

theorem Chg.after {S : Ix → Prop} {E : Nat → Prop} {w0 w w' : World} {L L' : LV} (hb : Below w0.heap.size w0 w) (h : Chg S E w L w' L') : Chg S E w0 L w' L' :=
  ⟨h.os.trans hb.os, h.tape.trans hb.tape, h.output.trans hb.output, Nat.le_trans hb.size h.size, fun k hk hn hE => (h.block k (Nat.lt_of_lt_of_le hk hb.size) hn hE).trans (hb.block k hk), h.same, fun i hi k hk => (h.news i hi k hk).imp id (fun x => x.imp id (fun y => Nat.le_trans hb.size y))⟩
/-- A block that is none of the World's stays, and stays none's. -/
theorem Chg.lone {S : Ix → Prop} {E : Nat → Prop} {w w' : World} {L L' : LV} (h : Chg S E w L w' L') {q : Nat} (hq : q < w.heap.size) (hf : ∀ i, ¬ lown L i q) (hE : ¬ E q) : w'.heap[q]? = w.heap[q]? ∧ ∀ i, ¬ lown L' i q := by
  refine ⟨h.block q hq (fun i _ => hf i) hE, fun i hi => ?_⟩
  by_cases hs : S i
  · rcases h.news i hs q hi with ⟨j, _, hj⟩ | hj | hj
    · exact hf j hj
    · exact hE hj
    · omega
  · exact hf i (h.same i hs q hi)

theorem Bes.fresh {L : LV} {N : Int} (h : Bes L N) {k : Nat} {c : Cl} (hk : L.cs[k]? = some c) (U' : V6) :
    Bes { L with cs := L.cs.set k { c with r := { c.r with units := c.r.fresh }, U := U' } } (N + 1) := fun j d hd => by
  have hl : k < L.cs.length := (List.getElem?_eq_some_iff.1 hk).1
  by_cases ej : j = k
  · subst ej
    rw [List.getElem?_set_self hl] at hd
    cases hd
    have := h j c hk
    exact Beside2.mono ⟨this.sim.toFresh, this.inv, this.sp, this.st⟩ (by omega)
  · rw [List.getElem?_set_ne (Ne.symm ej)] at hd
    exact (h j d hd).mono (by omega)

theorem lt_nodup {l : List (Int × PAtt)} (h : l.Pairwise (fun a b => a.1 < b.1)) : (l.map (·.1)).Nodup := by
  rw [List.nodup_iff_pairwise_ne, List.pairwise_map]
  exact h.imp fun h => by omega

set_option maxRecDepth 100000 in
set_option maxHeartbeats 16000000 in
theorem stood_any {W w : World} {L : LV} {N : Int} (h : Law W w L N) (hB : Bes L N) (hN : N ≤ 55000) (k : Nat) {c : Cl} (hk : L.cs[k]? = some c) :
    Calls Tryz.prog 31 #[.pointer (some ⟨L.G, 0, none⟩), .int .i64 (k : Int)] w fun ex w' => ex = .returned (.bool true) ∧ ∃ L', Law W w' L' (N + 1) ∧ Bes L' (N + 1) ∧ L'.G = L.G ∧ L'.cs.length = L.cs.length := by
  have hl : k < L.cs.length := (List.getElem?_eq_some_iff.1 hk).1
  have hl3 : L.cs.length ≤ 3 := h.cl
  have hki : (k : Int) < (L.cs.length : Int) := by omega
  have hbc := hB k c hk
  have hsim := hbc.sim
  have hinv := hbc.inv
  have hWw : W.heap.size ≤ w.heap.size := h.below.size
  have hfree : ∀ q, w.heap.size ≤ q → ∀ i, ¬ lown L i q := fun q hq i hi => by have := says_lt i (h.says i) _ hi; omega
  have HST := hide (rep_state2 ((h.says (.pr k)) c hk) hinv (by omega))
  have e1 : c.r.calls.map (·.number) = c.s.calls.map (·.number) := by rw [hsim.calls, List.map_map]; rfl
  have e2 : c.r.atts.map (·.number) = c.s.atts.map (·.1) := by rw [hsim.atts, List.map_map]; rfl
  have hcN : (c.s.calls.length : Int) ≤ 8 := by have := hinv.cl; have := hinv.cfg.f1; omega
  have haN : (c.s.atts.length : Int) ≤ 13 * N := hinv.aN
  have hrc : c.r.calls.length = c.s.calls.length := by rw [hsim.calls, List.length_map]
  have hra : c.r.atts.length = c.s.atts.length := by rw [hsim.atts, List.length_map]
  have hul := hsim.ul
  have HRS := hide (fun w' (hR : Rep w' c.y c.r c.U) => rstate_any c.y c.r c.U w' hR (by omega) (by omega) (by omega) hsim.uo (by rw [hsim.now]; exact hinv.n0) (by rw [hsim.now]; exact hinv.n1) (by rw [e1]; exact hinv.nd) (by rw [e2]; exact lt_nodup hsim.as_))
  generalize hrF : St.mk c.r.cfg c.r.now c.r.calls c.r.atts c.r.numbers c.r.timers c.r.fresh c.r.times c.r.stale c.r.out = rF at HRS
  rw [e1, e2, hsim.now, hsim.sum, hsim.stale, hsim.times, show c.r.timers.length = c.s.timers.length by rw [hsim.timers, List.length_map]] at HRS
  have lc : ((c.s.calls.map (·.number)).mergeSort.length : Int) ≤ 1440000000000 := by rw [List.length_mergeSort, List.length_map]; omega
  have la : ((c.s.atts.map (·.1)).mergeSort.length : Int) ≤ 1440000000000 := by rw [List.length_mergeSort, List.length_map]; omega
  have HBF := hide (fun U' => show Bes { L with cs := L.cs.set k { c with r := rF, U := U' } } (N + 1) from by rw [← hrF]; exact hB.fresh hk U')
  clear hrF
  generalize (c.s.calls.map (·.number)).mergeSort = lC at HST HRS lc
  generalize (c.s.atts.map (·.1)).mergeSort = lA at HST HRS la
  obtain ⟨gx, capx, hvx, q0, qx, lx⟩ := h.xat hk
  have HLAW := hide h
  have hnl := h.nl
  have HFREE := hide hfree
  clear h hB hbc hsim hinv hfree e1 e2 hrc hra hul
  generalize c.s.now = z0 at HST HRS
  generalize sumB c.s.units = z1 at HST HRS
  generalize (c.s.timers.length : Int) = z4 at HST HRS
  generalize (c.s.times.length : Int) = z5 at HST HRS
  generalize c.s.stale = z6 at HST HRS
  go_enter Tryz.func31, Tryz.ntmps31
  go_wp2_with fail
  refine HST.out.mono ?_
  rintro ex w1 ⟨vc, va, rfl, rc1, ra1, hb1, hap⟩
  obtain ⟨Ac, capc, hvc, -, -, -⟩ := rc1.form
  obtain ⟨Aa, capa, hva, -, -, -⟩ := ra1.form
  subst hvc
  subst hva
  have hbA := hb1.alloc hb1.size (.cells #[.int .i64 z0, .int .i64 z1, .slice Ac lC.length capc, .slice Aa lA.length capa, .int .i64 z4, .int .i64 z5, .int .i64 z6] 64)
  have hAb : Below w1.heap.size w1 (w1.alloc (.cells #[.int .i64 z0, .int .i64 z1, .slice Ac lC.length capc, .slice Aa lA.length capa, .int .i64 z4, .int .i64 z5, .int .i64 z6] 64)) := (Below.refl _ _).alloc (Nat.le_refl _) _
  have rcA := rc1.below hAb
  have raA := ra1.below hAb
  have hLA := HLAW.out.on hbA
  have bA0 := heap_alloc_new w1 (.cells #[.int .i64 z0, .int .i64 z1, .slice Ac lC.length capc, .slice Aa lA.length capa, .int .i64 z4, .int .i64 z5, .int .i64 z6] 64)
  have lbA : w1.heap.size < (w1.alloc (.cells #[.int .i64 z0, .int .i64 z1, .slice Ac lC.length capc, .slice Aa lA.length capa, .int .i64 z4, .int .i64 z5, .int .i64 z6] 64)).heap.size := by simp
  have hbs := hb1.size
  have vcb : ∀ q, (Value.slice Ac lC.length capc).ownBlock = some q → w.heap.size + 1 ≤ q ∧ q < w1.heap.size := fun q e => rc1.lt q e
  have vab : ∀ q, (Value.slice Aa lA.length capa).ownBlock = some q → w.heap.size + 1 ≤ q ∧ q < w1.heap.size := fun q e => ra1.lt q e
  have HRD := hide (HRS.out _ (hLA.says (.dr k) c hk))
  obtain ⟨gy, capy, hvy, q1, qy, ly⟩ := hLA.yat hk
  clear HST HRS q0 qx lx hvx rc1 ra1 hb1 hbA hAb HLAW
  go_wp2_with fail
  generalize (w1.alloc (.cells #[.int .i64 z0, .int .i64 z1, .slice Ac lC.length capc, .slice Aa lA.length capa, .int .i64 z4, .int .i64 z5, .int .i64 z6] 64)) = wA at rcA raA hLA bA0 lbA HRD q1 qy ly ⊢
  generalize w1.heap.size = bA at bA0 lbA hbs vcb vab ⊢
  have HLA := hide hLA
  have HRCA := hide rcA
  have HRAA := hide raA
  clear hLA rcA raA
  refine HRD.out.mono ?_
  rintro ex w2 ⟨vc', va', U', rfl, rc2, ra2, hR2, hM2, -, -⟩
  obtain ⟨Ac', capc', hvc, -, -, -⟩ := rc2.form
  obtain ⟨Aa', capa', hva, -, -, -⟩ := ra2.form
  subst hvc
  subst hva
  obtain ⟨hch2, hL2⟩ := HLA.out.doc hk (r' := rF) (U' := U') hR2 hM2
  have fc : Free L (.slice Ac lC.length capc) := fun q e => HFREE.out q (by have := (vcb q e).1; omega)
  have fa : Free L (.slice Aa lA.length capa) := fun q e => HFREE.out q (by have := (vab q e).1; omega)
  have rcB := hch2.row HRCA.out fc (fun _ _ h => h)
  have raB := hch2.row HRAA.out fa (fun _ _ h => h)
  have fc2 := hch2.free fc (fun q e => ⟨(HRCA.out.lt q e).2, fun h => h⟩)
  have fa2 := hch2.free fa (fun q e => ⟨(HRAA.out.lt q e).2, fun h => h⟩)
  obtain ⟨bA2, fA2⟩ := hch2.lone lbA (HFREE.out bA hbs) (fun h => h)
  have bAw := bA2.trans bA0
  have s2 := hch2.size
  have hAb : Below w2.heap.size w2 (w2.alloc (.cells #[.int .i64 z0, .int .i64 z1, .slice Ac' lC.length capc', .slice Aa' lA.length capa', .int .i64 z4, .int .i64 z5, .int .i64 z6] 64)) := (Below.refl _ _).alloc (Nat.le_refl _) _
  have hL3 := hL2.on hAb
  have fB3 : ∀ i, ¬ lown { L with cs := L.cs.set k { c with r := rF, U := U' } } i w2.heap.size := fun i hi => by have := says_lt i (hL2.says i) _ hi; omega
  have bAw3 := (hAb.block bA (by omega)).trans bAw
  have bBw3 := heap_alloc_new w2 (.cells #[.int .i64 z0, .int .i64 z1, .slice Ac' lC.length capc', .slice Aa' lA.length capa', .int .i64 z4, .int .i64 z5, .int .i64 z6] 64)
  have lbB : w2.heap.size < (w2.alloc (.cells #[.int .i64 z0, .int .i64 z1, .slice Ac' lC.length capc', .slice Aa' lA.length capa', .int .i64 z4, .int .i64 z5, .int .i64 z6] 64)).heap.size := by simp
  have rcC := rcB.below hAb
  have raC := raB.below hAb
  have rcC' := rc2.below hAb
  have raC' := ra2.below hAb
  have HBF2 := hide (HBF.out U')
  have lbA2 : bA < w2.heap.size := by omega
  clear HRD HLA hvy q1 qy ly hch2 hL2 fc fa rcB raB rc2 ra2 hR2 hM2 HRCA HRAA bA2 bAw bA0 HBF hAb
  go_upto_region 3 with fail
  generalize (w2.alloc (.cells #[.int .i64 z0, .int .i64 z1, .slice Ac' lC.length capc', .slice Aa' lA.length capa', .int .i64 z4, .int .i64 z5, .int .i64 z6] 64)) = w3 at hL3 bAw3 bBw3 lbB rcC raC rcC' raC' ⊢
  generalize w2.heap.size = bB at fB3 bBw3 lbB lbA2 ⊢
  have HL3 := hide hL3
  have HBA := hide bAw3
  have HBB := hide bBw3
  have HRC := hide rcC
  have HRA := hide raC
  have HRA' := hide raC'
  have HS1 := hide (same_any w3 _ _ lC rcC rcC' (by omega))
  have p2 : w3.cell? ⟨bA, 2, none⟩ = some (.slice Ac lC.length capc) := cell_of_row w3 bA 2 _ _ _ bAw3
  have p2' : w3.cell? ⟨bB, 2, none⟩ = some (.slice Ac' lC.length capc') := cell_of_row w3 bB 2 _ _ _ bBw3
  clear hL3 bAw3 bBw3 rcC raC rcC' raC'
  go_wp2_with fail
  refine HS1.out.mono ?_
  rintro ex w4 ⟨rfl, hb4⟩
  have HBA4 := hide ((hb4.block bA (Nat.lt_trans lbA2 lbB)).trans HBA.out)
  have HBB4 := hide ((hb4.block bB lbB).trans HBB.out)
  have HRC4 := hide (HRC.out.below hb4)
  have HRA4 := hide (HRA.out.below hb4)
  have HL4 := hide (HL3.out.on hb4)
  have HS2 := hide (same_any w4 _ _ lA (HRA.out.below hb4) (HRA'.out.below hb4) (by omega))
  have lbB4 : bB < w4.heap.size := Nat.lt_of_lt_of_le lbB hb4.size
  clear p2 p2' HS1 HBA HBB HRC HRA HRA' HL3 hb4 lbB
  have p3 : w4.cell? ⟨bA, 3, none⟩ = some (.slice Aa lA.length capa) := cell_of_row w4 bA 3 _ _ _ HBA4.out
  have p3' : w4.cell? ⟨bB, 3, none⟩ = some (.slice Aa' lA.length capa') := cell_of_row w4 bB 3 _ _ _ HBB4.out
  go_wp2_with fail
  refine HS2.out.mono ?_
  rintro ex w5 ⟨rfl, hb5⟩
  have HBA5 := hide ((hb5.block bA (Nat.lt_trans lbA2 lbB4)).trans HBA4.out)
  have HBB5 := hide ((hb5.block bB lbB4).trans HBB4.out)
  have HRC5 := hide (HRC4.out.below hb5)
  have HRA5 := hide (HRA4.out.below hb5)
  have hL5 := HL4.out.on hb5
  have lbB5 : bB < w5.heap.size := Nat.lt_of_lt_of_le lbB4 hb5.size
  have lbA5 : bA < w5.heap.size := Nat.lt_trans lbA2 lbB5
  clear p3 p3' HS2 HBA4 HBB4 HRC4 HRA4 HL4 hb5 lbB4
  have HL5 := hide hL5
  have HI1 := hide (fun w' (hb : Below w5.heap.size w5 w') => (ints_any (hL5.on hb) (N' := N + 1) (by omega) (HRC5.out.below hb) (show W.heap.size ≤ w.heap.size + 1 by omega) fc2 lc (by show (L.is.length : Int) + L.ac.length + 1 ≤ _; omega)).mono (R' := fun ex w'' => ex = .returned (.tuple #[]) ∧ ∃ L', Law W w'' L' (N + 1) ∧ L'.G = L.G ∧ L'.cs = ({ L with cs := L.cs.set k { c with r := rF, U := U' } }).cs ∧ L'.ac = L.ac ∧ L'.is.length = L.is.length + 1 ∧ Chg (fun i => i = .hd ∨ i = .ri ∨ i = .li L.is.length) (fun q => (Value.slice Ac lC.length capc).ownBlock = some q) w5 ({ L with cs := L.cs.set k { c with r := rF, U := U' } }) w'' L') (fun ex w'' ⟨h1, L', h2, h3, h4, h5, h6, h7⟩ => ⟨h1, L', h2, h3, h4, h5, h6, h7.after hb⟩))
  have p2 : w5.cell? ⟨bA, 2, none⟩ = some (.slice Ac lC.length capc) := cell_of_row w5 bA 2 _ _ _ HBA5.out
  clear hL5
  go_wp2_with fail
  go_cut [] (fun wx => ∃ L', Law W wx L' (N + 1) ∧ L'.G = L.G ∧ L'.cs = ({ L with cs := L.cs.set k { c with r := rF, U := U' } }).cs ∧ L'.ac = L.ac ∧ L'.is.length = L.is.length + 1 ∧ Chg (fun i => i = .hd ∨ i = .ri ∨ i = .li L.is.length) (fun q => (Value.slice Ac lC.length capc).ownBlock = some q) w5 ({ L with cs := L.cs.set k { c with r := rF, U := U' } }) wx L')
  case first =>
    as_aux_lemma =>
      go_region_with (first
        | (go_at_call 56; refine (HI1.out _ (by first | exact (Below.refl _ _).drew | exact Below.refl _ _)).mono ?_; rintro ee w9 ⟨rfl, hg⟩; have HG := hide hg; clear hg))
      all_goals
        go_wp2_with fail
        go_meet
        exact HG.out
  case rest =>
    obtain ⟨L6, hL6, hG6, hcs6, hac6, his6, hch6⟩ := hcut
    rename World => w6
    clear HI1 p2
    obtain ⟨bA6, fA6⟩ := hch6.lone lbA5 fA2 (fun e => by have := (vcb bA e).2; omega)
    obtain ⟨bB6, -⟩ := hch6.lone lbB5 fB3 (fun e => by have := (vcb bB e).2; omega)
    have HBA6 := hide (bA6.trans HBA5.out)
    have HBB6 := hide (bB6.trans HBB5.out)
    have ra6 := hch6.row HRA5.out fa2 (fun q e e' => hap q e e')
    have fa6 := hch6.free fa2 (fun q e => ⟨(HRA5.out.lt q e).2, fun e' => hap q e e'⟩)
    have s6 := hch6.size
    have HI2 := hide (fun w' (hb : Below w6.heap.size w6 w') => (ints_any (hL6.on hb) (N' := N + 1) (by omega) (ra6.below hb) (show W.heap.size ≤ w.heap.size + 1 by omega) fa6 la (by rw [his6, hac6]; push_cast; omega)).mono (R' := fun ex w'' => ex = .returned (.tuple #[]) ∧ ∃ L', Law W w'' L' (N + 1) ∧ L'.G = L6.G ∧ L'.cs = L6.cs ∧ Chg (fun i => i = .hd ∨ i = .ri ∨ i = .li L6.is.length) (fun q => (Value.slice Aa lA.length capa).ownBlock = some q) w6 L6 w'' L') (fun ex w'' ⟨h1, L', h2, h3, h4, h5, h6, h7⟩ => ⟨h1, L', h2, h3, h4, h7.after hb⟩))
    rw [hG6] at HI2
    obtain ⟨-, fB6⟩ := hch6.lone lbB5 fB3 (fun e => by have := (vcb bB e).2; omega)
    have p3 : w6.cell? ⟨bA, 3, none⟩ = some (.slice Aa lA.length capa) := cell_of_row w6 bA 3 _ _ _ HBA6.out
    clear hL6 hch6 bA6 bB6 ra6 fa6 HL5 HRC5 HRA5 HBA5 HBB5
    have lbA6 : bA < w6.heap.size := by omega
    have lbB6 : bB < w6.heap.size := by omega
    go_wp2_with fail
    go_cut [] (fun wx => ∃ L', Law W wx L' (N + 1) ∧ L'.G = L.G ∧ L'.cs = L6.cs ∧ Chg (fun i => i = .hd ∨ i = .ri ∨ i = .li L6.is.length) (fun q => (Value.slice Aa lA.length capa).ownBlock = some q) w6 L6 wx L')
    case first =>
      as_aux_lemma =>
        go_region_with (first
          | (go_at_call 56; refine (HI2.out _ (by first | exact (Below.refl _ _).drew | exact Below.refl _ _)).mono ?_; rintro ee w9 ⟨rfl, hg⟩; have HG := hide hg; clear hg))
        all_goals
          go_wp2_with fail
          go_meet
          exact HG.out
    case rest =>
      obtain ⟨L7, hL7, hG7, hcs7, hch7⟩ := hcut
      rename World => w7
      obtain ⟨bA7, -⟩ := hch7.lone lbA6 fA6 (fun e => by have := (vab bA e).2; omega)
      obtain ⟨bB7, -⟩ := hch7.lone lbB6 fB6 (fun e => by have := (vab bB e).2; omega)
      have bAF := bA7.trans HBA6.out
      have bBF := bB7.trans HBB6.out
      have n0 : w7.cell? ⟨bA, 0, none⟩ = some (.int .i64 z0) := cell_of_row w7 bA 0 _ _ _ bAF
      have n1 : w7.cell? ⟨bA, 1, none⟩ = some (.int .i64 z1) := cell_of_row w7 bA 1 _ _ _ bAF
      have n4 : w7.cell? ⟨bA, 4, none⟩ = some (.int .i64 z4) := cell_of_row w7 bA 4 _ _ _ bAF
      have n5 : w7.cell? ⟨bA, 5, none⟩ = some (.int .i64 z5) := cell_of_row w7 bA 5 _ _ _ bAF
      have n6 : w7.cell? ⟨bA, 6, none⟩ = some (.int .i64 z6) := cell_of_row w7 bA 6 _ _ _ bAF
      have m0 : w7.cell? ⟨bB, 0, none⟩ = some (.int .i64 z0) := cell_of_row w7 bB 0 _ _ _ bBF
      have m1 : w7.cell? ⟨bB, 1, none⟩ = some (.int .i64 z1) := cell_of_row w7 bB 1 _ _ _ bBF
      have m4 : w7.cell? ⟨bB, 4, none⟩ = some (.int .i64 z4) := cell_of_row w7 bB 4 _ _ _ bBF
      have m5 : w7.cell? ⟨bB, 5, none⟩ = some (.int .i64 z5) := cell_of_row w7 bB 5 _ _ _ bBF
      have m6 : w7.cell? ⟨bB, 6, none⟩ = some (.int .i64 z6) := cell_of_row w7 bB 6 _ _ _ bBF
      have HE : Hid (∃ L', Law W w7 L' (N + 1) ∧ Bes L' (N + 1) ∧ L'.G = L.G ∧ L'.cs.length = L.cs.length) := ⟨L7, hL7, fun j d hd => HBF2.out j d (by rw [hcs7, hcs6] at hd; exact hd), hG7, by rw [hcs7, hcs6]; simp⟩
      clear hL7 hG7 hcs7 hcs6 hch7 bA7 bB7 bAF bBF HBA6 HBB6 HI2 p3
      go_wp2_with fail
      go_ret
      exact ⟨rfl, HE.out⟩
end Go.Proofs.YtlccfpbbdgpjbaaGreatDoor

namespace Go.Proofs.YtlccfpbbdgpjbaaGreatDoor
open Go.RowKit

def initR (c : Cfg) : St := ⟨c, 0, [], [], 0, [], [], [], 0, []⟩
def V0 : V6 := ⟨.slice none 0 0, .slice none 0 0, .slice none 0 0, .slice none 0 0, .slice none 0 0, .slice none 0 0⟩
theorem own_init {x k : Nat} (h : own x V0 k) : k = x := by
  obtain ⟨i, hi⟩ := h
  match i, hi with
  | 0, hi => simp [blk] at hi; exact hi.symm
  | 1, hi => simp [blk, V0, Value.ownBlock] at hi
  | 2, hi => simp [blk, V0, Value.ownBlock] at hi
  | 3, hi => simp [blk, V0, Value.ownBlock] at hi
  | 4, hi => simp [blk, V0, Value.ownBlock] at hi
  | 5, hi => simp [blk, V0, Value.ownBlock] at hi
  | 6, hi => simp [blk, V0, Value.ownBlock] at hi
  | n + 7, hi => simp [blk] at hi
theorem rrep_init {W : World} {x : Nat} {t : TypeId} (c : Cfg) (hb : W.heap[x]? = some (.cells #[.int .i64 c.deposit, .int .i64 c.cost, .int .i64 c.cap, .int .i64 c.window, .int .i64 c.attempts, .int .i64 c.flight, .int .i64 c.base, .int .i64 c.most, .int .i64 c.rank, .int .i64 c.samples, .int .i64 0, .slice none 0 0, .slice none 0 0, .int .i64 0, .slice none 0 0, .slice none 0 0, .slice none 0 0, .int .i64 0, .slice none 0 0] t (0, 0))) : Rep W x (initR c) V0 := by
  have hc : ∀ j, W.cell? ⟨x, j, none⟩ = _ := fun j => cell_of_row W x j _ t (0, 0) hb
  refine ⟨hc 0, hc 1, hc 2, hc 3, hc 4, hc 5, hc 6, hc 7, hc 8, hc 9, hc 10, hc 13, hc 17, hc 11, hc 12, hc 14, hc 15, hc 16, hc 18, fun j _ => by simp [World.frozen?, hb], Row.nil _ _ _ _ _, Row.nil _ _ _ _ _, Row.nil _ _ _ _ _, Row.nil _ _ _ _ _, RowM.nil _, Row.nil _ _ _ _ _, ?_⟩
  intro i j hij k hi hj
  have e1 := own_init (x := x) ⟨i, hi⟩
  match i, j, hij, hi, hj with
  | 0, 0, hij, _, _ => exact hij rfl
  | 0, 1, _, _, hj => simp [blk, V0, Value.ownBlock] at hj
  | 0, 2, _, _, hj => simp [blk, V0, Value.ownBlock] at hj
  | 0, 3, _, _, hj => simp [blk, V0, Value.ownBlock] at hj
  | 0, 4, _, _, hj => simp [blk, V0, Value.ownBlock] at hj
  | 0, 5, _, _, hj => simp [blk, V0, Value.ownBlock] at hj
  | 0, 6, _, _, hj => simp [blk, V0, Value.ownBlock] at hj
  | 0, n + 7, _, _, hj => simp [blk] at hj
  | 1, _, _, hi, _ => simp [blk, V0, Value.ownBlock] at hi
  | 2, _, _, hi, _ => simp [blk, V0, Value.ownBlock] at hi
  | 3, _, _, hi, _ => simp [blk, V0, Value.ownBlock] at hi
  | 4, _, _, hi, _ => simp [blk, V0, Value.ownBlock] at hi
  | 5, _, _, hi, _ => simp [blk, V0, Value.ownBlock] at hi
  | 6, _, _, hi, _ => simp [blk, V0, Value.ownBlock] at hi
  | n + 7, _, _, hi, _ => simp [blk] at hi

set_option maxHeartbeats 1600000 in
theorem rnew_fine2 (a b c d e f g h i j : Int) (w : World) (h0 : inB a 0 1000 = true) (h1 : inB b 1 1000 = true) (h2 : inB c 0 1000 = true) (h3 : inB d 1 10000 = true) (h4 : inB g 1 10000 = true) (h5 : inB h g 10000 = true) (h6 : inB e 1 6 = true) (h7 : inB f 1 8 = true) (h8 : inB i 1 100 = true) (h9 : inB j 0 32 = true) :
    Calls Tryz.prog 27 #[.agg #[.int .i64 a, .int .i64 b, .int .i64 c, .int .i64 d, .int .i64 e, .int .i64 f, .int .i64 g, .int .i64 h, .int .i64 i, .int .i64 j]] w fun ev w' => ∃ y U, ev = .returned (.tuple #[.pointer (some ⟨y, 0, none⟩), .int .i64 0]) ∧ Rep w' y (initR ⟨a, b, c, d, e, f, g, h, i, j⟩) U ∧ Below w.heap.size w w' ∧ (∀ k, own y U k → w.heap.size ≤ k) := by
  have H0 : Hid (inB a 0 1000 = true) := h0
  have H1 : Hid (inB b 1 1000 = true) := h1
  have H2 : Hid (inB c 0 1000 = true) := h2
  have H3 : Hid (inB d 1 10000 = true) := h3
  have H4 : Hid (inB g 1 10000 = true) := h4
  have H5 : Hid (inB h g 10000 = true) := h5
  have H6 : Hid (inB e 1 6 = true) := h6
  have H7 : Hid (inB f 1 8 = true) := h7
  have H8 : Hid (inB i 1 100 = true) := h8
  have H9 : Hid (inB j 0 32 = true) := h9
  clear h0 h1 h2 h3 h4 h5 h6 h7 h8 h9
  go_enter Tryz.func27, Tryz.ntmps27
  go_wp2_with fail
  refine (wref_yes _ _ _ _ H0.out).mono ?_
  rintro ev w' ⟨rfl, rfl⟩
  go_wp2_with fail
  refine (wref_yes _ _ _ _ H1.out).mono ?_
  rintro ev w' ⟨rfl, rfl⟩
  go_wp2_with fail
  refine (wref_yes _ _ _ _ H2.out).mono ?_
  rintro ev w' ⟨rfl, rfl⟩
  go_wp2_with fail
  refine (wref_yes _ _ _ _ H3.out).mono ?_
  rintro ev w' ⟨rfl, rfl⟩
  go_wp2_with fail
  refine (wref_yes _ _ _ _ H4.out).mono ?_
  rintro ev w' ⟨rfl, rfl⟩
  go_wp2_with fail
  refine (wref_yes _ _ _ _ H5.out).mono ?_
  rintro ev w' ⟨rfl, rfl⟩
  go_wp2_with fail
  refine (wref_yes _ _ _ _ H6.out).mono ?_
  rintro ev w' ⟨rfl, rfl⟩
  go_wp2_with fail
  refine (wref_yes _ _ _ _ H7.out).mono ?_
  rintro ev w' ⟨rfl, rfl⟩
  go_wp2_with fail
  refine (wref_yes _ _ _ _ H8.out).mono ?_
  rintro ev w' ⟨rfl, rfl⟩
  go_wp2_with fail
  refine (wref_yes _ _ _ _ H9.out).mono ?_
  rintro ev w' ⟨rfl, rfl⟩
  go_wp2_with fail
  go_ret2
  refine ⟨_, V0, rfl, rrep_init (t := 121) ⟨a, b, c, d, e, f, g, h, i, j⟩ (block_two _ _ _), ((Below.refl _ _).alloc (Nat.le_refl _) _).alloc (by simp) _, ?_⟩
  intro k hk
  rw [own_init hk]
  omega

theorem rnew_full (a b c d e f g h i j : Int) (w : World) (hk : cfgErr a b c d e f g h i j = 0) :
    Calls Tryz.prog 27 #[.agg #[.int .i64 a, .int .i64 b, .int .i64 c, .int .i64 d, .int .i64 e, .int .i64 f, .int .i64 g, .int .i64 h, .int .i64 i, .int .i64 j]] w fun ev w' => ∃ y U, ev = .returned (.tuple #[.pointer (some ⟨y, 0, none⟩), .int .i64 0]) ∧ Rep w' y (initR ⟨a, b, c, d, e, f, g, h, i, j⟩) U ∧ Below w.heap.size w w' ∧ (∀ k, own y U k → w.heap.size ≤ k) := by
  obtain ⟨k1, k2, k3, _⟩ := cfgErr_ways a b c d e f g h i j
  have u : (0 ≤ a ∧ a ≤ 1000) ∧ (1 ≤ b ∧ b ≤ 1000) ∧ (0 ≤ c ∧ c ≤ 1000) := Classical.byContradiction fun n => by have := k1 n; omega
  have s : (1 ≤ d ∧ d ≤ 10000) ∧ (1 ≤ g ∧ g ≤ 10000) ∧ (g ≤ h ∧ h ≤ 10000) := Classical.byContradiction fun n => by have := k2 u n; omega
  have t : (1 ≤ e ∧ e ≤ 6) ∧ (1 ≤ f ∧ f ≤ 8) ∧ (1 ≤ i ∧ i ≤ 100) ∧ (0 ≤ j ∧ j ≤ 32) := Classical.byContradiction fun n => by have := k3 u s n; omega
  exact rnew_fine2 a b c d e f g h i j w ((inB_iff _ _ _).2 u.1) ((inB_iff _ _ _).2 u.2.1) ((inB_iff _ _ _).2 u.2.2) ((inB_iff _ _ _).2 s.1) ((inB_iff _ _ _).2 s.2.1) ((inB_iff _ _ _).2 s.2.2) ((inB_iff _ _ _).2 t.1) ((inB_iff _ _ _).2 t.2.1) ((inB_iff _ _ _).2 t.2.2.1) ((inB_iff _ _ _).2 t.2.2.2)

theorem snoc_get {α : Type} {l : List α} {c : α} {j : Nat} {e : α} (he : (l ++ [c])[j]? = some e) : l[j]? = some e ∨ (j = l.length ∧ e = c) := by
  rcases Nat.lt_or_ge j l.length with hj | hj
  · rw [List.getElem?_append_left hj] at he
    exact .inl he
  · rw [List.getElem?_append_right hj] at he
    have h0 : j - l.length = 0 := by
      rcases Nat.eq_zero_or_pos (j - l.length) with h0 | h0
      · exact h0
      · rw [List.getElem?_eq_none (by simp; omega)] at he
        cases he
    rw [h0] at he
    exact .inr ⟨by omega, by simpa using he.symm⟩

/-- A client more. -/
theorem Law.push {W w w3 w4 : World} {L : LV} {N : Int} (h : Law W w L N) (hlen : L.cs.length < 3) {c : Cl} (hp : PRep w c.x c.s c.V) (hd : Rep w c.y c.r c.U) (fp : ∀ k, c.V.tag k < 7 → W.heap.size ≤ k ∧ ∀ i, ¬ lown L i k) (fd : ∀ k, own c.y c.U k → W.heap.size ≤ k ∧ ∀ i, ¬ lown L i k) (apd : ∀ k, c.V.tag k < 7 → ¬ own c.y c.U k)
    {vx' vy' : Value} (cx : w3.cell? ⟨L.G, 0, none⟩ = some vx') (rx : Row w3 0 47 1 encPtr vx' (L.cs.map (·.x) ++ [c.x])) (ox : vx'.ownBlock = L.vx.ownBlock ∨ ∃ g, vx'.ownBlock = some g ∧ w.heap.size ≤ g) (Fx : Fr L.G [0] L.vx.ownBlock.toList w w3)
    (cy : w4.cell? ⟨L.G, 1, none⟩ = some vy') (ry : Row w4 0 75 1 encPtr vy' (L.cs.map (·.y) ++ [c.y])) (oy : vy'.ownBlock = L.vy.ownBlock ∨ ∃ g, vy'.ownBlock = some g ∧ w3.heap.size ≤ g) (Fy : Fr L.G [1] L.vy.ownBlock.toList w3 w4) :
    Law W w4 { L with vx := vx', vy := vy', cs := L.cs ++ [c] } N := by
  have hlt := fun i => says_lt i (h.says i)
  have gl : L.G < w.heap.size := hlt .hd L.G rfl
  have s3 := Fx.size
  have s4 := Fy.size
  have vxS : ∀ k, L.vx.ownBlock = some k → k < w.heap.size ∧ k ≠ L.G ∧ L.vy.ownBlock ≠ some k := fun k hk => ⟨hlt .rx k hk, fun e => h.ap .rx .hd (by simp) k hk e, fun e => h.ap .rx .ry (by simp) k hk e⟩
  have vyS : ∀ k, L.vy.ownBlock = some k → k < w.heap.size ∧ k ≠ L.G := fun k hk => ⟨hlt .ry k hk, fun e => h.ap .ry .hd (by simp) k hk e⟩
  have blk4 : ∀ k, k < w.heap.size → k ≠ L.G → L.vx.ownBlock ≠ some k → L.vy.ownBlock ≠ some k → w4.heap[k]? = w.heap[k]? := fun k hk h1 h2 h3 =>
    (Fy.block k (by omega) h1 (fun e => h3 (by simpa using e))).trans (Fx.block k hk h1 (fun e => h2 (by simpa using e)))
  have pS : ∀ k, c.V.tag k < 7 → w4.heap[k]? = w.heap[k]? := fun k hk => blk4 k (hp.tl k hk) (fun e => (fp k hk).2 .hd e) (fun e => (fp k hk).2 .rx e) (fun e => (fp k hk).2 .ry e)
  have dS : ∀ k, own c.y c.U k → w4.heap[k]? = w.heap[k]? := fun k hk => blk4 k (by obtain ⟨j, hj⟩ := hk; exact hd.lt j k hj) (fun e => (fd k hk).2 .hd e) (fun e => (fd k hk).2 .rx e) (fun e => (fd k hk).2 .ry e)
  have xG : vx'.ownBlock ≠ some L.G := fun e => by
    rcases ox with e1 | ⟨g, e1, hg⟩
    · exact (vxS L.G (by rw [← e1]; exact e)).2.1 rfl
    · rw [e] at e1
      have : L.G = g := by simpa using e1
      omega
  have yG : vy'.ownBlock ≠ some L.G := fun e => by
    rcases oy with e1 | ⟨g, e1, hg⟩
    · exact (vyS L.G (by rw [← e1]; exact e)).2 rfl
    · rw [e] at e1
      have : L.G = g := by simpa using e1
      omega
  have xvy : ∀ k, vx'.ownBlock = some k → L.vy.ownBlock ≠ some k := fun k e e' => by
    rcases ox with e1 | ⟨g, e1, hg⟩
    · exact (vxS k (by rw [← e1]; exact e)).2.2 e'
    · rw [e] at e1
      have : k = g := by simpa using e1
      have := (vyS k e').1
      omega
  have xy : ∀ k, vx'.ownBlock = some k → vy'.ownBlock ≠ some k := fun k e e' => by
    rcases oy with e1 | ⟨g, e1, hg⟩
    · exact xvy k e (by rw [← e1]; exact e')
    · rw [e'] at e1
      have : k = g := by simpa using e1
      have := (rx.lt k e).2
      omega
  have xP : ∀ k, vx'.ownBlock = some k → ¬ c.V.tag k < 7 := fun k e hk => by
    rcases ox with e1 | ⟨g, e1, hg⟩
    · exact (fp k hk).2 .rx (show L.vx.ownBlock = some k from by rw [← e1]; exact e)
    · rw [e] at e1
      have : k = g := by simpa using e1
      have := hp.tl k hk
      omega
  have yP : ∀ k, vy'.ownBlock = some k → ¬ c.V.tag k < 7 := fun k e hk => by
    rcases oy with e1 | ⟨g, e1, hg⟩
    · exact (fp k hk).2 .ry (show L.vy.ownBlock = some k from by rw [← e1]; exact e)
    · rw [e] at e1
      have : k = g := by simpa using e1
      have := hp.tl k hk
      omega
  have xD : ∀ k, vx'.ownBlock = some k → ¬ own c.y c.U k := fun k e hk => by
    rcases ox with e1 | ⟨g, e1, hg⟩
    · exact (fd k hk).2 .rx (show L.vx.ownBlock = some k from by rw [← e1]; exact e)
    · rw [e] at e1
      have : k = g := by simpa using e1
      obtain ⟨j, hj⟩ := hk
      have := hd.lt j k hj
      omega
  have yD : ∀ k, vy'.ownBlock = some k → ¬ own c.y c.U k := fun k e hk => by
    rcases oy with e1 | ⟨g, e1, hg⟩
    · exact (fd k hk).2 .ry (show L.vy.ownBlock = some k from by rw [← e1]; exact e)
    · rw [e] at e1
      have : k = g := by simpa using e1
      obtain ⟨j, hj⟩ := hk
      have := hd.lt j k hj
      omega
  have ePr : ∀ k, lown { L with vx := vx', vy := vy', cs := L.cs ++ [c] } (.pr L.cs.length) k → c.V.tag k < 7 := fun k ⟨e, he, hk⟩ => by
    rcases snoc_get he with h1 | ⟨_, rfl⟩
    · have := (List.getElem?_eq_some_iff.1 h1).1
      omega
    · exact hk
  have eDr : ∀ k, lown { L with vx := vx', vy := vy', cs := L.cs ++ [c] } (.dr L.cs.length) k → own c.y c.U k := fun k ⟨e, he, hk⟩ => by
    rcases snoc_get he with h1 | ⟨_, rfl⟩
    · have := (List.getElem?_eq_some_iff.1 h1).1
      omega
    · exact hk
  have hchg : Chg (fun i => i = .hd ∨ i = .rx ∨ i = .ry ∨ i = .pr L.cs.length ∨ i = .dr L.cs.length) (fun k => c.V.tag k < 7 ∨ own c.y c.U k) w L w4 { L with vx := vx', vy := vy', cs := L.cs ++ [c] } := by
    refine ⟨Fy.os.trans Fx.os, Fy.tape.trans Fx.tape, Fy.output.trans Fx.output, Nat.le_trans s3 s4, fun k hk hn _ => ?_, fun i hi k hk => ?_, fun i hi k hk => ?_⟩
    · exact blk4 k hk (fun e => hn .hd (.inl rfl) e) (fun e => hn .rx (.inr (.inl rfl)) e) (fun e => hn .ry (.inr (.inr (.inl rfl))) e)
    · cases i with
      | pr j =>
        obtain ⟨e, he, hk⟩ := hk
        rcases snoc_get he with h1 | ⟨h1, _⟩
        · exact ⟨e, h1, hk⟩
        · exact absurd (.inr (.inr (.inr (.inl (by rw [h1]))))) hi
      | dr j =>
        obtain ⟨e, he, hk⟩ := hk
        rcases snoc_get he with h1 | ⟨h1, _⟩
        · exact ⟨e, h1, hk⟩
        · exact absurd (.inr (.inr (.inr (.inr (by rw [h1]))))) hi
      | hd => exact absurd (.inl rfl) hi
      | rx => exact absurd (.inr (.inl rfl)) hi
      | ry => exact absurd (.inr (.inr (.inl rfl))) hi
      | ri => exact hk
      | ra => exact hk
      | li j => exact hk
      | la j => exact hk
    · rcases hi with rfl | rfl | rfl | rfl | rfl
      · exact .inl ⟨.hd, .inl rfl, hk⟩
      · rcases ox with e | ⟨g, e, hg⟩
        · exact .inl ⟨.rx, .inr (.inl rfl), show L.vx.ownBlock = some k from by rw [← e]; exact hk⟩
        · have : g = k := by rw [show vx'.ownBlock = some k from hk] at e; simpa using e.symm
          exact .inr (.inr (by omega))
      · rcases oy with e | ⟨g, e, hg⟩
        · exact .inl ⟨.ry, .inr (.inr (.inl rfl)), show L.vy.ownBlock = some k from by rw [← e]; exact hk⟩
        · have : g = k := by rw [show vy'.ownBlock = some k from hk] at e; simpa using e.symm
          exact .inr (.inr (by omega))
      · exact .inr (.inl (.inl (ePr k hk)))
      · exact .inr (.inl (.inr (eDr k hk)))
  refine h.change hchg (fun k hk => hk.elim (fp k) (fd k)) (fun i hi hs => ?_) (fun i hi => ?_) (fun i j hi hj hij k hik hjk => ?_) (by simp; omega) h.nl h.ml
  · cases i with
    | hd => exact absurd (.inl rfl) hi
    | rx => exact absurd (.inr (.inl rfl)) hi
    | ry => exact absurd (.inr (.inr (.inl rfl))) hi
    | ri => exact hs
    | ra => exact hs
    | pr j => intro e he
              rcases snoc_get he with h1 | ⟨h1, _⟩
              · exact hs e h1
              · exact absurd (.inr (.inr (.inr (.inl (by rw [h1]))))) hi
    | dr j => intro e he
              rcases snoc_get he with h1 | ⟨h1, _⟩
              · exact hs e h1
              · exact absurd (.inr (.inr (.inr (.inr (by rw [h1]))))) hi
    | la j => exact hs
    | li j => exact hs
  · rcases hi with rfl | rfl | rfl | rfl | rfl
    · have hh := h.says .hd
      have cw : ∀ j, j ≠ 0 → j ≠ 1 → w4.cell? ⟨L.G, j, none⟩ = w.cell? ⟨L.G, j, none⟩ := fun j h2 h3 => (Fy.cell j (by simpa using h3)).trans (Fx.cell j (by simpa using h2))
      refine ⟨fun j v hv => ?_, fun j hj => (Fy.frozen j).trans ((Fx.frozen j).trans (hh.2 j hj))⟩
      match j, hv with
      | 0, hv => rw [Fy.cell 0 (by simp), cx]; simpa [cellsL] using hv
      | 1, hv => rw [cy]; simpa [cellsL] using hv
      | 2, hv => rw [cw 2 (by omega) (by omega)]; exact hh.1 2 v hv
      | 3, hv => rw [cw 3 (by omega) (by omega)]; exact hh.1 3 v hv
      | 4, hv => rw [cw 4 (by omega) (by omega)]; exact hh.1 4 v hv
      | n + 5, hv => simp [cellsL] at hv
    · show Row w4 0 _ 1 encPtr vx' ((L.cs ++ [c]).map (·.x))
      rw [List.map_append]
      exact Fy.row rx (fun k hk => ⟨fun e => xG (by rw [← e]; exact hk), fun e => xvy k hk (by simpa using e)⟩)
    · show Row w4 0 _ 1 encPtr vy' ((L.cs ++ [c]).map (·.y))
      rw [List.map_append]
      exact ry
    · intro e he
      rcases snoc_get he with h1 | ⟨_, rfl⟩
      · have := (List.getElem?_eq_some_iff.1 h1).1
        omega
      · exact hp.keep (Nat.le_trans s3 s4) pS
    · intro e he
      rcases snoc_get he with h1 | ⟨_, rfl⟩
      · have := (List.getElem?_eq_some_iff.1 h1).1
        omega
      · exact hd.keep dS
  · have eG : ∀ {k}, lown { L with vx := vx', vy := vy', cs := L.cs ++ [c] } .hd k → k = L.G := id
    rcases hi with rfl | rfl | rfl | rfl | rfl <;> rcases hj with rfl | rfl | rfl | rfl | rfl
    · exact hij rfl
    · exact xG (by rw [← eG hik]; exact hjk)
    · exact yG (by rw [← eG hik]; exact hjk)
    · exact (fp k (ePr k hjk)).2 .hd (eG hik)
    · exact (fd k (eDr k hjk)).2 .hd (eG hik)
    · exact xG (by rw [← eG hjk]; exact hik)
    · exact hij rfl
    · exact xy k hik hjk
    · exact xP k hik (ePr k hjk)
    · exact xD k hik (eDr k hjk)
    · exact yG (by rw [← eG hjk]; exact hik)
    · exact xy k hjk hik
    · exact hij rfl
    · exact yP k hik (ePr k hjk)
    · exact yD k hik (eDr k hjk)
    · exact (fp k (ePr k hik)).2 .hd (eG hjk)
    · exact xP k hjk (ePr k hik)
    · exact yP k hjk (ePr k hik)
    · exact hij rfl
    · exact apd k (ePr k hik) (eDr k hjk)
    · exact (fd k (eDr k hik)).2 .hd (eG hjk)
    · exact xD k hjk (eDr k hik)
    · exact yD k hjk (eDr k hik)
    · exact apd k (ePr k hjk) (eDr k hik)
    · exact hij rfl
end Go.Proofs.YtlccfpbbdgpjbaaGreatDoor

namespace Go.Proofs.YtlccfpbbdgpjbaaGreatDoor
open Go.RowKit

theorem inv_zero {c : Cfg} (h : CfgOk c) : Inv 0 (initS c) where
  cfg := h
  n0 := Int.le_refl _
  n1 := by show (0 : Int) ≤ _; omega
  ub := fun b hb => by cases hb
  us := by have := h.p0; exact this
  uc := fun b hb => by cases hb
  nd := List.nodup_nil
  cl := by have := h.f0; show (0 : Int) ≤ c.flight; omega
  cb := fun c hc => by cases hc
  ab := fun a ha => by cases ha
  tb := fun t ht => by cases ht
  tc := fun t ht => by cases ht
  tu := fun t ht => by cases ht
  tw := fun t ht => by cases ht
  ts := List.nodup_nil
  mt := by show 0 ≤ 32; omega
  mb := fun t ht => by cases ht
  l0 := Int.le_refl _
  s0 := Int.le_refl _
  z0 := Int.le_refl _
  p1 := by show (0 : Int) + 0 ≤ 6 * 0; omega
  p2 := by show (0 : Int) + ((0 : Nat) : Int) ≤ 2 * 0 + 0; omega
  tl := by show ((0 : Nat) : Int) ≤ 0; omega

theorem sim_zero (c : Cfg) : Sim 0 (initS c) (initR c) where
  cfg := rfl
  now := rfl
  calls := rfl
  atts := rfl
  nums := rfl
  timers := rfl
  units := rfl
  times := rfl
  stale := rfl
  uo := fun u hu => by cases hu
  un := fun u hu => by cases hu
  us := List.Pairwise.nil
  ul := by show ((0 : Nat) : Int) ≤ 0; omega
  as_ := List.Pairwise.nil
  ts := List.Pairwise.nil
  td := fun t ht => by cases ht

theorem cfg_ok {a b c d e f g h i j : Int} (hk : cfgErr a b c d e f g h i j = 0) : CfgOk ⟨a, b, c, d, e, f, g, h, i, j⟩ := by
  obtain ⟨k1, k2, k3, _⟩ := cfgErr_ways a b c d e f g h i j
  have u : (0 ≤ a ∧ a ≤ 1000) ∧ (1 ≤ b ∧ b ≤ 1000) ∧ (0 ≤ c ∧ c ≤ 1000) := Classical.byContradiction fun n => by have := k1 n; omega
  have s : (1 ≤ d ∧ d ≤ 10000) ∧ (1 ≤ g ∧ g ≤ 10000) ∧ (g ≤ h ∧ h ≤ 10000) := Classical.byContradiction fun n => by have := k2 u n; omega
  have t : (1 ≤ e ∧ e ≤ 6) ∧ (1 ≤ f ∧ f ≤ 8) ∧ (1 ≤ i ∧ i ≤ 100) ∧ (0 ≤ j ∧ j ≤ 32) := Classical.byContradiction fun n => by have := k3 u s n; omega
  constructor <;> dsimp only <;> omega

theorem beside_zero {c : Cfg} (h : CfgOk c) {N : Int} (hN : 0 ≤ N) : Beside2 N (initS c) (initR c) :=
  Beside2.mono (N := 0) ⟨sim_zero c, inv_zero h, .inl rfl, by show (0 : Int) ≤ 0; omega⟩ hN

theorem Tryz.infoPX : (Tryz.prog.info? 47).map (fun i => (i.zero, i.size, i.bytes)) = some (some (.pointer none), 1, 8) := by kernel_rfl
theorem Tryz.infoPY : (Tryz.prog.info? 75).map (fun i => (i.zero, i.size, i.bytes)) = some (some (.pointer none), 1, 8) := by kernel_rfl

set_option maxHeartbeats 4000000 in
theorem lmade_bad (a b c d e f g h i j : Int) (G : Nat) (w : World) (hL : Laid w) (hk : cfgErr a b c d e f g h i j ≠ 0) :
    Calls Tryz.prog 12 #[.pointer (some ⟨G, 0, none⟩), .agg #[.int .i64 a, .int .i64 b, .int .i64 c, .int .i64 d, .int .i64 e, .int .i64 f, .int .i64 g, .int .i64 h, .int .i64 i, .int .i64 j]] w fun ev w' => ev = .returned (.bool true) ∧ Below w.heap.size w w' := by
  have c0 : Below w.heap.size w (w.alloc (.cells #[.int .i64 a, .int .i64 b, .int .i64 c, .int .i64 d, .int .i64 e, .int .i64 f, .int .i64 g, .int .i64 h, .int .i64 i, .int .i64 j] 34)) := (Below.refl _ _).alloc (Nat.le_refl _) _
  have HN := hide (fun w hL => new_bad a b c d e f g h i j w hL hk)
  have HR := hide (fun w => rnew_bad a b c d e f g h i j w hk)
  generalize cfgErr a b c d e f g h i j = k at HN HR hk
  have hk' : (k != 0) = true := by simpa using hk
  clear hk
  have hL0 := hL.on c0
  go_enter Tryz.func12, Tryz.ntmps12
  go_wp2_with fail
  refine (HN.out _ hL0).mono ?_
  rintro ev w1 ⟨rfl, hb1⟩
  obtain ⟨f0, f1, f2, f3, f4, f5, f6, f7, f8, f9⟩ := cfg_cells a b c d e f g h i j w w1 34 hb1
  go_wp2_with fail
  refine (HR.out _).mono ?_
  rintro ev w2 ⟨rfl, hb2⟩
  clear HN HR f0 f1 f2 f3 f4 f5 f6 f7 f8 f9
  go_wp2_with fail
  go_ret
  exact ⟨rfl, below_step (below_step c0 hb1) hb2⟩

set_option maxRecDepth 100000 in
set_option maxHeartbeats 8000000 in
theorem lmade_ok {W w : World} {L : LV} {N : Int} (hW : Law W w L N) (hB : Bes L N) (hN : 0 ≤ N) (a b c d e f g h i j : Int) (hL : Laid w) (hk : cfgErr a b c d e f g h i j = 0) :
    Calls Tryz.prog 12 #[.pointer (some ⟨L.G, 0, none⟩), .agg #[.int .i64 a, .int .i64 b, .int .i64 c, .int .i64 d, .int .i64 e, .int .i64 f, .int .i64 g, .int .i64 h, .int .i64 i, .int .i64 j]] w fun ev w' => ev = .returned (.bool true) ∧ ∃ L', Law W w' L' N ∧ Bes L' N ∧ L'.G = L.G ∧ L.cs.length ≤ L'.cs.length ∧ 1 ≤ L'.cs.length := by
  have c0 : Below w.heap.size w (w.alloc (.cells #[.int .i64 a, .int .i64 b, .int .i64 c, .int .i64 d, .int .i64 e, .int .i64 f, .int .i64 g, .int .i64 h, .int .i64 i, .int .i64 j] 34)) := (Below.refl _ _).alloc (Nat.le_refl _) _
  have HN1 := hide (fun w hL => new_full a b c d e f g h i j w hL hk)
  have HR1 := hide (fun w => rnew_full a b c d e f g h i j w hk)
  have hok := beside_zero (cfg_ok hk) hN
  have hL0 := hL.on c0
  have hcl := hW.cl
  obtain ⟨i44, p1, p2, p3, p4⟩ := info_parts Tryz.infoPX
  obtain ⟨i48, q1, q2, q3, q4⟩ := info_parts Tryz.infoPY
  have HLAW := hide hW
  have HB := hide hB
  obtain ⟨Ax, capx, hvx, -, -, -⟩ := Row.form (hW.says .rx)
  rw [List.length_map] at hvx
  clear hW hB hk
  go_enter Tryz.func12, Tryz.ntmps12
  go_wp2_with fail
  refine (HN1.out _ hL0).mono ?_
  rintro ev w1 ⟨x, V, rfl, hp1, hb1, ht1⟩
  obtain ⟨f0, f1, f2, f3, f4, f5, f6, f7, f8, f9⟩ := cfg_cells a b c d e f g h i j w w1 34 hb1
  go_wp2_with fail
  refine (HR1.out _).mono ?_
  rintro ev w2 ⟨y, U, rfl, hr2, hb2, hu2⟩
  have c1 := below_step c0 hb1
  have c2 := below_step c1 hb2
  have hW2 := HLAW.out.on c2
  have hp2 := hp1.on hb2
  have fp : ∀ k, V.tag k < 7 → W.heap.size ≤ k ∧ ∀ i, ¬ lown L i k := fun k hk => by
    have h1 := ht1 k hk
    have h2 := c0.size
    have h3 := HLAW.out.below.size
    exact ⟨by omega, fun i hi => by have := says_lt i (HLAW.out.says i) k hi; omega⟩
  have fd : ∀ k, own y U k → W.heap.size ≤ k ∧ ∀ i, ¬ lown L i k := fun k hk => by
    have h1 := hu2 k hk
    have h2 := c1.size
    have h3 := HLAW.out.below.size
    exact ⟨by omega, fun i hi => by have := says_lt i (HLAW.out.says i) k hi; omega⟩
  have apd : ∀ k, V.tag k < 7 → ¬ own y U k := fun k hk ho => by
    have h1 := hp1.tl k hk
    have h2 := hu2 k ho
    omega
  have hh := hW2.says .hd
  have cx : w2.cell? ⟨L.G, 0, none⟩ = some L.vx := hh.1 0 _ rfl
  have fx : w2.frozen? ⟨L.G, 0, none⟩ = false := hh.2 0 (by omega)
  have lG2 : L.G < w2.heap.size := World.block_lt_of_cell? w2 _ cx
  have rx : Row w2 0 47 1 encPtr L.vx (L.cs.map (·.x)) := hW2.says .rx
  have xG : L.vx.ownBlock ≠ some L.G := fun e => hW2.ap .rx .hd (by simp) L.G e rfl
  have cx' := cx
  rw [hvx] at cx'
  clear f0 f1 f2 f3 f4 f5 f6 f7 f8 f9 HN1 HR1 hL hL0 c0 c1 hb1 hb2 hp1 ht1 hu2 hh
  have HW2 := hide hW2
  have HP2 := hide hp2
  have HR2 := hide hr2
  have HRX := hide rx
  clear hW2 hp2 hr2 rx
  by_cases h3 : L.cs.length = 3
  · rw [h3] at cx'
    clear cx
    have HE : Hid (∃ L', Law W w2 L' N ∧ Bes L' N ∧ L'.G = L.G ∧ L.cs.length ≤ L'.cs.length ∧ 1 ≤ L'.cs.length) := ⟨L, HW2.out, HB.out, rfl, Nat.le_refl _, by omega⟩
    go_wp2_with fail
    go_ret
    exact ⟨rfl, HE.out⟩
  · have hlt3 : L.cs.length < 3 := by omega
    have hlti : (L.cs.length : Int) < 3 := by omega
    clear cx
    have cx := cx'
    have cA : ∀ B : Obj, (w2.alloc B).cell? ⟨L.G, 0, none⟩ = some L.vx := fun B => by rw [World.cell?_alloc_lt _ _ _ lG2, cx, hvx]
    have fA : ∀ B : Obj, (w2.alloc B).frozen? ⟨L.G, 0, none⟩ = false := fun B => by rw [World.frozen?_alloc_old _ _ _ (by simp; omega)]; exact fx
    have HCA := hide cA
    have HFA := hide fA
    clear cA fA cx'
    have hol : (Value.slice Ax L.cs.length capx).ownBlock = L.vx.ownBlock := by rw [hvx]
    have hrow0 : w2.ownsRow 0 47 1 (.slice Ax L.cs.length capx) L.cs.length ((L.cs.map (·.x)).flatMap encPtr) := by
      have := HRX.out
      unfold Row at this
      rw [List.length_map, hvx] at this
      exact this
    have HROW := hide hrow0
    clear hrow0
    go_upto_region 7 with (first
      | (at_builtin; refine wpList_append_lies _ (by rfl) _ _ _ (by rfl) 0 47 i44 _ 1 8 Tryz.underlying24 p1 p2 p3 p4 rfl (by omega) (.slice Ax L.cs.length capx) L.cs.length ((L.cs.map (·.x)).flatMap encPtr) (by rfl) (HROW.out.alloc _) ⟨w2.heap.size, 0, none⟩ 1 1 (encPtr x) (by rfl) (by rfl) (World.news_of_block (cs := #[.pointer (some ⟨x, 0, none⟩)]) (t := 47) (fr := (0, 0)) (heap_alloc_new w2 _)) (by simp [Value.oneCell', encPtr]) (by omega) (by simp only [maxLen]; omega) (by omega) (by omega) (w2.heap.size + 1) (by simp) ?_; intro g1 cap1 w3 hown1 hgrow1 hat1 hlt1; have cz : w3.cell? ⟨L.G, 0, none⟩ = some L.vx := (by rw [hgrow1.cell_far _ (by simp; omega) (by rw [hol]; exact Ne.symm xG)]; exact HCA.out _); have fz : w3.frozen? ⟨L.G, 0, none⟩ = false := (by rw [hgrow1.frozen_far _ (by simp; omega) (by rw [hol]; exact Ne.symm xG)]; exact HFA.out _); have HPP := hide (push_post (p := L.G) (j := 0) (x := x) lG2 HRX.out ((Below.refl _ _).alloc (Nat.le_refl _) _) (by rw [List.length_map]; exact hown1) (by rw [← hol]; exact hgrow1) xG (by rw [← hol]; exact hat1.imp id (fun h => by omega)) cz); rw [List.length_map] at HPP; clear hown1 hgrow1 hat1 hlt1))
    rename World => w3
    generalize (w3.setCell ⟨L.G, 0, none⟩ (.slice (some ⟨g1, 0, none⟩) (L.cs.length + 1) cap1)) = w4 at HPP ⊢
    obtain ⟨vx', hcx', hrx', hvx', hFx'⟩ := HPP.out
    clear HPP cz fz HROW HCA HFA cx fx
    have hh := HW2.out.says .hd
    have yG : L.vy.ownBlock ≠ some L.G := fun e => HW2.out.ap .ry .hd (by simp) L.G e rfl
    have xy : ∀ k, L.vy.ownBlock = some k → k ∉ L.vx.ownBlock.toList := fun k e e' => HW2.out.ap .ry .rx (by simp) k e (show L.vx.ownBlock = some k from by simpa using e')
    have ry : Row w4 0 75 1 encPtr L.vy (L.cs.map (·.y)) := hFx'.row (HW2.out.says .ry) (fun k e => ⟨fun e' => yG (by rw [← e']; exact e), xy k e⟩)
    have cy : w4.cell? ⟨L.G, 1, none⟩ = some L.vy := (hFx'.cell 1 (by simp)).trans (hh.1 1 _ rfl)
    have fy : w4.frozen? ⟨L.G, 1, none⟩ = false := (hFx'.frozen 1).trans (hh.2 1 (by omega))
    have lG4 : L.G < w4.heap.size := Nat.lt_of_lt_of_le lG2 hFx'.size
    have cA : ∀ B : Obj, (w4.alloc B).cell? ⟨L.G, 1, none⟩ = some L.vy := fun B => by rw [World.cell?_alloc_lt _ _ _ lG4]; exact cy
    have fA : ∀ B : Obj, (w4.alloc B).frozen? ⟨L.G, 1, none⟩ = false := fun B => by rw [World.frozen?_alloc_old _ _ _ (by simp; omega)]; exact fy
    have HCA := hide cA
    have HFA := hide fA
    have HRY := hide ry
    have hrow0 : w4.ownsRow 0 75 1 L.vy L.cs.length ((L.cs.map (·.y)).flatMap encPtr) := by
      have := ry
      unfold Row at this
      rw [List.length_map] at this
      exact this
    have HROW := hide hrow0
    have HX := hide (show Row w4 0 47 1 encPtr vx' (L.cs.map (·.x) ++ [x]) from hrx')
    have HFX := hide hFx'
    have HVX := hide hvx'
    have HCX := hide hcx'
    clear cA fA ry hrow0 hh hrx' hFx' hvx' hcx' fy
    go_wp2_with (first
      | (at_builtin; refine wpList_append_lies _ (by rfl) _ _ _ (by rfl) 0 75 i48 _ 1 8 Tryz.underlying25 q1 q2 q3 q4 rfl (by omega) L.vy L.cs.length ((L.cs.map (·.y)).flatMap encPtr) (by rfl) (HROW.out.alloc _) ⟨w4.heap.size, 0, none⟩ 1 1 (encPtr y) (by rfl) (by rfl) (World.news_of_block (cs := #[.pointer (some ⟨y, 0, none⟩)]) (t := 75) (fr := (0, 0)) (heap_alloc_new w4 _)) (by simp [Value.oneCell', encPtr]) (by omega) (by simp only [maxLen]; omega) (by omega) (by omega) (w4.heap.size + 1) (by simp) ?_; intro g2 cap2 w5 hown1 hgrow1 hat1 hlt1; have cz : w5.cell? ⟨L.G, 1, none⟩ = some L.vy := (by rw [hgrow1.cell_far _ (by simp; omega) (Ne.symm yG)]; exact HCA.out _); have fz : w5.frozen? ⟨L.G, 1, none⟩ = false := (by rw [hgrow1.frozen_far _ (by simp; omega) (Ne.symm yG)]; exact HFA.out _); have HPP := hide (push_post (p := L.G) (j := 1) (x := y) lG4 HRY.out ((Below.refl _ _).alloc (Nat.le_refl _) _) (by rw [List.length_map]; exact hown1) hgrow1 yG (hat1.imp id (fun h => by omega)) cz); rw [List.length_map] at HPP; clear hown1 hgrow1 hat1 hlt1))
    go_ret
    obtain ⟨vy', hcy', hry', hvy', hFy'⟩ := HPP.out
    refine ⟨rfl, _, HW2.out.push hlt3 (c := ⟨x, initS ⟨a, b, c, d, e, f, g, h, i, j⟩, V, y, initR ⟨a, b, c, d, e, f, g, h, i, j⟩, U⟩) HP2.out HR2.out fp fd apd HCX.out HX.out HVX.out HFX.out hcy' hry' hvy' hFy', fun n k hk => ?_, rfl, by simp, by simp⟩
    rcases snoc_get hk with h1 | ⟨_, rfl⟩
    · exact HB.out n k h1
    · exact hok

theorem lmade_any {W w : World} {L : LV} {N : Int} (hW : Law W w L N) (hB : Bes L N) (hN : 0 ≤ N) (a b c d e f g h i j : Int) (hL : Laid W) :
    Calls Tryz.prog 12 #[.pointer (some ⟨L.G, 0, none⟩), .agg #[.int .i64 a, .int .i64 b, .int .i64 c, .int .i64 d, .int .i64 e, .int .i64 f, .int .i64 g, .int .i64 h, .int .i64 i, .int .i64 j]] w fun ev w' => ev = .returned (.bool true) ∧ ∃ L', Law W w' L' N ∧ Bes L' N ∧ L'.G = L.G ∧ L.cs.length ≤ L'.cs.length ∧ (cfgErr a b c d e f g h i j = 0 → 1 ≤ L'.cs.length) := by
  have hL' := hL.on hW.below
  by_cases hk : cfgErr a b c d e f g h i j = 0
  · refine (lmade_ok hW hB hN a b c d e f g h i j hL' hk).mono ?_
    rintro ev w' ⟨rfl, L', h1, h2, h3, h4, h5⟩
    exact ⟨rfl, L', h1, h2, h3, h4, fun _ => h5⟩
  · refine (lmade_bad a b c d e f g h i j L.G w hL' hk).mono ?_
    rintro ev w' ⟨rfl, hb⟩
    exact ⟨rfl, L, hW.on hb, hB, rfl, Nat.le_refl _, fun h => absurd h hk⟩
end Go.Proofs.YtlccfpbbdgpjbaaGreatDoor

namespace Go.Proofs.YtlccfpbbdgpjbaaGreatDoor
open Go.RowKit
attribute [local go_sem ↓] Go.wp_at_zero Go.wp_at_succ

set_option maxRecDepth 100000 in
set_option maxHeartbeats 1600000 in
theorem lpick_any (c n : Int) (W : World) (hc0 : -9223372036854775808 ≤ c) (hc1 : c ≤ 9223372036854775807) (hn : 0 < n) (hn1 : n ≤ 1000000) :
    Calls Tryz.prog 29 #[.int .i64 c, .int .i64 n] W fun e w' => e = .returned (.int .i64 (pickV c n)) ∧ w' = W := by
  obtain ⟨p0, p1⟩ := pickV_lt c n hn
  have hn0 : ¬ n = 0 := by omega
  by_cases h : c < 0
  · have e1 : pickV c n = -((c + 1).tmod n) := by
      unfold pickV
      rw [if_pos h, ← Int.neg_tmod, Int.tmod_eq_emod_of_nonneg (by omega)]
    rw [e1] at p0 p1 ⊢
    go_enter Tryz.func29, Tryz.ntmps29
    go_wp2_with fail
    go_ret
    exact ⟨rfl, rfl⟩
  · have e1 : pickV c n = c % n := by
      unfold pickV
      rw [if_neg h]
    rw [e1] at p0 p1 ⊢
    go_enter Tryz.func29, Tryz.ntmps29
    go_wp2_with fail
    go_ret
    exact ⟨rfl, rfl⟩


theorem Bes.mono {L : LV} {N M : Int} (h : Bes L N) (hM : N ≤ M) : Bes L M := fun i c hc => (h i c hc).mono hM

set_option maxRecDepth 100000 in
set_option maxHeartbeats 8000000 in
theorem lstep_any {W w : World} {L : LV} {N : Int} (hW : Law W w L N) (hB : Bes L N) (hN0 : 0 ≤ N) (hN : N ≤ 55000) (hL : Laid W) (kd n a b c d e f g h i j e0 e1 e2 e3 e4 : Int) (e5 : Bool) (e6 e7 : Int)
    (hn0 : -9223372036854775808 ≤ n) (hn1 : n ≤ 9223372036854775807) (h1 : (Lit.int .i64 e1).wf = true) (h2 : (Lit.int .i64 e2).wf = true) (h60 : 0 ≤ e6) (h61 : e6 ≤ 18446744073709551615) :
    Calls Tryz.prog 15 #[.pointer (some ⟨L.G, 0, none⟩), .agg #[.int .i64 kd, .int .i64 n, .int .i64 a, .int .i64 b, .int .i64 c, .int .i64 d, .int .i64 e, .int .i64 f, .int .i64 g, .int .i64 h, .int .i64 i, .int .i64 j, .int .i64 e0, .int .i64 e1, .int .i64 e2, .int .i64 e3, .int .i64 e4, .bool e5, .int .u64 e6, .int .i64 e7]] w fun ev w' => ev = .returned (.bool true) ∧ ∃ L', Law W w' L' (N + 1) ∧ Bes L' (N + 1) ∧ L'.G = L.G ∧ L.cs.length ≤ L'.cs.length := by
  have c0 : Below w.heap.size w (w.alloc (.cells #[.int .i64 kd, .int .i64 n, .int .i64 a, .int .i64 b, .int .i64 c, .int .i64 d, .int .i64 e, .int .i64 f, .int .i64 g, .int .i64 h, .int .i64 i, .int .i64 j, .int .i64 e0, .int .i64 e1, .int .i64 e2, .int .i64 e3, .int .i64 e4, .bool e5, .int .u64 e6, .int .i64 e7] 41)) := (Below.refl _ _).alloc (Nat.le_refl _) _
  have hA := hW.on c0
  have hcl := hW.cl
  have hh := hA.says .hd
  have cx : (w.alloc (.cells #[.int .i64 kd, .int .i64 n, .int .i64 a, .int .i64 b, .int .i64 c, .int .i64 d, .int .i64 e, .int .i64 f, .int .i64 g, .int .i64 h, .int .i64 i, .int .i64 j, .int .i64 e0, .int .i64 e1, .int .i64 e2, .int .i64 e3, .int .i64 e4, .bool e5, .int .u64 e6, .int .i64 e7] 41)).cell? ⟨L.G, 0, none⟩ = some L.vx := hh.1 0 _ rfl
  obtain ⟨Ax, capx, hvx, -, -, -⟩ := Row.form (hW.says .rx)
  rw [List.length_map] at hvx
  rw [hvx] at cx
  have b0 : (w.alloc (.cells #[.int .i64 kd, .int .i64 n, .int .i64 a, .int .i64 b, .int .i64 c, .int .i64 d, .int .i64 e, .int .i64 f, .int .i64 g, .int .i64 h, .int .i64 i, .int .i64 j, .int .i64 e0, .int .i64 e1, .int .i64 e2, .int .i64 e3, .int .i64 e4, .bool e5, .int .u64 e6, .int .i64 e7] 41)).heap[w.heap.size]? = some (.cells #[.int .i64 kd, .int .i64 n, .int .i64 a, .int .i64 b, .int .i64 c, .int .i64 d, .int .i64 e, .int .i64 f, .int .i64 g, .int .i64 h, .int .i64 i, .int .i64 j, .int .i64 e0, .int .i64 e1, .int .i64 e2, .int .i64 e3, .int .i64 e4, .bool e5, .int .u64 e6, .int .i64 e7] 41 (0, 0)) := heap_alloc_new w _
  have HLA := hide hA
  have HB := hide hB
  clear hW hB hh c0 hvx
  go_enter Tryz.func15, Tryz.ntmps15
  go_upto_region 1 with fail
  generalize (w.alloc (.cells #[.int .i64 kd, .int .i64 n, .int .i64 a, .int .i64 b, .int .i64 c, .int .i64 d, .int .i64 e, .int .i64 f, .int .i64 g, .int .i64 h, .int .i64 i, .int .i64 j, .int .i64 e0, .int .i64 e1, .int .i64 e2, .int .i64 e3, .int .i64 e4, .bool e5, .int .u64 e6, .int .i64 e7] 41)) = wA at hA cx b0 HLA ⊢
  generalize w.heap.size = bO at b0 ⊢
  clear hA
  have o0 : wA.cell? ⟨bO, 0, none⟩ = some (.int .i64 kd) := cell_of_row wA bO 0 _ _ _ b0
  have o1 : wA.cell? ⟨bO, 1, none⟩ = some (.int .i64 n) := cell_of_row wA bO 1 _ _ _ b0
  have HO := hide (fun j => cell_of_row wA bO j _ _ _ b0)
  by_cases k1 : kd = 1
  · subst k1
    have HE : Hid (∃ L', Law W wA L' (N + 1) ∧ Bes L' (N + 1) ∧ L'.G = L.G ∧ L.cs.length ≤ L'.cs.length) := ⟨L, HLA.out.mono (by omega), HB.out.mono (by omega), rfl, Nat.le_refl _⟩
    clear HO b0
    go_wp2_with fail
    refine (lbucket_any _ _).mono ?_
    rintro ev w' ⟨rfl, hw⟩
    rw [hw]
    go_wp2_with fail
    go_ret
    exact ⟨rfl, HE.out⟩
  have b1 : (kd == 1) = false := by simpa using k1
  clear k1
  by_cases k2 : kd = 2
  · subst k2
    have HM := hide (lmade_any HLA.out HB.out hN0 a b c d e f g h i j hL)
    have r0 : wA.cell? ⟨bO, 2, none⟩ = some (.int .i64 a) := HO.out 2
    have r1 : wA.cell? ⟨bO, 3, none⟩ = some (.int .i64 b) := HO.out 3
    have r2 : wA.cell? ⟨bO, 4, none⟩ = some (.int .i64 c) := HO.out 4
    have r3 : wA.cell? ⟨bO, 5, none⟩ = some (.int .i64 d) := HO.out 5
    have r4 : wA.cell? ⟨bO, 6, none⟩ = some (.int .i64 e) := HO.out 6
    have r5 : wA.cell? ⟨bO, 7, none⟩ = some (.int .i64 f) := HO.out 7
    have r6 : wA.cell? ⟨bO, 8, none⟩ = some (.int .i64 g) := HO.out 8
    have r7 : wA.cell? ⟨bO, 9, none⟩ = some (.int .i64 h) := HO.out 9
    have r8 : wA.cell? ⟨bO, 10, none⟩ = some (.int .i64 i) := HO.out 10
    have r9 : wA.cell? ⟨bO, 11, none⟩ = some (.int .i64 j) := HO.out 11
    clear HO b0
    go_wp2_with fail
    refine HM.out.mono ?_
    rintro ev w' ⟨rfl, L', g1, g2, g3, g4, -⟩
    have HE : Hid (∃ L', Law W w' L' (N + 1) ∧ Bes L' (N + 1) ∧ L'.G = L.G ∧ L.cs.length ≤ L'.cs.length) := ⟨L', g1.mono (by omega), g2.mono (by omega), g3, g4⟩
    clear g1 g2 g3 g4 HM r0 r1 r2 r3 r4 r5 r6 r7 r8 r9
    go_wp2_with fail
    go_ret
    exact ⟨rfl, HE.out⟩
  have b2 : (kd == 2) = false := by simpa using k2
  clear k2
  by_cases hz : L.cs.length = 0
  · rw [hz] at cx
    have HE : Hid (∃ L', Law W wA L' (N + 1) ∧ Bes L' (N + 1) ∧ L'.G = L.G ∧ L.cs.length ≤ L'.cs.length) := ⟨L, HLA.out.mono (by omega), HB.out.mono (by omega), rfl, Nat.le_refl _⟩
    clear HO b0
    go_wp2_with fail
    go_ret
    exact ⟨rfl, HE.out⟩
  have hz' : ((L.cs.length : Int) == 0) = false := by simpa using hz
  obtain ⟨pk0, pk1⟩ := pickV_lt n (L.cs.length : Int) (by omega)
  obtain ⟨k, hk⟩ : ∃ k : Nat, pickV n (L.cs.length : Int) = (k : Int) := ⟨_, (Int.toNat_of_nonneg pk0).symm⟩
  have hkl : k < L.cs.length := by omega
  have hkc : L.cs[k]? = some L.cs[k] := List.getElem?_eq_getElem hkl
  have HPK := hide (fun w' => lpick_any n (L.cs.length : Int) w' hn0 hn1 (by omega) (by omega))
  rw [hk] at HPK
  have HBO := hide b0
  clear HO b0 pk0 pk1 hk
  go_upto_region 8 with fail
  go_cut [5] (fun v wx => v = .int .i64 (k : Int) ∧ Below wA.heap.size wA wx)
  case first =>
    as_aux_lemma =>
      go_region_with (first
        | (go_at_call 29; refine (HPK.out _).mono ?_; rintro ee w9 ⟨rfl, hw9⟩; rw [hw9]; clear hw9))
      all_goals
        go_wp2_with fail
        go_meet
        exact ⟨rfl, by first | exact (Below.refl _ _).drew | exact Below.refl _ _⟩
  case rest =>
    obtain ⟨rfl, hb⟩ := hcut
    rename World => wx
    have hLx := HLA.out.on hb
    have lO : bO < wA.heap.size := (Array.getElem?_eq_some_iff.1 HBO.out).1
    have bx0 := (hb.block bO lO).trans HBO.out
    clear o0 o1 cx
    have o0 : wx.cell? ⟨bO, 0, none⟩ = some (.int .i64 kd) := cell_of_row wx bO 0 _ _ _ bx0
    have HO := hide (fun j => cell_of_row wx bO j _ _ _ bx0)
    by_cases k3 : kd = 3
    · subst k3
      have HM := hide (stepped_any hLx HB.out hN k hkc e0 e1 e2 e3 e4 e5 e6 e7 ⟨h1, h2, h60⟩ h61)
      have r0 : wx.cell? ⟨bO, 12, none⟩ = some (.int .i64 e0) := HO.out 12
      have r1 : wx.cell? ⟨bO, 13, none⟩ = some (.int .i64 e1) := HO.out 13
      have r2 : wx.cell? ⟨bO, 14, none⟩ = some (.int .i64 e2) := HO.out 14
      have r3 : wx.cell? ⟨bO, 15, none⟩ = some (.int .i64 e3) := HO.out 15
      have r4 : wx.cell? ⟨bO, 16, none⟩ = some (.int .i64 e4) := HO.out 16
      have r5 : wx.cell? ⟨bO, 17, none⟩ = some (.bool e5) := HO.out 17
      have r6 : wx.cell? ⟨bO, 18, none⟩ = some (.int .u64 e6) := HO.out 18
      have r7 : wx.cell? ⟨bO, 19, none⟩ = some (.int .i64 e7) := HO.out 19
      clear HO bx0 hb hLx HBO HLA
      go_wp2_with fail
      refine HM.out.mono ?_
      rintro ev w' ⟨rfl, L', g1, g2, g3, g4⟩
      have HE : Hid (∃ L', Law W w' L' (N + 1) ∧ Bes L' (N + 1) ∧ L'.G = L.G ∧ L.cs.length ≤ L'.cs.length) := ⟨L', g1, g2, g3, by omega⟩
      clear g1 g2 g3 g4 HM r0 r1 r2 r3 r4 r5 r6 r7
      go_wp2_with fail
      go_ret
      exact ⟨rfl, HE.out⟩
    have b3 : (kd == 3) = false := by simpa using k3
    clear k3
    by_cases k4 : kd = 4
    · subst k4
      have HM := hide (stood_any hLx HB.out hN k hkc)
      clear HO bx0 hb hLx HBO HLA
      go_wp2_with fail
      refine HM.out.mono ?_
      rintro ev w' ⟨rfl, L', g1, g2, g3, g4⟩
      have HE : Hid (∃ L', Law W w' L' (N + 1) ∧ Bes L' (N + 1) ∧ L'.G = L.G ∧ L.cs.length ≤ L'.cs.length) := ⟨L', g1, g2, g3, by omega⟩
      clear g1 g2 g3 g4 HM
      go_wp2_with fail
      go_ret
      exact ⟨rfl, HE.out⟩
    have b4 : (kd == 4) = false := by simpa using k4
    clear k4
    have HE : Hid (∃ L', Law W wx L' (N + 1) ∧ Bes L' (N + 1) ∧ L'.G = L.G ∧ L.cs.length ≤ L'.cs.length) := ⟨L, hLx.mono (by omega), HB.out.mono (by omega), rfl, Nat.le_refl _⟩
    clear HO bx0 hb hLx HBO HLA
    go_wp2_with fail
    go_ret
    exact ⟨rfl, HE.out⟩
end Go.Proofs.YtlccfpbbdgpjbaaGreatDoor
