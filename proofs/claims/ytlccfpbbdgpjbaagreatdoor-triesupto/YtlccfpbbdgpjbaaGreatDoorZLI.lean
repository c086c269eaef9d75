import Derived.Test.YtlccfpbbdgpjbaaGreatDoorZLR
namespace Go.Proofs.YtlccfpbbdgpjbaaGreatDoor
open Go.RowKit
attribute [local go_sem ↓] Go.wp_at_zero Go.wp_at_succ

theorem Tryz.infoInts : (Tryz.prog.info? 126).map (fun i => (i.zero, i.size, i.bytes)) = some (some (.agg #[.slice none 0 0, .slice none 0 0, .slice none 0 0, .slice none 0 0, .int .i64 0]), 5, 104) := by kernel_rfl

theorem fill_set {α : Type} (x : α) (zs : List α) (i : Nat) (hi : i < zs.length) : (List.replicate i x ++ zs.drop i).set i x = List.replicate (i + 1) x ++ zs.drop (i + 1) := by
  rw [List.set_append_right _ _ (by simp), List.length_replicate, Nat.sub_self, List.drop_eq_getElem_cons hi, List.set_cons_zero, List.replicate_succ', List.append_assoc]
  rfl
theorem fill_len {α : Type} (x : α) (zs : List α) (i : Nat) (hi : i ≤ zs.length) : (List.replicate i x ++ zs.drop i).length = zs.length := by simp; omega

set_option maxRecDepth 100000 in
set_option maxHeartbeats 8000000 in
theorem ints_any {W w : World} {L : LV} {N N' : Int} (h : Law W w L N) (hN' : N' ≤ 1000000) {l : Value} {zs : List Int} {b : Nat} (hr : Row w b 3 1 encI l zs) (hbW : W.heap.size ≤ b) (hf : Free L l) (hz : (zs.length : Int) ≤ 1440000000000) (hn : (L.is.length : Int) + L.ac.length + 1 ≤ 3 * N') :
    Calls Tryz.prog 56 #[.pointer (some ⟨L.G, 2, none⟩), l] w fun e w' => e = .returned (.tuple #[]) ∧ ∃ L', Law W w' L' N' ∧ L'.G = L.G ∧ L'.cs = L.cs ∧ L'.ac = L.ac ∧ L'.is.length = L.is.length + 1 ∧ Chg (fun i => i = .hd ∨ i = .ri ∨ i = .li L.is.length) (fun k => l.ownBlock = some k) w L w' L' := by
  obtain ⟨i1, hi1, y0, y1, y2⟩ := info_parts Tryz.infoInt
  obtain ⟨i2, hi2, x0, x1, x2⟩ := info_parts Tryz.infoInts
  have hd := h.says .hd
  have c2 : w.cell? ⟨L.G, 2, none⟩ = some (.int .i64 ((L.is.length : Int) + L.ac.length)) := hd.1 2 _ rfl
  have f2 : w.frozen? ⟨L.G, 2, none⟩ = false := hd.2 2 (by omega)
  have c3 : w.cell? ⟨L.G, 3, none⟩ = some L.vi := hd.1 3 _ rfl
  have f3 : w.frozen? ⟨L.G, 3, none⟩ = false := hd.2 3 (by omega)
  have lG : L.G < w.heap.size := World.block_lt_of_cell? w _ c2
  have hri : Row w 0 126 5 encEn L.vi L.is := h.says .ri
  have hlG : l.ownBlock ≠ some L.G := fun e => hf _ e .hd rfl
  have hlv : ∀ k, l.ownBlock = some k → L.vi.ownBlock ≠ some k := fun k e e' => hf k e .ri e'
  have hvG : L.vi.ownBlock ≠ some L.G := fun e => h.ap .ri .hd (by simp) L.G e rfl
  have hll : ∀ k, l.ownBlock = some k → k < w.heap.size := fun k e => (hr.lt k e).2
  have hlW : ∀ k, l.ownBlock = some k → W.heap.size ≤ k := fun k e => Nat.le_trans hbW (hr.lt k e).1
  have hisl : (L.is.length : Int) ≤ 3000000 := by omega
  have n20 : 0 ≤ (L.is.length : Int) + L.ac.length := by omega
  have n21 : (L.is.length : Int) + L.ac.length ≤ 3000000 := by omega
  obtain ⟨A, cap, hl0, -, hA, -⟩ := hr.form
  have HLAW := hide h
  have HFREE := hide hf
  have HNL := hide hn
  have HF0 : Hid (Fr L.G [2] l.ownBlock.toList w (w.setCell ⟨L.G, 2, none⟩ (.int .i64 ((L.is.length : Int) + L.ac.length + 1)))) := ((Fr.refl L.G [2] l.ownBlock.toList w).trans (Fr.store _) (fun j hj => ⟨hj, hj⟩) (fun r hr => by cases hr))
  have HC2 : Hid ((w.setCell ⟨L.G, 2, none⟩ (.int .i64 ((L.is.length : Int) + L.ac.length + 1))).cell? ⟨L.G, 2, none⟩ = some (.int .i64 ((L.is.length : Int) + L.ac.length + 1))) := World.cell?_setCell_same _ _ _ c2
  have HR0 : Hid (Row (w.setCell ⟨L.G, 2, none⟩ (.int .i64 ((L.is.length : Int) + L.ac.length + 1))) 0 3 1 encI l zs) := (hr.base (Nat.zero_le _)).same fun k e => Below.heap_setCell _ _ _ _ (fun e' => hlG (by rw [e, e']))
  generalize hn2 : (L.is.length : Int) + L.ac.length = n2 at c2 n20 n21 HF0 HC2 HR0 hn
  have HN2 := hide hn2
  clear h hf hd hn hn2 hr
  subst hl0
  have HA := hide hA
  clear hA
  generalize hzl : zs.length = n at hz HA hlG hlv hll hlW HFREE HF0 HR0 ⊢
  have HZL := hide hzl
  clear hzl
  go_enter Tryz.func56, Tryz.ntmps56
  go_wp2_with fail
  generalize (w.setCell ⟨L.G, 2, none⟩ (.int .i64 (n2 + 1))) = wq at HF0 HC2 HR0 ⊢
  go_loopw [5] (fun iv wr => ∃ i : Nat, i ≤ n ∧ iv = .int .i64 (i : Int) ∧ Fr L.G [2] (Value.slice A n cap).ownBlock.toList w wr ∧ wr.cell? ⟨L.G, 2, none⟩ = some (.int .i64 (n2 + 1)) ∧ Row wr 0 3 1 encI (.slice A n cap) (List.replicate i (1000 + (n2 + 1)) ++ zs.drop i)) (fun iv _ => n - (intOf iv).toNat)
  case atStart => exact ⟨0, Nat.zero_le _, rfl, HF0.out, HC2.out, by simpa using HR0.out⟩
  case round =>
    obtain ⟨i, hi, rfl, hF, hC, hR⟩ := hrel
    have HR := hide hR
    have HF := hide hF
    have HC := hide hC
    by_cases hlt : (i : Int) < (n : Int)
    · have hin : i < n := by omega
      obtain ⟨g, rfl⟩ := HA.out i (by omega)
      have hil : i < (List.replicate i (1000 + (n2 + 1)) ++ zs.drop i).length := by rw [fill_len _ _ _ (by rw [show zs.length = n from HZL.out]; exact hi), show zs.length = n from HZL.out]; exact hin
      have hcz := hR.cell (fun _ => rfl) (g := g) (i := i) (j := 0) (u := .int .i64 (List.replicate i (1000 + (n2 + 1)) ++ zs.drop i)[i]) rfl hil rfl
      have cz : wr.cell? ⟨g, i, none⟩ = some (.int .i64 (List.replicate i (1000 + (n2 + 1)) ++ zs.drop i)[i]) := by simpa using hcz.1
      have fz : wr.frozen? ⟨g, i, none⟩ = false := by simpa using hcz.2
      have HS : Hid (Row (wr.setCell ⟨g, i, none⟩ (.int .i64 (1000 + (n2 + 1)))) 0 3 1 encI (.slice (some ⟨g, 0, none⟩) n cap) (List.replicate (i + 1) (1000 + (n2 + 1)) ++ zs.drop (i + 1))) := by
        have := hR.set (fun _ => rfl) (g := g) (i := i) (j := 0) rfl hil (by omega) (.int .i64 (1000 + (n2 + 1))) (1000 + (n2 + 1)) rfl
        rw [fill_set _ _ _ (by rw [show zs.length = n from HZL.out]; exact hin)] at this
        refine hide ?_
        simpa using this
      have gG : g ≠ L.G := fun e => hlG (by rw [e]; rfl)
      have HFS : Hid (Fr L.G [2] (Value.slice (some ⟨g, 0, none⟩) n cap).ownBlock.toList w (wr.setCell ⟨g, i, none⟩ (.int .i64 (1000 + (n2 + 1))))) := hF.setIn (by simp [Value.ownBlock]) gG _
      have HCS : Hid ((wr.setCell ⟨g, i, none⟩ (.int .i64 (1000 + (n2 + 1)))).cell? ⟨L.G, 2, none⟩ = some (.int .i64 (n2 + 1))) := (World.cell?_of_block (a := ⟨L.G, 2, none⟩) (Below.heap_setCell wr ⟨g, i, none⟩ _ L.G (Ne.symm gG))).trans hC
      generalize (List.replicate i (1000 + (n2 + 1)) ++ zs.drop i)[i] = zi at cz
      clear hF hC hR hcz hil
      go_wp2_with fail
      go_roundw
      case rel => exact ⟨i + 1, by omega, by go_num, HFS.out, HCS.out, HS.out⟩
      case measure => simp [intOf]; omega
    · obtain rfl : i = n := by omega
      have hR' : Row wr 0 3 1 encI (.slice A i cap) (List.replicate i (1000 + (n2 + 1))) := by
        have := hR
        rw [List.drop_of_length_le (by rw [show zs.length = i from HZL.out]; exact Nat.le_refl _), List.append_nil] at this
        exact this
      clear HR hR hF hC
      have HRW := hide hR'
      clear hR'
      go_upto_region 7 with fail
      have hS0 : Stg 3 1 126 encI (1000 + (n2 + 1)) w L.G (.int .i64 (n2 + 1)) wr.heap.size ⟨.slice A i cap, .slice none 0 0, .slice none 0 0, .slice none 0 0, 1000 + (n2 + 1), i⟩ (wr.alloc (.cells #[.slice A i cap, .slice none 0 0, .slice none 0 0, .slice none 0 0, .int .i64 (1000 + (n2 + 1))] 126)) 0 := by
        have hbb : Below wr.heap.size wr (wr.alloc (.cells #[.slice A i cap, .slice none 0 0, .slice none 0 0, .slice none 0 0, .int .i64 (1000 + (n2 + 1))] 126)) := (Below.refl _ _).alloc (Nat.le_refl _) _
        have lwr := Nat.lt_of_lt_of_le lG HF.out.size
        refine ⟨HF.out.trans (Fr.of_below (J := []) (R := []) lwr hbb) (fun j hj => ⟨hj, fun h => by cases h⟩) (fun r hr => by cases hr), (hbb.cell (p := ⟨L.G, 2, none⟩) lwr).trans HC.out, heap_alloc_new wr _, HRW.out.below hbb, fun h => absurd h (by omega), fun h => absurd h (by omega), fun h => absurd h (by omega), fun q e => by simp [Value.ownBlock] at e, fun q e => by simp [Value.ownBlock] at e, fun q e => by simp [Value.ownBlock] at e, HF.out.size, lG, hlG, hll⟩
      have HS0 := hide hS0
      clear hS0 HF HC HRW HF0 HC2 HR0
      generalize (wr.alloc (.cells #[.slice A i cap, .slice none 0 0, .slice none 0 0, .slice none 0 0, .int .i64 (1000 + (n2 + 1))] 126)) = w0 at HS0 ⊢
      generalize wr.heap.size = bx at HS0 ⊢
      go_upto_region 8 with (first
        | (at_builtin; refine wpList_append_two _ (by rfl) _ _ _ (by rfl) 0 3 i1 _ 1 8 Tryz.underlying45 hi1 y0 y1 y2 rfl (by omega) (.slice A i cap) i ((List.replicate i (1000 + (n2 + 1))).flatMap encI) (by rfl) (HS0.out.own_row.alloc _) ⟨w0.heap.size, 0, none⟩ 1 1 ((List.replicate 1 (1000 + (n2 + 1))).flatMap encI) (by rfl) (by rfl) (World.news_of_block (cs := #[.int .i64 (1000 + (n2 + 1))]) (t := 3) (fr := (0, 0)) (heap_alloc_new w0 _)) (by simp [Value.oneCell', encI]) (by omega) (by simp only [maxLen]; omega) (by omega) (by omega) (w0.heap.size + 1) (by simp) ?_; intro g1 cap1 wn hown hgrow hat hlt9 hl9; obtain ⟨hb9, hS9⟩ := HS0.out.app1 (by omega) (fun _ => rfl) hown hgrow hat hl9; have cz : wn.cell? ⟨bx, 1, none⟩ = some (.slice none 0 0) := cell_of_row wn bx 1 _ _ _ hb9; have fz : wn.frozen? ⟨bx, 1, none⟩ = false := (by simp [World.frozen?, hb9]); have HS1 := hide hS9; clear hown hgrow hat hlt9 hl9 hS9 hb9))
      clear HS0 cz fz
      rename World => wn
      generalize (wn.setCell ⟨bx, 1, none⟩ (.slice (some ⟨g1, 0, none⟩) (i + 1) cap1)) = w1 at HS1 ⊢
      go_upto_region 9 with (first
        | (at_builtin; refine wpList_append_two _ (by rfl) _ _ _ (by rfl) 0 3 i1 _ 1 8 Tryz.underlying45 hi1 y0 y1 y2 rfl (by omega) (.slice A i cap) i ((List.replicate i (1000 + (n2 + 1))).flatMap encI) (by rfl) (HS1.out.own_row.alloc _) ⟨w1.heap.size, 0, none⟩ 2 2 ((List.replicate 2 (1000 + (n2 + 1))).flatMap encI) (by rfl) (by rfl) (World.news_of_block (cs := #[.int .i64 (1000 + (n2 + 1)), .int .i64 (1000 + (n2 + 1))]) (t := 3) (fr := (0, 0)) (heap_alloc_new w1 _)) (by simp [Value.oneCell', encI]) (by omega) (by simp only [maxLen]; omega) (by omega) (by omega) (w1.heap.size + 1) (by simp) ?_; intro g2 cap2 wn hown hgrow hat hlt9 hl9; obtain ⟨hb9, hS9⟩ := HS1.out.app2 (by omega) (fun _ => rfl) hown hgrow hat hl9; have cz : wn.cell? ⟨bx, 2, none⟩ = some (.slice none 0 0) := cell_of_row wn bx 2 _ _ _ hb9; have fz : wn.frozen? ⟨bx, 2, none⟩ = false := (by simp [World.frozen?, hb9]); have HS2 := hide hS9; clear hown hgrow hat hlt9 hl9 hS9 hb9))
      clear HS1 cz fz
      rename World => wn
      generalize (wn.setCell ⟨bx, 2, none⟩ (.slice (some ⟨g2, 0, none⟩) (i + 2) cap2)) = w2 at HS2 ⊢
      go_upto_region 10 with (first
        | (at_builtin; refine wpList_append_two _ (by rfl) _ _ _ (by rfl) 0 3 i1 _ 1 8 Tryz.underlying45 hi1 y0 y1 y2 rfl (by omega) (.slice A i cap) i ((List.replicate i (1000 + (n2 + 1))).flatMap encI) (by rfl) (HS2.out.own_row.alloc _) ⟨w2.heap.size, 0, none⟩ 3 3 ((List.replicate 3 (1000 + (n2 + 1))).flatMap encI) (by rfl) (by rfl) (World.news_of_block (cs := #[.int .i64 (1000 + (n2 + 1)), .int .i64 (1000 + (n2 + 1)), .int .i64 (1000 + (n2 + 1))]) (t := 3) (fr := (0, 0)) (heap_alloc_new w2 _)) (by simp [Value.oneCell', encI]) (by omega) (by simp only [maxLen]; omega) (by omega) (by omega) (w2.heap.size + 1) (by simp) ?_; intro g3 cap3 wn hown hgrow hat hlt9 hl9; obtain ⟨hb9, hS9⟩ := HS2.out.app3 (by omega) (fun _ => rfl) hown hgrow hat hl9; have cz : wn.cell? ⟨bx, 3, none⟩ = some (.slice none 0 0) := cell_of_row wn bx 3 _ _ _ hb9; have fz : wn.frozen? ⟨bx, 3, none⟩ = false := (by simp [World.frozen?, hb9]); have HS3 := hide hS9; clear hown hgrow hat hlt9 hl9 hS9 hb9))
      clear HS2 cz fz
      rename World => wn
      generalize (wn.setCell ⟨bx, 3, none⟩ (.slice (some ⟨g3, 0, none⟩) (i + 3) cap3)) = w3 at HS3 ⊢
      have x0' := HS3.out.cells 0 _ rfl
      have x1' := HS3.out.cells 1 _ rfl
      have x2' := HS3.out.cells 2 _ rfl
      have x3' := HS3.out.cells 3 _ rfl
      have x4' := HS3.out.cells 4 _ rfl
      dsimp only at x0' x1' x2' x3' x4'
      have lw3 : L.G < w3.heap.size := Nat.lt_of_lt_of_le lG HS3.out.fr.size
      have k3 : w3.cell? ⟨L.G, 3, none⟩ = some L.vi := (HS3.out.fr.cell 3 (by simp)).trans c3
      have z3 : w3.frozen? ⟨L.G, 3, none⟩ = false := (HS3.out.fr.frozen 3).trans f3
      have hri3 : Row w3 0 126 5 encEn L.vi L.is := HS3.out.fr.row hri (fun k hk => ⟨fun e => hvG (by rw [← e]; exact hk), fun e => hlv k (by simpa using e) hk⟩)
      have HRI := hide hri3
      have HZ : Hid (∀ B : Obj, (w3.alloc B).frozen? ⟨L.G, 3, none⟩ = false) := fun B => by
        rw [World.frozen?_alloc_old _ _ _ (by simp; omega)]
        exact z3
      have HC3 : Hid (∀ B : Obj, (w3.alloc B).cell? ⟨L.G, 3, none⟩ = some L.vi) := fun B => by
        rw [World.cell?_alloc_lt _ _ _ (by simpa using lw3)]
        exact k3
      clear hri3 hri
      go_wp2_with fail
      go_region_law
        ((refine step_append_lies _ (by rfl) _ _ _ (by rfl) 0 126 i2 _ 5 104 Tryz.underlying26 hi2 x0 x1 x2 rfl (by omega) L.vi L.is.length (L.is.flatMap encEn) (by rfl) ((World.ownsRow.alloc HRI.out _).drew)
            ⟨w3.heap.size, 0, none⟩ 1 1 (encEn ⟨.slice A i cap, .slice (some ⟨g1, 0, none⟩) (i + 1) cap1, .slice (some ⟨g2, 0, none⟩) (i + 2) cap2, .slice (some ⟨g3, 0, none⟩) (i + 3) cap3, 1000 + (n2 + 1), i⟩) (by rfl) (by rfl) (World.news_of_block (cs := (encEn ⟨.slice A i cap, .slice (some ⟨g1, 0, none⟩) (i + 1) cap1, .slice (some ⟨g2, 0, none⟩) (i + 2) cap2, .slice (some ⟨g3, 0, none⟩) (i + 3) cap3, 1000 + (n2 + 1), i⟩).toArray) (t := 126) (fr := (0, 0)) (heap_alloc_new w3 _)) (by simp [Value.oneCell', encEn])
            (by omega) (by simp only [maxLen]; omega) (by omega) (by omega) (w3.heap.size + 1) (by simp) ?_; intro g cap9 wn hown hgrow hat hlt9; have fz : wn.frozen? ⟨L.G, 3, none⟩ = false := (by rw [hgrow.frozen_far _ (by simp; omega) (Ne.symm hvG)]; exact HZ.out _); have cz : wn.cell? ⟨L.G, 3, none⟩ = some L.vi := (by rw [hgrow.cell_far _ (by simp; omega) (Ne.symm hvG)]; exact HC3.out _)))
      all_goals
        go_wp2_with fail
        go_end0
        obtain ⟨v', hc', hr', hv', hF'⟩ := push_post (x := (⟨.slice A i cap, .slice (some ⟨g1, 0, none⟩) (i + 1) cap1, .slice (some ⟨g2, 0, none⟩) (i + 2) cap2, .slice (some ⟨g3, 0, none⟩) (i + 3) cap3, 1000 + (n2 + 1), i⟩ : En)) lw3 HRI.out ((Below.refl _ _).alloc (Nat.le_refl _) _).drew hown hgrow hvG (hat.imp id (fun h => by omega)) cz
        have hS3 := HS3.out
        rw [← show (L.is.length : Int) + L.ac.length = n2 from HN2.out] at hS3 hr'
        obtain ⟨hLaw, hChg⟩ := HLAW.out.ints HFREE.out hlW hS3 hc' hr' hv' hF' HNL.out hz
        exact ⟨rfl, _, hLaw, rfl, rfl, rfl, by simp, hChg⟩
end Go.Proofs.YtlccfpbbdgpjbaaGreatDoor

namespace Go.Proofs.YtlccfpbbdgpjbaaGreatDoor
open Go.RowKit
attribute [local go_sem ↓] Go.wp_at_zero Go.wp_at_succ

theorem Tryz.infoActs : (Tryz.prog.info? 129).map (fun i => (i.zero, i.size, i.bytes)) = some (some (.agg #[.slice none 0 0, .slice none 0 0, .slice none 0 0, .slice none 0 0, .int .i64 0]), 5, 104) := by kernel_rfl

/-- Another block is as it was. -/
theorem Stg.far {α : Type} {t size tx : Nat} {enc : α → List Value} {x : α} {w : World} {G : Nat} {v2 : Value} {bx : Nat} {en : En} {wk : World} {d : Nat} (_ : Stg t size tx enc x w G v2 bx en wk d) {o : Obj} {w1 : World} (hgrow : (wk.alloc o).grownBy w1 en.l.ownBlock) {q j : Nat} (hq : q < wk.heap.size) (hl : en.l.ownBlock ≠ some q) (hb : q ≠ bx) (v : Value) :
    w1.heap[q]? = wk.heap[q]? ∧ (w1.setCell ⟨bx, j, none⟩ v).heap[q]? = wk.heap[q]? := by
  have h1 : w1.heap[q]? = wk.heap[q]? := (hgrow.block q (by simp; omega) (fun e => hl e.symm)).trans (heap_alloc_old wk o hq)
  exact ⟨h1, (Below.heap_setCell _ _ _ _ hb).trans h1⟩

/-- A store of an action. -/
def put6 (w : World) (g i : Nat) (a : RAct) : World :=
  (((((w.setCell ⟨g, i * 6, none⟩ (.int .i64 a.kind)).setCell ⟨g, i * 6 + 1, none⟩ (.int .i64 a.call)).setCell ⟨g, i * 6 + 2, none⟩ (.int .i64 a.attempt)).setCell ⟨g, i * 6 + 3, none⟩ (.int .i64 a.outcome)).setCell ⟨g, i * 6 + 4, none⟩ (.int .i64 a.value)).setCell ⟨g, i * 6 + 5, none⟩ (.int .i64 a.left)
theorem put6_block (w : World) (g i : Nat) (a : RAct) {k : Nat} (h : k ≠ g) : (put6 w g i a).heap[k]? = w.heap[k]? := by
  unfold put6
  rw [Below.heap_setCell _ _ _ _ h, Below.heap_setCell _ _ _ _ h, Below.heap_setCell _ _ _ _ h, Below.heap_setCell _ _ _ _ h, Below.heap_setCell _ _ _ _ h, Below.heap_setCell _ _ _ _ h]
theorem put6_fr {p : Nat} {J R : List Nat} {w wr : World} (h : Fr p J R w wr) {g : Nat} (hg : g ∈ R) (hp : g ≠ p) (i : Nat) (a : RAct) : Fr p J R w (put6 wr g i a) :=
  (((((h.setIn (a := ⟨g, i * 6, none⟩) hg hp _).setIn (a := ⟨g, i * 6 + 1, none⟩) hg hp _).setIn (a := ⟨g, i * 6 + 2, none⟩) hg hp _).setIn (a := ⟨g, i * 6 + 3, none⟩) hg hp _).setIn (a := ⟨g, i * 6 + 4, none⟩) hg hp _).setIn (a := ⟨g, i * 6 + 5, none⟩) hg hp _
theorem put6_row {w : World} {b e : Nat} {v : Value} {xs : List RAct} (h : Row w b e 6 encAct v xs) {g i : Nat} (hg : v.ownBlock = some g) (hi : i < xs.length) (a : RAct) : Row (put6 w g i a) b e 6 encAct v (xs.set i a) := by
  have h0 := h.set encAct_len hg hi (j := 0) (by omega) (.int .i64 a.kind) ⟨a.kind, xs[i].call, xs[i].attempt, xs[i].outcome, xs[i].value, xs[i].left⟩ rfl
  have h1 := h0.set encAct_len hg (i := i) (by simpa using hi) (j := 1) (by omega) (.int .i64 a.call) ⟨a.kind, a.call, xs[i].attempt, xs[i].outcome, xs[i].value, xs[i].left⟩ (by rw [List.getElem_set_self]; rfl)
  have h2 := h1.set encAct_len hg (i := i) (by simpa using hi) (j := 2) (by omega) (.int .i64 a.attempt) ⟨a.kind, a.call, a.attempt, xs[i].outcome, xs[i].value, xs[i].left⟩ (by rw [List.getElem_set_self]; rfl)
  have h3 := h2.set encAct_len hg (i := i) (by simpa using hi) (j := 3) (by omega) (.int .i64 a.outcome) ⟨a.kind, a.call, a.attempt, a.outcome, xs[i].value, xs[i].left⟩ (by rw [List.getElem_set_self]; rfl)
  have h4 := h3.set encAct_len hg (i := i) (by simpa using hi) (j := 4) (by omega) (.int .i64 a.value) ⟨a.kind, a.call, a.attempt, a.outcome, a.value, xs[i].left⟩ (by rw [List.getElem_set_self]; rfl)
  have h5 := h4.set encAct_len hg (i := i) (by simpa using hi) (j := 5) (by omega) (.int .i64 a.left) a (by rw [List.getElem_set_self]; rfl)
  simp only [List.set_set] at h5
  exact h5

set_option maxRecDepth 100000 in
set_option maxHeartbeats 8000000 in
theorem actions_any {W w : World} {L : LV} {N N' : Int} (h : Law W w L N) (hN' : N' ≤ 1000000) {l : Value} {zs : List RAct} {b : Nat} (hr : Row w b 55 6 encAct l zs) (hbW : W.heap.size ≤ b) (hf : Free L l) (hz : (zs.length : Int) ≤ 1440000000000) (hn : (L.is.length : Int) + L.ac.length + 1 ≤ 3 * N') :
    Calls Tryz.prog 53 #[.pointer (some ⟨L.G, 2, none⟩), l] w fun e w' => e = .returned (.tuple #[]) ∧ ∃ L', Law W w' L' N' ∧ L'.G = L.G ∧ L'.cs = L.cs ∧ L'.is = L.is ∧ L'.ac.length = L.ac.length + 1 ∧ Chg (fun i => i = .hd ∨ i = .ra ∨ i = .la L.ac.length) (fun k => l.ownBlock = some k) w L w' L' := by
  obtain ⟨i1, hi1, y0, y1, y2⟩ := info_parts Tryz.infoAct
  obtain ⟨i2, hi2, x0, x1, x2⟩ := info_parts Tryz.infoActs
  have hd := h.says .hd
  have c2 : w.cell? ⟨L.G, 2, none⟩ = some (.int .i64 ((L.is.length : Int) + L.ac.length)) := hd.1 2 _ rfl
  have f2 : w.frozen? ⟨L.G, 2, none⟩ = false := hd.2 2 (by omega)
  have c3 : w.cell? ⟨L.G, 4, none⟩ = some L.va := hd.1 4 _ rfl
  have f3 : w.frozen? ⟨L.G, 4, none⟩ = false := hd.2 4 (by omega)
  have lG : L.G < w.heap.size := World.block_lt_of_cell? w _ c2
  have hri : Row w 0 129 5 encEn L.va L.ac := h.says .ra
  have hlG : l.ownBlock ≠ some L.G := fun e => hf _ e .hd rfl
  have hlv : ∀ k, l.ownBlock = some k → L.va.ownBlock ≠ some k := fun k e e' => hf k e .ra e'
  have hvG : L.va.ownBlock ≠ some L.G := fun e => h.ap .ra .hd (by simp) L.G e rfl
  have hll : ∀ k, l.ownBlock = some k → k < w.heap.size := fun k e => (hr.lt k e).2
  have hlW : ∀ k, l.ownBlock = some k → W.heap.size ≤ k := fun k e => Nat.le_trans hbW (hr.lt k e).1
  have hisl : (L.ac.length : Int) ≤ 3000000 := by omega
  have n20 : 0 ≤ (L.is.length : Int) + L.ac.length := by omega
  have n21 : (L.is.length : Int) + L.ac.length ≤ 3000000 := by omega
  obtain ⟨A, cap, hl0, -, hA, -⟩ := hr.form
  have HLAW := hide h
  have HFREE := hide hf
  have HNL := hide hn
  have HF0 : Hid (Fr L.G [2] l.ownBlock.toList w (w.setCell ⟨L.G, 2, none⟩ (.int .i64 ((L.is.length : Int) + L.ac.length + 1)))) := ((Fr.refl L.G [2] l.ownBlock.toList w).trans (Fr.store _) (fun j hj => ⟨hj, hj⟩) (fun r hr => by cases hr))
  have HC2 : Hid ((w.setCell ⟨L.G, 2, none⟩ (.int .i64 ((L.is.length : Int) + L.ac.length + 1))).cell? ⟨L.G, 2, none⟩ = some (.int .i64 ((L.is.length : Int) + L.ac.length + 1))) := World.cell?_setCell_same _ _ _ c2
  have HR0 : Hid (Row (w.setCell ⟨L.G, 2, none⟩ (.int .i64 ((L.is.length : Int) + L.ac.length + 1))) 0 55 6 encAct l zs) := (hr.base (Nat.zero_le _)).same fun k e => Below.heap_setCell _ _ _ _ (fun e' => hlG (by rw [e, e']))
  generalize hn2 : (L.is.length : Int) + L.ac.length = n2 at c2 n20 n21 HF0 HC2 HR0 hn
  have HN2 := hide hn2
  clear h hf hd hn hn2 hr
  subst hl0
  have HA := hide hA
  clear hA
  generalize hzl : zs.length = n at hz HA hlG hlv hll hlW HFREE HF0 HR0 ⊢
  have HZL := hide hzl
  clear hzl
  have HF1 : Hid (Fr L.G [2] (Value.slice A n cap).ownBlock.toList w ((w.setCell ⟨L.G, 2, none⟩ (.int .i64 (n2 + 1))).alloc (.cells #[.int .i64 0, .int .i64 0, .int .i64 0, .int .i64 0, .int .i64 (1000 + (n2 + 1)), .int .i64 0] 55))) := HF0.out.trans (Fr.of_below (J := []) (R := []) (by simpa using lG) ((Below.refl _ _).alloc (Nat.le_refl _) _)) (fun j hj => ⟨hj, fun h => by cases h⟩) (fun r hr => by cases hr)
  have HC1 : Hid (((w.setCell ⟨L.G, 2, none⟩ (.int .i64 (n2 + 1))).alloc (.cells #[.int .i64 0, .int .i64 0, .int .i64 0, .int .i64 0, .int .i64 (1000 + (n2 + 1)), .int .i64 0] 55)).cell? ⟨L.G, 2, none⟩ = some (.int .i64 (n2 + 1))) := (World.cell?_alloc_lt _ _ _ (by simpa using lG)).trans HC2.out
  have HR1 : Hid (Row ((w.setCell ⟨L.G, 2, none⟩ (.int .i64 (n2 + 1))).alloc (.cells #[.int .i64 0, .int .i64 0, .int .i64 0, .int .i64 0, .int .i64 (1000 + (n2 + 1)), .int .i64 0] 55)) 0 55 6 encAct (.slice A n cap) zs) := HR0.out.below ((Below.refl _ _).alloc (Nat.le_refl _) _)
  have HD1 : Hid (((w.setCell ⟨L.G, 2, none⟩ (.int .i64 (n2 + 1))).alloc (.cells #[.int .i64 0, .int .i64 0, .int .i64 0, .int .i64 0, .int .i64 (1000 + (n2 + 1)), .int .i64 0] 55)).heap[w.heap.size]? = some (.cells (encAct (markA (1000 + (n2 + 1)))).toArray 55 (0, 0))) := by
    have := heap_alloc_new (w.setCell ⟨L.G, 2, none⟩ (.int .i64 (n2 + 1))) (.cells #[.int .i64 0, .int .i64 0, .int .i64 0, .int .i64 0, .int .i64 (1000 + (n2 + 1)), .int .i64 0] 55)
    refine hide ?_
    simpa [encAct, markA] using this
  clear HF0 HC2 HR0
  have hbd : w.heap.size ≤ w.heap.size := Nat.le_refl _
  have hlbd : (Value.slice A n cap).ownBlock ≠ some w.heap.size := fun e => by have := hll _ e; omega
  go_enter Tryz.func53, Tryz.ntmps53
  go_wp2_with fail
  generalize ((w.setCell ⟨L.G, 2, none⟩ (.int .i64 (n2 + 1))).alloc (.cells #[.int .i64 0, .int .i64 0, .int .i64 0, .int .i64 0, .int .i64 (1000 + (n2 + 1)), .int .i64 0] 55)) = wq at HF1 HC1 HR1 HD1 ⊢
  obtain ⟨bd, hbde⟩ : ∃ bd, bd = w.heap.size := ⟨_, rfl⟩
  have HBD := hide hbde
  rw [← hbde] at HD1 hlbd
  rw [← hbde]
  clear hbde hbd
  go_loopw [5] (fun iv wr => ∃ i : Nat, i ≤ n ∧ iv = .int .i64 (i : Int) ∧ Fr L.G [2] (Value.slice A n cap).ownBlock.toList w wr ∧ wr.cell? ⟨L.G, 2, none⟩ = some (.int .i64 (n2 + 1)) ∧ Row wr 0 55 6 encAct (.slice A n cap) (List.replicate i (markA (1000 + (n2 + 1))) ++ zs.drop i) ∧ wr.heap[bd]? = some (.cells (encAct (markA (1000 + (n2 + 1)))).toArray 55 (0, 0))) (fun iv _ => n - (intOf iv).toNat)
  case atStart => exact ⟨0, Nat.zero_le _, rfl, HF1.out, HC1.out, by simpa using HR1.out, HD1.out⟩
  case round =>
    obtain ⟨i, hi, rfl, hF, hC, hR, hD⟩ := hrel
    have HR := hide hR
    have HF := hide hF
    have HC := hide hC
    have HD := hide hD
    have a0 : wr.cell? ⟨bd, 0, none⟩ = some (.int .i64 0) := cell_of_row wr bd 0 _ _ _ hD
    have a1 : wr.cell? ⟨bd, 1, none⟩ = some (.int .i64 0) := cell_of_row wr bd 1 _ _ _ hD
    have a2 : wr.cell? ⟨bd, 2, none⟩ = some (.int .i64 0) := cell_of_row wr bd 2 _ _ _ hD
    have a3 : wr.cell? ⟨bd, 3, none⟩ = some (.int .i64 0) := cell_of_row wr bd 3 _ _ _ hD
    have a4 : wr.cell? ⟨bd, 4, none⟩ = some (.int .i64 (1000 + (n2 + 1))) := cell_of_row wr bd 4 _ _ _ hD
    have a5 : wr.cell? ⟨bd, 5, none⟩ = some (.int .i64 0) := cell_of_row wr bd 5 _ _ _ hD
    by_cases hlt : (i : Int) < (n : Int)
    · have hin : i < n := by omega
      obtain ⟨g, rfl⟩ := HA.out i (by omega)
      have hil : i < (List.replicate i (markA (1000 + (n2 + 1))) ++ zs.drop i).length := by rw [fill_len _ _ _ (by rw [show zs.length = n from HZL.out]; exact hi), show zs.length = n from HZL.out]; exact hin
      have hcz := fun j u (hu : (encAct (List.replicate i (markA (1000 + (n2 + 1))) ++ zs.drop i)[i])[j]? = some u) => hR.cell encAct_len (g := g) (i := i) (j := j) (u := u) rfl hil hu
      have s0 := (hcz 0 _ rfl).1
      have s1 := (hcz 1 _ rfl).1
      have s2 := (hcz 2 _ rfl).1
      have s3 := (hcz 3 _ rfl).1
      have s4 := (hcz 4 _ rfl).1
      have s5 := (hcz 5 _ rfl).1
      have t0 := (hcz 0 _ rfl).2
      have t1 := (hcz 1 _ rfl).2
      have t2 := (hcz 2 _ rfl).2
      have t3 := (hcz 3 _ rfl).2
      have t4 := (hcz 4 _ rfl).2
      have t5 := (hcz 5 _ rfl).2
      simp only [Nat.add_zero] at s0 t0
      have gG : g ≠ L.G := fun e => hlG (by rw [e]; rfl)
      have gbd : g ≠ bd := fun e => hlbd (by rw [← e]; rfl)
      generalize (List.replicate i (markA (1000 + (n2 + 1))) ++ zs.drop i)[i] = ai at s0 s1 s2 s3 s4 s5
      obtain ⟨b0, b1, b2, b3, b4, b5⟩ := ai
      dsimp only at s0 s1 s2 s3 s4 s5
      have HS : Hid (Row (put6 wr g i (markA (1000 + (n2 + 1)))) 0 55 6 encAct (.slice (some ⟨g, 0, none⟩) n cap) (List.replicate (i + 1) (markA (1000 + (n2 + 1))) ++ zs.drop (i + 1))) := by
        have := put6_row hR (g := g) rfl hil (markA (1000 + (n2 + 1)))
        rw [fill_set _ _ _ (by rw [show zs.length = n from HZL.out]; exact hin)] at this
        exact this
      have HFS : Hid (Fr L.G [2] (Value.slice (some ⟨g, 0, none⟩) n cap).ownBlock.toList w (put6 wr g i (markA (1000 + (n2 + 1))))) := put6_fr hF (by simp [Value.ownBlock]) gG i _
      have HCS : Hid ((put6 wr g i (markA (1000 + (n2 + 1)))).cell? ⟨L.G, 2, none⟩ = some (.int .i64 (n2 + 1))) := (World.cell?_of_block (a := ⟨L.G, 2, none⟩) (put6_block _ _ _ _ (Ne.symm gG))).trans hC
      have HDS : Hid ((put6 wr g i (markA (1000 + (n2 + 1)))).heap[bd]? = some (.cells (encAct (markA (1000 + (n2 + 1)))).toArray 55 (0, 0))) := (put6_block _ _ _ _ (Ne.symm gbd)).trans hD
      clear hF hC hR hcz hD
      go_wp2_with fail
      go_roundw
      case rel => exact ⟨i + 1, by omega, by go_num, HFS.out, HCS.out, HS.out, HDS.out⟩
      case measure => simp [intOf]; omega
    · obtain rfl : i = n := by omega
      have hR' : Row wr 0 55 6 encAct (.slice A i cap) (List.replicate i (markA (1000 + (n2 + 1)))) := by
        have := hR
        rw [List.drop_of_length_le (by rw [show zs.length = i from HZL.out]; exact Nat.le_refl _), List.append_nil] at this
        exact this
      clear HR hR hF hC hD
      have HRW := hide hR'
      clear hR'
      go_upto_region 7 with fail
      have hbb : Below wr.heap.size wr (wr.alloc (.cells #[.slice A i cap, .slice none 0 0, .slice none 0 0, .slice none 0 0, .int .i64 (1000 + (n2 + 1))] 129)) := (Below.refl _ _).alloc (Nat.le_refl _) _
      have ldr : bd < wr.heap.size := (Array.getElem?_eq_some_iff.1 HD.out).1
      have hS0 : Stg 55 6 129 encAct (markA (1000 + (n2 + 1))) w L.G (.int .i64 (n2 + 1)) wr.heap.size ⟨.slice A i cap, .slice none 0 0, .slice none 0 0, .slice none 0 0, 1000 + (n2 + 1), i⟩ (wr.alloc (.cells #[.slice A i cap, .slice none 0 0, .slice none 0 0, .slice none 0 0, .int .i64 (1000 + (n2 + 1))] 129)) 0 := by
        have lwr := Nat.lt_of_lt_of_le lG HF.out.size
        refine ⟨HF.out.trans (Fr.of_below (J := []) (R := []) lwr hbb) (fun j hj => ⟨hj, fun h => by cases h⟩) (fun r hr => by cases hr), (hbb.cell (p := ⟨L.G, 2, none⟩) lwr).trans HC.out, heap_alloc_new wr _, HRW.out.below hbb, fun h => absurd h (by omega), fun h => absurd h (by omega), fun h => absurd h (by omega), fun q e => by simp [Value.ownBlock] at e, fun q e => by simp [Value.ownBlock] at e, fun q e => by simp [Value.ownBlock] at e, HF.out.size, lG, hlG, hll⟩
      have HS0 := hide hS0
      have HD0 := hide ((hbb.block bd ldr).trans HD.out)
      have hbdx : bd ≠ wr.heap.size := by omega
      clear hS0 HF HC HRW HF1 HC1 HR1 HD1 HD hbb ldr a0 a1 a2 a3 a4 a5
      generalize (wr.alloc (.cells #[.slice A i cap, .slice none 0 0, .slice none 0 0, .slice none 0 0, .int .i64 (1000 + (n2 + 1))] 129)) = w0 at HS0 HD0 ⊢
      generalize wr.heap.size = bx at HS0 hbdx ⊢
      have a0 : w0.cell? ⟨bd, 0, none⟩ = some (.int .i64 0) := cell_of_row w0 bd 0 _ _ _ HD0.out
      have a1 : w0.cell? ⟨bd, 1, none⟩ = some (.int .i64 0) := cell_of_row w0 bd 1 _ _ _ HD0.out
      have a2 : w0.cell? ⟨bd, 2, none⟩ = some (.int .i64 0) := cell_of_row w0 bd 2 _ _ _ HD0.out
      have a3 : w0.cell? ⟨bd, 3, none⟩ = some (.int .i64 0) := cell_of_row w0 bd 3 _ _ _ HD0.out
      have a4 : w0.cell? ⟨bd, 4, none⟩ = some (.int .i64 (1000 + (n2 + 1))) := cell_of_row w0 bd 4 _ _ _ HD0.out
      have a5 : w0.cell? ⟨bd, 5, none⟩ = some (.int .i64 0) := cell_of_row w0 bd 5 _ _ _ HD0.out
      have ldk : bd < w0.heap.size := (Array.getElem?_eq_some_iff.1 HD0.out).1
      go_upto_region 8 with (first
        | (at_builtin; refine wpList_append_two _ (by rfl) _ _ _ (by rfl) 0 55 i1 _ 6 48 Tryz.underlying52 hi1 y0 y1 y2 rfl (by omega) (.slice A i cap) i ((List.replicate i (markA (1000 + (n2 + 1)))).flatMap encAct) (by rfl) (HS0.out.own_row.alloc _) ⟨w0.heap.size, 0, none⟩ 1 1 ((List.replicate 1 (markA (1000 + (n2 + 1)))).flatMap encAct) (by rfl) (by rfl) (World.news_of_block (cs := ((List.replicate 1 (markA (1000 + (n2 + 1)))).flatMap encAct).toArray) (t := 55) (fr := (0, 0)) (heap_alloc_new w0 _)) (by simp [Value.oneCell', encAct]) (by omega) (by simp only [maxLen]; omega) (by omega) (by omega) (w0.heap.size + 1) (by simp) ?_; intro g1 cap1 wn hown hgrow hat hlt9 hl9; obtain ⟨hb9, hS9⟩ := HS0.out.app1 (by omega) encAct_len hown hgrow hat hl9; have cz : wn.cell? ⟨bx, 1, none⟩ = some (.slice none 0 0) := cell_of_row wn bx 1 _ _ _ hb9; have fz : wn.frozen? ⟨bx, 1, none⟩ = false := (by simp [World.frozen?, hb9]); have HS1 := hide hS9; have HD1 := hide ((HS0.out.far (j := 1) hgrow ldk hlbd hbdx (.slice (some ⟨g1, 0, none⟩) (i + 1) cap1)).2.trans HD0.out); clear hown hgrow hat hlt9 hl9 hS9 hb9))
      clear HS0 HD0 cz fz a0 a1 a2 a3 a4 a5 ldk
      rename World => wn
      generalize (wn.setCell ⟨bx, 1, none⟩ (.slice (some ⟨g1, 0, none⟩) (i + 1) cap1)) = w1 at HS1 HD1 ⊢
      have a0 : w1.cell? ⟨bd, 0, none⟩ = some (.int .i64 0) := cell_of_row w1 bd 0 _ _ _ HD1.out
      have a1 : w1.cell? ⟨bd, 1, none⟩ = some (.int .i64 0) := cell_of_row w1 bd 1 _ _ _ HD1.out
      have a2 : w1.cell? ⟨bd, 2, none⟩ = some (.int .i64 0) := cell_of_row w1 bd 2 _ _ _ HD1.out
      have a3 : w1.cell? ⟨bd, 3, none⟩ = some (.int .i64 0) := cell_of_row w1 bd 3 _ _ _ HD1.out
      have a4 : w1.cell? ⟨bd, 4, none⟩ = some (.int .i64 (1000 + (n2 + 1))) := cell_of_row w1 bd 4 _ _ _ HD1.out
      have a5 : w1.cell? ⟨bd, 5, none⟩ = some (.int .i64 0) := cell_of_row w1 bd 5 _ _ _ HD1.out
      have ldk : bd < w1.heap.size := (Array.getElem?_eq_some_iff.1 HD1.out).1
      go_upto_region 9 with (first
        | (at_builtin; refine wpList_append_two _ (by rfl) _ _ _ (by rfl) 0 55 i1 _ 6 48 Tryz.underlying52 hi1 y0 y1 y2 rfl (by omega) (.slice A i cap) i ((List.replicate i (markA (1000 + (n2 + 1)))).flatMap encAct) (by rfl) (HS1.out.own_row.alloc _) ⟨w1.heap.size, 0, none⟩ 2 2 ((List.replicate 2 (markA (1000 + (n2 + 1)))).flatMap encAct) (by rfl) (by rfl) (World.news_of_block (cs := ((List.replicate 2 (markA (1000 + (n2 + 1)))).flatMap encAct).toArray) (t := 55) (fr := (0, 0)) (heap_alloc_new w1 _)) (by simp [Value.oneCell', encAct]) (by omega) (by simp only [maxLen]; omega) (by omega) (by omega) (w1.heap.size + 1) (by simp) ?_; intro g2 cap2 wn hown hgrow hat hlt9 hl9; obtain ⟨hb9, hS9⟩ := HS1.out.app2 (by omega) encAct_len hown hgrow hat hl9; have cz : wn.cell? ⟨bx, 2, none⟩ = some (.slice none 0 0) := cell_of_row wn bx 2 _ _ _ hb9; have fz : wn.frozen? ⟨bx, 2, none⟩ = false := (by simp [World.frozen?, hb9]); have HS2 := hide hS9; have HD2 := hide ((HS1.out.far (j := 2) hgrow ldk hlbd hbdx (.slice (some ⟨g2, 0, none⟩) (i + 2) cap2)).2.trans HD1.out); clear hown hgrow hat hlt9 hl9 hS9 hb9))
      clear HS1 HD1 cz fz a0 a1 a2 a3 a4 a5 ldk
      rename World => wn
      generalize (wn.setCell ⟨bx, 2, none⟩ (.slice (some ⟨g2, 0, none⟩) (i + 2) cap2)) = w2 at HS2 HD2 ⊢
      have a0 : w2.cell? ⟨bd, 0, none⟩ = some (.int .i64 0) := cell_of_row w2 bd 0 _ _ _ HD2.out
      have a1 : w2.cell? ⟨bd, 1, none⟩ = some (.int .i64 0) := cell_of_row w2 bd 1 _ _ _ HD2.out
      have a2 : w2.cell? ⟨bd, 2, none⟩ = some (.int .i64 0) := cell_of_row w2 bd 2 _ _ _ HD2.out
      have a3 : w2.cell? ⟨bd, 3, none⟩ = some (.int .i64 0) := cell_of_row w2 bd 3 _ _ _ HD2.out
      have a4 : w2.cell? ⟨bd, 4, none⟩ = some (.int .i64 (1000 + (n2 + 1))) := cell_of_row w2 bd 4 _ _ _ HD2.out
      have a5 : w2.cell? ⟨bd, 5, none⟩ = some (.int .i64 0) := cell_of_row w2 bd 5 _ _ _ HD2.out
      have ldk : bd < w2.heap.size := (Array.getElem?_eq_some_iff.1 HD2.out).1
      go_upto_region 10 with (first
        | (at_builtin; refine wpList_append_two _ (by rfl) _ _ _ (by rfl) 0 55 i1 _ 6 48 Tryz.underlying52 hi1 y0 y1 y2 rfl (by omega) (.slice A i cap) i ((List.replicate i (markA (1000 + (n2 + 1)))).flatMap encAct) (by rfl) (HS2.out.own_row.alloc _) ⟨w2.heap.size, 0, none⟩ 3 3 ((List.replicate 3 (markA (1000 + (n2 + 1)))).flatMap encAct) (by rfl) (by rfl) (World.news_of_block (cs := ((List.replicate 3 (markA (1000 + (n2 + 1)))).flatMap encAct).toArray) (t := 55) (fr := (0, 0)) (heap_alloc_new w2 _)) (by simp [Value.oneCell', encAct]) (by omega) (by simp only [maxLen]; omega) (by omega) (by omega) (w2.heap.size + 1) (by simp) ?_; intro g3 cap3 wn hown hgrow hat hlt9 hl9; obtain ⟨hb9, hS9⟩ := HS2.out.app3 (by omega) encAct_len hown hgrow hat hl9; have cz : wn.cell? ⟨bx, 3, none⟩ = some (.slice none 0 0) := cell_of_row wn bx 3 _ _ _ hb9; have fz : wn.frozen? ⟨bx, 3, none⟩ = false := (by simp [World.frozen?, hb9]); have HS3 := hide hS9; have HD3 := hide ((HS2.out.far (j := 3) hgrow ldk hlbd hbdx (.slice (some ⟨g3, 0, none⟩) (i + 3) cap3)).2.trans HD2.out); clear hown hgrow hat hlt9 hl9 hS9 hb9))
      clear HS2 HD2 cz fz a0 a1 a2 a3 a4 a5 ldk
      rename World => wn
      generalize (wn.setCell ⟨bx, 3, none⟩ (.slice (some ⟨g3, 0, none⟩) (i + 3) cap3)) = w3 at HS3 HD3 ⊢
      have x0' := HS3.out.cells 0 _ rfl
      have x1' := HS3.out.cells 1 _ rfl
      have x2' := HS3.out.cells 2 _ rfl
      have x3' := HS3.out.cells 3 _ rfl
      have x4' := HS3.out.cells 4 _ rfl
      dsimp only at x0' x1' x2' x3' x4'
      have lw3 : L.G < w3.heap.size := Nat.lt_of_lt_of_le lG HS3.out.fr.size
      have k3 : w3.cell? ⟨L.G, 4, none⟩ = some L.va := (HS3.out.fr.cell 4 (by simp)).trans c3
      have z3 : w3.frozen? ⟨L.G, 4, none⟩ = false := (HS3.out.fr.frozen 4).trans f3
      have hri3 : Row w3 0 129 5 encEn L.va L.ac := HS3.out.fr.row hri (fun k hk => ⟨fun e => hvG (by rw [← e]; exact hk), fun e => hlv k (by simpa using e) hk⟩)
      have HRI := hide hri3
      have HZ : Hid (∀ B : Obj, (w3.alloc B).frozen? ⟨L.G, 4, none⟩ = false) := fun B => by
        rw [World.frozen?_alloc_old _ _ _ (by simp; omega)]
        exact z3
      have HC3 : Hid (∀ B : Obj, (w3.alloc B).cell? ⟨L.G, 4, none⟩ = some L.va) := fun B => by
        rw [World.cell?_alloc_lt _ _ _ (by simpa using lw3)]
        exact k3
      clear hri3 hri
      go_wp2_with fail
      go_region_law
        ((refine step_append_lies _ (by rfl) _ _ _ (by rfl) 0 129 i2 _ 5 104 Tryz.underlying27 hi2 x0 x1 x2 rfl (by omega) L.va L.ac.length (L.ac.flatMap encEn) (by rfl) ((World.ownsRow.alloc HRI.out _).drew)
            ⟨w3.heap.size, 0, none⟩ 1 1 (encEn ⟨.slice A i cap, .slice (some ⟨g1, 0, none⟩) (i + 1) cap1, .slice (some ⟨g2, 0, none⟩) (i + 2) cap2, .slice (some ⟨g3, 0, none⟩) (i + 3) cap3, 1000 + (n2 + 1), i⟩) (by rfl) (by rfl) (World.news_of_block (cs := (encEn ⟨.slice A i cap, .slice (some ⟨g1, 0, none⟩) (i + 1) cap1, .slice (some ⟨g2, 0, none⟩) (i + 2) cap2, .slice (some ⟨g3, 0, none⟩) (i + 3) cap3, 1000 + (n2 + 1), i⟩).toArray) (t := 129) (fr := (0, 0)) (heap_alloc_new w3 _)) (by simp [Value.oneCell', encEn])
            (by omega) (by simp only [maxLen]; omega) (by omega) (by omega) (w3.heap.size + 1) (by simp) ?_; intro g cap9 wn hown hgrow hat hlt9; have fz : wn.frozen? ⟨L.G, 4, none⟩ = false := (by rw [hgrow.frozen_far _ (by simp; omega) (Ne.symm hvG)]; exact HZ.out _); have cz : wn.cell? ⟨L.G, 4, none⟩ = some L.va := (by rw [hgrow.cell_far _ (by simp; omega) (Ne.symm hvG)]; exact HC3.out _)))
      all_goals
        go_wp2_with fail
        go_end0
        obtain ⟨v', hc', hr', hv', hF'⟩ := push_post (x := (⟨.slice A i cap, .slice (some ⟨g1, 0, none⟩) (i + 1) cap1, .slice (some ⟨g2, 0, none⟩) (i + 2) cap2, .slice (some ⟨g3, 0, none⟩) (i + 3) cap3, 1000 + (n2 + 1), i⟩ : En)) lw3 HRI.out ((Below.refl _ _).alloc (Nat.le_refl _) _).drew hown hgrow hvG (hat.imp id (fun h => by omega)) cz
        have hS3 := HS3.out
        rw [← show (L.is.length : Int) + L.ac.length = n2 from HN2.out] at hS3 hr'
        obtain ⟨hLaw, hChg⟩ := HLAW.out.actions HFREE.out hlW hS3 hc' hr' hv' hF' HNL.out hz
        exact ⟨rfl, _, hLaw, rfl, rfl, rfl, by simp, hChg⟩
end Go.Proofs.YtlccfpbbdgpjbaaGreatDoor

namespace Go.Proofs.YtlccfpbbdgpjbaaGreatDoor
open Go.RowKit

set_option maxHeartbeats 4000000 in
theorem fullI_any (w : World) (v : Value) (m : Int) (n : Nat) (h : Row w 0 3 1 encI v (List.replicate n m)) (hn : (n : Int) ≤ 1000000000000000) :
    Calls Tryz.prog 57 #[v, .int .i64 m] w fun e w' => e = .returned (.bool true) ∧ w' = w := by
  obtain ⟨A, cap, rfl, -, hA, -⟩ := h.form
  have HB : Hid (∀ i, i < n → ∃ g, A = some ⟨g, 0, none⟩ ∧ w.cell? ⟨g, i, none⟩ = some (.int .i64 m)) := fun i hi => by
    obtain ⟨g, rfl⟩ := hA i (by simpa using hi)
    have := (h.cell (fun _ => rfl) (g := g) (i := i) (j := 0) (u := .int .i64 m) rfl (by simpa using hi) (by simp [encI])).1
    exact ⟨g, rfl, by simpa using this⟩
  clear h hA
  simp only [List.length_replicate]
  go_enter Tryz.func57, Tryz.ntmps57
  go_wp2_with fail
  go_loop [5] (fun iv => ∃ i : Nat, i ≤ n ∧ iv = .int .i64 (i : Int)) (fun iv => n - (intOf iv).toNat)
  case atStart => exact ⟨0, Nat.zero_le _, rfl⟩
  case round =>
    obtain ⟨i, hi, rfl⟩ := hrel
    by_cases hlt : (i : Int) < (n : Int)
    · obtain ⟨g, rfl, c⟩ := HB.out i (by omega)
      go_wp2_with fail
      go_round
      case rel => exact ⟨i + 1, by omega, by go_num⟩
      case measure => simp [intOf]; omega
    · go_wp2_with fail
      go_ret
      exact ⟨rfl, rfl⟩

set_option maxHeartbeats 4000000 in
theorem fullA_any (w : World) (v : Value) (m : Int) (n : Nat) (h : Row w 0 55 6 encAct v (List.replicate n (markA m))) (hn : (n : Int) ≤ 1000000000000000) :
    Calls Tryz.prog 58 #[v, .int .i64 m] w fun e w' => e = .returned (.bool true) ∧ w' = w := by
  obtain ⟨A, cap, rfl, -, hA, -⟩ := h.form
  have HB : Hid (∀ i, i < n → ∃ g, A = some ⟨g, 0, none⟩ ∧ w.cell? ⟨g, i * 6, none⟩ = some (.int .i64 0) ∧ w.cell? ⟨g, i * 6 + 1, none⟩ = some (.int .i64 0) ∧ w.cell? ⟨g, i * 6 + 2, none⟩ = some (.int .i64 0) ∧ w.cell? ⟨g, i * 6 + 3, none⟩ = some (.int .i64 0) ∧ w.cell? ⟨g, i * 6 + 4, none⟩ = some (.int .i64 m) ∧ w.cell? ⟨g, i * 6 + 5, none⟩ = some (.int .i64 0)) := fun i hi => by
    obtain ⟨g, rfl⟩ := hA i (by simpa using hi)
    have hc := fun j u (hu : (encAct (markA m))[j]? = some u) => (h.cell encAct_len (g := g) (i := i) (j := j) (u := u) rfl (by simpa using hi) (by rw [List.getElem_replicate]; exact hu)).1
    exact ⟨g, rfl, hc 0 _ rfl, hc 1 _ rfl, hc 2 _ rfl, hc 3 _ rfl, hc 4 _ rfl, hc 5 _ rfl⟩
  clear h hA
  simp only [List.length_replicate]
  go_enter Tryz.func58, Tryz.ntmps58
  go_wp2_with fail
  go_loop [5] (fun iv => ∃ i : Nat, i ≤ n ∧ iv = .int .i64 (i : Int)) (fun iv => n - (intOf iv).toNat)
  case atStart => exact ⟨0, Nat.zero_le _, rfl⟩
  case round =>
    obtain ⟨i, hi, rfl⟩ := hrel
    by_cases hlt : (i : Int) < (n : Int)
    · obtain ⟨g, rfl, c0, c1, c2, c3, c4, c5⟩ := HB.out i (by omega)
      go_wp2_with fail
      go_round
      case rel => exact ⟨i + 1, by omega, by go_num⟩
      case measure => simp [intOf]; omega
    · go_wp2_with fail
      go_ret
      exact ⟨rfl, rfl⟩

set_option maxHeartbeats 4000000 in
theorem same_any (w : World) (v u : Value) (l : List Int) {b1 b2 : Nat} (h : Row w b1 3 1 encI v l) (k : Row w b2 3 1 encI u l) (hn : (l.length : Int) ≤ 1000000000000000) :
    Calls Tryz.prog 55 #[v, u] w fun e w' => e = .returned (.bool true) ∧ Below w.heap.size w w' := by
  obtain ⟨A, cap, rfl, -, hA, -⟩ := h.form
  obtain ⟨A', cap', rfl, -, hA', -⟩ := k.form
  have HB : Hid (∀ i, i < l.length → ∃ z g g', A = some ⟨g, 0, none⟩ ∧ A' = some ⟨g', 0, none⟩ ∧ g < w.heap.size ∧ g' < w.heap.size ∧ w.cell? ⟨g, i, none⟩ = some (.int .i64 z) ∧ w.cell? ⟨g', i, none⟩ = some (.int .i64 z)) := fun i hi => by
    obtain ⟨g, rfl⟩ := hA i hi
    obtain ⟨g', rfl⟩ := hA' i hi
    have h1 := (h.cell (fun _ => rfl) (g := g) (i := i) (j := 0) (u := .int .i64 l[i]) rfl hi (by simp [encI])).1
    have h2 := (k.cell (fun _ => rfl) (g := g') (i := i) (j := 0) (u := .int .i64 l[i]) rfl hi (by simp [encI])).1
    exact ⟨l[i], g, g', rfl, rfl, (h.lt g rfl).2, (k.lt g' rfl).2, by simpa using h1, by simpa using h2⟩
  clear h k hA hA'
  generalize l.length = n at HB hn ⊢
  go_enter Tryz.func55, Tryz.ntmps55
  go_wp2_with fail
  go_loopw [5] (fun iv wr => ∃ i : Nat, i ≤ n ∧ iv = .int .i64 (i : Int) ∧ Below w.heap.size w wr) (fun iv _ => n - (intOf iv).toNat)
  case atStart => exact ⟨0, Nat.zero_le _, rfl, Below.refl _ _⟩
  case round =>
    obtain ⟨i, hi, rfl, hb⟩ := hrel
    have HBL := hide hb
    by_cases hlt : (i : Int) < (n : Int)
    · obtain ⟨z, g, g', rfl, rfl, l1, l2, c1, c2⟩ := HB.out i (by omega)
      have d1 : wr.cell? ⟨g, i, none⟩ = some (.int .i64 z) := (hb.cell (p := ⟨g, i, none⟩) l1).trans c1
      have d2 : wr.cell? ⟨g', i, none⟩ = some (.int .i64 z) := (hb.cell (p := ⟨g', i, none⟩) l2).trans c2
      have HBN := hide (fun q => hb.trans ((below_drewN wr q).mono hb.size))
      clear hb c1 c2
      go_wp2_with fail
      go_big_quiet (fail)
      go_wp2_with fail
      go_roundw
      case rel => exact ⟨i + 1, by omega, by go_num, HBN.out _⟩
      case measure => simp [intOf]; omega
    · clear hb
      go_wp2_with fail
      go_ret
      exact ⟨rfl, HBL.out⟩
end Go.Proofs.YtlccfpbbdgpjbaaGreatDoor

namespace Go.Proofs.YtlccfpbbdgpjbaaGreatDoor
open Go.RowKit
attribute [local go_sem ↓] Go.wp_at_zero Go.wp_at_succ

/-- An entry of a list of entries, as it lies. -/
theorem entry_at {w : World} {t : Nat} {v : Value} {es : List En} (hr : Row w 0 t 5 encEn v es) {i : Nat} (hi : i < es.length) :
    ∃ g cap, v = .slice (some ⟨g, 0, none⟩) es.length cap ∧ w.cell? ⟨g, i * 5, none⟩ = some es[i].l ∧ w.cell? ⟨g, i * 5 + 1, none⟩ = some es[i].a ∧ w.cell? ⟨g, i * 5 + 2, none⟩ = some es[i].b ∧ w.cell? ⟨g, i * 5 + 3, none⟩ = some es[i].c ∧ w.cell? ⟨g, i * 5 + 4, none⟩ = some (.int .i64 es[i].m) := by
  obtain ⟨A, cap, rfl, -, hA, -⟩ := hr.form
  obtain ⟨g, rfl⟩ := hA i hi
  have hc := fun j u (hu : (encEn es[i])[j]? = some u) => (hr.cell encEn_len (g := g) (i := i) (j := j) (u := u) rfl hi hu).1
  exact ⟨g, cap, rfl, hc 0 _ rfl, hc 1 _ rfl, hc 2 _ rfl, hc 3 _ rfl, hc 4 _ rfl⟩

set_option maxRecDepth 100000 in
set_option maxHeartbeats 8000000 in
theorem looks_any {W w : World} {L : LV} {N : Int} (h : Law W w L N) (hN : N ≤ 1000000) :
    Calls Tryz.prog 32 #[.pointer (some ⟨L.G, 2, none⟩)] w fun e w' => e = .returned (.bool true) ∧ Below w.heap.size w w' := by
  have hnl := h.nl
  have hil : (L.is.length : Int) ≤ 3000000 := by omega
  have hal : (L.ac.length : Int) ≤ 3000000 := by omega
  have HL := hide (fun wy (hb : Below w.heap.size w wy) => h.on hb)
  obtain ⟨Ai, capi, hvi, -, -, -⟩ := Row.form (h.says .ri)
  obtain ⟨Aa, capa, hva, -, -, -⟩ := Row.form (h.says .ra)
  have HML := hide h.ml
  clear h hnl
  go_enter Tryz.func32, Tryz.ntmps32
  go_wp2_with fail
  go_loopw [3, 4] (fun ok iv wr => ∃ i : Nat, i ≤ L.is.length ∧ ok = .bool true ∧ iv = .int .i64 (i : Int) ∧ Below w.heap.size w wr) (fun _ iv _ => L.is.length - (intOf iv).toNat)
  case atStart => exact ⟨0, Nat.zero_le _, rfl, rfl, Below.refl _ _⟩
  case round =>
    obtain ⟨i, hi, rfl, rfl, hb⟩ := hrel
    have HBL := hide hb
    have hlw := HL.out wr hb
    have q3 : wr.cell? ⟨L.G, 3, none⟩ = some L.vi := (hlw.says .hd).1 3 _ rfl
    by_cases hlt : (i : Int) < (L.is.length : Int)
    · have hin : i < L.is.length := by omega
      obtain ⟨g, cap, hv, e0, e1, e2, e3, e4⟩ := entry_at (hlw.says .ri) hin
      have hgood : GoodI wr L.is[i] := hlw.says (.li i) _ (List.getElem?_eq_getElem hin)
      have hnn : (L.is[i].n : Int) ≤ 1440000000000 := HML.out i _ (.inl (List.getElem?_eq_getElem hin))
      rw [hv] at q3
      generalize L.is[i] = en at e0 e1 e2 e3 e4 hgood hnn
      obtain ⟨l, a, b, c, m, n⟩ := en
      dsimp only at e0 e1 e2 e3 e4 hnn
      have HG := hide (fun wy (hb : Below wr.heap.size wr wy) => Good.same (w' := wy) hgood (fun k hk => hb.block k (Good.lt hgood k hk)))
      obtain ⟨g1, g2, g3, g4⟩ := hgood
      dsimp only at g1 g2 g3 g4
      obtain ⟨A1, c1, rfl, -, -, -⟩ := g1.form
      obtain ⟨A2, c2, rfl, -, -, -⟩ := g2.form
      obtain ⟨A3, c3, rfl, -, -, -⟩ := g3.form
      obtain ⟨A4, c4, rfl, -, -, -⟩ := g4.form
      simp only [List.length_replicate] at e0 e1 e2 e3 HG
      have hbA : ∀ B : Obj, Below wr.heap.size wr (wr.alloc B) := fun B => (Below.refl _ _).alloc (Nat.le_refl _) _
      have HA1 := hide (fun B : Obj => fullI_any (wr.alloc B) _ m n (HG.out _ (hbA B)).l (by omega))
      have HA2 := hide (fun B : Obj => fullI_any (wr.alloc B) _ m (n + 1) (HG.out _ (hbA B)).a (by omega))
      have HA3 := hide (fun B : Obj => fullI_any (wr.alloc B) _ m (n + 2) (HG.out _ (hbA B)).b (by omega))
      have HA4 := hide (fun B : Obj => fullI_any (wr.alloc B) _ m (n + 3) (HG.out _ (hbA B)).c (by omega))
      dsimp only at HA1 HA2 HA3 HA4
      have HBA := hide (fun B : Obj => hb.alloc hb.size B)
      clear g1 g2 g3 g4 HG hlw hb hbA
      go_wp2_with fail
      refine (HA1.out _).mono ?_
      rintro e w1 ⟨rfl, hw1⟩
      rw [hw1]
      clear hw1 w1
      go_wp2_with fail
      refine (HA2.out _).mono ?_
      rintro e w1 ⟨rfl, hw1⟩
      rw [hw1]
      clear hw1 w1
      go_wp2_with fail
      refine (HA3.out _).mono ?_
      rintro e w1 ⟨rfl, hw1⟩
      rw [hw1]
      clear hw1 w1
      go_wp2_with fail
      refine (HA4.out _).mono ?_
      rintro e w1 ⟨rfl, hw1⟩
      rw [hw1]
      clear hw1 w1
      go_wp2_with fail
      go_roundw
      case rel => exact ⟨i + 1, by omega, rfl, by go_num, HBA.out _⟩
      case measure => simp [intOf]; omega
    · rw [hvi] at q3
      clear hlw hb
      go_wp2_with fail
      go_loopw [3, 10] (fun ok iv wr => ∃ i : Nat, i ≤ L.ac.length ∧ ok = .bool true ∧ iv = .int .i64 (i : Int) ∧ Below w.heap.size w wr) (fun _ iv _ => L.ac.length - (intOf iv).toNat)
      case atStart => exact ⟨0, Nat.zero_le _, rfl, rfl, HBL.out⟩
      case round =>
        obtain ⟨i, hi, rfl, rfl, hb⟩ := hrel
        rename World => wr
        clear HBL
        have HBL := hide hb
        have hlw := HL.out _ hb
        clear q3
        have q3 : wr.cell? ⟨L.G, 4, none⟩ = some L.va := (hlw.says .hd).1 4 _ rfl
        by_cases hlt : (i : Int) < (L.ac.length : Int)
        · have hin : i < L.ac.length := by omega
          obtain ⟨g, cap, hv, e0, e1, e2, e3, e4⟩ := entry_at (hlw.says .ra) hin
          have hgood : GoodA wr L.ac[i] := hlw.says (.la i) _ (List.getElem?_eq_getElem hin)
          have hnn : (L.ac[i].n : Int) ≤ 1440000000000 := HML.out i _ (.inr (List.getElem?_eq_getElem hin))
          rw [hv] at q3
          generalize L.ac[i] = en at e0 e1 e2 e3 e4 hgood hnn
          obtain ⟨l, a, b, c, m, n⟩ := en
          dsimp only at e0 e1 e2 e3 e4 hnn
          have HG := hide (fun wy (hb : Below wr.heap.size wr wy) => Good.same (w' := wy) hgood (fun k hk => hb.block k (Good.lt hgood k hk)))
          obtain ⟨g1, g2, g3, g4⟩ := hgood
          dsimp only at g1 g2 g3 g4
          obtain ⟨A1, c1, rfl, -, -, -⟩ := g1.form
          obtain ⟨A2, c2, rfl, -, -, -⟩ := g2.form
          obtain ⟨A3, c3, rfl, -, -, -⟩ := g3.form
          obtain ⟨A4, c4, rfl, -, -, -⟩ := g4.form
          simp only [List.length_replicate] at e0 e1 e2 e3 HG
          have hbA : ∀ B : Obj, Below wr.heap.size wr (wr.alloc B) := fun B => (Below.refl _ _).alloc (Nat.le_refl _) _
          have HA1 := hide (fun B : Obj => fullA_any (wr.alloc B) _ m n (HG.out _ (hbA B)).l (by omega))
          have HA2 := hide (fun B : Obj => fullA_any (wr.alloc B) _ m (n + 1) (HG.out _ (hbA B)).a (by omega))
          have HA3 := hide (fun B : Obj => fullA_any (wr.alloc B) _ m (n + 2) (HG.out _ (hbA B)).b (by omega))
          have HA4 := hide (fun B : Obj => fullA_any (wr.alloc B) _ m (n + 3) (HG.out _ (hbA B)).c (by omega))
          dsimp only at HA1 HA2 HA3 HA4
          have HBA := hide (fun B : Obj => hb.alloc hb.size B)
          clear g1 g2 g3 g4 HG hlw hb hbA
          go_wp2_with fail
          refine (HA1.out _).mono ?_
          rintro e w1 ⟨rfl, hw1⟩
          rw [hw1]
          clear hw1 w1
          go_wp2_with fail
          refine (HA2.out _).mono ?_
          rintro e w1 ⟨rfl, hw1⟩
          rw [hw1]
          clear hw1 w1
          go_wp2_with fail
          refine (HA3.out _).mono ?_
          rintro e w1 ⟨rfl, hw1⟩
          rw [hw1]
          clear hw1 w1
          go_wp2_with fail
          refine (HA4.out _).mono ?_
          rintro e w1 ⟨rfl, hw1⟩
          rw [hw1]
          clear hw1 w1
          go_wp2_with fail
          go_roundw
          case rel => exact ⟨i + 1, by omega, rfl, by go_num, HBA.out _⟩
          case measure => simp [intOf]; omega
        · rw [hva] at q3
          clear hlw hb
          go_wp2_with fail
          go_ret
          exact ⟨rfl, HBL.out⟩
end Go.Proofs.YtlccfpbbdgpjbaaGreatDoor
