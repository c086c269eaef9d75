import Derived.Test.YtlccfpbbdgpjbaaGreatDoorKBesideM
import Derived.Test.YtlccfpbbdgpjbaaGreatDoorZDelay
import Derived.Test.YtlccfpbbdgpjbaaGreatDoorZStep
import Derived.Test.YtlccfpbbdgpjbaaGreatDoorZState
import Derived.Deep.LoopGhost
import Derived.Deep.DeepCutAuto
import Derived.Deep.AppendLies
namespace Go.Proofs.YtlccfpbbdgpjbaaGreatDoor
open Go.RowKit Go.Maps

/-- The list, in a block of its own, beside the client. -/
structure BsL (w : World) (V : PV) (g : Nat) (ls : List Int) : Prop where
  lt : g < w.heap.size
  tg : 7 ≤ V.tag g
  ce : ∀ k (h : k < ls.length), w.cell? ⟨g, k, none⟩ = some (.int .i64 ls[k])
  fz : ∀ k, k < ls.length → w.frozen? ⟨g, k, none⟩ = false
theorem BsL.on {w w' : World} {V V' : PV} {g : Nat} {ls : List Int} (h : BsL w V g ls) (m : PMv V w V' w') : BsL w' V' g ls :=
  ⟨Nat.lt_of_lt_of_le h.lt m.size, m.tag7 h.lt h.tg, fun k hk => (World.cell?_of_block (a := ⟨g, k, none⟩) (m.block g h.lt h.tg)).trans (h.ce k hk), fun k hk => (World.frozen?_of_block (a := ⟨g, k, none⟩) (m.block g h.lt h.tg)).trans (h.fz k hk)⟩
theorem BsL.set {w : World} {V : PV} {g : Nat} {ls : List Int} (h : BsL w V g ls) {i : Nat} (hi : i < ls.length) (z : Int) : BsL (w.setCell ⟨g, i, none⟩ (.int .i64 z)) V g (ls.set i z) := by
  refine ⟨by simpa using h.lt, h.tg, fun k hk => ?_, fun k hk => ?_⟩
  · have hk' : k < ls.length := by rw [List.length_set] at hk; exact hk
    by_cases e : k = i
    · subst e
      rw [List.getElem_set_self]
      exact World.cell?_setCell_same _ _ _ (h.ce k hk')
    · rw [List.getElem_set_ne (Ne.symm e), World.cell?_setCell_other _ _ _ _ (fun h => e (by simp at h))]
      exact h.ce k hk'
  · rw [List.length_set] at hk
    rw [World.frozen?_setCell]
    exact h.fz k hk

theorem PMv.belowB' {V V' : PV} {w w' : World} (m : PMv V w V' w') {B : Nat} (hB : B ≤ w.heap.size) (ht : ∀ k, V.tag k < 7 → B ≤ k) : Below B w w' ∧ ∀ k, V'.tag k < 7 → B ≤ k := by
  refine ⟨⟨m.os, m.tape, m.output, m.size, fun k hk => m.block k (Nat.lt_of_lt_of_le hk hB) ?_⟩, fun k hk => ?_⟩
  · rcases Nat.lt_or_ge (V.tag k) 7 with h1 | h1
    · have := ht k h1
      omega
    · exact h1
  · rcases m.news k hk with h1 | h1
    · exact ht k h1
    · omega
theorem inv_sum {N : Int} {s : PSt} (h : Inv N s) : OkB s.units := h.ub
theorem sumB_drop {l : List PB} (h : OkB l) (P : PB → Bool) : sumB (l.dropWhile P) ≤ sumB l := by
  induction l with
  | nil => exact Int.le_refl _
  | cons a r ih =>
    rw [List.dropWhile_cons]
    have h1 := h a (by simp)
    have h2 := ih (fun b hb => h b (by simp [hb]))
    split
    · simp only [sumB]
      omega
    · exact Int.le_refl _

theorem set_take {l : List Int} {i : Nat} (h : i < l.length) (z : Int) : (l.set i z).take (i + 1) = l.take i ++ [z] := by
  rw [List.take_succ_eq_append_getElem (by rw [List.length_set]; exact h), List.getElem_set_self, List.take_set_of_le (Nat.le_refl _)]

theorem src_none' {P : Program} {size : Nat} {tx e' : TypeId} (w : World) (hk : P.underlying tx = some (.slice e')) (A : Option Addr) (c : Nat) : Src P size tx (.slice A 0 c) 0 [] w := by
  cases A with
  | none => exact Src.ofNil w hk c
  | some a => exact Src.ofSlice w hk a 0 c [] (by simp) (fun j u hu => by simp at hu) (fun u hu => by cases hu)

theorem drop_snoc {l : List PB} {b : PB} {p : PB → Bool} (h : p b = false) : (l ++ [b]).dropWhile p = l.dropWhile p ++ [b] := by
  induction l with
  | nil => simp [h]
  | cons a q ih =>
    rw [List.cons_append, List.dropWhile_cons, List.dropWhile_cons]
    split
    · exact ih
    · rfl
/-- The client and the list, in the midst of the walk. -/
structure BsX (W1 w : World) (x : Nat) (s : PSt) (V : PV) (g : Nat) (ls : List Int) (N : Int) : Prop where
  rep : PRep w x s V
  inv : Inv N s
  tg : ∀ k, V.tag k < 7 → W1.heap.size ≤ k
  bl : Below W1.heap.size W1 w
  li : BsL w V g ls
  gw : W1.heap.size ≤ g
theorem BsX.put {W1 w : World} {x : Nat} {s : PSt} {V : PV} {g : Nat} {ls : List Int} {N : Int} (h : BsX W1 w x s V g ls N) {i : Nat} (hi : i < ls.length) (z : Int) : BsX W1 (w.setCell ⟨g, i, none⟩ (.int .i64 z)) x s V g (ls.set i z) N :=
  ⟨h.rep.keep (by simp) (fun k hk => Below.heap_setCell _ _ _ _ (fun e => by have := h.li.tg; rw [← show k = g from e] at this; omega)), h.inv, h.tg, h.bl.setCell (p := ⟨g, i, none⟩) h.gw _, h.li.set hi z, h.gw⟩
theorem BsX.on {W1 w w' : World} {x : Nat} {s : PSt} {V : PV} {g : Nat} {ls : List Int} {N : Int} (h : BsX W1 w x s V g ls N) (hb : Below w.heap.size w w') : BsX W1 w' x s V g ls N :=
  ⟨h.rep.on hb, h.inv, h.tg, h.bl.trans (hb.mono h.bl.size), ⟨Nat.lt_of_lt_of_le h.li.lt hb.size, h.li.tg, fun k hk => (hb.cell h.li.lt).trans (h.li.ce k hk), fun k hk => (hb.frozen h.li.lt).trans (h.li.fz k hk)⟩, h.gw⟩
theorem BsX.step {r : Int} {W1 w : World} {x : Nat} {s : PSt} {V : PV} {g : Nat} {ls : List Int} {N : Int} (h : BsX W1 w x s V g ls N) (hN : N ≤ 50000) (hs : SP s) (hz : s.stale = 0) (hc : s.cfg = bsC r) (e : PEv) (he : EvOk e) :
    Calls Tryz.prog 20 #[.pointer (some ⟨x, 0, none⟩), evV e] w fun ex w' => ∃ v V', ex = .returned v ∧ Row w' w.heap.size 55 6 encAct v (stepA s e) ∧ BsX W1 w' x (stepM s e) V' g ls (N + 1) := by
  refine (rep_step (by rw [hc]; exact hedge_all x (bsC r)) h.rep h.inv (by omega) hs (by omega) e he).mono ?_
  rintro ex w' ⟨v, V', rfl, r1, h1, m1, t1⟩
  obtain ⟨hb, ht⟩ := m1.belowB' (B := W1.heap.size) h.bl.size h.tg
  exact ⟨v, V', rfl, r1, h1, inv_step h.inv e, ht, h.bl.trans hb, h.li.on m1, h.gw⟩

theorem st_field (w : World) (a b t m z : Int) (A1 A2 : Option Addr) (l1 c1 l2 c2 : Nat) : (Instr.field 64 (.agg #[.int .i64 a, .int .i64 b, .slice A1 l1 c1, .slice A2 l2 c2, .int .i64 t, .int .i64 m, .int .i64 z]) 4).run Tryz.prog w = .ok (.int .i64 t) w := by
  kernel_rfl

set_option maxRecDepth 100000 in
set_option maxHeartbeats 60000000 in
theorem beside_walk (A1 : Option Addr) (len1 cap1 : Nat) (zs : List Int) (rank which : Int) (hra : -9223372036854775808 ≤ rank ∧ rank ≤ 9223372036854775807) (hwh : -9223372036854775808 ≤ which ∧ which ≤ 9223372036854775807) (W : World) (hL : Laid W) (hz : IntsAt W A1 len1 zs) (h8 : len1 * 8 ≤ 140737488355328) :
    Calls Tryz.prog 11 #[.slice A1 len1 cap1, .int .i64 rank, .int .i64 which] W fun e w' => e = .returned (.bool true) ∧ Below W.heap.size W w' := by
  obtain ⟨i1, hi1, y0, y1, y2⟩ := info_parts Tryz.infoInt
  have HP := hide (pick_any rank 100 W hra.1 hra.2 (by omega) (by omega))
  obtain ⟨pr0, pr1⟩ := pickV_lt rank 100 (by omega)
  generalize pickV rank 100 = pr at HP pr0 pr1
  have HN := hide (fun W' (hb : Below W.heap.size W W') => new_full 10 1 1000 10000 2 1 1 1 (1 + pr) 1 W' (hL.on hb) (by
    unfold cfgErr
    rw [if_neg (by omega), if_neg (by omega), if_neg (by omega)]))
  have hcc : (⟨10, 1, 1000, 10000, 2, 1, 1, 1, 1 + pr, 1⟩ : Cfg) = bsC (1 + pr) := rfl
  rw [hcc] at HN
  obtain ⟨r, hr⟩ : ∃ r, r = 1 + pr := ⟨_, rfl⟩
  have r0 : 1 ≤ r := by omega
  have r1 : r ≤ 100 := by omega
  rw [← hr] at HN
  have HZ := hide hz
  have HPW := hide (fun W' => pick_any which 2 W' hwh.1 hwh.2 (by omega) (by omega))
  obtain ⟨pw0, pw1⟩ := pickV_lt which 2 (by omega)
  generalize pickV which 2 = pw at HPW pw0 pw1
  have hlen := hz.1
  have hl63 : len1 ≤ 9223372036854775807 := by have := hz.2.2.1; simp only [maxLen] at this; omega
  clear hL hcc hz hwh hra
  go_enter Tryz.func11, Tryz.ntmps11
  go_wp2_with fail
  refine HP.out.mono ?_
  rintro e w1 ⟨rfl, hw1⟩
  rw [hw1]
  clear hw1 w1 HP
  go_wp2_with fail
  rw [← hr]
  have hbW : Below W.heap.size W (W.alloc (.cells #[.int .i64 10, .int .i64 1, .int .i64 1000, .int .i64 10000, .int .i64 2, .int .i64 1, .int .i64 1, .int .i64 1, .int .i64 r, .int .i64 1] 34)) := (Below.refl _ _).alloc (Nat.le_refl _) _
  have cr : (W.alloc (.cells #[.int .i64 10, .int .i64 1, .int .i64 1000, .int .i64 10000, .int .i64 2, .int .i64 1, .int .i64 1, .int .i64 1, .int .i64 r, .int .i64 1] 34)).cell? ⟨W.heap.size, 8, none⟩ = some (.int .i64 r) := by simp
  have lcb : W.heap.size < (W.alloc (.cells #[.int .i64 10, .int .i64 1, .int .i64 1000, .int .i64 10000, .int .i64 2, .int .i64 1, .int .i64 1, .int .i64 1, .int .i64 r, .int .i64 1] 34)).heap.size := by simp
  generalize (W.alloc (.cells #[.int .i64 10, .int .i64 1, .int .i64 1000, .int .i64 10000, .int .i64 2, .int .i64 1, .int .i64 1, .int .i64 1, .int .i64 r, .int .i64 1] 34)) = W1 at hbW cr lcb ⊢
  refine (HN.out W1 hbW).mono ?_
  rintro e w2 ⟨x, V, rfl, h2, hb2, ht2⟩
  have lx := h2.lp
  have HbW := hide hbW
  have H2 : Hid (PRep w2 x (bsS r 0 [] 0 0 []) V) := h2
  have HB2 := hide hb2
  have HT2 := hide ht2
  have HZ2 : Hid (0 < len1 → ∃ sb so, A1 = some ⟨sb, so, none⟩ ∧ ∀ k (h : k < zs.length), w2.cell? ⟨sb, so + k, none⟩ = some (.int .i64 zs[k])) := fun h0 => by
    obtain ⟨_, _, _, q4⟩ := HZ.out
    rcases q4 with q4 | ⟨sb, so, e, hl, hc⟩
    · omega
    · have hbx := hbW.trans (hb2.mono hbW.size)
      exact ⟨sb, so, e, fun k hk => (hbx.cell (p := ⟨sb, so + k, none⟩) hl).trans (hc k hk)⟩
  have hs2 := hb2.size
  clear h2 hb2 ht2 hbW HN hr pr0 pr1
  go_upto_region 7 with fail
  go_cut [11] (fun lv wx => ∃ A cap, lv = .slice A len1 cap ∧ len1 ≤ cap ∧ Below w2.heap.size w2 wx ∧ (0 < len1 → ∃ g, A = some ⟨g, 0, none⟩ ∧ w2.heap.size ≤ g ∧ g < wx.heap.size ∧ ∀ k (h : k < zs.length), wx.cell? ⟨g, k, none⟩ = some (.int .i64 zs[k]) ∧ wx.frozen? ⟨g, k, none⟩ = false))
  case first =>
    as_aux_lemma =>
      by_cases h0 : len1 = 0
      · subst h0
        have hrun := run_append_nothing (P := Tryz.prog) w2 45 45 45 3 i1 Tryz.underlying45 hi1 none 0 0 (Nat.le_refl _) (.slice A1 0 cap1) (src_none' w2 Tryz.underlying45 A1 cap1)
        have HRUN := hide hrun
        clear hrun
        go_wp2_with (first | (at_builtin; refine Lib.wpList_append_run w2 (by rfl) _ _ 45 45 (by rfl) _ _ (by rfl) (by rfl) _ _ HRUN.out ?_))
        go_meet
        exact ⟨none, 0, rfl, Nat.le_refl _, Below.refl _ _, fun h => absurd h (Nat.lt_irrefl _)⟩
      · obtain ⟨sb, so, rfl, hcs⟩ := HZ2.out (by omega)
        have hcells : ∀ j u, (zs.flatMap encI)[j]? = some u → w2.cell? ((⟨sb, so, none⟩ : Addr).add j) = some u := fun j u hu => by
          rw [flat_encI, List.getElem?_map] at hu
          cases hj : zs[j]? with
          | none => rw [hj] at hu; cases hu
          | some z =>
            rw [hj] at hu
            obtain ⟨hjl, hje⟩ := List.getElem?_eq_some_iff.1 hj
            have h9 := hcs j hjl
            rw [show (⟨sb, so, none⟩ : Addr).add j = ⟨sb, so + j, none⟩ by cases j <;> simp [Addr.add]]
            have : Value.int .i64 z = u := by simpa using hu
            rw [← this, ← hje]
            exact h9
        have hone : ∀ u ∈ zs.flatMap encI, u.oneCell' = true := fun u hu => by
          obtain ⟨z, _, hz⟩ := List.mem_flatMap.1 hu
          have : u = .int .i64 z := by simpa [encI] using hz
          rw [this]
          rfl
        have hfl2 : (zs.flatMap encI).length = len1 * 1 := by rw [flat_len encI 1 (fun _ => rfl) zs, hlen]
        have h63 : 0 + len1 ≤ maxLen := by have := HZ.out.2.2.1; omega
        have HCE := hide hcells
        have HON := hide hone
        have HRN := hide (Row.nil w2 0 3 1 encI)
        clear hcells hone hcs
        go_wp2_with (first
          | (at_builtin
             refine wpList_append_lies w2 (by rfl) _ _ _ (by rfl) 0 3 i1 _ 1 8 Tryz.underlying45 hi1 y0 y1 y2 rfl (by omega) (.slice none 0 0) 0 [] (by rfl) HRN.out ⟨sb, so, none⟩ len1 cap1 (zs.flatMap encI) (by rfl) hfl2 HCE.out HON.out (by omega) h63 (by omega) (Nat.zero_le _) w2.heap.size rfl ?_
             intro g cap w3 hown hgrow hat hlt))
        go_meet
        have hrow : Row w3 0 3 1 encI (.slice (some ⟨g, 0, none⟩) len1 cap) zs := by
          unfold Row
          rw [hlen]
          simpa using hown
        have hg : g = w2.heap.size := by
          rcases hat with h | h
          · simp [Value.ownBlock] at h
          · exact h
        refine ⟨some ⟨g, 0, none⟩, cap, by simp, hrow.le_cap, ⟨hgrow.os, hgrow.tape, hgrow.output, hgrow.size, fun k hk => hgrow.block k hk (by simp [Value.ownBlock])⟩, fun _ => ⟨g, rfl, by omega, hlt, fun k hk => ?_⟩⟩
        have h9 := hrow.cell (fun _ => rfl) (g := g) (i := k) (j := 0) rfl hk rfl
        simpa using h9
  case rest =>
    obtain ⟨A, cap0, rfl, hcap0, hbA, hA⟩ := hcut
    rename World => w3
    have HBA := hide hbA
    have HAA := hide hA
    have HR0 := hide HZ.out.2.1
    clear hbA hA HZ2
    go_upto_if 44 with fail
    go_cut [11] (fun lv wx => ∃ g n cap ls, lv = .slice (some ⟨g, 0, none⟩) n cap ∧ ls.length = n ∧ 1 ≤ n ∧ n ≤ 9223372036854775807 ∧ n ≤ cap ∧ (∀ z ∈ ls, -9223372036854775808 ≤ z ∧ z ≤ 9223372036854775807) ∧ BsL wx V g ls ∧ W1.heap.size ≤ g ∧ PRep wx x (bsS r 0 [] 0 0 []) V ∧ Below W1.heap.size W1 wx)
    case first =>
      as_aux_lemma =>
        by_cases h0 : len1 = 0
        · subst h0
          go_wp2_with fail
          go_meet
          have hbn : Below w3.heap.size w3 (w3.alloc (.cells #[.int .i64 5] 3)) := (Below.refl _ _).alloc (Nat.le_refl _) _
          have hb9 := HBA.out.trans (hbn.mono HBA.out.size)
          refine ⟨w3.heap.size, 1, 1, [5], rfl, rfl, Nat.le_refl _, by omega, Nat.le_refl _, fun z hz => by (have : z = 5 := by simpa using hz); omega, ⟨by simp, ?_, fun k hk => ?_, fun k hk => ?_⟩, ?_, H2.out.on hb9, HB2.out.trans (hb9.mono HB2.out.size)⟩
          · rcases Nat.lt_or_ge (V.tag w3.heap.size) 7 with h | h
            · have := H2.out.tl _ h
              have := HBA.out.size
              omega
            · exact h
          · obtain rfl : k = 0 := by simpa using hk
            simp
          · unfold World.frozen?
            dsimp only
            rw [heap_alloc_new]
            simp
          · have := HBA.out.size
            omega
        · have h0' : ((len1 : Int) == 0) = false := by simpa using h0
          obtain ⟨g, rfl, hg0, hg1, hgc⟩ := HAA.out (by omega)
          have HGC := hide hgc
          clear hgc
          go_wp2_with fail
          go_meet
          refine ⟨g, len1, cap0, zs, rfl, hlen, by omega, hl63, hcap0, HR0.out, ⟨hg1, ?_, fun k hk => (HGC.out k hk).1, fun k hk => (HGC.out k hk).2⟩, by omega, H2.out.on HBA.out, HB2.out.trans (HBA.out.mono HB2.out.size)⟩
          rcases Nat.lt_or_ge (V.tag g) 7 with h | h
          · have := H2.out.tl _ h
            omega
          · exact h
    case rest =>
      obtain ⟨g, n, cap, ls, rfl, hln, hn1, hn63, hncap, hrg, hbs, hg1, hp3, hb3⟩ := hcut
      rename World => w4
      have HRG := hide hrg
      have HBS := hide hbs
      have HP3 := hide hp3
      have HB3 := hide hb3
      clear hrg hbs hp3 hb3 HBA HAA HR0 H2 HB2 hcap0
      have hn63' : (n : Int) ≤ 9223372036854775807 := by omega
      go_upto_if 48 with fail
      go_cut [11] (fun lv wx => ∃ g n cap ls, lv = .slice (some ⟨g, 0, none⟩) n cap ∧ ls.length = n ∧ 1 ≤ n ∧ n ≤ 30 ∧ n ≤ cap ∧ (∀ z ∈ ls, -9223372036854775808 ≤ z ∧ z ≤ 9223372036854775807) ∧ BsL wx V g ls ∧ W1.heap.size ≤ g ∧ PRep wx x (bsS r 0 [] 0 0 []) V ∧ Below W1.heap.size W1 wx)
      case first =>
        as_aux_lemma =>
          by_cases h30 : 30 < n
          · have h30' : (30 : Int) < (n : Int) := by omega
            have hc30 : (30 : Int) ≤ (cap : Int) := by omega
            go_wp2_with fail
            go_meet
            refine ⟨g, 30, cap, ls.take 30, by simp, by rw [List.length_take]; omega, by omega, by omega, by omega, fun z hz => HRG.out z (List.mem_of_mem_take hz), ⟨HBS.out.lt, HBS.out.tg, fun k hk => ?_, fun k hk => HBS.out.fz k ?_⟩, hg1, HP3.out, HB3.out⟩
            · rw [List.length_take] at hk
              rw [List.getElem_take]
              exact HBS.out.ce k (by omega)
            · rw [List.length_take] at hk
              omega
          · have h30' : ¬ (30 : Int) < (n : Int) := by omega
            go_wp2_with fail
            go_meet
            exact ⟨g, n, cap, ls, rfl, hln, hn1, by omega, hncap, HRG.out, HBS.out, hg1, HP3.out, HB3.out⟩
      case rest =>
        obtain ⟨g, n, cap, ls, rfl, hln, hn1, hn30, hncap, hrg, hbs, hg1, hp3, hb3⟩ := hcut
        have hX0 : BsX W1 wc x (bsS r 0 [] 0 0 []) V g ls 0 := ⟨hp3, inv_init (bsC_ok r0 r1), HT2.out, hb3, hbs, hg1⟩
        have HX0 := hide hX0
        have HRG := hide hrg
        clear hX0 hrg hbs hp3 hb3 HBS HP3 HB3
        have hw0 : (Lit.int .i64 0).wf = true := by decide
        have hw1 : (Lit.int .i64 1).wf = true := by decide
        have Hw0 := hide hw0
        have Hw1 := hide hw1
        clear hw0 hw1
        go_wp2_with fail
        go_loopg [10, 12] n (fun gk nowv iv wr => ∃ (i : Nat) (now : Int) (units : List PB) (ls' : List Int) (V' : PV), gk = n - i ∧ nowv = .int .i64 now ∧ iv = .int .i64 (i : Int) ∧ i ≤ n ∧ ls'.length = n ∧ 0 ≤ now ∧ now ≤ 3000 * (i : Int) ∧ sumB units ≤ 10 * (i : Int) ∧ (∀ z ∈ ls'.drop i, -9223372036854775808 ≤ z ∧ z ≤ 9223372036854775807) ∧ (∀ z ∈ ls'.take i, 0 ≤ z ∧ z < 3000) ∧ BsX W1 wr x (bsS r now units i i (ls'.take i)) V' g ls' (3 * (i : Int)))
        case atStart => exact ⟨0, 0, [], ls, V, rfl, rfl, rfl, Nat.zero_le _, hln, by omega, by omega, by simp [sumB], by simpa using HRG.out, by simp, by simpa using HX0.out⟩
        case round =>
          obtain ⟨i, now, units, ls', V', hgk, rfl, rfl, hi, hll, nw0, nw1, hsum, hrg, htk, hX⟩ := hrel
          obtain ⟨wo, hwo⟩ : ∃ wo : World, wo = wr := ⟨_, rfl⟩
          rw [← hwo] at hX ⊢
          clear hwo HX0 HRG
          by_cases hlt : (i : Int) < (n : Int)
          · as_aux_lemma =>
              have hil : i < ls'.length := by omega
              have ce := hX.li.ce i hil
              have fe := hX.li.fz i hil
              have hzr := hrg ls'[i] (by rw [List.drop_eq_getElem_cons hil]; exact List.mem_cons_self)
              generalize ls'[i] = z at ce hzr
              have HP := hide (pick_any z 3000 wo hzr.1 hzr.2 (by omega) (by omega))
              obtain ⟨pz0, pz1⟩ := pickV_lt z 3000 (by omega)
              generalize pickV z 3000 = pz at HP pz0 pz1
              have hX1 := hX.put hil pz
              have HTK1 : Hid ((ls'.set i pz).take (i + 1) = ls'.take i ++ [pz]) := set_take hil pz
              have HTK0 : Hid ((ls'.set i pz).take i = ls'.take i) := List.take_set_of_le (Nat.le_refl _)
              have HDR : Hid (∀ y ∈ (ls'.set i pz).drop (i + 1), -9223372036854775808 ≤ y ∧ y ≤ 9223372036854775807) := fun y hy => by
                rw [List.drop_set_of_lt (by omega)] at hy
                exact hrg y (by rw [List.drop_eq_getElem_cons hil]; exact List.mem_cons_of_mem _ hy)
              have HTA : Hid (∀ y ∈ ls'.take i ++ [pz], 0 ≤ y ∧ y < 3000) := fun y hy => by
                rcases List.mem_append.1 hy with h | h
                · exact htk y h
                · have : y = pz := by simpa using h
                  rw [this]; exact ⟨pz0, pz1⟩
              have htl : (ls'.take i).length = i := by rw [List.length_take]; omega
              have hsl : (ls'.set i pz).length = n := by rw [List.length_set]; exact hll
              have eM1 := bs_submit r now units (i : Int) (i : Int) (ls'.take i) (by omega) (by omega)
              have HX1 := hide hX1
              have HUB := hide hX.inv.ub
              have hgi : (wo.setCell ⟨g, i, none⟩ (.int .i64 pz)).cell? ⟨g, i, none⟩ = some (.int .i64 pz) := World.cell?_setCell_same _ _ _ ce
              clear hX hX1 hrg htk
              go_wp2_with fail
              refine HP.out.mono ?_
              rintro e w1 ⟨rfl, hw1⟩
              rw [hw1]
              clear hw1 w1 HP
              go_wp2_with fail
              generalize wo.setCell ⟨g, i, none⟩ (.int .i64 pz) = w2 at HX1 hgi ⊢
              have HS1 := hide (HX1.out.step (by omega) (.inl rfl) rfl rfl ⟨1, 1, 0, 0, 10000, false, 0, 0⟩ ⟨Hw1.out, Hw0.out, Int.le_refl _⟩)
              rw [eM1] at HS1
              unfold evV at HS1
              dsimp only at HS1
              refine HS1.out.mono ?_
              rintro e w3 ⟨v3, V3, rfl, _, hX3⟩
              have ce3 := hX3.li.ce i (by rw [List.length_set]; exact hil)
              rw [List.getElem_set_self] at ce3
              obtain ⟨eA2, eM2⟩ := bs_adv r now (units ++ [⟨now, 10⟩]) ((i : Int) + 1) ((i : Int) + 1) (ls'.take i) false (now + 10000) now ((i : Int) + 1) [] (now + pz) (by omega) (by omega) (.inl ⟨rfl, by omega⟩)
              have HUB3 := hide hX3.inv.ub
              have HX3 := hide hX3
              clear hX3 HS1 HX1 eM1 hgi ce fe
              have HS2 := hide (HX3.out.step (by omega) (.inr (by show (0 : Int) < (i : Int) + 1; omega)) rfl rfl ⟨6, 0, 0, 0, 0, false, 0, now + pz⟩ ⟨Hw0.out, Hw0.out, Int.le_refl _⟩)
              rw [eM2] at HS2
              unfold evV at HS2
              dsimp only at HS2
              go_wp2_with fail
              refine HS2.out.mono ?_
              rintro e w4 ⟨v4, V4, rfl, _, hX4⟩
              obtain ⟨eA3, eM3⟩ := bs_ok r (now + pz) ((units ++ [(⟨now, 10⟩ : PB)]).dropWhile (oldB (now + pz) 10000)) ((i : Int) + 1) ((i : Int) + 1) (ls'.take i) false (now + 10000) now ((i : Int) + 1) (i : Int)
              have HX4 := hide hX4
              clear hX4 HS2 HX3 eA2 eM2 ce3
              have HS3 := hide (HX4.out.step (by omega) (.inr (by show (0 : Int) < (i : Int) + 1; omega)) rfl rfl ⟨2, 0, (i : Int) + 1, (i : Int), 0, false, 0, 0⟩ ⟨Hw0.out, WalkArith.wf_i64 (show -9223372036854775808 ≤ (i : Int) + 1 ∧ (i : Int) + 1 ≤ 9223372036854775807 by omega), Int.le_refl _⟩)
              rw [eA3, eM3] at HS3
              unfold evV at HS3
              dsimp only at HS3
              clear eA3 eM3
              go_wp2_with fail
              refine HS3.out.mono ?_
              rintro e w5 ⟨v5, V5, rfl, r5, hX5⟩
              obtain ⟨g5, cap5, rfl, _⟩ := r5.at (by simp)
              have q0 := (r5.cell encAct_len (g := g5) (i := 0) (j := 0) rfl (by simp) rfl).1
              have q1 := (r5.cell encAct_len (g := g5) (i := 0) (j := 1) rfl (by simp) rfl).1
              have q2 := (r5.cell encAct_len (g := g5) (i := 0) (j := 2) rfl (by simp) rfl).1
              have q3 := (r5.cell encAct_len (g := g5) (i := 0) (j := 3) rfl (by simp) rfl).1
              have q4 := (r5.cell encAct_len (g := g5) (i := 0) (j := 4) rfl (by simp) rfl).1
              have q5 := (r5.cell encAct_len (g := g5) (i := 0) (j := 5) rfl (by simp) rfl).1
              simp only [Nat.zero_mul, Nat.zero_add] at q0 q1 q2 q3 q4 q5
              have htm : addT (ls'.take i) (now + pz - now) = ls'.take i ++ [pz] := by
                unfold addT
                rw [if_neg (by rw [htl]; omega), show now + pz - now = pz by omega]
              rw [htm, ← HTK1.out] at hX5
              have hsm : sumB ((units ++ [(⟨now, 10⟩ : PB)]).dropWhile (oldB (now + pz) 10000)) ≤ 10 * ((i : Int) + 1) := by
                have h1 := sumB_drop HUB3.out (oldB (now + pz) 10000)
                have h2 : sumB (units ++ [(⟨now, 10⟩ : PB)]) = sumB units + 10 := by rw [sumB_append]; simp [sumB]
                have h3 : sumB ((units ++ [(⟨now, 10⟩ : PB)]).dropWhile (oldB (now + pz) 10000)) ≤ sumB (units ++ [(⟨now, 10⟩ : PB)]) := h1
                omega
              have HX5 := hide hX5
              have HSM := hide hsm
              clear hX5 hsm r5 HS3 HX4 htm HUB HUB3
              simp only [List.length_singleton]
              go_wp2_with fail
              go_roundg (n - (i + 1))
              case measure => omega
              case rel => exact ⟨i + 1, now + pz, (units ++ [(⟨now, 10⟩ : PB)]).dropWhile (oldB (now + pz) 10000), ls'.set i pz, V5, rfl, rfl, by go_num, by omega, hsl, by omega, by omega, by have := HSM.out; omega, HDR.out, by rw [HTK1.out]; exact HTA.out, by
                have h9 := HX5.out
                rw [show (((i + 1 : Nat) : Int)) = (i : Int) + 1 by omega, show 3 * ((i : Int) + 1) = 3 * (i : Int) + 1 + 1 + 1 by omega]
                exact h9⟩
          · obtain rfl : i = n := by omega
            have hT : ls'.take i = ls' := List.take_of_length_le (by omega)
            rw [hT] at htk hX
            obtain ⟨lv, hlv, hdel, hle1, hle2⟩ := least_time (l := ls') (by omega) r0 r1
            obtain ⟨lv0, lv1⟩ := htk lv hlv
            obtain ⟨tp0, tp1, la, hbk, la1, la0⟩ := topB_small lv0 lv1
            rw [hll] at hle1
            have HL2 : Hid (∀ k, k < lv → 100 * cntLe ls' k < r * (i : Int)) := fun k hk => by have := hle2 k hk; rw [hll] at this; exact this
            have HL1 := hide hle1
            have HDEL := hide hdel
            have HX := hide hX
            have hm0 : 0 ≤ r * (i : Int) := Int.mul_nonneg (by omega) (by omega)
            have hm1 : r * (i : Int) ≤ 3000 := by
              have := Int.mul_le_mul r1 (show (i : Int) ≤ 30 by omega) (by omega) (by omega)
              omega
            have crx : wo.cell? ⟨W.heap.size, 8, none⟩ = some (.int .i64 r) := (hX.bl.cell lcb).trans cr
            have HCE : Hid (∀ k (h : k < ls'.length), wo.cell? ⟨g, k, none⟩ = some (.int .i64 ls'[k])) := hX.li.ce
            clear hX hrg htk hT hle1 hle2 hdel hlv
            go_wp2_with fail
            go_loop [14] (fun kv => ∃ k : Nat, (k : Int) ≤ lv ∧ kv = .int .i64 (k : Int)) (fun kv => 3000 - (intOf kv).toNat)
            case atStart => exact ⟨0, by omega, rfl⟩
            case round =>
              obtain ⟨k, hk, rfl⟩ := hrel
              have hk3 : (k : Int) < 3000 := by omega
              go_wp2_with fail
              go_loop [15, 16] (fun nv iv => ∃ m : Nat, m ≤ i ∧ nv = .int .i64 (cntLe (ls'.take m) k) ∧ iv = .int .i64 (m : Int)) (fun _ iv => i - (intOf iv).toNat)
              case atStart => exact ⟨0, Nat.zero_le _, rfl, rfl⟩
              case round =>
                obtain ⟨m, hm, rfl, rfl⟩ := hrel
                obtain ⟨c0, c1⟩ := cntLe_le (ls'.take m) k
                have c2 : (ls'.take m).length ≤ i := by rw [List.length_take]; omega
                by_cases hml : (m : Int) < (i : Int)
                · have hmn : m < ls'.length := by omega
                  have cm := HCE.out m hmn
                  have HT : Hid (cntLe (ls'.take (m + 1)) k = cntLe (ls'.take m) k + if ls'[m] ≤ (k : Int) then 1 else 0) := by
                    show _ = _
                    unfold cntLe
                    rw [filter_snoc _ _ _ hmn, List.length_append]
                    by_cases c : ls'[m] ≤ (k : Int) <;> simp [c]
                  generalize ls'[m] = y at cm HT
                  generalize cntLe (ls'.take m) k = nc at c0 c1 HT ⊢
                  by_cases c : y ≤ (k : Int)
                  · go_wp2_with fail
                    go_round
                    case rel => exact ⟨m + 1, by omega, by rw [HT.out, if_pos c], by go_num⟩
                    case measure => simp [intOf]; omega
                  · go_wp2_with fail
                    go_round
                    case rel => exact ⟨m + 1, by omega, by rw [HT.out, if_neg c]; simp, by go_num⟩
                    case measure => simp [intOf]; omega
                · have hall : ls'.take m = ls' := List.take_of_length_le (by omega)
                  rw [hall] at c0 c1 c2 ⊢
                  by_cases hkv : (k : Int) = lv
                  · have hge : r * (i : Int) ≤ 100 * cntLe ls' k := by rw [hkv]; exact HL1.out
                    have w1 : IntKind.i64.wrap (100 * cntLe ls' k) = 100 * cntLe ls' k := by rw [IntKind.wrap_i64]; omega
                    have w2 : IntKind.i64.wrap (r * (i : Int)) = r * (i : Int) := by rw [IntKind.wrap_i64]; omega
                    generalize cntLe ls' k = nc at c0 c1 hge w1 ⊢
                    clear HL2 HL1 HCE
                    subst hkv
                    obtain ⟨D, hD⟩ : ∃ D, D = topB (k : Int) := ⟨_, rfl⟩
                    rw [← hD] at tp0 tp1 hbk HDEL
                    clear hD
                    have HBK := hide (fun W => cbucket_any (k : Int) W)
                    rw [hbk] at HBK
                    have hX := HX.out
                    have hus := hX.inv.ub
                    have hsum9 : sumB units ≤ 990 := by omega
                    obtain ⟨eM4, eA4⟩ := bs_submit2 r now units (i : Int) (i : Int) ls' hsum9 (by omega) (by omega) (by rw [HDEL.out]; omega)
                    rw [HDEL.out] at eM4
                    have HS4 := hide (hX.step (by omega) (.inl rfl) rfl rfl ⟨1, 1, 0, 0, 10000, true, 0, 0⟩ ⟨Hw1.out, Hw0.out, Int.le_refl _⟩)
                    rw [eA4, eM4] at HS4
                    unfold evV at HS4
                    dsimp only at HS4
                    have HUS := hide hus
                    have d1 : decide (la > (k : Int)) = false := decide_eq_false (by omega)
                    have d1' : decide ((k : Int) < la) = false := decide_eq_false (by omega)
                    have d2 : decide (D < (k : Int)) = false := decide_eq_false (by omega)
                    clear hX hus eA4 eM4 HX hbk
                    go_wp2_with fail
                    refine (HBK.out _).mono ?_
                    rintro e w5 ⟨rfl, hw5⟩
                    rw [hw5]
                    clear hw5 w5 HBK
                    go_wp2_with fail
                    refine HS4.out.mono ?_
                    rintro e w6 ⟨v6, V6, rfl, r6, hX6⟩
                    obtain ⟨g6, cap6, rfl, _⟩ := r6.at (by simp)
                    have q0 := (r6.cell encAct_len (g := g6) (i := 0) (j := 0) rfl (by simp) rfl).1
                    have q1 := (r6.cell encAct_len (g := g6) (i := 0) (j := 1) rfl (by simp) rfl).1
                    have q2 := (r6.cell encAct_len (g := g6) (i := 0) (j := 2) rfl (by simp) rfl).1
                    have q3 := (r6.cell encAct_len (g := g6) (i := 0) (j := 3) rfl (by simp) rfl).1
                    have q4 := (r6.cell encAct_len (g := g6) (i := 0) (j := 4) rfl (by simp) rfl).1
                    have q5 := (r6.cell encAct_len (g := g6) (i := 0) (j := 5) rfl (by simp) rfl).1
                    simp only [Nat.zero_mul, Nat.zero_add] at q0 q1 q2 q3 q4 q5
                    have HST := hide (rep_state hX6.rep hX6.inv (by omega))
                    have HX6 := hide hX6
                    clear hX6 r6 HS4
                    simp only [List.length_singleton]
                    go_wp2_with fail
                    refine HST.out.mono ?_
                    rintro e w7 ⟨vc, va, rfl, rw1, rw2, hb7⟩
                    obtain ⟨a1, q1, rfl, -⟩ := rw1.form
                    obtain ⟨a2, q2, rfl, -⟩ := rw2.form
                    clear rw1 rw2
                    have e2 : (((bsA r now (units ++ [⟨now, 10⟩]) ((i : Int) + 1) ((i : Int) + 2) ls' true (now + 10000) now ((i : Int) + 1) [⟨3, 1, now + D, (i : Int) + 2⟩]).timers.length : Nat) : Int) = 2 := rfl
                    rw [e2]
                    have hX7 := HX6.out.on hb7
                    have HX7 := hide hX7
                    clear hX7 hb7 HST HX6 e2
                    go_wp2_with fail
                    rw [st_field]
                    go_upto_if 160 with fail
                    go_cut [] (fun wx => ∃ (now' : Int) (l' : List PB) (V7 : PV), now ≤ now' ∧ now' ≤ now + D ∧ BsX W1 wx x (bsA r now' (l' ++ [⟨now, 10⟩]) ((i : Int) + 1) ((i : Int) + 2) ls' true (now + 10000) now ((i : Int) + 1) [⟨3, 1, now + D, (i : Int) + 2⟩]) V7 g ls' (3 * (i : Int) + 2))
                    case first =>
                      as_aux_lemma =>
                        by_cases hD0 : 0 < D
                        · obtain ⟨eA5, eM5⟩ := bs_adv r now (units ++ [⟨now, 10⟩]) ((i : Int) + 1) ((i : Int) + 2) ls' true (now + 10000) now ((i : Int) + 1) [⟨3, 1, now + D, (i : Int) + 2⟩] (now + D - 1) (by omega) (by omega) (.inr ⟨now + D, (i : Int) + 2, rfl, by omega, by omega⟩)
                          have hdl : (units ++ [(⟨now, 10⟩ : PB)]).dropWhile (oldB (now + D - 1) 10000) = units.dropWhile (oldB (now + D - 1) 10000) ++ [(⟨now, 10⟩ : PB)] := drop_snoc (by simp [oldB]; omega)
                          rw [hdl] at eM5
                          have HS5 := hide (HX7.out.step (by omega) (.inr (by show (0 : Int) < (i : Int) + 2; omega)) rfl rfl ⟨6, 0, 0, 0, 0, false, 0, now + D - 1⟩ ⟨Hw0.out, Hw0.out, Int.le_refl _⟩)
                          rw [eA5, eM5] at HS5
                          unfold evV at HS5
                          dsimp only at HS5
                          clear eA5 eM5 hdl
                          go_wp2_with fail
                          refine HS5.out.mono ?_
                          rintro e w8 ⟨v8, V8, rfl, r8, hX8⟩
                          obtain ⟨A8, cap8, rfl, _, _, _⟩ := r8.form
                          have HX8 := hide hX8
                          clear hX8 r8 HS5
                          simp only [List.length_nil]
                          go_wp2_with fail
                          go_meet
                          case rel => exact ⟨now + D - 1, _, V8, by omega, by omega, HX8.out⟩
                        · go_wp2_with fail
                          go_meet
                          case rel => exact ⟨now, units, V6, by omega, by omega, ⟨HX7.out.rep, HX7.out.inv.mono (by omega), HX7.out.tg, HX7.out.bl, HX7.out.li, HX7.out.gw⟩⟩
                    case rest =>
                      obtain ⟨now', l', V7, nn0, nn1, hX8⟩ := hcut
                      have hub : OkB l' := fun b hb => hX8.inv.ub b (List.mem_append_left _ hb)
                      have hu : 1 ≤ sumB ((l' ++ [(⟨now, 10⟩ : PB)]).dropWhile (oldB (now + D) 10000)) := by
                        have h9 := drop_last hub (b := (⟨now, 10⟩ : PB)) (t := now + D) (win := 10000) (by simp [oldB]; omega)
                        have h8 : (⟨now, 10⟩ : PB).units = 10 := rfl
                        omega
                      obtain ⟨eA6, units6, eM6⟩ := bs_ring r now' (l' ++ [⟨now, 10⟩]) ((i : Int) + 1) ((i : Int) + 2) ls' (now + 10000) now ((i : Int) + 1) (now + D) ((i : Int) + 2) hX8.inv (by omega) nn1 (by omega) (by omega) hu
                      have HS6 := hide (hX8.step (by omega) (.inr (by show (0 : Int) < (i : Int) + 2; omega)) rfl rfl ⟨6, 0, 0, 0, 0, false, 0, now + D⟩ ⟨Hw0.out, Hw0.out, Int.le_refl _⟩)
                      rw [eA6, eM6] at HS6
                      unfold evV at HS6
                      dsimp only at HS6
                      clear eA6 eM6 hu hub hX8 HX7
                      go_wp2_with fail
                      refine HS6.out.mono ?_
                      rintro e w9 ⟨v9, V9, rfl, r9, hX9⟩
                      obtain ⟨g9, cap9, rfl, _⟩ := r9.at (by simp)
                      have q0 := (r9.cell encAct_len (g := g9) (i := 0) (j := 0) rfl (by simp) rfl).1
                      have q1 := (r9.cell encAct_len (g := g9) (i := 0) (j := 1) rfl (by simp) rfl).1
                      have q2 := (r9.cell encAct_len (g := g9) (i := 0) (j := 2) rfl (by simp) rfl).1
                      have q3 := (r9.cell encAct_len (g := g9) (i := 0) (j := 3) rfl (by simp) rfl).1
                      have q4 := (r9.cell encAct_len (g := g9) (i := 0) (j := 4) rfl (by simp) rfl).1
                      have q5 := (r9.cell encAct_len (g := g9) (i := 0) (j := 5) rfl (by simp) rfl).1
                      simp only [Nat.zero_mul, Nat.zero_add] at q0 q1 q2 q3 q4 q5
                      have hlf : now + 10000 - (now + D) = 10000 - D := by omega
                      have hat : (i : Int) + 1 + 1 = (i : Int) + 2 := by omega
                      rw [hlf] at q5
                      rw [hat] at q2
                      have HX9 := hide hX9
                      clear hX9 r9 HS6 hlf
                      simp only [List.length_singleton]
                      go_wp2_with fail
                      refine (HPW.out _).mono ?_
                      rintro e w10 ⟨rfl, hw10⟩
                      rw [hw10]
                      clear hw10 w10 HPW q0 q1 q2 q3 q4 q5
                      have hpw : pw = 0 ∨ pw = 1 := by omega
                      rcases hpw with rfl | rfl
                      · as_aux_lemma =>
                          have eA7 := bs_done1 r (now + D) units6 ((i : Int) + 1 + 1) ((i : Int) + 2) ls' (now + 10000) now (now + D) ((i : Int) + 1) 9
                          rw [show (i : Int) + 1 + 1 - 1 = (i : Int) + 1 by omega] at eA7
                          have HS7 := hide (HX9.out.step (by omega) (.inr (by show (0 : Int) < (i : Int) + 2; omega)) rfl rfl ⟨2, 0, (i : Int) + 1, 9, 0, false, 0, 0⟩ ⟨Hw0.out, WalkArith.wf_i64 (show -9223372036854775808 ≤ (i : Int) + 1 ∧ (i : Int) + 1 ≤ 9223372036854775807 by omega), Int.le_refl _⟩)
                          rw [eA7, hat] at HS7
                          unfold evV at HS7
                          dsimp only at HS7
                          clear eA7
                          go_wp2_with fail
                          refine HS7.out.mono ?_
                          rintro e w11 ⟨v11, V11, rfl, r11, hX11⟩
                          obtain ⟨g11, cap11, rfl, _⟩ := r11.at (by simp)
                          have q0 := (r11.cell encAct_len (g := g11) (i := 0) (j := 0) rfl (by simp) rfl).1
                          have q1 := (r11.cell encAct_len (g := g11) (i := 0) (j := 1) rfl (by simp) rfl).1
                          have q2 := (r11.cell encAct_len (g := g11) (i := 0) (j := 2) rfl (by simp) rfl).1
                          have q3 := (r11.cell encAct_len (g := g11) (i := 0) (j := 3) rfl (by simp) rfl).1
                          have q4 := (r11.cell encAct_len (g := g11) (i := 0) (j := 4) rfl (by simp) rfl).1
                          have q5 := (r11.cell encAct_len (g := g11) (i := 0) (j := 5) rfl (by simp) rfl).1
                          simp only [Nat.zero_mul, Nat.zero_add] at q0 q1 q2 q3 q4 q5
                          have p0 := (r11.cell encAct_len (g := g11) (i := 1) (j := 0) rfl (by simp) rfl).1
                          have p1 := (r11.cell encAct_len (g := g11) (i := 1) (j := 1) rfl (by simp) rfl).1
                          have p2 := (r11.cell encAct_len (g := g11) (i := 1) (j := 2) rfl (by simp) rfl).1
                          have p3 := (r11.cell encAct_len (g := g11) (i := 1) (j := 3) rfl (by simp) rfl).1
                          have p4 := (r11.cell encAct_len (g := g11) (i := 1) (j := 4) rfl (by simp) rfl).1
                          have p5 := (r11.cell encAct_len (g := g11) (i := 1) (j := 5) rfl (by simp) rfl).1
                          simp only [Nat.one_mul, Nat.add_zero] at p0 p1 p2 p3 p4 p5
                          have HB11 := hide (HbW.out.trans (hX11.bl.mono HbW.out.size))
                          clear hX11 r11 HS7
                          simp only [List.length_cons, List.length_nil]
                          go_wp2_with fail
                          go_ret
                          exact ⟨rfl, HB11.out⟩
                      · as_aux_lemma =>
                          have eA7 := bs_done2 r (now + D) units6 ((i : Int) + 1 + 1) ((i : Int) + 2) ls' (now + 10000) now (now + D) ((i : Int) + 1) 9
                          rw [show (i : Int) + 1 + 1 - 1 = (i : Int) + 1 by omega, hat] at eA7
                          have HS7 := hide (HX9.out.step (by omega) (.inr (by show (0 : Int) < (i : Int) + 2; omega)) rfl rfl ⟨2, 0, (i : Int) + 2, 9, 0, false, 0, 0⟩ ⟨Hw0.out, WalkArith.wf_i64 (show -9223372036854775808 ≤ (i : Int) + 2 ∧ (i : Int) + 2 ≤ 9223372036854775807 by omega), Int.le_refl _⟩)
                          rw [hat] at HS7
                          rw [eA7] at HS7
                          unfold evV at HS7
                          dsimp only at HS7
                          clear eA7
                          go_wp2_with fail
                          refine HS7.out.mono ?_
                          rintro e w11 ⟨v11, V11, rfl, r11, hX11⟩
                          obtain ⟨g11, cap11, rfl, _⟩ := r11.at (by simp)
                          have q0 := (r11.cell encAct_len (g := g11) (i := 0) (j := 0) rfl (by simp) rfl).1
                          have q1 := (r11.cell encAct_len (g := g11) (i := 0) (j := 1) rfl (by simp) rfl).1
                          have q2 := (r11.cell encAct_len (g := g11) (i := 0) (j := 2) rfl (by simp) rfl).1
                          have q3 := (r11.cell encAct_len (g := g11) (i := 0) (j := 3) rfl (by simp) rfl).1
                          have q4 := (r11.cell encAct_len (g := g11) (i := 0) (j := 4) rfl (by simp) rfl).1
                          have q5 := (r11.cell encAct_len (g := g11) (i := 0) (j := 5) rfl (by simp) rfl).1
                          simp only [Nat.zero_mul, Nat.zero_add] at q0 q1 q2 q3 q4 q5
                          have p0 := (r11.cell encAct_len (g := g11) (i := 1) (j := 0) rfl (by simp) rfl).1
                          have p1 := (r11.cell encAct_len (g := g11) (i := 1) (j := 1) rfl (by simp) rfl).1
                          have p2 := (r11.cell encAct_len (g := g11) (i := 1) (j := 2) rfl (by simp) rfl).1
                          have p3 := (r11.cell encAct_len (g := g11) (i := 1) (j := 3) rfl (by simp) rfl).1
                          have p4 := (r11.cell encAct_len (g := g11) (i := 1) (j := 4) rfl (by simp) rfl).1
                          have p5 := (r11.cell encAct_len (g := g11) (i := 1) (j := 5) rfl (by simp) rfl).1
                          simp only [Nat.one_mul, Nat.add_zero] at p0 p1 p2 p3 p4 p5
                          have HB11 := hide (HbW.out.trans (hX11.bl.mono HbW.out.size))
                          clear hX11 r11 HS7
                          simp only [List.length_cons, List.length_nil]
                          go_wp2_with fail
                          go_ret
                          exact ⟨rfl, HB11.out⟩
                  · as_aux_lemma =>
                      have hlt9 : 100 * cntLe ls' k < r * (i : Int) := HL2.out k (by omega)
                      have w1 : IntKind.i64.wrap (100 * cntLe ls' k) = 100 * cntLe ls' k := by rw [IntKind.wrap_i64]; omega
                      have w2 : IntKind.i64.wrap (r * (i : Int)) = r * (i : Int) := by rw [IntKind.wrap_i64]; omega
                      generalize cntLe ls' k = nc at c0 c1 hlt9 w1 ⊢
                      go_wp2_with fail
                      go_round
                      case rel => exact ⟨k + 1, by omega, by go_num⟩
                      case measure => simp [intOf]; omega
end Go.Proofs.YtlccfpbbdgpjbaaGreatDoor
