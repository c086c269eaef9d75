/-
  made: New of the program and of the document, one beside the other.
-/
import Derived.Test.YtlccfpbbdgpjbaaGreatDoorRowsTwo
import Derived.OwnWalk
namespace Go.Proofs.YtlccfpbbdgpjbaaGreatDoor
open Go.RowKit

theorem Tryz.info44 : (Tryz.prog.info? 47).map (fun i => (i.zero, i.size, i.bytes)) = some (some (.pointer none), 1, 8) := by kernel_rfl
theorem Tryz.info48 : (Tryz.prog.info? 75).map (fun i => (i.zero, i.size, i.bytes)) = some (some (.pointer none), 1, 8) := by kernel_rfl

/-- What stays so from step to step: nothing that was there has turned; the World's two lists stand, and are as long as one another. -/
structure Inv (G : Nat) (W w : World) : Prop where
  below : Below W.heap.size W w
  hG : W.heap.size ≤ G
  two : ∃ vx vy n, n ≤ 3 ∧ Two G w vx vy n n

theorem Inv.on {G : Nat} {W w w' : World} (h : Inv G W w) (hb : Below w.heap.size w w') : Inv G W w' :=
  ⟨below_step h.below hb, h.hG, h.two.imp fun _ h => h.imp fun _ h => h.imp fun _ h => ⟨h.1, h.2.on hb⟩⟩

set_option maxHeartbeats 1600000 in
theorem made_bad (a b c d e f g h i j : Int) (G : Nat) (w : World) (hL : Laid w) (hk : cfgErr a b c d e f g h i j ≠ 0) :
    Calls Tryz.prog 12 #[.pointer (some ⟨G, 0, none⟩), .agg #[.int .i64 a, .int .i64 b, .int .i64 c, .int .i64 d, .int .i64 e, .int .i64 f, .int .i64 g, .int .i64 h, .int .i64 i, .int .i64 j]] w fun ev w' => ev = .returned (.bool true) ∧ Below w.heap.size w w' := by
  have c0 : Below w.heap.size w (w.alloc (.cells #[.int .i64 a, .int .i64 b, .int .i64 c, .int .i64 d, .int .i64 e, .int .i64 f, .int .i64 g, .int .i64 h, .int .i64 i, .int .i64 j] 34)) := (Below.refl _ _).alloc (Nat.le_refl _) _
  have HN : Hid (∀ w, Laid w → Calls Tryz.prog 18 #[.agg #[.int .i64 a, .int .i64 b, .int .i64 c, .int .i64 d, .int .i64 e, .int .i64 f, .int .i64 g, .int .i64 h, .int .i64 i, .int .i64 j]] w fun ev w' => ev = .returned (.tuple #[.pointer none, .int .i64 (cfgErr a b c d e f g h i j)]) ∧ Below w.heap.size w w') := fun w hL => new_bad a b c d e f g h i j w hL hk
  have HR : Hid (∀ w, Calls Tryz.prog 27 #[.agg #[.int .i64 a, .int .i64 b, .int .i64 c, .int .i64 d, .int .i64 e, .int .i64 f, .int .i64 g, .int .i64 h, .int .i64 i, .int .i64 j]] w fun ev w' => ev = .returned (.tuple #[.pointer none, .int .i64 (cfgErr a b c d e f g h i j)]) ∧ Below w.heap.size w w') := fun w => rnew_bad a b c d e f g h i j w hk
  generalize cfgErr a b c d e f g h i j = k at HN HR hk
  have hk' : (k != 0) = true := by simpa using hk
  clear hk
  have hL0 := hL.on c0
  go_enter Tryz.func12, Tryz.ntmps12
  go_wp2_with fail
  refine (HN.out _ hL0).mono ?_
  rintro ev w1 ⟨rfl, hb1⟩
  obtain ⟨f0, f1, f2, f3, f4, f5, f6, f7, f8, f9⟩ := cfg_cells a b c d e f g h i j w w1 34 hb1
  go_wp2_with fail
  refine (HR.out _).mono ?_
  rintro ev w2 ⟨rfl, hb2⟩
  clear HN HR f0 f1 f2 f3 f4 f5 f6 f7 f8 f9
  go_wp2_with fail
  go_ret
  exact ⟨rfl, below_step (below_step c0 hb1) hb2⟩

theorem Two.left_other {G : Nat} {w : World} {vx vy : Value} {n m : Nat} (h : Two G w vx vy n m) {o : Obj} {w1 : World} (hgrow : (w.alloc o).grownBy w1 vx.ownBlock) : w1.cell? ⟨G, 1, none⟩ = some vy := by
  obtain ⟨xs, hx⟩ := h.ox
  have hA := h.on ((Below.refl _ _).alloc (Nat.le_refl _) o)
  exact (hgrow.cell_far ⟨G, 1, none⟩ hA.lt (fun e => by have := (hx.lt G e.symm).1; omega)).trans hA.cy
theorem block_later (w : World) (a : Addr) (v : Value) (o : Obj) : ((w.setCell a v).alloc o).heap[w.heap.size]? = some o := by
  have := heap_alloc_new (w.setCell a v) o
  simpa using this

set_option maxHeartbeats 1600000 in
theorem made_some (a b c d e f g h i j : Int) (G : Nat) (W w : World) (hL : Laid w) (hk : cfgErr a b c d e f g h i j = 0) (I : Below W.heap.size W w) (hG : W.heap.size ≤ G) (n : Nat) (hn : n < 3) (gx cap : Nat) (vy : Value) (T : Two G w (.slice (some ⟨gx, 0, none⟩) n cap) vy n n) :
    Calls Tryz.prog 12 #[.pointer (some ⟨G, 0, none⟩), .agg #[.int .i64 a, .int .i64 b, .int .i64 c, .int .i64 d, .int .i64 e, .int .i64 f, .int .i64 g, .int .i64 h, .int .i64 i, .int .i64 j]] w fun ev w' => ev = .returned (.bool true) ∧ Inv G W w' := by
  have c0 : Below w.heap.size w (w.alloc (.cells #[.int .i64 a, .int .i64 b, .int .i64 c, .int .i64 d, .int .i64 e, .int .i64 f, .int .i64 g, .int .i64 h, .int .i64 i, .int .i64 j] 34)) := (Below.refl _ _).alloc (Nat.le_refl _) _
  have HN : Hid (∀ w, Laid w → Calls Tryz.prog 18 #[.agg #[.int .i64 a, .int .i64 b, .int .i64 c, .int .i64 d, .int .i64 e, .int .i64 f, .int .i64 g, .int .i64 h, .int .i64 i, .int .i64 j]] w fun ev w' => (∃ x, ev = .returned (.tuple #[.pointer (some ⟨x, 0, none⟩), .int .i64 0])) ∧ Below w.heap.size w w') := fun w hL => new_ok a b c d e f g h i j w hL hk
  have HR : Hid (∀ w, Calls Tryz.prog 27 #[.agg #[.int .i64 a, .int .i64 b, .int .i64 c, .int .i64 d, .int .i64 e, .int .i64 f, .int .i64 g, .int .i64 h, .int .i64 i, .int .i64 j]] w fun ev w' => (∃ x, ev = .returned (.tuple #[.pointer (some ⟨x, 0, none⟩), .int .i64 0])) ∧ Below w.heap.size w w') := fun w => rnew_ok a b c d e f g h i j w hk
  clear hk
  have hL0 := hL.on c0
  obtain ⟨i44, p1, p2, p3, p4⟩ := info_parts Tryz.info44
  obtain ⟨i48, q1, q2, q3, q4⟩ := info_parts Tryz.info48
  go_enter Tryz.func12, Tryz.ntmps12
  go_wp2_with fail
  refine (HN.out _ hL0).mono ?_
  rintro ev w1 ⟨⟨x, rfl⟩, hb1⟩
  obtain ⟨f0, f1, f2, f3, f4, f5, f6, f7, f8, f9⟩ := cfg_cells a b c d e f g h i j w w1 34 hb1
  go_wp2_with fail
  refine (HR.out _).mono ?_
  rintro ev w2 ⟨⟨y, rfl⟩, hb2⟩
  have c2 := below_step (below_step c0 hb1) hb2
  have T2 := T.on c2
  have I2 := below_step I c2
  clear HN HR f0 f1 f2 f3 f4 f5 f6 f7 f8 f9 hL hL0 T c0 hb1 hb2 I c2
  have cx := T2.cx
  obtain ⟨xs, ox⟩ := T2.ox
  have lG := T2.lt
  have tok : True := trivial
  have hn' : (n : Int) < 3 := by omega
  go_wp2_with (first
    | (at_builtin; have _t := tok; refine wpList_append_lies _ (by rfl) _ _ _ (by rfl) (G + 1) 47 i44 _ 1 8 Tryz.underlying24 p1 p2 p3 p4 rfl (by omega) (.slice (some ⟨gx, 0, none⟩) n cap) n xs (by rfl) (ox.alloc _) ⟨w2.heap.size, 0, none⟩ 1 1 [.pointer (some ⟨x, 0, none⟩)] (by rfl) (by rfl) (World.news_of_block (cs := #[.pointer (some ⟨x, 0, none⟩)]) (t := 47) (fr := (0, 0)) (heap_alloc_new w2 _)) (by simp [Value.oneCell']) (by omega) (by simp only [maxLen]; omega) (by omega) (by simp; omega) (w2.heap.size + 1) (by simp) ?_; intro g1 cap1 w3 hown1 hgrow1 hat1 hlt1; clear tok; obtain ⟨sx, sf, T3⟩ := T2.left hown1 hgrow1 hat1; obtain ⟨ys, oy⟩ := T3.oy; have cy3 := T2.left_other hgrow1; have l3 := T3.lt; have hnb := block_later w3 ⟨G, 0, none⟩ (.slice (some ⟨g1, 0, none⟩) (n + 1) cap1) (.cells #[.pointer (some ⟨y, 0, none⟩)] 75))
    | (at_builtin; refine wpList_append_lies _ (by rfl) _ _ _ (by rfl) (G + 1) 75 i48 _ 1 8 Tryz.underlying25 q1 q2 q3 q4 rfl (by omega) vy n ys (by rfl) (oy.alloc _) ⟨w3.heap.size, 0, none⟩ 1 1 [.pointer (some ⟨y, 0, none⟩)] (by rfl) (by rfl) (World.news_of_block (cs := #[.pointer (some ⟨y, 0, none⟩)]) (t := 75) (fr := (0, 0)) hnb) (by simp [Value.oneCell']) (by omega) (by simp only [maxLen]; omega) (by omega) (by simp at l3 ⊢; omega) (w3.heap.size + 1) (by simp) ?_; intro g2 cap2 w4 hown2 hgrow2 hat2 hlt2; obtain ⟨tx, tf, T4⟩ := T3.right hown2 hgrow2 (by simpa using hat2)))
  go_ret
  refine ⟨rfl, ?_, hG, _, _, n + 1, by omega, T4⟩
  have I3 := ((I2.alloc I2.size (.cells #[.pointer (some ⟨x, 0, none⟩)] 47)).grown hgrow1 (Nat.le_trans I2.size (by simp)) (fun k hk => by have := (ox.lt k hk).1; omega)).setCell (p := ⟨G, 0, none⟩) hG (.slice (some ⟨g1, 0, none⟩) (n + 1) cap1)
  exact ((I3.alloc I3.size (.cells #[.pointer (some ⟨y, 0, none⟩)] 75)).grown hgrow2 (Nat.le_trans I3.size (by simp)) (fun k hk => by have := (oy.lt k hk).1; omega)).setCell (p := ⟨G, 1, none⟩) hG _

set_option maxHeartbeats 1600000 in
theorem made_nil (a b c d e f g h i j : Int) (G : Nat) (W w : World) (hL : Laid w) (hk : cfgErr a b c d e f g h i j = 0) (I : Below W.heap.size W w) (hG : W.heap.size ≤ G)  (vy : Value) (T : Two G w (.slice none 0 0) vy 0 0) :
    Calls Tryz.prog 12 #[.pointer (some ⟨G, 0, none⟩), .agg #[.int .i64 a, .int .i64 b, .int .i64 c, .int .i64 d, .int .i64 e, .int .i64 f, .int .i64 g, .int .i64 h, .int .i64 i, .int .i64 j]] w fun ev w' => ev = .returned (.bool true) ∧ Inv G W w' := by
  have c0 : Below w.heap.size w (w.alloc (.cells #[.int .i64 a, .int .i64 b, .int .i64 c, .int .i64 d, .int .i64 e, .int .i64 f, .int .i64 g, .int .i64 h, .int .i64 i, .int .i64 j] 34)) := (Below.refl _ _).alloc (Nat.le_refl _) _
  have HN : Hid (∀ w, Laid w → Calls Tryz.prog 18 #[.agg #[.int .i64 a, .int .i64 b, .int .i64 c, .int .i64 d, .int .i64 e, .int .i64 f, .int .i64 g, .int .i64 h, .int .i64 i, .int .i64 j]] w fun ev w' => (∃ x, ev = .returned (.tuple #[.pointer (some ⟨x, 0, none⟩), .int .i64 0])) ∧ Below w.heap.size w w') := fun w hL => new_ok a b c d e f g h i j w hL hk
  have HR : Hid (∀ w, Calls Tryz.prog 27 #[.agg #[.int .i64 a, .int .i64 b, .int .i64 c, .int .i64 d, .int .i64 e, .int .i64 f, .int .i64 g, .int .i64 h, .int .i64 i, .int .i64 j]] w fun ev w' => (∃ x, ev = .returned (.tuple #[.pointer (some ⟨x, 0, none⟩), .int .i64 0])) ∧ Below w.heap.size w w') := fun w => rnew_ok a b c d e f g h i j w hk
  clear hk
  have hL0 := hL.on c0
  obtain ⟨i44, p1, p2, p3, p4⟩ := info_parts Tryz.info44
  obtain ⟨i48, q1, q2, q3, q4⟩ := info_parts Tryz.info48
  go_enter Tryz.func12, Tryz.ntmps12
  go_wp2_with fail
  refine (HN.out _ hL0).mono ?_
  rintro ev w1 ⟨⟨x, rfl⟩, hb1⟩
  obtain ⟨f0, f1, f2, f3, f4, f5, f6, f7, f8, f9⟩ := cfg_cells a b c d e f g h i j w w1 34 hb1
  go_wp2_with fail
  refine (HR.out _).mono ?_
  rintro ev w2 ⟨⟨y, rfl⟩, hb2⟩
  have c2 := below_step (below_step c0 hb1) hb2
  have T2 := T.on c2
  have I2 := below_step I c2
  clear HN HR f0 f1 f2 f3 f4 f5 f6 f7 f8 f9 hL hL0 T c0 hb1 hb2 I c2
  have cx := T2.cx
  obtain ⟨xs, ox⟩ := T2.ox
  have lG := T2.lt
  have tok : True := trivial
  go_wp2_with (first
    | (at_builtin; have _t := tok; refine wpList_append_lies _ (by rfl) _ _ _ (by rfl) (G + 1) 47 i44 _ 1 8 Tryz.underlying24 p1 p2 p3 p4 rfl (by omega) (.slice none 0 0) 0 xs (by rfl) (ox.alloc _) ⟨w2.heap.size, 0, none⟩ 1 1 [.pointer (some ⟨x, 0, none⟩)] (by rfl) (by rfl) (World.news_of_block (cs := #[.pointer (some ⟨x, 0, none⟩)]) (t := 47) (fr := (0, 0)) (heap_alloc_new w2 _)) (by simp [Value.oneCell']) (by omega) (by simp only [maxLen]; omega) (by omega) (by simp; omega) (w2.heap.size + 1) (by simp) ?_; intro g1 cap1 w3 hown1 hgrow1 hat1 hlt1; clear tok; obtain ⟨sx, sf, T3⟩ := T2.left hown1 hgrow1 hat1; obtain ⟨ys, oy⟩ := T3.oy; have cy3 := T2.left_other hgrow1; have l3 := T3.lt; have hnb := block_later w3 ⟨G, 0, none⟩ (.slice (some ⟨g1, 0, none⟩) (0 + 1) cap1) (.cells #[.pointer (some ⟨y, 0, none⟩)] 75))
    | (at_builtin; refine wpList_append_lies _ (by rfl) _ _ _ (by rfl) (G + 1) 75 i48 _ 1 8 Tryz.underlying25 q1 q2 q3 q4 rfl (by omega) vy 0 ys (by rfl) (oy.alloc _) ⟨w3.heap.size, 0, none⟩ 1 1 [.pointer (some ⟨y, 0, none⟩)] (by rfl) (by rfl) (World.news_of_block (cs := #[.pointer (some ⟨y, 0, none⟩)]) (t := 75) (fr := (0, 0)) hnb) (by simp [Value.oneCell']) (by omega) (by simp only [maxLen]; omega) (by omega) (by simp at l3 ⊢; omega) (w3.heap.size + 1) (by simp) ?_; intro g2 cap2 w4 hown2 hgrow2 hat2 hlt2; obtain ⟨tx, tf, T4⟩ := T3.right hown2 hgrow2 (by simpa using hat2)))
  go_ret
  refine ⟨rfl, ?_, hG, _, _, 0 + 1, by omega, T4⟩
  have I3 := ((I2.alloc I2.size (.cells #[.pointer (some ⟨x, 0, none⟩)] 47)).grown hgrow1 (Nat.le_trans I2.size (by simp)) (fun k hk => by have := (ox.lt k hk).1; omega)).setCell (p := ⟨G, 0, none⟩) hG (.slice (some ⟨g1, 0, none⟩) (0 + 1) cap1)
  exact ((I3.alloc I3.size (.cells #[.pointer (some ⟨y, 0, none⟩)] 75)).grown hgrow2 (Nat.le_trans I3.size (by simp)) (fun k hk => by have := (oy.lt k hk).1; omega)).setCell (p := ⟨G, 1, none⟩) hG _

set_option maxHeartbeats 1600000 in
theorem made_full (a b c d e f g h i j : Int) (G : Nat) (W w : World) (hL : Laid w) (hk : cfgErr a b c d e f g h i j = 0) (I : Below W.heap.size W w) (hG : W.heap.size ≤ G) (gx cap : Nat) (vy : Value) (T : Two G w (.slice (some ⟨gx, 0, none⟩) 3 cap) vy 3 3) :
    Calls Tryz.prog 12 #[.pointer (some ⟨G, 0, none⟩), .agg #[.int .i64 a, .int .i64 b, .int .i64 c, .int .i64 d, .int .i64 e, .int .i64 f, .int .i64 g, .int .i64 h, .int .i64 i, .int .i64 j]] w fun ev w' => ev = .returned (.bool true) ∧ Inv G W w' := by
  have c0 : Below w.heap.size w (w.alloc (.cells #[.int .i64 a, .int .i64 b, .int .i64 c, .int .i64 d, .int .i64 e, .int .i64 f, .int .i64 g, .int .i64 h, .int .i64 i, .int .i64 j] 34)) := (Below.refl _ _).alloc (Nat.le_refl _) _
  have HN : Hid (∀ w, Laid w → Calls Tryz.prog 18 #[.agg #[.int .i64 a, .int .i64 b, .int .i64 c, .int .i64 d, .int .i64 e, .int .i64 f, .int .i64 g, .int .i64 h, .int .i64 i, .int .i64 j]] w fun ev w' => (∃ x, ev = .returned (.tuple #[.pointer (some ⟨x, 0, none⟩), .int .i64 0])) ∧ Below w.heap.size w w') := fun w hL => new_ok a b c d e f g h i j w hL hk
  have HR : Hid (∀ w, Calls Tryz.prog 27 #[.agg #[.int .i64 a, .int .i64 b, .int .i64 c, .int .i64 d, .int .i64 e, .int .i64 f, .int .i64 g, .int .i64 h, .int .i64 i, .int .i64 j]] w fun ev w' => (∃ x, ev = .returned (.tuple #[.pointer (some ⟨x, 0, none⟩), .int .i64 0])) ∧ Below w.heap.size w w') := fun w => rnew_ok a b c d e f g h i j w hk
  clear hk
  have hL0 := hL.on c0
  go_enter Tryz.func12, Tryz.ntmps12
  go_wp2_with fail
  refine (HN.out _ hL0).mono ?_
  rintro ev w1 ⟨⟨x, rfl⟩, hb1⟩
  obtain ⟨f0, f1, f2, f3, f4, f5, f6, f7, f8, f9⟩ := cfg_cells a b c d e f g h i j w w1 34 hb1
  go_wp2_with fail
  refine (HR.out _).mono ?_
  rintro ev w2 ⟨⟨y, rfl⟩, hb2⟩
  have c2 := below_step (below_step c0 hb1) hb2
  have T2 := T.on c2
  have I2 := below_step I c2
  clear HN HR f0 f1 f2 f3 f4 f5 f6 f7 f8 f9 hL hL0 T c0 hb1 hb2 I c2
  have cx := T2.cx
  go_wp2_with fail
  go_ret
  exact ⟨rfl, I2, hG, _, _, 3, by omega, T2⟩

theorem made_any (a b c d e f g h i j : Int) (G : Nat) (W w : World) (hL : Laid W) (I : Inv G W w) :
    Calls Tryz.prog 12 #[.pointer (some ⟨G, 0, none⟩), .agg #[.int .i64 a, .int .i64 b, .int .i64 c, .int .i64 d, .int .i64 e, .int .i64 f, .int .i64 g, .int .i64 h, .int .i64 i, .int .i64 j]] w fun ev w' => ev = .returned (.bool true) ∧ Inv G W w' := by
  have hL' := hL.on I.below
  by_cases hk : cfgErr a b c d e f g h i j = 0
  · obtain ⟨vx, vy, n, hn, T⟩ := I.two
    obtain ⟨xs, hx⟩ := T.ox
    rcases hx.2 with ⟨rfl, rfl⟩ | ⟨gx, cap, cur, rfl, _⟩
    · exact made_nil a b c d e f g h i j G W w hL' hk I.below I.hG vy T
    · by_cases h3 : n = 3
      · subst h3
        exact made_full a b c d e f g h i j G W w hL' hk I.below I.hG gx cap vy T
      · exact made_some a b c d e f g h i j G W w hL' hk I.below I.hG n (by omega) gx cap vy T
  · refine (made_bad a b c d e f g h i j G w hL' hk).mono ?_
    rintro ev w' ⟨rfl, hb⟩
    exact ⟨rfl, I.on hb⟩
end Go.Proofs.YtlccfpbbdgpjbaaGreatDoor
