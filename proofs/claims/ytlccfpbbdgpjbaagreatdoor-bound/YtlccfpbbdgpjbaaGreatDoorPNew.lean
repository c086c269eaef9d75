import Derived.Test.YtlccfpbbdgpjbaaGreatDoorZNew
import Derived.Test.YtlccfpbbdgpjbaaGreatDoorPPrim
namespace Go.Proofs.YtlccfpbbdgpjbaaGreatDoor
open Go.RowKit Go.Maps
attribute [local go_sem ↓] Go.wp_at_zero Go.wp_at_succ wp_build3 wp_build4
attribute [local go_sem] isErr_errV

def initS (c : Cfg) : PSt := ⟨c, 0, [], [], [], 0, [], 0, [], 0⟩

theorem MapI.of_block {P : Program} {kt : TypeId} {ok : Value → Bool} {W : World} {b : Nat} (h : W.heap[b]? = some (.map #[] 0)) : MapI P kt ok W b [] := by
  have hb : b < W.heap.size := (Array.getElem?_eq_some_iff.1 h).1
  have h1 := MapI.made (P := P) (kt := kt) (ok := ok) { W with heap := W.heap.extract 0 b }
  have hs : (W.heap.extract 0 b).size = b := by simp; omega
  have h2 : ({ W with heap := W.heap.extract 0 b } : World).heap.size = b := hs
  rw [h2] at h1
  refine h1.same ?_
  rw [h]
  have h3 := heap_alloc_new { W with heap := W.heap.extract 0 b } (.map #[] 0)
  rw [h2] at h3
  exact h3.symm

theorem rep_new {W : World} {x bc ba : Nat} (c : Cfg) {t : TypeId} (hx : W.heap[x]? = some (.cells (cellsP (initS c) ⟨bc, ba, .slice none 0 0, .slice none 0 0, .slice none 0 0, fun _ => 0, [], fun _ => 0⟩).toArray t)) (hbc : W.heap[bc]? = some (.map #[] 0)) (hba : W.heap[ba]? = some (.map #[] 0)) (n1 : bc ≠ x) (n2 : ba ≠ x) (n3 : ba ≠ bc) {B : Nat} (b1 : B ≤ x) (b2 : B ≤ bc) (b3 : B ≤ ba) :
    ∃ V, PRep W x (initS c) V ∧ (∀ k, V.tag k < 7 → B ≤ k) := by
  have lx : x < W.heap.size := (Array.getElem?_eq_some_iff.1 hx).1
  have lc : bc < W.heap.size := (Array.getElem?_eq_some_iff.1 hbc).1
  have la : ba < W.heap.size := (Array.getElem?_eq_some_iff.1 hba).1
  refine ⟨⟨bc, ba, .slice none 0 0, .slice none 0 0, .slice none 0 0, fun _ => 0, [], fun k => if k = x then 0 else if k = bc then 1 else if k = ba then 2 else 7⟩, ⟨?_, ?_, MapI.of_block hbc, MapI.of_block hba, (fun c hc => by cases hc), Row.nil _ _ _ _ _, Row.nil _ _ _ _ _, Row.nil _ _ _ _ _, List.Perm.refl _, ?_, (by simp), (by simp [n1]), (by simp [n2, n3]), ?_, ?_, ?_, (fun c hc => by cases hc), (fun c hc => by cases hc), ?_, (fun h => by simp [initS] at h)⟩, ?_⟩
  · intro j v hv
    rw [cell_of_row _ _ _ _ _ _ hx]
    simpa [cellsP] using hv
  · intro j _
    unfold World.frozen?
    dsimp only
    rw [hx]
    simp
  · intro i _ hi
    simp at hi
  · intro k hk
    simp [Value.ownBlock] at hk
  · intro k hk
    simp [Value.ownBlock] at hk
  · intro k hk
    simp [Value.ownBlock] at hk
  · intro k hk
    dsimp only at hk
    split at hk
    · omega
    · split at hk
      · omega
      · split at hk <;> omega
  · intro k hk
    dsimp only at hk
    split at hk
    · omega
    · split at hk
      · omega
      · split at hk <;> omega

theorem four_heap (w2 : World) (o1 o2 o3 o4 : Obj) : ((((w2.alloc o1).alloc o2).alloc o3).alloc o4).drew.heap[w2.heap.size]? = some o1 ∧ ((((w2.alloc o1).alloc o2).alloc o3).alloc o4).drew.heap[w2.heap.size + 1]? = some o2 ∧ ((((w2.alloc o1).alloc o2).alloc o3).alloc o4).drew.heap[w2.heap.size + 1 + 1]? = some o3 ∧ ((((w2.alloc o1).alloc o2).alloc o3).alloc o4).drew.heap[w2.heap.size + 1 + 1 + 1]? = some o4 := by
  have s1 : (w2.alloc o1).heap.size = w2.heap.size + 1 := World.size_alloc _ _
  have s2 : ((w2.alloc o1).alloc o2).heap.size = w2.heap.size + 1 + 1 := by rw [World.size_alloc, s1]
  have s3 : (((w2.alloc o1).alloc o2).alloc o3).heap.size = w2.heap.size + 1 + 1 + 1 := by rw [World.size_alloc, s2]
  have b2 : Below (w2.alloc o1).heap.size (w2.alloc o1) ((((w2.alloc o1).alloc o2).alloc o3).alloc o4).drew := ((((Below.refl _ _).alloc (Nat.le_refl _) _).alloc (by rw [s2, s1]; omega) _).alloc (by rw [s3, s1]; omega) _).drew
  have b3 : Below ((w2.alloc o1).alloc o2).heap.size ((w2.alloc o1).alloc o2) ((((w2.alloc o1).alloc o2).alloc o3).alloc o4).drew := (((Below.refl _ _).alloc (Nat.le_refl _) _).alloc (by rw [s3, s2]; omega) _).drew
  have b4 : Below (((w2.alloc o1).alloc o2).alloc o3).heap.size (((w2.alloc o1).alloc o2).alloc o3) ((((w2.alloc o1).alloc o2).alloc o3).alloc o4).drew := ((Below.refl _ _).alloc (Nat.le_refl _) _).drew
  refine ⟨(b2.block _ (by rw [s1]; omega)).trans (heap_alloc_new _ _), ?_, ?_, ?_⟩
  · have := heap_alloc_new (w2.alloc o1) o2
    rw [s1] at this
    exact (b3.block _ (by rw [s2]; omega)).trans this
  · have := heap_alloc_new ((w2.alloc o1).alloc o2) o3
    rw [s2] at this
    exact (b4.block _ (by rw [s3]; omega)).trans this
  · have := heap_alloc_new (((w2.alloc o1).alloc o2).alloc o3) o4
    rw [s3] at this
    exact this

theorem new_close (w w2 : World) (c2 : Below w.heap.size w w2) (a b c d e f g h i j : Int) (o1 o2 o3 : Obj) (bc ba : Nat) (t : TypeId) (hbc : (bc = w2.heap.size ∧ o1 = .map #[] 0) ∨ (bc = w2.heap.size + 1 ∧ o2 = .map #[] 0) ∨ (bc = w2.heap.size + 1 + 1 ∧ o3 = .map #[] 0)) (hba : (ba = w2.heap.size ∧ o1 = .map #[] 0) ∨ (ba = w2.heap.size + 1 ∧ o2 = .map #[] 0) ∨ (ba = w2.heap.size + 1 + 1 ∧ o3 = .map #[] 0)) (hne : ba ≠ bc) :
    ∃ x V, Ending.returned (.tuple #[.pointer (some ⟨w2.heap.size + 1 + 1 + 1, 0, none⟩), .int .i64 0]) = .returned (.tuple #[.pointer (some ⟨x, 0, none⟩), .int .i64 0]) ∧
      PRep ((((w2.alloc o1).alloc o2).alloc o3).alloc (.cells #[.int .i64 a, .int .i64 b, .int .i64 c, .int .i64 d, .int .i64 e, .int .i64 f, .int .i64 g, .int .i64 h, .int .i64 i, .int .i64 j, .int .i64 0, .int .i64 a, .int .i64 c, .int .i64 d, .slice none 0 0, .map (some bc), .map (some ba), .int .i64 0, .slice none 0 0, .int .i64 0, .slice none 0 0, .int .i64 0] t)).drew x (initS ⟨a, b, c, d, e, f, g, h, i, j⟩) V ∧
      Below w.heap.size w ((((w2.alloc o1).alloc o2).alloc o3).alloc (.cells #[.int .i64 a, .int .i64 b, .int .i64 c, .int .i64 d, .int .i64 e, .int .i64 f, .int .i64 g, .int .i64 h, .int .i64 i, .int .i64 j, .int .i64 0, .int .i64 a, .int .i64 c, .int .i64 d, .slice none 0 0, .map (some bc), .map (some ba), .int .i64 0, .slice none 0 0, .int .i64 0, .slice none 0 0, .int .i64 0] t)).drew ∧ (∀ k, V.tag k < 7 → w.heap.size ≤ k) := by
  obtain ⟨p1, p2, p3, p4⟩ := four_heap w2 o1 o2 o3 (.cells #[.int .i64 a, .int .i64 b, .int .i64 c, .int .i64 d, .int .i64 e, .int .i64 f, .int .i64 g, .int .i64 h, .int .i64 i, .int .i64 j, .int .i64 0, .int .i64 a, .int .i64 c, .int .i64 d, .slice none 0 0, .map (some bc), .map (some ba), .int .i64 0, .slice none 0 0, .int .i64 0, .slice none 0 0, .int .i64 0] t)
  have hs := c2.size
  have hB : Below w.heap.size w ((((w2.alloc o1).alloc o2).alloc o3).alloc (.cells #[.int .i64 a, .int .i64 b, .int .i64 c, .int .i64 d, .int .i64 e, .int .i64 f, .int .i64 g, .int .i64 h, .int .i64 i, .int .i64 j, .int .i64 0, .int .i64 a, .int .i64 c, .int .i64 d, .slice none 0 0, .map (some bc), .map (some ba), .int .i64 0, .slice none 0 0, .int .i64 0, .slice none 0 0, .int .i64 0] t)).drew :=
    ((((c2.alloc hs _).alloc (by rw [World.size_alloc]; omega) _).alloc (by rw [World.size_alloc, World.size_alloc]; omega) _).alloc (by rw [World.size_alloc, World.size_alloc, World.size_alloc]; omega) _).drew
  generalize ((((w2.alloc o1).alloc o2).alloc o3).alloc (.cells #[.int .i64 a, .int .i64 b, .int .i64 c, .int .i64 d, .int .i64 e, .int .i64 f, .int .i64 g, .int .i64 h, .int .i64 i, .int .i64 j, .int .i64 0, .int .i64 a, .int .i64 c, .int .i64 d, .slice none 0 0, .map (some bc), .map (some ba), .int .i64 0, .slice none 0 0, .int .i64 0, .slice none 0 0, .int .i64 0] t)).drew = W at p1 p2 p3 p4 hB ⊢
  have q1 : W.heap[bc]? = some (.map #[] 0) := by
    rcases hbc with ⟨e1, e2⟩ | ⟨e1, e2⟩ | ⟨e1, e2⟩ <;> rw [e1, ← e2]
    · exact p1
    · exact p2
    · exact p3
  have q2 : W.heap[ba]? = some (.map #[] 0) := by
    rcases hba with ⟨e1, e2⟩ | ⟨e1, e2⟩ | ⟨e1, e2⟩ <;> rw [e1, ← e2]
    · exact p1
    · exact p2
    · exact p3
  obtain ⟨V, hV, ht⟩ := rep_new (B := w.heap.size) ⟨a, b, c, d, e, f, g, h, i, j⟩ p4 q1 q2 (by omega) (by omega) hne (by omega) (by omega) (by omega)
  exact ⟨_, V, rfl, hV, hB, ht⟩

set_option maxRecDepth 100000 in
set_option maxHeartbeats 4000000 in
theorem new_full (a b c d e f g h i j : Int) (w : World) (hL : Laid w) (hk : cfgErr a b c d e f g h i j = 0) :
    Calls Tryz.prog 18 #[.agg #[.int .i64 a, .int .i64 b, .int .i64 c, .int .i64 d, .int .i64 e, .int .i64 f, .int .i64 g, .int .i64 h, .int .i64 i, .int .i64 j]] w
      fun ev w' => ∃ x V, ev = .returned (.tuple #[.pointer (some ⟨x, 0, none⟩), .int .i64 0]) ∧ PRep w' x (initS ⟨a, b, c, d, e, f, g, h, i, j⟩) V ∧ Below w.heap.size w w' ∧ (∀ k, V.tag k < 7 → w.heap.size ≤ k) := by
  have HC := config_any a b c d e f g h i j (w.alloc (.cells #[.int .i64 a, .int .i64 b, .int .i64 c, .int .i64 d, .int .i64 e, .int .i64 f, .int .i64 g, .int .i64 h, .int .i64 i, .int .i64 j] 34))
  rw [hk] at HC
  clear hk
  have H : Hid (Calls Tryz.prog 35 #[.agg #[.int .i64 a, .int .i64 b, .int .i64 c, .int .i64 d, .int .i64 e, .int .i64 f, .int .i64 g, .int .i64 h, .int .i64 i, .int .i64 j]] (w.alloc (.cells #[.int .i64 a, .int .i64 b, .int .i64 c, .int .i64 d, .int .i64 e, .int .i64 f, .int .i64 g, .int .i64 h, .int .i64 i, .int .i64 j] 34)) (Told 0 (w.alloc (.cells #[.int .i64 a, .int .i64 b, .int .i64 c, .int .i64 d, .int .i64 e, .int .i64 f, .int .i64 g, .int .i64 h, .int .i64 i, .int .i64 j] 34)))) := HC
  clear HC
  go_enter Tryz.func18, Tryz.ntmps18
  go_wp2_with fail
  refine H.out.mono ?_
  rintro ev w1 ⟨o, rfl, ho, hp, hb⟩
  clear H
  have c0 : Below w.heap.size w (w.alloc (.cells #[.int .i64 a, .int .i64 b, .int .i64 c, .int .i64 d, .int .i64 e, .int .i64 f, .int .i64 g, .int .i64 h, .int .i64 i, .int .i64 j] 34)) := (Below.refl _ _).alloc (Nat.le_refl _) _
  have c1 := below_step c0 hb
  have HN : Hid (Calls Tryz.prog 34 #[errV 131 o] w1 fun e w' => e = .returned (.int .i64 0) ∧ Below w1.heap.size w1 w') := number_any o 0 w1 (hL.on c1) ho (fun b' hb' => (hp b' hb').2)
  clear ho hp
  go_wp2_with fail
  refine HN.out.mono ?_
  rintro ev w2 ⟨rfl, hb2⟩
  clear HN
  have c2 := below_step c1 hb2
  obtain ⟨f0, f1, f2, f3, f4, f5, f6, f7, f8, f9⟩ := cfg_cells a b c d e f g h i j w w2 34 (below_step hb hb2)
  clear hb hb2 hL
  have hmm := @run_makeMap Tryz.prog
  have lw2 : w.heap.size < w2.heap.size := World.block_lt_of_cell? w2 _ f0
  go_wp2_with fail
  go_region_held3 (fun w' => w.heap.size < w'.heap.size ∧ w'.cell? ⟨w.heap.size, 0, none⟩ = some (.int .i64 a) ∧ w'.cell? ⟨w.heap.size, 1, none⟩ = some (.int .i64 b) ∧ w'.cell? ⟨w.heap.size, 2, none⟩ = some (.int .i64 c) ∧ w'.cell? ⟨w.heap.size, 3, none⟩ = some (.int .i64 d) ∧ w'.cell? ⟨w.heap.size, 4, none⟩ = some (.int .i64 e) ∧ w'.cell? ⟨w.heap.size, 5, none⟩ = some (.int .i64 f) ∧ w'.cell? ⟨w.heap.size, 6, none⟩ = some (.int .i64 g) ∧ w'.cell? ⟨w.heap.size, 7, none⟩ = some (.int .i64 h) ∧ w'.cell? ⟨w.heap.size, 8, none⟩ = some (.int .i64 i) ∧ w'.cell? ⟨w.heap.size, 9, none⟩ = some (.int .i64 j))
    (first
      | (go_keep; done)
      | (refine cfg_keepB lw2 f0 f1 f2 f3 f4 f5 f6 f7 f8 f9 ?_
         repeat (first | exact Below.refl _ _ | refine Below.drew ?_ | refine Below.alloc ?_ (by first | (simp; done) | (simp; omega)) _)))
    (first
      | (go_at_call 36; refine (budgetNew_any _ _ _ _).mono ?_; rintro ev w' ⟨rfl, rfl⟩))
  all_goals
    go_wp2_with fail
    go_ret2
    exact new_close w w2 c2 a b c d e f g h i j _ _ _ _ _ _ (by simp) (by simp) (by omega)
end Go.Proofs.YtlccfpbbdgpjbaaGreatDoor
