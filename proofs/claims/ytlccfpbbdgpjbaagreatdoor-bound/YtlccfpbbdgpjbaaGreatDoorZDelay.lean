import Derived.Test.YtlccfpbbdgpjbaaGreatDoorZOpen
import Derived.RangeFuncBox
import Derived.RangeFuncLeaves
import Derived.OwnWalkIn
import Derived.TacticsInMore
import Derived.LoopNIn
import Derived.LoopIn
import Derived.Test.YtlccfpbbdgpjbaaGreatDoorZModel
import Derived.Test.YtlccfpbbdgpjbaaGreatDoorZRing
namespace Go.Proofs.YtlccfpbbdgpjbaaGreatDoor
open Go.RowKit Go.Shelf

attribute [local go_sem] Oper.semAt_some

/-- The list's cells, in a block below B. -/
def Nums (B : Nat) (W : World) (v : Value) (zs : List Int) : Prop :=
  (v = .slice none 0 0 ∧ zs = []) ∨ ∃ g cap, v = .slice (some ⟨g, 0, none⟩) zs.length cap ∧ g < B ∧ ∀ j (h : j < zs.length), W.cell? ⟨g, j, none⟩ = some (.int .i64 zs[j])
theorem Nums.of_row {W : World} {b : Nat} {v : Value} {zs : List Int} (h : Row W b 3 1 encI v zs) : Nums W.heap.size W v zs := by
  rcases h.2 with ⟨rfl, h0⟩ | ⟨g, cap, cur, rfl, _, hgg, _⟩
  · exact .inl ⟨rfl, List.eq_nil_of_length_eq_zero h0⟩
  · refine .inr ⟨g, cap, rfl, (Array.getElem?_eq_some_iff.1 hgg).1, fun j hj => ?_⟩
    have := (h.cell encI_len (g := g) (j := 0) rfl hj (u := .int .i64 zs[j]) rfl).1
    rw [Nat.mul_one, Nat.add_zero] at this
    exact this
theorem Nums.below {B : Nat} {W W' : World} {v : Value} {zs : List Int} (h : Nums B W v zs) (hb : Below B W W') : Nums B W' v zs := by
  rcases h with h | ⟨g, cap, e, hg, hc⟩
  · exact .inl h
  · exact .inr ⟨g, cap, e, hg, fun j hj => (hb.cell (p := ⟨g, j, none⟩) hg).trans (hc j hj)⟩

set_option maxRecDepth 100000 in
set_option maxHeartbeats 4000000 in
theorem values1_in (F : Fence) (n : Nat) (h7 : F.fn 147) (hro : F.round = none) (hn : 1 ≤ n) (l kb B g cap : Nat) (zs : List Int) (hl : zs.length ≤ 1000000) (hg : g < B) (J Jx : List Int → World → Prop)
    (hY : ∀ pre x W, J pre W → pre.length < zs.length → YieldAt F (n - 1) Tryz.prog l #[.int .i64 x] W fun e W' =>
      (e = .returned (.bool true) ∧ J (pre ++ [x]) W' ∧ Below B W W') ∨ (e = .returned (.bool false) ∧ Jx (pre ++ [x]) W'))
    (W : World) (hkb : W.cell? ⟨kb, 0, none⟩ = some (.slice (some ⟨g, 0, none⟩) zs.length cap)) (hc : ∀ j (h : j < zs.length), W.cell? ⟨g, j, none⟩ = some (.int .i64 zs[j])) (h0 : J [] W) :
    CallsIn F n Tryz.prog 147 #[.func (.yield l) #[] #[], .pointer (some ⟨kb, 0, none⟩)] W fun e W' => (∃ v, e = .returned v) ∧ (J zs W' ∨ ∃ k, k ≤ zs.length ∧ Jx (zs.take k) W') := by
  refine callsIn_of_wp Tryz.func147 rfl h7 ?_ hro
  simp only [Tryz.ntmps147, List.size_toArray, List.length_cons, List.length_nil, Nat.reduceAdd, Nat.reduceSub, Array.replicate_succ, Array.replicate_zero, List.push_toArray, List.append_toArray, List.nil_append, List.cons_append]
  gi_wp2
  gi_loopw [7] (fun i wr => ∃ k : Nat, k ≤ zs.length ∧ i = .int .i64 k ∧ J (zs.take k) wr ∧ Below B W wr) (fun i _ => zs.length - (intOf i).toNat)
  case atStart => exact ⟨0, Nat.zero_le _, rfl, by simpa using h0, Below.refl _ _⟩
  case round =>
    obtain ⟨k, hk, rfl, hJs, hnx⟩ := hrel
    by_cases hlt : k < zs.length
    · have hcx : wr.cell? ⟨g, k, none⟩ = some (.int .i64 zs[k]) := (hnx.cell (p := ⟨g, k, none⟩) hg).trans (hc k hlt)
      have hT : zs.take (k + 1) = zs.take k ++ [zs[k]] := List.take_succ_eq_append_getElem hlt
      obtain ⟨fn, tmps, assign, body, hy, hR⟩ := hY _ zs[k] wr hJs (by rw [List.length_take]; omega)
      have HT := hide hT
      clear hT
      gi_wp2
      refine hR.mono ?_
      rintro e W3 (⟨rfl, hJ3, hk3⟩ | ⟨rfl, hJx3⟩)
      · gi_wp2
        go_roundw
        case rel => exact ⟨k + 1, by omega, by simp, by rw [HT.out]; exact hJ3, hnx.trans hk3⟩
        case measure => simp [intOf]; omega
      · gi_wp2
        refine bodyPost_ret (results_none rfl _ _ _) rfl ?_
        exact ⟨⟨_, rfl⟩, .inr ⟨k + 1, by omega, by rw [HT.out]; exact hJx3⟩⟩
    · obtain rfl : k = zs.length := by omega
      rw [List.take_of_length_le (Nat.le_refl _)] at hJs
      gi_wp2
      go_end0
      exact ⟨⟨_, rfl⟩, .inl hJs⟩

set_option maxRecDepth 100000 in
set_option maxHeartbeats 4000000 in
theorem values1_nil_in (F : Fence) (n : Nat) (h7 : F.fn 147) (hro : F.round = none) (l kb : Nat) (J : List Int → World → Prop) (W : World) (hkb : W.cell? ⟨kb, 0, none⟩ = some (.slice none 0 0)) (h0 : J [] W) :
    CallsIn F n Tryz.prog 147 #[.func (.yield l) #[] #[], .pointer (some ⟨kb, 0, none⟩)] W fun e W' => (∃ v, e = .returned v) ∧ J [] W' := by
  refine callsIn_of_wp Tryz.func147 rfl h7 ?_ hro
  simp only [Tryz.ntmps147, List.size_toArray, List.length_cons, List.length_nil, Nat.reduceAdd, Nat.reduceSub, Array.replicate_succ, Array.replicate_zero, List.push_toArray, List.append_toArray, List.nil_append, List.cons_append]
  gi_wp2
  gi_loopw [7] (fun i wr => i = .int .i64 0 ∧ J [] wr) (fun _ _ => 0)
  case atStart => exact ⟨rfl, h0⟩
  case round =>
    obtain ⟨rfl, hJs⟩ := hrel
    gi_wp2
    go_end0
    exact ⟨⟨_, rfl⟩, hJs⟩

/-- The iterator's word. -/
theorem values_stops (F : Fence) (n : Nat) (h7 : F.fn 147) (hro : F.round = none) (hn : 1 ≤ n) (kb B : Nat) (v : Value) (zs : List Int) (hl : zs.length ≤ 1000000) (w : World) (hkb : kb < w.heap.size) (hB : B ≤ w.heap.size) (hc : w.cell? ⟨kb, 0, none⟩ = some v) (hI : Nums B w v zs) :
    SeqStopsK F n Tryz.prog 147 #[.pointer (some ⟨kb, 0, none⟩)] (fun x : Int => #[Value.int .i64 x]) (Below B) (fun ys => ys = zs) (fun pre => pre <+: zs) zs.length w := fun l J Jx W hW _ _ hY h0 => by
  have hc' := (hW.cell (p := ⟨kb, 0, none⟩) hkb).trans hc
  rcases hI.below (hW.mono hB) with ⟨rfl, rfl⟩ | ⟨g, cap, rfl, hg, hcs⟩
  · exact (values1_nil_in F n h7 hro l kb J W hc' h0).mono fun e W' ⟨he, hj⟩ => ⟨he, .inl ⟨_, rfl, hj⟩⟩
  · refine (values1_in F n h7 hro hn l kb B g cap zs hl hg J Jx hY W hc' hcs h0).mono ?_
    rintro e W' ⟨he, hj | ⟨k, hk, hj⟩⟩
    · exact ⟨he, .inl ⟨_, rfl, hj⟩⟩
    · exact ⟨he, .inr ⟨_, List.take_prefix _ _, hj⟩⟩

set_option maxRecDepth 100000 in
set_option maxHeartbeats 4000000 in
theorem values_in (F : Fence) (n : Nat) (h5 : F.fn 144) (hro : F.round = none) (a : Option Addr) (len cap : Nat) (w : World) :
    CallsIn F n Tryz.prog 144 #[.slice a len cap] w fun e w' => e = .returned (.func (.func 147) #[] #[.pointer (some ⟨w.heap.size, 0, none⟩)]) ∧ w' = w.alloc (.cells #[.slice a len cap] 45) := by
  refine callsIn_of_wp Tryz.func144 rfl h5 ?_ hro
  simp only [Tryz.ntmps144, List.size_toArray, List.length_cons, List.length_nil, Nat.reduceAdd, Nat.reduceSub, Array.replicate_succ, Array.replicate_zero, List.push_toArray, List.append_toArray, List.nil_append, List.cons_append]
  gi_wp2
  go_ret
  exact ⟨rfl, rfl⟩
end Go.Proofs.YtlccfpbbdgpjbaaGreatDoor

namespace Go.Proofs.YtlccfpbbdgpjbaaGreatDoor
open Go.RowKit Go.Shelf

attribute [local go_sem] Oper.semAt_some

set_option maxRecDepth 100000 in
set_option maxHeartbeats 4000000 in
theorem appendSeq_v (F : Fence) (n : Nat) (h1' : F.fn 104) (h7 : F.fn 147) (hro : F.round = none) (hn : 3 ≤ n) (kb : Nat) (v : Value) (zs : List Int) (hl : zs.length ≤ 1000000) (w : World) (hc : w.cell? ⟨kb, 0, none⟩ = some v) (hI : Nums w.heap.size w v zs) :
    CallsIn F n Tryz.prog 104 #[.slice none 0 0, .func (.func 147) #[] #[.pointer (some ⟨kb, 0, none⟩)]] w fun e w' => ∃ u, e = .returned u ∧ Row w' w.heap.size 3 1 encI u zs ∧ Below w.heap.size w w' := by
  have h1 : 1 ≤ n := by omega
  have lkb : kb < w.heap.size := World.block_lt_of_cell? w _ hc
  refine callsIn_of_wp_marks Tryz.func104 rfl h1' ?_ hro
  simp only [Tryz.ntmps104, List.size_toArray, List.length_cons, List.length_nil, Nat.reduceAdd, Nat.reduceSub, Array.replicate_succ, Array.replicate_zero, List.push_toArray, List.append_toArray, List.nil_append, List.cons_append]
  gi_wp2
  obtain ⟨i0, hi0, z0, z1, z2⟩ := info_parts Tryz.infoInt
  obtain ⟨W0, hW0⟩ : ∃ W0, w.alloc (.cells #[.slice none 0 0] 45) = W0 := ⟨_, rfl⟩
  have hs0 : W0.heap.size = w.heap.size + 1 := by rw [← hW0]; exact World.size_alloc _ _
  have hb0 : Below w.heap.size w W0 := by rw [← hW0]; exact (Below.refl _ w).alloc (Nat.le_refl _) _
  have c0 : W0.cell? ⟨w.heap.size, 0, none⟩ = some (.slice none 0 0) := by rw [← hW0]; simp
  have z0' : W0.frozen? ⟨w.heap.size, 0, none⟩ = false := by rw [← hW0]; simp
  rw [hW0]
  have lkb0 : kb < W0.heap.size := by omega
  refine wpIn_rangeFunc_ownG hro h1 (gf := 147) (lb := #[.pointer (some ⟨kb, 0, none⟩)]) rfl h7 (enters_of Tryz.func147 (by kernel_rfl) rfl)
    (values_stops F (n - 1) h7 hro (by omega) kb w.heap.size v zs hl W0 lkb0 (by omega) ((hb0.cell (p := ⟨kb, 0, none⟩) lkb).trans hc) (hI.below hb0)) belowK_t (belowK_b (by omega)) (Below.refl _ _) (fun _ => rfl)
    (fun pre W => ∃ u, (W.cell? ⟨w.heap.size, 0, none⟩ = some u ∧ W.frozen? ⟨w.heap.size, 0, none⟩ = false) ∧ W.ownsRow (w.heap.size + 1) 3 1 u pre.length (pre.flatMap encI) ∧ Below w.heap.size w W)
    (fun _ _ _ => False) ?own (fun _ _ _ _ _ hs _ _ => hs) ⟨_, ⟨c0, z0'⟩, World.ownsRow_nil _ _ _ _, hb0⟩
    (fun x => { tmps := #[.slice none 0 0, .func (.func 147) #[] #[.pointer (some ⟨kb, 0, none⟩)], .pointer (some ⟨w.heap.size, 0, none⟩), undef, .slice none 0 0, .int .i64 x, .func (.func 147) #[] #[.pointer (some ⟨kb, 0, none⟩)], .int .i64 x, undef, undef, undef, undef, undef], defers := [] }) ?assign ?body ?done ?stop
  case own =>
    rintro s A B row ⟨u, ⟨h2, h3⟩, h4, h5⟩ hg hr
    have hr' : ∀ r, row = some r → ∃ o : Obj, A.heap[r]? = some o ∧ o.isCells = false := fun r e => (hr r e).2
    refine ⟨u, ⟨cell_kept h2 hg hr', (frozen_kept h2 hg hr').trans h3⟩, h4.kept hg ?_, h5.grown hg h5.size (fun k e => by have := (hr k e).1; omega)⟩
    rcases h4.2 with ⟨rfl, _⟩ | ⟨g, cap, cur, rfl, _, hgg, _⟩
    · exact .inl rfl
    · right
      intro e
      obtain ⟨o, ho, hcl⟩ := hr' g e.symm
      rw [hgg] at ho
      cases ho
      cases hcl
  case assign =>
    intro l x W K hK
    gi_wp2
    exact hK
  case body =>
    rintro l pre x W ⟨u, ⟨hcu, hfu⟩, hrow, hB⟩ hlen
    have lbx : w.heap.size < W.heap.size := World.block_lt_of_cell? W _ hcu
    have hub : ∀ k, u.ownBlock = some k → w.heap.size + 1 ≤ k := fun k hk => (World.ownsRow.lt hrow k hk).1
    gi_wp2_with (first
      | (gi_at_builtin; refine wpListIn_append_own _ rfl _ _ 45 rfl (w.heap.size + 1) 3 i0 (.int .i64 0) 1 8 Tryz.underlying45 hi0 z0 z1 z2 rfl (by decide) u pre.length (pre.flatMap encI) rfl (hrow.alloc _) ⟨W.heap.size, 0, none⟩ 1 1 [.int .i64 x] rfl rfl (World.news_of_block (cs := #[.int .i64 x]) (t := 3) (fr := (0, 0)) (heap_alloc_new W _)) (by simp [Value.oneCell']) (by simp only [maxLen]; omega) (by omega) (by simp; omega) ?_; intro v' w3 hown' hg3 hnil3
         have hgr : W.grownBy w3 u.ownBlock := (World.grownBy_alloc W _ _).trans hg3
         have hne : some w.heap.size ≠ u.ownBlock := fun e => by have := hub _ e.symm; omega
         have hc3 : w3.cell? ⟨w.heap.size, 0, none⟩ = some u := (hgr.cell_far ⟨w.heap.size, 0, none⟩ lbx hne).trans hcu
         have hf3 : w3.frozen? ⟨w.heap.size, 0, none⟩ = false := (hgr.frozen_far ⟨w.heap.size, 0, none⟩ lbx hne).trans hfu
         obtain ⟨g', cap', cur', rfl, hbg', hgb', _⟩ : ∃ g' cap' cur', v' = .slice (some ⟨g', 0, none⟩) (pre.length + 1) cap' ∧ w.heap.size + 1 ≤ g' ∧ w3.heap[g']? = some (.cells cur' 3 (0, 0)) ∧ True := by
           rcases hown'.2 with ⟨_, h0⟩ | ⟨g', cap', cur', e1, e2, e3, _⟩
           · exact absurd h0 (by omega)
           · exact ⟨g', cap', cur', e1, e2, e3, trivial⟩))
    have hk3 : KeepsOthers W w3 := (KeepsOthers.alloc W _).trans (KeepsOthers.of_grownBy hg3 (fun j o ej hj => by
      rcases (hrow.alloc (.cells #[.int .i64 x] 3)).2 with ⟨e0, _⟩ | ⟨g, cap, cur, e0, _, hgg, _⟩
      · rw [e0] at ej
        simp [Value.ownBlock] at ej
      · rw [e0] at ej
        have : g = j := by simpa [Value.ownBlock] using ej
        rw [← this, hgg] at hj
        cases hj
        rfl))
    have hB3 : Below w.heap.size w w3 := hB.grown hgr hB.size (fun k e => by have := hub k e; omega)
    have hBW : Below w.heap.size W w3 := (Below.refl _ W).grown hgr hB.size (fun k e => by have := hub k e; omega)
    refine ⟨(hk3.trans (KeepsOthers.setCell _ _ _)).from _, hBW.setCell (p := ⟨w.heap.size, 0, none⟩) (Nat.le_refl _) _, _, ⟨World.cell?_setCell_same _ _ _ hc3, by rw [World.frozen?_setCell]; exact hf3⟩, ?_, hB3.setCell (p := ⟨w.heap.size, 0, none⟩) (Nat.le_refl _) _⟩
    rw [List.length_append, List.flatMap_append]
    have hsame : (w3.setCell ⟨w.heap.size, 0, none⟩ (.slice (some ⟨g', 0, none⟩) (pre.length + 1) cap')).heap[g']? = w3.heap[g']? := Below.heap_setCell _ _ _ _ (by show g' ≠ w.heap.size; omega)
    have hrr : Row w3 (w.heap.size + 1) 3 1 encI (.slice (some ⟨g', 0, none⟩) (pre.length + 1) cap') (pre ++ [x]) := by
      unfold Row
      rw [List.length_append, List.flatMap_append]
      exact hown'
    have hrr2 := hrr.same (w' := w3.setCell ⟨w.heap.size, 0, none⟩ (.slice (some ⟨g', 0, none⟩) (pre.length + 1) cap')) (fun k hk => by
      have : g' = k := by simpa [Value.ownBlock] using hk
      rw [← this]
      exact hsame)
    unfold Row at hrr2
    rw [List.length_append, List.flatMap_append] at hrr2
    exact hrr2
  case done =>
    rintro D ys W hD rfl ⟨u, ⟨hcu, hfu⟩, hrow, hB⟩ hK
    have lbx : w.heap.size < W.heap.size := World.block_lt_of_cell? W _ hcu
    gi_wp2
    refine ⟨by simp, .inl ⟨_, _, rfl, run_takeDeferred hK, ?_⟩⟩
    have hg5 := grownBy_putObj' W D (.deferred none)
    have hr5 := hrow.kept hg5 (by
      rcases hrow.2 with ⟨e0, _⟩ | ⟨g, cap, cur, e0, _, hgg, _⟩
      · left
        rw [e0]
        rfl
      · right
        rw [e0]
        intro e
        have : g = D := by simpa [Value.ownBlock] using e
        rw [this, hK] at hgg
        cases hgg)
    exact ⟨_, results_tmp rfl _ _ _, u, rfl, Row.base (b := w.heap.size + 1) hr5 (by omega), hB.grown hg5 hB.size (fun k e => by cases e; omega)⟩
  case stop =>
    rintro D c pre W _ _ h _
    exact h.elim

set_option maxHeartbeats 4000000 in
theorem collect_v (F : Fence) (n : Nat) (h8 : F.fn 75) (h1' : F.fn 104) (h7 : F.fn 147) (hro : F.round = none) (hn : 4 ≤ n) (kb : Nat) (v : Value) (zs : List Int) (hl : zs.length ≤ 1000000) (w : World) (hc : w.cell? ⟨kb, 0, none⟩ = some v) (hI : Nums w.heap.size w v zs) :
    CallsIn F n Tryz.prog 75 #[.func (.func 147) #[] #[.pointer (some ⟨kb, 0, none⟩)]] w fun e w' => ∃ u, e = .returned u ∧ Row w' w.heap.size 3 1 encI u zs ∧ Below w.heap.size w w' := by
  have h1 : 1 ≤ n := by omega
  refine callsIn_of_wp Tryz.func75 rfl h8 ?_ hro
  simp only [Tryz.ntmps75, List.size_toArray, List.length_cons, List.length_nil, Nat.reduceAdd, Nat.reduceSub, Array.replicate_succ, Array.replicate_zero, List.push_toArray, List.append_toArray, List.nil_append, List.cons_append]
  gi_wp2_with (gi_at_call 104; refine (appendSeq_v F (n - 1) h1' h7 hro (by omega) kb v zs hl w hc hI).mono ?_; rintro e w' ⟨u, rfl, hr, hb⟩)
  go_ret
  exact ⟨u, rfl, hr, hb⟩

theorem collectV_any (kb : Nat) (v : Value) (zs : List Int) (hl : zs.length ≤ 1000000) (w : World) (hc : w.cell? ⟨kb, 0, none⟩ = some v) (hI : Nums w.heap.size w v zs) :
    Calls Tryz.prog 75 #[.func (.func 147) #[] #[.pointer (some ⟨kb, 0, none⟩)]] w fun e w' => ∃ u, e = .returned u ∧ Row w' w.heap.size 3 1 encI u zs ∧ Below w.heap.size w w' :=
  (callsIn_wide (n := 5)).1 (collect_v Fence.wide 5 trivial trivial trivial rfl (by omega) kb v zs hl w hc hI)
theorem valuesV_any (a : Option Addr) (len cap : Nat) (w : World) :
    Calls Tryz.prog 144 #[.slice a len cap] w fun e w' => e = .returned (.func (.func 147) #[] #[.pointer (some ⟨w.heap.size, 0, none⟩)]) ∧ w' = w.alloc (.cells #[.slice a len cap] 45) :=
  (callsIn_wide (n := 5)).1 (values_in Fence.wide 5 trivial rfl a len cap w)
end Go.Proofs.YtlccfpbbdgpjbaaGreatDoor

namespace Go.Proofs.YtlccfpbbdgpjbaaGreatDoor
open Go.RowKit Go.Maps

set_option maxRecDepth 100000 in
set_option maxHeartbeats 4000000 in
theorem sortedV_any (kb : Nat) (v : Value) (zs : List Int) (hl : zs.length ≤ 1000000) (w : World) (hc : w.cell? ⟨kb, 0, none⟩ = some v) (hI : Nums w.heap.size w v zs) :
    Calls Tryz.prog 45 #[.func (.func 147) #[] #[.pointer (some ⟨kb, 0, none⟩)]] w fun e w' => ∃ u, e = .returned u ∧ Row w' w.heap.size 3 1 encI u zs.mergeSort ∧ Below w.heap.size w w' := by
  have HC := hide (collectV_any kb v zs hl w hc hI)
  clear hc hI
  go_enter Tryz.func45, Tryz.ntmps45
  go_wp2_with fail
  refine HC.out.mono ?_
  rintro e w1 ⟨u, rfl, hr, hb⟩
  have HS := hide (sortR u w.heap.size zs w1 hl hr)
  have hub : ∀ k, u.ownBlock = some k → w.heap.size ≤ k := fun k hk => (hr.lt k hk).1
  have Hub := hide hub
  have Hb := hide hb
  clear hr hub hb HC
  go_wp2_with fail
  refine HS.out.mono ?_
  rintro e w2 ⟨rfl, hr2, hk2⟩
  have HR := hide hr2
  have HB : Hid (Below w.heap.size w w2) := ⟨hk2.os.trans Hb.out.os, hk2.tape.trans Hb.out.tape, hk2.output.trans Hb.out.output, Nat.le_trans Hb.out.size hk2.size, fun k hk => (hk2.block k (Nat.lt_of_lt_of_le hk Hb.out.size) (fun e => by
    have h9 := Hub.out k (by simpa using e)
    omega)).trans (Hb.out.block k hk)⟩
  clear hr2 hk2 HS
  go_wp2_with fail
  go_ret
  exact ⟨u, rfl, HR.out, HB.out⟩

theorem place_ok (n : Nat) (rank : Int) (h0 : 0 < n) (h1 : n ≤ 32) (r0 : 1 ≤ rank) (r1 : rank ≤ 100) : 1 ≤ placeM n rank ∧ placeM n rank ≤ n := by
  unfold placeM
  have h2 : (n : Int) * rank ≤ n * 100 := Int.mul_le_mul_of_nonneg_left r1 (by omega)
  have h3 : (n : Int) * 1 ≤ n * rank := Int.mul_le_mul_of_nonneg_left r0 (by omega)
  omega

set_option maxRecDepth 100000 in
set_option maxHeartbeats 8000000 in
theorem delay_any (p o : Nat) (rank : Int) (v : Value) (zs : List Int) (w : World) (h0 : 0 < zs.length) (hl : zs.length ≤ 32) (r0 : 1 ≤ rank) (r1 : rank ≤ 100) (hc : w.cell? ⟨p, o, none⟩ = some v) (hr : Row w 0 3 1 encI v zs) :
    Calls Tryz.prog 136 #[.pointer (some ⟨p, o, none⟩), .int .i64 rank] w fun e w' => e = .returned (.int .i64 (delayM zs rank)) ∧ Below w.heap.size w w' := by
  have lp : p < w.heap.size := World.block_lt_of_cell? w _ hc
  obtain ⟨A, cap, rfl, _, _, _⟩ := hr.form
  obtain ⟨q0, q1⟩ := place_ok zs.length rank h0 hl r0 r1
  have hm0 : (0 : Int) ≤ (zs.length : Int) * rank := Int.mul_nonneg (by omega) (by omega)
  have hm1 : (zs.length : Int) * rank ≤ 3200 := by
    have := Int.mul_le_mul_of_nonneg_left r1 (show (0 : Int) ≤ zs.length by omega)
    omega
  have HS := hide (fun W (hb : Below w.heap.size w W) kb (hk : W.cell? ⟨kb, 0, none⟩ = some (.slice A zs.length cap)) => sortedV_any kb (.slice A zs.length cap) zs (by omega) W hk (Nums.of_row (hr.below hb)))
  obtain ⟨pl, hpl⟩ : ∃ pl, placeM zs.length rank = pl := ⟨_, rfl⟩
  have hpv : ((zs.length : Int) * rank + 99).tdiv 100 = pl := by
    rw [← hpl, Int.tdiv_eq_ediv_of_nonneg (by omega)]
    rfl
  rw [hpl] at q0 q1
  have hlen : zs.mergeSort.length = zs.length := List.length_mergeSort zs
  have hix : (pl - 1).toNat < zs.mergeSort.length := by omega
  obtain ⟨t, ht⟩ : ∃ t, zs.mergeSort[(pl - 1).toNat]? = some t := ⟨zs.mergeSort[(pl - 1).toNat], List.getElem?_eq_getElem hix⟩
  have hdv : delayM zs rank = topB t := by
    unfold delayM
    rw [hpl, ht]
    rfl
  rw [hdv]
  obtain ⟨a, ha⟩ := buckV_top t
  have HT := hide (fun W => tbucket_any t W)
  rw [ha] at HT
  have hi : (pl - 1).toNat < zs.length := by omega
  have Hpt := hide ht
  have Hln := hide hlen
  clear hr hpl hdv ha ht hlen hix
  generalize topB t = top at HT ⊢
  go_enter Tryz.func136, Tryz.ntmps136
  go_wp2_with fail
  refine (valuesV_any A zs.length cap w).mono ?_
  rintro e w1 ⟨rfl, rfl⟩
  have hb0 : Below w.heap.size w (w.alloc (.cells #[.slice A zs.length cap] 45)) := (Below.refl _ _).alloc (Nat.le_refl _) _
  have HSS := hide (HS.out _ hb0 w.heap.size (by simp))
  clear HS
  go_wp2_with fail
  refine HSS.out.mono ?_
  rintro e w2 ⟨u, rfl, hr2, hb2⟩
  have hB2 : Below w.heap.size w w2 := hb0.trans (hb2.mono hb0.size)
  obtain ⟨g, cap2, rfl, _⟩ := hr2.at (by rw [Hln.out]; exact h0)
  have hcell : w2.cell? ⟨g, (pl - 1).toNat, none⟩ = some (.int .i64 t) := by
    have hix : (pl - 1).toNat < zs.mergeSort.length := by rw [Hln.out]; exact hi
    have h9 := (hr2.cell encI_len (g := g) (i := (pl - 1).toNat) (j := 0) rfl hix (u := .int .i64 zs.mergeSort[(pl - 1).toNat]) rfl).1
    rw [Nat.mul_one, Nat.add_zero] at h9
    rw [h9]
    have h8 := Hpt.out
    rw [List.getElem?_eq_getElem hix] at h8
    rw [Option.some.inj h8]
  rw [Hln.out]
  have lg2 : g < w2.heap.size := World.block_lt_of_cell? w2 _ hcell
  have HB2 := hide hB2
  have hpl1 : 0 ≤ pl - 1 := by omega
  have hpl2 : pl - 1 < (zs.length : Int) := by omega
  rw [show (pl - 1).toNat = pl.toNat - 1 by omega] at hcell
  clear hr2 hb2 hB2 hb0 HSS hc Hpt Hln
  go_wp2_with fail
  refine (HT.out _).mono ?_
  rintro e w3 ⟨rfl, rfl⟩
  go_wp2_with fail
  go_ret
  exact ⟨rfl, HB2.out⟩

theorem wd_le (t : Nat) (h : t ≤ 1099511627776) : wd t ≤ t + 1 := by
  unfold wd
  split
  · omega
  · rename_i h4
    obtain ⟨b1, b2, _⟩ := Lib.bitLenAux_bounds 64 t (by omega) (by omega)
    change 1 ≤ Lib.bitLen t at b1
    change 2 ^ (Lib.bitLen t - 1) ≤ t at b2
    have := Nat.pow_le_pow_right (n := 2) (by omega) (show Lib.bitLen t - 3 ≤ Lib.bitLen t - 1 by omega)
    omega
theorem topB_le (t : Int) : topB t ≤ 4398046511104 := by
  unfold topB
  split
  · omega
  · have h1 := wd_le t.toNat (by omega)
    have h2 := Int.emod_nonneg t (b := (wd t.toNat : Int)) (by have := wd_pos t.toNat; omega)
    omega
theorem delay_le (times : List Int) (rank : Int) : delayM times rank ≤ 4398046511104 := topB_le _

section
variable {w : World} {p : Nat} {s : PSt} {V : PV}

set_option maxRecDepth 100000 in
set_option maxHeartbeats 8000000 in
theorem rep_setHedge1 {N : Int} (h : PRep w p s V) (hI : Inv N s) (hN : N ≤ 60001) {c : PCall} (hc : c ∈ s.calls) (hm : mayHedgeM s c = true) :
    Calls Tryz.prog 115 #[.pointer (some ⟨p, 0, none⟩), .pointer (some ⟨V.q c.number, 0, none⟩)] w fun e w' => e = .returned (.tuple #[]) ∧ ∃ V', PRep w' p (setHedgeM s c) V' ∧ PMv V w V' w' ∧ V'.q = V.q := by
  have hm' := hm
  unfold mayHedgeM at hm'
  simp only [Bool.and_eq_true, decide_eq_true_eq] at hm'
  have h0 : 0 < s.times.length := by omega
  have HM := hide (rep_mayHedge h hc)
  rw [hm] at HM
  have hdp := delay_pos s.times s.cfg.rank
  have hn0 := hI.n0
  have hn1 := hI.n1
  have HH := hide h
  have HI := hide hI
  have HD := hide (fun W (hb : Below w.heap.size w W) => delay_any p 20 s.cfg.rank V.m s.times W h0 hI.mt hI.cfg.r0 hI.cfg.r1 ((h.on hb).kk _ _ rfl) (h.on hb).rm)
  obtain ⟨q, hq⟩ : ∃ q, V.q c.number = q := ⟨_, rfl⟩
  rw [hq]
  clear h hI
  go_enter Tryz.func115, Tryz.ntmps115
  go_wp2_with fail
  rw [← hq]
  refine HM.out.mono ?_
  rintro e w1 ⟨rfl, hb1⟩
  rw [hq]
  have h1 := HH.out.on hb1
  have cN : w1.cell? ⟨p, 10, none⟩ = some (.int .i64 s.now) := h1.kk _ _ rfl
  have cR : w1.cell? ⟨p, 8, none⟩ = some (.int .i64 s.cfg.rank) := h1.kk _ _ rfl
  have lp1 := h1.lp
  clear HM
  have hdl := delay_le s.times s.cfg.rank
  obtain ⟨dl, hdl'⟩ : ∃ dl, delayM s.times s.cfg.rank = dl := ⟨_, rfl⟩
  rw [hdl'] at hdl hdp
  have HDD := hide (HD.out w1.drew (hb1.trans ((Below.refl _ _).drew.mono hb1.size)))
  rw [hdl'] at HDD
  have hwr : IntKind.i64.wrap (s.now + dl) = s.now + dl := by rw [IntKind.wrap_i64]; omega
  have Hb1 := hide hb1
  have H1 := hide h1
  have Hwr := hide hwr
  clear HD hb1 h1 hwr
  go_wp2_with fail
  go_region_held3 (fun w' => w'.cell? ⟨p, 10, none⟩ = some (.int .i64 s.now) ∧ w'.cell? ⟨p, 8, none⟩ = some (.int .i64 s.cfg.rank))
    (first
      | exact ⟨c2a, c2b⟩
      | (go_keep; done))
    (first
      | (go_at_call 136; refine HDD.out.mono ?_; rintro e w2 ⟨rfl, hb2⟩
         have hb2' : Below w1.heap.size w1 w2 := (Below.refl _ _).drew.trans hb2
         have c2a : w2.cell? ⟨p, 10, none⟩ = some (.int .i64 s.now) := (hb2'.cell lp1).trans cN
         have c2b : w2.cell? ⟨p, 8, none⟩ = some (.int .i64 s.cfg.rank) := (hb2'.cell lp1).trans cR
         have Hb2 := hide hb2'
         clear hb2 hb2'))
  rw [Hwr.out]
  have h2 := H1.out.on Hb2.out
  have cD : w2.cell? ⟨q, 2, none⟩ = some (.int .i64 c.deadline) := by rw [← hq]; exact (h2.cc c hc _ _ rfl).1
  have cX : w2.cell? ⟨q, 0, none⟩ = some (.int .i64 c.number) := by rw [← hq]; exact (h2.cc c hc _ _ rfl).1
  have lp2 := h2.lp
  have lq2 : q < w2.heap.size := World.block_lt_of_cell? w2 _ cD
  have M2 := hide ((PMv.of_below (V := V) Hb1.out).trans (PMv.of_below Hb2.out))
  have HST := hide (rep_setTimer h2 3 c.number (s.now + dl) (by have := HI.out.tN; omega) HI.out.s0 (by have := HI.out.sN; omega))
  have H2 := hide h2
  have Hm := hide hm
  have Hdl := hide hdl'
  clear h2 HDD Hb1 Hb2 H1 cN cR hm hm' h0 hdl'
  by_cases hdue : s.now + dl < c.deadline
  · have hd1 : decide (s.now + dl < c.deadline) = true := decide_eq_true hdue
    have HE : Hid (setHedgeM s c = addTimer s 3 c.number (s.now + dl)) := by
      show _ = _
      unfold setHedgeM
      rw [Hdl.out, if_pos ⟨Hm.out, hdue⟩]
    go_wp2_with fail
    refine HST.out.mono ?_
    rintro e w3 ⟨rfl, V3, h3, m3, q3⟩
    have H3 : Hid (PRep w3 p (addTimer s 3 c.number (s.now + dl)) V3) := h3
    have M3 := hide (M2.out.trans m3)
    have Q3 := hide q3
    clear h3 m3 q3 HST
    go_wp2_with fail
    go_end0
    exact ⟨rfl, V3, by rw [HE.out]; exact H3.out, M3.out, Q3.out⟩
  · have hd1 : decide (s.now + dl < c.deadline) = false := decide_eq_false hdue
    have HE : Hid (setHedgeM s c = s) := by
      show _ = _
      unfold setHedgeM
      rw [Hdl.out, if_neg (fun h => hdue h.2)]
    clear HST
    go_wp2_with fail
    go_end0
    exact ⟨rfl, V, by rw [HE.out]; exact H2.out, M2.out, rfl⟩

/-- setHedge, whole. -/
theorem hedge_all (p : Nat) (cfg : Cfg) : HedgeAll p cfg := fun N s c hN _ hI W V h hc => by
  cases hm : mayHedgeM s c with
  | false => exact rep_setHedge0 h hc hm
  | true => exact rep_setHedge1 h hI hN hc hm
end
end Go.Proofs.YtlccfpbbdgpjbaaGreatDoor
