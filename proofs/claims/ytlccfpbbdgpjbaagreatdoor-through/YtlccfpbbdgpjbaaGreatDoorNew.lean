/-
  Config, numberOf, New.
-/
import Derived.Test.YtlccfpbbdgpjbaaGreatDoorUnits
import Derived.Test.YtlccfpbbdgpjbaaGreatDoorAs
namespace Go.Proofs.YtlccfpbbdgpjbaaGreatDoor
open Go.RowKit
attribute [local go_sem ↓] Go.wp_at_zero Go.wp_at_succ wp_build3 wp_build4
attribute [local go_sem] isErr_errV

/-- What is first wrong with a Config, by its number; 0: nothing. -/
def cfgErr (a b c d e f g h i j : Int) : Int :=
  if ¬ ((0 ≤ a ∧ a ≤ 1000) ∧ (1 ≤ b ∧ b ≤ 1000) ∧ (0 ≤ c ∧ c ≤ 1000)) then 1
  else if ¬ ((1 ≤ d ∧ d ≤ 10000) ∧ (1 ≤ g ∧ g ≤ 10000) ∧ (g ≤ h ∧ h ≤ 10000)) then 2
  else if ¬ ((1 ≤ e ∧ e ≤ 6) ∧ (1 ≤ f ∧ f ≤ 8) ∧ (1 ≤ i ∧ i ≤ 100) ∧ (0 ≤ j ∧ j ≤ 32)) then 3
  else 0

/-- An error, if any, of number k; nothing old has turned. -/
def Told (k : Int) (w : World) (ev : Ending) (w' : World) : Prop :=
  ∃ o : Option Nat, ev = .returned (errV 131 o) ∧ (o = none ↔ k = 0) ∧ (∀ b, o = some b → w.heap.size ≤ b ∧ w'.cell? ⟨b, 0, none⟩ = some (.int .i64 k)) ∧ Below w.heap.size w w'

theorem told_first {U S C : Prop} {o1 o2 o3 : Option Nat} (h1 : o1 = none ↔ U) (h2 : o2 = none ↔ S) (h3 : o3 = none ↔ C) {k : Int} (hk : (¬ U → k = 1) ∧ (U → ¬ S → k = 2) ∧ (U → S → ¬ C → k = 3) ∧ (U → S → C → k = 0)) {w' : World} {B : Nat}
    (p1 : ∀ b, o1 = some b → B ≤ b ∧ w'.cell? ⟨b, 0, none⟩ = some (.int .i64 1)) (p2 : ∀ b, o2 = some b → B ≤ b ∧ w'.cell? ⟨b, 0, none⟩ = some (.int .i64 2)) (p3 : ∀ b, o3 = some b → B ≤ b ∧ w'.cell? ⟨b, 0, none⟩ = some (.int .i64 3)) :
    (firstOf [o1, o2, o3] = none ↔ k = 0) ∧ ∀ b, firstOf [o1, o2, o3] = some b → B ≤ b ∧ w'.cell? ⟨b, 0, none⟩ = some (.int .i64 k) := by
  obtain ⟨k1, k2, k3, k0⟩ := hk
  cases o1 with
  | some b1 =>
    have hU : ¬ U := fun h => by simpa using h1.2 h
    have := k1 hU
    subst this
    exact ⟨by simp [firstOf], fun b hb => p1 b (by simpa [firstOf] using hb)⟩
  | none =>
    have hU : U := h1.1 rfl
    cases o2 with
    | some b2 =>
      have hS : ¬ S := fun h => by simpa using h2.2 h
      have := k2 hU hS
      subst this
      exact ⟨by simp [firstOf], fun b hb => p2 b (by simpa [firstOf] using hb)⟩
    | none =>
      have hS : S := h2.1 rfl
      cases o3 with
      | some b3 =>
        have hC : ¬ C := fun h => by simpa using h3.2 h
        have := k3 hU hS hC
        subst this
        exact ⟨by simp [firstOf], fun b hb => p3 b (by simpa [firstOf] using hb)⟩
      | none =>
        have hC : C := h3.1 rfl
        have := k0 hU hS hC
        subst this
        exact ⟨by simp [firstOf], fun b hb => by simp [firstOf] at hb⟩

theorem cfgErr_ways (a b c d e f g h i j : Int) :
    (¬ ((0 ≤ a ∧ a ≤ 1000) ∧ (1 ≤ b ∧ b ≤ 1000) ∧ (0 ≤ c ∧ c ≤ 1000)) → cfgErr a b c d e f g h i j = 1) ∧
    (((0 ≤ a ∧ a ≤ 1000) ∧ (1 ≤ b ∧ b ≤ 1000) ∧ (0 ≤ c ∧ c ≤ 1000)) → ¬ ((1 ≤ d ∧ d ≤ 10000) ∧ (1 ≤ g ∧ g ≤ 10000) ∧ (g ≤ h ∧ h ≤ 10000)) → cfgErr a b c d e f g h i j = 2) ∧
    (((0 ≤ a ∧ a ≤ 1000) ∧ (1 ≤ b ∧ b ≤ 1000) ∧ (0 ≤ c ∧ c ≤ 1000)) → ((1 ≤ d ∧ d ≤ 10000) ∧ (1 ≤ g ∧ g ≤ 10000) ∧ (g ≤ h ∧ h ≤ 10000)) → ¬ ((1 ≤ e ∧ e ≤ 6) ∧ (1 ≤ f ∧ f ≤ 8) ∧ (1 ≤ i ∧ i ≤ 100) ∧ (0 ≤ j ∧ j ≤ 32)) → cfgErr a b c d e f g h i j = 3) ∧
    (((0 ≤ a ∧ a ≤ 1000) ∧ (1 ≤ b ∧ b ≤ 1000) ∧ (0 ≤ c ∧ c ≤ 1000)) → ((1 ≤ d ∧ d ≤ 10000) ∧ (1 ≤ g ∧ g ≤ 10000) ∧ (g ≤ h ∧ h ≤ 10000)) → ((1 ≤ e ∧ e ≤ 6) ∧ (1 ≤ f ∧ f ≤ 8) ∧ (1 ≤ i ∧ i ≤ 100) ∧ (0 ≤ j ∧ j ≤ 32)) → cfgErr a b c d e f g h i j = 0) := by
  unfold cfgErr
  refine ⟨fun u => if_pos u, fun u s => ?_, fun u s c' => ?_, fun u s c' => ?_⟩
  · rw [if_neg (fun n => n u), if_pos s]
  · rw [if_neg (fun n => n u), if_neg (fun n => n s), if_pos c']
  · rw [if_neg (fun n => n u), if_neg (fun n => n s), if_neg (fun n => n c')]

theorem cell_on {w w' : World} (hb : Below w.heap.size w w') {p : Addr} {v : Value} (h : w.cell? p = some v) : w'.cell? p = some v :=
  (hb.cell (World.block_lt_of_cell? w p h)).trans h

set_option maxRecDepth 100000 in
set_option maxHeartbeats 4000000 in
theorem config_any (a b c d e f g h i j : Int) (w : World) :
    Calls Tryz.prog 35 #[.agg #[.int .i64 a, .int .i64 b, .int .i64 c, .int .i64 d, .int .i64 e, .int .i64 f, .int .i64 g, .int .i64 h, .int .i64 i, .int .i64 j]] w
      (Told (cfgErr a b c d e f g h i j) w) := by
  go_enter Tryz.func35, Tryz.ntmps35
  go_wp2_with fail
  go_region_held3 (fun w' => w.heap.size < w'.heap.size ∧ w'.cell? ⟨w.heap.size, 0, none⟩ = some (.int .i64 a) ∧ w'.cell? ⟨w.heap.size, 1, none⟩ = some (.int .i64 b) ∧ w'.cell? ⟨w.heap.size, 2, none⟩ = some (.int .i64 c)
      ∧ w'.cell? ⟨w.heap.size, 3, none⟩ = some (.int .i64 d) ∧ w'.cell? ⟨w.heap.size, 4, none⟩ = some (.int .i64 e) ∧ w'.cell? ⟨w.heap.size, 5, none⟩ = some (.int .i64 f) ∧ w'.cell? ⟨w.heap.size, 6, none⟩ = some (.int .i64 g)
      ∧ w'.cell? ⟨w.heap.size, 7, none⟩ = some (.int .i64 h) ∧ w'.cell? ⟨w.heap.size, 8, none⟩ = some (.int .i64 i) ∧ w'.cell? ⟨w.heap.size, 9, none⟩ = some (.int .i64 j))
    (first
      | (go_keep; done)
      | (go_split_ands
         have hsz := hb.size
         refine ⟨?_, ?_, ?_, ?_, ?_, ?_, ?_, ?_, ?_, ?_, ?_⟩
         · (first | omega | (simp; omega))
         all_goals (first | (rw [hb.cell (by assumption)]; assumption) | (go_keep; done))))
    (first
      | (go_at_call 61; refine (units_any _ _ _ _ _ _ _ _ _ _ _).mono ?_; rintro ev w' ⟨o, rfl, ho, hp, hb⟩)
      | (go_at_call 62; refine (spans_any _ _ _ _ _ _ _ _ _ _ _).mono ?_; rintro ev w' ⟨o, rfl, ho, hp, hb⟩)
      | (go_at_call 63; refine (counts_any _ _ _ _ _ _ _ _ _ _ _).mono ?_; rintro ev w' ⟨o, rfl, ho, hp, hb⟩)
      | (go_at_call 60; refine (first3_new 131 _ _ _ _).mono ?_; rintro ev w' ⟨rfl, rfl⟩))
  rename_i K aK w1 o1 ho1 hp1 hb1 w2 o2 ho2 hp2 hb2 hH
  clear hH
  go_wp2_with fail
  go_ret
  have c0 : Below w.heap.size w (w.alloc (.cells #[.int .i64 a, .int .i64 b, .int .i64 c, .int .i64 d, .int .i64 e, .int .i64 f, .int .i64 g, .int .i64 h, .int .i64 i, .int .i64 j] 34)).drew := ((Below.refl _ _).alloc (Nat.le_refl _) _).drew
  have c1 := below_step c0 hb1
  have c2 := below_step c1 hb2
  have c3 := below_step c2 hb
  have c4 := c3.alloc c3.size (.cells #[errV 131 o1, errV 131 o2, errV 131 o] 82)
  have d3 : Below w'.heap.size w' (w'.alloc (.cells #[errV 131 o1, errV 131 o2, errV 131 o] 82)) := (Below.refl _ _).alloc (Nat.le_refl _) _
  have hf := told_first ho1 ho2 ho (cfgErr_ways a b c d e f g h i j) (w' := w'.alloc (.cells #[errV 131 o1, errV 131 o2, errV 131 o] 82)) (B := w.heap.size)
    (fun b' hb' => ⟨Nat.le_trans c0.size (hp1 b' hb').1, cell_on d3 (cell_on hb (cell_on hb2 (hp1 b' hb').2))⟩)
    (fun b' hb' => ⟨Nat.le_trans c1.size (hp2 b' hb').1, cell_on d3 (cell_on hb (hp2 b' hb').2)⟩)
    (fun b' hb' => ⟨Nat.le_trans c2.size (hp b' hb').1, cell_on d3 (hp b' hb').2⟩)
  exact ⟨_, rfl, hf.1, hf.2, c4⟩

/-- errors.As at a Fault, said of what its caller sees. -/
theorem as_fault (e t : Addr) (old : Value) (w : World) (hg : w.cell? ⟨0, 0, none⟩ = some (.iface 190 (.agg #[.pointer (some ⟨1, 82, none⟩)]))) (ht0 : w.cell? t = some old) (hf0 : w.frozen? t = false) :
    Calls Tryz.prog 59 #[.iface 131 (.pointer (some e)), .iface 133 (.pointer (some t))] w fun ev w' => ev = .returned (.bool true) ∧ w'.cell? t = some (.pointer (some e)) ∧ (∀ p v, p.block ≠ t.block → w.cell? p = some v → w'.cell? p = some v) ∧ Below t.block w w' := by
  refine (as_hit e t old w hg ht0 hf0).mono ?_
  rintro ev w' ⟨rfl, rfl⟩
  have hlt := World.block_lt_of_cell? w t ht0
  have hb : Below w.heap.size w ((((w.alloc (.cells #[.pointer (some t)] 133)).alloc (.cells #[.pointer (some ⟨1, 133, none⟩), .pointer (some ⟨w.heap.size, 0, none⟩), .int .u64 150] 164)).alloc (.cells #[.pointer (some ⟨1, 133, none⟩), .pointer (some ⟨w.heap.size, 0, none⟩), .int .u64 150] 164)).alloc (.cells #[.pointer (some e)] 131)) :=
    ((((Below.refl _ _).alloc (Nat.le_refl _) _).alloc (by simp) _).alloc (by simp; omega) _).alloc (by simp; omega) _
  refine ⟨rfl, ?_, fun p v hp hv => ?_, (hb.mono (Nat.le_of_lt hlt)).setCell (Nat.le_refl _) _⟩
  · exact World.cell?_setCell_same _ _ _ (cell_on hb ht0)
  · rw [World.cell?_of_block (Below.heap_setCell _ _ _ _ hp)]
    exact cell_on hb hv

set_option maxHeartbeats 800000 in
theorem number_nil (w : World) : Calls Tryz.prog 34 #[.nilIface] w fun e w' => e = .returned (.int .i64 0) ∧ Below w.heap.size w w' := by
  go_enter Tryz.func34, Tryz.ntmps34
  go_wp2_with fail
  refine (as_nil _ _).mono ?_
  rintro e w' ⟨rfl, rfl⟩
  go_wp2_with fail
  go_ret
  exact ⟨rfl, (Below.refl _ _).alloc (Nat.le_refl _) _⟩

set_option maxHeartbeats 800000 in
theorem number_fault (b : Nat) (k : Int) (w : World) (hg : w.cell? ⟨0, 0, none⟩ = some (.iface 190 (.agg #[.pointer (some ⟨1, 82, none⟩)]))) (hc : w.cell? ⟨b, 0, none⟩ = some (.int .i64 k)) :
    Calls Tryz.prog 34 #[.iface 131 (.pointer (some ⟨b, 0, none⟩))] w fun e w' => e = .returned (.int .i64 k) ∧ Below w.heap.size w w' := by
  have lb : b < w.heap.size := World.block_lt_of_cell? w _ hc
  have hA : Below w.heap.size w (w.alloc (.cells #[.pointer none] 131)) := (Below.refl _ _).alloc (Nat.le_refl _) _
  have HA := as_fault ⟨b, 0, none⟩ ⟨w.heap.size, 0, none⟩ (.pointer none) (w.alloc (.cells #[.pointer none] 131)) (cell_on hA hg) (by simp) (by simp)
  have HC := cell_on hA hc
  have H : Hid (Calls Tryz.prog 59 #[.iface 131 (.pointer (some ⟨b, 0, none⟩)), .iface 133 (.pointer (some ⟨w.heap.size, 0, none⟩))] (w.alloc (.cells #[.pointer none] 131)) fun ev w' => ev = .returned (.bool true) ∧ w'.cell? ⟨w.heap.size, 0, none⟩ = some (.pointer (some ⟨b, 0, none⟩)) ∧ w'.cell? ⟨b, 0, none⟩ = some (.int .i64 k) ∧ Below w.heap.size w w') := by
    refine HA.mono ?_
    rintro ev w' ⟨rfl, h1, h2, h3⟩
    exact ⟨rfl, h1, h2 _ _ (by simp; omega) HC, hA.trans h3⟩
  clear HA HC hA hg
  go_enter Tryz.func34, Tryz.ntmps34
  go_wp2_with fail
  refine H.out.mono ?_
  rintro ev w' ⟨rfl, h1, h2, h3⟩
  go_wp2_with fail
  go_ret
  exact ⟨rfl, h3⟩

theorem number_any (o : Option Nat) (k : Int) (w : World) (hg : w.cell? ⟨0, 0, none⟩ = some (.iface 190 (.agg #[.pointer (some ⟨1, 82, none⟩)]))) (h0 : o = none ↔ k = 0) (hc : ∀ b, o = some b → w.cell? ⟨b, 0, none⟩ = some (.int .i64 k)) :
    Calls Tryz.prog 34 #[errV 131 o] w fun e w' => e = .returned (.int .i64 k) ∧ Below w.heap.size w w' := by
  cases o with
  | none =>
    have : k = 0 := h0.1 rfl
    subst this
    exact number_nil w
  | some b => exact number_fault b k w hg (hc b rfl)

/-- The global that errors.As reads. -/
def Laid (w : World) : Prop := w.cell? ⟨0, 0, none⟩ = some (.iface 190 (.agg #[.pointer (some ⟨1, 82, none⟩)]))
theorem Laid.on {w w' : World} (h : Laid w) (hb : Below w.heap.size w w') : Laid w' := cell_on hb h

/-- The boxed Config is as it was. -/
theorem cfg_cells (a b c d e f g h i j : Int) (w w2 : World) (t : TypeId) (hb : Below (w.alloc (.cells #[.int .i64 a, .int .i64 b, .int .i64 c, .int .i64 d, .int .i64 e, .int .i64 f, .int .i64 g, .int .i64 h, .int .i64 i, .int .i64 j] t)).heap.size (w.alloc (.cells #[.int .i64 a, .int .i64 b, .int .i64 c, .int .i64 d, .int .i64 e, .int .i64 f, .int .i64 g, .int .i64 h, .int .i64 i, .int .i64 j] t)) w2) :
    w2.cell? ⟨w.heap.size, 0, none⟩ = some (.int .i64 a) ∧ w2.cell? ⟨w.heap.size, 1, none⟩ = some (.int .i64 b) ∧ w2.cell? ⟨w.heap.size, 2, none⟩ = some (.int .i64 c) ∧ w2.cell? ⟨w.heap.size, 3, none⟩ = some (.int .i64 d) ∧ w2.cell? ⟨w.heap.size, 4, none⟩ = some (.int .i64 e) ∧ w2.cell? ⟨w.heap.size, 5, none⟩ = some (.int .i64 f) ∧ w2.cell? ⟨w.heap.size, 6, none⟩ = some (.int .i64 g) ∧ w2.cell? ⟨w.heap.size, 7, none⟩ = some (.int .i64 h) ∧ w2.cell? ⟨w.heap.size, 8, none⟩ = some (.int .i64 i) ∧ w2.cell? ⟨w.heap.size, 9, none⟩ = some (.int .i64 j) := by
  refine ⟨?_, ?_, ?_, ?_, ?_, ?_, ?_, ?_, ?_, ?_⟩ <;> exact cell_on hb (by simp)

theorem cfg_keepB {B : Nat} {a b c d e f g h i j : Int} {w2 W : World} (hl : B < w2.heap.size) (f0 : w2.cell? ⟨B, 0, none⟩ = some (.int .i64 a)) (f1 : w2.cell? ⟨B, 1, none⟩ = some (.int .i64 b)) (f2 : w2.cell? ⟨B, 2, none⟩ = some (.int .i64 c)) (f3 : w2.cell? ⟨B, 3, none⟩ = some (.int .i64 d)) (f4 : w2.cell? ⟨B, 4, none⟩ = some (.int .i64 e)) (f5 : w2.cell? ⟨B, 5, none⟩ = some (.int .i64 f)) (f6 : w2.cell? ⟨B, 6, none⟩ = some (.int .i64 g)) (f7 : w2.cell? ⟨B, 7, none⟩ = some (.int .i64 h)) (f8 : w2.cell? ⟨B, 8, none⟩ = some (.int .i64 i)) (f9 : w2.cell? ⟨B, 9, none⟩ = some (.int .i64 j)) (hB : Below w2.heap.size w2 W) :
    B < W.heap.size ∧ W.cell? ⟨B, 0, none⟩ = some (.int .i64 a) ∧ W.cell? ⟨B, 1, none⟩ = some (.int .i64 b) ∧ W.cell? ⟨B, 2, none⟩ = some (.int .i64 c) ∧ W.cell? ⟨B, 3, none⟩ = some (.int .i64 d) ∧ W.cell? ⟨B, 4, none⟩ = some (.int .i64 e) ∧ W.cell? ⟨B, 5, none⟩ = some (.int .i64 f) ∧ W.cell? ⟨B, 6, none⟩ = some (.int .i64 g) ∧ W.cell? ⟨B, 7, none⟩ = some (.int .i64 h) ∧ W.cell? ⟨B, 8, none⟩ = some (.int .i64 i) ∧ W.cell? ⟨B, 9, none⟩ = some (.int .i64 j) :=
  ⟨Nat.lt_of_lt_of_le hl hB.size, (hB.cell hl).trans f0, (hB.cell hl).trans f1, (hB.cell hl).trans f2, (hB.cell hl).trans f3, (hB.cell hl).trans f4, (hB.cell hl).trans f5, (hB.cell hl).trans f6, (hB.cell hl).trans f7, (hB.cell hl).trans f8, (hB.cell hl).trans f9⟩

theorem budgetNew_any (a b c : Int) (w : World) :
    Calls Tryz.prog 36 #[.int .i64 a, .int .i64 b, .int .i64 c] w fun e w' => e = .returned (.agg #[.int .i64 a, .int .i64 b, .int .i64 c, .slice none 0 0]) ∧ w' = w.alloc (.cells #[.int .i64 a, .int .i64 b, .int .i64 c, .slice none 0 0] 86) := by
  go_enter Tryz.func36, Tryz.ntmps36
  go_wp2_with fail
  exact bodyPost_ret (v := .agg #[.int .i64 a, .int .i64 b, .int .i64 c, .slice none 0 0]) (by simp [results, Tryz.results36, go_sem]) rfl ⟨rfl, rfl⟩

set_option maxRecDepth 100000 in
set_option maxHeartbeats 4000000 in
theorem new_ok (a b c d e f g h i j : Int) (w : World) (hL : Laid w) (hk : cfgErr a b c d e f g h i j = 0) :
    Calls Tryz.prog 18 #[.agg #[.int .i64 a, .int .i64 b, .int .i64 c, .int .i64 d, .int .i64 e, .int .i64 f, .int .i64 g, .int .i64 h, .int .i64 i, .int .i64 j]] w
      fun ev w' => (∃ x, ev = .returned (.tuple #[.pointer (some ⟨x, 0, none⟩), .int .i64 0])) ∧ Below w.heap.size w w' := by
  have HC := config_any a b c d e f g h i j (w.alloc (.cells #[.int .i64 a, .int .i64 b, .int .i64 c, .int .i64 d, .int .i64 e, .int .i64 f, .int .i64 g, .int .i64 h, .int .i64 i, .int .i64 j] 34))
  rw [hk] at HC
  clear hk
  have H : Hid (Calls Tryz.prog 35 #[.agg #[.int .i64 a, .int .i64 b, .int .i64 c, .int .i64 d, .int .i64 e, .int .i64 f, .int .i64 g, .int .i64 h, .int .i64 i, .int .i64 j]] (w.alloc (.cells #[.int .i64 a, .int .i64 b, .int .i64 c, .int .i64 d, .int .i64 e, .int .i64 f, .int .i64 g, .int .i64 h, .int .i64 i, .int .i64 j] 34)) (Told 0 (w.alloc (.cells #[.int .i64 a, .int .i64 b, .int .i64 c, .int .i64 d, .int .i64 e, .int .i64 f, .int .i64 g, .int .i64 h, .int .i64 i, .int .i64 j] 34)))) := HC
  clear HC
  go_enter Tryz.func18, Tryz.ntmps18
  go_wp2_with fail
  refine H.out.mono ?_
  rintro ev w1 ⟨o, rfl, ho, hp, hb⟩
  clear H
  have c0 : Below w.heap.size w (w.alloc (.cells #[.int .i64 a, .int .i64 b, .int .i64 c, .int .i64 d, .int .i64 e, .int .i64 f, .int .i64 g, .int .i64 h, .int .i64 i, .int .i64 j] 34)) := (Below.refl _ _).alloc (Nat.le_refl _) _
  have c1 := below_step c0 hb
  have HN : Hid (Calls Tryz.prog 34 #[errV 131 o] w1 fun e w' => e = .returned (.int .i64 0) ∧ Below w1.heap.size w1 w') := number_any o 0 w1 (hL.on c1) ho (fun b' hb' => (hp b' hb').2)
  clear ho hp
  go_wp2_with fail
  refine HN.out.mono ?_
  rintro ev w2 ⟨rfl, hb2⟩
  clear HN
  have c2 := below_step c1 hb2
  obtain ⟨f0, f1, f2, f3, f4, f5, f6, f7, f8, f9⟩ := cfg_cells a b c d e f g h i j w w2 34 (below_step hb hb2)
  clear hb hb2 hL
  have hmm := @run_makeMap Tryz.prog
  have lw2 : w.heap.size < w2.heap.size := World.block_lt_of_cell? w2 _ f0
  go_wp2_with fail
  go_region_held3 (fun w' => w.heap.size < w'.heap.size ∧ w'.cell? ⟨w.heap.size, 0, none⟩ = some (.int .i64 a) ∧ w'.cell? ⟨w.heap.size, 1, none⟩ = some (.int .i64 b) ∧ w'.cell? ⟨w.heap.size, 2, none⟩ = some (.int .i64 c) ∧ w'.cell? ⟨w.heap.size, 3, none⟩ = some (.int .i64 d) ∧ w'.cell? ⟨w.heap.size, 4, none⟩ = some (.int .i64 e) ∧ w'.cell? ⟨w.heap.size, 5, none⟩ = some (.int .i64 f) ∧ w'.cell? ⟨w.heap.size, 6, none⟩ = some (.int .i64 g) ∧ w'.cell? ⟨w.heap.size, 7, none⟩ = some (.int .i64 h) ∧ w'.cell? ⟨w.heap.size, 8, none⟩ = some (.int .i64 i) ∧ w'.cell? ⟨w.heap.size, 9, none⟩ = some (.int .i64 j))
    (first
      | (go_keep; done)
      | (refine cfg_keepB lw2 f0 f1 f2 f3 f4 f5 f6 f7 f8 f9 ?_
         repeat (first | exact Below.refl _ _ | refine Below.drew ?_ | refine Below.alloc ?_ (by first | (simp; done) | (simp; omega)) _)))
    (first
      | (go_at_call 36; refine (budgetNew_any _ _ _ _).mono ?_; rintro ev w' ⟨rfl, rfl⟩))
  all_goals
    go_wp2_with fail
    go_ret2
    refine ⟨⟨_, rfl⟩, c2.trans (Below.mono (B := w2.heap.size) ?_ c2.size)⟩
    repeat (first | exact Below.refl _ _ | refine Below.drew ?_ | refine Below.alloc ?_ (by first | (simp; done) | (simp; omega)) _)

set_option maxHeartbeats 800000 in
theorem new_bad (a b c d e f g h i j : Int) (w : World) (hL : Laid w) (hk : cfgErr a b c d e f g h i j ≠ 0) :
    Calls Tryz.prog 18 #[.agg #[.int .i64 a, .int .i64 b, .int .i64 c, .int .i64 d, .int .i64 e, .int .i64 f, .int .i64 g, .int .i64 h, .int .i64 i, .int .i64 j]] w
      fun ev w' => ev = .returned (.tuple #[.pointer none, .int .i64 (cfgErr a b c d e f g h i j)]) ∧ Below w.heap.size w w' := by
  have HC := config_any a b c d e f g h i j (w.alloc (.cells #[.int .i64 a, .int .i64 b, .int .i64 c, .int .i64 d, .int .i64 e, .int .i64 f, .int .i64 g, .int .i64 h, .int .i64 i, .int .i64 j] 34))
  generalize cfgErr a b c d e f g h i j = k at HC hk ⊢
  have H : Hid (Calls Tryz.prog 35 #[.agg #[.int .i64 a, .int .i64 b, .int .i64 c, .int .i64 d, .int .i64 e, .int .i64 f, .int .i64 g, .int .i64 h, .int .i64 i, .int .i64 j]] (w.alloc (.cells #[.int .i64 a, .int .i64 b, .int .i64 c, .int .i64 d, .int .i64 e, .int .i64 f, .int .i64 g, .int .i64 h, .int .i64 i, .int .i64 j] 34)) (Told k (w.alloc (.cells #[.int .i64 a, .int .i64 b, .int .i64 c, .int .i64 d, .int .i64 e, .int .i64 f, .int .i64 g, .int .i64 h, .int .i64 i, .int .i64 j] 34)))) := HC
  clear HC
  go_enter Tryz.func18, Tryz.ntmps18
  go_wp2_with fail
  refine H.out.mono ?_
  rintro ev w1 ⟨o, rfl, ho, hp, hb⟩
  clear H
  have c0 : Below w.heap.size w (w.alloc (.cells #[.int .i64 a, .int .i64 b, .int .i64 c, .int .i64 d, .int .i64 e, .int .i64 f, .int .i64 g, .int .i64 h, .int .i64 i, .int .i64 j] 34)) := (Below.refl _ _).alloc (Nat.le_refl _) _
  have c1 := below_step c0 hb
  have HN : Hid (Calls Tryz.prog 34 #[errV 131 o] w1 fun e w' => e = .returned (.int .i64 k) ∧ Below w1.heap.size w1 w') := number_any o k w1 (hL.on c1) ho (fun b' hb' => (hp b' hb').2)
  clear ho hp
  go_wp2_with fail
  refine HN.out.mono ?_
  rintro ev w2 ⟨rfl, hb2⟩
  clear HN
  have c2 := below_step c1 hb2
  clear hb hb2 hL
  go_wp2_with fail
  go_ret2
  exact ⟨rfl, c2⟩

end Go.Proofs.YtlccfpbbdgpjbaaGreatDoor
