/-
  units, spans, counts.
-/
import Derived.Test.YtlccfpbbdgpjbaaGreatDoorChecks
namespace Go.Proofs.YtlccfpbbdgpjbaaGreatDoor
open Go.RowKit
/-- nil, or a value behind an interface. -/
def isErr : Value → Bool
  | .nilIface => true
  | .iface _ _ => true
  | _ => false
theorem isErr_errV (t : TypeId) (o : Option Nat) : isErr (errV t o) = true := by cases o <;> rfl
theorem isErr_or {v : Value} (h : isErr v = true) : v = .nilIface ∨ ∃ t x, v = .iface t x := by
  cases v <;> first | exact .inl rfl | exact .inr ⟨_, _, rfl⟩ | (simp [isErr] at h)

theorem run_build3 (v1 v2 v3 : Value) (h1 : isErr v1 = true) (h2 : isErr v2 = true) (h3 : isErr v3 = true) (w : World) :
    (Instr.buildSlice 173 3 #[(0, v1), (1, v2), (2, v3)]).run Tryz.prog w = .ok (.slice (some ⟨w.heap.size, 0, none⟩) 3 3) (w.alloc (.cells #[v1, v2, v3] 82)) := by
  rcases isErr_or h1 with rfl | ⟨t1, x1, rfl⟩ <;> rcases isErr_or h2 with rfl | ⟨t2, x2, rfl⟩ <;> rcases isErr_or h3 with rfl | ⟨t3, x3, rfl⟩ <;> kernel_rfl
theorem run_build4 (v1 v2 v3 v4 : Value) (h1 : isErr v1 = true) (h2 : isErr v2 = true) (h3 : isErr v3 = true) (h4 : isErr v4 = true) (w : World) :
    (Instr.buildSlice 173 4 #[(0, v1), (1, v2), (2, v3), (3, v4)]).run Tryz.prog w = .ok (.slice (some ⟨w.heap.size, 0, none⟩) 4 4) (w.alloc (.cells #[v1, v2, v3, v4] 82)) := by
  rcases isErr_or h1 with rfl | ⟨t1, x1, rfl⟩ <;> rcases isErr_or h2 with rfl | ⟨t2, x2, rfl⟩ <;> rcases isErr_or h3 with rfl | ⟨t3, x3, rfl⟩ <;> rcases isErr_or h4 with rfl | ⟨t4, x4, rfl⟩ <;> kernel_rfl
theorem wp_build3 {d : Option Tmp} {ty : TypeId} {p : String} {af : Array Edge} {x y z : Operand} {a : Act} {w : World} {K : Act → World → Prop} {Q : Exit → Act → World → Prop}
    (h1 : isErr (a.eval x) = true) (h2 : isErr (a.eval y) = true) (h3 : isErr (a.eval z) = true) :
    Oper.wp Tryz.prog { dst := d, op := Op.buildSlice 173 3 #[(0, x), (1, y), (2, z)], type := ty, pos := p, after := af, guard := none } a w K Q
      = K (a.put d (.slice (some ⟨w.heap.size, 0, none⟩) 3 3)) (w.alloc (.cells #[a.eval x, a.eval y, a.eval z] 82)) := by
  have hr := run_build3 _ _ _ h1 h2 h3 w
  unfold Oper.wp execOp
  simp only [Sem.run_bind, List.map_toArray, List.map_cons, List.map_nil, hr, Result.andThen_ok, Sem.run_pure]
  rfl
theorem wp_build4 {d : Option Tmp} {ty : TypeId} {p : String} {af : Array Edge} {x y z u : Operand} {a : Act} {w : World} {K : Act → World → Prop} {Q : Exit → Act → World → Prop}
    (h1 : isErr (a.eval x) = true) (h2 : isErr (a.eval y) = true) (h3 : isErr (a.eval z) = true) (h4 : isErr (a.eval u) = true) :
    Oper.wp Tryz.prog { dst := d, op := Op.buildSlice 173 4 #[(0, x), (1, y), (2, z), (3, u)], type := ty, pos := p, after := af, guard := none } a w K Q
      = K (a.put d (.slice (some ⟨w.heap.size, 0, none⟩) 4 4)) (w.alloc (.cells #[a.eval x, a.eval y, a.eval z, a.eval u] 82)) := by
  have hr := run_build4 _ _ _ _ h1 h2 h3 h4 w
  unfold Oper.wp execOp
  simp only [Sem.run_bind, List.map_toArray, List.map_cons, List.map_nil, hr, Result.andThen_ok, Sem.run_pure]
  rfl
attribute [local go_sem ↓] Go.wp_at_zero Go.wp_at_succ wp_build3 wp_build4
attribute [local go_sem] isErr_errV

/-- What a group of checks gives: an error of number k unless 'fine' holds; nothing old has turned. -/
def Group (k : Int) (fine : Prop) (w : World) (ev : Ending) (w' : World) : Prop :=
  ∃ o : Option Nat, ev = .returned (errV 131 o) ∧ (o = none ↔ fine) ∧ (∀ b, o = some b → w.heap.size ≤ b ∧ w'.cell? ⟨b, 0, none⟩ = some (.int .i64 k)) ∧ Below w.heap.size w w'

theorem below_step {w w1 w2 : World} (h : Below w.heap.size w w1) (hb : Below w1.heap.size w1 w2) : Below w.heap.size w w2 := h.trans (hb.mono h.size)
theorem first3_none (o1 o2 o3 : Option Nat) : firstOf [o1, o2, o3] = none ↔ o1 = none ∧ o2 = none ∧ o3 = none := by simp [firstOf_none]
theorem first4_none (o1 o2 o3 o4 : Option Nat) : firstOf [o1, o2, o3, o4] = none ↔ o1 = none ∧ o2 = none ∧ o3 = none ∧ o4 = none := by simp [firstOf_none]

set_option maxRecDepth 100000 in
set_option maxHeartbeats 4000000 in
theorem units_any (a b c d e f g h i j : Int) (w : World) :
    Calls Tryz.prog 61 #[.agg #[.int .i64 a, .int .i64 b, .int .i64 c, .int .i64 d, .int .i64 e, .int .i64 f, .int .i64 g, .int .i64 h, .int .i64 i, .int .i64 j]] w
      (Group 1 ((0 ≤ a ∧ a ≤ 1000) ∧ (1 ≤ b ∧ b ≤ 1000) ∧ (0 ≤ c ∧ c ≤ 1000)) w) := by
  go_enter Tryz.func61, Tryz.ntmps61
  go_wp2_with fail
  go_region_held3 (fun w' => w.heap.size < w'.heap.size ∧ w'.cell? ⟨w.heap.size, 0, none⟩ = some (.int .i64 a) ∧ w'.cell? ⟨w.heap.size, 1, none⟩ = some (.int .i64 b) ∧ w'.cell? ⟨w.heap.size, 2, none⟩ = some (.int .i64 c))
    (first
      | (go_keep; done)
      | (go_split_ands
         have hsz := hb.size
         refine ⟨?_, ?_, ?_, ?_⟩
         · (first | omega | (simp; omega))
         · (first | (go_keep; done) | (rw [hb.cell (by assumption)]; assumption))
         · (first | (go_keep; done) | (rw [hb.cell (by assumption)]; assumption))
         · (first | (go_keep; done) | (rw [hb.cell (by assumption)]; assumption))))
    (first
      | (go_at_call 93; refine (within_any _ _ _ _ _).mono ?_; rintro e w' ⟨o, rfl, ho, hb⟩)
      | (go_at_call 60; refine (first3_new 202 _ _ _ _).mono ?_; rintro e w' ⟨rfl, rfl⟩)
      | (go_at_call 92; refine (fault_any _ _ _).mono ?_; rintro e w' ⟨o, rfl, ho, hp, hb⟩))
  rename_i K aK w1 o1 ho1 hb1 w2 o2 ho2 hb2 w3 o3 ho3 hb3 hH
  clear hH
  go_wp2_with fail
  go_ret
  have c0 : Below w.heap.size w (w.alloc (.cells #[.int .i64 a, .int .i64 b, .int .i64 c, .int .i64 d, .int .i64 e, .int .i64 f, .int .i64 g, .int .i64 h, .int .i64 i, .int .i64 j] 34)).drew := ((Below.refl _ _).alloc (Nat.le_refl _) _).drew
  have c1 := below_step c0 hb1
  have c2 := below_step c1 hb2
  have c3 := below_step c2 hb3
  have cn := c3.alloc c3.size (.cells #[errV 202 o1, errV 202 o2, errV 202 o3] 82)
  refine ⟨o, rfl, ?_, fun b' hb' => ⟨Nat.le_trans cn.size (hp b' hb').1, (hp b' hb').2⟩, below_step cn hb⟩
  rw [ho, first3_none, ho1, ho2, ho3]

set_option maxRecDepth 100000 in
set_option maxHeartbeats 4000000 in
theorem spans_any (a b c d e f g h i j : Int) (w : World) :
    Calls Tryz.prog 62 #[.agg #[.int .i64 a, .int .i64 b, .int .i64 c, .int .i64 d, .int .i64 e, .int .i64 f, .int .i64 g, .int .i64 h, .int .i64 i, .int .i64 j]] w
      (Group 2 ((1 ≤ d ∧ d ≤ 10000) ∧ (1 ≤ g ∧ g ≤ 10000) ∧ (g ≤ h ∧ h ≤ 10000)) w) := by
  go_enter Tryz.func62, Tryz.ntmps62
  go_wp2_with fail
  go_region_held3 (fun w' => w.heap.size < w'.heap.size ∧ w'.cell? ⟨w.heap.size, 3, none⟩ = some (.int .i64 d) ∧ w'.cell? ⟨w.heap.size, 6, none⟩ = some (.int .i64 g) ∧ w'.cell? ⟨w.heap.size, 7, none⟩ = some (.int .i64 h))
    (first
      | (go_keep; done)
      | (go_split_ands
         have hsz := hb.size
         refine ⟨?_, ?_, ?_, ?_⟩
         · (first | omega | (simp; omega))
         · (first | (go_keep; done) | (rw [hb.cell (by assumption)]; assumption))
         · (first | (go_keep; done) | (rw [hb.cell (by assumption)]; assumption))
         · (first | (go_keep; done) | (rw [hb.cell (by assumption)]; assumption))))
    (first
      | (go_at_call 93; refine (within_any _ _ _ _ _).mono ?_; rintro e w' ⟨o, rfl, ho, hb⟩)
      | (go_at_call 60; refine (first3_new 202 _ _ _ _).mono ?_; rintro e w' ⟨rfl, rfl⟩)
      | (go_at_call 92; refine (fault_any _ _ _).mono ?_; rintro e w' ⟨o, rfl, ho, hp, hb⟩))
  rename_i K aK w1 o1 ho1 hb1 w2 o2 ho2 hb2 w3 o3 ho3 hb3 hH
  clear hH
  go_wp2_with fail
  go_ret
  have c0 : Below w.heap.size w (w.alloc (.cells #[.int .i64 a, .int .i64 b, .int .i64 c, .int .i64 d, .int .i64 e, .int .i64 f, .int .i64 g, .int .i64 h, .int .i64 i, .int .i64 j] 34)).drew := ((Below.refl _ _).alloc (Nat.le_refl _) _).drew
  have c1 := below_step c0 hb1
  have c2 := below_step c1 hb2
  have c3 := below_step c2 hb3
  have cn := c3.alloc c3.size (.cells #[errV 202 o1, errV 202 o2, errV 202 o3] 82)
  refine ⟨o, rfl, ?_, fun b' hb' => ⟨Nat.le_trans cn.size (hp b' hb').1, (hp b' hb').2⟩, below_step cn hb⟩
  rw [ho, first3_none, ho1, ho2, ho3]

set_option maxRecDepth 100000 in
set_option maxHeartbeats 4000000 in
theorem counts_any (a b c d e f g h i j : Int) (w : World) :
    Calls Tryz.prog 63 #[.agg #[.int .i64 a, .int .i64 b, .int .i64 c, .int .i64 d, .int .i64 e, .int .i64 f, .int .i64 g, .int .i64 h, .int .i64 i, .int .i64 j]] w
      (Group 3 ((1 ≤ e ∧ e ≤ 6) ∧ (1 ≤ f ∧ f ≤ 8) ∧ (1 ≤ i ∧ i ≤ 100) ∧ (0 ≤ j ∧ j ≤ 32)) w) := by
  go_enter Tryz.func63, Tryz.ntmps63
  go_wp2_with fail
  go_region_held3 (fun w' => w.heap.size < w'.heap.size ∧ w'.cell? ⟨w.heap.size, 4, none⟩ = some (.int .i64 e) ∧ w'.cell? ⟨w.heap.size, 5, none⟩ = some (.int .i64 f) ∧ w'.cell? ⟨w.heap.size, 8, none⟩ = some (.int .i64 i) ∧ w'.cell? ⟨w.heap.size, 9, none⟩ = some (.int .i64 j))
    (first
      | (go_keep; done)
      | (go_split_ands
         have hsz := hb.size
         refine ⟨?_, ?_, ?_, ?_, ?_⟩
         · (first | omega | (simp; omega))
         · (first | (go_keep; done) | (rw [hb.cell (by assumption)]; assumption))
         · (first | (go_keep; done) | (rw [hb.cell (by assumption)]; assumption))
         · (first | (go_keep; done) | (rw [hb.cell (by assumption)]; assumption))
         · (first | (go_keep; done) | (rw [hb.cell (by assumption)]; assumption))))
    (first
      | (go_at_call 93; refine (within_any _ _ _ _ _).mono ?_; rintro e w' ⟨o, rfl, ho, hb⟩)
      | (go_at_call 60; refine (first4_new 202 _ _ _ _ _).mono ?_; rintro e w' ⟨rfl, rfl⟩)
      | (go_at_call 92; refine (fault_any _ _ _).mono ?_; rintro e w' ⟨o, rfl, ho, hp, hb⟩))
  rename_i K aK w1 o1 ho1 hb1 w2 o2 ho2 hb2 w3 o3 ho3 hb3 w4 o4 ho4 hb4 hH
  clear hH
  go_wp2_with fail
  go_ret
  have c0 : Below w.heap.size w (w.alloc (.cells #[.int .i64 a, .int .i64 b, .int .i64 c, .int .i64 d, .int .i64 e, .int .i64 f, .int .i64 g, .int .i64 h, .int .i64 i, .int .i64 j] 34)).drew := ((Below.refl _ _).alloc (Nat.le_refl _) _).drew
  have c1 := below_step c0 hb1
  have c2 := below_step c1 hb2
  have c3 := below_step c2 hb3
  have c4 := below_step c3 hb4
  have cn := c4.alloc c4.size (.cells #[errV 202 o1, errV 202 o2, errV 202 o3, errV 202 o4] 82)
  refine ⟨o, rfl, ?_, fun b' hb' => ⟨Nat.le_trans cn.size (hp b' hb').1, (hp b' hb').2⟩, below_step cn hb⟩
  rw [ho, first4_none, ho1, ho2, ho3, ho4]

end Go.Proofs.YtlccfpbbdgpjbaaGreatDoor
