import Derived.Test.YtlccfpbbdgpjbaaGreatDoorRows
import Derived.WalkKit
import Derived.WalkSpells
import Derived.WalkLawsBesides
import Derived.LaidEql
import Derived.Deep.RegionHeld3
import Derived.Deep.DrawnRows
import Derived.Stop.Asserts
import Derived.RowKitTokens
namespace Go.Proofs.YtlccfpbbdgpjbaaGreatDoor
open Go.RowKit

/-- An error value: nil, or a pointer of type t. -/
def errV (t : TypeId) : Option Nat → Value
  | none => .nilIface
  | some b => .iface t (.pointer (some ⟨b, 0, none⟩))

set_option maxHeartbeats 400000 in
theorem within_any (s : ByteArray) (n a b : Int) (w : World) :
    Calls Tryz.prog 93 #[.string s, .int .i64 n, .int .i64 a, .int .i64 b] w fun e w' => ∃ o : Option Nat, e = .returned (errV 202 o) ∧ (o = none ↔ a ≤ n ∧ n ≤ b) ∧ Below w.heap.size w w' := by
  by_cases h1 : n < a
  · go_enter Tryz.func93, Tryz.ntmps93
    go_wp2
    go_ret
    exact ⟨some _, rfl, by simp; omega, (Below.refl _ _).alloc (Nat.le_refl _) _⟩
  · by_cases h2 : b < n
    · go_enter Tryz.func93, Tryz.ntmps93
      go_wp2
      go_ret
      exact ⟨some _, rfl, by simp; omega, (Below.refl _ _).alloc (Nat.le_refl _) _⟩
    · go_enter Tryz.func93, Tryz.ntmps93
      go_wp2
      go_ret
      exact ⟨none, rfl, by simp, Below.refl _ _⟩

/-- fault: nil of nil; else a new Fault of this number. -/
theorem fault_any (k : Int) (o : Option Nat) (w : World) :
    Calls Tryz.prog 92 #[.int .i64 k, errV 202 o] w fun e w' => ∃ o' : Option Nat, e = .returned (errV 131 o') ∧ (o' = none ↔ o = none) ∧ (∀ b, o' = some b → w.heap.size ≤ b ∧ w'.cell? ⟨b, 0, none⟩ = some (.int .i64 k)) ∧ Below w.heap.size w w' := by
  cases o with
  | none =>
    simp only [errV]
    go_enter Tryz.func92, Tryz.ntmps92
    go_wp2
    go_ret
    exact ⟨none, rfl, by simp, by simp, Below.refl _ _⟩
  | some q =>
    simp only [errV]
    go_enter Tryz.func92, Tryz.ntmps92
    go_wp2
    go_ret
    refine ⟨some w.heap.size, rfl, by simp, ?_, (Below.refl _ _).alloc (Nat.le_refl _) _⟩
    rintro b hb
    obtain rfl := Option.some.inj hb
    exact ⟨Nat.le_refl _, by simp⟩

/-- What 'first' gives of its list. -/
def firstOf : List (Option Nat) → Option Nat
  | [] => none
  | none :: r => firstOf r
  | some p :: _ => some p

theorem firstOf_none (l : List (Option Nat)) : firstOf l = none ↔ ∀ o ∈ l, o = none := by
  induction l with
  | nil => simp [firstOf]
  | cons a r ih => cases a <;> simp [firstOf, ih]

theorem firstOf_drop (l : List (Option Nat)) (k : Nat) (h : k < l.length) : firstOf (l.drop k) = match l[k] with | none => firstOf (l.drop (k + 1)) | some p => some p := by
  rw [List.drop_eq_getElem_cons h]
  cases l[k] <;> rfl

set_option maxHeartbeats 800000 in
theorem first_any (t : TypeId) (g c : Nat) (l : List (Option Nat)) (hl : l.length ≤ 8) (w : World)
    (hc : ∀ (k : Nat) (h : k < l.length), w.cell? ⟨g, k, none⟩ = some (errV t l[k])) :
    Calls Tryz.prog 60 #[.slice (some ⟨g, 0, none⟩) l.length c] w fun e w' => e = .returned (errV t (firstOf l)) ∧ w' = w := by
  have HC : Hid (∀ (k : Nat) (h : k < l.length), w.cell? ⟨g, k, none⟩ = some (errV t l[k])) := hc
  clear hc
  go_enter Tryz.func60, Tryz.ntmps60
  go_wp2
  go_loop [7] (fun i => ∃ k : Nat, k ≤ l.length ∧ i = .int .i64 k ∧ firstOf l = firstOf (l.drop k)) (fun i => l.length - (intOf i).toNat)
  case atStart => exact ⟨0, Nat.zero_le _, rfl, rfl⟩
  case round =>
    obtain ⟨k, hk, rfl, hf⟩ := hrel
    by_cases hlt : k < l.length
    · have hck := HC.out k hlt
      have hfd := firstOf_drop l k hlt
      have HF : Hid (firstOf l = firstOf (l.drop k)) := hf
      clear hf
      cases hlk : l[k] with
      | none =>
        rw [hlk] at hck hfd
        have HD : Hid (firstOf (l.drop k) = firstOf (l.drop (k + 1))) := hfd
        clear hfd hlk
        simp only [errV] at hck
        go_wp2
        go_round
        case rel => exact ⟨k + 1, by omega, by go_num, by rw [HF.out, HD.out]⟩
        case measure => simp [intOf]; omega
      | some p =>
        rw [hlk] at hck hfd
        have HD : Hid (firstOf (l.drop k) = some p) := hfd
        clear hfd hlk
        simp only [errV] at hck
        go_wp2
        go_ret
        exact ⟨by rw [HF.out, HD.out]; rfl, rfl⟩
    · have HF : Hid (firstOf l = firstOf (l.drop k)) := hf
      clear hf
      go_wp2
      go_ret
      exact ⟨by rw [HF.out, List.drop_of_length_le (by omega)]; rfl, rfl⟩

theorem errV_cells (t : TypeId) (o : Option Nat) : (errV t o).cells = #[errV t o] := by cases o <;> rfl
theorem errV_one (t : TypeId) (o : Option Nat) : (errV t o).oneCell' = true := by cases o <;> rfl

theorem first3_new (t : TypeId) (o1 o2 o3 : Option Nat) (W : World) :
    Calls Tryz.prog 60 #[.slice (some ⟨W.heap.size, 0, none⟩) 3 3] (W.alloc (.cells #[errV t o1, errV t o2, errV t o3] 82)) fun e w' => e = .returned (errV t (firstOf [o1, o2, o3])) ∧ w' = W.alloc (.cells #[errV t o1, errV t o2, errV t o3] 82) :=
  first_any t W.heap.size 3 [o1, o2, o3] (by simp) _ (by
    intro k h
    match k, h with
    | 0, _ => simp
    | 1, _ => simp
    | 2, _ => simp)
theorem first4_new (t : TypeId) (o1 o2 o3 o4 : Option Nat) (W : World) :
    Calls Tryz.prog 60 #[.slice (some ⟨W.heap.size, 0, none⟩) 4 4] (W.alloc (.cells #[errV t o1, errV t o2, errV t o3, errV t o4] 82)) fun e w' => e = .returned (errV t (firstOf [o1, o2, o3, o4])) ∧ w' = W.alloc (.cells #[errV t o1, errV t o2, errV t o3, errV t o4] 82) :=
  first_any t W.heap.size 4 [o1, o2, o3, o4] (by simp) _ (by
    intro k h
    match k, h with
    | 0, _ => simp
    | 1, _ => simp
    | 2, _ => simp
    | 3, _ => simp)
end Go.Proofs.YtlccfpbbdgpjbaaGreatDoor

namespace Go.Proofs.YtlccfpbbdgpjbaaGreatDoor
open Go.RowKit
/-- nil, or a value behind an interface. -/
def isErr : Value → Bool
  | .nilIface => true
  | .iface _ _ => true
  | _ => false
theorem isErr_errV (t : TypeId) (o : Option Nat) : isErr (errV t o) = true := by cases o <;> rfl
theorem isErr_or {v : Value} (h : isErr v = true) : v = .nilIface ∨ ∃ t x, v = .iface t x := by
  cases v <;> first | exact .inl rfl | exact .inr ⟨_, _, rfl⟩ | (simp [isErr] at h)

theorem run_build3 (v1 v2 v3 : Value) (h1 : isErr v1 = true) (h2 : isErr v2 = true) (h3 : isErr v3 = true) (w : World) :
    (Instr.buildSlice 173 3 #[(0, v1), (1, v2), (2, v3)]).run Tryz.prog w = .ok (.slice (some ⟨w.heap.size, 0, none⟩) 3 3) (w.alloc (.cells #[v1, v2, v3] 82)) := by
  rcases isErr_or h1 with rfl | ⟨t1, x1, rfl⟩ <;> rcases isErr_or h2 with rfl | ⟨t2, x2, rfl⟩ <;> rcases isErr_or h3 with rfl | ⟨t3, x3, rfl⟩ <;> kernel_rfl
theorem run_build4 (v1 v2 v3 v4 : Value) (h1 : isErr v1 = true) (h2 : isErr v2 = true) (h3 : isErr v3 = true) (h4 : isErr v4 = true) (w : World) :
    (Instr.buildSlice 173 4 #[(0, v1), (1, v2), (2, v3), (3, v4)]).run Tryz.prog w = .ok (.slice (some ⟨w.heap.size, 0, none⟩) 4 4) (w.alloc (.cells #[v1, v2, v3, v4] 82)) := by
  rcases isErr_or h1 with rfl | ⟨t1, x1, rfl⟩ <;> rcases isErr_or h2 with rfl | ⟨t2, x2, rfl⟩ <;> rcases isErr_or h3 with rfl | ⟨t3, x3, rfl⟩ <;> rcases isErr_or h4 with rfl | ⟨t4, x4, rfl⟩ <;> kernel_rfl
theorem wp_build3 {d : Option Tmp} {ty : TypeId} {p : String} {af : Array Edge} {x y z : Operand} {a : Act} {w : World} {K : Act → World → Prop} {Q : Exit → Act → World → Prop}
    (h1 : isErr (a.eval x) = true) (h2 : isErr (a.eval y) = true) (h3 : isErr (a.eval z) = true) :
    Oper.wp Tryz.prog { dst := d, op := Op.buildSlice 173 3 #[(0, x), (1, y), (2, z)], type := ty, pos := p, after := af, guard := none } a w K Q
      = K (a.put d (.slice (some ⟨w.heap.size, 0, none⟩) 3 3)) (w.alloc (.cells #[a.eval x, a.eval y, a.eval z] 82)) := by
  have hr := run_build3 _ _ _ h1 h2 h3 w
  unfold Oper.wp execOp
  simp only [Sem.run_bind, List.map_toArray, List.map_cons, List.map_nil, hr, Result.andThen_ok, Sem.run_pure]
  rfl
theorem wp_build4 {d : Option Tmp} {ty : TypeId} {p : String} {af : Array Edge} {x y z u : Operand} {a : Act} {w : World} {K : Act → World → Prop} {Q : Exit → Act → World → Prop}
    (h1 : isErr (a.eval x) = true) (h2 : isErr (a.eval y) = true) (h3 : isErr (a.eval z) = true) (h4 : isErr (a.eval u) = true) :
    Oper.wp Tryz.prog { dst := d, op := Op.buildSlice 173 4 #[(0, x), (1, y), (2, z), (3, u)], type := ty, pos := p, after := af, guard := none } a w K Q
      = K (a.put d (.slice (some ⟨w.heap.size, 0, none⟩) 4 4)) (w.alloc (.cells #[a.eval x, a.eval y, a.eval z, a.eval u] 82)) := by
  have hr := run_build4 _ _ _ _ h1 h2 h3 h4 w
  unfold Oper.wp execOp
  simp only [Sem.run_bind, List.map_toArray, List.map_cons, List.map_nil, hr, Result.andThen_ok, Sem.run_pure]
  rfl
attribute [local go_sem ↓] Go.wp_at_zero Go.wp_at_succ wp_build3 wp_build4
attribute [local go_sem] isErr_errV

/-- What a group of checks gives: an error of number k unless 'fine' holds; nothing old has turned. -/
def Group (k : Int) (fine : Prop) (w : World) (ev : Ending) (w' : World) : Prop :=
  ∃ o : Option Nat, ev = .returned (errV 131 o) ∧ (o = none ↔ fine) ∧ (∀ b, o = some b → w.heap.size ≤ b ∧ w'.cell? ⟨b, 0, none⟩ = some (.int .i64 k)) ∧ Below w.heap.size w w'

theorem below_step {w w1 w2 : World} (h : Below w.heap.size w w1) (hb : Below w1.heap.size w1 w2) : Below w.heap.size w w2 := h.trans (hb.mono h.size)
theorem first3_none (o1 o2 o3 : Option Nat) : firstOf [o1, o2, o3] = none ↔ o1 = none ∧ o2 = none ∧ o3 = none := by simp [firstOf_none]
theorem first4_none (o1 o2 o3 o4 : Option Nat) : firstOf [o1, o2, o3, o4] = none ↔ o1 = none ∧ o2 = none ∧ o3 = none ∧ o4 = none := by simp [firstOf_none]

set_option maxRecDepth 100000 in
set_option maxHeartbeats 4000000 in
theorem units_any (a b c d e f g h i j : Int) (w : World) :
    Calls Tryz.prog 61 #[.agg #[.int .i64 a, .int .i64 b, .int .i64 c, .int .i64 d, .int .i64 e, .int .i64 f, .int .i64 g, .int .i64 h, .int .i64 i, .int .i64 j]] w
      (Group 1 ((0 ≤ a ∧ a ≤ 1000) ∧ (1 ≤ b ∧ b ≤ 1000) ∧ (0 ≤ c ∧ c ≤ 1000)) w) := by
  go_enter Tryz.func61, Tryz.ntmps61
  go_wp2_with fail
  go_region_held3 (fun w' => w.heap.size < w'.heap.size ∧ w'.cell? ⟨w.heap.size, 0, none⟩ = some (.int .i64 a) ∧ w'.cell? ⟨w.heap.size, 1, none⟩ = some (.int .i64 b) ∧ w'.cell? ⟨w.heap.size, 2, none⟩ = some (.int .i64 c))
    (first
      | (go_keep; done)
      | (go_split_ands
         have hsz := hb.size
         refine ⟨?_, ?_, ?_, ?_⟩
         · (first | omega | (simp; omega))
         · (first | (go_keep; done) | (rw [hb.cell (by assumption)]; assumption))
         · (first | (go_keep; done) | (rw [hb.cell (by assumption)]; assumption))
         · (first | (go_keep; done) | (rw [hb.cell (by assumption)]; assumption))))
    (first
      | (go_at_call 93; refine (within_any _ _ _ _ _).mono ?_; rintro e w' ⟨o, rfl, ho, hb⟩)
      | (go_at_call 60; refine (first3_new 202 _ _ _ _).mono ?_; rintro e w' ⟨rfl, rfl⟩)
      | (go_at_call 92; refine (fault_any _ _ _).mono ?_; rintro e w' ⟨o, rfl, ho, hp, hb⟩))
  rename_i K aK w1 o1 ho1 hb1 w2 o2 ho2 hb2 w3 o3 ho3 hb3 hH
  clear hH
  go_wp2_with fail
  go_ret
  have c0 : Below w.heap.size w (w.alloc (.cells #[.int .i64 a, .int .i64 b, .int .i64 c, .int .i64 d, .int .i64 e, .int .i64 f, .int .i64 g, .int .i64 h, .int .i64 i, .int .i64 j] 34)).drew := ((Below.refl _ _).alloc (Nat.le_refl _) _).drew
  have c1 := below_step c0 hb1
  have c2 := below_step c1 hb2
  have c3 := below_step c2 hb3
  have cn := c3.alloc c3.size (.cells #[errV 202 o1, errV 202 o2, errV 202 o3] 82)
  refine ⟨o, rfl, ?_, fun b' hb' => ⟨Nat.le_trans cn.size (hp b' hb').1, (hp b' hb').2⟩, below_step cn hb⟩
  rw [ho, first3_none, ho1, ho2, ho3]

set_option maxRecDepth 100000 in
set_option maxHeartbeats 4000000 in
theorem spans_any (a b c d e f g h i j : Int) (w : World) :
    Calls Tryz.prog 62 #[.agg #[.int .i64 a, .int .i64 b, .int .i64 c, .int .i64 d, .int .i64 e, .int .i64 f, .int .i64 g, .int .i64 h, .int .i64 i, .int .i64 j]] w
      (Group 2 ((1 ≤ d ∧ d ≤ 10000) ∧ (1 ≤ g ∧ g ≤ 10000) ∧ (g ≤ h ∧ h ≤ 10000)) w) := by
  go_enter Tryz.func62, Tryz.ntmps62
  go_wp2_with fail
  go_region_held3 (fun w' => w.heap.size < w'.heap.size ∧ w'.cell? ⟨w.heap.size, 3, none⟩ = some (.int .i64 d) ∧ w'.cell? ⟨w.heap.size, 6, none⟩ = some (.int .i64 g) ∧ w'.cell? ⟨w.heap.size, 7, none⟩ = some (.int .i64 h))
    (first
      | (go_keep; done)
      | (go_split_ands
         have hsz := hb.size
         refine ⟨?_, ?_, ?_, ?_⟩
         · (first | omega | (simp; omega))
         · (first | (go_keep; done) | (rw [hb.cell (by assumption)]; assumption))
         · (first | (go_keep; done) | (rw [hb.cell (by assumption)]; assumption))
         · (first | (go_keep; done) | (rw [hb.cell (by assumption)]; assumption))))
    (first
      | (go_at_call 93; refine (within_any _ _ _ _ _).mono ?_; rintro e w' ⟨o, rfl, ho, hb⟩)
      | (go_at_call 60; refine (first3_new 202 _ _ _ _).mono ?_; rintro e w' ⟨rfl, rfl⟩)
      | (go_at_call 92; refine (fault_any _ _ _).mono ?_; rintro e w' ⟨o, rfl, ho, hp, hb⟩))
  rename_i K aK w1 o1 ho1 hb1 w2 o2 ho2 hb2 w3 o3 ho3 hb3 hH
  clear hH
  go_wp2_with fail
  go_ret
  have c0 : Below w.heap.size w (w.alloc (.cells #[.int .i64 a, .int .i64 b, .int .i64 c, .int .i64 d, .int .i64 e, .int .i64 f, .int .i64 g, .int .i64 h, .int .i64 i, .int .i64 j] 34)).drew := ((Below.refl _ _).alloc (Nat.le_refl _) _).drew
  have c1 := below_step c0 hb1
  have c2 := below_step c1 hb2
  have c3 := below_step c2 hb3
  have cn := c3.alloc c3.size (.cells #[errV 202 o1, errV 202 o2, errV 202 o3] 82)
  refine ⟨o, rfl, ?_, fun b' hb' => ⟨Nat.le_trans cn.size (hp b' hb').1, (hp b' hb').2⟩, below_step cn hb⟩
  rw [ho, first3_none, ho1, ho2, ho3]

set_option maxRecDepth 100000 in
set_option maxHeartbeats 4000000 in
theorem counts_any (a b c d e f g h i j : Int) (w : World) :
    Calls Tryz.prog 63 #[.agg #[.int .i64 a, .int .i64 b, .int .i64 c, .int .i64 d, .int .i64 e, .int .i64 f, .int .i64 g, .int .i64 h, .int .i64 i, .int .i64 j]] w
      (Group 3 ((1 ≤ e ∧ e ≤ 6) ∧ (1 ≤ f ∧ f ≤ 8) ∧ (1 ≤ i ∧ i ≤ 100) ∧ (0 ≤ j ∧ j ≤ 32)) w) := by
  go_enter Tryz.func63, Tryz.ntmps63
  go_wp2_with fail
  go_region_held3 (fun w' => w.heap.size < w'.heap.size ∧ w'.cell? ⟨w.heap.size, 4, none⟩ = some (.int .i64 e) ∧ w'.cell? ⟨w.heap.size, 5, none⟩ = some (.int .i64 f) ∧ w'.cell? ⟨w.heap.size, 8, none⟩ = some (.int .i64 i) ∧ w'.cell? ⟨w.heap.size, 9, none⟩ = some (.int .i64 j))
    (first
      | (go_keep; done)
      | (go_split_ands
         have hsz := hb.size
         refine ⟨?_, ?_, ?_, ?_, ?_⟩
         · (first | omega | (simp; omega))
         · (first | (go_keep; done) | (rw [hb.cell (by assumption)]; assumption))
         · (first | (go_keep; done) | (rw [hb.cell (by assumption)]; assumption))
         · (first | (go_keep; done) | (rw [hb.cell (by assumption)]; assumption))
         · (first | (go_keep; done) | (rw [hb.cell (by assumption)]; assumption))))
    (first
      | (go_at_call 93; refine (within_any _ _ _ _ _).mono ?_; rintro e w' ⟨o, rfl, ho, hb⟩)
      | (go_at_call 60; refine (first4_new 202 _ _ _ _ _).mono ?_; rintro e w' ⟨rfl, rfl⟩)
      | (go_at_call 92; refine (fault_any _ _ _).mono ?_; rintro e w' ⟨o, rfl, ho, hp, hb⟩))
  rename_i K aK w1 o1 ho1 hb1 w2 o2 ho2 hb2 w3 o3 ho3 hb3 w4 o4 ho4 hb4 hH
  clear hH
  go_wp2_with fail
  go_ret
  have c0 : Below w.heap.size w (w.alloc (.cells #[.int .i64 a, .int .i64 b, .int .i64 c, .int .i64 d, .int .i64 e, .int .i64 f, .int .i64 g, .int .i64 h, .int .i64 i, .int .i64 j] 34)).drew := ((Below.refl _ _).alloc (Nat.le_refl _) _).drew
  have c1 := below_step c0 hb1
  have c2 := below_step c1 hb2
  have c3 := below_step c2 hb3
  have c4 := below_step c3 hb4
  have cn := c4.alloc c4.size (.cells #[errV 202 o1, errV 202 o2, errV 202 o3, errV 202 o4] 82)
  refine ⟨o, rfl, ?_, fun b' hb' => ⟨Nat.le_trans cn.size (hp b' hb').1, (hp b' hb').2⟩, below_step cn hb⟩
  rw [ho, first4_none, ho1, ho2, ho3, ho4]

end Go.Proofs.YtlccfpbbdgpjbaaGreatDoor

namespace Go.Proofs.YtlccfpbbdgpjbaaGreatDoor
open Go.RowKit Go.Extern.Stop Go.Stop Go.Extern

/-- errors.As(nil, target). -/
theorem as_nil (t : Value) (w : World) :
    Calls Tryz.prog 59 #[.nilIface, t] w fun e w' => e = .returned (.bool false) ∧ w' = w := by
  go_enter Tryz.func59, Tryz.ntmps59
  go_wp2
  go_ret
  exact ⟨rfl, rfl⟩

/-! ### The entries of internal/reflectlite at this program's types. -/
theorem Tryz.valueOf27 (t : Addr) (w : World) : (ReflectliteValue.unpack (.iface 133 (.pointer (some t)))).run Tryz.prog w
    = .ok (.agg #[.pointer (some ⟨1, 133, none⟩), .pointer (some ⟨w.heap.size, 0, none⟩), .int .u64 150]) (w.alloc (.cells #[.pointer (some t)] 133)) := by kernel_rfl
theorem Tryz.type27 (a : Addr) (w : World) : (ReflectliteValue.methodAny (ReflectliteValue.valueError "reflectlite.Value.Type" 0) (fun t _ _ _ => ReflectliteType.toType t) #[.agg #[.pointer (some ⟨1, 133, none⟩), .pointer (some a), .int .u64 150]]).run Tryz.prog w
    = .ok (.iface 190 (.agg #[.pointer (some ⟨1, 133, none⟩)])) w := by kernel_rfl
theorem Tryz.methodKind (h : Value) (w : World) : (Go.method 362 190 (.agg #[h]) "Kind").run Tryz.prog w = .ok (162, h) w := by kernel_rfl
theorem Tryz.kind27 (w : World) : ((ReflectliteType.abiMethod fun t => (fun a : Nat => Value.int IntKind.u8 (a : Int)) <$> Rtype.kind t) #[.pointer (some ⟨1, 133, none⟩)]).run Tryz.prog w = .ok (.int .u8 22) w := by kernel_rfl
theorem Tryz.kind25 (w : World) : ((ReflectliteType.abiMethod fun t => (fun a : Nat => Value.int IntKind.u8 (a : Int)) <$> Rtype.kind t) #[.pointer (some ⟨1, 131, none⟩)]).run Tryz.prog w = .ok (.int .u8 22) w := by kernel_rfl

/-! ### The entries that read or write memory. -/
theorem rlm (z : Sem Value) (f : TypeId → Addr → Nat → Nat → Sem Value) (v : Value) :
    ReflectliteValue.method z f #[v] = (do match ← ReflectliteValue.parts v with | none => z | some (t, a, fl) => f t a fl (fl % 32)) := rfl
theorem Tryz.parts27 (a : Addr) (w : World) : (ReflectliteValue.parts (.agg #[.pointer (some ⟨1, 133, none⟩), .pointer (some a), .int .u64 150])).run Tryz.prog w = .ok (some (133, a, 150)) w := by kernel_rfl
/-- IsNil of the target's Value: false. -/
theorem Tryz.isNil27 (a p : Addr) (W : World) (ha : W.cell? a = some (.pointer (some p))) :
    (ReflectliteValue.method (ReflectliteValue.valueError "reflectlite.Value.IsNil" 0) ReflectliteValue.isNil #[.agg #[.pointer (some ⟨1, 133, none⟩), .pointer (some a), .int .u64 150]]).run Tryz.prog W = .ok (.bool false) W := by
  rw [rlm]
  simp only [Sem.run_bind, Tryz.parts27, Result.andThen]
  simp [ReflectliteValue.isNil, loadVar, isAgg, underlying, Tryz.underlying133, ha, Result.andThen]

theorem Tryz.methodElem (h : Value) (w : World) : (Go.method 362 190 (.agg #[h]) "Elem").run Tryz.prog w = .ok (174, .agg #[h]) w := by kernel_rfl
theorem Tryz.methodImplements (h : Value) (w : World) : (Go.method 362 190 (.agg #[h]) "Implements").run Tryz.prog w = .ok (175, .agg #[h]) w := by kernel_rfl
theorem Tryz.methodAssignableTo (h : Value) (w : World) : (Go.method 362 190 (.agg #[h]) "AssignableTo").run Tryz.prog w = .ok (172, .agg #[h]) w := by kernel_rfl
theorem Tryz.elem27 (w : World) : (ReflectliteType.method ReflectliteType.elem #[.agg #[.pointer (some ⟨1, 133, none⟩)]]).run Tryz.prog w = .ok (.iface 190 (.agg #[.pointer (some ⟨1, 131, none⟩)])) w := by kernel_rfl
theorem Tryz.implements25 (w : World) : (ReflectliteType.relation "Implements" ReflectliteType.implements_ #[.agg #[.pointer (some ⟨1, 131, none⟩)], .iface 190 (.agg #[.pointer (some ⟨1, 82, none⟩)])]).run Tryz.prog w = .ok (.bool true) w := by kernel_rfl
theorem Tryz.typeOf25 (v : Value) (w : World) : (ReflectliteType.typeOf #[.iface 131 v]).run Tryz.prog w = .ok (.iface 190 (.agg #[.pointer (some ⟨1, 131, none⟩)])) w := by kernel_rfl
theorem Tryz.assignable25 (w : World) : (ReflectliteType.relation "AssignableTo" ReflectliteType.assignableTo #[.agg #[.pointer (some ⟨1, 131, none⟩)], .iface 190 (.agg #[.pointer (some ⟨1, 131, none⟩)])]).run Tryz.prog w = .ok (.bool true) w := by kernel_rfl
theorem Tryz.valueOf25 (e : Addr) (w : World) : (ReflectliteValue.unpack (.iface 131 (.pointer (some e)))).run Tryz.prog w
    = .ok (.agg #[.pointer (some ⟨1, 131, none⟩), .pointer (some ⟨w.heap.size, 0, none⟩), .int .u64 150]) (w.alloc (.cells #[.pointer (some e)] 131)) := by kernel_rfl

theorem Tryz.elemOf27 (w : World) : (Rtype.elem? 133).run Tryz.prog w = .ok (some 131) w := by kernel_rfl
theorem Tryz.mk25 (p : Addr) (w : World) : (ReflectliteValue.mk 131 p ReflectliteValue.flagAddr).run Tryz.prog w = .ok (.agg #[.pointer (some ⟨1, 131, none⟩), .pointer (some p), .int .u64 406]) w := by kernel_rfl
/-- Elem of the target's Value: the variable that it points to, addressable. -/
theorem Tryz.elemV27 (a p : Addr) (W : World) (ha : W.cell? a = some (.pointer (some p))) :
    (ReflectliteValue.method (ReflectliteValue.valueError "reflectlite.Value.Elem" 0) ReflectliteValue.elem #[.agg #[.pointer (some ⟨1, 133, none⟩), .pointer (some a), .int .u64 150]]).run Tryz.prog W
      = .ok (.agg #[.pointer (some ⟨1, 131, none⟩), .pointer (some p), .int .u64 406]) W := by
  rw [rlm]
  simp only [Sem.run_bind, Tryz.parts27, Result.andThen]
  simp [ReflectliteValue.elem, loadVar, isAgg, underlying, Tryz.underlying133, ha, Result.andThen, Tryz.elemOf27, Tryz.mk25]
theorem getLit1 (a b : Value) (p : (#[a, b] : Array Value).size = 2) (q : 1 < 2) : (#[a, b] : Array Value).getLit 1 p q = b := rfl
theorem Tryz.parts25a (a : Addr) (w : World) : (ReflectliteValue.parts (.agg #[.pointer (some ⟨1, 131, none⟩), .pointer (some a), .int .u64 406])).run Tryz.prog w = .ok (some (131, a, 406)) w := by kernel_rfl
theorem Tryz.parts25 (a : Addr) (w : World) : (ReflectliteValue.parts (.agg #[.pointer (some ⟨1, 131, none⟩), .pointer (some a), .int .u64 150])).run Tryz.prog w = .ok (some (131, a, 150)) w := by kernel_rfl
theorem Tryz.direct25 (w : World) : (Rtype.directlyAssignable 131 131).run Tryz.prog w = .ok true w := by kernel_rfl
theorem Tryz.size25 (w : World) : (sizeOf 131).run Tryz.prog w = .ok 1 w := by kernel_rfl
/-- Set: the variable at ta gets what the other Value's variable holds. -/
theorem Tryz.set25 (ta b e : Addr) (old : Value) (W : World) (hb : W.cell? b = some (.pointer (some e))) (ht : W.cell? ta = some old) (hf : W.frozen? ta = false) :
    (ReflectliteValue.set #[.agg #[.pointer (some ⟨1, 131, none⟩), .pointer (some ta), .int .u64 406], .agg #[.pointer (some ⟨1, 131, none⟩), .pointer (some b), .int .u64 150]]).run Tryz.prog W
      = .ok (.tuple #[]) (W.setCell ta (.pointer (some e))) := by
  show (ReflectliteValue.parts (.agg #[.pointer (some ⟨1, 131, none⟩), .pointer (some ta), .int .u64 406]) >>= _ : Sem Value).run Tryz.prog W = _
  simp only [getLit1, Sem.run_bind, Tryz.parts25a, Tryz.parts25, Result.andThen]
  simp [ReflectliteValue.flagAddr, loadVar, isAgg, underlying, Tryz.underlying131, hb, Result.andThen, Tryz.direct25, storeVar, Value.cells, storeCells, Addr.add]
  rw [run_store Tryz.prog W ta _ _ (by rfl)]
  simp [ht, hf]

set_option maxHeartbeats 4000000 in
theorem as_hit (e t : Addr) (old : Value) (w : World) (hg : w.cell? ⟨0, 0, none⟩ = some (.iface 190 (.agg #[.pointer (some ⟨1, 82, none⟩)]))) (ht0 : w.cell? t = some old) (hf0 : w.frozen? t = false) :
    Calls Tryz.prog 59 #[.iface 131 (.pointer (some e)), .iface 133 (.pointer (some t))] w fun ev w' => ev = .returned (.bool true) ∧ w' = ((((w.alloc (.cells #[.pointer (some t)] 133)).alloc (.cells #[.pointer (some ⟨1, 133, none⟩), .pointer (some ⟨w.heap.size, 0, none⟩), .int .u64 150] 164)).alloc (.cells #[.pointer (some ⟨1, 133, none⟩), .pointer (some ⟨w.heap.size, 0, none⟩), .int .u64 150] 164)).alloc (.cells #[.pointer (some e)] 131)).setCell t (.pointer (some e)) := by
  have h6 := @run_callFunc_extern Tryz.prog 88 _ (fun args => ReflectliteValue.unpack (args.getD 0 (.tuple #[]))) Tryz.func88 (by kernel_rfl) (by kernel_rfl) (by kernel_rfl) (by kernel_rfl)
  have h7 := @run_callFunc_extern Tryz.prog 89 _ (ReflectliteValue.methodAny (ReflectliteValue.valueError "reflectlite.Value.Type" 0) (fun t _ _ _ => ReflectliteType.toType t)) Tryz.func89 (by kernel_rfl) (by kernel_rfl) (by kernel_rfl) (by kernel_rfl)
  have h8 := @run_callFunc_extern Tryz.prog 90 _ (ReflectliteValue.method (ReflectliteValue.valueError "reflectlite.Value.IsNil" 0) ReflectliteValue.isNil) Tryz.func90 (by kernel_rfl) (by kernel_rfl) (by kernel_rfl) (by kernel_rfl)
  have h27 := @run_callFunc_extern Tryz.prog 162 _ (ReflectliteType.abiMethod fun t => do pure (.int .u8 (← Rtype.kind t))) Tryz.func162 (by kernel_rfl) (by kernel_rfl) (by kernel_rfl) (by kernel_rfl)
  have h37 := @run_callFunc_extern Tryz.prog 174 _ (ReflectliteType.method ReflectliteType.elem) Tryz.func174 (by kernel_rfl) (by kernel_rfl) (by kernel_rfl) (by kernel_rfl)
  have h38 := @run_callFunc_extern Tryz.prog 175 _ (ReflectliteType.relation "Implements" ReflectliteType.implements_) Tryz.func175 (by kernel_rfl) (by kernel_rfl) (by kernel_rfl) (by kernel_rfl)
  have h10 := @run_callFunc_extern Tryz.prog 111 _ ReflectliteType.typeOf Tryz.func111 (by kernel_rfl) (by kernel_rfl) (by kernel_rfl) (by kernel_rfl)
  have h35 := @run_callFunc_extern Tryz.prog 172 _ (ReflectliteType.relation "AssignableTo" ReflectliteType.assignableTo) Tryz.func172 (by kernel_rfl) (by kernel_rfl) (by kernel_rfl) (by kernel_rfl)
  have h11 := @run_callFunc_extern Tryz.prog 112 _ (ReflectliteValue.method (ReflectliteValue.valueError "reflectlite.Value.Elem" 0) ReflectliteValue.elem) Tryz.func112 (by kernel_rfl) (by kernel_rfl) (by kernel_rfl) (by kernel_rfl)
  have h12 := @run_callFunc_extern Tryz.prog 113 _ ReflectliteValue.set Tryz.func113 (by kernel_rfl) (by kernel_rfl) (by kernel_rfl) (by kernel_rfl)
  have tO := Tryz.typeOf25
  have mA := Tryz.methodAssignableTo
  have a25 := Tryz.assignable25
  have v25 := Tryz.valueOf25
  have f6 := Tryz.valueOf27
  have f7 := Tryz.type27
  have mK := Tryz.methodKind
  have mE := Tryz.methodElem
  have mI := Tryz.methodImplements
  have k27 := Tryz.kind27
  have k25 := Tryz.kind25
  have e27 := Tryz.elem27
  have i25 := Tryz.implements25
  have n8 := Tryz.isNil27 ⟨w.heap.size, 0, none⟩ t ((w.alloc (.cells #[.pointer (some t)] 133)).alloc (.cells #[.pointer (some ⟨1, 133, none⟩), .pointer (some ⟨w.heap.size, 0, none⟩), .int .u64 150] 164)) (by simp)
  have hlt : 0 < w.heap.size := by
    rcases Nat.eq_zero_or_pos w.heap.size with h0 | h
    · simp [World.cell?, h0] at hg
    · exact h
  have hg2 : ((w.alloc (.cells #[.pointer (some t)] 133)).alloc (.cells #[.pointer (some ⟨1, 133, none⟩), .pointer (some ⟨w.heap.size, 0, none⟩), .int .u64 150] 164)).cell? ⟨0, 0, none⟩ = some (.iface 190 (.agg #[.pointer (some ⟨1, 82, none⟩)])) := by
    rw [World.cell?_alloc_lt _ _ ⟨0, 0, none⟩ (by simp), World.cell?_alloc_lt _ _ ⟨0, 0, none⟩ hlt]; exact hg
  have htl : t.block < w.heap.size := by
    rcases Nat.lt_or_ge t.block w.heap.size with h | h
    · exact h
    · simp [World.cell?, Array.getElem?_eq_none h] at ht0
  have el := Tryz.elemV27 ⟨w.heap.size, 0, none⟩ t (((w.alloc (.cells #[.pointer (some t)] 133)).alloc (.cells #[.pointer (some ⟨1, 133, none⟩), .pointer (some ⟨w.heap.size, 0, none⟩), .int .u64 150] 164)).alloc (.cells #[.pointer (some ⟨1, 133, none⟩), .pointer (some ⟨w.heap.size, 0, none⟩), .int .u64 150] 164)) (by rw [World.cell?_alloc_lt _ _ ⟨w.heap.size, 0, none⟩ (by simp; omega)]; simp)
  have st := Tryz.set25 t ⟨w.heap.size + 1 + 1 + 1, 0, none⟩ e old ((((w.alloc (.cells #[.pointer (some t)] 133)).alloc (.cells #[.pointer (some ⟨1, 133, none⟩), .pointer (some ⟨w.heap.size, 0, none⟩), .int .u64 150] 164)).alloc (.cells #[.pointer (some ⟨1, 133, none⟩), .pointer (some ⟨w.heap.size, 0, none⟩), .int .u64 150] 164)).alloc (.cells #[.pointer (some e)] 131))
    (by rw [World.cell?_alloc_at _ _ _ _ (by simp)]; rfl)
    (by rw [World.cell?_alloc_lt _ _ t (by simp; omega), World.cell?_alloc_lt _ _ t (by simp; omega), World.cell?_alloc_lt _ _ t (by simp; omega), World.cell?_alloc_lt _ _ t htl]; exact ht0)
    (by rw [World.frozen?_alloc_old _ _ t (by simp; omega), World.frozen?_alloc_old _ _ t (by simp; omega), World.frozen?_alloc_old _ _ t (by simp; omega), World.frozen?_alloc_old _ _ t (Nat.ne_of_lt htl)]; exact hf0)
  go_enter Tryz.func59, Tryz.ntmps59
  go_wp2
  refine wp_loop_rounds 1 ?_
  rw [rounds_succ]
  go_wp2
  go_ret
  exact ⟨rfl, rfl⟩
end Go.Proofs.YtlccfpbbdgpjbaaGreatDoor

namespace Go.Proofs.YtlccfpbbdgpjbaaGreatDoor
open Go.RowKit
attribute [local go_sem ↓] Go.wp_at_zero Go.wp_at_succ wp_build3 wp_build4
attribute [local go_sem] isErr_errV

/-- What is first wrong with a Config, by its number; 0: nothing. -/
def cfgErr (a b c d e f g h i j : Int) : Int :=
  if ¬ ((0 ≤ a ∧ a ≤ 1000) ∧ (1 ≤ b ∧ b ≤ 1000) ∧ (0 ≤ c ∧ c ≤ 1000)) then 1
  else if ¬ ((1 ≤ d ∧ d ≤ 10000) ∧ (1 ≤ g ∧ g ≤ 10000) ∧ (g ≤ h ∧ h ≤ 10000)) then 2
  else if ¬ ((1 ≤ e ∧ e ≤ 6) ∧ (1 ≤ f ∧ f ≤ 8) ∧ (1 ≤ i ∧ i ≤ 100) ∧ (0 ≤ j ∧ j ≤ 32)) then 3
  else 0

/-- An error, if any, of number k; nothing old has turned. -/
def Told (k : Int) (w : World) (ev : Ending) (w' : World) : Prop :=
  ∃ o : Option Nat, ev = .returned (errV 131 o) ∧ (o = none ↔ k = 0) ∧ (∀ b, o = some b → w.heap.size ≤ b ∧ w'.cell? ⟨b, 0, none⟩ = some (.int .i64 k)) ∧ Below w.heap.size w w'

theorem told_first {U S C : Prop} {o1 o2 o3 : Option Nat} (h1 : o1 = none ↔ U) (h2 : o2 = none ↔ S) (h3 : o3 = none ↔ C) {k : Int} (hk : (¬ U → k = 1) ∧ (U → ¬ S → k = 2) ∧ (U → S → ¬ C → k = 3) ∧ (U → S → C → k = 0)) {w' : World} {B : Nat}
    (p1 : ∀ b, o1 = some b → B ≤ b ∧ w'.cell? ⟨b, 0, none⟩ = some (.int .i64 1)) (p2 : ∀ b, o2 = some b → B ≤ b ∧ w'.cell? ⟨b, 0, none⟩ = some (.int .i64 2)) (p3 : ∀ b, o3 = some b → B ≤ b ∧ w'.cell? ⟨b, 0, none⟩ = some (.int .i64 3)) :
    (firstOf [o1, o2, o3] = none ↔ k = 0) ∧ ∀ b, firstOf [o1, o2, o3] = some b → B ≤ b ∧ w'.cell? ⟨b, 0, none⟩ = some (.int .i64 k) := by
  obtain ⟨k1, k2, k3, k0⟩ := hk
  cases o1 with
  | some b1 =>
    have hU : ¬ U := fun h => by simpa using h1.2 h
    have := k1 hU
    subst this
    exact ⟨by simp [firstOf], fun b hb => p1 b (by simpa [firstOf] using hb)⟩
  | none =>
    have hU : U := h1.1 rfl
    cases o2 with
    | some b2 =>
      have hS : ¬ S := fun h => by simpa using h2.2 h
      have := k2 hU hS
      subst this
      exact ⟨by simp [firstOf], fun b hb => p2 b (by simpa [firstOf] using hb)⟩
    | none =>
      have hS : S := h2.1 rfl
      cases o3 with
      | some b3 =>
        have hC : ¬ C := fun h => by simpa using h3.2 h
        have := k3 hU hS hC
        subst this
        exact ⟨by simp [firstOf], fun b hb => p3 b (by simpa [firstOf] using hb)⟩
      | none =>
        have hC : C := h3.1 rfl
        have := k0 hU hS hC
        subst this
        exact ⟨by simp [firstOf], fun b hb => by simp [firstOf] at hb⟩

theorem cfgErr_ways (a b c d e f g h i j : Int) :
    (¬ ((0 ≤ a ∧ a ≤ 1000) ∧ (1 ≤ b ∧ b ≤ 1000) ∧ (0 ≤ c ∧ c ≤ 1000)) → cfgErr a b c d e f g h i j = 1) ∧
    (((0 ≤ a ∧ a ≤ 1000) ∧ (1 ≤ b ∧ b ≤ 1000) ∧ (0 ≤ c ∧ c ≤ 1000)) → ¬ ((1 ≤ d ∧ d ≤ 10000) ∧ (1 ≤ g ∧ g ≤ 10000) ∧ (g ≤ h ∧ h ≤ 10000)) → cfgErr a b c d e f g h i j = 2) ∧
    (((0 ≤ a ∧ a ≤ 1000) ∧ (1 ≤ b ∧ b ≤ 1000) ∧ (0 ≤ c ∧ c ≤ 1000)) → ((1 ≤ d ∧ d ≤ 10000) ∧ (1 ≤ g ∧ g ≤ 10000) ∧ (g ≤ h ∧ h ≤ 10000)) → ¬ ((1 ≤ e ∧ e ≤ 6) ∧ (1 ≤ f ∧ f ≤ 8) ∧ (1 ≤ i ∧ i ≤ 100) ∧ (0 ≤ j ∧ j ≤ 32)) → cfgErr a b c d e f g h i j = 3) ∧
    (((0 ≤ a ∧ a ≤ 1000) ∧ (1 ≤ b ∧ b ≤ 1000) ∧ (0 ≤ c ∧ c ≤ 1000)) → ((1 ≤ d ∧ d ≤ 10000) ∧ (1 ≤ g ∧ g ≤ 10000) ∧ (g ≤ h ∧ h ≤ 10000)) → ((1 ≤ e ∧ e ≤ 6) ∧ (1 ≤ f ∧ f ≤ 8) ∧ (1 ≤ i ∧ i ≤ 100) ∧ (0 ≤ j ∧ j ≤ 32)) → cfgErr a b c d e f g h i j = 0) := by
  unfold cfgErr
  refine ⟨fun u => if_pos u, fun u s => ?_, fun u s c' => ?_, fun u s c' => ?_⟩
  · rw [if_neg (fun n => n u), if_pos s]
  · rw [if_neg (fun n => n u), if_neg (fun n => n s), if_pos c']
  · rw [if_neg (fun n => n u), if_neg (fun n => n s), if_neg (fun n => n c')]

theorem cell_on {w w' : World} (hb : Below w.heap.size w w') {p : Addr} {v : Value} (h : w.cell? p = some v) : w'.cell? p = some v :=
  (hb.cell (World.block_lt_of_cell? w p h)).trans h

set_option maxRecDepth 100000 in
set_option maxHeartbeats 4000000 in
theorem config_any (a b c d e f g h i j : Int) (w : World) :
    Calls Tryz.prog 35 #[.agg #[.int .i64 a, .int .i64 b, .int .i64 c, .int .i64 d, .int .i64 e, .int .i64 f, .int .i64 g, .int .i64 h, .int .i64 i, .int .i64 j]] w
      (Told (cfgErr a b c d e f g h i j) w) := by
  go_enter Tryz.func35, Tryz.ntmps35
  go_wp2_with fail
  go_region_held3 (fun w' => w.heap.size < w'.heap.size ∧ w'.cell? ⟨w.heap.size, 0, none⟩ = some (.int .i64 a) ∧ w'.cell? ⟨w.heap.size, 1, none⟩ = some (.int .i64 b) ∧ w'.cell? ⟨w.heap.size, 2, none⟩ = some (.int .i64 c)
      ∧ w'.cell? ⟨w.heap.size, 3, none⟩ = some (.int .i64 d) ∧ w'.cell? ⟨w.heap.size, 4, none⟩ = some (.int .i64 e) ∧ w'.cell? ⟨w.heap.size, 5, none⟩ = some (.int .i64 f) ∧ w'.cell? ⟨w.heap.size, 6, none⟩ = some (.int .i64 g)
      ∧ w'.cell? ⟨w.heap.size, 7, none⟩ = some (.int .i64 h) ∧ w'.cell? ⟨w.heap.size, 8, none⟩ = some (.int .i64 i) ∧ w'.cell? ⟨w.heap.size, 9, none⟩ = some (.int .i64 j))
    (first
      | (go_keep; done)
      | (go_split_ands
         have hsz := hb.size
         refine ⟨?_, ?_, ?_, ?_, ?_, ?_, ?_, ?_, ?_, ?_, ?_⟩
         · (first | omega | (simp; omega))
         all_goals (first | (rw [hb.cell (by assumption)]; assumption) | (go_keep; done))))
    (first
      | (go_at_call 61; refine (units_any _ _ _ _ _ _ _ _ _ _ _).mono ?_; rintro ev w' ⟨o, rfl, ho, hp, hb⟩)
      | (go_at_call 62; refine (spans_any _ _ _ _ _ _ _ _ _ _ _).mono ?_; rintro ev w' ⟨o, rfl, ho, hp, hb⟩)
      | (go_at_call 63; refine (counts_any _ _ _ _ _ _ _ _ _ _ _).mono ?_; rintro ev w' ⟨o, rfl, ho, hp, hb⟩)
      | (go_at_call 60; refine (first3_new 131 _ _ _ _).mono ?_; rintro ev w' ⟨rfl, rfl⟩))
  rename_i K aK w1 o1 ho1 hp1 hb1 w2 o2 ho2 hp2 hb2 hH
  clear hH
  go_wp2_with fail
  go_ret
  have c0 : Below w.heap.size w (w.alloc (.cells #[.int .i64 a, .int .i64 b, .int .i64 c, .int .i64 d, .int .i64 e, .int .i64 f, .int .i64 g, .int .i64 h, .int .i64 i, .int .i64 j] 34)).drew := ((Below.refl _ _).alloc (Nat.le_refl _) _).drew
  have c1 := below_step c0 hb1
  have c2 := below_step c1 hb2
  have c3 := below_step c2 hb
  have c4 := c3.alloc c3.size (.cells #[errV 131 o1, errV 131 o2, errV 131 o] 82)
  have d3 : Below w'.heap.size w' (w'.alloc (.cells #[errV 131 o1, errV 131 o2, errV 131 o] 82)) := (Below.refl _ _).alloc (Nat.le_refl _) _
  have hf := told_first ho1 ho2 ho (cfgErr_ways a b c d e f g h i j) (w' := w'.alloc (.cells #[errV 131 o1, errV 131 o2, errV 131 o] 82)) (B := w.heap.size)
    (fun b' hb' => ⟨Nat.le_trans c0.size (hp1 b' hb').1, cell_on d3 (cell_on hb (cell_on hb2 (hp1 b' hb').2))⟩)
    (fun b' hb' => ⟨Nat.le_trans c1.size (hp2 b' hb').1, cell_on d3 (cell_on hb (hp2 b' hb').2)⟩)
    (fun b' hb' => ⟨Nat.le_trans c2.size (hp b' hb').1, cell_on d3 (hp b' hb').2⟩)
  exact ⟨_, rfl, hf.1, hf.2, c4⟩

/-- errors.As at a Fault, said of what its caller sees. -/
theorem as_fault (e t : Addr) (old : Value) (w : World) (hg : w.cell? ⟨0, 0, none⟩ = some (.iface 190 (.agg #[.pointer (some ⟨1, 82, none⟩)]))) (ht0 : w.cell? t = some old) (hf0 : w.frozen? t = false) :
    Calls Tryz.prog 59 #[.iface 131 (.pointer (some e)), .iface 133 (.pointer (some t))] w fun ev w' => ev = .returned (.bool true) ∧ w'.cell? t = some (.pointer (some e)) ∧ (∀ p v, p.block ≠ t.block → w.cell? p = some v → w'.cell? p = some v) ∧ Below t.block w w' := by
  refine (as_hit e t old w hg ht0 hf0).mono ?_
  rintro ev w' ⟨rfl, rfl⟩
  have hlt := World.block_lt_of_cell? w t ht0
  have hb : Below w.heap.size w ((((w.alloc (.cells #[.pointer (some t)] 133)).alloc (.cells #[.pointer (some ⟨1, 133, none⟩), .pointer (some ⟨w.heap.size, 0, none⟩), .int .u64 150] 164)).alloc (.cells #[.pointer (some ⟨1, 133, none⟩), .pointer (some ⟨w.heap.size, 0, none⟩), .int .u64 150] 164)).alloc (.cells #[.pointer (some e)] 131)) :=
    ((((Below.refl _ _).alloc (Nat.le_refl _) _).alloc (by simp) _).alloc (by simp; omega) _).alloc (by simp; omega) _
  refine ⟨rfl, ?_, fun p v hp hv => ?_, (hb.mono (Nat.le_of_lt hlt)).setCell (Nat.le_refl _) _⟩
  · exact World.cell?_setCell_same _ _ _ (cell_on hb ht0)
  · rw [World.cell?_of_block (Below.heap_setCell _ _ _ _ hp)]
    exact cell_on hb hv

set_option maxHeartbeats 800000 in
theorem number_nil (w : World) : Calls Tryz.prog 34 #[.nilIface] w fun e w' => e = .returned (.int .i64 0) ∧ Below w.heap.size w w' := by
  go_enter Tryz.func34, Tryz.ntmps34
  go_wp2_with fail
  refine (as_nil _ _).mono ?_
  rintro e w' ⟨rfl, rfl⟩
  go_wp2_with fail
  go_ret
  exact ⟨rfl, (Below.refl _ _).alloc (Nat.le_refl _) _⟩

set_option maxHeartbeats 800000 in
theorem number_fault (b : Nat) (k : Int) (w : World) (hg : w.cell? ⟨0, 0, none⟩ = some (.iface 190 (.agg #[.pointer (some ⟨1, 82, none⟩)]))) (hc : w.cell? ⟨b, 0, none⟩ = some (.int .i64 k)) :
    Calls Tryz.prog 34 #[.iface 131 (.pointer (some ⟨b, 0, none⟩))] w fun e w' => e = .returned (.int .i64 k) ∧ Below w.heap.size w w' := by
  have lb : b < w.heap.size := World.block_lt_of_cell? w _ hc
  have hA : Below w.heap.size w (w.alloc (.cells #[.pointer none] 131)) := (Below.refl _ _).alloc (Nat.le_refl _) _
  have HA := as_fault ⟨b, 0, none⟩ ⟨w.heap.size, 0, none⟩ (.pointer none) (w.alloc (.cells #[.pointer none] 131)) (cell_on hA hg) (by simp) (by simp)
  have HC := cell_on hA hc
  have H : Hid (Calls Tryz.prog 59 #[.iface 131 (.pointer (some ⟨b, 0, none⟩)), .iface 133 (.pointer (some ⟨w.heap.size, 0, none⟩))] (w.alloc (.cells #[.pointer none] 131)) fun ev w' => ev = .returned (.bool true) ∧ w'.cell? ⟨w.heap.size, 0, none⟩ = some (.pointer (some ⟨b, 0, none⟩)) ∧ w'.cell? ⟨b, 0, none⟩ = some (.int .i64 k) ∧ Below w.heap.size w w') := by
    refine HA.mono ?_
    rintro ev w' ⟨rfl, h1, h2, h3⟩
    exact ⟨rfl, h1, h2 _ _ (by simp; omega) HC, hA.trans h3⟩
  clear HA HC hA hg
  go_enter Tryz.func34, Tryz.ntmps34
  go_wp2_with fail
  refine H.out.mono ?_
  rintro ev w' ⟨rfl, h1, h2, h3⟩
  go_wp2_with fail
  go_ret
  exact ⟨rfl, h3⟩

theorem number_any (o : Option Nat) (k : Int) (w : World) (hg : w.cell? ⟨0, 0, none⟩ = some (.iface 190 (.agg #[.pointer (some ⟨1, 82, none⟩)]))) (h0 : o = none ↔ k = 0) (hc : ∀ b, o = some b → w.cell? ⟨b, 0, none⟩ = some (.int .i64 k)) :
    Calls Tryz.prog 34 #[errV 131 o] w fun e w' => e = .returned (.int .i64 k) ∧ Below w.heap.size w w' := by
  cases o with
  | none =>
    have : k = 0 := h0.1 rfl
    subst this
    exact number_nil w
  | some b => exact number_fault b k w hg (hc b rfl)

/-- The global that errors.As reads. -/
def Laid (w : World) : Prop := w.cell? ⟨0, 0, none⟩ = some (.iface 190 (.agg #[.pointer (some ⟨1, 82, none⟩)]))
theorem Laid.on {w w' : World} (h : Laid w) (hb : Below w.heap.size w w') : Laid w' := cell_on hb h

/-- The boxed Config is as it was. -/
theorem cfg_cells (a b c d e f g h i j : Int) (w w2 : World) (t : TypeId) (hb : Below (w.alloc (.cells #[.int .i64 a, .int .i64 b, .int .i64 c, .int .i64 d, .int .i64 e, .int .i64 f, .int .i64 g, .int .i64 h, .int .i64 i, .int .i64 j] t)).heap.size (w.alloc (.cells #[.int .i64 a, .int .i64 b, .int .i64 c, .int .i64 d, .int .i64 e, .int .i64 f, .int .i64 g, .int .i64 h, .int .i64 i, .int .i64 j] t)) w2) :
    w2.cell? ⟨w.heap.size, 0, none⟩ = some (.int .i64 a) ∧ w2.cell? ⟨w.heap.size, 1, none⟩ = some (.int .i64 b) ∧ w2.cell? ⟨w.heap.size, 2, none⟩ = some (.int .i64 c) ∧ w2.cell? ⟨w.heap.size, 3, none⟩ = some (.int .i64 d) ∧ w2.cell? ⟨w.heap.size, 4, none⟩ = some (.int .i64 e) ∧ w2.cell? ⟨w.heap.size, 5, none⟩ = some (.int .i64 f) ∧ w2.cell? ⟨w.heap.size, 6, none⟩ = some (.int .i64 g) ∧ w2.cell? ⟨w.heap.size, 7, none⟩ = some (.int .i64 h) ∧ w2.cell? ⟨w.heap.size, 8, none⟩ = some (.int .i64 i) ∧ w2.cell? ⟨w.heap.size, 9, none⟩ = some (.int .i64 j) := by
  refine ⟨?_, ?_, ?_, ?_, ?_, ?_, ?_, ?_, ?_, ?_⟩ <;> exact cell_on hb (by simp)

theorem cfg_keepB {B : Nat} {a b c d e f g h i j : Int} {w2 W : World} (hl : B < w2.heap.size) (f0 : w2.cell? ⟨B, 0, none⟩ = some (.int .i64 a)) (f1 : w2.cell? ⟨B, 1, none⟩ = some (.int .i64 b)) (f2 : w2.cell? ⟨B, 2, none⟩ = some (.int .i64 c)) (f3 : w2.cell? ⟨B, 3, none⟩ = some (.int .i64 d)) (f4 : w2.cell? ⟨B, 4, none⟩ = some (.int .i64 e)) (f5 : w2.cell? ⟨B, 5, none⟩ = some (.int .i64 f)) (f6 : w2.cell? ⟨B, 6, none⟩ = some (.int .i64 g)) (f7 : w2.cell? ⟨B, 7, none⟩ = some (.int .i64 h)) (f8 : w2.cell? ⟨B, 8, none⟩ = some (.int .i64 i)) (f9 : w2.cell? ⟨B, 9, none⟩ = some (.int .i64 j)) (hB : Below w2.heap.size w2 W) :
    B < W.heap.size ∧ W.cell? ⟨B, 0, none⟩ = some (.int .i64 a) ∧ W.cell? ⟨B, 1, none⟩ = some (.int .i64 b) ∧ W.cell? ⟨B, 2, none⟩ = some (.int .i64 c) ∧ W.cell? ⟨B, 3, none⟩ = some (.int .i64 d) ∧ W.cell? ⟨B, 4, none⟩ = some (.int .i64 e) ∧ W.cell? ⟨B, 5, none⟩ = some (.int .i64 f) ∧ W.cell? ⟨B, 6, none⟩ = some (.int .i64 g) ∧ W.cell? ⟨B, 7, none⟩ = some (.int .i64 h) ∧ W.cell? ⟨B, 8, none⟩ = some (.int .i64 i) ∧ W.cell? ⟨B, 9, none⟩ = some (.int .i64 j) :=
  ⟨Nat.lt_of_lt_of_le hl hB.size, (hB.cell hl).trans f0, (hB.cell hl).trans f1, (hB.cell hl).trans f2, (hB.cell hl).trans f3, (hB.cell hl).trans f4, (hB.cell hl).trans f5, (hB.cell hl).trans f6, (hB.cell hl).trans f7, (hB.cell hl).trans f8, (hB.cell hl).trans f9⟩

theorem budgetNew_any (a b c : Int) (w : World) :
    Calls Tryz.prog 36 #[.int .i64 a, .int .i64 b, .int .i64 c] w fun e w' => e = .returned (.agg #[.int .i64 a, .int .i64 b, .int .i64 c, .slice none 0 0]) ∧ w' = w.alloc (.cells #[.int .i64 a, .int .i64 b, .int .i64 c, .slice none 0 0] 86) := by
  go_enter Tryz.func36, Tryz.ntmps36
  go_wp2_with fail
  exact bodyPost_ret (v := .agg #[.int .i64 a, .int .i64 b, .int .i64 c, .slice none 0 0]) (by simp [results, Tryz.results36, go_sem]) rfl ⟨rfl, rfl⟩

set_option maxRecDepth 100000 in
set_option maxHeartbeats 4000000 in
theorem new_ok (a b c d e f g h i j : Int) (w : World) (hL : Laid w) (hk : cfgErr a b c d e f g h i j = 0) :
    Calls Tryz.prog 18 #[.agg #[.int .i64 a, .int .i64 b, .int .i64 c, .int .i64 d, .int .i64 e, .int .i64 f, .int .i64 g, .int .i64 h, .int .i64 i, .int .i64 j]] w
      fun ev w' => (∃ x, ev = .returned (.tuple #[.pointer (some ⟨x, 0, none⟩), .int .i64 0])) ∧ Below w.heap.size w w' := by
  have HC := config_any a b c d e f g h i j (w.alloc (.cells #[.int .i64 a, .int .i64 b, .int .i64 c, .int .i64 d, .int .i64 e, .int .i64 f, .int .i64 g, .int .i64 h, .int .i64 i, .int .i64 j] 34))
  rw [hk] at HC
  clear hk
  have H : Hid (Calls Tryz.prog 35 #[.agg #[.int .i64 a, .int .i64 b, .int .i64 c, .int .i64 d, .int .i64 e, .int .i64 f, .int .i64 g, .int .i64 h, .int .i64 i, .int .i64 j]] (w.alloc (.cells #[.int .i64 a, .int .i64 b, .int .i64 c, .int .i64 d, .int .i64 e, .int .i64 f, .int .i64 g, .int .i64 h, .int .i64 i, .int .i64 j] 34)) (Told 0 (w.alloc (.cells #[.int .i64 a, .int .i64 b, .int .i64 c, .int .i64 d, .int .i64 e, .int .i64 f, .int .i64 g, .int .i64 h, .int .i64 i, .int .i64 j] 34)))) := HC
  clear HC
  go_enter Tryz.func18, Tryz.ntmps18
  go_wp2_with fail
  refine H.out.mono ?_
  rintro ev w1 ⟨o, rfl, ho, hp, hb⟩
  clear H
  have c0 : Below w.heap.size w (w.alloc (.cells #[.int .i64 a, .int .i64 b, .int .i64 c, .int .i64 d, .int .i64 e, .int .i64 f, .int .i64 g, .int .i64 h, .int .i64 i, .int .i64 j] 34)) := (Below.refl _ _).alloc (Nat.le_refl _) _
  have c1 := below_step c0 hb
  have HN : Hid (Calls Tryz.prog 34 #[errV 131 o] w1 fun e w' => e = .returned (.int .i64 0) ∧ Below w1.heap.size w1 w') := number_any o 0 w1 (hL.on c1) ho (fun b' hb' => (hp b' hb').2)
  clear ho hp
  go_wp2_with fail
  refine HN.out.mono ?_
  rintro ev w2 ⟨rfl, hb2⟩
  clear HN
  have c2 := below_step c1 hb2
  obtain ⟨f0, f1, f2, f3, f4, f5, f6, f7, f8, f9⟩ := cfg_cells a b c d e f g h i j w w2 34 (below_step hb hb2)
  clear hb hb2 hL
  have hmm := @run_makeMap Tryz.prog
  have lw2 : w.heap.size < w2.heap.size := World.block_lt_of_cell? w2 _ f0
  go_wp2_with fail
  go_region_held3 (fun w' => w.heap.size < w'.heap.size ∧ w'.cell? ⟨w.heap.size, 0, none⟩ = some (.int .i64 a) ∧ w'.cell? ⟨w.heap.size, 1, none⟩ = some (.int .i64 b) ∧ w'.cell? ⟨w.heap.size, 2, none⟩ = some (.int .i64 c) ∧ w'.cell? ⟨w.heap.size, 3, none⟩ = some (.int .i64 d) ∧ w'.cell? ⟨w.heap.size, 4, none⟩ = some (.int .i64 e) ∧ w'.cell? ⟨w.heap.size, 5, none⟩ = some (.int .i64 f) ∧ w'.cell? ⟨w.heap.size, 6, none⟩ = some (.int .i64 g) ∧ w'.cell? ⟨w.heap.size, 7, none⟩ = some (.int .i64 h) ∧ w'.cell? ⟨w.heap.size, 8, none⟩ = some (.int .i64 i) ∧ w'.cell? ⟨w.heap.size, 9, none⟩ = some (.int .i64 j))
    (first
      | (go_keep; done)
      | (refine cfg_keepB lw2 f0 f1 f2 f3 f4 f5 f6 f7 f8 f9 ?_
         repeat (first | exact Below.refl _ _ | refine Below.drew ?_ | refine Below.alloc ?_ (by first | (simp; done) | (simp; omega)) _)))
    (first
      | (go_at_call 36; refine (budgetNew_any _ _ _ _).mono ?_; rintro ev w' ⟨rfl, rfl⟩))
  all_goals
    go_wp2_with fail
    go_ret2
    refine ⟨⟨_, rfl⟩, c2.trans (Below.mono (B := w2.heap.size) ?_ c2.size)⟩
    repeat (first | exact Below.refl _ _ | refine Below.drew ?_ | refine Below.alloc ?_ (by first | (simp; done) | (simp; omega)) _)

set_option maxHeartbeats 800000 in
theorem new_bad (a b c d e f g h i j : Int) (w : World) (hL : Laid w) (hk : cfgErr a b c d e f g h i j ≠ 0) :
    Calls Tryz.prog 18 #[.agg #[.int .i64 a, .int .i64 b, .int .i64 c, .int .i64 d, .int .i64 e, .int .i64 f, .int .i64 g, .int .i64 h, .int .i64 i, .int .i64 j]] w
      fun ev w' => ev = .returned (.tuple #[.pointer none, .int .i64 (cfgErr a b c d e f g h i j)]) ∧ Below w.heap.size w w' := by
  have HC := config_any a b c d e f g h i j (w.alloc (.cells #[.int .i64 a, .int .i64 b, .int .i64 c, .int .i64 d, .int .i64 e, .int .i64 f, .int .i64 g, .int .i64 h, .int .i64 i, .int .i64 j] 34))
  generalize cfgErr a b c d e f g h i j = k at HC hk ⊢
  have H : Hid (Calls Tryz.prog 35 #[.agg #[.int .i64 a, .int .i64 b, .int .i64 c, .int .i64 d, .int .i64 e, .int .i64 f, .int .i64 g, .int .i64 h, .int .i64 i, .int .i64 j]] (w.alloc (.cells #[.int .i64 a, .int .i64 b, .int .i64 c, .int .i64 d, .int .i64 e, .int .i64 f, .int .i64 g, .int .i64 h, .int .i64 i, .int .i64 j] 34)) (Told k (w.alloc (.cells #[.int .i64 a, .int .i64 b, .int .i64 c, .int .i64 d, .int .i64 e, .int .i64 f, .int .i64 g, .int .i64 h, .int .i64 i, .int .i64 j] 34)))) := HC
  clear HC
  go_enter Tryz.func18, Tryz.ntmps18
  go_wp2_with fail
  refine H.out.mono ?_
  rintro ev w1 ⟨o, rfl, ho, hp, hb⟩
  clear H
  have c0 : Below w.heap.size w (w.alloc (.cells #[.int .i64 a, .int .i64 b, .int .i64 c, .int .i64 d, .int .i64 e, .int .i64 f, .int .i64 g, .int .i64 h, .int .i64 i, .int .i64 j] 34)) := (Below.refl _ _).alloc (Nat.le_refl _) _
  have c1 := below_step c0 hb
  have HN : Hid (Calls Tryz.prog 34 #[errV 131 o] w1 fun e w' => e = .returned (.int .i64 k) ∧ Below w1.heap.size w1 w') := number_any o k w1 (hL.on c1) ho (fun b' hb' => (hp b' hb').2)
  clear ho hp
  go_wp2_with fail
  refine HN.out.mono ?_
  rintro ev w2 ⟨rfl, hb2⟩
  clear HN
  have c2 := below_step c1 hb2
  clear hb hb2 hL
  go_wp2_with fail
  go_ret2
  exact ⟨rfl, c2⟩

end Go.Proofs.YtlccfpbbdgpjbaaGreatDoor
