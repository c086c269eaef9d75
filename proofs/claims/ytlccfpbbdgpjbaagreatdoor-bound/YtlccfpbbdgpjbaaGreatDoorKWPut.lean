import Derived.Test.YtlccfpbbdgpjbaaGreatDoorRRegion
import Derived.Great.BuildSlice
namespace Go.Proofs.YtlccfpbbdgpjbaaGreatDoor
open Go

theorem put_size (a : Act) (d : Option Tmp) (v : Value) : (a.put d v).tmps.size = a.tmps.size := by
  cases d with
  | none => rfl
  | some d => simp [Act.put]
theorem put_ne (a : Act) {i j : Nat} (v : Value) (h : i ≠ j) : (a.put (some i) v).eval (.tmp j) = a.eval (.tmp j) := by
  show (a.tmps.setIfInBounds i v).getD j undef = a.tmps.getD j undef
  simp [Array.getD_eq_getD_getElem?, h]
theorem put_same (a : Act) {i : Nat} (v : Value) (h : i < a.tmps.size) : (a.put (some i) v).eval (.tmp i) = v := by
  show (a.tmps.setIfInBounds i v).getD i undef = v
  simp [Array.getD_eq_getD_getElem?, h]
/-- An operation that gives a value. -/
theorem wp_value {P : Program} {o : Oper} {a : Act} {w w' : World} {K : Act → World → Prop} {Q : Exit → Act → World → Prop} {v : Value} (h : (execOp a.eval o).run P w = .ok (.value v) w') (hK : K (a.put o.dst v) w') : o.wp P a w K Q := by
  unfold Oper.wp
  rw [h]
  exact hK
/-- An operation that gives none. -/
theorem wp_skip {P : Program} {o : Oper} {a : Act} {w w' : World} {K : Act → World → Prop} {Q : Exit → Act → World → Prop} (h : (execOp a.eval o).run P w = .ok .skip w') (hK : K (a.put o.dst undef) w') : o.wp P a w K Q := by
  unfold Oper.wp
  rw [h]
  exact hK
end Go.Proofs.YtlccfpbbdgpjbaaGreatDoor
