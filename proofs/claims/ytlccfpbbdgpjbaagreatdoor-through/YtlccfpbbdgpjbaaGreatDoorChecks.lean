/-
  The checks of a Config: within, fault, first; each by a contract.
-/
import Derived.Test.YtlccfpbbdgpjbaaGreatDoorRows
import Derived.WalkKit
import Derived.WalkSpells
import Derived.WalkLawsBesides
import Derived.LaidEql
import Derived.Deep.RegionHeld3
import Derived.Deep.DrawnRows
namespace Go.Proofs.YtlccfpbbdgpjbaaGreatDoor
open Go.RowKit

/-- An error value: nil, or a pointer of type t. -/
def errV (t : TypeId) : Option Nat → Value
  | none => .nilIface
  | some b => .iface t (.pointer (some ⟨b, 0, none⟩))

set_option maxHeartbeats 400000 in
theorem within_any (s : ByteArray) (n a b : Int) (w : World) :
    Calls Tryz.prog 93 #[.string s, .int .i64 n, .int .i64 a, .int .i64 b] w fun e w' => ∃ o : Option Nat, e = .returned (errV 202 o) ∧ (o = none ↔ a ≤ n ∧ n ≤ b) ∧ Below w.heap.size w w' := by
  by_cases h1 : n < a
  · go_enter Tryz.func93, Tryz.ntmps93
    go_wp2
    go_ret
    exact ⟨some _, rfl, by simp; omega, (Below.refl _ _).alloc (Nat.le_refl _) _⟩
  · by_cases h2 : b < n
    · go_enter Tryz.func93, Tryz.ntmps93
      go_wp2
      go_ret
      exact ⟨some _, rfl, by simp; omega, (Below.refl _ _).alloc (Nat.le_refl _) _⟩
    · go_enter Tryz.func93, Tryz.ntmps93
      go_wp2
      go_ret
      exact ⟨none, rfl, by simp, Below.refl _ _⟩

/-- fault: nil of nil; else a new Fault of this number. -/
theorem fault_any (k : Int) (o : Option Nat) (w : World) :
    Calls Tryz.prog 92 #[.int .i64 k, errV 202 o] w fun e w' => ∃ o' : Option Nat, e = .returned (errV 131 o') ∧ (o' = none ↔ o = none) ∧ (∀ b, o' = some b → w.heap.size ≤ b ∧ w'.cell? ⟨b, 0, none⟩ = some (.int .i64 k)) ∧ Below w.heap.size w w' := by
  cases o with
  | none =>
    simp only [errV]
    go_enter Tryz.func92, Tryz.ntmps92
    go_wp2
    go_ret
    exact ⟨none, rfl, by simp, by simp, Below.refl _ _⟩
  | some q =>
    simp only [errV]
    go_enter Tryz.func92, Tryz.ntmps92
    go_wp2
    go_ret
    refine ⟨some w.heap.size, rfl, by simp, ?_, (Below.refl _ _).alloc (Nat.le_refl _) _⟩
    rintro b hb
    obtain rfl := Option.some.inj hb
    exact ⟨Nat.le_refl _, by simp⟩

/-- What 'first' gives of its list. -/
def firstOf : List (Option Nat) → Option Nat
  | [] => none
  | none :: r => firstOf r
  | some p :: _ => some p

theorem firstOf_none (l : List (Option Nat)) : firstOf l = none ↔ ∀ o ∈ l, o = none := by
  induction l with
  | nil => simp [firstOf]
  | cons a r ih => cases a <;> simp [firstOf, ih]

theorem firstOf_drop (l : List (Option Nat)) (k : Nat) (h : k < l.length) : firstOf (l.drop k) = match l[k] with | none => firstOf (l.drop (k + 1)) | some p => some p := by
  rw [List.drop_eq_getElem_cons h]
  cases l[k] <;> rfl

set_option maxHeartbeats 800000 in
theorem first_any (t : TypeId) (g c : Nat) (l : List (Option Nat)) (hl : l.length ≤ 8) (w : World)
    (hc : ∀ (k : Nat) (h : k < l.length), w.cell? ⟨g, k, none⟩ = some (errV t l[k])) :
    Calls Tryz.prog 60 #[.slice (some ⟨g, 0, none⟩) l.length c] w fun e w' => e = .returned (errV t (firstOf l)) ∧ w' = w := by
  have HC : Hid (∀ (k : Nat) (h : k < l.length), w.cell? ⟨g, k, none⟩ = some (errV t l[k])) := hc
  clear hc
  go_enter Tryz.func60, Tryz.ntmps60
  go_wp2
  go_loop [7] (fun i => ∃ k : Nat, k ≤ l.length ∧ i = .int .i64 k ∧ firstOf l = firstOf (l.drop k)) (fun i => l.length - (intOf i).toNat)
  case atStart => exact ⟨0, Nat.zero_le _, rfl, rfl⟩
  case round =>
    obtain ⟨k, hk, rfl, hf⟩ := hrel
    by_cases hlt : k < l.length
    · have hck := HC.out k hlt
      have hfd := firstOf_drop l k hlt
      have HF : Hid (firstOf l = firstOf (l.drop k)) := hf
      clear hf
      cases hlk : l[k] with
      | none =>
        rw [hlk] at hck hfd
        have HD : Hid (firstOf (l.drop k) = firstOf (l.drop (k + 1))) := hfd
        clear hfd hlk
        simp only [errV] at hck
        go_wp2
        go_round
        case rel => exact ⟨k + 1, by omega, by go_num, by rw [HF.out, HD.out]⟩
        case measure => simp [intOf]; omega
      | some p =>
        rw [hlk] at hck hfd
        have HD : Hid (firstOf (l.drop k) = some p) := hfd
        clear hfd hlk
        simp only [errV] at hck
        go_wp2
        go_ret
        exact ⟨by rw [HF.out, HD.out]; rfl, rfl⟩
    · have HF : Hid (firstOf l = firstOf (l.drop k)) := hf
      clear hf
      go_wp2
      go_ret
      exact ⟨by rw [HF.out, List.drop_of_length_le (by omega)]; rfl, rfl⟩

theorem errV_cells (t : TypeId) (o : Option Nat) : (errV t o).cells = #[errV t o] := by cases o <;> rfl
theorem errV_one (t : TypeId) (o : Option Nat) : (errV t o).oneCell' = true := by cases o <;> rfl

theorem first3_new (t : TypeId) (o1 o2 o3 : Option Nat) (W : World) :
    Calls Tryz.prog 60 #[.slice (some ⟨W.heap.size, 0, none⟩) 3 3] (W.alloc (.cells #[errV t o1, errV t o2, errV t o3] 82)) fun e w' => e = .returned (errV t (firstOf [o1, o2, o3])) ∧ w' = W.alloc (.cells #[errV t o1, errV t o2, errV t o3] 82) :=
  first_any t W.heap.size 3 [o1, o2, o3] (by simp) _ (by
    intro k h
    match k, h with
    | 0, _ => simp
    | 1, _ => simp
    | 2, _ => simp)
theorem first4_new (t : TypeId) (o1 o2 o3 o4 : Option Nat) (W : World) :
    Calls Tryz.prog 60 #[.slice (some ⟨W.heap.size, 0, none⟩) 4 4] (W.alloc (.cells #[errV t o1, errV t o2, errV t o3, errV t o4] 82)) fun e w' => e = .returned (errV t (firstOf [o1, o2, o3, o4])) ∧ w' = W.alloc (.cells #[errV t o1, errV t o2, errV t o3, errV t o4] 82) :=
  first_any t W.heap.size 4 [o1, o2, o3, o4] (by simp) _ (by
    intro k h
    match k, h with
    | 0, _ => simp
    | 1, _ => simp
    | 2, _ => simp
    | 3, _ => simp)
end Go.Proofs.YtlccfpbbdgpjbaaGreatDoor
