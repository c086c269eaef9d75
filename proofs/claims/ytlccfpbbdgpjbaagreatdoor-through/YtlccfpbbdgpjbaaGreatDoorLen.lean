/-
  bits.Len and the width of a bucket.
-/
import Derived.Test.YtlccfpbbdgpjbaaGreatDoorRows
import Derived.WalkKit
import Derived.WalkSpells
import Derived.WalkLawsBesides
import Derived.Lib.Strings
import Derived.Lib.Slices
import Derived.Lib.Small
import Derived.Lib.Walk
import Derived.Lib.BitFns
import Derived.Lib.ItoaNum
namespace Go.Proofs.YtlccfpbbdgpjbaaGreatDoor
open Go.RowKit

/-- How wide the bucket of a time is. -/
def wd (t : Nat) : Nat := if t < 4 then 1 else 2 ^ (Lib.bitLen t - 3)

theorem pow_lt_pow_inv {a b : Nat} (h : 2 ^ a < 2 ^ b) : a < b := by
  rcases Nat.lt_or_ge a b with h1 | h1
  · exact h1
  · have := Nat.pow_le_pow_right (n := 2) (by omega) h1
    omega

theorem bitLen_of (t k : Nat) (h1 : 4 * 2 ^ k ≤ t) (h2 : t < 8 * 2 ^ k) (h3 : t < 2 ^ 64) : Lib.bitLen t = k + 3 := by
  have h0 : t ≠ 0 := by have := Nat.pow_pos (n := k) (show 0 < 2 by omega); omega
  obtain ⟨b1, b2, b3⟩ := Lib.bitLenAux_bounds 64 t h3 h0
  change 1 ≤ Lib.bitLen t at b1
  change 2 ^ (Lib.bitLen t - 1) ≤ t at b2
  change t < 2 ^ Lib.bitLen t at b3
  have e1 : 2 ^ (k + 2) = 4 * 2 ^ k := by rw [Nat.pow_add]; omega
  have e2 : 2 ^ (k + 3) = 8 * 2 ^ k := by rw [Nat.pow_add]; omega
  have p1 : k + 2 < Lib.bitLen t := pow_lt_pow_inv (by omega)
  have p2 : Lib.bitLen t - 1 < k + 3 := pow_lt_pow_inv (by omega)
  omega

theorem wd_of (t k : Nat) (h1 : 4 * 2 ^ k ≤ t) (h2 : t < 8 * 2 ^ k) (h3 : t < 2 ^ 64) : wd t = 2 ^ k := by
  have hp := Nat.pow_pos (n := k) (show 0 < 2 by omega)
  unfold wd
  rw [if_neg (by omega), bitLen_of t k h1 h2 h3]
  congr 1

theorem bitLen_range (t : Nat) (h4 : 4 ≤ t) (h : t ≤ 1099511627776) : 3 ≤ Lib.bitLen t ∧ Lib.bitLen t ≤ 41 := by
  obtain ⟨b1, b2, b3⟩ := Lib.bitLenAux_bounds 64 t (Nat.lt_of_le_of_lt h (by decide)) (by omega)
  change 1 ≤ Lib.bitLen t at b1
  change 2 ^ (Lib.bitLen t - 1) ≤ t at b2
  change t < 2 ^ Lib.bitLen t at b3
  constructor
  · have : 2 < Lib.bitLen t := pow_lt_pow_inv (by omega)
    omega
  · have : Lib.bitLen t - 1 < 41 := pow_lt_pow_inv (Nat.lt_of_le_of_lt b2 (Nat.lt_of_le_of_lt h (by decide)))
    omega

theorem tab_bits (y : Int) (h0 : 0 ≤ y) (h1 : y < 256) (h : y.toNat < Lib.len8tab.size) : ((Lib.len8tab[y.toNat]'h).toNat : Int) = (Lib.bitLen y.toNat : Int) := by
  rw [← Lib.len8_of y h0 (by omega)]
  unfold Lib.len8
  rw [getElem?_pos Lib.len8tab y.toNat h]
  rfl

/-- The last step of each of the six ways. -/
theorem way (k : Nat) (x y : Int) (h : y.toNat < Lib.len8tab.size) (h0 : 0 ≤ y) (h1 : y < 256) (hk : k ≤ 56) (e : Lib.bitLen x.toNat = k + Lib.bitLen y.toNat) :
    wrap64 ((k : Int) + wrap64 ((Lib.len8tab[y.toNat]'h).toNat : Int)) = (Lib.bitLen x.toNat : Int) := by
  have l := Lib.bitLen_le8' y h0 (by omega)
  rw [tab_bits y h0 h1 h]
  unfold wrap64
  omega
theorem way0 (x : Int) (h : x.toNat < Lib.len8tab.size) (h0 : 0 ≤ x) (h1 : x < 256) :
    wrap64 (wrap64 ((Lib.len8tab[x.toNat]'h).toNat : Int)) = (Lib.bitLen x.toNat : Int) := by
  have l := Lib.bitLen_le8' x h0 (by omega)
  rw [tab_bits x h0 h1 h]
  unfold wrap64
  omega

set_option maxHeartbeats 4000000 in
set_option maxRecDepth 100000 in
theorem len64_any (x : Int) (w : World) (h0 : 0 ≤ x) (h1 : x ≤ 1099511627776) :
    Calls Tryz.prog 132 #[.int .u64 x] w fun e w' => e = .returned (.int .i64 (Lib.bitLen x.toNat)) ∧ w' = w := by
  have hs : ((Lib.len8tab.size : Nat) : Int) = 256 := by rw [Lib.len8tab_size]; rfl
  go_enter Tryz.func132, Tryz.ntmps132
  go_wp2
  all_goals (go_ret; refine ⟨congrArg Ending.returned (congrArg (Value.int IntKind.i64) ?_), rfl⟩)
  · refine way 40 x (x / 4294967296 / 256) _ (by omega) (by omega) (by omega) ?_
    rw [Lib.bitLen_shift40 x.toNat (by omega) (by omega)]
    congr 2
    omega
  · refine way 32 x (x / 4294967296) _ (by omega) (by omega) (by omega) ?_
    rw [Lib.bitLen_shift32 x.toNat (by omega) (by omega)]
    congr 2
    omega
  · refine way 24 x (x / 65536 / 256) _ (by omega) (by omega) (by omega) ?_
    rw [Lib.bitLen_shift24 x.toNat (by omega) (by omega)]
    congr 2
    omega
  · refine way 16 x (x / 65536) _ (by omega) (by omega) (by omega) ?_
    rw [Lib.bitLen_shift16 x.toNat (by omega) (by omega)]
    congr 2
    omega
  · refine way 8 x (x / 256) _ (by omega) (by omega) (by omega) ?_
    rw [Lib.bitLen_shift8 x.toNat (by omega) (by omega)]
    congr 2
    omega
  · exact way0 x _ (by omega) (by omega)

theorem len_any (x : Int) (w : World) (h0 : 0 ≤ x) (h1 : x ≤ 1099511627776) :
    Calls Tryz.prog 106 #[.int .u64 x] w fun e w' => e = .returned (.int .i64 (Lib.bitLen x.toNat)) ∧ w' = w := by
  go_enter Tryz.func106, Tryz.ntmps106
  go_wp2_with (go_at_call 132; refine (len64_any _ _ (by omega) (by omega)).mono ?_; rintro e w' ⟨rfl, rfl⟩)
  go_ret
  exact ⟨rfl, rfl⟩

theorem wd_bound (t : Nat) (h : t ≤ 1099511627776) : 1 ≤ wd t ∧ wd t ≤ 274877906944 := by
  unfold wd
  split
  · omega
  · have hr := bitLen_range t (by omega) h
    exact ⟨Nat.pow_pos (by omega), Nat.le_trans (Nat.pow_le_pow_right (n := 2) (by omega) (show Lib.bitLen t - 3 ≤ 38 by omega)) (by decide)⟩
theorem wrap_pow (t : Nat) (h4 : ¬ t < 4) (h : Lib.bitLen t ≤ 41) : wrap64 (2 ^ (Lib.bitLen t - 3)) = (wd t : Int) := by
  have hb : 2 ^ (Lib.bitLen t - 3) ≤ 274877906944 := Nat.le_trans (Nat.pow_le_pow_right (n := 2) (by omega) (show Lib.bitLen t - 3 ≤ 38 by omega)) (by decide)
  have e : (2 : Int) ^ (Lib.bitLen t - 3) = ((2 ^ (Lib.bitLen t - 3) : Nat) : Int) := by push_cast; rfl
  unfold wd
  rw [if_neg h4, e]
  generalize 2 ^ (Lib.bitLen t - 3) = m at *
  unfold wrap64
  omega

set_option maxHeartbeats 400000 in
theorem width_any (t : Nat) (w : World) (h1 : t ≤ 1099511627776) :
    Calls Tryz.prog 79 #[.int .i64 t] w fun e w' => e = .returned (.int .i64 (wd t)) ∧ w' = w := by
  by_cases h4 : t < 4
  · have h4' : (t : Int) < 4 := by omega
    go_enter Tryz.func79, Tryz.ntmps79
    go_wp2
    go_ret
    exact ⟨by simp [wd, h4], rfl⟩
  · have h4' : ¬ (t : Int) < 4 := by omega
    have hr := bitLen_range t (by omega) h1
    obtain ⟨hr1, hr2⟩ := hr
    go_enter Tryz.func79, Tryz.ntmps79
    go_wp2_with fail
    refine (len_any _ _ (by omega) (by omega)).mono ?_
    rintro e w' ⟨rfl, rfl⟩
    go_wp2_with fail
    go_ret
    refine ⟨congrArg Ending.returned (congrArg (Value.int IntKind.i64) ?_), rfl⟩
    exact wrap_pow t h4 hr2

set_option maxHeartbeats 400000 in
theorem tbucket_in (t : Nat) (w : World) (h1 : t ≤ 1099511627776) :
    Calls Tryz.prog 50 #[.int .i64 t] w fun e w' => e = .returned (.tuple #[.int .i64 ((t : Int) - (t : Int) % (wd t : Int)), .int .i64 ((t : Int) - (t : Int) % (wd t : Int) + (wd t : Int) - 1)]) ∧ w' = w := by
  obtain ⟨b1, b2⟩ := wd_bound t h1
  have b1' : (1 : Int) ≤ (wd t : Int) := by omega
  have b2' : (wd t : Int) ≤ 274877906944 := by omega
  have b3 : (t : Int) % (wd t : Int) < 274877906944 := Int.lt_of_lt_of_le (Int.emod_lt_of_pos _ (by omega)) b2'
  have b4 : 0 ≤ (t : Int) % (wd t : Int) := Int.emod_nonneg _ (by omega)
  have hn : ¬ (t : Int) < 0 := by omega
  have hm : ¬ (1099511627776 : Int) < (t : Int) := by omega
  clear h1
  go_enter Tryz.func50, Tryz.ntmps50
  go_wp2_with fail
  refine (width_any t _ (by omega)).mono ?_
  rintro e w' ⟨rfl, rfl⟩
  go_wp2_with fail
  go_ret2
  exact ⟨rfl, rfl⟩
end Go.Proofs.YtlccfpbbdgpjbaaGreatDoor
