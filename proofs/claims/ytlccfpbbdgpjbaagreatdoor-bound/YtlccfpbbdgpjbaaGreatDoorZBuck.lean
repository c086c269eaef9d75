import Derived.Test.YtlccfpbbdgpjbaaGreatDoorRows
import Derived.WalkKit
import Derived.WalkSpells
import Derived.WalkLawsBesides
import Derived.Lib.Strings
import Derived.Lib.Slices
import Derived.Lib.Small
import Derived.Lib.Walk
import Derived.Lib.BitFns
import Derived.Lib.ItoaNum
namespace Go.Proofs.YtlccfpbbdgpjbaaGreatDoor
open Go.RowKit

/-- How wide the bucket of a time is. -/
def wd (t : Nat) : Nat := if t < 4 then 1 else 2 ^ (Lib.bitLen t - 3)

theorem pow_lt_pow_inv {a b : Nat} (h : 2 ^ a < 2 ^ b) : a < b := by
  rcases Nat.lt_or_ge a b with h1 | h1
  · exact h1
  · have := Nat.pow_le_pow_right (n := 2) (by omega) h1
    omega

theorem bitLen_of (t k : Nat) (h1 : 4 * 2 ^ k ≤ t) (h2 : t < 8 * 2 ^ k) (h3 : t < 2 ^ 64) : Lib.bitLen t = k + 3 := by
  have h0 : t ≠ 0 := by have := Nat.pow_pos (n := k) (show 0 < 2 by omega); omega
  obtain ⟨b1, b2, b3⟩ := Lib.bitLenAux_bounds 64 t h3 h0
  change 1 ≤ Lib.bitLen t at b1
  change 2 ^ (Lib.bitLen t - 1) ≤ t at b2
  change t < 2 ^ Lib.bitLen t at b3
  have e1 : 2 ^ (k + 2) = 4 * 2 ^ k := by rw [Nat.pow_add]; omega
  have e2 : 2 ^ (k + 3) = 8 * 2 ^ k := by rw [Nat.pow_add]; omega
  have p1 : k + 2 < Lib.bitLen t := pow_lt_pow_inv (by omega)
  have p2 : Lib.bitLen t - 1 < k + 3 := pow_lt_pow_inv (by omega)
  omega

theorem wd_of (t k : Nat) (h1 : 4 * 2 ^ k ≤ t) (h2 : t < 8 * 2 ^ k) (h3 : t < 2 ^ 64) : wd t = 2 ^ k := by
  have hp := Nat.pow_pos (n := k) (show 0 < 2 by omega)
  unfold wd
  rw [if_neg (by omega), bitLen_of t k h1 h2 h3]
  congr 1

theorem bitLen_range (t : Nat) (h4 : 4 ≤ t) (h : t ≤ 1099511627776) : 3 ≤ Lib.bitLen t ∧ Lib.bitLen t ≤ 41 := by
  obtain ⟨b1, b2, b3⟩ := Lib.bitLenAux_bounds 64 t (Nat.lt_of_le_of_lt h (by decide)) (by omega)
  change 1 ≤ Lib.bitLen t at b1
  change 2 ^ (Lib.bitLen t - 1) ≤ t at b2
  change t < 2 ^ Lib.bitLen t at b3
  constructor
  · have : 2 < Lib.bitLen t := pow_lt_pow_inv (by omega)
    omega
  · have : Lib.bitLen t - 1 < 41 := pow_lt_pow_inv (Nat.lt_of_le_of_lt b2 (Nat.lt_of_le_of_lt h (by decide)))
    omega

theorem tab_bits (y : Int) (h0 : 0 ≤ y) (h1 : y < 256) (h : y.toNat < Lib.len8tab.size) : ((Lib.len8tab[y.toNat]'h).toNat : Int) = (Lib.bitLen y.toNat : Int) := by
  rw [← Lib.len8_of y h0 (by omega)]
  unfold Lib.len8
  rw [getElem?_pos Lib.len8tab y.toNat h]
  rfl

/-- The last step of each of the six ways. -/
theorem way (k : Nat) (x y : Int) (h : y.toNat < Lib.len8tab.size) (h0 : 0 ≤ y) (h1 : y < 256) (hk : k ≤ 56) (e : Lib.bitLen x.toNat = k + Lib.bitLen y.toNat) :
    wrap64 ((k : Int) + wrap64 ((Lib.len8tab[y.toNat]'h).toNat : Int)) = (Lib.bitLen x.toNat : Int) := by
  have l := Lib.bitLen_le8' y h0 (by omega)
  rw [tab_bits y h0 h1 h]
  unfold wrap64
  omega
theorem way0 (x : Int) (h : x.toNat < Lib.len8tab.size) (h0 : 0 ≤ x) (h1 : x < 256) :
    wrap64 (wrap64 ((Lib.len8tab[x.toNat]'h).toNat : Int)) = (Lib.bitLen x.toNat : Int) := by
  have l := Lib.bitLen_le8' x h0 (by omega)
  rw [tab_bits x h0 h1 h]
  unfold wrap64
  omega

set_option maxHeartbeats 4000000 in
set_option maxRecDepth 100000 in
theorem len64_any (x : Int) (w : World) (h0 : 0 ≤ x) (h1 : x ≤ 1099511627776) :
    Calls Tryz.prog 132 #[.int .u64 x] w fun e w' => e = .returned (.int .i64 (Lib.bitLen x.toNat)) ∧ w' = w := by
  have hs : ((Lib.len8tab.size : Nat) : Int) = 256 := by rw [Lib.len8tab_size]; rfl
  go_enter Tryz.func132, Tryz.ntmps132
  go_wp2
  all_goals (go_ret; refine ⟨congrArg Ending.returned (congrArg (Value.int IntKind.i64) ?_), rfl⟩)
  · refine way 40 x (x / 4294967296 / 256) _ (by omega) (by omega) (by omega) ?_
    rw [Lib.bitLen_shift40 x.toNat (by omega) (by omega)]
    congr 2
    omega
  · refine way 32 x (x / 4294967296) _ (by omega) (by omega) (by omega) ?_
    rw [Lib.bitLen_shift32 x.toNat (by omega) (by omega)]
    congr 2
    omega
  · refine way 24 x (x / 65536 / 256) _ (by omega) (by omega) (by omega) ?_
    rw [Lib.bitLen_shift24 x.toNat (by omega) (by omega)]
    congr 2
    omega
  · refine way 16 x (x / 65536) _ (by omega) (by omega) (by omega) ?_
    rw [Lib.bitLen_shift16 x.toNat (by omega) (by omega)]
    congr 2
    omega
  · refine way 8 x (x / 256) _ (by omega) (by omega) (by omega) ?_
    rw [Lib.bitLen_shift8 x.toNat (by omega) (by omega)]
    congr 2
    omega
  · exact way0 x _ (by omega) (by omega)

theorem len_any (x : Int) (w : World) (h0 : 0 ≤ x) (h1 : x ≤ 1099511627776) :
    Calls Tryz.prog 106 #[.int .u64 x] w fun e w' => e = .returned (.int .i64 (Lib.bitLen x.toNat)) ∧ w' = w := by
  go_enter Tryz.func106, Tryz.ntmps106
  go_wp2_with (go_at_call 132; refine (len64_any _ _ (by omega) (by omega)).mono ?_; rintro e w' ⟨rfl, rfl⟩)
  go_ret
  exact ⟨rfl, rfl⟩

theorem wd_bound (t : Nat) (h : t ≤ 1099511627776) : 1 ≤ wd t ∧ wd t ≤ 274877906944 := by
  unfold wd
  split
  · omega
  · have hr := bitLen_range t (by omega) h
    exact ⟨Nat.pow_pos (by omega), Nat.le_trans (Nat.pow_le_pow_right (n := 2) (by omega) (show Lib.bitLen t - 3 ≤ 38 by omega)) (by decide)⟩
theorem wrap_pow (t : Nat) (h4 : ¬ t < 4) (h : Lib.bitLen t ≤ 41) : wrap64 (2 ^ (Lib.bitLen t - 3)) = (wd t : Int) := by
  have hb : 2 ^ (Lib.bitLen t - 3) ≤ 274877906944 := Nat.le_trans (Nat.pow_le_pow_right (n := 2) (by omega) (show Lib.bitLen t - 3 ≤ 38 by omega)) (by decide)
  have e : (2 : Int) ^ (Lib.bitLen t - 3) = ((2 ^ (Lib.bitLen t - 3) : Nat) : Int) := by push_cast; rfl
  unfold wd
  rw [if_neg h4, e]
  generalize 2 ^ (Lib.bitLen t - 3) = m at *
  unfold wrap64
  omega

set_option maxHeartbeats 400000 in
theorem width_any (t : Nat) (w : World) (h1 : t ≤ 1099511627776) :
    Calls Tryz.prog 79 #[.int .i64 t] w fun e w' => e = .returned (.int .i64 (wd t)) ∧ w' = w := by
  by_cases h4 : t < 4
  · have h4' : (t : Int) < 4 := by omega
    go_enter Tryz.func79, Tryz.ntmps79
    go_wp2
    go_ret
    exact ⟨by simp [wd, h4], rfl⟩
  · have h4' : ¬ (t : Int) < 4 := by omega
    have hr := bitLen_range t (by omega) h1
    obtain ⟨hr1, hr2⟩ := hr
    go_enter Tryz.func79, Tryz.ntmps79
    go_wp2_with fail
    refine (len_any _ _ (by omega) (by omega)).mono ?_
    rintro e w' ⟨rfl, rfl⟩
    go_wp2_with fail
    go_ret
    refine ⟨congrArg Ending.returned (congrArg (Value.int IntKind.i64) ?_), rfl⟩
    exact wrap_pow t h4 hr2

set_option maxHeartbeats 400000 in
theorem tbucket_in (t : Nat) (w : World) (h1 : t ≤ 1099511627776) :
    Calls Tryz.prog 50 #[.int .i64 t] w fun e w' => e = .returned (.tuple #[.int .i64 ((t : Int) - (t : Int) % (wd t : Int)), .int .i64 ((t : Int) - (t : Int) % (wd t : Int) + (wd t : Int) - 1)]) ∧ w' = w := by
  obtain ⟨b1, b2⟩ := wd_bound t h1
  have b1' : (1 : Int) ≤ (wd t : Int) := by omega
  have b2' : (wd t : Int) ≤ 274877906944 := by omega
  have b3 : (t : Int) % (wd t : Int) < 274877906944 := Int.lt_of_lt_of_le (Int.emod_lt_of_pos _ (by omega)) b2'
  have b4 : 0 ≤ (t : Int) % (wd t : Int) := Int.emod_nonneg _ (by omega)
  have hn : ¬ (t : Int) < 0 := by omega
  have hm : ¬ (1099511627776 : Int) < (t : Int) := by omega
  clear h1
  go_enter Tryz.func50, Tryz.ntmps50
  go_wp2_with fail
  refine (width_any t _ (by omega)).mono ?_
  rintro e w' ⟨rfl, rfl⟩
  go_wp2_with fail
  go_ret2
  exact ⟨rfl, rfl⟩
end Go.Proofs.YtlccfpbbdgpjbaaGreatDoor

namespace Go.Proofs.YtlccfpbbdgpjbaaGreatDoor
open Go.RowKit

/-- The answer of Bucket at a time. -/
def buckV (t : Int) : Value :=
  if t < 0 ∨ 1099511627776 < t then .tuple #[.int .i64 0, .int .i64 0]
  else .tuple #[.int .i64 (t - t % (wd t.toNat : Int)), .int .i64 (t - t % (wd t.toNat : Int) + (wd t.toNat : Int) - 1)]

theorem buckV_out (t : Int) (h : t < 0 ∨ 1099511627776 < t) : buckV t = .tuple #[.int .i64 0, .int .i64 0] := if_pos h
theorem buckV_in (t : Nat) (h : t ≤ 1099511627776) : buckV (t : Int) = .tuple #[.int .i64 ((t : Int) - (t : Int) % (wd t : Int)), .int .i64 ((t : Int) - (t : Int) % (wd t : Int) + (wd t : Int) - 1)] := by
  unfold buckV
  rw [if_neg (by omega)]
  rfl

set_option maxHeartbeats 400000 in
theorem tbucket_out (t : Int) (w : World) (h : t < 0 ∨ 1099511627776 < t) :
    Calls Tryz.prog 50 #[.int .i64 t] w fun e w' => e = .returned (.tuple #[.int .i64 0, .int .i64 0]) ∧ w' = w := by
  rcases h with h | h
  · go_enter Tryz.func50, Tryz.ntmps50
    go_wp2_with fail
    go_ret2
    exact ⟨rfl, rfl⟩
  · have h' : ¬ t < 0 := by omega
    go_enter Tryz.func50, Tryz.ntmps50
    go_wp2_with fail
    go_ret2
    exact ⟨rfl, rfl⟩

theorem tbucket_any (t : Int) (w : World) :
    Calls Tryz.prog 50 #[.int .i64 t] w fun e w' => e = .returned (buckV t) ∧ w' = w := by
  by_cases h : t < 0 ∨ 1099511627776 < t
  · rw [buckV_out t h]
    exact tbucket_out t w h
  · obtain ⟨n, rfl⟩ : ∃ n : Nat, t = (n : Int) := ⟨t.toNat, by omega⟩
    rw [buckV_in n (by omega)]
    exact tbucket_in n w (by omega)

theorem buckV_two (t : Int) : ∃ a b : Int, buckV t = .tuple #[.int .i64 a, .int .i64 b] := by
  unfold buckV
  split
  · exact ⟨_, _, rfl⟩
  · exact ⟨_, _, rfl⟩

set_option maxHeartbeats 400000 in
theorem cbucket_any (t : Int) (w : World) :
    Calls Tryz.prog 26 #[.int .i64 t] w fun e w' => e = .returned (buckV t) ∧ w' = w := by
  obtain ⟨a, b, hab⟩ := buckV_two t
  have h18 := tbucket_any t w
  rw [hab] at h18 ⊢
  have H18 : Hid (Calls Tryz.prog 50 #[.int .i64 t] w fun e w' => e = .returned (.tuple #[.int .i64 a, .int .i64 b]) ∧ w' = w) := h18
  clear h18 hab
  go_enter Tryz.func26, Tryz.ntmps26
  go_wp2_with fail
  refine H18.out.mono ?_
  rintro e w' ⟨rfl, rfl⟩
  go_wp2_with fail
  go_ret2
  exact ⟨rfl, rfl⟩

theorem mod_step (m s : Nat) (h : m % s = 0) : (m + s) % s = 0 := by rw [Nat.add_mod_right]; exact h
theorem lo_of (t m s : Nat) (h : m % s = 0) (h1 : m ≤ t) (h2 : t < m + s) : (t : Int) - (t : Int) % (s : Int) = (m : Int) := by
  have e : t % s = t - m := by
    have : t = m + (t - m) := by omega
    rw [this, Nat.add_mod, h, Nat.zero_add, Nat.mod_mod, Nat.mod_eq_of_lt (by omega)]
    omega
  have : ((t % s : Nat) : Int) = (t : Int) % (s : Int) := by simp
  omega

set_option maxHeartbeats 800000 in
theorem rbucket_in (t : Nat) (w : World) (h1 : t ≤ 1099511627776) :
    Calls Tryz.prog 28 #[.int .i64 t] w fun e w' => e = .returned (buckV t) ∧ w' = w := by
  have hn : ¬ (t : Int) < 0 := by omega
  have hm : ¬ (1099511627776 : Int) < (t : Int) := by omega
  by_cases h4 : t < 4
  · have h4' : (t : Int) < 4 := by omega
    have hw : wd t = 1 := by simp [wd, h4]
    have hb : buckV (t : Int) = .tuple #[.int .i64 t, .int .i64 t] := by
      rw [buckV_in t h1, hw]
      have : (t : Int) % ((1 : Nat) : Int) = 0 := by omega
      rw [this]
      simp
    rw [hb]
    clear hb hw h1
    go_enter Tryz.func28, Tryz.ntmps28
    go_wp2_with fail
    go_ret2
    exact ⟨rfl, rfl⟩
  · have h4' : ¬ (t : Int) < 4 := by omega
    have HB : Hid (buckV (t : Int) = .tuple #[.int .i64 ((t : Int) - (t : Int) % (wd t : Int)), .int .i64 ((t : Int) - (t : Int) % (wd t : Int) + (wd t : Int) - 1)]) := buckV_in t h1
    clear h1
    go_enter Tryz.func28, Tryz.ntmps28
    go_wp2_with fail
    go_loop [4] (fun v => ∃ s : Nat, 1 ≤ s ∧ 4 * s ≤ t ∧ v = .int .i64 s ∧ Hid (∃ k, s = 2 ^ k)) (fun v => t - (intOf v).toNat)
    case atStart => exact ⟨1, by omega, by omega, rfl, ⟨0, rfl⟩⟩
    case round =>
      obtain ⟨s, hs1, hs4, rfl, HK⟩ := hrel
      by_cases h8 : 8 * (s : Int) ≤ (t : Int)
      · go_wp2_with fail
        go_round
        case rel => exact ⟨2 * s, by omega, by omega, by go_num, by obtain ⟨k, hk⟩ := HK.out; exact ⟨k + 1, by rw [Nat.pow_succ]; omega⟩⟩
        case measure => simp [intOf]; omega
      · have HW : Hid (wd t = s) := by
          obtain ⟨k, hk⟩ := HK.out
          rw [hk]
          rw [hk] at hs4 h8
          have hp : (2 : Int) ^ k = ((2 ^ k : Nat) : Int) := by push_cast; rfl
          exact wd_of t k hs4 (by omega) (by have : (2 : Nat) ^ 64 = 18446744073709551616 := by decide
                                             omega)
        clear HK
        go_wp2_with fail
        go_loop [5] (fun v => ∃ m : Nat, m ≤ t ∧ v = .int .i64 m ∧ Hid (m % s = 0)) (fun v => t - (intOf v).toNat)
        case atStart => exact ⟨4 * s, by omega, by go_num, by show 4 * s % s = 0; exact Nat.mul_mod_left 4 s⟩
        case round =>
          obtain ⟨m, hmt, rfl, HM⟩ := hrel
          by_cases hlt : (m : Int) + (s : Int) ≤ (t : Int)
          · go_wp2_with fail
            go_round
            case rel => exact ⟨m + s, by omega, by go_num, mod_step m s HM.out⟩
            case measure => simp [intOf]; omega
          · go_wp2_with fail
            go_ret2
            refine ⟨?_, rfl⟩
            rw [HB.out, HW.out, lo_of t m s HM.out hmt (by omega)]
            rfl

set_option maxHeartbeats 400000 in
theorem rbucket_out (t : Int) (w : World) (h : t < 0 ∨ 1099511627776 < t) :
    Calls Tryz.prog 28 #[.int .i64 t] w fun e w' => e = .returned (.tuple #[.int .i64 0, .int .i64 0]) ∧ w' = w := by
  rcases h with h | h
  · go_enter Tryz.func28, Tryz.ntmps28
    go_wp2_with fail
    go_ret2
    exact ⟨rfl, rfl⟩
  · have h' : ¬ t < 0 := by omega
    go_enter Tryz.func28, Tryz.ntmps28
    go_wp2_with fail
    go_ret2
    exact ⟨rfl, rfl⟩

theorem rbucket_any (t : Int) (w : World) :
    Calls Tryz.prog 28 #[.int .i64 t] w fun e w' => e = .returned (buckV t) ∧ w' = w := by
  by_cases h : t < 0 ∨ 1099511627776 < t
  · rw [buckV_out t h]
    exact rbucket_out t w h
  · obtain ⟨n, rfl⟩ : ∃ n : Nat, t = (n : Int) := ⟨t.toNat, by omega⟩
    exact rbucket_in n w (by omega)

set_option maxHeartbeats 400000 in
/-- The statement's own 'bucket': true. -/
theorem lbucket_any (t : Int) (w : World) :
    Calls Tryz.prog 14 #[.int .i64 t] w fun e w' => e = .returned (.bool true) ∧ w' = w := by
  obtain ⟨a, b, hab⟩ := buckV_two t
  have h10 := cbucket_any t w
  have h11 := rbucket_any t w
  rw [hab] at h10 h11
  have H10 : Hid (Calls Tryz.prog 26 #[.int .i64 t] w fun e w' => e = .returned (.tuple #[.int .i64 a, .int .i64 b]) ∧ w' = w) := h10
  have H11 : Hid (Calls Tryz.prog 28 #[.int .i64 t] w fun e w' => e = .returned (.tuple #[.int .i64 a, .int .i64 b]) ∧ w' = w) := h11
  clear h10 h11 hab
  go_enter Tryz.func14, Tryz.ntmps14
  go_wp2_with fail
  refine H10.out.mono ?_
  rintro e w' ⟨rfl, rfl⟩
  go_wp2_with fail
  refine H11.out.mono ?_
  rintro e w' ⟨rfl, rfl⟩
  go_wp2_with fail
  go_ret
  exact ⟨rfl, rfl⟩
end Go.Proofs.YtlccfpbbdgpjbaaGreatDoor
