/-
  Bucket, of the program and of the document: they answer alike at every number.
-/
import Derived.Test.YtlccfpbbdgpjbaaGreatDoorLen
namespace Go.Proofs.YtlccfpbbdgpjbaaGreatDoor
open Go.RowKit

/-- The answer of Bucket at a time. -/
def buckV (t : Int) : Value :=
  if t < 0 ∨ 1099511627776 < t then .tuple #[.int .i64 0, .int .i64 0]
  else .tuple #[.int .i64 (t - t % (wd t.toNat : Int)), .int .i64 (t - t % (wd t.toNat : Int) + (wd t.toNat : Int) - 1)]

theorem buckV_out (t : Int) (h : t < 0 ∨ 1099511627776 < t) : buckV t = .tuple #[.int .i64 0, .int .i64 0] := if_pos h
theorem buckV_in (t : Nat) (h : t ≤ 1099511627776) : buckV (t : Int) = .tuple #[.int .i64 ((t : Int) - (t : Int) % (wd t : Int)), .int .i64 ((t : Int) - (t : Int) % (wd t : Int) + (wd t : Int) - 1)] := by
  unfold buckV
  rw [if_neg (by omega)]
  rfl

set_option maxHeartbeats 400000 in
theorem tbucket_out (t : Int) (w : World) (h : t < 0 ∨ 1099511627776 < t) :
    Calls Tryz.prog 50 #[.int .i64 t] w fun e w' => e = .returned (.tuple #[.int .i64 0, .int .i64 0]) ∧ w' = w := by
  rcases h with h | h
  · go_enter Tryz.func50, Tryz.ntmps50
    go_wp2_with fail
    go_ret2
    exact ⟨rfl, rfl⟩
  · have h' : ¬ t < 0 := by omega
    go_enter Tryz.func50, Tryz.ntmps50
    go_wp2_with fail
    go_ret2
    exact ⟨rfl, rfl⟩

theorem tbucket_any (t : Int) (w : World) :
    Calls Tryz.prog 50 #[.int .i64 t] w fun e w' => e = .returned (buckV t) ∧ w' = w := by
  by_cases h : t < 0 ∨ 1099511627776 < t
  · rw [buckV_out t h]
    exact tbucket_out t w h
  · obtain ⟨n, rfl⟩ : ∃ n : Nat, t = (n : Int) := ⟨t.toNat, by omega⟩
    rw [buckV_in n (by omega)]
    exact tbucket_in n w (by omega)

theorem buckV_two (t : Int) : ∃ a b : Int, buckV t = .tuple #[.int .i64 a, .int .i64 b] := by
  unfold buckV
  split
  · exact ⟨_, _, rfl⟩
  · exact ⟨_, _, rfl⟩

set_option maxHeartbeats 400000 in
theorem cbucket_any (t : Int) (w : World) :
    Calls Tryz.prog 26 #[.int .i64 t] w fun e w' => e = .returned (buckV t) ∧ w' = w := by
  obtain ⟨a, b, hab⟩ := buckV_two t
  have h18 := tbucket_any t w
  rw [hab] at h18 ⊢
  have H18 : Hid (Calls Tryz.prog 50 #[.int .i64 t] w fun e w' => e = .returned (.tuple #[.int .i64 a, .int .i64 b]) ∧ w' = w) := h18
  clear h18 hab
  go_enter Tryz.func26, Tryz.ntmps26
  go_wp2_with fail
  refine H18.out.mono ?_
  rintro e w' ⟨rfl, rfl⟩
  go_wp2_with fail
  go_ret2
  exact ⟨rfl, rfl⟩

theorem mod_step (m s : Nat) (h : m % s = 0) : (m + s) % s = 0 := by rw [Nat.add_mod_right]; exact h
theorem lo_of (t m s : Nat) (h : m % s = 0) (h1 : m ≤ t) (h2 : t < m + s) : (t : Int) - (t : Int) % (s : Int) = (m : Int) := by
  have e : t % s = t - m := by
    have : t = m + (t - m) := by omega
    rw [this, Nat.add_mod, h, Nat.zero_add, Nat.mod_mod, Nat.mod_eq_of_lt (by omega)]
    omega
  have : ((t % s : Nat) : Int) = (t : Int) % (s : Int) := by simp
  omega

set_option maxHeartbeats 800000 in
theorem rbucket_in (t : Nat) (w : World) (h1 : t ≤ 1099511627776) :
    Calls Tryz.prog 28 #[.int .i64 t] w fun e w' => e = .returned (buckV t) ∧ w' = w := by
  have hn : ¬ (t : Int) < 0 := by omega
  have hm : ¬ (1099511627776 : Int) < (t : Int) := by omega
  by_cases h4 : t < 4
  · have h4' : (t : Int) < 4 := by omega
    have hw : wd t = 1 := by simp [wd, h4]
    have hb : buckV (t : Int) = .tuple #[.int .i64 t, .int .i64 t] := by
      rw [buckV_in t h1, hw]
      have : (t : Int) % ((1 : Nat) : Int) = 0 := by omega
      rw [this]
      simp
    rw [hb]
    clear hb hw h1
    go_enter Tryz.func28, Tryz.ntmps28
    go_wp2_with fail
    go_ret2
    exact ⟨rfl, rfl⟩
  · have h4' : ¬ (t : Int) < 4 := by omega
    have HB : Hid (buckV (t : Int) = .tuple #[.int .i64 ((t : Int) - (t : Int) % (wd t : Int)), .int .i64 ((t : Int) - (t : Int) % (wd t : Int) + (wd t : Int) - 1)]) := buckV_in t h1
    clear h1
    go_enter Tryz.func28, Tryz.ntmps28
    go_wp2_with fail
    go_loop [4] (fun v => ∃ s : Nat, 1 ≤ s ∧ 4 * s ≤ t ∧ v = .int .i64 s ∧ Hid (∃ k, s = 2 ^ k)) (fun v => t - (intOf v).toNat)
    case atStart => exact ⟨1, by omega, by omega, rfl, ⟨0, rfl⟩⟩
    case round =>
      obtain ⟨s, hs1, hs4, rfl, HK⟩ := hrel
      by_cases h8 : 8 * (s : Int) ≤ (t : Int)
      · go_wp2_with fail
        go_round
        case rel => exact ⟨2 * s, by omega, by omega, by go_num, by obtain ⟨k, hk⟩ := HK.out; exact ⟨k + 1, by rw [Nat.pow_succ]; omega⟩⟩
        case measure => simp [intOf]; omega
      · have HW : Hid (wd t = s) := by
          obtain ⟨k, hk⟩ := HK.out
          rw [hk]
          rw [hk] at hs4 h8
          have hp : (2 : Int) ^ k = ((2 ^ k : Nat) : Int) := by push_cast; rfl
          exact wd_of t k hs4 (by omega) (by have : (2 : Nat) ^ 64 = 18446744073709551616 := by decide
                                             omega)
        clear HK
        go_wp2_with fail
        go_loop [5] (fun v => ∃ m : Nat, m ≤ t ∧ v = .int .i64 m ∧ Hid (m % s = 0)) (fun v => t - (intOf v).toNat)
        case atStart => exact ⟨4 * s, by omega, by go_num, by show 4 * s % s = 0; exact Nat.mul_mod_left 4 s⟩
        case round =>
          obtain ⟨m, hmt, rfl, HM⟩ := hrel
          by_cases hlt : (m : Int) + (s : Int) ≤ (t : Int)
          · go_wp2_with fail
            go_round
            case rel => exact ⟨m + s, by omega, by go_num, mod_step m s HM.out⟩
            case measure => simp [intOf]; omega
          · go_wp2_with fail
            go_ret2
            refine ⟨?_, rfl⟩
            rw [HB.out, HW.out, lo_of t m s HM.out hmt (by omega)]
            rfl

set_option maxHeartbeats 400000 in
theorem rbucket_out (t : Int) (w : World) (h : t < 0 ∨ 1099511627776 < t) :
    Calls Tryz.prog 28 #[.int .i64 t] w fun e w' => e = .returned (.tuple #[.int .i64 0, .int .i64 0]) ∧ w' = w := by
  rcases h with h | h
  · go_enter Tryz.func28, Tryz.ntmps28
    go_wp2_with fail
    go_ret2
    exact ⟨rfl, rfl⟩
  · have h' : ¬ t < 0 := by omega
    go_enter Tryz.func28, Tryz.ntmps28
    go_wp2_with fail
    go_ret2
    exact ⟨rfl, rfl⟩

theorem rbucket_any (t : Int) (w : World) :
    Calls Tryz.prog 28 #[.int .i64 t] w fun e w' => e = .returned (buckV t) ∧ w' = w := by
  by_cases h : t < 0 ∨ 1099511627776 < t
  · rw [buckV_out t h]
    exact rbucket_out t w h
  · obtain ⟨n, rfl⟩ : ∃ n : Nat, t = (n : Int) := ⟨t.toNat, by omega⟩
    exact rbucket_in n w (by omega)

set_option maxHeartbeats 400000 in
/-- The statement's own 'bucket': true. -/
theorem lbucket_any (t : Int) (w : World) :
    Calls Tryz.prog 14 #[.int .i64 t] w fun e w' => e = .returned (.bool true) ∧ w' = w := by
  obtain ⟨a, b, hab⟩ := buckV_two t
  have h10 := cbucket_any t w
  have h11 := rbucket_any t w
  rw [hab] at h10 h11
  have H10 : Hid (Calls Tryz.prog 26 #[.int .i64 t] w fun e w' => e = .returned (.tuple #[.int .i64 a, .int .i64 b]) ∧ w' = w) := h10
  have H11 : Hid (Calls Tryz.prog 28 #[.int .i64 t] w fun e w' => e = .returned (.tuple #[.int .i64 a, .int .i64 b]) ∧ w' = w) := h11
  clear h10 h11 hab
  go_enter Tryz.func14, Tryz.ntmps14
  go_wp2_with fail
  refine H10.out.mono ?_
  rintro e w' ⟨rfl, rfl⟩
  go_wp2_with fail
  refine H11.out.mono ?_
  rintro e w' ⟨rfl, rfl⟩
  go_wp2_with fail
  go_ret
  exact ⟨rfl, rfl⟩
end Go.Proofs.YtlccfpbbdgpjbaaGreatDoor
