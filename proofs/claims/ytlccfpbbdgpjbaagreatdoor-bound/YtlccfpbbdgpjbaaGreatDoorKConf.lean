import Derived.Test.YtlccfpbbdgpjbaaGreatDoorPNew
import Derived.Deep.RegionWith
namespace Go.Proofs.YtlccfpbbdgpjbaaGreatDoor
open Go.RowKit

/-- Some raw numbers, as they lie. -/
def IntsAt (W : World) (A : Option Addr) (len : Nat) (zs : List Int) : Prop :=
  zs.length = len ∧ (∀ z ∈ zs, -9223372036854775808 ≤ z ∧ z ≤ 9223372036854775807) ∧ len ≤ maxLen ∧ (len = 0 ∨ ∃ sb so, A = some ⟨sb, so, none⟩ ∧ sb < W.heap.size ∧ ∀ k (h : k < zs.length), W.cell? ⟨sb, so + k, none⟩ = some (.int .i64 zs[k]))
theorem IntsAt.on {W W' : World} {A : Option Addr} {len : Nat} {zs : List Int} (h : IntsAt W A len zs) (hs : W.heap.size ≤ W'.heap.size) (hb : ∀ sb so, A = some ⟨sb, so, none⟩ → sb < W.heap.size → W'.heap[sb]? = W.heap[sb]?) : IntsAt W' A len zs := by
  obtain ⟨h1, h2, h3, h4⟩ := h
  refine ⟨h1, h2, h3, ?_⟩
  rcases h4 with h4 | ⟨sb, so, e, hl, hc⟩
  · exact .inl h4
  · exact .inr ⟨sb, so, e, Nat.lt_of_lt_of_le hl hs, fun k hk => (World.cell?_of_block (hb sb so e hl)).trans (hc k hk)⟩
theorem IntsAt.below {W W' : World} {A : Option Addr} {len : Nat} {zs : List Int} (h : IntsAt W A len zs) (hb : Below W.heap.size W W') : IntsAt W' A len zs := h.on hb.size (fun sb _ _ hl => hb.block sb hl)

def pickV (c n : Int) : Int := (if c < 0 then -(c + 1) else c) % n
theorem pickV_lt (c n : Int) (hn : 0 < n) : 0 ≤ pickV c n ∧ pickV c n < n := ⟨Int.emod_nonneg _ (by omega), Int.emod_lt_of_pos _ hn⟩

set_option maxRecDepth 100000 in
set_option maxHeartbeats 1600000 in
theorem pick_any (c n : Int) (W : World) (hc0 : -9223372036854775808 ≤ c) (hc1 : c ≤ 9223372036854775807) (hn : 0 < n) (hn1 : n ≤ 1000000) :
    Calls Tryz.prog 19 #[.int .i64 c, .int .i64 n] W fun e w' => e = .returned (.int .i64 (pickV c n)) ∧ w' = W := by
  obtain ⟨p0, p1⟩ := pickV_lt c n hn
  have hn0 : ¬ n = 0 := by omega
  by_cases h : c < 0
  · have e1 : pickV c n = -((c + 1).tmod n) := by
      unfold pickV
      rw [if_pos h, ← Int.neg_tmod, Int.tmod_eq_emod_of_nonneg (by omega)]
    rw [e1] at p0 p1 ⊢
    go_enter Tryz.func19, Tryz.ntmps19
    go_wp2_with fail
    go_ret
    exact ⟨rfl, rfl⟩
  · have e1 : pickV c n = c % n := by
      unfold pickV
      rw [if_neg h]
    rw [e1] at p0 p1 ⊢
    go_enter Tryz.func19, Tryz.ntmps19
    go_wp2_with fail
    go_ret
    exact ⟨rfl, rfl⟩

def atV (zs : List Int) (i : Nat) (n : Int) : Int := if h : i < zs.length then pickV zs[i] n else (i : Int) % n
theorem atV_lt (zs : List Int) (i : Nat) (n : Int) (hn : 0 < n) : 0 ≤ atV zs i n ∧ atV zs i n < n := by
  unfold atV
  split
  · exact pickV_lt _ _ hn
  · exact ⟨Int.emod_nonneg _ (by omega), Int.emod_lt_of_pos _ hn⟩

set_option maxRecDepth 100000 in
set_option maxHeartbeats 1600000 in
theorem at_any (A : Option Addr) (len cap : Nat) (zs : List Int) (i : Nat) (n : Int) (W : World) (hz : IntsAt W A len zs) (hi : i ≤ 1000) (hn : 0 < n) (hn1 : n ≤ 1000000) :
    Calls Tryz.prog 33 #[.slice A len cap, .int .i64 i, .int .i64 n] W fun e w' => e = .returned (.int .i64 (atV zs i n)) ∧ w' = W := by
  obtain ⟨h1, h2, h3, h4⟩ := hz
  unfold maxLen at h3
  have hn0 : ¬ n = 0 := by omega
  by_cases h : i < zs.length
  · have e1 : atV zs i n = pickV zs[i] n := by unfold atV; rw [dif_pos h]
    rcases h4 with h4 | ⟨sb, so, rfl, hl, hc⟩
    · omega
    · have hc' := hc i h
      obtain ⟨z0, z1⟩ := h2 zs[i] (List.getElem_mem _)
      have HP := hide (pick_any zs[i] n W z0 z1 hn hn1)
      rw [e1]
      have hlt : (i : Int) < (len : Int) := by omega
      generalize pickV zs[i] n = r at HP ⊢
      generalize zs[i] = z at hc' HP
      clear hc e1 h2
      go_enter Tryz.func33, Tryz.ntmps33
      go_wp2_with fail
      refine HP.out.mono ?_
      rintro e w1 ⟨rfl, rfl⟩
      go_wp2_with fail
      go_ret
      exact ⟨rfl, rfl⟩
  · have e1 : atV zs i n = (i : Int) % n := by unfold atV; rw [dif_neg h]
    obtain ⟨p0, p1⟩ := atV_lt zs i n hn
    rw [e1] at p0 p1 ⊢
    have hlt : ¬ (i : Int) < (len : Int) := by omega
    clear h2 h4 h1 h e1
    go_enter Tryz.func33, Tryz.ntmps33
    go_wp2_with fail
    go_ret
    exact ⟨rfl, rfl⟩

/-- The config that is made. -/
def confV (zs : List Int) : Cfg := ⟨atV zs 0 6, 1 + atV zs 1 5, atV zs 2 30, 1 + atV zs 3 120, 1 + atV zs 4 6, 1 + atV zs 5 8, 1 + atV zs 6 10, 1 + atV zs 6 10 + atV zs 9 40, 1 + atV zs 7 100, atV zs 8 4⟩
def cfgVal (c : Cfg) : Value := .agg #[.int .i64 c.deposit, .int .i64 c.cost, .int .i64 c.cap, .int .i64 c.window, .int .i64 c.attempts, .int .i64 c.flight, .int .i64 c.base, .int .i64 c.most, .int .i64 c.rank, .int .i64 c.samples]

set_option maxRecDepth 100000 in
set_option maxHeartbeats 8000000 in
theorem kconfig_any (A : Option Addr) (len cap : Nat) (zs : List Int) (W : World) (hz : IntsAt W A len zs) :
    Calls Tryz.prog 17 #[.slice A len cap] W fun e w' => e = .returned (cfgVal (confV zs)) ∧ Below W.heap.size W w' := by
  have H0 : Hid (∀ W', Below W.heap.size W W' → Calls Tryz.prog 33 #[.slice A len cap, .int .i64 0, .int .i64 6] W' fun e w' => e = .returned (.int .i64 (atV zs 0 6)) ∧ w' = W') := fun W' hb => at_any A len cap zs 0 6 W' (hz.below hb) (by omega) (by omega) (by omega)
  have H1 : Hid (∀ W', Below W.heap.size W W' → Calls Tryz.prog 33 #[.slice A len cap, .int .i64 1, .int .i64 5] W' fun e w' => e = .returned (.int .i64 (atV zs 1 5)) ∧ w' = W') := fun W' hb => at_any A len cap zs 1 5 W' (hz.below hb) (by omega) (by omega) (by omega)
  have H2 : Hid (∀ W', Below W.heap.size W W' → Calls Tryz.prog 33 #[.slice A len cap, .int .i64 2, .int .i64 30] W' fun e w' => e = .returned (.int .i64 (atV zs 2 30)) ∧ w' = W') := fun W' hb => at_any A len cap zs 2 30 W' (hz.below hb) (by omega) (by omega) (by omega)
  have H3 : Hid (∀ W', Below W.heap.size W W' → Calls Tryz.prog 33 #[.slice A len cap, .int .i64 3, .int .i64 120] W' fun e w' => e = .returned (.int .i64 (atV zs 3 120)) ∧ w' = W') := fun W' hb => at_any A len cap zs 3 120 W' (hz.below hb) (by omega) (by omega) (by omega)
  have H4 : Hid (∀ W', Below W.heap.size W W' → Calls Tryz.prog 33 #[.slice A len cap, .int .i64 4, .int .i64 6] W' fun e w' => e = .returned (.int .i64 (atV zs 4 6)) ∧ w' = W') := fun W' hb => at_any A len cap zs 4 6 W' (hz.below hb) (by omega) (by omega) (by omega)
  have H5 : Hid (∀ W', Below W.heap.size W W' → Calls Tryz.prog 33 #[.slice A len cap, .int .i64 5, .int .i64 8] W' fun e w' => e = .returned (.int .i64 (atV zs 5 8)) ∧ w' = W') := fun W' hb => at_any A len cap zs 5 8 W' (hz.below hb) (by omega) (by omega) (by omega)
  have H6 : Hid (∀ W', Below W.heap.size W W' → Calls Tryz.prog 33 #[.slice A len cap, .int .i64 6, .int .i64 10] W' fun e w' => e = .returned (.int .i64 (atV zs 6 10)) ∧ w' = W') := fun W' hb => at_any A len cap zs 6 10 W' (hz.below hb) (by omega) (by omega) (by omega)
  have H7 : Hid (∀ W', Below W.heap.size W W' → Calls Tryz.prog 33 #[.slice A len cap, .int .i64 7, .int .i64 100] W' fun e w' => e = .returned (.int .i64 (atV zs 7 100)) ∧ w' = W') := fun W' hb => at_any A len cap zs 7 100 W' (hz.below hb) (by omega) (by omega) (by omega)
  have H8 : Hid (∀ W', Below W.heap.size W W' → Calls Tryz.prog 33 #[.slice A len cap, .int .i64 8, .int .i64 4] W' fun e w' => e = .returned (.int .i64 (atV zs 8 4)) ∧ w' = W') := fun W' hb => at_any A len cap zs 8 4 W' (hz.below hb) (by omega) (by omega) (by omega)
  have H9 : Hid (∀ W', Below W.heap.size W W' → Calls Tryz.prog 33 #[.slice A len cap, .int .i64 9, .int .i64 40] W' fun e w' => e = .returned (.int .i64 (atV zs 9 40)) ∧ w' = W') := fun W' hb => at_any A len cap zs 9 40 W' (hz.below hb) (by omega) (by omega) (by omega)
  have b0 := atV_lt zs 0 6 (by omega)
  have b1 := atV_lt zs 1 5 (by omega)
  have b2 := atV_lt zs 2 30 (by omega)
  have b3 := atV_lt zs 3 120 (by omega)
  have b4 := atV_lt zs 4 6 (by omega)
  have b5 := atV_lt zs 5 8 (by omega)
  have b6 := atV_lt zs 6 10 (by omega)
  have b7 := atV_lt zs 7 100 (by omega)
  have b8 := atV_lt zs 8 4 (by omega)
  have b9 := atV_lt zs 9 40 (by omega)
  clear hz
  unfold cfgVal confV
  dsimp only
  go_enter Tryz.func17, Tryz.ntmps17
  go_wp2_with fail
  have hB : Below W.heap.size W (W.alloc (.cells #[.int .i64 0, .int .i64 0, .int .i64 0, .int .i64 0, .int .i64 0, .int .i64 0, .int .i64 0, .int .i64 0, .int .i64 0, .int .i64 0] 34)) := (Below.refl _ _).alloc (Nat.le_refl _) _
  refine (H0.out _ hB).mono ?_
  rintro e w1 ⟨rfl, rfl⟩
  go_wp2_with fail
  refine (H1.out _ hB).mono ?_
  rintro e w1 ⟨rfl, rfl⟩
  go_wp2_with fail
  refine (H2.out _ hB).mono ?_
  rintro e w1 ⟨rfl, rfl⟩
  go_wp2_with fail
  refine (H3.out _ hB).mono ?_
  rintro e w1 ⟨rfl, rfl⟩
  go_wp2_with fail
  refine (H4.out _ hB).mono ?_
  rintro e w1 ⟨rfl, rfl⟩
  go_wp2_with fail
  refine (H5.out _ hB).mono ?_
  rintro e w1 ⟨rfl, rfl⟩
  go_wp2_with fail
  refine (H6.out _ hB).mono ?_
  rintro e w1 ⟨rfl, rfl⟩
  go_wp2_with fail
  refine (H7.out _ hB).mono ?_
  rintro e w1 ⟨rfl, rfl⟩
  go_wp2_with fail
  refine (H8.out _ hB).mono ?_
  rintro e w1 ⟨rfl, rfl⟩
  go_wp2_with fail
  have hwr : IntKind.i64.wrap (1 + atV zs 6 10 + atV zs 9 40) = 1 + atV zs 6 10 + atV zs 9 40 := by rw [IntKind.wrap_i64]; omega
  have hle : W.heap.size ≤ (W.alloc (.cells #[.int .i64 0, .int .i64 0, .int .i64 0, .int .i64 0, .int .i64 0, .int .i64 0, .int .i64 0, .int .i64 0, .int .i64 0, .int .i64 0] 34)).heap.size := hB.size
  go_region_with (first
    | (go_at_call 33; refine (H9.out _ (hB.alloc hle _).drew).mono ?_; rintro e w1 ⟨rfl, rfl⟩))
  all_goals
    go_wp2_with fail
    refine bodyPost_ret (v := .agg #[.int .i64 (atV zs 0 6), .int .i64 (1 + atV zs 1 5), .int .i64 (atV zs 2 30), .int .i64 (1 + atV zs 3 120), .int .i64 (1 + atV zs 4 6), .int .i64 (1 + atV zs 5 8), .int .i64 (1 + atV zs 6 10), .int .i64 (1 + atV zs 6 10 + atV zs 9 40), .int .i64 (1 + atV zs 7 100), .int .i64 (atV zs 8 4)]) (by simp [results, Tryz.results17, go_sem]) rfl ⟨rfl, ?_⟩
    repeat (first | exact Below.refl _ _ | refine Below.drew ?_ | refine Below.alloc ?_ (by first | (simp; done) | (simp; omega)) _)
end Go.Proofs.YtlccfpbbdgpjbaaGreatDoor
