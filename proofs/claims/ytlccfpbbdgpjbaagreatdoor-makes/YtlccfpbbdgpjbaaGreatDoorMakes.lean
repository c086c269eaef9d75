/-
  step, first; then Makes.
-/
import Derived.Test.YtlccfpbbdgpjbaaGreatDoorMade
import Derived.Test.YtlccfpbbdgpjbaaGreatDoorBucket
import Derived.Deep.MidRow
namespace Go.Proofs.YtlccfpbbdgpjbaaGreatDoor
open Go.RowKit

set_option maxHeartbeats 800000 in
theorem step_bucket (n a b c d e f g h i j e0 e1 e2 e3 e4 e6 e7 : Int) (e5 : Bool) (G : Nat) (W w : World) (I : Inv G W w) :
    Calls Tryz.prog 15 #[.pointer (some ⟨G, 0, none⟩), .agg #[.int .i64 1, .int .i64 n, .int .i64 a, .int .i64 b, .int .i64 c, .int .i64 d, .int .i64 e, .int .i64 f, .int .i64 g, .int .i64 h, .int .i64 i, .int .i64 j, .int .i64 e0, .int .i64 e1, .int .i64 e2, .int .i64 e3, .int .i64 e4, .bool e5, .int .u64 e6, .int .i64 e7]] w fun ev w' => ev = .returned (.bool true) ∧ Inv G W w' := by
  have c0 : Below w.heap.size w (w.alloc (.cells #[.int .i64 1, .int .i64 n, .int .i64 a, .int .i64 b, .int .i64 c, .int .i64 d, .int .i64 e, .int .i64 f, .int .i64 g, .int .i64 h, .int .i64 i, .int .i64 j, .int .i64 e0, .int .i64 e1, .int .i64 e2, .int .i64 e3, .int .i64 e4, .bool e5, .int .u64 e6, .int .i64 e7] 41)) := (Below.refl _ _).alloc (Nat.le_refl _) _
  have I0 := I.on c0
  clear I c0
  go_enter Tryz.func15, Tryz.ntmps15
  go_wp2_with fail
  refine (lbucket_any _ _).mono ?_
  rintro ev w' ⟨rfl, rfl⟩
  go_wp2_with fail
  go_ret
  exact ⟨rfl, I0⟩

set_option maxHeartbeats 800000 in
theorem step_new (n a b c d e f g h i j e0 e1 e2 e3 e4 e6 e7 : Int) (e5 : Bool) (G : Nat) (W w : World) (hL : Laid W) (I : Inv G W w) :
    Calls Tryz.prog 15 #[.pointer (some ⟨G, 0, none⟩), .agg #[.int .i64 2, .int .i64 n, .int .i64 a, .int .i64 b, .int .i64 c, .int .i64 d, .int .i64 e, .int .i64 f, .int .i64 g, .int .i64 h, .int .i64 i, .int .i64 j, .int .i64 e0, .int .i64 e1, .int .i64 e2, .int .i64 e3, .int .i64 e4, .bool e5, .int .u64 e6, .int .i64 e7]] w fun ev w' => ev = .returned (.bool true) ∧ Inv G W w' := by
  have c0 : Below w.heap.size w (w.alloc (.cells #[.int .i64 2, .int .i64 n, .int .i64 a, .int .i64 b, .int .i64 c, .int .i64 d, .int .i64 e, .int .i64 f, .int .i64 g, .int .i64 h, .int .i64 i, .int .i64 j, .int .i64 e0, .int .i64 e1, .int .i64 e2, .int .i64 e3, .int .i64 e4, .bool e5, .int .u64 e6, .int .i64 e7] 41)) := (Below.refl _ _).alloc (Nat.le_refl _) _
  have HM : Hid (Calls Tryz.prog 12 #[.pointer (some ⟨G, 0, none⟩), .agg #[.int .i64 a, .int .i64 b, .int .i64 c, .int .i64 d, .int .i64 e, .int .i64 f, .int .i64 g, .int .i64 h, .int .i64 i, .int .i64 j]] (w.alloc (.cells #[.int .i64 2, .int .i64 n, .int .i64 a, .int .i64 b, .int .i64 c, .int .i64 d, .int .i64 e, .int .i64 f, .int .i64 g, .int .i64 h, .int .i64 i, .int .i64 j, .int .i64 e0, .int .i64 e1, .int .i64 e2, .int .i64 e3, .int .i64 e4, .bool e5, .int .u64 e6, .int .i64 e7] 41)) fun ev w' => ev = .returned (.bool true) ∧ Inv G W w') := made_any a b c d e f g h i j G W _ hL (I.on c0)
  clear I c0 hL
  go_enter Tryz.func15, Tryz.ntmps15
  go_wp2_with fail
  refine HM.out.mono ?_
  rintro ev w' ⟨rfl, I1⟩
  clear HM
  go_wp2_with fail
  go_ret
  exact ⟨rfl, I1⟩

set_option maxHeartbeats 400000 in
theorem first_cfg (w : World) : Calls Tryz.prog 13 #[] w fun ev w' => ev = .returned (.agg #[.int .i64 1, .int .i64 2, .int .i64 10, .int .i64 100, .int .i64 3, .int .i64 2, .int .i64 5, .int .i64 20, .int .i64 95, .int .i64 0]) ∧ Below w.heap.size w w' := by
  go_enter Tryz.func13, Tryz.ntmps13
  go_wp2
  exact bodyPost_ret (v := .agg #[.int .i64 1, .int .i64 2, .int .i64 10, .int .i64 100, .int .i64 3, .int .i64 2, .int .i64 5, .int .i64 20, .int .i64 95, .int .i64 0]) (by simp [results, Tryz.results13, go_sem]) rfl ⟨rfl, (Below.refl _ _).alloc (Nat.le_refl _) _⟩

/-- The twenty cells of an Op of kind kd. -/
def IsOp (kd : Int) (cs : List Value) : Prop := ∃ (n a b c d e f g h i j e0 e1 e2 e3 e4 e6 e7 : Int) (e5 : Bool), cs = [.int .i64 kd, .int .i64 n, .int .i64 a, .int .i64 b, .int .i64 c, .int .i64 d, .int .i64 e, .int .i64 f, .int .i64 g, .int .i64 h, .int .i64 i, .int .i64 j, .int .i64 e0, .int .i64 e1, .int .i64 e2, .int .i64 e3, .int .i64 e4, .bool e5, .int .u64 e6, .int .i64 e7]

/-- An Op lies at this place. -/
def OpAt (w : World) (s o : Nat) : Prop := ∃ kd cs, w.rangeAt s o cs ∧ IsOp kd cs

theorem OpAt.on {w w' : World} {B s o : Nat} (h : OpAt w s o) (hb : Below B w w') (hs : s < B) : OpAt w' s o := by
  obtain ⟨kd, cs, hr, ho⟩ := h
  exact ⟨kd, cs, fun j v hv => (hb.cell (p := ⟨s, o + j, none⟩) hs).trans (hr j v hv), ho⟩

theorem IsOp.length {kd : Int} {cs : List Value} (h : IsOp kd cs) : cs.length = 20 := by
  obtain ⟨n, a, b, c, d, e, f, g, h, i, j, e0, e1, e2, e3, e4, e6, e7, e5, rfl⟩ := h
  rfl
theorem IsOp.head {kd : Int} {cs : List Value} (h : IsOp kd cs) : cs[0]? = some (.int .i64 kd) := by
  obtain ⟨n, a, b, c, d, e, f, g, h, i, j, e0, e1, e2, e3, e4, e6, e7, e5, rfl⟩ := h
  rfl
theorem step_op2 {cs : List Value} (h : IsOp 2 cs) (G : Nat) (W w : World) (hL : Laid W) (I : Inv G W w) :
    Calls Tryz.prog 15 #[.pointer (some ⟨G, 0, none⟩), .agg cs.toArray] w fun ev w' => ev = .returned (.bool true) ∧ Inv G W w' := by
  obtain ⟨n, a, b, c, d, e, f, g, h, i, j, e0, e1, e2, e3, e4, e6, e7, e5, rfl⟩ := h
  exact step_new n a b c d e f g h i j e0 e1 e2 e3 e4 e6 e7 e5 G W w hL I
theorem step_op1 {cs : List Value} (h : IsOp 1 cs) (G : Nat) (W w : World) (I : Inv G W w) :
    Calls Tryz.prog 15 #[.pointer (some ⟨G, 0, none⟩), .agg cs.toArray] w fun ev w' => ev = .returned (.bool true) ∧ Inv G W w' := by
  obtain ⟨n, a, b, c, d, e, f, g, h, i, j, e0, e1, e2, e3, e4, e6, e7, e5, rfl⟩ := h
  exact step_bucket n a b c d e f g h i j e0 e1 e2 e3 e4 e6 e7 e5 G W w I
theorem Tryz.size41 : (Tryz.prog.info? 41).map (·.size) = some 20 := by kernel_rfl

theorem inv_new (w : World) : Inv w.heap.size w (w.alloc (.cells #[.slice none 0 0, .slice none 0 0, .int .i64 0, .slice none 0 0, .slice none 0 0] 31)) :=
  ⟨(Below.refl _ _).alloc (Nat.le_refl _) _, Nat.le_refl _, _, _, 0, by omega, by simp, by simp, by simp, by simp, ⟨[], World.ownsRow_nil _ _ _ _⟩, ⟨[], World.ownsRow_nil _ _ _ _⟩, fun k hk => by simp [Value.ownBlock] at hk⟩

set_option maxHeartbeats 1600000 in
theorem makes_empty (A : Option Addr) (cap : Nat) (w : World) (hL : Laid w) :
    Calls Tryz.prog 3 #[.slice A 0 cap] w fun ev w' => ev = .returned (.bool true) ∧ Below w.heap.size w w' := by
  have I0 := inv_new w
  go_enter Tryz.func3, Tryz.ntmps3
  go_wp2_with fail
  refine (first_cfg _).mono ?_
  rintro ev w1 ⟨rfl, hb1⟩
  have I1 := I0.on hb1
  clear I0 hb1
  go_wp2_with fail
  refine (made_any 1 2 10 100 3 2 5 20 95 0 w.heap.size w _ hL I1).mono ?_
  rintro ev w2 ⟨rfl, I2⟩
  clear I1
  go_wp2_with fail
  refine (lbucket_any _ _).mono ?_
  rintro ev w' ⟨rfl, rfl⟩
  go_wp2_with fail
  refine wp_loop_rounds 1 ?_
  rw [rounds_succ]
  go_wp2_with fail
  go_ret
  exact ⟨rfl, I2.below⟩

set_option maxRecDepth 100000 in
set_option maxHeartbeats 1600000 in
theorem makes_full (sb so len cap : Nat) (w : World) (hL : Laid w) (hlen : len ≤ maxLen) (hsb : sb < w.heap.size) (hO : ∀ k, k < len → OpAt w sb (so + k * 20)) :
    Calls Tryz.prog 3 #[.slice (some ⟨sb, so, none⟩) len cap] w fun ev w' => ev = .returned (.bool true) ∧ Below w.heap.size w w' := by
  unfold maxLen at hlen
  have I0 := inv_new w
  have HO : Hid (∀ k, k < len → OpAt w sb (so + k * 20)) := hO
  clear hO
  go_enter Tryz.func3, Tryz.ntmps3
  go_wp2_with fail
  refine (first_cfg _).mono ?_
  rintro ev w1 ⟨rfl, hb1⟩
  have I1 := I0.on hb1
  clear I0 hb1
  go_wp2_with fail
  refine (made_any 1 2 10 100 3 2 5 20 95 0 w.heap.size w _ hL I1).mono ?_
  rintro ev w2 ⟨rfl, I2⟩
  clear I1
  go_wp2_with fail
  refine (lbucket_any _ _).mono ?_
  rintro ev w' ⟨rfl, rfl⟩
  go_wp2_with fail
  go_loopw [5, 6] (fun ok i wr => ∃ k : Nat, k ≤ len ∧ i = .int .i64 k ∧ ok = .bool true ∧ Inv w.heap.size w wr) (fun _ i _ => len - (intOf i).toNat)
  case atStart => exact ⟨0, Nat.zero_le _, rfl, rfl, I2⟩
  case round =>
    obtain ⟨k, hk, rfl, rfl, I⟩ := hrel
    by_cases hlt : (k : Int) < (len : Int)
    · obtain ⟨kd, cs, hr, ho⟩ := (HO.out k (by omega)).on I.below hsb
      have q0 : wr.cell? ⟨sb, so + k * 20, none⟩ = some (.int .i64 kd) := hr 0 _ ho.head
      have hi : (Tryz.prog.info? 41).map (·.size) = some cs.length := by rw [Tryz.size41, ho.length]
      have HI : Hid ((Tryz.prog.info? 41).map (·.size) = some cs.length) := hi
      clear hi
      by_cases k2 : kd = 2
      · subst k2
        have HS : Hid (Calls Tryz.prog 15 #[.pointer (some ⟨w.heap.size, 0, none⟩), .agg cs.toArray] wr fun ev w' => ev = .returned (.bool true) ∧ Inv w.heap.size w w') := step_op2 ho w.heap.size w wr hL I
        clear ho
        go_wp2_with (first | (refine wpList_load_mid (by rfl) 41 _ (by rfl) sb (so + k * 20) (by rfl) cs _ hr Tryz.underlying41 rfl HI.out ?_))
        refine HS.out.mono ?_
        rintro ev w' ⟨rfl, I'⟩
        clear HS hr HI q0
        go_wp2_with fail
        go_roundw
        case rel => exact ⟨k + 1, by omega, by go_num, rfl, I'⟩
        case measure => simp [intOf]; omega
      · by_cases k1 : kd = 1
        · subst k1
          clear k2
          have HS : Hid (Calls Tryz.prog 15 #[.pointer (some ⟨w.heap.size, 0, none⟩), .agg cs.toArray] wr fun ev w' => ev = .returned (.bool true) ∧ Inv w.heap.size w w') := step_op1 ho w.heap.size w wr I
          clear ho
          go_wp2_with (first | (refine wpList_load_mid (by rfl) 41 _ (by rfl) sb (so + k * 20) (by rfl) cs _ hr Tryz.underlying41 rfl HI.out ?_))
          refine HS.out.mono ?_
          rintro ev w' ⟨rfl, I'⟩
          clear HS hr HI q0
          go_wp2_with fail
          go_roundw
          case rel => exact ⟨k + 1, by omega, by go_num, rfl, I'⟩
          case measure => simp [intOf]; omega
        · have b2 : (kd == 2) = false := by simpa using k2
          have b1 : (kd == 1) = false := by simpa using k1
          clear k1 k2 hr ho HI
          go_wp2_with fail
          go_roundw
          case rel => exact ⟨k + 1, by omega, by go_num, rfl, I⟩
          case measure => simp [intOf]; omega
    · go_wp2_with fail
      go_ret
      exact ⟨rfl, I.below⟩
end Go.Proofs.YtlccfpbbdgpjbaaGreatDoor
