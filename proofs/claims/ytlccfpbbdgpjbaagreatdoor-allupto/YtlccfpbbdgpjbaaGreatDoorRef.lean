import Derived.Test.YtlccfpbbdgpjbaaGreatDoorZNew
namespace Go.Proofs.YtlccfpbbdgpjbaaGreatDoor
open Go.RowKit

/-- n lies from least to most. -/
def inB (n least most : Int) : Bool := decide (least ≤ n ∧ n ≤ most)
theorem inB_iff (n least most : Int) : inB n least most = true ↔ least ≤ n ∧ n ≤ most := by simp [inB]

theorem wref_yes (n a b : Int) (w : World) (h : inB n a b = true) : Calls Tryz.prog 51 #[.int .i64 n, .int .i64 a, .int .i64 b] w fun e w' => e = .returned (.bool true) ∧ w' = w := by
  obtain ⟨h1, h2⟩ := (inB_iff n a b).1 h
  clear h
  go_enter Tryz.func51, Tryz.ntmps51
  go_wp2
  go_ret
  exact ⟨rfl, rfl⟩
theorem wref_no (n a b : Int) (w : World) (h : inB n a b = false) : Calls Tryz.prog 51 #[.int .i64 n, .int .i64 a, .int .i64 b] w fun e w' => e = .returned (.bool false) ∧ w' = w := by
  have h' : ¬ (a ≤ n ∧ n ≤ b) := fun x => by rw [(inB_iff n a b).2 x] at h; cases h
  clear h
  by_cases h1 : n < a
  · clear h'
    go_enter Tryz.func51, Tryz.ntmps51
    go_wp2
    go_ret
    exact ⟨rfl, rfl⟩
  · have h2 : b < n := by omega
    clear h'
    go_enter Tryz.func51, Tryz.ntmps51
    go_wp2
    go_ret
    exact ⟨congrArg (fun x => Ending.returned (Value.bool x)) (decide_eq_false (by omega)), rfl⟩

set_option maxHeartbeats 1600000 in
theorem rnew_0 (a b c d e f g h i j : Int) (w : World)  (h0 : inB a 0 1000 = false) :
    Calls Tryz.prog 27 #[.agg #[.int .i64 a, .int .i64 b, .int .i64 c, .int .i64 d, .int .i64 e, .int .i64 f, .int .i64 g, .int .i64 h, .int .i64 i, .int .i64 j]] w fun ev w' => ev = .returned (.tuple #[.pointer none, .int .i64 1]) ∧ Below w.heap.size w w' := by
  have H0 : Hid (inB a 0 1000 = false) := h0
  clear h0
  go_enter Tryz.func27, Tryz.ntmps27
  go_wp2_with fail
  refine (wref_no _ _ _ _ H0.out).mono ?_
  rintro ev w' ⟨rfl, rfl⟩
  go_wp2_with fail
  go_ret2
  exact ⟨rfl, (Below.refl _ _).alloc (Nat.le_refl _) _⟩

set_option maxHeartbeats 1600000 in
theorem rnew_1 (a b c d e f g h i j : Int) (w : World) (h0 : inB a 0 1000 = true) (h1 : inB b 1 1000 = false) :
    Calls Tryz.prog 27 #[.agg #[.int .i64 a, .int .i64 b, .int .i64 c, .int .i64 d, .int .i64 e, .int .i64 f, .int .i64 g, .int .i64 h, .int .i64 i, .int .i64 j]] w fun ev w' => ev = .returned (.tuple #[.pointer none, .int .i64 1]) ∧ Below w.heap.size w w' := by
  have H0 : Hid (inB a 0 1000 = true) := h0
  have H1 : Hid (inB b 1 1000 = false) := h1
  clear h0 h1
  go_enter Tryz.func27, Tryz.ntmps27
  go_wp2_with fail
  refine (wref_yes _ _ _ _ H0.out).mono ?_
  rintro ev w' ⟨rfl, rfl⟩
  go_wp2_with fail
  refine (wref_no _ _ _ _ H1.out).mono ?_
  rintro ev w' ⟨rfl, rfl⟩
  go_wp2_with fail
  go_ret2
  exact ⟨rfl, (Below.refl _ _).alloc (Nat.le_refl _) _⟩

set_option maxHeartbeats 1600000 in
theorem rnew_2 (a b c d e f g h i j : Int) (w : World) (h0 : inB a 0 1000 = true) (h1 : inB b 1 1000 = true) (h2 : inB c 0 1000 = false) :
    Calls Tryz.prog 27 #[.agg #[.int .i64 a, .int .i64 b, .int .i64 c, .int .i64 d, .int .i64 e, .int .i64 f, .int .i64 g, .int .i64 h, .int .i64 i, .int .i64 j]] w fun ev w' => ev = .returned (.tuple #[.pointer none, .int .i64 1]) ∧ Below w.heap.size w w' := by
  have H0 : Hid (inB a 0 1000 = true) := h0
  have H1 : Hid (inB b 1 1000 = true) := h1
  have H2 : Hid (inB c 0 1000 = false) := h2
  clear h0 h1 h2
  go_enter Tryz.func27, Tryz.ntmps27
  go_wp2_with fail
  refine (wref_yes _ _ _ _ H0.out).mono ?_
  rintro ev w' ⟨rfl, rfl⟩
  go_wp2_with fail
  refine (wref_yes _ _ _ _ H1.out).mono ?_
  rintro ev w' ⟨rfl, rfl⟩
  go_wp2_with fail
  refine (wref_no _ _ _ _ H2.out).mono ?_
  rintro ev w' ⟨rfl, rfl⟩
  go_wp2_with fail
  go_ret2
  exact ⟨rfl, (Below.refl _ _).alloc (Nat.le_refl _) _⟩

set_option maxHeartbeats 1600000 in
theorem rnew_3 (a b c d e f g h i j : Int) (w : World) (h0 : inB a 0 1000 = true) (h1 : inB b 1 1000 = true) (h2 : inB c 0 1000 = true) (h3 : inB d 1 10000 = false) :
    Calls Tryz.prog 27 #[.agg #[.int .i64 a, .int .i64 b, .int .i64 c, .int .i64 d, .int .i64 e, .int .i64 f, .int .i64 g, .int .i64 h, .int .i64 i, .int .i64 j]] w fun ev w' => ev = .returned (.tuple #[.pointer none, .int .i64 2]) ∧ Below w.heap.size w w' := by
  have H0 : Hid (inB a 0 1000 = true) := h0
  have H1 : Hid (inB b 1 1000 = true) := h1
  have H2 : Hid (inB c 0 1000 = true) := h2
  have H3 : Hid (inB d 1 10000 = false) := h3
  clear h0 h1 h2 h3
  go_enter Tryz.func27, Tryz.ntmps27
  go_wp2_with fail
  refine (wref_yes _ _ _ _ H0.out).mono ?_
  rintro ev w' ⟨rfl, rfl⟩
  go_wp2_with fail
  refine (wref_yes _ _ _ _ H1.out).mono ?_
  rintro ev w' ⟨rfl, rfl⟩
  go_wp2_with fail
  refine (wref_yes _ _ _ _ H2.out).mono ?_
  rintro ev w' ⟨rfl, rfl⟩
  go_wp2_with fail
  refine (wref_no _ _ _ _ H3.out).mono ?_
  rintro ev w' ⟨rfl, rfl⟩
  go_wp2_with fail
  go_ret2
  exact ⟨rfl, (Below.refl _ _).alloc (Nat.le_refl _) _⟩

set_option maxHeartbeats 1600000 in
theorem rnew_4 (a b c d e f g h i j : Int) (w : World) (h0 : inB a 0 1000 = true) (h1 : inB b 1 1000 = true) (h2 : inB c 0 1000 = true) (h3 : inB d 1 10000 = true) (h4 : inB g 1 10000 = false) :
    Calls Tryz.prog 27 #[.agg #[.int .i64 a, .int .i64 b, .int .i64 c, .int .i64 d, .int .i64 e, .int .i64 f, .int .i64 g, .int .i64 h, .int .i64 i, .int .i64 j]] w fun ev w' => ev = .returned (.tuple #[.pointer none, .int .i64 2]) ∧ Below w.heap.size w w' := by
  have H0 : Hid (inB a 0 1000 = true) := h0
  have H1 : Hid (inB b 1 1000 = true) := h1
  have H2 : Hid (inB c 0 1000 = true) := h2
  have H3 : Hid (inB d 1 10000 = true) := h3
  have H4 : Hid (inB g 1 10000 = false) := h4
  clear h0 h1 h2 h3 h4
  go_enter Tryz.func27, Tryz.ntmps27
  go_wp2_with fail
  refine (wref_yes _ _ _ _ H0.out).mono ?_
  rintro ev w' ⟨rfl, rfl⟩
  go_wp2_with fail
  refine (wref_yes _ _ _ _ H1.out).mono ?_
  rintro ev w' ⟨rfl, rfl⟩
  go_wp2_with fail
  refine (wref_yes _ _ _ _ H2.out).mono ?_
  rintro ev w' ⟨rfl, rfl⟩
  go_wp2_with fail
  refine (wref_yes _ _ _ _ H3.out).mono ?_
  rintro ev w' ⟨rfl, rfl⟩
  go_wp2_with fail
  refine (wref_no _ _ _ _ H4.out).mono ?_
  rintro ev w' ⟨rfl, rfl⟩
  go_wp2_with fail
  go_ret2
  exact ⟨rfl, (Below.refl _ _).alloc (Nat.le_refl _) _⟩

set_option maxHeartbeats 1600000 in
theorem rnew_5 (a b c d e f g h i j : Int) (w : World) (h0 : inB a 0 1000 = true) (h1 : inB b 1 1000 = true) (h2 : inB c 0 1000 = true) (h3 : inB d 1 10000 = true) (h4 : inB g 1 10000 = true) (h5 : inB h g 10000 = false) :
    Calls Tryz.prog 27 #[.agg #[.int .i64 a, .int .i64 b, .int .i64 c, .int .i64 d, .int .i64 e, .int .i64 f, .int .i64 g, .int .i64 h, .int .i64 i, .int .i64 j]] w fun ev w' => ev = .returned (.tuple #[.pointer none, .int .i64 2]) ∧ Below w.heap.size w w' := by
  have H0 : Hid (inB a 0 1000 = true) := h0
  have H1 : Hid (inB b 1 1000 = true) := h1
  have H2 : Hid (inB c 0 1000 = true) := h2
  have H3 : Hid (inB d 1 10000 = true) := h3
  have H4 : Hid (inB g 1 10000 = true) := h4
  have H5 : Hid (inB h g 10000 = false) := h5
  clear h0 h1 h2 h3 h4 h5
  go_enter Tryz.func27, Tryz.ntmps27
  go_wp2_with fail
  refine (wref_yes _ _ _ _ H0.out).mono ?_
  rintro ev w' ⟨rfl, rfl⟩
  go_wp2_with fail
  refine (wref_yes _ _ _ _ H1.out).mono ?_
  rintro ev w' ⟨rfl, rfl⟩
  go_wp2_with fail
  refine (wref_yes _ _ _ _ H2.out).mono ?_
  rintro ev w' ⟨rfl, rfl⟩
  go_wp2_with fail
  refine (wref_yes _ _ _ _ H3.out).mono ?_
  rintro ev w' ⟨rfl, rfl⟩
  go_wp2_with fail
  refine (wref_yes _ _ _ _ H4.out).mono ?_
  rintro ev w' ⟨rfl, rfl⟩
  go_wp2_with fail
  refine (wref_no _ _ _ _ H5.out).mono ?_
  rintro ev w' ⟨rfl, rfl⟩
  go_wp2_with fail
  go_ret2
  exact ⟨rfl, (Below.refl _ _).alloc (Nat.le_refl _) _⟩

set_option maxHeartbeats 1600000 in
theorem rnew_6 (a b c d e f g h i j : Int) (w : World) (h0 : inB a 0 1000 = true) (h1 : inB b 1 1000 = true) (h2 : inB c 0 1000 = true) (h3 : inB d 1 10000 = true) (h4 : inB g 1 10000 = true) (h5 : inB h g 10000 = true) (h6 : inB e 1 6 = false) :
    Calls Tryz.prog 27 #[.agg #[.int .i64 a, .int .i64 b, .int .i64 c, .int .i64 d, .int .i64 e, .int .i64 f, .int .i64 g, .int .i64 h, .int .i64 i, .int .i64 j]] w fun ev w' => ev = .returned (.tuple #[.pointer none, .int .i64 3]) ∧ Below w.heap.size w w' := by
  have H0 : Hid (inB a 0 1000 = true) := h0
  have H1 : Hid (inB b 1 1000 = true) := h1
  have H2 : Hid (inB c 0 1000 = true) := h2
  have H3 : Hid (inB d 1 10000 = true) := h3
  have H4 : Hid (inB g 1 10000 = true) := h4
  have H5 : Hid (inB h g 10000 = true) := h5
  have H6 : Hid (inB e 1 6 = false) := h6
  clear h0 h1 h2 h3 h4 h5 h6
  go_enter Tryz.func27, Tryz.ntmps27
  go_wp2_with fail
  refine (wref_yes _ _ _ _ H0.out).mono ?_
  rintro ev w' ⟨rfl, rfl⟩
  go_wp2_with fail
  refine (wref_yes _ _ _ _ H1.out).mono ?_
  rintro ev w' ⟨rfl, rfl⟩
  go_wp2_with fail
  refine (wref_yes _ _ _ _ H2.out).mono ?_
  rintro ev w' ⟨rfl, rfl⟩
  go_wp2_with fail
  refine (wref_yes _ _ _ _ H3.out).mono ?_
  rintro ev w' ⟨rfl, rfl⟩
  go_wp2_with fail
  refine (wref_yes _ _ _ _ H4.out).mono ?_
  rintro ev w' ⟨rfl, rfl⟩
  go_wp2_with fail
  refine (wref_yes _ _ _ _ H5.out).mono ?_
  rintro ev w' ⟨rfl, rfl⟩
  go_wp2_with fail
  refine (wref_no _ _ _ _ H6.out).mono ?_
  rintro ev w' ⟨rfl, rfl⟩
  go_wp2_with fail
  go_ret2
  exact ⟨rfl, (Below.refl _ _).alloc (Nat.le_refl _) _⟩

set_option maxHeartbeats 1600000 in
theorem rnew_7 (a b c d e f g h i j : Int) (w : World) (h0 : inB a 0 1000 = true) (h1 : inB b 1 1000 = true) (h2 : inB c 0 1000 = true) (h3 : inB d 1 10000 = true) (h4 : inB g 1 10000 = true) (h5 : inB h g 10000 = true) (h6 : inB e 1 6 = true) (h7 : inB f 1 8 = false) :
    Calls Tryz.prog 27 #[.agg #[.int .i64 a, .int .i64 b, .int .i64 c, .int .i64 d, .int .i64 e, .int .i64 f, .int .i64 g, .int .i64 h, .int .i64 i, .int .i64 j]] w fun ev w' => ev = .returned (.tuple #[.pointer none, .int .i64 3]) ∧ Below w.heap.size w w' := by
  have H0 : Hid (inB a 0 1000 = true) := h0
  have H1 : Hid (inB b 1 1000 = true) := h1
  have H2 : Hid (inB c 0 1000 = true) := h2
  have H3 : Hid (inB d 1 10000 = true) := h3
  have H4 : Hid (inB g 1 10000 = true) := h4
  have H5 : Hid (inB h g 10000 = true) := h5
  have H6 : Hid (inB e 1 6 = true) := h6
  have H7 : Hid (inB f 1 8 = false) := h7
  clear h0 h1 h2 h3 h4 h5 h6 h7
  go_enter Tryz.func27, Tryz.ntmps27
  go_wp2_with fail
  refine (wref_yes _ _ _ _ H0.out).mono ?_
  rintro ev w' ⟨rfl, rfl⟩
  go_wp2_with fail
  refine (wref_yes _ _ _ _ H1.out).mono ?_
  rintro ev w' ⟨rfl, rfl⟩
  go_wp2_with fail
  refine (wref_yes _ _ _ _ H2.out).mono ?_
  rintro ev w' ⟨rfl, rfl⟩
  go_wp2_with fail
  refine (wref_yes _ _ _ _ H3.out).mono ?_
  rintro ev w' ⟨rfl, rfl⟩
  go_wp2_with fail
  refine (wref_yes _ _ _ _ H4.out).mono ?_
  rintro ev w' ⟨rfl, rfl⟩
  go_wp2_with fail
  refine (wref_yes _ _ _ _ H5.out).mono ?_
  rintro ev w' ⟨rfl, rfl⟩
  go_wp2_with fail
  refine (wref_yes _ _ _ _ H6.out).mono ?_
  rintro ev w' ⟨rfl, rfl⟩
  go_wp2_with fail
  refine (wref_no _ _ _ _ H7.out).mono ?_
  rintro ev w' ⟨rfl, rfl⟩
  go_wp2_with fail
  go_ret2
  exact ⟨rfl, (Below.refl _ _).alloc (Nat.le_refl _) _⟩

set_option maxHeartbeats 1600000 in
theorem rnew_8 (a b c d e f g h i j : Int) (w : World) (h0 : inB a 0 1000 = true) (h1 : inB b 1 1000 = true) (h2 : inB c 0 1000 = true) (h3 : inB d 1 10000 = true) (h4 : inB g 1 10000 = true) (h5 : inB h g 10000 = true) (h6 : inB e 1 6 = true) (h7 : inB f 1 8 = true) (h8 : inB i 1 100 = false) :
    Calls Tryz.prog 27 #[.agg #[.int .i64 a, .int .i64 b, .int .i64 c, .int .i64 d, .int .i64 e, .int .i64 f, .int .i64 g, .int .i64 h, .int .i64 i, .int .i64 j]] w fun ev w' => ev = .returned (.tuple #[.pointer none, .int .i64 3]) ∧ Below w.heap.size w w' := by
  have H0 : Hid (inB a 0 1000 = true) := h0
  have H1 : Hid (inB b 1 1000 = true) := h1
  have H2 : Hid (inB c 0 1000 = true) := h2
  have H3 : Hid (inB d 1 10000 = true) := h3
  have H4 : Hid (inB g 1 10000 = true) := h4
  have H5 : Hid (inB h g 10000 = true) := h5
  have H6 : Hid (inB e 1 6 = true) := h6
  have H7 : Hid (inB f 1 8 = true) := h7
  have H8 : Hid (inB i 1 100 = false) := h8
  clear h0 h1 h2 h3 h4 h5 h6 h7 h8
  go_enter Tryz.func27, Tryz.ntmps27
  go_wp2_with fail
  refine (wref_yes _ _ _ _ H0.out).mono ?_
  rintro ev w' ⟨rfl, rfl⟩
  go_wp2_with fail
  refine (wref_yes _ _ _ _ H1.out).mono ?_
  rintro ev w' ⟨rfl, rfl⟩
  go_wp2_with fail
  refine (wref_yes _ _ _ _ H2.out).mono ?_
  rintro ev w' ⟨rfl, rfl⟩
  go_wp2_with fail
  refine (wref_yes _ _ _ _ H3.out).mono ?_
  rintro ev w' ⟨rfl, rfl⟩
  go_wp2_with fail
  refine (wref_yes _ _ _ _ H4.out).mono ?_
  rintro ev w' ⟨rfl, rfl⟩
  go_wp2_with fail
  refine (wref_yes _ _ _ _ H5.out).mono ?_
  rintro ev w' ⟨rfl, rfl⟩
  go_wp2_with fail
  refine (wref_yes _ _ _ _ H6.out).mono ?_
  rintro ev w' ⟨rfl, rfl⟩
  go_wp2_with fail
  refine (wref_yes _ _ _ _ H7.out).mono ?_
  rintro ev w' ⟨rfl, rfl⟩
  go_wp2_with fail
  refine (wref_no _ _ _ _ H8.out).mono ?_
  rintro ev w' ⟨rfl, rfl⟩
  go_wp2_with fail
  go_ret2
  exact ⟨rfl, (Below.refl _ _).alloc (Nat.le_refl _) _⟩

set_option maxHeartbeats 1600000 in
theorem rnew_9 (a b c d e f g h i j : Int) (w : World) (h0 : inB a 0 1000 = true) (h1 : inB b 1 1000 = true) (h2 : inB c 0 1000 = true) (h3 : inB d 1 10000 = true) (h4 : inB g 1 10000 = true) (h5 : inB h g 10000 = true) (h6 : inB e 1 6 = true) (h7 : inB f 1 8 = true) (h8 : inB i 1 100 = true) (h9 : inB j 0 32 = false) :
    Calls Tryz.prog 27 #[.agg #[.int .i64 a, .int .i64 b, .int .i64 c, .int .i64 d, .int .i64 e, .int .i64 f, .int .i64 g, .int .i64 h, .int .i64 i, .int .i64 j]] w fun ev w' => ev = .returned (.tuple #[.pointer none, .int .i64 3]) ∧ Below w.heap.size w w' := by
  have H0 : Hid (inB a 0 1000 = true) := h0
  have H1 : Hid (inB b 1 1000 = true) := h1
  have H2 : Hid (inB c 0 1000 = true) := h2
  have H3 : Hid (inB d 1 10000 = true) := h3
  have H4 : Hid (inB g 1 10000 = true) := h4
  have H5 : Hid (inB h g 10000 = true) := h5
  have H6 : Hid (inB e 1 6 = true) := h6
  have H7 : Hid (inB f 1 8 = true) := h7
  have H8 : Hid (inB i 1 100 = true) := h8
  have H9 : Hid (inB j 0 32 = false) := h9
  clear h0 h1 h2 h3 h4 h5 h6 h7 h8 h9
  go_enter Tryz.func27, Tryz.ntmps27
  go_wp2_with fail
  refine (wref_yes _ _ _ _ H0.out).mono ?_
  rintro ev w' ⟨rfl, rfl⟩
  go_wp2_with fail
  refine (wref_yes _ _ _ _ H1.out).mono ?_
  rintro ev w' ⟨rfl, rfl⟩
  go_wp2_with fail
  refine (wref_yes _ _ _ _ H2.out).mono ?_
  rintro ev w' ⟨rfl, rfl⟩
  go_wp2_with fail
  refine (wref_yes _ _ _ _ H3.out).mono ?_
  rintro ev w' ⟨rfl, rfl⟩
  go_wp2_with fail
  refine (wref_yes _ _ _ _ H4.out).mono ?_
  rintro ev w' ⟨rfl, rfl⟩
  go_wp2_with fail
  refine (wref_yes _ _ _ _ H5.out).mono ?_
  rintro ev w' ⟨rfl, rfl⟩
  go_wp2_with fail
  refine (wref_yes _ _ _ _ H6.out).mono ?_
  rintro ev w' ⟨rfl, rfl⟩
  go_wp2_with fail
  refine (wref_yes _ _ _ _ H7.out).mono ?_
  rintro ev w' ⟨rfl, rfl⟩
  go_wp2_with fail
  refine (wref_yes _ _ _ _ H8.out).mono ?_
  rintro ev w' ⟨rfl, rfl⟩
  go_wp2_with fail
  refine (wref_no _ _ _ _ H9.out).mono ?_
  rintro ev w' ⟨rfl, rfl⟩
  go_wp2_with fail
  go_ret2
  exact ⟨rfl, (Below.refl _ _).alloc (Nat.le_refl _) _⟩

set_option maxHeartbeats 1600000 in
theorem rnew_fine (a b c d e f g h i j : Int) (w : World) (h0 : inB a 0 1000 = true) (h1 : inB b 1 1000 = true) (h2 : inB c 0 1000 = true) (h3 : inB d 1 10000 = true) (h4 : inB g 1 10000 = true) (h5 : inB h g 10000 = true) (h6 : inB e 1 6 = true) (h7 : inB f 1 8 = true) (h8 : inB i 1 100 = true) (h9 : inB j 0 32 = true) :
    Calls Tryz.prog 27 #[.agg #[.int .i64 a, .int .i64 b, .int .i64 c, .int .i64 d, .int .i64 e, .int .i64 f, .int .i64 g, .int .i64 h, .int .i64 i, .int .i64 j]] w fun ev w' => (∃ x, ev = .returned (.tuple #[.pointer (some ⟨x, 0, none⟩), .int .i64 0])) ∧ Below w.heap.size w w' := by
  have H0 : Hid (inB a 0 1000 = true) := h0
  have H1 : Hid (inB b 1 1000 = true) := h1
  have H2 : Hid (inB c 0 1000 = true) := h2
  have H3 : Hid (inB d 1 10000 = true) := h3
  have H4 : Hid (inB g 1 10000 = true) := h4
  have H5 : Hid (inB h g 10000 = true) := h5
  have H6 : Hid (inB e 1 6 = true) := h6
  have H7 : Hid (inB f 1 8 = true) := h7
  have H8 : Hid (inB i 1 100 = true) := h8
  have H9 : Hid (inB j 0 32 = true) := h9
  clear h0 h1 h2 h3 h4 h5 h6 h7 h8 h9
  go_enter Tryz.func27, Tryz.ntmps27
  go_wp2_with fail
  refine (wref_yes _ _ _ _ H0.out).mono ?_
  rintro ev w' ⟨rfl, rfl⟩
  go_wp2_with fail
  refine (wref_yes _ _ _ _ H1.out).mono ?_
  rintro ev w' ⟨rfl, rfl⟩
  go_wp2_with fail
  refine (wref_yes _ _ _ _ H2.out).mono ?_
  rintro ev w' ⟨rfl, rfl⟩
  go_wp2_with fail
  refine (wref_yes _ _ _ _ H3.out).mono ?_
  rintro ev w' ⟨rfl, rfl⟩
  go_wp2_with fail
  refine (wref_yes _ _ _ _ H4.out).mono ?_
  rintro ev w' ⟨rfl, rfl⟩
  go_wp2_with fail
  refine (wref_yes _ _ _ _ H5.out).mono ?_
  rintro ev w' ⟨rfl, rfl⟩
  go_wp2_with fail
  refine (wref_yes _ _ _ _ H6.out).mono ?_
  rintro ev w' ⟨rfl, rfl⟩
  go_wp2_with fail
  refine (wref_yes _ _ _ _ H7.out).mono ?_
  rintro ev w' ⟨rfl, rfl⟩
  go_wp2_with fail
  refine (wref_yes _ _ _ _ H8.out).mono ?_
  rintro ev w' ⟨rfl, rfl⟩
  go_wp2_with fail
  refine (wref_yes _ _ _ _ H9.out).mono ?_
  rintro ev w' ⟨rfl, rfl⟩
  go_wp2_with fail
  go_ret2
  exact ⟨⟨_, rfl⟩, ((Below.refl _ _).alloc (Nat.le_refl _) _).alloc (by simp) _⟩

theorem rnew_ok (a b c d e f g h i j : Int) (w : World) (hk : cfgErr a b c d e f g h i j = 0) :
    Calls Tryz.prog 27 #[.agg #[.int .i64 a, .int .i64 b, .int .i64 c, .int .i64 d, .int .i64 e, .int .i64 f, .int .i64 g, .int .i64 h, .int .i64 i, .int .i64 j]] w fun ev w' => (∃ x, ev = .returned (.tuple #[.pointer (some ⟨x, 0, none⟩), .int .i64 0])) ∧ Below w.heap.size w w' := by
  obtain ⟨k1, k2, k3, _⟩ := cfgErr_ways a b c d e f g h i j
  have u : (0 ≤ a ∧ a ≤ 1000) ∧ (1 ≤ b ∧ b ≤ 1000) ∧ (0 ≤ c ∧ c ≤ 1000) := Classical.byContradiction fun n => by have := k1 n; omega
  have s : (1 ≤ d ∧ d ≤ 10000) ∧ (1 ≤ g ∧ g ≤ 10000) ∧ (g ≤ h ∧ h ≤ 10000) := Classical.byContradiction fun n => by have := k2 u n; omega
  have t : (1 ≤ e ∧ e ≤ 6) ∧ (1 ≤ f ∧ f ≤ 8) ∧ (1 ≤ i ∧ i ≤ 100) ∧ (0 ≤ j ∧ j ≤ 32) := Classical.byContradiction fun n => by have := k3 u s n; omega
  exact rnew_fine a b c d e f g h i j w ((inB_iff _ _ _).2 u.1) ((inB_iff _ _ _).2 u.2.1) ((inB_iff _ _ _).2 u.2.2) ((inB_iff _ _ _).2 s.1) ((inB_iff _ _ _).2 s.2.1) ((inB_iff _ _ _).2 s.2.2) ((inB_iff _ _ _).2 t.1) ((inB_iff _ _ _).2 t.2.1) ((inB_iff _ _ _).2 t.2.2.1) ((inB_iff _ _ _).2 t.2.2.2)

theorem inB_not {n a b : Int} (h : inB n a b = false) : ¬ (a ≤ n ∧ n ≤ b) := fun x => by rw [(inB_iff n a b).2 x] at h; cases h

theorem rnew_bad (a b c d e f g h i j : Int) (w : World) (hk : cfgErr a b c d e f g h i j ≠ 0) :
    Calls Tryz.prog 27 #[.agg #[.int .i64 a, .int .i64 b, .int .i64 c, .int .i64 d, .int .i64 e, .int .i64 f, .int .i64 g, .int .i64 h, .int .i64 i, .int .i64 j]] w fun ev w' => ev = .returned (.tuple #[.pointer none, .int .i64 (cfgErr a b c d e f g h i j)]) ∧ Below w.heap.size w w' := by
  obtain ⟨k1, k2, k3, k0⟩ := cfgErr_ways a b c d e f g h i j
  cases h0 : inB a 0 1000 with
  | false =>
    rw [k1 (fun x => inB_not h0 x.1)]
    exact rnew_0 a b c d e f g h i j w  h0
  | true =>
    cases h1 : inB b 1 1000 with
    | false =>
      rw [k1 (fun x => inB_not h1 x.2.1)]
      exact rnew_1 a b c d e f g h i j w h0 h1
    | true =>
      cases h2 : inB c 0 1000 with
      | false =>
        rw [k1 (fun x => inB_not h2 x.2.2)]
        exact rnew_2 a b c d e f g h i j w h0 h1 h2
      | true =>
        cases h3 : inB d 1 10000 with
        | false =>
          rw [k2 ⟨(inB_iff _ _ _).1 h0, (inB_iff _ _ _).1 h1, (inB_iff _ _ _).1 h2⟩ (fun x => inB_not h3 x.1)]
          exact rnew_3 a b c d e f g h i j w h0 h1 h2 h3
        | true =>
          cases h4 : inB g 1 10000 with
          | false =>
            rw [k2 ⟨(inB_iff _ _ _).1 h0, (inB_iff _ _ _).1 h1, (inB_iff _ _ _).1 h2⟩ (fun x => inB_not h4 x.2.1)]
            exact rnew_4 a b c d e f g h i j w h0 h1 h2 h3 h4
          | true =>
            cases h5 : inB h g 10000 with
            | false =>
              rw [k2 ⟨(inB_iff _ _ _).1 h0, (inB_iff _ _ _).1 h1, (inB_iff _ _ _).1 h2⟩ (fun x => inB_not h5 x.2.2)]
              exact rnew_5 a b c d e f g h i j w h0 h1 h2 h3 h4 h5
            | true =>
              cases h6 : inB e 1 6 with
              | false =>
                rw [k3 ⟨(inB_iff _ _ _).1 h0, (inB_iff _ _ _).1 h1, (inB_iff _ _ _).1 h2⟩ ⟨(inB_iff _ _ _).1 h3, (inB_iff _ _ _).1 h4, (inB_iff _ _ _).1 h5⟩ (fun x => inB_not h6 x.1)]
                exact rnew_6 a b c d e f g h i j w h0 h1 h2 h3 h4 h5 h6
              | true =>
                cases h7 : inB f 1 8 with
                | false =>
                  rw [k3 ⟨(inB_iff _ _ _).1 h0, (inB_iff _ _ _).1 h1, (inB_iff _ _ _).1 h2⟩ ⟨(inB_iff _ _ _).1 h3, (inB_iff _ _ _).1 h4, (inB_iff _ _ _).1 h5⟩ (fun x => inB_not h7 x.2.1)]
                  exact rnew_7 a b c d e f g h i j w h0 h1 h2 h3 h4 h5 h6 h7
                | true =>
                  cases h8 : inB i 1 100 with
                  | false =>
                    rw [k3 ⟨(inB_iff _ _ _).1 h0, (inB_iff _ _ _).1 h1, (inB_iff _ _ _).1 h2⟩ ⟨(inB_iff _ _ _).1 h3, (inB_iff _ _ _).1 h4, (inB_iff _ _ _).1 h5⟩ (fun x => inB_not h8 x.2.2.1)]
                    exact rnew_8 a b c d e f g h i j w h0 h1 h2 h3 h4 h5 h6 h7 h8
                  | true =>
                    cases h9 : inB j 0 32 with
                    | false =>
                      rw [k3 ⟨(inB_iff _ _ _).1 h0, (inB_iff _ _ _).1 h1, (inB_iff _ _ _).1 h2⟩ ⟨(inB_iff _ _ _).1 h3, (inB_iff _ _ _).1 h4, (inB_iff _ _ _).1 h5⟩ (fun x => inB_not h9 x.2.2.2)]
                      exact rnew_9 a b c d e f g h i j w h0 h1 h2 h3 h4 h5 h6 h7 h8 h9
                    | true =>
                      exact absurd (k0 ⟨(inB_iff _ _ _).1 h0, (inB_iff _ _ _).1 h1, (inB_iff _ _ _).1 h2⟩ ⟨(inB_iff _ _ _).1 h3, (inB_iff _ _ _).1 h4, (inB_iff _ _ _).1 h5⟩ ⟨(inB_iff _ _ _).1 h6, (inB_iff _ _ _).1 h7, (inB_iff _ _ _).1 h8, (inB_iff _ _ _).1 h9⟩) hk
end Go.Proofs.YtlccfpbbdgpjbaaGreatDoor
