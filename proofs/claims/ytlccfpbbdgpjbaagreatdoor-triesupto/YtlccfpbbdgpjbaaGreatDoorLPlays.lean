import Derived.Test.YtlccfpbbdgpjbaaGreatDoorZLO
import Derived.Test.YtlccfpbbdgpjbaaGreatDoorZLI
import Derived.Deep.MidRow
import Derived.Deep.WholeRow
import Derived.Great.BuildSlice
namespace Go.Proofs.YtlccfpbbdgpjbaaGreatDoor
open Go.RowKit
attribute [local go_sem ↓] Go.wp_at_zero Go.wp_at_succ

/-- A step of a script. -/
structure OpV where
  kd : Int
  n : Int
  a : Int
  b : Int
  c : Int
  d : Int
  e : Int
  f : Int
  g : Int
  h : Int
  i : Int
  j : Int
  e0 : Int
  e1 : Int
  e2 : Int
  e3 : Int
  e4 : Int
  e5 : Bool
  e6 : Int
  e7 : Int
def encOp (o : OpV) : List Value := [.int .i64 o.kd, .int .i64 o.n, .int .i64 o.a, .int .i64 o.b, .int .i64 o.c, .int .i64 o.d, .int .i64 o.e, .int .i64 o.f, .int .i64 o.g, .int .i64 o.h, .int .i64 o.i, .int .i64 o.j, .int .i64 o.e0, .int .i64 o.e1, .int .i64 o.e2, .int .i64 o.e3, .int .i64 o.e4, .bool o.e5, .int .u64 o.e6, .int .i64 o.e7]
structure OpOk (o : OpV) : Prop where
  n0 : -9223372036854775808 ≤ o.n
  n1 : o.n ≤ 9223372036854775807
  c : (Lit.int .i64 o.e1).wf = true
  t : (Lit.int .i64 o.e2).wf = true
  d0 : 0 ≤ o.e6
  d1 : o.e6 ≤ 18446744073709551615

def LV0 (G : Nat) : LV := ⟨G, .slice none 0 0, .slice none 0 0, .slice none 0 0, .slice none 0 0, [], [], []⟩
theorem lown0 {G : Nat} {i : Ix} {k : Nat} (h : lown (LV0 G) i k) : i = .hd ∧ k = G := by
  cases i with
  | hd => exact ⟨rfl, h⟩
  | rx => cases h
  | ry => cases h
  | ri => cases h
  | ra => cases h
  | pr i => obtain ⟨_, h, _⟩ := h; simp [LV0] at h
  | dr i => obtain ⟨_, h, _⟩ := h; simp [LV0] at h
  | li i => obtain ⟨_, h, _⟩ := h; simp [LV0] at h
  | la i => obtain ⟨_, h, _⟩ := h; simp [LV0] at h
theorem law_new (w : World) : Law w (w.alloc (.cells #[.slice none 0 0, .slice none 0 0, .int .i64 0, .slice none 0 0, .slice none 0 0] 31)) (LV0 w.heap.size) 0 := by
  have hb := heap_alloc_new w (.cells #[.slice none 0 0, .slice none 0 0, .int .i64 0, .slice none 0 0, .slice none 0 0] 31)
  refine ⟨fun i => ?_, fun i j hij k hi hj => hij ((lown0 hi).1.trans (lown0 hj).1.symm), Nat.zero_le _, by simp [LV0], fun i e he => by simp [LV0] at he, fun i k hi => by rw [(lown0 hi).2]; exact Nat.le_refl _, (Below.refl _ _).alloc (Nat.le_refl _) _⟩
  cases i with
  | hd =>
    refine ⟨fun j v hv => ?_, fun j _ => by show World.frozen? _ ⟨w.heap.size, j, none⟩ = false; unfold World.frozen?; dsimp only; rw [hb]; simp⟩
    show World.cell? _ ⟨w.heap.size, j, none⟩ = some v
    rw [cell_of_row _ w.heap.size j _ _ _ hb]
    match j, hv with
    | 0, hv => simpa [cellsL, LV0] using hv
    | 1, hv => simpa [cellsL, LV0] using hv
    | 2, hv => simpa [cellsL, LV0] using hv
    | 3, hv => simpa [cellsL, LV0] using hv
    | 4, hv => simpa [cellsL, LV0] using hv
    | n + 5, hv => simp [cellsL] at hv
  | rx => exact Row.nil _ _ _ _ _
  | ry => exact Row.nil _ _ _ _ _
  | ri => exact Row.nil _ _ _ _ _
  | ra => exact Row.nil _ _ _ _ _
  | pr i => exact fun c hc => by simp [LV0] at hc
  | dr i => exact fun c hc => by simp [LV0] at hc
  | li i => exact fun c hc => by simp [LV0] at hc
  | la i => exact fun c hc => by simp [LV0] at hc

set_option maxHeartbeats 400000 in
theorem lfirst_cfg (w : World) : Calls Tryz.prog 13 #[] w fun ev w' => ev = .returned (.agg #[.int .i64 1, .int .i64 2, .int .i64 10, .int .i64 100, .int .i64 3, .int .i64 2, .int .i64 5, .int .i64 20, .int .i64 95, .int .i64 0]) ∧ Below w.heap.size w w' := by
  go_enter Tryz.func13, Tryz.ntmps13
  go_wp2
  exact bodyPost_ret (v := .agg #[.int .i64 1, .int .i64 2, .int .i64 10, .int .i64 100, .int .i64 3, .int .i64 2, .int .i64 5, .int .i64 20, .int .i64 95, .int .i64 0]) (by simp [results, Tryz.results13, go_sem]) rfl ⟨rfl, (Below.refl _ _).alloc (Nat.le_refl _) _⟩


theorem Tryz.sizeOp : (Tryz.prog.info? 41).map (·.size) = some 20 := by kernel_rfl

set_option maxRecDepth 100000 in
set_option maxHeartbeats 16000000 in
theorem plays_walk (late : Bool) (A : Option Addr) (len cap : Nat) (os : List OpV) (W : World) (hL : Laid W) (hol : os.length = len) (hlen : len ≤ 46000) (hok : ∀ o ∈ os, OpOk o)
    (hO : ∀ k (h : k < os.length), ∃ sb so, A = some ⟨sb, so, none⟩ ∧ sb < W.heap.size ∧ W.rangeAt sb (so + k * 20) (encOp os[k])) :
    Calls Tryz.prog 16 #[.slice A len cap, .bool late] W fun ev w' => ev = .returned (.bool true) ∧ Below W.heap.size W w' := by
  have HO := hide hO
  have HOK := hide hok
  have HOL := hide hol
  have HL0 := hide (law_new W)
  clear hO hok hol
  go_enter Tryz.func16, Tryz.ntmps16
  go_wp2_with fail
  obtain ⟨G, hGe⟩ : ∃ G, G = W.heap.size := ⟨_, rfl⟩
  rw [← hGe] at HL0
  rw [← hGe]
  clear hGe
  generalize (W.alloc (.cells #[.slice none 0 0, .slice none 0 0, .int .i64 0, .slice none 0 0, .slice none 0 0] 31)) = w0 at HL0 ⊢
  refine (lfirst_cfg _).mono ?_
  rintro ev w1 ⟨rfl, hb1⟩
  have HM := hide (lmade_any (HL0.out.on hb1) (N := 0) (fun i c hc => by simp [LV0] at hc) (by omega) 1 2 10 100 3 2 5 20 95 0 hL)
  clear hb1 HL0
  go_wp2_with fail
  refine HM.out.mono ?_
  rintro ev w2 ⟨rfl, L1, g1, g2, g3, -, g5⟩
  have hl1 : 1 ≤ L1.cs.length := g5 ((cfgErr_ways 1 2 10 100 3 2 5 20 95 0).2.2.2 (by omega) (by omega) (by omega))
  have hG1 : L1.G = G := g3
  have HS := hide (stepped_any g1 g2 (by omega) 0 (List.getElem?_eq_getElem (show 0 < L1.cs.length by omega)) 1 7 0 0 50 true 0 0 ⟨WalkArith.wf_i64 (show -9223372036854775808 ≤ (7 : Int) ∧ (7 : Int) ≤ 9223372036854775807 by omega), WalkArith.wf_i64 (show -9223372036854775808 ≤ (0 : Int) ∧ (0 : Int) ≤ 9223372036854775807 by omega), Int.le_refl _⟩ (by omega))
  rw [hG1] at HS
  simp only [Int.natCast_zero] at HS
  clear g1 g2 g3 g5 HM
  go_wp2_with fail
  refine HS.out.mono ?_
  rintro ev w3 ⟨rfl, L2, g1, g2, g3, g4⟩
  have HLAW := hide g1
  have HBES := hide g2
  have hG2 : L2.G = G := by rw [g3]
  have hl2 : 1 ≤ L2.cs.length := by omega
  clear g1 g2 g3 g4 HS hG1 hl1
  go_wp2_with fail
  go_loopw [7, 8] (fun ok iv wr => ∃ (i : Nat) (L' : LV), i ≤ len ∧ ok = .bool true ∧ iv = .int .i64 (i : Int) ∧ Law W wr L' (0 + 1 + (i : Int)) ∧ Bes L' (0 + 1 + (i : Int)) ∧ L'.G = G) (fun _ iv _ => len - (intOf iv).toNat)
  case atStart => exact ⟨0, L2, Nat.zero_le _, rfl, rfl, by simpa using HLAW.out, by simpa using HBES.out, hG2⟩
  case round =>
    obtain ⟨i, L', hi, rfl, rfl, hLw, hBw, hGw⟩ := hrel
    clear HLAW HBES hG2 hl2
    have hbW := hLw.below
    have HLW := hide hLw
    have HBW := hide hBw
    clear hLw hBw
    by_cases hlt : (i : Int) < (len : Int)
    · have hil : i < os.length := by rw [show os.length = len from HOL.out]; omega
      obtain ⟨sb, so, rfl, hsb, hr0⟩ := HO.out i hil
      have hr : wr.rangeAt sb (so + i * 20) (encOp os[i]) := fun j v hv => (hbW.cell (p := ⟨sb, so + i * 20 + j, none⟩) hsb).trans (hr0 j v hv)
      have hokI := HOK.out os[i] (List.getElem_mem hil)
      generalize os[i] = o at hr hokI
      obtain ⟨kd, n, a, b, c, d, e, f, g, h, zi, zj, e0, e1, e2, e3, e4, e5, e6, e7⟩ := o
      obtain ⟨n0, n1, w1, w2, d0, d1⟩ := hokI
      dsimp only at n0 n1 w1 w2 d0 d1
      unfold encOp at hr
      dsimp only at hr
      clear hr0
      have HI : Hid ((Tryz.prog.info? 41).map (·.size) = some 20) := Tryz.sizeOp
      go_upto_region 8 with (first
        | (refine wpList_load_mid (by rfl) 41 _ (by rfl) sb (so + i * 20) (by rfl) (#[.int .i64 kd, .int .i64 n, .int .i64 a, .int .i64 b, .int .i64 c, .int .i64 d, .int .i64 e, .int .i64 f, .int .i64 g, .int .i64 h, .int .i64 zi, .int .i64 zj, .int .i64 e0, .int .i64 e1, .int .i64 e2, .int .i64 e3, .int .i64 e4, .bool e5, .int .u64 e6, .int .i64 e7]).toList _ hr Tryz.underlying41 rfl HI.out ?_)
        | (refine wpList_store_rowTo (by rfl) 41 _ _ (by rfl) rfl wr.heap.size (#[.int .i64 kd, .int .i64 n, .int .i64 a, .int .i64 b, .int .i64 c, .int .i64 d, .int .i64 e, .int .i64 f, .int .i64 g, .int .i64 h, .int .i64 zi, .int .i64 zj, .int .i64 e0, .int .i64 e1, .int .i64 e2, .int .i64 e3, .int .i64 e4, .bool e5, .int .u64 e6, .int .i64 e7]) (by rfl) (by rfl) 41 _ (heap_alloc_new wr _) HI.out (by rfl) (by simp [Value.oneCell']) ?_; rw [World.setRow_alloc_new]))
      cases late with
      | true =>
        go_upto_region 10 with fail
        have hbP : Below wr.heap.size wr (wr.alloc (.cells #[.int .i64 kd, .int .i64 n, .int .i64 a, .int .i64 b, .int .i64 c, .int .i64 d, .int .i64 e, .int .i64 f, .int .i64 g, .int .i64 h, .int .i64 zi, .int .i64 zj, .int .i64 e0, .int .i64 e1, .int .i64 e2, .int .i64 e3, .int .i64 e4, .bool e5, .int .u64 e6, .int .i64 e7] 41)) := (Below.refl _ _).alloc (Nat.le_refl _) _
        have hbk : (wr.alloc (.cells #[.int .i64 kd, .int .i64 n, .int .i64 a, .int .i64 b, .int .i64 c, .int .i64 d, .int .i64 e, .int .i64 f, .int .i64 g, .int .i64 h, .int .i64 zi, .int .i64 zj, .int .i64 e0, .int .i64 e1, .int .i64 e2, .int .i64 e3, .int .i64 e4, .bool e5, .int .u64 e6, .int .i64 e7] 41)).heap[wr.heap.size]? = some (.cells #[.int .i64 kd, .int .i64 n, .int .i64 a, .int .i64 b, .int .i64 c, .int .i64 d, .int .i64 e, .int .i64 f, .int .i64 g, .int .i64 h, .int .i64 zi, .int .i64 zj, .int .i64 e0, .int .i64 e1, .int .i64 e2, .int .i64 e3, .int .i64 e4, .bool e5, .int .u64 e6, .int .i64 e7] 41 (0, 0)) := heap_alloc_new wr _
        have hrP : (wr.alloc (.cells #[.int .i64 kd, .int .i64 n, .int .i64 a, .int .i64 b, .int .i64 c, .int .i64 d, .int .i64 e, .int .i64 f, .int .i64 g, .int .i64 h, .int .i64 zi, .int .i64 zj, .int .i64 e0, .int .i64 e1, .int .i64 e2, .int .i64 e3, .int .i64 e4, .bool e5, .int .u64 e6, .int .i64 e7] 41)).rangeAt wr.heap.size 0 (#[.int .i64 kd, .int .i64 n, .int .i64 a, .int .i64 b, .int .i64 c, .int .i64 d, .int .i64 e, .int .i64 f, .int .i64 g, .int .i64 h, .int .i64 zi, .int .i64 zj, .int .i64 e0, .int .i64 e1, .int .i64 e2, .int .i64 e3, .int .i64 e4, .bool e5, .int .u64 e6, .int .i64 e7]).toList := fun j v hv => by
          rw [Nat.zero_add, cell_of_row _ wr.heap.size j _ _ _ hbk]
          simpa using hv
        have HST := hide (lstep_any (HLW.out.on hbP) HBW.out (by omega) (by omega) hL kd n a b c d e f g h zi zj e0 e1 e2 e3 e4 e5 e6 e7 n0 n1 w1 w2 d0 d1)
        rw [hGw] at HST
        clear hbP hbk hr HLW HBW
        generalize (wr.alloc (.cells #[.int .i64 kd, .int .i64 n, .int .i64 a, .int .i64 b, .int .i64 c, .int .i64 d, .int .i64 e, .int .i64 f, .int .i64 g, .int .i64 h, .int .i64 zi, .int .i64 zj, .int .i64 e0, .int .i64 e1, .int .i64 e2, .int .i64 e3, .int .i64 e4, .bool e5, .int .u64 e6, .int .i64 e7] 41)) = wP at hrP HST ⊢
        generalize wr.heap.size = bO at hrP ⊢
        go_wp2_with (first | (refine wpList_load_mid (by rfl) 41 _ (by rfl) bO 0 (by rfl) (#[.int .i64 kd, .int .i64 n, .int .i64 a, .int .i64 b, .int .i64 c, .int .i64 d, .int .i64 e, .int .i64 f, .int .i64 g, .int .i64 h, .int .i64 zi, .int .i64 zj, .int .i64 e0, .int .i64 e1, .int .i64 e2, .int .i64 e3, .int .i64 e4, .bool e5, .int .u64 e6, .int .i64 e7]).toList _ hrP Tryz.underlying41 rfl HI.out ?_))
        refine HST.out.mono ?_
        rintro ev w4 ⟨rfl, L4, g1, g2, g3, g4⟩
        have HLK := hide (looks_any g1 (by omega))
        rw [g3] at HLK
        have HL4 := hide g1
        have HB4 := hide g2
        have hG4 : L4.G = G := g3
        clear g1 g2 g3 g4 HST hrP
        go_wp2_with fail
        refine HLK.out.mono ?_
        rintro ev w5 ⟨rfl, hb5⟩
        have HL5 := hide (HL4.out.on hb5)
        clear HLK HL4 hb5
        go_wp2_with fail
        go_roundw
        case rel => exact ⟨i + 1, L4, by omega, rfl, by go_num, by rw [show (0 : Int) + 1 + ((i + 1 : Nat) : Int) = 0 + 1 + (i : Int) + 1 by push_cast; omega]; exact HL5.out, by rw [show (0 : Int) + 1 + ((i + 1 : Nat) : Int) = 0 + 1 + (i : Int) + 1 by push_cast; omega]; exact HB4.out, hG4⟩
        case measure => simp [intOf]; omega
      | false =>
        go_upto_region 10 with fail
        have hbP : Below wr.heap.size wr (wr.alloc (.cells #[.int .i64 kd, .int .i64 n, .int .i64 a, .int .i64 b, .int .i64 c, .int .i64 d, .int .i64 e, .int .i64 f, .int .i64 g, .int .i64 h, .int .i64 zi, .int .i64 0, .int .i64 e0, .int .i64 e1, .int .i64 e2, .int .i64 e3, .int .i64 e4, .bool e5, .int .u64 e6, .int .i64 e7] 41)) := (Below.refl _ _).alloc (Nat.le_refl _) _
        have hbk : (wr.alloc (.cells #[.int .i64 kd, .int .i64 n, .int .i64 a, .int .i64 b, .int .i64 c, .int .i64 d, .int .i64 e, .int .i64 f, .int .i64 g, .int .i64 h, .int .i64 zi, .int .i64 0, .int .i64 e0, .int .i64 e1, .int .i64 e2, .int .i64 e3, .int .i64 e4, .bool e5, .int .u64 e6, .int .i64 e7] 41)).heap[wr.heap.size]? = some (.cells #[.int .i64 kd, .int .i64 n, .int .i64 a, .int .i64 b, .int .i64 c, .int .i64 d, .int .i64 e, .int .i64 f, .int .i64 g, .int .i64 h, .int .i64 zi, .int .i64 0, .int .i64 e0, .int .i64 e1, .int .i64 e2, .int .i64 e3, .int .i64 e4, .bool e5, .int .u64 e6, .int .i64 e7] 41 (0, 0)) := heap_alloc_new wr _
        have hrP : (wr.alloc (.cells #[.int .i64 kd, .int .i64 n, .int .i64 a, .int .i64 b, .int .i64 c, .int .i64 d, .int .i64 e, .int .i64 f, .int .i64 g, .int .i64 h, .int .i64 zi, .int .i64 0, .int .i64 e0, .int .i64 e1, .int .i64 e2, .int .i64 e3, .int .i64 e4, .bool e5, .int .u64 e6, .int .i64 e7] 41)).rangeAt wr.heap.size 0 (#[.int .i64 kd, .int .i64 n, .int .i64 a, .int .i64 b, .int .i64 c, .int .i64 d, .int .i64 e, .int .i64 f, .int .i64 g, .int .i64 h, .int .i64 zi, .int .i64 0, .int .i64 e0, .int .i64 e1, .int .i64 e2, .int .i64 e3, .int .i64 e4, .bool e5, .int .u64 e6, .int .i64 e7]).toList := fun j v hv => by
          rw [Nat.zero_add, cell_of_row _ wr.heap.size j _ _ _ hbk]
          simpa using hv
        have HST := hide (lstep_any (HLW.out.on hbP) HBW.out (by omega) (by omega) hL kd n a b c d e f g h zi 0 e0 e1 e2 e3 e4 e5 e6 e7 n0 n1 w1 w2 d0 d1)
        rw [hGw] at HST
        clear hbP hbk hr HLW HBW
        generalize (wr.alloc (.cells #[.int .i64 kd, .int .i64 n, .int .i64 a, .int .i64 b, .int .i64 c, .int .i64 d, .int .i64 e, .int .i64 f, .int .i64 g, .int .i64 h, .int .i64 zi, .int .i64 0, .int .i64 e0, .int .i64 e1, .int .i64 e2, .int .i64 e3, .int .i64 e4, .bool e5, .int .u64 e6, .int .i64 e7] 41)) = wP at hrP HST ⊢
        generalize wr.heap.size = bO at hrP ⊢
        go_wp2_with (first | (refine wpList_load_mid (by rfl) 41 _ (by rfl) bO 0 (by rfl) (#[.int .i64 kd, .int .i64 n, .int .i64 a, .int .i64 b, .int .i64 c, .int .i64 d, .int .i64 e, .int .i64 f, .int .i64 g, .int .i64 h, .int .i64 zi, .int .i64 0, .int .i64 e0, .int .i64 e1, .int .i64 e2, .int .i64 e3, .int .i64 e4, .bool e5, .int .u64 e6, .int .i64 e7]).toList _ hrP Tryz.underlying41 rfl HI.out ?_))
        refine HST.out.mono ?_
        rintro ev w4 ⟨rfl, L4, g1, g2, g3, g4⟩
        have HLK := hide (looks_any g1 (by omega))
        rw [g3] at HLK
        have HL4 := hide g1
        have HB4 := hide g2
        have hG4 : L4.G = G := g3
        clear g1 g2 g3 g4 HST hrP
        go_wp2_with fail
        refine HLK.out.mono ?_
        rintro ev w5 ⟨rfl, hb5⟩
        have HL5 := hide (HL4.out.on hb5)
        clear HLK HL4 hb5
        go_wp2_with fail
        go_roundw
        case rel => exact ⟨i + 1, L4, by omega, rfl, by go_num, by rw [show (0 : Int) + 1 + ((i + 1 : Nat) : Int) = 0 + 1 + (i : Int) + 1 by push_cast; omega]; exact HL5.out, by rw [show (0 : Int) + 1 + ((i + 1 : Nat) : Int) = 0 + 1 + (i : Int) + 1 by push_cast; omega]; exact HB4.out, hG4⟩
        case measure => simp [intOf]; omega
    · obtain rfl : i = len := by omega
      have hcl3 : L'.cs.length ≤ 3 := HLW.out.cl
      generalize hncl : L'.cs.length = ncl at hcl3
      have hpl : (0 : Int) + 1 + (i : Int) + 3 * ((0 : Nat) : Int) = 0 + 1 + (i : Int) := by omega
      have q0' : ∃ A2 c2, wr.cell? ⟨G, 0, none⟩ = some (.slice A2 ncl c2) := by
        obtain ⟨A2, c2, hv2, -, -, -⟩ := Row.form (HLW.out.says .rx)
        rw [List.length_map, hncl] at hv2
        have := (HLW.out.says .hd).1 0 _ rfl
        rw [hGw] at this
        exact ⟨A2, c2, by rw [← hv2]; exact this⟩
      obtain ⟨A2, c2, q0⟩ := q0'
      clear HO HOK HOL
      go_wp2_with fail
      go_loopw [7, 11] (fun ok kv wq => ∃ (k : Nat) (L3 : LV), k ≤ ncl ∧ ok = .bool true ∧ kv = .int .i64 (k : Int) ∧ Law W wq L3 (0 + 1 + (i : Int) + 3 * (k : Int)) ∧ Bes L3 (0 + 1 + (i : Int) + 3 * (k : Int)) ∧ L3.G = G ∧ L3.cs.length = ncl) (fun _ kv _ => ncl - (intOf kv).toNat)
      case atStart => exact ⟨0, L', Nat.zero_le _, rfl, rfl, by rw [hpl]; exact HLW.out, by rw [hpl]; exact HBW.out, hGw, hncl⟩
      case round =>
        obtain ⟨k, L3, hk, rfl, rfl, h1, h2, h3, h4⟩ := hrel
        rename World => wq
        clear q0 HLW HBW hbW hpl hncl hGw
        have q0' : ∃ A2 c2, wq.cell? ⟨G, 0, none⟩ = some (.slice A2 ncl c2) := by
          obtain ⟨A2, c2, hv2, -, -, -⟩ := Row.form (h1.says .rx)
          rw [List.length_map, h4] at hv2
          have := (h1.says .hd).1 0 _ rfl
          rw [h3] at this
          exact ⟨A2, c2, by rw [← hv2]; exact this⟩
        obtain ⟨A3, c3, q0⟩ := q0'
        by_cases hlt2 : (k : Int) < (ncl : Int)
        · have HS1 := hide (stood_any h1 h2 (by omega) k (List.getElem?_eq_getElem (show k < L3.cs.length by omega)))
          rw [h3] at HS1
          clear h1 h2
          go_wp2_with fail
          refine HS1.out.mono ?_
          rintro ev w6 ⟨rfl, L6, a1, a2, a3, a4⟩
          have HS2 := hide (stepped_any a1 a2 (by omega) k (List.getElem?_eq_getElem (show k < L6.cs.length by omega)) 6 0 0 0 0 false 0 1099511627776 ⟨WalkArith.wf_i64 (show -9223372036854775808 ≤ (0 : Int) ∧ (0 : Int) ≤ 9223372036854775807 by omega), WalkArith.wf_i64 (show -9223372036854775808 ≤ (0 : Int) ∧ (0 : Int) ≤ 9223372036854775807 by omega), Int.le_refl _⟩ (by omega))
          have hG6 : L6.G = G := by rw [a3]
          rw [hG6] at HS2
          have hl6 : L6.cs.length = ncl := by omega
          clear a1 a2 a3 a4 HS1 q0
          go_wp2_with fail
          refine HS2.out.mono ?_
          rintro ev w7 ⟨rfl, L7, a1, a2, a3, a4⟩
          have HS3 := hide (stood_any a1 a2 (by omega) k (List.getElem?_eq_getElem (show k < L7.cs.length by omega)))
          have hG7 : L7.G = G := a3
          rw [hG7] at HS3
          have hl7 : L7.cs.length = ncl := by omega
          clear a1 a2 a3 a4 HS2
          go_wp2_with fail
          refine HS3.out.mono ?_
          rintro ev w8 ⟨rfl, L8, a1, a2, a3, a4⟩
          have hG8 : L8.G = G := a3
          have hl8 : L8.cs.length = ncl := by omega
          have HL8 := hide a1
          have HB8 := hide a2
          clear a1 a2 a3 a4 HS3
          go_wp2_with fail
          go_roundw
          case rel => exact ⟨k + 1, L8, by omega, rfl, by go_num, by rw [show (0 : Int) + 1 + (i : Int) + 3 * ((k + 1 : Nat) : Int) = 0 + 1 + (i : Int) + 3 * (k : Int) + 1 + 1 + 1 by push_cast; omega]; exact HL8.out, by rw [show (0 : Int) + 1 + (i : Int) + 3 * ((k + 1 : Nat) : Int) = 0 + 1 + (i : Int) + 3 * (k : Int) + 1 + 1 + 1 by push_cast; omega]; exact HB8.out, hG8, hl8⟩
          case measure => simp [intOf]; omega
        · have HBL := hide h1.below
          clear h1 h2
          go_wp2_with fail
          go_ret
          exact ⟨rfl, HBL.out⟩
end Go.Proofs.YtlccfpbbdgpjbaaGreatDoor
