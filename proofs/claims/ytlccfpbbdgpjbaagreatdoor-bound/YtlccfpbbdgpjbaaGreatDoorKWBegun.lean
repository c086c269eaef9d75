import Derived.Test.YtlccfpbbdgpjbaaGreatDoorZWInit
import Derived.Test.YtlccfpbbdgpjbaaGreatDoorKWMv
namespace Go.Proofs.YtlccfpbbdgpjbaaGreatDoor
open Go.RowKit

theorem kOk (zs : List Int) : CfgOk (confV zs) := by
  have b0 := atV_lt zs 0 6 (by omega)
  have b1 := atV_lt zs 1 5 (by omega)
  have b2 := atV_lt zs 2 30 (by omega)
  have b3 := atV_lt zs 3 120 (by omega)
  have b4 := atV_lt zs 4 6 (by omega)
  have b5 := atV_lt zs 5 8 (by omega)
  have b6 := atV_lt zs 6 10 (by omega)
  have b7 := atV_lt zs 7 100 (by omega)
  have b8 := atV_lt zs 8 4 (by omega)
  have b9 := atV_lt zs 9 40 (by omega)
  constructor <;> (simp only [confV]; omega)

/-- A Watch's block, new. -/
def U0 (q x : Nat) : WV := ⟨q, x, .slice none 0 0, .slice none 0 0, .slice none 0 0, .slice none 0 0, fun k => if k = q then 0 else 9⟩
theorem U0_tag {q x k : Nat} (h : (U0 q x).tag k < 5) : k = q := by
  unfold U0 at h
  dsimp only at h
  split at h
  · assumption
  · omega
theorem wrep_new {w : World} (c : Cfg) (x : Nat) : WRep (w.alloc (.cells (cellsW c W0 (U0 w.heap.size x)).toArray 68)) c W0 (U0 w.heap.size x) := by
  have hb := heap_alloc_new w (.cells (cellsW c W0 (U0 w.heap.size x)).toArray 68)
  refine ⟨fun j v hv => ?_, fun j _ => ?_, Row.nil _ _ _ _ _, Row.nil _ _ _ _ _, Row.nil _ _ _ _ _, Row.nil _ _ _ _ _, if_pos rfl, fun k hk => ?_, fun k hk => ?_, fun k hk => ?_, fun k hk => ?_, fun k hk => ?_⟩
  · show (w.alloc _).cell? ⟨w.heap.size, j, none⟩ = some v
    rw [cell_of_row _ _ _ _ _ (0, 0) hb]
    simpa using hv
  · show (w.alloc _).frozen? ⟨w.heap.size, j, none⟩ = false
    unfold World.frozen?
    dsimp only
    rw [hb]
    simp
  · simp [U0, Value.ownBlock] at hk
  · simp [U0, Value.ownBlock] at hk
  · simp [U0, Value.ownBlock] at hk
  · simp [U0, Value.ownBlock] at hk
  · rw [U0_tag hk]
    simp

set_option maxRecDepth 100000 in
set_option maxHeartbeats 8000000 in
theorem begun_any (A1 : Option Addr) (len1 cap1 : Nat) (zs : List Int) (W : World) (hL : Laid W) (hz : IntsAt W A1 len1 zs) :
    Calls Tryz.prog 21 #[.slice A1 len1 cap1] W fun e w' => ∃ V U, e = .returned (.tuple #[.pointer (some ⟨U.q, 0, none⟩), .bool true]) ∧ WAll w' (initS (confV zs)) W0 V U ∧ (∀ k, V.tag k < 7 → W.heap.size ≤ k) ∧ (∀ k, U.tag k < 5 → W.heap.size ≤ k) ∧ Below W.heap.size W w' := by
  have HC := hide (kconfig_any A1 len1 cap1 zs W hz)
  have hok := kOk zs
  have HN := hide (fun W' (hb : Below W.heap.size W W') => new_full (confV zs).deposit (confV zs).cost (confV zs).cap (confV zs).window (confV zs).attempts (confV zs).flight (confV zs).base (confV zs).most (confV zs).rank (confV zs).samples W' (hL.on hb) (by
    unfold cfgErr
    obtain ⟨h1, h2, h3, h4, h5, h6, h7, h8, h9, h10, h11, h12, h13, h14, h15, h16, h17, h18, h19⟩ := hok
    rw [if_neg (by omega), if_neg (by omega), if_neg (by omega)]))
  have hcv : cfgVal (confV zs) = .agg #[.int .i64 (confV zs).deposit, .int .i64 (confV zs).cost, .int .i64 (confV zs).cap, .int .i64 (confV zs).window, .int .i64 (confV zs).attempts, .int .i64 (confV zs).flight, .int .i64 (confV zs).base, .int .i64 (confV zs).most, .int .i64 (confV zs).rank, .int .i64 (confV zs).samples] := rfl
  rw [hcv] at HC
  have hcc : (⟨(confV zs).deposit, (confV zs).cost, (confV zs).cap, (confV zs).window, (confV zs).attempts, (confV zs).flight, (confV zs).base, (confV zs).most, (confV zs).rank, (confV zs).samples⟩ : Cfg) = confV zs := rfl
  rw [hcc] at HN
  generalize confV zs = c at HC HN ⊢
  clear hL hz hok hcv hcc
  go_enter Tryz.func21, Tryz.ntmps21
  go_wp2_with fail
  refine HC.out.mono ?_
  rintro e w1 ⟨rfl, hb1⟩
  go_wp2_with fail
  have hbA : Below W.heap.size W (w1.alloc (.cells #[.int .i64 c.deposit, .int .i64 c.cost, .int .i64 c.cap, .int .i64 c.window, .int .i64 c.attempts, .int .i64 c.flight, .int .i64 c.base, .int .i64 c.most, .int .i64 c.rank, .int .i64 c.samples] 34)) := hb1.alloc hb1.size _
  have a0 : (w1.alloc (.cells #[.int .i64 c.deposit, .int .i64 c.cost, .int .i64 c.cap, .int .i64 c.window, .int .i64 c.attempts, .int .i64 c.flight, .int .i64 c.base, .int .i64 c.most, .int .i64 c.rank, .int .i64 c.samples] 34)).cell? ⟨w1.heap.size, 0, none⟩ = some (.int .i64 c.deposit) := by simp
  have a1 : (w1.alloc (.cells #[.int .i64 c.deposit, .int .i64 c.cost, .int .i64 c.cap, .int .i64 c.window, .int .i64 c.attempts, .int .i64 c.flight, .int .i64 c.base, .int .i64 c.most, .int .i64 c.rank, .int .i64 c.samples] 34)).cell? ⟨w1.heap.size, 1, none⟩ = some (.int .i64 c.cost) := by simp
  have a2 : (w1.alloc (.cells #[.int .i64 c.deposit, .int .i64 c.cost, .int .i64 c.cap, .int .i64 c.window, .int .i64 c.attempts, .int .i64 c.flight, .int .i64 c.base, .int .i64 c.most, .int .i64 c.rank, .int .i64 c.samples] 34)).cell? ⟨w1.heap.size, 2, none⟩ = some (.int .i64 c.cap) := by simp
  have a3 : (w1.alloc (.cells #[.int .i64 c.deposit, .int .i64 c.cost, .int .i64 c.cap, .int .i64 c.window, .int .i64 c.attempts, .int .i64 c.flight, .int .i64 c.base, .int .i64 c.most, .int .i64 c.rank, .int .i64 c.samples] 34)).cell? ⟨w1.heap.size, 3, none⟩ = some (.int .i64 c.window) := by simp
  have a4 : (w1.alloc (.cells #[.int .i64 c.deposit, .int .i64 c.cost, .int .i64 c.cap, .int .i64 c.window, .int .i64 c.attempts, .int .i64 c.flight, .int .i64 c.base, .int .i64 c.most, .int .i64 c.rank, .int .i64 c.samples] 34)).cell? ⟨w1.heap.size, 4, none⟩ = some (.int .i64 c.attempts) := by simp
  have a5 : (w1.alloc (.cells #[.int .i64 c.deposit, .int .i64 c.cost, .int .i64 c.cap, .int .i64 c.window, .int .i64 c.attempts, .int .i64 c.flight, .int .i64 c.base, .int .i64 c.most, .int .i64 c.rank, .int .i64 c.samples] 34)).cell? ⟨w1.heap.size, 5, none⟩ = some (.int .i64 c.flight) := by simp
  have a6 : (w1.alloc (.cells #[.int .i64 c.deposit, .int .i64 c.cost, .int .i64 c.cap, .int .i64 c.window, .int .i64 c.attempts, .int .i64 c.flight, .int .i64 c.base, .int .i64 c.most, .int .i64 c.rank, .int .i64 c.samples] 34)).cell? ⟨w1.heap.size, 6, none⟩ = some (.int .i64 c.base) := by simp
  have a7 : (w1.alloc (.cells #[.int .i64 c.deposit, .int .i64 c.cost, .int .i64 c.cap, .int .i64 c.window, .int .i64 c.attempts, .int .i64 c.flight, .int .i64 c.base, .int .i64 c.most, .int .i64 c.rank, .int .i64 c.samples] 34)).cell? ⟨w1.heap.size, 7, none⟩ = some (.int .i64 c.most) := by simp
  have a8 : (w1.alloc (.cells #[.int .i64 c.deposit, .int .i64 c.cost, .int .i64 c.cap, .int .i64 c.window, .int .i64 c.attempts, .int .i64 c.flight, .int .i64 c.base, .int .i64 c.most, .int .i64 c.rank, .int .i64 c.samples] 34)).cell? ⟨w1.heap.size, 8, none⟩ = some (.int .i64 c.rank) := by simp
  have a9 : (w1.alloc (.cells #[.int .i64 c.deposit, .int .i64 c.cost, .int .i64 c.cap, .int .i64 c.window, .int .i64 c.attempts, .int .i64 c.flight, .int .i64 c.base, .int .i64 c.most, .int .i64 c.rank, .int .i64 c.samples] 34)).cell? ⟨w1.heap.size, 9, none⟩ = some (.int .i64 c.samples) := by simp
  have lA : w1.heap.size < (w1.alloc (.cells #[.int .i64 c.deposit, .int .i64 c.cost, .int .i64 c.cap, .int .i64 c.window, .int .i64 c.attempts, .int .i64 c.flight, .int .i64 c.base, .int .i64 c.most, .int .i64 c.rank, .int .i64 c.samples] 34)).heap.size := by simp
  generalize (w1.alloc (.cells #[.int .i64 c.deposit, .int .i64 c.cost, .int .i64 c.cap, .int .i64 c.window, .int .i64 c.attempts, .int .i64 c.flight, .int .i64 c.base, .int .i64 c.most, .int .i64 c.rank, .int .i64 c.samples] 34)) = wA at hbA a0 a1 a2 a3 a4 a5 a6 a7 a8 a9 lA ⊢
  generalize w1.heap.size = bx at a0 a1 a2 a3 a4 a5 a6 a7 a8 a9 lA ⊢
  refine (HN.out wA hbA).mono ?_
  rintro e w2 ⟨x, V, rfl, h2, hb2, ht2⟩
  have k0 := (hb2.cell (p := ⟨bx, 0, none⟩) lA).trans a0
  have k1 := (hb2.cell (p := ⟨bx, 1, none⟩) lA).trans a1
  have k2 := (hb2.cell (p := ⟨bx, 2, none⟩) lA).trans a2
  have k3 := (hb2.cell (p := ⟨bx, 3, none⟩) lA).trans a3
  have k4 := (hb2.cell (p := ⟨bx, 4, none⟩) lA).trans a4
  have k5 := (hb2.cell (p := ⟨bx, 5, none⟩) lA).trans a5
  have k6 := (hb2.cell (p := ⟨bx, 6, none⟩) lA).trans a6
  have k7 := (hb2.cell (p := ⟨bx, 7, none⟩) lA).trans a7
  have k8 := (hb2.cell (p := ⟨bx, 8, none⟩) lA).trans a8
  have k9 := (hb2.cell (p := ⟨bx, 9, none⟩) lA).trans a9
  have H2 := hide h2
  have HB2 := hide (hbA.trans (hb2.mono hbA.size))
  have HT2 := hide (fun k hk => Nat.le_trans hbA.size (ht2 k hk))
  have lx := h2.lp
  clear h2 hb2 ht2 hb1 HN HC a0 a1 a2 a3 a4 a5 a6 a7 a8 a9 hbA
  go_wp2_with fail
  go_ret2
  have hbn : Below w2.heap.size w2 (w2.alloc (.cells (cellsW c W0 (U0 w2.heap.size x)).toArray 68)) := (Below.refl _ _).alloc (Nat.le_refl _) _
  have hs2 := HB2.out.size
  refine ⟨V, U0 w2.heap.size x, rfl, ⟨H2.out.on hbn, wrep_new c x, fun k hk => ?_⟩, HT2.out, fun k hk => ?_, HB2.out.trans (hbn.mono hs2)⟩
  · rw [U0_tag hk]
    rcases Nat.lt_or_ge (V.tag w2.heap.size) 7 with h | h
    · have := H2.out.tl _ h
      omega
    · exact h
  · rw [U0_tag hk]
    exact hs2
end Go.Proofs.YtlccfpbbdgpjbaaGreatDoor
