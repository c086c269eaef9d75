import Derived.Test.YtlccfpbbdgpjbaaGreatDoorZAdv
import Derived.Test.YtlccfpbbdgpjbaaGreatDoorKConf
import Derived.Test.YtlccfpbbdgpjbaaGreatDoorZStep
import Derived.Deep.LoopGhost
namespace Go.Proofs.YtlccfpbbdgpjbaaGreatDoor

def agCfg (zs : List Int) : Cfg := { confV zs with deposit := 100, cost := 1, cap := 100, window := 10000, samples := 0 }
structure AgOk (c : Cfg) : Prop where
  d : c.deposit = 100
  co : c.cost = 1
  ca : c.cap = 100
  wi : c.window = 10000
  sa : c.samples = 0
  b0 : 1 ≤ c.base
  b1 : c.base ≤ 10
  m0 : c.base ≤ c.most
  m1 : c.most ≤ 49
  a0 : 1 ≤ c.attempts
  a1 : c.attempts ≤ 6
  f0 : 1 ≤ c.flight
  f1 : c.flight ≤ 8
  r0 : 1 ≤ c.rank
  r1 : c.rank ≤ 100
theorem agOk (zs : List Int) : AgOk (agCfg zs) := by
  have b4 := atV_lt zs 4 6 (by omega)
  have b5 := atV_lt zs 5 8 (by omega)
  have b6 := atV_lt zs 6 10 (by omega)
  have b7 := atV_lt zs 7 100 (by omega)
  have b9 := atV_lt zs 9 40 (by omega)
  constructor <;> (try rfl) <;> (simp only [agCfg, confV]; omega)
theorem AgOk.cfg {c : Cfg} (h : AgOk c) : CfgOk c := by
  obtain ⟨h1, h2, h3, h4, h5, h6, h7, h8, h9, h10, h11, h12, h13, h14, h15⟩ := h
  constructor <;> omega

theorem inv_init {c : Cfg} (h : CfgOk c) : Inv 0 (initS c) where
  cfg := h
  n0 := Int.le_refl _
  n1 := by show (0 : Int) ≤ _; omega
  ub := fun b hb => by cases hb
  us := by have := h.p0; exact this
  uc := fun b hb => by cases hb
  nd := List.nodup_nil
  cl := by have := h.f0; show (0 : Int) ≤ c.flight; omega
  cb := fun c hc => by cases hc
  ab := fun a ha => by cases ha
  tb := fun t ht => by cases ht
  tc := fun t ht => by cases ht
  tu := fun t ht => by cases ht
  tw := fun t ht => by cases ht
  ts := List.nodup_nil
  mt := by show 0 ≤ 32; omega
  mb := fun t ht => by cases ht
  l0 := Int.le_refl _
  s0 := Int.le_refl _
  z0 := Int.le_refl _
  p1 := by show (0 : Int) + 0 ≤ 6 * 0; omega
  p2 := by show (0 : Int) + ((0 : Nat) : Int) ≤ 2 * 0 + 0; omega
  tl := by show ((0 : Nat) : Int) ≤ 0; omega

/-- An attempt is open, the n-th. -/
def agS (c : Cfg) (n now last : Int) : PSt := ⟨c, now, [⟨0, 101 - n⟩], [⟨1, true, 10000, n, last⟩], [(n, ⟨1, now⟩)], n, [⟨1, 1, 10000, 1⟩], n, [], 0⟩
/-- It has failed, and the next waits. -/
def agW (c : Cfg) (n now wait due : Int) : PSt := ⟨c, now, [⟨0, 101 - n⟩], [⟨1, true, 10000, n, wait⟩], [], n, [⟨1, 1, 10000, 1⟩, ⟨2, 1, due, n + 1⟩], n + 1, [], 0⟩

theorem ag_submit {c : Cfg} (h : AgOk c) : stepM (initS c) ⟨1, 1, 0, 0, 10000, true, 0, 0⟩ = agS c 1 0 c.base ∧ stepA (initS c) ⟨1, 1, 0, 0, 10000, true, 0, 0⟩ = [⟨1, 1, 1, 0, 0, 10000⟩] := by
  have hf : ¬ c.flight ≤ 0 := by have := h.f0; omega
  constructor
  · simp [stepM, submitM, whyM, whyP, callOf, initS, admitM, launchM, setHedgeM, mayHedgeM, launch0, admit0, addTimer, bringM, bringN, sumB, newCall, updCall, hadUp, agS, hf, h.d, h.ca, h.sa]
  · simp [stepA, submitA, whyM, whyP, callOf, initS, admitA, launchA, newCall, hf]

theorem ag_last {c : Cfg} (k now last draw : Int) (hk : k = 3 ∨ k = 4) : stepA (agS c c.attempts now last) ⟨k, 0, c.attempts, 0, 0, false, draw, 0⟩ = [⟨3, 1, 0, 2, 0, 0⟩] := by
  rcases hk with rfl | rfl <;> simp [stepA, answerA, attOf, callOf, agS, answerA1, openOf, closeM, waitA, overM, noHedge, finishA]

theorem ag_more {c : Cfg} (k n now last draw : Int) (hk : k = 3 ∨ k = 4) (hn : n < c.attempts) (hd : ¬ 10000 ≤ now + waitP c.base c.most last draw) :
    stepM (agS c n now last) ⟨k, 0, n, 0, 0, false, draw, 0⟩ = agW c n now (waitP c.base c.most last draw) (now + waitP c.base c.most last draw) ∧ stepA (agS c n now last) ⟨k, 0, n, 0, 0, false, draw, 0⟩ = [] := by
  have hn' : ¬ c.attempts ≤ n := by omega
  rcases hk with rfl | rfl <;> constructor <;>
    simp [stepM, stepA, answerA, answerM, attOf, callOf, agS, agW, answerA1, answerM1, openOf, closeM, waitA, waitM, overM, waitOf, noHedge, againM, addTimer, updCall, waitUp, staysH, hn', hd]

theorem ag_first {c : Cfg} (n now wait due : Int) (hd : due < 10000) : firstT (agW c n now wait due).timers = some ⟨2, 1, due, n + 1⟩ := by
  simp [agW, firstT, PTimer.lt, hd]

theorem ag_adv1 {c : Cfg} (h : AgOk c) (n now wait due til : Int) (h0 : now ≤ til) (h1 : til < due) (h2 : due < 10000) :
    stepM (agW c n now wait due) ⟨6, 0, 0, 0, 0, false, 0, til⟩ = agW c n til wait due ∧ stepA (agW c n now wait due) ⟨6, 0, 0, 0, 0, false, 0, til⟩ = [] := by
  have hst : ¬ (til < (agW c n now wait due).now ∨ 1099511627776 < til) := by show ¬ (til < now ∨ _); omega
  have hs := advF_stop til (turns (agW c n now wait due)).toNat (agW c n now wait due) (fun t ht => by
    rw [ag_first n now wait due h2] at ht
    cases ht
    exact h1)
  have hw : ¬ c.window ≤ til := by have := h.wi; omega
  constructor
  · show advM (agW c n now wait due) til = _
    unfold advM
    rw [if_neg hst, hs]
    simp [goToM, agW, oldB, hw]
  · show advA (agW c n now wait due) til = _
    unfold advA
    rw [if_neg hst, hs]

theorem ag_adv2 {c : Cfg} (h : AgOk c) {N : Int} (n now wait due : Int) (hI : Inv N (agW c n now wait due)) (h0 : now ≤ due) (h2 : due < 10000) (hn0 : 1 ≤ n) (hn1 : n ≤ 90) :
    stepM (agW c n now wait due) ⟨6, 0, 0, 0, 0, false, 0, due⟩ = agS c (n + 1) due wait ∧ stepA (agW c n now wait due) ⟨6, 0, 0, 0, 0, false, 0, due⟩ = [⟨1, 1, n + 1, 0, 0, 10000 - due⟩] := by
  have hst : ¬ (due < (agW c n now wait due).now ∨ 1099511627776 < due) := by show ¬ (due < now ∨ _); omega
  have hf := ag_first (c := c) n now wait due h2
  have hw : ¬ c.window ≤ due := by have := h.wi; omega
  have hne : ¬ (1 : Int) = n + 1 := by omega
  have hdm : dueM (agW c n now wait due) ⟨2, 1, due, n + 1⟩ = ⟨c, due, [⟨0, 101 - n⟩], [⟨1, true, 10000, n, wait⟩], [], n, [⟨1, 1, 10000, 1⟩], n + 1, [], 0⟩ := by
    simp [dueM, popM, goToM, agW, oldB, hw, hne]
  have hp1 : 1 ≤ 101 - n := by omega
  have hp2 : ¬ (101 - n ≤ 1) := by omega
  have hp3 : 101 - n - 1 = 101 - (n + 1) := by omega
  have hp4 : (1 : Int) < 101 - n := by omega
  have hr : ringM (dueM (agW c n now wait due) ⟨2, 1, due, n + 1⟩) ⟨2, 1, due, n + 1⟩ = agS c (n + 1) due wait := by
    rw [hdm]
    simp [ringM, callOf, ringM1, launchM, setHedgeM, mayHedgeM, launch0, takeM, takeB, sumB, hadUp, updCall, agS, h.co, h.sa, hp1, hp4, hp3]
  have ha : ringA (dueM (agW c n now wait due) ⟨2, 1, due, n + 1⟩) ⟨2, 1, due, n + 1⟩ = [⟨1, 1, n + 1, 0, 0, 10000 - due⟩] := by
    rw [hdm]
    simp [ringA, callOf, ringA1, launchA, takeM, sumB, h.co, hp1]
  have hx := advF_next due hI hf (by show ¬ due < due; omega)
  rw [hr, ha] at hx
  have hs := advF_stop due (turns (agS c (n + 1) due wait)).toNat (agS c (n + 1) due wait) (fun t ht => by
    simp [agS, firstT] at ht
    rw [← ht]
    exact h2)
  rw [hs] at hx
  constructor
  · show advM (agW c n now wait due) due = _
    unfold advM
    rw [if_neg hst, hx]
    simp [goToM, agS, oldB, hw]
  · show advA (agW c n now wait due) due = _
    unfold advA
    rw [if_neg hst, hx]
    simp
end Go.Proofs.YtlccfpbbdgpjbaaGreatDoor

namespace Go.Proofs.YtlccfpbbdgpjbaaGreatDoor
open Go.RowKit Go.Maps

theorem hedge0 (p : Nat) (cfg : Cfg) (h : cfg.samples = 0) : HedgeAll p cfg := fun N s c e _ W V h' hc =>
  rep_setHedge0 h' hc (by
    unfold mayHedgeM
    rw [e, h]
    simp)

/-- What lay below B has stayed. -/
theorem PMv.below {V V' : PV} {w w' : World} (m : PMv V w V' w') {B : Nat} (hB : B ≤ w.heap.size) (ht : ∀ k, V.tag k < 7 → B ≤ k) : Below B w w' ∧ ∀ k, V'.tag k < 7 → B ≤ k := by
  refine ⟨⟨m.os, m.tape, m.output, m.size, fun k hk => m.block k (Nat.lt_of_lt_of_le hk hB) ?_⟩, fun k hk => ?_⟩
  · rcases Nat.lt_or_ge (V.tag k) 7 with h1 | h1
    · have := ht k h1
      omega
    · exact h1
  · rcases m.news k hk with h1 | h1
    · exact ht k h1
    · omega

/-- The config's box. -/
def CfgAt (W : World) (b : Nat) (c : Cfg) : Prop := W.cell? ⟨b, 4, none⟩ = some (.int .i64 c.attempts) ∧ W.cell? ⟨b, 6, none⟩ = some (.int .i64 c.base) ∧ W.cell? ⟨b, 7, none⟩ = some (.int .i64 c.most)

set_option maxRecDepth 100000 in
set_option maxHeartbeats 60000000 in
theorem again_walk (A1 : Option Addr) (len1 cap1 : Nat) (zs : List Int) (A2 : Option Addr) (len2 cap2 : Nat) (ds : List Int) (W : World) (hL : Laid W) (hz : IntsAt W A1 len1 zs) (hd : IntsAt W A2 len2 ds) :
    Calls Tryz.prog 6 #[.slice A1 len1 cap1, .slice A2 len2 cap2] W fun e w' => e = .returned (.bool true) ∧ Below W.heap.size W w' := by
  have HC := hide (fun W' (hb : Below W.heap.size W W') => kconfig_any A1 len1 cap1 zs W' (hz.below hb))
  have hok := agOk zs
  have HN := hide (fun W' (hb : Below W.heap.size W W') => new_full 100 1 100 10000 (agCfg zs).attempts (agCfg zs).flight (agCfg zs).base (agCfg zs).most (agCfg zs).rank 0 W' (hL.on hb) (by
    unfold cfgErr
    obtain ⟨h1, h2, h3, h4, h5, h6, h7, h8, h9, h10, h11, h12, h13, h14, h15⟩ := hok
    rw [if_neg (by omega), if_neg (by omega), if_neg (by omega)]))
  have HL := hide hL
  have HD := hide hd
  have HOK := hide hok
  have hcv : cfgVal (confV zs) = .agg #[.int .i64 (confV zs).deposit, .int .i64 (confV zs).cost, .int .i64 (confV zs).cap, .int .i64 (confV zs).window, .int .i64 (agCfg zs).attempts, .int .i64 (agCfg zs).flight, .int .i64 (agCfg zs).base, .int .i64 (agCfg zs).most, .int .i64 (agCfg zs).rank, .int .i64 (confV zs).samples] := rfl
  rw [hcv] at HC
  have hcc : (⟨100, 1, 100, 10000, (agCfg zs).attempts, (agCfg zs).flight, (agCfg zs).base, (agCfg zs).most, (agCfg zs).rank, 0⟩ : Cfg) = agCfg zs := rfl
  rw [hcc] at HN
  generalize agCfg zs = c at HC HN HOK
  generalize confV zs = c0 at HC
  clear hL hd hz hok hcv hcc
  go_enter Tryz.func6, Tryz.ntmps6
  go_wp2_with fail
  refine (HC.out _ ?_).mono ?_
  · repeat (first | exact Below.refl _ _ | refine Below.drew ?_ | refine Below.alloc ?_ (by first | (simp; done) | (simp; omega)) _)
  rintro e w1 ⟨rfl, hb1⟩
  go_wp2_with fail
  have hbW : Below W.heap.size W (w1.alloc (.cells #[.int .i64 100, .int .i64 1, .int .i64 100, .int .i64 10000, .int .i64 c.attempts, .int .i64 c.flight, .int .i64 c.base, .int .i64 c.most, .int .i64 c.rank, .int .i64 0] 34)) := hb1.alloc hb1.size _
  have f4 : (w1.alloc (.cells #[.int .i64 100, .int .i64 1, .int .i64 100, .int .i64 10000, .int .i64 c.attempts, .int .i64 c.flight, .int .i64 c.base, .int .i64 c.most, .int .i64 c.rank, .int .i64 0] 34)).cell? ⟨w1.heap.size, 4, none⟩ = some (.int .i64 c.attempts) := by simp
  have f6 : (w1.alloc (.cells #[.int .i64 100, .int .i64 1, .int .i64 100, .int .i64 10000, .int .i64 c.attempts, .int .i64 c.flight, .int .i64 c.base, .int .i64 c.most, .int .i64 c.rank, .int .i64 0] 34)).cell? ⟨w1.heap.size, 6, none⟩ = some (.int .i64 c.base) := by simp
  have f7 : (w1.alloc (.cells #[.int .i64 100, .int .i64 1, .int .i64 100, .int .i64 10000, .int .i64 c.attempts, .int .i64 c.flight, .int .i64 c.base, .int .i64 c.most, .int .i64 c.rank, .int .i64 0] 34)).cell? ⟨w1.heap.size, 7, none⟩ = some (.int .i64 c.most) := by simp
  generalize w1.alloc (.cells #[.int .i64 100, .int .i64 1, .int .i64 100, .int .i64 10000, .int .i64 c.attempts, .int .i64 c.flight, .int .i64 c.base, .int .i64 c.most, .int .i64 c.rank, .int .i64 0] 34) = W1 at hbW f4 f6 f7 ⊢
  have lbx : w1.heap.size < W1.heap.size := World.block_lt_of_cell? W1 _ f4
  generalize w1.heap.size = bx at f4 f6 f7 lbx ⊢
  refine (HN.out W1 hbW).mono ?_
  rintro e w2 ⟨x, V, rfl, h2, hb2, ht2⟩
  have k4 := (hb2.cell lbx).trans f4
  have k6 := (hb2.cell lbx).trans f6
  have k7 := (hb2.cell lbx).trans f7
  have lbx2 : bx < w2.heap.size := World.block_lt_of_cell? w2 _ k4
  have lx2 := h2.lp
  have hB2 := hbW.trans (hb2.mono hbW.size)
  have HSUB := hide (rep_step (hedge0 x c HOK.out.sa) h2 (inv_init HOK.out.cfg) (by omega) (.inl rfl) (by show (0 : Int) ≤ _; omega) ⟨1, 1, 0, 0, 10000, true, 0, 0⟩ ⟨by decide, by decide, Int.le_refl _⟩)
  rw [(ag_submit HOK.out).1, (ag_submit HOK.out).2] at HSUB
  unfold evV at HSUB
  dsimp only at HSUB
  have HT2 := hide ht2
  have HI1 : Hid (Inv 1 (agS c 1 0 c.base)) := by
    have := inv_step (inv_init HOK.out.cfg) ⟨1, 1, 0, 0, 10000, true, 0, 0⟩
    rw [(ag_submit HOK.out).1] at this
    exact this
  have Hhb2 := hide hb2
  have HbW := hide hbW
  clear h2 ht2 HN HC hbW hb1 hb2
  go_wp2_with fail
  refine HSUB.out.mono ?_
  rintro e w3 ⟨v3, V3, rfl, g3⟩
  obtain ⟨r3, h3, m3, t3⟩ := g3
  obtain ⟨hb3, ht3⟩ := m3.below (B := W1.heap.size) Hhb2.out.size HT2.out
  have hB3 : Below W1.heap.size W1 w3 := Hhb2.out.trans hb3
  have j4 := (hB3.cell lbx).trans f4
  have j6 := (hB3.cell lbx).trans f6
  have R3 := hide (r3.base Hhb2.out.size)
  have H3 := hide h3
  have HB3 := hide hB3
  have HT3 := hide ht3
  clear r3 h3 m3 t3 hb3 ht3 hB3 HSUB k4 k6 k7 lbx2 lx2 hB2 Hhb2 HT2
  go_wp2_with fail
  go_loopg [8, 9, 10, 11] (c.attempts - 1).toNat (fun gk lv lastv nowv nv wr => ∃ (n now last : Int) (V' : PV), gk = (c.attempts - n).toNat ∧ lastv = .int .i64 last ∧ nowv = .int .i64 now ∧ nv = .int .i64 n ∧ 1 ≤ n ∧ n ≤ c.attempts ∧ c.base ≤ last ∧ last ≤ c.most ∧ 0 ≤ now ∧ now ≤ 49 * (n - 1) ∧ PRep wr x (agS c n now last) V' ∧ Inv (3 * n - 2) (agS c n now last) ∧ (∀ k, V'.tag k < 7 → W1.heap.size ≤ k) ∧ Below W1.heap.size W1 wr ∧ Row wr W1.heap.size 55 6 encAct lv [⟨1, 1, n, 0, 0, 10000 - now⟩])
  case atStart => exact ⟨1, 0, c.base, V3, rfl, rfl, rfl, rfl, by omega, HOK.out.a0, Int.le_refl _, HOK.out.m0, by omega, by omega, H3.out, HI1.out, HT3.out, HB3.out, R3.out⟩
  case round =>
    obtain ⟨n, now, last, V', hgk, rfl, rfl, rfl, n0, n1, b0, b1, t0, t1, R, I, T, B, L⟩ := hrel
    obtain ⟨wo, hwo⟩ : ∃ wo : World, wo = wr := ⟨_, rfl⟩
    rw [← hwo] at R B L ⊢
    clear hwo H3 HB3 HT3 R3 HI1 j4 j6
    obtain ⟨g, cap, rfl, hown⟩ := L.at (by simp)
    have c0 := (L.cell encAct_len (g := g) (i := 0) (j := 0) rfl (by simp) rfl).1
    have c1 := (L.cell encAct_len (g := g) (i := 0) (j := 1) rfl (by simp) rfl).1
    have c2 := (L.cell encAct_len (g := g) (i := 0) (j := 2) rfl (by simp) rfl).1
    have c3 := (L.cell encAct_len (g := g) (i := 0) (j := 3) rfl (by simp) rfl).1
    have c4 := (L.cell encAct_len (g := g) (i := 0) (j := 4) rfl (by simp) rfl).1
    have c5 := (L.cell encAct_len (g := g) (i := 0) (j := 5) rfl (by simp) rfl).1
    have ko4 := (B.cell lbx).trans f4
    have ko6 := (B.cell lbx).trans f6
    have ko7 := (B.cell lbx).trans f7
    simp only [Nat.zero_mul, Nat.zero_add] at c0 c1 c2 c3 c4 c5
    have lgo : g < wo.heap.size := World.block_lt_of_cell? wo _ c0
    have lbo : bx < wo.heap.size := World.block_lt_of_cell? wo _ ko4
    have HR := hide R
    have HII := hide I
    have HTT := hide T
    have HBB := hide B
    have ha6 := HOK.out.a1
    have hm49 := HOK.out.m1
    have hb10 := HOK.out.b1
    have hb1' := HOK.out.b0
    obtain ⟨k, rfl⟩ : ∃ k : Nat, n = (k : Int) := ⟨n.toNat, by omega⟩
    have hNN : (3 * (k : Int) - 2) ≤ 60000 := by omega
    have HSP : Hid (SP (agS c k now last)) := .inr (by show 0 < (k : Int); omega)
    have HST := hide (fun (kd d : Int) (hd : 0 ≤ d) => rep_step (hedge0 x c HOK.out.sa) HR.out HII.out hNN HSP.out (by show (0 : Int) ≤ _; omega) ⟨kd, 0, k, 0, 0, false, d, 0⟩ ⟨(show (Lit.int .i64 0).wf = true by decide), WalkArith.wf_i64 (show -9223372036854775808 ≤ (k : Int) ∧ (k : Int) ≤ 9223372036854775807 by omega), hd⟩)
    have HDS : Hid (∀ h : k < len2, ∃ sb so z, A2 = some ⟨sb, so, none⟩ ∧ sb < wo.heap.size ∧ wo.cell? ⟨sb, so + k, none⟩ = some (.int .i64 z) ∧ -9223372036854775808 ≤ z ∧ z ≤ 9223372036854775807) := fun h => by
      obtain ⟨q1, q2, q3, q4⟩ := HD.out
      rcases q4 with q4 | ⟨sb, so, e, hl, hc⟩
      · omega
      · have hb : Below W.heap.size W wo := HbW.out.trans (B.mono HbW.out.size)
        exact ⟨sb, so, ds[k]'(by omega), e, Nat.lt_of_lt_of_le hl hb.size, (hb.cell hl).trans (hc k (by omega)), q2 _ (List.getElem_mem _)⟩
    clear R I T B L
    by_cases hdl : k < len2
    · obtain ⟨sb, so, z, rfl, lsb, hcz, hz0, hz1⟩ := HDS.out hdl
      have hdl' : (k : Int) < (len2 : Int) := by omega
      by_cases hp : k % 2 = 0
      · have hp' : ((k : Int) % 2) = 0 := by omega
        go_wp2_with fail
        obtain ⟨d, hD⟩ : ∃ d, d = IntKind.u64.wrap z := ⟨_, rfl⟩
        rw [← hD]
        have hd0 : 0 ≤ d := by rw [hD, IntKind.wrap_u64]; omega
        have hd1 : d ≤ 18446744073709551615 := by rw [hD, IntKind.wrap_u64]; omega
        clear hD
        by_cases hlast : (k : Int) = c.attempts
        · have HX := hide (HST.out 4 d hd0)
          rw [show stepA (agS c k now last) ⟨4, 0, k, 0, 0, false, d, 0⟩ = [⟨3, 1, 0, 2, 0, 0⟩] by rw [hlast]; exact ag_last _ _ _ _ (.inr rfl)] at HX
          unfold evV at HX
          dsimp only at HX
          refine HX.out.mono ?_
          rintro e w4 ⟨v4, V4, rfl, r4, h4, m4, t4⟩
          obtain ⟨hb4, _⟩ := m4.below (B := W1.heap.size) HBB.out.size HTT.out
          have hB4 := HBB.out.trans hb4
          obtain ⟨g4, cap4, rfl, _⟩ := r4.at (by simp)
          have q0 := (r4.cell encAct_len (g := g4) (i := 0) (j := 0) rfl (by simp) rfl).1
          have q1 := (r4.cell encAct_len (g := g4) (i := 0) (j := 1) rfl (by simp) rfl).1
          have q2 := (r4.cell encAct_len (g := g4) (i := 0) (j := 2) rfl (by simp) rfl).1
          have q3 := (r4.cell encAct_len (g := g4) (i := 0) (j := 3) rfl (by simp) rfl).1
          have q4 := (r4.cell encAct_len (g := g4) (i := 0) (j := 4) rfl (by simp) rfl).1
          have q5 := (r4.cell encAct_len (g := g4) (i := 0) (j := 5) rfl (by simp) rfl).1
          simp only [Nat.zero_mul, Nat.zero_add] at q0 q1 q2 q3 q4 q5
          have p4 := (hB4.cell lbx).trans f4
          have lg4 : g4 < w4.heap.size := World.block_lt_of_cell? w4 _ q0
          have lb4 : bx < w4.heap.size := World.block_lt_of_cell? w4 _ p4
          have HEND := hide (HbW.out.trans (hB4.mono HbW.out.size))
          clear HX r4 h4 m4 t4 hb4 hB4 HST HDS c0 c1 c2 c3 c4 c5 ko4 ko6 ko7
          go_wp2_with fail
          go_ret
          exact ⟨rfl, HEND.out⟩
        · have hlt : (k : Int) < c.attempts := by omega
          obtain ⟨r, hr⟩ : ∃ r, d % (3 * last - c.base + 1) = r := ⟨_, rfl⟩
          have hr0 : 0 ≤ r := by rw [← hr]; exact Int.emod_nonneg _ (by omega)
          have hr1 : r < 3 * last - c.base + 1 := by rw [← hr]; exact Int.emod_lt_of_pos _ (by omega)
          obtain ⟨y, hy⟩ : ∃ y, waitP c.base c.most last d = y := ⟨_, rfl⟩
          have hyr : y = min (c.base + r) c.most := by rw [← hy]; unfold waitP; rw [hr]
          have hd' : ¬ 10000 ≤ now + waitP c.base c.most last d := by rw [hy]; omega
          have u1 : IntKind.u64.wrap (3 * last - c.base + 1) = 3 * last - c.base + 1 := by rw [IntKind.wrap_u64]; omega
          have u2 : (d).tmod (3 * last - c.base + 1) = r := by rw [Int.tmod_eq_emod_of_nonneg hd0]; exact hr
          have u3 : ¬ (3 * last - c.base + 1 = 0) := by omega
          have HX := hide (HST.out 4 d hd0)
          obtain ⟨eM, eA⟩ := ag_more (c := c) 4 k now last d (.inr rfl) hlt hd'
          rw [eM, eA, hy] at HX
          have I4 : Hid (Inv (3 * (k : Int) - 1) (agW c k now y (now + y))) := by
            have h9 := inv_step HII.out ⟨4, 0, k, 0, 0, false, d, 0⟩
            rw [eM, hy] at h9
            exact h9.mono (by omega)
          unfold evV at HX
          dsimp only at HX
          clear eM eA hd' hy HST HDS
          refine HX.out.mono ?_
          rintro e w4 ⟨v4, V4, rfl, r4, h4, m4, t4⟩
          obtain ⟨hb4, ht4⟩ := m4.below (B := W1.heap.size) HBB.out.size HTT.out
          have hB4 := HBB.out.trans hb4
          obtain ⟨A4, cap4, rfl, _, _, _⟩ := r4.form
          have p4 := (hB4.cell lbx).trans f4
          have p6 := (hB4.cell lbx).trans f6
          have p7 := (hB4.cell lbx).trans f7
          have lb4 : bx < w4.heap.size := World.block_lt_of_cell? w4 _ p4
          obtain ⟨eM1, eA1⟩ := ag_adv1 (c := c) HOK.out k now y (now + y) (now + y - 1) (by omega) (by omega) (by omega)
          have HY := hide (fun nq => rep_step (hedge0 x c HOK.out.sa) (h4.on (below_drewN w4 nq)) I4.out (by omega) (.inr (by show 0 < (k : Int) + 1; omega)) (by show (0 : Int) ≤ _; omega) ⟨6, 0, 0, 0, 0, false, 0, now + y - 1⟩ ⟨(show (Lit.int .i64 0).wf = true by decide), (show (Lit.int .i64 0).wf = true by decide), Int.le_refl _⟩)
          rw [eM1, eA1] at HY
          have I5 : Hid (Inv (3 * (k : Int)) (agW c k (now + y - 1) y (now + y))) := by
            have h9 := inv_step I4.out ⟨6, 0, 0, 0, 0, false, 0, now + y - 1⟩
            rw [eM1] at h9
            exact h9.mono (by omega)
          unfold evV at HY
          dsimp only at HY
          have HB4 := hide hB4
          have HT4 := hide ht4
          have hsz4 := hB4.size
          clear r4 h4 m4 t4 hb4 hB4 ht4 HX c0 c1 c2 c3 c4 c5 ko4 ko6 ko7 eM1 eA1 hr I4
          simp only [List.length_nil]
          by_cases hgt : c.most < c.base + r
          · have hyv : y = c.most := by omega
            clear hyr
            go_wp2_with fail
            go_quiet (fail)
            go_wp2_with fail
            rw [← hyv]
            refine (HY.out _).mono ?_
            rintro e w5 ⟨v5, V5, rfl, r5, h5, m5, t5⟩
            have hbq := below_drewN w4 nq
            obtain ⟨hb5, ht5⟩ := m5.below (B := W1.heap.size) hsz4 HT4.out
            have hB5 : Below W1.heap.size W1 w5 := (HB4.out.trans (hbq.mono hsz4)).trans hb5
            obtain ⟨A5, cap5, rfl, _, _, _⟩ := r5.form
            have s4 := (hB5.cell lbx).trans f4
            have s6 := (hB5.cell lbx).trans f6
            have s7 := (hB5.cell lbx).trans f7
            have lb5 : bx < w5.heap.size := World.block_lt_of_cell? w5 _ s4
            obtain ⟨eM2, eA2⟩ := ag_adv2 (c := c) HOK.out k (now + y - 1) y (now + y) I5.out (by omega) (by omega) n0 (by omega)
            have HZ := hide (rep_step (hedge0 x c HOK.out.sa) h5 I5.out (by omega) (.inr (by show 0 < (k : Int) + 1; omega)) (by show (0 : Int) ≤ _; omega) ⟨6, 0, 0, 0, 0, false, 0, now + y⟩ ⟨(show (Lit.int .i64 0).wf = true by decide), (show (Lit.int .i64 0).wf = true by decide), Int.le_refl _⟩)
            rw [eM2, eA2] at HZ
            have I6 : Hid (Inv (3 * (k : Int) + 1) (agS c ((k : Int) + 1) (now + y) y)) := by
              have h9 := inv_step I5.out ⟨6, 0, 0, 0, 0, false, 0, now + y⟩
              rw [eM2] at h9
              exact h9
            unfold evV at HZ
            dsimp only at HZ
            have HB5 := hide hB5
            have HT5 := hide ht5
            have hsz5 := hB5.size
            clear r5 h5 m5 t5 hb5 hB5 ht5 HY eM2 eA2 hbq I5 p4 p6 p7
            simp only [List.length_nil]
            go_wp2_with fail
            rw [← hyv]
            refine HZ.out.mono ?_
            rintro e w6 ⟨v6, V6, rfl, r6, h6, m6, t6⟩
            obtain ⟨hb6, ht6⟩ := m6.below (B := W1.heap.size) hsz5 HT5.out
            have hB6 : Below W1.heap.size W1 w6 := HB5.out.trans hb6
            have HR6 := hide (r6.base hsz5)
            have H6 := hide h6
            have HB6 := hide hB6
            have HT6 := hide ht6
            have hy49 : 0 ≤ now + y ∧ now + y ≤ 49 * ((k : Int) + 1 - 1) := by omega
            have hyb : c.base ≤ y ∧ y ≤ c.most := by omega
            have HY49 := hide hy49
            have HYB := hide hyb
            clear r6 h6 m6 t6 hb6 hB6 ht6 HZ HB5 HT5 s4 s6 s7 hy49 hyb
            subst hyv
            go_wp2_with fail
            go_roundg (c.attempts - ((k : Int) + 1)).toNat
            case measure => omega
            case rel => exact ⟨(k : Int) + 1, _, _, V6, rfl, rfl, rfl, rfl, by omega, by omega, HYB.out.1, HYB.out.2, HY49.out.1, HY49.out.2, H6.out, I6.out.mono (by omega), HT6.out, HB6.out, HR6.out⟩
          · have hyv : y = c.base + r := by omega
            clear hyr
            go_wp2_with fail
            go_quiet (fail)
            go_wp2_with fail
            rw [← hyv]
            refine (HY.out _).mono ?_
            rintro e w5 ⟨v5, V5, rfl, r5, h5, m5, t5⟩
            have hbq := below_drewN w4 nq
            obtain ⟨hb5, ht5⟩ := m5.below (B := W1.heap.size) hsz4 HT4.out
            have hB5 : Below W1.heap.size W1 w5 := (HB4.out.trans (hbq.mono hsz4)).trans hb5
            obtain ⟨A5, cap5, rfl, _, _, _⟩ := r5.form
            have s4 := (hB5.cell lbx).trans f4
            have s6 := (hB5.cell lbx).trans f6
            have s7 := (hB5.cell lbx).trans f7
            have lb5 : bx < w5.heap.size := World.block_lt_of_cell? w5 _ s4
            obtain ⟨eM2, eA2⟩ := ag_adv2 (c := c) HOK.out k (now + y - 1) y (now + y) I5.out (by omega) (by omega) n0 (by omega)
            have HZ := hide (rep_step (hedge0 x c HOK.out.sa) h5 I5.out (by omega) (.inr (by show 0 < (k : Int) + 1; omega)) (by show (0 : Int) ≤ _; omega) ⟨6, 0, 0, 0, 0, false, 0, now + y⟩ ⟨(show (Lit.int .i64 0).wf = true by decide), (show (Lit.int .i64 0).wf = true by decide), Int.le_refl _⟩)
            rw [eM2, eA2] at HZ
            have I6 : Hid (Inv (3 * (k : Int) + 1) (agS c ((k : Int) + 1) (now + y) y)) := by
              have h9 := inv_step I5.out ⟨6, 0, 0, 0, 0, false, 0, now + y⟩
              rw [eM2] at h9
              exact h9
            unfold evV at HZ
            dsimp only at HZ
            have HB5 := hide hB5
            have HT5 := hide ht5
            have hsz5 := hB5.size
            clear r5 h5 m5 t5 hb5 hB5 ht5 HY eM2 eA2 hbq I5 p4 p6 p7
            simp only [List.length_nil]
            go_wp2_with fail
            rw [← hyv]
            refine HZ.out.mono ?_
            rintro e w6 ⟨v6, V6, rfl, r6, h6, m6, t6⟩
            obtain ⟨hb6, ht6⟩ := m6.below (B := W1.heap.size) hsz5 HT5.out
            have hB6 : Below W1.heap.size W1 w6 := HB5.out.trans hb6
            have HR6 := hide (r6.base hsz5)
            have H6 := hide h6
            have HB6 := hide hB6
            have HT6 := hide ht6
            have hy49 : 0 ≤ now + y ∧ now + y ≤ 49 * ((k : Int) + 1 - 1) := by omega
            have hyb : c.base ≤ y ∧ y ≤ c.most := by omega
            have HY49 := hide hy49
            have HYB := hide hyb
            clear r6 h6 m6 t6 hb6 hB6 ht6 HZ HB5 HT5 s4 s6 s7 hy49 hyb
            subst hyv
            go_wp2_with fail
            go_roundg (c.attempts - ((k : Int) + 1)).toNat
            case measure => omega
            case rel => exact ⟨(k : Int) + 1, _, _, V6, rfl, rfl, rfl, rfl, by omega, by omega, HYB.out.1, HYB.out.2, HY49.out.1, HY49.out.2, H6.out, I6.out.mono (by omega), HT6.out, HB6.out, HR6.out⟩

      · have hp' : ¬ ((k : Int) % 2) = 0 := by omega
        go_wp2_with fail
        obtain ⟨d, hD⟩ : ∃ d, d = IntKind.u64.wrap z := ⟨_, rfl⟩
        rw [← hD]
        have hd0 : 0 ≤ d := by rw [hD, IntKind.wrap_u64]; omega
        have hd1 : d ≤ 18446744073709551615 := by rw [hD, IntKind.wrap_u64]; omega
        clear hD
        by_cases hlast : (k : Int) = c.attempts
        · have HX := hide (HST.out 3 d hd0)
          rw [show stepA (agS c k now last) ⟨3, 0, k, 0, 0, false, d, 0⟩ = [⟨3, 1, 0, 2, 0, 0⟩] by rw [hlast]; exact ag_last _ _ _ _ (.inl rfl)] at HX
          unfold evV at HX
          dsimp only at HX
          refine HX.out.mono ?_
          rintro e w4 ⟨v4, V4, rfl, r4, h4, m4, t4⟩
          obtain ⟨hb4, _⟩ := m4.below (B := W1.heap.size) HBB.out.size HTT.out
          have hB4 := HBB.out.trans hb4
          obtain ⟨g4, cap4, rfl, _⟩ := r4.at (by simp)
          have q0 := (r4.cell encAct_len (g := g4) (i := 0) (j := 0) rfl (by simp) rfl).1
          have q1 := (r4.cell encAct_len (g := g4) (i := 0) (j := 1) rfl (by simp) rfl).1
          have q2 := (r4.cell encAct_len (g := g4) (i := 0) (j := 2) rfl (by simp) rfl).1
          have q3 := (r4.cell encAct_len (g := g4) (i := 0) (j := 3) rfl (by simp) rfl).1
          have q4 := (r4.cell encAct_len (g := g4) (i := 0) (j := 4) rfl (by simp) rfl).1
          have q5 := (r4.cell encAct_len (g := g4) (i := 0) (j := 5) rfl (by simp) rfl).1
          simp only [Nat.zero_mul, Nat.zero_add] at q0 q1 q2 q3 q4 q5
          have p4 := (hB4.cell lbx).trans f4
          have lg4 : g4 < w4.heap.size := World.block_lt_of_cell? w4 _ q0
          have lb4 : bx < w4.heap.size := World.block_lt_of_cell? w4 _ p4
          have HEND := hide (HbW.out.trans (hB4.mono HbW.out.size))
          clear HX r4 h4 m4 t4 hb4 hB4 HST HDS c0 c1 c2 c3 c4 c5 ko4 ko6 ko7
          go_wp2_with fail
          go_ret
          exact ⟨rfl, HEND.out⟩
        · have hlt : (k : Int) < c.attempts := by omega
          obtain ⟨r, hr⟩ : ∃ r, d % (3 * last - c.base + 1) = r := ⟨_, rfl⟩
          have hr0 : 0 ≤ r := by rw [← hr]; exact Int.emod_nonneg _ (by omega)
          have hr1 : r < 3 * last - c.base + 1 := by rw [← hr]; exact Int.emod_lt_of_pos _ (by omega)
          obtain ⟨y, hy⟩ : ∃ y, waitP c.base c.most last d = y := ⟨_, rfl⟩
          have hyr : y = min (c.base + r) c.most := by rw [← hy]; unfold waitP; rw [hr]
          have hd' : ¬ 10000 ≤ now + waitP c.base c.most last d := by rw [hy]; omega
          have u1 : IntKind.u64.wrap (3 * last - c.base + 1) = 3 * last - c.base + 1 := by rw [IntKind.wrap_u64]; omega
          have u2 : (d).tmod (3 * last - c.base + 1) = r := by rw [Int.tmod_eq_emod_of_nonneg hd0]; exact hr
          have u3 : ¬ (3 * last - c.base + 1 = 0) := by omega
          have HX := hide (HST.out 3 d hd0)
          obtain ⟨eM, eA⟩ := ag_more (c := c) 3 k now last d (.inl rfl) hlt hd'
          rw [eM, eA, hy] at HX
          have I4 : Hid (Inv (3 * (k : Int) - 1) (agW c k now y (now + y))) := by
            have h9 := inv_step HII.out ⟨3, 0, k, 0, 0, false, d, 0⟩
            rw [eM, hy] at h9
            exact h9.mono (by omega)
          unfold evV at HX
          dsimp only at HX
          clear eM eA hd' hy HST HDS
          refine HX.out.mono ?_
          rintro e w4 ⟨v4, V4, rfl, r4, h4, m4, t4⟩
          obtain ⟨hb4, ht4⟩ := m4.below (B := W1.heap.size) HBB.out.size HTT.out
          have hB4 := HBB.out.trans hb4
          obtain ⟨A4, cap4, rfl, _, _, _⟩ := r4.form
          have p4 := (hB4.cell lbx).trans f4
          have p6 := (hB4.cell lbx).trans f6
          have p7 := (hB4.cell lbx).trans f7
          have lb4 : bx < w4.heap.size := World.block_lt_of_cell? w4 _ p4
          obtain ⟨eM1, eA1⟩ := ag_adv1 (c := c) HOK.out k now y (now + y) (now + y - 1) (by omega) (by omega) (by omega)
          have HY := hide (fun nq => rep_step (hedge0 x c HOK.out.sa) (h4.on (below_drewN w4 nq)) I4.out (by omega) (.inr (by show 0 < (k : Int) + 1; omega)) (by show (0 : Int) ≤ _; omega) ⟨6, 0, 0, 0, 0, false, 0, now + y - 1⟩ ⟨(show (Lit.int .i64 0).wf = true by decide), (show (Lit.int .i64 0).wf = true by decide), Int.le_refl _⟩)
          rw [eM1, eA1] at HY
          have I5 : Hid (Inv (3 * (k : Int)) (agW c k (now + y - 1) y (now + y))) := by
            have h9 := inv_step I4.out ⟨6, 0, 0, 0, 0, false, 0, now + y - 1⟩
            rw [eM1] at h9
            exact h9.mono (by omega)
          unfold evV at HY
          dsimp only at HY
          have HB4 := hide hB4
          have HT4 := hide ht4
          have hsz4 := hB4.size
          clear r4 h4 m4 t4 hb4 hB4 ht4 HX c0 c1 c2 c3 c4 c5 ko4 ko6 ko7 eM1 eA1 hr I4
          simp only [List.length_nil]
          by_cases hgt : c.most < c.base + r
          · have hyv : y = c.most := by omega
            clear hyr
            go_wp2_with fail
            go_quiet (fail)
            go_wp2_with fail
            rw [← hyv]
            refine (HY.out _).mono ?_
            rintro e w5 ⟨v5, V5, rfl, r5, h5, m5, t5⟩
            have hbq := below_drewN w4 nq
            obtain ⟨hb5, ht5⟩ := m5.below (B := W1.heap.size) hsz4 HT4.out
            have hB5 : Below W1.heap.size W1 w5 := (HB4.out.trans (hbq.mono hsz4)).trans hb5
            obtain ⟨A5, cap5, rfl, _, _, _⟩ := r5.form
            have s4 := (hB5.cell lbx).trans f4
            have s6 := (hB5.cell lbx).trans f6
            have s7 := (hB5.cell lbx).trans f7
            have lb5 : bx < w5.heap.size := World.block_lt_of_cell? w5 _ s4
            obtain ⟨eM2, eA2⟩ := ag_adv2 (c := c) HOK.out k (now + y - 1) y (now + y) I5.out (by omega) (by omega) n0 (by omega)
            have HZ := hide (rep_step (hedge0 x c HOK.out.sa) h5 I5.out (by omega) (.inr (by show 0 < (k : Int) + 1; omega)) (by show (0 : Int) ≤ _; omega) ⟨6, 0, 0, 0, 0, false, 0, now + y⟩ ⟨(show (Lit.int .i64 0).wf = true by decide), (show (Lit.int .i64 0).wf = true by decide), Int.le_refl _⟩)
            rw [eM2, eA2] at HZ
            have I6 : Hid (Inv (3 * (k : Int) + 1) (agS c ((k : Int) + 1) (now + y) y)) := by
              have h9 := inv_step I5.out ⟨6, 0, 0, 0, 0, false, 0, now + y⟩
              rw [eM2] at h9
              exact h9
            unfold evV at HZ
            dsimp only at HZ
            have HB5 := hide hB5
            have HT5 := hide ht5
            have hsz5 := hB5.size
            clear r5 h5 m5 t5 hb5 hB5 ht5 HY eM2 eA2 hbq I5 p4 p6 p7
            simp only [List.length_nil]
            go_wp2_with fail
            rw [← hyv]
            refine HZ.out.mono ?_
            rintro e w6 ⟨v6, V6, rfl, r6, h6, m6, t6⟩
            obtain ⟨hb6, ht6⟩ := m6.below (B := W1.heap.size) hsz5 HT5.out
            have hB6 : Below W1.heap.size W1 w6 := HB5.out.trans hb6
            have HR6 := hide (r6.base hsz5)
            have H6 := hide h6
            have HB6 := hide hB6
            have HT6 := hide ht6
            have hy49 : 0 ≤ now + y ∧ now + y ≤ 49 * ((k : Int) + 1 - 1) := by omega
            have hyb : c.base ≤ y ∧ y ≤ c.most := by omega
            have HY49 := hide hy49
            have HYB := hide hyb
            clear r6 h6 m6 t6 hb6 hB6 ht6 HZ HB5 HT5 s4 s6 s7 hy49 hyb
            subst hyv
            go_wp2_with fail
            go_roundg (c.attempts - ((k : Int) + 1)).toNat
            case measure => omega
            case rel => exact ⟨(k : Int) + 1, _, _, V6, rfl, rfl, rfl, rfl, by omega, by omega, HYB.out.1, HYB.out.2, HY49.out.1, HY49.out.2, H6.out, I6.out.mono (by omega), HT6.out, HB6.out, HR6.out⟩
          · have hyv : y = c.base + r := by omega
            clear hyr
            go_wp2_with fail
            go_quiet (fail)
            go_wp2_with fail
            rw [← hyv]
            refine (HY.out _).mono ?_
            rintro e w5 ⟨v5, V5, rfl, r5, h5, m5, t5⟩
            have hbq := below_drewN w4 nq
            obtain ⟨hb5, ht5⟩ := m5.below (B := W1.heap.size) hsz4 HT4.out
            have hB5 : Below W1.heap.size W1 w5 := (HB4.out.trans (hbq.mono hsz4)).trans hb5
            obtain ⟨A5, cap5, rfl, _, _, _⟩ := r5.form
            have s4 := (hB5.cell lbx).trans f4
            have s6 := (hB5.cell lbx).trans f6
            have s7 := (hB5.cell lbx).trans f7
            have lb5 : bx < w5.heap.size := World.block_lt_of_cell? w5 _ s4
            obtain ⟨eM2, eA2⟩ := ag_adv2 (c := c) HOK.out k (now + y - 1) y (now + y) I5.out (by omega) (by omega) n0 (by omega)
            have HZ := hide (rep_step (hedge0 x c HOK.out.sa) h5 I5.out (by omega) (.inr (by show 0 < (k : Int) + 1; omega)) (by show (0 : Int) ≤ _; omega) ⟨6, 0, 0, 0, 0, false, 0, now + y⟩ ⟨(show (Lit.int .i64 0).wf = true by decide), (show (Lit.int .i64 0).wf = true by decide), Int.le_refl _⟩)
            rw [eM2, eA2] at HZ
            have I6 : Hid (Inv (3 * (k : Int) + 1) (agS c ((k : Int) + 1) (now + y) y)) := by
              have h9 := inv_step I5.out ⟨6, 0, 0, 0, 0, false, 0, now + y⟩
              rw [eM2] at h9
              exact h9
            unfold evV at HZ
            dsimp only at HZ
            have HB5 := hide hB5
            have HT5 := hide ht5
            have hsz5 := hB5.size
            clear r5 h5 m5 t5 hb5 hB5 ht5 HY eM2 eA2 hbq I5 p4 p6 p7
            simp only [List.length_nil]
            go_wp2_with fail
            rw [← hyv]
            refine HZ.out.mono ?_
            rintro e w6 ⟨v6, V6, rfl, r6, h6, m6, t6⟩
            obtain ⟨hb6, ht6⟩ := m6.below (B := W1.heap.size) hsz5 HT5.out
            have hB6 : Below W1.heap.size W1 w6 := HB5.out.trans hb6
            have HR6 := hide (r6.base hsz5)
            have H6 := hide h6
            have HB6 := hide hB6
            have HT6 := hide ht6
            have hy49 : 0 ≤ now + y ∧ now + y ≤ 49 * ((k : Int) + 1 - 1) := by omega
            have hyb : c.base ≤ y ∧ y ≤ c.most := by omega
            have HY49 := hide hy49
            have HYB := hide hyb
            clear r6 h6 m6 t6 hb6 hB6 ht6 HZ HB5 HT5 s4 s6 s7 hy49 hyb
            subst hyv
            go_wp2_with fail
            go_roundg (c.attempts - ((k : Int) + 1)).toNat
            case measure => omega
            case rel => exact ⟨(k : Int) + 1, _, _, V6, rfl, rfl, rfl, rfl, by omega, by omega, HYB.out.1, HYB.out.2, HY49.out.1, HY49.out.2, H6.out, I6.out.mono (by omega), HT6.out, HB6.out, HR6.out⟩

    · have hdl' : ¬ (k : Int) < (len2 : Int) := by omega
      by_cases hp : k % 2 = 0
      · have hp' : ((k : Int) % 2) = 0 := by omega
        go_wp2_with fail
        have hd0 : 0 ≤ (k : Int) := by omega
        have hd1 : (k : Int) ≤ 18446744073709551615 := by omega
        by_cases hlast : (k : Int) = c.attempts
        · have HX := hide (HST.out 4 (k : Int) hd0)
          rw [show stepA (agS c k now last) ⟨4, 0, k, 0, 0, false, (k : Int), 0⟩ = [⟨3, 1, 0, 2, 0, 0⟩] by rw [hlast]; exact ag_last _ _ _ _ (.inr rfl)] at HX
          unfold evV at HX
          dsimp only at HX
          refine HX.out.mono ?_
          rintro e w4 ⟨v4, V4, rfl, r4, h4, m4, t4⟩
          obtain ⟨hb4, _⟩ := m4.below (B := W1.heap.size) HBB.out.size HTT.out
          have hB4 := HBB.out.trans hb4
          obtain ⟨g4, cap4, rfl, _⟩ := r4.at (by simp)
          have q0 := (r4.cell encAct_len (g := g4) (i := 0) (j := 0) rfl (by simp) rfl).1
          have q1 := (r4.cell encAct_len (g := g4) (i := 0) (j := 1) rfl (by simp) rfl).1
          have q2 := (r4.cell encAct_len (g := g4) (i := 0) (j := 2) rfl (by simp) rfl).1
          have q3 := (r4.cell encAct_len (g := g4) (i := 0) (j := 3) rfl (by simp) rfl).1
          have q4 := (r4.cell encAct_len (g := g4) (i := 0) (j := 4) rfl (by simp) rfl).1
          have q5 := (r4.cell encAct_len (g := g4) (i := 0) (j := 5) rfl (by simp) rfl).1
          simp only [Nat.zero_mul, Nat.zero_add] at q0 q1 q2 q3 q4 q5
          have p4 := (hB4.cell lbx).trans f4
          have lg4 : g4 < w4.heap.size := World.block_lt_of_cell? w4 _ q0
          have lb4 : bx < w4.heap.size := World.block_lt_of_cell? w4 _ p4
          have HEND := hide (HbW.out.trans (hB4.mono HbW.out.size))
          clear HX r4 h4 m4 t4 hb4 hB4 HST HDS c0 c1 c2 c3 c4 c5 ko4 ko6 ko7
          go_wp2_with fail
          go_ret
          exact ⟨rfl, HEND.out⟩
        · have hlt : (k : Int) < c.attempts := by omega
          obtain ⟨r, hr⟩ : ∃ r, (k : Int) % (3 * last - c.base + 1) = r := ⟨_, rfl⟩
          have hr0 : 0 ≤ r := by rw [← hr]; exact Int.emod_nonneg _ (by omega)
          have hr1 : r < 3 * last - c.base + 1 := by rw [← hr]; exact Int.emod_lt_of_pos _ (by omega)
          obtain ⟨y, hy⟩ : ∃ y, waitP c.base c.most last (k : Int) = y := ⟨_, rfl⟩
          have hyr : y = min (c.base + r) c.most := by rw [← hy]; unfold waitP; rw [hr]
          have hd' : ¬ 10000 ≤ now + waitP c.base c.most last (k : Int) := by rw [hy]; omega
          have u1 : IntKind.u64.wrap (3 * last - c.base + 1) = 3 * last - c.base + 1 := by rw [IntKind.wrap_u64]; omega
          have u2 : ((k : Int)).tmod (3 * last - c.base + 1) = r := by rw [Int.tmod_eq_emod_of_nonneg hd0]; exact hr
          have u3 : ¬ (3 * last - c.base + 1 = 0) := by omega
          have HX := hide (HST.out 4 (k : Int) hd0)
          obtain ⟨eM, eA⟩ := ag_more (c := c) 4 k now last (k : Int) (.inr rfl) hlt hd'
          rw [eM, eA, hy] at HX
          have I4 : Hid (Inv (3 * (k : Int) - 1) (agW c k now y (now + y))) := by
            have h9 := inv_step HII.out ⟨4, 0, k, 0, 0, false, (k : Int), 0⟩
            rw [eM, hy] at h9
            exact h9.mono (by omega)
          unfold evV at HX
          dsimp only at HX
          clear eM eA hd' hy HST HDS
          refine HX.out.mono ?_
          rintro e w4 ⟨v4, V4, rfl, r4, h4, m4, t4⟩
          obtain ⟨hb4, ht4⟩ := m4.below (B := W1.heap.size) HBB.out.size HTT.out
          have hB4 := HBB.out.trans hb4
          obtain ⟨A4, cap4, rfl, _, _, _⟩ := r4.form
          have p4 := (hB4.cell lbx).trans f4
          have p6 := (hB4.cell lbx).trans f6
          have p7 := (hB4.cell lbx).trans f7
          have lb4 : bx < w4.heap.size := World.block_lt_of_cell? w4 _ p4
          obtain ⟨eM1, eA1⟩ := ag_adv1 (c := c) HOK.out k now y (now + y) (now + y - 1) (by omega) (by omega) (by omega)
          have HY := hide (fun nq => rep_step (hedge0 x c HOK.out.sa) (h4.on (below_drewN w4 nq)) I4.out (by omega) (.inr (by show 0 < (k : Int) + 1; omega)) (by show (0 : Int) ≤ _; omega) ⟨6, 0, 0, 0, 0, false, 0, now + y - 1⟩ ⟨(show (Lit.int .i64 0).wf = true by decide), (show (Lit.int .i64 0).wf = true by decide), Int.le_refl _⟩)
          rw [eM1, eA1] at HY
          have I5 : Hid (Inv (3 * (k : Int)) (agW c k (now + y - 1) y (now + y))) := by
            have h9 := inv_step I4.out ⟨6, 0, 0, 0, 0, false, 0, now + y - 1⟩
            rw [eM1] at h9
            exact h9.mono (by omega)
          unfold evV at HY
          dsimp only at HY
          have HB4 := hide hB4
          have HT4 := hide ht4
          have hsz4 := hB4.size
          clear r4 h4 m4 t4 hb4 hB4 ht4 HX c0 c1 c2 c3 c4 c5 ko4 ko6 ko7 eM1 eA1 hr I4
          simp only [List.length_nil]
          by_cases hgt : c.most < c.base + r
          · have hyv : y = c.most := by omega
            clear hyr
            go_wp2_with fail
            go_quiet (fail)
            go_wp2_with fail
            rw [← hyv]
            refine (HY.out _).mono ?_
            rintro e w5 ⟨v5, V5, rfl, r5, h5, m5, t5⟩
            have hbq := below_drewN w4 nq
            obtain ⟨hb5, ht5⟩ := m5.below (B := W1.heap.size) hsz4 HT4.out
            have hB5 : Below W1.heap.size W1 w5 := (HB4.out.trans (hbq.mono hsz4)).trans hb5
            obtain ⟨A5, cap5, rfl, _, _, _⟩ := r5.form
            have s4 := (hB5.cell lbx).trans f4
            have s6 := (hB5.cell lbx).trans f6
            have s7 := (hB5.cell lbx).trans f7
            have lb5 : bx < w5.heap.size := World.block_lt_of_cell? w5 _ s4
            obtain ⟨eM2, eA2⟩ := ag_adv2 (c := c) HOK.out k (now + y - 1) y (now + y) I5.out (by omega) (by omega) n0 (by omega)
            have HZ := hide (rep_step (hedge0 x c HOK.out.sa) h5 I5.out (by omega) (.inr (by show 0 < (k : Int) + 1; omega)) (by show (0 : Int) ≤ _; omega) ⟨6, 0, 0, 0, 0, false, 0, now + y⟩ ⟨(show (Lit.int .i64 0).wf = true by decide), (show (Lit.int .i64 0).wf = true by decide), Int.le_refl _⟩)
            rw [eM2, eA2] at HZ
            have I6 : Hid (Inv (3 * (k : Int) + 1) (agS c ((k : Int) + 1) (now + y) y)) := by
              have h9 := inv_step I5.out ⟨6, 0, 0, 0, 0, false, 0, now + y⟩
              rw [eM2] at h9
              exact h9
            unfold evV at HZ
            dsimp only at HZ
            have HB5 := hide hB5
            have HT5 := hide ht5
            have hsz5 := hB5.size
            clear r5 h5 m5 t5 hb5 hB5 ht5 HY eM2 eA2 hbq I5 p4 p6 p7
            simp only [List.length_nil]
            go_wp2_with fail
            rw [← hyv]
            refine HZ.out.mono ?_
            rintro e w6 ⟨v6, V6, rfl, r6, h6, m6, t6⟩
            obtain ⟨hb6, ht6⟩ := m6.below (B := W1.heap.size) hsz5 HT5.out
            have hB6 : Below W1.heap.size W1 w6 := HB5.out.trans hb6
            have HR6 := hide (r6.base hsz5)
            have H6 := hide h6
            have HB6 := hide hB6
            have HT6 := hide ht6
            have hy49 : 0 ≤ now + y ∧ now + y ≤ 49 * ((k : Int) + 1 - 1) := by omega
            have hyb : c.base ≤ y ∧ y ≤ c.most := by omega
            have HY49 := hide hy49
            have HYB := hide hyb
            clear r6 h6 m6 t6 hb6 hB6 ht6 HZ HB5 HT5 s4 s6 s7 hy49 hyb
            subst hyv
            go_wp2_with fail
            go_roundg (c.attempts - ((k : Int) + 1)).toNat
            case measure => omega
            case rel => exact ⟨(k : Int) + 1, _, _, V6, rfl, rfl, rfl, rfl, by omega, by omega, HYB.out.1, HYB.out.2, HY49.out.1, HY49.out.2, H6.out, I6.out.mono (by omega), HT6.out, HB6.out, HR6.out⟩
          · have hyv : y = c.base + r := by omega
            clear hyr
            go_wp2_with fail
            go_quiet (fail)
            go_wp2_with fail
            rw [← hyv]
            refine (HY.out _).mono ?_
            rintro e w5 ⟨v5, V5, rfl, r5, h5, m5, t5⟩
            have hbq := below_drewN w4 nq
            obtain ⟨hb5, ht5⟩ := m5.below (B := W1.heap.size) hsz4 HT4.out
            have hB5 : Below W1.heap.size W1 w5 := (HB4.out.trans (hbq.mono hsz4)).trans hb5
            obtain ⟨A5, cap5, rfl, _, _, _⟩ := r5.form
            have s4 := (hB5.cell lbx).trans f4
            have s6 := (hB5.cell lbx).trans f6
            have s7 := (hB5.cell lbx).trans f7
            have lb5 : bx < w5.heap.size := World.block_lt_of_cell? w5 _ s4
            obtain ⟨eM2, eA2⟩ := ag_adv2 (c := c) HOK.out k (now + y - 1) y (now + y) I5.out (by omega) (by omega) n0 (by omega)
            have HZ := hide (rep_step (hedge0 x c HOK.out.sa) h5 I5.out (by omega) (.inr (by show 0 < (k : Int) + 1; omega)) (by show (0 : Int) ≤ _; omega) ⟨6, 0, 0, 0, 0, false, 0, now + y⟩ ⟨(show (Lit.int .i64 0).wf = true by decide), (show (Lit.int .i64 0).wf = true by decide), Int.le_refl _⟩)
            rw [eM2, eA2] at HZ
            have I6 : Hid (Inv (3 * (k : Int) + 1) (agS c ((k : Int) + 1) (now + y) y)) := by
              have h9 := inv_step I5.out ⟨6, 0, 0, 0, 0, false, 0, now + y⟩
              rw [eM2] at h9
              exact h9
            unfold evV at HZ
            dsimp only at HZ
            have HB5 := hide hB5
            have HT5 := hide ht5
            have hsz5 := hB5.size
            clear r5 h5 m5 t5 hb5 hB5 ht5 HY eM2 eA2 hbq I5 p4 p6 p7
            simp only [List.length_nil]
            go_wp2_with fail
            rw [← hyv]
            refine HZ.out.mono ?_
            rintro e w6 ⟨v6, V6, rfl, r6, h6, m6, t6⟩
            obtain ⟨hb6, ht6⟩ := m6.below (B := W1.heap.size) hsz5 HT5.out
            have hB6 : Below W1.heap.size W1 w6 := HB5.out.trans hb6
            have HR6 := hide (r6.base hsz5)
            have H6 := hide h6
            have HB6 := hide hB6
            have HT6 := hide ht6
            have hy49 : 0 ≤ now + y ∧ now + y ≤ 49 * ((k : Int) + 1 - 1) := by omega
            have hyb : c.base ≤ y ∧ y ≤ c.most := by omega
            have HY49 := hide hy49
            have HYB := hide hyb
            clear r6 h6 m6 t6 hb6 hB6 ht6 HZ HB5 HT5 s4 s6 s7 hy49 hyb
            subst hyv
            go_wp2_with fail
            go_roundg (c.attempts - ((k : Int) + 1)).toNat
            case measure => omega
            case rel => exact ⟨(k : Int) + 1, _, _, V6, rfl, rfl, rfl, rfl, by omega, by omega, HYB.out.1, HYB.out.2, HY49.out.1, HY49.out.2, H6.out, I6.out.mono (by omega), HT6.out, HB6.out, HR6.out⟩

      · have hp' : ¬ ((k : Int) % 2) = 0 := by omega
        go_wp2_with fail
        have hd0 : 0 ≤ (k : Int) := by omega
        have hd1 : (k : Int) ≤ 18446744073709551615 := by omega
        by_cases hlast : (k : Int) = c.attempts
        · have HX := hide (HST.out 3 (k : Int) hd0)
          rw [show stepA (agS c k now last) ⟨3, 0, k, 0, 0, false, (k : Int), 0⟩ = [⟨3, 1, 0, 2, 0, 0⟩] by rw [hlast]; exact ag_last _ _ _ _ (.inl rfl)] at HX
          unfold evV at HX
          dsimp only at HX
          refine HX.out.mono ?_
          rintro e w4 ⟨v4, V4, rfl, r4, h4, m4, t4⟩
          obtain ⟨hb4, _⟩ := m4.below (B := W1.heap.size) HBB.out.size HTT.out
          have hB4 := HBB.out.trans hb4
          obtain ⟨g4, cap4, rfl, _⟩ := r4.at (by simp)
          have q0 := (r4.cell encAct_len (g := g4) (i := 0) (j := 0) rfl (by simp) rfl).1
          have q1 := (r4.cell encAct_len (g := g4) (i := 0) (j := 1) rfl (by simp) rfl).1
          have q2 := (r4.cell encAct_len (g := g4) (i := 0) (j := 2) rfl (by simp) rfl).1
          have q3 := (r4.cell encAct_len (g := g4) (i := 0) (j := 3) rfl (by simp) rfl).1
          have q4 := (r4.cell encAct_len (g := g4) (i := 0) (j := 4) rfl (by simp) rfl).1
          have q5 := (r4.cell encAct_len (g := g4) (i := 0) (j := 5) rfl (by simp) rfl).1
          simp only [Nat.zero_mul, Nat.zero_add] at q0 q1 q2 q3 q4 q5
          have p4 := (hB4.cell lbx).trans f4
          have lg4 : g4 < w4.heap.size := World.block_lt_of_cell? w4 _ q0
          have lb4 : bx < w4.heap.size := World.block_lt_of_cell? w4 _ p4
          have HEND := hide (HbW.out.trans (hB4.mono HbW.out.size))
          clear HX r4 h4 m4 t4 hb4 hB4 HST HDS c0 c1 c2 c3 c4 c5 ko4 ko6 ko7
          go_wp2_with fail
          go_ret
          exact ⟨rfl, HEND.out⟩
        · have hlt : (k : Int) < c.attempts := by omega
          obtain ⟨r, hr⟩ : ∃ r, (k : Int) % (3 * last - c.base + 1) = r := ⟨_, rfl⟩
          have hr0 : 0 ≤ r := by rw [← hr]; exact Int.emod_nonneg _ (by omega)
          have hr1 : r < 3 * last - c.base + 1 := by rw [← hr]; exact Int.emod_lt_of_pos _ (by omega)
          obtain ⟨y, hy⟩ : ∃ y, waitP c.base c.most last (k : Int) = y := ⟨_, rfl⟩
          have hyr : y = min (c.base + r) c.most := by rw [← hy]; unfold waitP; rw [hr]
          have hd' : ¬ 10000 ≤ now + waitP c.base c.most last (k : Int) := by rw [hy]; omega
          have u1 : IntKind.u64.wrap (3 * last - c.base + 1) = 3 * last - c.base + 1 := by rw [IntKind.wrap_u64]; omega
          have u2 : ((k : Int)).tmod (3 * last - c.base + 1) = r := by rw [Int.tmod_eq_emod_of_nonneg hd0]; exact hr
          have u3 : ¬ (3 * last - c.base + 1 = 0) := by omega
          have HX := hide (HST.out 3 (k : Int) hd0)
          obtain ⟨eM, eA⟩ := ag_more (c := c) 3 k now last (k : Int) (.inl rfl) hlt hd'
          rw [eM, eA, hy] at HX
          have I4 : Hid (Inv (3 * (k : Int) - 1) (agW c k now y (now + y))) := by
            have h9 := inv_step HII.out ⟨3, 0, k, 0, 0, false, (k : Int), 0⟩
            rw [eM, hy] at h9
            exact h9.mono (by omega)
          unfold evV at HX
          dsimp only at HX
          clear eM eA hd' hy HST HDS
          refine HX.out.mono ?_
          rintro e w4 ⟨v4, V4, rfl, r4, h4, m4, t4⟩
          obtain ⟨hb4, ht4⟩ := m4.below (B := W1.heap.size) HBB.out.size HTT.out
          have hB4 := HBB.out.trans hb4
          obtain ⟨A4, cap4, rfl, _, _, _⟩ := r4.form
          have p4 := (hB4.cell lbx).trans f4
          have p6 := (hB4.cell lbx).trans f6
          have p7 := (hB4.cell lbx).trans f7
          have lb4 : bx < w4.heap.size := World.block_lt_of_cell? w4 _ p4
          obtain ⟨eM1, eA1⟩ := ag_adv1 (c := c) HOK.out k now y (now + y) (now + y - 1) (by omega) (by omega) (by omega)
          have HY := hide (fun nq => rep_step (hedge0 x c HOK.out.sa) (h4.on (below_drewN w4 nq)) I4.out (by omega) (.inr (by show 0 < (k : Int) + 1; omega)) (by show (0 : Int) ≤ _; omega) ⟨6, 0, 0, 0, 0, false, 0, now + y - 1⟩ ⟨(show (Lit.int .i64 0).wf = true by decide), (show (Lit.int .i64 0).wf = true by decide), Int.le_refl _⟩)
          rw [eM1, eA1] at HY
          have I5 : Hid (Inv (3 * (k : Int)) (agW c k (now + y - 1) y (now + y))) := by
            have h9 := inv_step I4.out ⟨6, 0, 0, 0, 0, false, 0, now + y - 1⟩
            rw [eM1] at h9
            exact h9.mono (by omega)
          unfold evV at HY
          dsimp only at HY
          have HB4 := hide hB4
          have HT4 := hide ht4
          have hsz4 := hB4.size
          clear r4 h4 m4 t4 hb4 hB4 ht4 HX c0 c1 c2 c3 c4 c5 ko4 ko6 ko7 eM1 eA1 hr I4
          simp only [List.length_nil]
          by_cases hgt : c.most < c.base + r
          · have hyv : y = c.most := by omega
            clear hyr
            go_wp2_with fail
            go_quiet (fail)
            go_wp2_with fail
            rw [← hyv]
            refine (HY.out _).mono ?_
            rintro e w5 ⟨v5, V5, rfl, r5, h5, m5, t5⟩
            have hbq := below_drewN w4 nq
            obtain ⟨hb5, ht5⟩ := m5.below (B := W1.heap.size) hsz4 HT4.out
            have hB5 : Below W1.heap.size W1 w5 := (HB4.out.trans (hbq.mono hsz4)).trans hb5
            obtain ⟨A5, cap5, rfl, _, _, _⟩ := r5.form
            have s4 := (hB5.cell lbx).trans f4
            have s6 := (hB5.cell lbx).trans f6
            have s7 := (hB5.cell lbx).trans f7
            have lb5 : bx < w5.heap.size := World.block_lt_of_cell? w5 _ s4
            obtain ⟨eM2, eA2⟩ := ag_adv2 (c := c) HOK.out k (now + y - 1) y (now + y) I5.out (by omega) (by omega) n0 (by omega)
            have HZ := hide (rep_step (hedge0 x c HOK.out.sa) h5 I5.out (by omega) (.inr (by show 0 < (k : Int) + 1; omega)) (by show (0 : Int) ≤ _; omega) ⟨6, 0, 0, 0, 0, false, 0, now + y⟩ ⟨(show (Lit.int .i64 0).wf = true by decide), (show (Lit.int .i64 0).wf = true by decide), Int.le_refl _⟩)
            rw [eM2, eA2] at HZ
            have I6 : Hid (Inv (3 * (k : Int) + 1) (agS c ((k : Int) + 1) (now + y) y)) := by
              have h9 := inv_step I5.out ⟨6, 0, 0, 0, 0, false, 0, now + y⟩
              rw [eM2] at h9
              exact h9
            unfold evV at HZ
            dsimp only at HZ
            have HB5 := hide hB5
            have HT5 := hide ht5
            have hsz5 := hB5.size
            clear r5 h5 m5 t5 hb5 hB5 ht5 HY eM2 eA2 hbq I5 p4 p6 p7
            simp only [List.length_nil]
            go_wp2_with fail
            rw [← hyv]
            refine HZ.out.mono ?_
            rintro e w6 ⟨v6, V6, rfl, r6, h6, m6, t6⟩
            obtain ⟨hb6, ht6⟩ := m6.below (B := W1.heap.size) hsz5 HT5.out
            have hB6 : Below W1.heap.size W1 w6 := HB5.out.trans hb6
            have HR6 := hide (r6.base hsz5)
            have H6 := hide h6
            have HB6 := hide hB6
            have HT6 := hide ht6
            have hy49 : 0 ≤ now + y ∧ now + y ≤ 49 * ((k : Int) + 1 - 1) := by omega
            have hyb : c.base ≤ y ∧ y ≤ c.most := by omega
            have HY49 := hide hy49
            have HYB := hide hyb
            clear r6 h6 m6 t6 hb6 hB6 ht6 HZ HB5 HT5 s4 s6 s7 hy49 hyb
            subst hyv
            go_wp2_with fail
            go_roundg (c.attempts - ((k : Int) + 1)).toNat
            case measure => omega
            case rel => exact ⟨(k : Int) + 1, _, _, V6, rfl, rfl, rfl, rfl, by omega, by omega, HYB.out.1, HYB.out.2, HY49.out.1, HY49.out.2, H6.out, I6.out.mono (by omega), HT6.out, HB6.out, HR6.out⟩
          · have hyv : y = c.base + r := by omega
            clear hyr
            go_wp2_with fail
            go_quiet (fail)
            go_wp2_with fail
            rw [← hyv]
            refine (HY.out _).mono ?_
            rintro e w5 ⟨v5, V5, rfl, r5, h5, m5, t5⟩
            have hbq := below_drewN w4 nq
            obtain ⟨hb5, ht5⟩ := m5.below (B := W1.heap.size) hsz4 HT4.out
            have hB5 : Below W1.heap.size W1 w5 := (HB4.out.trans (hbq.mono hsz4)).trans hb5
            obtain ⟨A5, cap5, rfl, _, _, _⟩ := r5.form
            have s4 := (hB5.cell lbx).trans f4
            have s6 := (hB5.cell lbx).trans f6
            have s7 := (hB5.cell lbx).trans f7
            have lb5 : bx < w5.heap.size := World.block_lt_of_cell? w5 _ s4
            obtain ⟨eM2, eA2⟩ := ag_adv2 (c := c) HOK.out k (now + y - 1) y (now + y) I5.out (by omega) (by omega) n0 (by omega)
            have HZ := hide (rep_step (hedge0 x c HOK.out.sa) h5 I5.out (by omega) (.inr (by show 0 < (k : Int) + 1; omega)) (by show (0 : Int) ≤ _; omega) ⟨6, 0, 0, 0, 0, false, 0, now + y⟩ ⟨(show (Lit.int .i64 0).wf = true by decide), (show (Lit.int .i64 0).wf = true by decide), Int.le_refl _⟩)
            rw [eM2, eA2] at HZ
            have I6 : Hid (Inv (3 * (k : Int) + 1) (agS c ((k : Int) + 1) (now + y) y)) := by
              have h9 := inv_step I5.out ⟨6, 0, 0, 0, 0, false, 0, now + y⟩
              rw [eM2] at h9
              exact h9
            unfold evV at HZ
            dsimp only at HZ
            have HB5 := hide hB5
            have HT5 := hide ht5
            have hsz5 := hB5.size
            clear r5 h5 m5 t5 hb5 hB5 ht5 HY eM2 eA2 hbq I5 p4 p6 p7
            simp only [List.length_nil]
            go_wp2_with fail
            rw [← hyv]
            refine HZ.out.mono ?_
            rintro e w6 ⟨v6, V6, rfl, r6, h6, m6, t6⟩
            obtain ⟨hb6, ht6⟩ := m6.below (B := W1.heap.size) hsz5 HT5.out
            have hB6 : Below W1.heap.size W1 w6 := HB5.out.trans hb6
            have HR6 := hide (r6.base hsz5)
            have H6 := hide h6
            have HB6 := hide hB6
            have HT6 := hide ht6
            have hy49 : 0 ≤ now + y ∧ now + y ≤ 49 * ((k : Int) + 1 - 1) := by omega
            have hyb : c.base ≤ y ∧ y ≤ c.most := by omega
            have HY49 := hide hy49
            have HYB := hide hyb
            clear r6 h6 m6 t6 hb6 hB6 ht6 HZ HB5 HT5 s4 s6 s7 hy49 hyb
            subst hyv
            go_wp2_with fail
            go_roundg (c.attempts - ((k : Int) + 1)).toNat
            case measure => omega
            case rel => exact ⟨(k : Int) + 1, _, _, V6, rfl, rfl, rfl, rfl, by omega, by omega, HYB.out.1, HYB.out.2, HY49.out.1, HY49.out.2, H6.out, I6.out.mono (by omega), HT6.out, HB6.out, HR6.out⟩

end Go.Proofs.YtlccfpbbdgpjbaaGreatDoor
