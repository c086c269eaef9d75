import Derived.Test.YtlccfpbbdgpjbaaGreatDoorRAdvWalk
import Derived.Test.YtlccfpbbdgpjbaaGreatDoorRGood
import Derived.Lib.AppendZeros
namespace Go.Proofs.YtlccfpbbdgpjbaaGreatDoor
open Go.RowKit

/-- In the midst of Step: the event lies in the block B, the attempt that was found in the block X. -/
structure StepMid (p : Nat) (V : V6) (w : World) (r0 : St) (V0 : V6) (B X : Nat) (e : PEv) (a : RAtt) (wx : World) : Prop where
  rep : Rep wx p r0 V0
  mv : Mv p V w V0 wx
  noB : ¬ own p V0 B
  noX : ¬ own p V0 X
  evb : wx.heap[B]? = some (.cells (encEv e) 39 (0, 0))
  xa : wx.heap[X]? = some (.cells (encAtt a).toArray 154 (0, 0))
theorem StepMid.on {p : Nat} {V : V6} {w : World} {r0 : St} {V0 : V6} {B X : Nat} {e : PEv} {a : RAtt} {wx wy : World} (h : StepMid p V w r0 V0 B X e a wx) (hb : Below wx.heap.size wx wy) : StepMid p V w r0 V0 B X e a wy :=
  ⟨h.rep.on hb, h.mv.trans (Mv.of_below hb), h.noB, h.noX, (hb.block B (Array.getElem?_eq_some_iff.1 h.evb).1).trans h.evb, (hb.block X (Array.getElem?_eq_some_iff.1 h.xa).1).trans h.xa⟩
theorem StepMid.step {p : Nat} {V : V6} {w : World} {r0 r1 : St} {V0 V1 : V6} {B X : Nat} {e : PEv} {a : RAtt} {wx wy : World} (h : StepMid p V w r0 V0 B X e a wx) (r : Rep wy p r1 V1) (m : Mv p V0 wx V1 wy) : StepMid p V w r1 V1 B X e a wy :=
  ⟨r, h.mv.trans m, fun ho => (m.news B ho).elim h.noB (fun h' => absurd (Array.getElem?_eq_some_iff.1 h.evb).1 (Nat.not_lt.2 h')), fun ho => (m.news X ho).elim h.noX (fun h' => absurd (Array.getElem?_eq_some_iff.1 h.xa).1 (Nat.not_lt.2 h')),
    (m.block B (Array.getElem?_eq_some_iff.1 h.evb).1 h.noB).trans h.evb, (m.block X (Array.getElem?_eq_some_iff.1 h.xa).1 h.noX).trans h.xa⟩
theorem StepMid.ec {p : Nat} {V : V6} {w : World} {r0 : St} {V0 : V6} {B X : Nat} {e : PEv} {a : RAtt} {wx : World} (h : StepMid p V w r0 V0 B X e a wx) (j : Nat) {u : Value} (hu : (encEv e)[j]? = some u) : wx.cell? ⟨B, j, none⟩ = some u := by
  rw [cell_of_row wx B j (encEv e) 39 (0, 0) h.evb]
  exact hu
theorem StepMid.xc {p : Nat} {V : V6} {w : World} {r0 : St} {V0 : V6} {B X : Nat} {e : PEv} {a : RAtt} {wx : World} (h : StepMid p V w r0 V0 B X e a wx) (j : Nat) {u : Value} (hu : (encAtt a)[j]? = some u) : wx.cell? ⟨X, j, none⟩ = some u := by
  rw [cell_of_row wx X j (encAtt a).toArray 154 (0, 0) h.xa]
  simpa using hu

/-- All blocks of its own stay. -/
theorem Rep.keep {w w' : World} {p : Nat} {s : St} {V : V6} (h : Rep w p s V) (hk : ∀ k, own p V k → w'.heap[k]? = w.heap[k]?) : Rep w' p s V := by
  have hp : w'.heap[p]? = w.heap[p]? := hk p ⟨0, rfl⟩
  have hc : ∀ j u, w.cell? ⟨p, j, none⟩ = some u → w'.cell? ⟨p, j, none⟩ = some u := fun j u hu => (World.cell?_of_block (a := ⟨p, j, none⟩) hp).trans hu
  exact ⟨hc _ _ h.k0, hc _ _ h.k1, hc _ _ h.k2, hc _ _ h.k3, hc _ _ h.k4, hc _ _ h.k5, hc _ _ h.k6, hc _ _ h.k7, hc _ _ h.k8, hc _ _ h.k9, hc _ _ h.kN, hc _ _ h.kB, hc _ _ h.kL, hc _ _ h.kc, hc _ _ h.ka, hc _ _ h.kt, hc _ _ h.ku, hc _ _ h.km, hc _ _ h.ko,
    fun j hj => (World.frozen?_of_block (a := ⟨p, j, none⟩) hp).trans (h.fz j hj), h.rc.same (fun k e => hk k ⟨1, e⟩), h.ra.same (fun k e => hk k ⟨2, e⟩), h.rt.same (fun k e => hk k ⟨3, e⟩), h.ru.same (fun k e => hk k ⟨4, e⟩), h.rm.same (fun k e => hk k ⟨5, e⟩), h.ro.same (fun k e => hk k ⟨6, e⟩), h.ap⟩

/-- The attempt that was found is written down. -/
theorem StepMid.put {p : Nat} {V : V6} {w : World} {r0 : St} {V0 : V6} {B X : Nat} {e : PEv} {a : RAtt} {wx : World} (h : StepMid p V w r0 V0 B X e a wx) (hX : w.heap.size ≤ X) (hBX : B ≠ X) (b : RAtt) :
    StepMid p V w r0 V0 B X e b (((wx.setCell ⟨X, 0, none⟩ (.int .i64 b.number)).setCell ⟨X, 1, none⟩ (.int .i64 b.call)).setCell ⟨X, 2, none⟩ (.int .i64 b.at_)) := by
  have hk : ∀ k, k ≠ X → (((wx.setCell ⟨X, 0, none⟩ (.int .i64 b.number)).setCell ⟨X, 1, none⟩ (.int .i64 b.call)).setCell ⟨X, 2, none⟩ (.int .i64 b.at_)).heap[k]? = wx.heap[k]? := fun k hk => by
    rw [Below.heap_setCell _ _ _ _ hk, Below.heap_setCell _ _ _ _ hk, Below.heap_setCell _ _ _ _ hk]
  refine ⟨h.rep.keep (fun k ho => hk k (fun e => h.noX (by rw [← e]; exact ho))), ⟨h.mv.os, h.mv.tape, h.mv.output, by simpa using h.mv.size, fun k hkl hn => (hk k (by omega)).trans (h.mv.block k hkl hn), h.mv.news⟩, h.noB, h.noX, (hk B hBX).trans h.evb, ?_⟩
  have hx := h.xa
  simp [World.setCell, Array.getElem?_modify, hx, encAtt]

theorem attLast_snoc (n : Int) (l : List RAtt) (k : Nat) (h : k < l.length) : attLast n (l.take (k + 1)) = if l[k].number = n then l[k] else attLast n (l.take k) := by
  unfold attLast
  rw [List.take_succ_eq_append_getElem h, List.foldl_append]
  rfl

set_option maxRecDepth 100000 in
set_option maxHeartbeats 16000000 in
theorem rstep_any {N M : Int} (p : Nat) (s : PSt) (r : St) (V : V6) (w : World) (h : Rep w p r V) (hS : Sim N s r) (hI : Inv M s) (hN : N ≤ 65000) (hM : M ≤ 65000) (hst : s.stale ≤ 1000000000) (e : PEv) (hd0 : 0 ≤ e.draw) (hd1 : e.draw ≤ 18446744073709551615) :
    Calls Tryz.prog 52 #[.pointer (some ⟨p, 0, none⟩), .agg (encEv e)] w fun ev w' => ∃ V', ev = .returned V'.o ∧ Rep w' p (stepR r e) V' ∧ Mv p V w V' w' := by
  have lp := h.lp
  have hz0 : (w.alloc (.cells (encEv e) 39)).frozen? ⟨p, 18, none⟩ = false := by rw [World.frozen?_alloc_old _ _ _ (by simp; omega)]; exact h.fz 18 (by omega)
  have ko : (w.alloc (.cells (encEv e) 39)).cell? ⟨p, 18, none⟩ = some V.o := (World.cell?_alloc_lt _ _ _ lp).trans h.ko
  have hne : w.heap.size ≠ p := by omega
  -- the client without actions
  have h1 := h.set_o (v := .slice none 0 0) (xs := []) (w' := w.setCell ⟨p, 18, none⟩ (.slice none 0 0)) ((Fr.store _).weak) (World.cell?_setCell_same _ _ _ h.ko) (Row.nil _ _ _ _ _) (.inr (fun g hg => by simp [Value.ownBlock] at hg))
  obtain ⟨V0, hV0⟩ : ∃ V0, V0 = ({ V with o := .slice none 0 0 } : V6) := ⟨_, rfl⟩
  rw [← hV0] at h1
  obtain ⟨r0, hr0⟩ : ∃ r0, r0 = ({ r with out := [] } : St) := ⟨_, rfl⟩
  rw [← hr0] at h1
  have hS0 : Sim N s r0 := by rw [hr0]; exact hS.clear []
  have ho0 : r0.out = [] := by rw [hr0]
  have hstep : stepR r e = stepR0 r0 e := by rw [hr0]; rfl
  rw [hstep]
  have hnb : ∀ k, w.heap.size ≤ k → ¬ own p V k := fun k hk ⟨j, hj⟩ => by have := h.lt j _ hj; omega
  have hnb0 : ∀ k, w.heap.size ≤ k → ¬ own p V0 k := fun k hk ⟨j, hj⟩ => by
    rw [hV0] at hj
    by_cases e6 : j = 6
    · subst e6
      simp [blk, Value.ownBlock] at hj
    · refine hnb k hk ⟨j, ?_⟩
      match j, e6 with
      | 0, _ => exact hj
      | 1, _ => exact hj
      | 2, _ => exact hj
      | 3, _ => exact hj
      | 4, _ => exact hj
      | 5, _ => exact hj
      | 6, e6 => exact absurd rfl e6
      | n + 7, _ => exact hj
  have hMid : StepMid p V w r0 V0 w.heap.size (w.heap.size + 1) e ⟨0, 0, 0⟩ (((w.setCell ⟨p, 18, none⟩ (.slice none 0 0)).alloc (.cells (encEv e) 39)).alloc (.cells #[.int .i64 0, .int .i64 0, .int .i64 0] 154)) := by
    have hb1 := (Below.refl (w.setCell ⟨p, 18, none⟩ (.slice none 0 0)).heap.size (w.setCell ⟨p, 18, none⟩ (.slice none 0 0))).alloc (Nat.le_refl _) (.cells (encEv e) 39)
    have hb2 := (Below.refl ((w.setCell ⟨p, 18, none⟩ (.slice none 0 0)).alloc (.cells (encEv e) 39)).heap.size ((w.setCell ⟨p, 18, none⟩ (.slice none 0 0)).alloc (.cells (encEv e) 39))).alloc (Nat.le_refl _) (.cells #[.int .i64 0, .int .i64 0, .int .i64 0] 154)
    refine ⟨(h1.1.on hb1).on hb2, (h1.2.trans (Mv.of_below hb1)).trans (Mv.of_below hb2), hnb0 _ (Nat.le_refl _), hnb0 _ (by omega), ?_, ?_⟩
    · rw [hb2.block w.heap.size (by simp)]
      have h9 := heap_alloc_new (w.setCell ⟨p, 18, none⟩ (.slice none 0 0)) (.cells (encEv e) 39)
      simpa using h9
    · have h9 := heap_alloc_new ((w.setCell ⟨p, 18, none⟩ (.slice none 0 0)).alloc (.cells (encEv e) 39)) (.cells #[.int .i64 0, .int .i64 0, .int .i64 0] 154)
      show _ = some (Obj.cells #[.int .i64 0, .int .i64 0, .int .i64 0] 154 (0, 0))
      simpa using h9
  clear h1 hr0 hV0 hnb hnb0 hS hstep h
  obtain ⟨ek, ec, ea, ev, et, es, ed, eto⟩ := e
  have HM := hide hMid
  unfold encEv at hz0 ko HM ⊢
  dsimp only at hz0 ko HM hd0 hd1 ⊢
  clear hMid
  go_enter Tryz.func52, Tryz.ntmps52
  go_wp2_with fail
  generalize (((w.setCell ⟨p, 18, none⟩ (.slice none 0 0)).alloc (.cells #[.int .i64 ek, .int .i64 ec, .int .i64 ea, .int .i64 ev, .int .i64 et, .bool es, .int .u64 ed, .int .i64 eto] 39)).alloc (.cells #[.int .i64 0, .int .i64 0, .int .i64 0] 154)) = W0 at HM ⊢
  have lx : w.heap.size + 1 < W0.heap.size := (Array.getElem?_eq_some_iff.1 HM.out.xa).1
  generalize hB : w.heap.size = B at HM lx hne ⊢
  generalize hE : ({ kind := ek, call := ec, attempt := ea, value := ev, timeout := et, safe := es, draw := ed, to_ := eto } : PEv) = E at HM ⊢
  have hal : r0.atts.length ≤ 10000000 := by have := hI.aN; have h9 : r0.atts.length = s.atts.length := by rw [hS0.atts, List.length_map]
                                             omega
  have hal' : (r0.atts.length : Int) ≤ 10000000 := by omega
  have HS := hide hS0
  have HI := hide hI
  have HE := hide hE
  clear hS0 hI hz0 ko hE
  go_loopg [6] r0.atts.length (fun gi v6 wx => ∃ k : Nat, k ≤ r0.atts.length ∧ gi = r0.atts.length - k ∧ v6 = .int .i64 k ∧ StepMid p V w r0 V0 B (B + 1) E (attLast ea (r0.atts.take k)) wx)
  case atStart => exact ⟨0, Nat.zero_le _, rfl, rfl, HM.out⟩
  case round =>
    obtain ⟨k, hk, hgi, rfl, hm⟩ := hrel
    rename World => wy
    obtain ⟨A, cap, hA, _, hA1, hA2⟩ := hm.rep.ra.form
    have ka : wy.cell? ⟨p, 12, none⟩ = some (.slice A r0.atts.length cap) := by rw [← hA]; exact hm.rep.ka
    have ca : wy.cell? ⟨B, 2, none⟩ = some (.int .i64 ea) := hm.ec 2 (by rw [← HE.out]; rfl)
    have lpy := hm.rep.lp
    by_cases hlt : (k : Int) < (r0.atts.length : Int)
    · have hkl : k < r0.atts.length := by omega
      obtain ⟨g, rfl⟩ := hA1 k hkl
      have hg : V0.a.ownBlock = some g := by rw [hA]; rfl
      have e0 := (hm.rep.ra.cell encAtt_len hg hkl (j := 0) rfl).1
      have e1 := (hm.rep.ra.cell encAtt_len hg hkl (j := 1) rfl).1
      have e2 := (hm.rep.ra.cell encAtt_len hg hkl (j := 2) rfl).1
      rw [Nat.add_zero] at e0
      have HSN := hide (attLast_snoc ea r0.atts k hkl)
      generalize r0.atts[k] = a at e0 e1 e2 HSN
      obtain ⟨an, ac, aa⟩ := a
      dsimp only at e0 e1 e2
      have HMM : Hid (∀ wz, Below wy.heap.size wy wz → StepMid p V w r0 V0 B (B + 1) E (attLast ea (r0.atts.take k)) wz) := fun wz hb => hm.on hb
      by_cases c : an = ea
      · have c' : (an == ea) = true := by simpa using c
        have x0 := hm.xc 0 rfl
        have x1 := hm.xc 1 rfl
        have x2 := hm.xc 2 rfl
        have hxg : B + 1 ≠ g := fun e => hm.noX ⟨2, by rw [e]; exact hg⟩
        have fx : ∀ j, wy.frozen? ⟨B + 1, j, none⟩ = false := fun j => by
          unfold World.frozen?
          dsimp only
          rw [hm.xa]
          simp
        have HXA := hide hm.xa
        have HMV := hide hm
        clear hm hA hA1 hA2
        go_wp2_with fail
        go_quiet (fail)
        obtain ⟨wq, hwq⟩ : ∃ wq, wq = wy.drewN nq := ⟨_, rfl⟩
        rw [← hwq]
        have f0 : wq.frozen? ⟨B + 1, 0, none⟩ = false := by rw [hwq]; exact fx 0
        have f1 : wq.frozen? ⟨B + 1, 1, none⟩ = false := by rw [hwq]; exact fx 1
        have f2 : wq.frozen? ⟨B + 1, 2, none⟩ = false := by rw [hwq]; exact fx 2
        have ka' : wq.cell? ⟨p, 12, none⟩ = some (.slice (some ⟨g, 0, none⟩) r0.atts.length cap) := by rw [hwq]; exact ka
        have e0' : wq.cell? ⟨g, k * 3, none⟩ = some (.int .i64 an) := by rw [hwq]; exact e0
        have e1' : wq.cell? ⟨g, k * 3 + 1, none⟩ = some (.int .i64 ac) := by rw [hwq]; exact e1
        have e2' : wq.cell? ⟨g, k * 3 + 2, none⟩ = some (.int .i64 aa) := by rw [hwq]; exact e2
        have x0' : wq.cell? ⟨B + 1, 0, none⟩ = some (.int .i64 (attLast ea (r0.atts.take k)).number) := by rw [hwq]; exact x0
        have x1' : wq.cell? ⟨B + 1, 1, none⟩ = some (.int .i64 (attLast ea (r0.atts.take k)).call) := by rw [hwq]; exact x1
        have x2' : wq.cell? ⟨B + 1, 2, none⟩ = some (.int .i64 (attLast ea (r0.atts.take k)).at_) := by rw [hwq]; exact x2
        have HMQ := hide (HMM.out wq (by rw [hwq]; exact below_drewN _ _))
        clear ka e0 e1 e2 x0 x1 x2 fx hwq HMM HXA HMV
        have HS9 : Hid (attLast ea (r0.atts.take (k + 1)) = ⟨an, ac, aa⟩) := by show _ = _; rw [HSN.out, if_pos c]
        clear HSN
        obtain rfl := c
        go_wp2_with fail
        go_roundg (r0.atts.length - (k + 1))
        case measure => omega
        case rel => exact ⟨k + 1, by omega, rfl, by go_num, by rw [HS9.out]; exact HMQ.out.put (by omega) (by omega) ⟨an, ac, aa⟩⟩
      · have c' : (an == ea) = false := by simpa using c
        clear hm hA hA1 hA2
        go_wp2_with fail
        go_quiet (fail)
        go_wp2_with fail
        go_roundg (r0.atts.length - (k + 1))
        case measure => omega
        case rel => exact ⟨k + 1, by omega, rfl, by go_num, by rw [HSN.out, if_neg c]; exact HMM.out _ (below_drewN _ _)⟩
    · have hkn : k = r0.atts.length := by omega
      subst hkn
      rw [List.take_of_length_le (Nat.le_refl _)] at hm
      obtain ⟨la, hla⟩ : ∃ la, attLast ea r0.atts = la := ⟨_, rfl⟩
      rw [hla] at hm
      obtain ⟨xn, xc, xa⟩ := la
      have HLA := hide hla
      clear hla hA hA1 hA2 HM
      have hcl : r0.calls.length ≤ 1000 := by
        have h1 := HI.out.cl
        have h2 := HI.out.cfg.f1
        have h9 : r0.calls.length = s.calls.length := by rw [HS.out.calls, List.length_map]
        omega
      have htl : r0.timers.length ≤ 10000000 := by
        have h1 := HI.out.tN
        have h9 : r0.timers.length = s.timers.length := by rw [HS.out.timers, List.length_map]
        omega
      have HF := hide (rep_find hm.rep (by omega) ec)
      obtain ⟨fi, hfi⟩ : ∃ fi, findI r0.calls ec = fi := ⟨_, rfl⟩
      rw [hfi] at HF
      have HFI := hide hfi
      have c0 : wy.cell? ⟨B, 0, none⟩ = some (.int .i64 ek) := hm.ec 0 (by rw [← HE.out]; rfl)
      have c1 : wy.cell? ⟨B, 1, none⟩ = some (.int .i64 ec) := hm.ec 1 (by rw [← HE.out]; rfl)
      have c3 : wy.cell? ⟨B, 3, none⟩ = some (.int .i64 ev) := hm.ec 3 (by rw [← HE.out]; rfl)
      have c4 : wy.cell? ⟨B, 4, none⟩ = some (.int .i64 et) := hm.ec 4 (by rw [← HE.out]; rfl)
      have c5 : wy.cell? ⟨B, 5, none⟩ = some (.bool es) := hm.ec 5 (by rw [← HE.out]; rfl)
      have c6 : wy.cell? ⟨B, 6, none⟩ = some (.int .u64 ed) := hm.ec 6 (by rw [← HE.out]; rfl)
      have c7 : wy.cell? ⟨B, 7, none⟩ = some (.int .i64 eto) := hm.ec 7 (by rw [← HE.out]; rfl)
      have x0 : wy.cell? ⟨B + 1, 0, none⟩ = some (.int .i64 xn) := hm.xc 0 rfl
      have x1 : wy.cell? ⟨B + 1, 1, none⟩ = some (.int .i64 xc) := hm.xc 1 rfl
      have x2 : wy.cell? ⟨B + 1, 2, none⟩ = some (.int .i64 xa) := hm.xc 2 rfl
      have kN : wy.cell? ⟨p, 10, none⟩ = some (.int .i64 r0.now) := hm.rep.kN
      have n0 : 0 ≤ r0.now := by rw [HS.out.now]; exact HI.out.n0
      have n1 : r0.now ≤ 1099511627776 := by rw [HS.out.now]; exact HI.out.n1
      have kL : wy.cell? ⟨p, 17, none⟩ = some (.int .i64 r0.stale) := hm.rep.kL
      have fL := hm.rep.fz 17 (by omega)
      have ko : wy.cell? ⟨p, 18, none⟩ = some V0.o := hm.rep.ko
      have sl0 : 0 ≤ r0.stale := by rw [HS.out.stale]; exact HI.out.z0
      have sl1 : r0.stale ≤ 1000000000 := by rw [HS.out.stale]; exact hst
      have HMM := hide hm
      clear hm hfi ca
      go_wp2_with fail
      refine HF.out.mono ?_
      rintro e9 w9 ⟨rfl, hw9⟩
      rw [hw9]
      clear hw9 w9 ka HF
      by_cases k1 : ek = 1
      · -- Submit
        have HR : Hid (stepR0 r0 E = submitS r0 E) := by show _ = _; unfold stepR0; rw [if_pos (by rw [← HE.out]; exact k1)]
        have HC : Hid (Calls Tryz.prog 81 #[.pointer (some ⟨p, 0, none⟩), .agg (encEv E)] wy fun ev w' => ev = .returned (.tuple #[]) ∧ Now p V0 wy (submitS r0 E) w') := by
          show Calls _ _ _ _ _
          unfold submitS
          have hlen := HI.out.lN
          have hl0 := HI.out.l0
          have hul := HS.out.ul
          by_cases c : whyS r0 E = 0
          · rw [if_pos c]
            exact submit_admit p r0 V0 wy HMM.out.rep E (by omega) (by omega) (by rw [ho0]; simp) (by omega) (by omega) HS.out.uo (by rw [HS.out.times]; exact HI.out.mt) (by rw [HS.out.times]; exact HI.out.mb) (by rw [HS.out.cfg]; exact HI.out.cfg.r0) (by rw [HS.out.cfg]; exact HI.out.cfg.r1) (by rw [HS.out.nums]; exact hl0) (by rw [HS.out.nums]; omega) n0 n1 (by rw [HS.out.cfg]; exact HI.out.cfg.p0) (by rw [HS.out.cfg]; exact HI.out.cfg.p1) (by rw [HS.out.cfg]; exact HI.out.cfg.d0) (by rw [HS.out.cfg]; exact HI.out.cfg.d1) c
          · rw [if_neg c]
            exact rsubmit_refuse p r0 V0 wy HMM.out.rep E (by omega) (by rw [ho0]; simp) n0 n1 c
        rw [show encEv E = #[.int .i64 ek, .int .i64 ec, .int .i64 ea, .int .i64 ev, .int .i64 et, .bool es, .int .u64 ed, .int .i64 eto] by rw [← HE.out]; rfl] at HC
        subst k1
        have ca : wy.cell? ⟨B, 2, none⟩ = some (.int .i64 ea) := HMM.out.ec 2 (by rw [← HE.out]; rfl)
        go_wp2_with fail
        refine HC.out.mono ?_
        rintro e9 w8 ⟨rfl, V8, r8, m8⟩
        have ko8 := r8.ko
        have HN8 := hide (show ∃ V', V8.o = V'.o ∧ Rep w8 p (stepR0 r0 E) V' ∧ Mv p V w V' w8 from ⟨V8, rfl, by rw [HR.out]; exact r8, HMM.out.mv.trans m8⟩)
        clear r8 m8 HC
        go_wp2_with fail
        go_ret
        obtain ⟨V', q1, q2⟩ := HN8.out
        exact ⟨V', by rw [← q1]; rfl, by rw [HE.out]; exact q2⟩
      · have k1' : (ek == 1) = false := by simpa using k1
        have HS' := HS
        have hlast : Hid (0 < xn → ∃ c, callOf s xc = some c ∧ 0 ≤ xa ∧ xa ≤ r0.now) := fun hx => by
          rcases HS.out.last HI.out ea with ⟨_, g2⟩ | ⟨a, g1, g2, g3⟩
          · rw [HLA.out] at g2
            have : xn = 0 := g2
            omega
          · rw [HLA.out] at g2
            have hxc : xc = a.call := by injection g2
            have hxa : xa = a.launched := by injection g2
            obtain ⟨_, _, b3, b4, c, hc, hn⟩ := HI.out.ab _ (List.mem_of_find?_eq_some g1)
            have hf := HI.out.find hc
            rw [show c.number = xc by rw [hxc]; exact hn] at hf
            exact ⟨c, hf, by rw [hxa]; exact b3, by rw [hxa, HS.out.now]; exact b4⟩
        by_cases hx : 0 < xn
        · have hx' : decide (0 < xn) = true := decide_eq_true hx
          obtain ⟨xcl, hxcl, xa0, xa1⟩ := hlast.out hx
          have HOC := hide (HS.out.openCall HI.out hxcl)
          have HCA := hide (HS.out.callAt hxcl)
          have HCM := hide (callOf_mem hxcl)
          clear hlast hxcl
          by_cases k2 : ek = 2
          · -- Ok
            have HR : Hid (stepR0 r0 E = endS (closeS { r0 with times := addR r0.times (r0.now - xa) } xn) xc 1 ev) := by
              show _ = _
              unfold stepR0
              rw [← HE.out]
              dsimp only
              rw [if_neg k1, HLA.out, if_pos ⟨k2, hx⟩]
            subst k2
            obtain ⟨i9, hi9, y0, y1, y2⟩ := info_parts Tryz.infoInt
            have tl : r0.times.length ≤ 32 := by rw [HS.out.times]; exact HI.out.mt
            go_upto_region 13 with fail
            go_cut [] (fun wx => ∃ V1, StepMid p V w { r0 with times := r0.times ++ [r0.now - xa] } V1 B (B + 1) E ⟨xn, xc, xa⟩ wx)
            case first =>
              have km : wy.cell? ⟨p, 16, none⟩ = some V0.m := HMM.out.rep.km
              have fm := HMM.out.rep.fz 16 (by omega)
              have lpy' := HMM.out.rep.lp
              have hvm : some p ≠ V0.m.ownBlock := fun e => HMM.out.rep.ap 5 0 (by decide) p e.symm rfl
              have hvX : some (B + 1) ≠ V0.m.ownBlock := fun e => HMM.out.noX ⟨5, e.symm⟩
              have lX : B + 1 < wy.heap.size := (Array.getElem?_eq_some_iff.1 HMM.out.xa).1
              have hnp : wy.heap.size ≠ p := by omega
              have hS : wy.drew.cell? ⟨p, 16, none⟩ = some V0.m ∧ wy.drew.cell? ⟨p, 10, none⟩ = some (.int .i64 r0.now) ∧ wy.drew.cell? ⟨B + 1, 2, none⟩ = some (.int .i64 xa) := ⟨by simpa using km, by simpa using kN, by simpa using x2⟩
              refine wp_region_lexK (fun w' => w'.cell? ⟨p, 16, none⟩ = some V0.m ∧ w'.cell? ⟨p, 10, none⟩ = some (.int .i64 r0.now) ∧ w'.cell? ⟨B + 1, 2, none⟩ = some (.int .i64 xa)) 16 (fun i => decide (i < 12)) (by kernel_rfl) (by kernel_rfl) (by kernel_rfl) ?_
              refine lexK_read (v := Value.pointer (some ⟨p, 0, none⟩)) rfl rfl (fun wz hSz => by obtain ⟨s1, s2, s3⟩ := hSz; go_simp) hS (fun _ _ _ h => h) ?_
              simp only [Act.put, List.setIfInBounds_toArray, List.set_cons_zero, List.set_cons_succ]
              refine lexK_read (v := Value.pointer (some ⟨p, 0, none⟩)) rfl rfl (fun wz hSz => by obtain ⟨s1, s2, s3⟩ := hSz; go_simp) hS (fun _ _ _ h => h) ?_
              simp only [Act.put, List.setIfInBounds_toArray, List.set_cons_zero, List.set_cons_succ]
              refine lexK_read (v := Value.pointer (some ⟨p, 0, none⟩)) rfl rfl (fun wz hSz => by obtain ⟨s1, s2, s3⟩ := hSz; go_simp) hS (fun _ _ _ h => h) ?_
              simp only [Act.put, List.setIfInBounds_toArray, List.set_cons_zero, List.set_cons_succ]
              refine lexK_read (v := Value.pointer (some ⟨p, 16, none⟩)) rfl rfl (fun wz hSz => by obtain ⟨s1, s2, s3⟩ := hSz; go_simp) hS (fun _ _ _ h => h) ?_
              simp only [Act.put, List.setIfInBounds_toArray, List.set_cons_zero, List.set_cons_succ]
              refine lexK_read (v := V0.m) rfl rfl (fun wz hSz => by obtain ⟨s1, s2, s3⟩ := hSz; go_simp) hS (fun _ _ _ h => h) ?_
              simp only [Act.put, List.setIfInBounds_toArray, List.set_cons_zero, List.set_cons_succ]
              refine lexK_read (v := Value.pointer (some ⟨p, 0, none⟩)) rfl rfl (fun wz hSz => by obtain ⟨s1, s2, s3⟩ := hSz; go_simp) hS (fun _ _ _ h => h) ?_
              simp only [Act.put, List.setIfInBounds_toArray, List.set_cons_zero, List.set_cons_succ]
              refine lexK_read (v := Value.pointer (some ⟨p, 0, none⟩)) rfl rfl (fun wz hSz => by obtain ⟨s1, s2, s3⟩ := hSz; go_simp) hS (fun _ _ _ h => h) ?_
              simp only [Act.put, List.setIfInBounds_toArray, List.set_cons_zero, List.set_cons_succ]
              refine lexK_read (v := Value.pointer (some ⟨p, 10, none⟩)) rfl rfl (fun wz hSz => by obtain ⟨s1, s2, s3⟩ := hSz; go_simp) hS (fun _ _ _ h => h) ?_
              simp only [Act.put, List.setIfInBounds_toArray, List.set_cons_zero, List.set_cons_succ]
              refine lexK_read (v := .int .i64 r0.now) rfl rfl (fun wz hSz => by obtain ⟨s1, s2, s3⟩ := hSz; go_simp) hS (fun _ _ _ h => h) ?_
              simp only [Act.put, List.setIfInBounds_toArray, List.set_cons_zero, List.set_cons_succ]
              refine lexK_read (v := Value.pointer (some ⟨B + 1, 2, none⟩)) rfl rfl (fun wz hSz => by obtain ⟨s1, s2, s3⟩ := hSz; go_simp) hS (fun _ _ _ h => h) ?_
              simp only [Act.put, List.setIfInBounds_toArray, List.set_cons_zero, List.set_cons_succ]
              refine lexK_read (v := .int .i64 xa) rfl rfl (fun wz hSz => by obtain ⟨s1, s2, s3⟩ := hSz; go_simp) hS (fun _ _ _ h => h) ?_
              simp only [Act.put, List.setIfInBounds_toArray, List.set_cons_zero, List.set_cons_succ]
              refine lexK_read (v := .int .i64 (r0.now - xa)) rfl rfl (fun wz hSz => by obtain ⟨s1, s2, s3⟩ := hSz; go_simp; exact wrap_small _ (by omega) (by omega)) hS (fun _ _ _ h => h) ?_
              simp only [Act.put, List.setIfInBounds_toArray, List.set_cons_zero, List.set_cons_succ]
              refine lexK_turn rfl rfl rfl ?_
              go_simp
              refine lexK_turn rfl rfl rfl ?_
              have hrowm : RowM ((wy.alloc (.cells #[.int .i64 (r0.now - xa)] 3)).drew) V0.m r0.times := HMM.out.rep.rm.same (fun k hk => by
                show (wy.alloc _).heap[k]? = _
                exact heap_alloc_old wy _ (HMM.out.rep.rm.lt k hk).2)
              obtain ⟨v9, w9, hrun, hrow9, hgrow, hat⟩ := hrowm.push Tryz.underlying45 hi9 y0 y1 y2 (by omega) (r0.now - xa) (B := wy.heap.size) (by simp) 45
              obtain ⟨A9, cap9, hv9, _, hA9⟩ := hrow9.form
              obtain ⟨g9, o9, rfl, _, _⟩ := hA9 0 (by simp)
              rw [show (r0.times ++ [r0.now - xa]).length = r0.times.length + 1 by simp] at hv9
              subst hv9
              clear hA9
              refine Lib.wp_append_run _ _ _ _ _ (by rfl) _ _ (by rfl) (by rfl) _ w9 hrun ?_
              have far : ∀ b j u, b < wy.heap.size → some b ≠ V0.m.ownBlock → wy.cell? ⟨b, j, none⟩ = some u → w9.cell? ⟨b, j, none⟩ = some u := fun b j u hb hv hu => by
                rw [hgrow.cell_far ⟨b, j, none⟩ (by simp; omega) hv]
                exact (World.cell?_alloc_lt _ _ ⟨b, j, none⟩ hb).trans hu
              have cz := far p 16 _ lpy' hvm km
              have cN := far p 10 _ lpy' hvm kN
              have cX := far (B + 1) 2 _ lX hvX x2
              have fz : w9.frozen? ⟨p, 16, none⟩ = false := by
                rw [hgrow.frozen_far _ (by simp; omega) hvm]
                exact (World.frozen?_alloc_old _ _ _ (by simp; omega)).trans fm
              refine ⟨.inr ⟨cz, cN, cX⟩, ?_⟩
              simp only [Act.put, List.setIfInBounds_toArray, List.set_cons_zero, List.set_cons_succ]
              have hvp9 : (Value.slice (some ⟨g9, o9, none⟩) (r0.times.length + 1) cap9).ownBlock ≠ some p := fun e => by
                rcases hat with h9 | h9
                · exact hvm (by rw [← h9, e])
                · rw [h9] at e
                  have : (wy.alloc (.cells #[.int .i64 (r0.now - xa)] 3)).drew.heap.size = p := Option.some.inj e
                  simp at this
                  omega
              have hF : Fr p [16] V0.m.ownBlock.toList wy (w9.setCell ⟨p, 16, none⟩ (.slice (some ⟨g9, o9, none⟩) (r0.times.length + 1) cap9)) :=
                ⟨hgrow.os, hgrow.tape, hgrow.output, by have := hgrow.size; simp at this ⊢; omega,
                  fun k hk hkp hkr => (Below.heap_setCell _ _ _ _ hkp).trans ((hgrow.block k (by simp; omega) (fun e => hkr (by rw [← e]; simp))).trans (heap_alloc_old wy _ hk)),
                  fun j hj => by
                    rw [World.cell?_setCell_other _ _ _ _ (by simp; intro e; exact hj (by simp [e]))]
                    exact (World.cell?_of_block (a := ⟨p, j, none⟩) ((hgrow.block p (by simp; omega) hvm).trans (heap_alloc_old wy _ lpy'))),
                  fun j => by
                    rw [World.frozen?_setCell]
                    exact (World.frozen?_of_block (a := ⟨p, j, none⟩) ((hgrow.block p (by simp; omega) hvm).trans (heap_alloc_old wy _ lpy')))⟩
              have hset := HMM.out.rep.set_m (xs := r0.times ++ [r0.now - xa]) hF (World.cell?_setCell_same _ _ _ cz) (hrow9.same (fun k hk => Below.heap_setCell _ _ _ _ (fun e => hvp9 (by rw [hk, e])))) (hat.imp id (fun h9 g hg => by rw [h9] at hg; have : _ = g := Option.some.inj hg; rw [← this]; simp))
              have HSET := hide (HMM.out.step hset.1 hset.2)
              clear hset hF hrun hrow9 hgrow hat hrowm far
              refine lexK_turn rfl rfl rfl ?_
              go_simp
              refine lexK_turn rfl rfl rfl ?_
              go_simp
              refine lexK_turn rfl rfl rfl ?_
              go_simp
              refine lexK_end ?_
              go_wp2_with fail
              go_meet
              case rel => exact ⟨_, HSET.out⟩
            case rest =>
              obtain ⟨V1, hm1⟩ := hcut
              clear c0 c1 c3 c4 c5 c6 c7 x0 x1 x2 kN kL fL ko
              obtain ⟨A1, cap1, hA1v, hcap1, hAc1⟩ := hm1.rep.rm.form
              have hlen1 : (r0.times ++ [r0.now - xa]).length = r0.times.length + 1 := by simp
              have km1 : wc.cell? ⟨p, 16, none⟩ = some (.slice A1 (r0.times.length + 1) cap1) := by rw [← hlen1, ← show V1.m = .slice A1 (r0.times ++ [r0.now - xa]).length cap1 from hA1v]; exact hm1.rep.km
              have hcap1' : r0.times.length + 1 ≤ cap1 := by rw [← hlen1]; exact hcap1
              have fm1 := hm1.rep.fz 16 (by omega)
              have HM1 := hide hm1
              have HAV : Hid (V1.m = .slice A1 (r0.times.length + 1) cap1) := by show _ = _; rw [← hlen1]; exact hA1v
              obtain ⟨g1, o1, hA1e⟩ : ∃ g1 o1, A1 = some ⟨g1, o1, none⟩ := by
                obtain ⟨g1, o1, h9, _⟩ := hAc1 0 (by show 0 < (r0.times ++ [r0.now - xa]).length; omega)
                exact ⟨g1, o1, h9⟩
              subst hA1e
              clear hm1 hA1v hcap1 hAc1 hlen1
              go_upto_if 86 with fail
              go_cut [] (fun wx => ∃ V2, StepMid p V w { r0 with times := addR r0.times (r0.now - xa) } V2 B (B + 1) E ⟨xn, xc, xa⟩ wx)
              case first =>
                by_cases c : 32 < (r0.times.length : Int) + 1
                · have HT : Hid (addR r0.times (r0.now - xa) = (r0.times ++ [r0.now - xa]).drop 1) := by show _ = _; unfold addR; rw [if_pos (by simp; omega)]
                  have hvp1 : V1.m.ownBlock ≠ some p := fun e => HM1.out.rep.ap 5 0 (by decide) p e rfl
                  have hg1p : p ≠ g1 := fun e => hvp1 (by rw [HAV.out, e]; rfl)
                  have hrm1 : RowM wc (.slice (some ⟨g1, o1, none⟩) (r0.times.length + 1) cap1) (r0.times ++ [r0.now - xa]) := by rw [← HAV.out]; exact HM1.out.rep.rm
                  have htl1 := hrm1.tail (by simp)
                  rw [Nat.add_sub_cancel] at htl1
                  have hset := HM1.out.rep.set_m (w' := wc.setCell ⟨p, 16, none⟩ (.slice (some ⟨g1, o1 + 1, none⟩) r0.times.length (cap1 - 1))) (xs := (r0.times ++ [r0.now - xa]).drop 1) ((Fr.store _).weak) (World.cell?_setCell_same _ _ _ HM1.out.rep.km) (htl1.same (fun k hk => Below.heap_setCell _ _ _ _ (fun e => hg1p (e.symm.trans (Option.some.inj hk).symm)))) (.inl (by rw [HAV.out]; rfl))
                  have HSET := hide (HM1.out.step hset.1 hset.2)
                  clear hset htl1 hrm1 hvp1 hg1p
                  go_wp2_with fail
                  go_meet
                  case rel => exact ⟨_, by rw [HT.out]; exact HSET.out⟩
                · have HT : Hid (addR r0.times (r0.now - xa) = r0.times ++ [r0.now - xa]) := by show _ = _; unfold addR; rw [if_neg (by simp; omega)]
                  go_wp2_with fail
                  go_meet
                  case rel => exact ⟨V1, by rw [HT.out]; exact HM1.out⟩
              case rest =>
                obtain ⟨V2, hm2⟩ := hcut
                clear HM1 HAV km1 fm1 hcap1'
                have x0 : wc.cell? ⟨B + 1, 0, none⟩ = some (.int .i64 xn) := hm2.xc 0 rfl
                have HC := hide (rep_close hm2.rep (by show r0.atts.length ≤ 100000000; omega) xn)
                have HM2 := hide hm2
                clear hm2
                go_wp2_with fail
                refine HC.out.mono ?_
                rintro e9 w8 ⟨rfl, V8, r8, m8⟩
                have hm8 := HM2.out.step r8 m8
                have x1 : w8.cell? ⟨B + 1, 1, none⟩ = some (.int .i64 xc) := hm8.xc 1 rfl
                have c3 : w8.cell? ⟨B, 3, none⟩ = some (.int .i64 ev) := hm8.ec 3 (by rw [← HE.out]; rfl)
                have hcla : (r0.atts.filter (keepAtt xn)).length ≤ r0.atts.length := List.length_filter_le _ _
                have HEn := hide (end_any p _ V8 w8 hm8.rep xc 1 ev (by show r0.calls.length ≤ _; omega) (by show (r0.atts.filter (keepAtt xn)).length ≤ _; omega) (by show r0.out.length ≤ _; rw [ho0]; simp) (by show r0.timers.length ≤ _; omega))
                have HM8 := hide hm8.mv
                clear hm8 r8 m8 HC HM2
                go_wp2_with fail
                refine HEn.out.mono ?_
                rintro e9 w7 ⟨rfl, V7, r7, m7⟩
                have ko7 := r7.ko
                have HN8 := hide (show ∃ V', V7.o = V'.o ∧ Rep w7 p (stepR0 r0 E) V' ∧ Mv p V w V' w7 from ⟨V7, rfl, by rw [HR.out]; exact r7, HM8.out.trans m7⟩)
                clear r7 m7 HEn
                go_wp2_with fail
                go_ret
                obtain ⟨V', q1, q2⟩ := HN8.out
                exact ⟨V', by rw [← q1]; rfl, by rw [HE.out]; exact q2⟩
          · have k2' : (ek == 2) = false := by simpa using k2
            by_cases k3 : ek = 3 ∨ ek = 4
            · -- Fail, Nack
              obtain ⟨xk, hxk⟩ : ∃ xk, callAt r0 xc = xk := ⟨_, rfl⟩
              obtain ⟨ix, hix⟩ : ∃ ix, (findI r0.calls xc).toNat = ix := ⟨_, rfl⟩
              have HR : Hid (stepR0 r0 E = lostS (closeS r0 xn) E ix xk) := by
                show _ = _
                unfold stepR0
                rw [← HE.out]
                dsimp only
                rw [if_neg k1, HLA.out, if_neg (fun hh => k2 hh.1), if_pos ⟨k3, hx⟩]
                dsimp only
                rw [hxk, hix]
              have OC := HOC.out
              have o1 : ix < r0.calls.length := by rw [← hix]; exact OC.lt
              have o2 : r0.calls[ix] = xk := by
                rw [← hxk]
                unfold callAt
                rw [hix, List.getElem?_eq_getElem o1]
                rfl
              have o3 : xk.number = xc := by rw [← hxk]; exact OC.num
              have o4 : findI r0.calls xk.number = (ix : Int) := by rw [o3, ← hix]; have := OC.pos; omega
              have oh0 : 0 ≤ xk.had := by rw [← hxk]; exact OC.had0
              have oh1 : xk.had ≤ 1000 := by rw [← hxk]; exact OC.had1
              have ow : r0.cfg.base ≤ xk.wait ∧ xk.wait ≤ r0.cfg.most := by
                rw [← hxk, HCA.out.1, HS.out.cfg]
                have := HI.out.cb xcl HCM.out.1
                exact ⟨this.2.2.2.2.1, this.2.2.2.2.2⟩
              have ob0 : 1 ≤ r0.cfg.base := by rw [HS.out.cfg]; exact HI.out.cfg.b0
              have ob1 : r0.cfg.base ≤ r0.cfg.most := by rw [HS.out.cfg]; exact HI.out.cfg.b1
              have ob2 : r0.cfg.most ≤ 10000 := by rw [HS.out.cfg]; exact HI.out.cfg.m1
              have HC := hide (rep_close HMM.out.rep (by omega) xn)
              have hcla : (r0.atts.filter (keepAtt xn)).length ≤ r0.atts.length := List.length_filter_le _ _
              have HLO : Hid (∀ w8 V8, Rep w8 p (closeS r0 xn) V8 → Calls Tryz.prog 84 #[.pointer (some ⟨p, 0, none⟩), .int .i64 xc, .agg #[.int .i64 ek, .int .i64 ec, .int .i64 ea, .int .i64 ev, .int .i64 et, .bool es, .int .u64 ed, .int .i64 eto]] w8 fun ev w' => ev = .returned (.tuple #[]) ∧ Now p V8 w8 (lostS (closeS r0 xn) E ix xk) w') := fun w8 V8 r8 => by
                have h9 := lost_any p (closeS r0 xn) V8 w8 r8 E ix xk o1 o2 o4 (by show r0.calls.length ≤ _; omega) (by show (r0.atts.filter (keepAtt xn)).length ≤ _; omega) (by show r0.out.length ≤ _; rw [ho0]; simp) (by show r0.timers.length ≤ _; omega) oh0 oh1 n0 n1 ob0 ob1 ob2 ow.1 ow.2 (by rw [← HE.out]; exact hd0) (by rw [← HE.out]; exact hd1)
                rw [o3] at h9
                rw [show encEv E = #[.int .i64 ek, .int .i64 ec, .int .i64 ea, .int .i64 ev, .int .i64 et, .bool es, .int .u64 ed, .int .i64 eto] by rw [← HE.out]; rfl] at h9
                exact h9
              clear OC o1 o2 o3 o4 oh0 oh1 ow ob0 ob1 ob2 hxk hix HCA HCM HOC
              have HEV : Hid (∀ w8 V8, StepMid p V w (closeS r0 xn) V8 B (B + 1) E ⟨xn, xc, xa⟩ w8 → w8.cell? ⟨B, 0, none⟩ = some (.int .i64 ek) ∧ w8.cell? ⟨B, 1, none⟩ = some (.int .i64 ec) ∧ w8.cell? ⟨B, 2, none⟩ = some (.int .i64 ea) ∧ w8.cell? ⟨B, 3, none⟩ = some (.int .i64 ev) ∧ w8.cell? ⟨B, 4, none⟩ = some (.int .i64 et) ∧ w8.cell? ⟨B, 5, none⟩ = some (.bool es) ∧ w8.cell? ⟨B, 6, none⟩ = some (.int .u64 ed) ∧ w8.cell? ⟨B, 7, none⟩ = some (.int .i64 eto) ∧ w8.cell? ⟨B + 1, 1, none⟩ = some (.int .i64 xc)) := fun w8 V8 h8 =>
                ⟨h8.ec 0 (by rw [← HE.out]; rfl), h8.ec 1 (by rw [← HE.out]; rfl), h8.ec 2 (by rw [← HE.out]; rfl), h8.ec 3 (by rw [← HE.out]; rfl), h8.ec 4 (by rw [← HE.out]; rfl), h8.ec 5 (by rw [← HE.out]; rfl), h8.ec 6 (by rw [← HE.out]; rfl), h8.ec 7 (by rw [← HE.out]; rfl), h8.xc 1 rfl⟩
              rcases k3 with k3 | k3
              · subst k3
                go_wp2_with fail
                refine HC.out.mono ?_
                rintro e9 w8 ⟨rfl, V8, r8, m8⟩
                have hm8 := HMM.out.step r8 m8
                obtain ⟨y0, y1, y2, y3, y4, y5, y6, y7, y8⟩ := HEV.out w8 V8 hm8
                have HL8 := hide (HLO.out w8 V8 r8)
                have HM8 := hide hm8.mv
                clear hm8 r8 m8 HC HLO HEV c0 c1 c3 c4 c5 c6 c7 x0 x1 x2 kN kL fL ko
                go_wp2_with fail
                refine HL8.out.mono ?_
                rintro e9 w7 ⟨rfl, V7, r7, m7⟩
                have ko7 := r7.ko
                have HN8 := hide (show ∃ V', V7.o = V'.o ∧ Rep w7 p (stepR0 r0 E) V' ∧ Mv p V w V' w7 from ⟨V7, rfl, by rw [HR.out]; exact r7, HM8.out.trans m7⟩)
                clear r7 m7 HL8 y0 y1 y2 y3 y4 y5 y6 y7 y8
                go_wp2_with fail
                go_ret
                obtain ⟨V', q1, q2⟩ := HN8.out
                exact ⟨V', by rw [← q1]; rfl, by rw [HE.out]; exact q2⟩
              · subst k3
                go_wp2_with fail
                refine HC.out.mono ?_
                rintro e9 w8 ⟨rfl, V8, r8, m8⟩
                have hm8 := HMM.out.step r8 m8
                obtain ⟨y0, y1, y2, y3, y4, y5, y6, y7, y8⟩ := HEV.out w8 V8 hm8
                have HL8 := hide (HLO.out w8 V8 r8)
                have HM8 := hide hm8.mv
                clear hm8 r8 m8 HC HLO HEV c0 c1 c3 c4 c5 c6 c7 x0 x1 x2 kN kL fL ko
                go_wp2_with fail
                refine HL8.out.mono ?_
                rintro e9 w7 ⟨rfl, V7, r7, m7⟩
                have ko7 := r7.ko
                have HN8 := hide (show ∃ V', V7.o = V'.o ∧ Rep w7 p (stepR0 r0 E) V' ∧ Mv p V w V' w7 from ⟨V7, rfl, by rw [HR.out]; exact r7, HM8.out.trans m7⟩)
                clear r7 m7 HL8 y0 y1 y2 y3 y4 y5 y6 y7 y8
                go_wp2_with fail
                go_ret
                obtain ⟨V', q1, q2⟩ := HN8.out
                exact ⟨V', by rw [← q1]; rfl, by rw [HE.out]; exact q2⟩
            · have g3 : (ek == 3) = false := by simpa using (show ek ≠ 3 by omega)
              have g4 : (ek == 4) = false := by simpa using (show ek ≠ 4 by omega)
              by_cases k5 : ek = 5
              · by_cases hf : 0 ≤ fi
                · have HR : Hid (stepR0 r0 E = endS r0 ec 4 0) := by
                    show _ = _
                    unfold stepR0
                    rw [← HE.out]
                    dsimp only
                    rw [if_neg k1, HLA.out]
                    dsimp only
                    rw [HFI.out]
                    rw [if_neg (show ¬ (ek = 2 ∧ 0 < xn) by omega), if_neg (show ¬ ((ek = 3 ∨ ek = 4) ∧ 0 < xn) by omega), if_pos (show ek = 5 ∧ 0 ≤ fi from ⟨k5, hf⟩)]
                  have HEn := hide (end_any p r0 V0 wy HMM.out.rep ec 4 0 (by omega) (by omega) (by rw [ho0]; simp) (by omega))
                  subst k5
                  go_wp2_with fail
                  refine HEn.out.mono ?_
                  rintro e9 w7 ⟨rfl, V7, r7, m7⟩
                  have ko7 := r7.ko
                  have HN8 := hide (show ∃ V', V7.o = V'.o ∧ Rep w7 p (stepR0 r0 E) V' ∧ Mv p V w V' w7 from ⟨V7, rfl, by rw [HR.out]; exact r7, HMM.out.mv.trans m7⟩)
                  clear r7 m7 HEn
                  go_wp2_with fail
                  go_ret
                  obtain ⟨V', q1, q2⟩ := HN8.out
                  exact ⟨V', by rw [← q1]; rfl, by rw [HE.out]; exact q2⟩
                · have HR : Hid (stepR0 r0 E = { r0 with stale := r0.stale + 1 }) := by
                    show _ = _
                    unfold stepR0
                    rw [← HE.out]
                    dsimp only
                    rw [if_neg k1, HLA.out]
                    dsimp only
                    rw [HFI.out]
                    rw [if_neg (show ¬ (ek = 2 ∧ 0 < xn) by omega), if_neg (show ¬ ((ek = 3 ∨ ek = 4) ∧ 0 < xn) by omega), if_neg (show ¬ (ek = 5 ∧ 0 ≤ fi) by omega), if_neg (show ¬ (ek = 6 ∧ r0.now ≤ eto ∧ eto ≤ 1099511627776) by omega)]
                  have hf' : decide (0 ≤ fi) = false := decide_eq_false hf
                  subst k5
                  go_wp2_with fail
                  go_quiet (fail)
                  obtain ⟨wq, hwq⟩ : ∃ wq, wq = wy.drewN nq := ⟨_, rfl⟩
                  rw [← hwq]
                  have hmq : StepMid p V w r0 V0 B (B + 1) E ⟨xn, xc, xa⟩ wq := by rw [hwq]; exact HMM.out.on (below_drewN _ _)
                  clear hwq c0 c1 c3 c4 c5 c6 c7 x0 x1 x2 kN kL fL ko
                  have kL : wq.cell? ⟨p, 17, none⟩ = some (.int .i64 r0.stale) := hmq.rep.kL
                  have fL := hmq.rep.fz 17 (by omega)
                  have c7 : wq.cell? ⟨B, 7, none⟩ = some (.int .i64 eto) := hmq.ec 7 (by rw [← HE.out]; rfl)
                  have HMQ := hide hmq
                  clear hmq
                  have R9 := HMQ.out.rep.set_stale (r0.stale + 1)
                  have ko9 := R9.1.ko
                  have HN8 := hide (show ∃ V', V0.o = V'.o ∧ Rep _ p (stepR0 r0 E) V' ∧ Mv p V w V' _ from ⟨V0, rfl, by rw [HR.out]; exact R9.1, HMQ.out.mv.trans R9.2⟩)
                  clear R9
                  go_wp2_with fail
                  go_ret
                  obtain ⟨V', q1, q2⟩ := HN8.out
                  exact ⟨V', by rw [← q1]; rfl, by rw [HE.out]; exact q2⟩
              · have g5 : (ek == 5) = false := by simpa using k5
                by_cases k6 : ek = 6
                · by_cases hr1 : r0.now ≤ eto
                  · by_cases hr2 : eto ≤ 1099511627776
                    · have HR : Hid (stepR0 r0 E = rAdvF eto (turnsR r0) r0) := by
                        show _ = _
                        unfold stepR0
                        rw [← HE.out]
                        dsimp only
                        rw [if_neg k1, HLA.out]
                        dsimp only
                        rw [HFI.out]
                        rw [if_neg (show ¬ (ek = 2 ∧ 0 < xn) by omega), if_neg (show ¬ ((ek = 3 ∨ ek = 4) ∧ 0 < xn) by omega), if_neg (show ¬ (ek = 5 ∧ 0 ≤ fi) by omega), if_pos (show ek = 6 ∧ r0.now ≤ eto ∧ eto ≤ 1099511627776 from ⟨k6, hr1, hr2⟩)]
                      have HG : Hid (AdvG N M eto (phi s) r0) := ⟨s, HS.out, HI.out, by rw [← HS.out.now]; exact hr1, by rw [ho0]; simp⟩
                      have HGO : Hid (Goes eto (AdvG N M eto (phi s))) := advG_goes eto (phi s) (by omega) (by omega) (by have := phi_le HI.out; omega)
                      have d1 : decide (r0.now ≤ eto) = true := decide_eq_true hr1
                      have d2 : decide (eto ≤ 1099511627776) = true := decide_eq_true hr2
                      subst k6
                      go_wp2_with fail
                      go_quiet (fail)
                      obtain ⟨wq, hwq⟩ : ∃ wq, wq = wy.drewN nq := ⟨_, rfl⟩
                      rw [← hwq]
                      have hmq : StepMid p V w r0 V0 B (B + 1) E ⟨xn, xc, xa⟩ wq := by rw [hwq]; exact HMM.out.on (below_drewN _ _)
                      clear hwq c0 c1 c3 c4 c5 c6 c7 x0 x1 x2 kN kL fL ko
                      have kL : wq.cell? ⟨p, 17, none⟩ = some (.int .i64 r0.stale) := hmq.rep.kL
                      have fL := hmq.rep.fz 17 (by omega)
                      have c7 : wq.cell? ⟨B, 7, none⟩ = some (.int .i64 eto) := hmq.ec 7 (by rw [← HE.out]; rfl)
                      have HMQ := hide hmq
                      clear hmq
                      have HAD := hide (advance_T p r0 V0 wq HMQ.out.rep eto (AdvG N M eto (phi s)) HGO.out HG.out)
                      go_wp2_with fail
                      refine HAD.out.mono ?_
                      rintro e9 w7 ⟨rfl, V7, r7, m7⟩
                      have ko7 := r7.ko
                      have HN8 := hide (show ∃ V', V7.o = V'.o ∧ Rep w7 p (stepR0 r0 E) V' ∧ Mv p V w V' w7 from ⟨V7, rfl, by rw [HR.out]; exact r7, HMQ.out.mv.trans m7⟩)
                      clear r7 m7 HAD
                      go_wp2_with fail
                      go_ret
                      obtain ⟨V', q1, q2⟩ := HN8.out
                      exact ⟨V', by rw [← q1]; rfl, by rw [HE.out]; exact q2⟩
                    · have HR : Hid (stepR0 r0 E = { r0 with stale := r0.stale + 1 }) := by
                        show _ = _
                        unfold stepR0
                        rw [← HE.out]
                        dsimp only
                        rw [if_neg k1, HLA.out]
                        dsimp only
                        rw [HFI.out]
                        rw [if_neg (show ¬ (ek = 2 ∧ 0 < xn) by omega), if_neg (show ¬ ((ek = 3 ∨ ek = 4) ∧ 0 < xn) by omega), if_neg (show ¬ (ek = 5 ∧ 0 ≤ fi) by omega), if_neg (show ¬ (ek = 6 ∧ r0.now ≤ eto ∧ eto ≤ 1099511627776) by omega)]
                      have d1 : decide (r0.now ≤ eto) = true := decide_eq_true hr1
                      have d2 : decide (eto ≤ 1099511627776) = false := decide_eq_false hr2
                      subst k6
                      go_wp2_with fail
                      go_quiet (fail)
                      obtain ⟨wq, hwq⟩ : ∃ wq, wq = wy.drewN nq := ⟨_, rfl⟩
                      rw [← hwq]
                      have hmq : StepMid p V w r0 V0 B (B + 1) E ⟨xn, xc, xa⟩ wq := by rw [hwq]; exact HMM.out.on (below_drewN _ _)
                      clear hwq c0 c1 c3 c4 c5 c6 c7 x0 x1 x2 kN kL fL ko
                      have kL : wq.cell? ⟨p, 17, none⟩ = some (.int .i64 r0.stale) := hmq.rep.kL
                      have fL := hmq.rep.fz 17 (by omega)
                      have c7 : wq.cell? ⟨B, 7, none⟩ = some (.int .i64 eto) := hmq.ec 7 (by rw [← HE.out]; rfl)
                      have HMQ := hide hmq
                      clear hmq
                      have R9 := HMQ.out.rep.set_stale (r0.stale + 1)
                      have ko9 := R9.1.ko
                      have HN8 := hide (show ∃ V', V0.o = V'.o ∧ Rep _ p (stepR0 r0 E) V' ∧ Mv p V w V' _ from ⟨V0, rfl, by rw [HR.out]; exact R9.1, HMQ.out.mv.trans R9.2⟩)
                      clear R9
                      go_wp2_with fail
                      go_ret
                      obtain ⟨V', q1, q2⟩ := HN8.out
                      exact ⟨V', by rw [← q1]; rfl, by rw [HE.out]; exact q2⟩
                  · have HR : Hid (stepR0 r0 E = { r0 with stale := r0.stale + 1 }) := by
                      show _ = _
                      unfold stepR0
                      rw [← HE.out]
                      dsimp only
                      rw [if_neg k1, HLA.out]
                      dsimp only
                      rw [HFI.out]
                      rw [if_neg (show ¬ (ek = 2 ∧ 0 < xn) by omega), if_neg (show ¬ ((ek = 3 ∨ ek = 4) ∧ 0 < xn) by omega), if_neg (show ¬ (ek = 5 ∧ 0 ≤ fi) by omega), if_neg (show ¬ (ek = 6 ∧ r0.now ≤ eto ∧ eto ≤ 1099511627776) by omega)]
                    have d1 : decide (r0.now ≤ eto) = false := decide_eq_false hr1
                    subst k6
                    go_wp2_with fail
                    go_quiet (fail)
                    obtain ⟨wq, hwq⟩ : ∃ wq, wq = wy.drewN nq := ⟨_, rfl⟩
                    rw [← hwq]
                    have hmq : StepMid p V w r0 V0 B (B + 1) E ⟨xn, xc, xa⟩ wq := by rw [hwq]; exact HMM.out.on (below_drewN _ _)
                    clear hwq c0 c1 c3 c4 c5 c6 c7 x0 x1 x2 kN kL fL ko
                    have kL : wq.cell? ⟨p, 17, none⟩ = some (.int .i64 r0.stale) := hmq.rep.kL
                    have fL := hmq.rep.fz 17 (by omega)
                    have c7 : wq.cell? ⟨B, 7, none⟩ = some (.int .i64 eto) := hmq.ec 7 (by rw [← HE.out]; rfl)
                    have HMQ := hide hmq
                    clear hmq
                    have R9 := HMQ.out.rep.set_stale (r0.stale + 1)
                    have ko9 := R9.1.ko
                    have HN8 := hide (show ∃ V', V0.o = V'.o ∧ Rep _ p (stepR0 r0 E) V' ∧ Mv p V w V' _ from ⟨V0, rfl, by rw [HR.out]; exact R9.1, HMQ.out.mv.trans R9.2⟩)
                    clear R9
                    go_wp2_with fail
                    go_ret
                    obtain ⟨V', q1, q2⟩ := HN8.out
                    exact ⟨V', by rw [← q1]; rfl, by rw [HE.out]; exact q2⟩
                · have HR : Hid (stepR0 r0 E = { r0 with stale := r0.stale + 1 }) := by
                    show _ = _
                    unfold stepR0
                    rw [← HE.out]
                    dsimp only
                    rw [if_neg k1, HLA.out]
                    dsimp only
                    rw [HFI.out]
                    rw [if_neg (show ¬ (ek = 2 ∧ 0 < xn) by omega), if_neg (show ¬ ((ek = 3 ∨ ek = 4) ∧ 0 < xn) by omega), if_neg (show ¬ (ek = 5 ∧ 0 ≤ fi) by omega), if_neg (show ¬ (ek = 6 ∧ r0.now ≤ eto ∧ eto ≤ 1099511627776) by omega)]
                  have g6 : (ek == 6) = false := by simpa using k6
                  go_wp2_with fail
                  go_quiet (fail)
                  obtain ⟨wq, hwq⟩ : ∃ wq, wq = wy.drewN nq := ⟨_, rfl⟩
                  rw [← hwq]
                  have hmq : StepMid p V w r0 V0 B (B + 1) E ⟨xn, xc, xa⟩ wq := by rw [hwq]; exact HMM.out.on (below_drewN _ _)
                  clear hwq c0 c1 c3 c4 c5 c6 c7 x0 x1 x2 kN kL fL ko
                  have kL : wq.cell? ⟨p, 17, none⟩ = some (.int .i64 r0.stale) := hmq.rep.kL
                  have fL := hmq.rep.fz 17 (by omega)
                  have c7 : wq.cell? ⟨B, 7, none⟩ = some (.int .i64 eto) := hmq.ec 7 (by rw [← HE.out]; rfl)
                  have HMQ := hide hmq
                  clear hmq
                  have R9 := HMQ.out.rep.set_stale (r0.stale + 1)
                  have ko9 := R9.1.ko
                  have HN8 := hide (show ∃ V', V0.o = V'.o ∧ Rep _ p (stepR0 r0 E) V' ∧ Mv p V w V' _ from ⟨V0, rfl, by rw [HR.out]; exact R9.1, HMQ.out.mv.trans R9.2⟩)
                  clear R9
                  go_wp2_with fail
                  go_ret
                  obtain ⟨V', q1, q2⟩ := HN8.out
                  exact ⟨V', by rw [← q1]; rfl, by rw [HE.out]; exact q2⟩
        · have hx' : decide (0 < xn) = false := decide_eq_false hx
          by_cases k2 : ek = 2
          · have HR : Hid (stepR0 r0 E = { r0 with stale := r0.stale + 1 }) := by
              show _ = _
              unfold stepR0
              rw [← HE.out]
              dsimp only
              rw [if_neg k1, HLA.out]
              dsimp only
              rw [HFI.out]
              rw [if_neg (show ¬ (ek = 2 ∧ 0 < xn) by omega), if_neg (show ¬ ((ek = 3 ∨ ek = 4) ∧ 0 < xn) by omega), if_neg (show ¬ (ek = 5 ∧ 0 ≤ fi) by omega), if_neg (show ¬ (ek = 6 ∧ r0.now ≤ eto ∧ eto ≤ 1099511627776) by omega)]
            subst k2
            go_wp2_with fail
            go_quiet (fail)
            obtain ⟨wq, hwq⟩ : ∃ wq, wq = wy.drewN nq := ⟨_, rfl⟩
            rw [← hwq]
            have hmq : StepMid p V w r0 V0 B (B + 1) E ⟨xn, xc, xa⟩ wq := by rw [hwq]; exact HMM.out.on (below_drewN _ _)
            clear hwq c0 c1 c3 c4 c5 c6 c7 x0 x1 x2 kN kL fL ko
            have kL : wq.cell? ⟨p, 17, none⟩ = some (.int .i64 r0.stale) := hmq.rep.kL
            have fL := hmq.rep.fz 17 (by omega)
            have c7 : wq.cell? ⟨B, 7, none⟩ = some (.int .i64 eto) := hmq.ec 7 (by rw [← HE.out]; rfl)
            have HMQ := hide hmq
            clear hmq
            have R9 := HMQ.out.rep.set_stale (r0.stale + 1)
            have ko9 := R9.1.ko
            have HN8 := hide (show ∃ V', V0.o = V'.o ∧ Rep _ p (stepR0 r0 E) V' ∧ Mv p V w V' _ from ⟨V0, rfl, by rw [HR.out]; exact R9.1, HMQ.out.mv.trans R9.2⟩)
            clear R9
            go_wp2_with fail
            go_ret
            obtain ⟨V', q1, q2⟩ := HN8.out
            exact ⟨V', by rw [← q1]; rfl, by rw [HE.out]; exact q2⟩
          · have k2' : (ek == 2) = false := by simpa using k2
            by_cases k3 : ek = 3 ∨ ek = 4
            · have HR : Hid (stepR0 r0 E = { r0 with stale := r0.stale + 1 }) := by
                show _ = _
                unfold stepR0
                rw [← HE.out]
                dsimp only
                rw [if_neg k1, HLA.out]
                dsimp only
                rw [HFI.out]
                rw [if_neg (show ¬ (ek = 2 ∧ 0 < xn) by omega), if_neg (show ¬ ((ek = 3 ∨ ek = 4) ∧ 0 < xn) by omega), if_neg (show ¬ (ek = 5 ∧ 0 ≤ fi) by omega), if_neg (show ¬ (ek = 6 ∧ r0.now ≤ eto ∧ eto ≤ 1099511627776) by omega)]
              rcases k3 with k3 | k3
              · subst k3
                go_wp2_with fail
                go_quiet (fail)
                obtain ⟨wq, hwq⟩ : ∃ wq, wq = wy.drewN nq := ⟨_, rfl⟩
                rw [← hwq]
                have hmq : StepMid p V w r0 V0 B (B + 1) E ⟨xn, xc, xa⟩ wq := by rw [hwq]; exact HMM.out.on (below_drewN _ _)
                clear hwq c0 c1 c3 c4 c5 c6 c7 x0 x1 x2 kN kL fL ko
                have kL : wq.cell? ⟨p, 17, none⟩ = some (.int .i64 r0.stale) := hmq.rep.kL
                have fL := hmq.rep.fz 17 (by omega)
                have c7 : wq.cell? ⟨B, 7, none⟩ = some (.int .i64 eto) := hmq.ec 7 (by rw [← HE.out]; rfl)
                have HMQ := hide hmq
                clear hmq
                have R9 := HMQ.out.rep.set_stale (r0.stale + 1)
                have ko9 := R9.1.ko
                have HN8 := hide (show ∃ V', V0.o = V'.o ∧ Rep _ p (stepR0 r0 E) V' ∧ Mv p V w V' _ from ⟨V0, rfl, by rw [HR.out]; exact R9.1, HMQ.out.mv.trans R9.2⟩)
                clear R9
                go_wp2_with fail
                go_ret
                obtain ⟨V', q1, q2⟩ := HN8.out
                exact ⟨V', by rw [← q1]; rfl, by rw [HE.out]; exact q2⟩
              · subst k3
                go_wp2_with fail
                go_quiet (fail)
                obtain ⟨wq, hwq⟩ : ∃ wq, wq = wy.drewN nq := ⟨_, rfl⟩
                rw [← hwq]
                have hmq : StepMid p V w r0 V0 B (B + 1) E ⟨xn, xc, xa⟩ wq := by rw [hwq]; exact HMM.out.on (below_drewN _ _)
                clear hwq c0 c1 c3 c4 c5 c6 c7 x0 x1 x2 kN kL fL ko
                have kL : wq.cell? ⟨p, 17, none⟩ = some (.int .i64 r0.stale) := hmq.rep.kL
                have fL := hmq.rep.fz 17 (by omega)
                have c7 : wq.cell? ⟨B, 7, none⟩ = some (.int .i64 eto) := hmq.ec 7 (by rw [← HE.out]; rfl)
                have HMQ := hide hmq
                clear hmq
                have R9 := HMQ.out.rep.set_stale (r0.stale + 1)
                have ko9 := R9.1.ko
                have HN8 := hide (show ∃ V', V0.o = V'.o ∧ Rep _ p (stepR0 r0 E) V' ∧ Mv p V w V' _ from ⟨V0, rfl, by rw [HR.out]; exact R9.1, HMQ.out.mv.trans R9.2⟩)
                clear R9
                go_wp2_with fail
                go_ret
                obtain ⟨V', q1, q2⟩ := HN8.out
                exact ⟨V', by rw [← q1]; rfl, by rw [HE.out]; exact q2⟩
            · have g3 : (ek == 3) = false := by simpa using (show ek ≠ 3 by omega)
              have g4 : (ek == 4) = false := by simpa using (show ek ≠ 4 by omega)
              by_cases k5 : ek = 5
              · by_cases hf : 0 ≤ fi
                · have HR : Hid (stepR0 r0 E = endS r0 ec 4 0) := by
                    show _ = _
                    unfold stepR0
                    rw [← HE.out]
                    dsimp only
                    rw [if_neg k1, HLA.out]
                    dsimp only
                    rw [HFI.out]
                    rw [if_neg (show ¬ (ek = 2 ∧ 0 < xn) by omega), if_neg (show ¬ ((ek = 3 ∨ ek = 4) ∧ 0 < xn) by omega), if_pos (show ek = 5 ∧ 0 ≤ fi from ⟨k5, hf⟩)]
                  have HEn := hide (end_any p r0 V0 wy HMM.out.rep ec 4 0 (by omega) (by omega) (by rw [ho0]; simp) (by omega))
                  subst k5
                  go_wp2_with fail
                  refine HEn.out.mono ?_
                  rintro e9 w7 ⟨rfl, V7, r7, m7⟩
                  have ko7 := r7.ko
                  have HN8 := hide (show ∃ V', V7.o = V'.o ∧ Rep w7 p (stepR0 r0 E) V' ∧ Mv p V w V' w7 from ⟨V7, rfl, by rw [HR.out]; exact r7, HMM.out.mv.trans m7⟩)
                  clear r7 m7 HEn
                  go_wp2_with fail
                  go_ret
                  obtain ⟨V', q1, q2⟩ := HN8.out
                  exact ⟨V', by rw [← q1]; rfl, by rw [HE.out]; exact q2⟩
                · have HR : Hid (stepR0 r0 E = { r0 with stale := r0.stale + 1 }) := by
                    show _ = _
                    unfold stepR0
                    rw [← HE.out]
                    dsimp only
                    rw [if_neg k1, HLA.out]
                    dsimp only
                    rw [HFI.out]
                    rw [if_neg (show ¬ (ek = 2 ∧ 0 < xn) by omega), if_neg (show ¬ ((ek = 3 ∨ ek = 4) ∧ 0 < xn) by omega), if_neg (show ¬ (ek = 5 ∧ 0 ≤ fi) by omega), if_neg (show ¬ (ek = 6 ∧ r0.now ≤ eto ∧ eto ≤ 1099511627776) by omega)]
                  have hf' : decide (0 ≤ fi) = false := decide_eq_false hf
                  subst k5
                  go_wp2_with fail
                  go_quiet (fail)
                  obtain ⟨wq, hwq⟩ : ∃ wq, wq = wy.drewN nq := ⟨_, rfl⟩
                  rw [← hwq]
                  have hmq : StepMid p V w r0 V0 B (B + 1) E ⟨xn, xc, xa⟩ wq := by rw [hwq]; exact HMM.out.on (below_drewN _ _)
                  clear hwq c0 c1 c3 c4 c5 c6 c7 x0 x1 x2 kN kL fL ko
                  have kL : wq.cell? ⟨p, 17, none⟩ = some (.int .i64 r0.stale) := hmq.rep.kL
                  have fL := hmq.rep.fz 17 (by omega)
                  have c7 : wq.cell? ⟨B, 7, none⟩ = some (.int .i64 eto) := hmq.ec 7 (by rw [← HE.out]; rfl)
                  have HMQ := hide hmq
                  clear hmq
                  have R9 := HMQ.out.rep.set_stale (r0.stale + 1)
                  have ko9 := R9.1.ko
                  have HN8 := hide (show ∃ V', V0.o = V'.o ∧ Rep _ p (stepR0 r0 E) V' ∧ Mv p V w V' _ from ⟨V0, rfl, by rw [HR.out]; exact R9.1, HMQ.out.mv.trans R9.2⟩)
                  clear R9
                  go_wp2_with fail
                  go_ret
                  obtain ⟨V', q1, q2⟩ := HN8.out
                  exact ⟨V', by rw [← q1]; rfl, by rw [HE.out]; exact q2⟩
              · have g5 : (ek == 5) = false := by simpa using k5
                by_cases k6 : ek = 6
                · by_cases hr1 : r0.now ≤ eto
                  · by_cases hr2 : eto ≤ 1099511627776
                    · have HR : Hid (stepR0 r0 E = rAdvF eto (turnsR r0) r0) := by
                        show _ = _
                        unfold stepR0
                        rw [← HE.out]
                        dsimp only
                        rw [if_neg k1, HLA.out]
                        dsimp only
                        rw [HFI.out]
                        rw [if_neg (show ¬ (ek = 2 ∧ 0 < xn) by omega), if_neg (show ¬ ((ek = 3 ∨ ek = 4) ∧ 0 < xn) by omega), if_neg (show ¬ (ek = 5 ∧ 0 ≤ fi) by omega), if_pos (show ek = 6 ∧ r0.now ≤ eto ∧ eto ≤ 1099511627776 from ⟨k6, hr1, hr2⟩)]
                      have HG : Hid (AdvG N M eto (phi s) r0) := ⟨s, HS.out, HI.out, by rw [← HS.out.now]; exact hr1, by rw [ho0]; simp⟩
                      have HGO : Hid (Goes eto (AdvG N M eto (phi s))) := advG_goes eto (phi s) (by omega) (by omega) (by have := phi_le HI.out; omega)
                      have d1 : decide (r0.now ≤ eto) = true := decide_eq_true hr1
                      have d2 : decide (eto ≤ 1099511627776) = true := decide_eq_true hr2
                      subst k6
                      go_wp2_with fail
                      go_quiet (fail)
                      obtain ⟨wq, hwq⟩ : ∃ wq, wq = wy.drewN nq := ⟨_, rfl⟩
                      rw [← hwq]
                      have hmq : StepMid p V w r0 V0 B (B + 1) E ⟨xn, xc, xa⟩ wq := by rw [hwq]; exact HMM.out.on (below_drewN _ _)
                      clear hwq c0 c1 c3 c4 c5 c6 c7 x0 x1 x2 kN kL fL ko
                      have kL : wq.cell? ⟨p, 17, none⟩ = some (.int .i64 r0.stale) := hmq.rep.kL
                      have fL := hmq.rep.fz 17 (by omega)
                      have c7 : wq.cell? ⟨B, 7, none⟩ = some (.int .i64 eto) := hmq.ec 7 (by rw [← HE.out]; rfl)
                      have HMQ := hide hmq
                      clear hmq
                      have HAD := hide (advance_T p r0 V0 wq HMQ.out.rep eto (AdvG N M eto (phi s)) HGO.out HG.out)
                      go_wp2_with fail
                      refine HAD.out.mono ?_
                      rintro e9 w7 ⟨rfl, V7, r7, m7⟩
                      have ko7 := r7.ko
                      have HN8 := hide (show ∃ V', V7.o = V'.o ∧ Rep w7 p (stepR0 r0 E) V' ∧ Mv p V w V' w7 from ⟨V7, rfl, by rw [HR.out]; exact r7, HMQ.out.mv.trans m7⟩)
                      clear r7 m7 HAD
                      go_wp2_with fail
                      go_ret
                      obtain ⟨V', q1, q2⟩ := HN8.out
                      exact ⟨V', by rw [← q1]; rfl, by rw [HE.out]; exact q2⟩
                    · have HR : Hid (stepR0 r0 E = { r0 with stale := r0.stale + 1 }) := by
                        show _ = _
                        unfold stepR0
                        rw [← HE.out]
                        dsimp only
                        rw [if_neg k1, HLA.out]
                        dsimp only
                        rw [HFI.out]
                        rw [if_neg (show ¬ (ek = 2 ∧ 0 < xn) by omega), if_neg (show ¬ ((ek = 3 ∨ ek = 4) ∧ 0 < xn) by omega), if_neg (show ¬ (ek = 5 ∧ 0 ≤ fi) by omega), if_neg (show ¬ (ek = 6 ∧ r0.now ≤ eto ∧ eto ≤ 1099511627776) by omega)]
                      have d1 : decide (r0.now ≤ eto) = true := decide_eq_true hr1
                      have d2 : decide (eto ≤ 1099511627776) = false := decide_eq_false hr2
                      subst k6
                      go_wp2_with fail
                      go_quiet (fail)
                      obtain ⟨wq, hwq⟩ : ∃ wq, wq = wy.drewN nq := ⟨_, rfl⟩
                      rw [← hwq]
                      have hmq : StepMid p V w r0 V0 B (B + 1) E ⟨xn, xc, xa⟩ wq := by rw [hwq]; exact HMM.out.on (below_drewN _ _)
                      clear hwq c0 c1 c3 c4 c5 c6 c7 x0 x1 x2 kN kL fL ko
                      have kL : wq.cell? ⟨p, 17, none⟩ = some (.int .i64 r0.stale) := hmq.rep.kL
                      have fL := hmq.rep.fz 17 (by omega)
                      have c7 : wq.cell? ⟨B, 7, none⟩ = some (.int .i64 eto) := hmq.ec 7 (by rw [← HE.out]; rfl)
                      have HMQ := hide hmq
                      clear hmq
                      have R9 := HMQ.out.rep.set_stale (r0.stale + 1)
                      have ko9 := R9.1.ko
                      have HN8 := hide (show ∃ V', V0.o = V'.o ∧ Rep _ p (stepR0 r0 E) V' ∧ Mv p V w V' _ from ⟨V0, rfl, by rw [HR.out]; exact R9.1, HMQ.out.mv.trans R9.2⟩)
                      clear R9
                      go_wp2_with fail
                      go_ret
                      obtain ⟨V', q1, q2⟩ := HN8.out
                      exact ⟨V', by rw [← q1]; rfl, by rw [HE.out]; exact q2⟩
                  · have HR : Hid (stepR0 r0 E = { r0 with stale := r0.stale + 1 }) := by
                      show _ = _
                      unfold stepR0
                      rw [← HE.out]
                      dsimp only
                      rw [if_neg k1, HLA.out]
                      dsimp only
                      rw [HFI.out]
                      rw [if_neg (show ¬ (ek = 2 ∧ 0 < xn) by omega), if_neg (show ¬ ((ek = 3 ∨ ek = 4) ∧ 0 < xn) by omega), if_neg (show ¬ (ek = 5 ∧ 0 ≤ fi) by omega), if_neg (show ¬ (ek = 6 ∧ r0.now ≤ eto ∧ eto ≤ 1099511627776) by omega)]
                    have d1 : decide (r0.now ≤ eto) = false := decide_eq_false hr1
                    subst k6
                    go_wp2_with fail
                    go_quiet (fail)
                    obtain ⟨wq, hwq⟩ : ∃ wq, wq = wy.drewN nq := ⟨_, rfl⟩
                    rw [← hwq]
                    have hmq : StepMid p V w r0 V0 B (B + 1) E ⟨xn, xc, xa⟩ wq := by rw [hwq]; exact HMM.out.on (below_drewN _ _)
                    clear hwq c0 c1 c3 c4 c5 c6 c7 x0 x1 x2 kN kL fL ko
                    have kL : wq.cell? ⟨p, 17, none⟩ = some (.int .i64 r0.stale) := hmq.rep.kL
                    have fL := hmq.rep.fz 17 (by omega)
                    have c7 : wq.cell? ⟨B, 7, none⟩ = some (.int .i64 eto) := hmq.ec 7 (by rw [← HE.out]; rfl)
                    have HMQ := hide hmq
                    clear hmq
                    have R9 := HMQ.out.rep.set_stale (r0.stale + 1)
                    have ko9 := R9.1.ko
                    have HN8 := hide (show ∃ V', V0.o = V'.o ∧ Rep _ p (stepR0 r0 E) V' ∧ Mv p V w V' _ from ⟨V0, rfl, by rw [HR.out]; exact R9.1, HMQ.out.mv.trans R9.2⟩)
                    clear R9
                    go_wp2_with fail
                    go_ret
                    obtain ⟨V', q1, q2⟩ := HN8.out
                    exact ⟨V', by rw [← q1]; rfl, by rw [HE.out]; exact q2⟩
                · have HR : Hid (stepR0 r0 E = { r0 with stale := r0.stale + 1 }) := by
                    show _ = _
                    unfold stepR0
                    rw [← HE.out]
                    dsimp only
                    rw [if_neg k1, HLA.out]
                    dsimp only
                    rw [HFI.out]
                    rw [if_neg (show ¬ (ek = 2 ∧ 0 < xn) by omega), if_neg (show ¬ ((ek = 3 ∨ ek = 4) ∧ 0 < xn) by omega), if_neg (show ¬ (ek = 5 ∧ 0 ≤ fi) by omega), if_neg (show ¬ (ek = 6 ∧ r0.now ≤ eto ∧ eto ≤ 1099511627776) by omega)]
                  have g6 : (ek == 6) = false := by simpa using k6
                  go_wp2_with fail
                  go_quiet (fail)
                  obtain ⟨wq, hwq⟩ : ∃ wq, wq = wy.drewN nq := ⟨_, rfl⟩
                  rw [← hwq]
                  have hmq : StepMid p V w r0 V0 B (B + 1) E ⟨xn, xc, xa⟩ wq := by rw [hwq]; exact HMM.out.on (below_drewN _ _)
                  clear hwq c0 c1 c3 c4 c5 c6 c7 x0 x1 x2 kN kL fL ko
                  have kL : wq.cell? ⟨p, 17, none⟩ = some (.int .i64 r0.stale) := hmq.rep.kL
                  have fL := hmq.rep.fz 17 (by omega)
                  have c7 : wq.cell? ⟨B, 7, none⟩ = some (.int .i64 eto) := hmq.ec 7 (by rw [← HE.out]; rfl)
                  have HMQ := hide hmq
                  clear hmq
                  have R9 := HMQ.out.rep.set_stale (r0.stale + 1)
                  have ko9 := R9.1.ko
                  have HN8 := hide (show ∃ V', V0.o = V'.o ∧ Rep _ p (stepR0 r0 E) V' ∧ Mv p V w V' _ from ⟨V0, rfl, by rw [HR.out]; exact R9.1, HMQ.out.mv.trans R9.2⟩)
                  clear R9
                  go_wp2_with fail
                  go_ret
                  obtain ⟨V', q1, q2⟩ := HN8.out
                  exact ⟨V', by rw [← q1]; rfl, by rw [HE.out]; exact q2⟩
end Go.Proofs.YtlccfpbbdgpjbaaGreatDoor
