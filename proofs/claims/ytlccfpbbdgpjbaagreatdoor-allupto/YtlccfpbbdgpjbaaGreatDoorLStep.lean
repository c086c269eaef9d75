import Derived.Test.YtlccfpbbdgpjbaaGreatDoorZLI
import Derived.Deep.RegionWith
import Derived.Deep.DeepCutAuto
namespace Go.Proofs.YtlccfpbbdgpjbaaGreatDoor
open Go.RowKit
attribute [local go_sem ↓] Go.wp_at_zero Go.wp_at_succ

theorem Law.xat {W w : World} {L : LV} {N : Int} (h : Law W w L N) {k : Nat} {c : Cl} (hk : L.cs[k]? = some c) :
    ∃ g cap, L.vx = .slice (some ⟨g, 0, none⟩) L.cs.length cap ∧ w.cell? ⟨L.G, 0, none⟩ = some (.slice (some ⟨g, 0, none⟩) L.cs.length cap) ∧ w.cell? ⟨g, k, none⟩ = some (.pointer (some ⟨c.x, 0, none⟩)) ∧ g < w.heap.size := by
  obtain ⟨hl, he⟩ := List.getElem?_eq_some_iff.1 hk
  have hr : Row w 0 47 1 encPtr L.vx (L.cs.map (·.x)) := h.says .rx
  have c0 : w.cell? ⟨L.G, 0, none⟩ = some L.vx := (h.says .hd).1 0 _ rfl
  obtain ⟨A, cap, hv, -, hA, -⟩ := hr.form
  rw [List.length_map] at hv hA
  obtain ⟨g, rfl⟩ := hA k hl
  have ho : L.vx.ownBlock = some g := by rw [hv]; rfl
  have hc := (hr.cell encPtr_len (g := g) (i := k) (j := 0) (u := .pointer (some ⟨c.x, 0, none⟩)) ho (by simpa using hl) (by simp [encPtr, he])).1
  exact ⟨g, cap, hv, by rw [← hv]; exact c0, by simpa using hc, (hr.lt g ho).2⟩
theorem Law.yat {W w : World} {L : LV} {N : Int} (h : Law W w L N) {k : Nat} {c : Cl} (hk : L.cs[k]? = some c) :
    ∃ g cap, L.vy = .slice (some ⟨g, 0, none⟩) L.cs.length cap ∧ w.cell? ⟨L.G, 1, none⟩ = some (.slice (some ⟨g, 0, none⟩) L.cs.length cap) ∧ w.cell? ⟨g, k, none⟩ = some (.pointer (some ⟨c.y, 0, none⟩)) ∧ g < w.heap.size := by
  obtain ⟨hl, he⟩ := List.getElem?_eq_some_iff.1 hk
  have hr : Row w 0 75 1 encPtr L.vy (L.cs.map (·.y)) := h.says .ry
  have c0 : w.cell? ⟨L.G, 1, none⟩ = some L.vy := (h.says .hd).1 1 _ rfl
  obtain ⟨A, cap, hv, -, hA, -⟩ := hr.form
  rw [List.length_map] at hv hA
  obtain ⟨g, rfl⟩ := hA k hl
  have ho : L.vy.ownBlock = some g := by rw [hv]; rfl
  have hc := (hr.cell encPtr_len (g := g) (i := k) (j := 0) (u := .pointer (some ⟨c.y, 0, none⟩)) ho (by simpa using hl) (by simp [encPtr, he])).1
  exact ⟨g, cap, hv, by rw [← hv]; exact c0, by simpa using hc, (hr.lt g ho).2⟩

/-- A list that came out of the program's client is none of the World's. -/
theorem Law.out {W w w' : World} {L : LV} {N : Int} (h : Law W w L N) {i : Nat} {c : Cl} (hi : L.cs[i]? = some c) {s' : PSt} {V' : PV} (hr : PRep w' c.x s' V') (hm : PMv c.V w V' w') {v : Value} (hv : ∀ k, v.ownBlock = some k → w.heap.size ≤ k ∧ 7 ≤ V'.tag k) :
    Free { L with cs := L.cs.set i { c with s := s', V := V' } } v := fun k hk j hj => by
  have hl : i < L.cs.length := (List.getElem?_eq_some_iff.1 hi).1
  obtain ⟨h1, h2⟩ := hv k hk
  have hch := (h.prog hi hr hm).1
  by_cases e : j = .pr i
  · subst e
    obtain ⟨d, hd, ht⟩ := hj
    rw [List.getElem?_set_self hl] at hd
    cases hd
    exact absurd ht (by show ¬ V'.tag k < 7; omega)
  · have := says_lt j (h.says j) k (hch.same j e k hj)
    omega

/-- Both clients have made the step. -/
theorem Bes.step {L : LV} {N : Int} (h : Bes L N) {k : Nat} {c : Cl} (hk : L.cs[k]? = some c) (e : PEv) (V' : PV) (U' : V6) :
    Bes { L with cs := (L.cs.set k { c with s := stepM c.s e, V := V' }).set k { c with s := stepM c.s e, V := V', r := stepR c.r e, U := U' } } (N + 1) := fun j d hd => by
  have hl : k < L.cs.length := (List.getElem?_eq_some_iff.1 hk).1
  by_cases ej : j = k
  · subst ej
    rw [List.getElem?_set_self (by simpa using hl)] at hd
    cases hd
    exact (h j c hk).step e
  · rw [List.getElem?_set_ne (Ne.symm ej), List.getElem?_set_ne (Ne.symm ej)] at hd
    exact (h j d hd).mono (by omega)

set_option maxRecDepth 100000 in
set_option maxHeartbeats 16000000 in
theorem stepped_any {W w : World} {L : LV} {N : Int} (h : Law W w L N) (hB : Bes L N) (hN : N ≤ 55000) (k : Nat) {c : Cl} (hk : L.cs[k]? = some c) (kind call attempt value timeout : Int) (safe : Bool) (draw tt : Int) (he : EvOk ⟨kind, call, attempt, value, timeout, safe, draw, tt⟩) (hd1 : draw ≤ 18446744073709551615) :
    Calls Tryz.prog 30 #[.pointer (some ⟨L.G, 0, none⟩), .int .i64 (k : Int), .agg #[.int .i64 kind, .int .i64 call, .int .i64 attempt, .int .i64 value, .int .i64 timeout, .bool safe, .int .u64 draw, .int .i64 tt]] w fun ex w' => ex = .returned (.bool true) ∧ ∃ L', Law W w' L' (N + 1) ∧ Bes L' (N + 1) ∧ L'.G = L.G ∧ L'.cs.length = L.cs.length := by
  obtain ⟨e, hev⟩ : ∃ e : PEv, e = ⟨kind, call, attempt, value, timeout, safe, draw, tt⟩ := ⟨_, rfl⟩
  have hl : k < L.cs.length := (List.getElem?_eq_some_iff.1 hk).1
  have hl3 : L.cs.length ≤ 3 := h.cl
  have hbc := hB k c hk
  have hbA : Below w.heap.size w (w.alloc (.cells #[.int .i64 kind, .int .i64 call, .int .i64 attempt, .int .i64 value, .int .i64 timeout, .bool safe, .int .u64 draw, .int .i64 tt] 39)) := (Below.refl _ _).alloc (Nat.le_refl _) _
  have hA := h.on hbA
  have b0 : (w.alloc (.cells #[.int .i64 kind, .int .i64 call, .int .i64 attempt, .int .i64 value, .int .i64 timeout, .bool safe, .int .u64 draw, .int .i64 tt] 39)).heap[w.heap.size]? = some (.cells #[.int .i64 kind, .int .i64 call, .int .i64 attempt, .int .i64 value, .int .i64 timeout, .bool safe, .int .u64 draw, .int .i64 tt] 39 (0, 0)) := heap_alloc_new w _
  have hbW : W.heap.size ≤ (w.alloc (.cells #[.int .i64 kind, .int .i64 call, .int .i64 attempt, .int .i64 value, .int .i64 timeout, .bool safe, .int .u64 draw, .int .i64 tt] 39)).heap.size := hA.below.size
  have lbE : w.heap.size < (w.alloc (.cells #[.int .i64 kind, .int .i64 call, .int .i64 attempt, .int .i64 value, .int .i64 timeout, .bool safe, .int .u64 draw, .int .i64 tt] 39)).heap.size := by simp
  have hfree : ∀ i, ¬ lown L i w.heap.size := fun i hi => by have := says_lt i (h.says i) _ hi; omega
  have hevV : evV e = .agg #[.int .i64 kind, .int .i64 call, .int .i64 attempt, .int .i64 value, .int .i64 timeout, .bool safe, .int .u64 draw, .int .i64 tt] := by rw [hev]; rfl
  have hencE : encEv e = #[.int .i64 kind, .int .i64 call, .int .i64 attempt, .int .i64 value, .int .i64 timeout, .bool safe, .int .u64 draw, .int .i64 tt] := by rw [hev]; rfl
  have hdr0 : 0 ≤ e.draw := by rw [hev]; exact he.draw
  have hdr1 : e.draw ≤ 18446744073709551615 := by rw [hev]; exact hd1
  rw [← hev] at he
  have htag : 7 ≤ c.V.tag w.heap.size := by
    rcases Nat.lt_or_ge (c.V.tag w.heap.size) 7 with h7 | h7
    · exact absurd ⟨c, hk, h7⟩ (hfree (.pr k))
    · exact h7
  have hown : ¬ own c.y c.U w.heap.size := fun ho => hfree (.dr k) ⟨c, hk, ho⟩
  have HBES := hide hB
  have hst := hbc.st
  have HSIM := hide (sim_step hbc.sim hbc.inv e)
  have HLEN := hide (stepA_len hbc.inv (by omega) e)
  have hnl := h.nl
  obtain ⟨gx, capx, hvx, q0, qx, lx⟩ := hA.xat hk
  have q0' := q0
  have HAN := hide hA
  have HSD := hide (fun w' (hb : Below (w.alloc (.cells #[.int .i64 kind, .int .i64 call, .int .i64 attempt, .int .i64 value, .int .i64 timeout, .bool safe, .int .u64 draw, .int .i64 tt] 39)).heap.size (w.alloc (.cells #[.int .i64 kind, .int .i64 call, .int .i64 attempt, .int .i64 value, .int .i64 timeout, .bool safe, .int .u64 draw, .int .i64 tt] 39)) w') => (rep_step (hedge_all c.x c.s.cfg) (((hA.on hb).says (.pr k)) c hk) hbc.inv (by omega) hbc.sp (by omega) e he).mono (R' := fun ex w'' => ∃ v V', ex = .returned v ∧ Gives (w.alloc (.cells #[.int .i64 kind, .int .i64 call, .int .i64 attempt, .int .i64 value, .int .i64 timeout, .bool safe, .int .u64 draw, .int .i64 tt] 39)) w'' c.V V' c.x v (stepA c.s e) (stepM c.s e)) (fun ex w'' ⟨v, V', h1, hg⟩ => ⟨v, V', h1, hg.1.base hb.size, hg.2.1, (PMv.of_below hb).trans hg.2.2.1, hg.2.2.2⟩))
  rw [hevV] at HSD
  have HRS := hide (fun w' (hR : Rep w' c.y c.r c.U) => rstep_any (N := N) (M := N) c.y c.s c.r c.U w' hR hbc.sim hbc.inv (by omega) (by omega) (by omega) e hdr0 hdr1)
  rw [hencE] at HRS
  clear h hB hbA hA hfree hbc hst hevV hencE hdr0 hdr1 he hd1 hev q0'
  go_enter Tryz.func30, Tryz.ntmps30
  go_wp2_with fail
  generalize (w.alloc (.cells #[.int .i64 kind, .int .i64 call, .int .i64 attempt, .int .i64 value, .int .i64 timeout, .bool safe, .int .u64 draw, .int .i64 tt] 39)) = wA at b0 hbW lbE q0 qx lx HAN HSD ⊢
  generalize w.heap.size = bE at b0 lbE htag hown ⊢
  have d0 : wA.cell? ⟨bE, 0, none⟩ = some (.int .i64 kind) := cell_of_row wA bE 0 _ _ _ b0
  have d1 : wA.cell? ⟨bE, 1, none⟩ = some (.int .i64 call) := cell_of_row wA bE 1 _ _ _ b0
  have d2 : wA.cell? ⟨bE, 2, none⟩ = some (.int .i64 attempt) := cell_of_row wA bE 2 _ _ _ b0
  have d3 : wA.cell? ⟨bE, 3, none⟩ = some (.int .i64 value) := cell_of_row wA bE 3 _ _ _ b0
  have d4 : wA.cell? ⟨bE, 4, none⟩ = some (.int .i64 timeout) := cell_of_row wA bE 4 _ _ _ b0
  have d5 : wA.cell? ⟨bE, 5, none⟩ = some (.bool safe) := cell_of_row wA bE 5 _ _ _ b0
  have d6 : wA.cell? ⟨bE, 6, none⟩ = some (.int .u64 draw) := cell_of_row wA bE 6 _ _ _ b0
  have d7 : wA.cell? ⟨bE, 7, none⟩ = some (.int .i64 tt) := cell_of_row wA bE 7 _ _ _ b0
  have HB0 := hide b0
  clear b0
  have hki : (k : Int) < (L.cs.length : Int) := by omega
  go_cut [7] (fun v wx => ∃ V2, Gives wA wx c.V V2 c.x v (stepA c.s e) (stepM c.s e))
  case first =>
    as_aux_lemma =>
      go_region_with (first
        | (go_at_call 20; refine (HSD.out _ (by first | exact (Below.refl _ _).drew | exact Below.refl _ _)).mono ?_; rintro ee w3 ⟨v, V2, rfl, hg⟩; have HG : Hid (∃ V2, Gives wA w3 c.V V2 c.x v (stepA c.s e) (stepM c.s e)) := ⟨V2, hg⟩; clear hg))
      all_goals
        go_wp2_with fail
        go_meet
        exact HG.out
  case rest =>
    obtain ⟨V2, hrow, hp2, hm2, ht2⟩ := hcut
    rename World => wx
    clear d0 d1 d2 d3 d4 d5 d6 d7 q0 qx lx HSD
    obtain ⟨hch1, hL1⟩ := HAN.out.prog hk hp2 hm2
    have hfree1 := HAN.out.out hk hp2 hm2 (fun q hq => ⟨(hrow.lt q hq).1, ht2 q hq⟩)
    have bx0 := (hm2.block bE lbE htag).trans HB0.out
    have hk1 : (L.cs.set k { c with s := stepM c.s e, V := V2 })[k]? = some { c with s := stepM c.s e, V := V2 } := List.getElem?_set_self hl
    have sz1 := hm2.size
    have HRD := hide (fun w' (hb : Below wx.heap.size wx w') => (HRS.out w' (((hL1.on hb).says (.dr k)) { c with s := stepM c.s e, V := V2 } hk1)).mono (R' := fun ex w'' => ∃ U', ex = .returned U'.o ∧ Rep w'' c.y (stepR c.r e) U' ∧ Mv c.y c.U wx U' w'') (fun ex w'' ⟨U', h1, h2, h3⟩ => ⟨U', h1, h2, (Mv.of_below hb).trans h3⟩))
    obtain ⟨gy, capy, hvy, q1, qy, ly⟩ := hL1.yat hk1
    have hcl : (L.cs.set k { c with s := stepM c.s e, V := V2 }).length = L.cs.length := by simp
    rw [hcl] at q1
    dsimp only at q1 qy
    have d0 : wx.cell? ⟨bE, 0, none⟩ = some (.int .i64 kind) := cell_of_row wx bE 0 _ _ _ bx0
    have d1 : wx.cell? ⟨bE, 1, none⟩ = some (.int .i64 call) := cell_of_row wx bE 1 _ _ _ bx0
    have d2 : wx.cell? ⟨bE, 2, none⟩ = some (.int .i64 attempt) := cell_of_row wx bE 2 _ _ _ bx0
    have d3 : wx.cell? ⟨bE, 3, none⟩ = some (.int .i64 value) := cell_of_row wx bE 3 _ _ _ bx0
    have d4 : wx.cell? ⟨bE, 4, none⟩ = some (.int .i64 timeout) := cell_of_row wx bE 4 _ _ _ bx0
    have d5 : wx.cell? ⟨bE, 5, none⟩ = some (.bool safe) := cell_of_row wx bE 5 _ _ _ bx0
    have d6 : wx.cell? ⟨bE, 6, none⟩ = some (.int .u64 draw) := cell_of_row wx bE 6 _ _ _ bx0
    have d7 : wx.cell? ⟨bE, 7, none⟩ = some (.int .i64 tt) := cell_of_row wx bE 7 _ _ _ bx0
    have HL1 := hide hL1
    have HFR1 := hide hfree1
    have HROW := hide hrow
    clear hrow hp2 hm2 ht2 hch1 hL1 hfree1 bx0 HB0 HAN HRS
    go_wp2_with fail
    go_cut [8] (fun v wx2 => ∃ U', v = U'.o ∧ Rep wx2 c.y (stepR c.r e) U' ∧ Mv c.y c.U wx U' wx2)
    case first =>
      as_aux_lemma =>
        go_region_with (first
          | (go_at_call 52; refine (HRD.out _ (by first | exact (Below.refl _ _).drew | exact Below.refl _ _)).mono ?_; rintro ee w3 ⟨U', rfl, hg⟩; have HG : Hid (∃ U2, U'.o = U2.o ∧ Rep w3 c.y (stepR c.r e) U2 ∧ Mv c.y c.U wx U2 w3) := ⟨U', rfl, hg⟩; clear hg))
        all_goals
          go_wp2_with fail
          go_meet
          exact HG.out
    case rest =>
      obtain ⟨U2, rfl, hR2, hM2⟩ := hcut
      rename World => wx2
      clear d0 d1 d2 d3 d4 d5 d6 d7 q1 qy ly HRD
      obtain ⟨hch2, hL2⟩ := HL1.out.doc hk1 (r' := stepR c.r e) (U' := U2) hR2 hM2
      have hrl := hch2.row HROW.out HFR1.out (fun _ _ h => h)
      have hfree2 := hch2.free HFR1.out (fun q hq => ⟨(HROW.out.lt q hq).2, fun h => h⟩)
      have hrm := hR2.ro
      rw [HSIM.out.2] at hrm
      have HBE := hide (HBES.out.step hk e V2 U2)
      have hlenA := HLEN.out
      have HACT := hide (fun wr (hb : Below wx2.heap.size wx2 wr) => actions_any (hL2.on hb) (N' := N + 1) (by omega) (hrl.below hb) hbW hfree2 hlenA (by have := hL2.nl; omega))
      dsimp only at HACT
      obtain ⟨A1, cap1, rfl, -, hA1, -⟩ := hrl.form
      obtain ⟨A2, cap2, hu2, -, hA2, -⟩ := hrm.form
      have hou : U2.o.ownBlock = (Value.slice A2 (stepA c.s e).length cap2).ownBlock := by rw [hu2]
      have HCB : Hid (∀ i (_ : i < (stepA c.s e).length), ∃ g g' k0 k1 k2 k3 k4 k5, A1 = some ⟨g, 0, none⟩ ∧ A2 = some ⟨g', 0, none⟩ ∧ g < wx2.heap.size ∧ g' < wx2.heap.size ∧ wx2.cell? ⟨g, i * 6, none⟩ = some (.int .i64 k0) ∧ wx2.cell? ⟨g, i * 6 + 1, none⟩ = some (.int .i64 k1) ∧ wx2.cell? ⟨g, i * 6 + 2, none⟩ = some (.int .i64 k2) ∧ wx2.cell? ⟨g, i * 6 + 3, none⟩ = some (.int .i64 k3) ∧ wx2.cell? ⟨g, i * 6 + 4, none⟩ = some (.int .i64 k4) ∧ wx2.cell? ⟨g, i * 6 + 5, none⟩ = some (.int .i64 k5) ∧ wx2.cell? ⟨g', i * 6, none⟩ = some (.int .i64 k0) ∧ wx2.cell? ⟨g', i * 6 + 1, none⟩ = some (.int .i64 k1) ∧ wx2.cell? ⟨g', i * 6 + 2, none⟩ = some (.int .i64 k2) ∧ wx2.cell? ⟨g', i * 6 + 3, none⟩ = some (.int .i64 k3) ∧ wx2.cell? ⟨g', i * 6 + 4, none⟩ = some (.int .i64 k4) ∧ wx2.cell? ⟨g', i * 6 + 5, none⟩ = some (.int .i64 k5)) := fun i hi => by
        obtain ⟨g, rfl⟩ := hA1 i hi
        obtain ⟨g', rfl⟩ := hA2 i hi
        have e1 := fun j u (hu : (encAct (stepA c.s e)[i])[j]? = some u) => (hrl.cell encAct_len (g := g) (i := i) (j := j) (u := u) rfl hi hu).1
        have e2 := fun j u (hu : (encAct (stepA c.s e)[i])[j]? = some u) => (hrm.cell encAct_len (g := g') (i := i) (j := j) (u := u) (by rw [hou]; rfl) hi hu).1
        exact ⟨g, g', _, _, _, _, _, _, rfl, rfl, (hrl.lt g rfl).2, (hrm.lt g' (by rw [hou]; rfl)).2, e1 0 _ rfl, e1 1 _ rfl, e1 2 _ rfl, e1 3 _ rfl, e1 4 _ rfl, e1 5 _ rfl, e2 0 _ rfl, e2 1 _ rfl, e2 2 _ rfl, e2 3 _ rfl, e2 4 _ rfl, e2 5 _ rfl⟩
      rw [hu2]
      clear hch2 hrl hrm hfree2 hR2 hM2 hL2 hA1 hA2 hou hu2 HROW HFR1 HL1 HLEN HSIM HBES
      generalize (stepA c.s e).length = n at HCB HACT hlenA ⊢
      go_wp2_with fail
      go_loopw [9, 10] (fun ok iv wr => ∃ i : Nat, i ≤ n ∧ ok = .bool true ∧ iv = .int .i64 (i : Int) ∧ Below wx2.heap.size wx2 wr) (fun _ iv _ => n - (intOf iv).toNat)
      case atStart => exact ⟨0, Nat.zero_le _, by simp, rfl, Below.refl _ _⟩
      case round =>
        obtain ⟨i, hi, rfl, rfl, hb⟩ := hrel
        have HBL := hide hb
        by_cases hlt : (i : Int) < (n : Int)
        · obtain ⟨g, g', k0, k1, k2, k3, k4, k5, rfl, rfl, lg, lg', e0, e1, e2, e3, e4, e5, f0, f1, f2, f3, f4, f5⟩ := HCB.out i (by omega)
          replace e0 := (hb.cell (p := ⟨g, i * 6, none⟩) lg).trans e0
          replace e1 := (hb.cell (p := ⟨g, i * 6 + 1, none⟩) lg).trans e1
          replace e2 := (hb.cell (p := ⟨g, i * 6 + 2, none⟩) lg).trans e2
          replace e3 := (hb.cell (p := ⟨g, i * 6 + 3, none⟩) lg).trans e3
          replace e4 := (hb.cell (p := ⟨g, i * 6 + 4, none⟩) lg).trans e4
          replace e5 := (hb.cell (p := ⟨g, i * 6 + 5, none⟩) lg).trans e5
          replace f0 := (hb.cell (p := ⟨g', i * 6, none⟩) lg').trans f0
          replace f1 := (hb.cell (p := ⟨g', i * 6 + 1, none⟩) lg').trans f1
          replace f2 := (hb.cell (p := ⟨g', i * 6 + 2, none⟩) lg').trans f2
          replace f3 := (hb.cell (p := ⟨g', i * 6 + 3, none⟩) lg').trans f3
          replace f4 := (hb.cell (p := ⟨g', i * 6 + 4, none⟩) lg').trans f4
          replace f5 := (hb.cell (p := ⟨g', i * 6 + 5, none⟩) lg').trans f5
          have HBN := hide (fun q => hb.trans ((below_drewN wr q).mono hb.size))
          clear hb
          go_wp2_with fail
          go_quiet (fail)
          go_wp2_with fail
          go_roundw
          case rel => exact ⟨i + 1, by omega, by simp, by go_num, HBN.out _⟩
          case measure => simp [intOf]; omega
        · clear hb
          go_wp2_with fail
          refine (HACT.out _ HBL.out).mono ?_
          rintro ee w5 ⟨rfl, L3, hL3, hG3, hcs3, -, -, -⟩
          have HE : Hid (∃ L', Law W w5 L' (N + 1) ∧ Bes L' (N + 1) ∧ L'.G = L.G ∧ L'.cs.length = L.cs.length) := ⟨L3, hL3, fun j d hd => HBE.out j d (by rw [hcs3] at hd; exact hd), hG3, by rw [hcs3]; simp⟩
          clear hL3 hG3 hcs3 HACT
          go_wp2_with fail
          go_ret
          exact ⟨rfl, HE.out⟩
end Go.Proofs.YtlccfpbbdgpjbaaGreatDoor
