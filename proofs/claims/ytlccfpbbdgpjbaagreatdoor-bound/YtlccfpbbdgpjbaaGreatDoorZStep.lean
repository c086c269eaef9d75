import Derived.Test.YtlccfpbbdgpjbaaGreatDoorZRing
import Derived.Test.YtlccfpbbdgpjbaaGreatDoorZAdv
namespace Go.Proofs.YtlccfpbbdgpjbaaGreatDoor
open Go.RowKit Go.Maps

section
variable {w : World} {p : Nat} {s : PSt} {V : PV}

theorem callL_known (l : List PCall) (q : Int → Nat) (n : Int) : (mget (callL l q) n).isSome = (l.find? (fun c => c.number == n)).isSome := by
  cases h : l.find? (fun c => c.number == n) with
  | none => rw [mget_callL_none h]; rfl
  | some c => rw [mget_callL h]; rfl
theorem callL_len (l : List PCall) (q : Int → Nat) : (callL l q).length = l.length := by unfold callL; rw [List.length_map]
theorem callL_ptr (l : List PCall) (q : Int → Nat) : ∀ x ∈ callL l q, ∃ q', x.2 = .pointer (some ⟨q', 0, none⟩) := by
  intro x hx
  obtain ⟨c, _, rfl⟩ := List.mem_map.1 hx
  exact ⟨_, rfl⟩

theorem rep_why (h : PRep w p s V) {N : Int} (hI : Inv N s) (e : PEv) (hw : (Lit.int .i64 e.call).wf = true) :
    Calls Tryz.prog 64 #[.pointer (some ⟨p, 0, none⟩), evV e] w fun ex w' => ex = .returned (.int .i64 (whyM s e)) ∧ Below w.heap.size w w' := by
  have := whyNot_any p V.bc s.now s.cfg.flight e (callL s.calls V.q) w hw hI.n0 hI.n1 (callL_ptr _ _) (h.kk _ _ rfl) (h.kk _ _ rfl) (h.kk _ _ rfl) h.mC
  rw [callL_known, callL_len] at this
  exact this

set_option maxRecDepth 100000 in
set_option maxHeartbeats 8000000 in
theorem rep_submit (HA : HedgeAll p s.cfg) {N : Int} (h : PRep w p s V) (hI : Inv N s) (hN : N ≤ 60000) (e : PEv) (hw : (Lit.int .i64 e.call).wf = true) :
    Calls Tryz.prog 37 #[.pointer (some ⟨p, 0, none⟩), evV e] w fun ex w' => ∃ v V', ex = .returned v ∧ Gives w w' V V' p v (submitA s e) (submitM s e) := by
  by_cases hy : whyM s e = 0
  · rw [show submitA s e = admitA s e from if_pos hy, show submitM s e = admitM s e from if_pos hy]
    have HW := hide (fun W (hb : Below w.heap.size w W) => rep_why (h.on hb) hI e hw)
    rw [hy] at HW
    have HAD := hide (fun W (hb : Below w.heap.size w W) => rep_admit HA (h.on hb) hI hN e hw hy)
    have HM := hide (fun W (hb : Below w.heap.size w W) => PMv.of_below (V := V) hb)
    generalize admitA s e = acts at HAD ⊢
    generalize admitM s e = s' at HAD ⊢
    clear h hI hy hw
    obtain ⟨k, c, a, v, t, sf, d, o⟩ := e
    unfold evV at HW HAD ⊢
    dsimp only at HW HAD ⊢
    go_enter Tryz.func37, Tryz.ntmps37
    go_wp2_with fail
    have hB0 : Below w.heap.size w (w.alloc (.cells #[.int .i64 k, .int .i64 c, .int .i64 a, .int .i64 v, .int .i64 t, .bool sf, .int .u64 d, .int .i64 o] 39)) := (Below.refl _ _).alloc (Nat.le_refl _) _
    have e0 : ∀ j u, [Value.int .i64 k, .int .i64 c, .int .i64 a, .int .i64 v, .int .i64 t, .bool sf, .int .u64 d, .int .i64 o][j]? = some u → (w.alloc (.cells #[.int .i64 k, .int .i64 c, .int .i64 a, .int .i64 v, .int .i64 t, .bool sf, .int .u64 d, .int .i64 o] 39)).cell? ⟨w.heap.size, j, none⟩ = some u := fun j u hu => by
      rw [cell_of_row _ _ _ _ _ _ (heap_alloc_new w _)]
      simpa using hu
    have l1 : w.heap.size < (w.alloc (.cells #[.int .i64 k, .int .i64 c, .int .i64 a, .int .i64 v, .int .i64 t, .bool sf, .int .u64 d, .int .i64 o] 39)).heap.size := by simp
    refine (HW.out _ hB0).mono ?_
    rintro e w1 ⟨rfl, hb1⟩
    generalize w.alloc (.cells #[.int .i64 k, .int .i64 c, .int .i64 a, .int .i64 v, .int .i64 t, .bool sf, .int .u64 d, .int .i64 o] 39) = W at hB0 e0 l1 hb1
    have hB1 : Below w.heap.size w w1 := hB0.trans (hb1.mono hB0.size)
    have g0 := (hb1.cell l1).trans (e0 0 _ rfl)
    have g1 := (hb1.cell l1).trans (e0 1 _ rfl)
    have g2 := (hb1.cell l1).trans (e0 2 _ rfl)
    have g3 := (hb1.cell l1).trans (e0 3 _ rfl)
    have g4 := (hb1.cell l1).trans (e0 4 _ rfl)
    have g5 := (hb1.cell l1).trans (e0 5 _ rfl)
    have g6 := (hb1.cell l1).trans (e0 6 _ rfl)
    have g7 := (hb1.cell l1).trans (e0 7 _ rfl)
    have l2 : w.heap.size < w1.heap.size := Nat.lt_of_lt_of_le l1 hb1.size
    clear HW hb1 e0 hB0 l1
    go_wp2_with fail
    refine (HAD.out _ hB1).mono ?_
    rintro e w2 ⟨v2, V2, rfl, g⟩
    have HG := hide (Gives.after (HM.out _ hB1) g)
    clear g HAD HM
    go_wp2_with fail
    go_ret
    exact ⟨v2, V2, rfl, HG.out⟩
  · rw [show submitA s e = [⟨4, e.call, 0, whyM s e, 0, 0⟩] from if_neg hy, show submitM s e = s from if_neg hy]
    have hyy : whyP e.timeout s.now s.cfg.flight (mget (callL s.calls V.q) e.call).isSome (callL s.calls V.q).length = whyM s e := by rw [callL_known, callL_len]; rfl
    refine (submit_refuse p V.bc s.now s.cfg.flight e (callL s.calls V.q) w hw hI.n0 hI.n1 (callL_ptr _ _) (h.kk _ _ rfl) (h.kk _ _ rfl) (h.kk _ _ rfl) h.mC (whyM s e) hyy hy).mono ?_
    rintro ex w' ⟨v, rfl, hr, hb⟩
    refine ⟨v, V, rfl, hr, h.on hb, PMv.of_below hb, fun k hk => ?_⟩
    have := (hr.lt k hk).1
    rcases Nat.lt_or_ge (V.tag k) 7 with h2 | h2
    · have := h.tl k h2
      omega
    · exact h2

theorem rep_cancel {N : Int} (h : PRep w p s V) (hI : Inv N s) (hN : N ≤ 60000) (hs : s.calls = [] ∨ 0 < s.set) (n : Int) (hw : (Lit.int .i64 n).wf = true) (hz : s.stale ≤ 4611686018427387904) :
    Calls Tryz.prog 39 #[.pointer (some ⟨p, 0, none⟩), .int .i64 n] w fun ex w' => ∃ v V', ex = .returned v ∧ Gives w w' V V' p v (cancelA s n) (cancelM s n) := by
  unfold cancelA cancelM
  cases hc : callOf s n with
  | none =>
    rw [Option.isSome_none, if_neg (by simp), if_neg (by simp)]
    refine (cancel_stale p V.bc n s.stale (callL s.calls V.q) w hw (h.kk _ _ rfl) h.mC (mget_callL_none hc) hI.z0 hz (h.kk _ _ rfl) (h.fz _ (by omega))).mono ?_
    rintro ex w' ⟨rfl, hcc, hF⟩
    obtain ⟨h1, m1⟩ := h.set_cell (s' := staleM s) hF hcc rfl rfl rfl rfl rfl rfl id
    exact ⟨_, V, rfl, Gives.of_nil h1 m1⟩
  | some c =>
    obtain ⟨hm, hn⟩ := callOf_mem hc
    subst hn
    rw [Option.isSome_some, if_pos rfl, if_pos rfl]
    have hs' : 0 < s.set := by
      rcases hs with e | e
      · rw [e] at hm; cases hm
      · exact e
    have hlk0 := h.mC.look1 Tryz.underlying3 Tryz.underlying88 (z := .pointer none) (by kernel_rfl) okPtr_none hw
    rw [mget_callL hc, Option.getD_some] at hlk0
    have cC : w.cell? ⟨p, 15, none⟩ = some (.map (some V.bc)) := h.kk _ _ rfl
    have HF := hide (rep_finish h hm 4 0 hs' (by have := hI.aN; omega) (by have := hI.tN; omega))
    have lp := h.lp
    clear h hI hs hs'
    go_enter Tryz.func39, Tryz.ntmps39
    go_wp2_with fail
    refine HF.out.mono ?_
    rintro e w1 ⟨v, V1, rfl, g⟩
    have HG := hide g
    clear g HF
    go_wp2_with fail
    go_ret
    exact ⟨v, V1, rfl, HG.out⟩
end
end Go.Proofs.YtlccfpbbdgpjbaaGreatDoor

namespace Go.Proofs.YtlccfpbbdgpjbaaGreatDoor
open Go.RowKit Go.Maps

theorem mget_attOf {l : List (Int × PAtt)} {n : Int} {x : Int × PAtt} (h : l.find? (fun a => a.1 == n) = some x) : mget (attL l) n = some (attV x.2) := by
  unfold mget attL
  rw [List.find?_map]
  have e : ((fun p : Int × Value => p.1 == n) ∘ fun p : Int × PAtt => (p.1, attV p.2)) = fun a => a.1 == n := rfl
  rw [e, h]
  rfl
theorem mget_attOf_none {l : List (Int × PAtt)} {n : Int} (h : l.find? (fun a => a.1 == n) = none) : mget (attL l) n = none := by
  unfold mget attL
  rw [List.find?_map]
  have e : ((fun p : Int × Value => p.1 == n) ∘ fun p : Int × PAtt => (p.1, attV p.2)) = fun a => a.1 == n := rfl
  rw [e, h]
  rfl
theorem attL_filter (l : List (Int × PAtt)) (n : Int) : (attL l).filter (fun p => p.1 != n) = attL (l.filter (fun a => a.1 != n)) := by
  unfold attL
  rw [List.filter_map]
  rfl

section
variable {w : World} {p : Nat} {s : PSt} {V : PV}

set_option maxRecDepth 100000 in
set_option maxHeartbeats 8000000 in
theorem rep_answer_ok {N : Int} (h : PRep w p s V) (hI : Inv N s) (hN : N ≤ 60000) (call att value timeout draw to' : Int) (safe : Bool) {a : PAtt} {c : PCall} (hatt : attOf s att = some (att, a)) (hcall : callOf s a.call = some c) (hs : 0 < s.set) :
    Calls Tryz.prog 38 #[.pointer (some ⟨p, 0, none⟩), evV ⟨2, call, att, value, timeout, safe, draw, to'⟩] w fun ex w' => ∃ v V', ex = .returned v ∧ Gives w w' V V' p v (finishA (addM (closeM s att) (s.now - a.launched)) c.number 1 value) (finishM (addM (closeM s att) (s.now - a.launched)) c.number) := by
  have lp := h.lp
  obtain ⟨hc, hn⟩ := callOf_mem hcall
  have hma : (att, a) ∈ s.atts := List.mem_of_find?_eq_some hatt
  obtain ⟨_, _, a3, a4, _⟩ := hI.ab _ hma
  dsimp only at a3 a4
  have hn1 := hI.n1
  have hwa : (Lit.int .i64 att).wf = true := h.mA.wf (att, attV a) (List.mem_map.2 ⟨(att, a), hma, rfl⟩)
  have hwc : (Lit.int .i64 a.call).wf = true := by
    rw [← hn]
    exact h.mC.wf (c.number, .pointer (some ⟨V.q c.number, 0, none⟩)) (List.mem_map.2 ⟨c, hc, rfl⟩)
  have hga := mget_attOf hatt
  unfold evV
  dsimp only
  obtain ⟨B, hBx⟩ : ∃ B, B = w.alloc (.cells #[.int .i64 2, .int .i64 call, .int .i64 att, .int .i64 value, .int .i64 timeout, .bool safe, .int .u64 draw, .int .i64 to'] 39) := ⟨_, rfl⟩
  have hB0 : Below w.heap.size w B := by rw [hBx]; exact (Below.refl _ _).alloc (Nat.le_refl _) _
  have e0 : B.cell? ⟨w.heap.size, 0, none⟩ = some (.int .i64 2) := by rw [hBx]; simp
  have e2 : B.cell? ⟨w.heap.size, 2, none⟩ = some (.int .i64 att) := by rw [hBx]; simp
  have e3 : B.cell? ⟨w.heap.size, 3, none⟩ = some (.int .i64 value) := by rw [hBx]; simp
  have e6 : B.cell? ⟨w.heap.size, 6, none⟩ = some (.int .u64 draw) := by rw [hBx]; simp
  have lB : w.heap.size < B.heap.size := World.block_lt_of_cell? B _ e0
  have htE : 7 ≤ V.tag w.heap.size := by
    rcases Nat.lt_or_ge (V.tag w.heap.size) 7 with h2 | h2
    · have := h.tl _ h2
      omega
    · exact h2
  have hB := h.on hB0
  have htA : 7 ≤ V.tag B.heap.size := by
    rcases Nat.lt_or_ge (V.tag B.heap.size) 7 with h2 | h2
    · have := hB.tl _ h2
      omega
    · exact h2
  have hlk2 : ∀ O : Obj, (Instr.lookup 89 (.map (some V.ba)) (.int .i64 att) true).run Tryz.prog (B.alloc O).drew = .ok (.tuple #[.agg #[.int .i64 a.call, .int .i64 a.launched], .bool true]) (B.alloc O).drew := fun O => by
    have h1 := (hB.on (((Below.refl B.heap.size B).alloc (Nat.le_refl _) O).drew)).mA.look2 Tryz.underlying3 Tryz.underlying89 (z := .agg #[.int .i64 0, .int .i64 0]) (by kernel_rfl) okAtt_zero hwa
    rw [hga] at h1
    exact h1
  have hlk : (Instr.lookup 89 (.map (some V.ba)) (.int .i64 att) true).run Tryz.prog B.drew = .ok (.tuple #[.agg #[.int .i64 a.call, .int .i64 a.launched], .bool true]) B.drew := by
    have h1 := hB.drew.mA.look2 Tryz.underlying3 Tryz.underlying89 (z := .agg #[.int .i64 0, .int .i64 0]) (by kernel_rfl) okAtt_zero hwa
    rw [hga] at h1
    exact h1
  have cA : B.cell? ⟨p, 16, none⟩ = some (.map (some V.ba)) := hB.kk _ _ rfl
  have lpB := hB.lp
  have HB := hide hBx
  have HH := hide hB
  have hgc : mget (callL s.calls V.q) a.call = some (.pointer (some ⟨V.q a.call, 0, none⟩)) := mget_callL hcall
  have Hgc := hide hgc
  have HI := hide hI
  have Hn := hide hn
  have Hma := hide hma
  clear hBx h hB hga hatt hgc hcall hI hn hma
  go_enter Tryz.func38, Tryz.ntmps38
  go_wp2_with fail
  all_goals (try rw [← HB.out])
  go_region
  go_wp2_with fail
  have hW0 : Below B.heap.size B (B.alloc (.cells #[.int .i64 a.call, .int .i64 a.launched] 111)).drew := ((Below.refl _ _).alloc (Nat.le_refl _) _).drew
  have b0 : (B.alloc (.cells #[.int .i64 a.call, .int .i64 a.launched] 111)).drew.cell? ⟨B.heap.size, 0, none⟩ = some (.int .i64 a.call) := by
    show (B.alloc _).cell? _ = _
    simp
  have b1 : (B.alloc (.cells #[.int .i64 a.call, .int .i64 a.launched] 111)).drew.cell? ⟨B.heap.size, 1, none⟩ = some (.int .i64 a.launched) := by
    show (B.alloc _).cell? _ = _
    simp
  generalize (B.alloc (.cells #[.int .i64 a.call, .int .i64 a.launched] 111)).drew = W1 at hW0 b0 b1 ⊢
  have h1 := HH.out.on hW0
  have lW1 := h1.lp
  have cA1 : W1.cell? ⟨p, 16, none⟩ = some (.map (some V.ba)) := h1.kk _ _ rfl
  have f2 := (hW0.cell lB).trans e2
  have lE1 : w.heap.size < W1.heap.size := Nat.lt_of_lt_of_le lB hW0.size
  have lA1 : B.heap.size < W1.heap.size := World.block_lt_of_cell? W1 _ b0
  obtain ⟨w2, hrun, hM2, ht2⟩ := h1.drew.mA.del Tryz.underlying3 Tryz.underlying89 hwa 0
  rw [attL_filter] at hM2
  have hK2 := Kp.of_map ht2
  obtain ⟨h2, m2⟩ := h1.drew.set_a hM2 hK2
  have H2 : Hid (PRep w2 p (closeM s att) V) := h2
  have nE : w.heap.size ∉ [V.ba] := by
    intro e
    have e' : w.heap.size = V.ba := by simpa using e
    rw [e', HH.out.ta] at htE
    omega
  have nA : B.heap.size ∉ [V.ba] := by
    intro e
    have e' : B.heap.size = V.ba := by simpa using e
    rw [e', HH.out.ta] at htA
    omega
  have g0 : w2.cell? ⟨w.heap.size, 0, none⟩ = some (.int .i64 2) := (hK2.cell lE1 nE 0).trans ((hW0.cell lB).trans e0)
  have g3 : w2.cell? ⟨w.heap.size, 3, none⟩ = some (.int .i64 value) := (hK2.cell lE1 nE 3).trans ((hW0.cell lB).trans e3)
  have g6 : w2.cell? ⟨w.heap.size, 6, none⟩ = some (.int .u64 draw) := (hK2.cell lE1 nE 6).trans ((hW0.cell lB).trans e6)
  have d0 : w2.cell? ⟨B.heap.size, 0, none⟩ = some (.int .i64 a.call) := (hK2.cell lA1 nA 0).trans b0
  have d1 : w2.cell? ⟨B.heap.size, 1, none⟩ = some (.int .i64 a.launched) := (hK2.cell lA1 nA 1).trans b1
  have M2 := hide (((PMv.of_below (V := V) (hB0.trans (hW0.mono hB0.size))).trans (PMv.of_below (Below.refl _ _).drew)).trans m2)
  have cC2 : w2.cell? ⟨p, 15, none⟩ = some (.map (some V.bc)) := h2.kk _ _ rfl
  have cN2 : w2.cell? ⟨p, 10, none⟩ = some (.int .i64 s.now) := h2.kk _ _ rfl
  have x1 : w2.cell? ⟨V.q a.call, 1, none⟩ = some (.bool c.safe) := by
    have := (h2.cc c hc 1 _ rfl).1
    rw [Hn.out] at this
    exact this
  have lp2 := h2.lp
  have lE2 : w.heap.size < w2.heap.size := World.block_lt_of_cell? w2 _ g0
  have lA2 : B.heap.size < w2.heap.size := World.block_lt_of_cell? w2 _ d0
  have lx2 : V.q a.call < w2.heap.size := World.block_lt_of_cell? w2 _ x1
  have hlk3 := h2.drew.mC.look1 Tryz.underlying3 Tryz.underlying88 (z := .pointer none) (by kernel_rfl) okPtr_none hwc
  rw [Hgc.out, Option.getD_some] at hlk3
  clear h1 h2 m2 hM2 ht2 hK2 hW0 b0 b1 e0 e2 e3 e6 hlk hlk2 cA lW1 nE nA hwa hwc Hgc HB hB0
  go_region
  clear hrun cA1 f2 lE1 lA1
  go_wp2_with fail
  go_region
  go_wp2_with fail
  have HADD := hide (rep_add H2.out.drew.drew (IntKind.i64.wrap (s.now - a.launched)) HI.out.mt)
  have HWR := hide (show IntKind.i64.wrap (s.now - a.launched) = s.now - a.launched by rw [IntKind.wrap_i64]; omega)
  have Hlb := hide (show ∀ W V', PMv V w2.drew.drew V' W → W.cell? ⟨B.heap.size, 1, none⟩ = some (.int .i64 a.launched) ∧ W.cell? ⟨w.heap.size, 3, none⟩ = some (.int .i64 value) from fun W V' m => ⟨(World.cell?_of_block (m.block _ lA2 htA)).trans d1, (World.cell?_of_block (m.block _ lE2 htE)).trans g3⟩)
  go_region_held3 (fun w' => w'.cell? ⟨p, 10, none⟩ = some (.int .i64 s.now) ∧ w'.cell? ⟨B.heap.size, 1, none⟩ = some (.int .i64 a.launched))
    (first
      | exact ⟨c3, d3⟩
      | (go_keep; done))
    (first
      | (go_at_call 66; refine HADD.out.mono ?_; rintro e w3 ⟨rfl, V3, h3, m3, q3⟩
         rw [HWR.out] at h3
         have H3 : Hid (PRep w3 p (addM (closeM s att) (s.now - a.launched)) V3) := h3
         have c3 : w3.cell? ⟨p, 10, none⟩ = some (.int .i64 s.now) := h3.kk _ _ rfl
         obtain ⟨d3, v3⟩ := Hlb.out w3 V3 m3
         have M3 := hide (M2.out.trans ((PMv.of_below (Below.refl _ _).drew.drew).trans m3))
         have Hq3 := hide (show V3.q c.number = V.q a.call by rw [q3, Hn.out])
         clear h3 m3 q3))
  have HF := hide (rep_finish H3.out hc 1 value hs (by have := (inv_close HI.out att).aN; show (closeM s att).atts.length ≤ _; omega) (by have := HI.out.tN; show s.timers.length ≤ _; omega))
  rw [Hq3.out] at HF
  have lE3 : w.heap.size < w3.heap.size := World.block_lt_of_cell? w3 _ v3
  clear HADD Hlb
  go_wp2_with fail
  refine HF.out.mono ?_
  rintro e w4 ⟨v, V4, rfl, g⟩
  have HG := hide (Gives.after M3.out g)
  clear g HF M3
  go_wp2_with fail
  go_ret
  exact ⟨v, V4, rfl, HG.out⟩

end
end Go.Proofs.YtlccfpbbdgpjbaaGreatDoor

namespace Go.Proofs.YtlccfpbbdgpjbaaGreatDoor
open Go.RowKit Go.Maps

section
variable {w : World} {p : Nat} {s : PSt} {V : PV}

set_option maxRecDepth 100000 in
set_option maxHeartbeats 8000000 in
theorem rep_answer_lost {N : Int} (h : PRep w p s V) (hI : Inv N s) (hN : N ≤ 60000) (call att value timeout draw to' : Int) (safe : Bool) {a : PAtt} {c : PCall} (hatt : attOf s att = some (att, a)) (hcall : callOf s a.call = some c) (hs : 0 < s.set) (hsf : c.safe = false) :
    Calls Tryz.prog 38 #[.pointer (some ⟨p, 0, none⟩), evV ⟨3, call, att, value, timeout, safe, draw, to'⟩] w fun ex w' => ∃ v V', ex = .returned v ∧ Gives w w' V V' p v (finishA (closeM s att) c.number 2 0) (finishM (closeM s att) c.number) := by
  have lp := h.lp
  obtain ⟨hc, hn⟩ := callOf_mem hcall
  have hma : (att, a) ∈ s.atts := List.mem_of_find?_eq_some hatt
  obtain ⟨_, _, a3, a4, _⟩ := hI.ab _ hma
  dsimp only at a3 a4
  have hn1 := hI.n1
  have hwa : (Lit.int .i64 att).wf = true := h.mA.wf (att, attV a) (List.mem_map.2 ⟨(att, a), hma, rfl⟩)
  have hwc : (Lit.int .i64 a.call).wf = true := by
    rw [← hn]
    exact h.mC.wf (c.number, .pointer (some ⟨V.q c.number, 0, none⟩)) (List.mem_map.2 ⟨c, hc, rfl⟩)
  have hga := mget_attOf hatt
  unfold evV
  dsimp only
  obtain ⟨B, hBx⟩ : ∃ B, B = w.alloc (.cells #[.int .i64 3, .int .i64 call, .int .i64 att, .int .i64 value, .int .i64 timeout, .bool safe, .int .u64 draw, .int .i64 to'] 39) := ⟨_, rfl⟩
  have hB0 : Below w.heap.size w B := by rw [hBx]; exact (Below.refl _ _).alloc (Nat.le_refl _) _
  have e0 : B.cell? ⟨w.heap.size, 0, none⟩ = some (.int .i64 3) := by rw [hBx]; simp
  have e2 : B.cell? ⟨w.heap.size, 2, none⟩ = some (.int .i64 att) := by rw [hBx]; simp
  have e3 : B.cell? ⟨w.heap.size, 3, none⟩ = some (.int .i64 value) := by rw [hBx]; simp
  have e6 : B.cell? ⟨w.heap.size, 6, none⟩ = some (.int .u64 draw) := by rw [hBx]; simp
  have lB : w.heap.size < B.heap.size := World.block_lt_of_cell? B _ e0
  have htE : 7 ≤ V.tag w.heap.size := by
    rcases Nat.lt_or_ge (V.tag w.heap.size) 7 with h2 | h2
    · have := h.tl _ h2
      omega
    · exact h2
  have hB := h.on hB0
  have htA : 7 ≤ V.tag B.heap.size := by
    rcases Nat.lt_or_ge (V.tag B.heap.size) 7 with h2 | h2
    · have := hB.tl _ h2
      omega
    · exact h2
  have hlk2 : ∀ O : Obj, (Instr.lookup 89 (.map (some V.ba)) (.int .i64 att) true).run Tryz.prog (B.alloc O).drew = .ok (.tuple #[.agg #[.int .i64 a.call, .int .i64 a.launched], .bool true]) (B.alloc O).drew := fun O => by
    have h1 := (hB.on (((Below.refl B.heap.size B).alloc (Nat.le_refl _) O).drew)).mA.look2 Tryz.underlying3 Tryz.underlying89 (z := .agg #[.int .i64 0, .int .i64 0]) (by kernel_rfl) okAtt_zero hwa
    rw [hga] at h1
    exact h1
  have hlk : (Instr.lookup 89 (.map (some V.ba)) (.int .i64 att) true).run Tryz.prog B.drew = .ok (.tuple #[.agg #[.int .i64 a.call, .int .i64 a.launched], .bool true]) B.drew := by
    have h1 := hB.drew.mA.look2 Tryz.underlying3 Tryz.underlying89 (z := .agg #[.int .i64 0, .int .i64 0]) (by kernel_rfl) okAtt_zero hwa
    rw [hga] at h1
    exact h1
  have cA : B.cell? ⟨p, 16, none⟩ = some (.map (some V.ba)) := hB.kk _ _ rfl
  have lpB := hB.lp
  have HB := hide hBx
  have HH := hide hB
  have hgc : mget (callL s.calls V.q) a.call = some (.pointer (some ⟨V.q a.call, 0, none⟩)) := mget_callL hcall
  have Hgc := hide hgc
  have HI := hide hI
  have Hn := hide hn
  have Hma := hide hma
  clear hBx h hB hga hatt hgc hcall hI hn hma
  go_enter Tryz.func38, Tryz.ntmps38
  go_wp2_with fail
  all_goals (try rw [← HB.out])
  go_region
  go_wp2_with fail
  have hW0 : Below B.heap.size B (B.alloc (.cells #[.int .i64 a.call, .int .i64 a.launched] 111)).drew := ((Below.refl _ _).alloc (Nat.le_refl _) _).drew
  have b0 : (B.alloc (.cells #[.int .i64 a.call, .int .i64 a.launched] 111)).drew.cell? ⟨B.heap.size, 0, none⟩ = some (.int .i64 a.call) := by
    show (B.alloc _).cell? _ = _
    simp
  have b1 : (B.alloc (.cells #[.int .i64 a.call, .int .i64 a.launched] 111)).drew.cell? ⟨B.heap.size, 1, none⟩ = some (.int .i64 a.launched) := by
    show (B.alloc _).cell? _ = _
    simp
  generalize (B.alloc (.cells #[.int .i64 a.call, .int .i64 a.launched] 111)).drew = W1 at hW0 b0 b1 ⊢
  have h1 := HH.out.on hW0
  have lW1 := h1.lp
  have cA1 : W1.cell? ⟨p, 16, none⟩ = some (.map (some V.ba)) := h1.kk _ _ rfl
  have f2 := (hW0.cell lB).trans e2
  have lE1 : w.heap.size < W1.heap.size := Nat.lt_of_lt_of_le lB hW0.size
  have lA1 : B.heap.size < W1.heap.size := World.block_lt_of_cell? W1 _ b0
  obtain ⟨w2, hrun, hM2, ht2⟩ := h1.drew.mA.del Tryz.underlying3 Tryz.underlying89 hwa 0
  rw [attL_filter] at hM2
  have hK2 := Kp.of_map ht2
  obtain ⟨h2, m2⟩ := h1.drew.set_a hM2 hK2
  have H2 : Hid (PRep w2 p (closeM s att) V) := h2
  have nE : w.heap.size ∉ [V.ba] := by
    intro e
    have e' : w.heap.size = V.ba := by simpa using e
    rw [e', HH.out.ta] at htE
    omega
  have nA : B.heap.size ∉ [V.ba] := by
    intro e
    have e' : B.heap.size = V.ba := by simpa using e
    rw [e', HH.out.ta] at htA
    omega
  have g0 : w2.cell? ⟨w.heap.size, 0, none⟩ = some (.int .i64 3) := (hK2.cell lE1 nE 0).trans ((hW0.cell lB).trans e0)
  have g3 : w2.cell? ⟨w.heap.size, 3, none⟩ = some (.int .i64 value) := (hK2.cell lE1 nE 3).trans ((hW0.cell lB).trans e3)
  have g6 : w2.cell? ⟨w.heap.size, 6, none⟩ = some (.int .u64 draw) := (hK2.cell lE1 nE 6).trans ((hW0.cell lB).trans e6)
  have d0 : w2.cell? ⟨B.heap.size, 0, none⟩ = some (.int .i64 a.call) := (hK2.cell lA1 nA 0).trans b0
  have d1 : w2.cell? ⟨B.heap.size, 1, none⟩ = some (.int .i64 a.launched) := (hK2.cell lA1 nA 1).trans b1
  have M2 := hide (((PMv.of_below (V := V) (hB0.trans (hW0.mono hB0.size))).trans (PMv.of_below (Below.refl _ _).drew)).trans m2)
  have cC2 : w2.cell? ⟨p, 15, none⟩ = some (.map (some V.bc)) := h2.kk _ _ rfl
  have cN2 : w2.cell? ⟨p, 10, none⟩ = some (.int .i64 s.now) := h2.kk _ _ rfl
  have x1 : w2.cell? ⟨V.q a.call, 1, none⟩ = some (.bool c.safe) := by
    have := (h2.cc c hc 1 _ rfl).1
    rw [Hn.out] at this
    exact this
  have lp2 := h2.lp
  have lE2 : w.heap.size < w2.heap.size := World.block_lt_of_cell? w2 _ g0
  have lA2 : B.heap.size < w2.heap.size := World.block_lt_of_cell? w2 _ d0
  have lx2 : V.q a.call < w2.heap.size := World.block_lt_of_cell? w2 _ x1
  have hlk3 := h2.drew.mC.look1 Tryz.underlying3 Tryz.underlying88 (z := .pointer none) (by kernel_rfl) okPtr_none hwc
  rw [Hgc.out, Option.getD_some] at hlk3
  clear h1 h2 m2 hM2 ht2 hK2 hW0 b0 b1 e0 e2 e3 e6 hlk hlk2 cA lW1 nE nA hwa hwc Hgc HB hB0
  rw [hsf] at x1
  clear hsf
  go_region
  clear hrun cA1 f2 lE1 lA1
  go_wp2_with fail
  go_region
  go_wp2_with fail
  have HF := hide (rep_finish H2.out.drew hc 2 0 hs (by have := (inv_close HI.out att).aN; omega) (by have := HI.out.tN; show s.timers.length ≤ _; omega))
  rw [Hn.out] at HF
  refine HF.out.mono ?_
  rintro e w4 ⟨v, V4, rfl, g⟩
  have HG := hide (Gives.after (M2.out.trans (PMv.of_below (Below.refl _ _).drew)) g)
  rw [← Hn.out] at HG
  clear g HF M2
  go_wp2_with fail
  go_ret
  exact ⟨v, V4, rfl, HG.out⟩

set_option maxRecDepth 100000 in
set_option maxHeartbeats 8000000 in
theorem rep_answer_nack_open {N : Int} (h : PRep w p s V) (hI : Inv N s) (hN : N ≤ 60000) (call att value timeout draw to' : Int) (safe : Bool) {a : PAtt} {c : PCall} (hatt : attOf s att = some (att, a)) (hcall : callOf s a.call = some c) (_hs : 0 < s.set) (hop : 0 < (openOf (closeM s att) c.number).length) :
    Calls Tryz.prog 38 #[.pointer (some ⟨p, 0, none⟩), evV ⟨4, call, att, value, timeout, safe, draw, to'⟩] w fun ex w' => ∃ v V', ex = .returned v ∧ Gives w w' V V' p v [] (closeM s att) := by
  have lp := h.lp
  obtain ⟨hc, hn⟩ := callOf_mem hcall
  have hma : (att, a) ∈ s.atts := List.mem_of_find?_eq_some hatt
  obtain ⟨_, _, a3, a4, _⟩ := hI.ab _ hma
  dsimp only at a3 a4
  have hn1 := hI.n1
  have hwa : (Lit.int .i64 att).wf = true := h.mA.wf (att, attV a) (List.mem_map.2 ⟨(att, a), hma, rfl⟩)
  have hwc : (Lit.int .i64 a.call).wf = true := by
    rw [← hn]
    exact h.mC.wf (c.number, .pointer (some ⟨V.q c.number, 0, none⟩)) (List.mem_map.2 ⟨c, hc, rfl⟩)
  have hga := mget_attOf hatt
  unfold evV
  dsimp only
  obtain ⟨B, hBx⟩ : ∃ B, B = w.alloc (.cells #[.int .i64 4, .int .i64 call, .int .i64 att, .int .i64 value, .int .i64 timeout, .bool safe, .int .u64 draw, .int .i64 to'] 39) := ⟨_, rfl⟩
  have hB0 : Below w.heap.size w B := by rw [hBx]; exact (Below.refl _ _).alloc (Nat.le_refl _) _
  have e0 : B.cell? ⟨w.heap.size, 0, none⟩ = some (.int .i64 4) := by rw [hBx]; simp
  have e2 : B.cell? ⟨w.heap.size, 2, none⟩ = some (.int .i64 att) := by rw [hBx]; simp
  have e3 : B.cell? ⟨w.heap.size, 3, none⟩ = some (.int .i64 value) := by rw [hBx]; simp
  have e6 : B.cell? ⟨w.heap.size, 6, none⟩ = some (.int .u64 draw) := by rw [hBx]; simp
  have lB : w.heap.size < B.heap.size := World.block_lt_of_cell? B _ e0
  have htE : 7 ≤ V.tag w.heap.size := by
    rcases Nat.lt_or_ge (V.tag w.heap.size) 7 with h2 | h2
    · have := h.tl _ h2
      omega
    · exact h2
  have hB := h.on hB0
  have htA : 7 ≤ V.tag B.heap.size := by
    rcases Nat.lt_or_ge (V.tag B.heap.size) 7 with h2 | h2
    · have := hB.tl _ h2
      omega
    · exact h2
  have hlk2 : ∀ O : Obj, (Instr.lookup 89 (.map (some V.ba)) (.int .i64 att) true).run Tryz.prog (B.alloc O).drew = .ok (.tuple #[.agg #[.int .i64 a.call, .int .i64 a.launched], .bool true]) (B.alloc O).drew := fun O => by
    have h1 := (hB.on (((Below.refl B.heap.size B).alloc (Nat.le_refl _) O).drew)).mA.look2 Tryz.underlying3 Tryz.underlying89 (z := .agg #[.int .i64 0, .int .i64 0]) (by kernel_rfl) okAtt_zero hwa
    rw [hga] at h1
    exact h1
  have hlk : (Instr.lookup 89 (.map (some V.ba)) (.int .i64 att) true).run Tryz.prog B.drew = .ok (.tuple #[.agg #[.int .i64 a.call, .int .i64 a.launched], .bool true]) B.drew := by
    have h1 := hB.drew.mA.look2 Tryz.underlying3 Tryz.underlying89 (z := .agg #[.int .i64 0, .int .i64 0]) (by kernel_rfl) okAtt_zero hwa
    rw [hga] at h1
    exact h1
  have cA : B.cell? ⟨p, 16, none⟩ = some (.map (some V.ba)) := hB.kk _ _ rfl
  have lpB := hB.lp
  have HB := hide hBx
  have HH := hide hB
  have hgc : mget (callL s.calls V.q) a.call = some (.pointer (some ⟨V.q a.call, 0, none⟩)) := mget_callL hcall
  have Hgc := hide hgc
  have HI := hide hI
  have Hn := hide hn
  have Hma := hide hma
  clear hBx h hB hga hatt hgc hcall hI hn hma
  go_enter Tryz.func38, Tryz.ntmps38
  go_wp2_with fail
  all_goals (try rw [← HB.out])
  go_region
  go_wp2_with fail
  have hW0 : Below B.heap.size B (B.alloc (.cells #[.int .i64 a.call, .int .i64 a.launched] 111)).drew := ((Below.refl _ _).alloc (Nat.le_refl _) _).drew
  have b0 : (B.alloc (.cells #[.int .i64 a.call, .int .i64 a.launched] 111)).drew.cell? ⟨B.heap.size, 0, none⟩ = some (.int .i64 a.call) := by
    show (B.alloc _).cell? _ = _
    simp
  have b1 : (B.alloc (.cells #[.int .i64 a.call, .int .i64 a.launched] 111)).drew.cell? ⟨B.heap.size, 1, none⟩ = some (.int .i64 a.launched) := by
    show (B.alloc _).cell? _ = _
    simp
  generalize (B.alloc (.cells #[.int .i64 a.call, .int .i64 a.launched] 111)).drew = W1 at hW0 b0 b1 ⊢
  have h1 := HH.out.on hW0
  have lW1 := h1.lp
  have cA1 : W1.cell? ⟨p, 16, none⟩ = some (.map (some V.ba)) := h1.kk _ _ rfl
  have f2 := (hW0.cell lB).trans e2
  have lE1 : w.heap.size < W1.heap.size := Nat.lt_of_lt_of_le lB hW0.size
  have lA1 : B.heap.size < W1.heap.size := World.block_lt_of_cell? W1 _ b0
  obtain ⟨w2, hrun, hM2, ht2⟩ := h1.drew.mA.del Tryz.underlying3 Tryz.underlying89 hwa 0
  rw [attL_filter] at hM2
  have hK2 := Kp.of_map ht2
  obtain ⟨h2, m2⟩ := h1.drew.set_a hM2 hK2
  have H2 : Hid (PRep w2 p (closeM s att) V) := h2
  have nE : w.heap.size ∉ [V.ba] := by
    intro e
    have e' : w.heap.size = V.ba := by simpa using e
    rw [e', HH.out.ta] at htE
    omega
  have nA : B.heap.size ∉ [V.ba] := by
    intro e
    have e' : B.heap.size = V.ba := by simpa using e
    rw [e', HH.out.ta] at htA
    omega
  have g0 : w2.cell? ⟨w.heap.size, 0, none⟩ = some (.int .i64 4) := (hK2.cell lE1 nE 0).trans ((hW0.cell lB).trans e0)
  have g3 : w2.cell? ⟨w.heap.size, 3, none⟩ = some (.int .i64 value) := (hK2.cell lE1 nE 3).trans ((hW0.cell lB).trans e3)
  have g6 : w2.cell? ⟨w.heap.size, 6, none⟩ = some (.int .u64 draw) := (hK2.cell lE1 nE 6).trans ((hW0.cell lB).trans e6)
  have d0 : w2.cell? ⟨B.heap.size, 0, none⟩ = some (.int .i64 a.call) := (hK2.cell lA1 nA 0).trans b0
  have d1 : w2.cell? ⟨B.heap.size, 1, none⟩ = some (.int .i64 a.launched) := (hK2.cell lA1 nA 1).trans b1
  have M2 := hide (((PMv.of_below (V := V) (hB0.trans (hW0.mono hB0.size))).trans (PMv.of_below (Below.refl _ _).drew)).trans m2)
  have cC2 : w2.cell? ⟨p, 15, none⟩ = some (.map (some V.bc)) := h2.kk _ _ rfl
  have cN2 : w2.cell? ⟨p, 10, none⟩ = some (.int .i64 s.now) := h2.kk _ _ rfl
  have x1 : w2.cell? ⟨V.q a.call, 1, none⟩ = some (.bool c.safe) := by
    have := (h2.cc c hc 1 _ rfl).1
    rw [Hn.out] at this
    exact this
  have lp2 := h2.lp
  have lE2 : w.heap.size < w2.heap.size := World.block_lt_of_cell? w2 _ g0
  have lA2 : B.heap.size < w2.heap.size := World.block_lt_of_cell? w2 _ d0
  have lx2 : V.q a.call < w2.heap.size := World.block_lt_of_cell? w2 _ x1
  have hlk3 := h2.drew.mC.look1 Tryz.underlying3 Tryz.underlying88 (z := .pointer none) (by kernel_rfl) okPtr_none hwc
  rw [Hgc.out, Option.getD_some] at hlk3
  clear h1 h2 m2 hM2 ht2 hK2 hW0 b0 b1 e0 e2 e3 e6 hlk hlk2 cA lW1 nE nA hwa hwc Hgc HB hB0
  go_region
  clear hrun cA1 f2 lE1 lA1
  go_wp2_with fail
  go_region
  go_wp2_with fail
  have HO := hide (openAttempts_T p (V.q a.call) V.ba c.number (closeM s att).atts w2.drew (by have := (inv_close HI.out att).aN; omega) (H2.out.drew.kk _ _ rfl) (by have := (H2.out.drew.cc c hc 0 _ rfl).1; rw [Hn.out] at this; rw [Hn.out]; exact this) H2.out.drew.mA)
  refine HO.out.mono ?_
  rintro e w3 ⟨v3, rfl, hr3, hb3⟩
  have hlen : (((closeM s att).atts.filter (fun p => p.2.call == c.number)).map (·.1)).mergeSort.length = (openOf (closeM s att) c.number).length := by
    rw [List.length_mergeSort]
    rfl
  obtain ⟨A3, cap3, rfl, _, _, _⟩ := hr3.form
  rw [hlen]
  have M3 := hide (M2.out.trans ((PMv.of_below (Below.refl _ _).drew).trans (PMv.of_below hb3)))
  have H3 := hide (H2.out.drew.on hb3)
  have r6 : w3.cell? ⟨w.heap.size, 6, none⟩ = some (.int .u64 draw) := (hb3.cell lE2).trans g6
  have lE3 : w.heap.size < w3.heap.size := World.block_lt_of_cell? w3 _ r6
  clear hlen hr3 hb3 HO M2
  have hop' : (0 : Int) < ((openOf (closeM s att) c.number).length : Int) := by omega
  generalize (openOf (closeM s att) c.number).length = m at hop hop' ⊢
  go_wp2_with fail
  go_ret
  exact ⟨_, V, rfl, Gives.of_nil H3.out M3.out⟩

set_option maxRecDepth 100000 in
set_option maxHeartbeats 8000000 in
theorem rep_answer_nack_wait {N : Int} (h : PRep w p s V) (hI : Inv N s) (hN : N ≤ 60000) (call att value timeout draw to' : Int) (safe : Bool) {a : PAtt} {c : PCall} (hatt : attOf s att = some (att, a)) (hcall : callOf s a.call = some c) (hs : 0 < s.set) (hop : (openOf (closeM s att) c.number).length = 0) (hd0 : 0 ≤ draw) :
    Calls Tryz.prog 38 #[.pointer (some ⟨p, 0, none⟩), evV ⟨4, call, att, value, timeout, safe, draw, to'⟩] w fun ex w' => ∃ v V', ex = .returned v ∧ Gives w w' V V' p v (waitA (closeM s att) c draw) (waitM (closeM s att) c draw) := by
  have lp := h.lp
  obtain ⟨hc, hn⟩ := callOf_mem hcall
  have hma : (att, a) ∈ s.atts := List.mem_of_find?_eq_some hatt
  obtain ⟨_, _, a3, a4, _⟩ := hI.ab _ hma
  dsimp only at a3 a4
  have hn1 := hI.n1
  have hwa : (Lit.int .i64 att).wf = true := h.mA.wf (att, attV a) (List.mem_map.2 ⟨(att, a), hma, rfl⟩)
  have hwc : (Lit.int .i64 a.call).wf = true := by
    rw [← hn]
    exact h.mC.wf (c.number, .pointer (some ⟨V.q c.number, 0, none⟩)) (List.mem_map.2 ⟨c, hc, rfl⟩)
  have hga := mget_attOf hatt
  unfold evV
  dsimp only
  obtain ⟨B, hBx⟩ : ∃ B, B = w.alloc (.cells #[.int .i64 4, .int .i64 call, .int .i64 att, .int .i64 value, .int .i64 timeout, .bool safe, .int .u64 draw, .int .i64 to'] 39) := ⟨_, rfl⟩
  have hB0 : Below w.heap.size w B := by rw [hBx]; exact (Below.refl _ _).alloc (Nat.le_refl _) _
  have e0 : B.cell? ⟨w.heap.size, 0, none⟩ = some (.int .i64 4) := by rw [hBx]; simp
  have e2 : B.cell? ⟨w.heap.size, 2, none⟩ = some (.int .i64 att) := by rw [hBx]; simp
  have e3 : B.cell? ⟨w.heap.size, 3, none⟩ = some (.int .i64 value) := by rw [hBx]; simp
  have e6 : B.cell? ⟨w.heap.size, 6, none⟩ = some (.int .u64 draw) := by rw [hBx]; simp
  have lB : w.heap.size < B.heap.size := World.block_lt_of_cell? B _ e0
  have htE : 7 ≤ V.tag w.heap.size := by
    rcases Nat.lt_or_ge (V.tag w.heap.size) 7 with h2 | h2
    · have := h.tl _ h2
      omega
    · exact h2
  have hB := h.on hB0
  have htA : 7 ≤ V.tag B.heap.size := by
    rcases Nat.lt_or_ge (V.tag B.heap.size) 7 with h2 | h2
    · have := hB.tl _ h2
      omega
    · exact h2
  have hlk2 : ∀ O : Obj, (Instr.lookup 89 (.map (some V.ba)) (.int .i64 att) true).run Tryz.prog (B.alloc O).drew = .ok (.tuple #[.agg #[.int .i64 a.call, .int .i64 a.launched], .bool true]) (B.alloc O).drew := fun O => by
    have h1 := (hB.on (((Below.refl B.heap.size B).alloc (Nat.le_refl _) O).drew)).mA.look2 Tryz.underlying3 Tryz.underlying89 (z := .agg #[.int .i64 0, .int .i64 0]) (by kernel_rfl) okAtt_zero hwa
    rw [hga] at h1
    exact h1
  have hlk : (Instr.lookup 89 (.map (some V.ba)) (.int .i64 att) true).run Tryz.prog B.drew = .ok (.tuple #[.agg #[.int .i64 a.call, .int .i64 a.launched], .bool true]) B.drew := by
    have h1 := hB.drew.mA.look2 Tryz.underlying3 Tryz.underlying89 (z := .agg #[.int .i64 0, .int .i64 0]) (by kernel_rfl) okAtt_zero hwa
    rw [hga] at h1
    exact h1
  have cA : B.cell? ⟨p, 16, none⟩ = some (.map (some V.ba)) := hB.kk _ _ rfl
  have lpB := hB.lp
  have HB := hide hBx
  have HH := hide hB
  have hgc : mget (callL s.calls V.q) a.call = some (.pointer (some ⟨V.q a.call, 0, none⟩)) := mget_callL hcall
  have Hgc := hide hgc
  have HI := hide hI
  have Hn := hide hn
  have Hma := hide hma
  clear hBx h hB hga hatt hgc hcall hI hn hma
  go_enter Tryz.func38, Tryz.ntmps38
  go_wp2_with fail
  all_goals (try rw [← HB.out])
  go_region
  go_wp2_with fail
  have hW0 : Below B.heap.size B (B.alloc (.cells #[.int .i64 a.call, .int .i64 a.launched] 111)).drew := ((Below.refl _ _).alloc (Nat.le_refl _) _).drew
  have b0 : (B.alloc (.cells #[.int .i64 a.call, .int .i64 a.launched] 111)).drew.cell? ⟨B.heap.size, 0, none⟩ = some (.int .i64 a.call) := by
    show (B.alloc _).cell? _ = _
    simp
  have b1 : (B.alloc (.cells #[.int .i64 a.call, .int .i64 a.launched] 111)).drew.cell? ⟨B.heap.size, 1, none⟩ = some (.int .i64 a.launched) := by
    show (B.alloc _).cell? _ = _
    simp
  generalize (B.alloc (.cells #[.int .i64 a.call, .int .i64 a.launched] 111)).drew = W1 at hW0 b0 b1 ⊢
  have h1 := HH.out.on hW0
  have lW1 := h1.lp
  have cA1 : W1.cell? ⟨p, 16, none⟩ = some (.map (some V.ba)) := h1.kk _ _ rfl
  have f2 := (hW0.cell lB).trans e2
  have lE1 : w.heap.size < W1.heap.size := Nat.lt_of_lt_of_le lB hW0.size
  have lA1 : B.heap.size < W1.heap.size := World.block_lt_of_cell? W1 _ b0
  obtain ⟨w2, hrun, hM2, ht2⟩ := h1.drew.mA.del Tryz.underlying3 Tryz.underlying89 hwa 0
  rw [attL_filter] at hM2
  have hK2 := Kp.of_map ht2
  obtain ⟨h2, m2⟩ := h1.drew.set_a hM2 hK2
  have H2 : Hid (PRep w2 p (closeM s att) V) := h2
  have nE : w.heap.size ∉ [V.ba] := by
    intro e
    have e' : w.heap.size = V.ba := by simpa using e
    rw [e', HH.out.ta] at htE
    omega
  have nA : B.heap.size ∉ [V.ba] := by
    intro e
    have e' : B.heap.size = V.ba := by simpa using e
    rw [e', HH.out.ta] at htA
    omega
  have g0 : w2.cell? ⟨w.heap.size, 0, none⟩ = some (.int .i64 4) := (hK2.cell lE1 nE 0).trans ((hW0.cell lB).trans e0)
  have g3 : w2.cell? ⟨w.heap.size, 3, none⟩ = some (.int .i64 value) := (hK2.cell lE1 nE 3).trans ((hW0.cell lB).trans e3)
  have g6 : w2.cell? ⟨w.heap.size, 6, none⟩ = some (.int .u64 draw) := (hK2.cell lE1 nE 6).trans ((hW0.cell lB).trans e6)
  have d0 : w2.cell? ⟨B.heap.size, 0, none⟩ = some (.int .i64 a.call) := (hK2.cell lA1 nA 0).trans b0
  have d1 : w2.cell? ⟨B.heap.size, 1, none⟩ = some (.int .i64 a.launched) := (hK2.cell lA1 nA 1).trans b1
  have M2 := hide (((PMv.of_below (V := V) (hB0.trans (hW0.mono hB0.size))).trans (PMv.of_below (Below.refl _ _).drew)).trans m2)
  have cC2 : w2.cell? ⟨p, 15, none⟩ = some (.map (some V.bc)) := h2.kk _ _ rfl
  have cN2 : w2.cell? ⟨p, 10, none⟩ = some (.int .i64 s.now) := h2.kk _ _ rfl
  have x1 : w2.cell? ⟨V.q a.call, 1, none⟩ = some (.bool c.safe) := by
    have := (h2.cc c hc 1 _ rfl).1
    rw [Hn.out] at this
    exact this
  have lp2 := h2.lp
  have lE2 : w.heap.size < w2.heap.size := World.block_lt_of_cell? w2 _ g0
  have lA2 : B.heap.size < w2.heap.size := World.block_lt_of_cell? w2 _ d0
  have lx2 : V.q a.call < w2.heap.size := World.block_lt_of_cell? w2 _ x1
  have hlk3 := h2.drew.mC.look1 Tryz.underlying3 Tryz.underlying88 (z := .pointer none) (by kernel_rfl) okPtr_none hwc
  rw [Hgc.out, Option.getD_some] at hlk3
  clear h1 h2 m2 hM2 ht2 hK2 hW0 b0 b1 e0 e2 e3 e6 hlk hlk2 cA lW1 nE nA hwa hwc Hgc HB hB0
  go_region
  clear hrun cA1 f2 lE1 lA1
  go_wp2_with fail
  go_region
  go_wp2_with fail
  have HO := hide (openAttempts_T p (V.q a.call) V.ba c.number (closeM s att).atts w2.drew (by have := (inv_close HI.out att).aN; omega) (H2.out.drew.kk _ _ rfl) (by have := (H2.out.drew.cc c hc 0 _ rfl).1; rw [Hn.out] at this; rw [Hn.out]; exact this) H2.out.drew.mA)
  refine HO.out.mono ?_
  rintro e w3 ⟨v3, rfl, hr3, hb3⟩
  have hlen : (((closeM s att).atts.filter (fun p => p.2.call == c.number)).map (·.1)).mergeSort.length = (openOf (closeM s att) c.number).length := by
    rw [List.length_mergeSort]
    rfl
  obtain ⟨A3, cap3, rfl, _, _, _⟩ := hr3.form
  rw [hlen]
  have M3 := hide (M2.out.trans ((PMv.of_below (Below.refl _ _).drew).trans (PMv.of_below hb3)))
  have H3 := hide (H2.out.drew.on hb3)
  have r6 : w3.cell? ⟨w.heap.size, 6, none⟩ = some (.int .u64 draw) := (hb3.cell lE2).trans g6
  have lE3 : w.heap.size < w3.heap.size := World.block_lt_of_cell? w3 _ r6
  clear hlen hr3 hb3 HO M2
  rw [hop]
  have Hop := hide hop
  clear hop
  have hcfg := HI.out.cfg
  obtain ⟨c1, c2, c3, c4, c5, c6⟩ := HI.out.cb c hc
  have hm1 := hcfg.m1
  have HWF := hide (rep_waitOrFail H3.out hc draw hd0 hs (by have := HI.out.sN; show s.set ≤ _; omega) (by have := (inv_close HI.out att).aN; omega) (by have := HI.out.tN; show s.timers.length ≤ _; omega) hcfg.b0 hcfg.b1 hcfg.m1 c5 (by omega) HI.out.n0 HI.out.n1)
  rw [Hn.out] at HWF
  clear hcfg c1 c2 c3 c4 c5 c6 hm1
  go_wp2_with fail
  refine HWF.out.mono ?_
  rintro e w4 ⟨v, V4, rfl, g⟩
  have HG := hide (Gives.after M3.out g)
  clear g HWF M3
  go_wp2_with fail
  go_ret
  exact ⟨v, V4, rfl, HG.out⟩

set_option maxRecDepth 100000 in
set_option maxHeartbeats 8000000 in
theorem rep_answer_fail_open {N : Int} (h : PRep w p s V) (hI : Inv N s) (hN : N ≤ 60000) (call att value timeout draw to' : Int) (safe : Bool) {a : PAtt} {c : PCall} (hatt : attOf s att = some (att, a)) (hcall : callOf s a.call = some c) (_hs : 0 < s.set) (hsf : c.safe = true) (hop : 0 < (openOf (closeM s att) c.number).length) :
    Calls Tryz.prog 38 #[.pointer (some ⟨p, 0, none⟩), evV ⟨3, call, att, value, timeout, safe, draw, to'⟩] w fun ex w' => ∃ v V', ex = .returned v ∧ Gives w w' V V' p v [] (closeM s att) := by
  have lp := h.lp
  obtain ⟨hc, hn⟩ := callOf_mem hcall
  have hma : (att, a) ∈ s.atts := List.mem_of_find?_eq_some hatt
  obtain ⟨_, _, a3, a4, _⟩ := hI.ab _ hma
  dsimp only at a3 a4
  have hn1 := hI.n1
  have hwa : (Lit.int .i64 att).wf = true := h.mA.wf (att, attV a) (List.mem_map.2 ⟨(att, a), hma, rfl⟩)
  have hwc : (Lit.int .i64 a.call).wf = true := by
    rw [← hn]
    exact h.mC.wf (c.number, .pointer (some ⟨V.q c.number, 0, none⟩)) (List.mem_map.2 ⟨c, hc, rfl⟩)
  have hga := mget_attOf hatt
  unfold evV
  dsimp only
  obtain ⟨B, hBx⟩ : ∃ B, B = w.alloc (.cells #[.int .i64 3, .int .i64 call, .int .i64 att, .int .i64 value, .int .i64 timeout, .bool safe, .int .u64 draw, .int .i64 to'] 39) := ⟨_, rfl⟩
  have hB0 : Below w.heap.size w B := by rw [hBx]; exact (Below.refl _ _).alloc (Nat.le_refl _) _
  have e0 : B.cell? ⟨w.heap.size, 0, none⟩ = some (.int .i64 3) := by rw [hBx]; simp
  have e2 : B.cell? ⟨w.heap.size, 2, none⟩ = some (.int .i64 att) := by rw [hBx]; simp
  have e3 : B.cell? ⟨w.heap.size, 3, none⟩ = some (.int .i64 value) := by rw [hBx]; simp
  have e6 : B.cell? ⟨w.heap.size, 6, none⟩ = some (.int .u64 draw) := by rw [hBx]; simp
  have lB : w.heap.size < B.heap.size := World.block_lt_of_cell? B _ e0
  have htE : 7 ≤ V.tag w.heap.size := by
    rcases Nat.lt_or_ge (V.tag w.heap.size) 7 with h2 | h2
    · have := h.tl _ h2
      omega
    · exact h2
  have hB := h.on hB0
  have htA : 7 ≤ V.tag B.heap.size := by
    rcases Nat.lt_or_ge (V.tag B.heap.size) 7 with h2 | h2
    · have := hB.tl _ h2
      omega
    · exact h2
  have hlk2 : ∀ O : Obj, (Instr.lookup 89 (.map (some V.ba)) (.int .i64 att) true).run Tryz.prog (B.alloc O).drew = .ok (.tuple #[.agg #[.int .i64 a.call, .int .i64 a.launched], .bool true]) (B.alloc O).drew := fun O => by
    have h1 := (hB.on (((Below.refl B.heap.size B).alloc (Nat.le_refl _) O).drew)).mA.look2 Tryz.underlying3 Tryz.underlying89 (z := .agg #[.int .i64 0, .int .i64 0]) (by kernel_rfl) okAtt_zero hwa
    rw [hga] at h1
    exact h1
  have hlk : (Instr.lookup 89 (.map (some V.ba)) (.int .i64 att) true).run Tryz.prog B.drew = .ok (.tuple #[.agg #[.int .i64 a.call, .int .i64 a.launched], .bool true]) B.drew := by
    have h1 := hB.drew.mA.look2 Tryz.underlying3 Tryz.underlying89 (z := .agg #[.int .i64 0, .int .i64 0]) (by kernel_rfl) okAtt_zero hwa
    rw [hga] at h1
    exact h1
  have cA : B.cell? ⟨p, 16, none⟩ = some (.map (some V.ba)) := hB.kk _ _ rfl
  have lpB := hB.lp
  have HB := hide hBx
  have HH := hide hB
  have hgc : mget (callL s.calls V.q) a.call = some (.pointer (some ⟨V.q a.call, 0, none⟩)) := mget_callL hcall
  have Hgc := hide hgc
  have HI := hide hI
  have Hn := hide hn
  have Hma := hide hma
  clear hBx h hB hga hatt hgc hcall hI hn hma
  go_enter Tryz.func38, Tryz.ntmps38
  go_wp2_with fail
  all_goals (try rw [← HB.out])
  go_region
  go_wp2_with fail
  have hW0 : Below B.heap.size B (B.alloc (.cells #[.int .i64 a.call, .int .i64 a.launched] 111)).drew := ((Below.refl _ _).alloc (Nat.le_refl _) _).drew
  have b0 : (B.alloc (.cells #[.int .i64 a.call, .int .i64 a.launched] 111)).drew.cell? ⟨B.heap.size, 0, none⟩ = some (.int .i64 a.call) := by
    show (B.alloc _).cell? _ = _
    simp
  have b1 : (B.alloc (.cells #[.int .i64 a.call, .int .i64 a.launched] 111)).drew.cell? ⟨B.heap.size, 1, none⟩ = some (.int .i64 a.launched) := by
    show (B.alloc _).cell? _ = _
    simp
  generalize (B.alloc (.cells #[.int .i64 a.call, .int .i64 a.launched] 111)).drew = W1 at hW0 b0 b1 ⊢
  have h1 := HH.out.on hW0
  have lW1 := h1.lp
  have cA1 : W1.cell? ⟨p, 16, none⟩ = some (.map (some V.ba)) := h1.kk _ _ rfl
  have f2 := (hW0.cell lB).trans e2
  have lE1 : w.heap.size < W1.heap.size := Nat.lt_of_lt_of_le lB hW0.size
  have lA1 : B.heap.size < W1.heap.size := World.block_lt_of_cell? W1 _ b0
  obtain ⟨w2, hrun, hM2, ht2⟩ := h1.drew.mA.del Tryz.underlying3 Tryz.underlying89 hwa 0
  rw [attL_filter] at hM2
  have hK2 := Kp.of_map ht2
  obtain ⟨h2, m2⟩ := h1.drew.set_a hM2 hK2
  have H2 : Hid (PRep w2 p (closeM s att) V) := h2
  have nE : w.heap.size ∉ [V.ba] := by
    intro e
    have e' : w.heap.size = V.ba := by simpa using e
    rw [e', HH.out.ta] at htE
    omega
  have nA : B.heap.size ∉ [V.ba] := by
    intro e
    have e' : B.heap.size = V.ba := by simpa using e
    rw [e', HH.out.ta] at htA
    omega
  have g0 : w2.cell? ⟨w.heap.size, 0, none⟩ = some (.int .i64 3) := (hK2.cell lE1 nE 0).trans ((hW0.cell lB).trans e0)
  have g3 : w2.cell? ⟨w.heap.size, 3, none⟩ = some (.int .i64 value) := (hK2.cell lE1 nE 3).trans ((hW0.cell lB).trans e3)
  have g6 : w2.cell? ⟨w.heap.size, 6, none⟩ = some (.int .u64 draw) := (hK2.cell lE1 nE 6).trans ((hW0.cell lB).trans e6)
  have d0 : w2.cell? ⟨B.heap.size, 0, none⟩ = some (.int .i64 a.call) := (hK2.cell lA1 nA 0).trans b0
  have d1 : w2.cell? ⟨B.heap.size, 1, none⟩ = some (.int .i64 a.launched) := (hK2.cell lA1 nA 1).trans b1
  have M2 := hide (((PMv.of_below (V := V) (hB0.trans (hW0.mono hB0.size))).trans (PMv.of_below (Below.refl _ _).drew)).trans m2)
  have cC2 : w2.cell? ⟨p, 15, none⟩ = some (.map (some V.bc)) := h2.kk _ _ rfl
  have cN2 : w2.cell? ⟨p, 10, none⟩ = some (.int .i64 s.now) := h2.kk _ _ rfl
  have x1 : w2.cell? ⟨V.q a.call, 1, none⟩ = some (.bool c.safe) := by
    have := (h2.cc c hc 1 _ rfl).1
    rw [Hn.out] at this
    exact this
  have lp2 := h2.lp
  have lE2 : w.heap.size < w2.heap.size := World.block_lt_of_cell? w2 _ g0
  have lA2 : B.heap.size < w2.heap.size := World.block_lt_of_cell? w2 _ d0
  have lx2 : V.q a.call < w2.heap.size := World.block_lt_of_cell? w2 _ x1
  have hlk3 := h2.drew.mC.look1 Tryz.underlying3 Tryz.underlying88 (z := .pointer none) (by kernel_rfl) okPtr_none hwc
  rw [Hgc.out, Option.getD_some] at hlk3
  clear h1 h2 m2 hM2 ht2 hK2 hW0 b0 b1 e0 e2 e3 e6 hlk hlk2 cA lW1 nE nA hwa hwc Hgc HB hB0
  rw [hsf] at x1
  clear hsf
  go_region
  clear hrun cA1 f2 lE1 lA1
  go_wp2_with fail
  go_region
  go_wp2_with fail
  have HO := hide (openAttempts_T p (V.q a.call) V.ba c.number (closeM s att).atts w2.drew (by have := (inv_close HI.out att).aN; omega) (H2.out.drew.kk _ _ rfl) (by have := (H2.out.drew.cc c hc 0 _ rfl).1; rw [Hn.out] at this; rw [Hn.out]; exact this) H2.out.drew.mA)
  refine HO.out.mono ?_
  rintro e w3 ⟨v3, rfl, hr3, hb3⟩
  have hlen : (((closeM s att).atts.filter (fun p => p.2.call == c.number)).map (·.1)).mergeSort.length = (openOf (closeM s att) c.number).length := by
    rw [List.length_mergeSort]
    rfl
  obtain ⟨A3, cap3, rfl, _, _, _⟩ := hr3.form
  rw [hlen]
  have M3 := hide (M2.out.trans ((PMv.of_below (Below.refl _ _).drew).trans (PMv.of_below hb3)))
  have H3 := hide (H2.out.drew.on hb3)
  have r6 : w3.cell? ⟨w.heap.size, 6, none⟩ = some (.int .u64 draw) := (hb3.cell lE2).trans g6
  have lE3 : w.heap.size < w3.heap.size := World.block_lt_of_cell? w3 _ r6
  clear hlen hr3 hb3 HO M2
  have hop' : (0 : Int) < ((openOf (closeM s att) c.number).length : Int) := by omega
  generalize (openOf (closeM s att) c.number).length = m at hop hop' ⊢
  go_wp2_with fail
  go_ret
  exact ⟨_, V, rfl, Gives.of_nil H3.out M3.out⟩

set_option maxRecDepth 100000 in
set_option maxHeartbeats 8000000 in
theorem rep_answer_fail_wait {N : Int} (h : PRep w p s V) (hI : Inv N s) (hN : N ≤ 60000) (call att value timeout draw to' : Int) (safe : Bool) {a : PAtt} {c : PCall} (hatt : attOf s att = some (att, a)) (hcall : callOf s a.call = some c) (hs : 0 < s.set) (hsf : c.safe = true) (hop : (openOf (closeM s att) c.number).length = 0) (hd0 : 0 ≤ draw) :
    Calls Tryz.prog 38 #[.pointer (some ⟨p, 0, none⟩), evV ⟨3, call, att, value, timeout, safe, draw, to'⟩] w fun ex w' => ∃ v V', ex = .returned v ∧ Gives w w' V V' p v (waitA (closeM s att) c draw) (waitM (closeM s att) c draw) := by
  have lp := h.lp
  obtain ⟨hc, hn⟩ := callOf_mem hcall
  have hma : (att, a) ∈ s.atts := List.mem_of_find?_eq_some hatt
  obtain ⟨_, _, a3, a4, _⟩ := hI.ab _ hma
  dsimp only at a3 a4
  have hn1 := hI.n1
  have hwa : (Lit.int .i64 att).wf = true := h.mA.wf (att, attV a) (List.mem_map.2 ⟨(att, a), hma, rfl⟩)
  have hwc : (Lit.int .i64 a.call).wf = true := by
    rw [← hn]
    exact h.mC.wf (c.number, .pointer (some ⟨V.q c.number, 0, none⟩)) (List.mem_map.2 ⟨c, hc, rfl⟩)
  have hga := mget_attOf hatt
  unfold evV
  dsimp only
  obtain ⟨B, hBx⟩ : ∃ B, B = w.alloc (.cells #[.int .i64 3, .int .i64 call, .int .i64 att, .int .i64 value, .int .i64 timeout, .bool safe, .int .u64 draw, .int .i64 to'] 39) := ⟨_, rfl⟩
  have hB0 : Below w.heap.size w B := by rw [hBx]; exact (Below.refl _ _).alloc (Nat.le_refl _) _
  have e0 : B.cell? ⟨w.heap.size, 0, none⟩ = some (.int .i64 3) := by rw [hBx]; simp
  have e2 : B.cell? ⟨w.heap.size, 2, none⟩ = some (.int .i64 att) := by rw [hBx]; simp
  have e3 : B.cell? ⟨w.heap.size, 3, none⟩ = some (.int .i64 value) := by rw [hBx]; simp
  have e6 : B.cell? ⟨w.heap.size, 6, none⟩ = some (.int .u64 draw) := by rw [hBx]; simp
  have lB : w.heap.size < B.heap.size := World.block_lt_of_cell? B _ e0
  have htE : 7 ≤ V.tag w.heap.size := by
    rcases Nat.lt_or_ge (V.tag w.heap.size) 7 with h2 | h2
    · have := h.tl _ h2
      omega
    · exact h2
  have hB := h.on hB0
  have htA : 7 ≤ V.tag B.heap.size := by
    rcases Nat.lt_or_ge (V.tag B.heap.size) 7 with h2 | h2
    · have := hB.tl _ h2
      omega
    · exact h2
  have hlk2 : ∀ O : Obj, (Instr.lookup 89 (.map (some V.ba)) (.int .i64 att) true).run Tryz.prog (B.alloc O).drew = .ok (.tuple #[.agg #[.int .i64 a.call, .int .i64 a.launched], .bool true]) (B.alloc O).drew := fun O => by
    have h1 := (hB.on (((Below.refl B.heap.size B).alloc (Nat.le_refl _) O).drew)).mA.look2 Tryz.underlying3 Tryz.underlying89 (z := .agg #[.int .i64 0, .int .i64 0]) (by kernel_rfl) okAtt_zero hwa
    rw [hga] at h1
    exact h1
  have hlk : (Instr.lookup 89 (.map (some V.ba)) (.int .i64 att) true).run Tryz.prog B.drew = .ok (.tuple #[.agg #[.int .i64 a.call, .int .i64 a.launched], .bool true]) B.drew := by
    have h1 := hB.drew.mA.look2 Tryz.underlying3 Tryz.underlying89 (z := .agg #[.int .i64 0, .int .i64 0]) (by kernel_rfl) okAtt_zero hwa
    rw [hga] at h1
    exact h1
  have cA : B.cell? ⟨p, 16, none⟩ = some (.map (some V.ba)) := hB.kk _ _ rfl
  have lpB := hB.lp
  have HB := hide hBx
  have HH := hide hB
  have hgc : mget (callL s.calls V.q) a.call = some (.pointer (some ⟨V.q a.call, 0, none⟩)) := mget_callL hcall
  have Hgc := hide hgc
  have HI := hide hI
  have Hn := hide hn
  have Hma := hide hma
  clear hBx h hB hga hatt hgc hcall hI hn hma
  go_enter Tryz.func38, Tryz.ntmps38
  go_wp2_with fail
  all_goals (try rw [← HB.out])
  go_region
  go_wp2_with fail
  have hW0 : Below B.heap.size B (B.alloc (.cells #[.int .i64 a.call, .int .i64 a.launched] 111)).drew := ((Below.refl _ _).alloc (Nat.le_refl _) _).drew
  have b0 : (B.alloc (.cells #[.int .i64 a.call, .int .i64 a.launched] 111)).drew.cell? ⟨B.heap.size, 0, none⟩ = some (.int .i64 a.call) := by
    show (B.alloc _).cell? _ = _
    simp
  have b1 : (B.alloc (.cells #[.int .i64 a.call, .int .i64 a.launched] 111)).drew.cell? ⟨B.heap.size, 1, none⟩ = some (.int .i64 a.launched) := by
    show (B.alloc _).cell? _ = _
    simp
  generalize (B.alloc (.cells #[.int .i64 a.call, .int .i64 a.launched] 111)).drew = W1 at hW0 b0 b1 ⊢
  have h1 := HH.out.on hW0
  have lW1 := h1.lp
  have cA1 : W1.cell? ⟨p, 16, none⟩ = some (.map (some V.ba)) := h1.kk _ _ rfl
  have f2 := (hW0.cell lB).trans e2
  have lE1 : w.heap.size < W1.heap.size := Nat.lt_of_lt_of_le lB hW0.size
  have lA1 : B.heap.size < W1.heap.size := World.block_lt_of_cell? W1 _ b0
  obtain ⟨w2, hrun, hM2, ht2⟩ := h1.drew.mA.del Tryz.underlying3 Tryz.underlying89 hwa 0
  rw [attL_filter] at hM2
  have hK2 := Kp.of_map ht2
  obtain ⟨h2, m2⟩ := h1.drew.set_a hM2 hK2
  have H2 : Hid (PRep w2 p (closeM s att) V) := h2
  have nE : w.heap.size ∉ [V.ba] := by
    intro e
    have e' : w.heap.size = V.ba := by simpa using e
    rw [e', HH.out.ta] at htE
    omega
  have nA : B.heap.size ∉ [V.ba] := by
    intro e
    have e' : B.heap.size = V.ba := by simpa using e
    rw [e', HH.out.ta] at htA
    omega
  have g0 : w2.cell? ⟨w.heap.size, 0, none⟩ = some (.int .i64 3) := (hK2.cell lE1 nE 0).trans ((hW0.cell lB).trans e0)
  have g3 : w2.cell? ⟨w.heap.size, 3, none⟩ = some (.int .i64 value) := (hK2.cell lE1 nE 3).trans ((hW0.cell lB).trans e3)
  have g6 : w2.cell? ⟨w.heap.size, 6, none⟩ = some (.int .u64 draw) := (hK2.cell lE1 nE 6).trans ((hW0.cell lB).trans e6)
  have d0 : w2.cell? ⟨B.heap.size, 0, none⟩ = some (.int .i64 a.call) := (hK2.cell lA1 nA 0).trans b0
  have d1 : w2.cell? ⟨B.heap.size, 1, none⟩ = some (.int .i64 a.launched) := (hK2.cell lA1 nA 1).trans b1
  have M2 := hide (((PMv.of_below (V := V) (hB0.trans (hW0.mono hB0.size))).trans (PMv.of_below (Below.refl _ _).drew)).trans m2)
  have cC2 : w2.cell? ⟨p, 15, none⟩ = some (.map (some V.bc)) := h2.kk _ _ rfl
  have cN2 : w2.cell? ⟨p, 10, none⟩ = some (.int .i64 s.now) := h2.kk _ _ rfl
  have x1 : w2.cell? ⟨V.q a.call, 1, none⟩ = some (.bool c.safe) := by
    have := (h2.cc c hc 1 _ rfl).1
    rw [Hn.out] at this
    exact this
  have lp2 := h2.lp
  have lE2 : w.heap.size < w2.heap.size := World.block_lt_of_cell? w2 _ g0
  have lA2 : B.heap.size < w2.heap.size := World.block_lt_of_cell? w2 _ d0
  have lx2 : V.q a.call < w2.heap.size := World.block_lt_of_cell? w2 _ x1
  have hlk3 := h2.drew.mC.look1 Tryz.underlying3 Tryz.underlying88 (z := .pointer none) (by kernel_rfl) okPtr_none hwc
  rw [Hgc.out, Option.getD_some] at hlk3
  clear h1 h2 m2 hM2 ht2 hK2 hW0 b0 b1 e0 e2 e3 e6 hlk hlk2 cA lW1 nE nA hwa hwc Hgc HB hB0
  rw [hsf] at x1
  clear hsf
  go_region
  clear hrun cA1 f2 lE1 lA1
  go_wp2_with fail
  go_region
  go_wp2_with fail
  have HO := hide (openAttempts_T p (V.q a.call) V.ba c.number (closeM s att).atts w2.drew (by have := (inv_close HI.out att).aN; omega) (H2.out.drew.kk _ _ rfl) (by have := (H2.out.drew.cc c hc 0 _ rfl).1; rw [Hn.out] at this; rw [Hn.out]; exact this) H2.out.drew.mA)
  refine HO.out.mono ?_
  rintro e w3 ⟨v3, rfl, hr3, hb3⟩
  have hlen : (((closeM s att).atts.filter (fun p => p.2.call == c.number)).map (·.1)).mergeSort.length = (openOf (closeM s att) c.number).length := by
    rw [List.length_mergeSort]
    rfl
  obtain ⟨A3, cap3, rfl, _, _, _⟩ := hr3.form
  rw [hlen]
  have M3 := hide (M2.out.trans ((PMv.of_below (Below.refl _ _).drew).trans (PMv.of_below hb3)))
  have H3 := hide (H2.out.drew.on hb3)
  have r6 : w3.cell? ⟨w.heap.size, 6, none⟩ = some (.int .u64 draw) := (hb3.cell lE2).trans g6
  have lE3 : w.heap.size < w3.heap.size := World.block_lt_of_cell? w3 _ r6
  clear hlen hr3 hb3 HO M2
  rw [hop]
  have Hop := hide hop
  clear hop
  have hcfg := HI.out.cfg
  obtain ⟨c1, c2, c3, c4, c5, c6⟩ := HI.out.cb c hc
  have hm1 := hcfg.m1
  have HWF := hide (rep_waitOrFail H3.out hc draw hd0 hs (by have := HI.out.sN; show s.set ≤ _; omega) (by have := (inv_close HI.out att).aN; omega) (by have := HI.out.tN; show s.timers.length ≤ _; omega) hcfg.b0 hcfg.b1 hcfg.m1 c5 (by omega) HI.out.n0 HI.out.n1)
  rw [Hn.out] at HWF
  clear hcfg c1 c2 c3 c4 c5 c6 hm1
  go_wp2_with fail
  refine HWF.out.mono ?_
  rintro e w4 ⟨v, V4, rfl, g⟩
  have HG := hide (Gives.after M3.out g)
  clear g HWF M3
  go_wp2_with fail
  go_ret
  exact ⟨v, V4, rfl, HG.out⟩

end
end Go.Proofs.YtlccfpbbdgpjbaaGreatDoor

namespace Go.Proofs.YtlccfpbbdgpjbaaGreatDoor
open Go.RowKit Go.Maps

section
variable {w : World} {p : Nat} {s : PSt} {V : PV}

theorem rep_adv (HA : HedgeAll p s.cfg) {N : Int} (h : PRep w p s V) (hI : Inv N s) (hN : N ≤ 60000) (til : Int) (hz : s.stale ≤ 4611686018427387904) :
    Calls Tryz.prog 40 #[.pointer (some ⟨p, 0, none⟩), .int .i64 til] w fun e w' => ∃ v V', e = .returned v ∧ Gives w w' V V' p v (advA s til) (advM s til) := by
  by_cases hst : til < s.now ∨ 1099511627776 < til
  · rw [show advA s til = [] from if_pos hst, show advM s til = staleM s from if_pos hst]
    exact rep_adv_stale h hI til hz hst
  · rw [show advA s til = (advF til (turns s).toNat s).2 from if_neg hst, show advM s til = (advF til (turns s).toNat s).1 from if_neg hst]
    exact rep_adv_go HA h hI hN til (fun h' => hst (.inl h')) (fun h' => hst (.inr h'))

/-- Calls that are open have had a timer set. -/
def SP (s : PSt) : Prop := s.calls = [] ∨ 0 < s.set

theorem rep_answer {N : Int} (h : PRep w p s V) (hI : Inv N s) (hN : N ≤ 60000) (hs : SP s) (e : PEv) (hk : e.kind = 2 ∨ e.kind = 3 ∨ e.kind = 4) (hw : (Lit.int .i64 e.attempt).wf = true) (hd : 0 ≤ e.draw) (hz : s.stale ≤ 4611686018427387904) :
    Calls Tryz.prog 38 #[.pointer (some ⟨p, 0, none⟩), evV e] w fun ex w' => ∃ v V', ex = .returned v ∧ Gives w w' V V' p v (answerA s e) (answerM s e) := by
  unfold answerA answerM
  cases ha : attOf s e.attempt with
  | none =>
    refine (answer_stale p V.ba s.stale e s.atts w hw (h.kk _ _ rfl) h.mA (mget_attOf_none ha) hI.z0 hz (h.kk _ _ rfl) (h.fz _ (by omega))).mono ?_
    rintro ex w' ⟨rfl, hc, hF⟩
    obtain ⟨h1, m1⟩ := h.set_cell (s' := staleM s) hF hc rfl rfl rfl rfl rfl rfl id
    exact ⟨_, V, rfl, Gives.of_nil h1 m1⟩
  | some x =>
    obtain ⟨k, a⟩ := x
    have hm : (k, a) ∈ s.atts := List.mem_of_find?_eq_some ha
    have hk' : k = e.attempt := by simpa using List.find?_some ha
    subst hk'
    obtain ⟨_, _, _, _, c, hc, hn⟩ := hI.ab _ hm
    dsimp only at hn ⊢
    have hcall : callOf s a.call = some c := by rw [← hn]; exact hI.find hc
    rw [hcall]
    dsimp only
    have hs' : 0 < s.set := by
      rcases hs with e' | e'
      · rw [e'] at hc; cases hc
      · exact e'
    obtain ⟨kd, cl, at', vl, tm, sf, dr, to'⟩ := e
    dsimp only at ha hk hw hd ⊢
    rcases hk with rfl | rfl | rfl
    · have eA : answerA1 s ⟨2, cl, at', vl, tm, sf, dr, to'⟩ a c = finishA (addM (closeM s at') (s.now - a.launched)) c.number 1 vl := by simp [answerA1]
      have eM : answerM1 s ⟨2, cl, at', vl, tm, sf, dr, to'⟩ a c = finishM (addM (closeM s at') (s.now - a.launched)) c.number := by simp [answerM1]
      rw [eA, eM]
      exact rep_answer_ok h hI hN cl at' vl tm dr to' sf ha hcall hs'
    · cases hsf : c.safe with
      | false =>
        have eA : answerA1 s ⟨3, cl, at', vl, tm, sf, dr, to'⟩ a c = finishA (closeM s at') c.number 2 0 := by simp [answerA1, hsf]
        have eM : answerM1 s ⟨3, cl, at', vl, tm, sf, dr, to'⟩ a c = finishM (closeM s at') c.number := by simp [answerM1, hsf]
        rw [eA, eM]
        exact rep_answer_lost h hI hN cl at' vl tm dr to' sf ha hcall hs' hsf
      | true =>
        by_cases ho : 0 < (openOf (closeM s at') c.number).length
        · have eA : answerA1 s ⟨3, cl, at', vl, tm, sf, dr, to'⟩ a c = [] := by
            unfold answerA1
            rw [if_neg (by simp), if_neg (by simp [hsf]), if_pos ho]
          have eM : answerM1 s ⟨3, cl, at', vl, tm, sf, dr, to'⟩ a c = closeM s at' := by
            unfold answerM1
            rw [if_neg (by simp), if_neg (by simp [hsf]), if_pos ho]
          rw [eA, eM]
          exact rep_answer_fail_open h hI hN cl at' vl tm dr to' sf ha hcall hs' hsf ho
        · have eA : answerA1 s ⟨3, cl, at', vl, tm, sf, dr, to'⟩ a c = waitA (closeM s at') c dr := by
            unfold answerA1
            rw [if_neg (by simp), if_neg (by simp [hsf]), if_neg ho]
          have eM : answerM1 s ⟨3, cl, at', vl, tm, sf, dr, to'⟩ a c = waitM (closeM s at') c dr := by
            unfold answerM1
            rw [if_neg (by simp), if_neg (by simp [hsf]), if_neg ho]
          rw [eA, eM]
          exact rep_answer_fail_wait h hI hN cl at' vl tm dr to' sf ha hcall hs' hsf (by omega) hd
    · by_cases ho : 0 < (openOf (closeM s at') c.number).length
      · have eA : answerA1 s ⟨4, cl, at', vl, tm, sf, dr, to'⟩ a c = [] := by
          unfold answerA1
          rw [if_neg (by simp), if_neg (by simp), if_pos ho]
        have eM : answerM1 s ⟨4, cl, at', vl, tm, sf, dr, to'⟩ a c = closeM s at' := by
          unfold answerM1
          rw [if_neg (by simp), if_neg (by simp), if_pos ho]
        rw [eA, eM]
        exact rep_answer_nack_open h hI hN cl at' vl tm dr to' sf ha hcall hs' ho
      · have eA : answerA1 s ⟨4, cl, at', vl, tm, sf, dr, to'⟩ a c = waitA (closeM s at') c dr := by
          unfold answerA1
          rw [if_neg (by simp), if_neg (by simp), if_neg ho]
        have eM : answerM1 s ⟨4, cl, at', vl, tm, sf, dr, to'⟩ a c = waitM (closeM s at') c dr := by
          unfold answerM1
          rw [if_neg (by simp), if_neg (by simp), if_neg ho]
        rw [eA, eM]
        exact rep_answer_nack_wait h hI hN cl at' vl tm dr to' sf ha hcall hs' (by omega) hd

/-- An event that may come in: its numbers are Go's. -/
structure EvOk (e : PEv) : Prop where
  call : (Lit.int .i64 e.call).wf = true
  attempt : (Lit.int .i64 e.attempt).wf = true
  draw : 0 ≤ e.draw

set_option maxRecDepth 100000 in
set_option maxHeartbeats 8000000 in
theorem rep_step (HA : HedgeAll p s.cfg) {N : Int} (h : PRep w p s V) (hI : Inv N s) (hN : N ≤ 60000) (hs : SP s) (hz : s.stale ≤ 4611686018427387904) (e : PEv) (he : EvOk e) :
    Calls Tryz.prog 20 #[.pointer (some ⟨p, 0, none⟩), evV e] w fun ex w' => ∃ v V', ex = .returned v ∧ Gives w w' V V' p v (stepA s e) (stepM s e) := by
  have HS := hide (fun W (hb : Below w.heap.size w W) => rep_submit HA (h.on hb) hI hN e he.call)
  have HN := hide (fun W (hb : Below w.heap.size w W) hk => rep_answer (h.on hb) hI hN hs e hk he.attempt he.draw hz)
  have HC := hide (fun W (hb : Below w.heap.size w W) => rep_cancel (h.on hb) hI hN hs e.call he.call hz)
  have HV := hide (fun W (hb : Below w.heap.size w W) => rep_adv HA (h.on hb) hI hN e.to_ hz)
  have HP := hide (fun W (hb : Below w.heap.size w W) => rep_pass (h.on hb) hI.z0 hz)
  have HM := hide (fun W (hb : Below w.heap.size w W) => PMv.of_below (V := V) hb)
  obtain ⟨k, c, a, v, t, sf, d, o⟩ := e
  unfold evV at HS HN ⊢
  dsimp only at HS HN HC HV ⊢
  obtain ⟨B, hBx⟩ : ∃ B, B = w.alloc (.cells #[.int .i64 k, .int .i64 c, .int .i64 a, .int .i64 v, .int .i64 t, .bool sf, .int .u64 d, .int .i64 o] 39) := ⟨_, rfl⟩
  have hB : Below w.heap.size w B := by rw [hBx]; exact (Below.refl _ _).alloc (Nat.le_refl _) _
  have g0 : B.cell? ⟨w.heap.size, 0, none⟩ = some (.int .i64 k) := by rw [hBx]; simp
  have g1 : B.cell? ⟨w.heap.size, 1, none⟩ = some (.int .i64 c) := by rw [hBx]; simp
  have g2 : B.cell? ⟨w.heap.size, 2, none⟩ = some (.int .i64 a) := by rw [hBx]; simp
  have g3 : B.cell? ⟨w.heap.size, 3, none⟩ = some (.int .i64 v) := by rw [hBx]; simp
  have g4 : B.cell? ⟨w.heap.size, 4, none⟩ = some (.int .i64 t) := by rw [hBx]; simp
  have g5 : B.cell? ⟨w.heap.size, 5, none⟩ = some (.bool sf) := by rw [hBx]; simp
  have g6 : B.cell? ⟨w.heap.size, 6, none⟩ = some (.int .u64 d) := by rw [hBx]; simp
  have g7 : B.cell? ⟨w.heap.size, 7, none⟩ = some (.int .i64 o) := by rw [hBx]; simp
  have HB := hide hBx
  have lB : w.heap.size < B.heap.size := World.block_lt_of_cell? B _ g0
  clear h hI hs he hBx
  by_cases k1 : k = 1
  · subst k1
    rw [show stepA s ⟨1, c, a, v, t, sf, d, o⟩ = submitA s ⟨1, c, a, v, t, sf, d, o⟩ by simp [stepA], show stepM s ⟨1, c, a, v, t, sf, d, o⟩ = submitM s ⟨1, c, a, v, t, sf, d, o⟩ by simp [stepM]]
    have HX := hide (HS.out B hB)
    have HMB := hide (HM.out B hB)
    clear HS HN HC HV HP HM
    go_enter Tryz.func20, Tryz.ntmps20
    go_wp2_with fail
    all_goals (try rw [← HB.out])
    refine HX.out.mono ?_
    rintro ex w1 ⟨v1, V1, rfl, g⟩
    have HG := hide (Gives.after HMB.out g)
    clear g HX HMB
    go_wp2_with fail
    go_ret
    exact ⟨v1, V1, rfl, HG.out⟩
  by_cases k2 : k = 2
  · subst k2
    rw [show stepA s ⟨2, c, a, v, t, sf, d, o⟩ = answerA s ⟨2, c, a, v, t, sf, d, o⟩ by simp [stepA], show stepM s ⟨2, c, a, v, t, sf, d, o⟩ = answerM s ⟨2, c, a, v, t, sf, d, o⟩ by simp [stepM]]
    have HX := hide (HN.out B hB (.inl rfl))
    have HMB := hide (HM.out B hB)
    clear HS HN HC HV HP HM
    go_enter Tryz.func20, Tryz.ntmps20
    go_wp2_with fail
    all_goals (try rw [← HB.out])
    refine HX.out.mono ?_
    rintro ex w1 ⟨v1, V1, rfl, g⟩
    have HG := hide (Gives.after HMB.out g)
    clear g HX HMB
    go_wp2_with fail
    go_ret
    exact ⟨v1, V1, rfl, HG.out⟩
  by_cases k3 : k = 3
  · subst k3
    rw [show stepA s ⟨3, c, a, v, t, sf, d, o⟩ = answerA s ⟨3, c, a, v, t, sf, d, o⟩ by simp [stepA], show stepM s ⟨3, c, a, v, t, sf, d, o⟩ = answerM s ⟨3, c, a, v, t, sf, d, o⟩ by simp [stepM]]
    have HX := hide (HN.out B hB (.inr (.inl rfl)))
    have HMB := hide (HM.out B hB)
    clear HS HN HC HV HP HM
    go_enter Tryz.func20, Tryz.ntmps20
    go_wp2_with fail
    all_goals (try rw [← HB.out])
    refine HX.out.mono ?_
    rintro ex w1 ⟨v1, V1, rfl, g⟩
    have HG := hide (Gives.after HMB.out g)
    clear g HX HMB
    go_wp2_with fail
    go_ret
    exact ⟨v1, V1, rfl, HG.out⟩
  by_cases k4 : k = 4
  · subst k4
    rw [show stepA s ⟨4, c, a, v, t, sf, d, o⟩ = answerA s ⟨4, c, a, v, t, sf, d, o⟩ by simp [stepA], show stepM s ⟨4, c, a, v, t, sf, d, o⟩ = answerM s ⟨4, c, a, v, t, sf, d, o⟩ by simp [stepM]]
    have HX := hide (HN.out B hB (.inr (.inr rfl)))
    have HMB := hide (HM.out B hB)
    clear HS HN HC HV HP HM
    go_enter Tryz.func20, Tryz.ntmps20
    go_wp2_with fail
    all_goals (try rw [← HB.out])
    refine HX.out.mono ?_
    rintro ex w1 ⟨v1, V1, rfl, g⟩
    have HG := hide (Gives.after HMB.out g)
    clear g HX HMB
    go_wp2_with fail
    go_ret
    exact ⟨v1, V1, rfl, HG.out⟩
  by_cases k5 : k = 5
  · subst k5
    rw [show stepA s ⟨5, c, a, v, t, sf, d, o⟩ = cancelA s c by simp [stepA], show stepM s ⟨5, c, a, v, t, sf, d, o⟩ = cancelM s c by simp [stepM]]
    have HX := hide (HC.out B hB)
    have HMB := hide (HM.out B hB)
    clear HS HN HC HV HP HM
    go_enter Tryz.func20, Tryz.ntmps20
    go_wp2_with fail
    all_goals (try rw [← HB.out])
    refine HX.out.mono ?_
    rintro ex w1 ⟨v1, V1, rfl, g⟩
    have HG := hide (Gives.after HMB.out g)
    clear g HX HMB
    go_wp2_with fail
    go_ret
    exact ⟨v1, V1, rfl, HG.out⟩
  by_cases k6 : k = 6
  · subst k6
    rw [show stepA s ⟨6, c, a, v, t, sf, d, o⟩ = advA s o by simp [stepA], show stepM s ⟨6, c, a, v, t, sf, d, o⟩ = advM s o by simp [stepM]]
    have HX := hide (HV.out B hB)
    have HMB := hide (HM.out B hB)
    clear HS HN HC HV HP HM
    go_enter Tryz.func20, Tryz.ntmps20
    go_wp2_with fail
    all_goals (try rw [← HB.out])
    refine HX.out.mono ?_
    rintro ex w1 ⟨v1, V1, rfl, g⟩
    have HG := hide (Gives.after HMB.out g)
    clear g HX HMB
    go_wp2_with fail
    go_ret
    exact ⟨v1, V1, rfl, HG.out⟩
  rw [show stepA s ⟨k, c, a, v, t, sf, d, o⟩ = [] by simp [stepA, k1, k2, k3, k4, k5, k6], show stepM s ⟨k, c, a, v, t, sf, d, o⟩ = staleM s by simp [stepM, k1, k2, k3, k4, k5, k6]]
  have HX := hide (HP.out B hB)
  have HMB := hide (HM.out B hB)
  clear HS HN HC HV HP HM
  go_enter Tryz.func20, Tryz.ntmps20
  go_wp2_with fail
  all_goals (try rw [← HB.out])
  refine HX.out.mono ?_
  rintro ex w1 ⟨rfl, h1, m1⟩
  have HG : Hid (Gives w w1 V V p (.slice none 0 0) [] (staleM s)) := Gives.of_nil h1 (HMB.out.trans m1)
  clear h1 m1 HX HMB
  go_wp2_with fail
  go_ret
  exact ⟨_, V, rfl, HG.out⟩
end
end Go.Proofs.YtlccfpbbdgpjbaaGreatDoor
