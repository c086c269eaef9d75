import Derived.Test.YtlccfpbbdgpjbaaGreatDoorZState
import Derived.Test.YtlccfpbbdgpjbaaGreatDoorZModel
namespace Go.Proofs.YtlccfpbbdgpjbaaGreatDoor
open Go.RowKit Go.Maps

def RowsA (L : List (Value × List Int × Nat)) (W : World) : Prop := (∀ x ∈ L, Row W x.2.2 3 1 encI x.1 x.2.1) ∧ L.Pairwise (fun x y => ∀ k, x.1.ownBlock = some k → y.1.ownBlock ≠ some k)
theorem RowsA.step {L : List (Value × List Int × Nat)} {W w' : World} (h : RowsA L W) (hb : Below W.heap.size W w') : RowsA L w' := ⟨fun x hx => (h.1 x hx).below hb, h.2⟩
theorem RowsA.push {L : List (Value × List Int × Nat)} {W w' : World} (h : RowsA L W) (hb : Below W.heap.size W w') {v : Value} {l : List Int} {b : Nat} (hr : Row w' W.heap.size 3 1 encI v l) (hbW : b ≤ W.heap.size) : RowsA ((v, l, b) :: L) w' :=
  ⟨fun x hx => by
    rcases List.mem_cons.1 hx with rfl | hx
    · exact hr.base hbW
    · exact (h.1 x hx).below hb,
   List.pairwise_cons.2 ⟨fun y hy k e1 e2 => by
    have h1 := (hr.lt k e1).1
    have h2 := ((h.1 y hy).lt k e2).2
    omega, h.2⟩⟩

set_option maxRecDepth 100000 in
set_option maxHeartbeats 8000000 in
theorem state_any2 (p bc ba : Nat) (now stale : Int) (ok1 ok2 : Value → Bool) (vu : Value) (units : List PB) (lc la : List (Int × Value)) (A1 A2 : Option Addr) (n1 n2 cap1 cap2 : Nat) (w : World) (hlu : units.length ≤ 1000000) (hku : OkB units) (hlc : lc.length ≤ 1000000) (hla : la.length ≤ 1000000)
    (cN : w.cell? ⟨p, 10, none⟩ = some (.int .i64 now)) (cU : w.cell? ⟨p, 14, none⟩ = some vu) (rU : Row w 0 150 2 encPB vu units) (cC : w.cell? ⟨p, 15, none⟩ = some (.map (some bc))) (cA : w.cell? ⟨p, 16, none⟩ = some (.map (some ba)))
    (cT : w.cell? ⟨p, 18, none⟩ = some (.slice A1 n1 cap1)) (cM : w.cell? ⟨p, 20, none⟩ = some (.slice A2 n2 cap2)) (cS : w.cell? ⟨p, 21, none⟩ = some (.int .i64 stale)) (mC : MapI Tryz.prog 3 ok1 w bc lc) (mA : MapI Tryz.prog 3 ok2 w ba la) :
    Calls Tryz.prog 25 #[.pointer (some ⟨p, 0, none⟩)] w fun e w' => ∃ vc va, e = .returned (.agg #[.int .i64 now, .int .i64 (sumB units), vc, va, .int .i64 n1, .int .i64 n2, .int .i64 stale]) ∧
      Row w' (w.heap.size + 1) 3 1 encI vc (lc.map (·.1)).mergeSort ∧ Row w' (w.heap.size + 1) 3 1 encI va (la.map (·.1)).mergeSort ∧ Below w.heap.size w w' ∧ ∀ k, va.ownBlock = some k → vc.ownBlock ≠ some k := by
  have lp : p < w.heap.size := World.block_lt_of_cell? w _ cN
  have HBL := hide (fun W (h : Below w.heap.size w W) => balanceB_any p 11 vu units W hlu hku ((h.cell lp).trans cU) (rU.below h))
  have HLN := hide (fun W (h : Below w.heap.size w W) => (len_any2 p 18 A1 n1 cap1 W ((h.cell lp).trans cT)).mono (R' := fun e w' => e = .returned (.int .i64 n1) ∧ Below W.heap.size W w') (by rintro e w' ⟨rfl, rfl⟩; exact ⟨rfl, Below.refl _ _⟩))
  have HCT := hide (fun W (h : Below w.heap.size w W) => (count_any p 20 A2 n2 cap2 W ((h.cell lp).trans cM)).mono (R' := fun e w' => e = .returned (.int .i64 n2) ∧ Below W.heap.size W w') (by rintro e w' ⟨rfl, rfl⟩; exact ⟨rfl, Below.refl _ _⟩))
  have HSX := hide (fun g kb W (h : Below w.heap.size w W) hg => sortedX bc ba ok1 ok2 lc la hlc hla g kb W hg (mC.same (h.block _ mC.lt)) (mA.same (h.block _ mA.lt)))
  have HS0 : Hid (SS p bc ba now stale w (w.alloc (.cells #[.int .i64 0, .int .i64 0, .slice none 0 0, .slice none 0 0, .int .i64 0, .int .i64 0, .int .i64 0] 64)).drew) := by
    have hB : Below w.heap.size w (w.alloc (.cells #[.int .i64 0, .int .i64 0, .slice none 0 0, .slice none 0 0, .int .i64 0, .int .i64 0, .int .i64 0] 64)).drew := ((Below.refl _ _).alloc (Nat.le_refl _) _).drew
    refine ⟨hB, by simp, (hB.cell lp).trans cN, (hB.cell lp).trans cC, (hB.cell lp).trans cA, (hB.cell lp).trans cS, ?_, ?_, ?_, ?_, ?_, ?_, ?_, ?_, ?_, ?_, ?_, ?_, ?_, ?_⟩ <;> simp
  generalize sumB units = bal at HBL ⊢
  clear cU rU cT cM mC mA
  go_enter Tryz.func25, Tryz.ntmps25
  go_wp2_with fail
  have hSS := HS0.out
  have hRR : RowsA [] (w.alloc (.cells #[.int .i64 0, .int .i64 0, .slice none 0 0, .slice none 0 0, .int .i64 0, .int .i64 0, .int .i64 0] 64)).drew := ⟨fun x hx => (by cases hx), List.Pairwise.nil⟩
  go_region_held3 (fun w' => Below w.heap.size w w' ∧ w.heap.size < w'.heap.size ∧ w'.cell? ⟨p, 10, none⟩ = some (.int .i64 now) ∧ w'.cell? ⟨p, 15, none⟩ = some (.map (some bc)) ∧ w'.cell? ⟨p, 16, none⟩ = some (.map (some ba)) ∧ w'.cell? ⟨p, 21, none⟩ = some (.int .i64 stale) ∧ (w'.cell? ⟨w.heap.size, 0, none⟩).isSome = true ∧ w'.frozen? ⟨w.heap.size, 0, none⟩ = false ∧ (w'.cell? ⟨w.heap.size, 1, none⟩).isSome = true ∧ w'.frozen? ⟨w.heap.size, 1, none⟩ = false ∧ (w'.cell? ⟨w.heap.size, 2, none⟩).isSome = true ∧ w'.frozen? ⟨w.heap.size, 2, none⟩ = false ∧ (w'.cell? ⟨w.heap.size, 3, none⟩).isSome = true ∧ w'.frozen? ⟨w.heap.size, 3, none⟩ = false ∧ (w'.cell? ⟨w.heap.size, 4, none⟩).isSome = true ∧ w'.frozen? ⟨w.heap.size, 4, none⟩ = false ∧ (w'.cell? ⟨w.heap.size, 5, none⟩).isSome = true ∧ w'.frozen? ⟨w.heap.size, 5, none⟩ = false ∧ (w'.cell? ⟨w.heap.size, 6, none⟩).isSome = true ∧ w'.frozen? ⟨w.heap.size, 6, none⟩ = false)
    (first
      | (show SS p bc ba now stale w _; with_reducible exact hSS)
      | (show SS p bc ba now stale w _; with_reducible exact SS.store7 hSS lp _ _ _ _ _ _ _))
    (first
      | (go_at_call 44; refine (HBL.out _ hSS.below).mono ?_; rintro e w' ⟨rfl, hb⟩; replace hRR := hRR.step hb; replace hSS := SS.step hSS lp hb)
      | (go_at_call 46; refine (keysC_b _ _).mono ?_; rintro e w' ⟨kb, rfl, hkb, hb⟩; replace hRR := hRR.step hb; replace hSS := SS.step hSS lp hb)
      | (go_at_call 47; refine (keysA_b _ _).mono ?_; rintro e w' ⟨kb, rfl, hkb, hb⟩; replace hRR := hRR.step hb; replace hSS := SS.step hSS lp hb)
      | (go_at_call 45; refine (HSX.out _ _ _ hSS.below (by first | exact .inl ⟨rfl, hkb⟩ | exact .inr ⟨rfl, hkb⟩)).mono ?_; rintro e w' ⟨A, n, cap, rfl, hrow, hb⟩; replace hRR := hRR.push hb hrow (Nat.succ_le_of_lt hSS.size); replace hSS := SS.step hSS lp hb)
      | (go_at_call 48; refine (HLN.out _ hSS.below).mono ?_; rintro e w' ⟨rfl, hb⟩; replace hRR := hRR.step hb; replace hSS := SS.step hSS lp hb)
      | (go_at_call 49; refine (HCT.out _ hSS.below).mono ?_; rintro e w' ⟨rfl, hb⟩; replace hRR := hRR.step hb; replace hSS := SS.step hSS lp hb; have hSS2 := hSS; obtain ⟨_, _, _, _, _, _, r0, s0, r1, s1, r2, s2, r3, s3, r4, s4, r5, s5, r6, s6⟩ := hSS2; obtain ⟨u0, q0⟩ := Option.isSome_iff_exists.1 r0; obtain ⟨u1, q1⟩ := Option.isSome_iff_exists.1 r1; obtain ⟨u2, q2⟩ := Option.isSome_iff_exists.1 r2; obtain ⟨u3, q3⟩ := Option.isSome_iff_exists.1 r3; obtain ⟨u4, q4⟩ := Option.isSome_iff_exists.1 r4; obtain ⟨u5, q5⟩ := Option.isSome_iff_exists.1 r5; obtain ⟨u6, q6⟩ := Option.isSome_iff_exists.1 r6))
  go_wp2_with fail
  refine bodyPost_ret (by simp [results, Tryz.results25, go_sem, q0, q1, q2, q3, q4, q5, q6]; rfl) rfl ?_
  have hC := hRR.1 _ (List.mem_cons_of_mem _ (List.mem_cons_self))
  have hA := hRR.1 _ (List.mem_cons_self)
  dsimp only at hA hC
  have eA : (if (78 : Nat) = 77 then lc else la) = la := if_neg (by decide)
  have eC : (if True then lc else la) = lc := if_pos trivial
  rw [eA] at hA
  rw [eC] at hC
  refine ⟨_, _, rfl, hC.same (fun k hk => ?_), hA.same (fun k hk => ?_), (SS.store7 hSS lp _ _ _ _ _ _ _).below, (List.pairwise_cons.1 hRR.2).1 _ (List.mem_cons_self)⟩
  · exact seven_block _ _ _ _ _ _ _ _ (fun e => by have := (hC.lt k hk).1; omega)
  · exact seven_block _ _ _ _ _ _ _ _ (fun e => by have := (hA.lt k hk).1; omega)
theorem rep_state2 {N : Int} {w : World} {p : Nat} {s : PSt} {V : PV} (h : PRep w p s V) (hI : Inv N s) (hN : N ≤ 60000) :
    Calls Tryz.prog 25 #[.pointer (some ⟨p, 0, none⟩)] w fun e w' => ∃ vc va, e = .returned (.agg #[.int .i64 s.now, .int .i64 (sumB s.units), vc, va, .int .i64 s.timers.length, .int .i64 s.times.length, .int .i64 s.stale]) ∧
      Row w' (w.heap.size + 1) 3 1 encI vc (s.calls.map (·.number)).mergeSort ∧ Row w' (w.heap.size + 1) 3 1 encI va (s.atts.map (·.1)).mergeSort ∧ Below w.heap.size w w' ∧ ∀ k, va.ownBlock = some k → vc.ownBlock ≠ some k := by
  obtain ⟨A1, cap1, e1, -⟩ := h.rt.form
  obtain ⟨A2, cap2, e2, -⟩ := h.rm.form
  have hul := hI.ul
  have hcl := hI.cl
  have hf := hI.cfg.f1
  have haN := hI.aN
  have hlc : (callL s.calls V.q).length ≤ 1000000 := by unfold callL; rw [List.length_map]; omega
  have hla : (attL s.atts).length ≤ 1000000 := by unfold attL; rw [List.length_map]; omega
  have hm1 : (callL s.calls V.q).map (·.1) = s.calls.map (·.number) := by unfold callL; rw [List.map_map]; rfl
  have hm2 : (attL s.atts).map (·.1) = s.atts.map (·.1) := by unfold attL; rw [List.map_map]; rfl
  have hx := h.xp.length_eq
  have hS := state_any2 p V.bc V.ba s.now s.stale okPtr okAtt V.u s.units (callL s.calls V.q) (attL s.atts) A1 A2 V.xs.length s.times.length cap1 cap2 w (by omega) hI.ub hlc hla
    (h.kk _ _ rfl) (h.kk _ _ rfl) h.ru (h.kk _ _ rfl) (h.kk _ _ rfl) (by rw [← e1]; exact h.kk _ _ rfl) (by rw [← e2]; exact h.kk _ _ rfl) (h.kk _ _ rfl) h.mC h.mA
  rw [hm1, hm2, hx] at hS
  exact hS
end Go.Proofs.YtlccfpbbdgpjbaaGreatDoor
