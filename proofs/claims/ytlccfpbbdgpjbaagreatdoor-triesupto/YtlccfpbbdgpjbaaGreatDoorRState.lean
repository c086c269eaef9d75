import Derived.Test.YtlccfpbbdgpjbaaGreatDoorRStep
import Derived.Test.YtlccfpbbdgpjbaaGreatDoorRRise
import Derived.Test.YtlccfpbbdgpjbaaGreatDoorZState
namespace Go.Proofs.YtlccfpbbdgpjbaaGreatDoor
open Go.RowKit

theorem Row.inj {w : World} {b b' : Nat} {v : Value} {l m : List Int} (h1 : Row w b 3 1 encI v l) (h2 : Row w b' 3 1 encI v m) : l = m := by
  have e : l.flatMap encI = m.flatMap encI := by
    rcases h1.2 with ⟨e1, e2⟩ | ⟨g, cap, cur, e1, _, hg, _, _, _, ht⟩
    · rcases h2.2 with ⟨_, e3⟩ | ⟨g', cap', cur', e3, _⟩
      · have a1 := List.eq_nil_of_length_eq_zero e2
        have a2 := List.eq_nil_of_length_eq_zero e3
        rw [a1, a2]
      · rw [e1] at e3; cases e3
    · rcases h2.2 with ⟨e3, _⟩ | ⟨g', cap', cur', e3, _, hg', _, _, _, ht'⟩
      · rw [e1] at e3; cases e3
      · rw [e1] at e3
        simp only [Value.slice.injEq, Option.some.injEq, Addr.mk.injEq] at e3
        obtain ⟨⟨rfl, _⟩, hlm, rfl⟩ := e3
        rw [hg] at hg'
        cases hg'
        rw [← ht, ← ht', hlm]
  have key : ∀ (a c : List Int), a.flatMap encI = c.flatMap encI → a = c := by
    intro a
    induction a with
    | nil => intro c h; cases c with
      | nil => rfl
      | cons x q => simp [encI] at h
    | cons x q ih => intro c h; cases c with
      | nil => simp [encI] at h
      | cons y q' =>
        rw [List.flatMap_cons, List.flatMap_cons] at h
        simp only [encI, List.cons_append, List.nil_append, List.cons.injEq, Value.int.injEq, true_and] at h
        rw [h.1, ih q' h.2]
  exact key l m e

/-- All but one block stays. -/
structure RK (B : Nat) (w w' : World) : Prop where
  os : w'.os = w.os
  tape : w'.tape = w.tape
  output : w'.output = w.output
  size : w.heap.size ≤ w'.heap.size
  block : ∀ k, k < w.heap.size → k ≠ B → w'.heap[k]? = w.heap[k]?
theorem RK.refl (B : Nat) (w : World) : RK B w w := ⟨rfl, rfl, rfl, Nat.le_refl _, fun _ _ _ => rfl⟩
theorem RK.step {B : Nat} {w w1 w2 : World} (h : RK B w w1) (hb : Below w1.heap.size w1 w2) : RK B w w2 :=
  ⟨hb.os.trans h.os, hb.tape.trans h.tape, hb.output.trans h.output, Nat.le_trans h.size hb.size, fun k hk hn => (hb.block k (Nat.lt_of_lt_of_le hk h.size)).trans (h.block k hk hn)⟩
theorem RK.store {B : Nat} {w w1 : World} (h : RK B w w1) (j : Nat) (v : Value) : RK B w (w1.setCell ⟨B, j, none⟩ v) :=
  ⟨h.os, h.tape, h.output, by simpa using h.size, fun k hk hn => (Below.heap_setCell _ _ _ _ hn).trans (h.block k hk hn)⟩
theorem RK.row {α : Type} {B : Nat} {w w1 : World} (h : RK B w w1) {b e size : Nat} {enc : α → List Value} {v : Value} {xs : List α} (r : Row w b e size enc v xs) (hv : v.ownBlock ≠ some B) : Row w1 b e size enc v xs :=
  r.same fun k hk => h.block k (r.lt k hk).2 (fun e => hv (by rw [hk, e]))

/-- What stays so while State reads. -/
def RS (p B : Nat) (now stale : Int) (vt vm : Value) (w w' : World) : Prop := RK B w w' ∧ B < w'.heap.size ∧ w'.cell? ⟨p, 10, none⟩ = some (.int .i64 now) ∧ w'.cell? ⟨p, 14, none⟩ = some vt ∧ w'.cell? ⟨p, 16, none⟩ = some vm ∧ w'.cell? ⟨p, 17, none⟩ = some (.int .i64 stale) ∧ (w'.cell? ⟨B, 0, none⟩).isSome = true ∧ w'.frozen? ⟨B, 0, none⟩ = false ∧ (w'.cell? ⟨B, 1, none⟩).isSome = true ∧ w'.frozen? ⟨B, 1, none⟩ = false ∧ (w'.cell? ⟨B, 2, none⟩).isSome = true ∧ w'.frozen? ⟨B, 2, none⟩ = false ∧ (w'.cell? ⟨B, 3, none⟩).isSome = true ∧ w'.frozen? ⟨B, 3, none⟩ = false ∧ (w'.cell? ⟨B, 4, none⟩).isSome = true ∧ w'.frozen? ⟨B, 4, none⟩ = false ∧ (w'.cell? ⟨B, 5, none⟩).isSome = true ∧ w'.frozen? ⟨B, 5, none⟩ = false ∧ (w'.cell? ⟨B, 6, none⟩).isSome = true ∧ w'.frozen? ⟨B, 6, none⟩ = false

theorem RS.step {p B : Nat} {now stale : Int} {vt vm : Value} {w W w' : World} (h : RS p B now stale vt vm w W) (hb : Below W.heap.size W w') : RS p B now stale vt vm w w' := by
  obtain ⟨h1, h2, h3, h4, h5, h6, r0, s0, r1, s1, r2, s2, r3, s3, r4, s4, r5, s5, r6, s6⟩ := h
  have hp : p < W.heap.size := World.block_lt_of_cell? W _ h3
  exact ⟨h1.step hb, Nat.lt_of_lt_of_le h2 hb.size, (hb.cell hp).trans h3, (hb.cell hp).trans h4, (hb.cell hp).trans h5, (hb.cell hp).trans h6,
    by rw [hb.cell h2]; exact r0, (hb.frozen h2).trans s0, by rw [hb.cell h2]; exact r1, (hb.frozen h2).trans s1, by rw [hb.cell h2]; exact r2, (hb.frozen h2).trans s2, by rw [hb.cell h2]; exact r3, (hb.frozen h2).trans s3,
    by rw [hb.cell h2]; exact r4, (hb.frozen h2).trans s4, by rw [hb.cell h2]; exact r5, (hb.frozen h2).trans s5, by rw [hb.cell h2]; exact r6, (hb.frozen h2).trans s6⟩
theorem RS.store {p B : Nat} {now stale : Int} {vt vm : Value} {w W : World} (h : RS p B now stale vt vm w W) (hpB : p ≠ B) (j : Nat) (v : Value) : RS p B now stale vt vm w (W.setCell ⟨B, j, none⟩ v) := by
  obtain ⟨h1, h2, h3, h4, h5, h6, r0, s0, r1, s1, r2, s2, r3, s3, r4, s4, r5, s5, r6, s6⟩ := h
  have hf : ∀ o, (W.setCell ⟨B, j, none⟩ v).cell? ⟨p, o, none⟩ = W.cell? ⟨p, o, none⟩ := fun o => World.cell?_setCell_far _ _ _ _ (by simpa using Ne.symm hpB)
  have hs : ∀ o, (W.cell? ⟨B, o, none⟩).isSome = true → ((W.setCell ⟨B, j, none⟩ v).cell? ⟨B, o, none⟩).isSome = true := fun o h => by
    obtain ⟨u, hu⟩ := Option.isSome_iff_exists.1 h
    obtain ⟨u', hu'⟩ := cell?_setCell_some (p := ⟨B, j, none⟩) (x := v) hu
    rw [hu']; rfl
  have hz : ∀ a, (W.setCell ⟨B, j, none⟩ v).frozen? a = W.frozen? a := fun a => World.frozen?_setCell _ _ _ _
  exact ⟨h1.store j v, by simpa using h2, (hf _).trans h3, (hf _).trans h4, (hf _).trans h5, (hf _).trans h6, hs _ r0, (hz _).trans s0, hs _ r1, (hz _).trans s1, hs _ r2, (hz _).trans s2, hs _ r3, (hz _).trans s3, hs _ r4, (hz _).trans s4, hs _ r5, (hz _).trans s5, hs _ r6, (hz _).trans s6⟩
theorem RS.store7 {p B : Nat} {now stale : Int} {vt vm : Value} {w W : World} (h : RS p B now stale vt vm w W) (hpB : p ≠ B) (v0 v1 v2 v3 v4 v5 v6 : Value) :
    RS p B now stale vt vm w (((((((W.setCell ⟨B, 0, none⟩ v0).setCell ⟨B, 1, none⟩ v1).setCell ⟨B, 2, none⟩ v2).setCell ⟨B, 3, none⟩ v3).setCell ⟨B, 4, none⟩ v4).setCell ⟨B, 5, none⟩ v5).setCell ⟨B, 6, none⟩ v6) :=
  ((((((h.store hpB 0 v0).store hpB 1 v1).store hpB 2 v2).store hpB 3 v3).store hpB 4 v4).store hpB 5 v5).store hpB 6 v6
theorem RS.rk {p B : Nat} {now stale : Int} {vt vm : Value} {w W : World} (h : RS p B now stale vt vm w W) : RK B w W := h.1
theorem RS.lt {p B : Nat} {now stale : Int} {vt vm : Value} {w W : World} (h : RS p B now stale vt vm w W) : B < W.heap.size := h.2.1

/-- The lists that came out so far: of which list each is. -/
def RRows (v1 v2 : Value) (l1 l2 : List Int) (b : Nat) (L : List (Value × Value × List Int)) (W : World) : Prop := ∀ x ∈ L, Row W b 3 1 encI x.1 x.2.2.mergeSort ∧ ((x.2.1 = v1 ∧ x.2.2 = l1) ∨ (x.2.1 = v2 ∧ x.2.2 = l2))
theorem RRows.step {v1 v2 : Value} {l1 l2 : List Int} {b : Nat} {L : List (Value × Value × List Int)} {W w' : World} (h : RRows v1 v2 l1 l2 b L W) (hb : Below W.heap.size W w') : RRows v1 v2 l1 l2 b L w' := fun x hx => ⟨((h x hx).1).below hb, (h x hx).2⟩
theorem RRows.push {v1 v2 : Value} {l1 l2 : List Int} {b : Nat} {L : List (Value × Value × List Int)} {W w' : World} (h : RRows v1 v2 l1 l2 b L W) (hb : Below W.heap.size W w') {u v : Value} {l : List Int} (hr : Row w' b 3 1 encI u l.mergeSort) (hv : (v = v1 ∧ l = l1) ∨ (v = v2 ∧ l = l2)) : RRows v1 v2 l1 l2 b ((u, v, l) :: L) w' := fun x hx => by
  rcases List.mem_cons.1 hx with rfl | hx
  · exact ⟨hr, hv⟩
  · exact ⟨((h x hx).1).below hb, (h x hx).2⟩

theorem risingX {v1 v2 : Value} {l1 l2 : List Int} {b1 b2 : Nat} (hl1 : l1.length ≤ 1000000) (hl2 : l2.length ≤ 1000000) (n1 : l1.Nodup) (n2 : l2.Nodup) (v : Value) (W : World) (h1 : Row W b1 3 1 encI v1 l1) (h2 : Row W b2 3 1 encI v2 l2) (hv : v = v1 ∨ v = v2) :
    Calls Tryz.prog 87 #[v] W fun e w' => ∃ A n cap l, e = .returned (.slice A n cap) ∧ ((v = v1 ∧ l = l1) ∨ (v = v2 ∧ l = l2)) ∧ Row w' W.heap.size 3 1 encI (.slice A n cap) l.mergeSort ∧ Below W.heap.size W w' := by
  rcases hv with rfl | rfl
  · refine (rising_any v b1 l1 W hl1 n1 h1).mono ?_
    rintro e w' ⟨A, n, cap, rfl, hr, hb⟩
    exact ⟨A, n, cap, l1, rfl, .inl ⟨rfl, rfl⟩, hr, hb⟩
  · refine (rising_any v b2 l2 W hl2 n2 h2).mono ?_
    rintro e w' ⟨A, n, cap, rfl, hr, hb⟩
    exact ⟨A, n, cap, l2, rfl, .inr ⟨rfl, rfl⟩, hr, hb⟩

theorem not_own_of {w : World} {p : Nat} {s : St} {V : V6} (h : Rep w p s V) {k : Nat} (hk : w.heap.size ≤ k) : ¬ own p V k := fun ⟨j, hj⟩ => by
  have := h.lt j _ hj
  omega

theorem state_end {p B b1 b2 : Nat} {now stale : Int} {vt vm v1 v2 uc ua : Value} {l1 l2 lc la : List Int} {V V5 : V6} {r5 : St} {w w5 w' : World} (hSS : RS p B now stale vt vm w5 w') (hpB : p ≠ B) (hRR : RRows v1 v2 l1 l2 w5.heap.size [(ua, v2, la), (uc, v1, lc)] w') (h1 : Row w5 b1 3 1 encI v1 l1) (h2 : Row w5 b2 3 1 encI v2 l2)
    (HR : Rep w5 p r5 V5) (HM : Mv p V w V5 w5) (hno : ¬ own p V5 B) (hB : w.heap.size = B) (hB5 : w.heap.size + 1 ≤ w5.heap.size) (x0 x1 x2 x3 x4 x5 x6 : Value) :
    Row (((((((w'.setCell ⟨B, 0, none⟩ x0).setCell ⟨B, 1, none⟩ x1).setCell ⟨B, 2, none⟩ x2).setCell ⟨B, 3, none⟩ x3).setCell ⟨B, 4, none⟩ x4).setCell ⟨B, 5, none⟩ x5).setCell ⟨B, 6, none⟩ x6) (w.heap.size + 1) 3 1 encI uc l1.mergeSort ∧
    Row (((((((w'.setCell ⟨B, 0, none⟩ x0).setCell ⟨B, 1, none⟩ x1).setCell ⟨B, 2, none⟩ x2).setCell ⟨B, 3, none⟩ x3).setCell ⟨B, 4, none⟩ x4).setCell ⟨B, 5, none⟩ x5).setCell ⟨B, 6, none⟩ x6) (w.heap.size + 1) 3 1 encI ua l2.mergeSort ∧
    Rep (((((((w'.setCell ⟨B, 0, none⟩ x0).setCell ⟨B, 1, none⟩ x1).setCell ⟨B, 2, none⟩ x2).setCell ⟨B, 3, none⟩ x3).setCell ⟨B, 4, none⟩ x4).setCell ⟨B, 5, none⟩ x5).setCell ⟨B, 6, none⟩ x6) p r5 V5 ∧
    Mv p V w V5 (((((((w'.setCell ⟨B, 0, none⟩ x0).setCell ⟨B, 1, none⟩ x1).setCell ⟨B, 2, none⟩ x2).setCell ⟨B, 3, none⟩ x3).setCell ⟨B, 4, none⟩ x4).setCell ⟨B, 5, none⟩ x5).setCell ⟨B, 6, none⟩ x6) ∧
    (∀ k, uc.ownBlock = some k → ¬ own p V5 k) ∧ (∀ k, ua.ownBlock = some k → ¬ own p V5 k) := by
  have hA := hRR _ (List.mem_cons_self)
  have hC := hRR _ (List.mem_cons_of_mem _ (List.mem_cons_self))
  dsimp only at hA hC
  have hK := (RS.store7 hSS hpB x0 x1 x2 x3 x4 x5 x6).rk
  have hC2 : Row w' w5.heap.size 3 1 encI uc l1.mergeSort := by
    rcases hC.2 with ⟨_, e1⟩ | ⟨e1, e2⟩
    · rw [← e1]; exact hC.1
    · rw [e1] at h1
      rw [h1.inj h2, ← e2]
      exact hC.1
  have hA2 : Row w' w5.heap.size 3 1 encI ua l2.mergeSort := by
    rcases hA.2 with ⟨e1, e2⟩ | ⟨_, e1⟩
    · rw [e1] at h2
      rw [h2.inj h1, ← e2]
      exact hA.1
    · rw [← e1]; exact hA.1
  have hs : ∀ k, k ≠ B → (((((((w'.setCell ⟨B, 0, none⟩ x0).setCell ⟨B, 1, none⟩ x1).setCell ⟨B, 2, none⟩ x2).setCell ⟨B, 3, none⟩ x3).setCell ⟨B, 4, none⟩ x4).setCell ⟨B, 5, none⟩ x5).setCell ⟨B, 6, none⟩ x6).heap[k]? = w'.heap[k]? := fun k hk => seven_block B x0 x1 x2 x3 x4 x5 x6 hk
  refine ⟨(hC2.base hB5).same (fun k hk => hs k (fun e => by have := (hC2.lt k hk).1; omega)), (hA2.base hB5).same (fun k hk => hs k (fun e => by have := (hA2.lt k hk).1; omega)), HR.keep (fun k ho => hK.block k (by obtain ⟨j, hj⟩ := ho; exact HR.lt j k hj) (fun e => hno (by rw [← e]; exact ho))), ⟨hK.os.trans HM.os, hK.tape.trans HM.tape, hK.output.trans HM.output, Nat.le_trans HM.size hK.size, fun k hk hn => (hK.block k (Nat.lt_of_lt_of_le hk HM.size) (by omega)).trans (HM.block k hk hn), HM.news⟩, fun k hk => not_own_of HR (hC2.lt k hk).1, fun k hk => not_own_of HR (hA2.lt k hk).1⟩

set_option maxRecDepth 100000 in
set_option maxHeartbeats 8000000 in
theorem rstate_any (p : Nat) (r : St) (V : V6) (w : World) (h : Rep w p r V) (hc : r.calls.length ≤ 1000000) (ha : r.atts.length ≤ 1000000) (hu : r.units.length ≤ 1000000) (huo : UnitsOk r.units) (n0 : 0 ≤ r.now) (n1 : r.now ≤ 1099511627776) (nd1 : (r.calls.map (·.number)).Nodup) (nd2 : (r.atts.map (·.number)).Nodup) :
    Calls Tryz.prog 54 #[.pointer (some ⟨p, 0, none⟩)] w fun e w' => ∃ vc va V', e = .returned (.agg #[.int .i64 r.now, .int .i64 (sumUnits r.fresh), vc, va, .int .i64 r.timers.length, .int .i64 r.times.length, .int .i64 r.stale]) ∧
      Row w' (w.heap.size + 1) 3 1 encI vc (r.calls.map (·.number)).mergeSort ∧ Row w' (w.heap.size + 1) 3 1 encI va (r.atts.map (·.number)).mergeSort ∧ Rep w' p { r with units := r.fresh } V' ∧ Mv p V w V' w' ∧ (∀ k, vc.ownBlock = some k → ¬ own p V' k) ∧ (∀ k, va.ownBlock = some k → ¬ own p V' k) := by
  have lp := h.lp
  obtain ⟨i1, hi1, y0, y1, y2⟩ := info_parts Tryz.infoInt
  have hb0 : Below w.heap.size w (w.alloc (.cells #[.int .i64 0, .int .i64 0, .slice none 0 0, .slice none 0 0, .int .i64 0, .int .i64 0, .int .i64 0] 64)) := (Below.refl _ _).alloc (Nat.le_refl _) _
  have hs0 : (w.alloc (.cells #[.int .i64 0, .int .i64 0, .slice none 0 0, .slice none 0 0, .int .i64 0, .int .i64 0, .int .i64 0] 64)).heap[w.heap.size]? = some (.cells #[.int .i64 0, .int .i64 0, .slice none 0 0, .slice none 0 0, .int .i64 0, .int .i64 0, .int .i64 0] 64 (0, 0)) := heap_alloc_new w _
  have hz0 : (w.alloc (.cells #[.int .i64 0, .int .i64 0, .slice none 0 0, .slice none 0 0, .int .i64 0, .int .i64 0, .int .i64 0] 64)).heap.size = w.heap.size + 1 := by simp
  have HR0 := hide (h.on hb0)
  have HM0 := hide (show Mv p V w V _ from Mv.of_below hb0)
  have HS0 := hide hs0
  clear hs0
  go_enter Tryz.func54, Tryz.ntmps54
  go_wp2_with fail
  generalize (w.alloc (.cells #[.int .i64 0, .int .i64 0, .slice none 0 0, .slice none 0 0, .int .i64 0, .int .i64 0, .int .i64 0] 64)) = W0 at HR0 HM0 HS0 hz0 hb0 ⊢
  have hlc' : (r.calls.length : Int) ≤ 1000000 := by omega
  have hla' : (r.atts.length : Int) ≤ 1000000 := by omega
  go_loopg [3, 5] r.calls.length (fun gi v3 v5 wx => ∃ i : Nat, i ≤ r.calls.length ∧ gi = r.calls.length - i ∧ v5 = .int .i64 i ∧ Row wx (w.heap.size + 1) 3 1 encI v3 ((r.calls.map (·.number)).take i) ∧ Below W0.heap.size W0 wx)
  case atStart => exact ⟨0, Nat.zero_le _, rfl, rfl, by simpa using Row.nil W0 (w.heap.size + 1) 3 1 encI, Below.refl _ _⟩
  case round =>
    obtain ⟨i, hi, hgi, rfl, hrow, hb⟩ := hrel
    rename World => wx
    have hsz := hb.size
    have hR := HR0.out.on hb
    obtain ⟨A, cap, hA, _, hA1, _⟩ := hR.rc.form
    have kx : wx.cell? ⟨p, 11, none⟩ = some (.slice A r.calls.length cap) := by rw [← hA]; exact hR.kc
    by_cases hlt : (i : Int) < (r.calls.length : Int)
    · have hil : i < r.calls.length := by omega
      obtain ⟨g, rfl⟩ := hA1 i hil
      have hg : V.c.ownBlock = some g := by rw [hA]; rfl
      have e0 := (hR.rc.cell encCall_len hg hil (j := 0) rfl).1
      rw [Nat.add_zero] at e0
      have HTK : Hid ((r.calls.map (·.number)).take (i + 1) = (r.calls.map (·.number)).take i ++ [r.calls[i].number]) := by
        show _ = _
        rw [List.take_succ_eq_append_getElem (by simpa using hil), List.getElem_map]
      have hlen : ((r.calls.map (·.number)).take i).length = i := by rw [List.length_take, List.length_map]; omega
      generalize r.calls[i].number = z at e0 HTK
      have HRW : Hid (wx.ownsRow (w.heap.size + 1) 3 1 u3 i (((r.calls.map (·.number)).take i).flatMap encI)) := by
        have h9 := hrow
        unfold Row at h9
        rw [hlen] at h9
        exact h9
      have HBB := hide hb
      have hbase : w.heap.size + 1 ≤ wx.heap.size := by omega
      clear hrow hR hA hA1 hg
      go_wp2_with (first
        | (at_builtin
           refine wpList_append_lies _ (by rfl) _ _ _ (by rfl) (w.heap.size + 1) 3 i1 _ 1 8 Tryz.underlying45 hi1 y0 y1 y2 rfl (by omega) u3 i (((r.calls.map (·.number)).take i).flatMap encI) (by rfl) (World.ownsRow.alloc HRW.out _) ⟨wx.heap.size, 0, none⟩ 1 1 (encI z) (by rfl) (by rfl) (World.news_of_block (cs := (encI z).toArray) (t := 3) (fr := (0, 0)) (heap_alloc_new wx _)) (by simp [Value.oneCell', encI]) (by omega) (by simp only [maxLen]; omega) (by omega) (by simp; omega) (wx.heap.size + 1) (by simp) ?_
           intro g1 cap1 wn hown hgrow hat hlt9
           have HNR : Hid (Row wn (w.heap.size + 1) 3 1 encI (.slice (some ⟨g1, 0, none⟩) (i + 1) cap1) ((r.calls.map (·.number)).take (i + 1))) := by
             show Row _ _ _ _ _ _ _
             unfold Row
             rw [HTK.out, List.length_append, hlen, List.flatMap_append]
             simpa using hown
           have HNB : Hid (Below W0.heap.size W0 wn) := by
             have hlt8 := World.ownsRow.lt HRW.out
             refine HBB.out.trans ⟨hgrow.os, hgrow.tape, hgrow.output, by have := hgrow.size; simp at this; omega, fun k hk => ?_⟩
             have hk' : k < wx.heap.size := by omega
             rw [hgrow.block k (by simp; omega) (fun e => by have := (hlt8 k e.symm).1; omega)]
             exact heap_alloc_old wx _ hk'
           clear hown hgrow hat hlt9))
      go_roundg (r.calls.length - (i + 1))
      case measure => omega
      case rel => exact ⟨i + 1, by omega, rfl, by go_num, HNR.out, HNB.out⟩
    · have HRC : Hid (Row wx (w.heap.size + 1) 3 1 encI u3 (r.calls.map (·.number))) := by
        have h9 := hrow
        rw [List.take_of_length_le (by simp; omega)] at h9
        exact h9
      have HBC := hide hb
      clear hrow hR hA hA1
      go_wp2_with fail
      clear kx
      obtain ⟨wa, hwa⟩ : ∃ wa, wa = wx := ⟨_, rfl⟩
      rw [← hwa] at HRC HBC hsz ⊢
      clear hwa
      generalize u3 = vca at HRC ⊢
      have HR1 := hide (HR0.out.on HBC.out)
      have HM1 := hide (HM0.out.trans (Mv.of_below (p := p) (V := V) HBC.out))
      have HS1 := hide ((HBC.out.block w.heap.size (by omega)).trans HS0.out)
      have hsz1 : w.heap.size + 1 ≤ wa.heap.size := by omega
      clear hgi hlt hi
      go_loopg [4, 6] r.atts.length (fun gi v4 v6 wx => ∃ i : Nat, i ≤ r.atts.length ∧ gi = r.atts.length - i ∧ v6 = .int .i64 i ∧ Row wx wa.heap.size 3 1 encI v4 ((r.atts.map (·.number)).take i) ∧ Below wa.heap.size wa wx)
      case atStart => exact ⟨0, Nat.zero_le _, rfl, rfl, by simpa using Row.nil wa wa.heap.size 3 1 encI, Below.refl _ _⟩
      case round =>
        obtain ⟨i, hi, hgi, rfl, hrow, hb⟩ := hrel
        rename World => wx
        have hsz := hb.size
        have hR := HR1.out.on hb
        obtain ⟨A, cap, hA, _, hA1, _⟩ := hR.ra.form
        have kx : wx.cell? ⟨p, 12, none⟩ = some (.slice A r.atts.length cap) := by rw [← hA]; exact hR.ka
        by_cases hlt : (i : Int) < (r.atts.length : Int)
        · have hil : i < r.atts.length := by omega
          obtain ⟨g, rfl⟩ := hA1 i hil
          have hg : V.a.ownBlock = some g := by rw [hA]; rfl
          have e0 := (hR.ra.cell encAtt_len hg hil (j := 0) rfl).1
          rw [Nat.add_zero] at e0
          have HTK : Hid ((r.atts.map (·.number)).take (i + 1) = (r.atts.map (·.number)).take i ++ [r.atts[i].number]) := by
            show _ = _
            rw [List.take_succ_eq_append_getElem (by simpa using hil), List.getElem_map]
          have hlen : ((r.atts.map (·.number)).take i).length = i := by rw [List.length_take, List.length_map]; omega
          generalize r.atts[i].number = z at e0 HTK
          have HRW : Hid (wx.ownsRow (wa.heap.size) 3 1 u4 i (((r.atts.map (·.number)).take i).flatMap encI)) := by
            have h9 := hrow
            unfold Row at h9
            rw [hlen] at h9
            exact h9
          have HBB := hide hb
          have hbase : wa.heap.size ≤ wx.heap.size := hsz
          clear hrow hR hA hA1 hg
          go_wp2_with (first
            | (at_builtin
               refine wpList_append_lies _ (by rfl) _ _ _ (by rfl) (wa.heap.size) 3 i1 _ 1 8 Tryz.underlying45 hi1 y0 y1 y2 rfl (by omega) u4 i (((r.atts.map (·.number)).take i).flatMap encI) (by rfl) (World.ownsRow.alloc HRW.out _) ⟨wx.heap.size, 0, none⟩ 1 1 (encI z) (by rfl) (by rfl) (World.news_of_block (cs := (encI z).toArray) (t := 3) (fr := (0, 0)) (heap_alloc_new wx _)) (by simp [Value.oneCell', encI]) (by omega) (by simp only [maxLen]; omega) (by omega) (by simp; omega) (wx.heap.size + 1) (by simp) ?_
               intro g1 cap1 wn hown hgrow hat hlt9
               have HNR : Hid (Row wn (wa.heap.size) 3 1 encI (.slice (some ⟨g1, 0, none⟩) (i + 1) cap1) ((r.atts.map (·.number)).take (i + 1))) := by
                 show Row _ _ _ _ _ _ _
                 unfold Row
                 rw [HTK.out, List.length_append, hlen, List.flatMap_append]
                 simpa using hown
               have HNB : Hid (Below wa.heap.size wa wn) := by
                 have hlt8 := World.ownsRow.lt HRW.out
                 refine HBB.out.trans ⟨hgrow.os, hgrow.tape, hgrow.output, by have := hgrow.size; simp at this; omega, fun k hk => ?_⟩
                 have hk' : k < wx.heap.size := by omega
                 rw [hgrow.block k (by simp; omega) (fun e => by have := (hlt8 k e.symm).1; omega)]
                 exact heap_alloc_old wx _ hk'
               clear hown hgrow hat hlt9))
          go_roundg (r.atts.length - (i + 1))
          case measure => omega
          case rel => exact ⟨i + 1, by omega, rfl, by go_num, HNR.out, HNB.out⟩
        · have HRA : Hid (Row wx wa.heap.size 3 1 encI u4 (r.atts.map (·.number))) := by
            have h9 := hrow
            rw [List.take_of_length_le (by simp; omega)] at h9
            exact h9
          have HRC2 := hide (HRC.out.below hb)
          have HR2 := hide hR
          have HM2 := hide (HM1.out.trans (Mv.of_below (p := p) (V := V) hb))
          have HS2 := hide ((hb.block w.heap.size (by omega)).trans HS1.out)
          have HBL := hide (rep_balance hR (by omega) huo n0 n1)
          have hu4 : ∀ k, u4.ownBlock = some k → wa.heap.size ≤ k := fun k hk => (HRA.out.lt k hk).1
          have HU4 := hide hu4
          clear hrow hR hA hA1 hb HRC HR1 HM1 HS1 HR0 HM0 HS0 hu4
          go_wp2_with fail
          refine HBL.out.mono ?_
          rintro e9 w5 ⟨rfl, V5, r5, m5⟩
          have hno : ∀ k, w.heap.size ≤ k → ¬ own p V k := fun k hk => not_own_of h hk
          have HRC5 := hide (HRC2.out.same (w' := w5) (fun k hk => m5.block k (HRC2.out.lt k hk).2 (hno k (by have := (HRC2.out.lt k hk).1; omega))))
          have HRA5 := hide (HRA.out.same (w' := w5) (fun k hk => m5.block k (HRA.out.lt k hk).2 (hno k (by have := (HRA.out.lt k hk).1; omega))))
          have HS5 := hide ((m5.block w.heap.size (by omega) (hno _ (Nat.le_refl _))).trans HS2.out)
          have HM5 := hide (HM2.out.trans m5)
          have hno5 : ¬ own p V5 w.heap.size := fun ho => (m5.news _ ho).elim (hno _ (Nat.le_refl _)) (fun h9 => by omega)
          obtain ⟨At, capt, hAt, _, _, _⟩ := r5.rt.form
          obtain ⟨Am, capm, hAm, _, _⟩ := r5.rm.form
          have kt5 : w5.cell? ⟨p, 14, none⟩ = some (.slice At r.timers.length capt) := by rw [← show V5.t = .slice At r.timers.length capt from hAt]; exact r5.kt
          have km5 : w5.cell? ⟨p, 16, none⟩ = some (.slice Am r.times.length capm) := by rw [← show V5.m = .slice Am r.times.length capm from hAm]; exact r5.km
          have kn5 : w5.cell? ⟨p, 10, none⟩ = some (.int .i64 r.now) := r5.kN
          have kl5 : w5.cell? ⟨p, 17, none⟩ = some (.int .i64 r.stale) := r5.kL
          have hsz5 : wx.heap.size ≤ w5.heap.size := m5.size
          have HR5 := hide r5
          clear r5 m5 hAt hAm HRC2 HRA HS2 HM2 HBL HR2
          generalize hBe : w.heap.size = B at *
          have hpB : p ≠ B := by omega
          have HRX := hide (fun v W (hk : RK B w5 W) hv => risingX (v1 := vca) (v2 := u4) (l1 := r.calls.map (·.number)) (l2 := r.atts.map (·.number)) (by simpa using hc) (by simpa using ha) nd1 nd2 v W (hk.row HRC5.out (fun e => by have := (HRC5.out.lt _ e).1; omega)) (hk.row HRA5.out (fun e => by have := (HRA5.out.lt _ e).1; omega)) hv)
          have hSS : RS p B r.now r.stale (.slice At r.timers.length capt) (.slice Am r.times.length capm) w5 w5.drew := by
            have hb9 : Below w5.heap.size w5 w5.drew := (Below.refl _ _).drew
            have hc9 : ∀ k, k < 7 → (w5.cell? ⟨B, k, none⟩).isSome = true ∧ w5.frozen? ⟨B, k, none⟩ = false := fun k hk => by
              constructor
              · rw [cell_of_row w5 B k _ 64 (0, 0) HS5.out, Array.getElem?_eq_getElem (by simpa using hk)]
                rfl
              · unfold World.frozen?
                dsimp only
                rw [HS5.out]
                simp
            have lB : B < w5.heap.size := by omega
            exact ⟨(RK.refl B w5).step hb9, lB, kn5, kt5, km5, kl5, (hc9 0 (by omega)).1, (hc9 0 (by omega)).2, (hc9 1 (by omega)).1, (hc9 1 (by omega)).2, (hc9 2 (by omega)).1, (hc9 2 (by omega)).2, (hc9 3 (by omega)).1, (hc9 3 (by omega)).2, (hc9 4 (by omega)).1, (hc9 4 (by omega)).2, (hc9 5 (by omega)).1, (hc9 5 (by omega)).2, (hc9 6 (by omega)).1, (hc9 6 (by omega)).2⟩
          have hRR : RRows vca u4 (r.calls.map (·.number)) (r.atts.map (·.number)) w5.heap.size [] w5.drew := fun x hx => by cases hx
          have hW5 : w5.heap.size ≤ w5.drew.heap.size := Nat.le_refl _
          have HHH := hide h
          have HN1 := hide nd1
          have HUO := hide huo
          clear h nd1 nd2 huo kn5 kt5 km5 kl5
          go_wp2_with fail
          go_region_held3 (fun w' => RK B w5 w' ∧ B < w'.heap.size ∧ w'.cell? ⟨p, 10, none⟩ = some (.int .i64 r.now) ∧ w'.cell? ⟨p, 14, none⟩ = some (.slice At r.timers.length capt) ∧ w'.cell? ⟨p, 16, none⟩ = some (.slice Am r.times.length capm) ∧ w'.cell? ⟨p, 17, none⟩ = some (.int .i64 r.stale) ∧ (w'.cell? ⟨B, 0, none⟩).isSome = true ∧ w'.frozen? ⟨B, 0, none⟩ = false ∧ (w'.cell? ⟨B, 1, none⟩).isSome = true ∧ w'.frozen? ⟨B, 1, none⟩ = false ∧ (w'.cell? ⟨B, 2, none⟩).isSome = true ∧ w'.frozen? ⟨B, 2, none⟩ = false ∧ (w'.cell? ⟨B, 3, none⟩).isSome = true ∧ w'.frozen? ⟨B, 3, none⟩ = false ∧ (w'.cell? ⟨B, 4, none⟩).isSome = true ∧ w'.frozen? ⟨B, 4, none⟩ = false ∧ (w'.cell? ⟨B, 5, none⟩).isSome = true ∧ w'.frozen? ⟨B, 5, none⟩ = false ∧ (w'.cell? ⟨B, 6, none⟩).isSome = true ∧ w'.frozen? ⟨B, 6, none⟩ = false)
            (first
              | (show RS p B r.now r.stale (.slice At r.timers.length capt) (.slice Am r.times.length capm) w5 _; with_reducible exact hSS)
              | (show RS p B r.now r.stale (.slice At r.timers.length capt) (.slice Am r.times.length capm) w5 _; with_reducible exact RS.store7 hSS hpB _ _ _ _ _ _ _))
            (first
              | (go_at_call 87; refine (HRX.out _ _ hSS.rk (by first | exact .inl rfl | exact .inr rfl)).mono ?_; rintro e w' ⟨A9, n9, cap9, l9, rfl, hv9, hrow9, hb9⟩; replace hRR := hRR.push hb9 (hrow9.base hW5) hv9; replace hW5 := Nat.le_trans hW5 hb9.size; replace hSS := RS.step hSS hb9; obtain ⟨_, _, _, _, _, _, r0, s0, r1, s1, r2, s2, r3, s3, r4, s4, r5, s5, r6, s6⟩ := id hSS; obtain ⟨u0, q0⟩ := Option.isSome_iff_exists.1 r0; obtain ⟨u1, q1⟩ := Option.isSome_iff_exists.1 r1; obtain ⟨u2, q2⟩ := Option.isSome_iff_exists.1 r2; obtain ⟨u3', q3⟩ := Option.isSome_iff_exists.1 r3; obtain ⟨u4', q4⟩ := Option.isSome_iff_exists.1 r4; obtain ⟨u5', q5⟩ := Option.isSome_iff_exists.1 r5; obtain ⟨u6', q6⟩ := Option.isSome_iff_exists.1 r6))
          go_wp2_with fail
          refine bodyPost_ret (by simp [results, Tryz.results54, go_sem, q0, q1, q2, q3, q4, q5, q6]; rfl) rfl ?_
          exact ⟨_, _, V5, rfl, state_end hSS hpB hRR HRC5.out HRA5.out HR5.out HM5.out hno5 hBe (by omega) _ _ _ _ _ _ _⟩
end Go.Proofs.YtlccfpbbdgpjbaaGreatDoor
