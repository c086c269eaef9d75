/-
  What 'dropTimers' hands to Drop; slices.IndexFunc, slices.DeleteFunc; Drop.
-/
import Derived.Test.YtlccfpbbdgpjbaaGreatDoorHPop
namespace Go.Proofs.YtlccfpbbdgpjbaaGreatDoor
open Go.RowKit

/-- In w' all is as in w, but for the blocks R. -/
structure Kp (R : List Nat) (w w' : World) : Prop where
  os : w'.os = w.os
  tape : w'.tape = w.tape
  output : w'.output = w.output
  size : w.heap.size ≤ w'.heap.size
  block : ∀ k, k < w.heap.size → k ∉ R → w'.heap[k]? = w.heap[k]?
theorem Kp.of_below {R : List Nat} {w w' : World} (h : Below w.heap.size w w') : Kp R w w' := ⟨h.os, h.tape, h.output, h.size, fun k hk _ => h.block k hk⟩
theorem Kp.refl (R : List Nat) (w : World) : Kp R w w := ⟨rfl, rfl, rfl, Nat.le_refl _, fun _ _ _ => rfl⟩
theorem Kp.trans {R R' : List Nat} {w w1 w2 : World} (h : Kp R w w1) (k : Kp R' w1 w2) (hR : ∀ r ∈ R', r ∈ R ∨ w.heap.size ≤ r) : Kp R w w2 :=
  ⟨k.os.trans h.os, k.tape.trans h.tape, k.output.trans h.output, Nat.le_trans h.size k.size,
    fun b hb hn => (k.block b (Nat.lt_of_lt_of_le hb h.size) (fun hr => (hR b hr).elim hn (fun h' => absurd hb (Nat.not_lt.2 h')))).trans (h.block b hb hn)⟩
theorem Kp.below {R : List Nat} {w w1 w2 : World} (h : Kp R w w1) (k : Below w1.heap.size w1 w2) : Kp R w w2 := h.trans (Kp.of_below (R := []) k) (fun r hr => by cases hr)
theorem Kp.setIn {R : List Nat} {w wr : World} (h : Kp R w wr) {a : Addr} (ha : a.block ∈ R) (u : Value) : Kp R w (wr.setCell a u) :=
  ⟨h.os, h.tape, h.output, by simpa using h.size, fun k hk hkr => (Below.heap_setCell _ _ _ _ (fun e => hkr (by rw [e]; exact ha))).trans (h.block k hk hkr)⟩
theorem Kp.setCellsIn {g : Nat} {R : List Nat} {w : World} (hg : g ∈ R) : ∀ (vs : List Value) (o : Nat) (wr : World), Kp R w wr → Kp R w (wr.setCells g o vs) := by
  intro vs
  induction vs with
  | nil => intro o wr h; exact h
  | cons v r ih => intro o wr h; exact ih (o + 1) _ (h.setIn (a := ⟨g, o, none⟩) hg v)
theorem Kp.cell {R : List Nat} {w w' : World} (h : Kp R w w') {k : Nat} (hk : k < w.heap.size) (hR : k ∉ R) (j : Nat) : w'.cell? ⟨k, j, none⟩ = w.cell? ⟨k, j, none⟩ := World.cell?_of_block (h.block k hk hR)
theorem Kp.frozen {R : List Nat} {w w' : World} (h : Kp R w w') {k : Nat} (hk : k < w.heap.size) (hR : k ∉ R) (j : Nat) : w'.frozen? ⟨k, j, none⟩ = w.frozen? ⟨k, j, none⟩ := World.frozen?_of_block (h.block k hk hR)
theorem Kp.fr {R : List Nat} {w w' : World} (h : Kp R w w') {p : Nat} (hp : p < w.heap.size) (hR : p ∉ R) : Fr p [] R w w' :=
  ⟨h.os, h.tape, h.output, h.size, fun k hk _ hkr => h.block k hk hkr, fun j _ => h.cell hp hR j, fun j => h.frozen hp hR j⟩

/-- Not to go. -/
def stays (call : Int) (t : PTimer) : Bool := !(t.call == call)

set_option maxRecDepth 100000 in
set_option maxHeartbeats 800000 in
theorem goes_any (a : PTimer) (bx : Nat) (call : Int) (w : World) (hc : w.cell? ⟨bx, 0, none⟩ = some (.int .i64 call)) :
    Calls Tryz.prog 117 #[.agg #[.int .i64 a.kind, .int .i64 a.call, .int .i64 a.due, .int .i64 a.set], .pointer (some ⟨bx, 0, none⟩)] w fun e w' => e = .returned (.bool (!stays call a)) ∧ Below w.heap.size w w' := by
  have lb : bx < w.heap.size := World.block_lt_of_cell? w _ hc
  unfold stays
  rw [Bool.not_not]
  go_enter Tryz.func117, Tryz.ntmps117
  go_wp2_with fail
  go_ret
  exact ⟨rfl, (Below.refl _ _).alloc (Nat.le_refl _) _⟩

/-- Where the first one stands that is to go; nothing if none is. -/
def firstOf? (call : Int) (xs : List PTimer) (k : Nat) : Prop := k < xs.length ∧ stays call (pt xs k) = false ∧ ∀ j, j < k → stays call (pt xs j) = true

set_option maxRecDepth 100000 in
set_option maxHeartbeats 4000000 in
theorem indexFunc_any (g cap bx : Nat) (call : Int) (xs : List PTimer) (w : World) (hl : xs.length ≤ 1000000) (hc : w.cell? ⟨bx, 0, none⟩ = some (.int .i64 call)) (hr : Row w 0 114 4 encPT (.slice (some ⟨g, 0, none⟩) xs.length cap) xs) :
    Calls Tryz.prog 145 #[.slice (some ⟨g, 0, none⟩) xs.length cap, .func (.func 117) #[] #[.pointer (some ⟨bx, 0, none⟩)]] w fun e w' =>
      ((e = .returned (.int .i64 (-1)) ∧ ∀ j, j < xs.length → stays call (pt xs j) = true) ∨ ∃ k : Nat, e = .returned (.int .i64 k) ∧ firstOf? call xs k) ∧ Below w.heap.size w w' := by
  have lb : bx < w.heap.size := World.block_lt_of_cell? w _ hc
  have lg : g < w.heap.size := (hr.lt g rfl).2
  have HR := hide hr
  clear hr
  go_enter Tryz.func145, Tryz.ntmps145
  go_wp2_with fail
  go_loopw [8] (fun iv wr => ∃ k : Nat, k ≤ xs.length ∧ iv = .int .i64 k ∧ (∀ j, j < k → stays call (pt xs j) = true) ∧ Below w.heap.size w wr) (fun iv _ => xs.length - (intOf iv).toNat)
  case atStart => exact ⟨0, Nat.zero_le _, rfl, fun j hj => by omega, Below.refl _ _⟩
  case round =>
    obtain ⟨k, hk, rfl, hno, hb⟩ := hrel
    have HNO := hide hno
    clear hno
    by_cases hlt : k < xs.length
    · have hlt' : (k : Int) < (xs.length : Int) := by omega
      obtain ⟨a, ha⟩ : ∃ a, pt xs k = a := ⟨_, rfl⟩
      obtain ⟨e0, e1, e2, e3⟩ := (HR.out.below hb).pt_cells k hlt a ha
      have HA := hide ha
      clear ha
      have HG := hide (goes_any a bx call wr ((hb.cell lb).trans hc))
      cases hd : stays call a with
      | false =>
        rw [hd] at HG
        have hd' := hide hd
        clear hd
        go_wp2_with (first | (go_at_call 117; refine HG.out.mono ?_; rintro e w1 ⟨rfl, hb1⟩))
        go_ret
        exact ⟨.inr ⟨k, rfl, hlt, by rw [HA.out]; exact hd'.out, HNO.out⟩, hb.trans (hb1.mono hb.size)⟩
      | true =>
        rw [hd] at HG
        have hd' := hide hd
        clear hd
        go_wp2_with (first | (go_at_call 117; refine HG.out.mono ?_; rintro e w1 ⟨rfl, hb1⟩))
        go_roundw
        case rel =>
          refine ⟨k + 1, by omega, by go_num, fun j hj => ?_, hb.trans (hb1.mono hb.size)⟩
          by_cases hjk : j = k
          · subst hjk
            rw [HA.out]
            exact hd'.out
          · exact HNO.out j (by omega)
        case measure => simp [intOf]; omega
    · go_wp2_with fail
      go_ret
      exact ⟨.inl ⟨rfl, fun j hj => HNO.out j (by omega)⟩, hb⟩

set_option maxRecDepth 100000 in
set_option maxHeartbeats 4000000 in
theorem deleteFunc_any (g cap bx : Nat) (call : Int) (xs : List PTimer) (w : World) (hl : xs.length ≤ 1000000) (hbg : bx ≠ g) (hc : w.cell? ⟨bx, 0, none⟩ = some (.int .i64 call)) (hr : Row w 0 114 4 encPT (.slice (some ⟨g, 0, none⟩) xs.length cap) xs) :
    Calls Tryz.prog 137 #[.slice (some ⟨g, 0, none⟩) xs.length cap, .func (.func 117) #[] #[.pointer (some ⟨bx, 0, none⟩)]] w fun e w' =>
      e = .returned (.slice (some ⟨g, 0, none⟩) (xs.filter (stays call)).length cap) ∧ Row w' 0 114 4 encPT (.slice (some ⟨g, 0, none⟩) (xs.filter (stays call)).length cap) (xs.filter (stays call)) ∧ Kp [g] w w' := by
  have lb : bx < w.heap.size := World.block_lt_of_cell? w _ hc
  have lg : g < w.heap.size := (hr.lt g rfl).2
  have HI := hide (indexFunc_any g cap bx call xs w hl hc hr)
  have HR := hide hr
  clear hr
  go_enter Tryz.func137, Tryz.ntmps137
  go_wp2_with fail
  refine HI.out.mono ?_
  rintro e w1 ⟨⟨rfl, hno⟩ | ⟨k, rfl, hk, hkc, hno⟩, hb1⟩
  · go_wp2_with fail
    go_ret
    have hf : xs.filter (stays call) = xs := by
      rw [List.filter_eq_self]
      intro t ht
      obtain ⟨j, hj, rfl⟩ := List.getElem_of_mem ht
      have := hno j hj
      rw [pt_get hj] at this
      exact this
    rw [hf]
    exact ⟨rfl, HR.out.below hb1, Kp.of_below hb1⟩
  · have hk1 : ((k : Int) == -1) = false := by rw [beq_eq_false_iff_ne]; omega
    have hkl : (k : Int) < (xs.length : Int) := by omega
    have hst : (xs.take (k + 1)).filter (stays call) = xs.take k := by
      rw [filter_snoc _ _ _ hk, List.filter_eq_self.2, if_neg, List.append_nil]
      · rw [pt_get hk] at hkc
        simp [hkc]
      · intro t ht
        obtain ⟨j, hj, rfl⟩ := List.getElem_of_mem ht
        have hj' : j < k := by simp at hj; omega
        have := hno j hj'
        rw [pt_get (by omega)] at this
        rw [List.getElem_take]
        exact this
    have HST := hide hst
    have hle : xs.length ≤ cap := HR.out.cap_le.1
    have hlm : cap ≤ 9223372036854775807 := HR.out.cap_le.2
    clear hst hkc hno HI
    go_wp2_with fail
    go_loopw [5, 6] (fun iv jv wr => ∃ (i j : Nat) (ys : List PTimer), iv = .int .i64 i ∧ jv = .int .i64 j ∧ i < j ∧ j ≤ xs.length ∧ ys.length = xs.length ∧ ys.take i = (xs.take j).filter (stays call) ∧ ys.drop j = xs.drop j ∧ Row wr 0 114 4 encPT (.slice (some ⟨g, 0, none⟩) xs.length cap) ys ∧ Kp [g] w wr) (fun _ jv _ => xs.length - (intOf jv).toNat)
    case atStart => exact ⟨k, k + 1, xs, rfl, by go_num, by omega, by omega, rfl, HST.out.symm, rfl, HR.out.below hb1, Kp.of_below hb1⟩
    case round =>
      obtain ⟨i, j, ys, rfl, rfl, hij, hjl, hyl, hyt, hyd, hrr, hF⟩ := hrel
      have HYT := hide hyt
      have HYD := hide hyd
      have lgr : g < wr.heap.size := Nat.lt_of_lt_of_le lg hF.size
      have lbr : bx < wr.heap.size := Nat.lt_of_lt_of_le lb hF.size
      have cr : wr.cell? ⟨bx, 0, none⟩ = some (.int .i64 call) := (hF.cell lb (by simpa using hbg) 0).trans hc
      clear hyt hyd HST
      by_cases hlt : j < xs.length
      · have hlt' : (j : Int) < (xs.length : Int) := by omega
        have hil : (i : Int) < (xs.length : Int) := by omega
        obtain ⟨a, ha⟩ : ∃ a, pt ys j = a := ⟨_, rfl⟩
        obtain ⟨e0, e1, e2, e3⟩ := hrr.pt_cells j (by omega) a ha
        have HA := hide (show xs[j] = a by
          have h9 := congrArg (fun l => l[0]?) HYD.out
          simp only [List.getElem?_drop, Nat.add_zero] at h9
          rw [List.getElem?_eq_getElem (by omega), List.getElem?_eq_getElem hlt] at h9
          rw [← ha, pt_get (by omega)]
          exact (Option.some.inj h9).symm)
        clear ha
        have HFS := hide (filter_snoc (stays call) xs j hlt)
        rw [HA.out] at HFS
        have HRR := hide hrr
        clear hrr
        have hbA : ∀ B, Below wr.heap.size wr (wr.alloc B) := fun B => (Below.refl _ _).alloc (Nat.le_refl _) _
        have HG := hide (fun B => goes_any a bx call (wr.alloc B) (((hbA B).cell lbr).trans cr))
        have HBA := hide (fun B w1 (h : Below (wr.alloc B).heap.size (wr.alloc B) w1) => (hbA B).trans (h.mono (hbA B).size))
        clear hbA
        cases hd : stays call a with
        | false =>
          rw [hd] at HG
          have hd' := hide hd
          clear hd
          go_wp2_with (first | (go_at_call 117; refine (HG.out _).mono ?_; rintro e w2 ⟨rfl, hb2⟩))
          go_roundw
          case rel =>
            have hB := HBA.out _ _ hb2
            exact ⟨i, j + 1, ys, rfl, by go_num, by omega, by omega, hyl, by rw [HFS.out, HYT.out, hd'.out]; simp, by rw [← List.drop_drop, HYD.out, List.drop_drop], HRR.out.below hB, hF.below hB⟩
          case measure => simp [intOf]; omega
        | true =>
          rw [hd] at HG
          have hd' := hide hd
          clear hd
          go_wp2_with (first
            | (go_at_call 117; refine (HG.out _).mono ?_; rintro e w2 ⟨rfl, hb2⟩
               have hB := HBA.out _ _ hb2
               have m0 : w2.cell? ⟨wr.heap.size, 0, none⟩ = some (.int .i64 a.kind) := (hb2.cell (by simp)).trans (by simp)
               have m1 : w2.cell? ⟨wr.heap.size, 1, none⟩ = some (.int .i64 a.call) := (hb2.cell (by simp)).trans (by simp)
               have m2 : w2.cell? ⟨wr.heap.size, 2, none⟩ = some (.int .i64 a.due) := (hb2.cell (by simp)).trans (by simp)
               have m3 : w2.cell? ⟨wr.heap.size, 3, none⟩ = some (.int .i64 a.set) := (hb2.cell (by simp)).trans (by simp)
               obtain ⟨⟨d0, d1, d2, d3⟩, f0, f1, f2, f3⟩ := (HRR.out.below hB).pt_all i (by omega) _ rfl))
          go_roundw
          case rel =>
            refine ⟨i + 1, j + 1, ys.set i a, by go_num, by go_num, by omega, by omega, by simpa using hyl, ?_, ?_, (HRR.out.below hB).put4 (g := g) rfl (by omega) a, ?_⟩
            · rw [HFS.out, ← HYT.out, hd'.out, if_pos rfl, List.take_succ_eq_append_getElem (by simp; omega), List.getElem_set_self, List.take_set_of_le (Nat.le_refl _)]
            · rw [List.drop_set_of_lt (by omega), ← List.drop_drop, HYD.out, List.drop_drop]
            · have hm : ∀ x : Nat, (⟨g, x, none⟩ : Addr).block ∈ [g] := fun _ => List.mem_singleton.2 rfl
              exact ((((hF.below hB).setIn (hm _) _).setIn (hm _) _).setIn (hm _) _).setIn (hm _) _
          case measure => simp [intOf]; omega
      · have hje : j = xs.length := by omega
        subst hje
        have hyf : ys.take i = xs.filter (stays call) := by rw [HYT.out, List.take_of_length_le (Nat.le_refl _)]
        have hil : (xs.filter (stays call)).length = i := by rw [← hyf, List.length_take]; omega
        obtain ⟨W6, hW6⟩ : ∃ W6, W6 = wr.setCells g (i * 4) ((List.replicate (xs.length - i) pt0).flatMap encPT) := ⟨_, rfl⟩
        have hcl : ∀ ty, (Builtin.clear_ #[90] ty #[.slice (some ⟨g, i * 4, none⟩) (xs.length - i) (cap - i)]).run Tryz.prog wr = .ok (.tuple #[]) W6 := fun ty => by
          rw [hW6]
          exact run_clear_rows encPT 4 encPT_len wr 90 114 ty pt0 Tryz.underlying90 (fun w => by kernel_rfl) rfl (by simp [encPT, pt0, Value.oneCell']) g (i * 4) (xs.length - i) _ (by omega)
            (fun j hj => (hrr.there encPT_len _ (by omega)).1) (fun j hj => (hrr.there encPT_len _ (by omega)).2)
        have hR6 := hrr.relay encPT_len i (List.replicate (xs.length - i) pt0) (xs.filter (stays call)) (by simp; omega) (by omega) (by
          rw [hil, List.append_assoc, List.take_append_of_le_length (by rw [List.length_take]; omega), List.take_take, Nat.min_self, hyf])
        have hF6 := Kp.setCellsIn (g := g) (List.mem_singleton.2 rfl) ((List.replicate (xs.length - i) pt0).flatMap encPT) (i * 4) wr hF
        rw [← hW6] at hR6 hF6
        rw [hil] at hR6
        have HIL := hide hil
        have HR6 := hide hR6
        have hi1 : (i : Int) < (xs.length : Int) := by omega
        clear hR6 hil hyf hW6 HYT HYD hrr
        go_wp2_with fail
        go_ret
        rw [HIL.out]
        exact ⟨rfl, HR6.out, hF6⟩
end Go.Proofs.YtlccfpbbdgpjbaaGreatDoor
