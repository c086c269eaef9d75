import Derived.Test.YtlccfpbbdgpjbaaGreatDoorIter
import Derived.Test.YtlccfpbbdgpjbaaGreatDoorZOpen
import Derived.Test.YtlccfpbbdgpjbaaGreatDoorZCl
import Derived.Test.YtlccfpbbdgpjbaaGreatDoorZNew
import Derived.Test.YtlccfpbbdgpjbaaGreatDoorZModel
namespace Go.Proofs.YtlccfpbbdgpjbaaGreatDoor
open Go.RowKit Go.Maps Go.Sort Go.Shelf

theorem MapI.keys {P : Program} {kt : TypeId} {ok : Value → Bool} {w : World} {b : Nat} {l : List (Int × Value)} (h : MapI P kt ok w b l) (hk : P.underlying kt = some (.int .i64)) :
    ∃ D, w.ownsMap P kt (Rv ok) b l.length D ∧ (l.map (·.1)).Perm (intKeys D) ∧ Maps.size D = l.length := by
  obtain ⟨D, ho, v⟩ := h
  refine ⟨D, ho, CollectedI.perm (left := fun _ => false) ⟨v.nodup, fun x => ?_⟩ ho (int_keyed hk) hk (fun _ => rfl), v.size⟩
  rw [v.has, mget_isSome, List.mem_map]
  simp

theorem Tryz.sortsA (m : Nat) : AnyZI.SortsIn Tryz.prog Tryz.sortedA_ren Fence.wide m :=
  ⟨fun blk off cap ss W hH hblk hsz => callsIn_wide.2 (AnyM.slices_Sort_int Tryz.sortA blk off cap ss W hH hblk hsz),
   fun p cap W => callsIn_wide.2 (AnyM.slices_Sort_int_none Tryz.sortA p cap W)⟩

theorem keysC_any (mb : Option Nat) (W : World) :
    Calls Tryz.prog 46 #[.map mb] W fun e w' => e = .returned (.func (.func 77) #[] #[.pointer (some ⟨W.heap.size, 0, none⟩)]) ∧ w' = W.alloc (.cells #[.map mb] 88) :=
  (callsIn_wide (n := 5)).1 (AnyZI.keys_in Tryz.keysA Fence.wide 5 trivial rfl mb W)
theorem keysA_any (mb : Option Nat) (W : World) :
    Calls Tryz.prog 47 #[.map mb] W fun e w' => e = .returned (.func (.func 78) #[] #[.pointer (some ⟨W.heap.size, 0, none⟩)]) ∧ w' = W.alloc (.cells #[.map mb] 89) :=
  (callsIn_wide (n := 5)).1 (AnyZI.keys_in Tryz.keysB Fence.wide 5 trivial rfl mb W)

theorem rowI_of {w' : World} {v : Value} {ss : List Int} {base : Nat} (h : w'.ownsRow base 3 1 v ss.length ((ss.mergeSort (fun x y => decide (x ≤ y))).map encZ)) : Row w' base 3 1 encI v ss.mergeSort := by
  unfold Row
  rw [flat_encI, List.length_mergeSort]
  exact h

theorem sortedC_any (kb b : Nat) (ok : Value → Bool) (l : List (Int × Value)) (W : World) (hl : l.length ≤ 1000000) (hm : W.cell? ⟨kb, 0, none⟩ = some (.map (some b))) (hM : MapI Tryz.prog 3 ok W b l) :
    Calls Tryz.prog 45 #[.func (.func 77) #[] #[.pointer (some ⟨kb, 0, none⟩)]] W fun e w' => ∃ v, e = .returned v ∧ Row w' W.heap.size 3 1 encI v (l.map (·.1)).mergeSort ∧ Below W.heap.size W w' := by
  obtain ⟨D, ho, hp, hs⟩ := hM.keys Tryz.underlying3
  have hseq : SeqGives Fence.wide 2 Tryz.prog 77 #[.pointer (some ⟨kb, 0, none⟩)] encZ (fun ss => ss.Perm (intKeys D)) (Maps.size D) W :=
    AnyZI.keys_gives (ρ := Tryz.keysA_ren) { Tryz.keysA with } Fence.wide _ trivial rfl (by omega) kb b _ D _ (World.block_lt_of_cell? W _ hm) hm ho
  have cS := AnyZI.sorted_in Tryz.sortedA Fence.wide 5 trivial trivial trivial trivial rfl (by omega) (Tryz.sortsA _) (enters_of Tryz.func76 (by kernel_rfl) rfl) 77 #[.pointer (some ⟨kb, 0, none⟩)] trivial (enters_of Tryz.func77 (by kernel_rfl) rfl) _ _ (by rw [hs]; unfold maxLen; omega) (by rw [hs]; omega) _ hseq
  refine ((callsIn_wide (n := 5)).1 cS).mono ?_
  rintro e w' ⟨v, ss, rfl, hS, hrow, _, hb⟩
  refine ⟨v, rfl, ?_, hb⟩
  rw [mergeSort_perm (hp.trans hS.symm)]
  exact rowI_of hrow

theorem sortedA_any (kb b : Nat) (ok : Value → Bool) (l : List (Int × Value)) (W : World) (hl : l.length ≤ 1000000) (hm : W.cell? ⟨kb, 0, none⟩ = some (.map (some b))) (hM : MapI Tryz.prog 3 ok W b l) :
    Calls Tryz.prog 45 #[.func (.func 78) #[] #[.pointer (some ⟨kb, 0, none⟩)]] W fun e w' => ∃ v, e = .returned v ∧ Row w' W.heap.size 3 1 encI v (l.map (·.1)).mergeSort ∧ Below W.heap.size W w' := by
  obtain ⟨D, ho, hp, hs⟩ := hM.keys Tryz.underlying3
  have hseq : SeqGives Fence.wide 2 Tryz.prog 78 #[.pointer (some ⟨kb, 0, none⟩)] encZ (fun ss => ss.Perm (intKeys D)) (Maps.size D) W :=
    AnyZI.keys_gives (ρ := Tryz.keysB_ren) { Tryz.keysB with } Fence.wide _ trivial rfl (by omega) kb b _ D _ (World.block_lt_of_cell? W _ hm) hm ho
  have cS := AnyZI.sorted_in Tryz.sortedA Fence.wide 5 trivial trivial trivial trivial rfl (by omega) (Tryz.sortsA _) (enters_of Tryz.func76 (by kernel_rfl) rfl) 78 #[.pointer (some ⟨kb, 0, none⟩)] trivial (enters_of Tryz.func78 (by kernel_rfl) rfl) _ _ (by rw [hs]; unfold maxLen; omega) (by rw [hs]; omega) _ hseq
  refine ((callsIn_wide (n := 5)).1 cS).mono ?_
  rintro e w' ⟨v, ss, rfl, hS, hrow, _, hb⟩
  refine ⟨v, rfl, ?_, hb⟩
  rw [mergeSort_perm (hp.trans hS.symm)]
  exact rowI_of hrow
end Go.Proofs.YtlccfpbbdgpjbaaGreatDoor

namespace Go.Proofs.YtlccfpbbdgpjbaaGreatDoor
open Go.RowKit Go.Maps

set_option maxRecDepth 100000 in
set_option maxHeartbeats 1600000 in
theorem len_any2 (p o : Nat) (A : Option Addr) (n cap : Nat) (w : World) (hc : w.cell? ⟨p, o, none⟩ = some (.slice A n cap)) :
    Calls Tryz.prog 48 #[.pointer (some ⟨p, o, none⟩)] w fun e w' => e = .returned (.int .i64 n) ∧ w' = w := by
  go_enter Tryz.func48, Tryz.ntmps48
  go_wp2_with fail
  go_ret
  exact ⟨rfl, rfl⟩

set_option maxRecDepth 100000 in
set_option maxHeartbeats 1600000 in
theorem count_any (p o : Nat) (A : Option Addr) (n cap : Nat) (w : World) (hc : w.cell? ⟨p, o, none⟩ = some (.slice A n cap)) :
    Calls Tryz.prog 49 #[.pointer (some ⟨p, o, none⟩)] w fun e w' => e = .returned (.int .i64 n) ∧ w' = w := by
  go_enter Tryz.func49, Tryz.ntmps49
  go_wp2_with fail
  go_ret
  exact ⟨rfl, rfl⟩

end Go.Proofs.YtlccfpbbdgpjbaaGreatDoor

namespace Go.Proofs.YtlccfpbbdgpjbaaGreatDoor
open Go.RowKit Go.Maps

theorem keysC_b (b : Nat) (W : World) :
    Calls Tryz.prog 46 #[.map (some b)] W fun e w' => ∃ kb : Nat, e = .returned (.func (.func 77) #[] #[.pointer (some ⟨kb, 0, none⟩)]) ∧ w'.cell? ⟨kb, 0, none⟩ = some (.map (some b)) ∧ Below W.heap.size W w' := by
  refine (keysC_any (some b) W).mono ?_
  rintro e w' ⟨rfl, rfl⟩
  exact ⟨W.heap.size, rfl, by simp, (Below.refl _ _).alloc (Nat.le_refl _) _⟩
theorem keysA_b (b : Nat) (W : World) :
    Calls Tryz.prog 47 #[.map (some b)] W fun e w' => ∃ kb : Nat, e = .returned (.func (.func 78) #[] #[.pointer (some ⟨kb, 0, none⟩)]) ∧ w'.cell? ⟨kb, 0, none⟩ = some (.map (some b)) ∧ Below W.heap.size W w' := by
  refine (keysA_any (some b) W).mono ?_
  rintro e w' ⟨rfl, rfl⟩
  exact ⟨W.heap.size, rfl, by simp, (Below.refl _ _).alloc (Nat.le_refl _) _⟩

/-- slices.Sorted, whichever of the two. -/
theorem sortedX (bc ba : Nat) (ok1 ok2 : Value → Bool) (lc la : List (Int × Value)) (hlc : lc.length ≤ 1000000) (hla : la.length ≤ 1000000) (g kb : Nat) (W : World) (hg : (g = 77 ∧ W.cell? ⟨kb, 0, none⟩ = some (.map (some bc))) ∨ (g = 78 ∧ W.cell? ⟨kb, 0, none⟩ = some (.map (some ba)))) (mC : MapI Tryz.prog 3 ok1 W bc lc) (mA : MapI Tryz.prog 3 ok2 W ba la) :
    Calls Tryz.prog 45 #[.func (.func g) #[] #[.pointer (some ⟨kb, 0, none⟩)]] W fun e w' => ∃ A n cap, e = .returned (.slice A n cap) ∧ Row w' W.heap.size 3 1 encI (.slice A n cap) ((if g = 77 then lc else la).map (·.1)).mergeSort ∧ Below W.heap.size W w' := by
  rcases hg with ⟨rfl, hm⟩ | ⟨rfl, hm⟩
  · refine (sortedC_any kb bc ok1 lc W hlc hm mC).mono ?_
    rintro e w' ⟨v, rfl, hr, hb⟩
    rw [if_pos rfl]
    obtain ⟨A, cap, rfl, _, _, _⟩ := hr.form
    exact ⟨_, _, _, rfl, hr, hb⟩
  · refine (sortedA_any kb ba ok2 la W hla hm mA).mono ?_
    rintro e w' ⟨v, rfl, hr, hb⟩
    rw [if_neg (by decide)]
    obtain ⟨A, cap, rfl, _, _, _⟩ := hr.form
    exact ⟨_, _, _, rfl, hr, hb⟩

/-- What stays so while State reads. -/
def SS (p bc ba : Nat) (now stale : Int) (w w' : World) : Prop := Below w.heap.size w w' ∧ w.heap.size < w'.heap.size ∧ w'.cell? ⟨p, 10, none⟩ = some (.int .i64 now) ∧ w'.cell? ⟨p, 15, none⟩ = some (.map (some bc)) ∧ w'.cell? ⟨p, 16, none⟩ = some (.map (some ba)) ∧ w'.cell? ⟨p, 21, none⟩ = some (.int .i64 stale) ∧ (w'.cell? ⟨w.heap.size, 0, none⟩).isSome = true ∧ w'.frozen? ⟨w.heap.size, 0, none⟩ = false ∧ (w'.cell? ⟨w.heap.size, 1, none⟩).isSome = true ∧ w'.frozen? ⟨w.heap.size, 1, none⟩ = false ∧ (w'.cell? ⟨w.heap.size, 2, none⟩).isSome = true ∧ w'.frozen? ⟨w.heap.size, 2, none⟩ = false ∧ (w'.cell? ⟨w.heap.size, 3, none⟩).isSome = true ∧ w'.frozen? ⟨w.heap.size, 3, none⟩ = false ∧ (w'.cell? ⟨w.heap.size, 4, none⟩).isSome = true ∧ w'.frozen? ⟨w.heap.size, 4, none⟩ = false ∧ (w'.cell? ⟨w.heap.size, 5, none⟩).isSome = true ∧ w'.frozen? ⟨w.heap.size, 5, none⟩ = false ∧ (w'.cell? ⟨w.heap.size, 6, none⟩).isSome = true ∧ w'.frozen? ⟨w.heap.size, 6, none⟩ = false

theorem SS.step {p bc ba : Nat} {now stale : Int} {w W w' : World} (h : SS p bc ba now stale w W) (lp : p < w.heap.size) (hb : Below W.heap.size W w') : SS p bc ba now stale w w' := by
  obtain ⟨h1, h2, h3, h4, h5, h6, r0, s0, r1, s1, r2, s2, r3, s3, r4, s4, r5, s5, r6, s6⟩ := h
  have hp : p < W.heap.size := by omega
  exact ⟨below_step h1 hb, Nat.lt_of_lt_of_le h2 hb.size, (hb.cell hp).trans h3, (hb.cell hp).trans h4, (hb.cell hp).trans h5, (hb.cell hp).trans h6,
    by rw [hb.cell h2]; exact r0, (hb.frozen h2).trans s0, by rw [hb.cell h2]; exact r1, (hb.frozen h2).trans s1, by rw [hb.cell h2]; exact r2, (hb.frozen h2).trans s2, by rw [hb.cell h2]; exact r3, (hb.frozen h2).trans s3,
    by rw [hb.cell h2]; exact r4, (hb.frozen h2).trans s4, by rw [hb.cell h2]; exact r5, (hb.frozen h2).trans s5, by rw [hb.cell h2]; exact r6, (hb.frozen h2).trans s6⟩

theorem SS.store {p bc ba : Nat} {now stale : Int} {w W : World} (h : SS p bc ba now stale w W) (lp : p < w.heap.size) (j : Nat) (v : Value) : SS p bc ba now stale w (W.setCell ⟨w.heap.size, j, none⟩ v) := by
  obtain ⟨h1, h2, h3, h4, h5, h6, r0, s0, r1, s1, r2, s2, r3, s3, r4, s4, r5, s5, r6, s6⟩ := h
  have hB := h1.setCell (p := ⟨w.heap.size, j, none⟩) (Nat.le_refl _) v
  have hf : ∀ o, (W.setCell ⟨w.heap.size, j, none⟩ v).cell? ⟨p, o, none⟩ = W.cell? ⟨p, o, none⟩ := fun o => World.cell?_setCell_far _ _ _ _ (by simp; omega)
  have hs : ∀ o, (W.cell? ⟨w.heap.size, o, none⟩).isSome = true → ((W.setCell ⟨w.heap.size, j, none⟩ v).cell? ⟨w.heap.size, o, none⟩).isSome = true := fun o h => by
    obtain ⟨u, hu⟩ := Option.isSome_iff_exists.1 h
    obtain ⟨u', hu'⟩ := cell?_setCell_some (p := ⟨w.heap.size, j, none⟩) (x := v) hu
    rw [hu']; rfl
  have hz : ∀ a, (W.setCell ⟨w.heap.size, j, none⟩ v).frozen? a = W.frozen? a := fun a => World.frozen?_setCell _ _ _ _
  exact ⟨hB, by simpa using h2, (hf _).trans h3, (hf _).trans h4, (hf _).trans h5, (hf _).trans h6, hs _ r0, (hz _).trans s0, hs _ r1, (hz _).trans s1, hs _ r2, (hz _).trans s2, hs _ r3, (hz _).trans s3, hs _ r4, (hz _).trans s4, hs _ r5, (hz _).trans s5, hs _ r6, (hz _).trans s6⟩

end Go.Proofs.YtlccfpbbdgpjbaaGreatDoor

namespace Go.Proofs.YtlccfpbbdgpjbaaGreatDoor
open Go.RowKit Go.Maps

def RowsP (L : List (Value × List Int × Nat)) (W : World) : Prop := ∀ x ∈ L, Row W x.2.2 3 1 encI x.1 x.2.1
theorem RowsP.step {L : List (Value × List Int × Nat)} {W w' : World} (h : RowsP L W) (hb : Below W.heap.size W w') : RowsP L w' := fun x hx => (h x hx).below hb
theorem RowsP.push {L : List (Value × List Int × Nat)} {W w' : World} (h : RowsP L W) (hb : Below W.heap.size W w') {v : Value} {l : List Int} {b : Nat} (hr : Row w' b 3 1 encI v l) : RowsP ((v, l, b) :: L) w' := fun x hx => by
  rcases List.mem_cons.1 hx with rfl | hx
  · exact hr
  · exact (h x hx).below hb
theorem SS.size {p bc ba : Nat} {now stale : Int} {w W : World} (h : SS p bc ba now stale w W) : w.heap.size < W.heap.size := h.2.1
theorem seven_block {w : World} (b : Nat) (v0 v1 v2 v3 v4 v5 v6 : Value) {k : Nat} (hk : k ≠ b) : (((((((w.setCell ⟨b, 0, none⟩ v0).setCell ⟨b, 1, none⟩ v1).setCell ⟨b, 2, none⟩ v2).setCell ⟨b, 3, none⟩ v3).setCell ⟨b, 4, none⟩ v4).setCell ⟨b, 5, none⟩ v5).setCell ⟨b, 6, none⟩ v6).heap[k]? = w.heap[k]? := by
  rw [Below.heap_setCell _ _ _ _ hk, Below.heap_setCell _ _ _ _ hk, Below.heap_setCell _ _ _ _ hk, Below.heap_setCell _ _ _ _ hk, Below.heap_setCell _ _ _ _ hk, Below.heap_setCell _ _ _ _ hk, Below.heap_setCell _ _ _ _ hk]

theorem SS.below {p bc ba : Nat} {now stale : Int} {w W : World} (h : SS p bc ba now stale w W) : Below w.heap.size w W := h.1
theorem SS.store7 {p bc ba : Nat} {now stale : Int} {w W : World} (h : SS p bc ba now stale w W) (lp : p < w.heap.size) (v0 v1 v2 v3 v4 v5 v6 : Value) :
    SS p bc ba now stale w (((((((W.setCell ⟨w.heap.size, 0, none⟩ v0).setCell ⟨w.heap.size, 1, none⟩ v1).setCell ⟨w.heap.size, 2, none⟩ v2).setCell ⟨w.heap.size, 3, none⟩ v3).setCell ⟨w.heap.size, 4, none⟩ v4).setCell ⟨w.heap.size, 5, none⟩ v5).setCell ⟨w.heap.size, 6, none⟩ v6) := by
  have h0 := h.store lp 0 v0
  have h1 := h0.store lp 1 v1
  have h2 := h1.store lp 2 v2
  have h3 := h2.store lp 3 v3
  have h4 := h3.store lp 4 v4
  have h5 := h4.store lp 5 v5
  exact h5.store lp 6 v6

set_option maxRecDepth 100000 in
set_option maxHeartbeats 8000000 in
theorem state_any (p bc ba : Nat) (now stale : Int) (ok1 ok2 : Value → Bool) (vu : Value) (units : List PB) (lc la : List (Int × Value)) (A1 A2 : Option Addr) (n1 n2 cap1 cap2 : Nat) (w : World) (hlu : units.length ≤ 1000000) (hku : OkB units) (hlc : lc.length ≤ 1000000) (hla : la.length ≤ 1000000)
    (cN : w.cell? ⟨p, 10, none⟩ = some (.int .i64 now)) (cU : w.cell? ⟨p, 14, none⟩ = some vu) (rU : Row w 0 150 2 encPB vu units) (cC : w.cell? ⟨p, 15, none⟩ = some (.map (some bc))) (cA : w.cell? ⟨p, 16, none⟩ = some (.map (some ba)))
    (cT : w.cell? ⟨p, 18, none⟩ = some (.slice A1 n1 cap1)) (cM : w.cell? ⟨p, 20, none⟩ = some (.slice A2 n2 cap2)) (cS : w.cell? ⟨p, 21, none⟩ = some (.int .i64 stale)) (mC : MapI Tryz.prog 3 ok1 w bc lc) (mA : MapI Tryz.prog 3 ok2 w ba la) :
    Calls Tryz.prog 25 #[.pointer (some ⟨p, 0, none⟩)] w fun e w' => ∃ vc va, e = .returned (.agg #[.int .i64 now, .int .i64 (sumB units), vc, va, .int .i64 n1, .int .i64 n2, .int .i64 stale]) ∧
      Row w' (w.heap.size + 1) 3 1 encI vc (lc.map (·.1)).mergeSort ∧ Row w' (w.heap.size + 1) 3 1 encI va (la.map (·.1)).mergeSort ∧ Below w.heap.size w w' := by
  have lp : p < w.heap.size := World.block_lt_of_cell? w _ cN
  have HBL := hide (fun W (h : Below w.heap.size w W) => balanceB_any p 11 vu units W hlu hku ((h.cell lp).trans cU) (rU.below h))
  have HLN := hide (fun W (h : Below w.heap.size w W) => (len_any2 p 18 A1 n1 cap1 W ((h.cell lp).trans cT)).mono (R' := fun e w' => e = .returned (.int .i64 n1) ∧ Below W.heap.size W w') (by rintro e w' ⟨rfl, rfl⟩; exact ⟨rfl, Below.refl _ _⟩))
  have HCT := hide (fun W (h : Below w.heap.size w W) => (count_any p 20 A2 n2 cap2 W ((h.cell lp).trans cM)).mono (R' := fun e w' => e = .returned (.int .i64 n2) ∧ Below W.heap.size W w') (by rintro e w' ⟨rfl, rfl⟩; exact ⟨rfl, Below.refl _ _⟩))
  have HSX := hide (fun g kb W (h : Below w.heap.size w W) hg => sortedX bc ba ok1 ok2 lc la hlc hla g kb W hg (mC.same (h.block _ mC.lt)) (mA.same (h.block _ mA.lt)))
  have HS0 : Hid (SS p bc ba now stale w (w.alloc (.cells #[.int .i64 0, .int .i64 0, .slice none 0 0, .slice none 0 0, .int .i64 0, .int .i64 0, .int .i64 0] 64)).drew) := by
    have hB : Below w.heap.size w (w.alloc (.cells #[.int .i64 0, .int .i64 0, .slice none 0 0, .slice none 0 0, .int .i64 0, .int .i64 0, .int .i64 0] 64)).drew := ((Below.refl _ _).alloc (Nat.le_refl _) _).drew
    refine ⟨hB, by simp, (hB.cell lp).trans cN, (hB.cell lp).trans cC, (hB.cell lp).trans cA, (hB.cell lp).trans cS, ?_, ?_, ?_, ?_, ?_, ?_, ?_, ?_, ?_, ?_, ?_, ?_, ?_, ?_⟩ <;> simp
  generalize sumB units = bal at HBL ⊢
  clear cU rU cT cM mC mA
  go_enter Tryz.func25, Tryz.ntmps25
  go_wp2_with fail
  have hSS := HS0.out
  have hRR : RowsP [] (w.alloc (.cells #[.int .i64 0, .int .i64 0, .slice none 0 0, .slice none 0 0, .int .i64 0, .int .i64 0, .int .i64 0] 64)).drew := fun x hx => by cases hx
  go_region_held3 (fun w' => Below w.heap.size w w' ∧ w.heap.size < w'.heap.size ∧ w'.cell? ⟨p, 10, none⟩ = some (.int .i64 now) ∧ w'.cell? ⟨p, 15, none⟩ = some (.map (some bc)) ∧ w'.cell? ⟨p, 16, none⟩ = some (.map (some ba)) ∧ w'.cell? ⟨p, 21, none⟩ = some (.int .i64 stale) ∧ (w'.cell? ⟨w.heap.size, 0, none⟩).isSome = true ∧ w'.frozen? ⟨w.heap.size, 0, none⟩ = false ∧ (w'.cell? ⟨w.heap.size, 1, none⟩).isSome = true ∧ w'.frozen? ⟨w.heap.size, 1, none⟩ = false ∧ (w'.cell? ⟨w.heap.size, 2, none⟩).isSome = true ∧ w'.frozen? ⟨w.heap.size, 2, none⟩ = false ∧ (w'.cell? ⟨w.heap.size, 3, none⟩).isSome = true ∧ w'.frozen? ⟨w.heap.size, 3, none⟩ = false ∧ (w'.cell? ⟨w.heap.size, 4, none⟩).isSome = true ∧ w'.frozen? ⟨w.heap.size, 4, none⟩ = false ∧ (w'.cell? ⟨w.heap.size, 5, none⟩).isSome = true ∧ w'.frozen? ⟨w.heap.size, 5, none⟩ = false ∧ (w'.cell? ⟨w.heap.size, 6, none⟩).isSome = true ∧ w'.frozen? ⟨w.heap.size, 6, none⟩ = false)
    (first
      | (show SS p bc ba now stale w _; with_reducible exact hSS)
      | (show SS p bc ba now stale w _; with_reducible exact SS.store7 hSS lp _ _ _ _ _ _ _))
    (first
      | (go_at_call 44; refine (HBL.out _ hSS.below).mono ?_; rintro e w' ⟨rfl, hb⟩; replace hRR := hRR.step hb; replace hSS := SS.step hSS lp hb)
      | (go_at_call 46; refine (keysC_b _ _).mono ?_; rintro e w' ⟨kb, rfl, hkb, hb⟩; replace hRR := hRR.step hb; replace hSS := SS.step hSS lp hb)
      | (go_at_call 47; refine (keysA_b _ _).mono ?_; rintro e w' ⟨kb, rfl, hkb, hb⟩; replace hRR := hRR.step hb; replace hSS := SS.step hSS lp hb)
      | (go_at_call 45; refine (HSX.out _ _ _ hSS.below (by first | exact .inl ⟨rfl, hkb⟩ | exact .inr ⟨rfl, hkb⟩)).mono ?_; rintro e w' ⟨A, n, cap, rfl, hrow, hb⟩; replace hRR := hRR.push hb (hrow.base (Nat.succ_le_of_lt hSS.size)); replace hSS := SS.step hSS lp hb)
      | (go_at_call 48; refine (HLN.out _ hSS.below).mono ?_; rintro e w' ⟨rfl, hb⟩; replace hRR := hRR.step hb; replace hSS := SS.step hSS lp hb)
      | (go_at_call 49; refine (HCT.out _ hSS.below).mono ?_; rintro e w' ⟨rfl, hb⟩; replace hRR := hRR.step hb; replace hSS := SS.step hSS lp hb; have hSS2 := hSS; obtain ⟨_, _, _, _, _, _, r0, s0, r1, s1, r2, s2, r3, s3, r4, s4, r5, s5, r6, s6⟩ := hSS2; obtain ⟨u0, q0⟩ := Option.isSome_iff_exists.1 r0; obtain ⟨u1, q1⟩ := Option.isSome_iff_exists.1 r1; obtain ⟨u2, q2⟩ := Option.isSome_iff_exists.1 r2; obtain ⟨u3, q3⟩ := Option.isSome_iff_exists.1 r3; obtain ⟨u4, q4⟩ := Option.isSome_iff_exists.1 r4; obtain ⟨u5, q5⟩ := Option.isSome_iff_exists.1 r5; obtain ⟨u6, q6⟩ := Option.isSome_iff_exists.1 r6))
  go_wp2_with fail
  refine bodyPost_ret (by simp [results, Tryz.results25, go_sem, q0, q1, q2, q3, q4, q5, q6]; rfl) rfl ?_
  have hC := hRR _ (List.mem_cons_of_mem _ (List.mem_cons_self))
  have hA := hRR _ (List.mem_cons_self)
  dsimp only at hA hC
  have eA : (if (78 : Nat) = 77 then lc else la) = la := if_neg (by decide)
  have eC : (if True then lc else la) = lc := if_pos trivial
  rw [eA] at hA
  rw [eC] at hC
  refine ⟨_, _, rfl, hC.same (fun k hk => ?_), hA.same (fun k hk => ?_), (SS.store7 hSS lp _ _ _ _ _ _ _).below⟩
  · exact seven_block _ _ _ _ _ _ _ _ (fun e => by have := (hC.lt k hk).1; omega)
  · exact seven_block _ _ _ _ _ _ _ _ (fun e => by have := (hA.lt k hk).1; omega)
end Go.Proofs.YtlccfpbbdgpjbaaGreatDoor

namespace Go.Proofs.YtlccfpbbdgpjbaaGreatDoor
open Go.RowKit

theorem rep_state {N : Int} {w : World} {p : Nat} {s : PSt} {V : PV} (h : PRep w p s V) (hI : Inv N s) (hN : N ≤ 60000) :
    Calls Tryz.prog 25 #[.pointer (some ⟨p, 0, none⟩)] w fun e w' => ∃ vc va, e = .returned (.agg #[.int .i64 s.now, .int .i64 (sumB s.units), vc, va, .int .i64 s.timers.length, .int .i64 s.times.length, .int .i64 s.stale]) ∧
      Row w' (w.heap.size + 1) 3 1 encI vc (s.calls.map (·.number)).mergeSort ∧ Row w' (w.heap.size + 1) 3 1 encI va (s.atts.map (·.1)).mergeSort ∧ Below w.heap.size w w' := by
  obtain ⟨A1, cap1, e1, -⟩ := h.rt.form
  obtain ⟨A2, cap2, e2, -⟩ := h.rm.form
  have hul := hI.ul
  have hcl := hI.cl
  have hf := hI.cfg.f1
  have haN := hI.aN
  have hlc : (callL s.calls V.q).length ≤ 1000000 := by unfold callL; rw [List.length_map]; omega
  have hla : (attL s.atts).length ≤ 1000000 := by unfold attL; rw [List.length_map]; omega
  have hm1 : (callL s.calls V.q).map (·.1) = s.calls.map (·.number) := by unfold callL; rw [List.map_map]; rfl
  have hm2 : (attL s.atts).map (·.1) = s.atts.map (·.1) := by unfold attL; rw [List.map_map]; rfl
  have hx := h.xp.length_eq
  have hS := state_any p V.bc V.ba s.now s.stale okPtr okAtt V.u s.units (callL s.calls V.q) (attL s.atts) A1 A2 V.xs.length s.times.length cap1 cap2 w (by omega) hI.ub hlc hla
    (h.kk _ _ rfl) (h.kk _ _ rfl) h.ru (h.kk _ _ rfl) (h.kk _ _ rfl) (by rw [← e1]; exact h.kk _ _ rfl) (by rw [← e2]; exact h.kk _ _ rfl) (h.kk _ _ rfl) h.mC h.mA
  rw [hm1, hm2, hx] at hS
  exact hS
end Go.Proofs.YtlccfpbbdgpjbaaGreatDoor
