/-
  First, Pop.
-/
import Derived.Test.YtlccfpbbdgpjbaaGreatDoorHPush
import Derived.Test.YtlccfpbbdgpjbaaGreatDoorHLay
namespace Go.Proofs.YtlccfpbbdgpjbaaGreatDoor
open Go.RowKit

set_option maxRecDepth 100000 in
set_option maxHeartbeats 1600000 in
theorem first_none (p o : Nat) (v : Value) (w : World) (hc : w.cell? ⟨p, o, none⟩ = some v) (hr : Row w 0 114 4 encPT v ([] : List PTimer)) :
    Calls Tryz.prog 70 #[.pointer (some ⟨p, o, none⟩)] w fun e w' => e = .returned (.tuple #[.agg #[.int .i64 0, .int .i64 0, .int .i64 0, .int .i64 0], .bool false]) ∧ Below w.heap.size w w' := by
  obtain ⟨A, cap, rfl, _, _, _⟩ := hr.form
  have lp : p < w.heap.size := World.block_lt_of_cell? w _ hc
  rw [List.length_nil] at hc
  clear hr
  go_enter Tryz.func70, Tryz.ntmps70
  go_wp2_with fail
  exact bodyPost_ret (v := .tuple #[.agg #[.int .i64 0, .int .i64 0, .int .i64 0, .int .i64 0], .bool false]) (by simp [results, Tryz.results70, go_sem]) rfl ⟨rfl, ((Below.refl _ _).alloc (Nat.le_refl _) _).alloc (by simp) _⟩

set_option maxRecDepth 100000 in
set_option maxHeartbeats 1600000 in
theorem first_some (p o : Nat) (g cap : Nat) (xs : List PTimer) (w : World) (h0 : 0 < xs.length) (hc : w.cell? ⟨p, o, none⟩ = some (.slice (some ⟨g, 0, none⟩) xs.length cap)) (hr : Row w 0 114 4 encPT (.slice (some ⟨g, 0, none⟩) xs.length cap) xs) :
    Calls Tryz.prog 70 #[.pointer (some ⟨p, o, none⟩)] w fun e w' => e = .returned (.tuple #[.agg #[.int .i64 (pt xs 0).kind, .int .i64 (pt xs 0).call, .int .i64 (pt xs 0).due, .int .i64 (pt xs 0).set], .bool true]) ∧ Below w.heap.size w w' := by
  obtain ⟨i0, i1, i2, i3⟩ := hr.pt_cells 0 h0 _ rfl
  generalize pt xs 0 = a at i0 i1 i2 i3 ⊢
  have h1 : (0 : Int) < (xs.length : Int) := by omega
  have h2 : ((xs.length : Int) == 0) = false := by rw [beq_eq_false_iff_ne]; omega
  rw [Nat.zero_mul] at i0 i1 i2 i3
  have lp : p < w.heap.size := World.block_lt_of_cell? w _ hc
  have lg : g < w.heap.size := World.block_lt_of_cell? w _ i0
  clear hr
  go_enter Tryz.func70, Tryz.ntmps70
  go_wp2_with fail
  exact bodyPost_ret (v := .tuple #[.agg #[.int .i64 a.kind, .int .i64 a.call, .int .i64 a.due, .int .i64 a.set], .bool true]) (by simp [results, Tryz.results70, go_sem]) rfl ⟨rfl, (Below.refl _ _).alloc (Nat.le_refl _) _⟩

theorem Row.pt_all {w : World} {b e : Nat} {g n cap : Nat} {xs : List PTimer} (h : Row w b e 4 encPT (.slice (some ⟨g, 0, none⟩) n cap) xs) (i : Nat) (hi : i < xs.length) (x : PTimer) (hx : pt xs i = x) :
    (w.cell? ⟨g, i * 4, none⟩ = some (.int .i64 x.kind) ∧ w.cell? ⟨g, i * 4 + 1, none⟩ = some (.int .i64 x.call) ∧ w.cell? ⟨g, i * 4 + 2, none⟩ = some (.int .i64 x.due) ∧ w.cell? ⟨g, i * 4 + 3, none⟩ = some (.int .i64 x.set)) ∧
    w.frozen? ⟨g, i * 4, none⟩ = false ∧ w.frozen? ⟨g, i * 4 + 1, none⟩ = false ∧ w.frozen? ⟨g, i * 4 + 2, none⟩ = false ∧ w.frozen? ⟨g, i * 4 + 3, none⟩ = false := by
  refine ⟨h.pt_cells i hi x hx, ?_⟩
  exact ⟨(h.cell encPT_len (g := g) (j := 0) rfl hi rfl).2, (h.cell encPT_len (g := g) (j := 1) rfl hi rfl).2, (h.cell encPT_len (g := g) (j := 2) rfl hi rfl).2, (h.cell encPT_len (g := g) (j := 3) rfl hi rfl).2⟩

theorem Fr.setCellsIn {p g : Nat} {J R : List Nat} {w : World} (hg : g ∈ R) (hp : g ≠ p) : ∀ (vs : List Value) (o : Nat) (wr : World), Fr p J R w wr → Fr p J R w (wr.setCells g o vs) := by
  intro vs
  induction vs with
  | nil => intro o wr h; exact h
  | cons v r ih => intro o wr h; exact ih (o + 1) _ (h.setIn (a := ⟨g, o, none⟩) hg hp v)

theorem Fr.cell_of {p : Nat} {J R : List Nat} {w w' : World} (h : Fr p J R w w') {k : Nat} (hk : k < w.heap.size) (hp : k ≠ p) (hR : k ∉ R) (j : Nat) : w'.cell? ⟨k, j, none⟩ = w.cell? ⟨k, j, none⟩ ∧ w'.frozen? ⟨k, j, none⟩ = w.frozen? ⟨k, j, none⟩ :=
  ⟨World.cell?_of_block (h.block k hk hp hR), World.frozen?_of_block (h.block k hk hp hR)⟩

def pt0 : PTimer := ⟨0, 0, 0, 0⟩

theorem popped_list (xs : List PTimer) (z : PTimer) : xs.dropLast.set 0 z = ((xs.set 0 z).take (xs.length - 1) ++ [pt0] ++ (xs.set 0 z).drop (xs.length - 1 + 1)).take (xs.dropLast.set 0 z).length := by
  have hl : (xs.dropLast.set 0 z).length = xs.length - 1 := by simp
  rw [hl, List.append_assoc, List.take_append_of_le_length (by simp), List.take_take, Nat.min_self, List.take_set, List.dropLast_eq_take]

set_option maxRecDepth 100000 in
set_option maxHeartbeats 4000000 in
theorem pop_any (p o : Nat) (g cap : Nat) (xs : List PTimer) (w : World) (h0 : 0 < xs.length) (hl : xs.length ≤ 1000000) (hH : IsHeap xs) (hgp : g ≠ p) (hc : w.cell? ⟨p, o, none⟩ = some (.slice (some ⟨g, 0, none⟩) xs.length cap)) (hz : w.frozen? ⟨p, o, none⟩ = false) (hr : Row w 0 114 4 encPT (.slice (some ⟨g, 0, none⟩) xs.length cap) xs) :
    Calls Tryz.prog 71 #[.pointer (some ⟨p, o, none⟩)] w fun e w' =>
      (∃ v, e = .returned v) ∧ ∃ ys, (pt xs 0 :: ys).Perm xs ∧ IsHeap ys ∧ w'.cell? ⟨p, o, none⟩ = some (.slice (some ⟨g, 0, none⟩) ys.length cap) ∧ Row w' 0 114 4 encPT (.slice (some ⟨g, 0, none⟩) ys.length cap) ys ∧ Fr p [o] [g] w w' := by
  have lp : p < w.heap.size := World.block_lt_of_cell? w _ hc
  have hn : xs.length - 1 < xs.length := by omega
  have lg : g < w.heap.size := (hr.lt g rfl).2
  have hA : ∀ B, Below w.heap.size w (w.alloc B) := fun B => (Below.refl _ _).alloc (Nat.le_refl _) _
  have HFS := hide (fun B => first_some p o g cap xs (w.alloc B) h0 (((hA B).cell lp).trans hc) (hr.below (hA B)))
  have HF1 := hide (fun (B : Obj) (w1 : World) (hb1 : Below (w.alloc B).heap.size (w.alloc B) w1) => (hA B).trans (hb1.mono (hA B).size))
  have h1 : (0 : Int) < (xs.length : Int) := by omega
  have h2 : ((xs.length : Int) - 1).toNat = xs.length - 1 := by omega
  have h3 : (0 : Int) ≤ (xs.length : Int) - 1 := by omega
  have hf : ∀ w1, Below w.heap.size w w1 → Row w1 0 114 4 encPT (.slice (some ⟨g, 0, none⟩) xs.length cap) xs := fun w1 h => hr.below h
  have hfc : ∀ w1, Below w.heap.size w w1 → w1.cell? ⟨p, o, none⟩ = some (.slice (some ⟨g, 0, none⟩) xs.length cap) := fun w1 h => (h.cell lp).trans hc
  have hfz : ∀ w1, Below w.heap.size w w1 → w1.frozen? ⟨p, o, none⟩ = false := fun w1 h => (h.frozen lp).trans hz
  have HF := hide hf
  have HFC := hide hfc
  have HFZ := hide hfz
  obtain ⟨z, hz9⟩ : ∃ z, pt xs (xs.length - 1) = z := ⟨_, rfl⟩
  obtain ⟨a, ha9⟩ : ∃ a, pt xs 0 = a := ⟨_, rfl⟩
  rw [ha9] at HFS ⊢
  have HZ9 := hide hz9
  have HA9 := hide ha9
  have HX := hide (⟨hr, hc, hz, hA⟩ : _ ∧ _ ∧ _ ∧ _)
  have hle : xs.length ≤ cap := hr.cap_le.1
  have hlm : cap ≤ 9223372036854775807 := hr.cap_le.2
  clear hr hc hz hA hf hfc hfz hz9 ha9
  go_enter Tryz.func71, Tryz.ntmps71
  go_wp2_with (first | (go_at_call 70; refine (HFS.out _).mono ?_; rintro e w1 ⟨rfl, hb1⟩; have hB := HF1.out _ w1 hb1; have lp1 : p < w1.heap.size := Nat.lt_of_lt_of_le lp hB.size; have lg1 : g < w1.heap.size := Nat.lt_of_lt_of_le lg hB.size; have c1 := HFC.out w1 hB; have f1 := HFZ.out w1 hB; obtain ⟨⟨a0, a1, a2, a3⟩, b0, b1, b2, b3⟩ := (HF.out w1 hB).pt_all 0 h0 a HA9.out; rw [Nat.zero_mul] at a0 a1 a2 a3 b0 b1 b2 b3; obtain ⟨⟨d0, d1, d2, d3⟩, e0, e1, e2, e3⟩ := (HF.out w1 hB).pt_all _ hn z HZ9.out))
  have hB2 : Below w.heap.size w (w1.alloc (.cells #[.int .i64 a.kind, .int .i64 a.call, .int .i64 a.due, .int .i64 a.set] 114)) := hB.alloc hB.size _
  have lr1 : w.heap.size < w1.heap.size := by
    have := hb1.size
    rw [World.size_alloc] at this
    omega
  have hrb : ∀ j, j < 4 → (w1.alloc (.cells #[.int .i64 a.kind, .int .i64 a.call, .int .i64 a.due, .int .i64 a.set] 114)).cell? ⟨w.heap.size, j, none⟩ = some (.int .i64 0) ∧ (w1.alloc (.cells #[.int .i64 a.kind, .int .i64 a.call, .int .i64 a.due, .int .i64 a.set] 114)).frozen? ⟨w.heap.size, j, none⟩ = false := fun j hj => by
    rw [World.cell?_alloc_lt _ _ _ lr1, World.frozen?_alloc_old _ _ _ (by simp; omega), hb1.cell (by simp), hb1.frozen (by simp)]
    match j, hj with
    | 0, _ => simp
    | 1, _ => simp
    | 2, _ => simp
    | 3, _ => simp
  have hlb : ∀ j u, #[Value.int .i64 a.kind, .int .i64 a.call, .int .i64 a.due, .int .i64 a.set][j]? = some u → (w1.alloc (.cells #[.int .i64 a.kind, .int .i64 a.call, .int .i64 a.due, .int .i64 a.set] 114)).cell? ⟨w1.heap.size, j, none⟩ = some u := fun j u hu => by
    simp [hu]
  clear c1 f1 a0 a1 a2 a3 b0 b1 b2 b3 d0 d1 d2 d3 e0 e1 e2 e3
  have lW : w1.heap.size < (w1.alloc (.cells #[.int .i64 a.kind, .int .i64 a.call, .int .i64 a.due, .int .i64 a.set] 114)).heap.size := by simp
  generalize w1.alloc (.cells #[.int .i64 a.kind, .int .i64 a.call, .int .i64 a.due, .int .i64 a.set] 114) = W at hB2 hrb hlb lW ⊢
  have c1 := HFC.out W hB2
  have f1 := HFZ.out W hB2
  obtain ⟨⟨a0, a1, a2, a3⟩, b0, b1, b2, b3⟩ := (HF.out W hB2).pt_all 0 h0 a HA9.out
  rw [Nat.zero_mul] at a0 a1 a2 a3 b0 b1 b2 b3
  obtain ⟨⟨d0, d1, d2, d3⟩, e0, e1, e2, e3⟩ := (HF.out W hB2).pt_all _ hn z HZ9.out
  have HRB := hide hrb
  have HLB := hide hlb
  clear hrb hlb
  have HFW := hide ((((((Fr.refl p [] [g] W).setIn (a := ⟨g, 0, none⟩) (List.mem_singleton.2 rfl) hgp (.int .i64 z.kind)).setIn (a := ⟨g, 1, none⟩) (List.mem_singleton.2 rfl) hgp (.int .i64 z.call)).setIn (a := ⟨g, 2, none⟩) (List.mem_singleton.2 rfl) hgp (.int .i64 z.due)).setIn (a := ⟨g, 3, none⟩) (List.mem_singleton.2 rfl) hgp (.int .i64 z.set)).drew)
  have hq := (HF.out W hB2).put4 (g := g) (i := 0) rfl h0 z
  simp only [Nat.zero_mul, Nat.zero_add] at hq
  have HQ := hide hq.drew
  clear hq
  go_region
  clear a0 a1 a2 a3 b0 b1 b2 b3 d0 d1 d2 d3 e0 e1 e2 e3
  generalize ((((W.setCell ⟨g, 0, none⟩ (.int .i64 z.kind)).setCell ⟨g, 1, none⟩ (.int .i64 z.call)).setCell ⟨g, 2, none⟩ (.int .i64 z.due)).setCell ⟨g, 3, none⟩ (.int .i64 z.set)).drew = W5 at HFW HQ ⊢
  have c5 : W5.cell? ⟨p, o, none⟩ = some (.slice (some ⟨g, 0, none⟩) xs.length cap) := (HFW.out.cell o (by simp)).trans c1
  have f5 : W5.frozen? ⟨p, o, none⟩ = false := (HFW.out.frozen o).trans f1
  obtain ⟨W6, hW6⟩ : ∃ W6, W6 = W5.setCells g ((xs.length - 1) * 4) ([pt0].flatMap encPT) := ⟨_, rfl⟩
  have hcl : ∀ ty, (Builtin.clear_ #[90] ty #[.slice (some ⟨g, (xs.length - 1) * 4, none⟩) (xs.length - (xs.length - 1)) (cap - (xs.length - 1))]).run Tryz.prog W5 = .ok (.tuple #[]) W6 := fun ty => by
    have e1 : xs.length - (xs.length - 1) = 1 := by omega
    rw [e1, hW6]
    exact run_clear_rows encPT 4 encPT_len W5 90 114 ty pt0 Tryz.underlying90 (fun w => by kernel_rfl) rfl (by simp [encPT, Value.oneCell']) g ((xs.length - 1) * 4) 1 _ (by omega)
      (fun j hj => (HQ.out.there encPT_len _ (by simp; omega)).1) (fun j hj => (HQ.out.there encPT_len _ (by simp; omega)).2)
  have HL := hide (HQ.out.relay encPT_len (xs.length - 1) [pt0] (xs.dropLast.set 0 z) (by simp; omega) (by simp) (by simpa using popped_list xs z))
  have HF6 := hide (Fr.setCellsIn (g := g) (List.mem_singleton.2 rfl) hgp ([pt0].flatMap encPT) ((xs.length - 1) * 4) W5 HFW.out)
  obtain ⟨ys, hys⟩ : ∃ ys, ys = xs.dropLast.set 0 z := ⟨_, rfl⟩
  have hyl : ys.length = xs.length - 1 := by rw [hys]; simp
  have hS : Sinking 0 ys 0 := by rw [hys]; exact Sinking.popped hH z
  have hPP : (a :: ys).Perm xs := by
    rw [hys, ← HZ9.out, ← HA9.out]
    rcases popped_perm h0 with h | ⟨h, h'⟩
    · exact h
    · have hd : xs.dropLast = [] := by rw [h']; rfl
      rw [hd]
      exact (List.Perm.of_eq h').symm
  rw [← hW6, ← hys, hyl] at HL
  rw [← hW6] at HF6
  have l6 : W.heap.size ≤ W6.heap.size := HF6.out.size
  have c6 : W6.cell? ⟨p, o, none⟩ = some (.slice (some ⟨g, 0, none⟩) xs.length cap) := (HF6.out.cell o (by simp)).trans c1
  have f6 : W6.frozen? ⟨p, o, none⟩ = false := (HF6.out.frozen o).trans f1
  have HF7 := hide (HF6.out.trans (Fr.store (j := o) (w := W6) (.slice (some ⟨g, 0, none⟩) (xs.length - 1) cap)) (J'' := [o]) (fun _ h => ⟨by simp, h⟩) (fun r h => by cases h))
  have HR7 := hide (HL.out.same (w' := W6.setCell ⟨p, o, none⟩ (.slice (some ⟨g, 0, none⟩) (xs.length - 1) cap)) (fun k hk => Below.heap_setCell _ _ _ _ (by simp [Value.ownBlock] at hk; show k ≠ p; omega)))
  have HC7 := hide (World.cell?_setCell_same _ _ (.slice (some ⟨g, 0, none⟩) (xs.length - 1) cap) c6)
  have HSK := hide (fun W7 hc hr => sink_any p o g cap 0 ys 0 W7 (by omega) (by omega) hS hgp hc hr)
  rw [hyl] at HSK
  have lpW : p < W.heap.size := by omega
  have lgW : g < W.heap.size := by omega
  have HFB := hide (Fr.of_below (J := [o]) (R := [g]) lp hB2)
  clear c1 f1 HFW HQ HL HF HFC HFZ HFS HF1 hW6 hys hB2 hb1
  go_wp2_with (first
    | (go_at_call 101; refine (HSK.out _ HC7.out HR7.out).mono ?_; rintro e w8 ⟨rfl, zs, hP8, hH8, hc8, hr8, hF8⟩
       have hF9 := HF7.out.trans hF8 (J'' := [o]) (fun _ h => ⟨h, by simp⟩) (fun r h => .inl h)
       have kR := fun j => hF9.cell_of (k := w.heap.size) (by omega) (by omega) (by simp; omega) j
       have kL := fun j => hF9.cell_of (k := w1.heap.size) (by omega) (by omega) (by simp; omega) j
       have r0 := (kR 0).1.trans (HRB.out 0 (by omega)).1
       have r1 := (kR 1).1.trans (HRB.out 1 (by omega)).1
       have r2 := (kR 2).1.trans (HRB.out 2 (by omega)).1
       have r3 := (kR 3).1.trans (HRB.out 3 (by omega)).1
       have s0 := (kR 0).2.trans (HRB.out 0 (by omega)).2
       have s1 := (kR 1).2.trans (HRB.out 1 (by omega)).2
       have s2 := (kR 2).2.trans (HRB.out 2 (by omega)).2
       have s3 := (kR 3).2.trans (HRB.out 3 (by omega)).2
       have m0 := (kL 0).1.trans (HLB.out 0 _ rfl)
       have m1 := (kL 1).1.trans (HLB.out 1 _ rfl)
       have m2 := (kL 2).1.trans (HLB.out 2 _ rfl)
       have m3 := (kL 3).1.trans (HLB.out 3 _ rfl)
       clear kR kL))
  have hk : ∀ (j : Nat) (v : Value) (wx : World) (k : Nat), k ≠ w.heap.size → (wx.setCell ⟨w.heap.size, j, none⟩ v).heap[k]? = wx.heap[k]? := fun j v wx k h => Below.heap_setCell wx ⟨w.heap.size, j, none⟩ v k h
  have hkk : ∀ k, k ≠ w.heap.size → ((((w8.setCell ⟨w.heap.size, 0, none⟩ (.int .i64 a.kind)).setCell ⟨w.heap.size, 1, none⟩ (.int .i64 a.call)).setCell ⟨w.heap.size, 2, none⟩ (.int .i64 a.due)).setCell ⟨w.heap.size, 3, none⟩ (.int .i64 a.set)).heap[k]? = w8.heap[k]? := fun k h =>
    (hk _ _ _ k h).trans ((hk _ _ _ k h).trans ((hk _ _ _ k h).trans (hk _ _ _ k h)))
  have hzl : zs.length = xs.length - 1 := hP8.length_eq.trans hyl
  have hFE := (((((HFB.out.trans hF9 (J'' := [o]) (fun _ h => ⟨h, h⟩) (fun r h => .inl h)).setNew lp (a := ⟨w.heap.size, 0, none⟩) (Nat.le_refl _) (.int .i64 a.kind)).setNew lp (a := ⟨w.heap.size, 1, none⟩) (Nat.le_refl _) (.int .i64 a.call)).setNew lp (a := ⟨w.heap.size, 2, none⟩) (Nat.le_refl _) (.int .i64 a.due)).setNew lp (a := ⟨w.heap.size, 3, none⟩) (Nat.le_refl _) (.int .i64 a.set))
  refine bodyPost_ret (v := .tuple #[.agg #[.int .i64 a.kind, .int .i64 a.call, .int .i64 a.due, .int .i64 a.set], .bool true]) (by simp [results, Tryz.results71, go_sem, r0, r1, r2, r3]) rfl ⟨⟨_, rfl⟩, zs, (hP8.cons a).trans hPP, hH8, ?_, ?_, hFE⟩
  · rw [World.cell?_of_block (hkk p (by omega)), hzl]
    exact hc8
  · rw [hzl]
    exact hr8.same (fun k hk' => hkk k (by simp [Value.ownBlock] at hk'; omega))
end Go.Proofs.YtlccfpbbdgpjbaaGreatDoor
