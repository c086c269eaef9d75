import Derived.Test.YtlccfpbbdgpjbaaGreatDoorZSim
import Derived.Test.YtlccfpbbdgpjbaaGreatDoorRDelay
namespace Go.Proofs.YtlccfpbbdgpjbaaGreatDoor
open Go.RowKit

/-- Numbers, each once, in order: where each stands. -/
theorem rise_at {l : List Int} (nd : l.Nodup) {j : Nat} (hj : j < l.mergeSort.length) : belowT l l.mergeSort[j] = (j : Int) := by
  have hP : l.mergeSort.Perm l := List.mergeSort_perm l _
  have nd' : l.mergeSort.Nodup := hP.nodup_iff.2 nd
  have h1 := sorted_below (ms_sorted l) hj
  have h2 := sorted_ge (ms_sorted l) hj
  rw [← belowT_perm hP]
  have h3 : sameT l.mergeSort l.mergeSort[j] ≤ 1 := by
    unfold sameT
    have h4 : (l.mergeSort.filter (fun x => decide (x = l.mergeSort[j]))).length ≤ 1 := by
      have h5 : (l.mergeSort.filter (fun x => decide (x = l.mergeSort[j]))).Nodup := nd'.sublist List.filter_sublist
      have h6 : ∀ x ∈ l.mergeSort.filter (fun x => decide (x = l.mergeSort[j])), x = l.mergeSort[j] := fun x hx => by simpa using (List.mem_filter.1 hx).2
      generalize l.mergeSort.filter (fun x => decide (x = l.mergeSort[j])) = q at h5 h6
      match q, h5, h6 with
      | [], _, _ => simp
      | [_], _, _ => simp
      | a :: b :: q, h5, h6 =>
        have e1 := h6 a (by simp)
        have e2 := h6 b (by simp)
        rw [List.nodup_cons] at h5
        exact absurd (by rw [e1, e2]; simp) h5.1
    omega
  have h4 := cnt_split l.mergeSort l.mergeSort[j]
  omega
/-- A list in which each number stands at its place is the list in order. -/
theorem rise_all {l out : List Int} (nd : l.Nodup) (hl : out.length = l.length) (h : ∀ x ∈ l, out[(belowT l x).toNat]? = some x) : out = l.mergeSort := by
  have hlen : l.mergeSort.length = l.length := List.length_mergeSort l
  apply List.ext_getElem?
  intro j
  by_cases hj : j < l.mergeSort.length
  · have hm : l.mergeSort[j] ∈ l := (List.mergeSort_perm l _).mem_iff.1 (List.getElem_mem hj)
    have h1 := h _ hm
    rw [rise_at nd hj] at h1
    rw [List.getElem?_eq_getElem hj]
    simpa using h1
  · rw [List.getElem?_eq_none (by omega), List.getElem?_eq_none (by omega)]

theorem rise_inj {l : List Int} (nd : l.Nodup) {x y : Int} (hx : x ∈ l) (hy : y ∈ l) (h : belowT l x = belowT l y) : x = y := by
  have hP : l.mergeSort.Perm l := List.mergeSort_perm l _
  obtain ⟨i, hi, rfl⟩ := List.getElem_of_mem (hP.mem_iff.2 hx)
  obtain ⟨j, hj, rfl⟩ := List.getElem_of_mem (hP.mem_iff.2 hy)
  rw [rise_at nd hi, rise_at nd hj] at h
  have : i = j := by omega
  subst this
  rfl
theorem rise_lt {l : List Int} (nd : l.Nodup) {x : Int} (hx : x ∈ l) : 0 ≤ belowT l x ∧ belowT l x < (l.length : Int) := by
  have hP : l.mergeSort.Perm l := List.mergeSort_perm l _
  obtain ⟨i, hi, rfl⟩ := List.getElem_of_mem (hP.mem_iff.2 hx)
  rw [rise_at nd hi]
  rw [List.length_mergeSort] at hi
  omega
theorem made_zero (n : Nat) : (madeCells (Value.int .i64 0).cells (n * 1)).toList = (List.replicate n (0 : Int)).flatMap encI := by
  rw [Nat.mul_one]
  apply List.ext_getElem?
  intro j
  rw [flat_encI]
  simp [madeCells, Value.cells, List.getElem?_replicate]
  by_cases h : j < n
  · simp [h, Nat.mod_one]
  · simp [h]

set_option maxRecDepth 100000 in
set_option maxHeartbeats 4000000 in
theorem rising_any (v : Value) (b : Nat) (l : List Int) (w : World) (hl : l.length ≤ 1000000) (nd : l.Nodup) (hr : Row w b 3 1 encI v l) :
    Calls Tryz.prog 87 #[v] w fun e w' => ∃ A n cap, e = .returned (.slice A n cap) ∧ Row w' w.heap.size 3 1 encI (.slice A n cap) l.mergeSort ∧ Below w.heap.size w w' := by
  obtain ⟨A, cap, rfl, hcap, hA, hB⟩ := hr.form
  have hl' : (l.length : Int) ≤ 1000000 := by omega
  have HB : Hid (∀ k (_ : k < l.length), ∃ g, A = some ⟨g, 0, none⟩ ∧ g < w.heap.size ∧ w.cell? ⟨g, k, none⟩ = some (.int .i64 l[k])) := fun k hk => by
    obtain ⟨g, rfl⟩ := hA k hk
    have h9 := (hr.cell (fun _ => rfl) (g := g) (i := k) (j := 0) rfl hk (u := .int .i64 l[k]) rfl).1
    rw [Nat.mul_one, Nat.add_zero] at h9
    exact ⟨g, rfl, (hB g rfl).2.1, h9⟩
  obtain ⟨i1, hi1, y0, y1, y2⟩ := info_parts Tryz.infoInt
  have HND := hide nd
  clear hr hcap hA hB nd
  go_enter Tryz.func87, Tryz.ntmps87
  go_wp2_with (first
    | (refine wpList_make_full w (by rfl) _ _ _ (by rfl) w.heap.size 3 i1 _ 1 Tryz.underlying45 hi1 y0 y1 _ _ _ _ l.length (by rfl) (by rfl) rfl rfl (by rw [y2]; omega) (by simp only [maxLen]; omega) (Nat.le_refl _) ?_
       intro w1 hown hgrow
       rw [made_zero] at hown))
  have hrow0 : Row w1 w.heap.size 3 1 encI (.slice (some ⟨w.heap.size, 0, none⟩) l.length l.length) (List.replicate l.length 0) := by
    unfold Row
    rw [List.length_replicate]
    exact hown
  have hb0 : Below w.heap.size w w1 := ⟨hgrow.os, hgrow.tape, hgrow.output, hgrow.size, fun k hk => hgrow.block k hk (by simp)⟩
  have HR0 := hide hrow0
  have HB0 := hide hb0
  clear hown hgrow hrow0 hb0
  go_loopg [4] l.length (fun gi v4 wx => ∃ (i : Nat) (out : List Int), i ≤ l.length ∧ gi = l.length - i ∧ v4 = .int .i64 i ∧ out.length = l.length ∧ Row wx w.heap.size 3 1 encI (.slice (some ⟨w.heap.size, 0, none⟩) l.length l.length) out ∧ Below w.heap.size w wx ∧ Hid (∀ x ∈ l.take i, out[(belowT l x).toNat]? = some x))
  case atStart => exact ⟨0, List.replicate l.length 0, Nat.zero_le _, rfl, rfl, by simp, HR0.out, HB0.out, fun x hx => by simp at hx⟩
  case round =>
    obtain ⟨i, out, hi, hgi, rfl, hol, hrow, hb, HP⟩ := hrel
    by_cases hlt : (i : Int) < (l.length : Int)
    · have hil : i < l.length := by omega
      obtain ⟨g, rfl, hgl, ei⟩ := HB.out i hil
      have HTK : Hid (l.take (i + 1) = l.take i ++ [l[i]]) := List.take_succ_eq_append_getElem hil
      have hli : l[i] ∈ l := List.getElem_mem hil
      have HLI := hide hli
      have HTI : Hid (∀ x ∈ l.take i, x ≠ l[i]) := fun x hx e => by
        obtain ⟨j, hj, rfl⟩ := List.getElem_of_mem hx
        rw [List.length_take] at hj
        rw [List.getElem_take] at e
        have := List.pairwise_iff_getElem.1 HND.out j i (by omega) hil (by omega)
        exact this e
      have HSn := hide (fun j hj => belowT_snoc l l[i] j hj)
      obtain ⟨at0, at1⟩ := rise_lt HND.out hli
      have HAT : Hid (∃ z, belowT l l[i] = z) := ⟨_, rfl⟩
      generalize l[i] = li at ei HTK HLI HTI HSn at0 at1 HAT hli
      clear hli
      have HRX := hide hrow
      have HBX := hide hb
      have hsz0 := hb.size
      clear hrow hb
      rename World => wx
      go_wp2_with fail
      go_loopg [5, 6] l.length (fun gj v5 v6 wy => ∃ j : Nat, j ≤ l.length ∧ gj = l.length - j ∧ v6 = .int .i64 j ∧ v5 = .int .i64 (belowT (l.take j) li) ∧ Below wx.heap.size wx wy)
      case atStart => exact ⟨0, Nat.zero_le _, rfl, rfl, rfl, Below.refl _ _⟩
      case round =>
        obtain ⟨j, hj, hgj, rfl, rfl, hby⟩ := hrel
        rename World => wy
        have hsz := hby.size
        obtain ⟨b0, b1⟩ := belowT_le l li j
        by_cases hjt : (j : Int) < (l.length : Int)
        · have hjl : j < l.length := by omega
          obtain ⟨g', hgo, _, ej⟩ := HB.out j hjl
          obtain rfl : g = g' := by simpa using hgo
          have HS1 := hide (HSn.out j hjl)
          generalize l[j] = zj at ej HS1
          rw [← HBX.out.cell (p := ⟨g, j, none⟩) hgl, ← hby.cell (p := ⟨g, j, none⟩) (by show g < wx.heap.size; omega)] at ej
          have ei' := ei
          rw [← HBX.out.cell (p := ⟨g, i, none⟩) hgl, ← hby.cell (p := ⟨g, i, none⟩) (by show g < wx.heap.size; omega)] at ei'
          generalize belowT (l.take j) li = bj at HS1 b0 b1
          clear hgo HSn HTK HB ei
          by_cases c1 : zj < li
          · have d1 : decide (zj < li) = true := decide_eq_true c1
            have E1 : Hid (belowT (l.take (j + 1)) li = bj + 1) := by show _ = _; rw [HS1.out, if_pos c1]
            clear HS1
            go_wp2_with fail
            go_quiet (fail)
            go_wp2_with fail
            go_roundg (l.length - (j + 1))
            case measure => omega
            case rel => exact ⟨j + 1, by omega, rfl, by go_num, by rw [E1.out], hby.trans ((below_drewN _ _).mono hsz)⟩
          · have d1 : decide (zj < li) = false := decide_eq_false c1
            have E1 : Hid (belowT (l.take (j + 1)) li = bj) := by show _ = _; rw [HS1.out, if_neg c1]; simp
            clear HS1
            go_wp2_with fail
            go_quiet (fail)
            go_wp2_with fail
            go_roundg (l.length - (j + 1))
            case measure => omega
            case rel => exact ⟨j + 1, by omega, rfl, by go_num, by rw [E1.out], hby.trans ((below_drewN _ _).mono hsz)⟩
        · have ej : j = l.length := by omega
          subst ej
          rw [List.take_of_length_le (Nat.le_refl _)] at b0 b1 ⊢
          obtain ⟨t, ht⟩ : ∃ t : Nat, belowT l li = (t : Int) := ⟨(belowT l li).toNat, by omega⟩
          have htl : t < l.length := by omega
          have hrowy := HRX.out.below hby
          have hto : t < out.length := by omega
          have et := hrowy.cell (fun _ => rfl) (g := w.heap.size) (i := t) (j := 0) rfl hto (u := .int .i64 out[t]) rfl
          rw [Nat.mul_one, Nat.add_zero] at et
          obtain ⟨et, ft⟩ := et
          have hset := hrowy.set (fun _ => rfl) (g := w.heap.size) (i := t) (j := 0) rfl hto (by omega) (.int .i64 li) li rfl
          rw [Nat.mul_one, Nat.add_zero] at hset
          have ei' := ei
          rw [← HBX.out.cell (p := ⟨g, i, none⟩) hgl, ← hby.cell (p := ⟨g, i, none⟩) (by show g < wx.heap.size; omega)] at ei'
          have HPX : Hid (∀ x ∈ l.take (i + 1), (out.set t li)[(belowT l x).toNat]? = some x) := fun x hx => by
            rw [HTK.out] at hx
            rcases List.mem_append.1 hx with h1 | h1
            · have hne : belowT l x ≠ (t : Int) := fun e => HTI.out x h1 (rise_inj HND.out (List.mem_of_mem_take h1) HLI.out (by rw [e, ht]))
              have hx0 := rise_lt HND.out (List.mem_of_mem_take h1)
              rw [List.getElem?_set_ne (by omega)]
              exact HP.out x h1
            · obtain rfl : x = li := by simpa using h1
              rw [ht]
              show (out.set t x)[t]? = _
              rw [List.getElem?_set_self hto]
          have HSET := hide hset
          have HBY : Hid (Below w.heap.size w (wy.setCell ⟨w.heap.size, t, none⟩ (.int .i64 li))) := (HBX.out.trans (hby.mono hsz0)).setCell (p := ⟨w.heap.size, t, none⟩) (Nat.le_refl _) _
          have hti : (t : Int) < (l.length : Int) := by omega
          rw [ht]
          clear hset hrowy HP HTI HTK HSn HB HRX hby ht ei at0 at1 b0 b1 HAT
          go_wp2_with fail
          go_roundg (l.length - (i + 1))
          case measure => omega
          case rel => exact ⟨i + 1, out.set t li, by omega, rfl, by go_num, by rw [List.length_set]; exact hol, HSET.out, HBY.out, HPX⟩
    · have HF : Hid (out = l.mergeSort) := rise_all HND.out hol (fun x hx => HP.out x (by rw [List.take_of_length_le (by omega)]; exact hx))
      have HRX : Hid (Row _ w.heap.size 3 1 encI (.slice (some ⟨w.heap.size, 0, none⟩) l.length l.length) out) := hrow
      clear hrow HP HB
      go_wp2_with fail
      go_ret
      exact ⟨_, _, _, rfl, by rw [← HF.out]; exact HRX.out, hb⟩
end Go.Proofs.YtlccfpbbdgpjbaaGreatDoor
