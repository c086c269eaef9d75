/-
  slices.Delete of the first entries of a row of units.
-/
import Derived.Test.YtlccfpbbdgpjbaaGreatDoorBModel
namespace Go.Proofs.YtlccfpbbdgpjbaaGreatDoor
open Go.RowKit

theorem Tryz.infoPB : (Tryz.prog.info? 150).map (fun i => (i.zero, i.size, i.bytes)) = some (some (.agg #[.int .i64 0, .int .i64 0]), 2, 16) := by kernel_rfl
def pb0 : PB := ⟨0, 0⟩

set_option maxRecDepth 100000 in
set_option maxHeartbeats 4000000 in
theorem deleteB_none (v : Value) (l : List PB) (w : World) (hr : Row w 0 150 2 encPB v l) :
    Calls Tryz.prog 121 #[v, .int .i64 0, .int .i64 0] w fun e w' => e = .returned v ∧ w' = w := by
  obtain ⟨A, cap, rfl, hlen, hA, hB⟩ := hr.form
  have hle : l.length ≤ cap := by
    rcases hr.2 with ⟨hn, h0⟩ | ⟨g', cap', cur, hv, hb, hgg, hnc, hcm, hcs, htake⟩
    · omega
    · cases hv
      exact hnc
  clear hr hA hB
  go_enter Tryz.func121, Tryz.ntmps121
  go_wp2_with fail
  go_ret
  exact ⟨rfl, rfl⟩

set_option maxRecDepth 100000 in
set_option maxHeartbeats 4000000 in
theorem deleteB_some (g cap k : Nat) (l : List PB) (w : World) (hl : l.length ≤ 1000000) (h0 : 0 < k) (hk : k ≤ l.length) (hr : Row w 0 150 2 encPB (.slice (some ⟨g, 0, none⟩) l.length cap) l) :
    Calls Tryz.prog 121 #[.slice (some ⟨g, 0, none⟩) l.length cap, .int .i64 0, .int .i64 k] w fun e w' =>
      e = .returned (.slice (some ⟨g, 0, none⟩) (l.drop k).length cap) ∧ Row w' 0 150 2 encPB (.slice (some ⟨g, 0, none⟩) (l.drop k).length cap) (l.drop k) ∧ Kp [g] w w' := by
  obtain ⟨i0, hi0, z0, z1, z2⟩ := info_parts Tryz.infoPB
  have hle : l.length ≤ cap := hr.cap_le.1
  have hlm : cap ≤ 9223372036854775807 := hr.cap_le.2
  have k1 : ((0 : Int) == (k : Int)) = false := by rw [beq_eq_false_iff_ne]; omega
  have k2 : (k : Int) ≤ (l.length : Int) := by omega
  have k3 : (0 : Int) ≤ (k : Int) := by omega
  have hdl : (l.drop k).length = l.length - k := List.length_drop
  have s1 : Hid (((l.drop k).flatMap encPB).length = (l.length - k) * 2) := by
    rw [← hdl]
    exact flat_len encPB 2 encPB_len _
  obtain ⟨A, hA, hsrc⟩ : ∃ A : Addr, (if cap = k then some (⟨g, 0, none⟩ : Addr) else some ⟨g, k * 2, none⟩) = some A ∧ Hid (∀ t u, ((l.drop k).flatMap encPB)[t]? = some u → w.drew.cell? (A.add t) = some u) := by
    by_cases h : cap = k
    · refine ⟨⟨g, 0, none⟩, by simp [h], fun t u hu => ?_⟩
      have h9 : l.drop k = [] := List.drop_of_length_le (by omega)
      rw [h9] at hu
      simp at hu
    · refine ⟨⟨g, k * 2, none⟩, by simp [h], fun t u hu => ?_⟩
      rw [Addr.add_lit]
      obtain ⟨A', cap', hv, _, _, h2⟩ := hr.form
      cases hv
      rw [flat_drop encPB 2 encPB_len, List.getElem?_drop] at hu
      exact ((h2 g rfl).2.2.2 _ _ hu).1
  have s2 : Hid (∀ u ∈ (l.drop k).flatMap encPB, u.oneCell' = true) := by
    intro u hu
    obtain ⟨x, _, hx⟩ := List.mem_flatMap.1 hu
    simp only [encPB, List.mem_cons, List.not_mem_nil, or_false] at hx
    rcases hx with rfl | rfl <;> rfl
  have s3 : Hid (∀ t, t < ((l.drop k).flatMap encPB).length → (w.drew.cell? ⟨g, 0 + 0 * 2 + t, none⟩).isSome = true ∧ w.drew.frozen? ⟨g, 0 + 0 * 2 + t, none⟩ = false) := by
    intro t ht
    rw [s1.out] at ht
    rw [show 0 + 0 * 2 + t = t by omega]
    exact hr.there encPB_len t (by omega)
  obtain ⟨W1, hW1⟩ : ∃ W1, W1 = w.drew.setCells g (0 + 0 * 2) ((l.drop k).flatMap encPB) := ⟨_, rfl⟩
  have hR1 : Row W1 0 150 2 encPB (.slice (some ⟨g, 0, none⟩) l.length cap) (l.drop k ++ l.drop (l.length - k)) := by
    have hll : (l.drop k ++ l.drop (l.length - k)).length = l.length := by rw [List.length_append, List.length_drop, List.length_drop]; omega
    have := hr.drew.relay encPB_len 0 (l.drop k) (l.drop k ++ l.drop (l.length - k)) (by rw [hdl]; omega) (by rw [hll]; omega) (by
      rw [hll, hdl, List.take_zero, List.nil_append, Nat.zero_add]
      exact (List.take_of_length_le (by rw [hll]; omega)).symm)
    rw [hll] at this
    rw [hW1]
    exact this
  have hK1 : Kp [g] w W1 := by
    rw [hW1]
    exact Kp.setCellsIn (List.mem_singleton.2 rfl) _ _ _ ⟨rfl, rfl, rfl, Nat.le_refl _, fun _ _ _ => rfl⟩
  obtain ⟨W2, hW2⟩ : ∃ W2, W2 = W1.setCells g ((l.length - k) * 2) ((List.replicate k pb0).flatMap encPB) := ⟨_, rfl⟩
  have hcl : ∀ ty, (Builtin.clear_ #[84] ty #[.slice (some ⟨g, (l.length - k) * 2, none⟩) (l.length - (l.length - k)) (cap - (l.length - k))]).run Tryz.prog W1 = .ok (.tuple #[]) W2 := fun ty => by
    rw [hW2, show l.length - (l.length - k) = k by omega]
    have hll : (l.drop k ++ l.drop (l.length - k)).length = l.length := by rw [List.length_append, List.length_drop, List.length_drop]; omega
    exact run_clear_rows encPB 2 encPB_len W1 84 150 ty pb0 Tryz.underlying84 (fun w => by kernel_rfl) rfl (by simp [encPB, pb0, Value.oneCell']) g ((l.length - k) * 2) k _ h0
      (fun j hj => (hR1.there encPB_len _ (by rw [hll]; omega)).1) (fun j hj => (hR1.there encPB_len _ (by rw [hll]; omega)).2)
  have hR2 : Row W2 0 150 2 encPB (.slice (some ⟨g, 0, none⟩) (l.length - k) cap) (l.drop k) := by
    have := hR1.relay encPB_len (l.length - k) (List.replicate k pb0) (l.drop k) (by rw [List.length_append, List.length_drop, List.length_drop, List.length_replicate]; omega) (by rw [List.length_append]; omega) (by
      rw [List.append_assoc, List.take_append_of_le_length (by rw [List.length_take, List.length_append, List.length_drop]; omega), List.take_take, hdl, Nat.min_self, ← hdl, List.take_append_of_le_length (Nat.le_refl _), List.take_of_length_le (Nat.le_refl _)])
    rw [hdl] at this
    rw [hW2]
    exact this
  have hK2 : Kp [g] w W2 := by
    rw [hW2]
    exact Kp.setCellsIn (List.mem_singleton.2 rfl) _ _ _ hK1
  have HW := hide hW1
  have HR2 := hide hR2
  have HK2 := hide hK2
  have hkc : k ≤ cap := by omega
  clear hr hR1 hK1 hW1 hW2 hR2 hK2
  rw [hdl]
  go_enter Tryz.func121, Tryz.ntmps121
  go_wp2_with fail
  go_region_law (refine step_append_room rfl (.tmp 22) (.tmp 25) 84 rfl 150 i0 2 Tryz.underlying84 hi0 z1 g 0 0 cap (by simp [Act.eval, Act.put]) A (l.length - k) (cap - k) ((l.drop k).flatMap encPB) (by simp [Act.eval, Act.put]) s1.out hsrc.out s2.out (by omega) s3.out ?_; rw [← HW.out])
  go_wp2_with fail
  go_ret
  exact ⟨rfl, HR2.out, HK2.out⟩
end Go.Proofs.YtlccfpbbdgpjbaaGreatDoor
