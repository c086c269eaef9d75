import Derived.Test.YtlccfpbbdgpjbaaGreatDoorZHeap2
namespace Go.Proofs.YtlccfpbbdgpjbaaGreatDoor
open Go.RowKit

structure PB where
  came : Int
  units : Int

def encPB (b : PB) : List Value := [.int .i64 b.came, .int .i64 b.units]
theorem encPB_len (b : PB) : (encPB b).length = 2 := rfl

def sumB : List PB → Int
  | [] => 0
  | b :: r => b.units + sumB r
theorem sumB_append (l m : List PB) : sumB (l ++ m) = sumB l + sumB m := by
  induction l with
  | nil => simp [sumB]
  | cons a r ih => simp only [List.cons_append, sumB, ih]; omega

/-- Units that may be. -/
def OkB (l : List PB) : Prop := ∀ b ∈ l, 0 < b.units ∧ b.units ≤ 1000 ∧ 0 ≤ b.came ∧ b.came ≤ 1099511627776
theorem sumB_bound {l : List PB} (h : OkB l) : 0 ≤ sumB l ∧ sumB l ≤ 1000 * (l.length : Int) := by
  induction l with
  | nil => simp [sumB]
  | cons a r ih =>
    have h1 := h a (by simp)
    have h2 := ih (fun b hb => h b (by simp [hb]))
    simp only [sumB, List.length_cons]
    omega
theorem OkB.take {l : List PB} (h : OkB l) (k : Nat) : OkB (l.take k) := fun b hb => h b (List.mem_of_mem_take hb)
theorem OkB.drop {l : List PB} (h : OkB l) (k : Nat) : OkB (l.drop k) := fun b hb => h b (List.mem_of_mem_drop hb)
theorem sumB_take {l : List PB} {k : Nat} (h : k < l.length) : sumB (l.take (k + 1)) = sumB (l.take k) + l[k].units := by
  rw [List.take_succ_eq_append_getElem h, sumB_append]
  simp [sumB]

set_option maxRecDepth 100000 in
set_option maxHeartbeats 1600000 in
theorem balanceB_any (p o : Nat) (v : Value) (l : List PB) (w : World) (hl : l.length ≤ 1000000) (hk : OkB l) (hc : w.cell? ⟨p, o + 3, none⟩ = some v) (hr : Row w 0 150 2 encPB v l) :
    Calls Tryz.prog 44 #[.pointer (some ⟨p, o, none⟩)] w fun e w' => e = .returned (.int .i64 (sumB l)) ∧ Below w.heap.size w w' := by
  have lp : p < w.heap.size := World.block_lt_of_cell? w _ hc
  obtain ⟨A, cap, rfl, hlen, hA, hB⟩ := hr.form
  have HB : Hid (∀ i (h : i < l.length), ∃ g, A = some ⟨g, 0, none⟩ ∧ g < w.heap.size ∧ w.cell? ⟨g, i * 2, none⟩ = some (.int .i64 l[i].came) ∧ w.cell? ⟨g, i * 2 + 1, none⟩ = some (.int .i64 l[i].units)) := fun i h => by
    obtain ⟨g, rfl⟩ := hA i h
    exact ⟨g, rfl, (hB g rfl).2.1, (hr.cell encPB_len (g := g) (j := 0) rfl h rfl).1, (hr.cell encPB_len (g := g) (j := 1) rfl h rfl).1⟩
  clear hr hB hA hlen
  have hl' : (l.length : Int) ≤ 1000000 := by omega
  have HK := hide hk
  clear hk
  go_enter Tryz.func44, Tryz.ntmps44
  go_wp2_with fail
  go_loopw [3, 11] (fun nv iv wr => ∃ k : Nat, k ≤ l.length ∧ nv = .int .i64 (sumB (l.take k)) ∧ iv = .int .i64 k ∧ Below w.heap.size w wr) (fun _ iv _ => l.length - (intOf iv).toNat)
  case atStart => exact ⟨0, Nat.zero_le _, rfl, rfl, Below.refl _ _⟩
  case round =>
    obtain ⟨k, hk, rfl, rfl, hb⟩ := hrel
    have hsz := hb.size
    by_cases hlt : k < l.length
    · have hlt' : (k : Int) < (l.length : Int) := by omega
      obtain ⟨g, rfl, hg, e0, e1⟩ := HB.out k hlt
      rw [← hb.cell (p := ⟨g, k * 2, none⟩) hg] at e0
      rw [← hb.cell (p := ⟨g, k * 2 + 1, none⟩) hg] at e1
      have hu := HK.out l[k] (List.getElem_mem _)
      have hs := sumB_bound (HK.out.take k)
      have hsl : ((l.take k).length : Int) ≤ 1000000 := by rw [List.length_take]; omega
      have HS := hide (sumB_take hlt)
      obtain ⟨u1, u2, _, _⟩ := hu
      obtain ⟨s1, s2⟩ := hs
      generalize l[k].units = u at e1 HS u1 u2
      generalize l[k].came = c at e0
      have s3 : sumB (l.take k) ≤ 1000000000 := by omega
      generalize sumB (l.take k) = s at HS s1 s2 s3 ⊢
      clear HB hc s2 hsl
      go_wp2_with fail
      go_roundw
      case rel => exact ⟨k + 1, by omega, by rw [HS.out], by go_num, hb.trans (((Below.refl _ _).alloc (Nat.le_refl _) _).mono hsz)⟩
      case measure => simp [intOf]; omega
    · have e : l.take k = l := List.take_of_length_le (by omega)
      rw [e]
      clear HB
      go_wp2_with fail
      go_ret
      exact ⟨rfl, hb⟩
end Go.Proofs.YtlccfpbbdgpjbaaGreatDoor

namespace Go.Proofs.YtlccfpbbdgpjbaaGreatDoor
open Go.RowKit

theorem Tryz.infoPB : (Tryz.prog.info? 150).map (fun i => (i.zero, i.size, i.bytes)) = some (some (.agg #[.int .i64 0, .int .i64 0]), 2, 16) := by kernel_rfl
def pb0 : PB := ⟨0, 0⟩

set_option maxRecDepth 100000 in
set_option maxHeartbeats 4000000 in
theorem deleteB_none (v : Value) (l : List PB) (w : World) (hr : Row w 0 150 2 encPB v l) :
    Calls Tryz.prog 121 #[v, .int .i64 0, .int .i64 0] w fun e w' => e = .returned v ∧ w' = w := by
  obtain ⟨A, cap, rfl, hlen, hA, hB⟩ := hr.form
  have hle : l.length ≤ cap := by
    rcases hr.2 with ⟨hn, h0⟩ | ⟨g', cap', cur, hv, hb, hgg, hnc, hcm, hcs, htake⟩
    · omega
    · cases hv
      exact hnc
  clear hr hA hB
  go_enter Tryz.func121, Tryz.ntmps121
  go_wp2_with fail
  go_ret
  exact ⟨rfl, rfl⟩

set_option maxRecDepth 100000 in
set_option maxHeartbeats 4000000 in
theorem deleteB_some (g cap k : Nat) (l : List PB) (w : World) (hl : l.length ≤ 1000000) (h0 : 0 < k) (hk : k ≤ l.length) (hr : Row w 0 150 2 encPB (.slice (some ⟨g, 0, none⟩) l.length cap) l) :
    Calls Tryz.prog 121 #[.slice (some ⟨g, 0, none⟩) l.length cap, .int .i64 0, .int .i64 k] w fun e w' =>
      e = .returned (.slice (some ⟨g, 0, none⟩) (l.drop k).length cap) ∧ Row w' 0 150 2 encPB (.slice (some ⟨g, 0, none⟩) (l.drop k).length cap) (l.drop k) ∧ Kp [g] w w' := by
  obtain ⟨i0, hi0, z0, z1, z2⟩ := info_parts Tryz.infoPB
  have hle : l.length ≤ cap := hr.cap_le.1
  have hlm : cap ≤ 9223372036854775807 := hr.cap_le.2
  have k1 : ((0 : Int) == (k : Int)) = false := by rw [beq_eq_false_iff_ne]; omega
  have k2 : (k : Int) ≤ (l.length : Int) := by omega
  have k3 : (0 : Int) ≤ (k : Int) := by omega
  have hdl : (l.drop k).length = l.length - k := List.length_drop
  have s1 : Hid (((l.drop k).flatMap encPB).length = (l.length - k) * 2) := by
    rw [← hdl]
    exact flat_len encPB 2 encPB_len _
  obtain ⟨A, hA, hsrc⟩ : ∃ A : Addr, (if cap = k then some (⟨g, 0, none⟩ : Addr) else some ⟨g, k * 2, none⟩) = some A ∧ Hid (∀ t u, ((l.drop k).flatMap encPB)[t]? = some u → w.drew.cell? (A.add t) = some u) := by
    by_cases h : cap = k
    · refine ⟨⟨g, 0, none⟩, by simp [h], fun t u hu => ?_⟩
      have h9 : l.drop k = [] := List.drop_of_length_le (by omega)
      rw [h9] at hu
      simp at hu
    · refine ⟨⟨g, k * 2, none⟩, by simp [h], fun t u hu => ?_⟩
      rw [Addr.add_lit]
      obtain ⟨A', cap', hv, _, _, h2⟩ := hr.form
      cases hv
      rw [flat_drop encPB 2 encPB_len, List.getElem?_drop] at hu
      exact ((h2 g rfl).2.2.2 _ _ hu).1
  have s2 : Hid (∀ u ∈ (l.drop k).flatMap encPB, u.oneCell' = true) := by
    intro u hu
    obtain ⟨x, _, hx⟩ := List.mem_flatMap.1 hu
    simp only [encPB, List.mem_cons, List.not_mem_nil, or_false] at hx
    rcases hx with rfl | rfl <;> rfl
  have s3 : Hid (∀ t, t < ((l.drop k).flatMap encPB).length → (w.drew.cell? ⟨g, 0 + 0 * 2 + t, none⟩).isSome = true ∧ w.drew.frozen? ⟨g, 0 + 0 * 2 + t, none⟩ = false) := by
    intro t ht
    rw [s1.out] at ht
    rw [show 0 + 0 * 2 + t = t by omega]
    exact hr.there encPB_len t (by omega)
  obtain ⟨W1, hW1⟩ : ∃ W1, W1 = w.drew.setCells g (0 + 0 * 2) ((l.drop k).flatMap encPB) := ⟨_, rfl⟩
  have hR1 : Row W1 0 150 2 encPB (.slice (some ⟨g, 0, none⟩) l.length cap) (l.drop k ++ l.drop (l.length - k)) := by
    have hll : (l.drop k ++ l.drop (l.length - k)).length = l.length := by rw [List.length_append, List.length_drop, List.length_drop]; omega
    have := hr.drew.relay encPB_len 0 (l.drop k) (l.drop k ++ l.drop (l.length - k)) (by rw [hdl]; omega) (by rw [hll]; omega) (by
      rw [hll, hdl, List.take_zero, List.nil_append, Nat.zero_add]
      exact (List.take_of_length_le (by rw [hll]; omega)).symm)
    rw [hll] at this
    rw [hW1]
    exact this
  have hK1 : Kp [g] w W1 := by
    rw [hW1]
    exact Kp.setCellsIn (List.mem_singleton.2 rfl) _ _ _ ⟨rfl, rfl, rfl, Nat.le_refl _, fun _ _ _ => rfl⟩
  obtain ⟨W2, hW2⟩ : ∃ W2, W2 = W1.setCells g ((l.length - k) * 2) ((List.replicate k pb0).flatMap encPB) := ⟨_, rfl⟩
  have hcl : ∀ ty, (Builtin.clear_ #[84] ty #[.slice (some ⟨g, (l.length - k) * 2, none⟩) (l.length - (l.length - k)) (cap - (l.length - k))]).run Tryz.prog W1 = .ok (.tuple #[]) W2 := fun ty => by
    rw [hW2, show l.length - (l.length - k) = k by omega]
    have hll : (l.drop k ++ l.drop (l.length - k)).length = l.length := by rw [List.length_append, List.length_drop, List.length_drop]; omega
    exact run_clear_rows encPB 2 encPB_len W1 84 150 ty pb0 Tryz.underlying84 (fun w => by kernel_rfl) rfl (by simp [encPB, pb0, Value.oneCell']) g ((l.length - k) * 2) k _ h0
      (fun j hj => (hR1.there encPB_len _ (by rw [hll]; omega)).1) (fun j hj => (hR1.there encPB_len _ (by rw [hll]; omega)).2)
  have hR2 : Row W2 0 150 2 encPB (.slice (some ⟨g, 0, none⟩) (l.length - k) cap) (l.drop k) := by
    have := hR1.relay encPB_len (l.length - k) (List.replicate k pb0) (l.drop k) (by rw [List.length_append, List.length_drop, List.length_drop, List.length_replicate]; omega) (by rw [List.length_append]; omega) (by
      rw [List.append_assoc, List.take_append_of_le_length (by rw [List.length_take, List.length_append, List.length_drop]; omega), List.take_take, hdl, Nat.min_self, ← hdl, List.take_append_of_le_length (Nat.le_refl _), List.take_of_length_le (Nat.le_refl _)])
    rw [hdl] at this
    rw [hW2]
    exact this
  have hK2 : Kp [g] w W2 := by
    rw [hW2]
    exact Kp.setCellsIn (List.mem_singleton.2 rfl) _ _ _ hK1
  have HW := hide hW1
  have HR2 := hide hR2
  have HK2 := hide hK2
  have hkc : k ≤ cap := by omega
  clear hr hR1 hK1 hW1 hW2 hR2 hK2
  rw [hdl]
  go_enter Tryz.func121, Tryz.ntmps121
  go_wp2_with fail
  go_region_law (refine step_append_room rfl (.tmp 22) (.tmp 25) 84 rfl 150 i0 2 Tryz.underlying84 hi0 z1 g 0 0 cap (by simp [Act.eval, Act.put]) A (l.length - k) (cap - k) ((l.drop k).flatMap encPB) (by simp [Act.eval, Act.put]) s1.out hsrc.out s2.out (by omega) s3.out ?_; rw [← HW.out])
  go_wp2_with fail
  go_ret
  exact ⟨rfl, HR2.out, HK2.out⟩
end Go.Proofs.YtlccfpbbdgpjbaaGreatDoor

namespace Go.Proofs.YtlccfpbbdgpjbaaGreatDoor
open Go.RowKit

theorem deleteB_any (k : Nat) (v : Value) (l : List PB) (w : World) (hl : l.length ≤ 1000000) (hk : k ≤ l.length) (hr : Row w 0 150 2 encPB v l) :
    Calls Tryz.prog 121 #[v, .int .i64 0, .int .i64 k] w fun e w' =>
      ∃ v', e = .returned v' ∧ Row w' 0 150 2 encPB v' (l.drop k) ∧ v'.ownBlock = v.ownBlock ∧ Kp v.ownBlock.toList w w' := by
  by_cases h0 : k = 0
  · subst h0
    refine (deleteB_none v l w hr).mono ?_
    rintro e w' ⟨rfl, rfl⟩
    exact ⟨v, rfl, hr, rfl, Kp.refl _ _⟩
  · obtain ⟨g, cap, rfl, _⟩ := hr.at (by omega)
    refine (deleteB_some g cap k l w hl (by omega) hk hr).mono ?_
    rintro e w' ⟨rfl, hr', hk'⟩
    exact ⟨_, rfl, hr', rfl, hk'⟩

/-- Units that are gone. -/
def oldB (now window : Int) (b : PB) : Bool := decide (window ≤ now - b.came)

theorem dropWhile_step (P : PB → Bool) (l : List PB) (k : Nat) (h : k < l.length) : (l.drop k).dropWhile P = if P l[k] then (l.drop (k + 1)).dropWhile P else l.drop k := by
  rw [List.drop_eq_getElem_cons h, List.dropWhile_cons]

set_option maxRecDepth 100000 in
set_option maxHeartbeats 4000000 in
theorem passB_any (p o : Nat) (now window : Int) (v : Value) (l : List PB) (w : World) (hl : l.length ≤ 1000000) (hk : OkB l) (hn0 : 0 ≤ now) (hn1 : now ≤ 1099511627776) (cW : w.cell? ⟨p, o + 2, none⟩ = some (.int .i64 window)) (hc : w.cell? ⟨p, o + 3, none⟩ = some v) (hz : w.frozen? ⟨p, o + 3, none⟩ = false) (hr : Row w 0 150 2 encPB v l) (hv : v.ownBlock ≠ some p) :
    Calls Tryz.prog 102 #[.pointer (some ⟨p, o, none⟩), .int .i64 now] w fun e w' =>
      e = .returned (.tuple #[]) ∧ ∃ v', w'.cell? ⟨p, o + 3, none⟩ = some v' ∧ Row w' 0 150 2 encPB v' (l.dropWhile (oldB now window)) ∧ v'.ownBlock = v.ownBlock ∧ Fr p [o + 3] v.ownBlock.toList w w' := by
  have lp : p < w.heap.size := World.block_lt_of_cell? w _ hc
  have HD := hide (fun k W (hk : k ≤ l.length) (hrW : Row W 0 150 2 encPB v l) => deleteB_any k v l W hl hk hrW)
  have HR := hide hr
  have HV := hide hv
  obtain ⟨A, cap, rfl, hlen, hA, hB⟩ := hr.form
  have HB : Hid (∀ i (h : i < l.length), ∃ g, A = some ⟨g, 0, none⟩ ∧ g < w.heap.size ∧ w.cell? ⟨g, i * 2, none⟩ = some (.int .i64 l[i].came)) := fun i h => by
    obtain ⟨g, rfl⟩ := hA i h
    exact ⟨g, rfl, (hB g rfl).2.1, (hr.cell encPB_len (g := g) (j := 0) rfl h rfl).1⟩
  clear hr hB hA hlen hv
  have hl' : (l.length : Int) ≤ 1000000 := by omega
  have HK := hide hk
  clear hk
  go_enter Tryz.func102, Tryz.ntmps102
  go_wp2_with fail
  go_loopw [4] (fun iv wr => ∃ k : Nat, k ≤ l.length ∧ iv = .int .i64 k ∧ l.dropWhile (oldB now window) = (l.drop k).dropWhile (oldB now window) ∧ Below w.heap.size w wr) (fun iv _ => l.length - (intOf iv).toNat)
  case atStart => exact ⟨0, Nat.zero_le _, rfl, rfl, Below.refl _ _⟩
  case round =>
    obtain ⟨k, hk, rfl, hd, hb⟩ := hrel
    have HE := hide hd
    clear hd
    have hsz := hb.size
    have cr := (hb.cell lp).trans hc
    have cw := (hb.cell lp).trans cW
    by_cases hlt : k < l.length
    · have hlt' : (k : Int) < (l.length : Int) := by omega
      have ht : decide (k < l.length) = true := decide_eq_true hlt
      obtain ⟨g, rfl, hg, e0⟩ := HB.out k hlt
      rw [← hb.cell (p := ⟨g, k * 2, none⟩) hg] at e0
      have hu := HK.out l[k] (List.getElem_mem _)
      have HS := hide (dropWhile_step (oldB now window) l k hlt)
      have hoe : oldB now window l[k] = decide (window ≤ now - l[k].came) := rfl
      rw [hoe] at HS
      obtain ⟨_, _, u1, u2⟩ := hu
      generalize l[k].came = c at e0 HS u1 u2
      clear HB hoe
      cases hd : decide (window ≤ now - c) with
      | true =>
        have HSS := hide (HS.out.trans (if_pos hd))
        clear HS
        go_wp2_with fail
        go_quiet (fail)
        go_wp2_with fail
        go_roundw
        case rel => exact ⟨k + 1, by omega, by go_num, HE.out.trans HSS.out, hb.trans ((below_drewN wr nq).mono hsz)⟩
        case measure => simp [intOf]; omega
      | false =>
        have HSS := hide (HS.out.trans (if_neg (by rw [hd]; simp)))
        clear HS
        go_wp2_with fail
        go_quiet (fail)
        have hbq : Below w.heap.size w (wr.drewN nq) := hb.trans ((below_drewN wr nq).mono hsz)
        have hrq := HR.out.below hbq
        have lpq : p < (wr.drewN nq).heap.size := Nat.lt_of_lt_of_le lp hbq.size
        have cq : (wr.drewN nq).cell? ⟨p, o + 3, none⟩ = some (.slice (some ⟨g, 0, none⟩) l.length cap) := (hbq.cell lp).trans hc
        have fq : (wr.drewN nq).frozen? ⟨p, o + 3, none⟩ = false := (hbq.frozen lp).trans hz
        generalize wr.drewN nq = W at hbq hrq lpq cq fq ⊢
        have HDD := hide (HD.out k W hk hrq)
        clear HD cr cw e0
        go_wp2_with fail
        refine HDD.out.mono ?_
        rintro e w2 ⟨v2, rfl, hr2, hv2, hk2⟩
        have hpn : p ∉ (Value.slice (some ⟨g, 0, none⟩) l.length cap).ownBlock.toList := by
          intro h
          exact HV.out (by simpa using h)
        have c2 := (hk2.cell lpq hpn (o + 3)).trans cq
        have f2 := (hk2.frozen lpq hpn (o + 3)).trans fq
        have hvp : v2.ownBlock ≠ some p := by rw [hv2]; exact HV.out
        have HR2 := hide (hr2.same (w' := w2.setCell ⟨p, o + 3, none⟩ v2) (fun k hk => Below.heap_setCell _ _ _ _ (fun e => hvp (by rw [hk]; exact congrArg some e))))
        have HF2 := hide ((((Fr.of_below (J := []) (R := (Value.slice (some ⟨g, 0, none⟩) l.length cap).ownBlock.toList) lp hbq).trans (hk2.fr lpq hpn) (J'' := []) (fun _ h => ⟨h, h⟩) (fun r h => .inl h)).trans (Fr.store (j := o + 3) (w := w2) v2) (J'' := [o + 3]) (fun _ h => ⟨by simp, h⟩) (fun r h => by cases h)))
        obtain ⟨A2, cap2, rfl, _, _, _⟩ := hr2.form
        rw [List.length_drop] at HR2 HF2 hv2
        clear hr2 hk2 HDD hvp
        go_wp2_with fail
        go_end0
        exact ⟨rfl, _, World.cell?_setCell_same _ _ _ c2, by rw [HE.out, HSS.out]; exact HR2.out, hv2, HF2.out⟩
    · have ht : decide (k < l.length) = false := decide_eq_false hlt
      have hdd : (l.drop k).dropWhile (oldB now window) = l.drop k := by rw [List.drop_of_length_le (by omega)]; rfl
      clear HB
      go_wp2_with fail
      go_quiet (fail)
      have hbq : Below w.heap.size w (wr.drewN nq) := hb.trans ((below_drewN wr nq).mono hsz)
      have hrq := HR.out.below hbq
      have lpq : p < (wr.drewN nq).heap.size := Nat.lt_of_lt_of_le lp hbq.size
      have cq : (wr.drewN nq).cell? ⟨p, o + 3, none⟩ = some (.slice A l.length cap) := (hbq.cell lp).trans hc
      have fq : (wr.drewN nq).frozen? ⟨p, o + 3, none⟩ = false := (hbq.frozen lp).trans hz
      generalize wr.drewN nq = W at hbq hrq lpq cq fq ⊢
      have HDD := hide (HD.out k W hk hrq)
      clear HD cr cw
      go_wp2_with fail
      refine HDD.out.mono ?_
      rintro e w2 ⟨v2, rfl, hr2, hv2, hk2⟩
      have hpn : p ∉ (Value.slice A l.length cap).ownBlock.toList := by
        intro h
        exact HV.out (by simpa using h)
      have c2 := (hk2.cell lpq hpn (o + 3)).trans cq
      have f2 := (hk2.frozen lpq hpn (o + 3)).trans fq
      have hvp : v2.ownBlock ≠ some p := by rw [hv2]; exact HV.out
      have HR2 := hide (hr2.same (w' := w2.setCell ⟨p, o + 3, none⟩ v2) (fun k hk => Below.heap_setCell _ _ _ _ (fun e => hvp (by rw [hk]; exact congrArg some e))))
      have HF2 := hide ((((Fr.of_below (J := []) (R := (Value.slice A l.length cap).ownBlock.toList) lp hbq).trans (hk2.fr lpq hpn) (J'' := []) (fun _ h => ⟨h, h⟩) (fun r h => .inl h)).trans (Fr.store (j := o + 3) (w := w2) v2) (J'' := [o + 3]) (fun _ h => ⟨by simp, h⟩) (fun r h => by cases h)))
      obtain ⟨A2, cap2, rfl, _, _, _⟩ := hr2.form
      rw [List.length_drop] at HR2 HF2 hv2
      clear hr2 hk2 HDD hvp
      go_wp2_with fail
      go_end0
      exact ⟨rfl, _, World.cell?_setCell_same _ _ _ c2, by rw [HE.out, hdd]; exact HR2.out, hv2, HF2.out⟩
end Go.Proofs.YtlccfpbbdgpjbaaGreatDoor

namespace Go.Proofs.YtlccfpbbdgpjbaaGreatDoor
open Go.RowKit

/-- What a call brings. -/
def bringN (deposit most : Int) (l : List PB) : Int := min deposit (most - sumB l)

set_option maxRecDepth 100000 in
set_option maxHeartbeats 4000000 in
theorem bringB_any (p o : Nat) (now deposit most : Int) (v : Value) (l : List PB) (w : World) (hl : l.length ≤ 999999) (hk : OkB l) (hd0 : 0 ≤ deposit) (hd1 : deposit ≤ 1000) (hm0 : 0 ≤ most) (hm1 : most ≤ 1000) (cD : w.cell? ⟨p, o, none⟩ = some (.int .i64 deposit)) (cM : w.cell? ⟨p, o + 1, none⟩ = some (.int .i64 most)) (hc : w.cell? ⟨p, o + 3, none⟩ = some v) (hz : w.frozen? ⟨p, o + 3, none⟩ = false) (hr : Row w 0 150 2 encPB v l) (hv : v.ownBlock ≠ some p) :
    Calls Tryz.prog 94 #[.pointer (some ⟨p, o, none⟩), .int .i64 now] w fun e w' =>
      e = .returned (.tuple #[]) ∧ ∃ v', w'.cell? ⟨p, o + 3, none⟩ = some v' ∧ Row w' 0 150 2 encPB v' (if 0 < bringN deposit most l then l ++ [⟨now, bringN deposit most l⟩] else l) ∧ (v'.ownBlock = v.ownBlock ∨ ∃ g, v'.ownBlock = some g ∧ w.heap.size ≤ g) ∧ Fr p [o + 3] v.ownBlock.toList w w' := by
  obtain ⟨i0, hi0, z0, z1, z2⟩ := info_parts Tryz.infoPB
  have lp : p < w.heap.size := World.block_lt_of_cell? w _ hc
  have HBL := hide (balanceB_any p o v l w.drew (by omega) hk hc hr.drew)
  obtain ⟨s1, s2⟩ := sumB_bound hk
  have s3 : sumB l ≤ 1000000000 := by omega
  have HR := hide hr
  have HE := hide (show bringN deposit most l = min deposit (most - sumB l) from rfl)
  have HQ := hide (show bringN deposit most l ≤ 1000 by unfold bringN; omega)
  generalize bringN deposit most l = n at HE HQ ⊢
  generalize sumB l = s at s1 s2 s3 HBL HE
  have HV := hide hv
  have HC := hide hc
  have HZ := hide hz
  clear hk hr hv hc hz s2
  go_enter Tryz.func94, Tryz.ntmps94
  go_wp2_with fail
  go_region_held3 (fun w' => w'.cell? ⟨p, o, none⟩ = some (.int .i64 deposit) ∧ w'.cell? ⟨p, o + 1, none⟩ = some (.int .i64 most))
    (first
      | (go_keep; done)
      | (go_split_ands
         refine ⟨?_, ?_⟩
         all_goals (first | (rw [hb.cell (by assumption)]; assumption) | (go_keep; done))))
    (first
      | (go_at_call 44; refine HBL.out.mono ?_; rintro e w' ⟨rfl, hb⟩))
  have hB : Below w.heap.size w w' := (Below.refl w.heap.size w).drew.trans hb
  have hw : IntKind.i64.wrap (most - s) = most - s := by rw [IntKind.wrap_i64]; omega
  have hn : (if IntKind.i64.wrap (most - s) < deposit then IntKind.i64.wrap (most - s) else deposit) = n := by
    rw [hw, HE.out]
    split <;> omega
  rw [hn]
  rename_i hH
  clear hH hw hn cD cM hb
  have lp' : p < w'.heap.size := Nat.lt_of_lt_of_le lp hB.size
  have c1 := (hB.cell lp).trans HC.out
  have f1 := (hB.frozen lp).trans HZ.out
  have r1 := HR.out.below hB
  by_cases h0 : 0 < n
  · have hA : ∀ B : Obj, (w'.alloc B).frozen? ⟨p, o + 3, none⟩ = false ∧ (w'.alloc B).cell? ⟨p, o + 3, none⟩ = some v := fun B => by
      rw [World.frozen?_alloc_old _ _ _ (by simp; omega), World.cell?_alloc_lt _ _ _ lp']
      exact ⟨f1, c1⟩
    have HA := hide hA
    have hll : l.length + 1 ≤ 1000000 := by omega
    clear hA
    go_wp2_with (first
      | (at_builtin; refine wpList_append_lies _ (by rfl) _ _ _ (by rfl) 0 150 i0 _ 2 16 Tryz.underlying84 hi0 z0 z1 z2 rfl (by omega) v l.length (l.flatMap encPB) (by rfl) (World.ownsRow.alloc r1 _) ⟨w'.heap.size, 0, none⟩ 1 1 (encPB ⟨now, n⟩) (by rfl) (by rfl) (World.news_of_block (cs := (encPB ⟨now, n⟩).toArray) (t := 150) (fr := (0, 0)) (heap_alloc_new w' _)) (by simp [Value.oneCell', encPB]) (by omega) (by simp only [maxLen]; omega) (by omega) (by simp <;> omega) (w'.heap.size + 1) (by simp) ?_; intro g cap w1 hown hgrow hat hlt1
         have fz : w1.frozen? ⟨p, o + 3, none⟩ = false := (by rw [hgrow.frozen_far _ (by simp; omega) (Ne.symm HV.out)]; exact (HA.out _).1)
         have cz : w1.cell? ⟨p, o + 3, none⟩ = some v := (by rw [hgrow.cell_far _ (by simp; omega) (Ne.symm HV.out)]; exact (HA.out _).2)))
    go_end0
    obtain ⟨v', hc2, hr2, hv2, hF2⟩ := push_post (x := (⟨now, n⟩ : PB)) lp' r1 ((Below.refl _ _).alloc (Nat.le_refl _) _) hown hgrow HV.out (hat.imp id (fun h => by omega)) cz
    exact ⟨rfl, v', hc2, hr2, hv2.imp id (fun ⟨g, e, h⟩ => ⟨g, e, Nat.le_trans hB.size h⟩), (Fr.of_below (J := []) lp hB).trans hF2 (J'' := [o + 3]) (fun _ h => ⟨by simp, h⟩) (fun r h => .inl h)⟩
  · go_wp2_with fail
    go_end0
    exact ⟨rfl, v, c1, r1, .inl rfl, Fr.of_below lp hB⟩
end Go.Proofs.YtlccfpbbdgpjbaaGreatDoor

namespace Go.Proofs.YtlccfpbbdgpjbaaGreatDoor
open Go.RowKit

/-- So many units go, those that came first; what is empty goes with them. -/
def takeB : List PB → Int → List PB
  | [], _ => []
  | b :: r, n => if n ≤ 0 then b :: r else if n < b.units then ⟨b.came, b.units - n⟩ :: r else takeB r (n - b.units)

theorem takeB_zero (l : List PB) : takeB l 0 = l := by cases l <;> simp [takeB]
theorem takeB_okB : ∀ (l : List PB) (n : Int), OkB l → OkB (takeB l n) := by
  intro l
  induction l with
  | nil => intro n h; exact h
  | cons b r ih =>
    intro n h
    have hb := h b (by simp)
    have hr : OkB r := fun x hx => h x (by simp [hx])
    unfold takeB
    split
    · exact h
    · split
      · intro x hx
        rcases List.mem_cons.1 hx with rfl | hx
        · exact ⟨by show 0 < b.units - n; omega, by show b.units - n ≤ 1000; omega, hb.2.2⟩
        · exact hr x hx
      · exact ih _ hr

/-- How far Take has come: k entries are empty, c units are still to go. -/
structure TakingB (l ys : List PB) (n c : Int) (k : Nat) : Prop where
  done : takeB l n = takeB (ys.drop k) c
  ok : OkB (ys.drop k)
  c0 : 0 ≤ c
  cs : c ≤ sumB (ys.drop k)
  len : ys.length = l.length
  kl : k ≤ ys.length

theorem TakingB.lt {l ys : List PB} {n c : Int} {k : Nat} (h : TakingB l ys n c k) (hc : 0 < c) : k < ys.length := by
  rcases Nat.lt_or_ge k ys.length with hk | hk
  · exact hk
  · have := h.cs
    rw [List.drop_of_length_le hk] at this
    simp only [sumB] at this
    omega
/-- An entry that is not emptied. -/
theorem TakingB.part {l ys : List PB} {n c : Int} {k : Nat} (h : TakingB l ys n c k) (hc : 0 < c) (hk : k < ys.length) (hu : c < ys[k].units) : TakingB l (ys.set k ⟨ys[k].came, ys[k].units - c⟩) n 0 k := by
  have hd := List.drop_eq_getElem_cons hk
  have e2 : (ys.set k ⟨ys[k].came, ys[k].units - c⟩).drop k = ⟨ys[k].came, ys[k].units - c⟩ :: ys.drop (k + 1) := by
    rw [List.drop_eq_getElem_cons (by simpa using hk), List.getElem_set_self, List.drop_set_of_lt (by omega)]
  have hb := h.ok ys[k] (by rw [hd]; exact List.mem_cons_self)
  have hok : OkB (⟨ys[k].came, ys[k].units - c⟩ :: ys.drop (k + 1)) := by
    intro x hx
    rcases List.mem_cons.1 hx with rfl | hx
    · exact ⟨by show 0 < ys[k].units - c; omega, by show ys[k].units - c ≤ 1000; omega, hb.2.2⟩
    · exact h.ok x (by rw [hd]; exact List.mem_cons_of_mem _ hx)
  refine ⟨?_, by rw [e2]; exact hok, Int.le_refl _, by rw [e2]; exact (sumB_bound hok).1, by simpa using h.len, by simpa using h.kl⟩
  rw [h.done, hd, e2, takeB_zero]
  conv => lhs; unfold takeB
  rw [if_neg (by omega), if_pos hu]
/-- An entry that is emptied. -/
theorem TakingB.whole {l ys : List PB} {n c : Int} {k : Nat} (h : TakingB l ys n c k) (hc : 0 < c) (hk : k < ys.length) (hu : ¬ c < ys[k].units) (x : PB) : TakingB l (ys.set k x) n (c - ys[k].units) (k + 1) := by
  have hd := List.drop_eq_getElem_cons hk
  have e2 : (ys.set k x).drop (k + 1) = ys.drop (k + 1) := List.drop_set_of_lt (by omega)
  refine ⟨?_, ?_, by omega, ?_, by simpa using h.len, by simp; omega⟩
  · rw [h.done, hd, e2]
    conv => lhs; unfold takeB
    rw [if_neg (by omega), if_neg hu]
  · rw [e2]
    intro y hy
    exact h.ok y (by rw [hd]; exact List.mem_cons_of_mem _ hy)
  · rw [e2]
    have := h.cs
    rw [hd] at this
    simp only [sumB] at this
    omega

set_option maxRecDepth 100000 in
set_option maxHeartbeats 4000000 in
theorem takeBudget_any (p o : Nat) (cost : Int) (v : Value) (l : List PB) (w : World) (hl : l.length ≤ 1000000) (hk : OkB l) (hc0 : 0 ≤ cost) (hc : w.cell? ⟨p, o + 3, none⟩ = some v) (hz : w.frozen? ⟨p, o + 3, none⟩ = false) (hr : Row w 0 150 2 encPB v l) (hv : v.ownBlock ≠ some p) :
    Calls Tryz.prog 103 #[.pointer (some ⟨p, o, none⟩), .int .i64 cost] w fun e w' =>
      e = .returned (.bool (decide (cost ≤ sumB l))) ∧ ∃ v', w'.cell? ⟨p, o + 3, none⟩ = some v' ∧ Row w' 0 150 2 encPB v' (if cost ≤ sumB l then takeB l cost else l) ∧ v'.ownBlock = v.ownBlock ∧ Fr p [o + 3] v.ownBlock.toList w w' := by
  have lp : p < w.heap.size := World.block_lt_of_cell? w _ hc
  have HBL := hide (balanceB_any p o v l w hl hk hc hr)
  obtain ⟨s1, s2⟩ := sumB_bound hk
  have s3 : sumB l ≤ 1000000000 := by omega
  have HR := hide hr
  have HC := hide hc
  have HZ := hide hz
  have HV := hide hv
  have HK := hide hk
  clear hr hc hz hv hk s2
  by_cases hlt : sumB l < cost
  · rw [decide_eq_false (by omega), if_neg (by omega)]
    generalize sumB l = s at hlt HBL s1 s3
    go_enter Tryz.func103, Tryz.ntmps103
    go_wp2_with fail
    refine HBL.out.mono ?_
    rintro e w1 ⟨rfl, hb⟩
    go_wp2_with fail
    go_ret
    exact ⟨rfl, v, (hb.cell lp).trans HC.out, HR.out.below hb, rfl, Fr.of_below lp hb⟩
  · rw [decide_eq_true (by omega), if_pos (by omega)]
    have T0 := hide (show TakingB l l cost cost 0 from ⟨rfl, HK.out, hc0, by simpa using hlt, rfl, Nat.zero_le _⟩)
    have hcm : cost ≤ 1000000000 := by omega
    generalize sumB l = s at hlt HBL s1 s3
    go_enter Tryz.func103, Tryz.ntmps103
    go_wp2_with fail
    refine HBL.out.mono ?_
    rintro e w1 ⟨rfl, hb⟩
    clear HBL
    go_wp2_with fail
    go_loopw [1, 5] (fun cv ev wr => ∃ (c : Int) (k : Nat) (ys : List PB), cv = .int .i64 c ∧ ev = .int .i64 k ∧ c ≤ 1000000000 ∧ TakingB l ys cost c k ∧ wr.cell? ⟨p, o + 3, none⟩ = some v ∧ Row wr 0 150 2 encPB v ys ∧ Fr p [] v.ownBlock.toList w wr) (fun cv _ _ => (intOf cv).toNat)
    case atStart => exact ⟨cost, 0, l, rfl, rfl, hcm, T0.out, (hb.cell lp).trans HC.out, HR.out.below hb, Fr.of_below lp hb⟩
    case round =>
      obtain ⟨c, k, ys, rfl, rfl, hc9, T, cr, hrr, hF⟩ := hrel
      have lpr : p < wr.heap.size := Nat.lt_of_lt_of_le lp hF.size
      clear T0 hb
      by_cases h0 : 0 < c
      · have hkk := T.lt h0
        have hyl : ys.length ≤ 1000000 := by rw [T.len]; exact hl
        have hkk' : (k : Int) < (ys.length : Int) := by omega
        obtain ⟨g, cap, rfl, hown⟩ := hrr.at (by omega)
        have hgp : g ≠ p := fun e => HV.out (by rw [hown, e])
        obtain ⟨e1, f1⟩ := hrr.cell encPB_len (g := g) (j := 1) rfl hkk rfl
        have hu := T.ok ys[k] (by rw [List.drop_eq_getElem_cons hkk]; exact List.mem_cons_self)
        obtain ⟨u0, u1, _, _⟩ := hu
        have TP := hide (T.part h0 hkk)
        have TW := hide (fun h => T.whole h0 hkk h ⟨ys[k].came, 0⟩)
        have HRR := hide hrr
        generalize hz9 : ys[k].units = u at e1 TP TW u0 u1
        clear hz9 hrr T HC HR HK hlt HZ hown
        rcases Int.lt_trichotomy u c with h1 | h1 | h1
        · have TW' := hide (TW.out (by omega))
          clear TP TW
          go_wp2_with fail
          go_roundw
          case rel =>
            refine ⟨c - u, k + 1, ys.set k ⟨ys[k].came, 0⟩, by go_num, by go_num, by omega, TW'.out, ?_, HRR.out.set encPB_len (g := g) (j := 1) rfl hkk (by omega) _ _ rfl, hF.setIn (a := ⟨g, k * 2 + 1, none⟩) (by simp [Value.ownBlock]) hgp _⟩
            exact (World.cell?_of_block (Below.heap_setCell _ _ _ _ (Ne.symm hgp))).trans cr
          case measure => simp [intOf]; omega
        · subst h1
          have TW' := hide (TW.out (by omega))
          rw [Int.sub_self] at TW'
          clear TP TW
          go_wp2_with fail
          go_roundw
          case rel =>
            refine ⟨0, k + 1, ys.set k ⟨ys[k].came, 0⟩, by go_num, by go_num, by omega, TW'.out, ?_, HRR.out.set encPB_len (g := g) (j := 1) rfl hkk (by omega) _ _ rfl, hF.setIn (a := ⟨g, k * 2 + 1, none⟩) (by simp [Value.ownBlock]) hgp _⟩
            exact (World.cell?_of_block (Below.heap_setCell _ _ _ _ (Ne.symm hgp))).trans cr
          case measure => simp [intOf]; omega
        · have TP' := hide (TP.out h1)
          have h2 : ¬ u < c := by omega
          have h3 : (u - c == 0) = false := by rw [beq_eq_false_iff_ne]; omega
          clear TP TW
          go_wp2_with fail
          go_roundw
          case rel =>
            refine ⟨0, k, ys.set k ⟨ys[k].came, u - c⟩, by go_num, rfl, by omega, TP'.out, ?_, HRR.out.set encPB_len (g := g) (j := 1) rfl hkk (by omega) _ _ rfl, hF.setIn (a := ⟨g, k * 2 + 1, none⟩) (by simp [Value.ownBlock]) hgp _⟩
            exact (World.cell?_of_block (Below.heap_setCell _ _ _ _ (Ne.symm hgp))).trans cr
          case measure => simp [intOf]; omega
      · have hc00 : c = 0 := by have := T.c0; omega
        subst hc00
        have HFIN := hide (show takeB l cost = ys.drop k by rw [T.done, takeB_zero])
        have HDD := hide (deleteB_any k v ys wr (by rw [T.len]; exact hl) T.kl hrr)
        have fr : wr.frozen? ⟨p, o + 3, none⟩ = false := (hF.frozen (o + 3)).trans HZ.out
        clear HC HR HK T HZ
        go_wp2_with fail
        refine HDD.out.mono ?_
        rintro e w2 ⟨v2, rfl, hr2, hv2, hk2⟩
        have hpn : p ∉ v.ownBlock.toList := by
          intro h
          exact HV.out (by simpa using h)
        have c2 := (hk2.cell lpr hpn (o + 3)).trans cr
        have f2 := (hk2.frozen lpr hpn (o + 3)).trans fr
        have hvp : v2.ownBlock ≠ some p := by rw [hv2]; exact HV.out
        have HR2 := hide (hr2.same (w' := w2.setCell ⟨p, o + 3, none⟩ v2) (fun k hk => Below.heap_setCell _ _ _ _ (fun e => hvp (by rw [hk]; exact congrArg some e))))
        have HF2 := hide ((hF.trans (hk2.fr lpr hpn) (J'' := []) (fun _ h => ⟨h, h⟩) (fun r h => .inl h)).trans (Fr.store (j := o + 3) (w := w2) v2) (J'' := [o + 3]) (fun _ h => ⟨by simp, h⟩) (fun r h => by cases h))
        obtain ⟨A2, cap2, rfl, _, _, _⟩ := hr2.form
        rw [List.length_drop] at HR2 HF2 hv2
        clear hr2 hk2 HDD hvp
        go_wp2_with fail
        go_ret
        exact ⟨rfl, _, World.cell?_setCell_same _ _ _ c2, by rw [HFIN.out]; exact HR2.out, hv2, HF2.out⟩
end Go.Proofs.YtlccfpbbdgpjbaaGreatDoor
