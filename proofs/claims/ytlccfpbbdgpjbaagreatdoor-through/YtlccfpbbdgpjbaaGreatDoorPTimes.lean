/-
  The times that were measured: Add.
-/
import Derived.Test.YtlccfpbbdgpjbaaGreatDoorPOpen2
import Derived.Deep.RegionLaw
namespace Go.Proofs.YtlccfpbbdgpjbaaGreatDoor
open Go.RowKit Go.Sort

theorem Row.holds {base g n cap : Nat} {l : List Int} {w : World} (hr : Row w base 3 1 encI (.slice (some ⟨g, 0, none⟩) n cap) l) : Holds (Value.int .i64) w g 0 l.toArray := fun j hj => by
  have hj' : j < l.length := by simpa using hj
  have := hr.cell encI_len (g := g) (j := 0) rfl hj' (u := .int .i64 l[j]) rfl
  rw [Nat.mul_one, Nat.add_zero] at this
  have e : l.toArray[j]! = l[j] := by simp [hj']
  rw [Nat.zero_add, e]
  exact this

/-- The first one goes. -/
theorem deleteI_one (g cap : Nat) (l : List Int) (w : World) (h0 : 0 < l.length) (hr : Row w 0 3 1 encI (.slice (some ⟨g, 0, none⟩) l.length cap) l) :
    Calls Tryz.prog 97 #[.slice (some ⟨g, 0, none⟩) l.length cap, .int .i64 0, .int .i64 1] w fun e w' =>
      e = .returned (.slice (some ⟨g, 0, none⟩) (l.length - 1) cap) ∧ Row w' 0 3 1 encI (.slice (some ⟨g, 0, none⟩) (l.length - 1) cap) (l.drop 1) ∧ Kp [g] w w' := by
  refine (Tryz.slices_Delete_int g 0 cap 0 1 l w hr.holds hr.cap_le.1 hr.cap_le.2 (by omega) (by omega)).mono ?_
  rintro e w' ⟨rfl, q, rfl⟩
  have hlen : (l.take 0 ++ l.drop 1 ++ List.replicate (1 - 0) (0 : Int)).length = l.length := by simp; omega
  rw [Lib.putRow_eq_setCells (Value.int .i64) w g 0 l.toArray _ q hr.holds (by rw [hlen]; simp)]
  rw [← flat_encI]
  have hR := (hr.kept (grown_drewN w q) (by simp [Value.ownBlock])).relay encI_len 0 (l.take 0 ++ l.drop 1 ++ List.replicate (1 - 0) (0 : Int)) (l.drop 1) (by rw [hlen]; omega) (by rw [List.length_drop]; omega) (by
    rw [List.take_zero, List.nil_append, List.nil_append, List.append_assoc, List.take_append_of_le_length (Nat.le_refl _), List.take_of_length_le (Nat.le_refl _)])
  rw [Nat.zero_mul, List.length_drop] at hR
  exact ⟨rfl, hR, Kp.setCellsIn (List.mem_singleton.2 rfl) _ _ _ ⟨rfl, rfl, rfl, Nat.le_refl _, fun _ _ _ => rfl⟩⟩

/-- The last thirty-two times. -/
def addT (l : List Int) (t : Int) : List Int := (if l.length = 32 then l.drop 1 else l) ++ [t]

set_option maxRecDepth 100000 in
set_option maxHeartbeats 4000000 in
theorem addT_any (p o : Nat) (t : Int) (v : Value) (l : List Int) (w : World) (hl : l.length ≤ 32) (hc : w.cell? ⟨p, o, none⟩ = some v) (hz : w.frozen? ⟨p, o, none⟩ = false) (hr : Row w 0 3 1 encI v l) (hv : v.ownBlock ≠ some p) :
    Calls Tryz.prog 66 #[.pointer (some ⟨p, o, none⟩), .int .i64 t] w fun e w' =>
      e = .returned (.tuple #[]) ∧ ∃ v', w'.cell? ⟨p, o, none⟩ = some v' ∧ Row w' 0 3 1 encI v' (addT l t) ∧ (v'.ownBlock = v.ownBlock ∨ ∃ g, v'.ownBlock = some g ∧ w.heap.size ≤ g) ∧ Fr p [o] v.ownBlock.toList w w' := by
  obtain ⟨i0, hi0, z0, z1, z2⟩ := info_parts Tryz.infoInt
  have lp : p < w.heap.size := World.block_lt_of_cell? w _ hc
  by_cases h32 : l.length = 32
  · obtain ⟨g, cap, rfl, hown0⟩ := hr.at (by omega)
    have hgp : g ≠ p := fun e => hv (by rw [hown0, e])
    have HD := hide (deleteI_one g cap l w (by omega) hr)
    have h33 : ((l.length : Int) == 32) = true := by rw [beq_iff_eq]; omega
    have e0 : addT l t = l.drop 1 ++ [t] := by unfold addT; rw [if_pos h32]
    rw [e0]
    have HV := hide (show ∀ k, (Value.slice (some ⟨g, 0, none⟩) k cap).ownBlock ≠ some p from fun k e => hgp (by simpa [Value.ownBlock] using e))
    have H32 := hide h32
    have h1l : 1 ≤ l.length := by omega
    clear hr hv hown0 h32
    go_enter Tryz.func66, Tryz.ntmps66
    go_wp2_with fail
    refine HD.out.mono ?_
    rintro e w1 ⟨rfl, hr1, hk1⟩
    have hpg : p ∉ [g] := by simpa using Ne.symm hgp
    have c1 := (hk1.cell lp hpg o).trans hc
    have f1 := (hk1.frozen lp hpg o).trans hz
    have hF1 := ((hk1.fr lp hpg).trans (Fr.store (j := o) (w := w1) (.slice (some ⟨g, 0, none⟩) (l.length - 1) cap)) (J'' := [o]) (fun _ h => ⟨by simp, h⟩) (fun r h => by cases h))
    have hcW := World.cell?_setCell_same w1 ⟨p, o, none⟩ (.slice (some ⟨g, 0, none⟩) (l.length - 1) cap) c1
    have hzW : (w1.setCell ⟨p, o, none⟩ (.slice (some ⟨g, 0, none⟩) (l.length - 1) cap)).frozen? ⟨p, o, none⟩ = false := by simpa using f1
    have hrW := hr1.same (w' := w1.setCell ⟨p, o, none⟩ (.slice (some ⟨g, 0, none⟩) (l.length - 1) cap)) (fun k hk => Below.heap_setCell _ _ _ _ (by simp [Value.ownBlock] at hk; show k ≠ p; omega))
    have hF := hide hF1
    have HC := hide hcW
    have HZ := hide hzW
    have HR := hide hrW
    clear HD hF1 hr1 hk1 hc hz hcW hzW hrW
    go_upto_region 2 with fail
    obtain ⟨m, hm⟩ : ∃ m, l.drop 1 = m := ⟨_, rfl⟩
    have hml : l.length - 1 = m.length := by rw [← hm, List.length_drop]
    have hm32 : m.length ≤ 32 := by omega
    rw [hm] at HR e0
    generalize l.length - 1 = n at hml hF HC HZ HR ⊢
    subst hml
    have hcW := HC.out
    have hzW := HZ.out
    have hrW := HR.out
    have hFW := hF.out
    have lpW : p < (w1.setCell ⟨p, o, none⟩ (.slice (some ⟨g, 0, none⟩) m.length cap)).heap.size := Nat.lt_of_lt_of_le lp hFW.size
    generalize w1.setCell ⟨p, o, none⟩ (.slice (some ⟨g, 0, none⟩) m.length cap) = W at hcW hzW hrW hFW lpW ⊢
    have hV := HV.out m.length
    clear HC HZ HR hF HV h33 H32 hl h1l
    have hA : ∀ B : Obj, (W.alloc B).frozen? ⟨p, o, none⟩ = false ∧ (W.alloc B).cell? ⟨p, o, none⟩ = some (.slice (some ⟨g, 0, none⟩) m.length cap) := fun B => by
      rw [World.frozen?_alloc_old _ _ _ (by simp; omega), World.cell?_alloc_lt _ _ _ lpW]
      exact ⟨hzW, hcW⟩
    have HA := hide hA
    clear hA
    go_wp2_with (first
      | (at_builtin; refine wpList_append_lies _ (by rfl) _ _ _ (by rfl) 0 3 i0 _ 1 8 Tryz.underlying45 hi0 z0 z1 z2 rfl (by omega) (.slice (some ⟨g, 0, none⟩) m.length cap) m.length ((m).flatMap encI) (by rfl) (World.ownsRow.alloc hrW _) ⟨W.heap.size, 0, none⟩ 1 1 (encI t) (by rfl) (by rfl) (World.news_of_block (cs := (encI t).toArray) (t := 3) (fr := (0, 0)) (heap_alloc_new W _)) (by simp [Value.oneCell', encI]) (by omega) (by simp only [maxLen]; omega) (by omega) (by simp <;> omega) (W.heap.size + 1) (by simp) ?_; intro g1 cap1 w3 hown hgrow hat hlt1
         have fz : w3.frozen? ⟨p, o, none⟩ = false := (by rw [hgrow.frozen_far _ (by simp; omega) (Ne.symm hV)]; exact (HA.out _).1)
         have cz : w3.cell? ⟨p, o, none⟩ = some (.slice (some ⟨g, 0, none⟩) m.length cap) := (by rw [hgrow.cell_far _ (by simp; omega) (Ne.symm hV)]; exact (HA.out _).2)))
    go_end0
    obtain ⟨v', hc2, hr2, hv2, hF2⟩ := push_post (x := t) lpW hrW ((Below.refl _ _).alloc (Nat.le_refl _) _) hown hgrow hV (hat.imp id (fun h => by omega)) cz
    exact ⟨rfl, v', hc2, by rw [hm]; exact hr2, hv2.imp id (fun ⟨g, e, h⟩ => ⟨g, e, Nat.le_trans hFW.size h⟩), hFW.trans hF2 (J'' := [o]) (fun _ h => ⟨h, h⟩) (fun r h => .inl h)⟩
  · have e0 : addT l t = l ++ [t] := by unfold addT; rw [if_neg h32]
    have h33 : ((l.length : Int) == 32) = false := by rw [beq_eq_false_iff_ne]; omega
    rw [e0]
    have hcW := hc
    have hzW := hz
    have hrW := hr
    obtain ⟨A, cap, rfl, _, _, _⟩ := hr.form
    clear hr hc hz
    go_enter Tryz.func66, Tryz.ntmps66
    have hA : ∀ B : Obj, (w.alloc B).frozen? ⟨p, o, none⟩ = false ∧ (w.alloc B).cell? ⟨p, o, none⟩ = some (.slice A l.length cap) := fun B => by
      rw [World.frozen?_alloc_old _ _ _ (by simp; omega), World.cell?_alloc_lt _ _ _ lp]
      exact ⟨hzW, hcW⟩
    have HA := hide hA
    clear hA
    go_wp2_with (first
      | (at_builtin; refine wpList_append_lies _ (by rfl) _ _ _ (by rfl) 0 3 i0 _ 1 8 Tryz.underlying45 hi0 z0 z1 z2 rfl (by omega) (.slice A l.length cap) l.length ((l).flatMap encI) (by rfl) (World.ownsRow.alloc hrW _) ⟨w.heap.size, 0, none⟩ 1 1 (encI t) (by rfl) (by rfl) (World.news_of_block (cs := (encI t).toArray) (t := 3) (fr := (0, 0)) (heap_alloc_new w _)) (by simp [Value.oneCell', encI]) (by omega) (by simp only [maxLen]; omega) (by omega) (by simp <;> omega) (w.heap.size + 1) (by simp) ?_; intro g1 cap1 w3 hown hgrow hat hlt1
         have fz : w3.frozen? ⟨p, o, none⟩ = false := (by rw [hgrow.frozen_far _ (by simp; omega) (Ne.symm hv)]; exact (HA.out _).1)
         have cz : w3.cell? ⟨p, o, none⟩ = some (.slice A l.length cap) := (by rw [hgrow.cell_far _ (by simp; omega) (Ne.symm hv)]; exact (HA.out _).2)))
    go_end0
    obtain ⟨v', hc2, hr2, hv2, hF2⟩ := push_post (x := t) lp hrW ((Below.refl _ _).alloc (Nat.le_refl _) _) hown hgrow hv (hat.imp id (fun h => by omega)) cz
    exact ⟨rfl, v', hc2, hr2, hv2, hF2⟩
end Go.Proofs.YtlccfpbbdgpjbaaGreatDoor
