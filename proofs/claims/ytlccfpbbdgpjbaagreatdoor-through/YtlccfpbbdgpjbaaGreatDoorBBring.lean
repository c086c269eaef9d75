/-
  Bring.
-/
import Derived.Test.YtlccfpbbdgpjbaaGreatDoorBPass
namespace Go.Proofs.YtlccfpbbdgpjbaaGreatDoor
open Go.RowKit

/-- What a call brings. -/
def bringN (deposit most : Int) (l : List PB) : Int := min deposit (most - sumB l)

set_option maxRecDepth 100000 in
set_option maxHeartbeats 4000000 in
theorem bringB_any (p o : Nat) (now deposit most : Int) (v : Value) (l : List PB) (w : World) (hl : l.length ≤ 999999) (hk : OkB l) (hd0 : 0 ≤ deposit) (hd1 : deposit ≤ 1000) (hm0 : 0 ≤ most) (hm1 : most ≤ 1000) (cD : w.cell? ⟨p, o, none⟩ = some (.int .i64 deposit)) (cM : w.cell? ⟨p, o + 1, none⟩ = some (.int .i64 most)) (hc : w.cell? ⟨p, o + 3, none⟩ = some v) (hz : w.frozen? ⟨p, o + 3, none⟩ = false) (hr : Row w 0 150 2 encPB v l) (hv : v.ownBlock ≠ some p) :
    Calls Tryz.prog 94 #[.pointer (some ⟨p, o, none⟩), .int .i64 now] w fun e w' =>
      e = .returned (.tuple #[]) ∧ ∃ v', w'.cell? ⟨p, o + 3, none⟩ = some v' ∧ Row w' 0 150 2 encPB v' (if 0 < bringN deposit most l then l ++ [⟨now, bringN deposit most l⟩] else l) ∧ (v'.ownBlock = v.ownBlock ∨ ∃ g, v'.ownBlock = some g ∧ w.heap.size ≤ g) ∧ Fr p [o + 3] v.ownBlock.toList w w' := by
  obtain ⟨i0, hi0, z0, z1, z2⟩ := info_parts Tryz.infoPB
  have lp : p < w.heap.size := World.block_lt_of_cell? w _ hc
  have HBL := hide (balanceB_any p o v l w.drew (by omega) hk hc hr.drew)
  obtain ⟨s1, s2⟩ := sumB_bound hk
  have s3 : sumB l ≤ 1000000000 := by omega
  have HR := hide hr
  have HE := hide (show bringN deposit most l = min deposit (most - sumB l) from rfl)
  have HQ := hide (show bringN deposit most l ≤ 1000 by unfold bringN; omega)
  generalize bringN deposit most l = n at HE HQ ⊢
  generalize sumB l = s at s1 s2 s3 HBL HE
  have HV := hide hv
  have HC := hide hc
  have HZ := hide hz
  clear hk hr hv hc hz s2
  go_enter Tryz.func94, Tryz.ntmps94
  go_wp2_with fail
  go_region_held3 (fun w' => w'.cell? ⟨p, o, none⟩ = some (.int .i64 deposit) ∧ w'.cell? ⟨p, o + 1, none⟩ = some (.int .i64 most))
    (first
      | (go_keep; done)
      | (go_split_ands
         refine ⟨?_, ?_⟩
         all_goals (first | (rw [hb.cell (by assumption)]; assumption) | (go_keep; done))))
    (first
      | (go_at_call 44; refine HBL.out.mono ?_; rintro e w' ⟨rfl, hb⟩))
  have hB : Below w.heap.size w w' := (Below.refl w.heap.size w).drew.trans hb
  have hw : IntKind.i64.wrap (most - s) = most - s := by rw [IntKind.wrap_i64]; omega
  have hn : (if IntKind.i64.wrap (most - s) < deposit then IntKind.i64.wrap (most - s) else deposit) = n := by
    rw [hw, HE.out]
    split <;> omega
  rw [hn]
  rename_i hH
  clear hH hw hn cD cM hb
  have lp' : p < w'.heap.size := Nat.lt_of_lt_of_le lp hB.size
  have c1 := (hB.cell lp).trans HC.out
  have f1 := (hB.frozen lp).trans HZ.out
  have r1 := HR.out.below hB
  by_cases h0 : 0 < n
  · have hA : ∀ B : Obj, (w'.alloc B).frozen? ⟨p, o + 3, none⟩ = false ∧ (w'.alloc B).cell? ⟨p, o + 3, none⟩ = some v := fun B => by
      rw [World.frozen?_alloc_old _ _ _ (by simp; omega), World.cell?_alloc_lt _ _ _ lp']
      exact ⟨f1, c1⟩
    have HA := hide hA
    have hll : l.length + 1 ≤ 1000000 := by omega
    clear hA
    go_wp2_with (first
      | (at_builtin; refine wpList_append_lies _ (by rfl) _ _ _ (by rfl) 0 150 i0 _ 2 16 Tryz.underlying84 hi0 z0 z1 z2 rfl (by omega) v l.length (l.flatMap encPB) (by rfl) (World.ownsRow.alloc r1 _) ⟨w'.heap.size, 0, none⟩ 1 1 (encPB ⟨now, n⟩) (by rfl) (by rfl) (World.news_of_block (cs := (encPB ⟨now, n⟩).toArray) (t := 150) (fr := (0, 0)) (heap_alloc_new w' _)) (by simp [Value.oneCell', encPB]) (by omega) (by simp only [maxLen]; omega) (by omega) (by simp <;> omega) (w'.heap.size + 1) (by simp) ?_; intro g cap w1 hown hgrow hat hlt1
         have fz : w1.frozen? ⟨p, o + 3, none⟩ = false := (by rw [hgrow.frozen_far _ (by simp; omega) (Ne.symm HV.out)]; exact (HA.out _).1)
         have cz : w1.cell? ⟨p, o + 3, none⟩ = some v := (by rw [hgrow.cell_far _ (by simp; omega) (Ne.symm HV.out)]; exact (HA.out _).2)))
    go_end0
    obtain ⟨v', hc2, hr2, hv2, hF2⟩ := push_post (x := (⟨now, n⟩ : PB)) lp' r1 ((Below.refl _ _).alloc (Nat.le_refl _) _) hown hgrow HV.out (hat.imp id (fun h => by omega)) cz
    exact ⟨rfl, v', hc2, hr2, hv2.imp id (fun ⟨g, e, h⟩ => ⟨g, e, Nat.le_trans hB.size h⟩), (Fr.of_below (J := []) lp hB).trans hF2 (J'' := [o + 3]) (fun _ h => ⟨by simp, h⟩) (fun r h => .inl h)⟩
  · go_wp2_with fail
    go_end0
    exact ⟨rfl, v, c1, r1, .inl rfl, Fr.of_below lp hB⟩
end Go.Proofs.YtlccfpbbdgpjbaaGreatDoor
