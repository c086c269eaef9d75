/-
  Push, First, Pop.
-/
import Derived.Test.YtlccfpbbdgpjbaaGreatDoorHMove
import Derived.Deep.RegionLaw
namespace Go.Proofs.YtlccfpbbdgpjbaaGreatDoor
open Go.RowKit

theorem Tryz.infoPT : (Tryz.prog.info? 114).map (fun i => (i.zero, i.size, i.bytes)) = some (some (.agg #[.int .i64 0, .int .i64 0, .int .i64 0, .int .i64 0]), 4, 32) := by kernel_rfl

/-- A row of its own has this form, if it is not empty. -/
theorem Row.at {α : Type} {w : World} {b e size : Nat} {enc : α → List Value} {v : Value} {xs : List α} (h : Row w b e size enc v xs) (h0 : 0 < xs.length) : ∃ g cap, v = .slice (some ⟨g, 0, none⟩) xs.length cap ∧ v.ownBlock = some g := by
  obtain ⟨A, cap, rfl, _, h1, _⟩ := h.form
  obtain ⟨g, rfl⟩ := h1 0 h0
  exact ⟨g, cap, rfl, rfl⟩

set_option maxRecDepth 100000 in
set_option maxHeartbeats 4000000 in
theorem push_any (p o : Nat) (a : PTimer) (v : Value) (xs : List PTimer) (w : World) (hl : xs.length ≤ 999999) (hH : IsHeap xs) (hc : w.cell? ⟨p, o, none⟩ = some v) (hz : w.frozen? ⟨p, o, none⟩ = false) (hr : Row w 0 114 4 encPT v xs) (hv : v.ownBlock ≠ some p) :
    Calls Tryz.prog 114 #[.pointer (some ⟨p, o, none⟩), .agg #[.int .i64 a.kind, .int .i64 a.call, .int .i64 a.due, .int .i64 a.set]] w fun e w' =>
      e = .returned (.tuple #[]) ∧ ∃ v' ys, ys.Perm (xs ++ [a]) ∧ IsHeap ys ∧ w'.cell? ⟨p, o, none⟩ = some v' ∧ Row w' 0 114 4 encPT v' ys ∧ (v'.ownBlock = v.ownBlock ∨ ∃ g, v'.ownBlock = some g ∧ w.heap.size ≤ g) ∧ Fr p [o] v.ownBlock.toList w w' := by
  obtain ⟨i0, hi0, z0, z1, z2⟩ := info_parts Tryz.infoPT
  have lp : p < w.heap.size := World.block_lt_of_cell? w _ hc
  have hne := World.new_ne w _ hc
  have hvn : some w.heap.size ≠ v.ownBlock := fun e => by have := (hr.lt _ e.symm).2; omega
  have hnb : ∀ B : Obj, ((w.alloc B).alloc (.cells (encPT a).toArray 114)).heap[w.heap.size + 1]? = some (.cells (encPT a).toArray 114) := fun B => by
    have := heap_alloc_new (w.alloc B) (.cells (encPT a).toArray 114)
    simpa using this
  have HN := hide hnb
  clear hnb
  have hzA : ∀ B B' : Obj, ((w.alloc B).alloc B').frozen? ⟨p, o, none⟩ = false := fun B B' => by
    rw [World.frozen?_alloc_old _ _ _ (by simp; omega), World.frozen?_alloc_old _ _ _ (by simp; omega)]
    exact hz
  have hcA : ∀ B B' : Obj, ((w.alloc B).alloc B').cell? ⟨p, o, none⟩ = some v := fun B B' => by
    rw [World.cell?_alloc_lt _ _ _ (by simp; omega), World.cell?_alloc_lt _ _ _ (by simp; omega)]
    exact hc
  have HZ := hide hzA
  have HC := hide hcA
  clear hzA hcA
  go_enter Tryz.func114, Tryz.ntmps114
  go_wp2_with fail
  go_region_law
    ((refine step_append_lies _ (by rfl) _ _ _ (by rfl) 0 114 i0 _ 4 32 Tryz.underlying90 hi0 z0 z1 z2 rfl (by omega) v xs.length (xs.flatMap encPT) (by rfl) (((World.ownsRow.alloc hr _).alloc _).drew)
        ⟨w.heap.size + 1, 0, none⟩ 1 1 (encPT a) (by rfl) (by rfl) (World.news_of_block (cs := (encPT a).toArray) (t := 114) (fr := (0, 0)) (HN.out _)) (by simp [Value.oneCell', encPT])
        (by omega) (by simp only [maxLen]; omega) (by omega) (by omega) (w.heap.size + 1 + 1) (by simp) ?_; intro g cap w1 hown hgrow hat hlt; have fz : w1.frozen? ⟨p, o, none⟩ = false := (by rw [hgrow.frozen_far _ (by simp; omega) (Ne.symm hv)]; exact HZ.out _ _); have cz : w1.cell? ⟨p, o, none⟩ = some v := (by rw [hgrow.cell_far _ (by simp; omega) (Ne.symm hv)]; exact HC.out _ _)))
  all_goals
    have hat' : v.ownBlock = some g ∨ w.heap.size ≤ g := hat.imp id (fun h => by omega)
    obtain ⟨v', hc2, hr2, hv2, hF2⟩ := push_post (x := a) lp hr (((Below.refl _ _).alloc (Nat.le_refl _) _).alloc (by simp) _).drew hown hgrow hv hat' cz
    have hc2' : (w1.setCell ⟨p, o, none⟩ (.slice (some ⟨g, 0, none⟩) (xs.length + 1) cap)).cell? ⟨p, o, none⟩ = some (.slice (some ⟨g, 0, none⟩) (xs.length + 1) cap) := World.cell?_setCell_same _ _ _ cz
    obtain rfl : v' = .slice (some ⟨g, 0, none⟩) (xs.length + 1) cap := Option.some.inj (hc2.symm.trans hc2')
    have hgp : g ≠ p := fun e => hat'.elim (fun h => hv (e ▸ h)) (fun h => by omega)
    generalize w1.setCell ⟨p, o, none⟩ (.slice (some ⟨g, 0, none⟩) (xs.length + 1) cap) = W2 at hc2 hr2 hF2 ⊢
    have HR := rise_any p o g cap (xs ++ [a]) xs.length W2 (by simp; omega) (Rising.start hH a) hgp (by simpa using hc2) (by simpa using hr2)
    have HRH := hide HR
    have HX := hide hat'
    clear HR hat hat' hown hgrow cz fz hr hH hr2 hlt HN HZ HC hc hz hc2'
    go_wp2_with (first | (go_at_call 134; refine HRH.out.mono ?_; rintro e w3 ⟨rfl, ys, hP, hI, hc3, hr3, hF3⟩))
    go_end0
    refine ⟨rfl, _, ys, hP, hI, hc3, hr3, ?_, ?_⟩
    · exact HX.out.imp (fun h => h.symm) (fun h => ⟨g, rfl, h⟩)
    · exact hF2.trans hF3 (fun _ h => ⟨h, by simp⟩) (fun r hr => by
        have : r = g := by simpa using hr
        subst this
        exact HX.out.imp (fun h => by simp [h]) id)
end Go.Proofs.YtlccfpbbdgpjbaaGreatDoor
