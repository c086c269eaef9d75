/-
  The two lists of a World, as memory: what an append to one of them leaves.
-/
import Derived.Test.YtlccfpbbdgpjbaaGreatDoorRef
import Derived.Deep.AppendLies
namespace Go.Proofs.YtlccfpbbdgpjbaaGreatDoor
open Go.RowKit

/-- The World at block G holds two lists of the call's own, apart from one another. -/
structure Two (G : Nat) (w : World) (vx vy : Value) (n m : Nat) : Prop where
  cx : w.cell? ⟨G, 0, none⟩ = some vx
  cy : w.cell? ⟨G, 1, none⟩ = some vy
  fx : w.frozen? ⟨G, 0, none⟩ = false
  fy : w.frozen? ⟨G, 1, none⟩ = false
  ox : ∃ xs, w.ownsRow (G + 1) 47 1 vx n xs
  oy : ∃ ys, w.ownsRow (G + 1) 75 1 vy m ys
  ap : ∀ k, vx.ownBlock = some k → vy.ownBlock ≠ some k

theorem grown_of_below {w w' : World} (hb : Below w.heap.size w w') : w.grownBy w' none :=
  ⟨hb.os, hb.tape, hb.output, hb.size, fun k hk _ => hb.block k hk⟩
theorem grown_setCell (w : World) (a : Addr) (u : Value) : w.grownBy (w.setCell a u) (some a.block) :=
  ⟨rfl, rfl, rfl, by simp, fun k _ hk => Below.heap_setCell w a u k (fun e => hk (by rw [e]))⟩
theorem none_or (v : Value) : v.ownBlock = none ∨ v.ownBlock ≠ none := by cases v.ownBlock <;> simp

theorem Two.lt {G : Nat} {w : World} {vx vy : Value} {n m : Nat} (h : Two G w vx vy n m) : G < w.heap.size := World.block_lt_of_cell? w _ h.cx

/-- Nothing old has turned: so the two lists are as they were. -/
theorem Two.on {G : Nat} {w w' : World} {vx vy : Value} {n m : Nat} (h : Two G w vx vy n m) (hb : Below w.heap.size w w') : Two G w' vx vy n m :=
  ⟨cell_on hb h.cx, cell_on hb h.cy, (hb.frozen (p := ⟨G, 0, none⟩) h.lt).trans h.fx, (hb.frozen (p := ⟨G, 1, none⟩) h.lt).trans h.fy,
    h.ox.imp fun _ o => o.kept (grown_of_below hb) (none_or _), h.oy.imp fun _ o => o.kept (grown_of_below hb) (none_or _), h.ap⟩

/-- The first list has grown by one, and is stored. -/
theorem Two.left {G : Nat} {w : World} {vx vy : Value} {n m : Nat} (h : Two G w vx vy n m) {o : Obj} {w1 : World} {g cap : Nat} {zs : List Value}
    (hown : w1.ownsRow (G + 1) 47 1 (.slice (some ⟨g, 0, none⟩) (n + 1) cap) (n + 1) zs) (hgrow : (w.alloc o).grownBy w1 vx.ownBlock) (hat : vx.ownBlock = some g ∨ g = w.heap.size + 1) :
    w1.cell? ⟨G, 0, none⟩ = some vx ∧ w1.frozen? ⟨G, 0, none⟩ = false ∧ Two G (w1.setCell ⟨G, 0, none⟩ (.slice (some ⟨g, 0, none⟩) (n + 1) cap)) (.slice (some ⟨g, 0, none⟩) (n + 1) cap) vy (n + 1) m := by
  obtain ⟨xs, hx⟩ := h.ox
  obtain ⟨ys, hy⟩ := h.oy
  have hl := h.lt
  have ha : Below w.heap.size w (w.alloc o) := (Below.refl _ _).alloc (Nat.le_refl _) _
  have hA := h.on ha
  have hla : G < (w.alloc o).heap.size := hA.lt
  have gx : some G ≠ vx.ownBlock := fun e => by have := (hx.lt G e.symm).1; omega
  have c0 : w1.cell? ⟨G, 0, none⟩ = some vx := (hgrow.cell_far ⟨G, 0, none⟩ hla gx).trans hA.cx
  have c1 : w1.cell? ⟨G, 1, none⟩ = some vy := (hgrow.cell_far ⟨G, 1, none⟩ hla gx).trans hA.cy
  have f0 : w1.frozen? ⟨G, 0, none⟩ = false := (hgrow.frozen_far ⟨G, 0, none⟩ hla gx).trans hA.fx
  have f1 : w1.frozen? ⟨G, 1, none⟩ = false := (hgrow.frozen_far ⟨G, 1, none⟩ hla gx).trans hA.fy
  have hap : vy.ownBlock = none ∨ vy.ownBlock ≠ vx.ownBlock := by
    cases hv : vy.ownBlock with
    | none => exact .inl rfl
    | some k => exact .inr fun e => h.ap k e.symm hv
  have hy1 : w1.ownsRow (G + 1) 75 1 vy m ys := (hy.kept (grown_of_below ha) (none_or _)).kept hgrow hap
  have hgG : G + 1 ≤ g := (hown.lt g rfl).1
  have hyg : vy.ownBlock ≠ some g := by
    intro e
    rcases hat with e1 | e1
    · exact h.ap g e1 e
    · have := (hy.lt g e).2
      omega
  refine ⟨c0, f0, World.cell?_setCell_same _ _ _ c0, ?_, by simpa using f0, by simpa using f1, ⟨zs, hown.kept (grown_setCell _ _ _) (.inr ?_)⟩, ⟨ys, hy1.kept (grown_setCell _ _ _) ?_⟩, ?_⟩
  · rw [World.cell?_setCell_other _ _ _ _ (by simp)]
    exact c1
  · simp [Value.ownBlock]
    omega
  · cases hv : vy.ownBlock with
    | none => exact .inl rfl
    | some k =>
      refine .inr fun e => ?_
      have := (hy.lt k hv).1
      have e' : k = G := by simpa using e
      omega
  · intro k hk e
    have : g = k := by simpa [Value.ownBlock] using hk
    exact hyg (this ▸ e)

/-- The second list has grown by one, and is stored. -/
theorem Two.right {G : Nat} {w : World} {vx vy : Value} {n m : Nat} (h : Two G w vx vy n m) {o : Obj} {w1 : World} {g cap : Nat} {zs : List Value}
    (hown : w1.ownsRow (G + 1) 75 1 (.slice (some ⟨g, 0, none⟩) (m + 1) cap) (m + 1) zs) (hgrow : (w.alloc o).grownBy w1 vy.ownBlock) (hat : vy.ownBlock = some g ∨ g = w.heap.size + 1) :
    w1.cell? ⟨G, 1, none⟩ = some vy ∧ w1.frozen? ⟨G, 1, none⟩ = false ∧ Two G (w1.setCell ⟨G, 1, none⟩ (.slice (some ⟨g, 0, none⟩) (m + 1) cap)) vx (.slice (some ⟨g, 0, none⟩) (m + 1) cap) n (m + 1) := by
  obtain ⟨xs, hx⟩ := h.ox
  obtain ⟨ys, hy⟩ := h.oy
  have hl := h.lt
  have ha : Below w.heap.size w (w.alloc o) := (Below.refl _ _).alloc (Nat.le_refl _) _
  have hA := h.on ha
  have hla : G < (w.alloc o).heap.size := hA.lt
  have gy : some G ≠ vy.ownBlock := fun e => by have := (hy.lt G e.symm).1; omega
  have c0 : w1.cell? ⟨G, 0, none⟩ = some vx := (hgrow.cell_far ⟨G, 0, none⟩ hla gy).trans hA.cx
  have c1 : w1.cell? ⟨G, 1, none⟩ = some vy := (hgrow.cell_far ⟨G, 1, none⟩ hla gy).trans hA.cy
  have f0 : w1.frozen? ⟨G, 0, none⟩ = false := (hgrow.frozen_far ⟨G, 0, none⟩ hla gy).trans hA.fx
  have f1 : w1.frozen? ⟨G, 1, none⟩ = false := (hgrow.frozen_far ⟨G, 1, none⟩ hla gy).trans hA.fy
  have hap : vx.ownBlock = none ∨ vx.ownBlock ≠ vy.ownBlock := by
    cases hv : vx.ownBlock with
    | none => exact .inl rfl
    | some k => exact .inr fun e => h.ap k hv e.symm
  have hx1 : w1.ownsRow (G + 1) 47 1 vx n xs := (hx.kept (grown_of_below ha) (none_or _)).kept hgrow hap
  have hgG : G + 1 ≤ g := (hown.lt g rfl).1
  have hxg : vx.ownBlock ≠ some g := by
    intro e
    rcases hat with e1 | e1
    · exact h.ap g e e1
    · have := (hx.lt g e).2
      omega
  refine ⟨c1, f1, ?_, World.cell?_setCell_same _ _ _ c1, by simpa using f0, by simpa using f1, ⟨xs, hx1.kept (grown_setCell _ _ _) ?_⟩, ⟨zs, hown.kept (grown_setCell _ _ _) (.inr ?_)⟩, ?_⟩
  · rw [World.cell?_setCell_other _ _ _ _ (by simp)]
    exact c0
  · cases hv : vx.ownBlock with
    | none => exact .inl rfl
    | some k =>
      refine .inr fun e => ?_
      have := (hx.lt k hv).1
      have e' : k = G := by simpa using e
      omega
  · simp [Value.ownBlock]
    omega
  · intro k hk e
    have : g = k := by simpa [Value.ownBlock] using e
    exact hxg (this ▸ hk)
end Go.Proofs.YtlccfpbbdgpjbaaGreatDoor
