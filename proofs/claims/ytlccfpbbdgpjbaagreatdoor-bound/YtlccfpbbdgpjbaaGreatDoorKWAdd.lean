import Derived.Test.YtlccfpbbdgpjbaaGreatDoorKWMv
namespace Go.Proofs.YtlccfpbbdgpjbaaGreatDoor
open Go.RowKit

theorem addW_ok {Bd : PSt → List Int → List Int → Prop} {N : Int} {s : PSt} {W : WSt} (hI : Inv N s) (H : Kept Bd s W) (ok : WOk W) (e : PEv) (hw : whyM s e = 0) : WOk (addW W e) := by
  obtain ⟨_, _, t0, t1, t2⟩ := (may_iff hI H e).1 hw
  have h0 := hI.n0
  have h1 := H.nw
  refine ⟨(rel_admit hI H e hw).un, fun n j l hB => ?_, ok.ll⟩
  obtain ⟨b1, b2, b3⟩ := hB
  have b1' : (W.calls ++ [⟨e.call, W.now + e.timeout, 0, e.safe, true, false⟩])[j]? = some l := b1
  by_cases hj : j < W.calls.length
  · rw [List.getElem?_append_left hj] at b1'
    exact ok.hb n j l ⟨b1', b2, b3⟩
  · rw [List.getElem?_append_right (by omega)] at b1'
    cases hjj : j - W.calls.length with
    | zero =>
      rw [hjj] at b1'
      have e1 : (⟨e.call, W.now + e.timeout, 0, e.safe, true, false⟩ : WCall) = l := by simpa using b1'
      rw [← e1]
      dsimp only
      omega
    | succ m =>
      rw [hjj] at b1'
      simp at b1'

theorem see_adm {att now : Int} {W W' : WSt} {a : RAct} (h : See att now W a W') : W'.adm = W.adm := by cases h <;> rfl
theorem run_adm {att : Int} {adv : Bool} {til : Int} {W W' : WSt} {l : List RAct} (h : Run att adv til W l W') : W'.adm = W.adm := by
  induction h with
  | nil => rfl
  | now W a l W1 W2 _ hs hr ih => exact ih.trans (see_adm hs)
  | adv W a l t W1 W2 _ hw h0 h1 hs hr ih => exact ih.trans (@see_adm _ _ { W with now := t } _ _ hs)
theorem mark_adm {W W1 : WSt} {e : PEv} (h : Mark W e W1) : W1.adm = W.adm := by cases h <;> rfl

section
variable {w0 w w' : World} {s : PSt} {W : WSt} {V : PV} {U0 U : WV} {q bx : Nat}
theorem WMv.far5 {U1 : WV} (m : WMv U w U1 w') (lb : bx < w.heap.size) (h5 : 5 ≤ U.tag bx) : 5 ≤ U1.tag bx := by
  rcases Nat.lt_or_ge (U1.tag bx) 5 with h1 | h1
  · rcases m.news bx h1 with h2 | h2 <;> omega
  · exact h1
theorem add_c (h : WAll w s W V U) (hM : XMv V U0 w0 V U w) (hq : U.q = q) (h5 : 5 ≤ U.tag bx) (lb : bx < w.heap.size) {v : Value} {l : List WCall} (hf : Fr q [12] U.vc.ownBlock.toList w w') (hc : w'.cell? ⟨q, 12, none⟩ = some v) (hr : Row w' 0 71 6 encWC v l) (hv : v.ownBlock = U.vc.ownBlock ∨ ∃ g, v.ownBlock = some g ∧ w.heap.size ≤ g) :
    ∃ U1, WAll w' s { W with calls := l } V U1 ∧ XMv V U0 w0 V U1 w' ∧ U1.q = q ∧ U1.x = U.x ∧ 5 ≤ U1.tag bx ∧ w'.heap[bx]? = w.heap[bx]? ∧ bx < w'.heap.size := by
  obtain ⟨U1, hW, m, -⟩ := h.wr.set_c (by rw [hq]; exact hf) (by rw [hq]; exact hc) hr hv
  exact ⟨U1, h.seen hW m, hM.trans (XMv.ofW V m), m.q.trans hq, m.x, m.far5 lb h5, m.block bx lb h5, Nat.lt_of_lt_of_le lb m.size⟩
theorem add_m (h : WAll w s W V U) (hM : XMv V U0 w0 V U w) (hq : U.q = q) (h5 : 5 ≤ U.tag bx) (lb : bx < w.heap.size) {v : Value} {l : List Int} (hf : Fr q [14] U.vm.ownBlock.toList w w') (hc : w'.cell? ⟨q, 14, none⟩ = some v) (hr : Row w' 0 3 1 encI v l) (hv : v.ownBlock = U.vm.ownBlock ∨ ∃ g, v.ownBlock = some g ∧ w.heap.size ≤ g) :
    ∃ U1, WAll w' s { W with adm := l } V U1 ∧ XMv V U0 w0 V U1 w' ∧ U1.q = q ∧ U1.x = U.x ∧ 5 ≤ U1.tag bx ∧ w'.heap[bx]? = w.heap[bx]? ∧ bx < w'.heap.size := by
  obtain ⟨U1, hW, m, -⟩ := h.wr.set_m (by rw [hq]; exact hf) (by rw [hq]; exact hc) hr hv
  exact ⟨U1, h.seen hW m, hM.trans (XMv.ofW V m), m.q.trans hq, m.x, m.far5 lb h5, m.block bx lb h5, Nat.lt_of_lt_of_le lb m.size⟩
end
theorem Tryz.infoWC : (Tryz.prog.info? 71).map (fun i => (i.zero, i.size, i.bytes)) = some (some (.agg #[.int .i64 0, .int .i64 0, .int .i64 0, .bool false, .bool false, .bool false]), 6, 32) := by kernel_rfl
end Go.Proofs.YtlccfpbbdgpjbaaGreatDoor
