import Derived.Test.YtlccfpbbdgpjbaaGreatDoorKWSee
import Derived.Test.YtlccfpbbdgpjbaaGreatDoorKWEvent
import Derived.Test.YtlccfpbbdgpjbaaGreatDoorZDelay
namespace Go.Proofs.YtlccfpbbdgpjbaaGreatDoor
open Go.RowKit

theorem adv_cfg (til : Int) : ∀ (f : Nat) (s : PSt), (advF til f s).1.cfg = s.cfg := by
  intro f
  induction f with
  | zero => intro s; rfl
  | succ f ih =>
    intro s
    unfold advF
    split
    · rfl
    · split
      · rfl
      · rename_i t _ _
        show (advF til f (ringM (dueM s t) t)).1.cfg = _
        rw [ih, ringM_cfg]
        rfl
theorem stepM_cfg (s : PSt) (e : PEv) : (stepM s e).cfg = s.cfg := by
  unfold stepM
  split
  · unfold submitM
    split
    · exact (setHedgeM_same _ _).1
    · rfl
  · split
    · unfold answerM
      split
      · rfl
      · split
        · rfl
        · unfold answerM1
          split
          · rfl
          · split
            · rfl
            · split
              · rfl
              · unfold waitM
                split <;> rfl
    · split
      · unfold cancelM
        split <;> rfl
      · split
        · unfold advM
          split
          · rfl
          · exact adv_cfg _ _ _
        · rfl

structure XMv (V : PV) (U : WV) (w : World) (V' : PV) (U' : WV) (w' : World) : Prop where
  os : w'.os = w.os
  tape : w'.tape = w.tape
  output : w'.output = w.output
  size : w.heap.size ≤ w'.heap.size
  block : ∀ k, k < w.heap.size → 7 ≤ V.tag k → 5 ≤ U.tag k → w'.heap[k]? = w.heap[k]?
  newV : ∀ k, V'.tag k < 7 → V.tag k < 7 ∨ w.heap.size ≤ k
  newU : ∀ k, U'.tag k < 5 → U.tag k < 5 ∨ w.heap.size ≤ k
  q : U'.q = U.q
  x : U'.x = U.x

theorem XMv.refl (V : PV) (U : WV) (w : World) : XMv V U w V U w := ⟨rfl, rfl, rfl, Nat.le_refl _, fun _ _ _ _ => rfl, fun _ h => .inl h, fun _ h => .inl h, rfl, rfl⟩
theorem XMv.ofP {V V' : PV} {w w' : World} (U : WV) (h : PMv V w V' w') : XMv V U w V' U w' :=
  ⟨h.os, h.tape, h.output, h.size, fun k hk h7 _ => h.block k hk h7, h.news, fun _ h => .inl h, rfl, rfl⟩
theorem XMv.ofW {U U' : WV} {w w' : World} (V : PV) (h : WMv U w U' w') : XMv V U w V U' w' :=
  ⟨h.os, h.tape, h.output, h.size, fun k hk _ h5 => h.block k hk h5, fun _ h => .inl h, h.news, h.q, h.x⟩
theorem XMv.trans {V V1 V2 : PV} {U U1 U2 : WV} {w w1 w2 : World} (h : XMv V U w V1 U1 w1) (k : XMv V1 U1 w1 V2 U2 w2) : XMv V U w V2 U2 w2 :=
  ⟨k.os.trans h.os, k.tape.trans h.tape, k.output.trans h.output, Nat.le_trans h.size k.size,
    fun b hb h7 h5 => (k.block b (Nat.lt_of_lt_of_le hb h.size) (by
      rcases Nat.lt_or_ge (V1.tag b) 7 with h1 | h1
      · rcases h.newV b h1 with h2 | h2 <;> omega
      · exact h1) (by
      rcases Nat.lt_or_ge (U1.tag b) 5 with h1 | h1
      · rcases h.newU b h1 with h2 | h2 <;> omega
      · exact h1)).trans (h.block b hb h7 h5),
    fun b hb => (k.newV b hb).elim (fun h' => h.newV b h') (fun h' => .inr (Nat.le_trans h.size h')),
    fun b hb => (k.newU b hb).elim (fun h' => h.newU b h') (fun h' => .inr (Nat.le_trans h.size h')), k.q.trans h.q, k.x.trans h.x⟩
theorem XMv.of_below {V : PV} {U : WV} {w w' : World} (h : Below w.heap.size w w') : XMv V U w V U w' :=
  ⟨h.os, h.tape, h.output, h.size, fun k hk _ _ => h.block k hk, fun _ h => .inl h, fun _ h => .inl h, rfl, rfl⟩
/-- What lay below B has stayed. -/
theorem XMv.belowB {V V' : PV} {U U' : WV} {w w' : World} (m : XMv V U w V' U' w') {B : Nat} (hB : B ≤ w.heap.size) (hV : ∀ k, V.tag k < 7 → B ≤ k) (hU : ∀ k, U.tag k < 5 → B ≤ k) : Below B w w' ∧ (∀ k, V'.tag k < 7 → B ≤ k) ∧ ∀ k, U'.tag k < 5 → B ≤ k := by
  refine ⟨⟨m.os, m.tape, m.output, m.size, fun k hk => m.block k (Nat.lt_of_lt_of_le hk hB) ?_ ?_⟩, fun k hk => ?_, fun k hk => ?_⟩
  · rcases Nat.lt_or_ge (V.tag k) 7 with h1 | h1
    · have := hV k h1
      omega
    · exact h1
  · rcases Nat.lt_or_ge (U.tag k) 5 with h1 | h1
    · have := hU k h1
      omega
    · exact h1
  · rcases m.newV k hk with h1 | h1
    · exact hV k h1
    · omega
  · rcases m.newU k hk with h1 | h1
    · exact hU k h1
    · omega
/-- A block that is neither's stays neither's. -/
theorem XMv.far {V V' : PV} {U U' : WV} {w w' : World} (m : XMv V U w V' U' w') {b : Nat} (hb : b < w.heap.size) (h7 : 7 ≤ V.tag b) (h5 : 5 ≤ U.tag b) : 7 ≤ V'.tag b ∧ 5 ≤ U'.tag b ∧ w'.heap[b]? = w.heap[b]? := by
  refine ⟨?_, ?_, m.block b hb h7 h5⟩
  · rcases Nat.lt_or_ge (V'.tag b) 7 with h1 | h1
    · rcases m.newV b h1 with h2 | h2 <;> omega
    · exact h1
  · rcases Nat.lt_or_ge (U'.tag b) 5 with h1 | h1
    · rcases m.newU b h1 with h2 | h2 <;> omega
    · exact h1

/-- A new block is neither's. -/
theorem WAll.fresh {w : World} {s : PSt} {W : WSt} {V : PV} {U : WV} (h : WAll w s W V U) {b : Nat} (hb : w.heap.size ≤ b) : 7 ≤ V.tag b ∧ 5 ≤ U.tag b := by
  constructor
  · rcases Nat.lt_or_ge (V.tag b) 7 with h1 | h1
    · have := h.pr.tl b h1
      omega
    · exact h1
  · rcases Nat.lt_or_ge (U.tag b) 5 with h1 | h1
    · have := h.wr.tl b h1
      omega
    · exact h1
end Go.Proofs.YtlccfpbbdgpjbaaGreatDoor
