/-
  A call more.
-/
import Derived.Test.YtlccfpbbdgpjbaaGreatDoorPRing
namespace Go.Proofs.YtlccfpbbdgpjbaaGreatDoor
open Go.RowKit Go.Maps

/-- How a launch goes on. -/
def HedgeAll (p : Nat) (cfg : Cfg) : Prop := ∀ (N : Int) (s : PSt) (c : PCall), N ≤ 60001 → s.cfg = cfg → Inv N s → HedgeOk p s c

section
variable {w w0 w' : World} {p : Nat} {s : PSt} {V : PV}

/-- A call more. -/
theorem PRep.put_call (h : PRep w p s V) {c : PCall} {q0 : Nat} (hq : CallAt w q0 c) (hl : q0 < w.heap.size) (ht : 7 ≤ V.tag q0) (hn : ∀ d ∈ s.calls, d.number ≠ c.number) (hm : MapI Tryz.prog 3 okPtr w' V.bc (callL s.calls V.q ++ [(c.number, .pointer (some ⟨q0, 0, none⟩))])) (hk : Kp [V.bc] w w') (m0 : PMv V w0 V w) (h0 : w0.heap.size ≤ q0) :
    ∃ V', PRep w' p { s with calls := s.calls ++ [c] } V' ∧ PMv V w0 V' w' ∧ V'.q c.number = q0 := by
  have hb : ∀ {k : Nat}, V.tag k < 7 → V.tag k ≠ 1 → w'.heap[k]? = w.heap[k]? := fun {k} h1 h2 => hk.block k (h.tl k h1) (fun e => h2 (by
    have e' : k = V.bc := by simpa using e
    rw [e']
    exact h.tc))
  have hne : ∀ {k : Nat}, V.tag k < 7 → k ≠ q0 := fun {k} h1 e => by rw [e] at h1; omega
  have htag : ∀ {k : Nat}, V.tag k < 7 → (if k = q0 then 6 else V.tag k) = V.tag k := fun {k} h1 => if_neg (hne h1)
  have hqn : ∀ d ∈ s.calls, (if d.number = c.number then q0 else V.q d.number) = V.q d.number := fun d hd => if_neg (hn d hd)
  have hqb : w'.heap[q0]? = w.heap[q0]? := hk.block q0 hl (fun e => by
    have e' : q0 = V.bc := by simpa using e
    rw [e', h.tc] at ht
    omega)
  have hcl : callL (s.calls ++ [c]) (fun n => if n = c.number then q0 else V.q n) = callL s.calls V.q ++ [(c.number, .pointer (some ⟨q0, 0, none⟩))] := by
    unfold callL
    rw [List.map_append]
    congr 1
    · apply List.map_congr_left
      intro d hd
      dsimp only
      rw [hqn d hd]
    · simp
  refine ⟨{ V with q := fun n => if n = c.number then q0 else V.q n, tag := fun k => if k = q0 then 6 else V.tag k }, ⟨fun j v hv => (World.cell?_of_block (hb (by rw [h.tp]; omega) (by rw [h.tp]; omega))).trans (h.kk j v hv), fun j hj => (World.frozen?_of_block (hb (by rw [h.tp]; omega) (by rw [h.tp]; omega))).trans (h.fz j hj), by rw [← hcl] at hm; exact hm, h.mA.same (hb (by rw [h.ta]; omega) (by rw [h.ta]; omega)), ?_,
    h.ru.same fun k hk => hb (by rw [h.tu k hk]; omega) (by rw [h.tu k hk]; omega), h.rt.same fun k hk => hb (by rw [h.tt k hk]; omega) (by rw [h.tt k hk]; omega), h.rm.same fun k hk => hb (by rw [h.tm k hk]; omega) (by rw [h.tm k hk]; omega), h.xp, h.xh, (htag (by rw [h.tp]; omega)).trans h.tp, (htag (by rw [h.tc]; omega)).trans h.tc, (htag (by rw [h.ta]; omega)).trans h.ta,
    fun k hk => (htag (by rw [h.tu k hk]; omega)).trans (h.tu k hk), fun k hk => (htag (by rw [h.tt k hk]; omega)).trans (h.tt k hk), fun k hk => (htag (by rw [h.tm k hk]; omega)).trans (h.tm k hk), ?_, ?_, ?_, h.tg⟩, ⟨hk.os.trans m0.os, hk.tape.trans m0.tape, hk.output.trans m0.output, Nat.le_trans m0.size hk.size, fun k hk' h7 => (hk.block k (Nat.lt_of_lt_of_le hk' m0.size) (fun e => by
      have e' : k = V.bc := by simpa using e
      rw [e', h.tc] at h7
      omega)).trans (m0.block k hk' h7), ?_⟩, if_pos rfl⟩
  · intro d hd
    rcases List.mem_append.1 hd with hd | hd
    · show CallAt w' (if d.number = c.number then q0 else V.q d.number) d
      rw [hqn d hd]
      exact (h.cc d hd).same (hb (by rw [h.tq d hd]; omega) (by rw [h.tq d hd]; omega))
    · have : d = c := by simpa using hd
      subst this
      show CallAt w' (if d.number = d.number then q0 else V.q d.number) d
      rw [if_pos rfl]
      exact hq.same hqb
  · intro d hd
    rcases List.mem_append.1 hd with hd | hd
    · show (if (if d.number = c.number then q0 else V.q d.number) = q0 then 6 else V.tag (if d.number = c.number then q0 else V.q d.number)) = 6
      rw [hqn d hd]
      exact (htag (by rw [h.tq d hd]; omega)).trans (h.tq d hd)
    · have : d = c := by simpa using hd
      subst this
      show (if (if d.number = d.number then q0 else V.q d.number) = q0 then 6 else _) = 6
      rw [if_pos rfl, if_pos rfl]
  · intro d hd e he
    show (if d.number = c.number then q0 else V.q d.number) = (if e.number = c.number then q0 else V.q e.number) → _
    rcases List.mem_append.1 hd with hd1 | hd1 <;> rcases List.mem_append.1 he with he1 | he1
    · rw [hqn d hd1, hqn e he1]
      exact h.qi d hd1 e he1
    · have e2 : e = c := by simpa using he1
      rw [hqn d hd1, e2, if_pos rfl]
      exact fun x => absurd x (hne (by rw [h.tq d hd1]; omega))
    · have e2 : d = c := by simpa using hd1
      rw [hqn e he1, e2, if_pos rfl]
      exact fun x => absurd x.symm (hne (by rw [h.tq e he1]; omega))
    · have e1 : d = c := by simpa using hd1
      have e2 : e = c := by simpa using he1
      rw [e1, e2]
      exact fun _ => rfl
  · intro k hk'
    dsimp only at hk'
    split at hk'
    · rename_i e
      rw [e]
      exact Nat.lt_of_lt_of_le hl hk.size
    · exact Nat.lt_of_lt_of_le (h.tl k hk') hk.size
  · intro k hk'
    dsimp only at hk'
    split at hk'
    · rename_i e
      rw [e]
      exact .inr h0
    · exact m0.news k hk'

end
end Go.Proofs.YtlccfpbbdgpjbaaGreatDoor
