import Derived.Test.YtlccfpbbdgpjbaaGreatDoorKWatchE
namespace Go.Proofs.YtlccfpbbdgpjbaaGreatDoor
open Go.RowKit Go.Maps

def encWC (c : WCall) : List Value := [.int .i64 c.number, .int .i64 c.deadline, .int .i64 c.had, .bool c.safe, .bool c.opn, .bool c.answered]
theorem encWC_len (c : WCall) : (encWC c).length = 6 := rfl
def encWA (a : WAtt) : List Value := [.int .i64 (a.call : Int), .int .i64 a.at_, .bool a.opn]
theorem encWA_len (a : WAtt) : (encWA a).length = 3 := rfl

/-- Where its parts lie. -/
structure WV where
  q : Nat
  x : Nat
  vc : Value
  va : Value
  vm : Value
  vl : Value
  tag : Nat → Nat

def cellsW (k : Cfg) (W : WSt) (U : WV) : List Value :=
  [.pointer (some ⟨U.x, 0, none⟩), .int .i64 k.deposit, .int .i64 k.cost, .int .i64 k.cap, .int .i64 k.window, .int .i64 k.attempts, .int .i64 k.flight, .int .i64 k.base, .int .i64 k.most, .int .i64 k.rank, .int .i64 k.samples,
   .int .i64 W.now, U.vc, U.va, U.vm, U.vl, .bool false]

structure WRep (w : World) (k : Cfg) (W : WSt) (U : WV) : Prop where
  kk : ∀ j v, (cellsW k W U)[j]? = some v → w.cell? ⟨U.q, j, none⟩ = some v
  fz : ∀ j, j < 17 → w.frozen? ⟨U.q, j, none⟩ = false
  rc : Row w 0 71 6 encWC U.vc W.calls
  ra : Row w 0 100 3 encWA U.va W.atts
  rm : Row w 0 3 1 encI U.vm W.adm
  rl : Row w 0 3 1 encI U.vl W.lau
  tq : U.tag U.q = 0
  tc : ∀ k, U.vc.ownBlock = some k → U.tag k = 1
  ta : ∀ k, U.va.ownBlock = some k → U.tag k = 2
  tm : ∀ k, U.vm.ownBlock = some k → U.tag k = 3
  tn : ∀ k, U.vl.ownBlock = some k → U.tag k = 4
  tl : ∀ k, U.tag k < 5 → k < w.heap.size

/-- From U in w to U' in w': all else is as it was. -/
structure WMv (U : WV) (w : World) (U' : WV) (w' : World) : Prop where
  os : w'.os = w.os
  tape : w'.tape = w.tape
  output : w'.output = w.output
  size : w.heap.size ≤ w'.heap.size
  block : ∀ k, k < w.heap.size → 5 ≤ U.tag k → w'.heap[k]? = w.heap[k]?
  news : ∀ k, U'.tag k < 5 → U.tag k < 5 ∨ w.heap.size ≤ k
  q : U'.q = U.q
  x : U'.x = U.x

theorem WMv.refl (U : WV) (w : World) : WMv U w U w := ⟨rfl, rfl, rfl, Nat.le_refl _, fun _ _ _ => rfl, fun _ h => .inl h, rfl, rfl⟩
theorem WMv.trans {U U1 U2 : WV} {w w1 w2 : World} (h : WMv U w U1 w1) (k : WMv U1 w1 U2 w2) : WMv U w U2 w2 :=
  ⟨k.os.trans h.os, k.tape.trans h.tape, k.output.trans h.output, Nat.le_trans h.size k.size,
    fun b hb hn => (k.block b (Nat.lt_of_lt_of_le hb h.size) (by
      rcases Nat.lt_or_ge (U1.tag b) 5 with h1 | h1
      · rcases h.news b h1 with h2 | h2 <;> omega
      · exact h1)).trans (h.block b hb hn),
    fun b hb => (k.news b hb).elim (fun h' => h.news b h') (fun h' => .inr (Nat.le_trans h.size h')), k.q.trans h.q, k.x.trans h.x⟩
theorem WMv.of_below {U : WV} {w w' : World} (h : Below w.heap.size w w') : WMv U w U w' :=
  ⟨h.os, h.tape, h.output, h.size, fun k hk _ => h.block k hk, fun _ h => .inl h, rfl, rfl⟩

theorem tagW_old {f : Nat → Nat} {o : Option Nat} {a N k : Nat} (ho : ∀ k, o = some k → f k = a ∨ N ≤ k) (hl : ∀ k, f k < 5 → k < N) (hk : f k < 5) : tagN f o a k = f k := by
  unfold tagN
  split
  · rename_i e
    rcases ho k e with h | h
    · exact h.symm
    · have := hl k hk
      omega
  · rfl

section
variable {w w' : World} {k : Cfg} {W : WSt} {U : WV}

theorem WRep.lq (h : WRep w k W U) : U.q < w.heap.size := h.tl U.q (by rw [h.tq]; omega)

/-- Nothing that is its own has changed. -/
theorem WRep.keep (h : WRep w k W U) (hs : w.heap.size ≤ w'.heap.size) (hb : ∀ j, U.tag j < 5 → w'.heap[j]? = w.heap[j]?) : WRep w' k W U where
  kk j v hv := (World.cell?_of_block (hb U.q (by rw [h.tq]; omega))).trans (h.kk j v hv)
  fz j hj := (World.frozen?_of_block (hb U.q (by rw [h.tq]; omega))).trans (h.fz j hj)
  rc := h.rc.same fun j hj => hb j (by rw [h.tc j hj]; omega)
  ra := h.ra.same fun j hj => hb j (by rw [h.ta j hj]; omega)
  rm := h.rm.same fun j hj => hb j (by rw [h.tm j hj]; omega)
  rl := h.rl.same fun j hj => hb j (by rw [h.tn j hj]; omega)
  tq := h.tq
  tc := h.tc
  ta := h.ta
  tm := h.tm
  tn := h.tn
  tl j hj := Nat.lt_of_lt_of_le (h.tl j hj) hs
theorem WRep.on (h : WRep w k W U) (hb : Below w.heap.size w w') : WRep w' k W U := h.keep hb.size (fun j hj => hb.block j (h.tl j hj))

theorem WRep.far (h : WRep w k W U) {J R : List Nat} (hf : Fr U.q J R w w') {a : Nat} (hR : ∀ r ∈ R, U.tag r = a) {j : Nat} (h1 : U.tag j < 5) (h2 : U.tag j ≠ 0) (h3 : U.tag j ≠ a) : w'.heap[j]? = w.heap[j]? :=
  hf.block j (h.tl j h1) (fun e => h2 (by rw [e]; exact h.tq)) (fun hr => h3 (hR j hr))

/-- calls has changed. -/
theorem WRep.set_c (h : WRep w k W U) {v : Value} {l : List WCall} (hf : Fr U.q [12] U.vc.ownBlock.toList w w') (hc : w'.cell? ⟨U.q, 12, none⟩ = some v) (hr : Row w' 0 71 6 encWC v l) (hv : v.ownBlock = U.vc.ownBlock ∨ ∃ g, v.ownBlock = some g ∧ w.heap.size ≤ g) :
    ∃ U', WRep w' k { W with calls := l } U' ∧ WMv U w U' w' ∧ U'.vc = v ∧ U'.va = U.va ∧ U'.vm = U.vm ∧ U'.vl = U.vl := by
  have hR : ∀ r ∈ U.vc.ownBlock.toList, U.tag r = 1 := fun r hr => h.tc r (by simpa using hr)
  have ho : ∀ j, v.ownBlock = some j → U.tag j = 1 ∨ w.heap.size ≤ j := fun j hj => by
    rcases hv with e | ⟨g, e, hg⟩
    · exact .inl (h.tc j (by rw [← e]; exact hj))
    · rw [e] at hj
      cases hj
      exact .inr hg
  have hb := fun {j : Nat} => h.far hf hR (j := j)
  have ht := fun {j : Nat} (hj : U.tag j < 5) => tagW_old ho h.tl hj
  refine ⟨{ U with vc := v, tag := tagN U.tag v.ownBlock 1 }, ⟨?_, fun j hj => (hf.frozen j).trans (h.fz j hj), hr, h.ra.same fun j hj => hb (by rw [h.ta j hj]; omega) (by rw [h.ta j hj]; omega) (by rw [h.ta j hj]; omega), h.rm.same fun j hj => hb (by rw [h.tm j hj]; omega) (by rw [h.tm j hj]; omega) (by rw [h.tm j hj]; omega), h.rl.same fun j hj => hb (by rw [h.tn j hj]; omega) (by rw [h.tn j hj]; omega) (by rw [h.tn j hj]; omega), (ht (by rw [h.tq]; omega)).trans h.tq, fun j hj => tagN_same hj, fun j hj => (ht (by rw [h.ta j hj]; omega)).trans (h.ta j hj), fun j hj => (ht (by rw [h.tm j hj]; omega)).trans (h.tm j hj), fun j hj => (ht (by rw [h.tn j hj]; omega)).trans (h.tn j hj), ?_⟩,
    ⟨hf.os, hf.tape, hf.output, hf.size, fun j hj h5 => hf.block j hj (fun e => by rw [e, h.tq] at h5; omega) (fun hr => by have := hR j hr; omega), fun j hj => ?_, rfl, rfl⟩, rfl, rfl, rfl, rfl⟩
  · refine cells_upd [12] h.kk (fun j hj => hf.cell j hj) ?_ ?_
    · intro j hj
      have e : cellsW k { W with calls := l } { U with vc := v, tag := tagN U.tag v.ownBlock 1 } = (cellsW k W U).set 12 v := rfl
      simp only [List.mem_cons, List.not_mem_nil, or_false] at hj
      rw [e, List.getElem?_set_ne (Ne.symm hj)]
    · intro j hj u hu
      simp only [List.mem_cons, List.not_mem_nil, or_false] at hj
      subst hj
      rw [hc]; exact hu
  · intro j hj
    dsimp only at hj
    unfold tagN at hj
    split at hj
    · rename_i e
      exact (hr.lt j e).2
    · exact Nat.lt_of_lt_of_le (h.tl j hj) hf.size
  · dsimp only at hj
    unfold tagN at hj
    split at hj
    · rename_i e
      exact (ho j e).imp (fun q => by omega) id
    · exact .inl hj

/-- atts has changed. -/
theorem WRep.set_a (h : WRep w k W U) {v : Value} {l : List WAtt} (hf : Fr U.q [13] U.va.ownBlock.toList w w') (hc : w'.cell? ⟨U.q, 13, none⟩ = some v) (hr : Row w' 0 100 3 encWA v l) (hv : v.ownBlock = U.va.ownBlock ∨ ∃ g, v.ownBlock = some g ∧ w.heap.size ≤ g) :
    ∃ U', WRep w' k { W with atts := l } U' ∧ WMv U w U' w' ∧ U'.va = v ∧ U'.vc = U.vc ∧ U'.vm = U.vm ∧ U'.vl = U.vl := by
  have hR : ∀ r ∈ U.va.ownBlock.toList, U.tag r = 2 := fun r hr => h.ta r (by simpa using hr)
  have ho : ∀ j, v.ownBlock = some j → U.tag j = 2 ∨ w.heap.size ≤ j := fun j hj => by
    rcases hv with e | ⟨g, e, hg⟩
    · exact .inl (h.ta j (by rw [← e]; exact hj))
    · rw [e] at hj
      cases hj
      exact .inr hg
  have hb := fun {j : Nat} => h.far hf hR (j := j)
  have ht := fun {j : Nat} (hj : U.tag j < 5) => tagW_old ho h.tl hj
  refine ⟨{ U with va := v, tag := tagN U.tag v.ownBlock 2 }, ⟨?_, fun j hj => (hf.frozen j).trans (h.fz j hj), h.rc.same fun j hj => hb (by rw [h.tc j hj]; omega) (by rw [h.tc j hj]; omega) (by rw [h.tc j hj]; omega), hr, h.rm.same fun j hj => hb (by rw [h.tm j hj]; omega) (by rw [h.tm j hj]; omega) (by rw [h.tm j hj]; omega), h.rl.same fun j hj => hb (by rw [h.tn j hj]; omega) (by rw [h.tn j hj]; omega) (by rw [h.tn j hj]; omega), (ht (by rw [h.tq]; omega)).trans h.tq, fun j hj => (ht (by rw [h.tc j hj]; omega)).trans (h.tc j hj), fun j hj => tagN_same hj, fun j hj => (ht (by rw [h.tm j hj]; omega)).trans (h.tm j hj), fun j hj => (ht (by rw [h.tn j hj]; omega)).trans (h.tn j hj), ?_⟩,
    ⟨hf.os, hf.tape, hf.output, hf.size, fun j hj h5 => hf.block j hj (fun e => by rw [e, h.tq] at h5; omega) (fun hr => by have := hR j hr; omega), fun j hj => ?_, rfl, rfl⟩, rfl, rfl, rfl, rfl⟩
  · refine cells_upd [13] h.kk (fun j hj => hf.cell j hj) ?_ ?_
    · intro j hj
      have e : cellsW k { W with atts := l } { U with va := v, tag := tagN U.tag v.ownBlock 2 } = (cellsW k W U).set 13 v := rfl
      simp only [List.mem_cons, List.not_mem_nil, or_false] at hj
      rw [e, List.getElem?_set_ne (Ne.symm hj)]
    · intro j hj u hu
      simp only [List.mem_cons, List.not_mem_nil, or_false] at hj
      subst hj
      rw [hc]; exact hu
  · intro j hj
    dsimp only at hj
    unfold tagN at hj
    split at hj
    · rename_i e
      exact (hr.lt j e).2
    · exact Nat.lt_of_lt_of_le (h.tl j hj) hf.size
  · dsimp only at hj
    unfold tagN at hj
    split at hj
    · rename_i e
      exact (ho j e).imp (fun q => by omega) id
    · exact .inl hj

/-- adm has changed. -/
theorem WRep.set_m (h : WRep w k W U) {v : Value} {l : List Int} (hf : Fr U.q [14] U.vm.ownBlock.toList w w') (hc : w'.cell? ⟨U.q, 14, none⟩ = some v) (hr : Row w' 0 3 1 encI v l) (hv : v.ownBlock = U.vm.ownBlock ∨ ∃ g, v.ownBlock = some g ∧ w.heap.size ≤ g) :
    ∃ U', WRep w' k { W with adm := l } U' ∧ WMv U w U' w' ∧ U'.vm = v ∧ U'.vc = U.vc ∧ U'.va = U.va ∧ U'.vl = U.vl := by
  have hR : ∀ r ∈ U.vm.ownBlock.toList, U.tag r = 3 := fun r hr => h.tm r (by simpa using hr)
  have ho : ∀ j, v.ownBlock = some j → U.tag j = 3 ∨ w.heap.size ≤ j := fun j hj => by
    rcases hv with e | ⟨g, e, hg⟩
    · exact .inl (h.tm j (by rw [← e]; exact hj))
    · rw [e] at hj
      cases hj
      exact .inr hg
  have hb := fun {j : Nat} => h.far hf hR (j := j)
  have ht := fun {j : Nat} (hj : U.tag j < 5) => tagW_old ho h.tl hj
  refine ⟨{ U with vm := v, tag := tagN U.tag v.ownBlock 3 }, ⟨?_, fun j hj => (hf.frozen j).trans (h.fz j hj), h.rc.same fun j hj => hb (by rw [h.tc j hj]; omega) (by rw [h.tc j hj]; omega) (by rw [h.tc j hj]; omega), h.ra.same fun j hj => hb (by rw [h.ta j hj]; omega) (by rw [h.ta j hj]; omega) (by rw [h.ta j hj]; omega), hr, h.rl.same fun j hj => hb (by rw [h.tn j hj]; omega) (by rw [h.tn j hj]; omega) (by rw [h.tn j hj]; omega), (ht (by rw [h.tq]; omega)).trans h.tq, fun j hj => (ht (by rw [h.tc j hj]; omega)).trans (h.tc j hj), fun j hj => (ht (by rw [h.ta j hj]; omega)).trans (h.ta j hj), fun j hj => tagN_same hj, fun j hj => (ht (by rw [h.tn j hj]; omega)).trans (h.tn j hj), ?_⟩,
    ⟨hf.os, hf.tape, hf.output, hf.size, fun j hj h5 => hf.block j hj (fun e => by rw [e, h.tq] at h5; omega) (fun hr => by have := hR j hr; omega), fun j hj => ?_, rfl, rfl⟩, rfl, rfl, rfl, rfl⟩
  · refine cells_upd [14] h.kk (fun j hj => hf.cell j hj) ?_ ?_
    · intro j hj
      have e : cellsW k { W with adm := l } { U with vm := v, tag := tagN U.tag v.ownBlock 3 } = (cellsW k W U).set 14 v := rfl
      simp only [List.mem_cons, List.not_mem_nil, or_false] at hj
      rw [e, List.getElem?_set_ne (Ne.symm hj)]
    · intro j hj u hu
      simp only [List.mem_cons, List.not_mem_nil, or_false] at hj
      subst hj
      rw [hc]; exact hu
  · intro j hj
    dsimp only at hj
    unfold tagN at hj
    split at hj
    · rename_i e
      exact (hr.lt j e).2
    · exact Nat.lt_of_lt_of_le (h.tl j hj) hf.size
  · dsimp only at hj
    unfold tagN at hj
    split at hj
    · rename_i e
      exact (ho j e).imp (fun q => by omega) id
    · exact .inl hj

/-- lau has changed. -/
theorem WRep.set_l (h : WRep w k W U) {v : Value} {l : List Int} (hf : Fr U.q [15] U.vl.ownBlock.toList w w') (hc : w'.cell? ⟨U.q, 15, none⟩ = some v) (hr : Row w' 0 3 1 encI v l) (hv : v.ownBlock = U.vl.ownBlock ∨ ∃ g, v.ownBlock = some g ∧ w.heap.size ≤ g) :
    ∃ U', WRep w' k { W with lau := l } U' ∧ WMv U w U' w' ∧ U'.vl = v ∧ U'.vc = U.vc ∧ U'.va = U.va ∧ U'.vm = U.vm := by
  have hR : ∀ r ∈ U.vl.ownBlock.toList, U.tag r = 4 := fun r hr => h.tn r (by simpa using hr)
  have ho : ∀ j, v.ownBlock = some j → U.tag j = 4 ∨ w.heap.size ≤ j := fun j hj => by
    rcases hv with e | ⟨g, e, hg⟩
    · exact .inl (h.tn j (by rw [← e]; exact hj))
    · rw [e] at hj
      cases hj
      exact .inr hg
  have hb := fun {j : Nat} => h.far hf hR (j := j)
  have ht := fun {j : Nat} (hj : U.tag j < 5) => tagW_old ho h.tl hj
  refine ⟨{ U with vl := v, tag := tagN U.tag v.ownBlock 4 }, ⟨?_, fun j hj => (hf.frozen j).trans (h.fz j hj), h.rc.same fun j hj => hb (by rw [h.tc j hj]; omega) (by rw [h.tc j hj]; omega) (by rw [h.tc j hj]; omega), h.ra.same fun j hj => hb (by rw [h.ta j hj]; omega) (by rw [h.ta j hj]; omega) (by rw [h.ta j hj]; omega), h.rm.same fun j hj => hb (by rw [h.tm j hj]; omega) (by rw [h.tm j hj]; omega) (by rw [h.tm j hj]; omega), hr, (ht (by rw [h.tq]; omega)).trans h.tq, fun j hj => (ht (by rw [h.tc j hj]; omega)).trans (h.tc j hj), fun j hj => (ht (by rw [h.ta j hj]; omega)).trans (h.ta j hj), fun j hj => (ht (by rw [h.tm j hj]; omega)).trans (h.tm j hj), fun j hj => tagN_same hj, ?_⟩,
    ⟨hf.os, hf.tape, hf.output, hf.size, fun j hj h5 => hf.block j hj (fun e => by rw [e, h.tq] at h5; omega) (fun hr => by have := hR j hr; omega), fun j hj => ?_, rfl, rfl⟩, rfl, rfl, rfl, rfl⟩
  · refine cells_upd [15] h.kk (fun j hj => hf.cell j hj) ?_ ?_
    · intro j hj
      have e : cellsW k { W with lau := l } { U with vl := v, tag := tagN U.tag v.ownBlock 4 } = (cellsW k W U).set 15 v := rfl
      simp only [List.mem_cons, List.not_mem_nil, or_false] at hj
      rw [e, List.getElem?_set_ne (Ne.symm hj)]
    · intro j hj u hu
      simp only [List.mem_cons, List.not_mem_nil, or_false] at hj
      subst hj
      rw [hc]; exact hu
  · intro j hj
    dsimp only at hj
    unfold tagN at hj
    split at hj
    · rename_i e
      exact (hr.lt j e).2
    · exact Nat.lt_of_lt_of_le (h.tl j hj) hf.size
  · dsimp only at hj
    unfold tagN at hj
    split at hj
    · rename_i e
      exact (ho j e).imp (fun q => by omega) id
    · exact .inl hj

/-- now has changed. -/
theorem WRep.set_now (h : WRep w k W U) (t : Int) : WRep (w.setCell ⟨U.q, 11, none⟩ (.int .i64 t)) k { W with now := t } U ∧ WMv U w U (w.setCell ⟨U.q, 11, none⟩ (.int .i64 t)) := by
  have hf : Fr U.q [11] [] w (w.setCell ⟨U.q, 11, none⟩ (.int .i64 t)) := Fr.store _
  have hb : ∀ {j : Nat}, U.tag j ≠ 0 → (w.setCell ⟨U.q, 11, none⟩ (.int .i64 t)).heap[j]? = w.heap[j]? := fun {j} hj => Below.heap_setCell _ _ _ _ (fun e => hj (by rw [e]; exact h.tq))
  refine ⟨⟨?_, fun j hj => (hf.frozen j).trans (h.fz j hj), h.rc.same fun j hj => hb (by rw [h.tc j hj]; omega), h.ra.same fun j hj => hb (by rw [h.ta j hj]; omega), h.rm.same fun j hj => hb (by rw [h.tm j hj]; omega), h.rl.same fun j hj => hb (by rw [h.tn j hj]; omega), h.tq, h.tc, h.ta, h.tm, h.tn, fun j hj => by simpa using h.tl j hj⟩,
    ⟨rfl, rfl, rfl, by simp, fun j hj h5 => hb (by omega), fun _ h => .inl h, rfl, rfl⟩⟩
  refine cells_upd [11] h.kk (fun j hj => hf.cell j hj) ?_ ?_
  · intro j hj
    have e : cellsW k { W with now := t } U = (cellsW k W U).set 11 (.int .i64 t) := rfl
    simp only [List.mem_cons, List.not_mem_nil, or_false] at hj
    rw [e, List.getElem?_set_ne (Ne.symm hj)]
  · intro j hj u hu
    simp only [List.mem_cons, List.not_mem_nil, or_false] at hj
    subst hj
    have hu' : Value.int .i64 t = u := by simpa [cellsW] using hu
    rw [← hu']
    exact World.cell?_setCell_same _ _ _ (h.kk 11 _ rfl)
end

section
variable {w w' : World} {k : Cfg} {W : WSt} {U : WV}
/-- A cell of one call is written. -/
theorem WRep.put_c (h : WRep w k W U) {g i j : Nat} {c c' : WCall} (hg : U.vc.ownBlock = some g) (hi : W.calls[i]? = some c) (hj : j < 6) (u : Value) (hx : encWC c' = (encWC c).set j u) :
    ∃ U', WRep (w.setCell ⟨g, i * 6 + j, none⟩ u) k { W with calls := W.calls.set i c' } U' ∧ WMv U w U' (w.setCell ⟨g, i * 6 + j, none⟩ u) ∧ U'.vc = U.vc ∧ U'.va = U.va ∧ U'.vm = U.vm ∧ U'.vl = U.vl := by
  obtain ⟨hil, hie⟩ := List.getElem?_eq_some_iff.1 hi
  have hgq : g ≠ U.q := fun e => by have := h.tc g hg; rw [e, h.tq] at this; omega
  have hr := h.rc.set encWC_len hg hil hj u c' (by rw [hie]; exact hx)
  exact h.set_c ((Fr.refl U.q [12] U.vc.ownBlock.toList w).setIn (by rw [hg]; simp) hgq u) ((World.cell?_of_block (Below.heap_setCell w _ u U.q (Ne.symm hgq))).trans (h.kk 12 _ rfl)) hr (.inl rfl)
/-- A cell of one attempt is written. -/
theorem WRep.put_a (h : WRep w k W U) {g i j : Nat} {c c' : WAtt} (hg : U.va.ownBlock = some g) (hi : W.atts[i]? = some c) (hj : j < 3) (u : Value) (hx : encWA c' = (encWA c).set j u) :
    ∃ U', WRep (w.setCell ⟨g, i * 3 + j, none⟩ u) k { W with atts := W.atts.set i c' } U' ∧ WMv U w U' (w.setCell ⟨g, i * 3 + j, none⟩ u) ∧ U'.va = U.va ∧ U'.vc = U.vc ∧ U'.vm = U.vm ∧ U'.vl = U.vl := by
  obtain ⟨hil, hie⟩ := List.getElem?_eq_some_iff.1 hi
  have hgq : g ≠ U.q := fun e => by have := h.ta g hg; rw [e, h.tq] at this; omega
  have hr := h.ra.set encWA_len hg hil hj u c' (by rw [hie]; exact hx)
  exact h.set_a ((Fr.refl U.q [13] U.va.ownBlock.toList w).setIn (by rw [hg]; simp) hgq u) ((World.cell?_of_block (Below.heap_setCell w _ u U.q (Ne.symm hgq))).trans (h.kk 13 _ rfl)) hr (.inl rfl)

/-- Where a call lies. -/
theorem WRep.call_at (h : WRep w k W U) {i : Nat} {c : WCall} (hi : W.calls[i]? = some c) : ∃ g cap, U.vc = .slice (some ⟨g, 0, none⟩) W.calls.length cap ∧ U.vc.ownBlock = some g ∧ i < W.calls.length ∧
    w.cell? ⟨g, i * 6, none⟩ = some (.int .i64 c.number) ∧ w.cell? ⟨g, i * 6 + 1, none⟩ = some (.int .i64 c.deadline) ∧ w.cell? ⟨g, i * 6 + 2, none⟩ = some (.int .i64 c.had) ∧ w.cell? ⟨g, i * 6 + 3, none⟩ = some (.bool c.safe) ∧ w.cell? ⟨g, i * 6 + 4, none⟩ = some (.bool c.opn) ∧ w.cell? ⟨g, i * 6 + 5, none⟩ = some (.bool c.answered) ∧
    ∀ j, j < 6 → w.frozen? ⟨g, i * 6 + j, none⟩ = false := by
  obtain ⟨hil, hie⟩ := List.getElem?_eq_some_iff.1 hi
  obtain ⟨g, cap, e, ho⟩ := h.rc.at (by omega)
  have hc : ∀ j u, (encWC c)[j]? = some u → w.cell? ⟨g, i * 6 + j, none⟩ = some u ∧ w.frozen? ⟨g, i * 6 + j, none⟩ = false := fun j u hu => h.rc.cell encWC_len ho hil (by rw [hie]; exact hu)
  refine ⟨g, cap, e, ho, hil, (hc 0 _ rfl).1, (hc 1 _ rfl).1, (hc 2 _ rfl).1, (hc 3 _ rfl).1, (hc 4 _ rfl).1, (hc 5 _ rfl).1, fun j hj => ?_⟩
  match j, hj with
  | 0, _ => exact (hc 0 _ rfl).2
  | 1, _ => exact (hc 1 _ rfl).2
  | 2, _ => exact (hc 2 _ rfl).2
  | 3, _ => exact (hc 3 _ rfl).2
  | 4, _ => exact (hc 4 _ rfl).2
  | 5, _ => exact (hc 5 _ rfl).2
theorem WRep.att_at (h : WRep w k W U) {i : Nat} {a : WAtt} (hi : W.atts[i]? = some a) : ∃ g cap, U.va = .slice (some ⟨g, 0, none⟩) W.atts.length cap ∧ U.va.ownBlock = some g ∧ i < W.atts.length ∧
    w.cell? ⟨g, i * 3, none⟩ = some (.int .i64 a.call) ∧ w.cell? ⟨g, i * 3 + 1, none⟩ = some (.int .i64 a.at_) ∧ w.cell? ⟨g, i * 3 + 2, none⟩ = some (.bool a.opn) ∧ ∀ j, j < 3 → w.frozen? ⟨g, i * 3 + j, none⟩ = false := by
  obtain ⟨hil, hie⟩ := List.getElem?_eq_some_iff.1 hi
  obtain ⟨g, cap, e, ho⟩ := h.ra.at (by omega)
  have hc : ∀ j u, (encWA a)[j]? = some u → w.cell? ⟨g, i * 3 + j, none⟩ = some u ∧ w.frozen? ⟨g, i * 3 + j, none⟩ = false := fun j u hu => h.ra.cell encWA_len ho hil (by rw [hie]; exact hu)
  refine ⟨g, cap, e, ho, hil, (hc 0 _ rfl).1, (hc 1 _ rfl).1, (hc 2 _ rfl).1, fun j hj => ?_⟩
  match j, hj with
  | 0, _ => exact (hc 0 _ rfl).2
  | 1, _ => exact (hc 1 _ rfl).2
  | 2, _ => exact (hc 2 _ rfl).2

/-- A client, and a Watch of it. -/
structure WAll (w : World) (s : PSt) (W : WSt) (V : PV) (U : WV) : Prop where
  pr : PRep w U.x s V
  wr : WRep w s.cfg W U
  dj : ∀ k, U.tag k < 5 → 7 ≤ V.tag k

theorem WAll.on {s : PSt} {V : PV} (h : WAll w s W V U) (hb : Below w.heap.size w w') : WAll w' s W V U := ⟨h.pr.on hb, h.wr.on hb, h.dj⟩
/-- The client has changed. -/
theorem WAll.step {s s' : PSt} {V V' : PV} (h : WAll w s W V U) (hr : PRep w' U.x s' V') (hm : PMv V w V' w') (he : s'.cfg = s.cfg) : WAll w' s' W V' U :=
  ⟨hr, by rw [he]; exact h.wr.keep hm.size (fun j hj => hm.block j (h.wr.tl j hj) (h.dj j hj)), fun j hj => by
    rcases Nat.lt_or_ge (V'.tag j) 7 with h7 | h7
    · rcases hm.news j h7 with h8 | h8
      · have := h.dj j hj
        omega
      · have := h.wr.tl j hj
        omega
    · exact h7⟩
/-- The Watch has changed. -/
theorem WAll.seen {s : PSt} {V : PV} {W' : WSt} {U' : WV} (h : WAll w s W V U) (hr : WRep w' s.cfg W' U') (hm : WMv U w U' w') : WAll w' s W' V U' :=
  ⟨by rw [hm.x]; exact h.pr.keep hm.size (fun j hj => hm.block j (h.pr.tl j hj) (by
      rcases Nat.lt_or_ge (U.tag j) 5 with h5 | h5
      · have := h.dj j h5
        omega
      · exact h5)), hr, fun j hj => by
    rcases hm.news j hj with h5 | h5
    · exact h.dj j h5
    · rcases Nat.lt_or_ge (V.tag j) 7 with h7 | h7
      · have := h.pr.tl j h7
        omega
      · exact h7⟩
end
end Go.Proofs.YtlccfpbbdgpjbaaGreatDoor
