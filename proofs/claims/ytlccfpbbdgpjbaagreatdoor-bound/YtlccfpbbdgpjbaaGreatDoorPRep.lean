import Derived.Test.YtlccfpbbdgpjbaaGreatDoorZCl2
import Derived.Test.YtlccfpbbdgpjbaaGreatDoorHHedge
namespace Go.Proofs.YtlccfpbbdgpjbaaGreatDoor
open Go.RowKit Go.Maps

structure PCall where
  number : Int
  safe : Bool
  deadline : Int
  had : Int
  wait : Int
def encPC (c : PCall) : List Value := [.int .i64 c.number, .bool c.safe, .int .i64 c.deadline, .int .i64 c.had, .int .i64 c.wait]

structure PSt where
  cfg : Cfg
  now : Int
  units : List PB
  calls : List PCall
  atts : List (Int × PAtt)
  launched : Int
  timers : List PTimer
  set : Int
  times : List Int
  stale : Int

/-- Where its parts lie. A block's tag: which part it is (7 and above: none). -/
structure PV where
  bc : Nat
  ba : Nat
  u : Value
  t : Value
  m : Value
  q : Int → Nat
  xs : List PTimer
  tag : Nat → Nat

def cellsP (s : PSt) (V : PV) : List Value :=
  [.int .i64 s.cfg.deposit, .int .i64 s.cfg.cost, .int .i64 s.cfg.cap, .int .i64 s.cfg.window, .int .i64 s.cfg.attempts, .int .i64 s.cfg.flight, .int .i64 s.cfg.base, .int .i64 s.cfg.most, .int .i64 s.cfg.rank, .int .i64 s.cfg.samples,
   .int .i64 s.now, .int .i64 s.cfg.deposit, .int .i64 s.cfg.cap, .int .i64 s.cfg.window, V.u, .map (some V.bc), .map (some V.ba), .int .i64 s.launched, V.t, .int .i64 s.set, V.m, .int .i64 s.stale]

def callL (l : List PCall) (q : Int → Nat) : List (Int × Value) := l.map (fun c => (c.number, .pointer (some ⟨q c.number, 0, none⟩)))
def CallAt (w : World) (q : Nat) (c : PCall) : Prop := ∀ j v, (encPC c)[j]? = some v → w.cell? ⟨q, j, none⟩ = some v ∧ w.frozen? ⟨q, j, none⟩ = false

structure PRep (w : World) (p : Nat) (s : PSt) (V : PV) : Prop where
  kk : ∀ j v, (cellsP s V)[j]? = some v → w.cell? ⟨p, j, none⟩ = some v
  fz : ∀ j, j < 22 → w.frozen? ⟨p, j, none⟩ = false
  mC : MapI Tryz.prog 3 okPtr w V.bc (callL s.calls V.q)
  mA : MapI Tryz.prog 3 okAtt w V.ba (attL s.atts)
  cc : ∀ c ∈ s.calls, CallAt w (V.q c.number) c
  ru : Row w 0 150 2 encPB V.u s.units
  rt : Row w 0 114 4 encPT V.t V.xs
  rm : Row w 0 3 1 encI V.m s.times
  xp : V.xs.Perm s.timers
  xh : IsHeap V.xs
  tp : V.tag p = 0
  tc : V.tag V.bc = 1
  ta : V.tag V.ba = 2
  tu : ∀ k, V.u.ownBlock = some k → V.tag k = 3
  tt : ∀ k, V.t.ownBlock = some k → V.tag k = 4
  tm : ∀ k, V.m.ownBlock = some k → V.tag k = 5
  tq : ∀ c ∈ s.calls, V.tag (V.q c.number) = 6
  qi : ∀ c ∈ s.calls, ∀ d ∈ s.calls, V.q c.number = V.q d.number → c.number = d.number
  tl : ∀ k, V.tag k < 7 → k < w.heap.size
  tg : 0 < s.set → ∃ g, V.t.ownBlock = some g

/-- From V in w to V' in w': all else is as it was. -/
structure PMv (V : PV) (w : World) (V' : PV) (w' : World) : Prop where
  os : w'.os = w.os
  tape : w'.tape = w.tape
  output : w'.output = w.output
  size : w.heap.size ≤ w'.heap.size
  block : ∀ k, k < w.heap.size → 7 ≤ V.tag k → w'.heap[k]? = w.heap[k]?
  news : ∀ k, V'.tag k < 7 → V.tag k < 7 ∨ w.heap.size ≤ k

theorem PMv.refl (V : PV) (w : World) : PMv V w V w := ⟨rfl, rfl, rfl, Nat.le_refl _, fun _ _ _ => rfl, fun _ h => .inl h⟩
theorem PMv.trans {V V1 V2 : PV} {w w1 w2 : World} (h : PMv V w V1 w1) (k : PMv V1 w1 V2 w2) : PMv V w V2 w2 :=
  ⟨k.os.trans h.os, k.tape.trans h.tape, k.output.trans h.output, Nat.le_trans h.size k.size,
    fun b hb hn => (k.block b (Nat.lt_of_lt_of_le hb h.size) (by
      rcases Nat.lt_or_ge (V1.tag b) 7 with h1 | h1
      · rcases h.news b h1 with h2 | h2 <;> omega
      · exact h1)).trans (h.block b hb hn),
    fun b hb => (k.news b hb).elim (fun h' => h.news b h') (fun h' => .inr (Nat.le_trans h.size h'))⟩
theorem PMv.of_below {V : PV} {w w' : World} (h : Below w.heap.size w w') : PMv V w V w' :=
  ⟨h.os, h.tape, h.output, h.size, fun k hk _ => h.block k hk, fun _ h => .inl h⟩

def tagN (f : Nat → Nat) (o : Option Nat) (a : Nat) : Nat → Nat := fun k => if o = some k then a else f k
theorem tagN_same {f : Nat → Nat} {o : Option Nat} {a k : Nat} (h : o = some k) : tagN f o a k = a := by simp [tagN, h]
theorem tagN_old {f : Nat → Nat} {o : Option Nat} {a N k : Nat} (ho : ∀ k, o = some k → f k = a ∨ N ≤ k) (hl : ∀ k, f k < 7 → k < N) (hk : f k < 7) : tagN f o a k = f k := by
  unfold tagN
  split
  · rename_i e
    rcases ho k e with h | h
    · exact h.symm
    · have := hl k hk
      omega
  · rfl

section
variable {w w' : World} {p : Nat} {s : PSt} {V : PV}

theorem PRep.lp (h : PRep w p s V) : p < w.heap.size := h.tl p (by rw [h.tp]; omega)
theorem PRep.lc (h : PRep w p s V) : V.bc < w.heap.size := h.tl _ (by rw [h.tc]; omega)
theorem PRep.la (h : PRep w p s V) : V.ba < w.heap.size := h.tl _ (by rw [h.ta]; omega)
theorem PRep.lq (h : PRep w p s V) {c : PCall} (hc : c ∈ s.calls) : V.q c.number < w.heap.size := h.tl _ (by rw [h.tq c hc]; omega)

theorem CallAt.same {q : Nat} {c : PCall} (h : CallAt w q c) (hb : w'.heap[q]? = w.heap[q]?) : CallAt w' q c := fun j v hv =>
  ⟨(World.cell?_of_block hb).trans (h j v hv).1, (World.frozen?_of_block hb).trans (h j v hv).2⟩

/-- Blocks that are new since. -/
theorem PRep.on (h : PRep w p s V) (hb : Below w.heap.size w w') : PRep w' p s V where
  kk j v hv := (hb.cell h.lp).trans (h.kk j v hv)
  fz j hj := (hb.frozen h.lp).trans (h.fz j hj)
  mC := h.mC.same (hb.block _ h.lc)
  mA := h.mA.same (hb.block _ h.la)
  cc c hc := (h.cc c hc).same (hb.block _ (h.lq hc))
  ru := h.ru.below hb
  rt := h.rt.below hb
  rm := h.rm.below hb
  xp := h.xp
  xh := h.xh
  tp := h.tp
  tc := h.tc
  ta := h.ta
  tu := h.tu
  tt := h.tt
  tm := h.tm
  tq := h.tq
  qi := h.qi
  tl k hk := Nat.lt_of_lt_of_le (h.tl k hk) hb.size
  tg := h.tg

/-- Nothing that is its own has changed. -/
theorem PRep.keep (h : PRep w p s V) (hs : w.heap.size ≤ w'.heap.size) (hb : ∀ k, V.tag k < 7 → w'.heap[k]? = w.heap[k]?) : PRep w' p s V where
  kk j v hv := (World.cell?_of_block (hb p (by rw [h.tp]; omega))).trans (h.kk j v hv)
  fz j hj := (World.frozen?_of_block (hb p (by rw [h.tp]; omega))).trans (h.fz j hj)
  mC := h.mC.same (hb _ (by rw [h.tc]; omega))
  mA := h.mA.same (hb _ (by rw [h.ta]; omega))
  cc c hc := (h.cc c hc).same (hb _ (by rw [h.tq c hc]; omega))
  ru := h.ru.same fun k hk => hb k (by rw [h.tu k hk]; omega)
  rt := h.rt.same fun k hk => hb k (by rw [h.tt k hk]; omega)
  rm := h.rm.same fun k hk => hb k (by rw [h.tm k hk]; omega)
  xp := h.xp
  xh := h.xh
  tp := h.tp
  tc := h.tc
  ta := h.ta
  tu := h.tu
  tt := h.tt
  tm := h.tm
  tq := h.tq
  qi := h.qi
  tl k hk := Nat.lt_of_lt_of_le (h.tl k hk) hs
  tg := h.tg

theorem PRep.drew (h : PRep w p s V) : PRep w.drew p s V := h.keep (Nat.le_refl _) (fun _ _ => rfl)

/-- The blocks that a part's change leaves. -/
theorem PRep.far (h : PRep w p s V) {J R : List Nat} (hf : Fr p J R w w') {a : Nat} (hR : ∀ r ∈ R, V.tag r = a) {k : Nat} (h1 : V.tag k < 7) (h2 : V.tag k ≠ 0) (h3 : V.tag k ≠ a) : w'.heap[k]? = w.heap[k]? :=
  hf.block k (h.tl k h1) (fun e => h2 (by rw [e]; exact h.tp)) (fun hr => h3 (hR k hr))

theorem PRep.mv (h : PRep w p s V) {J R : List Nat} (hf : Fr p J R w w') (hR : ∀ r ∈ R, V.tag r < 7) : PMv V w V w' :=
  ⟨hf.os, hf.tape, hf.output, hf.size, fun k hk h7 => hf.block k hk (fun e => by rw [e, h.tp] at h7; omega) (fun hr => by have := hR k hr; omega), fun _ h => .inl h⟩
theorem PMv.tagN {V1 V2 : PV} (h : PMv V w V1 w') {o : Option Nat} {a : Nat} (ht : V2.tag = Go.Proofs.YtlccfpbbdgpjbaaGreatDoor.tagN V1.tag o a) (ho : ∀ k, o = some k → V.tag k < 7 ∨ w.heap.size ≤ k) : PMv V w V2 w' :=
  ⟨h.os, h.tape, h.output, h.size, h.block, fun k hk => by
    rw [ht] at hk
    unfold Go.Proofs.YtlccfpbbdgpjbaaGreatDoor.tagN at hk
    split at hk
    · rename_i e
      exact ho k e
    · exact h.news k hk⟩

theorem cells_upd {L L' : List Value} (J : List Nat) (h : ∀ j v, L[j]? = some v → w.cell? ⟨p, j, none⟩ = some v) (hf : ∀ j, j ∉ J → w'.cell? ⟨p, j, none⟩ = w.cell? ⟨p, j, none⟩) (hL : ∀ j, j ∉ J → L'[j]? = L[j]?) (hJ : ∀ j ∈ J, ∀ v, L'[j]? = some v → w'.cell? ⟨p, j, none⟩ = some v) : ∀ j v, L'[j]? = some v → w'.cell? ⟨p, j, none⟩ = some v := by
  intro j v hv
  by_cases hj : j ∈ J
  · exact hJ j hj v hv
  · rw [hf j hj]
    exact h j v (by rw [← hL j hj]; exact hv)

/-- now and the units have changed. -/
theorem PRep.set_u (h : PRep w p s V) {J : List Nat} (hJ : ∀ j, j ∉ [10, 14] → j ∉ J) {v : Value} {l : List PB} {n : Int} (hf : Fr p J V.u.ownBlock.toList w w') (hn : w'.cell? ⟨p, 10, none⟩ = some (.int .i64 n)) (hc : w'.cell? ⟨p, 14, none⟩ = some v) (hr : Row w' 0 150 2 encPB v l) (hv : v.ownBlock = V.u.ownBlock ∨ ∃ g, v.ownBlock = some g ∧ w.heap.size ≤ g) :
    ∃ V', PRep w' p { s with now := n, units := l } V' ∧ PMv V w V' w' ∧ V'.q = V.q := by
  have hR : ∀ r ∈ V.u.ownBlock.toList, V.tag r = 3 := fun r hr => h.tu r (by simpa using hr)
  have ho : ∀ k, v.ownBlock = some k → V.tag k = 3 ∨ w.heap.size ≤ k := fun k hk => by
    rcases hv with e | ⟨g, e, hg⟩
    · exact .inl (h.tu k (by rw [← e]; exact hk))
    · rw [e] at hk
      cases hk
      exact .inr hg
  have hb := fun {k : Nat} => h.far hf hR (k := k)
  have ht := fun {k : Nat} (hk : V.tag k < 7) => tagN_old ho h.tl hk
  refine ⟨{ V with u := v, tag := tagN V.tag v.ownBlock 3 }, ⟨?_, fun j hj => (hf.frozen j).trans (h.fz j hj), h.mC.same (hb (by rw [h.tc]; omega) (by rw [h.tc]; omega) (by rw [h.tc]; omega)), h.mA.same (hb (by rw [h.ta]; omega) (by rw [h.ta]; omega) (by rw [h.ta]; omega)),
    fun c hc => (h.cc c hc).same (hb (by rw [h.tq c hc]; omega) (by rw [h.tq c hc]; omega) (by rw [h.tq c hc]; omega)), hr, h.rt.same fun k hk => hb (by rw [h.tt k hk]; omega) (by rw [h.tt k hk]; omega) (by rw [h.tt k hk]; omega), h.rm.same fun k hk => hb (by rw [h.tm k hk]; omega) (by rw [h.tm k hk]; omega) (by rw [h.tm k hk]; omega),
    h.xp, h.xh, (ht (by rw [h.tp]; omega)).trans h.tp, (ht (by rw [h.tc]; omega)).trans h.tc, (ht (by rw [h.ta]; omega)).trans h.ta, fun k hk => tagN_same hk, fun k hk => (ht (by rw [h.tt k hk]; omega)).trans (h.tt k hk), fun k hk => (ht (by rw [h.tm k hk]; omega)).trans (h.tm k hk), fun c hc => (ht (by rw [h.tq c hc]; omega)).trans (h.tq c hc), h.qi, ?_, h.tg⟩,
    (h.mv hf (fun r hr => by rw [hR r hr]; omega)).tagN rfl (fun k hk => (ho k hk).imp (fun e => by rw [e]; omega) id), rfl⟩
  · refine cells_upd [10, 14] h.kk (fun j hj => hf.cell j (hJ j hj)) ?_ ?_
    · intro j hj
      have e : cellsP { s with now := n, units := l } { V with u := v, tag := tagN V.tag v.ownBlock 3 } = ((cellsP s V).set 10 (.int .i64 n)).set 14 v := rfl
      simp only [List.mem_cons, List.not_mem_nil, or_false, not_or] at hj
      rw [e, List.getElem?_set_ne (Ne.symm hj.2), List.getElem?_set_ne (Ne.symm hj.1)]
    · intro j hj u hu
      simp only [List.mem_cons, List.not_mem_nil, or_false] at hj
      rcases hj with rfl | rfl
      · rw [hn]; exact hu
      · rw [hc]; exact hu
  · intro k hk
    dsimp only at hk
    unfold tagN at hk
    split at hk
    · rename_i e
      exact (hr.lt k e).2
    · exact Nat.lt_of_lt_of_le (h.tl k hk) hf.size

/-- The timers, and how many were set, have changed. -/
theorem PRep.set_t (h : PRep w p s V) {J : List Nat} (hJ : ∀ j, j ∉ [19, 18] → j ∉ J) {v : Value} {ys ts : List PTimer} {n : Int} (hf : Fr p J V.t.ownBlock.toList w w') (hn : w'.cell? ⟨p, 19, none⟩ = some (.int .i64 n)) (hc : w'.cell? ⟨p, 18, none⟩ = some v) (hr : Row w' 0 114 4 encPT v ys) (hP : ys.Perm ts) (hH : IsHeap ys) (hv : v.ownBlock = V.t.ownBlock ∨ ∃ g, v.ownBlock = some g ∧ w.heap.size ≤ g) (hg : 0 < n → ∃ g, v.ownBlock = some g) :
    ∃ V', PRep w' p { s with set := n, timers := ts } V' ∧ PMv V w V' w' ∧ V'.q = V.q := by
  have hR : ∀ r ∈ V.t.ownBlock.toList, V.tag r = 4 := fun r hr => h.tt r (by simpa using hr)
  have ho : ∀ k, v.ownBlock = some k → V.tag k = 4 ∨ w.heap.size ≤ k := fun k hk => by
    rcases hv with e | ⟨g, e, hg⟩
    · exact .inl (h.tt k (by rw [← e]; exact hk))
    · rw [e] at hk
      cases hk
      exact .inr hg
  have hb := fun {k : Nat} => h.far hf hR (k := k)
  have ht := fun {k : Nat} (hk : V.tag k < 7) => tagN_old ho h.tl hk
  refine ⟨{ V with t := v, xs := ys, tag := tagN V.tag v.ownBlock 4 }, ⟨?_, fun j hj => (hf.frozen j).trans (h.fz j hj), h.mC.same (hb (by rw [h.tc]; omega) (by rw [h.tc]; omega) (by rw [h.tc]; omega)), h.mA.same (hb (by rw [h.ta]; omega) (by rw [h.ta]; omega) (by rw [h.ta]; omega)),
    fun c hc => (h.cc c hc).same (hb (by rw [h.tq c hc]; omega) (by rw [h.tq c hc]; omega) (by rw [h.tq c hc]; omega)), h.ru.same fun k hk => hb (by rw [h.tu k hk]; omega) (by rw [h.tu k hk]; omega) (by rw [h.tu k hk]; omega), hr, h.rm.same fun k hk => hb (by rw [h.tm k hk]; omega) (by rw [h.tm k hk]; omega) (by rw [h.tm k hk]; omega),
    hP, hH, (ht (by rw [h.tp]; omega)).trans h.tp, (ht (by rw [h.tc]; omega)).trans h.tc, (ht (by rw [h.ta]; omega)).trans h.ta, fun k hk => (ht (by rw [h.tu k hk]; omega)).trans (h.tu k hk), fun k hk => tagN_same hk, fun k hk => (ht (by rw [h.tm k hk]; omega)).trans (h.tm k hk), fun c hc => (ht (by rw [h.tq c hc]; omega)).trans (h.tq c hc), h.qi, ?_, hg⟩,
    (h.mv hf (fun r hr => by rw [hR r hr]; omega)).tagN rfl (fun k hk => (ho k hk).imp (fun e => by rw [e]; omega) id), rfl⟩
  · refine cells_upd [19, 18] h.kk (fun j hj => hf.cell j (hJ j hj)) ?_ ?_
    · intro j hj
      have e : cellsP { s with set := n, timers := ts } { V with t := v, xs := ys, tag := tagN V.tag v.ownBlock 4 } = ((cellsP s V).set 19 (.int .i64 n)).set 18 v := rfl
      simp only [List.mem_cons, List.not_mem_nil, or_false, not_or] at hj
      rw [e, List.getElem?_set_ne (Ne.symm hj.2), List.getElem?_set_ne (Ne.symm hj.1)]
    · intro j hj u hu
      simp only [List.mem_cons, List.not_mem_nil, or_false] at hj
      rcases hj with rfl | rfl
      · rw [hn]; exact hu
      · rw [hc]; exact hu
  · intro k hk
    dsimp only at hk
    unfold tagN at hk
    split at hk
    · rename_i e
      exact (hr.lt k e).2
    · exact Nat.lt_of_lt_of_le (h.tl k hk) hf.size

/-- The times that were measured have changed. -/
theorem PRep.set_m (h : PRep w p s V) {v : Value} {l : List Int} (hf : Fr p [20] V.m.ownBlock.toList w w') (hc : w'.cell? ⟨p, 20, none⟩ = some v) (hr : Row w' 0 3 1 encI v l) (hv : v.ownBlock = V.m.ownBlock ∨ ∃ g, v.ownBlock = some g ∧ w.heap.size ≤ g) :
    ∃ V', PRep w' p { s with times := l } V' ∧ PMv V w V' w' ∧ V'.q = V.q := by
  have hR : ∀ r ∈ V.m.ownBlock.toList, V.tag r = 5 := fun r hr => h.tm r (by simpa using hr)
  have ho : ∀ k, v.ownBlock = some k → V.tag k = 5 ∨ w.heap.size ≤ k := fun k hk => by
    rcases hv with e | ⟨g, e, hg⟩
    · exact .inl (h.tm k (by rw [← e]; exact hk))
    · rw [e] at hk
      cases hk
      exact .inr hg
  have hb := fun {k : Nat} => h.far hf hR (k := k)
  have ht := fun {k : Nat} (hk : V.tag k < 7) => tagN_old ho h.tl hk
  refine ⟨{ V with m := v, tag := tagN V.tag v.ownBlock 5 }, ⟨?_, fun j hj => (hf.frozen j).trans (h.fz j hj), h.mC.same (hb (by rw [h.tc]; omega) (by rw [h.tc]; omega) (by rw [h.tc]; omega)), h.mA.same (hb (by rw [h.ta]; omega) (by rw [h.ta]; omega) (by rw [h.ta]; omega)),
    fun c hc => (h.cc c hc).same (hb (by rw [h.tq c hc]; omega) (by rw [h.tq c hc]; omega) (by rw [h.tq c hc]; omega)), h.ru.same fun k hk => hb (by rw [h.tu k hk]; omega) (by rw [h.tu k hk]; omega) (by rw [h.tu k hk]; omega), h.rt.same fun k hk => hb (by rw [h.tt k hk]; omega) (by rw [h.tt k hk]; omega) (by rw [h.tt k hk]; omega), hr,
    h.xp, h.xh, (ht (by rw [h.tp]; omega)).trans h.tp, (ht (by rw [h.tc]; omega)).trans h.tc, (ht (by rw [h.ta]; omega)).trans h.ta, fun k hk => (ht (by rw [h.tu k hk]; omega)).trans (h.tu k hk), fun k hk => (ht (by rw [h.tt k hk]; omega)).trans (h.tt k hk), fun k hk => tagN_same hk, fun c hc => (ht (by rw [h.tq c hc]; omega)).trans (h.tq c hc), h.qi, ?_, h.tg⟩,
    (h.mv hf (fun r hr => by rw [hR r hr]; omega)).tagN rfl (fun k hk => (ho k hk).imp (fun e => by rw [e]; omega) id), rfl⟩
  · refine cells_upd [20] h.kk (fun j hj => hf.cell j hj) ?_ ?_
    · intro j hj
      have e : cellsP { s with times := l } { V with m := v, tag := tagN V.tag v.ownBlock 5 } = (cellsP s V).set 20 v := rfl
      simp only [List.mem_cons, List.not_mem_nil, or_false] at hj
      rw [e, List.getElem?_set_ne (Ne.symm hj)]
    · intro j hj u hu
      simp only [List.mem_cons, List.not_mem_nil, or_false] at hj
      subst hj
      rw [hc]; exact hu
  · intro k hk
    dsimp only at hk
    unfold tagN at hk
    split at hk
    · rename_i e
      exact (hr.lt k e).2
    · exact Nat.lt_of_lt_of_le (h.tl k hk) hf.size

/-- One number of the client's own block has changed. -/
theorem PRep.set_cell (h : PRep w p s V) {s' : PSt} {j : Nat} {v : Value} (hf : Fr p [j] [] w w') (hc : w'.cell? ⟨p, j, none⟩ = some v) (hL : cellsP s' V = (cellsP s V).set j v)
    (e1 : s'.units = s.units) (e2 : s'.calls = s.calls) (e3 : s'.atts = s.atts) (e4 : s'.timers = s.timers) (e5 : s'.times = s.times) (e6 : 0 < s'.set → 0 < s.set) : PRep w' p s' V ∧ PMv V w V w' := by
  have hb := fun {k : Nat} (h1 : V.tag k < 7) (h2 : V.tag k ≠ 0) => h.far hf (a := 9) (fun r hr => by cases hr) (k := k) h1 h2 (by omega)
  refine ⟨⟨?_, fun j hj => (hf.frozen j).trans (h.fz j hj), by rw [e2]; exact h.mC.same (hb (by rw [h.tc]; omega) (by rw [h.tc]; omega)), by rw [e3]; exact h.mA.same (hb (by rw [h.ta]; omega) (by rw [h.ta]; omega)),
    fun c hc => (h.cc c (by rw [← e2]; exact hc)).same (hb (by rw [h.tq c (by rw [← e2]; exact hc)]; omega) (by rw [h.tq c (by rw [← e2]; exact hc)]; omega)), by rw [e1]; exact h.ru.same fun k hk => hb (by rw [h.tu k hk]; omega) (by rw [h.tu k hk]; omega), h.rt.same fun k hk => hb (by rw [h.tt k hk]; omega) (by rw [h.tt k hk]; omega),
    by rw [e5]; exact h.rm.same fun k hk => hb (by rw [h.tm k hk]; omega) (by rw [h.tm k hk]; omega), by rw [e4]; exact h.xp, h.xh, h.tp, h.tc, h.ta, h.tu, h.tt, h.tm, by rw [e2]; exact h.tq, by rw [e2]; exact h.qi, fun k hk => Nat.lt_of_lt_of_le (h.tl k hk) hf.size, fun hs => h.tg (e6 hs)⟩, h.mv hf (fun r hr => by cases hr)⟩
  refine cells_upd [j] h.kk (fun j hj => hf.cell j hj) ?_ ?_
  · intro i hi
    simp only [List.mem_cons, List.not_mem_nil, or_false] at hi
    rw [hL, List.getElem?_set_ne (Ne.symm hi)]
  · intro i hi u hu
    simp only [List.mem_cons, List.not_mem_nil, or_false] at hi
    subst hi
    rw [hL] at hu
    rw [List.getElem?_set_self'] at hu
    rw [hc]
    cases hx : (cellsP s V)[i]? with
    | none => rw [hx] at hu; cases hu
    | some y => rw [hx] at hu; exact hu

/-- The open attempts have changed. -/
theorem PRep.set_a (h : PRep w p s V) {l : List (Int × PAtt)} (hm : MapI Tryz.prog 3 okAtt w' V.ba (attL l)) (hk : Kp [V.ba] w w') : PRep w' p { s with atts := l } V ∧ PMv V w V w' := by
  have hb : ∀ {k : Nat}, V.tag k < 7 → V.tag k ≠ 2 → w'.heap[k]? = w.heap[k]? := fun {k} h1 h2 => hk.block k (h.tl k h1) (fun e => h2 (by
    have e' : k = V.ba := by simpa using e
    rw [e']
    exact h.ta))
  refine ⟨⟨fun j v hv => (World.cell?_of_block (hb (by rw [h.tp]; omega) (by rw [h.tp]; omega))).trans (h.kk j v hv), fun j hj => (World.frozen?_of_block (hb (by rw [h.tp]; omega) (by rw [h.tp]; omega))).trans (h.fz j hj), h.mC.same (hb (by rw [h.tc]; omega) (by rw [h.tc]; omega)), hm,
    fun c hc => (h.cc c hc).same (hb (by rw [h.tq c hc]; omega) (by rw [h.tq c hc]; omega)), h.ru.same fun k hk => hb (by rw [h.tu k hk]; omega) (by rw [h.tu k hk]; omega), h.rt.same fun k hk => hb (by rw [h.tt k hk]; omega) (by rw [h.tt k hk]; omega), h.rm.same fun k hk => hb (by rw [h.tm k hk]; omega) (by rw [h.tm k hk]; omega), h.xp, h.xh, h.tp, h.tc, h.ta, h.tu, h.tt, h.tm, h.tq, h.qi, fun k hk' => Nat.lt_of_lt_of_le (h.tl k hk') hk.size, h.tg⟩,
    ⟨hk.os, hk.tape, hk.output, hk.size, fun k hk' h7 => hk.block k hk' (fun e => by
      have : k = V.ba := by simpa using e
      rw [this, h.ta] at h7
      omega), fun _ h => .inl h⟩⟩

/-- A call is changed in place. -/
def updCall (n : Int) (f : PCall → PCall) (l : List PCall) : List PCall := l.map (fun d => if d.number = n then f d else d)
theorem callL_upd (n : Int) (f : PCall → PCall) (hf : ∀ d, (f d).number = d.number) (l : List PCall) (q : Int → Nat) : callL (updCall n f l) q = callL l q := by
  unfold callL updCall
  rw [List.map_map]
  apply List.map_congr_left
  intro d _
  simp only [Function.comp]
  split
  · rw [hf]
  · rfl
theorem nodup_inj {α β : Type} (f : α → β) : ∀ {l : List α}, (l.map f).Nodup → ∀ {x y : α}, x ∈ l → y ∈ l → f x = f y → x = y := by
  intro l
  induction l with
  | nil => intro _ x y hx; cases hx
  | cons a r ih =>
    intro hn x y hx hy e
    rw [List.map_cons, List.nodup_cons] at hn
    rcases List.mem_cons.1 hx with h1 | h1 <;> rcases List.mem_cons.1 hy with h2 | h2
    · rw [h1, h2]
    · exact absurd (show f a ∈ r.map f by rw [← h1, e]; exact List.mem_map_of_mem h2) hn.1
    · exact absurd (show f a ∈ r.map f by rw [← h2, ← e]; exact List.mem_map_of_mem h1) hn.1
    · exact ih hn.2 h1 h2 e
theorem PRep.set_call (h : PRep w p s V) {c : PCall} (hc : c ∈ s.calls) (f : PCall → PCall) (hf : ∀ d, (f d).number = d.number) (j : Nat) (v : Value) (hj : encPC (f c) = (encPC c).set j v) :
    PRep (w.setCell ⟨V.q c.number, j, none⟩ v) p { s with calls := updCall c.number f s.calls } V ∧ PMv V w V (w.setCell ⟨V.q c.number, j, none⟩ v) := by
  have hb := fun {k : Nat} (hk : k ≠ V.q c.number) => Below.heap_setCell w ⟨V.q c.number, j, none⟩ v k hk
  have hne : ∀ {k : Nat}, V.tag k ≠ 6 → k ≠ V.q c.number := fun hk e => hk (by rw [e]; exact h.tq c hc)
  have hnd : ∀ d ∈ s.calls, d.number = c.number → d = c := by
    have := h.mC.nodup
    unfold callL at this
    rw [List.map_map] at this
    intro d hd e
    exact nodup_inj (fun c : PCall => c.number) this hd hc e
  refine ⟨⟨fun i u hu => (World.cell?_of_block (hb (hne (by rw [h.tp]; omega)))).trans (h.kk i u hu), fun i hi => (World.frozen?_of_block (hb (hne (by rw [h.tp]; omega)))).trans (h.fz i hi), by
      show MapI _ _ _ _ _ (callL (updCall _ _ _) _)
      rw [callL_upd _ _ hf]
      exact h.mC.same (hb (hne (by rw [h.tc]; omega))), h.mA.same (hb (hne (by rw [h.ta]; omega))), ?_, h.ru.same fun k hk => hb (hne (by rw [h.tu k hk]; omega)), h.rt.same fun k hk => hb (hne (by rw [h.tt k hk]; omega)), h.rm.same fun k hk => hb (hne (by rw [h.tm k hk]; omega)), h.xp, h.xh, h.tp, h.tc, h.ta, h.tu, h.tt, h.tm, ?_, ?_, fun k hk => by simpa using h.tl k hk, h.tg⟩,
    ⟨rfl, rfl, rfl, by simp, fun k hk h7 => hb (fun e => by rw [e, h.tq c hc] at h7; omega), fun _ h => .inl h⟩⟩
  · intro d hd
    obtain ⟨d0, hd0, rfl⟩ := List.mem_map.1 hd
    by_cases e : d0.number = c.number
    · obtain rfl := hnd d0 hd0 e
      rw [if_pos rfl, hf]
      intro i u hu
      rw [hj] at hu
      by_cases hij : i = j
      · subst hij
        rw [List.getElem?_set_self'] at hu
        cases hx : (encPC d0)[i]? with
        | none => rw [hx] at hu; cases hu
        | some y =>
          rw [hx] at hu
          have hu' : v = u := by simpa using hu
          rw [← hu']
          exact ⟨World.cell?_setCell_same _ _ _ (h.cc d0 hd0 i y hx).1, by rw [World.frozen?_setCell]; exact (h.cc d0 hd0 i y hx).2⟩
      · rw [List.getElem?_set_ne (Ne.symm hij)] at hu
        exact ⟨(World.cell?_setCell_other _ _ _ _ (fun e' => hij (by simp at e'))).trans (h.cc d0 hd0 i u hu).1, by rw [World.frozen?_setCell]; exact (h.cc d0 hd0 i u hu).2⟩
    · rw [if_neg e]
      exact (h.cc d0 hd0).same (hb (fun e' => e (h.qi d0 hd0 c hc e')))
  · intro d hd
    obtain ⟨d0, hd0, rfl⟩ := List.mem_map.1 hd
    split
    · rw [hf]; exact h.tq d0 hd0
    · exact h.tq d0 hd0
  · intro d hd e he
    obtain ⟨d0, hd0, rfl⟩ := List.mem_map.1 hd
    obtain ⟨e0, he0, rfl⟩ := List.mem_map.1 he
    have := h.qi d0 hd0 e0 he0
    split <;> split <;> (try simp only [hf]) <;> exact this
end
end Go.Proofs.YtlccfpbbdgpjbaaGreatDoor
