import Derived.Test.YtlccfpbbdgpjbaaGreatDoorZLA
import Derived.Test.YtlccfpbbdgpjbaaGreatDoorRState
import Derived.Test.YtlccfpbbdgpjbaaGreatDoorCState4
import Derived.Test.YtlccfpbbdgpjbaaGreatDoorZDelay
namespace Go.Proofs.YtlccfpbbdgpjbaaGreatDoor
open Go.RowKit

/-- A client of the program and the document's beside it. -/
structure Cl where
  x : Nat
  s : PSt
  V : PV
  y : Nat
  r : St
  U : V6
def encPtr (b : Nat) : List Value := [.pointer (some ⟨b, 0, none⟩)]
theorem encPtr_len (b : Nat) : (encPtr b).length = 1 := rfl

/-- An entry of the book: a list of n entries, the three longer ones, its mark. -/
structure En where
  l : Value
  a : Value
  b : Value
  c : Value
  m : Int
  n : Nat
def encEn (e : En) : List Value := [e.l, e.a, e.b, e.c, .int .i64 e.m]
theorem encEn_len (e : En) : (encEn e).length = 5 := rfl
def En.own (e : En) (k : Nat) : Prop := e.l.ownBlock = some k ∨ e.a.ownBlock = some k ∨ e.b.ownBlock = some k ∨ e.c.ownBlock = some k

/-- Each of the four lists reads full of x. -/
structure Good {α : Type} (t size : Nat) (enc : α → List Value) (x : α) (w : World) (e : En) : Prop where
  l : Row w 0 t size enc e.l (List.replicate e.n x)
  a : Row w 0 t size enc e.a (List.replicate (e.n + 1) x)
  b : Row w 0 t size enc e.b (List.replicate (e.n + 2) x)
  c : Row w 0 t size enc e.c (List.replicate (e.n + 3) x)
theorem Good.same {α : Type} {t size : Nat} {enc : α → List Value} {x : α} {w w' : World} {e : En} (h : Good t size enc x w e) (hk : ∀ k, e.own k → w'.heap[k]? = w.heap[k]?) : Good t size enc x w' e :=
  ⟨h.l.same fun k e => hk k (.inl e), h.a.same fun k e => hk k (.inr (.inl e)), h.b.same fun k e => hk k (.inr (.inr (.inl e))), h.c.same fun k e => hk k (.inr (.inr (.inr e)))⟩
theorem Good.lt {α : Type} {t size : Nat} {enc : α → List Value} {x : α} {w : World} {e : En} (h : Good t size enc x w e) : ∀ k, e.own k → k < w.heap.size := by
  rintro k (e | e | e | e)
  · exact (h.l.lt k e).2
  · exact (h.a.lt k e).2
  · exact (h.b.lt k e).2
  · exact (h.c.lt k e).2

def markA (m : Int) : RAct := ⟨0, 0, 0, 0, m, 0⟩
def GoodI (w : World) (e : En) : Prop := Good 3 1 encI e.m w e
def GoodA (w : World) (e : En) : Prop := Good 55 6 encAct (markA e.m) w e

/-- The parts of a World. -/
inductive Ix
  | hd | rx | ry | ri | ra
  | pr (k : Nat) | dr (k : Nat) | li (k : Nat) | la (k : Nat)

structure LV where
  G : Nat
  vx : Value
  vy : Value
  vi : Value
  va : Value
  cs : List Cl
  is : List En
  ac : List En

/-- The blocks of a part. -/
def lown (L : LV) : Ix → Nat → Prop
  | .hd => fun k => k = L.G
  | .rx => fun k => L.vx.ownBlock = some k
  | .ry => fun k => L.vy.ownBlock = some k
  | .ri => fun k => L.vi.ownBlock = some k
  | .ra => fun k => L.va.ownBlock = some k
  | .pr i => fun k => ∃ c, L.cs[i]? = some c ∧ c.V.tag k < 7
  | .dr i => fun k => ∃ c, L.cs[i]? = some c ∧ own c.y c.U k
  | .li i => fun k => ∃ e, L.is[i]? = some e ∧ e.own k
  | .la i => fun k => ∃ e, L.ac[i]? = some e ∧ e.own k

def cellsL (L : LV) : List Value := [L.vx, L.vy, .int .i64 ((L.is.length : Int) + L.ac.length), L.vi, L.va]

/-- What a part says. -/
def Says (w : World) (L : LV) : Ix → Prop
  | .hd => (∀ j v, (cellsL L)[j]? = some v → w.cell? ⟨L.G, j, none⟩ = some v) ∧ ∀ j, j < 5 → w.frozen? ⟨L.G, j, none⟩ = false
  | .rx => Row w 0 47 1 encPtr L.vx (L.cs.map (·.x))
  | .ry => Row w 0 75 1 encPtr L.vy (L.cs.map (·.y))
  | .ri => Row w 0 126 5 encEn L.vi L.is
  | .ra => Row w 0 129 5 encEn L.va L.ac
  | .pr i => ∀ c, L.cs[i]? = some c → PRep w c.x c.s c.V
  | .dr i => ∀ c, L.cs[i]? = some c → Rep w c.y c.r c.U
  | .li i => ∀ e, L.is[i]? = some e → GoodI w e
  | .la i => ∀ e, L.ac[i]? = some e → GoodA w e

theorem says_keep {w w' : World} {L : LV} (i : Ix) (h : Says w L i) (hs : w.heap.size ≤ w'.heap.size) (hk : ∀ k, lown L i k → w'.heap[k]? = w.heap[k]?) : Says w' L i := by
  cases i with
  | hd => exact ⟨fun j v hv => (World.cell?_of_block (a := ⟨L.G, j, none⟩) (hk L.G rfl)).trans (h.1 j v hv), fun j hj => (World.frozen?_of_block (a := ⟨L.G, j, none⟩) (hk L.G rfl)).trans (h.2 j hj)⟩
  | rx => exact Row.same h hk
  | ry => exact Row.same h hk
  | ri => exact Row.same h hk
  | ra => exact Row.same h hk
  | pr i => exact fun c hc => (h c hc).keep hs fun k hk' => hk k ⟨c, hc, hk'⟩
  | dr i => exact fun c hc => (h c hc).keep fun k hk' => hk k ⟨c, hc, hk'⟩
  | li i => exact fun e he => Good.same (h e he) fun k hk' => hk k ⟨e, he, hk'⟩
  | la i => exact fun e he => Good.same (h e he) fun k hk' => hk k ⟨e, he, hk'⟩

theorem says_lt {w : World} {L : LV} (i : Ix) (h : Says w L i) : ∀ k, lown L i k → k < w.heap.size := by
  cases i with
  | hd => intro k hk; rw [show k = L.G from hk]; exact World.block_lt_of_cell? w _ (h.1 0 _ rfl)
  | rx => exact fun k hk => (Row.lt h k hk).2
  | ry => exact fun k hk => (Row.lt h k hk).2
  | ri => exact fun k hk => (Row.lt h k hk).2
  | ra => exact fun k hk => (Row.lt h k hk).2
  | pr i => rintro k ⟨c, hc, hk⟩; exact (h c hc).tl k hk
  | dr i => rintro k ⟨c, hc, j, hk⟩; exact (h c hc).lt j k hk
  | li i => rintro k ⟨e, he, hk⟩; exact Good.lt (h e he) k hk
  | la i => rintro k ⟨e, he, hk⟩; exact Good.lt (h e he) k hk

/-- What is plainly known of a client and the document's. -/
structure Beside2 (N : Int) (s : PSt) (r : St) : Prop where
  sim : Sim N s r
  inv : Inv N s
  sp : SP s
  st : s.stale ≤ N
theorem Beside2.mono {N M : Int} {s : PSt} {r : St} (h : Beside2 N s r) (hM : N ≤ M) : Beside2 M s r := ⟨h.sim.mono hM, h.inv.mono hM, h.sp, by have := h.st; omega⟩
theorem Beside2.step {N : Int} {s : PSt} {r : St} (h : Beside2 N s r) (e : PEv) : Beside2 (N + 1) (stepM s e) (stepR r e) :=
  ⟨(sim_step h.sim h.inv e).1, inv_step h.inv e, (sp_step h.inv h.sp e).1, by have := (sp_step h.inv h.sp e).2; have := h.st; omega⟩

def Bes (L : LV) (N : Int) : Prop := ∀ (i : Nat) (c : Cl), L.cs[i]? = some c → Beside2 N c.s c.r
structure Law (W w : World) (L : LV) (N : Int) : Prop where
  says : ∀ i, Says w L i
  ap : ∀ i j, i ≠ j → ∀ k, lown L i k → ¬ lown L j k
  cl : L.cs.length ≤ 3
  nl : (L.is.length : Int) + L.ac.length ≤ 3 * N
  ml : ∀ (i : Nat) (e : En), (L.is[i]? = some e ∨ L.ac[i]? = some e) → (e.n : Int) ≤ 1440000000000
  low : ∀ i k, lown L i k → W.heap.size ≤ k
  below : Below W.heap.size W w

/-- From L in w to L' in w': only the parts in S have turned, and the blocks E, which were none's. -/
structure Chg (S : Ix → Prop) (E : Nat → Prop) (w : World) (L : LV) (w' : World) (L' : LV) : Prop where
  os : w'.os = w.os
  tape : w'.tape = w.tape
  output : w'.output = w.output
  size : w.heap.size ≤ w'.heap.size
  block : ∀ k, k < w.heap.size → (∀ i, S i → ¬ lown L i k) → ¬ E k → w'.heap[k]? = w.heap[k]?
  same : ∀ i, ¬ S i → ∀ k, lown L' i k → lown L i k
  news : ∀ i, S i → ∀ k, lown L' i k → (∃ j, S j ∧ lown L j k) ∨ E k ∨ w.heap.size ≤ k

/-- A list in flight: none of the World's. -/
def Free (L : LV) (v : Value) : Prop := ∀ k, v.ownBlock = some k → ∀ i, ¬ lown L i k
theorem Chg.free {S : Ix → Prop} {E : Nat → Prop} {w w' : World} {L L' : LV} (h : Chg S E w L w' L') {v : Value} (hv : Free L v) (hl : ∀ k, v.ownBlock = some k → k < w.heap.size ∧ ¬ E k) : Free L' v := fun k hk i hi => by
  by_cases hs : S i
  · rcases h.news i hs k hi with ⟨j, _, hj⟩ | hj | hj
    · exact hv k hk j hj
    · exact (hl k hk).2 hj
    · have := (hl k hk).1
      omega
  · exact hv k hk i (h.same i hs k hi)
theorem Chg.row {α : Type} {S : Ix → Prop} {E : Nat → Prop} {w w' : World} {L L' : LV} (h : Chg S E w L w' L') {b e size : Nat} {enc : α → List Value} {v : Value} {xs : List α} (r : Row w b e size enc v xs) (hv : Free L v) (hE : ∀ k, v.ownBlock = some k → ¬ E k) : Row w' b e size enc v xs :=
  r.same fun k hk => h.block k (r.lt k hk).2 (fun i _ => hv k hk i) (hE k hk)
theorem Chg.of_below {S : Ix → Prop} {E : Nat → Prop} {w w' : World} {L : LV} (hb : Below w.heap.size w w') : Chg S E w L w' L := ⟨hb.os, hb.tape, hb.output, hb.size, fun k hk _ _ => hb.block k hk, fun _ _ _ h => h, fun i hi _ h => .inl ⟨i, hi, h⟩⟩

theorem Law.change {W w w' : World} {L L' : LV} {N N' : Int} {S : Ix → Prop} {E : Nat → Prop} (h : Law W w L N) (hc : Chg S E w L w' L') (hE : ∀ k, E k → W.heap.size ≤ k ∧ ∀ i, ¬ lown L i k) (hold : ∀ i, ¬ S i → Says w' L i → Says w' L' i) (hnew : ∀ i, S i → Says w' L' i)
    (hin : ∀ i j, S i → S j → i ≠ j → ∀ k, lown L' i k → ¬ lown L' j k) (hcl : L'.cs.length ≤ 3) (hnl : (L'.is.length : Int) + L'.ac.length ≤ 3 * N') (hml : ∀ (i : Nat) (e : En), (L'.is[i]? = some e ∨ L'.ac[i]? = some e) → (e.n : Int) ≤ 1440000000000) : Law W w' L' N' := by
  have hlt := fun i => says_lt i (h.says i)
  refine ⟨fun i => ?_, fun i j hij k hi hj => ?_, hcl, hnl, hml, fun i k hi => ?_, ?_⟩
  · by_cases hs : S i
    · exact hnew i hs
    · refine hold i hs (says_keep i (h.says i) hc.size fun k hk => hc.block k (hlt i k hk) (fun j hj hjk => ?_) (fun he => (hE k he).2 i hk))
      exact h.ap i j (fun e => hs (by rw [e]; exact hj)) k hk hjk
  · by_cases si : S i
    · by_cases sj : S j
      · exact hin i j si sj hij k hi hj
      · have h2 := hc.same j sj k hj
        rcases hc.news i si k hi with ⟨i', si', h1⟩ | h1 | h1
        · exact h.ap i' j (fun e => sj (by rw [← e]; exact si')) k h1 h2
        · exact (hE k h1).2 j h2
        · have := hlt j k h2
          omega
    · have h1 := hc.same i si k hi
      by_cases sj : S j
      · rcases hc.news j sj k hj with ⟨j', sj', h2⟩ | h2 | h2
        · exact h.ap i j' (fun e => si (by rw [e]; exact sj')) k h1 h2
        · exact (hE k h2).2 i h1
        · have := hlt i k h1
          omega
      · exact h.ap i j hij k h1 (hc.same j sj k hj)
  · by_cases si : S i
    · rcases hc.news i si k hi with ⟨j, _, hj⟩ | h1 | h1
      · exact h.low j k hj
      · exact (hE k h1).1
      · exact Nat.le_trans h.below.size h1
    · exact h.low i k (hc.same i si k hi)
  · exact ⟨hc.os.trans h.below.os, hc.tape.trans h.below.tape, hc.output.trans h.below.output, Nat.le_trans h.below.size hc.size,
      fun k hk => (hc.block k (Nat.lt_of_lt_of_le hk h.below.size) (fun i _ hi => by have := h.low i k hi; omega) (fun he => by have := (hE k he).1; omega)).trans (h.below.block k hk)⟩

theorem Law.on {W w w' : World} {L : LV} {N : Int} (h : Law W w L N) (hb : Below w.heap.size w w') : Law W w' L N :=
  h.change (S := fun _ => False) (E := fun _ => False) (Chg.of_below hb) (fun _ h => h.elim) (fun _ _ h => h) (fun _ h => h.elim) (fun _ _ h => h.elim) h.cl h.nl h.ml
theorem Law.mono {W w : World} {L : LV} {N M : Int} (h : Law W w L N) (hM : N ≤ M) : Law W w L M :=
  ⟨h.says, h.ap, h.cl, by have := h.nl; omega, h.ml, h.low, h.below⟩

theorem set_self {α : Type} {l : List α} {i : Nat} {x : α} (h : l[i]? = some x) : l.set i x = l := by
  obtain ⟨hl, rfl⟩ := List.getElem?_eq_some_iff.1 h
  exact List.set_getElem_self hl

/-- The program's client i has made a step. -/
theorem Law.prog {W w w' : World} {L : LV} {N : Int} (h : Law W w L N) {i : Nat} {c : Cl} (hi : L.cs[i]? = some c) {s' : PSt} {V' : PV} (hr : PRep w' c.x s' V') (hm : PMv c.V w V' w') :
    Chg (fun j => j = .pr i) (fun _ => False) w L w' { L with cs := L.cs.set i { c with s := s', V := V' } } ∧ Law W w' { L with cs := L.cs.set i { c with s := s', V := V' } } N := by
  have hl : i < L.cs.length := (List.getElem?_eq_some_iff.1 hi).1
  have hget : ∀ j, (L.cs.set i { c with s := s', V := V' })[j]? = if j = i then some { c with s := s', V := V' } else L.cs[j]? := fun j => by
    rw [List.getElem?_set]
    by_cases e : j = i
    · rw [if_pos e.symm, if_pos (by omega), if_pos e]
    · rw [if_neg (fun h => e h.symm), if_neg e]
  have hdr : ∀ j k, (∃ d : Cl, (L.cs.set i { c with s := s', V := V' })[j]? = some d ∧ own d.y d.U k) → ∃ d : Cl, L.cs[j]? = some d ∧ own d.y d.U k := fun j k hq => by
    obtain ⟨d, hd, hk⟩ := hq
    rw [hget] at hd
    by_cases e : j = i
    · rw [if_pos e] at hd
      cases hd
      exact ⟨c, by rw [e]; exact hi, hk⟩
    · rw [if_neg e] at hd
      exact ⟨d, hd, hk⟩
  have hchg : Chg (fun j => j = .pr i) (fun _ => False) w L w' { L with cs := L.cs.set i { c with s := s', V := V' } } := by
    refine ⟨hm.os, hm.tape, hm.output, hm.size, fun k hk hn _ => hm.block k hk ?_, fun j hj k hk => ?_, fun j hj k hk => ?_⟩
    · rcases Nat.lt_or_ge (c.V.tag k) 7 with h7 | h7
      · exact absurd ⟨c, hi, h7⟩ (hn _ rfl)
      · exact h7
    · cases j with
      | pr j =>
        obtain ⟨d, hd, hk⟩ := hk
        rw [hget, if_neg (fun e => hj (by rw [e]))] at hd
        exact ⟨d, hd, hk⟩
      | dr j => exact hdr j k hk
      | hd => exact hk
      | rx => exact hk
      | ry => exact hk
      | ri => exact hk
      | ra => exact hk
      | li j => exact hk
      | la j => exact hk
    · subst hj
      obtain ⟨d, hd, hk⟩ := hk
      rw [hget, if_pos rfl] at hd
      cases hd
      exact (hm.news k hk).imp (fun h => ⟨_, rfl, c, hi, h⟩) .inr
  refine ⟨hchg, h.change hchg (fun _ h => h.elim) (fun j hj hs => ?_) (fun j hj => ?_) (fun a b ha hb hab => absurd (ha.trans hb.symm) hab) (by simpa using h.cl) h.nl h.ml⟩
  · cases j with
    | hd => exact hs
    | rx => have e : (L.cs.set i { c with s := s', V := V' }).map (·.x) = L.cs.map (·.x) := by
              rw [List.map_set]
              exact set_self (by rw [List.getElem?_map, hi]; rfl)
            show Row w' 0 _ 1 encPtr L.vx _
            rw [e]; exact hs
    | ry => have e : (L.cs.set i { c with s := s', V := V' }).map (·.y) = L.cs.map (·.y) := by
              rw [List.map_set]
              exact set_self (by rw [List.getElem?_map, hi]; rfl)
            show Row w' 0 _ 1 encPtr L.vy _
            rw [e]; exact hs
    | ri => exact hs
    | ra => exact hs
    | pr j => intro d hd
              rw [hget, if_neg (fun e => hj (by rw [e]))] at hd
              exact hs d hd
    | dr j => intro d hd
              rw [hget] at hd
              by_cases e : j = i
              · rw [if_pos e] at hd
                cases hd
                exact hs c (by rw [e]; exact hi)
              · rw [if_neg e] at hd
                exact hs d hd
    | li j => exact hs
    | la j => exact hs
  · subst hj
    intro d hd
    rw [hget, if_pos rfl] at hd
    cases hd
    exact hr

/-- The document's client i has made a step. -/
theorem Law.doc {W w w' : World} {L : LV} {N : Int} (h : Law W w L N) {i : Nat} {c : Cl} (hi : L.cs[i]? = some c) {r' : St} {U' : V6} (hr : Rep w' c.y r' U') (hm : Mv c.y c.U w U' w') :
    Chg (fun j => j = .dr i) (fun _ => False) w L w' { L with cs := L.cs.set i { c with r := r', U := U' } } ∧ Law W w' { L with cs := L.cs.set i { c with r := r', U := U' } } N := by
  have hl : i < L.cs.length := (List.getElem?_eq_some_iff.1 hi).1
  have hget : ∀ j, (L.cs.set i { c with r := r', U := U' })[j]? = if j = i then some { c with r := r', U := U' } else L.cs[j]? := fun j => by
    rw [List.getElem?_set]
    by_cases e : j = i
    · rw [if_pos e.symm, if_pos (by omega), if_pos e]
    · rw [if_neg (fun h => e h.symm), if_neg e]
  have hpr : ∀ j k, (∃ d : Cl, (L.cs.set i { c with r := r', U := U' })[j]? = some d ∧ d.V.tag k < 7) → ∃ d : Cl, L.cs[j]? = some d ∧ d.V.tag k < 7 := fun j k hq => by
    obtain ⟨d, hd, hk⟩ := hq
    rw [hget] at hd
    by_cases e : j = i
    · rw [if_pos e] at hd
      cases hd
      exact ⟨c, by rw [e]; exact hi, hk⟩
    · rw [if_neg e] at hd
      exact ⟨d, hd, hk⟩
  have hchg : Chg (fun j => j = .dr i) (fun _ => False) w L w' { L with cs := L.cs.set i { c with r := r', U := U' } } := by
    refine ⟨hm.os, hm.tape, hm.output, hm.size, fun k hk hn _ => hm.block k hk (fun ho => hn _ rfl ⟨c, hi, ho⟩), fun j hj k hk => ?_, fun j hj k hk => ?_⟩
    · cases j with
      | dr j =>
        obtain ⟨d, hd, hk⟩ := hk
        rw [hget, if_neg (fun e => hj (by rw [e]))] at hd
        exact ⟨d, hd, hk⟩
      | pr j => exact hpr j k hk
      | hd => exact hk
      | rx => exact hk
      | ry => exact hk
      | ri => exact hk
      | ra => exact hk
      | li j => exact hk
      | la j => exact hk
    · subst hj
      obtain ⟨d, hd, hk⟩ := hk
      rw [hget, if_pos rfl] at hd
      cases hd
      exact (hm.news k hk).imp (fun h => ⟨_, rfl, c, hi, h⟩) .inr
  refine ⟨hchg, h.change hchg (fun _ h => h.elim) (fun j hj hs => ?_) (fun j hj => ?_) (fun a b ha hb hab => absurd (ha.trans hb.symm) hab) (by simpa using h.cl) h.nl h.ml⟩
  · cases j with
    | hd => exact hs
    | rx => have e : (L.cs.set i { c with r := r', U := U' }).map (·.x) = L.cs.map (·.x) := by
              rw [List.map_set]
              exact set_self (by rw [List.getElem?_map, hi]; rfl)
            show Row w' 0 _ 1 encPtr L.vx _
            rw [e]; exact hs
    | ry => have e : (L.cs.set i { c with r := r', U := U' }).map (·.y) = L.cs.map (·.y) := by
              rw [List.map_set]
              exact set_self (by rw [List.getElem?_map, hi]; rfl)
            show Row w' 0 _ 1 encPtr L.vy _
            rw [e]; exact hs
    | ri => exact hs
    | ra => exact hs
    | dr j => intro d hd
              rw [hget, if_neg (fun e => hj (by rw [e]))] at hd
              exact hs d hd
    | pr j => intro d hd
              rw [hget] at hd
              by_cases e : j = i
              · rw [if_pos e] at hd
                cases hd
                exact hs c (by rw [e]; exact hi)
              · rw [if_neg e] at hd
                exact hs d hd
    | li j => exact hs
    | la j => exact hs
  · subst hj
    intro d hd
    rw [hget, if_pos rfl] at hd
    cases hd
    exact hr
end Go.Proofs.YtlccfpbbdgpjbaaGreatDoor

namespace Go.Proofs.YtlccfpbbdgpjbaaGreatDoor
open Go.RowKit

theorem Fr.grown {p : Nat} {J : List Nat} {o : Option Nat} {w wa w1 : World} (h : Fr p J o.toList w wa) (hp : p < w.heap.size) (hg : wa.grownBy w1 o) (hpo : o ≠ some p) : Fr p J o.toList w w1 :=
  have hpa := Nat.lt_of_lt_of_le hp h.size
  ⟨hg.os.trans h.os, hg.tape.trans h.tape, hg.output.trans h.output, Nat.le_trans h.size hg.size,
    fun k hk hkp hkr => (hg.block k (Nat.lt_of_lt_of_le hk h.size) (fun e => hkr (by rw [← e]; simp))).trans (h.block k hk hkp hkr),
    fun j hj => (hg.cell_far ⟨p, j, none⟩ hpa (fun e => hpo e.symm)).trans (h.cell j hj), fun j => (hg.frozen_far ⟨p, j, none⟩ hpa (fun e => hpo e.symm)).trans (h.frozen j)⟩

/-- In the midst of a function of the book: the list is full, 'done' of the longer ones are made, the entry lies at bx. -/
structure Stg {α : Type} (t size tx : Nat) (enc : α → List Value) (x : α) (w : World) (G : Nat) (v2 : Value) (bx : Nat) (en : En) (wk : World) (done : Nat) : Prop where
  fr : Fr G [2] en.l.ownBlock.toList w wk
  c2 : wk.cell? ⟨G, 2, none⟩ = some v2
  xb : wk.heap[bx]? = some (.cells (encEn en).toArray tx (0, 0))
  rl : Row wk 0 t size enc en.l (List.replicate en.n x)
  ra : 1 ≤ done → Row wk 0 t size enc en.a (List.replicate (en.n + 1) x)
  rb : 2 ≤ done → Row wk 0 t size enc en.b (List.replicate (en.n + 2) x)
  rc : 3 ≤ done → Row wk 0 t size enc en.c (List.replicate (en.n + 3) x)
  oa : ∀ q, en.a.ownBlock = some q → (en.l.ownBlock = some q ∨ w.heap.size ≤ q) ∧ q ≠ bx
  ob : ∀ q, en.b.ownBlock = some q → (en.l.ownBlock = some q ∨ w.heap.size ≤ q) ∧ q ≠ bx
  oc : ∀ q, en.c.ownBlock = some q → (en.l.ownBlock = some q ∨ w.heap.size ≤ q) ∧ q ≠ bx
  bw : w.heap.size ≤ bx
  gw : G < w.heap.size
  lG : en.l.ownBlock ≠ some G
  ll : ∀ q, en.l.ownBlock = some q → q < w.heap.size

section
variable {α : Type} {t size tx : Nat} {enc : α → List Value} {x : α} {w : World} {G : Nat} {v2 : Value} {bx : Nat} {en : En} {wk : World}

theorem Stg.bxk {d : Nat} (h : Stg t size tx enc x w G v2 bx en wk d) : bx < wk.heap.size := (Array.getElem?_eq_some_iff.1 h.xb).1

/-- One longer list more, and its store. -/
theorem Stg.grow {d : Nat} (h : Stg t size tx enc x w G v2 bx en wk d) (hsz : 0 < size) (hm : ∀ x, (enc x).length = size) {o : Obj} {w1 : World} {g cap k j : Nat}
    (hown : w1.ownsRow 0 t size (.slice (some ⟨g, 0, none⟩) (en.n + k) cap) (en.n + k) ((List.replicate en.n x).flatMap enc ++ (List.replicate k x).flatMap enc)) (hgrow : (wk.alloc o).grownBy w1 en.l.ownBlock)
    (hat : en.l.ownBlock = some g ∨ g = wk.heap.size + 1 ∧ (wk.alloc o).grownBy w1 none) (hl' : w1.ownsRow 0 t size en.l en.n ((List.replicate en.n x).flatMap enc)) :
    w1.heap[bx]? = some (.cells (encEn en).toArray tx (0, 0)) ∧
    Fr G [2] en.l.ownBlock.toList w (w1.setCell ⟨bx, j, none⟩ (.slice (some ⟨g, 0, none⟩) (en.n + k) cap)) ∧ (w1.setCell ⟨bx, j, none⟩ (.slice (some ⟨g, 0, none⟩) (en.n + k) cap)).cell? ⟨G, 2, none⟩ = some v2 ∧
    (w1.setCell ⟨bx, j, none⟩ (.slice (some ⟨g, 0, none⟩) (en.n + k) cap)).heap[bx]? = some (.cells ((encEn en).set j (.slice (some ⟨g, 0, none⟩) (en.n + k) cap)).toArray tx (0, 0)) ∧
    Row (w1.setCell ⟨bx, j, none⟩ (.slice (some ⟨g, 0, none⟩) (en.n + k) cap)) 0 t size enc en.l (List.replicate en.n x) ∧
    (∀ a p, Row wk 0 t size enc a (List.replicate p x) → p ≤ en.n + k → (∀ q, a.ownBlock = some q → q ≠ bx) → Row (w1.setCell ⟨bx, j, none⟩ (.slice (some ⟨g, 0, none⟩) (en.n + k) cap)) 0 t size enc a (List.replicate p x)) ∧
    Row (w1.setCell ⟨bx, j, none⟩ (.slice (some ⟨g, 0, none⟩) (en.n + k) cap)) 0 t size enc (.slice (some ⟨g, 0, none⟩) (en.n + k) cap) (List.replicate (en.n + k) x) ∧
    (en.l.ownBlock = some g ∨ w.heap.size ≤ g) ∧ g ≠ bx := by
  have hA : Below wk.heap.size wk (wk.alloc o) := (Below.refl _ _).alloc (Nat.le_refl _) _
  have hbk := h.bxk
  have lbx : en.l.ownBlock ≠ some bx := fun e => by have := h.ll bx e; have := h.bw; omega
  have hfrA : Fr G [2] en.l.ownBlock.toList w (wk.alloc o) := h.fr.trans (Fr.of_below (J := []) (R := []) (Nat.lt_of_lt_of_le h.gw h.fr.size) hA) (fun j hj => ⟨hj, fun h => by cases h⟩) (fun r hr => by cases hr)
  have hfr1 := hfrA.grown h.gw hgrow h.lG
  have gbx : g ≠ bx := by
    rcases hat with e | ⟨e, _⟩
    · intro e'
      exact lbx (by rw [e, e'])
    · omega
  have gG : G ≠ bx := by have := h.gw; have := h.bw; omega
  have hb1 : w1.heap[bx]? = some (.cells (encEn en).toArray tx (0, 0)) := (hgrow.block bx (by simp; omega) (fun e => lbx e.symm)).trans ((hA.block bx hbk).trans h.xb)
  have rep : (List.replicate en.n x).flatMap enc ++ (List.replicate k x).flatMap enc = (List.replicate (en.n + k) x).flatMap enc := by rw [← List.flatMap_append, List.replicate_append_replicate]
  have hnew1 : Row w1 0 t size enc (.slice (some ⟨g, 0, none⟩) (en.n + k) cap) (List.replicate (en.n + k) x) := by
    unfold Row
    rw [List.length_replicate, ← rep]
    exact hown
  have hl1 : Row w1 0 t size enc en.l (List.replicate en.n x) := by
    unfold Row
    rw [List.length_replicate]
    exact hl'
  have hlk : Row (wk.alloc o) 0 t size enc en.l (List.replicate en.n x) := h.rl.below hA
  have st : ∀ {v : Value} {p : Nat}, Row w1 0 t size enc v (List.replicate p x) → (∀ q, v.ownBlock = some q → q ≠ bx) → Row (w1.setCell ⟨bx, j, none⟩ (.slice (some ⟨g, 0, none⟩) (en.n + k) cap)) 0 t size enc v (List.replicate p x) := fun r hq => r.same fun q e => Below.heap_setCell _ _ _ _ (hq q e)
  refine ⟨hb1, ?_, ?_, ?_, st hl1 (fun q e e' => lbx (by rw [e, e'])), ?_, st hnew1 ?_, ?_, gbx⟩
  · exact hfr1.setNew h.gw h.bw _
  · rw [World.cell?_of_block (a := ⟨G, 2, none⟩) (Below.heap_setCell _ _ _ _ gG), hgrow.cell_far ⟨G, 2, none⟩ (Nat.lt_of_lt_of_le h.gw hfrA.size) (fun e => h.lG e.symm), hA.cell (p := ⟨G, 2, none⟩) (Nat.lt_of_lt_of_le h.gw h.fr.size)]
    exact h.c2
  · have : (encEn en).length = 5 := rfl
    simp [World.setCell, Array.getElem?_modify, hb1]
  · intro a p ha hp hq
    exact st (keeps_row hsz hm hlk (ha.below hA) hl1 hnew1 hp hgrow (hat.imp id (·.2))) hq
  · intro q e
    have : g = q := by simpa [Value.ownBlock] using e
    rw [← this]
    exact gbx
  · rcases hat with e | ⟨e, _⟩
    · exact .inl e
    · right
      have := h.fr.size
      omega

theorem Stg.app1 (h : Stg t size tx enc x w G v2 bx en wk 0) (hsz : 0 < size) (hm : ∀ x, (enc x).length = size) {o : Obj} {w1 : World} {g cap : Nat}
    (hown : w1.ownsRow 0 t size (.slice (some ⟨g, 0, none⟩) (en.n + 1) cap) (en.n + 1) ((List.replicate en.n x).flatMap enc ++ (List.replicate 1 x).flatMap enc)) (hgrow : (wk.alloc o).grownBy w1 en.l.ownBlock)
    (hat : en.l.ownBlock = some g ∨ g = wk.heap.size + 1 ∧ (wk.alloc o).grownBy w1 none) (hl' : w1.ownsRow 0 t size en.l en.n ((List.replicate en.n x).flatMap enc)) :
    w1.heap[bx]? = some (.cells (encEn en).toArray tx (0, 0)) ∧ Stg t size tx enc x w G v2 bx { en with a := .slice (some ⟨g, 0, none⟩) (en.n + 1) cap } (w1.setCell ⟨bx, 1, none⟩ (.slice (some ⟨g, 0, none⟩) (en.n + 1) cap)) 1 := by
  obtain ⟨g1, g2, g3, g4, g5, g6, g7, g8, g9⟩ := h.grow hsz hm (j := 1) hown hgrow hat hl'
  have ho : ∀ q, (Value.slice (some ⟨g, 0, none⟩) (en.n + 1) cap).ownBlock = some q → (en.l.ownBlock = some q ∨ w.heap.size ≤ q) ∧ q ≠ bx := fun q e => by
    have e' : g = q := by simpa [Value.ownBlock] using e
    subst e'
    exact ⟨g8, g9⟩
  exact ⟨g1, g2, g3, g4, g5, fun _ => g7, fun h => absurd h (by omega), fun h => absurd h (by omega), ho, h.ob, h.oc, h.bw, h.gw, h.lG, h.ll⟩
theorem Stg.app2 (h : Stg t size tx enc x w G v2 bx en wk 1) (hsz : 0 < size) (hm : ∀ x, (enc x).length = size) {o : Obj} {w1 : World} {g cap : Nat}
    (hown : w1.ownsRow 0 t size (.slice (some ⟨g, 0, none⟩) (en.n + 2) cap) (en.n + 2) ((List.replicate en.n x).flatMap enc ++ (List.replicate 2 x).flatMap enc)) (hgrow : (wk.alloc o).grownBy w1 en.l.ownBlock)
    (hat : en.l.ownBlock = some g ∨ g = wk.heap.size + 1 ∧ (wk.alloc o).grownBy w1 none) (hl' : w1.ownsRow 0 t size en.l en.n ((List.replicate en.n x).flatMap enc)) :
    w1.heap[bx]? = some (.cells (encEn en).toArray tx (0, 0)) ∧ Stg t size tx enc x w G v2 bx { en with b := .slice (some ⟨g, 0, none⟩) (en.n + 2) cap } (w1.setCell ⟨bx, 2, none⟩ (.slice (some ⟨g, 0, none⟩) (en.n + 2) cap)) 2 := by
  obtain ⟨g1, g2, g3, g4, g5, g6, g7, g8, g9⟩ := h.grow hsz hm (j := 2) hown hgrow hat hl'
  have ho : ∀ q, (Value.slice (some ⟨g, 0, none⟩) (en.n + 2) cap).ownBlock = some q → (en.l.ownBlock = some q ∨ w.heap.size ≤ q) ∧ q ≠ bx := fun q e => by
    have e' : g = q := by simpa [Value.ownBlock] using e
    subst e'
    exact ⟨g8, g9⟩
  exact ⟨g1, g2, g3, g4, g5, fun _ => g6 en.a (en.n + 1) (h.ra (by omega)) (by omega) (fun q e => (h.oa q e).2), fun _ => g7, fun h => absurd h (by omega), h.oa, ho, h.oc, h.bw, h.gw, h.lG, h.ll⟩
theorem Stg.app3 (h : Stg t size tx enc x w G v2 bx en wk 2) (hsz : 0 < size) (hm : ∀ x, (enc x).length = size) {o : Obj} {w1 : World} {g cap : Nat}
    (hown : w1.ownsRow 0 t size (.slice (some ⟨g, 0, none⟩) (en.n + 3) cap) (en.n + 3) ((List.replicate en.n x).flatMap enc ++ (List.replicate 3 x).flatMap enc)) (hgrow : (wk.alloc o).grownBy w1 en.l.ownBlock)
    (hat : en.l.ownBlock = some g ∨ g = wk.heap.size + 1 ∧ (wk.alloc o).grownBy w1 none) (hl' : w1.ownsRow 0 t size en.l en.n ((List.replicate en.n x).flatMap enc)) :
    w1.heap[bx]? = some (.cells (encEn en).toArray tx (0, 0)) ∧ Stg t size tx enc x w G v2 bx { en with c := .slice (some ⟨g, 0, none⟩) (en.n + 3) cap } (w1.setCell ⟨bx, 3, none⟩ (.slice (some ⟨g, 0, none⟩) (en.n + 3) cap)) 3 := by
  obtain ⟨g1, g2, g3, g4, g5, g6, g7, g8, g9⟩ := h.grow hsz hm (j := 3) hown hgrow hat hl'
  have ho : ∀ q, (Value.slice (some ⟨g, 0, none⟩) (en.n + 3) cap).ownBlock = some q → (en.l.ownBlock = some q ∨ w.heap.size ≤ q) ∧ q ≠ bx := fun q e => by
    have e' : g = q := by simpa [Value.ownBlock] using e
    subst e'
    exact ⟨g8, g9⟩
  exact ⟨g1, g2, g3, g4, g5, fun _ => g6 en.a (en.n + 1) (h.ra (by omega)) (by omega) (fun q e => (h.oa q e).2), fun _ => g6 en.b (en.n + 2) (h.rb (by omega)) (by omega) (fun q e => (h.ob q e).2), fun _ => g7, h.oa, h.ob, ho, h.bw, h.gw, h.lG, h.ll⟩
theorem Stg.good (h : Stg t size tx enc x w G v2 bx en wk 3) : Good t size enc x wk en := ⟨h.rl, h.ra (by omega), h.rb (by omega), h.rc (Nat.le_refl _)⟩
theorem Stg.own {d : Nat} (h : Stg t size tx enc x w G v2 bx en wk d) : ∀ k, en.own k → en.l.ownBlock = some k ∨ w.heap.size ≤ k := by
  rintro k (e | e | e | e)
  · exact .inl e
  · exact (h.oa k e).1
  · exact (h.ob k e).1
  · exact (h.oc k e).1
theorem Stg.cells {d : Nat} (h : Stg t size tx enc x w G v2 bx en wk d) : ∀ j u, (encEn en)[j]? = some u → wk.cell? ⟨bx, j, none⟩ = some u := fun j u hu => by
  rw [cell_of_row wk bx j (encEn en).toArray tx (0, 0) h.xb]
  simpa using hu
theorem Stg.own_row {d : Nat} (h : Stg t size tx enc x w G v2 bx en wk d) : wk.ownsRow 0 t size en.l en.n ((List.replicate en.n x).flatMap enc) := by
  have := h.rl
  unfold Row at this
  rw [List.length_replicate] at this
  exact this
end

/-- The list of numbers is in the book. -/
theorem Law.ints {W w wk w' : World} {L : LV} {N N' : Int} (h : Law W w L N) {en : En} {bx : Nat} (hf : Free L en.l) (hlow : ∀ k, en.l.ownBlock = some k → W.heap.size ≤ k) (hS : Stg 3 1 126 encI en.m w L.G (.int .i64 ((L.is.length : Int) + L.ac.length + 1)) bx en wk 3)
    {v' : Value} (hc : w'.cell? ⟨L.G, 3, none⟩ = some v') (hr : Row w' 0 126 5 encEn v' (L.is ++ [en])) (hv : v'.ownBlock = L.vi.ownBlock ∨ ∃ g, v'.ownBlock = some g ∧ wk.heap.size ≤ g) (hF : Fr L.G [3] L.vi.ownBlock.toList wk w')
    (hnl : (L.is.length : Int) + L.ac.length + 1 ≤ 3 * N') (hml : (en.n : Int) ≤ 1440000000000) :
    Law W w' { L with vi := v', is := L.is ++ [en] } N' ∧ Chg (fun i => i = .hd ∨ i = .ri ∨ i = .li L.is.length) (fun k => en.l.ownBlock = some k) w L w' { L with vi := v', is := L.is ++ [en] } := by
  have hlt := fun i => says_lt i (h.says i)
  have gl := hS.gw
  have hks := hS.fr.size
  have hget : ∀ j e, (L.is ++ [en])[j]? = some e → L.is[j]? = some e ∨ (j = L.is.length ∧ e = en) := fun j e he => by
    rcases Nat.lt_or_ge j L.is.length with hj | hj
    · rw [List.getElem?_append_left hj] at he
      exact .inl he
    · rw [List.getElem?_append_right hj] at he
      have h0 : j - L.is.length = 0 := by
        rcases Nat.eq_zero_or_pos (j - L.is.length) with h0 | h0
        · exact h0
        · rw [List.getElem?_eq_none (by simp; omega)] at he
          cases he
      rw [h0] at he
      exact .inr ⟨by omega, by simpa using he.symm⟩
  have viS : ∀ k, L.vi.ownBlock = some k → k < w.heap.size ∧ k ≠ L.G := fun k hk => ⟨hlt .ri k hk, fun e => h.ap .ri .hd (by simp) k hk e⟩
  have hchg : Chg (fun i => i = .hd ∨ i = .ri ∨ i = .li L.is.length) (fun k => en.l.ownBlock = some k) w L w' { L with vi := v', is := L.is ++ [en] } := by
    refine ⟨hF.os.trans hS.fr.os, hF.tape.trans hS.fr.tape, hF.output.trans hS.fr.output, Nat.le_trans hks hF.size, fun k hk hn hE => ?_, fun i hi k hk => ?_, fun i hi k hk => ?_⟩
    · have kG : k ≠ L.G := fun e => hn .hd (.inl rfl) e
      rw [hF.block k (by omega) kG (fun e => hn .ri (.inr (.inl rfl)) (show L.vi.ownBlock = some k from by simpa using e)), hS.fr.block k hk kG (fun e => hE (by simpa using e))]
    · cases i with
      | li j =>
        obtain ⟨e, he, hk⟩ := hk
        rcases hget j e he with h1 | ⟨h1, _⟩
        · exact ⟨e, h1, hk⟩
        · exact absurd (.inr (.inr (by rw [h1]))) hi
      | ri => exact absurd (.inr (.inl rfl)) hi
      | hd => exact hk
      | rx => exact hk
      | ry => exact hk
      | ra => exact hk
      | pr j => exact hk
      | dr j => exact hk
      | la j => exact hk
    · rcases hi with rfl | rfl | rfl
      · exact .inl ⟨.hd, .inl rfl, hk⟩
      · rcases hv with e | ⟨g, e, hg⟩
        · exact .inl ⟨.ri, .inr (.inl rfl), show L.vi.ownBlock = some k from by rw [← e]; exact hk⟩
        · have : g = k := by rw [show v'.ownBlock = some k from hk] at e; simpa using e.symm
          exact .inr (.inr (by omega))
      · obtain ⟨e, he, hk⟩ := hk
        rcases hget _ e he with h1 | ⟨_, rfl⟩
        · have := (List.getElem?_eq_some_iff.1 h1).1
          omega
        · rcases hS.own k hk with h2 | h2
          · exact .inr (.inl h2)
          · exact .inr (.inr h2)
  have enk : ∀ k, en.own k → k < wk.heap.size ∧ k ≠ L.G ∧ L.vi.ownBlock ≠ some k := fun k hk => by
    refine ⟨Good.lt hS.good k hk, ?_⟩
    rcases hS.own k hk with h2 | h2
    · exact ⟨fun e => hf k h2 .hd e, fun e => hf k h2 .ri e⟩
    · exact ⟨by omega, fun e => by have := (viS k e).1; omega⟩
  have hvG : v'.ownBlock ≠ some L.G := fun e => by
    rcases hv with e1 | ⟨g, e1, hg⟩
    · exact (viS L.G (by rw [← e1]; exact e)).2 rfl
    · rw [e] at e1
      have : L.G = g := by simpa using e1
      omega
  have hven : ∀ k, v'.ownBlock = some k → ¬ en.own k := fun k e hk => by
    rcases hv with e1 | ⟨g, e1, hg⟩
    · exact (enk k hk).2.2 (by rw [← e1]; exact e)
    · rw [e] at e1
      have : k = g := by simpa using e1
      have := (enk k hk).1
      omega
  have henown : ∀ k, lown { L with vi := v', is := L.is ++ [en] } (.li L.is.length) k → en.own k := fun k ⟨e, he, hk⟩ => by
    rcases hget _ e he with h1 | ⟨_, rfl⟩
    · have := (List.getElem?_eq_some_iff.1 h1).1
      omega
    · exact hk
  refine ⟨h.change hchg (fun k hk => ⟨hlow k hk, fun i => hf k hk i⟩) (fun i hi hs => ?_) (fun i hi => ?_) (fun i j hi hj hij k hik hjk => ?_) h.cl (by simp; omega) ?_, hchg⟩
  · cases i with
    | hd => exact absurd (.inl rfl) hi
    | ri => exact absurd (.inr (.inl rfl)) hi
    | rx => exact hs
    | ry => exact hs
    | ra => exact hs
    | pr j => exact hs
    | dr j => exact hs
    | la j => exact hs
    | li j => intro e he
              rcases hget j e he with h1 | ⟨h1, _⟩
              · exact hs e h1
              · exact absurd (.inr (.inr (by rw [h1]))) hi
  · rcases hi with rfl | rfl | rfl
    · have hh := h.says .hd
      have cw : ∀ j, j ≠ 2 → j ≠ 3 → w'.cell? ⟨L.G, j, none⟩ = w.cell? ⟨L.G, j, none⟩ := fun j h2 h3 => (hF.cell j (by simpa using h3)).trans (hS.fr.cell j (by simpa using h2))
      refine ⟨fun j v hv => ?_, fun j hj => (hF.frozen j).trans ((hS.fr.frozen j).trans (hh.2 j hj))⟩
      match j, hv with
      | 0, hv => rw [cw 0 (by omega) (by omega)]; exact hh.1 0 v hv
      | 1, hv => rw [cw 1 (by omega) (by omega)]; exact hh.1 1 v hv
      | 2, hv =>
        rw [hF.cell 2 (by simp), hS.c2]
        have e : (Value.int .i64 (((L.is ++ [en]).length : Int) + L.ac.length)) = v := by simpa [cellsL] using hv
        rw [← e]
        simp
        omega
      | 3, hv => rw [hc]; simpa [cellsL] using hv
      | 4, hv => rw [cw 4 (by omega) (by omega)]; exact hh.1 4 v hv
      | n + 5, hv => simp [cellsL] at hv
    · exact hr
    · intro e he
      rcases hget _ e he with h1 | ⟨_, rfl⟩
      · have := (List.getElem?_eq_some_iff.1 h1).1
        omega
      · exact Good.same hS.good fun k hk => hF.block k (enk k hk).1 (enk k hk).2.1 (fun e => (enk k hk).2.2 (by simpa using e))
  · rcases hi with rfl | rfl | rfl <;> rcases hj with rfl | rfl | rfl
    · exact hij rfl
    · exact hvG (by rw [show k = L.G from hik] at hjk; exact hjk)
    · exact (enk k (henown k hjk)).2.1 hik
    · exact hvG (by rw [show k = L.G from hjk] at hik; exact hik)
    · exact hij rfl
    · exact hven k hik (henown k hjk)
    · exact (enk k (henown k hik)).2.1 hjk
    · exact hven k hjk (henown k hik)
    · exact hij rfl
  · intro i e he
    rcases he with he | he
    · rcases hget i e he with h1 | ⟨_, rfl⟩
      · exact h.ml i e (.inl h1)
      · exact hml
    · exact h.ml i e (.inr he)

/-- The list of actions is in the book. -/
theorem Law.actions {W w wk w' : World} {L : LV} {N N' : Int} (h : Law W w L N) {en : En} {bx : Nat} (hf : Free L en.l) (hlow : ∀ k, en.l.ownBlock = some k → W.heap.size ≤ k) (hS : Stg 55 6 129 encAct (markA en.m) w L.G (.int .i64 ((L.is.length : Int) + L.ac.length + 1)) bx en wk 3)
    {v' : Value} (hc : w'.cell? ⟨L.G, 4, none⟩ = some v') (hr : Row w' 0 129 5 encEn v' (L.ac ++ [en])) (hv : v'.ownBlock = L.va.ownBlock ∨ ∃ g, v'.ownBlock = some g ∧ wk.heap.size ≤ g) (hF : Fr L.G [4] L.va.ownBlock.toList wk w')
    (hnl : (L.is.length : Int) + L.ac.length + 1 ≤ 3 * N') (hml : (en.n : Int) ≤ 1440000000000) :
    Law W w' { L with va := v', ac := L.ac ++ [en] } N' ∧ Chg (fun i => i = .hd ∨ i = .ra ∨ i = .la L.ac.length) (fun k => en.l.ownBlock = some k) w L w' { L with va := v', ac := L.ac ++ [en] } := by
  have hlt := fun i => says_lt i (h.says i)
  have gl := hS.gw
  have hks := hS.fr.size
  have hget : ∀ j e, (L.ac ++ [en])[j]? = some e → L.ac[j]? = some e ∨ (j = L.ac.length ∧ e = en) := fun j e he => by
    rcases Nat.lt_or_ge j L.ac.length with hj | hj
    · rw [List.getElem?_append_left hj] at he
      exact .inl he
    · rw [List.getElem?_append_right hj] at he
      have h0 : j - L.ac.length = 0 := by
        rcases Nat.eq_zero_or_pos (j - L.ac.length) with h0 | h0
        · exact h0
        · rw [List.getElem?_eq_none (by simp; omega)] at he
          cases he
      rw [h0] at he
      exact .inr ⟨by omega, by simpa using he.symm⟩
  have vaS : ∀ k, L.va.ownBlock = some k → k < w.heap.size ∧ k ≠ L.G := fun k hk => ⟨hlt .ra k hk, fun e => h.ap .ra .hd (by simp) k hk e⟩
  have hchg : Chg (fun i => i = .hd ∨ i = .ra ∨ i = .la L.ac.length) (fun k => en.l.ownBlock = some k) w L w' { L with va := v', ac := L.ac ++ [en] } := by
    refine ⟨hF.os.trans hS.fr.os, hF.tape.trans hS.fr.tape, hF.output.trans hS.fr.output, Nat.le_trans hks hF.size, fun k hk hn hE => ?_, fun i hi k hk => ?_, fun i hi k hk => ?_⟩
    · have kG : k ≠ L.G := fun e => hn .hd (.inl rfl) e
      rw [hF.block k (by omega) kG (fun e => hn .ra (.inr (.inl rfl)) (show L.va.ownBlock = some k from by simpa using e)), hS.fr.block k hk kG (fun e => hE (by simpa using e))]
    · cases i with
      | la j =>
        obtain ⟨e, he, hk⟩ := hk
        rcases hget j e he with h1 | ⟨h1, _⟩
        · exact ⟨e, h1, hk⟩
        · exact absurd (.inr (.inr (by rw [h1]))) hi
      | ra => exact absurd (.inr (.inl rfl)) hi
      | hd => exact hk
      | rx => exact hk
      | ry => exact hk
      | ri => exact hk
      | pr j => exact hk
      | dr j => exact hk
      | li j => exact hk
    · rcases hi with rfl | rfl | rfl
      · exact .inl ⟨.hd, .inl rfl, hk⟩
      · rcases hv with e | ⟨g, e, hg⟩
        · exact .inl ⟨.ra, .inr (.inl rfl), show L.va.ownBlock = some k from by rw [← e]; exact hk⟩
        · have : g = k := by rw [show v'.ownBlock = some k from hk] at e; simpa using e.symm
          exact .inr (.inr (by omega))
      · obtain ⟨e, he, hk⟩ := hk
        rcases hget _ e he with h1 | ⟨_, rfl⟩
        · have := (List.getElem?_eq_some_iff.1 h1).1
          omega
        · rcases hS.own k hk with h2 | h2
          · exact .inr (.inl h2)
          · exact .inr (.inr h2)
  have enk : ∀ k, en.own k → k < wk.heap.size ∧ k ≠ L.G ∧ L.va.ownBlock ≠ some k := fun k hk => by
    refine ⟨Good.lt hS.good k hk, ?_⟩
    rcases hS.own k hk with h2 | h2
    · exact ⟨fun e => hf k h2 .hd e, fun e => hf k h2 .ra e⟩
    · exact ⟨by omega, fun e => by have := (vaS k e).1; omega⟩
  have hvG : v'.ownBlock ≠ some L.G := fun e => by
    rcases hv with e1 | ⟨g, e1, hg⟩
    · exact (vaS L.G (by rw [← e1]; exact e)).2 rfl
    · rw [e] at e1
      have : L.G = g := by simpa using e1
      omega
  have hven : ∀ k, v'.ownBlock = some k → ¬ en.own k := fun k e hk => by
    rcases hv with e1 | ⟨g, e1, hg⟩
    · exact (enk k hk).2.2 (by rw [← e1]; exact e)
    · rw [e] at e1
      have : k = g := by simpa using e1
      have := (enk k hk).1
      omega
  have henown : ∀ k, lown { L with va := v', ac := L.ac ++ [en] } (.la L.ac.length) k → en.own k := fun k ⟨e, he, hk⟩ => by
    rcases hget _ e he with h1 | ⟨_, rfl⟩
    · have := (List.getElem?_eq_some_iff.1 h1).1
      omega
    · exact hk
  refine ⟨h.change hchg (fun k hk => ⟨hlow k hk, fun i => hf k hk i⟩) (fun i hi hs => ?_) (fun i hi => ?_) (fun i j hi hj hij k hik hjk => ?_) h.cl (by simp; omega) ?_, hchg⟩
  · cases i with
    | hd => exact absurd (.inl rfl) hi
    | ra => exact absurd (.inr (.inl rfl)) hi
    | rx => exact hs
    | ry => exact hs
    | ri => exact hs
    | pr j => exact hs
    | dr j => exact hs
    | li j => exact hs
    | la j => intro e he
              rcases hget j e he with h1 | ⟨h1, _⟩
              · exact hs e h1
              · exact absurd (.inr (.inr (by rw [h1]))) hi
  · rcases hi with rfl | rfl | rfl
    · have hh := h.says .hd
      have cw : ∀ j, j ≠ 2 → j ≠ 4 → w'.cell? ⟨L.G, j, none⟩ = w.cell? ⟨L.G, j, none⟩ := fun j h2 h3 => (hF.cell j (by simpa using h3)).trans (hS.fr.cell j (by simpa using h2))
      refine ⟨fun j v hv => ?_, fun j hj => (hF.frozen j).trans ((hS.fr.frozen j).trans (hh.2 j hj))⟩
      match j, hv with
      | 0, hv => rw [cw 0 (by omega) (by omega)]; exact hh.1 0 v hv
      | 1, hv => rw [cw 1 (by omega) (by omega)]; exact hh.1 1 v hv
      | 2, hv =>
        rw [hF.cell 2 (by simp), hS.c2]
        have e : (Value.int .i64 ((L.is.length : Int) + ((L.ac ++ [en]).length : Nat))) = v := by simpa [cellsL] using hv
        rw [← e]
        simp
        omega
      | 3, hv => rw [cw 3 (by omega) (by omega)]; exact hh.1 3 v hv
      | 4, hv => rw [hc]; simpa [cellsL] using hv
      | n + 5, hv => simp [cellsL] at hv
    · exact hr
    · intro e he
      rcases hget _ e he with h1 | ⟨_, rfl⟩
      · have := (List.getElem?_eq_some_iff.1 h1).1
        omega
      · exact Good.same hS.good fun k hk => hF.block k (enk k hk).1 (enk k hk).2.1 (fun e => (enk k hk).2.2 (by simpa using e))
  · rcases hi with rfl | rfl | rfl <;> rcases hj with rfl | rfl | rfl
    · exact hij rfl
    · exact hvG (by rw [show k = L.G from hik] at hjk; exact hjk)
    · exact (enk k (henown k hjk)).2.1 hik
    · exact hvG (by rw [show k = L.G from hjk] at hik; exact hik)
    · exact hij rfl
    · exact hven k hik (henown k hjk)
    · exact (enk k (henown k hik)).2.1 hjk
    · exact hven k hjk (henown k hik)
    · exact hij rfl
  · intro i e he
    rcases he with he | he
    · exact h.ml i e (.inl he)
    · rcases hget i e he with h1 | ⟨_, rfl⟩
      · exact h.ml i e (.inr h1)
      · exact hml

end Go.Proofs.YtlccfpbbdgpjbaaGreatDoor
