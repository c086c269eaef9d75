import Derived.Test.YtlccfpbbdgpjbaaGreatDoorZOpen
import Derived.Test.YtlccfpbbdgpjbaaGreatDoorZBud
import Derived.Test.YtlccfpbbdgpjbaaGreatDoorRMem
namespace Go.Proofs.YtlccfpbbdgpjbaaGreatDoor
open Go.RowKit

theorem Fr.weakR {p : Nat} {J R : List Nat} {w w' : World} (h : Fr p J [] w w') : Fr p J R w w' :=
  ⟨h.os, h.tape, h.output, h.size, fun k hk hp _ => h.block k hk hp (by simp), h.cell, h.frozen⟩

/-- The wait: Base and what the draw gives, or Most. -/
def waitP (base most last draw : Int) : Int := min (base + draw % (3 * last - base + 1)) most

set_option maxRecDepth 100000 in
set_option maxHeartbeats 1600000 in
theorem wait_any (p : Nat) (base most last draw : Int) (w : World) (hb0 : 1 ≤ base) (hb1 : base ≤ 10000) (hl0 : base ≤ last) (hl1 : last ≤ 10000) (hd0 : 0 ≤ draw)
    (cB : w.cell? ⟨p, 6, none⟩ = some (.int .i64 base)) (cM : w.cell? ⟨p, 7, none⟩ = some (.int .i64 most)) :
    Calls Tryz.prog 100 #[.pointer (some ⟨p, 0, none⟩), .int .i64 last, .int .u64 draw] w fun e w' => e = .returned (.int .i64 (waitP base most last draw)) ∧ Below w.heap.size w w' := by
  have hr0 : 0 ≤ draw % (3 * last - base + 1) := Int.emod_nonneg _ (by omega)
  have hr1 : draw % (3 * last - base + 1) < 3 * last - base + 1 := Int.emod_lt_of_pos _ (by omega)
  have u1 : IntKind.u64.wrap (3 * last - base + 1) = 3 * last - base + 1 := by rw [IntKind.wrap_u64]; omega
  have u2 : draw.tmod (3 * last - base + 1) = draw % (3 * last - base + 1) := Int.tmod_eq_emod_of_nonneg hd0
  have u3 : ¬ (3 * last - base + 1 = 0) := by omega
  unfold waitP
  generalize draw % (3 * last - base + 1) = r at hr0 hr1 u2 ⊢
  go_enter Tryz.func100, Tryz.ntmps100
  go_wp2_with fail
  go_quiet (fail)
  go_wp2_with fail
  go_ret
  exact ⟨rfl, below_drewN _ _⟩

set_option maxRecDepth 100000 in
set_option maxHeartbeats 1600000 in
theorem pass_any (p : Nat) (n : Int) (w : World) (h0 : 0 ≤ n) (h1 : n ≤ 4611686018427387904) (cS : w.cell? ⟨p, 21, none⟩ = some (.int .i64 n)) (fS : w.frozen? ⟨p, 21, none⟩ = false) :
    Calls Tryz.prog 41 #[.pointer (some ⟨p, 0, none⟩)] w fun e w' => e = .returned (.slice none 0 0) ∧ w'.cell? ⟨p, 21, none⟩ = some (.int .i64 (n + 1)) ∧ Fr p [21] [] w w' := by
  go_enter Tryz.func41, Tryz.ntmps41
  go_wp2_with fail
  go_ret
  exact ⟨rfl, World.cell?_setCell_same _ _ _ cS, Fr.store _⟩

set_option maxRecDepth 100000 in
set_option maxHeartbeats 4000000 in
theorem goTo_any (p : Nat) (time window now0 : Int) (v : Value) (l : List PB) (w : World) (hl : l.length ≤ 1000000) (hk : OkB l) (hn0 : 0 ≤ time) (hn1 : time ≤ 1099511627776) (cN : w.cell? ⟨p, 10, none⟩ = some (.int .i64 now0)) (fN : w.frozen? ⟨p, 10, none⟩ = false) (cW : w.cell? ⟨p, 13, none⟩ = some (.int .i64 window)) (hc : w.cell? ⟨p, 14, none⟩ = some v) (hz : w.frozen? ⟨p, 14, none⟩ = false) (hr : Row w 0 150 2 encPB v l) (hv : v.ownBlock ≠ some p) :
    Calls Tryz.prog 72 #[.pointer (some ⟨p, 0, none⟩), .int .i64 time] w fun e w' =>
      e = .returned (.tuple #[]) ∧ w'.cell? ⟨p, 10, none⟩ = some (.int .i64 time) ∧ ∃ v', w'.cell? ⟨p, 14, none⟩ = some v' ∧ Row w' 0 150 2 encPB v' (l.dropWhile (oldB time window)) ∧ v'.ownBlock = v.ownBlock ∧ Fr p [10, 14] v.ownBlock.toList w w' := by
  have hF0 : Fr p [10] [] w (w.setCell ⟨p, 10, none⟩ (.int .i64 time)) := Fr.store _
  have HP := hide (passB_any p 11 time window v l (w.setCell ⟨p, 10, none⟩ (.int .i64 time)) hl hk hn0 hn1 ((hF0.cell _ (by simp)).trans cW) ((hF0.cell _ (by simp)).trans hc) ((hF0.frozen _).trans hz) (hF0.row hr (fun k hk => ⟨fun e => hv (by rw [hk, e]), by simp⟩)) hv)
  have HC := hide (World.cell?_setCell_same w ⟨p, 10, none⟩ (.int .i64 time) cN)
  have HF := hide hF0
  clear hr hc hz cW hk hF0
  go_enter Tryz.func72, Tryz.ntmps72
  go_wp2_with fail
  refine HP.out.mono ?_
  rintro e w1 ⟨rfl, v1, hc1, hr1, hv1, hF1⟩
  go_wp2_with fail
  go_end0
  exact ⟨rfl, (hF1.cell _ (by simp)).trans HC.out, v1, hc1, hr1, hv1, (HF.out.weakR).trans hF1 (fun _ h => ⟨fun h' => h (by simp at h' ⊢; omega), fun h' => h (by simp at h' ⊢; omega)⟩) (fun r h => .inl h)⟩
end Go.Proofs.YtlccfpbbdgpjbaaGreatDoor

namespace Go.Proofs.YtlccfpbbdgpjbaaGreatDoor
open Go.RowKit

set_option maxRecDepth 100000 in
set_option maxHeartbeats 4000000 in
theorem setTimer_any (p : Nat) (kind call due n : Int) (v : Value) (xs : List PTimer) (w : World) (hl : xs.length ≤ 999999) (hH : IsHeap xs) (h0 : 0 ≤ n) (h1 : n ≤ 4611686018427387904) (cS : w.cell? ⟨p, 19, none⟩ = some (.int .i64 n)) (fS : w.frozen? ⟨p, 19, none⟩ = false) (hc : w.cell? ⟨p, 18, none⟩ = some v) (hz : w.frozen? ⟨p, 18, none⟩ = false) (hr : Row w 0 114 4 encPT v xs) (hv : v.ownBlock ≠ some p) :
    Calls Tryz.prog 95 #[.pointer (some ⟨p, 0, none⟩), .int .i64 kind, .int .i64 call, .int .i64 due] w fun e w' =>
      e = .returned (.tuple #[]) ∧ w'.cell? ⟨p, 19, none⟩ = some (.int .i64 (n + 1)) ∧ ∃ v' ys, ys.Perm (xs ++ [⟨kind, call, due, n + 1⟩]) ∧ IsHeap ys ∧ w'.cell? ⟨p, 18, none⟩ = some v' ∧ Row w' 0 114 4 encPT v' ys ∧ (v'.ownBlock = v.ownBlock ∨ ∃ g, v'.ownBlock = some g ∧ w.heap.size ≤ g) ∧ Fr p [19, 18] v.ownBlock.toList w w' := by
  have lp : p < w.heap.size := World.block_lt_of_cell? w _ hc
  have hF0 : Fr p [19] [] w (w.setCell ⟨p, 19, none⟩ (.int .i64 (n + 1))) := Fr.store _
  have HP := hide (fun W (hW : Below (w.setCell ⟨p, 19, none⟩ (.int .i64 (n + 1))).heap.size (w.setCell ⟨p, 19, none⟩ (.int .i64 (n + 1))) W) => push_any p 18 ⟨kind, call, due, n + 1⟩ v xs W hl hH ((hW.cell (p := ⟨p, 18, none⟩) (by simpa using lp)).trans ((hF0.cell _ (by simp)).trans hc)) ((hW.frozen (p := ⟨p, 18, none⟩) (by simpa using lp)).trans ((hF0.frozen _).trans hz)) ((hF0.row hr (fun k hk => ⟨fun e => hv (by rw [hk, e]), by simp⟩)).below hW) hv)
  have HC := hide (World.cell?_setCell_same w ⟨p, 19, none⟩ (.int .i64 (n + 1)) cS)
  have HF := hide hF0
  clear hr hc hz hH hF0
  go_enter Tryz.func95, Tryz.ntmps95
  go_wp2_with fail
  have HPD := hide (HP.out _ ((Below.refl _ _).drew))
  have hcS := HC.out
  have hFW := HF.out
  have hsz : (w.setCell ⟨p, 19, none⟩ (.int .i64 (n + 1))).heap.size = w.heap.size := by simp
  generalize w.setCell ⟨p, 19, none⟩ (.int .i64 (n + 1)) = W at HPD hcS hFW hsz ⊢
  clear HP HC HF cS fS
  go_region_held3 (fun w' => w'.cell? ⟨p, 19, none⟩ = some (.int .i64 (n + 1)))
    (first
      | (go_keep; done)
      | exact (hF3.cell 19 (by simp)).trans hcS)
    (first
      | (go_at_call 114; refine HPD.out.mono ?_; rintro e w3 ⟨rfl, v3, ys, hP3, hH3, hc3, hr3, hv3, hF3⟩))
  go_wp2_with fail
  go_end0
  have hsz2 : W.drew.heap.size = w.heap.size := hsz
  exact ⟨rfl, (hF3.cell 19 (by simp)).trans hcS, v3, ys, hP3, hH3, hc3, hr3, hv3.imp id (fun ⟨g, e, h⟩ => ⟨g, e, by omega⟩), (hFW.weakR.drew).trans hF3 (fun _ h => ⟨fun h' => h (by simp at h' ⊢; omega), fun h' => h (by simp at h' ⊢; omega)⟩) (fun r h => .inl h)⟩

set_option maxRecDepth 100000 in
set_option maxHeartbeats 4000000 in
theorem dropTimers_any (p : Nat) (call : Int) (g cap : Nat) (xs : List PTimer) (w : World) (hl : xs.length ≤ 1000000) (hgp : g ≠ p) (hc : w.cell? ⟨p, 18, none⟩ = some (.slice (some ⟨g, 0, none⟩) xs.length cap)) (hz : w.frozen? ⟨p, 18, none⟩ = false) (hr : Row w 0 114 4 encPT (.slice (some ⟨g, 0, none⟩) xs.length cap) xs) :
    Calls Tryz.prog 98 #[.pointer (some ⟨p, 0, none⟩), .int .i64 call] w fun e w' =>
      e = .returned (.tuple #[]) ∧ ∃ ys, ys.Perm (xs.filter (stays call)) ∧ IsHeap ys ∧ w'.cell? ⟨p, 18, none⟩ = some (.slice (some ⟨g, 0, none⟩) ys.length cap) ∧ Row w' 0 114 4 encPT (.slice (some ⟨g, 0, none⟩) ys.length cap) ys ∧ Fr p [18] [g] w w' := by
  have lp : p < w.heap.size := World.block_lt_of_cell? w _ hc
  have lg : g < w.heap.size := (hr.lt g rfl).2
  have hB : Below w.heap.size w (w.alloc (.cells #[.int .i64 call] 3)) := (Below.refl _ _).alloc (Nat.le_refl _) _
  have HD := hide (dropH_any p 18 w.heap.size call g cap xs (w.alloc (.cells #[.int .i64 call] 3)) hl hgp (by omega) (by simp) ((hB.cell lp).trans hc) ((hB.frozen lp).trans hz) (hr.below hB))
  have HF := hide (Fr.of_below (J := [18]) (R := [g]) lp hB)
  clear hr hc hz hB
  go_enter Tryz.func98, Tryz.ntmps98
  go_wp2_with fail
  refine HD.out.mono ?_
  rintro e w1 ⟨rfl, ys, hP, hH, hc1, hr1, hF1⟩
  go_wp2_with fail
  go_end0
  exact ⟨rfl, ys, hP, hH, hc1, hr1, HF.out.trans hF1 (fun _ h => ⟨h, h⟩) (fun r h => .inl h)⟩
end Go.Proofs.YtlccfpbbdgpjbaaGreatDoor

namespace Go.Proofs.YtlccfpbbdgpjbaaGreatDoor

structure Cfg where
  deposit : Int
  cost : Int
  cap : Int
  window : Int
  attempts : Int
  flight : Int
  base : Int
  most : Int
  rank : Int
  samples : Int
structure RCall where
  number : Int
  deadline : Int
  had : Int
  wait : Int
  safe : Bool
structure RAtt where
  number : Int
  call : Int
  at_ : Int
structure RTimer where
  call : Int
  kind : Int
  due : Int
structure RUnits where
  at_ : Int
  n : Int
structure RAct where
  kind : Int
  call : Int
  attempt : Int
  outcome : Int
  value : Int
  left : Int

def encCall (c : RCall) : List Value := [.int .i64 c.number, .int .i64 c.deadline, .int .i64 c.had, .int .i64 c.wait, .bool c.safe]
def encAtt (a : RAtt) : List Value := [.int .i64 a.number, .int .i64 a.call, .int .i64 a.at_]
def encTimer (t : RTimer) : List Value := [.int .i64 t.call, .int .i64 t.kind, .int .i64 t.due]
def encUnits (u : RUnits) : List Value := [.int .i64 u.at_, .int .i64 u.n]
def encAct (a : RAct) : List Value := [.int .i64 a.kind, .int .i64 a.call, .int .i64 a.attempt, .int .i64 a.outcome, .int .i64 a.value, .int .i64 a.left]
def encInt (n : Int) : List Value := [.int .i64 n]
theorem encCall_len (c : RCall) : (encCall c).length = 5 := rfl
theorem encAtt_len (c : RAtt) : (encAtt c).length = 3 := rfl
theorem encTimer_len (c : RTimer) : (encTimer c).length = 3 := rfl
theorem encUnits_len (c : RUnits) : (encUnits c).length = 2 := rfl
theorem encAct_len (c : RAct) : (encAct c).length = 6 := rfl
theorem encInt_len (c : Int) : (encInt c).length = 1 := rfl

/-- Where a call stands, counted from k on; -1: it is not open. -/
def findFrom (number : Int) : List RCall → Nat → Int
  | [], _ => -1
  | c :: r, k => if c.number = number then (k : Int) else findFrom number r (k + 1)
def findI (calls : List RCall) (number : Int) : Int := findFrom number calls 0

theorem findFrom_drop (number : Int) (l : List RCall) (k : Nat) (h : k < l.length) : findFrom number (l.drop k) k = if l[k].number = number then (k : Int) else findFrom number (l.drop (k + 1)) (k + 1) := by
  rw [List.drop_eq_getElem_cons h]
  rfl

def keepTimer (call from_ to : Int) (t : RTimer) : Bool := t.call != call || decide (t.kind < from_) || decide (to < t.kind)
def keepAtt (number : Int) (a : RAtt) : Bool := a.number != number
def keepUnits (now window : Int) (u : RUnits) : Bool := decide (now - u.at_ < window)
def sumUnits (l : List RUnits) : Int := (l.map (·.n)).foldl (· + ·) 0

end Go.Proofs.YtlccfpbbdgpjbaaGreatDoor

namespace Go.Proofs.YtlccfpbbdgpjbaaGreatDoor
open Go.RowKit Go.Maps

def okPtr : Value → Bool
  | .pointer _ => true
  | _ => false

theorem Tryz.infoActP : (Tryz.prog.info? 55).map (fun i => (i.zero, i.size, i.bytes)) = some (some (.agg #[.int .i64 0, .int .i64 0, .int .i64 0, .int .i64 0, .int .i64 0, .int .i64 0]), 6, 48) := by kernel_rfl

/-- A map is no row. -/
theorem MapI.ne {P : Program} {kt : TypeId} {ok : Value → Bool} {w : World} {b : Nat} {l : List (Int × Value)} (h : MapI P kt ok w b l) {a : Addr} {v : Value} (ha : w.cell? a = some v) : a.block ≠ b := by
  obtain ⟨D, ⟨es, clock, hb, _⟩, _⟩ := h
  intro e
  subst e
  simp [World.cell?, hb] at ha

theorem MapI.ne_row {α : Type} {P : Program} {kt : TypeId} {ok : Value → Bool} {w : World} {b base e size : Nat} {l : List (Int × Value)} {enc : α → List Value} {v : Value} {xs : List α} (h : MapI P kt ok w b l) (hr : Row w base e size enc v xs) : v.ownBlock ≠ some b := by
  obtain ⟨D, ⟨es, clock, hb, _⟩, _⟩ := h
  rcases hr.2 with ⟨rfl, _⟩ | ⟨g, cap, cur, rfl, _, hg, _⟩
  · simp [Value.ownBlock]
  · intro e'
    have : g = b := by simpa [Value.ownBlock] using e'
    subst this
    rw [hb] at hg
    cases hg
theorem Kp.row {α : Type} {R : List Nat} {w w' : World} {b e size : Nat} {enc : α → List Value} {v : Value} {xs : List α} (h : Kp R w w') (r : Row w b e size enc v xs) (hv : ∀ k, v.ownBlock = some k → k ∉ R) : Row w' b e size enc v xs :=
  r.same fun k hk => h.block k (r.lt k hk).2 (hv k hk)

/-- The attempts that are left, when these have been stopped. -/
def leftOf (l : List (Int × PAtt)) (ns : List Int) : List (Int × PAtt) := l.filter (fun p => !ns.contains p.1)
theorem leftOf_step (l : List (Int × PAtt)) (ns : List Int) (k : Nat) (h : k < ns.length) : (attL (leftOf l (ns.take k))).filter (fun p => p.1 != ns[k]) = attL (leftOf l (ns.take (k + 1))) := by
  unfold attL leftOf
  rw [List.filter_map, List.filter_filter]
  congr 1
  apply List.filter_congr
  intro p _
  rw [List.take_succ_eq_append_getElem h]
  simp only [Function.comp, List.contains_append, Bool.not_or]
  rw [Bool.and_comm]
  congr 1
  simp [bne]
  rfl

theorem eq_of_nodup_keys {α : Type} : ∀ {l : List (Int × α)}, (l.map (·.1)).Nodup → ∀ {p q : Int × α}, p ∈ l → q ∈ l → p.1 = q.1 → p = q := by
  intro l
  induction l with
  | nil => intro _ p q hp; cases hp
  | cons a r ih =>
    intro hn p q hp hq e
    rw [List.map_cons, List.nodup_cons] at hn
    rcases List.mem_cons.1 hp with h1 | h1 <;> rcases List.mem_cons.1 hq with h2 | h2
    · rw [h1, h2]
    · exact absurd (show a.1 ∈ r.map (·.1) from List.mem_map.2 ⟨q, h2, by rw [← e, h1]⟩) hn.1
    · exact absurd (show a.1 ∈ r.map (·.1) from List.mem_map.2 ⟨p, h1, by rw [e, h2]⟩) hn.1
    · exact ih hn.2 h1 h2 e

theorem leftOf_all {P : Program} {kt : TypeId} {w : World} {b : Nat} {m : List (Int × Value)} (h : MapI P kt okAtt w b m) (l : List (Int × PAtt)) (number : Int) (hm : m = attL l) :
    leftOf l (((l.filter (fun p => p.2.call == number)).map (·.1)).mergeSort) = l.filter (fun p => !(p.2.call == number)) := by
  have hnd : (l.map (·.1)).Nodup := by
    have := h.nodup
    rw [hm] at this
    unfold attL at this
    rw [List.map_map] at this
    exact this
  unfold leftOf
  apply List.filter_congr
  intro p hp
  congr 1
  rw [Bool.eq_iff_iff, List.contains_iff_mem, (List.mergeSort_perm _ _).mem_iff, List.mem_map]
  constructor
  · rintro ⟨q', hq, e⟩
    obtain ⟨hq1, hq2⟩ := List.mem_filter.1 hq
    have : q' = p := eq_of_nodup_keys hnd hq1 hp e
    rw [← this]
    exact hq2
  · intro hc
    exact ⟨p, List.mem_filter.2 ⟨hp, hc⟩, rfl⟩

set_option maxRecDepth 100000 in
set_option maxHeartbeats 8000000 in
theorem finish_T (p q bc ba : Nat) (number outcome value : Int) (lc : List (Int × Value)) (l : List (Int × PAtt)) (g cap : Nat) (xs : List PTimer) (w : World) (hl : l.length ≤ 1000000) (hlx : xs.length ≤ 1000000) (hgp : g ≠ p) (hw : (Lit.int .i64 number).wf = true)
    (cC : w.cell? ⟨p, 15, none⟩ = some (.map (some bc))) (cA : w.cell? ⟨p, 16, none⟩ = some (.map (some ba))) (cN : w.cell? ⟨q, 0, none⟩ = some (.int .i64 number)) (mC : MapI Tryz.prog 3 okPtr w bc lc) (mA : MapI Tryz.prog 3 okAtt w ba (attL l)) (hbb : ba ≠ bc)
    (hc : w.cell? ⟨p, 18, none⟩ = some (.slice (some ⟨g, 0, none⟩) xs.length cap)) (hz : w.frozen? ⟨p, 18, none⟩ = false) (hr : Row w 0 114 4 encPT (.slice (some ⟨g, 0, none⟩) xs.length cap) xs) :
    Calls Tryz.prog 67 #[.pointer (some ⟨p, 0, none⟩), .pointer (some ⟨q, 0, none⟩), .int .i64 outcome, .int .i64 value] w fun e w' => ∃ v ys, e = .returned v ∧ Row w' w.heap.size 55 6 encAct v (⟨3, number, 0, outcome, value, 0⟩ :: ((l.filter (fun p => p.2.call == number)).map (·.1)).mergeSort.map (fun k => ⟨2, number, k, 0, 0, 0⟩)) ∧
      MapI Tryz.prog 3 okAtt w' ba (attL (l.filter (fun p => !(p.2.call == number)))) ∧ MapI Tryz.prog 3 okPtr w' bc (lc.filter (fun p => p.1 != number)) ∧ ys.Perm (xs.filter (stays number)) ∧ IsHeap ys ∧ w'.cell? ⟨p, 18, none⟩ = some (.slice (some ⟨g, 0, none⟩) ys.length cap) ∧ Row w' 0 114 4 encPT (.slice (some ⟨g, 0, none⟩) ys.length cap) ys ∧ Fr p [18] [ba, bc, g] w w' := by
  have lp : p < w.heap.size := World.block_lt_of_cell? w _ cC
  have lq : q < w.heap.size := World.block_lt_of_cell? w _ cN
  have HO := hide (fun W (hW : Below w.heap.size w W) => openAttempts_T p q ba number l W (by omega) ((hW.cell lp).trans cA) ((hW.cell lq).trans cN) (mA.same (hW.block _ mA.lt)))
  obtain ⟨ns, hns⟩ : ∃ ns, ((l.filter (fun p => p.2.call == number)).map (·.1)).mergeSort = ns := ⟨_, rfl⟩
  have hLO : leftOf l ns = l.filter (fun p => !(p.2.call == number)) := by
    rw [← hns]
    exact leftOf_all mA l number rfl
  have HLO := hide hLO
  clear hLO
  rw [hns] at HO
  rw [hns]
  have HNS := hide hns
  clear hns
  go_enter Tryz.func67, Tryz.ntmps67
  go_wp2_with fail
  have hB0 : Below w.heap.size w (w.alloc (.cells #[.int .i64 3, .int .i64 number, .int .i64 0, .int .i64 outcome, .int .i64 value, .int .i64 0] 55)) := (Below.refl _ _).alloc (Nat.le_refl _) _
  have hR0 : Row (w.alloc (.cells #[.int .i64 3, .int .i64 number, .int .i64 0, .int .i64 outcome, .int .i64 value, .int .i64 0] 55)) w.heap.size 55 6 encAct (.slice (some ⟨w.heap.size, 0, none⟩) 1 1) [(⟨3, number, 0, outcome, value, 0⟩ : RAct)] :=
    ⟨rfl, .inr ⟨w.heap.size, 1, _, rfl, Nat.le_refl _, heap_alloc_new _ _, Nat.le_refl _, by simp [maxLen], rfl, rfl⟩⟩
  have hs0 : (w.alloc (.cells #[.int .i64 3, .int .i64 number, .int .i64 0, .int .i64 outcome, .int .i64 value, .int .i64 0] 55)).heap.size = w.heap.size + 1 := World.size_alloc _ _
  refine (HO.out _ hB0).mono ?_
  rintro e w1 ⟨v1, rfl, hrN, hb1⟩
  generalize w.alloc (.cells #[.int .i64 3, .int .i64 number, .int .i64 0, .int .i64 outcome, .int .i64 value, .int .i64 0] 55) = W0 at hB0 hR0 hs0 hrN hb1
  have hB1 : Below w.heap.size w w1 := hB0.trans (hb1.mono hB0.size)
  have hR1 := hR0.below hb1
  rw [hs0] at hrN
  obtain ⟨A, capN, rfl, hlenN, hA, hBN⟩ := hrN.form
  obtain ⟨i0, hi0, z0, z1, z2⟩ := info_parts Tryz.infoActP
  have hnw : ∀ x ∈ ns, (Lit.int .i64 x).wf = true := by
    intro x hx
    rw [← HNS.out] at hx
    have hx' := (List.mergeSort_perm _ _).mem_iff.1 hx
    obtain ⟨pr, hp, rfl⟩ := List.mem_map.1 hx'
    exact mA.wf (pr.1, attV pr.2) (List.mem_map.2 ⟨pr, (List.mem_filter.1 hp).1, rfl⟩)
  have hnl : ns.length ≤ 1000000 := by
    rw [← HNS.out, List.length_mergeSort, List.length_map]
    exact Nat.le_trans (List.length_filter_le _ _) hl
  have HNW := hide hnw
  have hap0 : ∀ k, (Value.slice (some ⟨w.heap.size, 0, none⟩) 1 1).ownBlock = some k → (Value.slice A ns.length capN).ownBlock ≠ some k := by
    intro k hk hk'
    have h1 : w.heap.size = k := by simpa [Value.ownBlock] using hk
    have := (hrN.lt k hk').1
    omega
  have mA1 : MapI Tryz.prog 3 okAtt w1 ba (attL (leftOf l (ns.take 0))) := by
    have : leftOf l (ns.take 0) = l := by simp [leftOf]
    rw [this]
    exact mA.same (hB1.block _ mA.lt)
  have hK1 : Kp [ba] w w1 := Kp.of_below hB1
  have lba := mA.lt
  clear HO hB0 hR0 hb1 hBN hnw hA hlenN
  go_wp2_with fail
  go_loopw [9, 24] (fun av iv wr => ∃ k : Nat, k ≤ ns.length ∧ iv = .int .i64 k ∧ Row wr w.heap.size 55 6 encAct av (⟨3, number, 0, outcome, value, 0⟩ :: (ns.take k).map (fun x => ⟨2, number, x, 0, 0, 0⟩)) ∧ MapI Tryz.prog 3 okAtt wr ba (attL (leftOf l (ns.take k))) ∧ Kp [ba] w wr ∧ Row wr (w.heap.size + 1) 3 1 encI (.slice A ns.length capN) ns ∧ (∀ k, av.ownBlock = some k → (Value.slice A ns.length capN).ownBlock ≠ some k)) (fun _ iv _ => ns.length - (intOf iv).toNat)
  case atStart => exact ⟨0, Nat.zero_le _, rfl, by simpa using hR1, mA1, hK1, hrN, hap0⟩
  case round =>
    obtain ⟨k, hk, rfl, hrA, hmA, hKr, hrN', hap⟩ := hrel
    clear hR1 mA1 hK1 hrN hap0
    have lpr : p < wr.heap.size := Nat.lt_of_lt_of_le lp hKr.size
    have lqr : q < wr.heap.size := Nat.lt_of_lt_of_le lq hKr.size
    have hpb : p ∉ [ba] := by
      have := mA.ne cC
      simpa using this
    have hqb : q ∉ [ba] := by
      have := mA.ne cN
      simpa using this
    have cAr := (hKr.cell lp hpb 16).trans cA
    have cNr := (hKr.cell lq hqb 0).trans cN
    by_cases hlt : k < ns.length
    · have hlt' : (k : Int) < (ns.length : Int) := by omega
      obtain ⟨g1, cap1, hAe, hown1⟩ := hrN'.at (by omega)
      obtain ⟨rfl, rfl⟩ : A = some ⟨g1, 0, none⟩ ∧ capN = cap1 := by cases hAe; exact ⟨rfl, rfl⟩
      obtain ⟨e0, _⟩ := hrN'.cell encI_len (g := g1) (j := 0) rfl hlt (u := .int .i64 ns[k]) rfl
      rw [Nat.mul_one, Nat.add_zero] at e0
      have hwx := HNW.out ns[k] (List.getElem_mem _)
      obtain ⟨w2, hrun, hM2, ht2⟩ := hmA.del Tryz.underlying3 Tryz.underlying89 hwx 0
      rw [leftOf_step l ns k hlt] at hM2
      have hk2 := Kp.of_map ht2
      have hrA2 := hk2.row hrA (fun k' hk' => by
        have := hmA.ne_row hrA
        simp
        exact fun e => this (by rw [hk', e]))
      have hrN2 := hk2.row hrN' (fun k' hk' => by
        have := hmA.ne_row hrN'
        simp
        exact fun e => this (by rw [hk', e]))
      have cN2 := (hk2.cell lqr hqb 0).trans cNr
      have HM2 := hide hM2
      have HT := hide (show (⟨3, number, 0, outcome, value, 0⟩ : RAct) :: (ns.take (k + 1)).map (fun x => (⟨2, number, x, 0, 0, 0⟩ : RAct)) = (⟨3, number, 0, outcome, value, 0⟩ :: (ns.take k).map (fun x => ⟨2, number, x, 0, 0, 0⟩)) ++ [⟨2, number, ns[k], 0, 0, 0⟩] by
        rw [List.take_succ_eq_append_getElem hlt, List.map_append]; rfl)
      have hacl : ((⟨3, number, 0, outcome, value, 0⟩ : RAct) :: (ns.take k).map (fun x => ⟨2, number, x, 0, 0, 0⟩)).length ≤ 1000001 := by simp; omega
      generalize ((⟨3, number, 0, outcome, value, 0⟩ : RAct) :: (ns.take k).map (fun x => ⟨2, number, x, 0, 0, 0⟩)) = acts at hrA hrA2 hacl HT
      generalize ns[k] = x at e0 hwx hrun HT
      have hK2 := hKr.trans hk2 (fun r h => .inl h)
      have hw2 : w.heap.size + 1 ≤ w2.heap.size := by
        have h9 := (hrN2.lt g1 rfl)
        omega
      have hrA3 := hide hrA2
      clear hM2 hrN' hrA cNr hKr hk2 ht2 hmA hk
      go_wp2_with (first
        | (at_builtin; refine wpList_append_lies _ (by rfl) _ _ _ (by rfl) w.heap.size 55 i0 _ 6 48 Tryz.underlying52 hi0 z0 z1 z2 rfl (by omega) u9 acts.length (acts.flatMap encAct) (by rfl) (World.ownsRow.alloc hrA3.out _) ⟨w2.heap.size, 0, none⟩ 1 1 (encAct ⟨2, number, x, 0, 0, 0⟩) (by rfl) (by rfl) (World.news_of_block (cs := (encAct ⟨2, number, x, 0, 0, 0⟩).toArray) (t := 55) (fr := (0, 0)) (heap_alloc_new w2 _)) (by simp [Value.oneCell', encAct]) (by omega) (by simp only [maxLen]; omega) (by omega) (by simp <;> omega) (w2.heap.size + 1) (by simp) ?_; intro g3 cap3 w3 hown hgrow hat hlt3))
      have hgr : w2.grownBy w3 u9.ownBlock := (World.grownBy_alloc w2 _ _).trans hgrow
      have hK3 : Kp [ba] w w3 := ⟨hgr.os.trans hK2.os, hgr.tape.trans hK2.tape, hgr.output.trans hK2.output, Nat.le_trans hK2.size hgr.size, fun k' hk' hn => (hgr.block k' (Nat.lt_of_lt_of_le hk' hK2.size) (fun e => by have := (hrA3.out.lt k' e.symm).1; omega)).trans (hK2.block k' hk' hn)⟩
      have hrN3 := hrN2.kept hgr (.inr (fun e => hap g1 (by rw [← e]; rfl) rfl))
      have hM3 := HM2.out.kept hgr (fun e => HM2.out.ne_row hrA3.out e.symm)
      go_roundw
      case rel =>
        refine ⟨k + 1, by omega, by go_num, ?_, hM3, hK3, hrN3, ?_⟩
        · rw [HT.out]
          exact hrA3.out.push hown
        · intro k' hk' hk''
          have h1 : g3 = k' := by simpa [Value.ownBlock] using hk'
          have h2 : g1 = k' := by simpa [Value.ownBlock] using hk''
          rcases hat with h3 | h3
          · exact hap g1 (by rw [h3, h1, h2]) rfl
          · have := (hrN2.lt g1 rfl).2
            omega
      case measure => simp [intOf]; omega
    · have hke : k = ns.length := by omega
      subst hke
      rw [List.take_of_length_le (Nat.le_refl _)] at hrA hmA
      rw [HLO.out] at hmA
      have hbc : bc ∉ [ba] := by simpa using Ne.symm hbb
      have hcb : p ∉ [bc] := by simpa using mC.ne cC
      have hqc : q ∉ [bc] := by simpa using mC.ne cN
      have mCr := mC.same (hKr.block _ mC.lt hbc)
      obtain ⟨w2, hrun, hM2, ht2⟩ := mCr.drew.del Tryz.underlying3 Tryz.underlying88 hw 0
      have hk2' : Kp [bc] wr.drew w2 := Kp.of_map ht2
      have hk2 : Kp [bc] wr w2 := ⟨hk2'.os, hk2'.tape, hk2'.output, hk2'.size, hk2'.block⟩
      have cCr := (hKr.cell lp hpb 15).trans cC
      have cN2 := (hk2.cell lqr hqc 0).trans cNr
      have lg : g < w.heap.size := (hr.lt g rfl).2
      have hgba : g ∉ [ba] := by
        have := mA.ne_row hr
        simp
        exact fun e => this (by rw [e]; rfl)
      have hgbc : g ∉ [bc] := by
        have := mC.ne_row hr
        simp
        exact fun e => this (by rw [e]; rfl)
      have hKK : Kp [ba, bc, g] w w2 := (Kp.trans (R := [ba, bc, g]) ⟨hKr.os, hKr.tape, hKr.output, hKr.size, fun k' hk' hn => hKr.block k' hk' (fun h => hn (by simp at h ⊢; omega))⟩ hk2 (fun r h => .inl (by simp at h ⊢; omega)))
      have hrT := hk2.row (hKr.row hr (fun k' hk' => by cases hk'; exact hgba)) (fun k' hk' => by cases hk'; exact hgbc)
      have cT2 := (hk2.cell lpr hcb 18).trans ((hKr.cell lp hpb 18).trans hc)
      have fT2 := (hk2.frozen lpr hcb 18).trans ((hKr.frozen lp hpb 18).trans hz)
      have HDT := hide (dropTimers_any p number g cap xs w2 hlx hgp cT2 fT2 hrT)
      have hrA2 := hk2.row hrA (fun k' hk' => by
        have := mCr.ne_row hrA
        simp
        exact fun e => this (by rw [hk', e]))
      have hmA2 := hmA.same (hk2.block _ hmA.lt (by simpa using hbb))
      have hnp : p ∉ [ba, bc, g] := by
        simp at hpb hcb ⊢
        exact ⟨hpb, hcb, Ne.symm hgp⟩
      have HFK := hide (hKK.fr lp hnp)
      have HA := hide hrA2
      have HMA := hide hmA2
      have HMC := hide hM2
      clear hM2 hmA2 hrA2 hKK hKr hrA hmA hrN' hap mCr ht2 HNW hk hlt hr cT2 fT2 hc hz
      obtain ⟨A9, cap9, rfl, _, _, _⟩ := HA.out.form
      rw [List.length_cons, List.length_map] at HA
      clear hk2'
      go_wp2_with fail
      go_region
      go_wp2_with fail
      refine HDT.out.mono ?_
      rintro e w3 ⟨rfl, ys, hP, hH, hc3, hr3, hF3⟩
      go_wp2_with fail
      go_ret
      have lg2 : p < w2.heap.size := Nat.lt_of_lt_of_le lp HFK.out.size
      refine ⟨.slice A9 (ns.length + 1) cap9, ys, rfl, ?_, ?_, ?_, hP, hH, hc3, hr3, ?_⟩
      · exact hF3.row HA.out (fun k' hk' => by
          have := (HA.out.lt k' hk').1
          exact ⟨by omega, by simp; omega⟩)
      · exact HMA.out.same (hF3.block _ HMA.out.lt (by simp at hpb; omega) (by simp at hgba ⊢; omega))
      · exact HMC.out.same (hF3.block _ HMC.out.lt (by simp at hcb; omega) (by simp at hgbc ⊢; omega))
      · exact HFK.out.trans hF3 (J'' := [18]) (fun _ h => ⟨by simp, h⟩) (fun r h => .inl (by simp at h ⊢; omega))
end Go.Proofs.YtlccfpbbdgpjbaaGreatDoor
