import Derived.Test.YtlccfpbbdgpjbaaGreatDoorREnd
namespace Go.Proofs.YtlccfpbbdgpjbaaGreatDoor
open Go.RowKit

abbrev Ev := PEv
def encEv (e : Ev) : Array Value := #[.int .i64 e.kind, .int .i64 e.call, .int .i64 e.attempt, .int .i64 e.value, .int .i64 e.timeout, .bool e.safe, .int .u64 e.draw, .int .i64 e.to_]

/-- In the midst of a function that holds a block of its own: the client is s'. -/
structure MidB (p : Nat) (V : V6) (w : World) (s' : St) (V' : V6) (B : Nat) (cs : Array Value) (t : TypeId) (wx : World) : Prop where
  rep : Rep wx p s' V'
  mv : Mv p V w V' wx
  no : ¬ own p V' B
  at_ : wx.heap[B]? = some (.cells cs t (0, 0))

theorem MidB.lt {p : Nat} {V V' : V6} {w wx : World} {s' : St} {B : Nat} {cs : Array Value} {t : TypeId} (h : MidB p V w s' V' B cs t wx) : B < wx.heap.size := (Array.getElem?_eq_some_iff.1 h.at_).1
theorem MidB.step {p : Nat} {V V' V'' : V6} {w wx wy : World} {s' s'' : St} {B : Nat} {cs : Array Value} {t : TypeId} (h : MidB p V w s' V' B cs t wx) (r : Rep wy p s'' V'') (m : Mv p V' wx V'' wy) : MidB p V w s'' V'' B cs t wy :=
  ⟨r, h.mv.trans m, fun ho => (m.news B ho).elim h.no (fun h' => absurd h.lt (Nat.not_lt.2 h')), (m.block B h.lt h.no).trans h.at_⟩
theorem MidB.on {p : Nat} {V V' : V6} {w wx wy : World} {s' : St} {B : Nat} {cs : Array Value} {t : TypeId} (h : MidB p V w s' V' B cs t wx) (hb : Below wx.heap.size wx wy) : MidB p V w s' V' B cs t wy :=
  h.step (h.rep.on hb) (Mv.of_below hb)
theorem MidB.cell {p : Nat} {V V' : V6} {w wx : World} {s' : St} {B : Nat} {cs : Array Value} {t : TypeId} (h : MidB p V w s' V' B cs t wx) (j : Nat) {u : Value} (hu : cs[j]? = some u) : wx.cell? ⟨B, j, none⟩ = some u := by
  rw [cell_of_row wx B j cs t (0, 0) h.at_]
  exact hu
theorem MidB.begin {p : Nat} {V : V6} {w : World} {s : St} (h : Rep w p s V) (cs : Array Value) (t : TypeId) : MidB p V w s V w.heap.size cs t (w.alloc (.cells cs t)) :=
  ⟨h.on ((Below.refl _ _).alloc (Nat.le_refl _) _), Mv.of_below ((Below.refl _ _).alloc (Nat.le_refl _) _), fun ⟨j, hj⟩ => by have := h.lt j _ hj; omega, heap_alloc_new w _⟩

theorem rwithin_yes (n a b : Int) (w : World) (h1 : a ≤ n) (h2 : n ≤ b) : Calls Tryz.prog 51 #[.int .i64 n, .int .i64 a, .int .i64 b] w fun e w' => e = .returned (.bool true) ∧ w' = w := by
  go_enter Tryz.func51, Tryz.ntmps51
  go_wp2
  go_ret
  exact ⟨rfl, rfl⟩
theorem rwithin_no (n a b : Int) (w : World) (h : ¬ (a ≤ n ∧ n ≤ b)) : Calls Tryz.prog 51 #[.int .i64 n, .int .i64 a, .int .i64 b] w fun e w' => e = .returned (.bool false) ∧ w' = w := by
  by_cases h1 : n < a
  · clear h
    go_enter Tryz.func51, Tryz.ntmps51
    go_wp2
    go_ret
    exact ⟨rfl, rfl⟩
  · have h2 : b < n := by omega
    clear h
    go_enter Tryz.func51, Tryz.ntmps51
    go_wp2
    go_ret
    exact ⟨congrArg (fun x => Ending.returned (Value.bool x)) (decide_eq_false (by omega)), rfl⟩

set_option maxRecDepth 100000 in
set_option maxHeartbeats 1600000 in
theorem rsubmit_refuse (p : Nat) (s : St) (V : V6) (w : World) (h : Rep w p s V) (e : Ev) (l1 : s.calls.length ≤ 100000000) (l3 : s.out.length ≤ 100000000) (b5 : 0 ≤ s.now) (b6 : s.now ≤ 1099511627776) (hw : whyS s e ≠ 0) :
    Calls Tryz.prog 81 #[.pointer (some ⟨p, 0, none⟩), .agg (encEv e)] w fun ev w' => ev = .returned (.tuple #[]) ∧ Now p V w (refuseS s e) w' := by
  have M0 := MidB.begin h (encEv e) 39
  have hwhy : ∃ y, whyS s e = y ∧ refuseS s e = { s with out := s.out ++ [⟨4, e.call, 0, y, 0, 0⟩] } := ⟨_, rfl, rfl⟩
  obtain ⟨y, hy, hre⟩ := hwhy
  rw [hy] at hw
  rw [hre]
  have HF := hide (rep_find M0.rep l1 e.call)
  have lC : (s.calls.length : Int) ≤ 100000000 := by omega
  obtain ⟨A, cap, hA, _, _, _⟩ := h.rc.form
  have kc : (w.alloc (.cells (encEv e) 39)).cell? ⟨p, 11, none⟩ = some (.slice A s.calls.length cap) := by rw [← hA]; exact M0.rep.kc
  have k5 : (w.alloc (.cells (encEv e) 39)).cell? ⟨p, 5, none⟩ = some (.int .i64 s.cfg.flight) := M0.rep.k5
  have kN : (w.alloc (.cells (encEv e) 39)).cell? ⟨p, 10, none⟩ = some (.int .i64 s.now) := M0.rep.kN
  have hpw : w.heap.size ≠ p := by have := h.lp; omega
  unfold whyS at hy
  unfold encEv at M0 HF kc k5 kN ⊢
  generalize findI s.calls e.call = fi at HF hy
  have HRE := hide hre
  clear hA hre
  by_cases c1 : 1 ≤ e.timeout ∧ e.timeout ≤ 10000
  · rw [if_neg (fun h => h c1)] at hy
    obtain ⟨t1, t2⟩ := c1
    by_cases c2 : 0 ≤ fi
    · rw [if_pos c2] at hy
      subst hy
      go_enter Tryz.func81, Tryz.ntmps81
      go_wp2_with fail
      refine HF.out.mono ?_
      rintro ev w' ⟨rfl, rfl⟩
      go_wp2_with fail
      refine (rwithin_yes _ _ _ _ t1 t2).mono ?_
      rintro ev w' ⟨rfl, rfl⟩
      go_wp2_with fail
      refine (rep_act M0.rep l3 ⟨4, e.call, 0, 6, 0, 0⟩).mono ?_
      rintro ev w2 ⟨rfl, V2, r2, m2⟩
      have HN := hide (show Now p V w _ w2 from ⟨V2, r2, M0.mv.trans m2⟩)
      clear r2 m2
      go_wp2_with fail
      exact bodyPost_ret (v := .tuple #[]) (by simp [results, Tryz.results81, go_sem]) rfl ⟨rfl, HN.out⟩
    · rw [if_neg c2] at hy
      have c2' : fi < 0 := by omega
      by_cases c3 : s.cfg.flight ≤ (s.calls.length : Int)
      · rw [if_pos c3] at hy
        subst hy
        go_enter Tryz.func81, Tryz.ntmps81
        go_wp2_with fail
        refine HF.out.mono ?_
        rintro ev w' ⟨rfl, rfl⟩
        go_wp2_with fail
        refine (rwithin_yes _ _ _ _ t1 t2).mono ?_
        rintro ev w' ⟨rfl, rfl⟩
        go_wp2_with fail
        go_quiet (fail)
        obtain ⟨wq, hwq⟩ : ∃ wq, wq = (w.alloc (.cells #[.int .i64 e.kind, .int .i64 e.call, .int .i64 e.attempt, .int .i64 e.value, .int .i64 e.timeout, .bool e.safe, .int .u64 e.draw, .int .i64 e.to_] 39)).drewN nq := ⟨_, rfl⟩
        have hbq : Below (w.alloc (.cells #[.int .i64 e.kind, .int .i64 e.call, .int .i64 e.attempt, .int .i64 e.value, .int .i64 e.timeout, .bool e.safe, .int .u64 e.draw, .int .i64 e.to_] 39)).heap.size (w.alloc (.cells #[.int .i64 e.kind, .int .i64 e.call, .int .i64 e.attempt, .int .i64 e.value, .int .i64 e.timeout, .bool e.safe, .int .u64 e.draw, .int .i64 e.to_] 39)) wq := by rw [hwq]; exact below_drewN _ _
        rw [← hwq]
        clear hwq
        have M1 := M0.on hbq
        have kN1 : wq.cell? ⟨p, 10, none⟩ = some (.int .i64 s.now) := M1.rep.kN
        have ec1 : wq.cell? ⟨w.heap.size, 1, none⟩ = some (.int .i64 e.call) := M1.cell 1 rfl
        have et1 : wq.cell? ⟨w.heap.size, 4, none⟩ = some (.int .i64 e.timeout) := M1.cell 4 rfl
        clear kc k5 kN hbq
        go_wp2_with fail
        refine (rep_act M1.rep l3 ⟨4, e.call, 0, 7, 0, 0⟩).mono ?_
        rintro ev w2 ⟨rfl, V2, r2, m2⟩
        have HN := hide (show Now p V w _ w2 from ⟨V2, r2, M1.mv.trans m2⟩)
        clear r2 m2
        go_wp2_with fail
        exact bodyPost_ret (v := .tuple #[]) (by simp [results, Tryz.results81, go_sem]) rfl ⟨rfl, HN.out⟩
      · rw [if_neg c3] at hy
        have c3' : decide (s.cfg.flight ≤ (s.calls.length : Int)) = false := by simpa using c3
        by_cases c4 : 1099511627776 < s.now + e.timeout
        · rw [if_pos c4] at hy
          subst hy
          go_enter Tryz.func81, Tryz.ntmps81
          go_wp2_with fail
          refine HF.out.mono ?_
          rintro ev w' ⟨rfl, rfl⟩
          go_wp2_with fail
          refine (rwithin_yes _ _ _ _ t1 t2).mono ?_
          rintro ev w' ⟨rfl, rfl⟩
          go_wp2_with fail
          go_quiet (fail)
          obtain ⟨wq, hwq⟩ : ∃ wq, wq = (w.alloc (.cells #[.int .i64 e.kind, .int .i64 e.call, .int .i64 e.attempt, .int .i64 e.value, .int .i64 e.timeout, .bool e.safe, .int .u64 e.draw, .int .i64 e.to_] 39)).drewN nq := ⟨_, rfl⟩
          have hbq : Below (w.alloc (.cells #[.int .i64 e.kind, .int .i64 e.call, .int .i64 e.attempt, .int .i64 e.value, .int .i64 e.timeout, .bool e.safe, .int .u64 e.draw, .int .i64 e.to_] 39)).heap.size (w.alloc (.cells #[.int .i64 e.kind, .int .i64 e.call, .int .i64 e.attempt, .int .i64 e.value, .int .i64 e.timeout, .bool e.safe, .int .u64 e.draw, .int .i64 e.to_] 39)) wq := by rw [hwq]; exact below_drewN _ _
          rw [← hwq]
          clear hwq
          have M1 := M0.on hbq
          have kN1 : wq.cell? ⟨p, 10, none⟩ = some (.int .i64 s.now) := M1.rep.kN
          have ec1 : wq.cell? ⟨w.heap.size, 1, none⟩ = some (.int .i64 e.call) := M1.cell 1 rfl
          have et1 : wq.cell? ⟨w.heap.size, 4, none⟩ = some (.int .i64 e.timeout) := M1.cell 4 rfl
          clear kc k5 kN hbq
          go_wp2_with fail
          go_quiet (fail)
          obtain ⟨wz, hwz⟩ : ∃ wz, wz = wq.drewN nq := ⟨_, rfl⟩
          have hbz : Below wq.heap.size wq wz := by rw [hwz]; exact below_drewN _ _
          rw [← hwz]
          clear hwz
          have M2 := M1.on hbz
          have ec2 : wz.cell? ⟨w.heap.size, 1, none⟩ = some (.int .i64 e.call) := M2.cell 1 rfl
          clear kN1 ec1 et1 hbz
          go_wp2_with fail
          refine (rep_act M2.rep l3 ⟨4, e.call, 0, 8, 0, 0⟩).mono ?_
          rintro ev w2 ⟨rfl, V2, r2, m2⟩
          have HN := hide (show Now p V w _ w2 from ⟨V2, r2, M2.mv.trans m2⟩)
          clear r2 m2
          go_wp2_with fail
          exact bodyPost_ret (v := .tuple #[]) (by simp [results, Tryz.results81, go_sem]) rfl ⟨rfl, HN.out⟩
        · rw [if_neg c4] at hy
          exact absurd hy.symm hw
  · rw [if_pos c1] at hy
    subst hy
    go_enter Tryz.func81, Tryz.ntmps81
    go_wp2_with fail
    refine HF.out.mono ?_
    rintro ev w' ⟨rfl, rfl⟩
    go_wp2_with fail
    refine (rwithin_no _ _ _ _ c1).mono ?_
    rintro ev w' ⟨rfl, rfl⟩
    go_wp2_with fail
    refine (rep_act M0.rep l3 ⟨4, e.call, 0, 5, 0, 0⟩).mono ?_
    rintro ev w2 ⟨rfl, V2, r2, m2⟩
    have HN := hide (show Now p V w _ w2 from ⟨V2, r2, M0.mv.trans m2⟩)
    clear r2 m2
    go_wp2_with fail
    exact bodyPost_ret (v := .tuple #[]) (by simp [results, Tryz.results81, go_sem]) rfl ⟨rfl, HN.out⟩
end Go.Proofs.YtlccfpbbdgpjbaaGreatDoor
