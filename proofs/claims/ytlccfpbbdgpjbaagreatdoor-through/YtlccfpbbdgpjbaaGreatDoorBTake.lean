/-
  Take.
-/
import Derived.Test.YtlccfpbbdgpjbaaGreatDoorBBring
namespace Go.Proofs.YtlccfpbbdgpjbaaGreatDoor
open Go.RowKit

/-- So many units go, those that came first; what is empty goes with them. -/
def takeB : List PB → Int → List PB
  | [], _ => []
  | b :: r, n => if n ≤ 0 then b :: r else if n < b.units then ⟨b.came, b.units - n⟩ :: r else takeB r (n - b.units)

theorem takeB_zero (l : List PB) : takeB l 0 = l := by cases l <;> simp [takeB]
theorem takeB_okB : ∀ (l : List PB) (n : Int), OkB l → OkB (takeB l n) := by
  intro l
  induction l with
  | nil => intro n h; exact h
  | cons b r ih =>
    intro n h
    have hb := h b (by simp)
    have hr : OkB r := fun x hx => h x (by simp [hx])
    unfold takeB
    split
    · exact h
    · split
      · intro x hx
        rcases List.mem_cons.1 hx with rfl | hx
        · exact ⟨by show 0 < b.units - n; omega, by show b.units - n ≤ 1000; omega, hb.2.2⟩
        · exact hr x hx
      · exact ih _ hr

/-- How far Take has come: k entries are empty, c units are still to go. -/
structure TakingB (l ys : List PB) (n c : Int) (k : Nat) : Prop where
  done : takeB l n = takeB (ys.drop k) c
  ok : OkB (ys.drop k)
  c0 : 0 ≤ c
  cs : c ≤ sumB (ys.drop k)
  len : ys.length = l.length
  kl : k ≤ ys.length

theorem TakingB.lt {l ys : List PB} {n c : Int} {k : Nat} (h : TakingB l ys n c k) (hc : 0 < c) : k < ys.length := by
  rcases Nat.lt_or_ge k ys.length with hk | hk
  · exact hk
  · have := h.cs
    rw [List.drop_of_length_le hk] at this
    simp only [sumB] at this
    omega
/-- An entry that is not emptied. -/
theorem TakingB.part {l ys : List PB} {n c : Int} {k : Nat} (h : TakingB l ys n c k) (hc : 0 < c) (hk : k < ys.length) (hu : c < ys[k].units) : TakingB l (ys.set k ⟨ys[k].came, ys[k].units - c⟩) n 0 k := by
  have hd := List.drop_eq_getElem_cons hk
  have e2 : (ys.set k ⟨ys[k].came, ys[k].units - c⟩).drop k = ⟨ys[k].came, ys[k].units - c⟩ :: ys.drop (k + 1) := by
    rw [List.drop_eq_getElem_cons (by simpa using hk), List.getElem_set_self, List.drop_set_of_lt (by omega)]
  have hb := h.ok ys[k] (by rw [hd]; exact List.mem_cons_self)
  have hok : OkB (⟨ys[k].came, ys[k].units - c⟩ :: ys.drop (k + 1)) := by
    intro x hx
    rcases List.mem_cons.1 hx with rfl | hx
    · exact ⟨by show 0 < ys[k].units - c; omega, by show ys[k].units - c ≤ 1000; omega, hb.2.2⟩
    · exact h.ok x (by rw [hd]; exact List.mem_cons_of_mem _ hx)
  refine ⟨?_, by rw [e2]; exact hok, Int.le_refl _, by rw [e2]; exact (sumB_bound hok).1, by simpa using h.len, by simpa using h.kl⟩
  rw [h.done, hd, e2, takeB_zero]
  conv => lhs; unfold takeB
  rw [if_neg (by omega), if_pos hu]
/-- An entry that is emptied. -/
theorem TakingB.whole {l ys : List PB} {n c : Int} {k : Nat} (h : TakingB l ys n c k) (hc : 0 < c) (hk : k < ys.length) (hu : ¬ c < ys[k].units) (x : PB) : TakingB l (ys.set k x) n (c - ys[k].units) (k + 1) := by
  have hd := List.drop_eq_getElem_cons hk
  have e2 : (ys.set k x).drop (k + 1) = ys.drop (k + 1) := List.drop_set_of_lt (by omega)
  refine ⟨?_, ?_, by omega, ?_, by simpa using h.len, by simp; omega⟩
  · rw [h.done, hd, e2]
    conv => lhs; unfold takeB
    rw [if_neg (by omega), if_neg hu]
  · rw [e2]
    intro y hy
    exact h.ok y (by rw [hd]; exact List.mem_cons_of_mem _ hy)
  · rw [e2]
    have := h.cs
    rw [hd] at this
    simp only [sumB] at this
    omega

set_option maxRecDepth 100000 in
set_option maxHeartbeats 4000000 in
theorem takeBudget_any (p o : Nat) (cost : Int) (v : Value) (l : List PB) (w : World) (hl : l.length ≤ 1000000) (hk : OkB l) (hc0 : 0 ≤ cost) (hc : w.cell? ⟨p, o + 3, none⟩ = some v) (hz : w.frozen? ⟨p, o + 3, none⟩ = false) (hr : Row w 0 150 2 encPB v l) (hv : v.ownBlock ≠ some p) :
    Calls Tryz.prog 103 #[.pointer (some ⟨p, o, none⟩), .int .i64 cost] w fun e w' =>
      e = .returned (.bool (decide (cost ≤ sumB l))) ∧ ∃ v', w'.cell? ⟨p, o + 3, none⟩ = some v' ∧ Row w' 0 150 2 encPB v' (if cost ≤ sumB l then takeB l cost else l) ∧ v'.ownBlock = v.ownBlock ∧ Fr p [o + 3] v.ownBlock.toList w w' := by
  have lp : p < w.heap.size := World.block_lt_of_cell? w _ hc
  have HBL := hide (balanceB_any p o v l w hl hk hc hr)
  obtain ⟨s1, s2⟩ := sumB_bound hk
  have s3 : sumB l ≤ 1000000000 := by omega
  have HR := hide hr
  have HC := hide hc
  have HZ := hide hz
  have HV := hide hv
  have HK := hide hk
  clear hr hc hz hv hk s2
  by_cases hlt : sumB l < cost
  · rw [decide_eq_false (by omega), if_neg (by omega)]
    generalize sumB l = s at hlt HBL s1 s3
    go_enter Tryz.func103, Tryz.ntmps103
    go_wp2_with fail
    refine HBL.out.mono ?_
    rintro e w1 ⟨rfl, hb⟩
    go_wp2_with fail
    go_ret
    exact ⟨rfl, v, (hb.cell lp).trans HC.out, HR.out.below hb, rfl, Fr.of_below lp hb⟩
  · rw [decide_eq_true (by omega), if_pos (by omega)]
    have T0 := hide (show TakingB l l cost cost 0 from ⟨rfl, HK.out, hc0, by simpa using hlt, rfl, Nat.zero_le _⟩)
    have hcm : cost ≤ 1000000000 := by omega
    generalize sumB l = s at hlt HBL s1 s3
    go_enter Tryz.func103, Tryz.ntmps103
    go_wp2_with fail
    refine HBL.out.mono ?_
    rintro e w1 ⟨rfl, hb⟩
    clear HBL
    go_wp2_with fail
    go_loopw [1, 5] (fun cv ev wr => ∃ (c : Int) (k : Nat) (ys : List PB), cv = .int .i64 c ∧ ev = .int .i64 k ∧ c ≤ 1000000000 ∧ TakingB l ys cost c k ∧ wr.cell? ⟨p, o + 3, none⟩ = some v ∧ Row wr 0 150 2 encPB v ys ∧ Fr p [] v.ownBlock.toList w wr) (fun cv _ _ => (intOf cv).toNat)
    case atStart => exact ⟨cost, 0, l, rfl, rfl, hcm, T0.out, (hb.cell lp).trans HC.out, HR.out.below hb, Fr.of_below lp hb⟩
    case round =>
      obtain ⟨c, k, ys, rfl, rfl, hc9, T, cr, hrr, hF⟩ := hrel
      have lpr : p < wr.heap.size := Nat.lt_of_lt_of_le lp hF.size
      clear T0 hb
      by_cases h0 : 0 < c
      · have hkk := T.lt h0
        have hyl : ys.length ≤ 1000000 := by rw [T.len]; exact hl
        have hkk' : (k : Int) < (ys.length : Int) := by omega
        obtain ⟨g, cap, rfl, hown⟩ := hrr.at (by omega)
        have hgp : g ≠ p := fun e => HV.out (by rw [hown, e])
        obtain ⟨e1, f1⟩ := hrr.cell encPB_len (g := g) (j := 1) rfl hkk rfl
        have hu := T.ok ys[k] (by rw [List.drop_eq_getElem_cons hkk]; exact List.mem_cons_self)
        obtain ⟨u0, u1, _, _⟩ := hu
        have TP := hide (T.part h0 hkk)
        have TW := hide (fun h => T.whole h0 hkk h ⟨ys[k].came, 0⟩)
        have HRR := hide hrr
        generalize hz9 : ys[k].units = u at e1 TP TW u0 u1
        clear hz9 hrr T HC HR HK hlt HZ hown
        rcases Int.lt_trichotomy u c with h1 | h1 | h1
        · have TW' := hide (TW.out (by omega))
          clear TP TW
          go_wp2_with fail
          go_roundw
          case rel =>
            refine ⟨c - u, k + 1, ys.set k ⟨ys[k].came, 0⟩, by go_num, by go_num, by omega, TW'.out, ?_, HRR.out.set encPB_len (g := g) (j := 1) rfl hkk (by omega) _ _ rfl, hF.setIn (a := ⟨g, k * 2 + 1, none⟩) (by simp [Value.ownBlock]) hgp _⟩
            exact (World.cell?_of_block (Below.heap_setCell _ _ _ _ (Ne.symm hgp))).trans cr
          case measure => simp [intOf]; omega
        · subst h1
          have TW' := hide (TW.out (by omega))
          rw [Int.sub_self] at TW'
          clear TP TW
          go_wp2_with fail
          go_roundw
          case rel =>
            refine ⟨0, k + 1, ys.set k ⟨ys[k].came, 0⟩, by go_num, by go_num, by omega, TW'.out, ?_, HRR.out.set encPB_len (g := g) (j := 1) rfl hkk (by omega) _ _ rfl, hF.setIn (a := ⟨g, k * 2 + 1, none⟩) (by simp [Value.ownBlock]) hgp _⟩
            exact (World.cell?_of_block (Below.heap_setCell _ _ _ _ (Ne.symm hgp))).trans cr
          case measure => simp [intOf]; omega
        · have TP' := hide (TP.out h1)
          have h2 : ¬ u < c := by omega
          have h3 : (u - c == 0) = false := by rw [beq_eq_false_iff_ne]; omega
          clear TP TW
          go_wp2_with fail
          go_roundw
          case rel =>
            refine ⟨0, k, ys.set k ⟨ys[k].came, u - c⟩, by go_num, rfl, by omega, TP'.out, ?_, HRR.out.set encPB_len (g := g) (j := 1) rfl hkk (by omega) _ _ rfl, hF.setIn (a := ⟨g, k * 2 + 1, none⟩) (by simp [Value.ownBlock]) hgp _⟩
            exact (World.cell?_of_block (Below.heap_setCell _ _ _ _ (Ne.symm hgp))).trans cr
          case measure => simp [intOf]; omega
      · have hc00 : c = 0 := by have := T.c0; omega
        subst hc00
        have HFIN := hide (show takeB l cost = ys.drop k by rw [T.done, takeB_zero])
        have HDD := hide (deleteB_any k v ys wr (by rw [T.len]; exact hl) T.kl hrr)
        have fr : wr.frozen? ⟨p, o + 3, none⟩ = false := (hF.frozen (o + 3)).trans HZ.out
        clear HC HR HK T HZ
        go_wp2_with fail
        refine HDD.out.mono ?_
        rintro e w2 ⟨v2, rfl, hr2, hv2, hk2⟩
        have hpn : p ∉ v.ownBlock.toList := by
          intro h
          exact HV.out (by simpa using h)
        have c2 := (hk2.cell lpr hpn (o + 3)).trans cr
        have f2 := (hk2.frozen lpr hpn (o + 3)).trans fr
        have hvp : v2.ownBlock ≠ some p := by rw [hv2]; exact HV.out
        have HR2 := hide (hr2.same (w' := w2.setCell ⟨p, o + 3, none⟩ v2) (fun k hk => Below.heap_setCell _ _ _ _ (fun e => hvp (by rw [hk]; exact congrArg some e))))
        have HF2 := hide ((hF.trans (hk2.fr lpr hpn) (J'' := []) (fun _ h => ⟨h, h⟩) (fun r h => .inl h)).trans (Fr.store (j := o + 3) (w := w2) v2) (J'' := [o + 3]) (fun _ h => ⟨by simp, h⟩) (fun r h => by cases h))
        obtain ⟨A2, cap2, rfl, _, _, _⟩ := hr2.form
        rw [List.length_drop] at HR2 HF2 hv2
        clear hr2 hk2 HDD hvp
        go_wp2_with fail
        go_ret
        exact ⟨rfl, _, World.cell?_setCell_same _ _ _ c2, by rw [HFIN.out]; exact HR2.out, hv2, HF2.out⟩
end Go.Proofs.YtlccfpbbdgpjbaaGreatDoor
