import Derived.Test.YtlccfpbbdgpjbaaGreatDoorZSim
import Derived.Test.YtlccfpbbdgpjbaaGreatDoorZBuck
import Derived.Deep.LoopGhost
import Derived.Deep.DeepCutAuto
namespace Go.Proofs.YtlccfpbbdgpjbaaGreatDoor
open Go.RowKit

theorem belowT_snoc (l : List Int) (t : Int) (j : Nat) (h : j < l.length) : belowT (l.take (j + 1)) t = belowT (l.take j) t + (if l[j] < t then 1 else 0) := by
  unfold belowT
  rw [filter_snoc _ _ _ h, List.length_append]
  by_cases c : l[j] < t
  · simp [c]
  · simp [c]
theorem sameT_snoc (l : List Int) (t : Int) (j : Nat) (h : j < l.length) : sameT (l.take (j + 1)) t = sameT (l.take j) t + (if l[j] = t then 1 else 0) := by
  unfold sameT
  rw [filter_snoc _ _ _ h, List.length_append]
  by_cases c : l[j] = t
  · simp [c]
  · simp [c]
theorem belowT_le (l : List Int) (t : Int) (j : Nat) : 0 ≤ belowT (l.take j) t ∧ belowT (l.take j) t ≤ (j : Int) := by
  unfold belowT
  have h1 := List.length_filter_le (fun x : Int => decide (x < t)) (l.take j)
  rw [List.length_take] at h1
  omega
theorem sameT_le (l : List Int) (t : Int) (j : Nat) : 0 ≤ sameT (l.take j) t ∧ sameT (l.take j) t ≤ (j : Int) := by
  unfold sameT
  have h1 := List.length_filter_le (fun x : Int => decide (x = t)) (l.take j)
  rw [List.length_take] at h1
  omega

set_option maxRecDepth 100000 in
set_option maxHeartbeats 8000000 in
theorem rdelay_core (p : Nat) (ts : List Int) (rk : Int) (A : Option Addr) (cap : Nat) (w : World) (lp : p < w.heap.size) (k8 : w.cell? ⟨p, 8, none⟩ = some (.int .i64 rk)) (km : w.cell? ⟨p, 16, none⟩ = some (.slice A ts.length cap))
    (HB : Hid (∀ k (_ : k < ts.length), ∃ g o, A = some ⟨g, o, none⟩ ∧ g < w.heap.size ∧ w.cell? ⟨g, o + k, none⟩ = some (.int .i64 ts[k]))) (hl : ts.length ≤ 32) (r0 : 1 ≤ rk) (r1 : rk ≤ 100) :
    Calls Tryz.prog 133 #[.pointer (some ⟨p, 0, none⟩)] w fun e w' => e = .returned (.int .i64 (delayR ts rk)) ∧ Below w.heap.size w w' := by
  have hm0 : (0 : Int) ≤ (ts.length : Int) * rk := Int.mul_nonneg (by omega) (by omega)
  have hm1 : (ts.length : Int) * rk ≤ 3200 := by
    have := Int.mul_le_mul_of_nonneg_left r1 (show (0 : Int) ≤ ts.length by omega)
    omega
  have hq : ((ts.length : Int) * rk).tdiv 100 = (ts.length : Int) * rk / 100 := Int.tdiv_eq_ediv_of_nonneg hm0
  have hrm : ((ts.length : Int) * rk).tmod 100 = (ts.length : Int) * rk % 100 := Int.tmod_eq_emod_of_nonneg hm0
  obtain ⟨K, hK⟩ : ∃ K, K = kthR ts.length rk := ⟨_, rfl⟩
  have hK0 : 0 ≤ K ∧ K ≤ 100 := by rw [hK]; unfold kthR; split <;> omega
  obtain ⟨hK0, hK1⟩ := hK0
  have hKd : (0 < (ts.length : Int) * rk % 100 ∧ K = (ts.length : Int) * rk / 100 + 1) ∨ (¬ 0 < (ts.length : Int) * rk % 100 ∧ K = (ts.length : Int) * rk / 100) := by
    rw [hK]
    unfold kthR
    split
    · exact .inl ⟨by assumption, rfl⟩
    · exact .inr ⟨by assumption, rfl⟩
  have HD : Hid (delayR ts rk = match ts.find? (fun t => decide (belowT ts t < K ∧ K ≤ belowT ts t + sameT ts t)) with | none => 0 | some t => topB t) := by
    show _ = _
    rw [hK]
    rfl
  have HKD := hide hKd
  clear hK hKd
  have hl' : (ts.length : Int) ≤ 32 := by omega
  go_enter Tryz.func133, Tryz.ntmps133
  go_upto_if 32 with fail
  go_cut [4] (fun v4 wx => v4 = .int .i64 K ∧ wx = w)
  case first =>
    rcases HKD.out with ⟨c1, c2⟩ | ⟨c1, c2⟩
    · go_wp2_with fail
      go_meet
      case rel => exact ⟨by rw [c2], rfl⟩
    · go_wp2_with fail
      go_meet
      case rel => exact ⟨by rw [c2], rfl⟩
  case rest =>
    obtain ⟨rfl, rfl⟩ := hcut
    clear HKD hm0 hm1 hq hrm k8 r0 r1
    go_wp2_with fail
    go_loopg [5] ts.length (fun gi v5 wx => ∃ i : Nat, i ≤ ts.length ∧ gi = ts.length - i ∧ v5 = .int .i64 i ∧ Below wc.heap.size wc wx ∧ Hid (∀ t ∈ ts.take i, ¬ (belowT ts t < K ∧ K ≤ belowT ts t + sameT ts t)))
    case atStart => exact ⟨0, Nat.zero_le _, rfl, rfl, Below.refl _ _, fun t ht => by simp at ht⟩
    case round =>
      obtain ⟨i, hi, hgi, rfl, hb, HNO⟩ := hrel
      by_cases hlt : (i : Int) < (ts.length : Int)
      · have hil : i < ts.length := by omega
        have HTK : Hid (ts.take (i + 1) = ts.take i ++ [ts[i]]) := List.take_succ_eq_append_getElem hil
        have HMM : Hid (ts.find? (fun t => decide (belowT ts t < K ∧ K ≤ belowT ts t + sameT ts t)) = some ts[i] ∨ ¬ (belowT ts ts[i] < K ∧ K ≤ belowT ts ts[i] + sameT ts ts[i])) := by
          by_cases c : belowT ts ts[i] < K ∧ K ≤ belowT ts ts[i] + sameT ts ts[i]
          · left
            have e1 : ts = ts.take i ++ (ts[i] :: ts.drop (i + 1)) := by
              rw [← List.drop_eq_getElem_cons hil, List.take_append_drop]
            have e2 : (ts.take i).find? (fun t => decide (belowT ts t < K ∧ K ≤ belowT ts t + sameT ts t)) = none := by
              rw [List.find?_eq_none]
              intro t ht
              simpa using HNO.out t ht
            have e3 : (ts.take i ++ (ts[i] :: ts.drop (i + 1))).find? (fun t => decide (belowT ts t < K ∧ K ≤ belowT ts t + sameT ts t)) = some ts[i] := by
              rw [List.find?_append, e2, List.find?_cons_of_pos (by simpa using c)]
              rfl
            rw [← e1] at e3
            exact e3
          · exact .inr c
        obtain ⟨g, o, rfl, hgl, ei⟩ := HB.out i hil
        have hSn := fun j hj => belowT_snoc ts ts[i] j hj
        have hSm := fun j hj => sameT_snoc ts ts[i] j hj
        have HSn := hide hSn
        have HSm := hide hSm
        clear hSn hSm
        generalize ts[i] = ti at ei HTK HMM HSn HSm
        go_wp2_with fail
        go_loopg [6, 7, 8] ts.length (fun gj v6 v7 v8 wy => ∃ j : Nat, j ≤ ts.length ∧ gj = ts.length - j ∧ v8 = .int .i64 j ∧ v6 = .int .i64 (belowT (ts.take j) ti) ∧ v7 = .int .i64 (sameT (ts.take j) ti) ∧ Below wc.heap.size wc wy)
        case atStart => exact ⟨0, Nat.zero_le _, rfl, rfl, rfl, rfl, hb⟩
        case round =>
          obtain ⟨j, hj, hgj, rfl, rfl, rfl, hby⟩ := hrel
          rename World => wy
          have kmy : wy.cell? ⟨p, 16, none⟩ = some (.slice (some ⟨g, o, none⟩) ts.length cap) := (hby.cell lp).trans km
          have hsz := hby.size
          obtain ⟨b0, b1⟩ := belowT_le ts ti j
          obtain ⟨s0, s1⟩ := sameT_le ts ti j
          by_cases hjt : (j : Int) < (ts.length : Int)
          · have hjl : j < ts.length := by omega
            obtain ⟨g', o', hgo, _, ej⟩ := HB.out j hjl
            obtain ⟨rfl, rfl⟩ : g = g' ∧ o = o' := by simpa using hgo
            have HS1 := hide (HSn.out j hjl)
            have HS2 := hide (HSm.out j hjl)
            generalize ts[j] = zj at ej HS1 HS2
            rw [← hby.cell (p := ⟨g, o + j, none⟩) hgl] at ej
            have ei' := ei
            rw [← hby.cell (p := ⟨g, o + i, none⟩) hgl] at ei'
            generalize belowT (ts.take j) ti = bj at HS1 b0 b1
            generalize sameT (ts.take j) ti = sj at HS2 s0 s1
            clear hgo HSn HSm HMM HTK HNO HD HB km ei
            have HS1' := hide HS1.out
            have HS2' := hide HS2.out
            clear HS1 HS2
            by_cases c1 : zj < ti
            · have c2 : (zj == ti) = false := by have : zj ≠ ti := by omega
                                                 simpa using this
              have d1 : decide (zj < ti) = true := decide_eq_true c1
              have E1 : Hid (belowT (ts.take (j + 1)) ti = bj + 1) := by show _ = _; rw [HS1'.out, if_pos c1]
              have E2 : Hid (sameT (ts.take (j + 1)) ti = sj) := by show _ = _; rw [HS2'.out, if_neg (by omega)]; simp
              clear HS1' HS2'
              go_wp2_with fail
              go_quiet (fail)
              go_wp2_with fail
              go_quiet (fail)
              go_wp2_with fail
              go_roundg (ts.length - (j + 1))
              case measure => omega
              case rel => exact ⟨j + 1, by omega, rfl, by go_num, by rw [E1.out], by rw [E2.out], hby.trans ((below_drewN _ _).mono hsz)⟩
            · have d1 : decide (zj < ti) = false := decide_eq_false c1
              by_cases c3 : zj = ti
              · have c2 : (zj == ti) = true := by simpa using c3
                have E1 : Hid (belowT (ts.take (j + 1)) ti = bj) := by show _ = _; rw [HS1'.out, if_neg c1]; simp
                have E2 : Hid (sameT (ts.take (j + 1)) ti = sj + 1) := by show _ = _; rw [HS2'.out, if_pos c3]
                clear HS1' HS2'
                go_wp2_with fail
                go_quiet (fail)
                go_wp2_with fail
                go_quiet (fail)
                go_wp2_with fail
                go_roundg (ts.length - (j + 1))
                case measure => omega
                case rel => exact ⟨j + 1, by omega, rfl, by go_num, by rw [E1.out], by rw [E2.out], hby.trans ((below_drewN _ _).mono hsz)⟩
              · have c2 : (zj == ti) = false := by simpa using c3
                have E1 : Hid (belowT (ts.take (j + 1)) ti = bj) := by show _ = _; rw [HS1'.out, if_neg c1]; simp
                have E2 : Hid (sameT (ts.take (j + 1)) ti = sj) := by show _ = _; rw [HS2'.out, if_neg c3]; simp
                clear HS1' HS2'
                go_wp2_with fail
                go_quiet (fail)
                go_wp2_with fail
                go_quiet (fail)
                go_wp2_with fail
                go_roundg (ts.length - (j + 1))
                case measure => omega
                case rel => exact ⟨j + 1, by omega, rfl, by go_num, by rw [E1.out], by rw [E2.out], hby.trans ((below_drewN _ _).mono hsz)⟩
          · have ej : j = ts.length := by omega
            subst ej
            rw [List.take_of_length_le (Nat.le_refl _)] at b0 b1 s0 s1 ⊢
            obtain ⟨a9, ha9⟩ := buckV_top ti
            have HBK := hide (fun W => rbucket_any ti W)
            rw [ha9] at HBK
            clear ha9
            have ei' := ei
            rw [← hby.cell (p := ⟨g, o + i, none⟩) hgl] at ei'
            rcases HMM.out with hm | hm
            · have HRES : Hid (delayR ts rk = topB ti) := by show _ = _; rw [HD.out, hm]
              have hmm := List.find?_some hm
              simp only [decide_eq_true_eq] at hmm
              obtain ⟨c1, c2⟩ := hmm
              generalize belowT ts ti = bj at *
              generalize sameT ts ti = sj at *
              clear HMM hm HD HSn HSm HB HTK HNO km ei
              go_wp2_with fail
              refine (HBK.out _).mono ?_
              rintro e wz ⟨rfl, rfl⟩
              go_wp2_with fail
              go_ret
              exact ⟨by rw [HRES.out]; rfl, hby⟩
            · have HNX : Hid (∀ t ∈ ts.take (i + 1), ¬ (belowT ts t < K ∧ K ≤ belowT ts t + sameT ts t)) := fun t ht => by
                rw [HTK.out] at ht
                rcases List.mem_append.1 ht with h1 | h1
                · exact HNO.out t h1
                · have : t = ti := by simpa using h1
                  rw [this]
                  exact hm
              by_cases c1 : belowT ts ti < K
              · have c2 : ¬ K ≤ belowT ts ti + sameT ts ti := fun hx => hm ⟨c1, hx⟩
                generalize belowT ts ti = bj at *
                generalize sameT ts ti = sj at *
                have d1 : decide (bj < K) = true := decide_eq_true c1
                have d2 : decide (K ≤ bj + sj) = false := decide_eq_false c2
                clear HMM hm HSn HSm HTK HNO
                go_wp2_with fail
                go_roundg (ts.length - (i + 1))
                case measure => omega
                case rel => exact ⟨i + 1, by omega, rfl, by go_num, hby, HNX⟩
              · have d1 : decide (belowT ts ti < K) = false := decide_eq_false c1
                clear HMM hm HSn HSm HTK HNO
                go_wp2_with fail
                go_roundg (ts.length - (i + 1))
                case measure => omega
                case rel => exact ⟨i + 1, by omega, rfl, by go_num, hby, HNX⟩
      · have HRES : Hid (delayR ts rk = 0) := by
          show _ = _
          rw [HD.out]
          have : ts.find? (fun t => decide (belowT ts t < K ∧ K ≤ belowT ts t + sameT ts t)) = none := by
            rw [List.find?_eq_none]
            intro t ht
            have h9 := HNO.out t (by rw [List.take_of_length_le (by omega)]; exact ht)
            simpa using h9
          rw [this]
        clear HD HNO HB
        go_wp2_with fail
        go_ret
        exact ⟨by rw [HRES.out]; rfl, hb⟩
theorem rdelay_any (p : Nat) (s : St) (V : V6) (w : World) (h : Rep w p s V) (hl : s.times.length ≤ 32) (r0 : 1 ≤ s.cfg.rank) (r1 : s.cfg.rank ≤ 100) :
    Calls Tryz.prog 133 #[.pointer (some ⟨p, 0, none⟩)] w fun e w' => e = .returned (.int .i64 (delayR s.times s.cfg.rank)) ∧ Below w.heap.size w w' := by
  obtain ⟨A, cap, hV, hcap, hA⟩ := h.rm.form
  exact rdelay_core p s.times s.cfg.rank A cap w h.lp h.k8 (by rw [← hV]; exact h.km) (fun k hk => by
    obtain ⟨g, o, h1, h2, h3⟩ := hA k hk
    exact ⟨g, o, h1, World.block_lt_of_cell? w _ h3, h3⟩) hl r0 r1
end Go.Proofs.YtlccfpbbdgpjbaaGreatDoor
