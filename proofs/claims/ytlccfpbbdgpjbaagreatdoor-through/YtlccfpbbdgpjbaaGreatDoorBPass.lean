/-
  Pass, Bring.
-/
import Derived.Test.YtlccfpbbdgpjbaaGreatDoorBDelete
namespace Go.Proofs.YtlccfpbbdgpjbaaGreatDoor
open Go.RowKit

theorem deleteB_any (k : Nat) (v : Value) (l : List PB) (w : World) (hl : l.length ≤ 1000000) (hk : k ≤ l.length) (hr : Row w 0 150 2 encPB v l) :
    Calls Tryz.prog 121 #[v, .int .i64 0, .int .i64 k] w fun e w' =>
      ∃ v', e = .returned v' ∧ Row w' 0 150 2 encPB v' (l.drop k) ∧ v'.ownBlock = v.ownBlock ∧ Kp v.ownBlock.toList w w' := by
  by_cases h0 : k = 0
  · subst h0
    refine (deleteB_none v l w hr).mono ?_
    rintro e w' ⟨rfl, rfl⟩
    exact ⟨v, rfl, hr, rfl, Kp.refl _ _⟩
  · obtain ⟨g, cap, rfl, _⟩ := hr.at (by omega)
    refine (deleteB_some g cap k l w hl (by omega) hk hr).mono ?_
    rintro e w' ⟨rfl, hr', hk'⟩
    exact ⟨_, rfl, hr', rfl, hk'⟩

/-- Units that are gone. -/
def oldB (now window : Int) (b : PB) : Bool := decide (window ≤ now - b.came)

theorem dropWhile_step (P : PB → Bool) (l : List PB) (k : Nat) (h : k < l.length) : (l.drop k).dropWhile P = if P l[k] then (l.drop (k + 1)).dropWhile P else l.drop k := by
  rw [List.drop_eq_getElem_cons h, List.dropWhile_cons]

set_option maxRecDepth 100000 in
set_option maxHeartbeats 4000000 in
theorem passB_any (p o : Nat) (now window : Int) (v : Value) (l : List PB) (w : World) (hl : l.length ≤ 1000000) (hk : OkB l) (hn0 : 0 ≤ now) (hn1 : now ≤ 1099511627776) (cW : w.cell? ⟨p, o + 2, none⟩ = some (.int .i64 window)) (hc : w.cell? ⟨p, o + 3, none⟩ = some v) (hz : w.frozen? ⟨p, o + 3, none⟩ = false) (hr : Row w 0 150 2 encPB v l) (hv : v.ownBlock ≠ some p) :
    Calls Tryz.prog 102 #[.pointer (some ⟨p, o, none⟩), .int .i64 now] w fun e w' =>
      e = .returned (.tuple #[]) ∧ ∃ v', w'.cell? ⟨p, o + 3, none⟩ = some v' ∧ Row w' 0 150 2 encPB v' (l.dropWhile (oldB now window)) ∧ v'.ownBlock = v.ownBlock ∧ Fr p [o + 3] v.ownBlock.toList w w' := by
  have lp : p < w.heap.size := World.block_lt_of_cell? w _ hc
  have HD := hide (fun k W (hk : k ≤ l.length) (hrW : Row W 0 150 2 encPB v l) => deleteB_any k v l W hl hk hrW)
  have HR := hide hr
  have HV := hide hv
  obtain ⟨A, cap, rfl, hlen, hA, hB⟩ := hr.form
  have HB : Hid (∀ i (h : i < l.length), ∃ g, A = some ⟨g, 0, none⟩ ∧ g < w.heap.size ∧ w.cell? ⟨g, i * 2, none⟩ = some (.int .i64 l[i].came)) := fun i h => by
    obtain ⟨g, rfl⟩ := hA i h
    exact ⟨g, rfl, (hB g rfl).2.1, (hr.cell encPB_len (g := g) (j := 0) rfl h rfl).1⟩
  clear hr hB hA hlen hv
  have hl' : (l.length : Int) ≤ 1000000 := by omega
  have HK := hide hk
  clear hk
  go_enter Tryz.func102, Tryz.ntmps102
  go_wp2_with fail
  go_loopw [4] (fun iv wr => ∃ k : Nat, k ≤ l.length ∧ iv = .int .i64 k ∧ l.dropWhile (oldB now window) = (l.drop k).dropWhile (oldB now window) ∧ Below w.heap.size w wr) (fun iv _ => l.length - (intOf iv).toNat)
  case atStart => exact ⟨0, Nat.zero_le _, rfl, rfl, Below.refl _ _⟩
  case round =>
    obtain ⟨k, hk, rfl, hd, hb⟩ := hrel
    have HE := hide hd
    clear hd
    have hsz := hb.size
    have cr := (hb.cell lp).trans hc
    have cw := (hb.cell lp).trans cW
    by_cases hlt : k < l.length
    · have hlt' : (k : Int) < (l.length : Int) := by omega
      have ht : decide (k < l.length) = true := decide_eq_true hlt
      obtain ⟨g, rfl, hg, e0⟩ := HB.out k hlt
      rw [← hb.cell (p := ⟨g, k * 2, none⟩) hg] at e0
      have hu := HK.out l[k] (List.getElem_mem _)
      have HS := hide (dropWhile_step (oldB now window) l k hlt)
      have hoe : oldB now window l[k] = decide (window ≤ now - l[k].came) := rfl
      rw [hoe] at HS
      obtain ⟨_, _, u1, u2⟩ := hu
      generalize l[k].came = c at e0 HS u1 u2
      clear HB hoe
      cases hd : decide (window ≤ now - c) with
      | true =>
        have HSS := hide (HS.out.trans (if_pos hd))
        clear HS
        go_wp2_with fail
        go_quiet (fail)
        go_wp2_with fail
        go_roundw
        case rel => exact ⟨k + 1, by omega, by go_num, HE.out.trans HSS.out, hb.trans ((below_drewN wr nq).mono hsz)⟩
        case measure => simp [intOf]; omega
      | false =>
        have HSS := hide (HS.out.trans (if_neg (by rw [hd]; simp)))
        clear HS
        go_wp2_with fail
        go_quiet (fail)
        have hbq : Below w.heap.size w (wr.drewN nq) := hb.trans ((below_drewN wr nq).mono hsz)
        have hrq := HR.out.below hbq
        have lpq : p < (wr.drewN nq).heap.size := Nat.lt_of_lt_of_le lp hbq.size
        have cq : (wr.drewN nq).cell? ⟨p, o + 3, none⟩ = some (.slice (some ⟨g, 0, none⟩) l.length cap) := (hbq.cell lp).trans hc
        have fq : (wr.drewN nq).frozen? ⟨p, o + 3, none⟩ = false := (hbq.frozen lp).trans hz
        generalize wr.drewN nq = W at hbq hrq lpq cq fq ⊢
        have HDD := hide (HD.out k W hk hrq)
        clear HD cr cw e0
        go_wp2_with fail
        refine HDD.out.mono ?_
        rintro e w2 ⟨v2, rfl, hr2, hv2, hk2⟩
        have hpn : p ∉ (Value.slice (some ⟨g, 0, none⟩) l.length cap).ownBlock.toList := by
          intro h
          exact HV.out (by simpa using h)
        have c2 := (hk2.cell lpq hpn (o + 3)).trans cq
        have f2 := (hk2.frozen lpq hpn (o + 3)).trans fq
        have hvp : v2.ownBlock ≠ some p := by rw [hv2]; exact HV.out
        have HR2 := hide (hr2.same (w' := w2.setCell ⟨p, o + 3, none⟩ v2) (fun k hk => Below.heap_setCell _ _ _ _ (fun e => hvp (by rw [hk]; exact congrArg some e))))
        have HF2 := hide ((((Fr.of_below (J := []) (R := (Value.slice (some ⟨g, 0, none⟩) l.length cap).ownBlock.toList) lp hbq).trans (hk2.fr lpq hpn) (J'' := []) (fun _ h => ⟨h, h⟩) (fun r h => .inl h)).trans (Fr.store (j := o + 3) (w := w2) v2) (J'' := [o + 3]) (fun _ h => ⟨by simp, h⟩) (fun r h => by cases h)))
        obtain ⟨A2, cap2, rfl, _, _, _⟩ := hr2.form
        rw [List.length_drop] at HR2 HF2 hv2
        clear hr2 hk2 HDD hvp
        go_wp2_with fail
        go_end0
        exact ⟨rfl, _, World.cell?_setCell_same _ _ _ c2, by rw [HE.out, HSS.out]; exact HR2.out, hv2, HF2.out⟩
    · have ht : decide (k < l.length) = false := decide_eq_false hlt
      have hdd : (l.drop k).dropWhile (oldB now window) = l.drop k := by rw [List.drop_of_length_le (by omega)]; rfl
      clear HB
      go_wp2_with fail
      go_quiet (fail)
      have hbq : Below w.heap.size w (wr.drewN nq) := hb.trans ((below_drewN wr nq).mono hsz)
      have hrq := HR.out.below hbq
      have lpq : p < (wr.drewN nq).heap.size := Nat.lt_of_lt_of_le lp hbq.size
      have cq : (wr.drewN nq).cell? ⟨p, o + 3, none⟩ = some (.slice A l.length cap) := (hbq.cell lp).trans hc
      have fq : (wr.drewN nq).frozen? ⟨p, o + 3, none⟩ = false := (hbq.frozen lp).trans hz
      generalize wr.drewN nq = W at hbq hrq lpq cq fq ⊢
      have HDD := hide (HD.out k W hk hrq)
      clear HD cr cw
      go_wp2_with fail
      refine HDD.out.mono ?_
      rintro e w2 ⟨v2, rfl, hr2, hv2, hk2⟩
      have hpn : p ∉ (Value.slice A l.length cap).ownBlock.toList := by
        intro h
        exact HV.out (by simpa using h)
      have c2 := (hk2.cell lpq hpn (o + 3)).trans cq
      have f2 := (hk2.frozen lpq hpn (o + 3)).trans fq
      have hvp : v2.ownBlock ≠ some p := by rw [hv2]; exact HV.out
      have HR2 := hide (hr2.same (w' := w2.setCell ⟨p, o + 3, none⟩ v2) (fun k hk => Below.heap_setCell _ _ _ _ (fun e => hvp (by rw [hk]; exact congrArg some e))))
      have HF2 := hide ((((Fr.of_below (J := []) (R := (Value.slice A l.length cap).ownBlock.toList) lp hbq).trans (hk2.fr lpq hpn) (J'' := []) (fun _ h => ⟨h, h⟩) (fun r h => .inl h)).trans (Fr.store (j := o + 3) (w := w2) v2) (J'' := [o + 3]) (fun _ h => ⟨by simp, h⟩) (fun r h => by cases h)))
      obtain ⟨A2, cap2, rfl, _, _, _⟩ := hr2.form
      rw [List.length_drop] at HR2 HF2 hv2
      clear hr2 hk2 HDD hvp
      go_wp2_with fail
      go_end0
      exact ⟨rfl, _, World.cell?_setCell_same _ _ _ c2, by rw [HE.out, hdd]; exact HR2.out, hv2, HF2.out⟩
end Go.Proofs.YtlccfpbbdgpjbaaGreatDoor
