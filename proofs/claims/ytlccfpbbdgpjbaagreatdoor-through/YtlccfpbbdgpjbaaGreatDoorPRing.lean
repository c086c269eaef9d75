/-
  ring.
-/
import Derived.Test.YtlccfpbbdgpjbaaGreatDoorPWait
import Derived.Test.YtlccfpbbdgpjbaaGreatDoorPInv
namespace Go.Proofs.YtlccfpbbdgpjbaaGreatDoor
open Go.RowKit Go.Maps

/-- A call that is open, looked up by its number. -/
theorem mget_callL {l : List PCall} {q : Int → Nat} {n : Int} {c : PCall} (h : l.find? (fun c => c.number == n) = some c) : mget (callL l q) n = some (.pointer (some ⟨q n, 0, none⟩)) := by
  unfold mget callL
  rw [List.find?_map]
  have e : ((fun p : Int × Value => p.1 == n) ∘ fun c : PCall => (c.number, Value.pointer (some ⟨q c.number, 0, none⟩))) = fun c => c.number == n := rfl
  rw [e, h]
  have hn : c.number = n := by simpa using List.find?_some h
  simp [hn]
theorem mget_callL_none {l : List PCall} {q : Int → Nat} {n : Int} (h : l.find? (fun c => c.number == n) = none) : mget (callL l q) n = none := by
  unfold mget callL
  rw [List.find?_map]
  have e : ((fun p : Int × Value => p.1 == n) ∘ fun c : PCall => (c.number, Value.pointer (some ⟨q c.number, 0, none⟩))) = fun c => c.number == n := rfl
  rw [e, h]
  rfl

section
variable {w : World} {p : Nat} {s : PSt} {V : PV}

set_option maxRecDepth 100000 in
set_option maxHeartbeats 8000000 in
theorem rep_ring_late (h : PRep w p s V) (call due st : Int) {c : PCall} (hcall : callOf s call = some c) (hs : 0 < s.set) (hl : s.atts.length ≤ 1000000) (hlt : s.timers.length ≤ 999999) :
    Calls Tryz.prog 73 #[.pointer (some ⟨p, 0, none⟩), .agg #[.int .i64 1, .int .i64 call, .int .i64 due, .int .i64 st]] w fun e w' => ∃ v V', e = .returned v ∧ Gives w w' V V' p v (finishA s call 3 0) (finishM s call) := by
  obtain ⟨hc, hn⟩ := callOf_mem hcall
  have hg : mget (callL s.calls V.q) call = some (.pointer (some ⟨V.q call, 0, none⟩)) := mget_callL hcall
  have hwf : (Lit.int .i64 call).wf = true := by
    rw [← hn]
    exact h.mC.wf (c.number, .pointer (some ⟨V.q c.number, 0, none⟩)) (List.mem_map.2 ⟨c, hc, rfl⟩)
  have lp := h.lp
  obtain ⟨B, hBx⟩ : ∃ B, B = w.alloc (.cells #[.int .i64 1, .int .i64 call, .int .i64 due, .int .i64 st] 114) := ⟨_, rfl⟩
  have hB0 : Below w.heap.size w B := by rw [hBx]; exact (Below.refl _ _).alloc (Nat.le_refl _) _
  have hB := h.on hB0
  have e0 : B.cell? ⟨w.heap.size, 0, none⟩ = some (.int .i64 1) := by rw [hBx]; simp
  have e1 : B.cell? ⟨w.heap.size, 1, none⟩ = some (.int .i64 call) := by rw [hBx]; simp
  have cC : B.cell? ⟨p, 15, none⟩ = some (.map (some V.bc)) := hB.kk _ _ rfl
  have hlk := hB.drew.mC.look1 Tryz.underlying3 Tryz.underlying88 (z := .pointer none) (by kernel_rfl) okPtr_none hwf
  rw [hg, Option.getD_some] at hlk
  have HB := hide hBx
  have HF := hide (rep_finish hB.drew hc 3 0 hs hl hlt)
  rw [hn] at HF
  have HM := hide ((PMv.of_below (V := V) hB0).trans (PMv.of_below (Below.refl _ _).drew))
  clear h hB hg hBx hn hcall
  go_enter Tryz.func73, Tryz.ntmps73
  go_wp2_with fail
  all_goals (try rw [← HB.out])
  go_region
  go_wp2_with fail
  refine HF.out.mono ?_
  rintro e w3 ⟨v, V3, rfl, hr3, h3, m3, t3⟩
  have HG := hide (Gives.after HM.out ⟨hr3, h3, m3, t3⟩)
  clear hr3 h3 m3 t3 HF HM
  go_wp2_with fail
  go_ret
  exact ⟨v, V3, rfl, HG.out⟩

set_option maxRecDepth 100000 in
set_option maxHeartbeats 8000000 in
theorem rep_ring_paid (h : PRep w p s V) (kind call due st : Int) (hk : kind ≠ 1) {c : PCall} (hcall : callOf s call = some c) (hul : s.units.length ≤ 1000000) (hub : OkB s.units) (hc0 : 0 ≤ s.cfg.cost) (hpay : s.cfg.cost ≤ sumB s.units)
    (hL : ∀ (W : World) (V' : PV), PRep W p (takeM s) V' → Calls Tryz.prog 96 #[.pointer (some ⟨p, 0, none⟩), .pointer (some ⟨V'.q c.number, 0, none⟩)] W fun e w' => ∃ v V'', e = .returned v ∧ Gives W w' V' V'' p v (launchA (takeM s) c) (launchM (takeM s) c)) :
    Calls Tryz.prog 73 #[.pointer (some ⟨p, 0, none⟩), .agg #[.int .i64 kind, .int .i64 call, .int .i64 due, .int .i64 st]] w fun e w' => ∃ v V', e = .returned v ∧ Gives w w' V V' p v (launchA (takeM s) c) (launchM (takeM s) c) := by
  obtain ⟨hc, hn⟩ := callOf_mem hcall
  have hg : mget (callL s.calls V.q) call = some (.pointer (some ⟨V.q call, 0, none⟩)) := mget_callL hcall
  have hwf : (Lit.int .i64 call).wf = true := by
    rw [← hn]
    exact h.mC.wf (c.number, .pointer (some ⟨V.q c.number, 0, none⟩)) (List.mem_map.2 ⟨c, hc, rfl⟩)
  have lp := h.lp
  obtain ⟨B, hBx⟩ : ∃ B, B = w.alloc (.cells #[.int .i64 kind, .int .i64 call, .int .i64 due, .int .i64 st] 114) := ⟨_, rfl⟩
  have hB0 : Below w.heap.size w B := by rw [hBx]; exact (Below.refl _ _).alloc (Nat.le_refl _) _
  have hB := h.on hB0
  have e0 : B.cell? ⟨w.heap.size, 0, none⟩ = some (.int .i64 kind) := by rw [hBx]; simp
  have e1 : B.cell? ⟨w.heap.size, 1, none⟩ = some (.int .i64 call) := by rw [hBx]; simp
  have cC : B.cell? ⟨p, 15, none⟩ = some (.map (some V.bc)) := hB.kk _ _ rfl
  have hlk := hB.drew.mC.look1 Tryz.underlying3 Tryz.underlying88 (z := .pointer none) (by kernel_rfl) okPtr_none hwf
  rw [hg, Option.getD_some] at hlk
  have HB := hide hBx
  have cK : B.cell? ⟨p, 1, none⟩ = some (.int .i64 s.cfg.cost) := hB.kk _ _ rfl
  have HT := hide (fun W (hW : Below B.heap.size B W) => rep_take (hB.on hW) hul hub hc0)
  rw [decide_eq_true hpay] at HT
  have HM := hide ((PMv.of_below (V := V) hB0))
  have HL := hide hL
  have Hn := hide hn
  have hk' : (kind == 1) = false := by rw [beq_eq_false_iff_ne]; exact hk
  clear h hB hg hBx hn hcall hL hpay hub
  go_enter Tryz.func73, Tryz.ntmps73
  go_wp2_with fail
  all_goals (try rw [← HB.out])
  go_region
  go_wp2_with fail
  go_region_held3 (fun w' => w'.cell? ⟨p, 1, none⟩ = some (.int .i64 s.cfg.cost))
    (first
      | exact c1
      | (go_keep; done))
    (first
      | (go_at_call 103; refine (HT.out _ ((Below.refl _ _).drew.drew)).mono ?_; rintro e w1 ⟨rfl, V1, h1, m1, q1⟩
         have c1 : w1.cell? ⟨p, 1, none⟩ = some (.int .i64 s.cfg.cost) := h1.kk _ _ rfl
         have HLL := hide (HL.out w1 V1 h1)
         rw [q1, Hn.out] at HLL
         have M1 := hide (HM.out.trans ((PMv.of_below ((Below.refl _ _).drew.drew)).trans m1))
         clear h1 m1 q1))
  go_wp2_with fail
  refine HLL.out.mono ?_
  rintro e w3 ⟨v, V3, rfl, g3⟩
  have HG := hide (Gives.after M1.out g3)
  clear g3 HLL M1
  go_wp2_with fail
  go_ret
  exact ⟨v, V3, rfl, HG.out⟩
set_option maxRecDepth 100000 in
set_option maxHeartbeats 8000000 in
theorem rep_ring_hedge (h : PRep w p s V) (call due st : Int) {c : PCall} (hcall : callOf s call = some c) (hul : s.units.length ≤ 1000000) (hub : OkB s.units) (hc0 : 0 ≤ s.cfg.cost) (hpay : ¬ s.cfg.cost ≤ sumB s.units) :
    Calls Tryz.prog 73 #[.pointer (some ⟨p, 0, none⟩), .agg #[.int .i64 3, .int .i64 call, .int .i64 due, .int .i64 st]] w fun e w' => e = .returned (.slice none 0 0) ∧ ∃ V', Gives w w' V V' p (.slice none 0 0) [] (takeM s) := by
  obtain ⟨hc, hn⟩ := callOf_mem hcall
  have hg : mget (callL s.calls V.q) call = some (.pointer (some ⟨V.q call, 0, none⟩)) := mget_callL hcall
  have hwf : (Lit.int .i64 call).wf = true := by
    rw [← hn]
    exact h.mC.wf (c.number, .pointer (some ⟨V.q c.number, 0, none⟩)) (List.mem_map.2 ⟨c, hc, rfl⟩)
  have lp := h.lp
  have htg : 7 ≤ V.tag w.heap.size := by
    rcases Nat.lt_or_ge (V.tag w.heap.size) 7 with h2 | h2
    · have := h.tl _ h2
      omega
    · exact h2
  obtain ⟨B, hBx⟩ : ∃ B, B = w.alloc (.cells #[.int .i64 3, .int .i64 call, .int .i64 due, .int .i64 st] 114) := ⟨_, rfl⟩
  have hB0 : Below w.heap.size w B := by rw [hBx]; exact (Below.refl _ _).alloc (Nat.le_refl _) _
  have hB := h.on hB0
  have e0 : B.cell? ⟨w.heap.size, 0, none⟩ = some (.int .i64 3) := by rw [hBx]; simp
  have e1 : B.cell? ⟨w.heap.size, 1, none⟩ = some (.int .i64 call) := by rw [hBx]; simp
  have lB : w.heap.size < B.heap.size := World.block_lt_of_cell? B _ e0
  have cC : B.cell? ⟨p, 15, none⟩ = some (.map (some V.bc)) := hB.kk _ _ rfl
  have hlk := hB.drew.mC.look1 Tryz.underlying3 Tryz.underlying88 (z := .pointer none) (by kernel_rfl) okPtr_none hwf
  rw [hg, Option.getD_some] at hlk
  have HB := hide hBx
  have cK : B.cell? ⟨p, 1, none⟩ = some (.int .i64 s.cfg.cost) := hB.kk _ _ rfl
  have HT := hide (fun W (hW : Below B.heap.size B W) => rep_take (hB.on hW) hul hub hc0)
  rw [decide_eq_false hpay] at HT
  have HM := hide ((PMv.of_below (V := V) hB0))
  clear h hB hg hBx hn hcall hpay hub
  go_enter Tryz.func73, Tryz.ntmps73
  go_wp2_with fail
  all_goals (try rw [← HB.out])
  go_region
  go_wp2_with fail
  go_region_held3 (fun w' => w'.cell? ⟨p, 1, none⟩ = some (.int .i64 s.cfg.cost))
    (first
      | exact c1
      | (go_keep; done))
    (first
      | (go_at_call 103; refine (HT.out _ ((Below.refl _ _).drew.drew)).mono ?_; rintro e w1 ⟨rfl, V1, h1, m1, q1⟩
         have c1 : w1.cell? ⟨p, 1, none⟩ = some (.int .i64 s.cfg.cost) := h1.kk _ _ rfl
         have c2 : w1.cell? ⟨w.heap.size, 0, none⟩ = some (.int .i64 3) := (World.cell?_of_block (m1.block _ lB htg)).trans e0
         have h1' : PRep w1 p (takeM s) V1 := h1
         have HG := hide (Gives.of_nil h1' (HM.out.trans ((PMv.of_below ((Below.refl _ _).drew.drew)).trans m1)))
         clear h1 h1' m1 q1))
  go_wp2_with fail
  go_ret
  exact ⟨rfl, V1, HG.out⟩
set_option maxRecDepth 100000 in
set_option maxHeartbeats 8000000 in
theorem rep_ring_fail (h : PRep w p s V) (call due st : Int) {c : PCall} (hcall : callOf s call = some c) (hul : s.units.length ≤ 1000000) (hub : OkB s.units) (hc0 : 0 ≤ s.cfg.cost) (hpay : ¬ s.cfg.cost ≤ sumB s.units) (hs : 0 < s.set) (hl : s.atts.length ≤ 1000000) (hlt : s.timers.length ≤ 999999) :
    Calls Tryz.prog 73 #[.pointer (some ⟨p, 0, none⟩), .agg #[.int .i64 2, .int .i64 call, .int .i64 due, .int .i64 st]] w fun e w' => ∃ v V', e = .returned v ∧ Gives w w' V V' p v (finishA (takeM s) call 2 0) (finishM (takeM s) call) := by
  obtain ⟨hc, hn⟩ := callOf_mem hcall
  have hg : mget (callL s.calls V.q) call = some (.pointer (some ⟨V.q call, 0, none⟩)) := mget_callL hcall
  have hwf : (Lit.int .i64 call).wf = true := by
    rw [← hn]
    exact h.mC.wf (c.number, .pointer (some ⟨V.q c.number, 0, none⟩)) (List.mem_map.2 ⟨c, hc, rfl⟩)
  have lp := h.lp
  have htg : 7 ≤ V.tag w.heap.size := by
    rcases Nat.lt_or_ge (V.tag w.heap.size) 7 with h2 | h2
    · have := h.tl _ h2
      omega
    · exact h2
  obtain ⟨B, hBx⟩ : ∃ B, B = w.alloc (.cells #[.int .i64 2, .int .i64 call, .int .i64 due, .int .i64 st] 114) := ⟨_, rfl⟩
  have hB0 : Below w.heap.size w B := by rw [hBx]; exact (Below.refl _ _).alloc (Nat.le_refl _) _
  have hB := h.on hB0
  have e0 : B.cell? ⟨w.heap.size, 0, none⟩ = some (.int .i64 2) := by rw [hBx]; simp
  have e1 : B.cell? ⟨w.heap.size, 1, none⟩ = some (.int .i64 call) := by rw [hBx]; simp
  have lB : w.heap.size < B.heap.size := World.block_lt_of_cell? B _ e0
  have cC : B.cell? ⟨p, 15, none⟩ = some (.map (some V.bc)) := hB.kk _ _ rfl
  have hlk := hB.drew.mC.look1 Tryz.underlying3 Tryz.underlying88 (z := .pointer none) (by kernel_rfl) okPtr_none hwf
  rw [hg, Option.getD_some] at hlk
  have HB := hide hBx
  have cK : B.cell? ⟨p, 1, none⟩ = some (.int .i64 s.cfg.cost) := hB.kk _ _ rfl
  have HT := hide (fun W (hW : Below B.heap.size B W) => rep_take (hB.on hW) hul hub hc0)
  rw [decide_eq_false hpay] at HT
  have HM := hide ((PMv.of_below (V := V) hB0))
  have Hn := hide hn
  clear h hB hg hBx hn hcall hpay hub
  go_enter Tryz.func73, Tryz.ntmps73
  go_wp2_with fail
  all_goals (try rw [← HB.out])
  go_region
  go_wp2_with fail
  go_region_held3 (fun w' => w'.cell? ⟨p, 1, none⟩ = some (.int .i64 s.cfg.cost))
    (first
      | exact c1
      | (go_keep; done))
    (first
      | (go_at_call 103; refine (HT.out _ ((Below.refl _ _).drew.drew)).mono ?_; rintro e w1 ⟨rfl, V1, h1, m1, q1⟩
         have c1 : w1.cell? ⟨p, 1, none⟩ = some (.int .i64 s.cfg.cost) := h1.kk _ _ rfl
         have c2 : w1.cell? ⟨w.heap.size, 0, none⟩ = some (.int .i64 2) := (World.cell?_of_block (m1.block _ lB htg)).trans e0
         have HLL := hide (rep_finish (s := takeM s) h1 hc 2 0 hs hl hlt)
         rw [q1, Hn.out] at HLL
         have M1 := hide (HM.out.trans ((PMv.of_below ((Below.refl _ _).drew.drew)).trans m1))
         clear h1 m1 q1))
  go_wp2_with fail
  refine HLL.out.mono ?_
  rintro e w3 ⟨v, V3, rfl, hr3, h3, m3, t3⟩
  have HG := hide (Gives.after M1.out ⟨hr3, h3, m3, t3⟩)
  clear hr3 h3 m3 t3 HLL M1
  go_wp2_with fail
  go_ret
  exact ⟨v, V3, rfl, HG.out⟩
end
end Go.Proofs.YtlccfpbbdgpjbaaGreatDoor
