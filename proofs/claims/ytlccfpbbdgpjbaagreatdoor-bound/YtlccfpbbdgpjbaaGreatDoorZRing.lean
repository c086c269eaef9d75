import Derived.Test.YtlccfpbbdgpjbaaGreatDoorZLaunch
import Derived.Test.YtlccfpbbdgpjbaaGreatDoorZModel
namespace Go.Proofs.YtlccfpbbdgpjbaaGreatDoor
open Go.RowKit Go.Maps

/-- A call that is open, looked up by its number. -/
theorem mget_callL {l : List PCall} {q : Int → Nat} {n : Int} {c : PCall} (h : l.find? (fun c => c.number == n) = some c) : mget (callL l q) n = some (.pointer (some ⟨q n, 0, none⟩)) := by
  unfold mget callL
  rw [List.find?_map]
  have e : ((fun p : Int × Value => p.1 == n) ∘ fun c : PCall => (c.number, Value.pointer (some ⟨q c.number, 0, none⟩))) = fun c => c.number == n := rfl
  rw [e, h]
  have hn : c.number = n := by simpa using List.find?_some h
  simp [hn]
theorem mget_callL_none {l : List PCall} {q : Int → Nat} {n : Int} (h : l.find? (fun c => c.number == n) = none) : mget (callL l q) n = none := by
  unfold mget callL
  rw [List.find?_map]
  have e : ((fun p : Int × Value => p.1 == n) ∘ fun c : PCall => (c.number, Value.pointer (some ⟨q c.number, 0, none⟩))) = fun c => c.number == n := rfl
  rw [e, h]
  rfl

section
variable {w : World} {p : Nat} {s : PSt} {V : PV}

set_option maxRecDepth 100000 in
set_option maxHeartbeats 8000000 in
theorem rep_ring_late (h : PRep w p s V) (call due st : Int) {c : PCall} (hcall : callOf s call = some c) (hs : 0 < s.set) (hl : s.atts.length ≤ 1000000) (hlt : s.timers.length ≤ 999999) :
    Calls Tryz.prog 73 #[.pointer (some ⟨p, 0, none⟩), .agg #[.int .i64 1, .int .i64 call, .int .i64 due, .int .i64 st]] w fun e w' => ∃ v V', e = .returned v ∧ Gives w w' V V' p v (finishA s call 3 0) (finishM s call) := by
  obtain ⟨hc, hn⟩ := callOf_mem hcall
  have hg : mget (callL s.calls V.q) call = some (.pointer (some ⟨V.q call, 0, none⟩)) := mget_callL hcall
  have hwf : (Lit.int .i64 call).wf = true := by
    rw [← hn]
    exact h.mC.wf (c.number, .pointer (some ⟨V.q c.number, 0, none⟩)) (List.mem_map.2 ⟨c, hc, rfl⟩)
  have lp := h.lp
  obtain ⟨B, hBx⟩ : ∃ B, B = w.alloc (.cells #[.int .i64 1, .int .i64 call, .int .i64 due, .int .i64 st] 114) := ⟨_, rfl⟩
  have hB0 : Below w.heap.size w B := by rw [hBx]; exact (Below.refl _ _).alloc (Nat.le_refl _) _
  have hB := h.on hB0
  have e0 : B.cell? ⟨w.heap.size, 0, none⟩ = some (.int .i64 1) := by rw [hBx]; simp
  have e1 : B.cell? ⟨w.heap.size, 1, none⟩ = some (.int .i64 call) := by rw [hBx]; simp
  have cC : B.cell? ⟨p, 15, none⟩ = some (.map (some V.bc)) := hB.kk _ _ rfl
  have hlk := hB.drew.mC.look1 Tryz.underlying3 Tryz.underlying88 (z := .pointer none) (by kernel_rfl) okPtr_none hwf
  rw [hg, Option.getD_some] at hlk
  have HB := hide hBx
  have HF := hide (rep_finish hB.drew hc 3 0 hs hl hlt)
  rw [hn] at HF
  have HM := hide ((PMv.of_below (V := V) hB0).trans (PMv.of_below (Below.refl _ _).drew))
  clear h hB hg hBx hn hcall
  go_enter Tryz.func73, Tryz.ntmps73
  go_wp2_with fail
  all_goals (try rw [← HB.out])
  go_region
  go_wp2_with fail
  refine HF.out.mono ?_
  rintro e w3 ⟨v, V3, rfl, hr3, h3, m3, t3⟩
  have HG := hide (Gives.after HM.out ⟨hr3, h3, m3, t3⟩)
  clear hr3 h3 m3 t3 HF HM
  go_wp2_with fail
  go_ret
  exact ⟨v, V3, rfl, HG.out⟩

set_option maxRecDepth 100000 in
set_option maxHeartbeats 8000000 in
theorem rep_ring_paid (h : PRep w p s V) (kind call due st : Int) (hk : kind ≠ 1) {c : PCall} (hcall : callOf s call = some c) (hul : s.units.length ≤ 1000000) (hub : OkB s.units) (hc0 : 0 ≤ s.cfg.cost) (hpay : s.cfg.cost ≤ sumB s.units)
    (hL : ∀ (W : World) (V' : PV), PRep W p (takeM s) V' → Calls Tryz.prog 96 #[.pointer (some ⟨p, 0, none⟩), .pointer (some ⟨V'.q c.number, 0, none⟩)] W fun e w' => ∃ v V'', e = .returned v ∧ Gives W w' V' V'' p v (launchA (takeM s) c) (launchM (takeM s) c)) :
    Calls Tryz.prog 73 #[.pointer (some ⟨p, 0, none⟩), .agg #[.int .i64 kind, .int .i64 call, .int .i64 due, .int .i64 st]] w fun e w' => ∃ v V', e = .returned v ∧ Gives w w' V V' p v (launchA (takeM s) c) (launchM (takeM s) c) := by
  obtain ⟨hc, hn⟩ := callOf_mem hcall
  have hg : mget (callL s.calls V.q) call = some (.pointer (some ⟨V.q call, 0, none⟩)) := mget_callL hcall
  have hwf : (Lit.int .i64 call).wf = true := by
    rw [← hn]
    exact h.mC.wf (c.number, .pointer (some ⟨V.q c.number, 0, none⟩)) (List.mem_map.2 ⟨c, hc, rfl⟩)
  have lp := h.lp
  obtain ⟨B, hBx⟩ : ∃ B, B = w.alloc (.cells #[.int .i64 kind, .int .i64 call, .int .i64 due, .int .i64 st] 114) := ⟨_, rfl⟩
  have hB0 : Below w.heap.size w B := by rw [hBx]; exact (Below.refl _ _).alloc (Nat.le_refl _) _
  have hB := h.on hB0
  have e0 : B.cell? ⟨w.heap.size, 0, none⟩ = some (.int .i64 kind) := by rw [hBx]; simp
  have e1 : B.cell? ⟨w.heap.size, 1, none⟩ = some (.int .i64 call) := by rw [hBx]; simp
  have cC : B.cell? ⟨p, 15, none⟩ = some (.map (some V.bc)) := hB.kk _ _ rfl
  have hlk := hB.drew.mC.look1 Tryz.underlying3 Tryz.underlying88 (z := .pointer none) (by kernel_rfl) okPtr_none hwf
  rw [hg, Option.getD_some] at hlk
  have HB := hide hBx
  have cK : B.cell? ⟨p, 1, none⟩ = some (.int .i64 s.cfg.cost) := hB.kk _ _ rfl
  have HT := hide (fun W (hW : Below B.heap.size B W) => rep_take (hB.on hW) hul hub hc0)
  rw [decide_eq_true hpay] at HT
  have HM := hide ((PMv.of_below (V := V) hB0))
  have HL := hide hL
  have Hn := hide hn
  have hk' : (kind == 1) = false := by rw [beq_eq_false_iff_ne]; exact hk
  clear h hB hg hBx hn hcall hL hpay hub
  go_enter Tryz.func73, Tryz.ntmps73
  go_wp2_with fail
  all_goals (try rw [← HB.out])
  go_region
  go_wp2_with fail
  go_region_held3 (fun w' => w'.cell? ⟨p, 1, none⟩ = some (.int .i64 s.cfg.cost))
    (first
      | exact c1
      | (go_keep; done))
    (first
      | (go_at_call 103; refine (HT.out _ ((Below.refl _ _).drew.drew)).mono ?_; rintro e w1 ⟨rfl, V1, h1, m1, q1⟩
         have c1 : w1.cell? ⟨p, 1, none⟩ = some (.int .i64 s.cfg.cost) := h1.kk _ _ rfl
         have HLL := hide (HL.out w1 V1 h1)
         rw [q1, Hn.out] at HLL
         have M1 := hide (HM.out.trans ((PMv.of_below ((Below.refl _ _).drew.drew)).trans m1))
         clear h1 m1 q1))
  go_wp2_with fail
  refine HLL.out.mono ?_
  rintro e w3 ⟨v, V3, rfl, g3⟩
  have HG := hide (Gives.after M1.out g3)
  clear g3 HLL M1
  go_wp2_with fail
  go_ret
  exact ⟨v, V3, rfl, HG.out⟩
set_option maxRecDepth 100000 in
set_option maxHeartbeats 8000000 in
theorem rep_ring_hedge (h : PRep w p s V) (call due st : Int) {c : PCall} (hcall : callOf s call = some c) (hul : s.units.length ≤ 1000000) (hub : OkB s.units) (hc0 : 0 ≤ s.cfg.cost) (hpay : ¬ s.cfg.cost ≤ sumB s.units) :
    Calls Tryz.prog 73 #[.pointer (some ⟨p, 0, none⟩), .agg #[.int .i64 3, .int .i64 call, .int .i64 due, .int .i64 st]] w fun e w' => e = .returned (.slice none 0 0) ∧ ∃ V', Gives w w' V V' p (.slice none 0 0) [] (takeM s) := by
  obtain ⟨hc, hn⟩ := callOf_mem hcall
  have hg : mget (callL s.calls V.q) call = some (.pointer (some ⟨V.q call, 0, none⟩)) := mget_callL hcall
  have hwf : (Lit.int .i64 call).wf = true := by
    rw [← hn]
    exact h.mC.wf (c.number, .pointer (some ⟨V.q c.number, 0, none⟩)) (List.mem_map.2 ⟨c, hc, rfl⟩)
  have lp := h.lp
  have htg : 7 ≤ V.tag w.heap.size := by
    rcases Nat.lt_or_ge (V.tag w.heap.size) 7 with h2 | h2
    · have := h.tl _ h2
      omega
    · exact h2
  obtain ⟨B, hBx⟩ : ∃ B, B = w.alloc (.cells #[.int .i64 3, .int .i64 call, .int .i64 due, .int .i64 st] 114) := ⟨_, rfl⟩
  have hB0 : Below w.heap.size w B := by rw [hBx]; exact (Below.refl _ _).alloc (Nat.le_refl _) _
  have hB := h.on hB0
  have e0 : B.cell? ⟨w.heap.size, 0, none⟩ = some (.int .i64 3) := by rw [hBx]; simp
  have e1 : B.cell? ⟨w.heap.size, 1, none⟩ = some (.int .i64 call) := by rw [hBx]; simp
  have lB : w.heap.size < B.heap.size := World.block_lt_of_cell? B _ e0
  have cC : B.cell? ⟨p, 15, none⟩ = some (.map (some V.bc)) := hB.kk _ _ rfl
  have hlk := hB.drew.mC.look1 Tryz.underlying3 Tryz.underlying88 (z := .pointer none) (by kernel_rfl) okPtr_none hwf
  rw [hg, Option.getD_some] at hlk
  have HB := hide hBx
  have cK : B.cell? ⟨p, 1, none⟩ = some (.int .i64 s.cfg.cost) := hB.kk _ _ rfl
  have HT := hide (fun W (hW : Below B.heap.size B W) => rep_take (hB.on hW) hul hub hc0)
  rw [decide_eq_false hpay] at HT
  have HM := hide ((PMv.of_below (V := V) hB0))
  clear h hB hg hBx hn hcall hpay hub
  go_enter Tryz.func73, Tryz.ntmps73
  go_wp2_with fail
  all_goals (try rw [← HB.out])
  go_region
  go_wp2_with fail
  go_region_held3 (fun w' => w'.cell? ⟨p, 1, none⟩ = some (.int .i64 s.cfg.cost))
    (first
      | exact c1
      | (go_keep; done))
    (first
      | (go_at_call 103; refine (HT.out _ ((Below.refl _ _).drew.drew)).mono ?_; rintro e w1 ⟨rfl, V1, h1, m1, q1⟩
         have c1 : w1.cell? ⟨p, 1, none⟩ = some (.int .i64 s.cfg.cost) := h1.kk _ _ rfl
         have c2 : w1.cell? ⟨w.heap.size, 0, none⟩ = some (.int .i64 3) := (World.cell?_of_block (m1.block _ lB htg)).trans e0
         have h1' : PRep w1 p (takeM s) V1 := h1
         have HG := hide (Gives.of_nil h1' (HM.out.trans ((PMv.of_below ((Below.refl _ _).drew.drew)).trans m1)))
         clear h1 h1' m1 q1))
  go_wp2_with fail
  go_ret
  exact ⟨rfl, V1, HG.out⟩
set_option maxRecDepth 100000 in
set_option maxHeartbeats 8000000 in
theorem rep_ring_fail (h : PRep w p s V) (call due st : Int) {c : PCall} (hcall : callOf s call = some c) (hul : s.units.length ≤ 1000000) (hub : OkB s.units) (hc0 : 0 ≤ s.cfg.cost) (hpay : ¬ s.cfg.cost ≤ sumB s.units) (hs : 0 < s.set) (hl : s.atts.length ≤ 1000000) (hlt : s.timers.length ≤ 999999) :
    Calls Tryz.prog 73 #[.pointer (some ⟨p, 0, none⟩), .agg #[.int .i64 2, .int .i64 call, .int .i64 due, .int .i64 st]] w fun e w' => ∃ v V', e = .returned v ∧ Gives w w' V V' p v (finishA (takeM s) call 2 0) (finishM (takeM s) call) := by
  obtain ⟨hc, hn⟩ := callOf_mem hcall
  have hg : mget (callL s.calls V.q) call = some (.pointer (some ⟨V.q call, 0, none⟩)) := mget_callL hcall
  have hwf : (Lit.int .i64 call).wf = true := by
    rw [← hn]
    exact h.mC.wf (c.number, .pointer (some ⟨V.q c.number, 0, none⟩)) (List.mem_map.2 ⟨c, hc, rfl⟩)
  have lp := h.lp
  have htg : 7 ≤ V.tag w.heap.size := by
    rcases Nat.lt_or_ge (V.tag w.heap.size) 7 with h2 | h2
    · have := h.tl _ h2
      omega
    · exact h2
  obtain ⟨B, hBx⟩ : ∃ B, B = w.alloc (.cells #[.int .i64 2, .int .i64 call, .int .i64 due, .int .i64 st] 114) := ⟨_, rfl⟩
  have hB0 : Below w.heap.size w B := by rw [hBx]; exact (Below.refl _ _).alloc (Nat.le_refl _) _
  have hB := h.on hB0
  have e0 : B.cell? ⟨w.heap.size, 0, none⟩ = some (.int .i64 2) := by rw [hBx]; simp
  have e1 : B.cell? ⟨w.heap.size, 1, none⟩ = some (.int .i64 call) := by rw [hBx]; simp
  have lB : w.heap.size < B.heap.size := World.block_lt_of_cell? B _ e0
  have cC : B.cell? ⟨p, 15, none⟩ = some (.map (some V.bc)) := hB.kk _ _ rfl
  have hlk := hB.drew.mC.look1 Tryz.underlying3 Tryz.underlying88 (z := .pointer none) (by kernel_rfl) okPtr_none hwf
  rw [hg, Option.getD_some] at hlk
  have HB := hide hBx
  have cK : B.cell? ⟨p, 1, none⟩ = some (.int .i64 s.cfg.cost) := hB.kk _ _ rfl
  have HT := hide (fun W (hW : Below B.heap.size B W) => rep_take (hB.on hW) hul hub hc0)
  rw [decide_eq_false hpay] at HT
  have HM := hide ((PMv.of_below (V := V) hB0))
  have Hn := hide hn
  clear h hB hg hBx hn hcall hpay hub
  go_enter Tryz.func73, Tryz.ntmps73
  go_wp2_with fail
  all_goals (try rw [← HB.out])
  go_region
  go_wp2_with fail
  go_region_held3 (fun w' => w'.cell? ⟨p, 1, none⟩ = some (.int .i64 s.cfg.cost))
    (first
      | exact c1
      | (go_keep; done))
    (first
      | (go_at_call 103; refine (HT.out _ ((Below.refl _ _).drew.drew)).mono ?_; rintro e w1 ⟨rfl, V1, h1, m1, q1⟩
         have c1 : w1.cell? ⟨p, 1, none⟩ = some (.int .i64 s.cfg.cost) := h1.kk _ _ rfl
         have c2 : w1.cell? ⟨w.heap.size, 0, none⟩ = some (.int .i64 2) := (World.cell?_of_block (m1.block _ lB htg)).trans e0
         have HLL := hide (rep_finish (s := takeM s) h1 hc 2 0 hs hl hlt)
         rw [q1, Hn.out] at HLL
         have M1 := hide (HM.out.trans ((PMv.of_below ((Below.refl _ _).drew.drew)).trans m1))
         clear h1 m1 q1))
  go_wp2_with fail
  refine HLL.out.mono ?_
  rintro e w3 ⟨v, V3, rfl, hr3, h3, m3, t3⟩
  have HG := hide (Gives.after M1.out ⟨hr3, h3, m3, t3⟩)
  clear hr3 h3 m3 t3 HLL M1
  go_wp2_with fail
  go_ret
  exact ⟨v, V3, rfl, HG.out⟩
end
end Go.Proofs.YtlccfpbbdgpjbaaGreatDoor

namespace Go.Proofs.YtlccfpbbdgpjbaaGreatDoor
open Go.RowKit Go.Maps

/-- How a launch goes on. -/
def HedgeAll (p : Nat) (cfg : Cfg) : Prop := ∀ (N : Int) (s : PSt) (c : PCall), N ≤ 60001 → s.cfg = cfg → Inv N s → HedgeOk p s c

section
variable {w w0 w' : World} {p : Nat} {s : PSt} {V : PV}

/-- A call more. -/
theorem PRep.put_call (h : PRep w p s V) {c : PCall} {q0 : Nat} (hq : CallAt w q0 c) (hl : q0 < w.heap.size) (ht : 7 ≤ V.tag q0) (hn : ∀ d ∈ s.calls, d.number ≠ c.number) (hm : MapI Tryz.prog 3 okPtr w' V.bc (callL s.calls V.q ++ [(c.number, .pointer (some ⟨q0, 0, none⟩))])) (hk : Kp [V.bc] w w') (m0 : PMv V w0 V w) (h0 : w0.heap.size ≤ q0) :
    ∃ V', PRep w' p { s with calls := s.calls ++ [c] } V' ∧ PMv V w0 V' w' ∧ V'.q c.number = q0 := by
  have hb : ∀ {k : Nat}, V.tag k < 7 → V.tag k ≠ 1 → w'.heap[k]? = w.heap[k]? := fun {k} h1 h2 => hk.block k (h.tl k h1) (fun e => h2 (by
    have e' : k = V.bc := by simpa using e
    rw [e']
    exact h.tc))
  have hne : ∀ {k : Nat}, V.tag k < 7 → k ≠ q0 := fun {k} h1 e => by rw [e] at h1; omega
  have htag : ∀ {k : Nat}, V.tag k < 7 → (if k = q0 then 6 else V.tag k) = V.tag k := fun {k} h1 => if_neg (hne h1)
  have hqn : ∀ d ∈ s.calls, (if d.number = c.number then q0 else V.q d.number) = V.q d.number := fun d hd => if_neg (hn d hd)
  have hqb : w'.heap[q0]? = w.heap[q0]? := hk.block q0 hl (fun e => by
    have e' : q0 = V.bc := by simpa using e
    rw [e', h.tc] at ht
    omega)
  have hcl : callL (s.calls ++ [c]) (fun n => if n = c.number then q0 else V.q n) = callL s.calls V.q ++ [(c.number, .pointer (some ⟨q0, 0, none⟩))] := by
    unfold callL
    rw [List.map_append]
    congr 1
    · apply List.map_congr_left
      intro d hd
      dsimp only
      rw [hqn d hd]
    · simp
  refine ⟨{ V with q := fun n => if n = c.number then q0 else V.q n, tag := fun k => if k = q0 then 6 else V.tag k }, ⟨fun j v hv => (World.cell?_of_block (hb (by rw [h.tp]; omega) (by rw [h.tp]; omega))).trans (h.kk j v hv), fun j hj => (World.frozen?_of_block (hb (by rw [h.tp]; omega) (by rw [h.tp]; omega))).trans (h.fz j hj), by rw [← hcl] at hm; exact hm, h.mA.same (hb (by rw [h.ta]; omega) (by rw [h.ta]; omega)), ?_,
    h.ru.same fun k hk => hb (by rw [h.tu k hk]; omega) (by rw [h.tu k hk]; omega), h.rt.same fun k hk => hb (by rw [h.tt k hk]; omega) (by rw [h.tt k hk]; omega), h.rm.same fun k hk => hb (by rw [h.tm k hk]; omega) (by rw [h.tm k hk]; omega), h.xp, h.xh, (htag (by rw [h.tp]; omega)).trans h.tp, (htag (by rw [h.tc]; omega)).trans h.tc, (htag (by rw [h.ta]; omega)).trans h.ta,
    fun k hk => (htag (by rw [h.tu k hk]; omega)).trans (h.tu k hk), fun k hk => (htag (by rw [h.tt k hk]; omega)).trans (h.tt k hk), fun k hk => (htag (by rw [h.tm k hk]; omega)).trans (h.tm k hk), ?_, ?_, ?_, h.tg⟩, ⟨hk.os.trans m0.os, hk.tape.trans m0.tape, hk.output.trans m0.output, Nat.le_trans m0.size hk.size, fun k hk' h7 => (hk.block k (Nat.lt_of_lt_of_le hk' m0.size) (fun e => by
      have e' : k = V.bc := by simpa using e
      rw [e', h.tc] at h7
      omega)).trans (m0.block k hk' h7), ?_⟩, if_pos rfl⟩
  · intro d hd
    rcases List.mem_append.1 hd with hd | hd
    · show CallAt w' (if d.number = c.number then q0 else V.q d.number) d
      rw [hqn d hd]
      exact (h.cc d hd).same (hb (by rw [h.tq d hd]; omega) (by rw [h.tq d hd]; omega))
    · have : d = c := by simpa using hd
      subst this
      show CallAt w' (if d.number = d.number then q0 else V.q d.number) d
      rw [if_pos rfl]
      exact hq.same hqb
  · intro d hd
    rcases List.mem_append.1 hd with hd | hd
    · show (if (if d.number = c.number then q0 else V.q d.number) = q0 then 6 else V.tag (if d.number = c.number then q0 else V.q d.number)) = 6
      rw [hqn d hd]
      exact (htag (by rw [h.tq d hd]; omega)).trans (h.tq d hd)
    · have : d = c := by simpa using hd
      subst this
      show (if (if d.number = d.number then q0 else V.q d.number) = q0 then 6 else _) = 6
      rw [if_pos rfl, if_pos rfl]
  · intro d hd e he
    show (if d.number = c.number then q0 else V.q d.number) = (if e.number = c.number then q0 else V.q e.number) → _
    rcases List.mem_append.1 hd with hd1 | hd1 <;> rcases List.mem_append.1 he with he1 | he1
    · rw [hqn d hd1, hqn e he1]
      exact h.qi d hd1 e he1
    · have e2 : e = c := by simpa using he1
      rw [hqn d hd1, e2, if_pos rfl]
      exact fun x => absurd x (hne (by rw [h.tq d hd1]; omega))
    · have e2 : d = c := by simpa using hd1
      rw [hqn e he1, e2, if_pos rfl]
      exact fun x => absurd x.symm (hne (by rw [h.tq e he1]; omega))
    · have e1 : d = c := by simpa using hd1
      have e2 : e = c := by simpa using he1
      rw [e1, e2]
      exact fun _ => rfl
  · intro k hk'
    dsimp only at hk'
    split at hk'
    · rename_i e
      rw [e]
      exact Nat.lt_of_lt_of_le hl hk.size
    · exact Nat.lt_of_lt_of_le (h.tl k hk') hk.size
  · intro k hk'
    dsimp only at hk'
    split at hk'
    · rename_i e
      rw [e]
      exact .inr h0
    · exact m0.news k hk'

end
end Go.Proofs.YtlccfpbbdgpjbaaGreatDoor

namespace Go.Proofs.YtlccfpbbdgpjbaaGreatDoor
open Go.RowKit Go.Maps

section
variable {w : World} {p : Nat} {s : PSt} {V : PV}

set_option maxRecDepth 100000 in
set_option maxHeartbeats 8000000 in
theorem rep_admit (HA : HedgeAll p s.cfg) {N : Int} (h : PRep w p s V) (hI : Inv N s) (hN : N ≤ 60000) (e : PEv) (hw : (Lit.int .i64 e.call).wf = true) (hy : whyM s e = 0) :
    Calls Tryz.prog 65 #[.pointer (some ⟨p, 0, none⟩), evV e] w fun ex w' => ∃ v V', ex = .returned v ∧ Gives w w' V V' p v (admitA s e) (admitM s e) := by
  have lp := h.lp
  obtain ⟨t0, t1, _, t3, t4⟩ := why0 hy
  have hn0 := hI.n0
  have hn1 := hI.n1
  obtain ⟨k, c, a, v, t, sf, d, o⟩ := e
  unfold evV
  dsimp only at hw t0 t1 t4 ⊢
  obtain ⟨B, hBx⟩ : ∃ B, B = w.alloc (.cells #[.int .i64 k, .int .i64 c, .int .i64 a, .int .i64 v, .int .i64 t, .bool sf, .int .u64 d, .int .i64 o] 39) := ⟨_, rfl⟩
  have hB0 : Below w.heap.size w B := by rw [hBx]; exact (Below.refl _ _).alloc (Nat.le_refl _) _
  have hB := h.on hB0
  have e1 : B.cell? ⟨w.heap.size, 1, none⟩ = some (.int .i64 c) := by rw [hBx]; simp
  have e4 : B.cell? ⟨w.heap.size, 4, none⟩ = some (.int .i64 t) := by rw [hBx]; simp
  have e5 : B.cell? ⟨w.heap.size, 5, none⟩ = some (.bool sf) := by rw [hBx]; simp
  have lB : w.heap.size < B.heap.size := World.block_lt_of_cell? B _ e1
  have cN : B.cell? ⟨p, 10, none⟩ = some (.int .i64 s.now) := hB.kk _ _ rfl
  have cK : B.cell? ⟨p, 6, none⟩ = some (.int .i64 s.cfg.base) := hB.kk _ _ rfl
  have cC : B.cell? ⟨p, 15, none⟩ = some (.map (some V.bc)) := hB.kk _ _ rfl
  have HB := hide hBx
  have HH := hide hB
  clear hBx h hB
  go_enter Tryz.func65, Tryz.ntmps65
  go_wp2_with fail
  all_goals (try rw [← HB.out])
  go_region
  go_wp2_with fail
  have hW0 : Below B.heap.size B (B.alloc (.cells #[.int .i64 c, .bool sf, .int .i64 (s.now + t), .int .i64 0, .int .i64 s.cfg.base] 142)).drew := ((Below.refl _ _).alloc (Nat.le_refl _) _).drew
  have hq0 : CallAt (B.alloc (.cells #[.int .i64 c, .bool sf, .int .i64 (s.now + t), .int .i64 0, .int .i64 s.cfg.base] 142)).drew B.heap.size (newCall s ⟨k, c, a, v, t, sf, d, o⟩) := by
    intro j u hu
    have hb := heap_alloc_new B (.cells #[.int .i64 c, .bool sf, .int .i64 (s.now + t), .int .i64 0, .int .i64 s.cfg.base] 142)
    refine ⟨?_, ?_⟩
    · show (B.alloc _).cell? _ = _
      rw [cell_of_row _ _ _ _ _ _ hb]
      simpa [encPC, newCall] using hu
    · show (B.alloc _).frozen? _ = _
      unfold World.frozen?
      dsimp only
      rw [hb]
      simp
  have hl0 : B.heap.size < (B.alloc (.cells #[.int .i64 c, .bool sf, .int .i64 (s.now + t), .int .i64 0, .int .i64 s.cfg.base] 142)).drew.heap.size := by
    show _ < (B.alloc _).heap.size
    simp
  generalize (B.alloc (.cells #[.int .i64 c, .bool sf, .int .i64 (s.now + t), .int .i64 0, .int .i64 s.cfg.base] 142)).drew = W1 at hW0 hq0 hl0 ⊢
  have h1 := HH.out.on hW0
  have hnn := whyM_none hy
  have hmg : mget (callL s.calls V.q) c = none := mget_callL_none (by
    rw [List.find?_eq_none]
    intro x hx
    simpa using hnn x hx)
  obtain ⟨w3, hrun, hM3, ht3⟩ := h1.drew.mC.put Tryz.underlying3 Tryz.underlying88 (by
    have := hI.cl
    have := hI.cfg.f1
    unfold callL
    rw [List.length_map]
    omega) hw hmg (u := .pointer (some ⟨B.heap.size, 0, none⟩)) rfl
  have htB : 7 ≤ V.tag B.heap.size := by
    rcases Nat.lt_or_ge (V.tag B.heap.size) 7 with h2 | h2
    · have := HH.out.tl _ h2
      omega
    · exact h2
  obtain ⟨V3, h3, m3, q3⟩ := h1.drew.put_call (c := newCall s ⟨k, c, a, v, t, sf, d, o⟩) (hq0.same rfl) hl0 htB hnn hM3 (Kp.of_map ht3) ((PMv.of_below (hB0.trans (hW0.mono hB0.size))).trans (PMv.of_below (Below.refl _ _).drew)) hB0.size
  have x0 : W1.cell? ⟨B.heap.size, 0, none⟩ = some (.int .i64 c) := (hq0 _ _ rfl).1
  have cC1 : W1.cell? ⟨p, 15, none⟩ = some (.map (some V.bc)) := h1.kk _ _ rfl
  have lp1 := h1.lp
  have hcf := hI.cfg
  have HBR := hide (rep_bring h3.drew (by have := hI.ul; show s.units.length ≤ _; omega) hI.ub hcf.d0 hcf.d1 hcf.p0 hcf.p1)
  have c3 : w3.cell? ⟨p, 10, none⟩ = some (.int .i64 s.now) := h3.kk _ _ rfl
  have lp3 := h3.lp
  have Hq3 := hide q3
  have M3 := hide (m3.trans (PMv.of_below (Below.refl _ _).drew))
  have HHH := hide hI
  have Hcf := hide hcf
  clear h1 h3 m3 ht3 hM3 hmg hnn hq0 hW0 htB e1 e4 e5 cN cK cC hI hcf q3
  go_region
  go_wp2_with fail
  go_region_held3 (fun w' => w'.cell? ⟨p, 10, none⟩ = some (.int .i64 s.now))
    (first
      | exact c4
      | (go_keep; done))
    (first
      | (go_at_call 94; refine HBR.out.mono ?_; rintro e w4 ⟨rfl, V4, h4, m4, q4⟩
         have c4 : w4.cell? ⟨p, 10, none⟩ = some (.int .i64 s.now) := h4.kk _ _ rfl
         have H4 : Hid (PRep w4 p (bringM { s with calls := s.calls ++ [newCall s ⟨k, c, a, v, t, sf, d, o⟩] }) V4) := h4
         have M4 := hide (M3.out.trans m4)
         have Hq4 := hide (show V4.q c = B.heap.size by rw [q4]; exact Hq3.out)
         clear h4 m4 q4))
  have hc4 : newCall s ⟨k, c, a, v, t, sf, d, o⟩ ∈ (bringM { s with calls := s.calls ++ [newCall s ⟨k, c, a, v, t, sf, d, o⟩] }).calls := List.mem_append_right _ (by simp)
  have x4 : w4.cell? ⟨B.heap.size, 0, none⟩ = some (.int .i64 c) := by rw [← Hq4.out]; exact (H4.out.cc _ hc4 _ _ rfl).1
  have y4 : w4.cell? ⟨B.heap.size, 2, none⟩ = some (.int .i64 (s.now + t)) := by rw [← Hq4.out]; exact (H4.out.cc _ hc4 _ _ rfl).1
  have HST := hide (rep_setTimer H4.out.drew 1 c (s.now + t) (by have := HHH.out.tN; show s.timers.length ≤ _; omega) HHH.out.s0 (by have := HHH.out.sN; show s.set ≤ _; omega))
  have lp4 : p < w4.heap.size := World.block_lt_of_cell? w4 _ c4
  have lq4 : B.heap.size < w4.heap.size := World.block_lt_of_cell? w4 _ x4
  have Hc4 := hide hc4
  clear hc4 HBR M3 Hq3 x0 cC1 hrun c3
  go_wp2_with fail
  go_region_held3 (fun w' => w'.cell? ⟨B.heap.size, 0, none⟩ = some (.int .i64 c) ∧ w'.cell? ⟨B.heap.size, 2, none⟩ = some (.int .i64 (s.now + t)))
    (first
      | exact ⟨x5, y5⟩
      | (go_keep; done))
    (first
      | (go_at_call 95; refine HST.out.mono ?_; rintro e w5 ⟨rfl, V5, h5, m5, q5⟩
         have H5 : Hid (PRep w5 p (admit0 s ⟨k, c, a, v, t, sf, d, o⟩) V5) := h5
         have Hq5 := hide (show V5.q c = B.heap.size by rw [q5]; exact Hq4.out)
         have x5 : w5.cell? ⟨B.heap.size, 0, none⟩ = some (.int .i64 c) := by rw [← Hq5.out]; exact (H5.out.cc _ Hc4.out _ _ rfl).1
         have y5 : w5.cell? ⟨B.heap.size, 2, none⟩ = some (.int .i64 (s.now + t)) := by rw [← Hq5.out]; exact (H5.out.cc _ Hc4.out _ _ rfl).1
         have M5 := hide (M4.out.trans ((PMv.of_below (Below.refl _ _).drew).trans m5))
         clear h5 m5 q5))
  obtain ⟨i0, i1, i2, i3⟩ := inv_admit0 HHH.out _ hy
  have HLL := hide (rep_launch H5.out i1 (by have := i0.aN; omega) i0.l0 (by have := i0.lN; omega) (Int.le_refl _) (by show (0 : Int) ≤ 1000; omega) i0.n0 i0.n1 (by show 0 ≤ s.now + t; omega) t4 (mget_none (by
      intro x hx e'
      obtain ⟨y, hy', rfl⟩ := List.mem_map.1 hx
      have h9 := (i0.ab y hy').2.1
      dsimp only at e'
      omega)) (HA _ _ _ (by omega) rfl (inv_launch0 i0 i1 i2 i3)))
  rw [show V5.q (newCall s ⟨k, c, a, v, t, sf, d, o⟩).number = B.heap.size from Hq5.out] at HLL
  clear i0 i1 i2 i3 HST
  go_wp2_with fail
  refine HLL.out.mono ?_
  rintro e w6 ⟨v6, V6, rfl, g6⟩
  have HG := hide (Gives.after M5.out g6)
  clear g6 HLL M5
  go_wp2_with fail
  go_ret
  exact ⟨v6, V6, rfl, HG.out⟩
end
end Go.Proofs.YtlccfpbbdgpjbaaGreatDoor
