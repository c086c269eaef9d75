import Derived.Test.YtlccfpbbdgpjbaaGreatDoorKWFind
import Derived.Test.YtlccfpbbdgpjbaaGreatDoorKConf
import Derived.Test.YtlccfpbbdgpjbaaGreatDoorZStep
import Derived.Deep.LoopGhost
import Derived.Deep.DeepCutAuto
namespace Go.Proofs.YtlccfpbbdgpjbaaGreatDoor
open Go.RowKit
attribute [local go_sem ↓] Go.wp_at_zero Go.wp_at_succ

theorem eight_below {B b : Nat} {W w : World} (h : Below B W w) (hb : B ≤ b) (v0 v1 v2 v3 v4 v5 v6 v7 : Value) : Below B W ((((((((w.setCell ⟨b, 0, none⟩ v0).setCell ⟨b, 1, none⟩ v1).setCell ⟨b, 2, none⟩ v2).setCell ⟨b, 3, none⟩ v3).setCell ⟨b, 4, none⟩ v4).setCell ⟨b, 5, none⟩ v5).setCell ⟨b, 6, none⟩ v6).setCell ⟨b, 7, none⟩ v7) := by
  have h0 := h.setCell (p := ⟨b, 0, none⟩) hb v0
  have h1 := h0.setCell (p := ⟨b, 1, none⟩) hb v1
  have h2 := h1.setCell (p := ⟨b, 2, none⟩) hb v2
  have h3 := h2.setCell (p := ⟨b, 3, none⟩) hb v3
  have h4 := h3.setCell (p := ⟨b, 4, none⟩) hb v4
  have h5 := h4.setCell (p := ⟨b, 5, none⟩) hb v5
  have h6 := h5.setCell (p := ⟨b, 6, none⟩) hb v6
  exact h6.setCell (p := ⟨b, 7, none⟩) hb v7

/-- An event as a Watch makes it. -/
def EvGood (e : PEv) : Prop := (1 ≤ e.kind ∧ e.kind ≤ 6) ∧ EvOk e ∧ 1 ≤ e.timeout ∧ e.timeout ≤ 150

set_option maxRecDepth 100000 in
set_option maxHeartbeats 16000000 in
theorem wevent_any {w : World} {k : Cfg} {W : WSt} {U : WV} (h : WRep w k W U) (ha : W.atts.length ≤ 1000000) (hn0 : 0 ≤ W.now) (hn1 : W.now ≤ 1099511627776) (sb so cap : Nat) (z0 z1 z2 z3 z4 z5 : Int)
    (c0 : w.cell? ⟨sb, so, none⟩ = some (.int .i64 z0)) (c1 : w.cell? ⟨sb, so + 1, none⟩ = some (.int .i64 z1)) (c2 : w.cell? ⟨sb, so + 2, none⟩ = some (.int .i64 z2)) (c3 : w.cell? ⟨sb, so + 3, none⟩ = some (.int .i64 z3)) (c4 : w.cell? ⟨sb, so + 4, none⟩ = some (.int .i64 z4)) (c5 : w.cell? ⟨sb, so + 5, none⟩ = some (.int .i64 z5))
    (r0 : -9223372036854775808 ≤ z0 ∧ z0 ≤ 9223372036854775807) (r1 : -9223372036854775808 ≤ z1 ∧ z1 ≤ 9223372036854775807) (r2 : -9223372036854775808 ≤ z2 ∧ z2 ≤ 9223372036854775807) :
    Calls Tryz.prog 23 #[.pointer (some ⟨U.q, 0, none⟩), .slice (some ⟨sb, so, none⟩) 6 cap] w fun e w' => (∃ ev : PEv, e = .returned (evV ev) ∧ EvGood ev) ∧ Below w.heap.size w w' := by
  have nq := h.kk 11 _ rfl
  have aq := h.kk 13 _ rfl
  have lq := h.lq
  have lsb : sb < w.heap.size := World.block_lt_of_cell? _ _ c0
  obtain ⟨A, capa, he, -, hA, -⟩ := h.ra.form
  have HB : Hid (∀ i (h : i < W.atts.length), ∃ g, A = some ⟨g, 0, none⟩ ∧ g < w.heap.size ∧ w.cell? ⟨g, i * 3 + 2, none⟩ = some (.bool W.atts[i].opn)) := fun i hi => by
    obtain ⟨g, rfl⟩ := hA i hi
    have ho : U.va.ownBlock = some g := by rw [he]; rfl
    have h9 := (h.ra.cell encWA_len (g := g) (j := 2) ho hi rfl).1
    exact ⟨g, rfl, World.block_lt_of_cell? _ _ h9, h9⟩
  rw [he] at aq
  obtain ⟨p0, p1⟩ := pickV_lt z0 6 (by omega)
  obtain ⟨p2, p3⟩ := pickV_lt z1 12 (by omega)
  obtain ⟨p4, p5⟩ := pickV_lt z2 150 (by omega)
  obtain ⟨p6, p7⟩ := pickV_lt z2 25 (by omega)
  have hal : (W.atts.length : Int) ≤ 1000000 := by omega
  clear hA he ha
  generalize U.q = q at nq aq lq ⊢
  generalize W.now = now at hn0 hn1 nq
  clear h
  have w1 : (Lit.int .i64 (pickV z1 12)).wf = true := WalkArith.wf_i64 (by omega)
  have HK := hide (fun W' z n (hz : z = z0 ∨ z = z1 ∨ z = z2) (h0 : 0 < n) (h1 : n ≤ 1000000) => pick_any z n W' (by rcases hz with rfl | rfl | rfl <;> omega) (by rcases hz with rfl | rfl | rfl <;> omega) h0 h1)
  have HN := hide (fun W' n (h0 : 0 < n) (h1 : n ≤ 1000000) => pick_any z1 n W' r1.1 r1.2 h0 h1)
  have W1 := hide w1
  clear w1
  have hbE : Below w.heap.size w (w.alloc (.cells #[.int .i64 0, .int .i64 0, .int .i64 0, .int .i64 0, .int .i64 0, .bool false, .int .u64 0, .int .i64 0] 39)) := (Below.refl _ _).alloc (Nat.le_refl _) _
  have d0 := (hbE.cell lsb).trans c0
  have d1 := (hbE.cell lsb).trans c1
  have d2 := (hbE.cell lsb).trans c2
  have d3 := (hbE.cell lsb).trans c3
  have d4 := (hbE.cell lsb).trans c4
  have d5 := (hbE.cell lsb).trans c5
  have dn := (hbE.cell lq).trans nq
  have HZ0 : Hid (∀ j, j < 8 → ((w.alloc (.cells #[.int .i64 0, .int .i64 0, .int .i64 0, .int .i64 0, .int .i64 0, .bool false, .int .u64 0, .int .i64 0] 39)).cell? ⟨w.heap.size, j, none⟩).isSome = true ∧ (w.alloc (.cells #[.int .i64 0, .int .i64 0, .int .i64 0, .int .i64 0, .int .i64 0, .bool false, .int .u64 0, .int .i64 0] 39)).frozen? ⟨w.heap.size, j, none⟩ = false) := fun j hj => by
    constructor
    · match j, hj with
      | 0, _ => simp
      | 1, _ => simp
      | 2, _ => simp
      | 3, _ => simp
      | 4, _ => simp
      | 5, _ => simp
      | 6, _ => simp
      | 7, _ => simp
    · unfold World.frozen?
      dsimp only
      rw [heap_alloc_new]
      simp
  have lrb : w.heap.size < (w.alloc (.cells #[.int .i64 0, .int .i64 0, .int .i64 0, .int .i64 0, .int .i64 0, .bool false, .int .u64 0, .int .i64 0] 39)).heap.size := by simp
  have HBE := hide hbE
  have x0 : IntKind.i64.wrap (1 + pickV z0 6) = 1 + pickV z0 6 := by rw [IntKind.wrap_i64]; omega
  have x2 : IntKind.i64.wrap (1 + pickV z2 150) = 1 + pickV z2 150 := by rw [IntKind.wrap_i64]; omega
  have x3 : IntKind.i64.wrap (now + pickV z2 25) = now + pickV z2 25 := by rw [IntKind.wrap_i64]; omega
  have C0 := hide c0
  have C1 := hide c1
  have C2 := hide c2
  have AQ := hide aq
  clear hbE c0 c1 c2 c3 c4 c5 nq aq
  go_enter Tryz.func23, Tryz.ntmps23
  go_wp2_with fail
  generalize w.alloc (.cells #[.int .i64 0, .int .i64 0, .int .i64 0, .int .i64 0, .int .i64 0, .bool false, .int .u64 0, .int .i64 0] 39) = wE at d0 d1 d2 d3 d4 d5 dn HBE HZ0 lrb ⊢
  go_cut [5] (fun s wx => s = .pointer (some ⟨wE.heap.size, 0, none⟩) ∧ wx = (wE.alloc (.cells #[.int .i64 (1 + pickV z0 6), .int .i64 (pickV z1 12), .int .i64 1, .int .i64 z3, .int .i64 (1 + pickV z2 150), .bool (z4.tmod 3 != 0), .int .u64 (IntKind.u64.wrap z5), .int .i64 (now + pickV z2 25)] 39)).drew)
  case first =>
    go_region_held3 (fun w' => w'.cell? ⟨sb, so, none⟩ = some (.int .i64 z0) ∧ w'.cell? ⟨sb, so + 1, none⟩ = some (.int .i64 z1) ∧ w'.cell? ⟨sb, so + 2, none⟩ = some (.int .i64 z2) ∧ w'.cell? ⟨sb, so + 3, none⟩ = some (.int .i64 z3) ∧ w'.cell? ⟨sb, so + 4, none⟩ = some (.int .i64 z4) ∧ w'.cell? ⟨sb, so + 5, none⟩ = some (.int .i64 z5) ∧ w'.cell? ⟨q, 11, none⟩ = some (.int .i64 now))
      (first
        | (go_keep; done))
      (first
        | (go_at_call 19; refine (HK.out _ _ _ (by first | exact .inl rfl | exact .inr (.inl rfl) | exact .inr (.inr rfl)) (by decide) (by decide)).mono ?_; rintro e w' ⟨rfl, rfl⟩))
    all_goals (go_wp2_with fail; go_meet; exact ⟨rfl, rfl⟩)
  case rest =>
    obtain ⟨rfl, rfl⟩ := hcut
    have b0 : (wE.alloc (.cells #[.int .i64 (1 + pickV z0 6), .int .i64 (pickV z1 12), .int .i64 1, .int .i64 z3, .int .i64 (1 + pickV z2 150), .bool (z4.tmod 3 != 0), .int .u64 (IntKind.u64.wrap z5), .int .i64 (now + pickV z2 25)] 39)).drew.cell? ⟨wE.heap.size, 0, none⟩ = some (.int .i64 (1 + pickV z0 6)) := by simp
    have b1 : (wE.alloc (.cells #[.int .i64 (1 + pickV z0 6), .int .i64 (pickV z1 12), .int .i64 1, .int .i64 z3, .int .i64 (1 + pickV z2 150), .bool (z4.tmod 3 != 0), .int .u64 (IntKind.u64.wrap z5), .int .i64 (now + pickV z2 25)] 39)).drew.cell? ⟨wE.heap.size, 1, none⟩ = some (.int .i64 (pickV z1 12)) := by simp
    have b2 : (wE.alloc (.cells #[.int .i64 (1 + pickV z0 6), .int .i64 (pickV z1 12), .int .i64 1, .int .i64 z3, .int .i64 (1 + pickV z2 150), .bool (z4.tmod 3 != 0), .int .u64 (IntKind.u64.wrap z5), .int .i64 (now + pickV z2 25)] 39)).drew.cell? ⟨wE.heap.size, 2, none⟩ = some (.int .i64 1) := by simp
    have b3 : (wE.alloc (.cells #[.int .i64 (1 + pickV z0 6), .int .i64 (pickV z1 12), .int .i64 1, .int .i64 z3, .int .i64 (1 + pickV z2 150), .bool (z4.tmod 3 != 0), .int .u64 (IntKind.u64.wrap z5), .int .i64 (now + pickV z2 25)] 39)).drew.cell? ⟨wE.heap.size, 3, none⟩ = some (.int .i64 z3) := by simp
    have b4 : (wE.alloc (.cells #[.int .i64 (1 + pickV z0 6), .int .i64 (pickV z1 12), .int .i64 1, .int .i64 z3, .int .i64 (1 + pickV z2 150), .bool (z4.tmod 3 != 0), .int .u64 (IntKind.u64.wrap z5), .int .i64 (now + pickV z2 25)] 39)).drew.cell? ⟨wE.heap.size, 4, none⟩ = some (.int .i64 (1 + pickV z2 150)) := by simp
    have b5 : (wE.alloc (.cells #[.int .i64 (1 + pickV z0 6), .int .i64 (pickV z1 12), .int .i64 1, .int .i64 z3, .int .i64 (1 + pickV z2 150), .bool (z4.tmod 3 != 0), .int .u64 (IntKind.u64.wrap z5), .int .i64 (now + pickV z2 25)] 39)).drew.cell? ⟨wE.heap.size, 5, none⟩ = some (.bool (z4.tmod 3 != 0)) := by simp
    have b6 : (wE.alloc (.cells #[.int .i64 (1 + pickV z0 6), .int .i64 (pickV z1 12), .int .i64 1, .int .i64 z3, .int .i64 (1 + pickV z2 150), .bool (z4.tmod 3 != 0), .int .u64 (IntKind.u64.wrap z5), .int .i64 (now + pickV z2 25)] 39)).drew.cell? ⟨wE.heap.size, 6, none⟩ = some (.int .u64 (IntKind.u64.wrap z5)) := by simp
    have b7 : (wE.alloc (.cells #[.int .i64 (1 + pickV z0 6), .int .i64 (pickV z1 12), .int .i64 1, .int .i64 z3, .int .i64 (1 + pickV z2 150), .bool (z4.tmod 3 != 0), .int .u64 (IntKind.u64.wrap z5), .int .i64 (now + pickV z2 25)] 39)).drew.cell? ⟨wE.heap.size, 7, none⟩ = some (.int .i64 (now + pickV z2 25)) := by simp
    have f2 : (wE.alloc (.cells #[.int .i64 (1 + pickV z0 6), .int .i64 (pickV z1 12), .int .i64 1, .int .i64 z3, .int .i64 (1 + pickV z2 150), .bool (z4.tmod 3 != 0), .int .u64 (IntKind.u64.wrap z5), .int .i64 (now + pickV z2 25)] 39)).drew.frozen? ⟨wE.heap.size, 2, none⟩ = false := by
      show (wE.alloc (.cells #[.int .i64 (1 + pickV z0 6), .int .i64 (pickV z1 12), .int .i64 1, .int .i64 z3, .int .i64 (1 + pickV z2 150), .bool (z4.tmod 3 != 0), .int .u64 (IntKind.u64.wrap z5), .int .i64 (now + pickV z2 25)] 39)).frozen? ⟨wE.heap.size, 2, none⟩ = false
      unfold World.frozen?
      dsimp only
      rw [heap_alloc_new]
      simp
    have f7 : (wE.alloc (.cells #[.int .i64 (1 + pickV z0 6), .int .i64 (pickV z1 12), .int .i64 1, .int .i64 z3, .int .i64 (1 + pickV z2 150), .bool (z4.tmod 3 != 0), .int .u64 (IntKind.u64.wrap z5), .int .i64 (now + pickV z2 25)] 39)).drew.frozen? ⟨wE.heap.size, 7, none⟩ = false := by
      show (wE.alloc (.cells #[.int .i64 (1 + pickV z0 6), .int .i64 (pickV z1 12), .int .i64 1, .int .i64 z3, .int .i64 (1 + pickV z2 150), .bool (z4.tmod 3 != 0), .int .u64 (IntKind.u64.wrap z5), .int .i64 (now + pickV z2 25)] 39)).frozen? ⟨wE.heap.size, 7, none⟩ = false
      unfold World.frozen?
      dsimp only
      rw [heap_alloc_new]
      simp
    have hbB : Below w.heap.size w (wE.alloc (.cells #[.int .i64 (1 + pickV z0 6), .int .i64 (pickV z1 12), .int .i64 1, .int .i64 z3, .int .i64 (1 + pickV z2 150), .bool (z4.tmod 3 != 0), .int .u64 (IntKind.u64.wrap z5), .int .i64 (now + pickV z2 25)] 39)).drew := (HBE.out.alloc HBE.out.size _).drew
    have hrb0 : (wE.alloc (.cells #[.int .i64 (1 + pickV z0 6), .int .i64 (pickV z1 12), .int .i64 1, .int .i64 z3, .int .i64 (1 + pickV z2 150), .bool (z4.tmod 3 != 0), .int .u64 (IntKind.u64.wrap z5), .int .i64 (now + pickV z2 25)] 39)).drew.heap[w.heap.size]? = wE.heap[w.heap.size]? := (((Below.refl wE.heap.size wE).alloc (Nat.le_refl _) _).drew).block _ lrb
    have HBX := hide (And.intro b0 (And.intro b1 (And.intro b2 (And.intro b3 (And.intro b4 (And.intro b5 (And.intro b6 (And.intro b7 (And.intro f2 (And.intro f7 (And.intro hrb0 hbB)))))))))))
    have o0 := (hbB.cell (p := ⟨sb, so, none⟩) lsb).trans C0.out
    have o1 := (hbB.cell (p := ⟨sb, so + 1, none⟩) lsb).trans C1.out
    have oq := (hbB.cell (p := ⟨q, 13, none⟩) lq).trans AQ.out
    have hbx : w.heap.size ≤ wE.heap.size := HBE.out.size
    have HOC : Hid (∀ i (h : i < W.atts.length), ∃ g, A = some ⟨g, 0, none⟩ ∧ (wE.alloc (.cells #[.int .i64 (1 + pickV z0 6), .int .i64 (pickV z1 12), .int .i64 1, .int .i64 z3, .int .i64 (1 + pickV z2 150), .bool (z4.tmod 3 != 0), .int .u64 (IntKind.u64.wrap z5), .int .i64 (now + pickV z2 25)] 39)).drew.cell? ⟨g, i * 3 + 2, none⟩ = some (.bool W.atts[i].opn)) := fun i hi => by
      obtain ⟨g, e, lg, hc⟩ := HB.out i hi
      exact ⟨g, e, (hbB.cell (p := ⟨g, i * 3 + 2, none⟩) lg).trans hc⟩
    have HK1 : Hid (1 ≤ 1 + pickV z0 6 ∧ 1 + pickV z0 6 ≤ 6) := ⟨by omega, by omega⟩
    have HTM : Hid (1 ≤ 1 + pickV z2 150 ∧ 1 + pickV z2 150 ≤ 150) := ⟨by omega, by omega⟩
    have HDR : Hid (0 ≤ IntKind.u64.wrap z5) := by show (0 : Int) ≤ _; rw [IntKind.wrap_u64]; omega
    clear b0 b1 b2 b3 b4 b5 b6 b7 f2 f7 hbB d0 d1 d2 d3 d4 d5 dn x0 x2 x3 HBE HK
    generalize (wE.alloc (.cells #[.int .i64 (1 + pickV z0 6), .int .i64 (pickV z1 12), .int .i64 1, .int .i64 z3, .int .i64 (1 + pickV z2 150), .bool (z4.tmod 3 != 0), .int .u64 (IntKind.u64.wrap z5), .int .i64 (now + pickV z2 25)] 39)).drew = wB at HBX o0 o1 oq HOC ⊢
    generalize wE.heap.size = bx at HBX hbx lrb ⊢
    generalize 1 + pickV z0 6 = kd at HBX HK1
    generalize 1 + pickV z2 150 = tm at HBX HTM
    generalize now + pickV z2 25 = tt at HBX
    generalize pickV z1 12 = cl at HBX W1
    generalize (z4.tmod 3 != 0) = sf at HBX
    generalize IntKind.u64.wrap z5 = dr at HBX HDR
    clear p0 p1 p2 p3 p4 p5 p6 p7
    go_wp2_with fail
    go_loop [6, 7] (fun nv i => ∃ (j : Nat) (r : Int), j ≤ W.atts.length ∧ nv = .int .i64 r ∧ i = .int .i64 j ∧ 0 ≤ r ∧ r ≤ (j : Int)) (fun _ i => W.atts.length - (intOf i).toNat)
    case atStart => exact ⟨0, 0, Nat.zero_le _, rfl, rfl, by omega, by omega⟩
    case round =>
      obtain ⟨j, r, hj, rfl, rfl, r0', r1'⟩ := hrel
      by_cases hlt : (j : Int) < (W.atts.length : Int)
      · obtain ⟨g, rfl, hc⟩ := HOC.out j (by omega)
        generalize W.atts[j].opn = op at hc
        cases op with
        | false =>
          go_wp2_with fail
          go_round
          case rel => exact ⟨j + 1, r, by omega, rfl, by go_num, r0', by omega⟩
          case measure => simp [intOf]; omega
        | true =>
          go_wp2_with fail
          go_round
          case rel => exact ⟨j + 1, r + 1, by omega, by go_num, by go_num, by omega, by omega⟩
          case measure => simp [intOf]; omega
      · by_cases hr : 0 < r
        · obtain ⟨q0, q1⟩ := pickV_lt z1 r hr
          have HNR := hide (HN.out wB r hr (by omega))
          generalize pickV z1 r = k0 at q0 q1 HNR
          go_wp2_with fail
          refine HNR.out.mono ?_
          rintro e w' ⟨rfl, rfl⟩
          go_wp2_with fail
          go_loopg [8, 9] W.atts.length (fun gk kv iv wr => ∃ (j : Nat) (kk att : Int), gk = W.atts.length - j ∧ kv = .int .i64 kk ∧ iv = .int .i64 j ∧ j ≤ W.atts.length ∧ -1000000 ≤ kk + j ∧ kk ≤ 1000000 ∧ 1 ≤ att ∧ att ≤ 1000001 ∧ wr.cell? ⟨bx, 0, none⟩ = some (.int .i64 kd) ∧ wr.cell? ⟨bx, 1, none⟩ = some (.int .i64 cl) ∧ wr.cell? ⟨bx, 2, none⟩ = some (.int .i64 att) ∧ wr.cell? ⟨bx, 3, none⟩ = some (.int .i64 z3) ∧ wr.cell? ⟨bx, 4, none⟩ = some (.int .i64 tm) ∧ wr.cell? ⟨bx, 5, none⟩ = some (.bool sf) ∧ wr.cell? ⟨bx, 6, none⟩ = some (.int .u64 dr) ∧ wr.cell? ⟨bx, 7, none⟩ = some (.int .i64 tt) ∧ wr.frozen? ⟨bx, 2, none⟩ = false ∧ wr.frozen? ⟨bx, 7, none⟩ = false ∧ wr.heap[w.heap.size]? = wE.heap[w.heap.size]? ∧ Below w.heap.size w wr)
          case atStart => exact ⟨0, k0, 1, rfl, rfl, rfl, Nat.zero_le _, by omega, by omega, by omega, by omega, HBX.out.1, HBX.out.2.1, HBX.out.2.2.1, HBX.out.2.2.2.1, HBX.out.2.2.2.2.1, HBX.out.2.2.2.2.2.1, HBX.out.2.2.2.2.2.2.1, HBX.out.2.2.2.2.2.2.2.1, HBX.out.2.2.2.2.2.2.2.2.1, HBX.out.2.2.2.2.2.2.2.2.2.1, HBX.out.2.2.2.2.2.2.2.2.2.2.1, HBX.out.2.2.2.2.2.2.2.2.2.2.2⟩
          case round =>
            obtain ⟨j, kk, att, hgk, rfl, rfl, hj, k1, k2, t1, t2, e0, e1, e2, e3, e4, e5, e6, e7, g2, g7, hrb, hB⟩ := hrel
            have o0 := (hB.cell lsb).trans C0.out
            have o1 := (hB.cell (p := ⟨sb, so + 1, none⟩) lsb).trans C1.out
            have o2 := (hB.cell (p := ⟨sb, so + 2, none⟩) lsb).trans C2.out
            have oq := (hB.cell (p := ⟨q, 13, none⟩) lq).trans AQ.out
            by_cases hlt : (j : Int) < (W.atts.length : Int)
            · obtain ⟨g, rfl, lg, hc⟩ := HB.out j (by omega)
              have oc := (hB.cell (p := ⟨g, j * 3 + 2, none⟩) lg).trans hc
              generalize W.atts[j].opn = op at oc hc
              have HBB := hide hB
              clear hB hc
              cases op with
              | false =>
                go_wp2_with fail
                go_roundg (W.atts.length - (j + 1))
                case measure => omega
                case rel => exact ⟨j + 1, kk, att, rfl, rfl, by go_num, by omega, by omega, by omega, t1, t2, e0, e1, e2, e3, e4, e5, e6, e7, g2, g7, hrb, HBB.out⟩
              | true =>
                have hgb : g ≠ bx := by omega
                by_cases hk0 : kk = 0
                · subst hk0
                  go_wp2_with fail
                  go_roundg (W.atts.length - (j + 1))
                  case measure => omega
                  case rel =>
                    refine ⟨j + 1, -1, (j : Int) + 1, rfl, by go_num, by go_num, by omega, by omega, by omega, by omega, by omega, ?_, ?_, ?_, ?_, ?_, ?_, ?_, ?_, ?_, ?_, ?_, ?_⟩
                    · exact (World.cell?_setCell_other _ _ _ _ (by simp)).trans e0
                    · exact (World.cell?_setCell_other _ _ _ _ (by simp)).trans e1
                    · exact World.cell?_setCell_same _ _ _ e2
                    · exact (World.cell?_setCell_other _ _ _ _ (by simp)).trans e3
                    · exact (World.cell?_setCell_other _ _ _ _ (by simp)).trans e4
                    · exact (World.cell?_setCell_other _ _ _ _ (by simp)).trans e5
                    · exact (World.cell?_setCell_other _ _ _ _ (by simp)).trans e6
                    · exact (World.cell?_setCell_other _ _ _ _ (by simp)).trans e7
                    · simp [g2]
                    · simp [g7]
                    · exact (Below.heap_setCell _ _ _ _ (by simp; omega)).trans hrb
                    · exact HBB.out.setCell (p := ⟨bx, 2, none⟩) hbx _
                · have hk' : (kk == 0) = false := by simpa using hk0
                  go_wp2_with fail
                  go_roundg (W.atts.length - (j + 1))
                  case measure => omega
                  case rel => exact ⟨j + 1, kk - 1, att, rfl, by go_num, by go_num, by omega, by omega, by omega, t1, t2, e0, e1, e2, e3, e4, e5, e6, e7, g2, g7, hrb, HBB.out⟩
            · have HBB := hide hB
              clear hB
              obtain ⟨v0, y0⟩ := Option.isSome_iff_exists.1 (HZ0.out 0 (by omega)).1
              replace y0 := (World.cell?_of_block (a := ⟨w.heap.size, 0, none⟩) hrb).trans y0
              have k0' := (World.frozen?_of_block (a := ⟨w.heap.size, 0, none⟩) hrb).trans (HZ0.out 0 (by omega)).2
              obtain ⟨v1, y1⟩ := Option.isSome_iff_exists.1 (HZ0.out 1 (by omega)).1
              replace y1 := (World.cell?_of_block (a := ⟨w.heap.size, 1, none⟩) hrb).trans y1
              have k1' := (World.frozen?_of_block (a := ⟨w.heap.size, 1, none⟩) hrb).trans (HZ0.out 1 (by omega)).2
              obtain ⟨v2, y2⟩ := Option.isSome_iff_exists.1 (HZ0.out 2 (by omega)).1
              replace y2 := (World.cell?_of_block (a := ⟨w.heap.size, 2, none⟩) hrb).trans y2
              have k2' := (World.frozen?_of_block (a := ⟨w.heap.size, 2, none⟩) hrb).trans (HZ0.out 2 (by omega)).2
              obtain ⟨v3, y3⟩ := Option.isSome_iff_exists.1 (HZ0.out 3 (by omega)).1
              replace y3 := (World.cell?_of_block (a := ⟨w.heap.size, 3, none⟩) hrb).trans y3
              have k3' := (World.frozen?_of_block (a := ⟨w.heap.size, 3, none⟩) hrb).trans (HZ0.out 3 (by omega)).2
              obtain ⟨v4, y4⟩ := Option.isSome_iff_exists.1 (HZ0.out 4 (by omega)).1
              replace y4 := (World.cell?_of_block (a := ⟨w.heap.size, 4, none⟩) hrb).trans y4
              have k4' := (World.frozen?_of_block (a := ⟨w.heap.size, 4, none⟩) hrb).trans (HZ0.out 4 (by omega)).2
              obtain ⟨v5, y5⟩ := Option.isSome_iff_exists.1 (HZ0.out 5 (by omega)).1
              replace y5 := (World.cell?_of_block (a := ⟨w.heap.size, 5, none⟩) hrb).trans y5
              have k5' := (World.frozen?_of_block (a := ⟨w.heap.size, 5, none⟩) hrb).trans (HZ0.out 5 (by omega)).2
              obtain ⟨v6, y6⟩ := Option.isSome_iff_exists.1 (HZ0.out 6 (by omega)).1
              replace y6 := (World.cell?_of_block (a := ⟨w.heap.size, 6, none⟩) hrb).trans y6
              have k6' := (World.frozen?_of_block (a := ⟨w.heap.size, 6, none⟩) hrb).trans (HZ0.out 6 (by omega)).2
              obtain ⟨v7, y7⟩ := Option.isSome_iff_exists.1 (HZ0.out 7 (by omega)).1
              replace y7 := (World.cell?_of_block (a := ⟨w.heap.size, 7, none⟩) hrb).trans y7
              have k7' := (World.frozen?_of_block (a := ⟨w.heap.size, 7, none⟩) hrb).trans (HZ0.out 7 (by omega)).2
              have hrx : w.heap.size ≠ bx := by omega
              by_cases h31 : z0.tmod 31 = 0
              · go_wp2_with fail
                refine bodyPost_ret (v := evV ⟨kd, cl, z1, z3, tm, sf, dr, z2⟩) (by unfold evV; simp [results, Tryz.results23, go_sem, y0, y1, y2, y3, y4, y5, y6, y7]) rfl ?_
                refine ⟨⟨⟨kd, cl, z1, z3, tm, sf, dr, z2⟩, rfl, HK1.out, ⟨W1.out, WalkArith.wf_i64 r1, HDR.out⟩, HTM.out⟩, ?_⟩
                exact eight_below ((HBB.out.setCell (p := ⟨bx, 2, none⟩) hbx _).setCell (p := ⟨bx, 7, none⟩) hbx _) (Nat.le_refl _) _ _ _ _ _ _ _ _
              · have h31' : (z0.tmod 31 == 0) = false := by simpa using h31
                go_wp2_with fail
                refine bodyPost_ret (v := evV ⟨kd, cl, att, z3, tm, sf, dr, tt⟩) (by unfold evV; simp [results, Tryz.results23, go_sem, y0, y1, y2, y3, y4, y5, y6, y7]) rfl ?_
                exact ⟨⟨⟨kd, cl, att, z3, tm, sf, dr, tt⟩, rfl, HK1.out, ⟨W1.out, WalkArith.wf_i64 (show -9223372036854775808 ≤ att ∧ att ≤ 9223372036854775807 by omega), HDR.out⟩, HTM.out⟩, eight_below HBB.out (Nat.le_refl _) _ _ _ _ _ _ _ _⟩
        · go_wp2_with fail
          go_loopg [8, 9] W.atts.length (fun gk kv iv wr => ∃ (j : Nat) (kk att : Int), gk = W.atts.length - j ∧ kv = .int .i64 kk ∧ iv = .int .i64 j ∧ j ≤ W.atts.length ∧ -1000000 ≤ kk + j ∧ kk ≤ 1000000 ∧ 1 ≤ att ∧ att ≤ 1000001 ∧ wr.cell? ⟨bx, 0, none⟩ = some (.int .i64 kd) ∧ wr.cell? ⟨bx, 1, none⟩ = some (.int .i64 cl) ∧ wr.cell? ⟨bx, 2, none⟩ = some (.int .i64 att) ∧ wr.cell? ⟨bx, 3, none⟩ = some (.int .i64 z3) ∧ wr.cell? ⟨bx, 4, none⟩ = some (.int .i64 tm) ∧ wr.cell? ⟨bx, 5, none⟩ = some (.bool sf) ∧ wr.cell? ⟨bx, 6, none⟩ = some (.int .u64 dr) ∧ wr.cell? ⟨bx, 7, none⟩ = some (.int .i64 tt) ∧ wr.frozen? ⟨bx, 2, none⟩ = false ∧ wr.frozen? ⟨bx, 7, none⟩ = false ∧ wr.heap[w.heap.size]? = wE.heap[w.heap.size]? ∧ Below w.heap.size w wr)
          case atStart => exact ⟨0, 0, 1, rfl, rfl, rfl, Nat.zero_le _, by omega, by omega, by omega, by omega, HBX.out.1, HBX.out.2.1, HBX.out.2.2.1, HBX.out.2.2.2.1, HBX.out.2.2.2.2.1, HBX.out.2.2.2.2.2.1, HBX.out.2.2.2.2.2.2.1, HBX.out.2.2.2.2.2.2.2.1, HBX.out.2.2.2.2.2.2.2.2.1, HBX.out.2.2.2.2.2.2.2.2.2.1, HBX.out.2.2.2.2.2.2.2.2.2.2.1, HBX.out.2.2.2.2.2.2.2.2.2.2.2⟩
          case round =>
            obtain ⟨j, kk, att, hgk, rfl, rfl, hj, k1, k2, t1, t2, e0, e1, e2, e3, e4, e5, e6, e7, g2, g7, hrb, hB⟩ := hrel
            have o0 := (hB.cell lsb).trans C0.out
            have o1 := (hB.cell (p := ⟨sb, so + 1, none⟩) lsb).trans C1.out
            have o2 := (hB.cell (p := ⟨sb, so + 2, none⟩) lsb).trans C2.out
            have oq := (hB.cell (p := ⟨q, 13, none⟩) lq).trans AQ.out
            by_cases hlt : (j : Int) < (W.atts.length : Int)
            · obtain ⟨g, rfl, lg, hc⟩ := HB.out j (by omega)
              have oc := (hB.cell (p := ⟨g, j * 3 + 2, none⟩) lg).trans hc
              generalize W.atts[j].opn = op at oc hc
              have HBB := hide hB
              clear hB hc
              cases op with
              | false =>
                go_wp2_with fail
                go_roundg (W.atts.length - (j + 1))
                case measure => omega
                case rel => exact ⟨j + 1, kk, att, rfl, rfl, by go_num, by omega, by omega, by omega, t1, t2, e0, e1, e2, e3, e4, e5, e6, e7, g2, g7, hrb, HBB.out⟩
              | true =>
                have hgb : g ≠ bx := by omega
                by_cases hk0 : kk = 0
                · subst hk0
                  go_wp2_with fail
                  go_roundg (W.atts.length - (j + 1))
                  case measure => omega
                  case rel =>
                    refine ⟨j + 1, -1, (j : Int) + 1, rfl, by go_num, by go_num, by omega, by omega, by omega, by omega, by omega, ?_, ?_, ?_, ?_, ?_, ?_, ?_, ?_, ?_, ?_, ?_, ?_⟩
                    · exact (World.cell?_setCell_other _ _ _ _ (by simp)).trans e0
                    · exact (World.cell?_setCell_other _ _ _ _ (by simp)).trans e1
                    · exact World.cell?_setCell_same _ _ _ e2
                    · exact (World.cell?_setCell_other _ _ _ _ (by simp)).trans e3
                    · exact (World.cell?_setCell_other _ _ _ _ (by simp)).trans e4
                    · exact (World.cell?_setCell_other _ _ _ _ (by simp)).trans e5
                    · exact (World.cell?_setCell_other _ _ _ _ (by simp)).trans e6
                    · exact (World.cell?_setCell_other _ _ _ _ (by simp)).trans e7
                    · simp [g2]
                    · simp [g7]
                    · exact (Below.heap_setCell _ _ _ _ (by simp; omega)).trans hrb
                    · exact HBB.out.setCell (p := ⟨bx, 2, none⟩) hbx _
                · have hk' : (kk == 0) = false := by simpa using hk0
                  go_wp2_with fail
                  go_roundg (W.atts.length - (j + 1))
                  case measure => omega
                  case rel => exact ⟨j + 1, kk - 1, att, rfl, by go_num, by go_num, by omega, by omega, by omega, t1, t2, e0, e1, e2, e3, e4, e5, e6, e7, g2, g7, hrb, HBB.out⟩
            · have HBB := hide hB
              clear hB
              obtain ⟨v0, y0⟩ := Option.isSome_iff_exists.1 (HZ0.out 0 (by omega)).1
              replace y0 := (World.cell?_of_block (a := ⟨w.heap.size, 0, none⟩) hrb).trans y0
              have k0' := (World.frozen?_of_block (a := ⟨w.heap.size, 0, none⟩) hrb).trans (HZ0.out 0 (by omega)).2
              obtain ⟨v1, y1⟩ := Option.isSome_iff_exists.1 (HZ0.out 1 (by omega)).1
              replace y1 := (World.cell?_of_block (a := ⟨w.heap.size, 1, none⟩) hrb).trans y1
              have k1' := (World.frozen?_of_block (a := ⟨w.heap.size, 1, none⟩) hrb).trans (HZ0.out 1 (by omega)).2
              obtain ⟨v2, y2⟩ := Option.isSome_iff_exists.1 (HZ0.out 2 (by omega)).1
              replace y2 := (World.cell?_of_block (a := ⟨w.heap.size, 2, none⟩) hrb).trans y2
              have k2' := (World.frozen?_of_block (a := ⟨w.heap.size, 2, none⟩) hrb).trans (HZ0.out 2 (by omega)).2
              obtain ⟨v3, y3⟩ := Option.isSome_iff_exists.1 (HZ0.out 3 (by omega)).1
              replace y3 := (World.cell?_of_block (a := ⟨w.heap.size, 3, none⟩) hrb).trans y3
              have k3' := (World.frozen?_of_block (a := ⟨w.heap.size, 3, none⟩) hrb).trans (HZ0.out 3 (by omega)).2
              obtain ⟨v4, y4⟩ := Option.isSome_iff_exists.1 (HZ0.out 4 (by omega)).1
              replace y4 := (World.cell?_of_block (a := ⟨w.heap.size, 4, none⟩) hrb).trans y4
              have k4' := (World.frozen?_of_block (a := ⟨w.heap.size, 4, none⟩) hrb).trans (HZ0.out 4 (by omega)).2
              obtain ⟨v5, y5⟩ := Option.isSome_iff_exists.1 (HZ0.out 5 (by omega)).1
              replace y5 := (World.cell?_of_block (a := ⟨w.heap.size, 5, none⟩) hrb).trans y5
              have k5' := (World.frozen?_of_block (a := ⟨w.heap.size, 5, none⟩) hrb).trans (HZ0.out 5 (by omega)).2
              obtain ⟨v6, y6⟩ := Option.isSome_iff_exists.1 (HZ0.out 6 (by omega)).1
              replace y6 := (World.cell?_of_block (a := ⟨w.heap.size, 6, none⟩) hrb).trans y6
              have k6' := (World.frozen?_of_block (a := ⟨w.heap.size, 6, none⟩) hrb).trans (HZ0.out 6 (by omega)).2
              obtain ⟨v7, y7⟩ := Option.isSome_iff_exists.1 (HZ0.out 7 (by omega)).1
              replace y7 := (World.cell?_of_block (a := ⟨w.heap.size, 7, none⟩) hrb).trans y7
              have k7' := (World.frozen?_of_block (a := ⟨w.heap.size, 7, none⟩) hrb).trans (HZ0.out 7 (by omega)).2
              have hrx : w.heap.size ≠ bx := by omega
              by_cases h31 : z0.tmod 31 = 0
              · go_wp2_with fail
                refine bodyPost_ret (v := evV ⟨kd, cl, z1, z3, tm, sf, dr, z2⟩) (by unfold evV; simp [results, Tryz.results23, go_sem, y0, y1, y2, y3, y4, y5, y6, y7]) rfl ?_
                refine ⟨⟨⟨kd, cl, z1, z3, tm, sf, dr, z2⟩, rfl, HK1.out, ⟨W1.out, WalkArith.wf_i64 r1, HDR.out⟩, HTM.out⟩, ?_⟩
                exact eight_below ((HBB.out.setCell (p := ⟨bx, 2, none⟩) hbx _).setCell (p := ⟨bx, 7, none⟩) hbx _) (Nat.le_refl _) _ _ _ _ _ _ _ _
              · have h31' : (z0.tmod 31 == 0) = false := by simpa using h31
                go_wp2_with fail
                refine bodyPost_ret (v := evV ⟨kd, cl, att, z3, tm, sf, dr, tt⟩) (by unfold evV; simp [results, Tryz.results23, go_sem, y0, y1, y2, y3, y4, y5, y6, y7]) rfl ?_
                exact ⟨⟨⟨kd, cl, att, z3, tm, sf, dr, tt⟩, rfl, HK1.out, ⟨W1.out, WalkArith.wf_i64 (show -9223372036854775808 ≤ att ∧ att ≤ 9223372036854775807 by omega), HDR.out⟩, HTM.out⟩, eight_below HBB.out (Nat.le_refl _) _ _ _ _ _ _ _ _⟩
end Go.Proofs.YtlccfpbbdgpjbaaGreatDoor
