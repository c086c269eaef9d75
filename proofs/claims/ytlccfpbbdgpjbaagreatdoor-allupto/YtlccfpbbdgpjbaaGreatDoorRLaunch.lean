import Derived.Test.YtlccfpbbdgpjbaaGreatDoorRDelay
import Derived.Deep.RegionWith
import Derived.Test.YtlccfpbbdgpjbaaGreatDoorRRegion
import Derived.Deep.RegionLaw
import Derived.Deep.DeepCutAuto
namespace Go.Proofs.YtlccfpbbdgpjbaaGreatDoor
open Go.RowKit
attribute [local go_sem ↓] Go.wp_at_zero Go.wp_at_succ

/-- A cell of a call's entry is written in its place. -/
theorem Rep.put_c {w : World} {p : Nat} {s : St} {V : V6} (h : Rep w p s V) {g i j : Nat} (hg : V.c.ownBlock = some g) (hi : i < s.calls.length) (hj : j < 5) (u : Value) (x : RCall) (hx : encCall x = (encCall s.calls[i]).set j u) :
    Rep (w.setCell ⟨g, i * 5 + j, none⟩ u) p { s with calls := s.calls.set i x } V ∧ Mv p V w V (w.setCell ⟨g, i * 5 + j, none⟩ u) := by
  have hgp : g ≠ p := fun e => h.ap 1 0 (by decide) g hg (by rw [e]; rfl)
  have hf : Fr p [11] V.c.ownBlock.toList w (w.setCell ⟨g, i * 5 + j, none⟩ u) :=
    ⟨rfl, rfl, rfl, by simp, fun k _ _ hk => Below.heap_setCell _ _ _ _ (fun e => hk (by rw [hg, e]; simp)), fun q _ => World.cell?_of_block (Below.heap_setCell w _ u p (Ne.symm hgp)), fun q => World.frozen?_of_block (Below.heap_setCell w _ u p (Ne.symm hgp))⟩
  have hc : (w.setCell ⟨g, i * 5 + j, none⟩ u).cell? ⟨p, 11, none⟩ = some V.c := (World.cell?_of_block (Below.heap_setCell w ⟨g, i * 5 + j, none⟩ u p (Ne.symm hgp))).trans h.kc
  exact h.set_c hf hc (h.rc.set encCall_len hg hi hj u x hx) (.inl rfl)

theorem wrap_small (n : Int) (h0 : -4611686018427387904 ≤ n) (h1 : n ≤ 4611686018427387904) : IntKind.i64.wrap n = n := by
  rw [IntKind.wrap_i64]
  omega
theorem below_drew (w : World) : Below w.heap.size w w.drew := ⟨rfl, rfl, rfl, Nat.le_refl _, fun _ _ => rfl⟩

/-- A call's copy, in a block of its own. -/
structure RCallAt (w : World) (B : Nat) (x : RCall) : Prop where
  c0 : w.cell? ⟨B, 0, none⟩ = some (.int .i64 x.number)
  c1 : w.cell? ⟨B, 1, none⟩ = some (.int .i64 x.deadline)
  c2 : w.cell? ⟨B, 2, none⟩ = some (.int .i64 x.had)
  c3 : w.cell? ⟨B, 3, none⟩ = some (.int .i64 x.wait)
  c4 : w.cell? ⟨B, 4, none⟩ = some (.bool x.safe)
theorem RCallAt.lt {w : World} {B : Nat} {x : RCall} (h : RCallAt w B x) : B < w.heap.size := World.block_lt_of_cell? w _ h.c0
theorem RCallAt.same {w w' : World} {B : Nat} {x : RCall} (h : RCallAt w B x) (hb : w'.heap[B]? = w.heap[B]?) : RCallAt w' B x :=
  ⟨(World.cell?_of_block (a := ⟨B, 0, none⟩) hb).trans h.c0, (World.cell?_of_block (a := ⟨B, 1, none⟩) hb).trans h.c1, (World.cell?_of_block (a := ⟨B, 2, none⟩) hb).trans h.c2, (World.cell?_of_block (a := ⟨B, 3, none⟩) hb).trans h.c3, (World.cell?_of_block (a := ⟨B, 4, none⟩) hb).trans h.c4⟩

/-- In the midst of a function that holds a copy of a call: the client is s'. -/
structure Mid (p : Nat) (V : V6) (w : World) (s' : St) (V' : V6) (B : Nat) (x : RCall) (wx : World) : Prop where
  rep : Rep wx p s' V'
  mv : Mv p V w V' wx
  no : ¬ own p V' B
  at_ : RCallAt wx B x

theorem Mid.step {p : Nat} {V V' V'' : V6} {w wx wy : World} {s' s'' : St} {B : Nat} {x : RCall} (h : Mid p V w s' V' B x wx) (r : Rep wy p s'' V'') (m : Mv p V' wx V'' wy) : Mid p V w s'' V'' B x wy :=
  ⟨r, h.mv.trans m, fun ho => (m.news B ho).elim h.no (fun h' => absurd h.at_.lt (Nat.not_lt.2 h')), h.at_.same (m.block B h.at_.lt h.no)⟩

/-- A field's list gets one entry more, by an append and a store. -/
theorem Rep.push_a {w wa w1 : World} {p : Nat} {s : St} {V : V6} (h : Rep w p s V) {x : RAtt} {g cap : Nat} (ha : Below w.heap.size w wa)
    (hown : w1.ownsRow 0 154 3 (.slice (some ⟨g, 0, none⟩) (s.atts.length + 1) cap) (s.atts.length + 1) (s.atts.flatMap encAtt ++ encAtt x)) (hgrow : wa.grownBy w1 V.a.ownBlock) (hat : V.a.ownBlock = some g ∨ w.heap.size ≤ g) (hc : w1.cell? ⟨p, 12, none⟩ = some V.a) :
    Now p V w { s with atts := s.atts ++ [x] } (w1.setCell ⟨p, 12, none⟩ (.slice (some ⟨g, 0, none⟩) (s.atts.length + 1) cap)) := by
  obtain ⟨v', h1, h2, h3, h4⟩ := push_post h.lp h.ra ha hown hgrow (fun e => h.ap 2 0 (by decide) p e rfl) hat hc
  exact ⟨_, h.set_a h4 h1 h2 (h3.imp id (fun ⟨g, e, hg⟩ g' e' => by have : g = g' := Option.some.inj (e.symm.trans e'); omega))⟩

theorem Rep.push_t {w wa w1 : World} {p : Nat} {s : St} {V : V6} (h : Rep w p s V) {x : RTimer} {g cap : Nat} (ha : Below w.heap.size w wa)
    (hown : w1.ownsRow 0 188 3 (.slice (some ⟨g, 0, none⟩) (s.timers.length + 1) cap) (s.timers.length + 1) (s.timers.flatMap encTimer ++ encTimer x)) (hgrow : wa.grownBy w1 V.t.ownBlock) (hat : V.t.ownBlock = some g ∨ w.heap.size ≤ g) (hc : w1.cell? ⟨p, 14, none⟩ = some V.t) :
    Now p V w { s with timers := s.timers ++ [x] } (w1.setCell ⟨p, 14, none⟩ (.slice (some ⟨g, 0, none⟩) (s.timers.length + 1) cap)) := by
  obtain ⟨v', h1, h2, h3, h4⟩ := push_post h.lp h.rt ha hown hgrow (fun e => h.ap 3 0 (by decide) p e rfl) hat hc
  exact ⟨_, h.set_t h4 h1 h2 (h3.imp id (fun ⟨g, e, hg⟩ g' e' => by have : g = g' := Option.some.inj (e.symm.trans e'); omega))⟩

theorem rtopB_le {t : Int} (h0 : 0 ≤ t) (h1 : t ≤ 1099511627776) : 0 ≤ topB t ∧ topB t ≤ 2199023255553 := by
  have hp := wd_bound t.toNat (by omega)
  have e1 := Int.emod_nonneg t (show (wd t.toNat : Int) ≠ 0 by omega)
  have e2 := Int.emod_lt_of_pos t (show 0 < (wd t.toNat : Int) by omega)
  unfold topB
  rw [if_neg (by omega)]
  omega
theorem delayR_le {l : List Int} (h : ∀ t ∈ l, 0 ≤ t ∧ t ≤ 1099511627776) (rank : Int) : 0 ≤ delayR l rank ∧ delayR l rank ≤ 2199023255553 := by
  unfold delayR
  split
  · omega
  · rename_i t ht
    have := h t (List.mem_of_find?_eq_some ht)
    exact rtopB_le this.1 this.2

theorem Tryz.infoCall : (Tryz.prog.info? 159).map (fun i => (i.zero, i.size, i.bytes)) = some (some (.agg #[.int .i64 0, .int .i64 0, .int .i64 0, .int .i64 0, .bool false]), 5, 40) := by kernel_rfl

set_option maxRecDepth 100000 in
set_option maxHeartbeats 1600000 in
theorem launch_any (p : Nat) (s : St) (V : V6) (w : World) (h : Rep w p s V) (i : Nat) (x : RCall) (hi : i < s.calls.length) (hx : s.calls[i] = x) (hf : findI s.calls x.number = i)
    (l1 : s.calls.length ≤ 100000000) (l2 : s.atts.length ≤ 100000000) (l3 : s.out.length ≤ 100000000) (l4 : s.timers.length ≤ 95000000) (tl : s.times.length ≤ 32) (tb : ∀ t ∈ s.times, 0 ≤ t ∧ t ≤ 1099511627776) (r0 : 1 ≤ s.cfg.rank) (r1 : s.cfg.rank ≤ 100)
    (b1 : 0 ≤ s.numbers) (b2 : s.numbers ≤ 1000000000) (b3 : 0 ≤ x.had) (b4 : x.had ≤ 1000) (b5 : 0 ≤ s.now) (b6 : s.now ≤ 1099511627776) (b7 : 0 ≤ x.deadline) (b8 : x.deadline ≤ 1099511627776) :
    Calls Tryz.prog 108 #[.pointer (some ⟨p, 0, none⟩), .int .i64 x.number] w fun e w' => e = .returned (.tuple #[]) ∧ Now p V w (launchR s i x) w' := by
  have HF := hide (rep_find h l1 x.number)
  rw [hf] at HF
  obtain ⟨A, cap, hA, _, hA1, hA2⟩ := h.rc.form
  obtain ⟨g, rfl⟩ := hA1 i hi
  have hg : V.c.ownBlock = some g := by rw [hA]; rfl
  have e0 := (h.rc.cell encCall_len hg hi (j := 0) rfl).1
  have e1 := (h.rc.cell encCall_len hg hi (j := 1) rfl).1
  have e2 := (h.rc.cell encCall_len hg hi (j := 2) rfl)
  have e3 := (h.rc.cell encCall_len hg hi (j := 3) rfl).1
  have e4 := (h.rc.cell encCall_len hg hi (j := 4) rfl).1
  rw [hx] at e0 e1 e2 e3 e4
  rw [Nat.add_zero] at e0
  obtain ⟨e2, f2⟩ := e2
  have kc := h.kc
  rw [hA] at kc
  have kB := h.kB
  have fB := h.fz 13 (by omega)
  have lp := h.lp
  have lg := (hA2 g rfl).2.1
  have hgp : g ≠ p := fun e => h.ap 1 0 (by decide) g hg (by rw [e]; rfl)
  have hii : (i : Int) < (s.calls.length : Int) := by omega
  have HG := hide hg
  have HX := hide hx
  have hgw : w.heap.size ≠ g := by omega
  have hpw : w.heap.size ≠ p := by omega
  have HTB := hide (delayR_le tb s.cfg.rank)
  clear hA1 hA2 hA hg hx hf tb
  go_enter Tryz.func108, Tryz.ntmps108
  go_wp2_with fail
  refine HF.out.mono ?_
  rintro e w' ⟨rfl, rfl⟩
  clear HF
  obtain ⟨i0, hi0, z0, z1, z2⟩ := info_parts Tryz.infoAtt
  have R1 := h.set_numbers (s.numbers + 1)
  have R2 := R1.1.put_c HG.out (i := i) (j := 2) (by exact hi) (by omega) (.int .i64 (x.had + 1)) { x with had := x.had + 1 } (by show _ = (encCall s.calls[i]).set 2 _; rw [HX.out]; rfl)
  have M2 := R1.2.trans R2.2
  have R3 := R2.1.on (Below.alloc (Below.refl _ _) (Nat.le_refl _) (.cells #[.int .i64 x.number, .int .i64 x.deadline, .int .i64 x.had, .int .i64 x.wait, .bool x.safe] 159))
  have M3 := M2.trans (Mv.of_below (p := p) (V := V) (Below.alloc (Below.refl _ _) (Nat.le_refl _) (.cells #[.int .i64 x.number, .int .i64 x.deadline, .int .i64 x.had, .int .i64 x.wait, .bool x.safe] 159)))
  have hno : ¬ own p V w'.heap.size := fun ⟨j, hj⟩ => by have := h.lt j _ hj; omega
  have MID : Mid p V w' _ V w'.heap.size x (((w'.setCell ⟨p, 13, none⟩ (.int .i64 (s.numbers + 1))).setCell ⟨g, i * 5 + 2, none⟩ (.int .i64 (x.had + 1))).alloc (.cells #[.int .i64 x.number, .int .i64 x.deadline, .int .i64 x.had, .int .i64 x.wait, .bool x.safe] 159)) := ⟨R3, M3, hno, by rw [World.cell?_alloc_at _ _ _ _ (by simp)]; rfl, by rw [World.cell?_alloc_at _ _ _ _ (by simp)]; rfl, by rw [World.cell?_alloc_at _ _ _ _ (by simp)]; rfl, by rw [World.cell?_alloc_at _ _ _ _ (by simp)]; rfl, by rw [World.cell?_alloc_at _ _ _ _ (by simp)]; rfl⟩
  clear R1 R2 R3 M2 M3 hno
  go_wp2_with fail
  obtain ⟨W, hW⟩ : ∃ W, W = (((w'.setCell ⟨p, 13, none⟩ (.int .i64 (s.numbers + 1))).setCell ⟨g, i * 5 + 2, none⟩ (.int .i64 (x.had + 1))).alloc (.cells #[.int .i64 x.number, .int .i64 x.deadline, .int .i64 x.had, .int .i64 x.wait, .bool x.safe] 159)) := ⟨_, rfl⟩
  rw [← hW] at MID ⊢
  clear hW e0 e1 e2 e3 e4 f2 kc kB fB lg hgp hii hgw hpw HG
  generalize hB : w'.heap.size = B at MID ⊢
  go_cut [] (fun wx => ∃ V', Mid p V w' { s with numbers := s.numbers + 1, calls := s.calls.set i { x with had := x.had + 1 }, atts := s.atts ++ [⟨s.numbers + 1, x.number, s.now⟩] } V' B x wx)
  case first =>
    have ka : W.cell? ⟨p, 12, none⟩ = some V.a := MID.rep.ka
    have kB : W.cell? ⟨p, 13, none⟩ = some (.int .i64 (s.numbers + 1)) := MID.rep.kB
    have kN : W.cell? ⟨p, 10, none⟩ = some (.int .i64 s.now) := MID.rep.kN
    have fa := MID.rep.fz 12 (by omega)
    have ra : W.ownsRow 0 154 3 V.a s.atts.length (s.atts.flatMap encAtt) := MID.rep.ra
    have lW : p < W.heap.size := MID.rep.lp
    have hnew : W.heap.size ≠ p := by omega
    have hv : some p ≠ V.a.ownBlock := fun e => MID.rep.ap 2 0 (by decide) p e.symm rfl
    have hS : W.drew.cell? ⟨p, 12, none⟩ = some V.a ∧ W.drew.cell? ⟨p, 13, none⟩ = some (.int .i64 (s.numbers + 1)) ∧ W.drew.cell? ⟨p, 10, none⟩ = some (.int .i64 s.now) := ⟨by simpa using ka, by simpa using kB, by simpa using kN⟩
    refine wp_region_lexK (fun w' => w'.cell? ⟨p, 12, none⟩ = some V.a ∧ w'.cell? ⟨p, 13, none⟩ = some (.int .i64 (s.numbers + 1)) ∧ w'.cell? ⟨p, 10, none⟩ = some (.int .i64 s.now)) 19 (fun i => decide (i < 15)) (by kernel_rfl) (by kernel_rfl) (by kernel_rfl) ?_
    refine lexK_read (v := .pointer (some ⟨p, 0, none⟩)) rfl rfl (fun wz hSz => by obtain ⟨s1, s2, s3⟩ := hSz; go_simp) hS (fun _ _ _ h => h) ?_
    simp only [Act.put, List.setIfInBounds_toArray, List.set_cons_zero, List.set_cons_succ]
    refine lexK_read (v := .pointer (some ⟨p, 0, none⟩)) rfl rfl (fun wz hSz => by obtain ⟨s1, s2, s3⟩ := hSz; go_simp) hS (fun _ _ _ h => h) ?_
    simp only [Act.put, List.setIfInBounds_toArray, List.set_cons_zero, List.set_cons_succ]
    refine lexK_read (v := .pointer (some ⟨p, 0, none⟩)) rfl rfl (fun wz hSz => by obtain ⟨s1, s2, s3⟩ := hSz; go_simp) hS (fun _ _ _ h => h) ?_
    simp only [Act.put, List.setIfInBounds_toArray, List.set_cons_zero, List.set_cons_succ]
    refine lexK_read (v := .pointer (some ⟨p, 12, none⟩)) rfl rfl (fun wz hSz => by obtain ⟨s1, s2, s3⟩ := hSz; go_simp) hS (fun _ _ _ h => h) ?_
    simp only [Act.put, List.setIfInBounds_toArray, List.set_cons_zero, List.set_cons_succ]
    refine lexK_read (v := V.a) rfl rfl (fun wz hSz => by obtain ⟨s1, s2, s3⟩ := hSz; go_simp) hS (fun _ _ _ h => h) ?_
    simp only [Act.put, List.setIfInBounds_toArray, List.set_cons_zero, List.set_cons_succ]
    refine lexK_read (v := .pointer (some ⟨p, 0, none⟩)) rfl rfl (fun wz hSz => by obtain ⟨s1, s2, s3⟩ := hSz; go_simp) hS (fun _ _ _ h => h) ?_
    simp only [Act.put, List.setIfInBounds_toArray, List.set_cons_zero, List.set_cons_succ]
    refine lexK_read (v := .pointer (some ⟨p, 0, none⟩)) rfl rfl (fun wz hSz => by obtain ⟨s1, s2, s3⟩ := hSz; go_simp) hS (fun _ _ _ h => h) ?_
    simp only [Act.put, List.setIfInBounds_toArray, List.set_cons_zero, List.set_cons_succ]
    refine lexK_read (v := .pointer (some ⟨p, 13, none⟩)) rfl rfl (fun wz hSz => by obtain ⟨s1, s2, s3⟩ := hSz; go_simp) hS (fun _ _ _ h => h) ?_
    simp only [Act.put, List.setIfInBounds_toArray, List.set_cons_zero, List.set_cons_succ]
    refine lexK_read (v := .int .i64 (s.numbers + 1)) rfl rfl (fun wz hSz => by obtain ⟨s1, s2, s3⟩ := hSz; go_simp) hS (fun _ _ _ h => h) ?_
    simp only [Act.put, List.setIfInBounds_toArray, List.set_cons_zero, List.set_cons_succ]
    refine lexK_read (v := .int .i64 x.number) rfl rfl (fun wz hSz => by obtain ⟨s1, s2, s3⟩ := hSz; go_simp) hS (fun _ _ _ h => h) ?_
    simp only [Act.put, List.setIfInBounds_toArray, List.set_cons_zero, List.set_cons_succ]
    refine lexK_read (v := .pointer (some ⟨p, 0, none⟩)) rfl rfl (fun wz hSz => by obtain ⟨s1, s2, s3⟩ := hSz; go_simp) hS (fun _ _ _ h => h) ?_
    simp only [Act.put, List.setIfInBounds_toArray, List.set_cons_zero, List.set_cons_succ]
    refine lexK_read (v := .pointer (some ⟨p, 0, none⟩)) rfl rfl (fun wz hSz => by obtain ⟨s1, s2, s3⟩ := hSz; go_simp) hS (fun _ _ _ h => h) ?_
    simp only [Act.put, List.setIfInBounds_toArray, List.set_cons_zero, List.set_cons_succ]
    refine lexK_read (v := .pointer (some ⟨p, 10, none⟩)) rfl rfl (fun wz hSz => by obtain ⟨s1, s2, s3⟩ := hSz; go_simp) hS (fun _ _ _ h => h) ?_
    simp only [Act.put, List.setIfInBounds_toArray, List.set_cons_zero, List.set_cons_succ]
    refine lexK_read (v := .int .i64 s.now) rfl rfl (fun wz hSz => by obtain ⟨s1, s2, s3⟩ := hSz; go_simp) hS (fun _ _ _ h => h) ?_
    simp only [Act.put, List.setIfInBounds_toArray, List.set_cons_zero, List.set_cons_succ]
    refine lexK_read (v := .agg #[.int .i64 (s.numbers + 1), .int .i64 x.number, .int .i64 s.now]) rfl rfl (fun wz hSz => by obtain ⟨s1, s2, s3⟩ := hSz; go_simp) hS (fun _ _ _ h => h) ?_
    simp only [Act.put, List.setIfInBounds_toArray, List.set_cons_zero, List.set_cons_succ]
    refine lexK_turn rfl rfl rfl ?_
    go_simp
    refine lexK_turn rfl rfl rfl ?_
    refine wp_append_lies _ _ _ _ (by rfl) 0 154 i0 _ 3 24 Tryz.underlying117 hi0 z0 z1 z2 rfl (by omega) V.a s.atts.length (s.atts.flatMap encAtt) (by rfl) ((World.ownsRow.alloc ra _).drew) ⟨W.heap.size, 0, none⟩ 1 1 (encAtt ⟨s.numbers + 1, x.number, s.now⟩) (by rfl) (by rfl) (World.news_of_block (cs := (encAtt ⟨s.numbers + 1, x.number, s.now⟩).toArray) (t := 154) (fr := (0, 0)) (block_one W _)) (by simp [Value.oneCell', encAtt]) (by omega) (by simp only [maxLen]; omega) (by omega) (by omega) (W.heap.size + 1) (by simp) ?_
    intro g1 cap1 w1 hown hgrow hat hlt
    have far : ∀ j u, W.cell? ⟨p, j, none⟩ = some u → w1.cell? ⟨p, j, none⟩ = some u := fun j u hu => by
      rw [hgrow.cell_far ⟨p, j, none⟩ (by simp; omega) hv]
      exact (World.cell?_alloc_lt _ _ ⟨p, j, none⟩ lW).trans hu
    have cz := far 12 _ ka
    have cB := far 13 _ kB
    have cN := far 10 _ kN
    have fz : w1.frozen? ⟨p, 12, none⟩ = false := by
      rw [hgrow.frozen_far _ (by simp; omega) hv]
      exact (World.frozen?_alloc_old _ _ _ (by simp; omega)).trans fa
    have FAR := hide far
    clear far
    refine ⟨.inr ⟨cz, cB, cN⟩, ?_⟩
    simp only [Act.put, List.setIfInBounds_toArray, List.set_cons_zero, List.set_cons_succ]
    refine lexK_turn rfl rfl rfl ?_
    go_simp
    refine lexK_turn rfl rfl rfl ?_
    go_simp
    refine lexK_turn rfl rfl rfl ?_
    go_simp
    refine lexK_end ?_
    go_wp2_with fail
    go_meet
    case rel =>
      obtain ⟨V', r, m⟩ := MID.rep.push_a (x := ⟨s.numbers + 1, x.number, s.now⟩) ((Below.refl _ _).alloc (Nat.le_refl _) _).drew hown hgrow (hat.imp id (fun h => by omega)) cz
      exact ⟨V', MID.step r m⟩
  case rest =>
    obtain ⟨V1, M1⟩ := hcut
    clear MID z0 z1 z2 hi0
    have kB : wc.cell? ⟨p, 13, none⟩ = some (.int .i64 (s.numbers + 1)) := M1.rep.kB
    have kN : wc.cell? ⟨p, 10, none⟩ = some (.int .i64 s.now) := M1.rep.kN
    have kD : wc.cell? ⟨B, 1, none⟩ = some (.int .i64 x.deadline) := M1.at_.c1
    have R1 := M1.rep.on (below_drew wc)
    have HA := hide (rep_act R1 l3 ⟨1, x.number, s.numbers + 1, 0, 0, x.deadline - s.now⟩)
    go_wp2_with fail
    go_cut [] (fun wx => ∃ V', Mid p V w' (launch1 s i x) V' B x wx)
    case first =>
      have hS : wc.drew.cell? ⟨p, 13, none⟩ = some (.int .i64 (s.numbers + 1)) ∧ wc.drew.cell? ⟨p, 10, none⟩ = some (.int .i64 s.now) ∧ wc.drew.cell? ⟨B, 1, none⟩ = some (.int .i64 x.deadline) := ⟨by simpa using kB, by simpa using kN, by simpa using kD⟩
      refine wp_region_lexK (fun w' => w'.cell? ⟨p, 13, none⟩ = some (.int .i64 (s.numbers + 1)) ∧ w'.cell? ⟨p, 10, none⟩ = some (.int .i64 s.now) ∧ w'.cell? ⟨B, 1, none⟩ = some (.int .i64 x.deadline)) 14 (fun i => decide (i < 14)) (by kernel_rfl) (by kernel_rfl) (by kernel_rfl) ?_
      refine lexK_read (v := .pointer (some ⟨p, 0, none⟩)) rfl rfl (fun wz hSz => by obtain ⟨s1, s2, s3⟩ := hSz; go_simp) hS (fun _ _ _ h => h) ?_
      simp only [Act.put, List.setIfInBounds_toArray, List.set_cons_zero, List.set_cons_succ]
      refine lexK_read (v := .int .i64 x.number) rfl rfl (fun wz hSz => by obtain ⟨s1, s2, s3⟩ := hSz; go_simp) hS (fun _ _ _ h => h) ?_
      simp only [Act.put, List.setIfInBounds_toArray, List.set_cons_zero, List.set_cons_succ]
      refine lexK_read (v := .pointer (some ⟨p, 0, none⟩)) rfl rfl (fun wz hSz => by obtain ⟨s1, s2, s3⟩ := hSz; go_simp) hS (fun _ _ _ h => h) ?_
      simp only [Act.put, List.setIfInBounds_toArray, List.set_cons_zero, List.set_cons_succ]
      refine lexK_read (v := .pointer (some ⟨p, 0, none⟩)) rfl rfl (fun wz hSz => by obtain ⟨s1, s2, s3⟩ := hSz; go_simp) hS (fun _ _ _ h => h) ?_
      simp only [Act.put, List.setIfInBounds_toArray, List.set_cons_zero, List.set_cons_succ]
      refine lexK_read (v := .pointer (some ⟨p, 13, none⟩)) rfl rfl (fun wz hSz => by obtain ⟨s1, s2, s3⟩ := hSz; go_simp) hS (fun _ _ _ h => h) ?_
      simp only [Act.put, List.setIfInBounds_toArray, List.set_cons_zero, List.set_cons_succ]
      refine lexK_read (v := .int .i64 (s.numbers + 1)) rfl rfl (fun wz hSz => by obtain ⟨s1, s2, s3⟩ := hSz; go_simp) hS (fun _ _ _ h => h) ?_
      simp only [Act.put, List.setIfInBounds_toArray, List.set_cons_zero, List.set_cons_succ]
      refine lexK_read (v := .pointer (some ⟨B, 1, none⟩)) rfl rfl (fun wz hSz => by obtain ⟨s1, s2, s3⟩ := hSz; go_simp) hS (fun _ _ _ h => h) ?_
      simp only [Act.put, List.setIfInBounds_toArray, List.set_cons_zero, List.set_cons_succ]
      refine lexK_read (v := .int .i64 x.deadline) rfl rfl (fun wz hSz => by obtain ⟨s1, s2, s3⟩ := hSz; go_simp) hS (fun _ _ _ h => h) ?_
      simp only [Act.put, List.setIfInBounds_toArray, List.set_cons_zero, List.set_cons_succ]
      refine lexK_read (v := .pointer (some ⟨p, 0, none⟩)) rfl rfl (fun wz hSz => by obtain ⟨s1, s2, s3⟩ := hSz; go_simp) hS (fun _ _ _ h => h) ?_
      simp only [Act.put, List.setIfInBounds_toArray, List.set_cons_zero, List.set_cons_succ]
      refine lexK_read (v := .pointer (some ⟨p, 0, none⟩)) rfl rfl (fun wz hSz => by obtain ⟨s1, s2, s3⟩ := hSz; go_simp) hS (fun _ _ _ h => h) ?_
      simp only [Act.put, List.setIfInBounds_toArray, List.set_cons_zero, List.set_cons_succ]
      refine lexK_read (v := .pointer (some ⟨p, 10, none⟩)) rfl rfl (fun wz hSz => by obtain ⟨s1, s2, s3⟩ := hSz; go_simp) hS (fun _ _ _ h => h) ?_
      simp only [Act.put, List.setIfInBounds_toArray, List.set_cons_zero, List.set_cons_succ]
      refine lexK_read (v := .int .i64 s.now) rfl rfl (fun wz hSz => by obtain ⟨s1, s2, s3⟩ := hSz; go_simp) hS (fun _ _ _ h => h) ?_
      simp only [Act.put, List.setIfInBounds_toArray, List.set_cons_zero, List.set_cons_succ]
      refine lexK_read (v := .int .i64 (x.deadline - s.now)) rfl rfl (fun wz hSz => by obtain ⟨s1, s2, s3⟩ := hSz; go_simp; exact wrap_small _ (by omega) (by omega)) hS (fun _ _ _ h => h) ?_
      simp only [Act.put, List.setIfInBounds_toArray, List.set_cons_zero, List.set_cons_succ]
      refine lexK_read (v := .agg #[.int .i64 1, .int .i64 x.number, .int .i64 (s.numbers + 1), .int .i64 0, .int .i64 0, .int .i64 (x.deadline - s.now)]) rfl rfl (fun wz hSz => by obtain ⟨s1, s2, s3⟩ := hSz; go_simp) hS (fun _ _ _ h => h) ?_
      simp only [Act.put, List.setIfInBounds_toArray, List.set_cons_zero, List.set_cons_succ]
      refine lexK_turn rfl rfl rfl ?_
      go_simp
      refine HA.out.mono ?_
      rintro e w2 ⟨rfl, V2, r2, m2⟩
      rename_i J K2 hJ hK
      refine hK _ _ ?_
      go_meet
      case rel => exact ⟨V2, (M1.step R1 (Mv.of_below (below_drew wc))).step r2 m2⟩
    case rest =>
      obtain ⟨V3, M3⟩ := hcut
      clear M1 R1 HA kB kN kD
      have c4 : wc.cell? ⟨B, 4, none⟩ = some (.bool x.safe) := M3.at_.c4
      have c2 : wc.cell? ⟨B, 2, none⟩ = some (.int .i64 x.had) := M3.at_.c2
      have k4 : wc.cell? ⟨p, 4, none⟩ = some (.int .i64 s.cfg.attempts) := M3.rep.k4
      have k9 : wc.cell? ⟨p, 9, none⟩ = some (.int .i64 s.cfg.samples) := M3.rep.k9
      obtain ⟨A9, cap9, hV9, _, _⟩ := M3.rep.rm.form
      have km : wc.cell? ⟨p, 16, none⟩ = some (.slice A9 s.times.length cap9) := by rw [← show V3.m = .slice A9 s.times.length cap9 from hV9]; exact M3.rep.km
      clear hV9
      have fin : ∀ nq, Now p V w' (launch1 s i x) (wc.drewN nq) := fun nq => ⟨V3, M3.rep.on (below_drewN _ _), M3.mv.trans (Mv.of_below (below_drewN _ _))⟩
      have FIN := hide fin
      clear fin
      have tl' : (s.times.length : Int) ≤ 32 := by omega
      by_cases hmay : mayR (launch1 s i x) x = true
      · have HLR : Hid (launchR s i x = if s.now + delayR s.times s.cfg.rank < x.deadline then { launch1 s i x with timers := s.timers ++ [⟨x.number, 1, s.now + delayR s.times s.cfg.rank⟩] } else launch1 s i x) := by
          show _ = _
          unfold launchR hedgeR
          by_cases c : s.now + delayR s.times s.cfg.rank < x.deadline
          · rw [if_pos ⟨hmay, c⟩, if_pos c]
            rfl
          · rw [if_neg (fun hh => c hh.2), if_neg c]
        unfold mayR at hmay
        simp only [Bool.and_eq_true, decide_eq_true_eq] at hmay
        obtain ⟨q1, q2, q3, q4⟩ := hmay
        have q2' : x.had + 1 < s.cfg.attempts := q2
        have q3' : 0 < s.cfg.samples := q3
        have q4' : s.cfg.samples ≤ (s.times.length : Int) := q4
        rw [q1] at c4
        clear q1 q2 q3 q4 FIN
        have d2 : decide (x.had + 1 < s.cfg.attempts) = true := decide_eq_true q2'
        have d3 : decide (0 < s.cfg.samples) = true := decide_eq_true q3'
        have d4 : decide (s.cfg.samples ≤ (s.times.length : Int)) = true := decide_eq_true q4'
        go_wp2_with fail
        go_quiet (fail)
        obtain ⟨wq, hwq⟩ : ∃ wq, wq = wc.drewN nq := ⟨_, rfl⟩
        rw [← hwq]
        have M4 : Mid p V w' (launch1 s i x) V3 B x wq := by
          rw [hwq]
          exact M3.step (M3.rep.on (below_drewN _ _)) (Mv.of_below (below_drewN _ _))
        clear hwq M3 c4 c2 k4 k9 km
        obtain ⟨dl, hdl⟩ : ∃ dl, dl = delayR s.times s.cfg.rank := ⟨_, rfl⟩
        rw [← hdl] at HLR HTB
        obtain ⟨dl0, dl1⟩ := HTB.out
        have HDL : Hid (∀ wz, Below wq.heap.size wq wz → Calls Tryz.prog 133 #[.pointer (some ⟨p, 0, none⟩)] wz fun e w' => e = .returned (.int .i64 dl) ∧ Below wz.heap.size wz w') := fun wz hb => by
          rw [hdl]
          exact rdelay_any p (launch1 s i x) V3 wz (M4.rep.on hb) tl r0 r1
        clear hdl
        have kN : wq.cell? ⟨p, 10, none⟩ = some (.int .i64 s.now) := M4.rep.kN
        have lpq := M4.rep.lp
        have HM4 : Hid (∀ wz, Below wq.heap.size wq wz → Mid p V w' (launch1 s i x) V3 B x wz) := fun wz hb => M4.step (M4.rep.on hb) (Mv.of_below hb)
        clear M4
        go_wp2_with fail
        go_cut [6] (fun v6 wx => v6 = .int .i64 (s.now + dl) ∧ Mid p V w' (launch1 s i x) V3 B x wx)
        case first =>
          have hwr : IntKind.i64.wrap (s.now + dl) = s.now + dl := wrap_small _ (by omega) (by omega)
          go_region_with (first
            | (go_at_call 133; refine (HDL.out _ (by first | exact (Below.refl _ _).drew | exact Below.refl _ _)).mono ?_; rintro e w3 ⟨rfl, hb3⟩; have kN3 : w3.cell? ⟨p, 10, none⟩ = some (.int .i64 s.now) := (hb3.cell lpq).trans kN; have HG : Hid (Mid p V w' (launch1 s i x) V3 B x w3) := HM4.out w3 (Below.trans (by first | exact (Below.refl _ _).drew | exact Below.refl _ _) hb3); clear hb3))
          all_goals
            go_wp2_with fail
            go_meet
            case rel => exact ⟨rfl, HG.out⟩
        case rest =>
          obtain ⟨rfl, M5⟩ := hcut
          clear HM4 HDL kN
          have c1 : wc.cell? ⟨B, 1, none⟩ = some (.int .i64 x.deadline) := M5.at_.c1
          by_cases c9 : s.now + dl < x.deadline
          · have HLR2 : Hid (launchR s i x = { launch1 s i x with timers := s.timers ++ [⟨x.number, 1, s.now + dl⟩] }) := by show _ = _; rw [HLR.out, if_pos c9]
            clear HLR
            have kt : wc.cell? ⟨p, 14, none⟩ = some V3.t := M5.rep.kt
            have ft := M5.rep.fz 14 (by omega)
            have hrt : Row wc 0 188 3 encTimer V3.t s.timers := M5.rep.rt
            have lpx := M5.rep.lp
            have hvp : some p ≠ V3.t.ownBlock := fun e => M5.rep.ap 3 0 (by decide) p e.symm rfl
            obtain ⟨i3, hi3, z0, z1, z2⟩ := info_parts Tryz.infoTimer
            have HRT := hide hrt
            have HM5 := hide M5
            clear hrt M5
            go_wp2_with (first
              | (at_builtin
                 refine wpList_append_lies _ (by rfl) _ _ _ (by rfl) 0 188 i3 _ 3 24 Tryz.underlying118 hi3 z0 z1 z2 rfl (by omega) V3.t s.timers.length (s.timers.flatMap encTimer) (by rfl) (World.ownsRow.alloc HRT.out _) ⟨wc.heap.size, 0, none⟩ 1 1 (encTimer (⟨x.number, 1, s.now + dl⟩ : RTimer)) (by rfl) (by rfl) (World.news_of_block (cs := (encTimer (⟨x.number, 1, s.now + dl⟩ : RTimer)).toArray) (t := 188) (fr := (0, 0)) (block_one wc _)) (by simp [Value.oneCell', encTimer]) (by omega) (by simp only [maxLen]; omega) (by omega) (by omega) (wc.heap.size + 1) (by simp) ?_
                 intro g1 cap1 w1 hown hgrow hat hlt
                 have cz : w1.cell? ⟨p, 14, none⟩ = some V3.t := by
                   rw [hgrow.cell_far ⟨p, 14, none⟩ (by simp; omega) hvp]
                   exact (World.cell?_alloc_lt _ _ ⟨p, 14, none⟩ lpx).trans kt
                 have fz : w1.frozen? ⟨p, 14, none⟩ = false := by
                   rw [hgrow.frozen_far _ (by simp; omega) hvp]
                   exact (World.frozen?_alloc_old _ _ _ (by simp; omega)).trans ft
                 have HNW : Hid (Now p V w' { launch1 s i x with timers := s.timers ++ [⟨x.number, 1, s.now + dl⟩] } (w1.setCell ⟨p, 14, none⟩ (.slice (some ⟨g1, 0, none⟩) (s.timers.length + 1) cap1))) := by
                   obtain ⟨V', r, m⟩ := HM5.out.rep.push_t (x := (⟨x.number, 1, s.now + dl⟩ : RTimer)) ((Below.refl _ _).alloc (Nat.le_refl _) _) hown hgrow (hat.imp id (fun h => by omega)) cz
                   exact ⟨V', r, HM5.out.mv.trans m⟩
                 clear hown hgrow hat hlt))
            go_end0
            exact ⟨rfl, by rw [HLR2.out]; exact HNW.out⟩
          · have HLR2 : Hid (launchR s i x = launch1 s i x) := by show _ = _; rw [HLR.out, if_neg c9]
            have d9 : decide (s.now + dl < x.deadline) = false := decide_eq_false c9
            have HNW := hide (show Now p V w' (launch1 s i x) wc from ⟨V3, M5.rep, M5.mv⟩)
            clear HLR M5
            go_wp2_with fail
            go_end0
            exact ⟨rfl, by rw [HLR2.out]; exact HNW.out⟩
      · have HLR : Hid (launchR s i x = launch1 s i x) := by
          show _ = _
          unfold launchR hedgeR
          rw [if_neg (fun hh => hmay hh.1)]
        unfold mayR at hmay
        simp only [Bool.and_eq_true, decide_eq_true_eq] at hmay
        have hmay' : ¬ (x.safe = true ∧ x.had + 1 < s.cfg.attempts ∧ 0 < s.cfg.samples ∧ s.cfg.samples ≤ (s.times.length : Int)) := hmay
        clear hmay
        cases hsf : x.safe with
        | false =>
          rw [hsf] at c4
          clear hsf hmay'
          go_wp2_with fail
          go_quiet (fail)
          go_wp2_with fail
          go_end0
          exact ⟨rfl, by rw [HLR.out]; exact FIN.out _⟩
        | true =>
          rw [hsf] at c4
          by_cases ha : x.had + 1 < s.cfg.attempts
          · by_cases hb : 0 < s.cfg.samples
            · have hc : ¬ s.cfg.samples ≤ (s.times.length : Int) := fun hc => hmay' ⟨hsf, ha, hb, hc⟩
              have ha' : decide (x.had + 1 < s.cfg.attempts) = true := decide_eq_true ha
              have hb' : decide (0 < s.cfg.samples) = true := decide_eq_true hb
              have hc' : decide (s.cfg.samples ≤ (s.times.length : Int)) = false := decide_eq_false hc
              clear hsf hmay'
              go_wp2_with fail
              go_quiet (fail)
              go_wp2_with fail
              go_end0
              exact ⟨rfl, by rw [HLR.out]; exact FIN.out _⟩
            · have ha' : decide (x.had + 1 < s.cfg.attempts) = true := decide_eq_true ha
              have hb' : decide (0 < s.cfg.samples) = false := decide_eq_false hb
              clear hsf hmay'
              go_wp2_with fail
              go_quiet (fail)
              go_wp2_with fail
              go_end0
              exact ⟨rfl, by rw [HLR.out]; exact FIN.out _⟩
          · have ha' : decide (x.had + 1 < s.cfg.attempts) = false := by simpa using ha
            clear hsf hmay'
            go_wp2_with fail
            go_quiet (fail)
            go_wp2_with fail
            go_end0
            exact ⟨rfl, by rw [HLR.out]; exact FIN.out _⟩
end Go.Proofs.YtlccfpbbdgpjbaaGreatDoor
