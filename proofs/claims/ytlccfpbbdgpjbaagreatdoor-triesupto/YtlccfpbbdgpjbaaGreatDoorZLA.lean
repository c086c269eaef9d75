import Derived.Test.YtlccfpbbdgpjbaaGreatDoorZStep
import Derived.Test.YtlccfpbbdgpjbaaGreatDoorZAdv
import Derived.Test.YtlccfpbbdgpjbaaGreatDoorRMem
namespace Go.Proofs.YtlccfpbbdgpjbaaGreatDoor
open Go.RowKit

/-- No call came to be, and no timer was taken back. -/
def Sub (s s' : PSt) : Prop := (s.calls = [] → s'.calls = []) ∧ s.set ≤ s'.set ∧ s'.stale = s.stale
theorem Sub.refl (s : PSt) : Sub s s := ⟨id, Int.le_refl _, rfl⟩
theorem Sub.trans {a b c : PSt} (h : Sub a b) (k : Sub b c) : Sub a c := ⟨fun e => k.1 (h.1 e), Int.le_trans h.2.1 k.2.1, k.2.2.trans h.2.2⟩
theorem Sub.sp {a b : PSt} (h : Sub a b) (hs : SP a) : SP b := by
  rcases hs with e | e
  · exact .inl (h.1 e)
  · exact .inr (Int.lt_of_lt_of_le e h.2.1)
theorem sub_finish (s : PSt) (n : Int) : Sub s (finishM s n) := ⟨fun e => by show List.filter _ s.calls = []; rw [e]; rfl, Int.le_refl _, rfl⟩
theorem sub_hedge (s : PSt) (c : PCall) : Sub s (setHedgeM s c) := by
  unfold setHedgeM
  split
  · exact ⟨id, by show s.set ≤ s.set + 1; omega, rfl⟩
  · exact Sub.refl s
theorem sub_upd (s : PSt) (n : Int) (f : PCall → PCall) : Sub s { s with calls := updCall n f s.calls } := ⟨fun e => by show updCall n f s.calls = []; rw [e]; rfl, Int.le_refl _, rfl⟩
theorem sub_launch (s : PSt) (c : PCall) : Sub s (launchM s c) :=
  Sub.trans (b := launch0 s c) ⟨fun e => by show updCall _ _ s.calls = []; rw [e]; rfl, Int.le_refl _, rfl⟩ (sub_hedge _ _)
theorem sub_wait (s : PSt) (c : PCall) (d : Int) : Sub s (waitM s c d) := by
  have h0 : Sub s (noHedge s c.number) := ⟨id, Int.le_refl _, rfl⟩
  unfold waitM
  split
  · exact h0.trans (sub_finish _ _)
  · refine h0.trans ⟨fun e => ?_, ?_, rfl⟩
    · show updCall _ _ (noHedge s c.number).calls = []
      rw [e]
      rfl
    · show (noHedge s c.number).set ≤ (noHedge s c.number).set + 1
      omega
theorem sub_answer1 (s : PSt) (e : PEv) (a : PAtt) (c : PCall) : Sub s (answerM1 s e a c) := by
  have h0 : Sub s (closeM s e.attempt) := ⟨id, Int.le_refl _, rfl⟩
  have h1 : Sub s (addM (closeM s e.attempt) (s.now - a.launched)) := ⟨id, Int.le_refl _, rfl⟩
  unfold answerM1
  split
  · exact h1.trans (sub_finish _ _)
  · split
    · exact h0.trans (sub_finish _ _)
    · split
      · exact h0
      · exact h0.trans (sub_wait _ _ _)
theorem sub_ring (s : PSt) (t : PTimer) : Sub s (ringM s t) := by
  have h0 : Sub s (takeM s) := ⟨id, Int.le_refl _, rfl⟩
  unfold ringM
  split
  · exact Sub.refl s
  · unfold ringM1
    split
    · exact sub_finish _ _
    · split
      · exact h0.trans (sub_launch _ _)
      · split
        · exact h0
        · exact h0.trans (sub_finish _ _)
theorem sub_adv (til : Int) : ∀ (f : Nat) (s : PSt), Sub s (advF til f s).1 := by
  intro f
  induction f with
  | zero => intro s; exact ⟨id, Int.le_refl _, rfl⟩
  | succ f ih =>
    intro s
    unfold advF
    split
    · exact ⟨id, Int.le_refl _, rfl⟩
    · split
      · exact ⟨id, Int.le_refl _, rfl⟩
      · rename_i t _ _
        have h0 : Sub s (dueM s t) := ⟨id, Int.le_refl _, rfl⟩
        exact (h0.trans (sub_ring _ _)).trans (ih _)

/-- SP stays, and one more at most is stale. -/
theorem sp_step {N : Int} {s : PSt} (hI : Inv N s) (hs : SP s) (e : PEv) : SP (stepM s e) ∧ (stepM s e).stale ≤ s.stale + 1 := by
  have hst : SP (staleM s) ∧ (staleM s).stale ≤ s.stale + 1 := ⟨hs, Int.le_refl _⟩
  have hsub : ∀ {s' : PSt}, Sub s s' → SP s' ∧ s'.stale ≤ s.stale + 1 := fun h => ⟨h.sp hs, by rw [h.2.2]; omega⟩
  unfold stepM
  split
  · unfold submitM
    split
    · have h1 := sub_launch (admit0 s e) (newCall s e)
      have h2 := hI.s0
      have h3 : (admit0 s e).set = s.set + 1 := rfl
      have h4 : (admit0 s e).stale = s.stale := rfl
      have h5 := h1.2.1
      have h6 := h1.2.2
      refine ⟨.inr ?_, ?_⟩
      · show 0 < (launchM (admit0 s e) (newCall s e)).set
        omega
      · show (launchM (admit0 s e) (newCall s e)).stale ≤ _
        omega
    · exact hsub (Sub.refl s)
  · split
    · unfold answerM
      split
      · exact hst
      · split
        · exact hsub (Sub.refl s)
        · exact hsub (sub_answer1 _ _ _ _)
    · split
      · unfold cancelM
        split
        · exact hsub (sub_finish _ _)
        · exact hst
      · split
        · unfold advM
          split
          · exact hst
          · exact hsub (sub_adv _ _ _)
        · exact hst

theorem finishA_len (s : PSt) (n o v : Int) : (finishA s n o v).length ≤ s.atts.length + 1 := by
  unfold finishA
  rw [List.length_cons, List.length_map, List.length_mergeSort, List.length_map]
  have := List.length_filter_le (fun a : Int × PAtt => a.2.call == n) s.atts
  omega
theorem advF_len {N : Int} (hN : N ≤ 60000) (til : Int) : ∀ (f : Nat) (s : PSt), Inv N s → ((advF til f s).2.length : Int) ≤ f * 1200000 := by
  intro f
  induction f with
  | zero => intro s _; simp [advF]
  | succ f ih =>
    intro s hI
    unfold advF
    cases ht : firstT s.timers with
    | none => simp; omega
    | some t =>
      dsimp only
      split
      · simp; omega
      · have h1 := ih _ (inv_ring hI ht)
        have h2 := ringA_len (dueM s t) t
        have h3 : ((dueM s t).atts.length : Int) ≤ 13 * N := hI.aN
        rw [List.length_append]
        push_cast at h1 ⊢
        omega
theorem stepA_len {N : Int} {s : PSt} (hI : Inv N s) (hN : N ≤ 60000) (e : PEv) : ((stepA s e).length : Int) ≤ 1440000000000 := by
  have haN : (s.atts.length : Int) ≤ 13 * N := hI.aN
  have hfin : ∀ (s' : PSt) (n o v : Int), s'.atts.length ≤ s.atts.length → ((finishA s' n o v).length : Int) ≤ 1440000000000 := fun s' n o v h => by
    have := finishA_len s' n o v
    omega
  have hcl : ∀ n, (closeM s n).atts.length ≤ s.atts.length := fun n => List.length_filter_le _ _
  unfold stepA
  split
  · unfold submitA
    split
    · simp [admitA, launchA]
    · simp
  · split
    · unfold answerA
      split
      · simp
      · split
        · simp
        · unfold answerA1
          split
          · exact hfin _ _ _ _ (hcl _)
          · split
            · exact hfin _ _ _ _ (hcl _)
            · split
              · simp
              · unfold waitA
                split
                · exact hfin _ _ _ _ (hcl _)
                · simp
    · split
      · unfold cancelA
        split
        · exact hfin _ _ _ _ (Nat.le_refl _)
        · simp
      · split
        · unfold advA
          split
          · simp
          · have h1 := advF_len hN e.to_ (turns s).toNat s hI
            have hTT : turns s ≤ 1200000 := by
              have h9 := hI.tN
              have h8 := hI.p1
              have h7 := hI.l0
              unfold turns
              omega
            have : ((turns s).toNat : Int) ≤ 1200000 := by omega
            omega
        · simp
end Go.Proofs.YtlccfpbbdgpjbaaGreatDoor

namespace Go.Proofs.YtlccfpbbdgpjbaaGreatDoor
open Go.RowKit

section
variable {P : Program} (w : World)

/-- What an append onto a list of one's own leaves of that list. -/
theorem run_append_two (t ty : TypeId) (base : Nat) (e : TypeId) (i : TypeInfo) (z : Value) (size bytes : Nat) (ht : P.underlying t = some (.slice e)) (hi : P.info? e = some i) (hz : i.zero = some z)
    (hsize : i.size = size) (hby : i.bytes = bytes) (hzs : z.cells.size = size) (hsz : 0 < size)
    (v : Value) (n : Nat) (xs : List Value) (hown : w.ownsRow base e size v n xs)
    (ad : Addr) (m c : Nat) (news : List Value) (hl : news.length = m * size) (hnews : ∀ j u, news[j]? = some u → w.cell? (ad.add j) = some u) (h1 : ∀ u ∈ news, u.oneCell' = true)
    (hm : 0 < m) (h63 : n + m ≤ maxLen) (hbytes : (n + m) * bytes ≤ 140737488355328) (hbase : base ≤ w.heap.size) (H : Nat) (hH : w.heap.size = H) :
    ∃ g cap w', (Builtin.append_ #[t, t] ty #[v, .slice (some ad) m c]).run P w = .ok (.slice (some ⟨g, 0, none⟩) (n + m) cap) w' ∧
      w'.ownsRow base e size (.slice (some ⟨g, 0, none⟩) (n + m) cap) (n + m) (xs ++ news) ∧ w.grownBy w' v.ownBlock ∧ (v.ownBlock = some g ∨ g = H ∧ w.grownBy w' none) ∧ g < w'.heap.size ∧ w'.ownsRow base e size v n xs := by
  obtain ⟨g, cap, w', hr, h2, h3, h4, h5⟩ := run_append_lies (P := P) w t ty base e i z size bytes ht hi hz hsize hby hzs hsz v n xs hown ad m c news hl hnews h1 hm h63 hbytes hbase H hH
  refine ⟨g, cap, w', hr, h2, h3, ?_⟩
  suffices hs : (v.ownBlock = some g ∨ g = H ∧ w.grownBy w' none) ∧ w'.ownsRow base e size v n xs from ⟨hs.1, h5, hs.2⟩
  subst hsize
  subst hby
  rcases hown.2 with ⟨rfl, rfl⟩ | ⟨g0, cap0, cur, rfl, hbg, hg, hnc, hcm, hcs, htake⟩
  · have hx : xs = [] := List.eq_nil_of_length_eq_zero (by simpa using hown.1)
    subst hx
    exact ⟨.inr ⟨h4.resolve_left (by simp [Value.ownBlock]), h3⟩, World.ownsRow_nil w' base e _⟩
  · by_cases hroom : n + m ≤ cap0
    · have hfit : n * i.size + news.length ≤ cur.size := by rw [hl, hcs, ← Nat.add_mul]; exact Nat.mul_le_mul_right _ hroom
      have hr' := run_append_room (P := P) w t ty e i ht hi g0 n cap0 cur hg ad m c news hl hnews h1 hroom hfit
      rw [hr] at hr'
      injection hr' with e1 e2
      injection e1 with e3 _ e4
      injection e3 with e5
      injection e5 with e6
      subst e6
      subst e4
      rcases h2.2 with ⟨h, _⟩ | ⟨g1, cap1, cur1, hv, hbg1, hg1, hnc1, hcm1, hcs1, htake1⟩
      · cases h
      · injection hv with e7 _ e8
        injection e7 with e9
        injection e9 with e10
        subst e10
        subst e8
        refine ⟨.inl rfl, hown.1, .inr ⟨g, cap, cur1, rfl, hbg, hg1, hnc, hcm, hcs1, ?_⟩⟩
        have := congrArg (List.take (n * i.size)) htake1
        rw [List.take_take, Nat.min_eq_left (Nat.mul_le_mul_right _ (by omega)), List.take_append_of_le_length (by rw [hown.1]; exact Nat.le_refl _), List.take_of_length_le (l := xs) (by rw [hown.1]; exact Nat.le_refl _)] at this
        exact this
    · have holds : ∀ j u, xs[j]? = some u → w.cell? ((⟨g0, 0, none⟩ : Addr).add j) = some u := hown.cells (g := g0) rfl
      have hsmall : n + m ≤ 9223372036854775807 := by simp only [maxLen] at h63; omega
      have hr' := run_append_grow (P := P) w t ty e i z ht hi hz ⟨g0, 0, none⟩ n cap0 xs hown.1 holds ad m c news hl hnews (by omega) (by omega) (growslice_fits (by omega) hbytes)
      rw [hr] at hr'
      injection hr' with e1 e2
      injection e1 with e3 _ e4
      injection e3 with e5
      injection e5 with e6
      subst e2
      have hgr : w.grownBy (w.drew.alloc (.cells (xs.toArray ++ news.toArray ++ Builtin.zeroCells z.cells (grownCap w (n + m) cap0 e - (n + m))) e)) none := ⟨rfl, rfl, rfl, by simp, fun k hk _ => heap_alloc_old w.drew _ hk⟩
      exact ⟨.inr ⟨e6.trans hH, hgr⟩, World.ownsRow.kept (row := none) hown hgr (.inr (by simp [Value.ownBlock]))⟩

/-- At the operation. -/
theorem wp_append_two {o : Oper} {a : Act} {K : Act → World → Prop} {Q : Exit → Act → World → Prop} (s x : Operand) (t : TypeId)
    (ho : o.op = .call { callee := .builtin .append, args := #[s, x], argTypes := #[t, t] })
    (base : Nat) (e : TypeId) (i : TypeInfo) (z : Value) (size bytes : Nat) (ht : P.underlying t = some (.slice e)) (hi : P.info? e = some i) (hz : i.zero = some z)
    (hsize : i.size = size) (hby : i.bytes = bytes) (hzs : z.cells.size = size) (hsz : 0 < size)
    (v : Value) (n : Nat) (xs : List Value) (hs : a.eval s = v) (hown : w.ownsRow base e size v n xs)
    (ad : Addr) (m c : Nat) (news : List Value) (hx : a.eval x = .slice (some ad) m c) (hl : news.length = m * size) (hnews : ∀ j u, news[j]? = some u → w.cell? (ad.add j) = some u) (h1 : ∀ u ∈ news, u.oneCell' = true)
    (hm : 0 < m) (h63 : n + m ≤ maxLen) (hbytes : (n + m) * bytes ≤ 140737488355328) (hbase : base ≤ w.heap.size) (H : Nat) (hH : w.heap.size = H)
    (h : ∀ g cap w', w'.ownsRow base e size (.slice (some ⟨g, 0, none⟩) (n + m) cap) (n + m) (xs ++ news) → w.grownBy w' v.ownBlock → (v.ownBlock = some g ∨ g = H ∧ w.grownBy w' none) → g < w'.heap.size → w'.ownsRow base e size v n xs → K (a.put o.dst (.slice (some ⟨g, 0, none⟩) (n + m) cap)) w') : o.wp P a w K Q := by
  obtain ⟨g, cap, w', hr, h2, h3, h4, h5, h6⟩ := run_append_two (P := P) w t o.type base e i z size bytes ht hi hz hsize hby hzs hsz v n xs hown ad m c news hl hnews h1 hm h63 hbytes hbase H hH
  unfold Oper.wp execOp
  simp only [ho, resolve, invoke, builtin, Sem.run_bind, Sem.run_pure, Result.andThen_ok, List.map_toArray, List.map_cons, List.map_nil, hs, hx, hr]
  exact h g cap w' h2 h3 h4 h5 h6

/-- At the list of a region's operations. -/
theorem wpList_append_two {ops : Array Oper} {rest : List Oper} {o : Oper} {a : Act} {Q : Exit → Act → World → Prop} (hgd : o.guard = none) (s x : Operand) (t : TypeId)
    (ho : o.op = .call { callee := .builtin .append, args := #[s, x], argTypes := #[t, t] })
    (base : Nat) (e : TypeId) (i : TypeInfo) (z : Value) (size bytes : Nat) (ht : P.underlying t = some (.slice e)) (hi : P.info? e = some i) (hz : i.zero = some z)
    (hsize : i.size = size) (hby : i.bytes = bytes) (hzs : z.cells.size = size) (hsz : 0 < size)
    (v : Value) (n : Nat) (xs : List Value) (hs : a.eval s = v) (hown : w.ownsRow base e size v n xs)
    (ad : Addr) (m c : Nat) (news : List Value) (hx : a.eval x = .slice (some ad) m c) (hl : news.length = m * size) (hnews : ∀ j u, news[j]? = some u → w.cell? (ad.add j) = some u) (h1 : ∀ u ∈ news, u.oneCell' = true)
    (hm : 0 < m) (h63 : n + m ≤ maxLen) (hbytes : (n + m) * bytes ≤ 140737488355328) (hbase : base ≤ w.heap.size) (H : Nat) (hH : w.heap.size = H)
    (h : ∀ g cap w', w'.ownsRow base e size (.slice (some ⟨g, 0, none⟩) (n + m) cap) (n + m) (xs ++ news) → w.grownBy w' v.ownBlock → (v.ownBlock = some g ∨ g = H ∧ w.grownBy w' none) → g < w'.heap.size → w'.ownsRow base e size v n xs → wpList P ops Q rest (a.put o.dst (.slice (some ⟨g, 0, none⟩) (n + m) cap)) w') : wpList P ops Q (o :: rest) a w :=
  wpList_plain hgd fun _ hK => wp_append_two w s x t ho base e i z size bytes ht hi hz hsize hby hzs hsz v n xs hs hown ad m c news hx hl hnews h1 hm h63 hbytes hbase H hH fun g cap w' h2 h3 h4 h5 h6 => hK _ _ (h g cap w' h2 h3 h4 h5 h6)

/-- At a step of a region that draws. -/
theorem step_append_two {ops : Array Oper} {o : Oper} {a : Act} {K : Act → World → Prop} {Q : Exit → Act → World → Prop} {E : Prop} (hgd : o.guard = none) (s x : Operand) (t : TypeId)
    (ho : o.op = .call { callee := .builtin .append, args := #[s, x], argTypes := #[t, t] })
    (base : Nat) (e : TypeId) (i : TypeInfo) (z : Value) (size bytes : Nat) (ht : P.underlying t = some (.slice e)) (hi : P.info? e = some i) (hz : i.zero = some z)
    (hsize : i.size = size) (hby : i.bytes = bytes) (hzs : z.cells.size = size) (hsz : 0 < size)
    (v : Value) (n : Nat) (xs : List Value) (hs : a.eval s = v) (hown : w.ownsRow base e size v n xs)
    (ad : Addr) (m c : Nat) (news : List Value) (hx : a.eval x = .slice (some ad) m c) (hl : news.length = m * size) (hnews : ∀ j u, news[j]? = some u → w.cell? (ad.add j) = some u) (h1 : ∀ u ∈ news, u.oneCell' = true)
    (hm : 0 < m) (h63 : n + m ≤ maxLen) (hbytes : (n + m) * bytes ≤ 140737488355328) (hbase : base ≤ w.heap.size) (H : Nat) (hH : w.heap.size = H)
    (h : ∀ g cap w', w'.ownsRow base e size (.slice (some ⟨g, 0, none⟩) (n + m) cap) (n + m) (xs ++ news) → w.grownBy w' v.ownBlock → (v.ownBlock = some g ∨ g = H ∧ w.grownBy w' none) → g < w'.heap.size → w'.ownsRow base e size v n xs → K (a.put o.dst (.slice (some ⟨g, 0, none⟩) (n + m) cap)) w') :
    if Region.wanted o (yielded ops a.tmps) = true then Oper.wp P o a w K Q else E := by
  have hw : Region.wanted o (yielded ops a.tmps) = true := by simp [Region.wanted, hgd]
  rw [if_pos hw]
  exact wp_append_two w s x t ho base e i z size bytes ht hi hz hsize hby hzs hsz v n xs hs hown ad m c news hx hl hnews h1 hm h63 hbytes hbase H hH h
end
/-- A longer list, kept where the list that it came from is appended to once more. -/
theorem keeps_row {α : Type} {w w' : World} {e size : Nat} (hsz : 0 < size) {enc : α → List Value} (hm : ∀ x, (enc x).length = size) {x : α} {l a : Value} {n k m g cap : Nat} (hl : Row w 0 e size enc l (List.replicate n x)) (ha : Row w 0 e size enc a (List.replicate k x)) (hl' : Row w' 0 e size enc l (List.replicate n x))
    (hnew : Row w' 0 e size enc (.slice (some ⟨g, 0, none⟩) m cap) (List.replicate m x)) (hk : k ≤ m) (hgrow : w.grownBy w' l.ownBlock) (hat : l.ownBlock = some g ∨ w.grownBy w' none) : Row w' 0 e size enc a (List.replicate k x) := by
  rcases hat with h | h
  · by_cases ea : a.ownBlock = some g
    · rcases ha.2 with ⟨rfl, _⟩ | ⟨ga, capa, cura, rfl, hb, hga, hnc, hcm, hcs, ht⟩
      · simp [Value.ownBlock] at ea
      · obtain rfl : ga = g := by simpa [Value.ownBlock] using ea
        rcases hl.2 with ⟨rfl, _⟩ | ⟨gl, capl, curl, rfl, _, hgl, _, _, hcsl, _⟩
        · simp [Value.ownBlock] at h
        · obtain rfl : gl = ga := by simpa [Value.ownBlock] using h
          obtain rfl : cura = curl := by rw [hga] at hgl; injection hgl with h1; injection h1
          have hcap : capa = capl := Nat.eq_of_mul_eq_mul_right hsz (hcs.symm.trans hcsl)
          rcases hl'.2 with ⟨h1, _⟩ | ⟨gl', capl', curl', h1, _, hgl', _, _, hcsl', _⟩
          · cases h1
          · injection h1 with h2 _ h3
            injection h2 with h4
            injection h4 with h5
            subst h5
            subst h3
            rcases hnew.2 with ⟨h1, _⟩ | ⟨gn, capn, curn, h1, _, hgn, _, _, hcsn, htn⟩
            · cases h1
            · injection h1 with h2 _ h3
              injection h2 with h4
              injection h4 with h5
              subst h5
              obtain rfl : curl' = curn := by rw [hgl'] at hgn; injection hgn with h1; injection h1
              refine ⟨ha.1, .inr ⟨gl, capa, curl', rfl, Nat.zero_le _, hgl', hnc, hcm, by rw [hcap]; exact hcsl', ?_⟩⟩
              have hsp : List.replicate m x = List.replicate k x ++ List.replicate (m - k) x := by rw [List.replicate_append_replicate]; congr 1; omega
              have hlk : ((List.replicate k x).flatMap enc).length = k * size := by rw [flat_len enc size hm, List.length_replicate]
              have h6 := congrArg (List.take (k * size)) htn
              rw [List.take_take, List.length_replicate, Nat.min_eq_left (Nat.mul_le_mul_right _ hk), hsp, List.flatMap_append, List.take_append_of_le_length (by rw [hlk]; exact Nat.le_refl _), List.take_of_length_le (l := (List.replicate k x).flatMap enc) (by rw [hlk]; exact Nat.le_refl _)] at h6
              rw [List.length_replicate]
              exact h6
    · exact ha.kept hgrow (.inr (by rw [h]; exact ea))
  · exact ha.kept h (by cases a.ownBlock <;> simp)
end Go.Proofs.YtlccfpbbdgpjbaaGreatDoor
