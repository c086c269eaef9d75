import Derived.Test.YtlccfpbbdgpjbaaGreatDoorZHeap2
import Derived.Maps.OwnSet
import Derived.Maps.RangeWalk
import Derived.Test.YtlccfpbbdgpjbaaGreatDoorSort
import Derived.Lib.RowBridge
import Derived.Deep.RegionLaw
namespace Go.Proofs.YtlccfpbbdgpjbaaGreatDoor
open Go.RowKit Go.Maps

/-- A reader to which each value that may be is what it is. -/
def Rv (ok : Value → Bool) (v : Value) : Option (DataW Value × List MemPlace) := if ok v = true then some (.held v, []) else none
theorem Rv_mk {ok : Value → Bool} {v : Value} (h : ok v = true) : Rv ok v = some (.held v, []) := by simp [Rv, h]
theorem Rv_inv {ok : Value → Bool} {v : Value} {y : DataW Value × List MemPlace} (h : Rv ok v = some y) : ok v = true ∧ y = (.held v, []) := by
  unfold Rv at h
  split at h
  · exact ⟨by assumption, (Option.some.inj h).symm⟩
  · cases h

def mget (l : List (Int × Value)) (k : Int) : Option Value := (l.find? (fun p => p.1 == k)).map (·.2)

theorem mget_none {l : List (Int × Value)} {k : Int} (h : ∀ p ∈ l, p.1 ≠ k) : mget l k = none := by
  unfold mget
  rw [List.find?_eq_none.2]
  · rfl
  · intro p hp
    simpa using h p hp
theorem mget_append (l m : List (Int × Value)) (k : Int) : mget (l ++ m) k = (mget l k).or (mget m k) := by
  unfold mget
  rw [List.find?_append]
  cases l.find? (fun p => p.1 == k) <;> simp
theorem mget_filter_same (l : List (Int × Value)) (k : Int) : mget (l.filter (fun p => p.1 != k)) k = none :=
  mget_none fun p hp => by simpa using (List.mem_filter.1 hp).2
theorem mget_filter_other (l : List (Int × Value)) {k j : Int} (h : j ≠ k) : mget (l.filter (fun p => p.1 != k)) j = mget l j := by
  unfold mget
  rw [Maps.find_filter_keep]
  intro p hp
  have : p.1 = j := by simpa using hp
  simp [this, h]
theorem mget_isSome {l : List (Int × Value)} {k : Int} : (mget l k).isSome = true ↔ ∃ p ∈ l, p.1 = k := by
  unfold mget
  rw [Option.isSome_map, List.find?_isSome]
  simp

/-- What a map that reads as D has to do with the list l. -/
structure MView (D : DataW Value) (l : List (Int × Value)) : Prop where
  has : ∀ k, Maps.has D (.int .i64 k) = (mget l k).isSome
  at_ : ∀ k v z, mget l k = some v → D.atKey (.int .i64 k) z = .held v
  size : Maps.size D = l.length
  nodup : (l.map (·.1)).Nodup
  wf : ∀ p ∈ l, (Lit.int .i64 p.1).wf = true

theorem MView.empty : MView (.map []) [] := ⟨fun _ => rfl, fun k v z h => by simp [mget] at h, rfl, by simp, by simp⟩

theorem int_ne {j k : Int} (h : j ≠ k) : (Lit.int .i64 j) ≠ Lit.int .i64 k := fun e => h (by cases e; rfl)

theorem MView.put {D : DataW Value} {l : List (Int × Value)} (h : MView D l) (ht : Tidy D) (k : Int) (v : Value) (hk : (Lit.int .i64 k).wf = true) (hn : mget l k = none) : MView (D.put (.int .i64 k) (.held v)) (l ++ [(k, v)]) := by
  have hkl : WideAt.IsKeyLit (Lit.int .i64 k) := trivial
  have hno : ∀ p ∈ l, p.1 ≠ k := fun p hp e => by
    have := mget_isSome.2 ⟨p, hp, e⟩
    rw [hn] at this
    cases this
  refine ⟨fun j => ?_, fun j u z hj => ?_, ?_, ?_, ?_⟩
  · by_cases e : j = k
    · subst e
      rw [has_put_same ht.isMap hkl, mget_append, hn]
      simp [mget]
    · rw [has_put_other (int_ne e), h.has, mget_append]
      cases hj : mget l j <;> simp [mget, Ne.symm e]
  · by_cases e : j = k
    · subst e
      rw [mget_append, hn] at hj
      rw [atKey_put_same ht.isMap hkl]
      simp [mget] at hj
      rw [hj]
    · rw [atKey_put_other (int_ne e)]
      refine h.at_ j u z ?_
      rw [mget_append] at hj
      cases hl : mget l j with
      | none =>
        rw [hl] at hj
        simp [mget, Ne.symm e] at hj
      | some x =>
        rw [hl] at hj
        simpa using hj
  · rw [size_put ht, h.has, hn, h.size]
    simp
  · rw [List.map_append, List.nodup_append]
    refine ⟨h.nodup, by simp, ?_⟩
    intro a ha b hb
    obtain ⟨p, hp, rfl⟩ := List.mem_map.1 ha
    have : b = k := by simpa using hb
    subst this
    exact hno p hp
  · intro p hp
    rcases List.mem_append.1 hp with hp | hp
    · exact h.wf p hp
    · have : p = (k, v) := by simpa using hp
      rw [this]
      exact hk

theorem filter_len (k : Int) : ∀ (l : List (Int × Value)), (l.map (·.1)).Nodup → (l.filter (fun p => p.1 != k)).length + (if (mget l k).isSome = true then 1 else 0) = l.length := by
  intro l
  induction l with
  | nil => intro _; simp [mget]
  | cons p r ih =>
    intro hn
    rw [List.map_cons, List.nodup_cons] at hn
    have ih' := ih hn.2
    by_cases e : p.1 = k
    · have hr : mget r k = none := mget_none fun q hq eq => hn.1 (by rw [e, ← eq]; exact List.mem_map_of_mem hq)
      have hc : mget (p :: r) k = some p.2 := by simp [mget, e]
      rw [hr] at ih'
      rw [hc, List.filter_cons_of_neg (by simp [e])]
      simp at ih' ⊢
      omega
    · have hc : mget (p :: r) k = mget r k := by simp [mget, e]
      rw [hc, List.filter_cons_of_pos (by simpa using e), List.length_cons, List.length_cons]
      omega

theorem MView.del {D : DataW Value} {l : List (Int × Value)} (h : MView D l) (ht : Tidy D) (k : Int) : MView (D.del (.int .i64 k)) (l.filter (fun p => p.1 != k)) := by
  refine ⟨fun j => ?_, fun j u z hj => ?_, ?_, ?_, fun p hp => h.wf p (List.mem_filter.1 hp).1⟩
  · by_cases e : j = k
    · subst e
      rw [has_del_same, mget_filter_same]
      rfl
    · rw [has_del_other (int_ne e), h.has, mget_filter_other l e]
  · by_cases e : j = k
    · subst e
      rw [mget_filter_same] at hj
      cases hj
    · rw [atKey_del_other (int_ne e)]
      exact h.at_ j u z (by rw [← mget_filter_other l e]; exact hj)
  · have h1 := size_del (k := Lit.int .i64 k) ht
    have h2 := filter_len k l h.nodup
    rw [h.has, h.size] at h1
    omega
  · exact h.nodup.sublist (List.Sublist.map _ List.filter_sublist)

/-- Block b is a map that holds just l. -/
def MapI (P : Program) (kt : TypeId) (ok : Value → Bool) (w : World) (b : Nat) (l : List (Int × Value)) : Prop := ∃ D, w.ownsMap P kt (Rv ok) b l.length D ∧ MView D l

theorem ownsMap_tight {P : Program} {k : TypeId} {ok : Value → Bool} {w : World} {b n : Nat} {D : DataW Value} (h : w.ownsMap P k (Rv ok) b n D) : w.ownsMap P k (Rv ok) b (Maps.size D) D := by
  obtain ⟨es, clock, hb, F, _, rfl⟩ := h
  exact ⟨es, clock, hb, F, by simp [Maps.size, length_sorted], rfl⟩

section
variable {P : Program} {kt : TypeId} {ok : Value → Bool} {w w' : World} {b : Nat} {l : List (Int × Value)}

theorem MapI.lt (h : MapI P kt ok w b l) : b < w.heap.size := let ⟨_, h, _⟩ := h; h.lt
theorem MapI.kept {row : Option Nat} (h : MapI P kt ok w b l) (hg : w.grownBy w' row) (hne : some b ≠ row) : MapI P kt ok w' b l := let ⟨D, h, v⟩ := h; ⟨D, h.kept hg hne, v⟩
theorem MapI.same (h : MapI P kt ok w b l) (hb : w'.heap[b]? = w.heap[b]?) : MapI P kt ok w' b l := by
  obtain ⟨D, ⟨es, clock, he, F⟩, v⟩ := h
  exact ⟨D, ⟨es, clock, hb.trans he, F⟩, v⟩
theorem MapI.drew (h : MapI P kt ok w b l) : MapI P kt ok w.drew b l := h
theorem MapI.made (w : World) : MapI P kt ok (w.alloc (.map #[] 0)) w.heap.size [] := ⟨_, World.ownsMap_made w P kt (Rv ok), MView.empty⟩
theorem MapI.nodup (h : MapI P kt ok w b l) : (l.map (·.1)).Nodup := let ⟨_, _, v⟩ := h; v.nodup
theorem MapI.wf (h : MapI P kt ok w b l) : ∀ p ∈ l, (Lit.int .i64 p.1).wf = true := let ⟨_, _, v⟩ := h; v.wf

variable (hk : P.underlying kt = some (.int .i64)) {t e : TypeId} (ht : P.underlying t = some (.map kt e))
include hk ht

theorem MapI.look2 (h : MapI P kt ok w b l) {z : Value} (hz : (zeroValue e).run P w = .ok z w) (hzo : ok z = true) {k : Int} (hw : (Lit.int .i64 k).wf = true) :
    (Instr.lookup t (.map (some b)) (.int .i64 k) true).run P w = .ok (.tuple #[(mget l k).getD z, .bool (mget l k).isSome]) w := by
  obtain ⟨D, ho, v⟩ := h
  obtain ⟨u, ps, hrun, hu⟩ := ho.look_ok (int_keyed hk) ht hz (zd := .held z) (zp := []) (Rv_mk hzo) (keyOf_int_mk hk hw)
  rw [hrun, v.has]
  have hu' : DataW.held u = D.atKey (.int .i64 k) (.held z) := by
    have := (Rv_inv hu).2
    rw [Prod.mk.injEq] at this
    exact this.1.symm
  cases hg : mget l k with
  | none =>
    rw [atKey_of_not_has (by rw [v.has, hg]; rfl)] at hu'
    cases hu'
    rfl
  | some x =>
    rw [v.at_ k x _ hg] at hu'
    cases hu'
    rfl

theorem MapI.look1 (h : MapI P kt ok w b l) {z : Value} (hz : (zeroValue e).run P w = .ok z w) (hzo : ok z = true) {k : Int} (hw : (Lit.int .i64 k).wf = true) :
    (Instr.lookup t (.map (some b)) (.int .i64 k) false).run P w = .ok ((mget l k).getD z) w := by
  obtain ⟨D, ho, v⟩ := h
  obtain ⟨u, ps, hrun, hu⟩ := ho.lookup (int_keyed hk) ht hz (zd := .held z) (zp := []) (Rv_mk hzo) (keyOf_int_mk hk hw)
  rw [hrun]
  have hu' : DataW.held u = D.atKey (.int .i64 k) (.held z) := by
    have := (Rv_inv hu).2
    rw [Prod.mk.injEq] at this
    exact this.1.symm
  cases hg : mget l k with
  | none =>
    rw [atKey_of_not_has (by rw [v.has, hg]; rfl)] at hu'
    cases hu'
    rfl
  | some x =>
    rw [v.at_ k x _ hg] at hu'
    cases hu'
    rfl

theorem MapI.put (h : MapI P kt ok w b l) (hl : l.length ≤ 1000000) {k : Int} (hw : (Lit.int .i64 k).wf = true) (hn : mget l k = none) {u : Value} (hu : ok u = true) :
    ∃ w', (Instr.mapUpdate t (.map (some b)) (.int .i64 k) u).run P w = .ok () w' ∧ MapI P kt ok w' b (l ++ [(k, u)]) ∧ w.mapTurned w' b := by
  obtain ⟨D, ho, v⟩ := h
  obtain ⟨w', hrun, ho', ht'⟩ := ho.store (int_keyed hk) ht (by unfold maxLen; omega) (keyOf_int_mk hk hw) (Rv_mk hu)
  exact ⟨w', hrun, ⟨_, by simpa using ho', v.put (ho.tidy (int_keyed hk)) k u hw hn⟩, ht'⟩

theorem MapI.del (h : MapI P kt ok w b l) {k : Int} (hw : (Lit.int .i64 k).wf = true) (ty : TypeId) :
    ∃ w', (Builtin.delete_ #[t, kt] ty #[.map (some b), .int .i64 k]).run P w = .ok (.tuple #[]) w' ∧ MapI P kt ok w' b (l.filter (fun p => p.1 != k)) ∧ w.mapTurned w' b := by
  obtain ⟨D, ho, v⟩ := h
  obtain ⟨w', hrun, ho', ht'⟩ := ho.drop (int_keyed hk) ht (keyOf_int_mk hk hw) ty
  have v' := v.del (ho.tidy (int_keyed hk)) k
  exact ⟨w', hrun, ⟨_, by rw [← v'.size]; exact ownsMap_tight ho', v'⟩, ht'⟩

omit hk in
theorem MapI.len (h : MapI P kt ok w b l) (ty : TypeId) : (Builtin.len_ #[t] ty #[.map (some b)]).run P w = .ok (.int .i64 l.length) w := by
  obtain ⟨D, ho, v⟩ := h
  rw [ho.len ht ty, v.size]

omit ht in
/-- 'for k, v := range m': the next entry. -/
theorem wpList_next_I {β : Type} {ops : Array Oper} {rest : List Oper} {o : Oper} {a : Act} {Q : Exit → Act → World → Prop} (hg : o.guard = none) (it : Operand) (hop : o.op = Op.next it false) (mkV : β → Value) (invV : ∀ v, ok v = true → ∃ c, v = mkV c)
    {r n : Nat} {D : DataW Value} {left : Lit → Bool} {cnt : Nat} (v : MView D l) (hit : a.eval it = .pointer (some ⟨r, 0, none⟩)) (h : w.ranges P kt (Rv ok) b r n D left cnt)
    (hDone : cnt = 0 → (∀ kl, left kl = false) → wpList P ops Q rest (a.put o.dst (.tuple #[.bool false])) w)
    (hMore : ∀ (x : Int) (c : β) (w' : World) (cnt' : Nat), (Lit.int .i64 x).wf = true → left (.int .i64 x) = true → mget l x = some (mkV c) → w'.ranges P kt (Rv ok) b r n D (fun z => left z && !z.sameKey (.int .i64 x)) cnt' → cnt' < cnt →
      w.grownBy w' (some r) → w'.heap.size = w.heap.size → (Instr.entry (.pointer (some ⟨r, 0, none⟩))).run P w' = .ok (.tuple #[.int .i64 x, mkV c]) w' → wpList P ops Q rest (a.put o.dst (.tuple #[.bool true, .int .i64 x, mkV c])) w') :
    wpList P ops Q (o :: rest) a w := by
  refine wpList_next_ranges w hg it hop kt (int_keyed hk) (Rv ok) (Value.int .i64) mkV (fun key kl hkey => by obtain ⟨x, rfl, _⟩ := Maps.keyOf_int_inv hk hkey; exact ⟨x, rfl⟩) (fun u y hu => invV u (Rv_inv hu).1) b r n D left cnt hit h hDone ?_
  intro x c kl y w' cnt' hkey hleft hR hat hrg hlt hgr hsz hen
  obtain ⟨x', hx, rfl, hwx⟩ := Maps.keyOf_int_inv hk hkey
  obtain rfl : x = x' := by cases hx; rfl
  have hy := (Rv_inv hR).2
  have hhas : Maps.has D (.int .i64 x) = true := Maps.has_true_of_atKey hat
  rw [v.has] at hhas
  obtain ⟨u, hu⟩ := Option.isSome_iff_exists.1 hhas
  have h1 := v.at_ x u (.nil) hu
  rw [hat, hy] at h1
  have h2 : mkV c = u := by injection h1
  exact hMore x c w' cnt' hwx hleft (by rw [h2]; exact hu) hrg hlt hgr hsz hen
end

/-- The map's block alone has turned. -/
theorem Kp.of_map {w w' : World} {b : Nat} (h : w.mapTurned w' b) : Kp [b] w w' :=
  ⟨h.grown.os, h.grown.tape, h.grown.output, h.grown.size, fun k hk hn => h.grown.block k hk (fun e => hn (by cases e; simp))⟩
end Go.Proofs.YtlccfpbbdgpjbaaGreatDoor

namespace Go.Proofs.YtlccfpbbdgpjbaaGreatDoor
open Go.RowKit Go.Maps

structure PAtt where
  call : Int
  launched : Int
def attV (a : PAtt) : Value := .agg #[.int .i64 a.call, .int .i64 a.launched]
def okPair : List Value → Bool
  | [.int .i64 _, .int .i64 _] => true
  | _ => false
def okAtt : Value → Bool
  | .agg cs => okPair cs.toList
  | _ => false
theorem okAtt_mk (a : PAtt) : okAtt (attV a) = true := rfl
theorem okAtt_inv {v : Value} (h : okAtt v = true) : ∃ a, v = attV a := by
  unfold okAtt at h
  split at h
  · rename_i cs
    unfold okPair at h
    split at h
    · rename_i x y e
      exact ⟨⟨x, y⟩, by unfold attV; rw [← e]⟩
    · cases h
  · cases h

def encI (n : Int) : List Value := [.int .i64 n]
theorem encI_len (n : Int) : (encI n).length = 1 := rfl

/-- The attempts that are open, by their numbers. -/
def attL (l : List (Int × PAtt)) : List (Int × Value) := l.map (fun p => (p.1, attV p.2))
/-- Those of one call that have come by. -/
def ofCall (call : Int) (left : Lit → Bool) (l : List (Int × PAtt)) : List Int := (l.filter (fun p => !left (.int .i64 p.1) && p.2.call == call)).map (·.1)

theorem mget_attL {l : List (Int × PAtt)} {k : Int} {v : Value} (h : mget (attL l) k = some v) : ∃ p ∈ l, p.1 = k ∧ v = attV p.2 := by
  unfold mget at h
  obtain ⟨q, hq, rfl⟩ := Option.map_eq_some_iff.1 h
  have h1 := List.mem_of_find?_eq_some hq
  have h2 := List.find?_some hq
  obtain ⟨p, hp, rfl⟩ := List.mem_map.1 h1
  exact ⟨p, hp, by simpa using h2, rfl⟩

theorem sameKey_int (x y : Int) : (Lit.int .i64 x).sameKey (.int .i64 y) = (x == y) := by
  by_cases h : x = y
  · subst h
    simp [Lit.sameKey]
  · rw [sameKey_ne (int_ne h), beq_eq_false_iff_ne.2 h]

/-- One more has come by. -/
theorem ofCall_step (call : Int) (left : Lit → Bool) : ∀ (l : List (Int × PAtt)) (x : Int) (a : PAtt), (l.map (·.1)).Nodup → (x, a) ∈ l → left (.int .i64 x) = true →
    (ofCall call (fun z => left z && !z.sameKey (.int .i64 x)) l).Perm (ofCall call left l ++ (if a.call == call then [x] else [])) := by
  intro l
  induction l with
  | nil => intro x a _ h; cases h
  | cons p r ih =>
    intro x a hn hm hl
    rw [List.map_cons, List.nodup_cons] at hn
    rcases List.mem_cons.1 hm with rfl | hm
    · have hr : ofCall call (fun z => left z && !z.sameKey (.int .i64 x)) r = ofCall call left r := by
        unfold ofCall
        rw [List.filter_congr]
        intro q hq
        have : q.1 ≠ x := fun e => hn.1 (List.mem_map.2 ⟨q, hq, e⟩)
        dsimp only
        rw [sameKey_int, beq_eq_false_iff_ne.2 this]
        simp
      have h1 : ofCall call left ((x, a) :: r) = ofCall call left r := by
        unfold ofCall
        rw [List.filter_cons_of_neg (by simp [hl])]
      rw [h1]
      unfold ofCall at hr ⊢
      rw [List.filter_cons]
      simp only [sameKey_int, beq_self_eq_true, Bool.not_true, Bool.and_false, Bool.not_false, Bool.true_and]
      cases hc : a.call == call
      · simp only [Bool.false_eq_true, if_false, List.append_nil]
        simp only [sameKey_int] at hr
        rw [hr]
      · simp only [if_true, List.map_cons]
        simp only [sameKey_int] at hr
        rw [hr]
        exact (List.perm_append_singleton x _).symm
    · have hne : p.1 ≠ x := fun e => hn.1 (List.mem_map.2 ⟨(x, a), hm, e.symm⟩)
      have ih' := ih x a hn.2 hm hl
      unfold ofCall at ih' ⊢
      rw [List.filter_cons, List.filter_cons]
      have he : (!(left (Lit.int .i64 p.1) && !(Lit.int .i64 p.1).sameKey (Lit.int .i64 x)) && p.2.call == call) = (!left (Lit.int .i64 p.1) && p.2.call == call) := by
        rw [sameKey_int, beq_eq_false_iff_ne.2 hne]
        simp
      rw [he]
      split
      · rw [List.map_cons, List.map_cons, List.cons_append]
        exact ih'.cons _
      · exact ih'

theorem ofCall_start (call : Int) (l : List (Int × PAtt)) (left : Lit → Bool) (h : ∀ p ∈ l, left (.int .i64 p.1) = true) : ofCall call left l = [] := by
  unfold ofCall
  rw [List.filter_eq_nil_iff.2]
  · rfl
  · intro p hp
    simp [h p hp]
theorem ofCall_end (call : Int) (l : List (Int × PAtt)) (left : Lit → Bool) (h : ∀ kl, left kl = false) : ofCall call left l = (l.filter (fun p => p.2.call == call)).map (·.1) := by
  unfold ofCall
  simp [h]

theorem grown_drewN (w : World) (n : Nat) : w.grownBy (w.drewN n) none := ⟨rfl, rfl, rfl, Nat.le_refl _, fun _ _ _ => rfl⟩
end Go.Proofs.YtlccfpbbdgpjbaaGreatDoor

namespace Go.Proofs.YtlccfpbbdgpjbaaGreatDoor
open Go.RowKit Go.Sort

theorem flat_encI (l : List Int) : l.flatMap encI = l.map (Value.int .i64) := by
  induction l with
  | nil => rfl
  | cons a r ih => rw [List.flatMap_cons, ih]; rfl

theorem sortR (v : Value) (base : Nat) (l : List Int) (w : World) (hl : l.length ≤ 1000000) (hr : Row w base 3 1 encI v l) :
    Calls Tryz.prog 76 #[v] w fun e w' => e = .returned (.tuple #[]) ∧ Row w' base 3 1 encI v l.mergeSort ∧ Kp v.ownBlock.toList w w' := by
  by_cases h0 : l.length = 0
  · obtain ⟨A, cap, rfl, _, _, _⟩ := hr.form
    have hl0 : l = [] := List.length_eq_zero_iff.1 h0
    subst hl0
    refine (Tryz.slices_Sort_int_none A cap w).mono ?_
    rintro e w' ⟨rfl, rfl⟩
    exact ⟨rfl, by simpa using hr, Kp.refl _ _⟩
  · obtain ⟨g, cap, rfl, _⟩ := hr.at (by omega)
    have lg : g < w.heap.size := (hr.lt g rfl).2
    have hH : Holds (Value.int .i64) w g 0 l.toArray := fun j hj => by
      have hj' : j < l.length := by simpa using hj
      have := hr.cell encI_len (g := g) (j := 0) rfl hj' (u := .int .i64 l[j]) rfl
      rw [Nat.mul_one, Nat.add_zero] at this
      have e : l.toArray[j]! = l[j] := by simp [hj']
      rw [Nat.zero_add, e]
      exact this
    refine (Tryz.slices_Sort_int g 0 cap l w hH lg (by omega)).mono ?_
    rintro e w' ⟨rfl, n, os, rfl⟩
    have hlen : (l.mergeSort (fun x y => decide (x ≤ y))).length = l.length := List.length_mergeSort l
    rw [Lib.putRow_eq_setCells (Value.int .i64) w g 0 l.toArray _ n hH (by simp)]
    rw [← flat_encI]
    have hR := (hr.kept (grown_drewN w n) (by simp [Value.ownBlock])).relay encI_len 0 l.mergeSort l.mergeSort (by rw [hlen]; omega) (by rw [hlen]; omega) (by
      rw [List.take_zero, List.nil_append, List.take_append_of_le_length (Nat.le_refl _), List.take_of_length_le (Nat.le_refl _)])
    rw [Nat.zero_mul] at hR
    have hK : Kp [g] w ((w.drewN n).setCells g 0 (l.mergeSort.flatMap encI)) := Kp.setCellsIn (List.mem_singleton.2 rfl) _ _ _ ⟨rfl, rfl, rfl, Nat.le_refl _, fun _ _ _ => rfl⟩
    rw [hlen] at hR
    generalize (w.drewN n).setCells g 0 (l.mergeSort.flatMap encI) = W at hR hK ⊢
    have hgr : Below W.heap.size W (grow W os) := ⟨rfl, rfl, rfl, by simp [grow], fun k hk => by simp only [grow]; exact Array.getElem?_append_left hk⟩
    exact ⟨rfl, hR.below hgr, hK.below hgr⟩
end Go.Proofs.YtlccfpbbdgpjbaaGreatDoor

namespace Go.Proofs.YtlccfpbbdgpjbaaGreatDoor
open Go.RowKit Go.Maps

theorem Tryz.infoInt : (Tryz.prog.info? 3).map (fun i => (i.zero, i.size, i.bytes)) = some (some (.int .i64 0), 1, 8) := by kernel_rfl



theorem mergeSort_perm {l m : List Int} (h : l.Perm m) : l.mergeSort = m.mergeSort := by
  have ht : ∀ a b c : Int, decide (a ≤ b) = true → decide (b ≤ c) = true → decide (a ≤ c) = true := fun a b c h1 h2 => by simp at *; omega
  have htot : ∀ a b : Int, (decide (a ≤ b) || decide (b ≤ a)) = true := fun a b => by simp; omega
  have s1 := List.pairwise_mergeSort ht htot l
  have s2 := List.pairwise_mergeSort ht htot m
  have hp : l.mergeSort.Perm m.mergeSort := (List.mergeSort_perm l _).trans (h.trans (List.mergeSort_perm m _).symm)
  exact hp.eq_of_pairwise (fun a b _ _ h1 h2 => by simp at h1 h2; omega) s1 s2

set_option maxRecDepth 100000 in
set_option maxHeartbeats 4000000 in
theorem openAttempts_T (p q b : Nat) (number : Int) (l : List (Int × PAtt)) (w : World) (hl : l.length ≤ 1000000)
    (cA : w.cell? ⟨p, 16, none⟩ = some (.map (some b))) (cN : w.cell? ⟨q, 0, none⟩ = some (.int .i64 number)) (hM : MapI Tryz.prog 3 okAtt w b (attL l)) :
    Calls Tryz.prog 68 #[.pointer (some ⟨p, 0, none⟩), .pointer (some ⟨q, 0, none⟩)] w fun e w' =>
      ∃ v, e = .returned v ∧ Row w' w.heap.size 3 1 encI v (((l.filter (fun p => p.2.call == number)).map (·.1)).mergeSort) ∧ Below w.heap.size w w' := by
  obtain ⟨i0, hi0, z0, z1, z2⟩ := info_parts Tryz.infoInt
  have lp : p < w.heap.size := World.block_lt_of_cell? w _ cA
  have lq : q < w.heap.size := World.block_lt_of_cell? w _ cN
  have lb := hM.lt
  obtain ⟨D, hown, v⟩ := hM
  go_enter Tryz.func68, Tryz.ntmps68
  go_wp2_with (first | (at_range; refine wpList_range_own _ rfl _ 89 rfl 3 111 (int_keyed Tryz.underlying3) Tryz.underlying89 (Rv okAtt) b _ _ rfl hown ?_; intro w0 hrg0 hg0 hs0))
  go_frame
  go_loopw [5] (fun nv wr => ∃ (left : Lit → Bool) (cnt : Nat) (acc : List Int), wr.ranges Tryz.prog 3 (Rv okAtt) b w.heap.size (attL l).length D left cnt ∧ Row wr (w.heap.size + 1) 3 1 encI nv acc ∧ acc.Perm (ofCall number left l) ∧ Below w.heap.size w wr) (fun _ wr => wr.rangeLeft b w.heap.size)
  case atStart =>
    refine ⟨_, _, [], hrg0, Row.nil _ _ _ _ _, ?_, ⟨hg0.os, hg0.tape, hg0.output, hg0.size, fun k hk => hg0.block k hk (by simp)⟩⟩
    rw [ofCall_start number l]
    intro p hp
    rw [v.has]
    exact mget_isSome.2 ⟨(p.1, attV p.2), List.mem_map.2 ⟨p, hp, rfl⟩, rfl⟩
  case round =>
    obtain ⟨left, cnt, acc, hrg, hrow, hperm, hb⟩ := hrel
    have hsz := hb.size
    have cN' : wr.cell? ⟨q, 0, none⟩ = some (.int .i64 number) := (hb.cell lq).trans cN
    have hal : acc.length ≤ 1000000 := by
      rw [hperm.length_eq]
      unfold ofCall
      rw [List.length_map]
      exact Nat.le_trans (List.length_filter_le _ _) hl
    have hnd : (l.map (·.1)).Nodup := by
      have := v.nodup
      unfold attL at this
      rw [List.map_map] at this
      exact this
    have HN := hide hnd
    have HV := hide v
    have HP := hide hperm
    clear hrg0 hg0 hs0 hown cA hnd v hperm
    go_wp2_with (first | (at_next; refine wpList_next_I Tryz.underlying3 rfl _ rfl (fun c : PAtt => .agg #[.int .i64 c.call, .int .i64 c.launched]) (fun u hu => okAtt_inv hu) HV.out rfl hrg ?_ ?_))
    · intro hc0 hl0
      obtain ⟨A, cap, rfl, _, _, _⟩ := hrow.form
      have HS := hide (sortR _ _ acc wr hal hrow)
      have hKp : (Value.slice A acc.length cap).ownBlock.toList = [] ∨ ∃ g, (Value.slice A acc.length cap).ownBlock = some g ∧ w.heap.size + 1 ≤ g := by
        cases ho : (Value.slice A acc.length cap).ownBlock with
        | none => exact .inl rfl
        | some g => exact .inr ⟨g, rfl, (hrow.lt g ho).1⟩
      have HKP := hide hKp
      have hfin : acc.mergeSort = ((l.filter (fun p => p.2.call == number)).map (·.1)).mergeSort := by
        have hpe := HP.out
        rw [ofCall_end number l left hl0] at hpe
        exact mergeSort_perm hpe
      have HFI := hide hfin
      clear hfin hKp HP
      go_wp2_with fail
      refine HS.out.mono ?_
      rintro e w3 ⟨rfl, hr3, hk3⟩
      go_wp2_with fail
      go_ret
      refine ⟨_, rfl, ?_, ?_⟩
      · rw [← HFI.out]
        exact hr3.base (Nat.le_succ _)
      · refine hb.trans ⟨hk3.os, hk3.tape, hk3.output, hk3.size, fun k hk => hk3.block k (Nat.lt_of_lt_of_le hk hsz) ?_⟩
        rcases HKP.out with h | ⟨g, h, hg⟩
        · rw [h]; simp
        · rw [h]
          simp
          omega
    · intro x c w1 cnt1 hwx hlx hmg hrg1 hlt hg1 hs1 hen
      obtain ⟨pc, hpm, hpx, hpv⟩ := mget_attL hmg
      have hpc : (x, c) ∈ l := by
        obtain ⟨p1, p2⟩ := pc
        obtain rfl : p1 = x := hpx
        have : c = p2 := by
          unfold attV at hpv
          cases c
          cases p2
          simpa using hpv
        rw [this]
        exact hpm
      have HST := hide (ofCall_step number left l x c HN.out hpc hlx)
      have hb1 : Below w.heap.size w w1 := hb.grown hg1 hsz (fun k hk => by cases hk; exact Nat.le_refl _)
      have hrow1 := hrow.kept hg1 (by
        cases ho : u5.ownBlock with
        | none => exact .inl rfl
        | some g => exact .inr (fun e => by have := (hrow.lt g ho).1; cases e; omega))
      have cN1 : w1.cell? ⟨q, 0, none⟩ = some (.int .i64 number) := (hb1.cell lq).trans cN
      have lq1 : q < w1.heap.size := by omega
      have hle1 : wr.heap.size = w1.heap.size := hs1.symm
      have hmeas : w1.rangeLeft b w.heap.size < wr.rangeLeft b w.heap.size := by rw [hrg1.left_eq, hrg.left_eq]; exact hlt
      have HME := hide hmeas
      clear hrow hg1 hmg hpm hpx hpv hpc cN' hrg hle1 hs1 hsz hmeas
      cases hd : c.call == number with
      | true =>
        rw [hd] at HST
        go_wp2_with fail
        go_quiet (fail)
        have hrg2 := ((hrg1.alloc (.cells #[.int .i64 c.call, .int .i64 c.launched] 111)).kept (grown_drewN _ nq) (by simp) (by simp))
        have hrow2 := (hrow1.below ((Below.refl _ _).alloc (Nat.le_refl _) (.cells #[.int .i64 c.call, .int .i64 c.launched] 111))).kept (grown_drewN _ nq) (by cases u5.ownBlock <;> simp)
        have hb2 : Below w.heap.size w ((w1.alloc (.cells #[.int .i64 c.call, .int .i64 c.launched] 111)).drewN nq) := (hb1.alloc hb1.size _).trans ⟨rfl, rfl, rfl, Nat.le_refl _, fun _ _ => rfl⟩
        have hsz2 : w.heap.size + 1 ≤ ((w1.alloc (.cells #[.int .i64 c.call, .int .i64 c.launched] 111)).drewN nq).heap.size := by
          have := hb1.size
          have h8 : ((w1.alloc (.cells #[.int .i64 c.call, .int .i64 c.launched] 111)).drewN nq).heap.size = w1.heap.size + 1 := World.size_alloc _ _
          omega
        generalize (w1.alloc (.cells #[.int .i64 c.call, .int .i64 c.launched] 111)).drewN nq = W2 at hrg2 hrow2 hb2 hsz2 ⊢
        clear hrow1 hb1 cN1 lq1 hen
        go_wp2_with (first
          | (at_builtin; refine wpList_append_lies _ (by rfl) _ _ _ (by rfl) (w.heap.size + 1) 3 i0 _ 1 8 Tryz.underlying45 hi0 z0 z1 z2 rfl (by omega) u5 acc.length (acc.flatMap encI) (by rfl) (World.ownsRow.alloc hrow2 _) ⟨W2.heap.size, 0, none⟩ 1 1 (encI x) (by rfl) (by rfl) (World.news_of_block (cs := (encI x).toArray) (t := 3) (fr := (0, 0)) (heap_alloc_new W2 _)) (by simp [Value.oneCell', encI]) (by omega) (by simp only [maxLen]; omega) (by omega) (by simp <;> omega) (W2.heap.size + 1) (by simp) ?_; intro g cap w3 hown hgrow hat hlt1))
        have hgr3 : W2.grownBy w3 u5.ownBlock := (World.grownBy_alloc W2 _ _).trans hgrow
        have hrg3 := hrg2.kept hgr3 (fun e => by have := (hrow2.lt b e.symm).1; omega) (fun e => by have := (hrow2.lt _ e.symm).1; omega)
        have hb3 : Below w.heap.size w w3 := hb2.grown hgr3 (by omega) (fun k hk => by have := (hrow2.lt k hk).1; omega)
        go_roundw
        case rel =>
          refine ⟨_, cnt1, acc ++ [x], hrg3, ?_, ?_, hb3⟩
          · have := hrow2.push (x := x) hown
            simpa using this
          · exact (HP.out.append_right [x]).trans (HST.out.trans (by simp)).symm
        case measure =>
          rw [hrg3.left_eq, ← hrg1.left_eq]
          exact HME.out
      | false =>
        rw [hd] at HST
        go_wp2_with fail
        go_quiet (fail)
        have hrg2 := ((hrg1.alloc (.cells #[.int .i64 c.call, .int .i64 c.launched] 111)).kept (grown_drewN _ nq) (by simp) (by simp))
        have hrow2 := (hrow1.below ((Below.refl _ _).alloc (Nat.le_refl _) (.cells #[.int .i64 c.call, .int .i64 c.launched] 111))).kept (grown_drewN _ nq) (by cases u5.ownBlock <;> simp)
        have hb2 : Below w.heap.size w ((w1.alloc (.cells #[.int .i64 c.call, .int .i64 c.launched] 111)).drewN nq) := (hb1.alloc hb1.size _).trans ⟨rfl, rfl, rfl, Nat.le_refl _, fun _ _ => rfl⟩
        have hsz2 : w.heap.size + 1 ≤ ((w1.alloc (.cells #[.int .i64 c.call, .int .i64 c.launched] 111)).drewN nq).heap.size := by
          have := hb1.size
          have h8 : ((w1.alloc (.cells #[.int .i64 c.call, .int .i64 c.launched] 111)).drewN nq).heap.size = w1.heap.size + 1 := World.size_alloc _ _
          omega
        generalize (w1.alloc (.cells #[.int .i64 c.call, .int .i64 c.launched] 111)).drewN nq = W2 at hrg2 hrow2 hb2 hsz2 ⊢
        clear hrow1 hb1 cN1 lq1 hen
        go_wp2_with fail
        go_roundw
        case rel =>
          refine ⟨_, cnt1, acc, hrg2, hrow2, (HP.out.trans ?_), hb2⟩
          exact (HST.out.trans (by simp)).symm
        case measure =>
          rw [hrg2.left_eq, ← hrg1.left_eq]
          exact HME.out
end Go.Proofs.YtlccfpbbdgpjbaaGreatDoor

namespace Go.Proofs.YtlccfpbbdgpjbaaGreatDoor
open Go.RowKit Go.Sort

theorem Row.holds {base g n cap : Nat} {l : List Int} {w : World} (hr : Row w base 3 1 encI (.slice (some ⟨g, 0, none⟩) n cap) l) : Holds (Value.int .i64) w g 0 l.toArray := fun j hj => by
  have hj' : j < l.length := by simpa using hj
  have := hr.cell encI_len (g := g) (j := 0) rfl hj' (u := .int .i64 l[j]) rfl
  rw [Nat.mul_one, Nat.add_zero] at this
  have e : l.toArray[j]! = l[j] := by simp [hj']
  rw [Nat.zero_add, e]
  exact this

/-- The first one goes. -/
theorem deleteI_one (g cap : Nat) (l : List Int) (w : World) (h0 : 0 < l.length) (hr : Row w 0 3 1 encI (.slice (some ⟨g, 0, none⟩) l.length cap) l) :
    Calls Tryz.prog 97 #[.slice (some ⟨g, 0, none⟩) l.length cap, .int .i64 0, .int .i64 1] w fun e w' =>
      e = .returned (.slice (some ⟨g, 0, none⟩) (l.length - 1) cap) ∧ Row w' 0 3 1 encI (.slice (some ⟨g, 0, none⟩) (l.length - 1) cap) (l.drop 1) ∧ Kp [g] w w' := by
  refine (Tryz.slices_Delete_int g 0 cap 0 1 l w hr.holds hr.cap_le.1 hr.cap_le.2 (by omega) (by omega)).mono ?_
  rintro e w' ⟨rfl, q, rfl⟩
  have hlen : (l.take 0 ++ l.drop 1 ++ List.replicate (1 - 0) (0 : Int)).length = l.length := by simp; omega
  rw [Lib.putRow_eq_setCells (Value.int .i64) w g 0 l.toArray _ q hr.holds (by rw [hlen]; simp)]
  rw [← flat_encI]
  have hR := (hr.kept (grown_drewN w q) (by simp [Value.ownBlock])).relay encI_len 0 (l.take 0 ++ l.drop 1 ++ List.replicate (1 - 0) (0 : Int)) (l.drop 1) (by rw [hlen]; omega) (by rw [List.length_drop]; omega) (by
    rw [List.take_zero, List.nil_append, List.nil_append, List.append_assoc, List.take_append_of_le_length (Nat.le_refl _), List.take_of_length_le (Nat.le_refl _)])
  rw [Nat.zero_mul, List.length_drop] at hR
  exact ⟨rfl, hR, Kp.setCellsIn (List.mem_singleton.2 rfl) _ _ _ ⟨rfl, rfl, rfl, Nat.le_refl _, fun _ _ _ => rfl⟩⟩

/-- The last thirty-two times. -/
def addT (l : List Int) (t : Int) : List Int := (if l.length = 32 then l.drop 1 else l) ++ [t]

set_option maxRecDepth 100000 in
set_option maxHeartbeats 4000000 in
theorem addT_any (p o : Nat) (t : Int) (v : Value) (l : List Int) (w : World) (hl : l.length ≤ 32) (hc : w.cell? ⟨p, o, none⟩ = some v) (hz : w.frozen? ⟨p, o, none⟩ = false) (hr : Row w 0 3 1 encI v l) (hv : v.ownBlock ≠ some p) :
    Calls Tryz.prog 66 #[.pointer (some ⟨p, o, none⟩), .int .i64 t] w fun e w' =>
      e = .returned (.tuple #[]) ∧ ∃ v', w'.cell? ⟨p, o, none⟩ = some v' ∧ Row w' 0 3 1 encI v' (addT l t) ∧ (v'.ownBlock = v.ownBlock ∨ ∃ g, v'.ownBlock = some g ∧ w.heap.size ≤ g) ∧ Fr p [o] v.ownBlock.toList w w' := by
  obtain ⟨i0, hi0, z0, z1, z2⟩ := info_parts Tryz.infoInt
  have lp : p < w.heap.size := World.block_lt_of_cell? w _ hc
  by_cases h32 : l.length = 32
  · obtain ⟨g, cap, rfl, hown0⟩ := hr.at (by omega)
    have hgp : g ≠ p := fun e => hv (by rw [hown0, e])
    have HD := hide (deleteI_one g cap l w (by omega) hr)
    have h33 : ((l.length : Int) == 32) = true := by rw [beq_iff_eq]; omega
    have e0 : addT l t = l.drop 1 ++ [t] := by unfold addT; rw [if_pos h32]
    rw [e0]
    have HV := hide (show ∀ k, (Value.slice (some ⟨g, 0, none⟩) k cap).ownBlock ≠ some p from fun k e => hgp (by simpa [Value.ownBlock] using e))
    have H32 := hide h32
    have h1l : 1 ≤ l.length := by omega
    clear hr hv hown0 h32
    go_enter Tryz.func66, Tryz.ntmps66
    go_wp2_with fail
    refine HD.out.mono ?_
    rintro e w1 ⟨rfl, hr1, hk1⟩
    have hpg : p ∉ [g] := by simpa using Ne.symm hgp
    have c1 := (hk1.cell lp hpg o).trans hc
    have f1 := (hk1.frozen lp hpg o).trans hz
    have hF1 := ((hk1.fr lp hpg).trans (Fr.store (j := o) (w := w1) (.slice (some ⟨g, 0, none⟩) (l.length - 1) cap)) (J'' := [o]) (fun _ h => ⟨by simp, h⟩) (fun r h => by cases h))
    have hcW := World.cell?_setCell_same w1 ⟨p, o, none⟩ (.slice (some ⟨g, 0, none⟩) (l.length - 1) cap) c1
    have hzW : (w1.setCell ⟨p, o, none⟩ (.slice (some ⟨g, 0, none⟩) (l.length - 1) cap)).frozen? ⟨p, o, none⟩ = false := by simpa using f1
    have hrW := hr1.same (w' := w1.setCell ⟨p, o, none⟩ (.slice (some ⟨g, 0, none⟩) (l.length - 1) cap)) (fun k hk => Below.heap_setCell _ _ _ _ (by simp [Value.ownBlock] at hk; show k ≠ p; omega))
    have hF := hide hF1
    have HC := hide hcW
    have HZ := hide hzW
    have HR := hide hrW
    clear HD hF1 hr1 hk1 hc hz hcW hzW hrW
    go_upto_region 2 with fail
    obtain ⟨m, hm⟩ : ∃ m, l.drop 1 = m := ⟨_, rfl⟩
    have hml : l.length - 1 = m.length := by rw [← hm, List.length_drop]
    have hm32 : m.length ≤ 32 := by omega
    rw [hm] at HR e0
    generalize l.length - 1 = n at hml hF HC HZ HR ⊢
    subst hml
    have hcW := HC.out
    have hzW := HZ.out
    have hrW := HR.out
    have hFW := hF.out
    have lpW : p < (w1.setCell ⟨p, o, none⟩ (.slice (some ⟨g, 0, none⟩) m.length cap)).heap.size := Nat.lt_of_lt_of_le lp hFW.size
    generalize w1.setCell ⟨p, o, none⟩ (.slice (some ⟨g, 0, none⟩) m.length cap) = W at hcW hzW hrW hFW lpW ⊢
    have hV := HV.out m.length
    clear HC HZ HR hF HV h33 H32 hl h1l
    have hA : ∀ B : Obj, (W.alloc B).frozen? ⟨p, o, none⟩ = false ∧ (W.alloc B).cell? ⟨p, o, none⟩ = some (.slice (some ⟨g, 0, none⟩) m.length cap) := fun B => by
      rw [World.frozen?_alloc_old _ _ _ (by simp; omega), World.cell?_alloc_lt _ _ _ lpW]
      exact ⟨hzW, hcW⟩
    have HA := hide hA
    clear hA
    go_wp2_with (first
      | (at_builtin; refine wpList_append_lies _ (by rfl) _ _ _ (by rfl) 0 3 i0 _ 1 8 Tryz.underlying45 hi0 z0 z1 z2 rfl (by omega) (.slice (some ⟨g, 0, none⟩) m.length cap) m.length ((m).flatMap encI) (by rfl) (World.ownsRow.alloc hrW _) ⟨W.heap.size, 0, none⟩ 1 1 (encI t) (by rfl) (by rfl) (World.news_of_block (cs := (encI t).toArray) (t := 3) (fr := (0, 0)) (heap_alloc_new W _)) (by simp [Value.oneCell', encI]) (by omega) (by simp only [maxLen]; omega) (by omega) (by simp <;> omega) (W.heap.size + 1) (by simp) ?_; intro g1 cap1 w3 hown hgrow hat hlt1
         have fz : w3.frozen? ⟨p, o, none⟩ = false := (by rw [hgrow.frozen_far _ (by simp; omega) (Ne.symm hV)]; exact (HA.out _).1)
         have cz : w3.cell? ⟨p, o, none⟩ = some (.slice (some ⟨g, 0, none⟩) m.length cap) := (by rw [hgrow.cell_far _ (by simp; omega) (Ne.symm hV)]; exact (HA.out _).2)))
    go_end0
    obtain ⟨v', hc2, hr2, hv2, hF2⟩ := push_post (x := t) lpW hrW ((Below.refl _ _).alloc (Nat.le_refl _) _) hown hgrow hV (hat.imp id (fun h => by omega)) cz
    exact ⟨rfl, v', hc2, by rw [hm]; exact hr2, hv2.imp id (fun ⟨g, e, h⟩ => ⟨g, e, Nat.le_trans hFW.size h⟩), hFW.trans hF2 (J'' := [o]) (fun _ h => ⟨h, h⟩) (fun r h => .inl h)⟩
  · have e0 : addT l t = l ++ [t] := by unfold addT; rw [if_neg h32]
    have h33 : ((l.length : Int) == 32) = false := by rw [beq_eq_false_iff_ne]; omega
    rw [e0]
    have hcW := hc
    have hzW := hz
    have hrW := hr
    obtain ⟨A, cap, rfl, _, _, _⟩ := hr.form
    clear hr hc hz
    go_enter Tryz.func66, Tryz.ntmps66
    have hA : ∀ B : Obj, (w.alloc B).frozen? ⟨p, o, none⟩ = false ∧ (w.alloc B).cell? ⟨p, o, none⟩ = some (.slice A l.length cap) := fun B => by
      rw [World.frozen?_alloc_old _ _ _ (by simp; omega), World.cell?_alloc_lt _ _ _ lp]
      exact ⟨hzW, hcW⟩
    have HA := hide hA
    clear hA
    go_wp2_with (first
      | (at_builtin; refine wpList_append_lies _ (by rfl) _ _ _ (by rfl) 0 3 i0 _ 1 8 Tryz.underlying45 hi0 z0 z1 z2 rfl (by omega) (.slice A l.length cap) l.length ((l).flatMap encI) (by rfl) (World.ownsRow.alloc hrW _) ⟨w.heap.size, 0, none⟩ 1 1 (encI t) (by rfl) (by rfl) (World.news_of_block (cs := (encI t).toArray) (t := 3) (fr := (0, 0)) (heap_alloc_new w _)) (by simp [Value.oneCell', encI]) (by omega) (by simp only [maxLen]; omega) (by omega) (by simp <;> omega) (w.heap.size + 1) (by simp) ?_; intro g1 cap1 w3 hown hgrow hat hlt1
         have fz : w3.frozen? ⟨p, o, none⟩ = false := (by rw [hgrow.frozen_far _ (by simp; omega) (Ne.symm hv)]; exact (HA.out _).1)
         have cz : w3.cell? ⟨p, o, none⟩ = some (.slice A l.length cap) := (by rw [hgrow.cell_far _ (by simp; omega) (Ne.symm hv)]; exact (HA.out _).2)))
    go_end0
    obtain ⟨v', hc2, hr2, hv2, hF2⟩ := push_post (x := t) lp hrW ((Below.refl _ _).alloc (Nat.le_refl _) _) hown hgrow hv (hat.imp id (fun h => by omega)) cz
    exact ⟨rfl, v', hc2, hr2, hv2, hF2⟩
end Go.Proofs.YtlccfpbbdgpjbaaGreatDoor
