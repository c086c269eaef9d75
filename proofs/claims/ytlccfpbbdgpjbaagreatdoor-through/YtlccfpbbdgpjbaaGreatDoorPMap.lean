/-
  Maps from numbers to values, as plain lists.
-/
import Derived.Test.YtlccfpbbdgpjbaaGreatDoorHDrop2
import Derived.Maps.OwnSet
import Derived.Maps.RangeWalk
namespace Go.Proofs.YtlccfpbbdgpjbaaGreatDoor
open Go.RowKit Go.Maps

/-- A reader to which each value that may be is what it is. -/
def Rv (ok : Value → Bool) (v : Value) : Option (DataW Value × List MemPlace) := if ok v = true then some (.held v, []) else none
theorem Rv_mk {ok : Value → Bool} {v : Value} (h : ok v = true) : Rv ok v = some (.held v, []) := by simp [Rv, h]
theorem Rv_inv {ok : Value → Bool} {v : Value} {y : DataW Value × List MemPlace} (h : Rv ok v = some y) : ok v = true ∧ y = (.held v, []) := by
  unfold Rv at h
  split at h
  · exact ⟨by assumption, (Option.some.inj h).symm⟩
  · cases h

def mget (l : List (Int × Value)) (k : Int) : Option Value := (l.find? (fun p => p.1 == k)).map (·.2)

theorem mget_none {l : List (Int × Value)} {k : Int} (h : ∀ p ∈ l, p.1 ≠ k) : mget l k = none := by
  unfold mget
  rw [List.find?_eq_none.2]
  · rfl
  · intro p hp
    simpa using h p hp
theorem mget_append (l m : List (Int × Value)) (k : Int) : mget (l ++ m) k = (mget l k).or (mget m k) := by
  unfold mget
  rw [List.find?_append]
  cases l.find? (fun p => p.1 == k) <;> simp
theorem mget_filter_same (l : List (Int × Value)) (k : Int) : mget (l.filter (fun p => p.1 != k)) k = none :=
  mget_none fun p hp => by simpa using (List.mem_filter.1 hp).2
theorem mget_filter_other (l : List (Int × Value)) {k j : Int} (h : j ≠ k) : mget (l.filter (fun p => p.1 != k)) j = mget l j := by
  unfold mget
  rw [Maps.find_filter_keep]
  intro p hp
  have : p.1 = j := by simpa using hp
  simp [this, h]
theorem mget_isSome {l : List (Int × Value)} {k : Int} : (mget l k).isSome = true ↔ ∃ p ∈ l, p.1 = k := by
  unfold mget
  rw [Option.isSome_map, List.find?_isSome]
  simp

/-- What a map that reads as D has to do with the list l. -/
structure MView (D : DataW Value) (l : List (Int × Value)) : Prop where
  has : ∀ k, Maps.has D (.int .i64 k) = (mget l k).isSome
  at_ : ∀ k v z, mget l k = some v → D.atKey (.int .i64 k) z = .held v
  size : Maps.size D = l.length
  nodup : (l.map (·.1)).Nodup
  wf : ∀ p ∈ l, (Lit.int .i64 p.1).wf = true

theorem MView.empty : MView (.map []) [] := ⟨fun _ => rfl, fun k v z h => by simp [mget] at h, rfl, by simp, by simp⟩

theorem int_ne {j k : Int} (h : j ≠ k) : (Lit.int .i64 j) ≠ Lit.int .i64 k := fun e => h (by cases e; rfl)

theorem MView.put {D : DataW Value} {l : List (Int × Value)} (h : MView D l) (ht : Tidy D) (k : Int) (v : Value) (hk : (Lit.int .i64 k).wf = true) (hn : mget l k = none) : MView (D.put (.int .i64 k) (.held v)) (l ++ [(k, v)]) := by
  have hkl : WideAt.IsKeyLit (Lit.int .i64 k) := trivial
  have hno : ∀ p ∈ l, p.1 ≠ k := fun p hp e => by
    have := mget_isSome.2 ⟨p, hp, e⟩
    rw [hn] at this
    cases this
  refine ⟨fun j => ?_, fun j u z hj => ?_, ?_, ?_, ?_⟩
  · by_cases e : j = k
    · subst e
      rw [has_put_same ht.isMap hkl, mget_append, hn]
      simp [mget]
    · rw [has_put_other (int_ne e), h.has, mget_append]
      cases hj : mget l j <;> simp [mget, Ne.symm e]
  · by_cases e : j = k
    · subst e
      rw [mget_append, hn] at hj
      rw [atKey_put_same ht.isMap hkl]
      simp [mget] at hj
      rw [hj]
    · rw [atKey_put_other (int_ne e)]
      refine h.at_ j u z ?_
      rw [mget_append] at hj
      cases hl : mget l j with
      | none =>
        rw [hl] at hj
        simp [mget, Ne.symm e] at hj
      | some x =>
        rw [hl] at hj
        simpa using hj
  · rw [size_put ht, h.has, hn, h.size]
    simp
  · rw [List.map_append, List.nodup_append]
    refine ⟨h.nodup, by simp, ?_⟩
    intro a ha b hb
    obtain ⟨p, hp, rfl⟩ := List.mem_map.1 ha
    have : b = k := by simpa using hb
    subst this
    exact hno p hp
  · intro p hp
    rcases List.mem_append.1 hp with hp | hp
    · exact h.wf p hp
    · have : p = (k, v) := by simpa using hp
      rw [this]
      exact hk

theorem filter_len (k : Int) : ∀ (l : List (Int × Value)), (l.map (·.1)).Nodup → (l.filter (fun p => p.1 != k)).length + (if (mget l k).isSome = true then 1 else 0) = l.length := by
  intro l
  induction l with
  | nil => intro _; simp [mget]
  | cons p r ih =>
    intro hn
    rw [List.map_cons, List.nodup_cons] at hn
    have ih' := ih hn.2
    by_cases e : p.1 = k
    · have hr : mget r k = none := mget_none fun q hq eq => hn.1 (by rw [e, ← eq]; exact List.mem_map_of_mem hq)
      have hc : mget (p :: r) k = some p.2 := by simp [mget, e]
      rw [hr] at ih'
      rw [hc, List.filter_cons_of_neg (by simp [e])]
      simp at ih' ⊢
      omega
    · have hc : mget (p :: r) k = mget r k := by simp [mget, e]
      rw [hc, List.filter_cons_of_pos (by simpa using e), List.length_cons, List.length_cons]
      omega

theorem MView.del {D : DataW Value} {l : List (Int × Value)} (h : MView D l) (ht : Tidy D) (k : Int) : MView (D.del (.int .i64 k)) (l.filter (fun p => p.1 != k)) := by
  refine ⟨fun j => ?_, fun j u z hj => ?_, ?_, ?_, fun p hp => h.wf p (List.mem_filter.1 hp).1⟩
  · by_cases e : j = k
    · subst e
      rw [has_del_same, mget_filter_same]
      rfl
    · rw [has_del_other (int_ne e), h.has, mget_filter_other l e]
  · by_cases e : j = k
    · subst e
      rw [mget_filter_same] at hj
      cases hj
    · rw [atKey_del_other (int_ne e)]
      exact h.at_ j u z (by rw [← mget_filter_other l e]; exact hj)
  · have h1 := size_del (k := Lit.int .i64 k) ht
    have h2 := filter_len k l h.nodup
    rw [h.has, h.size] at h1
    omega
  · exact h.nodup.sublist (List.Sublist.map _ List.filter_sublist)

/-- Block b is a map that holds just l. -/
def MapI (P : Program) (kt : TypeId) (ok : Value → Bool) (w : World) (b : Nat) (l : List (Int × Value)) : Prop := ∃ D, w.ownsMap P kt (Rv ok) b l.length D ∧ MView D l

theorem ownsMap_tight {P : Program} {k : TypeId} {ok : Value → Bool} {w : World} {b n : Nat} {D : DataW Value} (h : w.ownsMap P k (Rv ok) b n D) : w.ownsMap P k (Rv ok) b (Maps.size D) D := by
  obtain ⟨es, clock, hb, F, _, rfl⟩ := h
  exact ⟨es, clock, hb, F, by simp [Maps.size, length_sorted], rfl⟩

section
variable {P : Program} {kt : TypeId} {ok : Value → Bool} {w w' : World} {b : Nat} {l : List (Int × Value)}

theorem MapI.lt (h : MapI P kt ok w b l) : b < w.heap.size := let ⟨_, h, _⟩ := h; h.lt
theorem MapI.kept {row : Option Nat} (h : MapI P kt ok w b l) (hg : w.grownBy w' row) (hne : some b ≠ row) : MapI P kt ok w' b l := let ⟨D, h, v⟩ := h; ⟨D, h.kept hg hne, v⟩
theorem MapI.same (h : MapI P kt ok w b l) (hb : w'.heap[b]? = w.heap[b]?) : MapI P kt ok w' b l := by
  obtain ⟨D, ⟨es, clock, he, F⟩, v⟩ := h
  exact ⟨D, ⟨es, clock, hb.trans he, F⟩, v⟩
theorem MapI.drew (h : MapI P kt ok w b l) : MapI P kt ok w.drew b l := h
theorem MapI.made (w : World) : MapI P kt ok (w.alloc (.map #[] 0)) w.heap.size [] := ⟨_, World.ownsMap_made w P kt (Rv ok), MView.empty⟩
theorem MapI.nodup (h : MapI P kt ok w b l) : (l.map (·.1)).Nodup := let ⟨_, _, v⟩ := h; v.nodup
theorem MapI.wf (h : MapI P kt ok w b l) : ∀ p ∈ l, (Lit.int .i64 p.1).wf = true := let ⟨_, _, v⟩ := h; v.wf

variable (hk : P.underlying kt = some (.int .i64)) {t e : TypeId} (ht : P.underlying t = some (.map kt e))
include hk ht

theorem MapI.look2 (h : MapI P kt ok w b l) {z : Value} (hz : (zeroValue e).run P w = .ok z w) (hzo : ok z = true) {k : Int} (hw : (Lit.int .i64 k).wf = true) :
    (Instr.lookup t (.map (some b)) (.int .i64 k) true).run P w = .ok (.tuple #[(mget l k).getD z, .bool (mget l k).isSome]) w := by
  obtain ⟨D, ho, v⟩ := h
  obtain ⟨u, ps, hrun, hu⟩ := ho.look_ok (int_keyed hk) ht hz (zd := .held z) (zp := []) (Rv_mk hzo) (keyOf_int_mk hk hw)
  rw [hrun, v.has]
  have hu' : DataW.held u = D.atKey (.int .i64 k) (.held z) := by
    have := (Rv_inv hu).2
    rw [Prod.mk.injEq] at this
    exact this.1.symm
  cases hg : mget l k with
  | none =>
    rw [atKey_of_not_has (by rw [v.has, hg]; rfl)] at hu'
    cases hu'
    rfl
  | some x =>
    rw [v.at_ k x _ hg] at hu'
    cases hu'
    rfl

theorem MapI.look1 (h : MapI P kt ok w b l) {z : Value} (hz : (zeroValue e).run P w = .ok z w) (hzo : ok z = true) {k : Int} (hw : (Lit.int .i64 k).wf = true) :
    (Instr.lookup t (.map (some b)) (.int .i64 k) false).run P w = .ok ((mget l k).getD z) w := by
  obtain ⟨D, ho, v⟩ := h
  obtain ⟨u, ps, hrun, hu⟩ := ho.lookup (int_keyed hk) ht hz (zd := .held z) (zp := []) (Rv_mk hzo) (keyOf_int_mk hk hw)
  rw [hrun]
  have hu' : DataW.held u = D.atKey (.int .i64 k) (.held z) := by
    have := (Rv_inv hu).2
    rw [Prod.mk.injEq] at this
    exact this.1.symm
  cases hg : mget l k with
  | none =>
    rw [atKey_of_not_has (by rw [v.has, hg]; rfl)] at hu'
    cases hu'
    rfl
  | some x =>
    rw [v.at_ k x _ hg] at hu'
    cases hu'
    rfl

theorem MapI.put (h : MapI P kt ok w b l) (hl : l.length ≤ 1000000) {k : Int} (hw : (Lit.int .i64 k).wf = true) (hn : mget l k = none) {u : Value} (hu : ok u = true) :
    ∃ w', (Instr.mapUpdate t (.map (some b)) (.int .i64 k) u).run P w = .ok () w' ∧ MapI P kt ok w' b (l ++ [(k, u)]) ∧ w.mapTurned w' b := by
  obtain ⟨D, ho, v⟩ := h
  obtain ⟨w', hrun, ho', ht'⟩ := ho.store (int_keyed hk) ht (by unfold maxLen; omega) (keyOf_int_mk hk hw) (Rv_mk hu)
  exact ⟨w', hrun, ⟨_, by simpa using ho', v.put (ho.tidy (int_keyed hk)) k u hw hn⟩, ht'⟩

theorem MapI.del (h : MapI P kt ok w b l) {k : Int} (hw : (Lit.int .i64 k).wf = true) (ty : TypeId) :
    ∃ w', (Builtin.delete_ #[t, kt] ty #[.map (some b), .int .i64 k]).run P w = .ok (.tuple #[]) w' ∧ MapI P kt ok w' b (l.filter (fun p => p.1 != k)) ∧ w.mapTurned w' b := by
  obtain ⟨D, ho, v⟩ := h
  obtain ⟨w', hrun, ho', ht'⟩ := ho.drop (int_keyed hk) ht (keyOf_int_mk hk hw) ty
  have v' := v.del (ho.tidy (int_keyed hk)) k
  exact ⟨w', hrun, ⟨_, by rw [← v'.size]; exact ownsMap_tight ho', v'⟩, ht'⟩

omit hk in
theorem MapI.len (h : MapI P kt ok w b l) (ty : TypeId) : (Builtin.len_ #[t] ty #[.map (some b)]).run P w = .ok (.int .i64 l.length) w := by
  obtain ⟨D, ho, v⟩ := h
  rw [ho.len ht ty, v.size]

omit ht in
/-- 'for k, v := range m': the next entry. -/
theorem wpList_next_I {β : Type} {ops : Array Oper} {rest : List Oper} {o : Oper} {a : Act} {Q : Exit → Act → World → Prop} (hg : o.guard = none) (it : Operand) (hop : o.op = Op.next it false) (mkV : β → Value) (invV : ∀ v, ok v = true → ∃ c, v = mkV c)
    {r n : Nat} {D : DataW Value} {left : Lit → Bool} {cnt : Nat} (v : MView D l) (hit : a.eval it = .pointer (some ⟨r, 0, none⟩)) (h : w.ranges P kt (Rv ok) b r n D left cnt)
    (hDone : cnt = 0 → (∀ kl, left kl = false) → wpList P ops Q rest (a.put o.dst (.tuple #[.bool false])) w)
    (hMore : ∀ (x : Int) (c : β) (w' : World) (cnt' : Nat), (Lit.int .i64 x).wf = true → left (.int .i64 x) = true → mget l x = some (mkV c) → w'.ranges P kt (Rv ok) b r n D (fun z => left z && !z.sameKey (.int .i64 x)) cnt' → cnt' < cnt →
      w.grownBy w' (some r) → w'.heap.size = w.heap.size → (Instr.entry (.pointer (some ⟨r, 0, none⟩))).run P w' = .ok (.tuple #[.int .i64 x, mkV c]) w' → wpList P ops Q rest (a.put o.dst (.tuple #[.bool true, .int .i64 x, mkV c])) w') :
    wpList P ops Q (o :: rest) a w := by
  refine wpList_next_ranges w hg it hop kt (int_keyed hk) (Rv ok) (Value.int .i64) mkV (fun key kl hkey => by obtain ⟨x, rfl, _⟩ := Maps.keyOf_int_inv hk hkey; exact ⟨x, rfl⟩) (fun u y hu => invV u (Rv_inv hu).1) b r n D left cnt hit h hDone ?_
  intro x c kl y w' cnt' hkey hleft hR hat hrg hlt hgr hsz hen
  obtain ⟨x', hx, rfl, hwx⟩ := Maps.keyOf_int_inv hk hkey
  obtain rfl : x = x' := by cases hx; rfl
  have hy := (Rv_inv hR).2
  have hhas : Maps.has D (.int .i64 x) = true := Maps.has_true_of_atKey hat
  rw [v.has] at hhas
  obtain ⟨u, hu⟩ := Option.isSome_iff_exists.1 hhas
  have h1 := v.at_ x u (.nil) hu
  rw [hat, hy] at h1
  have h2 : mkV c = u := by injection h1
  exact hMore x c w' cnt' hwx hleft (by rw [h2]; exact hu) hrg hlt hgr hsz hen
end

/-- The map's block alone has turned. -/
theorem Kp.of_map {w w' : World} {b : Nat} (h : w.mapTurned w' b) : Kp [b] w w' :=
  ⟨h.grown.os, h.grown.tape, h.grown.output, h.grown.size, fun k hk hn => h.grown.block k hk (fun e => hn (by cases e; simp))⟩
end Go.Proofs.YtlccfpbbdgpjbaaGreatDoor
