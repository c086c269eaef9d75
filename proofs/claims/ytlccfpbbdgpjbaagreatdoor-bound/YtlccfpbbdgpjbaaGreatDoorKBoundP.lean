import Derived.Test.YtlccfpbbdgpjbaaGreatDoorCards
import Derived.Test.YtlccfpbbdgpjbaaGreatDoorTie
import Derived.Test.YtlccfpbbdgpjbaaGreatDoorKBound
import Derived.Deep.Slices
import Derived.ProofKit
import Derived.LaidLaws
import Derived.LaidHandle
import Derived.Stop.Joined
import Derived.SevenTiedAt
namespace Go.Proofs.YtlccfpbbdgpjbaaGreatDoor
open Go.ChangeShapes Go.WideShapes Go.RowKit Go.Deep

theorem Tryz.ownK : ownKnob Tryz.prog.godebug = none := by kernel_rfl
theorem Tryz.laidOutK : laidOutB Tryz.prog = true := by kernel_rfl
theorem Tryz.etK : Tryz.prog.globalNamed "errors.errorType" = some 0 := by kernel_rfl
theorem Tryz.rtK : (Tryz.prog.cutTypes.find? (·.1 == "internal/reflectlite.rtype")).map (·.2) = some 190 := by kernel_rfl
theorem Tryz.oneRowK : ((List.range 262).filter fun t => Tryz.prog.rowNamed t [101, 114, 114, 111, 114]) = [82] := by kernel_rfl
theorem Tryz.sizeK : Tryz.prog.types.size = 262 := by kernel_rfl

/-- What the listed variable gives a walk: its one cell. -/
theorem handle_of_laidK {W : World} (h : laidMetH Tryz.prog Rows.boundRow.laid W) : Laid W := by
  have h' : laidMet Tryz.prog [] W ∧ handlesMet Tryz.prog Rows.boundRow.laid W := h
  obtain ⟨name, u, ty, e1, e2, e3, e4, e5⟩ := h'.2 _ (List.mem_singleton.2 rfl)
  have en : name = [101, 114, 114, 111, 114] := (Option.some.inj e1).symm
  subst en
  obtain rfl := Option.some.inj (Tryz.rtK.symm.trans e2)
  have hm : ty ∈ (List.range 262).filter fun t => Tryz.prog.rowNamed t [101, 114, 114, 111, 114] := List.mem_filter.2 ⟨List.mem_range.2 (by rw [← Tryz.sizeK]; exact e3), e4⟩
  rw [Tryz.oneRowK] at hm
  obtain rfl := List.mem_singleton.1 hm
  have hh : typeHandle Tryz.prog 82 = .pointer (some ⟨1, 82, none⟩) := by kernel_rfl
  rw [hh] at e5
  simpa [Laid] using World.var?_cell Tryz.etK e5 0

/-- A world that meets the condition: the settled one, the variable's cell laid. -/
noncomputable def laidWorldK (os : Os) : World :=
  let w0 := World.holding Tryz.prog os ⟨#[], #[], []⟩
  { w0 with heap := w0.heap.modify 0 fun
      | .cells _ t frozen => .cells #[.iface 190 (.agg #[.pointer (some ⟨1, 82, none⟩)])] t frozen
      | o => o }
theorem laidWorldK_met (os : Os) (args : Array Value) : laidMetH Tryz.prog Rows.boundRow.laid ((laidWorldK os).forCall (fun _ _ => 0) ⟨#[], args, []⟩).memory :=
  laidMetH_of_parts (laidMet_nil _ _) (by kernel_rfl)


theorem Tryz.cellsK : Tryz.prog.cellsOf 3 = 1 := by kernel_rfl

/-- Raw numbers, as they lie. -/
theorem ints_of {H : Type} {enc : TypeId × Value → H} {W : World} {fuel : Nat} {A : Option Addr} {len cap : Nat} {x : DataW H × List MemPlace}
    (h : DataW.trod enc Tryz.prog W 0 (fun _ => true) true fuel 45 [.slice A len cap] = some x) : ∃ zs, IntsAt W A len zs ∧ len ≤ cap := by
  rcases open_slice1 Tryz.underlying45 Tryz.cellsK h with ⟨h0, _⟩ | ⟨a, len', cap', m, n, V, D, Pl, h0, hb, hl, hm, hmm, hx, hel⟩
  · simp at h0
    obtain ⟨rfl, rfl, rfl⟩ := h0
    exact ⟨[], ⟨rfl, (fun z hz => by cases hz), (by simp), .inl rfl⟩, Nat.le_refl _⟩
  · simp at h0
    obtain ⟨rfl, rfl, rfl⟩ := h0
    have hm' : m = cap := by simpa using hmm
    subst hm'
    have hz : ∀ i, i < len → ∃ z : Int, V i = .int .i64 z ∧ -9223372036854775808 ≤ z ∧ z ≤ 9223372036854775807 := fun i hi => by
      obtain ⟨_, h2⟩ := hel i (by omega)
      obtain ⟨z, hz, _, hwf⟩ := DataW.trod_int Tryz.underlying3 h2
      refine ⟨z, by simpa using hz, ?_⟩
      have h3 : IntKind.i64.min ≤ z ∧ z ≤ IntKind.i64.max := by simpa [Lit.wf] using hwf
      have h4 : IntKind.i64.min = -9223372036854775808 := by decide
      have h5 : IntKind.i64.max = 9223372036854775807 := by decide
      rw [h4, h5] at h3
      exact h3
    refine ⟨(List.range len).map (fun i => match V i with | .int .i64 z => z | _ => 0), ⟨by simp, ?_, by omega, ?_⟩, by omega⟩
    · intro z hz'
      obtain ⟨i, hi, rfl⟩ := List.mem_map.1 hz'
      obtain ⟨z, e, hr⟩ := hz i (List.mem_range.1 hi)
      rw [e]
      exact hr
    · by_cases h00 : len = 0
      · exact .inl h00
      · right
        obtain ⟨e0, _⟩ := hel 0 (by omega)
        have sp : a.spot = none := by
          have := World.cell?_spot e0
          simpa [Addr.add] using this
        have lt0 : a.block < W.heap.size := by
          have := World.block_lt_of_cell? W _ e0
          simpa [Addr.add] using this
        obtain ⟨sb, so, spt⟩ := a
        simp at sp lt0
        subst sp
        refine ⟨sb, so, rfl, lt0, fun k hk => ?_⟩
        have hk' : k < len := by simpa using hk
        obtain ⟨e1, _⟩ := hel k (by omega)
        obtain ⟨z, e, _⟩ := hz k hk'
        rw [e, add_plain] at e1
        simp only [List.getElem_map, List.getElem_range]
        rw [e]
        exact e1

set_option maxRecDepth 100000 in
theorem bound_lifted (os : Os) (started : os.Started) (H : Type) (enc : TypeId × Value → H) :
    ReturnsInHanded {} Tryz.checked os 9 .any (fun w args => (Rows.boundSpec.pre enc Tryz.prog Tryz.f9 [] false w args ∧ laidMetH Tryz.prog Rows.boundRow.laid w) ∧ sizedMet enc Tryz.prog Tryz.f9 (OpenSpec.ofChange Rows.boundSpec) false w args)
      (Rows.boundSpec.post enc Tryz.prog Tryz.f9 false true false false) := by
  refine returnsInHanded_of_change_and (C := Tryz.checked) (X := fun w _ => laidMetH Tryz.prog Rows.boundRow.laid w) (fun _ _ _ hh h => h.of_heap hh) Tryz.ownK started (by kernel_rfl) Tryz.func9
    (ChangeSpec.witness_at (enc := enc) (C := Tryz.checked) (os := os) (X := fun w _ => laidMetH Tryz.prog Rows.boundRow.laid w) false (laidWorldK os) #[.slice none 0 0, .slice none 0 0] 8 rfl (by kernel_rfl) (by kernel_rfl) (by kernel_rfl) (by kernel_rfl) (by kernel_rfl) (laidWorldK_met os _)) ?_
  intro W base args ds gs before hval0 hW _ _ hL _
  have hval : ∀ (j : Nat) t v, Tryz.f9.params[j]? = some t → args[j]? = some v → Value.okWide Tryz.prog W .any base t v := hval0
  have hW' := hW
  obtain ⟨p, q, hA0, hV0, rfl, hfz, hnd⟩ := hW
  have hA : DataW.TrodAll enc Tryz.prog W 0 (fun _ => true) true Tryz.f9.params.toList args.toList ds p := hA0
  have hV : DataW.TrodVars enc Tryz.prog W (fun _ => true) [] gs q := hV0
  rw [Tryz.params9] at hA hval
  obtain ⟨v0, v1, d0, d1, p0, p1, rfl, rfl, rfl, h0, h1⟩ := trodAll_two hA
  obtain ⟨A, len, cap, rfl⟩ := okWide_slice Tryz.underlying45 (hval 0 45 v0 rfl rfl)
  obtain ⟨A', len', cap', rfl⟩ := okWide_slice Tryz.underlying45 (hval 1 45 v1 rfl rfl)
  have hg := handle_of_laidK hL
  obtain ⟨rfl, rfl⟩ : gs = [] ∧ q = [] := by
    cases gs with
    | nil => exact ⟨rfl, hV⟩
    | cons g r => exact absurd hV (by intro h; cases h)
  have hlt : ∀ x ∈ p0 ++ p1, x.block < W.heap.size := fun x hx => hW'.lt x (by simp only [List.append_nil]; exact hx)
  have e1 : Rows.boundSpec.fn H ([d0, d1] ++ []) = { results := [.lit (.bool true)], args := [d0, d1] } := by simp [Rows.boundSpec]
  have walk : Calls Tryz.prog 9 #[.slice A len cap, .slice A' len' cap'] W fun e w' => e = .returned (.bool true) ∧ Below W.heap.size W w' := by
    obtain ⟨fuel, hf⟩ := h0
    obtain ⟨fuel', hf'⟩ := h1
    obtain ⟨zs, hzs, _⟩ := ints_of hf
    obtain ⟨zs', hzs', hcap'⟩ := ints_of hf'
    exact bound_walk A len cap zs A' len' cap' zs' W hg hzs hzs' hcap'
  refine walk.mono fun e W' ⟨he, hb⟩ => ?_
  subst he
  refine ⟨_, rfl, _, _, _, [], p0 ++ p1, [], hW', ?_, ?_, ?_, ?_, fun h => by cases h⟩
  · rw [e1]; exact trodAll_mk1 (shut_bool Tryz.underlying4 true)
  · rw [e1]; exact trodAll_mk2 (Below.trod Tryz.laidOutK (by kernel_rfl) (of_decide_eq_true (by kernel_rfl)) h0 hb (fun x hx => hlt x (List.mem_append_left _ hx))) (Below.trod Tryz.laidOutK (by kernel_rfl) (of_decide_eq_true (by kernel_rfl)) h1 hb (fun x hx => hlt x (List.mem_append_right _ hx)))
  · rw [e1]; rfl
  · exact hb.frame _

theorem bound_said : Rows.BoundSaid :=
  OpenClaim.holds_of_wide 9 Tryz.f9 rfl rfl rfl rfl rfl rfl rfl ⟨rfl, rfl, rfl, rfl, rfl⟩ rfl rfl rfl rfl rfl (by kernel_rfl) Tryz.func9 (by kernel_rfl)
    (of_decide_eq_true (by kernel_rfl)) (by unfold Func.isWrapper; rw [if_neg (of_decide_eq_false (by kernel_rfl))]; exact ⟨rfl, rfl⟩)
    (fun os started H enc _ => bound_lifted os started H enc)

theorem bound_card : Rows.BoundCardSaid :=
  Claim7.holds_tied_plain_at .later [] _ _ _ _ bound_said (fun _ h => by cases h) (by kernel_rfl) (fun _ h => by cases h) bound_row_tie rfl ⟨rfl, rfl⟩ (by kernel_rfl) rfl
    (fun f fn hf hfn => by
      obtain rfl : f = 9 := Option.some.inj ((show Tryz.prog.funcNamed "couriers/courierskeep.Bound" = some 9 by kernel_rfl).symm.trans hf) |>.symm
      obtain rfl : fn = Tryz.f9 := (Option.some.inj (Tryz.func9.symm.trans hfn)).symm
      refine ⟨by kernel_rfl, fun j t ht => ?_⟩
      rw [Tryz.params9] at ht
      obtain rfl : t = 45 := by simpa using Array.mem_of_getElem? ht
      exact (show Tryz.prog.wantsStandIn 45 = false by kernel_rfl))
    (by kernel_rfl)
#print axioms bound_card
end Go.Proofs.YtlccfpbbdgpjbaaGreatDoor
