import Derived.Test.YtlccfpbbdgpjbaaGreatDoorCards
import Derived.Test.YtlccfpbbdgpjbaaGreatDoorTie
import Derived.Test.YtlccfpbbdgpjbaaGreatDoorKBeside
import Derived.Deep.Slices
import Derived.ProofKit
import Derived.LaidLaws
import Derived.LaidHandle
import Derived.Stop.Joined
import Derived.SevenTiedAt
namespace Go.Proofs.YtlccfpbbdgpjbaaGreatDoor
open Go.ChangeShapes Go.WideShapes Go.RowKit Go.Deep

theorem Tryz.ownK : ownKnob Tryz.prog.godebug = none := by kernel_rfl
theorem Tryz.laidOutK : laidOutB Tryz.prog = true := by kernel_rfl
theorem Tryz.etK : Tryz.prog.globalNamed "errors.errorType" = some 0 := by kernel_rfl
theorem Tryz.rtK : (Tryz.prog.cutTypes.find? (·.1 == "internal/reflectlite.rtype")).map (·.2) = some 190 := by kernel_rfl
theorem Tryz.oneRowK : ((List.range 262).filter fun t => Tryz.prog.rowNamed t [101, 114, 114, 111, 114]) = [82] := by kernel_rfl
theorem Tryz.sizeK : Tryz.prog.types.size = 262 := by kernel_rfl

/-- What the listed variable gives a walk: its one cell. -/
theorem handle_of_laidK {W : World} (h : laidMetH Tryz.prog Rows.besideRow.laid W) : Laid W := by
  have h' : laidMet Tryz.prog [] W ∧ handlesMet Tryz.prog Rows.besideRow.laid W := h
  obtain ⟨name, u, ty, e1, e2, e3, e4, e5⟩ := h'.2 _ (List.mem_singleton.2 rfl)
  have en : name = [101, 114, 114, 111, 114] := (Option.some.inj e1).symm
  subst en
  obtain rfl := Option.some.inj (Tryz.rtK.symm.trans e2)
  have hm : ty ∈ (List.range 262).filter fun t => Tryz.prog.rowNamed t [101, 114, 114, 111, 114] := List.mem_filter.2 ⟨List.mem_range.2 (by rw [← Tryz.sizeK]; exact e3), e4⟩
  rw [Tryz.oneRowK] at hm
  obtain rfl := List.mem_singleton.1 hm
  have hh : typeHandle Tryz.prog 82 = .pointer (some ⟨1, 82, none⟩) := by kernel_rfl
  rw [hh] at e5
  simpa [Laid] using World.var?_cell Tryz.etK e5 0

/-- A world that meets the condition: the settled one, the variable's cell laid. -/
noncomputable def laidWorldK (os : Os) : World :=
  let w0 := World.holding Tryz.prog os ⟨#[], #[], []⟩
  { w0 with heap := w0.heap.modify 0 fun
      | .cells _ t frozen => .cells #[.iface 190 (.agg #[.pointer (some ⟨1, 82, none⟩)])] t frozen
      | o => o }
theorem laidWorldK_met (os : Os) (args : Array Value) : laidMetH Tryz.prog Rows.besideRow.laid ((laidWorldK os).forCall (fun _ _ => 0) ⟨#[], args, []⟩).memory :=
  laidMetH_of_parts (laidMet_nil _ _) (by kernel_rfl)


theorem Tryz.cellsK : Tryz.prog.cellsOf 3 = 1 := by kernel_rfl

/-- Raw numbers, as they lie. -/
theorem ints_of {H : Type} {enc : TypeId × Value → H} {W : World} {fuel : Nat} {A : Option Addr} {len cap : Nat} {x : DataW H × List MemPlace}
    (h : DataW.trod enc Tryz.prog W 0 (fun _ => true) true fuel 45 [.slice A len cap] = some x) : ∃ zs, IntsAt W A len zs ∧ ∀ {ts : List TypeId} {r : List (DataW H)}, (DataW.weightsEach Tryz.prog (45 :: ts) (x.1 :: r)).all (· ≤ reachBytes) = true → len * 8 ≤ 140737488355328 := by
  rcases open_slice1 Tryz.underlying45 Tryz.cellsK h with ⟨h0, _⟩ | ⟨a, len', cap', m, n, V, D, Pl, h0, hb, hl, hm, hmm, hx, hel⟩
  · simp at h0
    obtain ⟨rfl, rfl, rfl⟩ := h0
    exact ⟨[], ⟨rfl, (fun z hz => by cases hz), (by simp), .inl rfl⟩, fun _ => by omega⟩
  · simp at h0
    obtain ⟨rfl, rfl, rfl⟩ := h0
    have hm' : m = cap := by simpa using hmm
    subst hm'
    have hz : ∀ i, i < len → ∃ z : Int, V i = .int .i64 z ∧ -9223372036854775808 ≤ z ∧ z ≤ 9223372036854775807 := fun i hi => by
      obtain ⟨_, h2⟩ := hel i (by omega)
      obtain ⟨z, hz, _, hwf⟩ := DataW.trod_int Tryz.underlying3 h2
      refine ⟨z, by simpa using hz, ?_⟩
      have h3 : IntKind.i64.min ≤ z ∧ z ≤ IntKind.i64.max := by simpa [Lit.wf] using hwf
      have h4 : IntKind.i64.min = -9223372036854775808 := by decide
      have h5 : IntKind.i64.max = 9223372036854775807 := by decide
      rw [h4, h5] at h3
      exact h3
    have hby : Tryz.prog.bytesOf 3 = 8 := by kernel_rfl
    have hwt : ∀ {ts : List TypeId} {r : List (DataW H)}, (DataW.weightsEach Tryz.prog (45 :: ts) (x.1 :: r)).all (· ≤ reachBytes) = true → len * 8 ≤ 140737488355328 := fun {ts r} hs => by
      rw [hx] at hs
      simp only [DataW.weightsEach, DataW.weights, Tryz.underlying45, List.cons_append, List.all_cons, Bool.and_eq_true, decide_eq_true_eq, List.length_map, List.length_range, hby] at hs
      have h1 := hs.1
      unfold reachBytes at h1
      omega
    refine ⟨(List.range len).map (fun i => match V i with | .int .i64 z => z | _ => 0), ⟨by simp, ?_, by omega, ?_⟩, hwt⟩
    · intro z hz'
      obtain ⟨i, hi, rfl⟩ := List.mem_map.1 hz'
      obtain ⟨z, e, hr⟩ := hz i (List.mem_range.1 hi)
      rw [e]
      exact hr
    · by_cases h00 : len = 0
      · exact .inl h00
      · right
        obtain ⟨e0, _⟩ := hel 0 (by omega)
        have sp : a.spot = none := by
          have := World.cell?_spot e0
          simpa [Addr.add] using this
        have lt0 : a.block < W.heap.size := by
          have := World.block_lt_of_cell? W _ e0
          simpa [Addr.add] using this
        obtain ⟨sb, so, spt⟩ := a
        simp at sp lt0
        subst sp
        refine ⟨sb, so, rfl, lt0, fun k hk => ?_⟩
        have hk' : k < len := by simpa using hk
        obtain ⟨e1, _⟩ := hel k (by omega)
        obtain ⟨z, e, _⟩ := hz k hk'
        rw [e, add_plain] at e1
        simp only [List.getElem_map, List.getElem_range]
        rw [e]
        exact e1

set_option maxRecDepth 100000 in
theorem beside_lifted (os : Os) (started : os.Started) (H : Type) (enc : TypeId × Value → H) :
    ReturnsInHanded {} Tryz.checked os 11 .any (fun w args => (Rows.besideSpec.pre enc Tryz.prog Tryz.f11 [] false w args ∧ laidMetH Tryz.prog Rows.besideRow.laid w) ∧ sizedMet enc Tryz.prog Tryz.f11 (OpenSpec.ofChange Rows.besideSpec) false w args)
      (Rows.besideSpec.post enc Tryz.prog Tryz.f11 false true false false) := by
  refine returnsInHanded_of_change_and (C := Tryz.checked) (X := fun w _ => laidMetH Tryz.prog Rows.besideRow.laid w) (fun _ _ _ hh h => h.of_heap hh) Tryz.ownK started (by kernel_rfl) Tryz.func11
    (ChangeSpec.witness_at (enc := enc) (C := Tryz.checked) (os := os) (X := fun w _ => laidMetH Tryz.prog Rows.besideRow.laid w) false (laidWorldK os) #[.slice none 0 0, .int .i64 0, .int .i64 0] 8 rfl (by kernel_rfl) (by kernel_rfl) (by kernel_rfl) (by kernel_rfl) (by kernel_rfl) (laidWorldK_met os _)) ?_
  intro W base args ds gs before hval0 hW _ hsz0 hL _
  have hval : ∀ (j : Nat) t v, Tryz.f11.params[j]? = some t → args[j]? = some v → Value.okWide Tryz.prog W .any base t v := hval0
  have hW' := hW
  obtain ⟨p, q, hA0, hV0, rfl, hfz, hnd⟩ := hW
  have hA : DataW.TrodAll enc Tryz.prog W 0 (fun _ => true) true Tryz.f11.params.toList args.toList ds p := hA0
  have hV : DataW.TrodVars enc Tryz.prog W (fun _ => true) [] gs q := hV0
  rw [Tryz.params11] at hA hval
  obtain ⟨v0, v1, v2, d0, d1, d2, p0, p1, p2, rfl, rfl, rfl, h0, h1, h2⟩ := trodAll_three hA
  obtain ⟨A, len, cap, rfl⟩ := okWide_slice Tryz.underlying45 (hval 0 45 v0 rfl rfl)
  obtain ⟨rank, rfl, rfl, rfl, wf1⟩ := open_int Tryz.underlying3 (hval 1 3 v1 rfl rfl) h1
  obtain ⟨which, rfl, rfl, rfl, wf2⟩ := open_int Tryz.underlying3 (hval 2 3 v2 rfl rfl) h2
  have hg := handle_of_laidK hL
  obtain ⟨rfl, rfl⟩ : gs = [] ∧ q = [] := by
    cases gs with
    | nil => exact ⟨rfl, hV⟩
    | cons g r => exact absurd hV (by intro h; cases h)
  have hsz : (DataW.weightsEach Tryz.prog (45 :: ([3, 3] ++ Rows.besideSpec.plain.varTypes Tryz.prog)) (d0 :: ([.lit (.int .i64 rank), .lit (.int .i64 which)] ++ []))).all (· ≤ reachBytes) = true := by
    have := hsz0
    rw [Tryz.params11] at this
    exact this
  have hlt : ∀ x ∈ p0, x.block < W.heap.size := fun x hx => hW'.lt x (by simp only [List.append_nil]; exact hx)
  have e1 : Rows.besideSpec.fn H ([d0, .lit (.int .i64 rank), .lit (.int .i64 which)] ++ []) = { results := [.lit (.bool true)], args := [d0, .lit (.int .i64 rank), .lit (.int .i64 which)] } := by simp [Rows.besideSpec]
  have rng : ∀ {z : Int}, (Lit.int .i64 z).wf = true → -9223372036854775808 ≤ z ∧ z ≤ 9223372036854775807 := fun {z} h => by
    have h3 : IntKind.i64.min ≤ z ∧ z ≤ IntKind.i64.max := by simpa [Lit.wf] using h
    have h4 : IntKind.i64.min = -9223372036854775808 := by decide
    have h5 : IntKind.i64.max = 9223372036854775807 := by decide
    rw [h4, h5] at h3
    exact h3
  have walk : Calls Tryz.prog 11 #[.slice A len cap, .int .i64 rank, .int .i64 which] W fun e w' => e = .returned (.bool true) ∧ Below W.heap.size W w' := by
    obtain ⟨fuel, hf⟩ := h0
    obtain ⟨zs, hzs, h8⟩ := ints_of hf
    exact beside_walk A len cap zs rank which (rng wf1) (rng wf2) W hg hzs (h8 hsz)
  refine walk.mono fun e W' ⟨he, hb⟩ => ?_
  subst he
  refine ⟨_, rfl, _, _, _, [], p0 ++ [] ++ [], [], hW', ?_, ?_, ?_, ?_, fun h => by cases h⟩
  · rw [e1]; exact trodAll_mk1 (shut_bool Tryz.underlying4 true)
  · rw [e1, List.append_assoc]; exact trodAll_mk3 (Below.trod Tryz.laidOutK (by kernel_rfl) (of_decide_eq_true (by kernel_rfl)) h0 hb hlt) (shut_int Tryz.underlying3 wf1) (shut_int Tryz.underlying3 wf2)
  · rw [e1]; rfl
  · exact hb.frame _

theorem beside_said : Rows.BesideSaid :=
  OpenClaim.holds_of_wide 11 Tryz.f11 rfl rfl rfl rfl rfl rfl rfl ⟨rfl, rfl, rfl, rfl, rfl⟩ rfl rfl rfl rfl rfl (by kernel_rfl) Tryz.func11 (by kernel_rfl)
    (of_decide_eq_true (by kernel_rfl)) (by unfold Func.isWrapper; rw [if_neg (of_decide_eq_false (by kernel_rfl))]; exact ⟨rfl, rfl⟩)
    (fun os started H enc _ => beside_lifted os started H enc)

theorem beside_card : Rows.BesideCardSaid :=
  Claim7.holds_tied_plain_at .later [] _ _ _ _ beside_said (fun _ h => by cases h) (by kernel_rfl) (fun _ h => by cases h) beside_row_tie rfl ⟨rfl, rfl⟩ (by kernel_rfl) rfl
    (fun f fn hf hfn => by
      obtain rfl : f = 11 := Option.some.inj ((show Tryz.prog.funcNamed "couriers/courierskeep.Beside" = some 11 by kernel_rfl).symm.trans hf) |>.symm
      obtain rfl : fn = Tryz.f11 := (Option.some.inj (Tryz.func11.symm.trans hfn)).symm
      refine ⟨by kernel_rfl, fun j t ht => ?_⟩
      rw [Tryz.params11] at ht
      have hmem : t = 45 ∨ t = 3 := by
        have := Array.mem_of_getElem? ht
        simp at this
        rcases this with h | h
        · exact .inl h
        · exact .inr h
      rcases hmem with rfl | rfl
      · exact (show Tryz.prog.wantsStandIn 45 = false by kernel_rfl)
      · exact (show Tryz.prog.wantsStandIn 3 = false by kernel_rfl))
    (by kernel_rfl)
#print axioms beside_card
end Go.Proofs.YtlccfpbbdgpjbaaGreatDoor
