/-
  The row of Makes, and its tied card.
-/
import Derived.Test.YtlccfpbbdgpjbaaGreatDoorCards
import Derived.Test.YtlccfpbbdgpjbaaGreatDoorTie
import Derived.Test.YtlccfpbbdgpjbaaGreatDoorMakes
import Derived.Test.YtlccfpbbdgpjbaaGreatDoorReads
import Derived.ProofKit
import Derived.LaidLaws
import Derived.LaidHandle
import Derived.Stop.Joined
import Derived.SevenTiedAt
namespace Go.Proofs.YtlccfpbbdgpjbaaGreatDoor
open Go.ChangeShapes Go.WideShapes Go.RowKit Go.Deep

theorem Tryz.own : ownKnob Tryz.prog.godebug = none := by kernel_rfl
theorem Tryz.laidOut : laidOutB Tryz.prog = true := by kernel_rfl
theorem Tryz.et : Tryz.prog.globalNamed "errors.errorType" = some 0 := by kernel_rfl
theorem Tryz.rt : (Tryz.prog.cutTypes.find? (·.1 == "internal/reflectlite.rtype")).map (·.2) = some 190 := by kernel_rfl
theorem Tryz.oneRow : ((List.range 262).filter fun t => Tryz.prog.rowNamed t [101, 114, 114, 111, 114]) = [82] := by kernel_rfl
theorem Tryz.size : Tryz.prog.types.size = 262 := by kernel_rfl

/-- What the listed variable gives a walk: its one cell. -/
theorem handle_of_laid {W : World} (h : laidMetH Tryz.prog Rows.makesRow.laid W) : Laid W := by
  have h' : laidMet Tryz.prog [] W ∧ handlesMet Tryz.prog Rows.makesRow.laid W := h
  obtain ⟨name, u, ty, e1, e2, e3, e4, e5⟩ := h'.2 _ (List.mem_singleton.2 rfl)
  have en : name = [101, 114, 114, 111, 114] := (Option.some.inj e1).symm
  subst en
  obtain rfl := Option.some.inj (Tryz.rt.symm.trans e2)
  have hm : ty ∈ (List.range 262).filter fun t => Tryz.prog.rowNamed t [101, 114, 114, 111, 114] := List.mem_filter.2 ⟨List.mem_range.2 (by rw [← Tryz.size]; exact e3), e4⟩
  rw [Tryz.oneRow] at hm
  obtain rfl := List.mem_singleton.1 hm
  have hh : typeHandle Tryz.prog 82 = .pointer (some ⟨1, 82, none⟩) := by kernel_rfl
  rw [hh] at e5
  simpa [Laid] using World.var?_cell Tryz.et e5 0

/-- A world that meets the condition: the settled one, the variable's cell laid. -/
noncomputable def laidWorld (os : Os) : World :=
  let w0 := World.holding Tryz.prog os ⟨#[], #[], []⟩
  { w0 with heap := w0.heap.modify 0 fun
      | .cells _ t frozen => .cells #[.iface 190 (.agg #[.pointer (some ⟨1, 82, none⟩)])] t frozen
      | o => o }
theorem laidWorld_met (os : Os) (args : Array Value) : laidMetH Tryz.prog Rows.makesRow.laid ((laidWorld os).forCall (fun _ _ => 0) ⟨#[], args, []⟩).memory :=
  laidMetH_of_parts (laidMet_nil _ _) (by kernel_rfl)

/-- Twenty cells, each of its kind, are an Op. -/
theorem isOp_of {cs : List Value} (hl : cs.length = 20) (hz : ∀ k, k < 20 → k ≠ 17 → k ≠ 18 → ∃ z, cs[k]? = some (.int .i64 z)) (h17 : ∃ z, cs[17]? = some (.bool z)) (h18 : ∃ z, cs[18]? = some (.int .u64 z)) : ∃ kd, IsOp kd cs := by
  obtain ⟨kd, z0⟩ := hz 0 (by omega) (by omega) (by omega)
  obtain ⟨n, z1⟩ := hz 1 (by omega) (by omega) (by omega)
  obtain ⟨a, z2⟩ := hz 2 (by omega) (by omega) (by omega)
  obtain ⟨b, z3⟩ := hz 3 (by omega) (by omega) (by omega)
  obtain ⟨c, z4⟩ := hz 4 (by omega) (by omega) (by omega)
  obtain ⟨d, z5⟩ := hz 5 (by omega) (by omega) (by omega)
  obtain ⟨e, z6⟩ := hz 6 (by omega) (by omega) (by omega)
  obtain ⟨f, z7⟩ := hz 7 (by omega) (by omega) (by omega)
  obtain ⟨g, z8⟩ := hz 8 (by omega) (by omega) (by omega)
  obtain ⟨h', z9⟩ := hz 9 (by omega) (by omega) (by omega)
  obtain ⟨i, z10⟩ := hz 10 (by omega) (by omega) (by omega)
  obtain ⟨j, z11⟩ := hz 11 (by omega) (by omega) (by omega)
  obtain ⟨e0, z12⟩ := hz 12 (by omega) (by omega) (by omega)
  obtain ⟨e1, z13⟩ := hz 13 (by omega) (by omega) (by omega)
  obtain ⟨e2, z14⟩ := hz 14 (by omega) (by omega) (by omega)
  obtain ⟨e3, z15⟩ := hz 15 (by omega) (by omega) (by omega)
  obtain ⟨e4, z16⟩ := hz 16 (by omega) (by omega) (by omega)
  obtain ⟨e5, z17⟩ := h17
  obtain ⟨e6, z18⟩ := h18
  obtain ⟨e7, z19⟩ := hz 19 (by omega) (by omega) (by omega)
  refine ⟨kd, n, a, b, c, d, e, f, g, h', i, j, e0, e1, e2, e3, e4, e6, e7, e5, ?_⟩
  refine List.ext_getElem? fun k => ?_
  by_cases hk : k < 20
  · match k, hk with
    | 0, _ => rw [z0]; rfl
    | 1, _ => rw [z1]; rfl
    | 2, _ => rw [z2]; rfl
    | 3, _ => rw [z3]; rfl
    | 4, _ => rw [z4]; rfl
    | 5, _ => rw [z5]; rfl
    | 6, _ => rw [z6]; rfl
    | 7, _ => rw [z7]; rfl
    | 8, _ => rw [z8]; rfl
    | 9, _ => rw [z9]; rfl
    | 10, _ => rw [z10]; rfl
    | 11, _ => rw [z11]; rfl
    | 12, _ => rw [z12]; rfl
    | 13, _ => rw [z13]; rfl
    | 14, _ => rw [z14]; rfl
    | 15, _ => rw [z15]; rfl
    | 16, _ => rw [z16]; rfl
    | 17, _ => rw [z17]; rfl
    | 18, _ => rw [z18]; rfl
    | 19, _ => rw [z19]; rfl
    | k + 20, h => exact absurd h (by omega)
  · rw [List.getElem?_eq_none (by omega), List.getElem?_eq_none (by simp; omega)]

/-- The elements of the script, as they lie. -/
theorem ops_of {H : Type} {enc : TypeId × Value → H} {W : World} {fuel : Nat} {A : Option Addr} {len cap : Nat} {x : DataW H × List MemPlace}
    (h : DataW.trod enc Tryz.prog W 0 (fun _ => true) true fuel 22 [.slice A len cap] = some x) :
    len = 0 ∨ ∃ sb so, A = some ⟨sb, so, none⟩ ∧ len ≤ maxLen ∧ sb < W.heap.size ∧ ∀ k, k < len → OpAt W sb (so + k * 20) := by
  rcases open_slice Tryz.underlying22 h with ⟨h0, _⟩ | ⟨a, len', cap', m, n, D, Pl, h0, hb, hl, hm, hmm, hx, hel⟩
  · left
    simp at h0
    exact h0.2.1
  · simp at h0
    obtain ⟨rfl, rfl, rfl⟩ := h0
    by_cases hz : len = 0
    · exact .inl hz
    · right
      have hm' : m = cap := by simpa using hmm
      subst hm'
      rw [Tryz.cells41] at hel
      obtain ⟨cs0, g1, g2⟩ := hel 0 (by omega)
      obtain ⟨_, l0, c0⟩ := World.cells?_some g1
      have e0 := c0 0 (by omega)
      rw [add_add, List.getElem?_eq_getElem (by omega)] at e0
      have sp : a.spot = none := by
        have := World.cell?_spot e0
        simpa [Addr.add] using this
      have lt0 : a.block < W.heap.size := by
        have := World.block_lt_of_cell? W _ e0
        simpa [Addr.add] using this
      obtain ⟨sb, so, spt⟩ := a
      simp at sp lt0
      subst sp
      refine ⟨sb, so, rfl, by omega, lt0, fun k hk => ?_⟩
      obtain ⟨cs, h1, h2⟩ := hel k (by omega)
      obtain ⟨_, hlen, hc⟩ := World.cells?_some h1
      obtain ⟨q, q17, q18⟩ := op_at h2
      obtain ⟨kd, hop⟩ := isOp_of hlen q q17 q18
      refine ⟨kd, cs, fun j v hv => ?_, hop⟩
      have hj : j < 20 := by
        have := (List.getElem?_eq_some_iff.1 hv).1
        omega
      have := hc j hj
      rw [add_add, hv, add_plain] at this
      rw [Nat.add_assoc]
      exact this

set_option maxRecDepth 100000 in
theorem makes_lifted (os : Os) (started : os.Started) (H : Type) (enc : TypeId × Value → H) :
    ReturnsInHanded {} Tryz.checked os 3 .any (fun w args => (Rows.makesSpec.pre enc Tryz.prog Tryz.f3 [] false w args ∧ laidMetH Tryz.prog Rows.makesRow.laid w) ∧ sizedMet enc Tryz.prog Tryz.f3 (OpenSpec.ofChange Rows.makesSpec) false w args)
      (Rows.makesSpec.post enc Tryz.prog Tryz.f3 false true false false) := by
  refine returnsInHanded_of_change_and (C := Tryz.checked) (X := fun w _ => laidMetH Tryz.prog Rows.makesRow.laid w) (fun _ _ _ hh h => h.of_heap hh) Tryz.own started (by kernel_rfl) Tryz.func3
    (ChangeSpec.witness_at (enc := enc) (C := Tryz.checked) (os := os) (X := fun w _ => laidMetH Tryz.prog Rows.makesRow.laid w) false (laidWorld os) #[.slice none 0 0] 8 rfl (by kernel_rfl) (by kernel_rfl) (by kernel_rfl) (by kernel_rfl) (by kernel_rfl) (laidWorld_met os _)) ?_
  intro W base args ds gs before hval0 hW _ _ hL _
  have hval : ∀ (j : Nat) t v, Tryz.f3.params[j]? = some t → args[j]? = some v → Value.okWide Tryz.prog W .any base t v := hval0
  have hW' := hW
  obtain ⟨p, q, hA0, hV0, rfl, hfz, hnd⟩ := hW
  have hA : DataW.TrodAll enc Tryz.prog W 0 (fun _ => true) true Tryz.f3.params.toList args.toList ds p := hA0
  have hV : DataW.TrodVars enc Tryz.prog W (fun _ => true) [] gs q := hV0
  rw [Tryz.params3] at hA hval
  obtain ⟨v0, d0, rfl, rfl, h0⟩ := trodAll_one hA
  obtain ⟨A, len, cap, rfl⟩ := okWide_slice Tryz.underlying22 (hval 0 22 v0 rfl rfl)
  have hg := handle_of_laid hL
  obtain ⟨rfl, rfl⟩ : gs = [] ∧ q = [] := by
    cases gs with
    | nil => exact ⟨rfl, hV⟩
    | cons g r => exact absurd hV (by intro h; cases h)
  have hlt : ∀ x ∈ p, x.block < W.heap.size := fun x hx => hW'.lt x (by simp [hx])
  have e1 : Rows.makesSpec.fn H ([d0] ++ []) = { results := [.lit (.bool true)], args := [d0] } := by simp [Rows.makesSpec]
  have walk : Calls Tryz.prog 3 #[.slice A len cap] W fun e w' => e = .returned (.bool true) ∧ Below W.heap.size W w' := by
    obtain ⟨fuel, hf⟩ := h0
    rcases ops_of hf with rfl | ⟨sb, so, rfl, hl, hs, hO⟩
    · exact makes_empty A cap W hg
    · exact makes_full sb so len cap W hg hl hs hO
  refine walk.mono fun e W' ⟨he, hb⟩ => ?_
  subst he
  refine ⟨_, rfl, _, _, _, [], p, [], hW', ?_, ?_, ?_, ?_, fun h => by cases h⟩
  · rw [e1]; exact trodAll_mk1 (shut_bool Tryz.underlying4 true)
  · rw [e1]; exact trodAll_mk1 (Below.trod Tryz.laidOut (by kernel_rfl) (of_decide_eq_true (by kernel_rfl)) h0 hb hlt)
  · rw [e1]; rfl
  · exact hb.frame _

theorem makes_said : Rows.MakesSaid :=
  OpenClaim.holds_of_wide 3 Tryz.f3 rfl rfl rfl rfl rfl rfl rfl ⟨rfl, rfl, rfl, rfl, rfl⟩ rfl rfl rfl rfl rfl (by kernel_rfl) Tryz.func3 (by kernel_rfl)
    (of_decide_eq_true (by kernel_rfl)) (by unfold Func.isWrapper; rw [if_neg (of_decide_eq_false (by kernel_rfl))]; exact ⟨rfl, rfl⟩)
    (fun os started H enc _ => makes_lifted os started H enc)

theorem makes_card : Rows.MakesCardSaid :=
  Claim7.holds_tied_plain_at .later [] _ _ _ _ makes_said (fun _ h => by cases h) (by kernel_rfl) (fun _ h => by cases h) makes_row_tie rfl ⟨rfl, rfl⟩ (by kernel_rfl) rfl
    (fun f fn hf hfn => by
      obtain rfl : f = 3 := Option.some.inj ((show Tryz.prog.funcNamed "couriers/courierslaw.Makes" = some 3 by kernel_rfl).symm.trans hf) |>.symm
      obtain rfl : fn = Tryz.f3 := (Option.some.inj (Tryz.func3.symm.trans hfn)).symm
      refine ⟨by kernel_rfl, fun j t ht => ?_⟩
      rw [Tryz.params3] at ht
      obtain rfl : t = 22 := by simpa using Array.mem_of_getElem? ht
      exact (show Tryz.prog.wantsStandIn 22 = false by kernel_rfl))
    (by kernel_rfl)
#print axioms makes_card
end Go.Proofs.YtlccfpbbdgpjbaaGreatDoor
