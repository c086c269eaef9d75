import Derived.Test.YtlccfpbbdgpjbaaGreatDoorKWatchM
import Derived.Test.YtlccfpbbdgpjbaaGreatDoorKWatchE
import Derived.Test.YtlccfpbbdgpjbaaGreatDoorPNew
namespace Go.Proofs.YtlccfpbbdgpjbaaGreatDoor

def cntI (p : Int → Bool) (l : List Int) : Int := ((l.filter p).length : Int)
theorem cntI_pos (p : Int → Bool) (l : List Int) : 0 ≤ cntI p l := by unfold cntI; omega
theorem cntI_snoc (p : Int → Bool) (l : List Int) (x : Int) : cntI p (l ++ [x]) = cntI p l + if p x then 1 else 0 := by
  unfold cntI
  rw [List.filter_append, List.length_append]
  by_cases h : p x = true <;> simp [h]
theorem cntI_congr {p q : Int → Bool} {l : List Int} (h : ∀ x ∈ l, p x = q x) : cntI p l = cntI q l := by
  unfold cntI
  rw [List.filter_congr h]
theorem cntI_none {p : Int → Bool} {l : List Int} (h : ∀ x ∈ l, p x = false) : cntI p l = 0 := by
  unfold cntI
  rw [List.filter_eq_nil_iff.2 (fun x hx => by rw [h x hx]; decide)]
  rfl

def inAB (a b x : Int) : Bool := decide (a ≤ x) && decide (x ≤ b)
def geA (a x : Int) : Bool := decide (a ≤ x)
def befA (a win x : Int) : Bool := decide (x < a) && decide (a - win < x)
/-- What may be there at a time, of all that came ahead of it. -/
def moreM (c : Cfg) (m : List Int) (a : Int) : Int := min c.cap (c.deposit * cntI (befA a c.window) m)

def younger (y : Int) (b : PB) : Bool := decide (y < b.came)

/-- Of all that was launched in a span. -/
structure Bdd (s : PSt) (m l : List Int) : Prop where
  lm : ∀ x ∈ l, x ≤ s.now
  mm : ∀ x ∈ m, x ≤ s.now
  so : s.units.Pairwise (fun a b => a.came ≤ b.came)
  um : ∀ y, sumB (s.units.filter (younger y)) ≤ s.cfg.deposit * cntI (fun x => decide (y < x)) m
  op : ∀ a, a ≤ s.now → s.cfg.cost * cntI (geA a) l + sumB s.units ≤ (s.cfg.cost + s.cfg.deposit) * cntI (geA a) m + moreM s.cfg m a
  cl : ∀ a b, a ≤ b → b < s.now → s.cfg.cost * cntI (inAB a b) l ≤ (s.cfg.cost + s.cfg.deposit) * cntI (inAB a b) m + moreM s.cfg m a

theorem sumB_pos {l : List PB} (h : OkB l) : 0 ≤ sumB l := by
  induction l with
  | nil => simp [sumB]
  | cons a r ih =>
    have h1 := h a (by simp)
    have h2 := ih (fun b hb => h b (by simp [hb]))
    simp only [sumB]; omega
theorem sumB_sub {l m : List PB} (hs : l.Sublist m) (h : OkB m) : sumB l ≤ sumB m := by
  induction hs with
  | slnil => simp
  | cons a hs ih =>
    have h1 := h a (by simp)
    have h2 := ih (fun b hb => h b (by simp [hb]))
    simp only [sumB]; omega
  | cons_cons a hs ih =>
    have h2 := ih (fun b hb => h b (by simp [hb]))
    simp only [sumB]; omega
theorem takeB_filter (y : Int) : ∀ (l : List PB) (n : Int), OkB l → 0 ≤ n → sumB ((takeB l n).filter (younger y)) ≤ sumB (l.filter (younger y)) := by
  intro l
  induction l with
  | nil => intro n _ _; simp [takeB]
  | cons a r ih =>
    intro n h hn
    have h1 := h a (by simp)
    have hr : OkB r := fun b hb => h b (by simp [hb])
    unfold takeB
    split
    · exact Int.le_refl _
    · split
      · by_cases hy : younger y a = true
        · have hy' : younger y ⟨a.came, a.units - n⟩ = true := hy
          rw [List.filter_cons_of_pos hy, List.filter_cons_of_pos hy']
          simp only [sumB]; omega
        · have hy' : ¬ younger y ⟨a.came, a.units - n⟩ = true := hy
          rw [List.filter_cons_of_neg hy, List.filter_cons_of_neg hy']
          exact Int.le_refl _
      · have h2 := ih (n - a.units) hr (by omega)
        by_cases hy : younger y a = true
        · rw [List.filter_cons_of_pos hy]
          simp only [sumB]; omega
        · rw [List.filter_cons_of_neg hy]
          exact h2
theorem takeB_sorted : ∀ (l : List PB) (n : Int), l.Pairwise (fun a b => a.came ≤ b.came) → (takeB l n).Pairwise (fun a b => a.came ≤ b.came) := by
  intro l
  induction l with
  | nil => intro n _; simp [takeB]
  | cons a r ih =>
    intro n h
    rw [List.pairwise_cons] at h
    unfold takeB
    split
    · exact List.pairwise_cons.2 h
    · split
      · exact List.pairwise_cons.2 ⟨h.1, h.2⟩
      · exact ih _ h.2
theorem dropWhile_young {l : List PB} {t win : Int} (h : l.Pairwise (fun a b => a.came ≤ b.came)) : ∀ b ∈ l.dropWhile (oldB t win), t - win < b.came := by
  induction l with
  | nil => intro b hb; simp at hb
  | cons a r ih =>
    rw [List.pairwise_cons] at h
    intro b hb
    rw [List.dropWhile_cons] at hb
    split at hb
    · exact ih h.2 b hb
    · rename_i ha
      have ha' : t - win < a.came := by
        unfold oldB at ha
        simp only [decide_eq_true_eq] at ha
        omega
      rcases List.mem_cons.1 hb with rfl | hb
      · exact ha'
      · have := h.1 b hb
        omega

theorem mul_mono {d x y : Int} (hd : 0 ≤ d) (h : x ≤ y) : d * x ≤ d * y := Int.mul_le_mul_of_nonneg_left h hd

theorem more_pos {c : Cfg} (hc : CfgOk c) (m : List Int) (a : Int) : 0 ≤ moreM c m a := by
  unfold moreM
  have h1 := hc.p0
  have h2 : 0 ≤ c.deposit * cntI (befA a c.window) m := Int.mul_nonneg hc.d0 (cntI_pos _ _)
  omega
theorem more_snoc {c : Cfg} {m : List Int} {a x : Int} (h : a ≤ x) : moreM c (m ++ [x]) a = moreM c m a := by
  unfold moreM
  rw [cntI_snoc]
  have : befA a c.window x = false := by
    unfold befA
    simp only [Bool.and_eq_false_iff, decide_eq_false_iff_not]
    omega
  rw [this]
  simp

theorem bdd_keeps : Keeps Bdd where
  same h e1 e2 e3 := ⟨by rw [e2]; exact h.lm, by rw [e2]; exact h.mm, by rw [e3]; exact h.so, by rw [e3, e1]; exact h.um, by rw [e1, e2, e3]; exact h.op, by rw [e1, e2]; exact h.cl⟩
  go {s m l N} t h hI ht := by
    have hc := hI.cfg
    have hcost : 0 ≤ s.cfg.cost := by have := hc.c0; omega
    have hsub : (s.units.dropWhile (oldB t s.cfg.window)).Sublist s.units := List.dropWhile_sublist _
    have hsum := sumB_sub hsub hI.ub
    refine ⟨fun x hx => Int.le_trans (h.lm x hx) ht, fun x hx => Int.le_trans (h.mm x hx) ht, h.so.sublist hsub, fun y => ?_, fun a ha => ?_, fun a b hab hb => ?_⟩
    · refine Int.le_trans ?_ (h.um y)
      exact sumB_sub (hsub.filter _) (fun b hb => hI.ub b (List.mem_filter.1 hb).1)
    · show s.cfg.cost * cntI (geA a) l + sumB (s.units.dropWhile (oldB t s.cfg.window)) ≤ (s.cfg.cost + s.cfg.deposit) * cntI (geA a) m + moreM s.cfg m a
      by_cases hn : a ≤ s.now
      · have := h.op a hn
        omega
      · have hz : ∀ x : Int, x ≤ s.now → geA a x = false := fun x hx => by unfold geA; simp only [decide_eq_false_iff_not]; omega
        rw [cntI_none (fun x hx => hz x (h.lm x hx)), cntI_none (fun x hx => hz x (h.mm x hx))]
        have hy := dropWhile_young (t := t) (win := s.cfg.window) h.so
        have hf : (s.units.dropWhile (oldB t s.cfg.window)).filter (younger (a - s.cfg.window)) = s.units.dropWhile (oldB t s.cfg.window) := by
          rw [List.filter_eq_self]
          intro b hb
          have := hy b hb
          have hat : a ≤ t := ha
          unfold younger
          simp only [decide_eq_true_eq]
          omega
        have h1 : sumB (s.units.dropWhile (oldB t s.cfg.window)) ≤ s.cfg.deposit * cntI (befA a s.cfg.window) m := by
          rw [← hf]
          refine Int.le_trans (sumB_sub (hsub.filter _) (fun b hb => hI.ub b (List.mem_filter.1 hb).1)) ?_
          refine Int.le_trans (h.um (a - s.cfg.window)) ?_
          rw [cntI_congr (q := befA a s.cfg.window) (fun x hx => by
            have := h.mm x hx
            unfold befA
            rw [show decide (x < a) = true by simp only [decide_eq_true_eq]; omega]
            rfl)]
          exact Int.le_refl _
        have h2 := hI.us
        unfold moreM
        simp only [Int.mul_zero, Int.zero_add]
        omega
    · have hbt : b < t := hb
      by_cases hn : b < s.now
      · exact h.cl a b hab hn
      · show s.cfg.cost * cntI (inAB a b) l ≤ (s.cfg.cost + s.cfg.deposit) * cntI (inAB a b) m + moreM s.cfg m a
        have hin : ∀ x : Int, x ≤ s.now → inAB a b x = geA a x := fun x hx => by
          unfold inAB geA
          rw [show decide (x ≤ b) = true by simp only [decide_eq_true_eq]; omega]
          simp
        rw [cntI_congr (fun x hx => hin x (h.lm x hx)), cntI_congr (fun x hx => hin x (h.mm x hx))]
        by_cases ha : a ≤ s.now
        · have h1 := h.op a ha
          have h2 := sumB_pos hI.ub
          omega
        · have hz : ∀ x : Int, x ≤ s.now → geA a x = false := fun x hx => by unfold geA; simp only [decide_eq_false_iff_not]; omega
          rw [cntI_none (fun x hx => hz x (h.lm x hx)), cntI_none (fun x hx => hz x (h.mm x hx))]
          have := more_pos hc m a
          omega
  take {s m l N} h hI hcost := by
    have hc := hI.cfg
    have c0 : 0 ≤ s.cfg.cost := by have := hc.c0; omega
    have hun : (takeM s).units = takeB s.units s.cfg.cost := by unfold takeM; dsimp only; rw [if_pos hcost]
    have hsum := takeB_sum s.units s.cfg.cost hI.ub c0 hcost
    refine ⟨fun x hx => ?_, h.mm, by rw [hun]; exact takeB_sorted _ _ h.so, fun y => ?_, fun a ha => ?_, fun a b hab hb => ?_⟩
    · rcases List.mem_append.1 hx with hx | hx
      · exact h.lm x hx
      · have := List.mem_singleton.1 hx
        rw [this]
        exact Int.le_refl _
    · rw [hun]
      exact Int.le_trans (takeB_filter y _ _ hI.ub c0) (h.um y)
    · rw [hun, hsum, cntI_snoc, show geA a s.now = true by unfold geA; simp only [decide_eq_true_eq]; exact ha]
      have := h.op a ha
      show s.cfg.cost * (cntI (geA a) l + 1) + _ ≤ (s.cfg.cost + s.cfg.deposit) * _ + moreM s.cfg m a
      rw [Int.mul_add]
      omega
    · have hb' : b < s.now := hb
      rw [cntI_snoc, show inAB a b s.now = false by unfold inAB; simp only [Bool.and_eq_false_iff, decide_eq_false_iff_not]; omega]
      have := h.cl a b hab hb'
      show s.cfg.cost * _ ≤ (s.cfg.cost + s.cfg.deposit) * _ + moreM s.cfg m a
      simpa using this
  admit {s m l N} h hI := by
    have hc := hI.cfg
    have c0 : 0 ≤ s.cfg.cost := by have := hc.c0; omega
    have hbr : bringN s.cfg.deposit s.cfg.cap s.units ≤ s.cfg.deposit := by unfold bringN; omega
    have hl : ∀ {l : List Int}, (∀ x ∈ l, x ≤ s.now) → ∀ x ∈ l ++ [s.now], x ≤ s.now := fun {l} h x hx => by
      rcases List.mem_append.1 hx with hx | hx
      · exact h x hx
      · have := List.mem_singleton.1 hx
        rw [this]
        exact Int.le_refl _
    have hd0 := hc.d0
    have hsumU : sumB (bringM s).units ≤ sumB s.units + s.cfg.deposit := by
      unfold bringM
      dsimp only
      split
      · rw [sumB_append]; simp only [sumB]; omega
      · omega
    refine ⟨hl h.lm, hl h.mm, ?_, fun y => ?_, fun a ha => ?_, fun a b hab hb => ?_⟩
    · unfold bringM
      dsimp only
      split
      · rw [List.pairwise_append]
        refine ⟨h.so, by simp, fun b hb b' hb' => ?_⟩
        have := List.mem_singleton.1 hb'
        rw [this]
        exact hI.uc b hb
      · exact h.so
    · have h1 := h.um y
      show sumB ((bringM s).units.filter (younger y)) ≤ s.cfg.deposit * cntI (fun x => decide (y < x)) (m ++ [s.now])
      rw [cntI_snoc, Int.mul_add]
      by_cases hy : y < s.now
      · rw [show decide (y < s.now) = true by simpa using hy]
        have : sumB ((bringM s).units.filter (younger y)) ≤ sumB (s.units.filter (younger y)) + s.cfg.deposit := by
          unfold bringM
          dsimp only
          split
          · rw [List.filter_append, sumB_append]
            rw [List.filter_cons_of_pos (by unfold younger; simpa using hy)]
            simp only [List.filter_nil, sumB]
            omega
          · omega
        simp only [if_true, Int.mul_one]
        omega
      · rw [show decide (y < s.now) = false by simpa using hy]
        have : sumB ((bringM s).units.filter (younger y)) = sumB (s.units.filter (younger y)) := by
          unfold bringM
          dsimp only
          split
          · rw [List.filter_append, sumB_append]
            rw [List.filter_cons_of_neg (by unfold younger; simpa using hy)]
            simp only [List.filter_nil, sumB]
            omega
          · rfl
        simp only [Bool.false_eq_true, if_false, Int.mul_zero]
        omega
    · have ha' : a ≤ s.now := ha
      show s.cfg.cost * cntI (geA a) (l ++ [s.now]) + sumB (bringM s).units ≤ (s.cfg.cost + s.cfg.deposit) * cntI (geA a) (m ++ [s.now]) + moreM s.cfg (m ++ [s.now]) a
      rw [cntI_snoc, cntI_snoc, more_snoc ha', show geA a s.now = true by unfold geA; simpa using ha']
      have := h.op a ha'
      simp only [if_true]
      rw [Int.mul_add, Int.mul_add]
      omega
    · have hb' : b < s.now := hb
      show s.cfg.cost * cntI (inAB a b) (l ++ [s.now]) ≤ (s.cfg.cost + s.cfg.deposit) * cntI (inAB a b) (m ++ [s.now]) + moreM s.cfg (m ++ [s.now]) a
      rw [cntI_snoc, cntI_snoc, more_snoc (by omega), show inAB a b s.now = false by unfold inAB; simp only [Bool.and_eq_false_iff, decide_eq_false_iff_not]; omega]
      have := h.cl a b hab hb'
      simpa using this

/-- Whatever the span. -/
theorem bdd_all {N : Int} {s : PSt} {m l : List Int} (hI : Inv N s) (h : Bdd s m l) (a b : Int) (ha : a ∈ l) : s.cfg.cost * cntI (inAB a b) l ≤ (s.cfg.cost + s.cfg.deposit) * cntI (inAB a b) m + moreM s.cfg m a := by
  have hc := hI.cfg
  have c0 : 0 ≤ s.cfg.cost := by have := hc.c0; omega
  have d0 := hc.d0
  by_cases hab : a ≤ b
  · by_cases hb : b < s.now
    · exact h.cl a b hab hb
    · have hin : ∀ x : Int, x ≤ s.now → inAB a b x = geA a x := fun x hx => by
        unfold inAB geA
        rw [show decide (x ≤ b) = true by simp only [decide_eq_true_eq]; omega]
        simp
      rw [cntI_congr (fun x hx => hin x (h.lm x hx)), cntI_congr (fun x hx => hin x (h.mm x hx))]
      have h1 := h.op a (h.lm a ha)
      have h2 := sumB_pos hI.ub
      omega
  · have hz : ∀ x : Int, inAB a b x = false := fun x => by unfold inAB; simp only [Bool.and_eq_false_iff, decide_eq_false_iff_not]; omega
    rw [cntI_none (fun x _ => hz x), cntI_none (fun x _ => hz x)]
    have := more_pos hc m a
    omega

end Go.Proofs.YtlccfpbbdgpjbaaGreatDoor

namespace Go.Proofs.YtlccfpbbdgpjbaaGreatDoor

def W0 : WSt := ⟨0, [], [], [], []⟩
theorem kept_init {Bd : PSt → List Int → List Int → Prop} (c : Cfg) (hb : Bd (initS c) [] []) : Kept Bd (initS c) W0 := by
  refine ⟨⟨⟨Int.le_refl _, ?_, ?_, ?_, rfl, ?_, ?_⟩, ⟨?_, ?_, List.nodup_nil, ?_⟩, hb⟩, rfl, ?_⟩
  · intro d hd; cases hd
  · intro i k hi; simp [W0] at hi
  · intro n i k j l h; have := h.1; simp [W0] at this
  · intro a ha; cases ha
  · intro m x hx; simp [W0] at hx
  · intro t ht; cases ht
  · intro d hd; cases hd
  · intro d hd; cases hd
  · intro d hd; cases hd
theorem bdd_init {c : Cfg} (hc : CfgOk c) : Bdd (initS c) [] [] := by
  have hp := hc.p0
  refine ⟨(fun x hx => by cases hx), (fun x hx => by cases hx), List.Pairwise.nil, fun y => ?_, fun a _ => ?_, fun a b _ _ => ?_⟩
  · simp [initS, sumB, cntI]
  · have := more_pos hc ([] : List Int) a
    simp only [initS, sumB, cntI, List.filter_nil, List.length_nil]
    simpa using this
  · have := more_pos hc ([] : List Int) a
    simp only [initS, cntI, List.filter_nil, List.length_nil]
    simpa using this
/-- For Sound and Ends nothing more is kept. -/
theorem keeps_true : Keeps (fun _ _ _ => True) := ⟨fun _ _ _ _ => trivial, fun _ _ _ _ => trivial, fun _ _ _ => trivial, fun _ _ => trivial⟩
end Go.Proofs.YtlccfpbbdgpjbaaGreatDoor
