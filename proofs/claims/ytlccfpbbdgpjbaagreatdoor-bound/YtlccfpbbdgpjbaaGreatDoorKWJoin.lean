import Derived.Test.YtlccfpbbdgpjbaaGreatDoorKWStepC
import Derived.Test.YtlccfpbbdgpjbaaGreatDoorKWStepS2
import Derived.Test.YtlccfpbbdgpjbaaGreatDoorKWStepS3
import Derived.Test.YtlccfpbbdgpjbaaGreatDoorKWStepS4
import Derived.Test.YtlccfpbbdgpjbaaGreatDoorKWStepM2
import Derived.Test.YtlccfpbbdgpjbaaGreatDoorKWStepM3
import Derived.Test.YtlccfpbbdgpjbaaGreatDoorKWStepM4
import Derived.Test.YtlccfpbbdgpjbaaGreatDoorKWStepA
import Derived.Test.YtlccfpbbdgpjbaaGreatDoorKWStepR
import Derived.Test.YtlccfpbbdgpjbaaGreatDoorKWStepY
import Derived.Test.YtlccfpbbdgpjbaaGreatDoorKWBegun
namespace Go.Proofs.YtlccfpbbdgpjbaaGreatDoor
open Go.RowKit

theorem run_ok {att : Int} (ha : att ≤ 6) {adv : Bool} {til : Int} {W W' : WSt} {l : List RAct} (h : Run att adv til W l W') (ok : WOk W) : WOk W' := by
  induction h with
  | nil => exact ok
  | now W a l W1 W2 _ hs hr ih => exact ih (see_ok ha hs ok)
  | adv W a l t W1 W2 _ hw h0 h1 hs hr ih => exact ih (see_ok ha hs (ok.now t))

/-- A Watch and its client between two events. -/
structure KX (Bd : PSt → List Int → List Int → Prop) (N : Int) (w : World) (s : PSt) (W : WSt) (V : PV) (U : WV) : Prop where
  all : WAll w s W V U
  inv : Inv N s
  kept : Kept Bd s W
  ll : W.lau.length = W.atts.length
  am : W.adm.length = W.calls.length
  cl : (W.calls.length : Int) ≤ N
  st : s.stale ≤ N

section
variable {Bd : PSt → List Int → List Int → Prop} {N : Int} {w w' : World} {s : PSt} {W : WSt} {V : PV} {U : WV}

theorem KX.on (h : KX Bd N w s W V U) (hb : Below w.heap.size w w') : KX Bd N w' s W V U := ⟨h.all.on hb, h.inv, h.kept, h.ll, h.am, h.cl, h.st⟩
theorem KX.ok (h : KX Bd N w s W V U) : WOk W := ok_of h.inv h.kept h.ll
theorem KX.al (h : KX Bd N w s W V U) : (W.atts.length : Int) ≤ 6 * N := by
  have := h.kept.held.rel.al
  have := h.inv.lN
  omega

/-- An Advance. -/
theorem wstep_advX (h : KX Bd N w s W V U) (hN : N ≤ 50000) (e : PEv) (he : EvOk e) (hk6 : e.kind = 6) {W2 : WSt} (hr : Run s.cfg.attempts true e.to_ W (stepA s e) W2) (hk : Kept Bd (stepM s e) (endNow e W2)) :
    Calls Tryz.prog 24 #[.pointer (some ⟨U.q, 0, none⟩), evV e] w fun ex w' => ex = .returned (.bool true) ∧ ∃ V' U', KX Bd (N + 1) w' (stepM s e) (endNow e W2) V' U' ∧ XMv V U w V' U' w' := by
  have hat6 : s.cfg.attempts ≤ 6 := h.inv.cfg.a1
  have hcl := h.cl
  have hst := h.st
  obtain ⟨kind, call, attempt, value, timeout, safe, draw, tt⟩ := e
  obtain rfl : kind = 6 := hk6
  have hok := run_ok hat6 hr h.ok
  have hln := (run_len hr).1
  refine (wstep_adv h.all h.inv hN h.kept h.ok (by omega) (by omega) call attempt value timeout safe draw tt he hr _ rfl hk).mono ?_
  rintro ex w' ⟨rfl, V', U', h1, h2⟩
  refine ⟨rfl, V', U', ⟨h1, inv_step h.inv _, hk, hok.ll, ?_, ?_, ?_⟩, h2⟩
  · show W2.adm.length = W2.calls.length
    rw [run_adm hr, hln]
    exact h.am
  · show (W2.calls.length : Int) ≤ _
    omega
  · have := (stale_step s ⟨6, call, attempt, value, timeout, safe, draw, tt⟩).2
    omega

set_option maxHeartbeats 4000000 in
theorem wstep_any (K : Keeps Bd) (h : KX Bd N w s W V U) (hN : N ≤ 50000) (e : PEv) (he : EvGood e) :
    Calls Tryz.prog 24 #[.pointer (some ⟨U.q, 0, none⟩), evV e] w fun ex w' => ex = .returned (.bool true) ∧ ∃ W' V' U', KX Bd (N + 1) w' (stepM s e) W' V' U' ∧ XMv V U w V' U' w' := by
  obtain ⟨⟨k0, k1⟩, evok, t0, t1⟩ := he
  have hat6 : s.cfg.attempts ≤ 6 := h.inv.cfg.a1
  have hcl := h.cl
  have hst := h.st
  have hst2 := (stale_step s e).2
  have hinv := inv_step h.inv e
  by_cases e1 : e.kind = 1
  · by_cases hw : whyM s e = 0
    · obtain ⟨W2, eA, hs, hk⟩ := kept_admit K h.inv h.kept e e1 hw
      have hln := see_len hs
      have hok := see_ok hat6 hs (addW_ok h.inv h.kept h.ok e hw)
      have hcl2 : (W2.calls.length : Int) ≤ N + 1 := by
        have : (addW W e).calls.length = W.calls.length + 1 := by show (W.calls ++ [_]).length = _; simp
        omega
      have hadm : W2.adm.length = W2.calls.length := by
        rw [see_adm hs, hln.1]
        show (W.adm ++ [_]).length = (W.calls ++ [_]).length
        simp [h.am]
      have ham := h.am
      obtain ⟨kind, call, attempt, value, timeout, safe, draw, tt⟩ := e
      obtain rfl : kind = 1 := e1
      refine (wstep_admit h.all h.inv hN h.kept h.ok (by omega) (by omega) call attempt value timeout safe draw tt evok t0 t1 (by omega) hw eA hs).mono ?_
      rintro ex w' ⟨rfl, V', U', h1, h2⟩
      exact ⟨rfl, W2, V', U', ⟨h1, hinv, hk, hok.ll, hadm, hcl2, by omega⟩, h2⟩
    · obtain ⟨eA, hs, hk⟩ := kept_refuse h.kept e e1 hw
      obtain ⟨kind, call, attempt, value, timeout, safe, draw, tt⟩ := e
      obtain rfl : kind = 1 := e1
      refine (wstep_refuse h.all h.inv hN h.kept h.ok (by omega) (by omega) call attempt value timeout safe draw tt evok t0 t1 hw).mono ?_
      rintro ex w' ⟨rfl, V', U', h1, h2⟩
      exact ⟨rfl, W, V', U', ⟨h1, hinv, hk, h.ll, h.am, by omega, by omega⟩, h2⟩
  · obtain ⟨W1, W2, hm, hr, hk⟩ := kept_event K h.inv h.kept e (by omega) k1
    by_cases e6 : e.kind = 6
    · have hW : W1 = W := by
        cases hm with
        | no => rfl
        | yes m x k q => omega
      subst hW
      rw [show (e.kind == 6) = true by simpa using e6] at hr
      refine (wstep_advX h hN e evok e6 hr hk).mono ?_
      rintro ex w' ⟨rfl, V', U', h1, h2⟩
      exact ⟨rfl, _, V', U', h1, h2⟩
    · have hE : endNow e W2 = W2 := by
        unfold endNow
        rw [if_neg (fun q => e6 q.1)]
      rw [hE] at hk
      rw [show (e.kind == 6) = false by simpa using e6] at hr
      have hok1 := mark_ok hm h.ok
      have hok := run_ok hat6 hr hok1
      have hln := (run_len hr).1
      have hml := (mark_len hm).1
      have hfin : ∀ {w' V' U'}, WAll w' (stepM s e) W2 V' U' → KX Bd (N + 1) w' (stepM s e) W2 V' U' := fun h1 => ⟨h1, hinv, hk, hok.ll, by rw [run_adm hr, mark_adm hm, hln, hml]; exact h.am, by omega, by omega⟩
      clear hln hok hst2 hinv
      obtain ⟨kind, call, attempt, value, timeout, safe, draw, tt⟩ := e
      dsimp only at k0 k1 e1 e6
      have hkk : kind = 2 ∨ kind = 3 ∨ kind = 4 ∨ kind = 5 := by omega
      cases hm with
      | no hno =>
        dsimp only at hno
        have hno' : kind ≠ 5 → (attempt ≤ 0 ∨ (W.atts.length : Int) < attempt ∨ ∃ (m : Nat) (x : WAtt), attempt = (m : Int) + 1 ∧ W.atts[m]? = some x ∧ x.opn = false) := fun h5 => by
          by_cases a0 : attempt ≤ 0
          · exact .inl a0
          · by_cases a1 : (W.atts.length : Int) < attempt
            · exact .inr (.inl a1)
            · refine .inr (.inr ⟨(attempt - 1).toNat, W.atts[(attempt - 1).toNat]'(by omega), by omega, List.getElem?_eq_getElem _, ?_⟩)
              cases ho : (W.atts[(attempt - 1).toNat]'(by omega)).opn with
              | false => rfl
              | true => exact absurd ⟨by omega, (attempt - 1).toNat, _, by omega, List.getElem?_eq_getElem (by omega), ho⟩ hno
        rcases hkk with rfl | rfl | rfl | rfl
        · refine (wstep_stale2 h.all h.inv hN h.kept h.ok (by omega) (by omega) call attempt value timeout safe draw tt evok (hno' (by omega)) hr hk).mono ?_
          rintro ex w' ⟨rfl, V', U', h1, h2⟩
          exact ⟨rfl, W2, V', U', hfin h1, h2⟩
        · refine (wstep_stale3 h.all h.inv hN h.kept h.ok (by omega) (by omega) call attempt value timeout safe draw tt evok (hno' (by omega)) hr hk).mono ?_
          rintro ex w' ⟨rfl, V', U', h1, h2⟩
          exact ⟨rfl, W2, V', U', hfin h1, h2⟩
        · refine (wstep_stale4 h.all h.inv hN h.kept h.ok (by omega) (by omega) call attempt value timeout safe draw tt evok (hno' (by omega)) hr hk).mono ?_
          rintro ex w' ⟨rfl, V', U', h1, h2⟩
          exact ⟨rfl, W2, V', U', hfin h1, h2⟩
        · refine (wstep_cancel h.all h.inv hN h.kept h.ok (by omega) (by omega) call attempt value timeout safe draw tt evok hr hk).mono ?_
          rintro ex w' ⟨rfl, V', U', h1, h2⟩
          exact ⟨rfl, W2, V', U', hfin h1, h2⟩
      | yes m x k hk3 ha hx ho hc =>
        dsimp only at hk3 ha
        subst ha
        obtain ⟨xc, xa, xo⟩ := x
        obtain rfl : xo = true := ho
        obtain ⟨number, deadline, had, csafe, copn, ans⟩ := k
        rcases hk3 with rfl | rfl | rfl
        · refine (wstep_mark2 h.all h.inv hN h.kept h.ok (by omega) (by omega) call value timeout m xc xa number deadline had csafe copn ans hx hc _ rfl hok1 safe draw tt evok hr hk).mono ?_
          rintro ex w' ⟨rfl, V', U', h1, h2⟩
          exact ⟨rfl, W2, V', U', hfin h1, h2⟩
        · refine (wstep_mark3 h.all h.inv hN h.kept h.ok (by omega) (by omega) call value timeout m xc xa number deadline had csafe copn ans hx hc _ rfl hok1 safe draw tt evok hr hk).mono ?_
          rintro ex w' ⟨rfl, V', U', h1, h2⟩
          exact ⟨rfl, W2, V', U', hfin h1, h2⟩
        · refine (wstep_mark4 h.all h.inv hN h.kept h.ok (by omega) (by omega) call value timeout m xc xa number deadline had csafe copn ans hx hc _ rfl hok1 safe draw tt evok hr hk).mono ?_
          rintro ex w' ⟨rfl, V', U', h1, h2⟩
          exact ⟨rfl, W2, V', U', hfin h1, h2⟩

/-- The same, inside a walk. -/
theorem wstep_in (K : Keeps Bd) (h : KX Bd N w s W V U) (hN : N ≤ 50000) {B : World} (hB : Below B.heap.size B w) (hV : ∀ k, V.tag k < 7 → B.heap.size ≤ k) (hU : ∀ k, U.tag k < 5 → B.heap.size ≤ k) {q : Nat} (hq : U.q = q) {c : Cfg} (hc : s.cfg = c) {w1 : World} (hb : Below w.heap.size w w1) (e : PEv) (he : EvGood e) :
    Calls Tryz.prog 24 #[.pointer (some ⟨q, 0, none⟩), evV e] w1 fun ex w' => ex = .returned (.bool true) ∧ ∃ s' W' V' U', KX Bd (N + 1) w' s' W' V' U' ∧ s'.cfg = c ∧ U'.q = q ∧ (∀ k, V'.tag k < 7 → B.heap.size ≤ k) ∧ (∀ k, U'.tag k < 5 → B.heap.size ≤ k) ∧ Below B.heap.size B w' := by
  subst hq
  subst hc
  refine (wstep_any K (h.on hb) hN e he).mono ?_
  rintro ex w' ⟨rfl, W', V', U', h1, h2⟩
  obtain ⟨p1, p2, p3⟩ := h2.belowB (B := B.heap.size) (Nat.le_trans hB.size hb.size) hV hU
  exact ⟨rfl, _, W', V', U', h1, stepM_cfg _ _, h2.q, p2, p3, (hB.trans (hb.mono hB.size)).trans p1⟩
end
end Go.Proofs.YtlccfpbbdgpjbaaGreatDoor
