import Derived.Test.YtlccfpbbdgpjbaaGreatDoorZThM
import Derived.Test.YtlccfpbbdgpjbaaGreatDoorZModel
namespace Go.Proofs.YtlccfpbbdgpjbaaGreatDoor

def bsC (r : Int) : Cfg := ⟨10, 1, 1000, 10000, 2, 1, 1, 1, r, 1⟩
theorem bsC_ok {r : Int} (h0 : 1 ≤ r) (h1 : r ≤ 100) : CfgOk (bsC r) := by constructor <;> (simp only [bsC]; omega)
/-- No call is open. -/
def bsS (r now : Int) (units : List PB) (launched set : Int) (times : List Int) : PSt := ⟨bsC r, now, units, [], [], launched, [], set, times, 0⟩
/-- One call is open, and its attempt. -/
def bsA (r now : Int) (units : List PB) (launched set : Int) (times : List Int) (safe : Bool) (dl at_ first : Int) (h : List PTimer) : PSt :=
  ⟨bsC r, now, units, [⟨1, safe, dl, 1, 1⟩], [(launched, ⟨1, at_⟩)], launched, ⟨1, 1, dl, first⟩ :: h, set, times, 0⟩
/-- Two attempts are open. -/
def bsB (r now : Int) (units : List PB) (launched set : Int) (times : List Int) (dl at1 at2 first : Int) : PSt :=
  ⟨bsC r, now, units, [⟨1, true, dl, 2, 1⟩], [(launched - 1, ⟨1, at1⟩), (launched, ⟨1, at2⟩)], launched, [⟨1, 1, dl, first⟩], set, times, 0⟩

section
variable (r now : Int) (units : List PB) (launched set : Int) (times : List Int)

theorem bring10 (h : sumB units ≤ 990) : bringN 10 1000 units = 10 := by unfold bringN; omega

theorem bs_submit (hs : sumB units ≤ 990) (hn : now + 10000 ≤ 1099511627776) :
    stepM (bsS r now units launched set times) ⟨1, 1, 0, 0, 10000, false, 0, 0⟩ = bsA r now (units ++ [⟨now, 10⟩]) (launched + 1) (set + 1) times false (now + 10000) now (set + 1) [] := by
  have h3 : ¬ 1099511627776 < now + 10000 := by omega
  have hb := bring10 units hs
  simp [stepM, submitM, whyM, whyP, callOf, bsS, bsC, admitM, launchM, launch0, admit0, addTimer, bringM, newCall, updCall, hadUp, bsA, h3, hb, setHedgeM, mayHedgeM]

theorem bs_submit2 (hs : sumB units ≤ 990) (hn : now + 10000 ≤ 1099511627776) (ht : 1 ≤ times.length) (hd : delayM times r < 10000) :
    stepM (bsS r now units launched set times) ⟨1, 1, 0, 0, 10000, true, 0, 0⟩ = bsA r now (units ++ [⟨now, 10⟩]) (launched + 1) (set + 2) times true (now + 10000) now (set + 1) [⟨3, 1, now + delayM times r, set + 2⟩] ∧
    stepA (bsS r now units launched set times) ⟨1, 1, 0, 0, 10000, true, 0, 0⟩ = [⟨1, 1, launched + 1, 0, 0, 10000⟩] := by
  have h3 : ¬ 1099511627776 < now + 10000 := by omega
  have hb := bring10 units hs
  have h4 : now + 10000 - now = 10000 := by omega
  have h5 : (1 : Int) ≤ (times.length : Int) := by omega
  have h6 : now + delayM times r < now + 10000 := by omega
  have h7 : set + 1 + 1 = set + 2 := by omega
  constructor
  · simp [stepM, submitM, whyM, whyP, callOf, bsS, bsC, admitM, launchM, launch0, admit0, addTimer, bringM, newCall, updCall, hadUp, bsA, h3, hb, setHedgeM, mayHedgeM, h5, h6, h7]
  · simp [stepA, submitA, whyM, whyP, callOf, bsS, bsC, admitA, launchA, newCall, h3, h4]

theorem bs_first1 (safe : Bool) (dl at_ first : Int) : firstT (bsA r now units launched set times safe dl at_ first []).timers = some ⟨1, 1, dl, first⟩ := by
  simp [bsA, firstT]
theorem bs_first2 (safe : Bool) (dl at_ first hd st : Int) (h : hd < dl) : firstT (bsA r now units launched set times safe dl at_ first [⟨3, 1, hd, st⟩]).timers = some ⟨3, 1, hd, st⟩ := by
  simp [bsA, firstT, PTimer.lt, h]

/-- No timer is due. -/
theorem bs_adv (safe : Bool) (dl at_ first : Int) (h : List PTimer) (til : Int) (h0 : now ≤ til) (h2 : til ≤ 1099511627776) (hh : (h = [] ∧ til < dl) ∨ ∃ hd st, h = [⟨3, 1, hd, st⟩] ∧ til < hd ∧ hd < dl) :
    stepA (bsA r now units launched set times safe dl at_ first h) ⟨6, 0, 0, 0, 0, false, 0, til⟩ = [] ∧
    stepM (bsA r now units launched set times safe dl at_ first h) ⟨6, 0, 0, 0, 0, false, 0, til⟩ = bsA r til (units.dropWhile (oldB til 10000)) launched set times safe dl at_ first h := by
  have hst : ¬ (til < (bsA r now units launched set times safe dl at_ first h).now ∨ 1099511627776 < til) := by show ¬ (til < now ∨ _); omega
  have hx := advF_stop til (turns (bsA r now units launched set times safe dl at_ first h)).toNat (bsA r now units launched set times safe dl at_ first h) (fun t ht => by
    rcases hh with ⟨rfl, h1⟩ | ⟨hd, st, rfl, h1, h3⟩
    · rw [bs_first1] at ht; cases ht; exact h1
    · rw [bs_first2 _ _ _ _ _ _ _ _ _ _ _ _ h3] at ht; cases ht; exact h1)
  constructor
  · show advA _ til = _
    unfold advA
    rw [if_neg hst, hx]
  · show advM _ til = _
    unfold advM
    rw [if_neg hst, hx]
    rfl

theorem bs_ok (safe : Bool) (dl at_ first : Int) (value : Int) :
    stepA (bsA r now units launched set times safe dl at_ first []) ⟨2, 0, launched, value, 0, false, 0, 0⟩ = [⟨3, 1, 0, 1, value, 0⟩] ∧
    stepM (bsA r now units launched set times safe dl at_ first []) ⟨2, 0, launched, value, 0, false, 0, 0⟩ = bsS r now units launched set (addT times (now - at_)) := by
  constructor
  · simp [stepA, answerA, attOf, callOf, bsA, answerA1, closeM, addM, finishA]
  · simp [stepM, answerM, attOf, callOf, bsA, answerM1, closeM, addM, finishM, bsS, stays]

/-- The hedge timer rings, and a second attempt is launched. -/
theorem bs_ring {N : Int} (dl at_ first hd st : Int) (hI : Inv N (bsA r now units launched set times true dl at_ first [⟨3, 1, hd, st⟩])) (hf : first ≠ st) (h0 : now ≤ hd) (h1 : hd < dl) (h2 : dl ≤ 1099511627776) (hu : 1 ≤ sumB (units.dropWhile (oldB hd 10000))) :
    stepA (bsA r now units launched set times true dl at_ first [⟨3, 1, hd, st⟩]) ⟨6, 0, 0, 0, 0, false, 0, hd⟩ = [⟨1, 1, launched + 1, 0, 0, dl - hd⟩] ∧
    ∃ units', stepM (bsA r now units launched set times true dl at_ first [⟨3, 1, hd, st⟩]) ⟨6, 0, 0, 0, 0, false, 0, hd⟩ = bsB r hd units' (launched + 1) set times dl at_ hd first := by
  have hst : ¬ (hd < (bsA r now units launched set times true dl at_ first [⟨3, 1, hd, st⟩]).now ∨ 1099511627776 < hd) := by show ¬ (hd < now ∨ _); omega
  have hdm : dueM (bsA r now units launched set times true dl at_ first [⟨3, 1, hd, st⟩]) ⟨3, 1, hd, st⟩ = bsA r hd (units.dropWhile (oldB hd 10000)) launched set times true dl at_ first [] := by
    simp [dueM, popM, goToM, bsA, bsC, hf]
  have hl : launched + 1 - 1 = launched := by omega
  obtain ⟨units', hr⟩ : ∃ units', ringM (bsA r hd (units.dropWhile (oldB hd 10000)) launched set times true dl at_ first []) ⟨3, 1, hd, st⟩ = bsB r hd units' (launched + 1) set times dl at_ hd first := by
    refine ⟨takeB (units.dropWhile (oldB hd 10000)) 1, ?_⟩
    simp [ringM, callOf, ringM1, bsA, bsC, takeM, hu, launchM, launch0, updCall, hadUp, setHedgeM, mayHedgeM, bsB, hl]
  have ha : ringA (bsA r hd (units.dropWhile (oldB hd 10000)) launched set times true dl at_ first []) ⟨3, 1, hd, st⟩ = [⟨1, 1, launched + 1, 0, 0, dl - hd⟩] := by
    simp [ringA, callOf, ringA1, bsA, bsC, takeM, hu, launchA]
  have hstop : ∀ f u, advF hd f (bsB r hd u (launched + 1) set times dl at_ hd first) = (goToM (bsB r hd u (launched + 1) set times dl at_ hd first) hd, []) := fun f u =>
    advF_stop hd f _ (fun t ht => by
      have : t = ⟨1, 1, dl, first⟩ := by simpa [bsB, firstT] using ht.symm
      rw [this]
      exact h1)
  have hnx := advF_next hd hI (bs_first2 r now units launched set times true dl at_ first hd st h1) (Int.lt_irrefl hd)
  rw [hdm, hr, ha, hstop] at hnx
  constructor
  · show advA _ hd = _
    unfold advA
    rw [if_neg hst, hnx]
    rfl
  · refine ⟨units'.dropWhile (oldB hd 10000), ?_⟩
    show advM _ hd = _
    unfold advM
    rw [if_neg hst, hnx]
    rfl

/-- One of the two is answered: the other is stopped. -/
theorem bs_done1 (dl at1 at2 first value : Int) : stepA (bsB r now units launched set times dl at1 at2 first) ⟨2, 0, launched - 1, value, 0, false, 0, 0⟩ = [⟨3, 1, 0, 1, value, 0⟩, ⟨2, 1, launched, 0, 0, 0⟩] := by
  have h1 : ¬ launched = launched - 1 := by omega
  simp [stepA, answerA, attOf, callOf, bsB, answerA1, closeM, addM, finishA, h1]
theorem bs_done2 (dl at1 at2 first value : Int) : stepA (bsB r now units launched set times dl at1 at2 first) ⟨2, 0, launched, value, 0, false, 0, 0⟩ = [⟨3, 1, 0, 1, value, 0⟩, ⟨2, 1, launched - 1, 0, 0, 0⟩] := by
  have h1 : ¬ launched - 1 = launched := by omega
  simp [stepA, answerA, attOf, callOf, bsB, answerA1, closeM, addM, finishA, h1]
end

/-- The least time that so many are at or below: the one that the client takes. -/
theorem least_time {l : List Int} (h0 : 1 ≤ l.length) {r : Int} (r0 : 1 ≤ r) (r1 : r ≤ 100) : ∃ v ∈ l, delayM l r = topB v ∧ r * (l.length : Int) ≤ 100 * cntLe l v ∧ ∀ k, k < v → 100 * cntLe l k < r * (l.length : Int) := by
  have hlen : l.mergeSort.length = l.length := List.length_mergeSort l
  have hm0 : (1 : Int) ≤ (l.length : Int) * r := by
    have := Int.mul_le_mul (show (1 : Int) ≤ (l.length : Int) by omega) r0 (by omega) (by omega)
    omega
  have hm1 : (l.length : Int) * r ≤ (l.length : Int) * 100 := Int.mul_le_mul_of_nonneg_left r1 (by omega)
  have hc : r * (l.length : Int) = (l.length : Int) * r := Int.mul_comm _ _
  rw [hc]
  unfold delayM placeM
  generalize (l.length : Int) * r = m at hm0 hm1
  obtain ⟨p, hp⟩ : ∃ p : Nat, (p : Int) = (m + 99) / 100 - 1 := ⟨((m + 99) / 100 - 1).toNat, by omega⟩
  have hpl : p < l.mergeSort.length := by rw [hlen]; omega
  have hpt : ((m + 99) / 100 - 1).toNat = p := by omega
  rw [hpt, List.getElem?_eq_getElem hpl]
  have hP : l.mergeSort.Perm l := List.mergeSort_perm l _
  refine ⟨l.mergeSort[p], hP.mem_iff.1 (List.getElem_mem _), rfl, ?_, fun k hk => ?_⟩
  · have h1 := sorted_ge (ms_sorted l) hpl
    rw [cntLe_perm hP] at h1
    omega
  · have h1 := sorted_lt (ms_sorted l) hpl hk
    rw [cntLe_perm hP] at h1
    omega

theorem wd_small (t : Nat) (h4 : 4 ≤ t) (h : t < 4096) : wd t ≤ t := by
  have h64 : t < 2 ^ 64 := Nat.lt_of_lt_of_le h (by decide)
  have hc : (4 ≤ t ∧ t < 8) ∨ (8 ≤ t ∧ t < 16) ∨ (16 ≤ t ∧ t < 32) ∨ (32 ≤ t ∧ t < 64) ∨ (64 ≤ t ∧ t < 128) ∨ (128 ≤ t ∧ t < 256) ∨ (256 ≤ t ∧ t < 512) ∨ (512 ≤ t ∧ t < 1024) ∨ (1024 ≤ t ∧ t < 2048) ∨ (2048 ≤ t ∧ t < 4096) := by omega
  rcases hc with ⟨a, b⟩ | ⟨a, b⟩ | ⟨a, b⟩ | ⟨a, b⟩ | ⟨a, b⟩ | ⟨a, b⟩ | ⟨a, b⟩ | ⟨a, b⟩ | ⟨a, b⟩ | ⟨a, b⟩
  · rw [wd_of t 0 (by simpa using a) (by simpa using b) h64]; exact Nat.le_trans (by decide) a
  · rw [wd_of t 1 (by simpa using a) (by simpa using b) h64]; exact Nat.le_trans (by decide) a
  · rw [wd_of t 2 (by simpa using a) (by simpa using b) h64]; exact Nat.le_trans (by decide) a
  · rw [wd_of t 3 (by simpa using a) (by simpa using b) h64]; exact Nat.le_trans (by decide) a
  · rw [wd_of t 4 (by simpa using a) (by simpa using b) h64]; exact Nat.le_trans (by decide) a
  · rw [wd_of t 5 (by simpa using a) (by simpa using b) h64]; exact Nat.le_trans (by decide) a
  · rw [wd_of t 6 (by simpa using a) (by simpa using b) h64]; exact Nat.le_trans (by decide) a
  · rw [wd_of t 7 (by simpa using a) (by simpa using b) h64]; exact Nat.le_trans (by decide) a
  · rw [wd_of t 8 (by simpa using a) (by simpa using b) h64]; exact Nat.le_trans (by decide) a
  · rw [wd_of t 9 (by simpa using a) (by simpa using b) h64]; exact Nat.le_trans (by decide) a
theorem topB_small {t : Int} (h0 : 0 ≤ t) (h1 : t < 3000) : t ≤ topB t ∧ topB t < 6000 ∧ ∃ a, buckV t = .tuple #[.int .i64 a, .int .i64 (topB t)] ∧ a ≤ t ∧ 0 ≤ a := by
  have hw := (wd_bound t.toNat (by omega)).1
  have hle : (wd t.toNat : Int) ≤ t ∨ (wd t.toNat : Int) = 1 := by
    by_cases h4 : t < 4
    · right
      unfold wd
      rw [if_pos (by omega)]
      rfl
    · left
      have := wd_small t.toNat (by omega) (by omega)
      omega
  have e1 := Int.emod_nonneg t (show (wd t.toNat : Int) ≠ 0 by omega)
  have e2 := Int.emod_lt_of_pos t (show 0 < (wd t.toNat : Int) by omega)
  have hn : ¬ (t < 0 ∨ 1099511627776 < t) := by omega
  unfold topB buckV
  rw [if_neg hn, if_neg hn]
  generalize (wd t.toNat : Int) = u9 at *
  have e3 : t % u9 ≤ t := by
    rcases hle with h | h
    · omega
    · rw [h]; omega
  exact ⟨by omega, by omega, t - t % u9, rfl, by omega, by omega⟩

theorem drop_last {l : List PB} {b : PB} {t win : Int} (hok : OkB l) (hb : oldB t win b = false) : b.units ≤ sumB ((l ++ [b]).dropWhile (oldB t win)) := by
  induction l with
  | nil => simp [hb, sumB]
  | cons a q ih =>
    have hq : OkB q := fun x hx => hok x (by simp [hx])
    rw [List.cons_append, List.dropWhile_cons]
    split
    · exact ih hq
    · have h1 := (hok a (by simp)).1
      have h2 : b.units ≤ sumB (q ++ [b]) := by
        rw [sumB_append]
        have := (sumB_bound hq).1
        simp only [sumB]
        omega
      simp only [sumB]
      omega
end Go.Proofs.YtlccfpbbdgpjbaaGreatDoor
