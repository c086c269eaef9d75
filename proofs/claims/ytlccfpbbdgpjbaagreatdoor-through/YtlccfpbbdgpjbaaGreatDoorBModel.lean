/-
  Units in a row: Balance.
-/
import Derived.Test.YtlccfpbbdgpjbaaGreatDoorHDrop2
namespace Go.Proofs.YtlccfpbbdgpjbaaGreatDoor
open Go.RowKit

structure PB where
  came : Int
  units : Int

def encPB (b : PB) : List Value := [.int .i64 b.came, .int .i64 b.units]
theorem encPB_len (b : PB) : (encPB b).length = 2 := rfl

def sumB : List PB → Int
  | [] => 0
  | b :: r => b.units + sumB r
theorem sumB_append (l m : List PB) : sumB (l ++ m) = sumB l + sumB m := by
  induction l with
  | nil => simp [sumB]
  | cons a r ih => simp only [List.cons_append, sumB, ih]; omega

/-- Units that may be. -/
def OkB (l : List PB) : Prop := ∀ b ∈ l, 0 < b.units ∧ b.units ≤ 1000 ∧ 0 ≤ b.came ∧ b.came ≤ 1099511627776
theorem sumB_bound {l : List PB} (h : OkB l) : 0 ≤ sumB l ∧ sumB l ≤ 1000 * (l.length : Int) := by
  induction l with
  | nil => simp [sumB]
  | cons a r ih =>
    have h1 := h a (by simp)
    have h2 := ih (fun b hb => h b (by simp [hb]))
    simp only [sumB, List.length_cons]
    omega
theorem OkB.take {l : List PB} (h : OkB l) (k : Nat) : OkB (l.take k) := fun b hb => h b (List.mem_of_mem_take hb)
theorem OkB.drop {l : List PB} (h : OkB l) (k : Nat) : OkB (l.drop k) := fun b hb => h b (List.mem_of_mem_drop hb)
theorem sumB_take {l : List PB} {k : Nat} (h : k < l.length) : sumB (l.take (k + 1)) = sumB (l.take k) + l[k].units := by
  rw [List.take_succ_eq_append_getElem h, sumB_append]
  simp [sumB]

set_option maxRecDepth 100000 in
set_option maxHeartbeats 1600000 in
theorem balanceB_any (p o : Nat) (v : Value) (l : List PB) (w : World) (hl : l.length ≤ 1000000) (hk : OkB l) (hc : w.cell? ⟨p, o + 3, none⟩ = some v) (hr : Row w 0 150 2 encPB v l) :
    Calls Tryz.prog 44 #[.pointer (some ⟨p, o, none⟩)] w fun e w' => e = .returned (.int .i64 (sumB l)) ∧ Below w.heap.size w w' := by
  have lp : p < w.heap.size := World.block_lt_of_cell? w _ hc
  obtain ⟨A, cap, rfl, hlen, hA, hB⟩ := hr.form
  have HB : Hid (∀ i (h : i < l.length), ∃ g, A = some ⟨g, 0, none⟩ ∧ g < w.heap.size ∧ w.cell? ⟨g, i * 2, none⟩ = some (.int .i64 l[i].came) ∧ w.cell? ⟨g, i * 2 + 1, none⟩ = some (.int .i64 l[i].units)) := fun i h => by
    obtain ⟨g, rfl⟩ := hA i h
    exact ⟨g, rfl, (hB g rfl).2.1, (hr.cell encPB_len (g := g) (j := 0) rfl h rfl).1, (hr.cell encPB_len (g := g) (j := 1) rfl h rfl).1⟩
  clear hr hB hA hlen
  have hl' : (l.length : Int) ≤ 1000000 := by omega
  have HK := hide hk
  clear hk
  go_enter Tryz.func44, Tryz.ntmps44
  go_wp2_with fail
  go_loopw [3, 11] (fun nv iv wr => ∃ k : Nat, k ≤ l.length ∧ nv = .int .i64 (sumB (l.take k)) ∧ iv = .int .i64 k ∧ Below w.heap.size w wr) (fun _ iv _ => l.length - (intOf iv).toNat)
  case atStart => exact ⟨0, Nat.zero_le _, rfl, rfl, Below.refl _ _⟩
  case round =>
    obtain ⟨k, hk, rfl, rfl, hb⟩ := hrel
    have hsz := hb.size
    by_cases hlt : k < l.length
    · have hlt' : (k : Int) < (l.length : Int) := by omega
      obtain ⟨g, rfl, hg, e0, e1⟩ := HB.out k hlt
      rw [← hb.cell (p := ⟨g, k * 2, none⟩) hg] at e0
      rw [← hb.cell (p := ⟨g, k * 2 + 1, none⟩) hg] at e1
      have hu := HK.out l[k] (List.getElem_mem _)
      have hs := sumB_bound (HK.out.take k)
      have hsl : ((l.take k).length : Int) ≤ 1000000 := by rw [List.length_take]; omega
      have HS := hide (sumB_take hlt)
      obtain ⟨u1, u2, _, _⟩ := hu
      obtain ⟨s1, s2⟩ := hs
      generalize l[k].units = u at e1 HS u1 u2
      generalize l[k].came = c at e0
      have s3 : sumB (l.take k) ≤ 1000000000 := by omega
      generalize sumB (l.take k) = s at HS s1 s2 s3 ⊢
      clear HB hc s2 hsl
      go_wp2_with fail
      go_roundw
      case rel => exact ⟨k + 1, by omega, by rw [HS.out], by go_num, hb.trans (((Below.refl _ _).alloc (Nat.le_refl _) _).mono hsz)⟩
      case measure => simp [intOf]; omega
    · have e : l.take k = l := List.take_of_length_le (by omega)
      rw [e]
      clear HB
      go_wp2_with fail
      go_ret
      exact ⟨rfl, hb⟩
end Go.Proofs.YtlccfpbbdgpjbaaGreatDoor
