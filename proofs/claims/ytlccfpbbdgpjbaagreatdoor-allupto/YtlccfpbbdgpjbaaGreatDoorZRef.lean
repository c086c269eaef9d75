import Derived.Test.YtlccfpbbdgpjbaaGreatDoorZCl
import Derived.Deep.RegionLaw
import Derived.Test.YtlccfpbbdgpjbaaGreatDoorZHeap2
import Derived.Deep.AppendSrc
namespace Go.Proofs.YtlccfpbbdgpjbaaGreatDoor
open Go.RowKit
attribute [local go_sem ↓] Go.wp_at_zero Go.wp_at_succ

set_option maxHeartbeats 800000 in
theorem find_any (p : Nat) (number : Int) (v : Value) (calls : List RCall) (w : World) (hl : calls.length ≤ 100000000) (hc : w.cell? ⟨p, 11, none⟩ = some v) (hr : Row w 0 159 5 encCall v calls) :
    Calls Tryz.prog 80 #[.pointer (some ⟨p, 0, none⟩), .int .i64 number] w fun e w' => e = .returned (.int .i64 (findI calls number)) ∧ w' = w := by
  obtain ⟨A, cap, rfl, hlen, hA, hB⟩ := hr.form
  have HB : Hid (∀ i (h : i < calls.length), ∃ g, A = some ⟨g, 0, none⟩ ∧ w.cell? ⟨g, i * 5, none⟩ = some (.int .i64 calls[i].number)) := fun i h => by
    obtain ⟨g, rfl⟩ := hA i h
    exact ⟨g, rfl, (hr.cell encCall_len (g := g) (j := 0) rfl h rfl).1⟩
  clear hr hB hA hlen
  have hl' : (calls.length : Int) ≤ 100000000 := by omega
  go_enter Tryz.func80, Tryz.ntmps80
  go_wp2_with fail
  go_loop [5] (fun i => ∃ k : Nat, k ≤ calls.length ∧ i = .int .i64 k ∧ Hid (findI calls number = findFrom number (calls.drop k) k)) (fun i => calls.length - (intOf i).toNat)
  case atStart => exact ⟨0, Nat.zero_le _, rfl, rfl⟩
  case round =>
    obtain ⟨k, hk, rfl, HF⟩ := hrel
    by_cases hlt : (k : Int) < (calls.length : Int)
    · obtain ⟨g, rfl, hcell⟩ := HB.out k (by omega)
      have HD : Hid (findFrom number (calls.drop k) k = if calls[k].number = number then (k : Int) else findFrom number (calls.drop (k + 1)) (k + 1)) := findFrom_drop number calls k (by omega)
      generalize hz : calls[k].number = z at hcell HD
      clear hz
      by_cases hn : z = number
      · subst hn
        have HE : Hid (findFrom z (calls.drop k) k = (k : Int)) := by show _ = _; rw [HD.out, if_pos rfl]
        clear HD
        go_wp2_with fail
        go_ret
        exact ⟨by rw [HF.out, HE.out]; rfl, rfl⟩
      · have hn' : (z == number) = false := by simpa using hn
        go_wp2_with fail
        go_round
        case rel => exact ⟨k + 1, by omega, by go_num, by show findI calls number = _; rw [HF.out, HD.out, if_neg hn]⟩
        case measure => simp [intOf]; omega
    · go_wp2_with fail
      go_ret
      exact ⟨by rw [HF.out, List.drop_of_length_le (by omega)]; rfl, rfl⟩

theorem Tryz.infoAct : (Tryz.prog.info? 55).map (fun i => (i.zero, i.size, i.bytes)) = some (some (.agg #[.int .i64 0, .int .i64 0, .int .i64 0, .int .i64 0, .int .i64 0, .int .i64 0]), 6, 48) := by kernel_rfl

set_option maxRecDepth 100000 in
set_option maxHeartbeats 1600000 in
theorem act_any (p : Nat) (a : RAct) (v : Value) (out : List RAct) (w : World) (hl : out.length ≤ 100000000) (hc : w.cell? ⟨p, 18, none⟩ = some v) (hz : w.frozen? ⟨p, 18, none⟩ = false) (hr : Row w 0 55 6 encAct v out) (hv : v.ownBlock ≠ some p) :
    Calls Tryz.prog 107 #[.pointer (some ⟨p, 0, none⟩), .agg #[.int .i64 a.kind, .int .i64 a.call, .int .i64 a.attempt, .int .i64 a.outcome, .int .i64 a.value, .int .i64 a.left]] w fun e w' =>
      e = .returned (.tuple #[]) ∧ ∃ v', w'.cell? ⟨p, 18, none⟩ = some v' ∧ Row w' 0 55 6 encAct v' (out ++ [a]) ∧ (v'.ownBlock = v.ownBlock ∨ ∃ g, v'.ownBlock = some g ∧ w.heap.size ≤ g) ∧ Fr p [18] v.ownBlock.toList w w' := by
  obtain ⟨i0, hi0, z0, z1, z2⟩ := info_parts Tryz.infoAct
  have lp : p < w.heap.size := World.block_lt_of_cell? w _ hc
  have hne := World.new_ne w _ hc
  have hvn : some w.heap.size ≠ v.ownBlock := fun e => by have := (hr.lt _ e.symm).2; omega
  have hnb : ∀ B : Obj, ((w.alloc B).alloc (.cells (encAct a).toArray 55)).heap[w.heap.size + 1]? = some (.cells (encAct a).toArray 55) := fun B => by
    have := heap_alloc_new (w.alloc B) (.cells (encAct a).toArray 55)
    simpa using this
  have HN := hide hnb
  clear hnb
  have hzA : ∀ B B' : Obj, ((w.alloc B).alloc B').frozen? ⟨p, 18, none⟩ = false := fun B B' => by
    rw [World.frozen?_alloc_old _ _ _ (by simp; omega), World.frozen?_alloc_old _ _ _ (by simp; omega)]
    exact hz
  have hcA : ∀ B B' : Obj, ((w.alloc B).alloc B').cell? ⟨p, 18, none⟩ = some v := fun B B' => by
    rw [World.cell?_alloc_lt _ _ _ (by simp; omega), World.cell?_alloc_lt _ _ _ (by simp; omega)]
    exact hc
  have HZ := hide hzA
  have HC := hide hcA
  clear hzA hcA
  go_enter Tryz.func107, Tryz.ntmps107
  go_wp2_with fail
  go_region_law
    ((refine step_append_lies _ (by rfl) _ _ _ (by rfl) 0 55 i0 _ 6 48 Tryz.underlying52 hi0 z0 z1 z2 rfl (by omega) v out.length (out.flatMap encAct) (by rfl) (((World.ownsRow.alloc hr _).alloc _).drew)
        ⟨w.heap.size + 1, 0, none⟩ 1 1 (encAct a) (by rfl) (by rfl) (World.news_of_block (cs := (encAct a).toArray) (t := 55) (fr := (0, 0)) (HN.out _)) (by simp [Value.oneCell', encAct])
        (by omega) (by simp only [maxLen]; omega) (by omega) (by omega) (w.heap.size + 1 + 1) (by simp) ?_; intro g cap w1 hown hgrow hat hlt; have fz : w1.frozen? ⟨p, 18, none⟩ = false := (by rw [hgrow.frozen_far _ (by simp; omega) (Ne.symm hv)]; exact HZ.out _ _); have cz : w1.cell? ⟨p, 18, none⟩ = some v := (by rw [hgrow.cell_far _ (by simp; omega) (Ne.symm hv)]; exact HC.out _ _)))
  all_goals
    go_wp2_with fail
    go_end0
    exact ⟨rfl, push_post lp hr (((Below.refl _ _).alloc (Nat.le_refl _) _).alloc (by simp) _).drew hown hgrow hv (hat.imp id (fun h => by omega)) cz⟩
end Go.Proofs.YtlccfpbbdgpjbaaGreatDoor

namespace Go.Proofs.YtlccfpbbdgpjbaaGreatDoor
open Go.RowKit

theorem Tryz.infoTimer : (Tryz.prog.info? 188).map (fun i => (i.zero, i.size, i.bytes)) = some (some (.agg #[.int .i64 0, .int .i64 0, .int .i64 0]), 3, 24) := by kernel_rfl
theorem Tryz.infoAtt : (Tryz.prog.info? 154).map (fun i => (i.zero, i.size, i.bytes)) = some (some (.agg #[.int .i64 0, .int .i64 0, .int .i64 0]), 3, 24) := by kernel_rfl

theorem take_filter_len {α : Type} (p : α → Bool) (l : List α) (k : Nat) : ((l.take k).filter p).length ≤ l.length :=
  Nat.le_trans (List.length_filter_le _ _) (by simp; omega)

set_option maxRecDepth 100000 in
set_option maxHeartbeats 1600000 in
theorem drop_any (p : Nat) (call from_ to : Int) (v : Value) (timers : List RTimer) (w : World) (hl : timers.length ≤ 100000000) (hc : w.cell? ⟨p, 14, none⟩ = some v) (hz : w.frozen? ⟨p, 14, none⟩ = false) (hr : Row w 0 188 3 encTimer v timers) :
    Calls Tryz.prog 109 #[.pointer (some ⟨p, 0, none⟩), .int .i64 call, .int .i64 from_, .int .i64 to] w fun e w' =>
      e = .returned (.tuple #[]) ∧ ∃ v', w'.cell? ⟨p, 14, none⟩ = some v' ∧ Row w' w.heap.size 188 3 encTimer v' (timers.filter (keepTimer call from_ to)) ∧ Fr p [14] [] w w' := by
  obtain ⟨i0, hi0, z0, z1, z2⟩ := info_parts Tryz.infoTimer
  have lp : p < w.heap.size := World.block_lt_of_cell? w _ hc
  obtain ⟨A, cap, rfl, hlen, hA, hB⟩ := hr.form
  have HB : Hid (∀ i (h : i < timers.length), ∃ g, A = some ⟨g, 0, none⟩ ∧ g < w.heap.size ∧ w.cell? ⟨g, i * 3, none⟩ = some (.int .i64 timers[i].call) ∧ w.cell? ⟨g, i * 3 + 1, none⟩ = some (.int .i64 timers[i].kind) ∧ w.cell? ⟨g, i * 3 + 2, none⟩ = some (.int .i64 timers[i].due)) := fun i h => by
    obtain ⟨g, rfl⟩ := hA i h
    exact ⟨g, rfl, (hB g rfl).2.1, (hr.cell encTimer_len (g := g) (j := 0) rfl h rfl).1, (hr.cell encTimer_len (g := g) (j := 1) rfl h rfl).1, (hr.cell encTimer_len (g := g) (j := 2) rfl h rfl).1⟩
  clear hr hB hA hlen
  have hl' : (timers.length : Int) ≤ 100000000 := by omega
  go_enter Tryz.func109, Tryz.ntmps109
  go_wp2_with fail
  go_loopw [8, 9] (fun lv i wr => ∃ k : Nat, k ≤ timers.length ∧ i = .int .i64 k ∧ Below w.heap.size w wr ∧ Row wr w.heap.size 188 3 encTimer lv ((timers.take k).filter (keepTimer call from_ to))) (fun _ i _ => timers.length - (intOf i).toNat)
  case atStart => exact ⟨0, Nat.zero_le _, rfl, Below.refl _ _, Row.nil _ _ _ _ _⟩
  case round =>
    obtain ⟨k, hk, rfl, hb, hrow⟩ := hrel
    have hcr : wr.cell? ⟨p, 14, none⟩ = some (.slice A timers.length cap) := (hb.cell lp).trans hc
    have hsz := hb.size
    by_cases hlt : (k : Int) < (timers.length : Int)
    · obtain ⟨g, rfl, hg, e0, e1, e2⟩ := HB.out k (by omega)
      rw [← hb.cell (p := ⟨g, k * 3, none⟩) hg] at e0
      rw [← hb.cell (p := ⟨g, k * 3 + 1, none⟩) hg] at e1
      rw [← hb.cell (p := ⟨g, k * 3 + 2, none⟩) hg] at e2
      have HF := hide (filter_snoc (keepTimer call from_ to) timers k (by omega))
      have HL := take_filter_len (keepTimer call from_ to) timers k
      generalize (timers.take k).filter (keepTimer call from_ to) = ks at hrow HF HL
      generalize timers[k] = t at e0 e1 e2 HF
      obtain ⟨zc, zk, zd⟩ := t
      dsimp only at e0 e1 e2
      clear HB hc
      by_cases c1 : zc = call
      · have c1' : (zc != call) = false := by simp [c1]
        by_cases c2 : zk < from_
        · have k0 : keepTimer call from_ to ⟨zc, zk, zd⟩ = true := by simp [keepTimer, c2]
          clear c1
          go_wp2_with (first | (at_builtin; refine wpList_append_lies _ (by rfl) _ _ _ (by rfl) w.heap.size 188 i0 _ 3 24 Tryz.underlying118 hi0 z0 z1 z2 rfl (by omega) u8 ks.length (ks.flatMap encTimer) (by rfl) (World.ownsRow.alloc (World.ownsRow.alloc hrow _) _) ⟨wr.heap.size + 1, 0, none⟩ 1 1 (encTimer ⟨zc, zk, zd⟩) (by rfl) (by rfl) (World.news_of_block (cs := (encTimer ⟨zc, zk, zd⟩).toArray) (t := 188) (fr := (0, 0)) (block_two wr _ _)) (by simp [Value.oneCell', encTimer]) (by omega) (by simp only [maxLen]; omega) (by omega) (by simp; omega) (wr.heap.size + 1 + 1) (by simp) ?_; intro g1 cap1 w1 hown hgrow hat hlt1))
          obtain ⟨nb, nr⟩ := push_new (x := (⟨zc, zk, zd⟩ : RTimer)) hb hrow (((Below.refl _ _).alloc (Nat.le_refl _) _).alloc (by simp) _) hown hgrow
          go_roundw
          case rel => exact ⟨k + 1, by omega, by go_num, nb, by rw [HF.out, if_pos k0]; exact nr⟩
          case measure => simp [intOf]; omega
        · by_cases c3 : to < zk
          · have k0 : keepTimer call from_ to ⟨zc, zk, zd⟩ = true := by simp [keepTimer, c3]
            clear c1
            go_wp2_with (first | (at_builtin; refine wpList_append_lies _ (by rfl) _ _ _ (by rfl) w.heap.size 188 i0 _ 3 24 Tryz.underlying118 hi0 z0 z1 z2 rfl (by omega) u8 ks.length (ks.flatMap encTimer) (by rfl) (World.ownsRow.alloc (World.ownsRow.alloc hrow _) _) ⟨wr.heap.size + 1, 0, none⟩ 1 1 (encTimer ⟨zc, zk, zd⟩) (by rfl) (by rfl) (World.news_of_block (cs := (encTimer ⟨zc, zk, zd⟩).toArray) (t := 188) (fr := (0, 0)) (block_two wr _ _)) (by simp [Value.oneCell', encTimer]) (by omega) (by simp only [maxLen]; omega) (by omega) (by simp; omega) (wr.heap.size + 1 + 1) (by simp) ?_; intro g1 cap1 w1 hown hgrow hat hlt1))
            obtain ⟨nb, nr⟩ := push_new (x := (⟨zc, zk, zd⟩ : RTimer)) hb hrow (((Below.refl _ _).alloc (Nat.le_refl _) _).alloc (by simp) _) hown hgrow
            go_roundw
            case rel => exact ⟨k + 1, by omega, by go_num, nb, by rw [HF.out, if_pos k0]; exact nr⟩
            case measure => simp [intOf]; omega
          · have k0 : keepTimer call from_ to ⟨zc, zk, zd⟩ = false := by simp [keepTimer, c1, c2, c3]
            clear c1
            go_wp2_with fail
            go_roundw
            case rel => exact ⟨k + 1, by omega, by go_num, hb.trans ((Below.alloc (Below.refl _ _) (Nat.le_refl _) _).mono hsz), by rw [HF.out, k0]; simpa using hrow.below ((Below.refl _ _).alloc (Nat.le_refl _) _)⟩
            case measure => simp [intOf]; omega
      · have c1' : (zc != call) = true := by simpa using c1
        have k0 : keepTimer call from_ to ⟨zc, zk, zd⟩ = true := by simp [keepTimer, c1]
        clear c1
        go_wp2_with (first | (at_builtin; refine wpList_append_lies _ (by rfl) _ _ _ (by rfl) w.heap.size 188 i0 _ 3 24 Tryz.underlying118 hi0 z0 z1 z2 rfl (by omega) u8 ks.length (ks.flatMap encTimer) (by rfl) (World.ownsRow.alloc (World.ownsRow.alloc hrow _) _) ⟨wr.heap.size + 1, 0, none⟩ 1 1 (encTimer ⟨zc, zk, zd⟩) (by rfl) (by rfl) (World.news_of_block (cs := (encTimer ⟨zc, zk, zd⟩).toArray) (t := 188) (fr := (0, 0)) (block_two wr _ _)) (by simp [Value.oneCell', encTimer]) (by omega) (by simp only [maxLen]; omega) (by omega) (by simp; omega) (wr.heap.size + 1 + 1) (by simp) ?_; intro g1 cap1 w1 hown hgrow hat hlt1))
        obtain ⟨nb, nr⟩ := push_new (x := (⟨zc, zk, zd⟩ : RTimer)) hb hrow (((Below.refl _ _).alloc (Nat.le_refl _) _).alloc (by simp) _) hown hgrow
        go_roundw
        case rel => exact ⟨k + 1, by omega, by go_num, nb, by rw [HF.out, if_pos k0]; exact nr⟩
        case measure => simp [intOf]; omega
    · have e : timers.take k = timers := List.take_of_length_le (by omega)
      rw [e] at hrow
      have hzr : wr.frozen? ⟨p, 14, none⟩ = false := (hb.frozen lp).trans hz
      obtain ⟨A', cap', rfl, _, _, _⟩ := hrow.form
      go_wp2_with fail
      go_end0
      exact ⟨rfl, store_new lp hb hrow hcr⟩
end Go.Proofs.YtlccfpbbdgpjbaaGreatDoor

namespace Go.Proofs.YtlccfpbbdgpjbaaGreatDoor
open Go.RowKit

theorem block_one (w : World) (o : Obj) : (w.alloc o).heap[w.heap.size]? = some o := heap_alloc_new w o

set_option maxRecDepth 100000 in
set_option maxHeartbeats 1600000 in
theorem close_any (p : Nat) (number : Int) (v : Value) (atts : List RAtt) (w : World) (hl : atts.length ≤ 100000000) (hc : w.cell? ⟨p, 12, none⟩ = some v) (hz : w.frozen? ⟨p, 12, none⟩ = false) (hr : Row w 0 154 3 encAtt v atts) :
    Calls Tryz.prog 82 #[.pointer (some ⟨p, 0, none⟩), .int .i64 number] w fun e w' =>
      e = .returned (.tuple #[]) ∧ ∃ v', w'.cell? ⟨p, 12, none⟩ = some v' ∧ Row w' w.heap.size 154 3 encAtt v' (atts.filter (keepAtt number)) ∧ Fr p [12] [] w w' := by
  obtain ⟨i0, hi0, z0, z1, z2⟩ := info_parts Tryz.infoAtt
  have lp : p < w.heap.size := World.block_lt_of_cell? w _ hc
  obtain ⟨A, cap, rfl, hlen, hA, hB⟩ := hr.form
  have HB : Hid (∀ i (h : i < atts.length), ∃ g, A = some ⟨g, 0, none⟩ ∧ g < w.heap.size ∧ w.cell? ⟨g, i * 3, none⟩ = some (.int .i64 atts[i].number) ∧ w.cell? ⟨g, i * 3 + 1, none⟩ = some (.int .i64 atts[i].call) ∧ w.cell? ⟨g, i * 3 + 2, none⟩ = some (.int .i64 atts[i].at_)) := fun i h => by
    obtain ⟨g, rfl⟩ := hA i h
    exact ⟨g, rfl, (hB g rfl).2.1, (hr.cell encAtt_len (g := g) (j := 0) rfl h rfl).1, (hr.cell encAtt_len (g := g) (j := 1) rfl h rfl).1, (hr.cell encAtt_len (g := g) (j := 2) rfl h rfl).1⟩
  clear hr hB hA hlen
  have hl' : (atts.length : Int) ≤ 100000000 := by omega
  go_enter Tryz.func82, Tryz.ntmps82
  go_wp2_with fail
  go_loopw [4, 5] (fun lv i wr => ∃ k : Nat, k ≤ atts.length ∧ i = .int .i64 k ∧ Below w.heap.size w wr ∧ Row wr w.heap.size 154 3 encAtt lv ((atts.take k).filter (keepAtt number))) (fun _ i _ => atts.length - (intOf i).toNat)
  case atStart => exact ⟨0, Nat.zero_le _, rfl, Below.refl _ _, Row.nil _ _ _ _ _⟩
  case round =>
    obtain ⟨k, hk, rfl, hb, hrow⟩ := hrel
    have hcr : wr.cell? ⟨p, 12, none⟩ = some (.slice A atts.length cap) := (hb.cell lp).trans hc
    have hsz := hb.size
    by_cases hlt : (k : Int) < (atts.length : Int)
    · obtain ⟨g, rfl, hg, e0, e1, e2⟩ := HB.out k (by omega)
      rw [← hb.cell (p := ⟨g, k * 3, none⟩) hg] at e0
      rw [← hb.cell (p := ⟨g, k * 3 + 1, none⟩) hg] at e1
      rw [← hb.cell (p := ⟨g, k * 3 + 2, none⟩) hg] at e2
      have HF := hide (filter_snoc (keepAtt number) atts k (by omega))
      have HL := take_filter_len (keepAtt number) atts k
      generalize (atts.take k).filter (keepAtt number) = ks at hrow HF HL
      generalize atts[k] = t at e0 e1 e2 HF
      obtain ⟨zn, zc, za⟩ := t
      dsimp only at e0 e1 e2
      clear HB hc
      by_cases c1 : zn = number
      · have c1' : (zn != number) = false := by simp [c1]
        have k0 : keepAtt number ⟨zn, zc, za⟩ = false := by simp [keepAtt, c1]
        clear c1
        go_wp2_with fail
        go_roundw
        case rel => exact ⟨k + 1, by omega, by go_num, hb, by rw [HF.out, k0]; simpa using hrow⟩
        case measure => simp [intOf]; omega
      · have c1' : (zn != number) = true := by simpa using c1
        have k0 : keepAtt number ⟨zn, zc, za⟩ = true := by simp [keepAtt, c1]
        clear c1
        go_wp2_with (first | (at_builtin; refine wpList_append_lies _ (by rfl) _ _ _ (by rfl) w.heap.size 154 i0 _ 3 24 Tryz.underlying117 hi0 z0 z1 z2 rfl (by omega) u4 ks.length (ks.flatMap encAtt) (by rfl) (World.ownsRow.alloc hrow _) ⟨wr.heap.size, 0, none⟩ 1 1 (encAtt ⟨zn, zc, za⟩) (by rfl) (by rfl) (World.news_of_block (cs := (encAtt ⟨zn, zc, za⟩).toArray) (t := 154) (fr := (0, 0)) (block_one wr _)) (by simp [Value.oneCell', encAtt]) (by omega) (by simp only [maxLen]; omega) (by omega) (by simp; omega) (wr.heap.size + 1) (by simp) ?_; intro g1 cap1 w1 hown hgrow hat hlt1))
        obtain ⟨nb, nr⟩ := push_new (x := (⟨zn, zc, za⟩ : RAtt)) hb hrow ((Below.refl _ _).alloc (Nat.le_refl _) _) hown hgrow
        go_roundw
        case rel => exact ⟨k + 1, by omega, by go_num, nb, by rw [HF.out, if_pos k0]; exact nr⟩
        case measure => simp [intOf]; omega
    · have e : atts.take k = atts := List.take_of_length_le (by omega)
      rw [e] at hrow
      have hzr : wr.frozen? ⟨p, 12, none⟩ = false := (hb.frozen lp).trans hz
      obtain ⟨A', cap', rfl, _, _, _⟩ := hrow.form
      go_wp2_with fail
      go_end0
      exact ⟨rfl, store_new lp hb hrow hcr⟩
end Go.Proofs.YtlccfpbbdgpjbaaGreatDoor

namespace Go.Proofs.YtlccfpbbdgpjbaaGreatDoor
open Go.RowKit

theorem Tryz.infoUnits : (Tryz.prog.info? 186).map (fun i => (i.zero, i.size, i.bytes)) = some (some (.agg #[.int .i64 0, .int .i64 0]), 2, 16) := by kernel_rfl

theorem sumUnits_nil : sumUnits [] = 0 := rfl
theorem foldl_add (l : List Int) : ∀ a : Int, l.foldl (· + ·) a = a + l.foldl (· + ·) 0 := by
  induction l with
  | nil => intro a; simp
  | cons x r ih => intro a; simp only [List.foldl_cons]; rw [ih (a + x), ih (0 + x)]; omega
theorem sumUnits_snoc (l : List RUnits) (u : RUnits) : sumUnits (l ++ [u]) = sumUnits l + u.n := by
  unfold sumUnits
  rw [List.map_append, List.foldl_append]
  rfl
theorem sumUnits_cons (l : List RUnits) (u : RUnits) : sumUnits (u :: l) = u.n + sumUnits l := by
  unfold sumUnits
  rw [List.map_cons, List.foldl_cons, foldl_add]
  omega

/-- Units as they may be. -/
def UnitsOk (l : List RUnits) : Prop := ∀ u ∈ l, 0 ≤ u.at_ ∧ u.at_ ≤ 1099511627776 ∧ 0 ≤ u.n ∧ u.n ≤ 1000
theorem sumUnits_bound (l : List RUnits) (h : UnitsOk l) : 0 ≤ sumUnits l ∧ sumUnits l ≤ 1000 * l.length := by
  induction l with
  | nil => exact ⟨Int.le_refl _, by simp [sumUnits]⟩
  | cons u r ih =>
    have h1 := h u (by simp)
    have h2 := ih (fun x hx => h x (by simp [hx]))
    rw [sumUnits_cons, List.length_cons]
    omega

theorem cell_keep {w w' : World} (hb : Below w.heap.size w w') {p : Addr} {v : Value} (h : w.cell? p = some v) : w'.cell? p = some v :=
  (hb.cell (World.block_lt_of_cell? w p h)).trans h
/-- Behind an append to a list that the call builds: an old cell is as it was. -/
theorem old_far {α : Type} {w wq w1 : World} {o : Obj} {e size : Nat} {enc : α → List Value} {v : Value} {xs : List α} {b j : Nat} {u : Value} (hb : b < w.heap.size) (hbw : Below w.heap.size w wq) (hr : Row wq w.heap.size e size enc v xs) (hgrow : (wq.alloc o).grownBy w1 v.ownBlock) (h : wq.cell? ⟨b, j, none⟩ = some u) : w1.cell? ⟨b, j, none⟩ = some u := by
  rw [hgrow.cell_far ⟨b, j, none⟩ (by have := hbw.size; simp; omega) (fun e' => by have := (hr.lt b e'.symm).1; omega)]
  exact cell_keep ((Below.refl _ _).alloc (Nat.le_refl _) _) h

set_option maxRecDepth 100000 in
set_option maxHeartbeats 1600000 in
theorem balance_any (p : Nat) (now window : Int) (v : Value) (units : List RUnits) (w : World) (hl : units.length ≤ 100000000) (hu : UnitsOk units) (hn0 : 0 ≤ now) (hn1 : now ≤ 1099511627776)
    (cN : w.cell? ⟨p, 10, none⟩ = some (.int .i64 now)) (cW : w.cell? ⟨p, 3, none⟩ = some (.int .i64 window)) (hc : w.cell? ⟨p, 15, none⟩ = some v) (hz : w.frozen? ⟨p, 15, none⟩ = false) (hr : Row w 0 186 2 encUnits v units) :
    Calls Tryz.prog 86 #[.pointer (some ⟨p, 0, none⟩)] w fun e w' =>
      e = .returned (.int .i64 (sumUnits (units.filter (keepUnits now window)))) ∧ ∃ v', w'.cell? ⟨p, 15, none⟩ = some v' ∧ Row w' w.heap.size 186 2 encUnits v' (units.filter (keepUnits now window)) ∧ Fr p [15] [] w w' := by
  obtain ⟨i0, hi0, z0, z1, z2⟩ := info_parts Tryz.infoUnits
  have lp : p < w.heap.size := World.block_lt_of_cell? w _ hc
  obtain ⟨A, cap, rfl, hlen, hA, hB⟩ := hr.form
  have HB : Hid (∀ i (h : i < units.length), ∃ g, A = some ⟨g, 0, none⟩ ∧ g < w.heap.size ∧ w.cell? ⟨g, i * 2, none⟩ = some (.int .i64 units[i].at_) ∧ w.cell? ⟨g, i * 2 + 1, none⟩ = some (.int .i64 units[i].n)) := fun i h => by
    obtain ⟨g, rfl⟩ := hA i h
    exact ⟨g, rfl, (hB g rfl).2.1, (hr.cell encUnits_len (g := g) (j := 0) rfl h rfl).1, (hr.cell encUnits_len (g := g) (j := 1) rfl h rfl).1⟩
  clear hr hB hA hlen
  have hl' : (units.length : Int) ≤ 100000000 := by omega
  have HU := hide hu
  clear hu
  go_enter Tryz.func86, Tryz.ntmps86
  go_wp2_with fail
  go_loopw [3, 4, 5] (fun lv s i wr => ∃ k : Nat, k ≤ units.length ∧ i = .int .i64 k ∧ s = .int .i64 (sumUnits ((units.take k).filter (keepUnits now window))) ∧ Below w.heap.size w wr ∧ Row wr w.heap.size 186 2 encUnits lv ((units.take k).filter (keepUnits now window))) (fun _ _ i _ => units.length - (intOf i).toNat)
  case atStart => exact ⟨0, Nat.zero_le _, rfl, rfl, Below.refl _ _, Row.nil _ _ _ _ _⟩
  case round =>
    obtain ⟨k, hk, rfl, rfl, hb, hrow⟩ := hrel
    have hcr : wr.cell? ⟨p, 15, none⟩ = some (.slice A units.length cap) := (hb.cell lp).trans hc
    have cNr : wr.cell? ⟨p, 10, none⟩ = some (.int .i64 now) := (hb.cell lp).trans cN
    have cWr : wr.cell? ⟨p, 3, none⟩ = some (.int .i64 window) := (hb.cell lp).trans cW
    have hsz := hb.size
    have HS := sumUnits_bound ((units.take k).filter (keepUnits now window)) (fun u h => HU.out u (List.mem_of_mem_take (List.mem_filter.1 h).1))
    by_cases hlt : (k : Int) < (units.length : Int)
    · obtain ⟨g, rfl, hg, e0, e1⟩ := HB.out k (by omega)
      rw [← hb.cell (p := ⟨g, k * 2, none⟩) hg] at e0
      rw [← hb.cell (p := ⟨g, k * 2 + 1, none⟩) hg] at e1
      have HF := hide (filter_snoc (keepUnits now window) units k (by omega))
      have HL := take_filter_len (keepUnits now window) units k
      have hu := HU.out units[k] (List.getElem_mem _)
      generalize (units.take k).filter (keepUnits now window) = ks at hrow HF HL HS
      generalize units[k] = t at e0 e1 HF hu
      obtain ⟨za, zn⟩ := t
      obtain ⟨a1, a2, a3, a4⟩ := hu
      dsimp only at e0 e1 a1 a2 a3 a4
      clear HB hc cN cW HU
      have hki : (0 : Int) ≤ (k : Int) := by omega
      obtain ⟨s1, s2⟩ := HS
      have s3 : sumUnits ks ≤ 1000000000000 := by omega
      clear s2
      by_cases c1 : now - za < window
      · have k0 : keepUnits now window ⟨za, zn⟩ = true := by simp [keepUnits, c1]
        go_wp2_with fail
        go_quiet (fail)
        obtain ⟨wq, hwq⟩ : ∃ wq, wq = wr.drewN nq := ⟨_, rfl⟩
        have hbq : Below wr.heap.size wr wq := by rw [hwq]; exact below_drewN _ _
        rw [← hwq]
        clear hwq
        have hrq := hrow.below hbq
        have hbw := hb.trans (hbq.mono hsz)
        have hcq := cell_keep hbq hcr
        have e0q := cell_keep hbq e0
        have e1q := cell_keep hbq e1
        clear hbq hrow hb hcr e0 e1 cNr cWr
        have hsq := hbw.size
        go_wp2_with (first | (at_builtin; refine wpList_append_lies _ (by rfl) _ _ _ (by rfl) w.heap.size 186 i0 _ 2 16 Tryz.underlying119 hi0 z0 z1 z2 rfl (by omega) u3 ks.length (ks.flatMap encUnits) (by rfl) (World.ownsRow.alloc hrq _) ⟨wq.heap.size, 0, none⟩ 1 1 (encUnits ⟨za, zn⟩) (by rfl) (by rfl) (World.news_of_block (cs := (encUnits ⟨za, zn⟩).toArray) (t := 186) (fr := (0, 0)) (block_one wq _)) (by simp [Value.oneCell', encUnits]) (by omega) (by simp only [maxLen]; omega) (by omega) (by simp; omega) (wq.heap.size + 1) (by simp) ?_; intro g1 cap1 w1 hown hgrow hat hlt1; obtain ⟨nb, nr⟩ := push_new (x := (⟨za, zn⟩ : RUnits)) hbw hrq ((Below.refl _ _).alloc (Nat.le_refl _) _) hown hgrow; have hcz := old_far lp hbw hrq hgrow hcq; have e1z := old_far hg hbw hrq hgrow e1q))
        go_roundw
        case rel => exact ⟨k + 1, by omega, by go_num, by rw [HF.out, if_pos k0, sumUnits_snoc], nb, by rw [HF.out, if_pos k0]; exact nr⟩
        case measure => simp [intOf]; omega
      · have k0 : keepUnits now window ⟨za, zn⟩ = false := by simp [keepUnits, c1]
        go_wp2_with fail
        go_quiet (fail)
        obtain ⟨wq, hwq⟩ : ∃ wq, wq = wr.drewN nq := ⟨_, rfl⟩
        have hbq : Below wr.heap.size wr wq := by rw [hwq]; exact below_drewN _ _
        rw [← hwq]
        clear hwq
        have hrq := hrow.below hbq
        have hbw := hb.trans (hbq.mono hsz)
        clear hbq hrow hb hcr e0 e1 cNr cWr
        go_wp2_with fail
        go_roundw
        case rel => exact ⟨k + 1, by omega, by go_num, by rw [HF.out, k0]; simp, hbw, by rw [HF.out, k0]; simpa using hrq⟩
        case measure => simp [intOf]; omega
    · have e : units.take k = units := List.take_of_length_le (by omega)
      rw [e] at hrow
      rw [e]
      have hzr : wr.frozen? ⟨p, 15, none⟩ = false := (hb.frozen lp).trans hz
      obtain ⟨A', cap', rfl, _, _, _⟩ := hrow.form
      clear HS HB HU cNr cWr
      go_wp2_with fail
      go_ret
      exact ⟨rfl, store_new lp hb hrow hcr⟩
end Go.Proofs.YtlccfpbbdgpjbaaGreatDoor

namespace Go.Proofs.YtlccfpbbdgpjbaaGreatDoor
open Go.RowKit

/-- So many units go, those that came first. -/
def takeU : List RUnits → Int → List RUnits
  | [], _ => []
  | u :: r, n => if n ≤ u.n then ⟨u.at_, u.n - n⟩ :: r else ⟨u.at_, 0⟩ :: takeU r (n - u.n)

theorem takeU_zero (l : List RUnits) (h : UnitsOk l) : takeU l 0 = l := by
  cases l with
  | nil => rfl
  | cons u r =>
    have := h u (by simp)
    unfold takeU
    rw [if_pos (by omega)]
    simp
theorem takeU_skip (u : RUnits) (r : List RUnits) (n : Int) (h0 : u.n = 0) (hn : 0 < n) : takeU (u :: r) n = u :: takeU r n := by
  conv => lhs; unfold takeU
  rw [if_neg (by omega), h0, Int.sub_zero]
  congr 1
  cases u
  simp_all
theorem takeU_one (u : RUnits) (r : List RUnits) (n : Int) : takeU (u :: r) n = takeU (⟨u.at_, u.n - 1⟩ :: r) (n - 1) := by
  conv => lhs; unfold takeU
  conv => rhs; unfold takeU
  by_cases h : n ≤ u.n
  · rw [if_pos h, if_pos (by show n - 1 ≤ u.n - 1; omega)]
    congr 2
    show _ = u.n - 1 - (n - 1)
    omega
  · rw [if_neg h, if_neg (by show ¬ n - 1 ≤ u.n - 1; omega)]
    congr 2
    show n - u.n = n - 1 - (u.n - 1)
    omega
theorem unitsOk_takeU : ∀ (l : List RUnits) (n : Int), UnitsOk l → 0 ≤ n → UnitsOk (takeU l n) := by
  intro l
  induction l with
  | nil => intro n h _; exact h
  | cons u r ih =>
    intro n h hn
    have hu := h u (by simp)
    have hr : UnitsOk r := fun x hx => h x (by simp [hx])
    unfold takeU
    split
    · intro x hx
      rcases List.mem_cons.1 hx with rfl | hx
      · exact ⟨hu.1, hu.2.1, by show 0 ≤ u.n - n; omega, by show u.n - n ≤ 1000; omega⟩
      · exact hr x hx
    · intro x hx
      rcases List.mem_cons.1 hx with rfl | hx
      · exact ⟨hu.1, hu.2.1, Int.le_refl _, by show (0 : Int) ≤ 1000; omega⟩
      · exact ih (n - u.n) hr (by omega) x hx
theorem sumUnits_takeU : ∀ (l : List RUnits) (n : Int), 0 ≤ n → n ≤ sumUnits l → sumUnits (takeU l n) = sumUnits l - n := by
  intro l
  induction l with
  | nil =>
    intro n h0 h
    have h' : n ≤ 0 := h
    show (0 : Int) = 0 - n
    omega
  | cons u r ih =>
    intro n h0 h
    rw [sumUnits_cons] at h
    unfold takeU
    split
    · rw [sumUnits_cons, sumUnits_cons]
      show u.n - n + sumUnits r = _
      omega
    · rw [sumUnits_cons, sumUnits_cons, ih (n - u.n) (by omega) (by omega)]
      show 0 + _ = _
      omega

/-- How far take has come: k entries are passed by, r units are still to go, of the rest. -/
structure Taking (kept us : List RUnits) (n r : Int) (k : Nat) : Prop where
  done : takeU kept n = us.take k ++ takeU (us.drop k) r
  ok : UnitsOk us
  r0 : 0 ≤ r
  rs : r ≤ sumUnits (us.drop k)
  len : us.length = kept.length

theorem Taking.lt {kept us : List RUnits} {n r : Int} {k : Nat} (h : Taking kept us n r k) (hr : 0 < r) : k < us.length := by
  rcases Nat.lt_or_ge k us.length with hk | hk
  · exact hk
  · have := h.rs
    rw [List.drop_of_length_le hk] at this
    have e : sumUnits ([] : List RUnits) = 0 := rfl
    omega
theorem Taking.skip {kept us : List RUnits} {n r : Int} {k : Nat} (h : Taking kept us n r k) (hr : 0 < r) (hk : k < us.length) (h0 : us[k].n = 0) : Taking kept us n r (k + 1) := by
  have hd := List.drop_eq_getElem_cons hk
  refine ⟨?_, h.ok, h.r0, ?_, h.len⟩
  · rw [h.done, hd, takeU_skip _ _ _ h0 hr, List.take_succ_eq_append_getElem hk, List.append_assoc]
    rfl
  · have := h.rs
    rw [hd, sumUnits_cons] at this
    omega
theorem Taking.one {kept us : List RUnits} {n r : Int} {k : Nat} (h : Taking kept us n r k) (hr : 0 < r) (hk : k < us.length) (h0 : us[k].n ≠ 0) : Taking kept (us.set k ⟨us[k].at_, us[k].n - 1⟩) n (r - 1) k := by
  have hd := List.drop_eq_getElem_cons hk
  have hu := h.ok us[k] (List.getElem_mem _)
  have e2 : (us.set k ⟨us[k].at_, us[k].n - 1⟩).drop k = ⟨us[k].at_, us[k].n - 1⟩ :: us.drop (k + 1) := by
    rw [List.drop_eq_getElem_cons (by simpa using hk), List.getElem_set_self, List.drop_set_of_lt (by omega)]
  refine ⟨?_, ?_, by omega, ?_, by simpa using h.len⟩
  · rw [h.done, hd, takeU_one, e2, List.take_set_of_le (Nat.le_refl _)]
  · intro x hx
    rcases List.mem_or_eq_of_mem_set hx with hx | rfl
    · exact h.ok x hx
    · exact ⟨hu.1, hu.2.1, by show 0 ≤ us[k].n - 1; omega, by show us[k].n - 1 ≤ 1000; omega⟩
  · have := h.rs
    rw [hd, sumUnits_cons] at this
    rw [e2, sumUnits_cons]
    show r - 1 ≤ us[k].n - 1 + _
    omega
theorem Taking.fin {kept us : List RUnits} {n : Int} {k : Nat} (h : Taking kept us n 0 k) : takeU kept n = us := by
  rw [h.done, takeU_zero _ (fun x hx => h.ok x (List.mem_of_mem_drop hx)), List.take_append_drop]

set_option maxRecDepth 100000 in
set_option maxHeartbeats 1600000 in
theorem take_any (p : Nat) (now window n : Int) (v : Value) (units : List RUnits) (w : World) (hl : units.length ≤ 100000000) (hu : UnitsOk units) (hn0 : 0 ≤ now) (hn1 : now ≤ 1099511627776) (hn : 0 ≤ n)
    (cN : w.cell? ⟨p, 10, none⟩ = some (.int .i64 now)) (cW : w.cell? ⟨p, 3, none⟩ = some (.int .i64 window)) (hc : w.cell? ⟨p, 15, none⟩ = some v) (hz : w.frozen? ⟨p, 15, none⟩ = false) (hr : Row w 0 186 2 encUnits v units) :
    Calls Tryz.prog 110 #[.pointer (some ⟨p, 0, none⟩), .int .i64 n] w fun e w' =>
      e = .returned (.bool (decide (n ≤ sumUnits (units.filter (keepUnits now window))))) ∧ ∃ v', w'.cell? ⟨p, 15, none⟩ = some v' ∧
        Row w' w.heap.size 186 2 encUnits v' (if n ≤ sumUnits (units.filter (keepUnits now window)) then takeU (units.filter (keepUnits now window)) n else units.filter (keepUnits now window)) ∧ Fr p [15] [] w w' := by
  have lp : p < w.heap.size := World.block_lt_of_cell? w _ hc
  have HB := hide (balance_any p now window v units w hl hu hn0 hn1 cN cW hc hz hr)
  have hk : UnitsOk (units.filter (keepUnits now window)) := fun x hx => hu x (List.mem_filter.1 hx).1
  have hkl : (units.filter (keepUnits now window)).length ≤ 100000000 := Nat.le_trans (List.length_filter_le _ _) hl
  have hs := sumUnits_bound _ hk
  generalize units.filter (keepUnits now window) = kept at HB hk hkl hs
  have HK := hide hk
  clear hr hu hc cN cW hk
  obtain ⟨hs0, hs1⟩ := hs
  by_cases hlt : sumUnits kept < n
  · have hd : decide (n ≤ sumUnits kept) = false := by simpa using hlt
    rw [hd, if_neg (by omega)]
    go_enter Tryz.func110, Tryz.ntmps110
    go_wp2_with fail
    refine HB.out.mono ?_
    rintro e w' ⟨rfl, hpost⟩
    have HP := hide hpost
    clear hpost HB
    go_wp2_with fail
    go_ret
    exact ⟨rfl, HP.out⟩
  · have hd : decide (n ≤ sumUnits kept) = true := by simpa using hlt
    rw [hd, if_pos (by omega)]
    go_enter Tryz.func110, Tryz.ntmps110
    go_wp2_with fail
    refine HB.out.mono ?_
    rintro e w1 ⟨rfl, v1, hc1, hr1, hf1⟩
    clear HB
    have T0 : Taking kept kept n n 0 := ⟨rfl, HK.out, hn, by simpa using hlt, rfl⟩
    go_wp2_with fail
    go_loopw [1, 6] (fun nv iv wr => ∃ (r : Int) (k : Nat) (us : List RUnits), nv = .int .i64 r ∧ iv = .int .i64 k ∧ r ≤ 1000000000000 ∧ Taking kept us n r k ∧ wr.cell? ⟨p, 15, none⟩ = some v1 ∧ Row wr w.heap.size 186 2 encUnits v1 us ∧ Fr p [15] [] w wr) (fun nv iv _ => (intOf nv).toNat + (100000000 - (intOf iv).toNat))
    case atStart => exact ⟨n, 0, kept, rfl, rfl, by omega, T0, hc1, hr1, hf1⟩
    case round =>
      obtain ⟨r, k, us, rfl, rfl, hr9, T, hcr, hrr, hfr⟩ := hrel
      by_cases hr0 : 0 < r
      · have hk := T.lt hr0
        obtain ⟨A, cap, rfl, _, hA, hB⟩ := hrr.form
        obtain ⟨g, rfl⟩ := hA k hk
        have hg := (hB g rfl).1
        obtain ⟨e1, f1⟩ := hrr.cell encUnits_len (g := g) (j := 1) rfl hk rfl
        have hu := T.ok us[k] (List.getElem_mem _)
        have TS := hide (T.skip hr0 hk)
        have TO := hide (T.one hr0 hk)
        have HR := hide (fun (u : Value) (x : RUnits) hx => hrr.set encUnits_len (g := g) (j := 1) rfl hk (by omega) u x hx)
        have hlen := T.len
        have hk' : (k : Int) < (us.length : Int) := by omega
        have hul : us.length ≤ 100000000 := by omega
        clear hB hA T hlen hd HK hs1
        obtain ⟨_, _, n0, n1⟩ := hu
        generalize hz9 : us[k].n = z at e1 TS TO n0 n1
        have HZ := hide hz9
        clear hz9
        by_cases z0 : z = 0
        · subst z0
          go_wp2_with fail
          go_roundw
          case rel => exact ⟨r, k + 1, us, rfl, by go_num, hr9, TS.out rfl, hcr, hrr, hfr⟩
          case measure => simp [intOf]; omega
        · have z1 : (z == 0) = false := by simpa using z0
          go_wp2_with fail
          go_roundw
          case rel =>
            refine ⟨r - 1, k, us.set k ⟨us[k].at_, z - 1⟩, by go_num, rfl, by omega, ?_, ?_, HR.out _ _ rfl, hfr.setNew lp hg _⟩
            · exact TO.out z0
            · rw [World.cell?_of_block (Below.heap_setCell _ _ _ _ (by show p ≠ g; omega))]
              exact hcr
          case measure => simp [intOf]; omega
      · have hr00 : r = 0 := by have := T.r0; omega
        subst hr00
        have hfin := hide T.fin
        go_wp2_with fail
        go_ret
        exact ⟨rfl, v1, hcr, by rw [hfin.out]; exact hrr, hfr⟩
end Go.Proofs.YtlccfpbbdgpjbaaGreatDoor

namespace Go.Proofs.YtlccfpbbdgpjbaaGreatDoor
open Go.RowKit

/-- The list lies behind the place o of a block of its own. -/
def RowM (w : World) (v : Value) (xs : List Int) : Prop :=
  (v = .slice none 0 0 ∧ xs = []) ∨
  ∃ g o cap cur, v = .slice (some ⟨g, o, none⟩) xs.length cap ∧ w.heap[g]? = some (.cells cur 3 (0, 0)) ∧ xs.length ≤ cap ∧ cap ≤ maxLen ∧ cur.size = o + cap ∧ ∀ k (h : k < xs.length), cur[o + k]? = some (.int .i64 xs[k])

section
variable {w w' : World} {v : Value} {xs : List Int}

theorem RowM.nil (w : World) : RowM w (.slice none 0 0) [] := .inl ⟨rfl, rfl⟩
theorem RowM.lt (h : RowM w v xs) : ∀ k, v.ownBlock = some k → 0 ≤ k ∧ k < w.heap.size := by
  intro k hk
  rcases h with ⟨rfl, _⟩ | ⟨g, o, cap, cur, rfl, hg, _⟩
  · simp [Value.ownBlock] at hk
  · simp [Value.ownBlock] at hk
    subst hk
    exact ⟨Nat.zero_le _, (Array.getElem?_eq_some_iff.1 hg).1⟩
theorem RowM.same (h : RowM w v xs) (hs : ∀ k, v.ownBlock = some k → w'.heap[k]? = w.heap[k]?) : RowM w' v xs := by
  rcases h with hn | ⟨g, o, cap, cur, rfl, hg, rest⟩
  · exact .inl hn
  · exact .inr ⟨g, o, cap, cur, rfl, (hs g rfl).trans hg, rest⟩
theorem RowM.below (h : RowM w v xs) (hb : Below w.heap.size w w') : RowM w' v xs := h.same fun k hk => hb.block k (h.lt k hk).2
theorem Fr.rowM {p : Nat} {J R : List Nat} (h : Fr p J R w w') (r : RowM w v xs) (hv : ∀ k, v.ownBlock = some k → k ≠ p ∧ k ∉ R) : RowM w' v xs :=
  r.same fun k hk => h.block k (r.lt k hk).2 (hv k hk).1 (hv k hk).2

/-- The value, and its cells. -/
theorem RowM.form (h : RowM w v xs) : ∃ A cap, v = .slice A xs.length cap ∧ xs.length ≤ cap ∧ ∀ k (_ : k < xs.length), ∃ g o, A = some ⟨g, o, none⟩ ∧ v.ownBlock = some g ∧ w.cell? ⟨g, o + k, none⟩ = some (.int .i64 xs[k]) := by
  rcases h with ⟨rfl, rfl⟩ | ⟨g, o, cap, cur, rfl, hg, h1, h2, h3, h4⟩
  · exact ⟨none, 0, rfl, Nat.le_refl _, fun k hk => absurd hk (Nat.not_lt_zero _)⟩
  · refine ⟨some ⟨g, o, none⟩, cap, rfl, h1, fun k hk => ⟨g, o, rfl, rfl, ?_⟩⟩
    rw [cell_of_row w g (o + k) cur 3 (0, 0) hg]
    exact h4 k hk

/-- The head is cut off. -/
theorem RowM.tail {g o n cap : Nat} (h : RowM w (.slice (some ⟨g, o, none⟩) n cap) xs) (hn : 1 ≤ xs.length) : RowM w (.slice (some ⟨g, o + 1, none⟩) (n - 1) (cap - 1)) (xs.drop 1) := by
  rcases h with ⟨h0, _⟩ | ⟨g', o', cap', cur, hv, hg, h1, h2, h3, h4⟩
  · cases h0
  · simp only [Value.slice.injEq, Option.some.injEq, Addr.mk.injEq] at hv
    obtain ⟨⟨rfl, rfl, _⟩, rfl, rfl⟩ := hv
    refine .inr ⟨g, o + 1, cap - 1, cur, ?_, hg, ?_, by omega, by omega, fun k hk => ?_⟩
    · rw [List.length_drop]
    · rw [List.length_drop]; omega
    · rw [List.length_drop] at hk
      have := h4 (1 + k) (by omega)
      rw [List.getElem_drop, ← this]
      congr 1
      omega

/-- An append of one number. -/
theorem RowM.push {P : Program} {i : TypeInfo} (ht : P.underlying 45 = some (.slice 3)) (hi : P.info? 3 = some i) (hz : i.zero = some (.int .i64 0)) (hs : i.size = 1) (hb : i.bytes = 8) (h : RowM w v xs) (hl : xs.length ≤ 1000000) (t : Int) {B : Nat} (hB : w.cell? ⟨B, 0, none⟩ = some (.int .i64 t)) (ty : TypeId) :
    ∃ v' w', (Builtin.append_ #[45, 45] ty #[v, .slice (some ⟨B, 0, none⟩) 1 1]).run P w = .ok v' w' ∧ RowM w' v' (xs ++ [t]) ∧ w.grownBy w' v.ownBlock ∧ (v'.ownBlock = v.ownBlock ∨ v'.ownBlock = some w.heap.size) := by
  have hsrc : Src P i.size 45 (.slice (some ⟨B, 0, none⟩) 1 1) 1 [.int .i64 t] w := by
    rw [hs]
    refine Src.ofSlice w ht ⟨B, 0, none⟩ 1 1 [.int .i64 t] rfl (fun j u hu => ?_) (fun u hu => ?_)
    · cases j with
      | zero =>
        have : Value.int .i64 t = u := by simpa using hu
        rw [← this]
        exact hB
      | succ j => simp at hu
    · have : u = .int .i64 t := by simpa using hu
      rw [this]
      rfl
  have grow : ∀ (A : Option Addr) (cap : Nat), v = .slice A xs.length cap → xs.length ≤ cap → cap < xs.length + 1 → (Builtin.firstCells i.size xs.length (.slice A xs.length cap)).run P w.drew = .ok (xs.map (Value.int .i64)).toArray w.drew →
      ∃ v' w', (Builtin.append_ #[45, 45] ty #[v, .slice (some ⟨B, 0, none⟩) 1 1]).run P w = .ok v' w' ∧ RowM w' v' (xs ++ [t]) ∧ w.grownBy w' v.ownBlock ∧ (v'.ownBlock = v.ownBlock ∨ v'.ownBlock = some w.heap.size) := by
    intro A cap hv hc1 hc2 hold
    have hrun := run_append_grow_src w 45 45 ty 3 i (.int .i64 0) ht hi hz A xs.length cap (xs.map (Value.int .i64)) hold (.slice (some ⟨B, 0, none⟩) 1 1) 1 [.int .i64 t] hsrc hc2 (by omega) (growslice_fits hc2 (by rw [hb]; omega))
    rw [hv]
    have hge := grownCap_ge w (xs.length + 1) cap 3
    have hle := grownCap_le_maxLen w (xs.length + 1) cap 3 (by simp only [maxLen]; omega)
    generalize grownCap w (xs.length + 1) cap 3 = gc at hrun hge hle
    refine ⟨_, _, hrun, .inr ⟨w.heap.size, 0, gc, ((xs.map (Value.int .i64) ++ [Value.int .i64 t]).toArray : Array Value) ++ Builtin.zeroCells (Value.int .i64 0).cells (gc - (xs.length + 1)), by simp, heap_alloc_new w.drew _, by simpa using hge, hle, ?_, ?_⟩, ⟨rfl, rfl, rfl, by simp, fun k hk _ => heap_alloc_old w.drew _ hk⟩, .inr rfl⟩
    · have hzc : (Builtin.zeroCells (Value.int .i64 0).cells (gc - (xs.length + 1))).size = gc - (xs.length + 1) := by simp [Builtin.zeroCells, Value.cells]
      simp [hzc]
      omega
    · intro k hk
      have hk' : k < (xs.map (Value.int .i64) ++ [Value.int .i64 t]).length := by simpa using hk
      rw [Nat.zero_add, Array.getElem?_append_left (by simpa using hk), List.getElem?_toArray, List.getElem?_eq_getElem hk']
      congr 1
      by_cases e : k < xs.length
      · rw [List.getElem_append_left (by simpa using e), List.getElem_append_left e, List.getElem_map]
      · have : k = xs.length := by rw [List.length_append] at hk; simp at hk; omega
        subst this
        simp
  have hcopy := h
  rcases h with ⟨rfl, rfl⟩ | ⟨g, o, cap, cur, hv, hg, h1, h2, h3, h4⟩
  · exact grow none 0 rfl (Nat.le_refl _) (by simp) (run_firstCells_none w.drew _ _ _ _)
  · have hcell : ∀ j u, (xs.map (Value.int .i64))[j]? = some u → w.cell? ((⟨g, o, none⟩ : Addr).add j) = some u := fun j u hu => by
      have hj : j < xs.length := by
        have := (List.getElem?_eq_some_iff.1 hu).1
        simpa using this
      rw [show (⟨g, o, none⟩ : Addr).add j = ⟨g, o + j, none⟩ by cases j <;> simp [Addr.add], cell_of_row w g (o + j) cur 3 (0, 0) hg, h4 j hj, ← hu, List.getElem?_map, List.getElem?_eq_getElem hj]
      rfl
    by_cases hr : cap < xs.length + 1
    · refine grow (some ⟨g, o, none⟩) cap hv h1 hr ?_
      exact run_firstCells_some w.drew _ _ _ _ _ _ (by rw [hs]; simp) (by simpa using hcell)
    · have hrun := run_append_room_src w 45 45 ty 3 i ht hi g o xs.length cap (.slice (some ⟨B, 0, none⟩) 1 1) 1 [.int .i64 t] hsrc (by omega)
        (fun j hj => by
          have : j = 0 := by simpa using hj
          subst this
          rw [hs, cell_of_row w g _ cur 3 (0, 0) hg, Array.getElem?_eq_getElem (by omega)]
          rfl)
        (fun j hj => by
          unfold World.frozen?
          dsimp only
          rw [hg]
          simp)
      rw [hv]
      refine ⟨_, _, hrun, .inr ⟨g, o, cap, layA cur (o + xs.length * i.size) [.int .i64 t], by simp, heap_setCells [.int .i64 t] (o + xs.length * i.size) w cur hg, by simp; omega, h2, by rw [layA_size]; exact h3, ?_⟩, ⟨rfl, rfl, rfl, by simp [World.setCells], fun k hk hne => ?_⟩, .inl rfl⟩
      · intro k hk
        rw [hs, Nat.mul_one]
        show (cur.setIfInBounds (o + xs.length) (.int .i64 t))[o + k]? = _
        rw [Array.getElem?_setIfInBounds]
        by_cases e : k < xs.length
        · rw [if_neg (by omega), h4 k e, List.getElem_append_left e]
        · have : k = xs.length := by rw [List.length_append] at hk; simp at hk; omega
          subst this
          rw [if_pos rfl, if_pos (by omega)]
          simp
      · have : k ≠ g := fun e => hne (by rw [e]; rfl)
        show (w.setCell _ _).heap[k]? = _
        exact Below.heap_setCell w _ _ k this
end
end Go.Proofs.YtlccfpbbdgpjbaaGreatDoor

namespace Go.Proofs.YtlccfpbbdgpjbaaGreatDoor
open Go.RowKit

structure St where
  cfg : Cfg
  now : Int
  calls : List RCall
  atts : List RAtt
  numbers : Int
  timers : List RTimer
  units : List RUnits
  times : List Int
  stale : Int
  out : List RAct

/-- The values of its six lists. -/
structure V6 where
  c : Value
  a : Value
  t : Value
  u : Value
  m : Value
  o : Value

/-- The blocks that are its own. -/
def blk (p : Nat) (V : V6) : Nat → Option Nat
  | 0 => some p
  | 1 => V.c.ownBlock
  | 2 => V.a.ownBlock
  | 3 => V.t.ownBlock
  | 4 => V.u.ownBlock
  | 5 => V.m.ownBlock
  | 6 => V.o.ownBlock
  | _ => none
def Apf (f : Nat → Option Nat) : Prop := ∀ i j, i ≠ j → ∀ k, f i = some k → f j ≠ some k
def own (p : Nat) (V : V6) (k : Nat) : Prop := ∃ i, blk p V i = some k

theorem ap_upd {f f' : Nat → Option Nat} {q : Nat} {y : Option Nat} {N : Nat} (hf : ∀ i, f' i = if i = q then y else f i) (h : Apf f) (hold : ∀ i k, f i = some k → k < N) (hy : y = f q ∨ ∀ g, y = some g → N ≤ g) : Apf f' := by
  intro i j hij k hi hj
  rw [hf] at hi hj
  by_cases iq : i = q
  · have jq : j ≠ q := fun e => hij (iq.trans e.symm)
    rw [if_pos iq] at hi
    rw [if_neg jq] at hj
    rcases hy with e | hg
    · exact h q j (fun e' => jq e'.symm) k (by rw [← e]; exact hi) hj
    · have := hg k hi
      have := hold j k hj
      omega
  · rw [if_neg iq] at hi
    by_cases jq : j = q
    · rw [if_pos jq] at hj
      rcases hy with e | hg
      · exact h i q iq k hi (by rw [← e]; exact hj)
      · have := hg k hj
        have := hold i k hi
        omega
    · rw [if_neg jq] at hj
      exact h i j hij k hi hj

structure Rep (w : World) (p : Nat) (s : St) (V : V6) : Prop where
  k0 : w.cell? ⟨p, 0, none⟩ = some (.int .i64 s.cfg.deposit)
  k1 : w.cell? ⟨p, 1, none⟩ = some (.int .i64 s.cfg.cost)
  k2 : w.cell? ⟨p, 2, none⟩ = some (.int .i64 s.cfg.cap)
  k3 : w.cell? ⟨p, 3, none⟩ = some (.int .i64 s.cfg.window)
  k4 : w.cell? ⟨p, 4, none⟩ = some (.int .i64 s.cfg.attempts)
  k5 : w.cell? ⟨p, 5, none⟩ = some (.int .i64 s.cfg.flight)
  k6 : w.cell? ⟨p, 6, none⟩ = some (.int .i64 s.cfg.base)
  k7 : w.cell? ⟨p, 7, none⟩ = some (.int .i64 s.cfg.most)
  k8 : w.cell? ⟨p, 8, none⟩ = some (.int .i64 s.cfg.rank)
  k9 : w.cell? ⟨p, 9, none⟩ = some (.int .i64 s.cfg.samples)
  kN : w.cell? ⟨p, 10, none⟩ = some (.int .i64 s.now)
  kB : w.cell? ⟨p, 13, none⟩ = some (.int .i64 s.numbers)
  kL : w.cell? ⟨p, 17, none⟩ = some (.int .i64 s.stale)
  kc : w.cell? ⟨p, 11, none⟩ = some V.c
  ka : w.cell? ⟨p, 12, none⟩ = some V.a
  kt : w.cell? ⟨p, 14, none⟩ = some V.t
  ku : w.cell? ⟨p, 15, none⟩ = some V.u
  km : w.cell? ⟨p, 16, none⟩ = some V.m
  ko : w.cell? ⟨p, 18, none⟩ = some V.o
  fz : ∀ j, j < 19 → w.frozen? ⟨p, j, none⟩ = false
  rc : Row w 0 159 5 encCall V.c s.calls
  ra : Row w 0 154 3 encAtt V.a s.atts
  rt : Row w 0 188 3 encTimer V.t s.timers
  ru : Row w 0 186 2 encUnits V.u s.units
  rm : RowM w V.m s.times
  ro : Row w 0 55 6 encAct V.o s.out
  ap : Apf (blk p V)

theorem Rep.lp {w : World} {p : Nat} {s : St} {V : V6} (h : Rep w p s V) : p < w.heap.size := World.block_lt_of_cell? w _ h.kN
theorem Rep.lt {w : World} {p : Nat} {s : St} {V : V6} (h : Rep w p s V) : ∀ i k, blk p V i = some k → k < w.heap.size := by
  intro i k hk
  match i, hk with
  | 0, hk => simp [blk] at hk; rw [← hk]; exact h.lp
  | 1, hk => exact (h.rc.lt k hk).2
  | 2, hk => exact (h.ra.lt k hk).2
  | 3, hk => exact (h.rt.lt k hk).2
  | 4, hk => exact (h.ru.lt k hk).2
  | 5, hk => exact (h.rm.lt k hk).2
  | 6, hk => exact (h.ro.lt k hk).2
  | n + 7, hk => cases hk

/-- From V in w to V' in w': all else is as it was. -/
structure Mv (p : Nat) (V : V6) (w : World) (V' : V6) (w' : World) : Prop where
  os : w'.os = w.os
  tape : w'.tape = w.tape
  output : w'.output = w.output
  size : w.heap.size ≤ w'.heap.size
  block : ∀ k, k < w.heap.size → ¬ own p V k → w'.heap[k]? = w.heap[k]?
  news : ∀ k, own p V' k → own p V k ∨ w.heap.size ≤ k

theorem Mv.refl (p : Nat) (V : V6) (w : World) : Mv p V w V w := ⟨rfl, rfl, rfl, Nat.le_refl _, fun _ _ _ => rfl, fun _ h => .inl h⟩
theorem Mv.trans {p : Nat} {V V1 V2 : V6} {w w1 w2 : World} (h : Mv p V w V1 w1) (k : Mv p V1 w1 V2 w2) : Mv p V w V2 w2 :=
  ⟨k.os.trans h.os, k.tape.trans h.tape, k.output.trans h.output, Nat.le_trans h.size k.size,
    fun b hb hn => (k.block b (Nat.lt_of_lt_of_le hb h.size) (fun ho => (h.news b ho).elim hn (fun h' => absurd hb (Nat.not_lt.2 h')))).trans (h.block b hb hn),
    fun b hb => (k.news b hb).elim (fun h' => h.news b h') (fun h' => .inr (Nat.le_trans h.size h'))⟩
theorem Mv.of_below {p : Nat} {V : V6} {w w' : World} (h : Below w.heap.size w w') : Mv p V w V w' :=
  ⟨h.os, h.tape, h.output, h.size, fun k hk _ => h.block k hk, fun _ h => .inl h⟩

theorem Rep.on {w w' : World} {p : Nat} {s : St} {V : V6} (h : Rep w p s V) (hb : Below w.heap.size w w') : Rep w' p s V where
  k0 := cell_keep hb h.k0
  k1 := cell_keep hb h.k1
  k2 := cell_keep hb h.k2
  k3 := cell_keep hb h.k3
  k4 := cell_keep hb h.k4
  k5 := cell_keep hb h.k5
  k6 := cell_keep hb h.k6
  k7 := cell_keep hb h.k7
  k8 := cell_keep hb h.k8
  k9 := cell_keep hb h.k9
  kN := cell_keep hb h.kN
  kB := cell_keep hb h.kB
  kL := cell_keep hb h.kL
  kc := cell_keep hb h.kc
  ka := cell_keep hb h.ka
  kt := cell_keep hb h.kt
  ku := cell_keep hb h.ku
  km := cell_keep hb h.km
  ko := cell_keep hb h.ko
  fz := fun j hj => (hb.frozen (p := ⟨p, j, none⟩) h.lp).trans (h.fz j hj)
  rc := h.rc.below hb
  ra := h.ra.below hb
  rt := h.rt.below hb
  ru := h.ru.below hb
  rm := h.rm.below hb
  ro := h.ro.below hb
  ap := h.ap

/-- The list of calls has turned, and nothing else. -/
theorem Rep.set_c {w w' : World} {p : Nat} {s : St} {V : V6} (h : Rep w p s V) {v : Value} {xs : List RCall} (hf : Fr p [11] V.c.ownBlock.toList w w') (hc : w'.cell? ⟨p, 11, none⟩ = some v) (hr : Row w' 0 159 5 encCall v xs) (hv : v.ownBlock = V.c.ownBlock ∨ ∀ g, v.ownBlock = some g → w.heap.size ≤ g) :
    Rep w' p { s with calls := xs } { V with c := v } ∧ Mv p V w { V with c := v } w' := by
  have hb : ∀ i, blk p { V with c := v } i = if i = 1 then v.ownBlock else blk p V i := fun i => by
    match i with
    | 0 => rfl
    | 1 => rfl
    | 2 => rfl
    | 3 => rfl
    | 4 => rfl
    | 5 => rfl
    | 6 => rfl
    | n + 7 => rw [if_neg (by omega)]; rfl
  have far : ∀ j, j ≠ 1 → ∀ k, blk p V j = some k → k ∉ V.c.ownBlock.toList := fun j hj k hk hm => h.ap j 1 hj k hk (by simpa [blk] using hm)
  have np : ∀ j, j ≠ 0 → ∀ k, blk p V j = some k → k ≠ p := fun j hj k hk e => h.ap j 0 hj k hk (by rw [e]; rfl)
  refine ⟨⟨(hf.cell 0 (by decide)).trans h.k0, (hf.cell 1 (by decide)).trans h.k1, (hf.cell 2 (by decide)).trans h.k2, (hf.cell 3 (by decide)).trans h.k3, (hf.cell 4 (by decide)).trans h.k4, (hf.cell 5 (by decide)).trans h.k5, (hf.cell 6 (by decide)).trans h.k6, (hf.cell 7 (by decide)).trans h.k7, (hf.cell 8 (by decide)).trans h.k8, (hf.cell 9 (by decide)).trans h.k9, (hf.cell 10 (by decide)).trans h.kN, (hf.cell 13 (by decide)).trans h.kB, (hf.cell 17 (by decide)).trans h.kL, hc, (hf.cell 12 (by decide)).trans h.ka, (hf.cell 14 (by decide)).trans h.kt, (hf.cell 15 (by decide)).trans h.ku, (hf.cell 16 (by decide)).trans h.km, (hf.cell 18 (by decide)).trans h.ko, ?_, hr, hf.row h.ra (fun k hk => ⟨np 2 (by decide) k hk, far 2 (by decide) k hk⟩), hf.row h.rt (fun k hk => ⟨np 3 (by decide) k hk, far 3 (by decide) k hk⟩), hf.row h.ru (fun k hk => ⟨np 4 (by decide) k hk, far 4 (by decide) k hk⟩), hf.rowM h.rm (fun k hk => ⟨np 5 (by decide) k hk, far 5 (by decide) k hk⟩), hf.row h.ro (fun k hk => ⟨np 6 (by decide) k hk, far 6 (by decide) k hk⟩), ap_upd hb h.ap h.lt (by simpa [blk] using hv)⟩, ?_⟩
  · exact fun j hj => (hf.frozen j).trans (h.fz j hj)
  · refine ⟨hf.os, hf.tape, hf.output, hf.size, fun k hk hn => hf.block k hk (fun e => hn ⟨0, by rw [e]; rfl⟩) (fun hm => hn ⟨1, by simpa [blk] using hm⟩), ?_⟩
    rintro k ⟨i, hi⟩
    rw [hb] at hi
    by_cases e : i = 1
    · rw [if_pos e] at hi
      rcases hv with e' | hg
      · exact .inl ⟨1, by rw [← hi]; exact e'.symm⟩
      · exact .inr (hg k hi)
    · rw [if_neg e] at hi
      exact .inl ⟨i, hi⟩

/-- The list of atts has turned, and nothing else. -/
theorem Rep.set_a {w w' : World} {p : Nat} {s : St} {V : V6} (h : Rep w p s V) {v : Value} {xs : List RAtt} (hf : Fr p [12] V.a.ownBlock.toList w w') (hc : w'.cell? ⟨p, 12, none⟩ = some v) (hr : Row w' 0 154 3 encAtt v xs) (hv : v.ownBlock = V.a.ownBlock ∨ ∀ g, v.ownBlock = some g → w.heap.size ≤ g) :
    Rep w' p { s with atts := xs } { V with a := v } ∧ Mv p V w { V with a := v } w' := by
  have hb : ∀ i, blk p { V with a := v } i = if i = 2 then v.ownBlock else blk p V i := fun i => by
    match i with
    | 0 => rfl
    | 1 => rfl
    | 2 => rfl
    | 3 => rfl
    | 4 => rfl
    | 5 => rfl
    | 6 => rfl
    | n + 7 => rw [if_neg (by omega)]; rfl
  have far : ∀ j, j ≠ 2 → ∀ k, blk p V j = some k → k ∉ V.a.ownBlock.toList := fun j hj k hk hm => h.ap j 2 hj k hk (by simpa [blk] using hm)
  have np : ∀ j, j ≠ 0 → ∀ k, blk p V j = some k → k ≠ p := fun j hj k hk e => h.ap j 0 hj k hk (by rw [e]; rfl)
  refine ⟨⟨(hf.cell 0 (by decide)).trans h.k0, (hf.cell 1 (by decide)).trans h.k1, (hf.cell 2 (by decide)).trans h.k2, (hf.cell 3 (by decide)).trans h.k3, (hf.cell 4 (by decide)).trans h.k4, (hf.cell 5 (by decide)).trans h.k5, (hf.cell 6 (by decide)).trans h.k6, (hf.cell 7 (by decide)).trans h.k7, (hf.cell 8 (by decide)).trans h.k8, (hf.cell 9 (by decide)).trans h.k9, (hf.cell 10 (by decide)).trans h.kN, (hf.cell 13 (by decide)).trans h.kB, (hf.cell 17 (by decide)).trans h.kL, (hf.cell 11 (by decide)).trans h.kc, hc, (hf.cell 14 (by decide)).trans h.kt, (hf.cell 15 (by decide)).trans h.ku, (hf.cell 16 (by decide)).trans h.km, (hf.cell 18 (by decide)).trans h.ko, ?_, hf.row h.rc (fun k hk => ⟨np 1 (by decide) k hk, far 1 (by decide) k hk⟩), hr, hf.row h.rt (fun k hk => ⟨np 3 (by decide) k hk, far 3 (by decide) k hk⟩), hf.row h.ru (fun k hk => ⟨np 4 (by decide) k hk, far 4 (by decide) k hk⟩), hf.rowM h.rm (fun k hk => ⟨np 5 (by decide) k hk, far 5 (by decide) k hk⟩), hf.row h.ro (fun k hk => ⟨np 6 (by decide) k hk, far 6 (by decide) k hk⟩), ap_upd hb h.ap h.lt (by simpa [blk] using hv)⟩, ?_⟩
  · exact fun j hj => (hf.frozen j).trans (h.fz j hj)
  · refine ⟨hf.os, hf.tape, hf.output, hf.size, fun k hk hn => hf.block k hk (fun e => hn ⟨0, by rw [e]; rfl⟩) (fun hm => hn ⟨2, by simpa [blk] using hm⟩), ?_⟩
    rintro k ⟨i, hi⟩
    rw [hb] at hi
    by_cases e : i = 2
    · rw [if_pos e] at hi
      rcases hv with e' | hg
      · exact .inl ⟨2, by rw [← hi]; exact e'.symm⟩
      · exact .inr (hg k hi)
    · rw [if_neg e] at hi
      exact .inl ⟨i, hi⟩

/-- The list of timers has turned, and nothing else. -/
theorem Rep.set_t {w w' : World} {p : Nat} {s : St} {V : V6} (h : Rep w p s V) {v : Value} {xs : List RTimer} (hf : Fr p [14] V.t.ownBlock.toList w w') (hc : w'.cell? ⟨p, 14, none⟩ = some v) (hr : Row w' 0 188 3 encTimer v xs) (hv : v.ownBlock = V.t.ownBlock ∨ ∀ g, v.ownBlock = some g → w.heap.size ≤ g) :
    Rep w' p { s with timers := xs } { V with t := v } ∧ Mv p V w { V with t := v } w' := by
  have hb : ∀ i, blk p { V with t := v } i = if i = 3 then v.ownBlock else blk p V i := fun i => by
    match i with
    | 0 => rfl
    | 1 => rfl
    | 2 => rfl
    | 3 => rfl
    | 4 => rfl
    | 5 => rfl
    | 6 => rfl
    | n + 7 => rw [if_neg (by omega)]; rfl
  have far : ∀ j, j ≠ 3 → ∀ k, blk p V j = some k → k ∉ V.t.ownBlock.toList := fun j hj k hk hm => h.ap j 3 hj k hk (by simpa [blk] using hm)
  have np : ∀ j, j ≠ 0 → ∀ k, blk p V j = some k → k ≠ p := fun j hj k hk e => h.ap j 0 hj k hk (by rw [e]; rfl)
  refine ⟨⟨(hf.cell 0 (by decide)).trans h.k0, (hf.cell 1 (by decide)).trans h.k1, (hf.cell 2 (by decide)).trans h.k2, (hf.cell 3 (by decide)).trans h.k3, (hf.cell 4 (by decide)).trans h.k4, (hf.cell 5 (by decide)).trans h.k5, (hf.cell 6 (by decide)).trans h.k6, (hf.cell 7 (by decide)).trans h.k7, (hf.cell 8 (by decide)).trans h.k8, (hf.cell 9 (by decide)).trans h.k9, (hf.cell 10 (by decide)).trans h.kN, (hf.cell 13 (by decide)).trans h.kB, (hf.cell 17 (by decide)).trans h.kL, (hf.cell 11 (by decide)).trans h.kc, (hf.cell 12 (by decide)).trans h.ka, hc, (hf.cell 15 (by decide)).trans h.ku, (hf.cell 16 (by decide)).trans h.km, (hf.cell 18 (by decide)).trans h.ko, ?_, hf.row h.rc (fun k hk => ⟨np 1 (by decide) k hk, far 1 (by decide) k hk⟩), hf.row h.ra (fun k hk => ⟨np 2 (by decide) k hk, far 2 (by decide) k hk⟩), hr, hf.row h.ru (fun k hk => ⟨np 4 (by decide) k hk, far 4 (by decide) k hk⟩), hf.rowM h.rm (fun k hk => ⟨np 5 (by decide) k hk, far 5 (by decide) k hk⟩), hf.row h.ro (fun k hk => ⟨np 6 (by decide) k hk, far 6 (by decide) k hk⟩), ap_upd hb h.ap h.lt (by simpa [blk] using hv)⟩, ?_⟩
  · exact fun j hj => (hf.frozen j).trans (h.fz j hj)
  · refine ⟨hf.os, hf.tape, hf.output, hf.size, fun k hk hn => hf.block k hk (fun e => hn ⟨0, by rw [e]; rfl⟩) (fun hm => hn ⟨3, by simpa [blk] using hm⟩), ?_⟩
    rintro k ⟨i, hi⟩
    rw [hb] at hi
    by_cases e : i = 3
    · rw [if_pos e] at hi
      rcases hv with e' | hg
      · exact .inl ⟨3, by rw [← hi]; exact e'.symm⟩
      · exact .inr (hg k hi)
    · rw [if_neg e] at hi
      exact .inl ⟨i, hi⟩

/-- The list of units has turned, and nothing else. -/
theorem Rep.set_u {w w' : World} {p : Nat} {s : St} {V : V6} (h : Rep w p s V) {v : Value} {xs : List RUnits} (hf : Fr p [15] V.u.ownBlock.toList w w') (hc : w'.cell? ⟨p, 15, none⟩ = some v) (hr : Row w' 0 186 2 encUnits v xs) (hv : v.ownBlock = V.u.ownBlock ∨ ∀ g, v.ownBlock = some g → w.heap.size ≤ g) :
    Rep w' p { s with units := xs } { V with u := v } ∧ Mv p V w { V with u := v } w' := by
  have hb : ∀ i, blk p { V with u := v } i = if i = 4 then v.ownBlock else blk p V i := fun i => by
    match i with
    | 0 => rfl
    | 1 => rfl
    | 2 => rfl
    | 3 => rfl
    | 4 => rfl
    | 5 => rfl
    | 6 => rfl
    | n + 7 => rw [if_neg (by omega)]; rfl
  have far : ∀ j, j ≠ 4 → ∀ k, blk p V j = some k → k ∉ V.u.ownBlock.toList := fun j hj k hk hm => h.ap j 4 hj k hk (by simpa [blk] using hm)
  have np : ∀ j, j ≠ 0 → ∀ k, blk p V j = some k → k ≠ p := fun j hj k hk e => h.ap j 0 hj k hk (by rw [e]; rfl)
  refine ⟨⟨(hf.cell 0 (by decide)).trans h.k0, (hf.cell 1 (by decide)).trans h.k1, (hf.cell 2 (by decide)).trans h.k2, (hf.cell 3 (by decide)).trans h.k3, (hf.cell 4 (by decide)).trans h.k4, (hf.cell 5 (by decide)).trans h.k5, (hf.cell 6 (by decide)).trans h.k6, (hf.cell 7 (by decide)).trans h.k7, (hf.cell 8 (by decide)).trans h.k8, (hf.cell 9 (by decide)).trans h.k9, (hf.cell 10 (by decide)).trans h.kN, (hf.cell 13 (by decide)).trans h.kB, (hf.cell 17 (by decide)).trans h.kL, (hf.cell 11 (by decide)).trans h.kc, (hf.cell 12 (by decide)).trans h.ka, (hf.cell 14 (by decide)).trans h.kt, hc, (hf.cell 16 (by decide)).trans h.km, (hf.cell 18 (by decide)).trans h.ko, ?_, hf.row h.rc (fun k hk => ⟨np 1 (by decide) k hk, far 1 (by decide) k hk⟩), hf.row h.ra (fun k hk => ⟨np 2 (by decide) k hk, far 2 (by decide) k hk⟩), hf.row h.rt (fun k hk => ⟨np 3 (by decide) k hk, far 3 (by decide) k hk⟩), hr, hf.rowM h.rm (fun k hk => ⟨np 5 (by decide) k hk, far 5 (by decide) k hk⟩), hf.row h.ro (fun k hk => ⟨np 6 (by decide) k hk, far 6 (by decide) k hk⟩), ap_upd hb h.ap h.lt (by simpa [blk] using hv)⟩, ?_⟩
  · exact fun j hj => (hf.frozen j).trans (h.fz j hj)
  · refine ⟨hf.os, hf.tape, hf.output, hf.size, fun k hk hn => hf.block k hk (fun e => hn ⟨0, by rw [e]; rfl⟩) (fun hm => hn ⟨4, by simpa [blk] using hm⟩), ?_⟩
    rintro k ⟨i, hi⟩
    rw [hb] at hi
    by_cases e : i = 4
    · rw [if_pos e] at hi
      rcases hv with e' | hg
      · exact .inl ⟨4, by rw [← hi]; exact e'.symm⟩
      · exact .inr (hg k hi)
    · rw [if_neg e] at hi
      exact .inl ⟨i, hi⟩

/-- The list of times has turned, and nothing else. -/
theorem Rep.set_m {w w' : World} {p : Nat} {s : St} {V : V6} (h : Rep w p s V) {v : Value} {xs : List Int} (hf : Fr p [16] V.m.ownBlock.toList w w') (hc : w'.cell? ⟨p, 16, none⟩ = some v) (hr : RowM w' v xs) (hv : v.ownBlock = V.m.ownBlock ∨ ∀ g, v.ownBlock = some g → w.heap.size ≤ g) :
    Rep w' p { s with times := xs } { V with m := v } ∧ Mv p V w { V with m := v } w' := by
  have hb : ∀ i, blk p { V with m := v } i = if i = 5 then v.ownBlock else blk p V i := fun i => by
    match i with
    | 0 => rfl
    | 1 => rfl
    | 2 => rfl
    | 3 => rfl
    | 4 => rfl
    | 5 => rfl
    | 6 => rfl
    | n + 7 => rw [if_neg (by omega)]; rfl
  have far : ∀ j, j ≠ 5 → ∀ k, blk p V j = some k → k ∉ V.m.ownBlock.toList := fun j hj k hk hm => h.ap j 5 hj k hk (by simpa [blk] using hm)
  have np : ∀ j, j ≠ 0 → ∀ k, blk p V j = some k → k ≠ p := fun j hj k hk e => h.ap j 0 hj k hk (by rw [e]; rfl)
  refine ⟨⟨(hf.cell 0 (by decide)).trans h.k0, (hf.cell 1 (by decide)).trans h.k1, (hf.cell 2 (by decide)).trans h.k2, (hf.cell 3 (by decide)).trans h.k3, (hf.cell 4 (by decide)).trans h.k4, (hf.cell 5 (by decide)).trans h.k5, (hf.cell 6 (by decide)).trans h.k6, (hf.cell 7 (by decide)).trans h.k7, (hf.cell 8 (by decide)).trans h.k8, (hf.cell 9 (by decide)).trans h.k9, (hf.cell 10 (by decide)).trans h.kN, (hf.cell 13 (by decide)).trans h.kB, (hf.cell 17 (by decide)).trans h.kL, (hf.cell 11 (by decide)).trans h.kc, (hf.cell 12 (by decide)).trans h.ka, (hf.cell 14 (by decide)).trans h.kt, (hf.cell 15 (by decide)).trans h.ku, hc, (hf.cell 18 (by decide)).trans h.ko, ?_, hf.row h.rc (fun k hk => ⟨np 1 (by decide) k hk, far 1 (by decide) k hk⟩), hf.row h.ra (fun k hk => ⟨np 2 (by decide) k hk, far 2 (by decide) k hk⟩), hf.row h.rt (fun k hk => ⟨np 3 (by decide) k hk, far 3 (by decide) k hk⟩), hf.row h.ru (fun k hk => ⟨np 4 (by decide) k hk, far 4 (by decide) k hk⟩), hr, hf.row h.ro (fun k hk => ⟨np 6 (by decide) k hk, far 6 (by decide) k hk⟩), ap_upd hb h.ap h.lt (by simpa [blk] using hv)⟩, ?_⟩
  · exact fun j hj => (hf.frozen j).trans (h.fz j hj)
  · refine ⟨hf.os, hf.tape, hf.output, hf.size, fun k hk hn => hf.block k hk (fun e => hn ⟨0, by rw [e]; rfl⟩) (fun hm => hn ⟨5, by simpa [blk] using hm⟩), ?_⟩
    rintro k ⟨i, hi⟩
    rw [hb] at hi
    by_cases e : i = 5
    · rw [if_pos e] at hi
      rcases hv with e' | hg
      · exact .inl ⟨5, by rw [← hi]; exact e'.symm⟩
      · exact .inr (hg k hi)
    · rw [if_neg e] at hi
      exact .inl ⟨i, hi⟩

/-- The list of out has turned, and nothing else. -/
theorem Rep.set_o {w w' : World} {p : Nat} {s : St} {V : V6} (h : Rep w p s V) {v : Value} {xs : List RAct} (hf : Fr p [18] V.o.ownBlock.toList w w') (hc : w'.cell? ⟨p, 18, none⟩ = some v) (hr : Row w' 0 55 6 encAct v xs) (hv : v.ownBlock = V.o.ownBlock ∨ ∀ g, v.ownBlock = some g → w.heap.size ≤ g) :
    Rep w' p { s with out := xs } { V with o := v } ∧ Mv p V w { V with o := v } w' := by
  have hb : ∀ i, blk p { V with o := v } i = if i = 6 then v.ownBlock else blk p V i := fun i => by
    match i with
    | 0 => rfl
    | 1 => rfl
    | 2 => rfl
    | 3 => rfl
    | 4 => rfl
    | 5 => rfl
    | 6 => rfl
    | n + 7 => rw [if_neg (by omega)]; rfl
  have far : ∀ j, j ≠ 6 → ∀ k, blk p V j = some k → k ∉ V.o.ownBlock.toList := fun j hj k hk hm => h.ap j 6 hj k hk (by simpa [blk] using hm)
  have np : ∀ j, j ≠ 0 → ∀ k, blk p V j = some k → k ≠ p := fun j hj k hk e => h.ap j 0 hj k hk (by rw [e]; rfl)
  refine ⟨⟨(hf.cell 0 (by decide)).trans h.k0, (hf.cell 1 (by decide)).trans h.k1, (hf.cell 2 (by decide)).trans h.k2, (hf.cell 3 (by decide)).trans h.k3, (hf.cell 4 (by decide)).trans h.k4, (hf.cell 5 (by decide)).trans h.k5, (hf.cell 6 (by decide)).trans h.k6, (hf.cell 7 (by decide)).trans h.k7, (hf.cell 8 (by decide)).trans h.k8, (hf.cell 9 (by decide)).trans h.k9, (hf.cell 10 (by decide)).trans h.kN, (hf.cell 13 (by decide)).trans h.kB, (hf.cell 17 (by decide)).trans h.kL, (hf.cell 11 (by decide)).trans h.kc, (hf.cell 12 (by decide)).trans h.ka, (hf.cell 14 (by decide)).trans h.kt, (hf.cell 15 (by decide)).trans h.ku, (hf.cell 16 (by decide)).trans h.km, hc, ?_, hf.row h.rc (fun k hk => ⟨np 1 (by decide) k hk, far 1 (by decide) k hk⟩), hf.row h.ra (fun k hk => ⟨np 2 (by decide) k hk, far 2 (by decide) k hk⟩), hf.row h.rt (fun k hk => ⟨np 3 (by decide) k hk, far 3 (by decide) k hk⟩), hf.row h.ru (fun k hk => ⟨np 4 (by decide) k hk, far 4 (by decide) k hk⟩), hf.rowM h.rm (fun k hk => ⟨np 5 (by decide) k hk, far 5 (by decide) k hk⟩), hr, ap_upd hb h.ap h.lt (by simpa [blk] using hv)⟩, ?_⟩
  · exact fun j hj => (hf.frozen j).trans (h.fz j hj)
  · refine ⟨hf.os, hf.tape, hf.output, hf.size, fun k hk hn => hf.block k hk (fun e => hn ⟨0, by rw [e]; rfl⟩) (fun hm => hn ⟨6, by simpa [blk] using hm⟩), ?_⟩
    rintro k ⟨i, hi⟩
    rw [hb] at hi
    by_cases e : i = 6
    · rw [if_pos e] at hi
      rcases hv with e' | hg
      · exact .inl ⟨6, by rw [← hi]; exact e'.symm⟩
      · exact .inr (hg k hi)
    · rw [if_neg e] at hi
      exact .inl ⟨i, hi⟩

theorem Rep.set_now {w : World} {p : Nat} {s : St} {V : V6} (h : Rep w p s V) (z : Int) : Rep (w.setCell ⟨p, 10, none⟩ (.int .i64 z)) p { s with now := z } V ∧ Mv p V w V (w.setCell ⟨p, 10, none⟩ (.int .i64 z)) := by
  have hf : Fr p [10] [] w (w.setCell ⟨p, 10, none⟩ (.int .i64 z)) := Fr.store _
  have np : ∀ j, j ≠ 0 → ∀ k, blk p V j = some k → k ≠ p := fun j hj k hk e => h.ap j 0 hj k hk (by rw [e]; rfl)
  refine ⟨⟨(hf.cell 0 (by decide)).trans h.k0, (hf.cell 1 (by decide)).trans h.k1, (hf.cell 2 (by decide)).trans h.k2, (hf.cell 3 (by decide)).trans h.k3, (hf.cell 4 (by decide)).trans h.k4, (hf.cell 5 (by decide)).trans h.k5, (hf.cell 6 (by decide)).trans h.k6, (hf.cell 7 (by decide)).trans h.k7, (hf.cell 8 (by decide)).trans h.k8, (hf.cell 9 (by decide)).trans h.k9, World.cell?_setCell_same _ _ _ h.kN, (hf.cell 13 (by decide)).trans h.kB, (hf.cell 17 (by decide)).trans h.kL, (hf.cell 11 (by decide)).trans h.kc, (hf.cell 12 (by decide)).trans h.ka, (hf.cell 14 (by decide)).trans h.kt, (hf.cell 15 (by decide)).trans h.ku, (hf.cell 16 (by decide)).trans h.km, (hf.cell 18 (by decide)).trans h.ko, ?_, hf.row h.rc (fun k hk => ⟨np 1 (by decide) k hk, by simp⟩), hf.row h.ra (fun k hk => ⟨np 2 (by decide) k hk, by simp⟩), hf.row h.rt (fun k hk => ⟨np 3 (by decide) k hk, by simp⟩), hf.row h.ru (fun k hk => ⟨np 4 (by decide) k hk, by simp⟩), hf.rowM h.rm (fun k hk => ⟨np 5 (by decide) k hk, by simp⟩), hf.row h.ro (fun k hk => ⟨np 6 (by decide) k hk, by simp⟩), h.ap⟩, ?_⟩
  · exact fun j hj => (hf.frozen j).trans (h.fz j hj)
  · exact ⟨hf.os, hf.tape, hf.output, hf.size, fun k hk hn => hf.block k hk (fun e => hn ⟨0, by rw [e]; rfl⟩) (by simp), fun k hk => .inl hk⟩

theorem Rep.set_numbers {w : World} {p : Nat} {s : St} {V : V6} (h : Rep w p s V) (z : Int) : Rep (w.setCell ⟨p, 13, none⟩ (.int .i64 z)) p { s with numbers := z } V ∧ Mv p V w V (w.setCell ⟨p, 13, none⟩ (.int .i64 z)) := by
  have hf : Fr p [13] [] w (w.setCell ⟨p, 13, none⟩ (.int .i64 z)) := Fr.store _
  have np : ∀ j, j ≠ 0 → ∀ k, blk p V j = some k → k ≠ p := fun j hj k hk e => h.ap j 0 hj k hk (by rw [e]; rfl)
  refine ⟨⟨(hf.cell 0 (by decide)).trans h.k0, (hf.cell 1 (by decide)).trans h.k1, (hf.cell 2 (by decide)).trans h.k2, (hf.cell 3 (by decide)).trans h.k3, (hf.cell 4 (by decide)).trans h.k4, (hf.cell 5 (by decide)).trans h.k5, (hf.cell 6 (by decide)).trans h.k6, (hf.cell 7 (by decide)).trans h.k7, (hf.cell 8 (by decide)).trans h.k8, (hf.cell 9 (by decide)).trans h.k9, (hf.cell 10 (by decide)).trans h.kN, World.cell?_setCell_same _ _ _ h.kB, (hf.cell 17 (by decide)).trans h.kL, (hf.cell 11 (by decide)).trans h.kc, (hf.cell 12 (by decide)).trans h.ka, (hf.cell 14 (by decide)).trans h.kt, (hf.cell 15 (by decide)).trans h.ku, (hf.cell 16 (by decide)).trans h.km, (hf.cell 18 (by decide)).trans h.ko, ?_, hf.row h.rc (fun k hk => ⟨np 1 (by decide) k hk, by simp⟩), hf.row h.ra (fun k hk => ⟨np 2 (by decide) k hk, by simp⟩), hf.row h.rt (fun k hk => ⟨np 3 (by decide) k hk, by simp⟩), hf.row h.ru (fun k hk => ⟨np 4 (by decide) k hk, by simp⟩), hf.rowM h.rm (fun k hk => ⟨np 5 (by decide) k hk, by simp⟩), hf.row h.ro (fun k hk => ⟨np 6 (by decide) k hk, by simp⟩), h.ap⟩, ?_⟩
  · exact fun j hj => (hf.frozen j).trans (h.fz j hj)
  · exact ⟨hf.os, hf.tape, hf.output, hf.size, fun k hk hn => hf.block k hk (fun e => hn ⟨0, by rw [e]; rfl⟩) (by simp), fun k hk => .inl hk⟩

theorem Rep.set_stale {w : World} {p : Nat} {s : St} {V : V6} (h : Rep w p s V) (z : Int) : Rep (w.setCell ⟨p, 17, none⟩ (.int .i64 z)) p { s with stale := z } V ∧ Mv p V w V (w.setCell ⟨p, 17, none⟩ (.int .i64 z)) := by
  have hf : Fr p [17] [] w (w.setCell ⟨p, 17, none⟩ (.int .i64 z)) := Fr.store _
  have np : ∀ j, j ≠ 0 → ∀ k, blk p V j = some k → k ≠ p := fun j hj k hk e => h.ap j 0 hj k hk (by rw [e]; rfl)
  refine ⟨⟨(hf.cell 0 (by decide)).trans h.k0, (hf.cell 1 (by decide)).trans h.k1, (hf.cell 2 (by decide)).trans h.k2, (hf.cell 3 (by decide)).trans h.k3, (hf.cell 4 (by decide)).trans h.k4, (hf.cell 5 (by decide)).trans h.k5, (hf.cell 6 (by decide)).trans h.k6, (hf.cell 7 (by decide)).trans h.k7, (hf.cell 8 (by decide)).trans h.k8, (hf.cell 9 (by decide)).trans h.k9, (hf.cell 10 (by decide)).trans h.kN, (hf.cell 13 (by decide)).trans h.kB, World.cell?_setCell_same _ _ _ h.kL, (hf.cell 11 (by decide)).trans h.kc, (hf.cell 12 (by decide)).trans h.ka, (hf.cell 14 (by decide)).trans h.kt, (hf.cell 15 (by decide)).trans h.ku, (hf.cell 16 (by decide)).trans h.km, (hf.cell 18 (by decide)).trans h.ko, ?_, hf.row h.rc (fun k hk => ⟨np 1 (by decide) k hk, by simp⟩), hf.row h.ra (fun k hk => ⟨np 2 (by decide) k hk, by simp⟩), hf.row h.rt (fun k hk => ⟨np 3 (by decide) k hk, by simp⟩), hf.row h.ru (fun k hk => ⟨np 4 (by decide) k hk, by simp⟩), hf.rowM h.rm (fun k hk => ⟨np 5 (by decide) k hk, by simp⟩), hf.row h.ro (fun k hk => ⟨np 6 (by decide) k hk, by simp⟩), h.ap⟩, ?_⟩
  · exact fun j hj => (hf.frozen j).trans (h.fz j hj)
  · exact ⟨hf.os, hf.tape, hf.output, hf.size, fun k hk hn => hf.block k hk (fun e => hn ⟨0, by rw [e]; rfl⟩) (by simp), fun k hk => .inl hk⟩

end Go.Proofs.YtlccfpbbdgpjbaaGreatDoor

namespace Go.Proofs.YtlccfpbbdgpjbaaGreatDoor
open Go.RowKit

theorem Fr.weak {p : Nat} {J R : List Nat} {w w' : World} (h : Fr p J [] w w') : Fr p J R w w' :=
  ⟨h.os, h.tape, h.output, h.size, fun k hk hp _ => h.block k hk hp (by simp), h.cell, h.frozen⟩

/-- A client is now s', in memory at p; all else is as it was. -/
def Now (p : Nat) (V : V6) (w : World) (s' : St) (w' : World) : Prop := ∃ V', Rep w' p s' V' ∧ Mv p V w V' w'
theorem Now.trans {p : Nat} {V V1 : V6} {w w1 w2 : World} {s2 : St} (h : Mv p V w V1 w1) (k : Now p V1 w1 s2 w2) : Now p V w s2 w2 :=
  k.imp fun _ h' => ⟨h'.1, h.trans h'.2⟩

theorem rep_find {w : World} {p : Nat} {s : St} {V : V6} (h : Rep w p s V) (hl : s.calls.length ≤ 100000000) (number : Int) :
    Calls Tryz.prog 80 #[.pointer (some ⟨p, 0, none⟩), .int .i64 number] w fun e w' => e = .returned (.int .i64 (findI s.calls number)) ∧ w' = w :=
  find_any p number V.c s.calls w hl h.kc h.rc

theorem rep_act {w : World} {p : Nat} {s : St} {V : V6} (h : Rep w p s V) (hl : s.out.length ≤ 100000000) (a : RAct) :
    Calls Tryz.prog 107 #[.pointer (some ⟨p, 0, none⟩), .agg #[.int .i64 a.kind, .int .i64 a.call, .int .i64 a.attempt, .int .i64 a.outcome, .int .i64 a.value, .int .i64 a.left]] w fun e w' =>
      e = .returned (.tuple #[]) ∧ Now p V w { s with out := s.out ++ [a] } w' := by
  refine (act_any p a V.o s.out w hl h.ko (h.fz 18 (by omega)) h.ro (fun e => h.ap 6 0 (by decide) p e rfl)).mono ?_
  rintro e w' ⟨rfl, v, hc, hr, hv, hf⟩
  exact ⟨rfl, _, h.set_o hf hc hr (hv.imp id (fun ⟨g, e, hg⟩ g' e' => by have : g = g' := Option.some.inj (e.symm.trans e'); omega))⟩

theorem rep_drop {w : World} {p : Nat} {s : St} {V : V6} (h : Rep w p s V) (hl : s.timers.length ≤ 100000000) (call from_ to : Int) :
    Calls Tryz.prog 109 #[.pointer (some ⟨p, 0, none⟩), .int .i64 call, .int .i64 from_, .int .i64 to] w fun e w' =>
      e = .returned (.tuple #[]) ∧ Now p V w { s with timers := s.timers.filter (keepTimer call from_ to) } w' := by
  refine (drop_any p call from_ to V.t s.timers w hl h.kt (h.fz 14 (by omega)) h.rt).mono ?_
  rintro e w' ⟨rfl, v, hc, hr, hf⟩
  exact ⟨rfl, _, h.set_t hf.weak hc (hr.base (Nat.zero_le _)) (.inr fun g hg => (hr.lt g hg).1)⟩

theorem rep_close {w : World} {p : Nat} {s : St} {V : V6} (h : Rep w p s V) (hl : s.atts.length ≤ 100000000) (number : Int) :
    Calls Tryz.prog 82 #[.pointer (some ⟨p, 0, none⟩), .int .i64 number] w fun e w' =>
      e = .returned (.tuple #[]) ∧ Now p V w { s with atts := s.atts.filter (keepAtt number) } w' := by
  refine (close_any p number V.a s.atts w hl h.ka (h.fz 12 (by omega)) h.ra).mono ?_
  rintro e w' ⟨rfl, v, hc, hr, hf⟩
  exact ⟨rfl, _, h.set_a hf.weak hc (hr.base (Nat.zero_le _)) (.inr fun g hg => (hr.lt g hg).1)⟩

/-- The units that are not gone. -/
def St.fresh (s : St) : List RUnits := s.units.filter (keepUnits s.now s.cfg.window)

theorem rep_balance {w : World} {p : Nat} {s : St} {V : V6} (h : Rep w p s V) (hl : s.units.length ≤ 100000000) (hu : UnitsOk s.units) (hn0 : 0 ≤ s.now) (hn1 : s.now ≤ 1099511627776) :
    Calls Tryz.prog 86 #[.pointer (some ⟨p, 0, none⟩)] w fun e w' =>
      e = .returned (.int .i64 (sumUnits s.fresh)) ∧ Now p V w { s with units := s.fresh } w' := by
  refine (balance_any p s.now s.cfg.window V.u s.units w hl hu hn0 hn1 h.kN h.k3 h.ku (h.fz 15 (by omega)) h.ru).mono ?_
  rintro e w' ⟨rfl, v, hc, hr, hf⟩
  exact ⟨rfl, _, h.set_u hf.weak hc (hr.base (Nat.zero_le _)) (.inr fun g hg => (hr.lt g hg).1)⟩

theorem rrep_take {w : World} {p : Nat} {s : St} {V : V6} (h : Rep w p s V) (hl : s.units.length ≤ 100000000) (hu : UnitsOk s.units) (hn0 : 0 ≤ s.now) (hn1 : s.now ≤ 1099511627776) (n : Int) (hn : 0 ≤ n) :
    Calls Tryz.prog 110 #[.pointer (some ⟨p, 0, none⟩), .int .i64 n] w fun e w' =>
      e = .returned (.bool (decide (n ≤ sumUnits s.fresh))) ∧ Now p V w { s with units := if n ≤ sumUnits s.fresh then takeU s.fresh n else s.fresh } w' := by
  refine (take_any p s.now s.cfg.window n V.u s.units w hl hu hn0 hn1 hn h.kN h.k3 h.ku (h.fz 15 (by omega)) h.ru).mono ?_
  rintro e w' ⟨rfl, v, hc, hr, hf⟩
  exact ⟨rfl, _, h.set_u hf.weak hc (hr.base (Nat.zero_le _)) (.inr fun g hg => (hr.lt g hg).1)⟩
end Go.Proofs.YtlccfpbbdgpjbaaGreatDoor
