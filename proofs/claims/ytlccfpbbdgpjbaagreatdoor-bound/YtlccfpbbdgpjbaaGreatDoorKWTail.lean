import Derived.Test.YtlccfpbbdgpjbaaGreatDoorKWAdd
import Derived.Test.YtlccfpbbdgpjbaaGreatDoorKWPut
import Derived.Deep.RegionHeld3
import Derived.Deep.AppendLies
import Derived.Deep.RegionWith
namespace Go.Proofs.YtlccfpbbdgpjbaaGreatDoor
open Go.RowKit
attribute [local go_sem ↓] Go.wp_at_zero Go.wp_at_succ

def startsAt (n : Nat) : Code → Bool
  | .region i _ _ => i == n
  | .seq a _ => startsAt n a
  | _ => false
/-- The code from a region on. -/
def fromAt (n : Nat) : Code → Option Code
  | .seq a b => if startsAt n a then some (.seq a b) else
    match fromAt n a with
    | some c => some c
    | none => fromAt n b
  | .block _ c => fromAt n c
  | .scope c => fromAt n c
  | .loop c => fromAt n c
  | .cond _ a b => match fromAt n a with
    | some c => some c
    | none => fromAt n b
  | _ => none
noncomputable def stepTail : Code := ((Tryz.f24.body.bind (fromAt 13)).getD .skip)

set_option maxRecDepth 1000000 in
set_option maxHeartbeats 40000000 in
theorem wstep_tail {w : World} {s s2 : PSt} {W W2 : WSt} {V : PV} {U U3 : WV} {wx2 : World} {q bx : Nat} {call attempt value timeout draw tt an lf : Int} {safe : Bool} {c1 c2 c4 c5 c6 c7 c9 c10 c11 c12 c13 c14 c15 c16 c17 c18 c19 c20 c21 c22 c23 c24 c25 c26 c27 c28 c29 c30 c31 c32 c33 c34 c35 c36 c37 c38 c39 c40 c41 c42 c43 c44 c45 c46 c47 c48 c49 c50 c51 c52 c53 c54 c55 c56 c57 c58 c59 c60 c61 c62 c63 c64 c65 c66 c67 c68 c69 c70 c71 c72 c73 c74 c75 c76 c77 c78 c79 c80 c81 c82 c83 c84 c85 c86 c87 c88 c89 c90 c91 c92 c93 c94 c95 c96 c97 c98 c99 c100 c101 c102 c103 c104 c105 c106 c107 c108 c109 c110 c111 c112 c113 c114 c115 c116 c117 c118 c119 c120 c121 c122 c123 c124 c125 c126 c127 c128 c129 c130 c131 c132 c133 c134 c135 c136 c137 c138 c139 c140 c141 c142 c143 c144 c145 c146 c147 c148 c149 c150 c151 c152 c153 c154 c155 c156 c157 c158 c159 c160 c161 c162 c163 c164 c165 c166 c167 c168 c169 c170 c171 c172 c173 c174 c175 c176 c177 c178 c179 c180 c181 c182 c183 c184 c185 c186 c187 c188 c189 c190 c191 c192 c193 c194 c195 c196 c197 c198 c199 c200 c201 c202 c203 c204 c205 c206 c207 c208 c209 c210 c211 c212 c213 c214 c215 c216 c217 c218 c219 c220 c221 c222 c223 c224 c225 c226 c227 c228 c229 c230 c231 c232 c233 c234 c235 c236 c237 c238 c239 c240 c241 c242 c243 c244 c245 c246 c247 c248 c249 c250 c251 c252 c253 c254 c255 c256 c257 c258 c259 c260 c261 c262 c263 c264 c265 c266 c267 c268 c269 c270 c271 c272 c273 c274 c275 c276 c277 c278 c279 c280 c281 c282 c283 c284 c285 c286 c287 c288 c289 c290 c291 c292 c293 c294 c295 c296 c297 c298 c299 c300 c301 c302 c303 c304 c305 c306 c307 c308 c309 c310 c311 c312 c313 c314 c315 c316 c317 c318 c319 c320 c321 c322 c323 c324 c325 c326 c327 c328 c329 c330 c331 c332 c333 c334 c335 c336 c337 c338 c339 c340 c341 c342 c343 c344 c345 c346 c347 c348 c349 c350 c351 c352 c353 c354 c355 c356 c357 c358 c359 c360 c361 c362 c363 c364 c365 c366 c367 c368 c369 c370 c371 c372 c373 c374 c375 c376 c377 c378 c379 c380 c381 c382 c383 : Value}
    (K : Act → World → Prop) (R : Ending → World → Prop) (hR : ∀ w5, (∃ V' U', WAll w5 s2 W2 V' U' ∧ XMv V U w V' U' w5) → R (.returned (.bool true)) w5)
    (hX3 : WAll wx2 s ({ ({ W with calls := W.calls ++ [⟨call, W.now + timeout, 0, safe, true, false⟩] } : WSt) with adm := W.adm ++ [W.now] } : WSt) V U3) (hM3 : XMv V U w V U3 wx2) (hq3 : U3.q = q) (hx5 : U3.x = U.x) (lb'3 : bx < wx2.heap.size)
    (d0 : wx2.cell? ⟨bx, 0, none⟩ = some (.int .i64 1)) (d1 : wx2.cell? ⟨bx, 1, none⟩ = some (.int .i64 call)) (d2 : wx2.cell? ⟨bx, 2, none⟩ = some (.int .i64 attempt)) (d3 : wx2.cell? ⟨bx, 3, none⟩ = some (.int .i64 value)) (d4 : wx2.cell? ⟨bx, 4, none⟩ = some (.int .i64 timeout)) (d5 : wx2.cell? ⟨bx, 5, none⟩ = some (.bool safe)) (d6 : wx2.cell? ⟨bx, 6, none⟩ = some (.int .u64 draw)) (d7 : wx2.cell? ⟨bx, 7, none⟩ = some (.int .i64 tt))
    (HST : Hid (∀ (w' : World) (V' : PV) (U' : WV) (W' : WSt), WAll w' s W' V' U' → Calls Tryz.prog 20 #[.pointer (some ⟨U'.x, 0, none⟩), evV ⟨1, call, attempt, value, timeout, safe, draw, tt⟩] w' fun ex w'' => ∃ v V'', ex = .returned v ∧ Gives w' w'' V' V'' U'.x v [⟨1, call, an, 0, 0, lf⟩] s2))
    (HCF : Hid (s2.cfg = s.cfg)) (HFV : Hid (7 ≤ V.tag bx)) (HOK1 : Hid (WOk ({ ({ W with calls := W.calls ++ [⟨call, W.now + timeout, 0, safe, true, false⟩] } : WSt) with adm := W.adm ++ [W.now] } : WSt))) (HSEE : Hid (See s.cfg.attempts W.now ({ ({ W with calls := W.calls ++ [⟨call, W.now + timeout, 0, safe, true, false⟩] } : WSt) with adm := W.adm ++ [W.now] } : WSt) ⟨1, call, an, 0, 0, lf⟩ W2)) (hcl : W.calls.length ≤ 100000) (hal : (W.atts.length : Int) ≤ 300000) (hnow0 : 0 ≤ W.now) :
    Code.wp Tryz.prog stepTail (Exit.then K (bodyPost Tryz.prog Tryz.f24 R)) ⟨#[.pointer (some ⟨q, 0, none⟩), c1, c2, .pointer (some ⟨bx, 0, none⟩), c4, c5, c6, c7, .bool true, c9, c10, c11, c12, c13, c14, c15, c16, c17, c18, c19, c20, c21, c22, c23, c24, c25, c26, c27, c28, c29, c30, c31, c32, c33, c34, c35, c36, c37, c38, c39, c40, c41, c42, c43, c44, c45, c46, c47, c48, c49, c50, c51, c52, c53, c54, c55, c56, c57, c58, c59, c60, c61, c62, c63, c64, c65, c66, c67, c68, c69, c70, c71, c72, c73, c74, c75, c76, c77, c78, c79, c80, c81, c82, c83, c84, c85, c86, c87, c88, c89, c90, c91, c92, c93, c94, c95, c96, c97, c98, c99, c100, c101, c102, c103, c104, c105, c106, c107, c108, c109, c110, c111, c112, c113, c114, c115, c116, c117, c118, c119, c120, c121, c122, c123, c124, c125, c126, c127, c128, c129, c130, c131, c132, c133, c134, c135, c136, c137, c138, c139, c140, c141, c142, c143, c144, c145, c146, c147, c148, c149, c150, c151, c152, c153, c154, c155, c156, c157, c158, c159, c160, c161, c162, c163, c164, c165, c166, c167, c168, c169, c170, c171, c172, c173, c174, c175, c176, c177, c178, c179, c180, c181, c182, c183, c184, c185, c186, c187, c188, c189, c190, c191, c192, c193, c194, c195, c196, c197, c198, c199, c200, c201, c202, c203, c204, c205, c206, c207, c208, c209, c210, c211, c212, c213, c214, c215, c216, c217, c218, c219, c220, c221, c222, c223, c224, c225, c226, c227, c228, c229, c230, c231, c232, c233, c234, c235, c236, c237, c238, c239, c240, c241, c242, c243, c244, c245, c246, c247, c248, c249, c250, c251, c252, c253, c254, c255, c256, c257, c258, c259, c260, c261, c262, c263, c264, c265, c266, c267, c268, c269, c270, c271, c272, c273, c274, c275, c276, c277, c278, c279, c280, c281, c282, c283, c284, c285, c286, c287, c288, c289, c290, c291, c292, c293, c294, c295, c296, c297, c298, c299, c300, c301, c302, c303, c304, c305, c306, c307, c308, c309, c310, c311, c312, c313, c314, c315, c316, c317, c318, c319, c320, c321, c322, c323, c324, c325, c326, c327, c328, c329, c330, c331, c332, c333, c334, c335, c336, c337, c338, c339, c340, c341, c342, c343, c344, c345, c346, c347, c348, c349, c350, c351, c352, c353, c354, c355, c356, c357, c358, c359, c360, c361, c362, c363, c364, c365, c366, c367, c368, c369, c370, c371, c372, c373, c374, c375, c376, c377, c378, c379, c380, c381, c382, c383], []⟩ wx2 := by
  have HRR := hide hR
  clear hR
  have xq3 : wx2.cell? ⟨q, 0, none⟩ = some (.pointer (some ⟨U.x, 0, none⟩)) := by rw [← hq3, ← hx5]; exact hX3.wr.kk 0 _ rfl
  have HX1 := hide hX3
  have HM1 := hide hM3
  have HU1q := hide hq3
  have HX5 := hide hx5
  have lb' := lb'3
  have xq' := xq3
  have hcl3 : (W.calls ++ [(⟨call, W.now + timeout, 0, safe, true, false⟩ : WCall)]).length ≤ 1000000 := by simp; omega
  have HCL3 := hide hcl3
  clear hX3 hM3 hq3 hx5 lb'3 xq3 hcl3
  have HXD := hide (fun w' (hb : Below wx2.heap.size wx2 w') => HX1.out.on hb)
  have HMD := hide (fun w' (hb : Below wx2.heap.size wx2 w') => HM1.out.trans (XMv.of_below (V := V) (U := U3) hb))
  unfold evV at HST
  dsimp only at HST
  have HSD := hide (fun w' (hb : Below wx2.heap.size wx2 w') => HST.out w' V U3 ({ ({ W with calls := W.calls ++ [⟨call, W.now + timeout, 0, safe, true, false⟩] } : WSt) with adm := W.adm ++ [W.now] } : WSt) (HXD.out w' hb))
  rw [show U3.x = U.x from HX5.out] at HSD
  clear HST
  conv => arg 2; whnf
  go_wp2_with fail
  go_cut [9] (fun v wx => ∃ V2, Row wx wx2.heap.size 55 6 encAct v [⟨1, call, an, 0, 0, lf⟩] ∧ WAll wx s2 ({ ({ W with calls := W.calls ++ [⟨call, W.now + timeout, 0, safe, true, false⟩] } : WSt) with adm := W.adm ++ [W.now] } : WSt) V2 U3 ∧ XMv V U w V2 U3 wx ∧ wx.heap[bx]? = wx2.heap[bx]?)
  case first =>
    as_aux_lemma =>
      go_region_with (first
        | (go_at_call 20; refine (HSD.out _ (by first | exact (Below.refl _ _).drew | exact Below.refl _ _)).mono ?_; rintro e w3 ⟨v, V2, rfl, hrow, hp2, hm2, ht2⟩; have HG : Hid (∃ V2, Row w3 wx2.heap.size 55 6 encAct v [⟨1, call, an, 0, 0, lf⟩] ∧ WAll w3 s2 ({ ({ W with calls := W.calls ++ [⟨call, W.now + timeout, 0, safe, true, false⟩] } : WSt) with adm := W.adm ++ [W.now] } : WSt) V2 U3 ∧ XMv V U w V2 U3 w3 ∧ w3.heap[bx]? = wx2.heap[bx]?) := ⟨V2, hrow, (HXD.out _ (by first | exact (Below.refl _ _).drew | exact Below.refl _ _)).step (by rw [show U3.x = U.x from HX5.out]; exact hp2) hm2 HCF.out, (HMD.out _ (by first | exact (Below.refl _ _).drew | exact Below.refl _ _)).trans (XMv.ofP U3 hm2), hm2.block bx lb' HFV.out⟩; clear hrow hp2 hm2 ht2))
      all_goals
        go_wp2_with fail
        go_meet
        first
          | exact HG.out
          | (cases ‹Ending.returned _ = Ending.returned _›; exact HG.out)
  case rest =>
    obtain ⟨V2, hrow, hX2, hM2, hbx⟩ := hcut
    rename World => wx3
    obtain ⟨g, cap8, rfl, hob⟩ := hrow.at (by simp)
    have qa0 : wx3.cell? ⟨g, 0, none⟩ = some (.int .i64 1) := (hrow.cell encAct_len (g := g) (i := 0) (j := 0) hob (by simp) rfl).1
    have qa1 : wx3.cell? ⟨g, 1, none⟩ = some (.int .i64 call) := (hrow.cell encAct_len (g := g) (i := 0) (j := 1) hob (by simp) rfl).1
    have qa2 : wx3.cell? ⟨g, 2, none⟩ = some (.int .i64 an) := (hrow.cell encAct_len (g := g) (i := 0) (j := 2) hob (by simp) rfl).1
    have qa3 : wx3.cell? ⟨g, 3, none⟩ = some (.int .i64 0) := (hrow.cell encAct_len (g := g) (i := 0) (j := 3) hob (by simp) rfl).1
    have qa4 : wx3.cell? ⟨g, 4, none⟩ = some (.int .i64 0) := (hrow.cell encAct_len (g := g) (i := 0) (j := 4) hob (by simp) rfl).1
    have qa5 : wx3.cell? ⟨g, 5, none⟩ = some (.int .i64 lf) := (hrow.cell encAct_len (g := g) (i := 0) (j := 5) hob (by simp) rfl).1
    have e1 : wx3.cell? ⟨bx, 1, none⟩ = some (.int .i64 call) := (World.cell?_of_block (a := ⟨bx, 1, none⟩) hbx).trans d1
    have hqn : wx3.cell? ⟨q, 11, none⟩ = some (.int .i64 W.now) := by rw [← show U3.q = q from HU1q.out]; exact hX2.wr.kk 11 _ rfl
    have HXE := hide (fun n => hX2.on (below_drewN wx3 n))
    have HME := hide (fun n => hM2.trans (XMv.of_below (V := V2) (U := U3) (below_drewN wx3 n)))
    clear hrow hX2 hM2 hbx d0 d1 d2 d3 d4 d5 d6 d7 xq' lb' HXD HMD HSD HX1 HM1 hob
    simp only [List.length_singleton]
    go_upto_region 14 with fail
    go_cut [135] (fun cv wx => cv = .bool false ∧ ∃ n, wx = wx3.drewN n)
    case first =>
      as_aux_lemma =>
        go_big_quiet (fail)
        go_wp2_with fail
        go_meet
        exact ⟨rfl, _, rfl⟩
    case rest =>
      obtain ⟨rfl, n14, rfl⟩ := hcut
      have HXF := hide (HXE.out n14)
      have HMF := hide (HME.out n14)
      have r0 : (wx3.drewN n14).cell? ⟨g, 0, none⟩ = some (.int .i64 1) := qa0
      have r1 : (wx3.drewN n14).cell? ⟨g, 1, none⟩ = some (.int .i64 call) := qa1
      have r2 : (wx3.drewN n14).cell? ⟨g, 2, none⟩ = some (.int .i64 an) := qa2
      have r3 : (wx3.drewN n14).cell? ⟨g, 3, none⟩ = some (.int .i64 0) := qa3
      have r4 : (wx3.drewN n14).cell? ⟨g, 4, none⟩ = some (.int .i64 0) := qa4
      have r5 : (wx3.drewN n14).cell? ⟨g, 5, none⟩ = some (.int .i64 lf) := qa5
      have rq : (wx3.drewN n14).cell? ⟨q, 11, none⟩ = some (.int .i64 W.now) := hqn
      clear qa0 qa1 qa2 qa3 qa4 qa5 hqn e1 HXE HME
      generalize wx3.drewN n14 = w4 at HXF HMF r0 r1 r2 r3 r4 r5 rq ⊢
      have HXG := hide (fun w' (hb : Below w4.heap.size w4 w') => HXF.out.on hb)
      have HMG := hide (fun w' (hb : Below w4.heap.size w4 w') => HMF.out.trans (XMv.of_below (V := V2) (U := U3) hb))
      have HSE := hide (fun w' (hb : Below w4.heap.size w4 w') => wsees_any (HXG.out w' hb).wr HOK1.out (by exact HCL3.out) (by show W.atts.length ≤ 1000000; omega) (by rw [HCF.out]; exact HSEE.out) hnow0)
      rw [show U3.q = q from HU1q.out] at HSE
      unfold actV at HSE
      dsimp only at HSE
      clear HXF HMF HSEE
      go_wp2_with fail
      go_region_with (first
        | (go_at_call 43; refine (HSE.out _ (by first | exact (Below.refl _ _).drew | exact Below.refl _ _)).mono ?_; rintro e w5 ⟨rfl, U9, hW9, hM9⟩; have HG : Hid (∃ V' U', WAll w5 s2 W2 V' U' ∧ XMv V U w V' U' w5) := ⟨V2, U9, (HXG.out _ (by first | exact (Below.refl _ _).drew | exact Below.refl _ _)).seen hW9 hM9, (HMG.out _ (by first | exact (Below.refl _ _).drew | exact Below.refl _ _)).trans (XMv.ofW V2 hM9)⟩; clear hW9 hM9))
      all_goals
        go_wp2_with fail
        go_ret
        exact HRR.out _ HG.out
end Go.Proofs.YtlccfpbbdgpjbaaGreatDoor
