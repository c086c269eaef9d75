import Derived.Test.YtlccfpbbdgpjbaaGreatDoorZWSee
import Derived.Test.YtlccfpbbdgpjbaaGreatDoorKWLaunch
namespace Go.Proofs.YtlccfpbbdgpjbaaGreatDoor

theorem wsees_any {w : World} {k : Cfg} {W W' : WSt} {U : WV} (h : WRep w k W U) (ok : WOk W) (hc : W.calls.length ≤ 1000000) (ha : W.atts.length ≤ 1000000) {now : Int} {a : RAct} (hs : See k.attempts now W a W') (hn0 : 0 ≤ now) :
    Calls Tryz.prog 43 #[.pointer (some ⟨U.q, 0, none⟩), actV a, .int .i64 now] w fun e w' => e = .returned (.bool true) ∧ ∃ U', WRep w' k W' U' ∧ WMv U w U' w' := by
  obtain ⟨kind, call, attempt, outcome, value, left⟩ := a
  cases hs with
  | refuse hk h0 h1 =>
    obtain rfl : kind = 4 := hk
    exact wsees_refuse h hc call attempt outcome value left now h0 h1
  | launch i k' hk hf hat hl h1 hh hs =>
    obtain rfl : kind = 1 := hk
    obtain rfl : attempt = (W.atts.length : Int) + 1 := hat
    exact wsees_launch h ok hc ha call outcome value now left i k' hf hn0 hl h1 hh hs
  | stop m x k' hk hat hx ho hcc hn hz =>
    obtain rfl : kind = 2 := hk
    obtain rfl : attempt = (m : Int) + 1 := hat
    exact wsees_stop h hc ha call outcome value left now m x k' hx ho hcc hn hz
  | result i k' hk hf h0 h1 hl hd =>
    obtain rfl : kind = 3 := hk
    exact wsees_result h ok hc call attempt outcome value left now i k' hf h0 h1 hl hd
end Go.Proofs.YtlccfpbbdgpjbaaGreatDoor
