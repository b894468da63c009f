import Derived.Test.YtnjcbgnghfppoaaDoorGMa
import Derived.Test.YtnjcbgnghfppoaaDoorGP
import Derived.Test.YtnjcbgnghfppoaaDoorGN

/- The specification of layer 12: Axes, Get, Put. -/
set_option linter.unusedVariables false
set_option linter.unusedSimpArgs false
namespace Go.Proofs.YtnjcbgnghfppoaaDoor
open Go.RowKit

namespace Tg
def g3 (j x y z : Int) : Int := if j = 0 then x else if j = 1 then y else z
def p3 (j n k a : Int) : Int := if j = k then n else a
end Tg
set_option maxRecDepth 100000 in
set_option maxHeartbeats 4000000 in

theorem rgAxes (p : Int) (p1 : 17 ≤ p) (p2 : p ≤ 19) (w : World) : Calls Tryd.prog 38 #[.int .i64 p] w fun e w' => e = .returned (.tuple #[.int .i64 (88 + Tg.au p), .int .i64 (88 + Tg.aw p), .int .i64 (88 + fh p 0 1 2)]) ∧ Qw w w' := by
  rcases Tg.planes p1 p2 with rfl | rfl | rfl
  · rw [show (88 + Tg.au 17 : Int) = 88 by decide, show (88 + Tg.aw 17 : Int) = 89 by decide, show (88 + fh 17 0 1 2 : Int) = 90 by decide]
    go_enter Tryd.func38, Tryd.ntmps38
    go_wp2
    exact bodyPost_ret (v := .tuple #[.int .i64 88, .int .i64 89, .int .i64 90]) (by simp [results, Tryd.results38, go_sem]) rfl ⟨rfl, Qw.refl _⟩
  · rw [show (88 + Tg.au 18 : Int) = 90 by decide, show (88 + Tg.aw 18 : Int) = 88 by decide, show (88 + fh 18 0 1 2 : Int) = 89 by decide]
    go_enter Tryd.func38, Tryd.ntmps38
    go_wp2
    exact bodyPost_ret (v := .tuple #[.int .i64 90, .int .i64 88, .int .i64 89]) (by simp [results, Tryd.results38, go_sem]) rfl ⟨rfl, Qw.refl _⟩
  · rw [show (88 + Tg.au 19 : Int) = 89 by decide, show (88 + Tg.aw 19 : Int) = 90 by decide, show (88 + fh 19 0 1 2 : Int) = 88 by decide]
    go_enter Tryd.func38, Tryd.ntmps38
    go_wp2
    exact bodyPost_ret (v := .tuple #[.int .i64 89, .int .i64 90, .int .i64 88]) (by simp [results, Tryd.results38, go_sem]) rfl ⟨rfl, Qw.refl _⟩
set_option maxRecDepth 100000 in
set_option maxHeartbeats 4000000 in

theorem rgGet (j x y z : Int) (hj : j = 0 ∨ j = 1 ∨ j = 2) (w : World) : Calls Tryd.prog 35 #[.agg #[.int .i64 x, .int .i64 y, .int .i64 z], .int .i64 (88 + j)] w fun e w' => e = .returned (.int .i64 (Tg.g3 j x y z)) ∧ Qw w w' := by
  rcases hj with rfl | rfl | rfl
  · rw [show (88 + 0 : Int) = 88 by decide, show Tg.g3 0 x y z = x from rfl]
    go_enter Tryd.func35, Tryd.ntmps35
    go_wp2
    go_ret
    exact ⟨rfl, Qw.al (Qw.refl _) _⟩
  · rw [show (88 + 1 : Int) = 89 by decide, show Tg.g3 1 x y z = y from rfl]
    go_enter Tryd.func35, Tryd.ntmps35
    go_wp2
    go_ret
    exact ⟨rfl, Qw.al (Qw.refl _) _⟩
  · rw [show (88 + 2 : Int) = 90 by decide, show Tg.g3 2 x y z = z from rfl]
    go_enter Tryd.func35, Tryd.ntmps35
    go_wp2
    go_ret
    exact ⟨rfl, Qw.al (Qw.refl _) _⟩
set_option maxRecDepth 100000 in
set_option maxHeartbeats 4000000 in

theorem rgPut (j n x y z : Int) (hj : j = 0 ∨ j = 1 ∨ j = 2) (w : World) : Calls Tryd.prog 36 #[.agg #[.int .i64 x, .int .i64 y, .int .i64 z], .int .i64 (88 + j), .int .i64 n] w fun e w' => e = .returned (.agg #[.int .i64 (Tg.p3 j n 0 x), .int .i64 (Tg.p3 j n 1 y), .int .i64 (Tg.p3 j n 2 z)]) ∧ Qw w w' := by
  rcases hj with rfl | rfl | rfl
  · rw [show (88 + 0 : Int) = 88 by decide, show Tg.p3 0 n 0 x = n from rfl, show Tg.p3 0 n 1 y = y from rfl, show Tg.p3 0 n 2 z = z from rfl]
    go_enter Tryd.func36, Tryd.ntmps36
    go_wp2
    exact bodyPost_ret (v := .agg #[.int .i64 n, .int .i64 y, .int .i64 z]) (by simp [results, Tryd.results36, go_sem]) rfl ⟨rfl, Qw.al (Qw.al (Qw.refl w) _) _⟩
  · rw [show (88 + 1 : Int) = 89 by decide, show Tg.p3 1 n 0 x = x from rfl, show Tg.p3 1 n 1 y = n from rfl, show Tg.p3 1 n 2 z = z from rfl]
    go_enter Tryd.func36, Tryd.ntmps36
    go_wp2
    exact bodyPost_ret (v := .agg #[.int .i64 x, .int .i64 n, .int .i64 z]) (by simp [results, Tryd.results36, go_sem]) rfl ⟨rfl, Qw.al (Qw.al (Qw.refl w) _) _⟩
  · rw [show (88 + 2 : Int) = 90 by decide, show Tg.p3 2 n 0 x = x from rfl, show Tg.p3 2 n 1 y = y from rfl, show Tg.p3 2 n 2 z = n from rfl]
    go_enter Tryd.func36, Tryd.ntmps36
    go_wp2
    exact bodyPost_ret (v := .agg #[.int .i64 x, .int .i64 y, .int .i64 n]) (by simp [results, Tryd.results36, go_sem]) rfl ⟨rfl, Qw.al (Qw.al (Qw.refl w) _) _⟩
end Go.Proofs.YtnjcbgnghfppoaaDoor
