
/- The walks of the specification of layer 2 on numbers: Valid to Length. -/
import Derived.Test.YtlinfdgmebogbaaDoorFxA
import Derived.Test.YtlinfdgmebogbaaDoorRefH
set_option linter.unusedVariables false
set_option linter.unusedSimpArgs false
namespace Go.Proofs.YtlinfdgmebogbaaDoor
open Go.RowKit

theorem rxValid (n : Int) (w : World) : Calls Tryd.prog 32 #[.int .i64 n] w fun e w' => e = .returned (.bool (vld n)) ∧ w = w' := by
  by_cases h1 : n < -1000000000000000
  · rw [vld_f (.inl h1)]
    go_enter Tryd.func32, Tryd.ntmps32
    go_wp2
    go_ret
    exact ⟨ret_bl (by first | rfl | (simp; omega)), rfl⟩
  · by_cases h2 : 1000000000000000 < n
    · rw [vld_f (.inr h2)]
      go_enter Tryd.func32, Tryd.ntmps32
      go_wp2
      go_ret
      exact ⟨ret_bl (by first | rfl | (simp; omega)), rfl⟩
    · rw [vld_t (by omega) (by omega)]
      go_enter Tryd.func32, Tryd.ntmps32
      go_wp2
      go_ret
      exact ⟨ret_bl (by first | rfl | (simp; omega)), rfl⟩

end Go.Proofs.YtlinfdgmebogbaaDoor
