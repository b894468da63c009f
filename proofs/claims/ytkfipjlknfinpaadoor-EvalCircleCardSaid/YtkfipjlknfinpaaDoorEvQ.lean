
/- Plain: a sine or a cosine in millionths. -/
import Derived.Test.YtkfipjlknfinpaaDoorEvP
set_option linter.unusedVariables false
set_option linter.unusedSimpArgs false
namespace Go.Proofs.YtkfipjlknfinpaaDoor
theorem sc_intR (a : Int) : (-1073741900 ≤ (Cm.sc a).1 ∧ (Cm.sc a).1 ≤ 1073741900) ∧ -1073741900 ≤ (Cm.sc a).2 ∧ (Cm.sc a).2 ≤ 1073741900 := ⟨Cm.nm_re (Cm.sc_bd a), Cm.nm_im (Cm.sc_bd a)⟩
theorem quo_30 (S : Int) (h1 : -1073741900 ≤ S) (h2 : S ≤ 1073741900) : mdv S 1000000 1073741824 2 = (2 * (S * 1000000) + 1073741824) / 2147483648 ∧ Ev.quo S 1073741824 = ((2 * (S * 1000000) + 1073741824) / 2147483648, 0) := by
  have h := md_qv S 1000000 1073741824 2 (by decide) (by decide) (by decide) (by rw [qv_2]; omega) (by rw [qv_2]; omega)
  rw [qv_2] at h
  have e : (2 * (S * 1000000) + 1073741824) / (2 * 1073741824) = (2 * (S * 1000000) + 1073741824) / 2147483648 := rfl
  rw [e] at h
  unfold Ev.quo
  have v : vld ((2 * (S * 1000000) + 1073741824) / 2147483648) = true := vld_t (by omega) (by omega)
  refine ⟨h.2, ?_⟩
  rw [h.1, h.2]
  unfold tv te
  rw [v]
  rfl

end Go.Proofs.YtkfipjlknfinpaaDoor
