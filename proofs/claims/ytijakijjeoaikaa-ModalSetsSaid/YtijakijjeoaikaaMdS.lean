
/- One code sets its group; no values set nothing. -/
import Derived.Test.YtijakijjeoaikaaMdQ
import Derived.Test.YtijakijjeoaikaaMdM
set_option linter.unusedVariables false
set_option linter.unusedSimpArgs false
namespace Go.Proofs.Ytijakijjeoaikaa.Md

/-- The codes that the law looks at. -/
def cds : List Int := [0, 1, 2, 3, 17, 18, 19, 20, 21, 54, 55, 59, 68, 69, 73, 80, 90, 91, 94, 95, 98, 99, 15, 16, 41, 42, 43, 44]
theorem sets_nil (s : S) : ape s [] = 0 ∧ aps s [] = s := by
  have e : ape s [] = 0 := by
    unfold ape
    rw [if_neg (by decide)]
    unfold wde fde nue ble
    rw [show fo [] 70 = false from rfl, show blw [] = false from rfl, show nok [] 83 30000 = true from rfl, show nok [] 84 32 = true from rfl, show nok [] 72 32 = true from rfl, show nok [] 68 32 = true from rfl]
    simp
  refine ⟨e, ?_⟩
  unfold aps
  rw [if_pos e]
  rfl
/-- What a block of one code of the letter G leaves, where no word stands in it. -/
theorem sets_of (s : S) (c : Int) (hk : chk [(71, c * 1000000)] = 0) (h6 : has [(71, c * 1000000)] 77 6 = false) (hw : gof (71, c * 1000000) = grp 71 c) (hv : cv (71, c * 1000000) = c) :
    ape s [(71, c * 1000000)] = 0 ∧ aps s [(71, c * 1000000)] = wgc s (grp 71 c) c := by
  have ec : codes s [(71, c * 1000000)] = wgc s (grp 71 c) c := by
    show wcs s (71, c * 1000000) = _
    unfold wcs
    rw [hw, hv]
  have f : ∀ x : Int, x ≠ 71 → fo [(71, c * 1000000)] x = false := fun x hx => by
    unfold fo fnd
    simp [List.find?_cons, Ne.symm hx]
  have b : blw [(71, c * 1000000)] = false := by unfold blw; rw [f 80 (by decide), Bool.false_and]
  have n : ∀ x m : Int, x ≠ 71 → nok [(71, c * 1000000)] x m = true := fun x m hx => by unfold nok; rw [f x hx]; rfl
  have e : ape s [(71, c * 1000000)] = 0 := by
    unfold ape
    rw [if_neg (by rw [hk]; decide)]
    unfold wde fde nue ble
    rw [f 70 (by decide), b, n 83 _ (by decide), n 84 _ (by decide), n 72 _ (by decide), n 68 _ (by decide)]
    simp
  refine ⟨e, ?_⟩
  unfold aps
  rw [if_pos e, ec]
  generalize wgc s (grp 71 c) c = t
  unfold lod wds bls fds
  rw [h6, b, f 70 (by decide)]
  unfold nus nst
  rw [f 83 (by decide), f 84 (by decide), f 72 (by decide), f 68 (by decide)]
  rfl
theorem cds_ok : ∀ c ∈ cds, chk [(71, c * 1000000)] = 0 ∧ has [(71, c * 1000000)] 77 6 = false ∧ gof (71, c * 1000000) = grp 71 c ∧ cv (71, c * 1000000) = c ∧ 0 ≤ c ∧ c < 100 ∧ c ≠ 40 ∧ c ≠ 49 ∧
    (grp 71 c = 1 ∨ grp 71 c = 2 ∨ grp 71 c = 3 ∨ grp 71 c = 4 ∨ grp 71 c = 5 ∨ grp 71 c = 6 ∨ grp 71 c = 7 ∨ grp 71 c = 8 ∨ grp 71 c = 9 ∨ grp 71 c = 11 ∨ grp 71 c = 12) := by decide +kernel
theorem sets_one (s : S) (c : Int) (hc : c ∈ cds) : ape s [(71, c * 1000000)] = 0 ∧ aps s [(71, c * 1000000)] = wgc s (grp 71 c) c := by
  have h := cds_ok c hc
  exact sets_of s c h.1 h.2.1 h.2.2.1 h.2.2.2.1
end Go.Proofs.Ytijakijjeoaikaa.Md
