import Derived.Test.YtnjcbgnghfppoaaDoorCards
import Derived.Test.YtnjcbgnghfppoaaDoorTie
import Derived.ProofKit
import Derived.OpenShut
import Derived.Deep.DeepHandedRow
import Derived.Lib.LaidTab
import Derived.Stop.LaidErr
import Derived.Test.YtnjcbgnghfppoaaDoorGE
import Derived.Test.YtnjcbgnghfppoaaDoorGG
import Derived.Test.YtnjcbgnghfppoaaDoorGC

/- What the frames of the rows share whose list of variables holds the table of the steps' angles. -/
set_option linter.unusedVariables false
set_option linter.unusedSimpArgs false
namespace Go.Proofs.YtnjcbgnghfppoaaDoor
open Go.ChangeShapes Go.WideShapes Go.ChangeAt Go.RowKit

theorem i64_wfC {a : Int} (h : (Lit.int .i64 a).wf = true) : -9223372036854775808 ≤ a ∧ a ≤ 9223372036854775807 := by
  simp [Lit.wf, IntKind.min, IntKind.max, IntKind.signed, IntKind.bits] at h
  omega

theorem ownC : ownKnob Tryd.prog.godebug = none := by kernel_rfl
theorem gSteps : Tryd.prog.globalNamed "cnc/cordic.steps" = some 0 := by kernel_rfl
theorem gStepsType : (Tryd.prog.globals[0]?).map (·.type) = some 126 := by kernel_rfl
theorem gStepsCells : Tryd.prog.cellsOf 126 = 26 := by kernel_rfl
theorem gIntCellsC : Tryd.prog.cellsOf 3 = 1 := by kernel_rfl
theorem tabData_steps : (Rows.laid_cnc_cordic_steps : DataW Unit) = Lib.tabData .i64 Cm.tabT := by kernel_rfl

/-- The table that the rows list. -/
def tabsC : List (String × DataW Unit) := [("cnc/cordic.steps", Rows.laid_cnc_cordic_steps)]

/-- What the list gives. -/
theorem tableC {W : World} (h : laidMetH Tryd.prog tabsC W) : Tc W := by
  have h1 : laidMet Tryd.prog tabsC W := h
  unfold tabsC at h1
  rw [tabData_steps] at h1
  have h2 := Lib.tabIs_of_head (rest := []) gSteps gStepsType Tryd.underlying126 Tryd.underlying3 gIntCellsC gStepsCells h1
  have hc : ∀ i : Nat, i < 26 → W.cell? ⟨0, i, none⟩ = some (.int .i64 (Cm.T i)) := fun i hi => h2.cell gSteps i hi
  refine ⟨?_, hc⟩
  have c := hc 0 (by decide)
  rcases Nat.lt_or_ge 0 W.heap.size with h | h
  · exact h
  · simp [World.cell?, Array.getElem?_eq_none h] at c

/-- The values of a table. -/
def cellsC : DataW Unit → Array Value
  | .agg l => (l.map fun x => match x with
    | .lit (.int k n) => .int k n
    | _ => .bool false).toArray
  | _ => #[]

/-- A world in which the table lies as its initialiser lays it. -/
noncomputable def laidWorldC (os : Os) : World :=
  let h0 := (World.holding Tryd.prog os ⟨#[], #[], []⟩).heap
  let put (x : DataW Unit) (o : Obj) : Obj := match o with
    | .cells _ t frozen => .cells (cellsC x) t frozen
    | o => o
  { World.holding Tryd.prog os ⟨#[], #[], []⟩ with heap := h0.modify 0 (put Rows.laid_cnc_cordic_steps) }

theorem laid_metC (os : Os) (args : Array Value) : laidMet Tryd.prog tabsC ((laidWorldC os).forCall (fun _ _ => 0) ⟨#[], args, []⟩).memory :=
  laidMet_of_run' 8 (by kernel_rfl) (by kernel_rfl)

theorem btwC (v l h : Int) (lh : l ≤ h) : l ≤ l + v % (h - l + 1) ∧ l + v % (h - l + 1) ≤ h := by
  have a := Int.emod_nonneg v (show h - l + 1 ≠ 0 by omega)
  have b := Int.emod_lt_of_pos v (show 0 < h - l + 1 by omega)
  omega

/-! ### the sanity check of the laws -/

theorem aw1 : Cm.sc 90000000 = (0, 1073741824) := by decide +kernel
theorem aw2 : rotv 5 0 (-90000000) = (0, -5) ∧ rotok 5 0 = true := by decide +kernel
theorem aw3 : Cm.angv 0 (-3) = 270000000 ∧ Cm.aok 0 (-3) = true := by decide +kernel

end Go.Proofs.YtnjcbgnghfppoaaDoor

/- Plain facts for the laws of layer 3 on quotients, roots and turned points. -/
set_option linter.unusedVariables false
set_option linter.unusedSimpArgs false
namespace Go.Proofs.YtnjcbgnghfppoaaDoor
open Go.RowKit

/-- The nearest root of a number. -/
theorem root_near (N : Int) (h0 : 0 ≤ N) (h1 : N ≤ 9000000000000000) : rtok N 1 2 = true ∧ 0 ≤ rtv N 1 2 ∧ rtv N 1 2 ≤ 100000000 ∧
    (rtv N 1 2 = 0 ∨ (2 * rtv N 1 2 - 1) * (2 * rtv N 1 2 - 1) ≤ 4 * N) ∧ 4 * N ≤ (2 * rtv N 1 2 + 1) * (2 * rtv N 1 2 + 1) := by
  obtain ⟨ok, v⟩ := sqrt_plain N 2 h0 (by omega) (by decide) (by decide)
  have s := Mth.rt_spec N h0
  have s0 := Mth.rt_nonneg N
  have z := rr_one N h0
  have big : Mth.rt N ≤ 99999999 := by
    by_cases c : Mth.rt N ≤ 99999999
    · exact c
    · have := Cm.sq_mono (x := 100000000) (y := Mth.rt N) (by decide) (by omega)
      omega
  have w : rtv N 1 2 = if N ≤ Mth.rt N * Mth.rt N + Mth.rt N then Mth.rt N else Mth.rt N + 1 := by
    rw [v, z]
    generalize Mth.rt N * Mth.rt N = S at *
    generalize Mth.rt N = r at *
    unfold Mth.rnd Mth.away
    by_cases c : N = S
    · have d : N ≤ S + r := by omega
      rw [if_pos c, if_pos d]; simp
    · rw [if_neg c]
      by_cases d : N ≤ S + r
      · rw [if_pos d, if_pos d]; simp
      · rw [if_neg d, if_neg d]; simp
  have e1 : (Mth.rt N + 1) * (Mth.rt N + 1) = Mth.rt N * Mth.rt N + 2 * Mth.rt N + 1 := by simp only [Int.add_mul, Int.mul_add]; omega
  rw [e1] at s
  rw [w]
  refine ⟨ok, ?_⟩
  generalize hr : Mth.rt N = r at *
  have q1 : (2 * r + 1) * (2 * r + 1) = 4 * (r * r) + 4 * r + 1 := by
    rw [show 2 * r = r + r by omega]; simp only [Int.add_mul, Int.mul_add]; omega
  have q2 : (2 * r - 1) * (2 * r - 1) = 4 * (r * r) - 4 * r + 1 := by
    rw [show 2 * r = r + r by omega]; simp only [Int.add_mul, Int.mul_add, Int.sub_mul, Int.mul_sub]; omega
  have q3 : (2 * (r + 1) + 1) * (2 * (r + 1) + 1) = 4 * (r * r) + 12 * r + 9 := by
    rw [show 2 * (r + 1) = r + r + 2 by omega]; simp only [Int.add_mul, Int.mul_add]; omega
  have q4 : (2 * (r + 1) - 1) * (2 * (r + 1) - 1) = 4 * (r * r) + 4 * r + 1 := by
    rw [show 2 * (r + 1) - 1 = r + r + 1 by omega]; simp only [Int.add_mul, Int.mul_add]; omega
  by_cases d : N ≤ r * r + r
  · rw [if_pos d, q1, q2]; omega
  · rw [if_neg d, q3, q4]; omega

/-- The rounded quotient by 2^30. -/
theorem md_30 (a b : Int) (h1 : -1152922000000000000 ≤ a * b) (h2 : a * b ≤ 1152922000000000000) : mdok a b 1073741824 2 = true ∧
    -536870912 ≤ 1073741824 * mdv a b 1073741824 2 - a * b ∧ 1073741824 * mdv a b 1073741824 2 - a * b ≤ 536870912 := by
  obtain ⟨ok, v⟩ := md_qv a b 1073741824 2 (by decide) (by decide) (by decide) (by rw [qv_2]; omega) (by rw [qv_2]; omega)
  rw [qv_2] at v
  refine ⟨ok, ?_⟩
  rw [v]
  omega

/-- A turned point that is near enough. -/
theorem rotv_in (x y a : Int) (x1 : -4194304 ≤ x) (x2 : x ≤ 4194304) (y1 : -4194304 ≤ y) (y2 : y ≤ 4194304) :
    rotok x y = true ∧ rotv x y a = (rd (x * (Cm.sc a).1 - y * (Cm.sc a).2) 1073741824, rd (x * (Cm.sc a).2 + y * (Cm.sc a).1) 1073741824) := by
  have b1 := bey_f x1 x2
  have b2 := bey_f y1 y2
  unfold rotok rotv
  rw [b1, b2]
  exact ⟨rfl, rfl⟩

theorem rd_30 (n : Int) : -536870912 ≤ 1073741824 * rd n 1073741824 - n ∧ 1073741824 * rd n 1073741824 - n ≤ 536870912 := by
  unfold rd; omega

theorem rotv_near (x y a : Int) (x1 : -4194304 ≤ x) (x2 : x ≤ 4194304) (y1 : -4194304 ≤ y) (y2 : y ≤ 4194304) :
    Cm.nm (1073741824 * (rotv x y a).1 - (x * (Cm.sc a).1 - y * (Cm.sc a).2)) (1073741824 * (rotv x y a).2 - (x * (Cm.sc a).2 + y * (Cm.sc a).1)) 759250126 := by
  rw [(rotv_in x y a x1 x2 y1 y2).2]
  have p := rd_30 (x * (Cm.sc a).1 - y * (Cm.sc a).2)
  have q := rd_30 (x * (Cm.sc a).2 + y * (Cm.sc a).1)
  exact Cm.rounded _ _ _ _ p.1 p.2 q.1 q.2

/-- A point in the square of 2^20 is not farther away than that times the root of 2. -/
theorem box_20 {x y : Int} (x1 : -1048576 ≤ x) (x2 : x ≤ 1048576) (y1 : -1048576 ≤ y) (y2 : y ≤ 1048576) : Cm.nm x y 1482911 :=
  Cm.nm_box x1 x2 y1 y2 (by decide) (by decide)

theorem rotv_bd (x y a : Int) (x1 : -1048576 ≤ x) (x2 : x ≤ 1048576) (y1 : -1048576 ≤ y) (y2 : y ≤ 1048576) :
    -1500000 ≤ (rotv x y a).1 ∧ (rotv x y a).1 ≤ 1500000 ∧ -1500000 ≤ (rotv x y a).2 ∧ (rotv x y a).2 ≤ 1500000 := by
  have k := Cm.turn_len x y _ _ _ _ 1482911 (box_20 x1 x2 y1 y2) (Cm.sc_bd a) (rotv_near x y a (by omega) (by omega) (by omega) (by omega))
  have p := Cm.nm_re k
  have q := Cm.nm_im k
  omega

theorem sq_bd {x B : Int} (h1 : -B ≤ x) (h2 : x ≤ B) : 0 ≤ x * x ∧ x * x ≤ B * B := ⟨Cm.sq_nonneg x, Cm.sq_abs h1 h2⟩

/-- There and back. -/
theorem back_law (x y a : Int) (x1 : -1048576 ≤ x) (x2 : x ≤ 1048576) (y1 : -1048576 ≤ y) (y2 : y ≤ 1048576) (a1 : 0 ≤ a) (a2 : a < 360000000) :
    -1 ≤ (rotv (rotv x y a).1 (rotv x y a).2 (-a)).1 - x ∧ (rotv (rotv x y a).1 (rotv x y a).2 (-a)).1 - x ≤ 1 ∧ -1 ≤ (rotv (rotv x y a).1 (rotv x y a).2 (-a)).2 - y ∧ (rotv (rotv x y a).1 (rotv x y a).2 (-a)).2 - y ≤ 1 := by
  have b := rotv_bd x y a x1 x2 y1 y2
  have h := rotv_near x y a (by omega) (by omega) (by omega) (by omega)
  have h' := rotv_near (rotv x y a).1 (rotv x y a).2 (-a) (by omega) (by omega) (by omega) (by omega)
  have s := Cm.sc_sum a (-a) (by omega) (by omega) (by omega) (by omega) (by omega) (by omega)
  rw [Int.add_right_neg, show Cm.sc 0 = (1073741824, 0) by decide +kernel] at s
  exact Cm.back_plain x y _ _ _ _ _ _ _ _ (box_20 x1 x2 y1 y2) (Cm.sc_bd a) (Cm.sc_bd (-a)) h h' s

/-- Lengths. -/
theorem len_law (x y a : Int) (x1 : -1048576 ≤ x) (x2 : x ≤ 1048576) (y1 : -1048576 ≤ y) (y2 : y ≤ 1048576) :
    rtv (x * x + y * y) 1 2 - rtv ((rotv x y a).1 * (rotv x y a).1 + (rotv x y a).2 * (rotv x y a).2) 1 2 ≤ 1 ∧ rtv ((rotv x y a).1 * (rotv x y a).1 + (rotv x y a).2 * (rotv x y a).2) 1 2 - rtv (x * x + y * y) 1 2 ≤ 1 := by
  have b := rotv_bd x y a x1 x2 y1 y2
  have h := rotv_near x y a (by omega) (by omega) (by omega) (by omega)
  have p1 := sq_bd x1 x2
  have p2 := sq_bd y1 y2
  have p3 := sq_bd b.1 b.2.1
  have p4 := sq_bd b.2.2.1 b.2.2.2
  have lo := Cm.sc_lo a
  obtain ⟨_, m0, m1, m2, m3⟩ := root_near (x * x + y * y) (by omega) (by omega)
  obtain ⟨_, n0, n1, n2, n3⟩ := root_near ((rotv x y a).1 * (rotv x y a).1 + (rotv x y a).2 * (rotv x y a).2) (by omega) (by omega)
  have mb : rtv (x * x + y * y) 1 2 ≤ 1500000 := by
    by_cases c : rtv (x * x + y * y) 1 2 ≤ 1500000
    · exact c
    · have := Cm.sq_mono (x := 3000001) (y := 2 * rtv (x * x + y * y) 1 2 - 1) (by decide) (by omega)
      omega
  have nb : rtv ((rotv x y a).1 * (rotv x y a).1 + (rotv x y a).2 * (rotv x y a).2) 1 2 ≤ 10000000 := by
    by_cases c : rtv ((rotv x y a).1 * (rotv x y a).1 + (rotv x y a).2 * (rotv x y a).2) 1 2 ≤ 10000000
    · exact c
    · have := Cm.sq_mono (x := 20000001) (y := 2 * rtv ((rotv x y a).1 * (rotv x y a).1 + (rotv x y a).2 * (rotv x y a).2) 1 2 - 1) (by decide) (by omega)
      omega
  exact Cm.len_plain x y _ _ _ _ _ _ m0 n0 mb nb m2 m3 n2 n3 (Cm.sc_bd a) (by omega) h

/-- Directions. -/
theorem dir_law (x y : Int) (h0 : ¬ (x = 0 ∧ y = 0)) (x1 : -1048576 ≤ x) (x2 : x ≤ 1048576) (y1 : -1048576 ≤ y) (y2 : y ≤ 1048576) :
    0 ≤ rtv (x * x + y * y) 1 2 ∧ rtv (x * x + y * y) 1 2 ≤ 1500000 ∧
    -1 ≤ (rotv (rtv (x * x + y * y) 1 2) 0 (Cm.ang x y)).1 - x ∧ (rotv (rtv (x * x + y * y) 1 2) 0 (Cm.ang x y)).1 - x ≤ 1 ∧
    -1 ≤ (rotv (rtv (x * x + y * y) 1 2) 0 (Cm.ang x y)).2 - y ∧ (rotv (rtv (x * x + y * y) 1 2) 0 (Cm.ang x y)).2 - y ≤ 1 := by
  have p1 := sq_bd x1 x2
  have p2 := sq_bd y1 y2
  obtain ⟨_, m0, m1, m2, m3⟩ := root_near (x * x + y * y) (by omega) (by omega)
  have mb : rtv (x * x + y * y) 1 2 ≤ 1500000 := by
    by_cases c : rtv (x * x + y * y) 1 2 ≤ 1500000
    · exact c
    · have := Cm.sq_mono (x := 3000001) (y := 2 * rtv (x * x + y * y) 1 2 - 1) (by decide) (by omega)
      omega
  have k := Cm.dir_plain x y _ h0 m0 mb m2 m3
  generalize rtv (x * x + y * y) 1 2 = m at *
  rw [(rotv_in m 0 (Cm.ang x y) (by omega) (by omega) (by decide) (by decide)).2]
  have r := rd_30 (m * (Cm.sc (Cm.ang x y)).1 - 0 * (Cm.sc (Cm.ang x y)).2)
  have s := rd_30 (m * (Cm.sc (Cm.ang x y)).2 + 0 * (Cm.sc (Cm.ang x y)).1)
  have p := Cm.nm_re k
  have q := Cm.nm_im k
  dsimp only
  generalize rd (m * (Cm.sc (Cm.ang x y)).1 - 0 * (Cm.sc (Cm.ang x y)).2) 1073741824 = U at *
  generalize rd (m * (Cm.sc (Cm.ang x y)).2 + 0 * (Cm.sc (Cm.ang x y)).1) 1073741824 = V at *
  refine ⟨m0, mb, ?_⟩
  omega

/-- Rotations by quarters. -/
theorem right_law (x y k : Int) (x1 : -4194304 ≤ x) (x2 : x ≤ 4194304) (y1 : -4194304 ≤ y) (y2 : y ≤ 4194304) : rotv x y (k * 90000000) = Cm.qt (k % 4).toNat (x, y) := by
  rw [(rotv_in x y _ x1 x2 y1 y2).2, Cm.sc_right]
  rcases (show k % 4 = 0 ∨ k % 4 = 1 ∨ k % 4 = 2 ∨ k % 4 = 3 by omega) with e | e | e | e
  · rw [e, show Cm.qt (Int.toNat 0) (1073741824, 0) = (1073741824, 0) by decide +kernel, show Cm.qt (Int.toNat 0) (x, y) = (x, y) from rfl]
    refine Prod.ext ?_ ?_ <;> (dsimp only; unfold rd; omega)
  · rw [e, show Cm.qt (Int.toNat 1) (1073741824, 0) = (0, 1073741824) by decide +kernel, show Cm.qt (Int.toNat 1) (x, y) = (-y, x) from rfl]
    refine Prod.ext ?_ ?_ <;> (dsimp only; unfold rd; omega)
  · rw [e, show Cm.qt (Int.toNat 2) (1073741824, 0) = (-1073741824, 0) by decide +kernel, show Cm.qt (Int.toNat 2) (x, y) = (-x, -y) from rfl]
    refine Prod.ext ?_ ?_ <;> (dsimp only; unfold rd; omega)
  · rw [e, show Cm.qt (Int.toNat 3) (1073741824, 0) = (0, -1073741824) by decide +kernel, show Cm.qt (Int.toNat 3) (x, y) = (-(-y), -x) from rfl]
    refine Prod.ext ?_ ?_ <;> (dsimp only; unfold rd; omega)

end Go.Proofs.YtnjcbgnghfppoaaDoor
