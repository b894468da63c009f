import Derived.Test.YtciglhecjkeogaaGreatDoorZTX4
import Derived.Test.YtciglhecjkeogaaGreatDoorZTX5
import Derived.Test.YtciglhecjkeogaaGreatDoorZTX7
import Derived.Test.YtciglhecjkeogaaGreatDoorCards
import Derived.Test.YtciglhecjkeogaaGreatDoorTie
import Derived.ProofKit
import Derived.OpenShut
import Derived.Deep.DeepHandedRow
import Derived.Lib.LaidTab
import Derived.Stop.LaidErr
import Derived.Carry
import Derived.ChangeMaps5
set_option linter.unusedVariables false
set_option linter.unusedSimpArgs false
namespace Go.Proofs.YtciglhecjkeogaaGreatDoor
open Go.ChangeShapes Go.WideShapes Go.ChangeAt Go.RowKit
theorem i64_of_wf {a : Int} (h : (Lit.int .i64 a).wf = true) : -9223372036854775808 ≤ a ∧ a ≤ 9223372036854775807 := by
  simp [Lit.wf, IntKind.min, IntKind.max, IntKind.signed, IntKind.bits] at h
  omega
theorem ownS : ownKnob Tryz.prog.godebug = none := by kernel_rfl
theorem gNames : Tryz.prog.globalNamed "cnc/lex.names" = some 1 := by kernel_rfl
theorem gNamesType : (Tryz.prog.globals[1]?).map (·.type) = some 119 := by kernel_rfl
theorem gNamesCells : Tryz.prog.cellsOf 119 = 24 := by kernel_rfl
theorem gStrCells : Tryz.prog.cellsOf 9 = 1 := by kernel_rfl
def strData (ls : List (List UInt8)) : DataW Unit := .agg (ls.map fun l => .lit (.string l))
theorem strData_names : (Rows.laid_cnc_lex_names : DataW Unit) = strData Lx.nms := by kernel_rfl
theorem texts_of {w : World} {sp : Nat → Bool} {held : Bool} {enc : TypeId × Value → Unit} {base fuel : Nat} {cs : List Value} {p : List MemPlace}
    (h : DataW.trod enc Tryz.prog w base sp held fuel 119 cs = some (strData Lx.nms, p)) (i : Nat) (hi : i < 24) : cs[i]? = some (.string (nb i)) := by
  cases fuel with
  | zero => simp [DataW.trod] at h
  | succ f =>
    simp only [DataW.trod, Tryz.underlying119, gStrCells, gNamesCells, Nat.mul_one] at h
    split at h
    · obtain ⟨xs, hm, hx⟩ := Option.map_eq_some_iff.1 h
      obtain ⟨y, hy, hf⟩ := Lib.mapM_at hm i i (by simp [hi])
      obtain ⟨s, hc, hs, _⟩ := DataW.trod_string Tryz.underlying9 hf
      have c0 : cs[i]? = some (.string s) := by
        have := congrArg (fun l => l[0]?) hc
        simpa [List.getElem?_take, List.getElem?_drop] using this
      have d0 : xs.map (·.1) = Lx.nms.map fun l => (DataW.lit (.string l) : DataW Unit) := by
        have := congrArg Prod.fst hx
        simpa [strData] using this
      have e0 : (xs.map (·.1))[i]? = some (DataW.lit (.string s.data.toList)) := by rw [List.getElem?_map, hy, hs]; rfl
      rw [d0, List.getElem?_map, List.getElem?_eq_getElem (by rw [Lx.nms_length]; exact hi)] at e0
      simp only [Option.map_some, Option.some.injEq, DataW.lit.injEq, Lit.string.injEq] at e0
      rw [c0]
      unfold nb Lx.nm
      rw [List.getD_eq_getElem?_getD, List.getElem?_eq_getElem (by rw [Lx.nms_length]; exact hi)]
      simp only [Option.getD_some, e0, bs_of]
    · cases h
theorem gPow : Tryz.prog.globalNamed "internal/strconv.uint64pow10" = some 6 := by kernel_rfl
theorem gPowType : (Tryz.prog.globals[6]?).map (·.type) = some 155 := by kernel_rfl
theorem gPowCells : Tryz.prog.cellsOf 155 = 20 := by kernel_rfl
theorem gU64Cells : Tryz.prog.cellsOf 129 = 1 := by kernel_rfl
theorem tabData_pow : (Rows.laid_internal_strconv_uint64pow10 : DataW Unit) = Lib.tabData .u64 Lib.pow10Tab := by kernel_rfl
theorem gOps : Tryz.prog.globalNamed "cnc/syntax.operators" = some 0 := by kernel_rfl
theorem gOpsType : (Tryz.prog.globals[0]?).map (·.type) = some 93 := by kernel_rfl
theorem gOpsCells : Tryz.prog.cellsOf 93 = 52 := by kernel_rfl
theorem gOpCells : Tryz.prog.cellsOf 92 = 2 := by kernel_rfl
theorem gIntCells : Tryz.prog.cellsOf 3 = 1 := by kernel_rfl
def opsData (ls : List (List UInt8 × Int)) : DataW Unit := .agg (ls.map fun l => .agg [.lit (.string l.1), .lit (.int .i64 l.2)])
def opsL : List (List UInt8 × Int) := (List.range 26).map fun j => (Sy.onm j, (Sy.kds j : Int))
theorem opsData_laid : (Rows.laid_cnc_syntax_operators : DataW Unit) = opsData opsL := by kernel_rfl
theorem opsL_get (i : Nat) (h : i < 26) : opsL[i]? = some (Sy.onm i, (Sy.kds i : Int)) := by
  unfold opsL; rw [List.getElem?_map, List.getElem?_range h]; rfl
set_option maxRecDepth 100000 in
theorem ops_of {w : World} {sp : Nat → Bool} {held : Bool} {enc : TypeId × Value → Unit} {base fuel : Nat} {cs : List Value} {p : List MemPlace}
    (h : DataW.trod enc Tryz.prog w base sp held fuel 93 cs = some (opsData opsL, p)) (i : Nat) (hi : i < 26) : cs[i * 2]? = some (.string (bs (Sy.onm i))) ∧ cs[i * 2 + 1]? = some (.int .i64 (Sy.kds i : Nat)) := by
  cases fuel with
  | zero => simp [DataW.trod] at h
  | succ f =>
    simp only [DataW.trod, Tryz.underlying93, gOpCells, gOpsCells] at h
    split at h
    · obtain ⟨xs, hm, hx⟩ := Option.map_eq_some_iff.1 h
      obtain ⟨y, hy, hf⟩ := Lib.mapM_at hm i i (by simp [hi])
      obtain ⟨zs, n, rfl, rfl, hl, hz, hg⟩ := DataW.trod_struct Tryz.underlying92 hf
      have d0 : xs.map (·.1) = opsL.map fun l => (DataW.agg [.lit (.string l.1), .lit (.int .i64 l.2)] : DataW Unit) := by
        have := congrArg Prod.fst hx
        simpa [opsData] using this
      have e0 : (xs.map (·.1))[i]? = some (DataW.agg (zs.map (·.1))) := by rw [List.getElem?_map, hy]; rfl
      rw [d0, List.getElem?_map, opsL_get i hi] at e0
      simp only [Option.map_some, Option.some.injEq, DataW.agg.injEq] at e0
      have g0 := hg 0 _ rfl
      have g1 := hg 1 _ rfl
      match zs, e0, g0, g1 with
      | [z0, z1], e0, g0, g1 =>
        simp only [List.map_cons, List.map_nil, List.cons.injEq, and_true] at e0
        simp only [List.getElem?_cons_zero, List.getElem?_cons_succ, gStrCells, gIntCells] at g0 g1
        obtain ⟨s, hc, hs, _⟩ := DataW.trod_string Tryz.underlying9 g0
        obtain ⟨m, hc1, hs1, _⟩ := DataW.trod_int Tryz.underlying3 g1
        subst hs hs1
        obtain ⟨k0, k1⟩ := e0
        simp only [DataW.lit.injEq, Lit.string.injEq, Lit.int.injEq, true_and] at k0 k1
        have c0 := congrArg (fun l => l[0]?) hc
        have c1 := congrArg (fun l => l[0]?) hc1
        simp [List.getElem?_take, List.getElem?_drop] at c0 c1
        refine ⟨?_, ?_⟩
        · rw [c0.2, k0]; simp only [bs_of]
        · rw [c1.2, ← k1]
    · cases h
def tabsS : List (String × DataW Unit) := [("math/bits.deBruijn32tab", Rows.laid_math_bits_deBruijn32tab), ("math/bits.deBruijn64tab", Rows.laid_math_bits_deBruijn64tab), ("internal/strconv.uint64pow10", Rows.laid_internal_strconv_uint64pow10), ("cnc/lex.names", Rows.laid_cnc_lex_names), ("cnc/syntax.operators", Rows.laid_cnc_syntax_operators)]
theorem laidNames {W : World} {rest : List (String × DataW Unit)} (h1 : laidMet Tryz.prog (("cnc/lex.names", strData Lx.nms) :: rest) W) : Tn W := by
  obtain ⟨ps, ⟨g, t, cs, fuel, p, q, hg, ht, hvar, hd, _, _⟩, _⟩ := h1
  obtain rfl := Option.some.inj (gNames.symm.trans hg)
  obtain rfl := Option.some.inj (gNamesType.symm.trans ht)
  have cells : ∀ j, j < 24 → W.cell? ⟨1, j, none⟩ = some (.string (nb j)) := by
    intro j hj
    have c := World.var?_cell gNames hvar j
    have t := texts_of hd j hj
    rw [c]
    simpa using t
  refine ⟨?_, cells⟩
  have c := cells 0 (by decide)
  rcases Nat.lt_or_ge 1 W.heap.size with h | h
  · exact h
  · simp [World.cell?, Array.getElem?_eq_none h] at c
theorem laidOps {W : World} {rest : List (String × DataW Unit)} (h1 : laidMet Tryz.prog (("cnc/syntax.operators", opsData opsL) :: rest) W) : Ow W := by
  obtain ⟨ps, ⟨g, t, cs, fuel, p, q, hg, ht, hvar, hd, _, _⟩, _⟩ := h1
  obtain rfl := Option.some.inj (gOps.symm.trans hg)
  obtain rfl := Option.some.inj (gOpsType.symm.trans ht)
  have cells : ∀ j, j < 26 → W.cell? ⟨0, j * 2, none⟩ = some (.string (bs (Sy.onm j))) ∧ W.cell? ⟨0, j * 2 + 1, none⟩ = some (.int .i64 (Sy.kds j : Nat)) := by
    intro j hj
    have c0 := World.var?_cell gOps hvar (j * 2)
    have c1 := World.var?_cell gOps hvar (j * 2 + 1)
    obtain ⟨t0, t1⟩ := ops_of hd j hj
    rw [c0, c1]
    exact ⟨by simpa using t0, by simpa using t1⟩
  refine ⟨?_, cells⟩
  have c := (cells 0 (by decide)).1
  rcases Nat.lt_or_ge 0 W.heap.size with h | h
  · exact h
  · simp [World.cell?, Array.getElem?_eq_none h] at c
theorem tableS {W : World} (h : laidMetH Tryz.prog tabsS W) : Tb W ∧ Tn W ∧ Ow W := by
  have h1 : laidMet Tryz.prog tabsS W := h
  unfold tabsS at h1
  rw [strData_names, opsData_laid, tabData_pow] at h1
  have h3 := h1.tail.tail
  exact ⟨Lib.tabBelow_of_tabIs (Lib.tabIs_of_head gPow gPowType Tryz.underlying155 Tryz.underlying129 gU64Cells gPowCells h3), laidNames h3.tail, laidOps h3.tail.tail⟩
def cellsLit : DataW Unit → Value
  | .lit (.string b) => .string ⟨b.toArray⟩
  | .lit (.int k n) => .int k n
  | _ => .bool false
def cellsS : DataW Unit → Array Value
  | .agg l => (l.flatMap fun x => match x with
    | .agg m => m.map cellsLit
    | y => [cellsLit y]).toArray
  | _ => #[]
theorem laidOutS : laidOutB Tryz.prog = true := by kernel_rfl
set_option maxRecDepth 100000 in
theorem in_ints {H : Type} {enc : TypeId × Value → H} {W : World} {base : Nat} {v : Value} {d : DataW H} {p : List MemPlace} (hval : Value.okWide Tryz.prog W .any base 22 v)
    (h : DataW.Trod enc Tryz.prog W 0 (fun _ => true) true 22 v d p) : ∃ zs, IntsB W.heap.size W v zs := by
  obtain ⟨a0, len, cap, rfl⟩ := okWide_slice Tryz.underlying22 hval
  obtain ⟨fuel, hf⟩ := h
  rcases open_ints Tryz.underlying22 Tryz.underlying3 gIntCells hf with ⟨hcs, hx⟩ | ⟨a, len', cap', zs, hcs, _, hl, hm, hz, hx, hcell, hwz⟩
  · simp [Value.cells] at hcs
    obtain ⟨rfl, rfl, rfl⟩ := hcs
    refine ⟨[], none, 0, by simp, by simp, by simp, .inl rfl⟩
  · simp [Value.cells] at hcs
    obtain ⟨rfl, rfl, rfl⟩ := hcs
    simp only [if_true] at hz
    have lt : (zs.take len).length = len := by rw [List.length_take]; omega
    refine ⟨zs.take len, some a, cap, by rw [lt], by omega, by unfold maxLen at hm; omega, ?_⟩
    by_cases h0 : len = 0
    · left; subst h0; rfl
    · right
      obtain ⟨b, off, spot⟩ := a
      have hspot : spot = none := by simpa [Addr.add] using World.cell?_spot (hcell 0 (by omega))
      subst hspot
      have hb : b < W.heap.size := by
        have c := hcell 0 (by omega)
        rcases Nat.lt_or_ge b W.heap.size with h | h
        · exact h
        · simp [World.cell?, Addr.add, Array.getElem?_eq_none h] at c
      refine ⟨b, off, rfl, hb, fun i hi => ?_⟩
      rw [lt] at hi
      have g : (zs.take len).getD i 0 = zs.getD i 0 := by rw [List.getD_eq_getElem?_getD, List.getD_eq_getElem?_getD, List.getElem?_take_of_lt hi]
      have w := i64_of_wf (hwz (zs.getD i 0) (by rw [List.getD_eq_getElem?_getD, List.getElem?_eq_getElem (by omega)]; exact List.getElem_mem _))
      rw [g]
      exact ⟨by rw [← add_plain]; exact hcell i (by omega), w⟩
theorem out_ints {H : Type} {enc : TypeId × Value → H} {W W' : World} {v : Value} {d : DataW H} {p : List MemPlace} (h : DataW.Trod enc Tryz.prog W 0 (fun _ => true) true 22 v d p) (bel : Below W.heap.size W W')
    (hlt : ∀ x ∈ p, x.block < W.heap.size) : DataW.Trod enc Tryz.prog W' 0 (fun b => decide (b < W.heap.size)) true 22 v d p :=
  Below.trod laidOutS (by kernel_rfl) (of_decide_eq_true (by kernel_rfl)) h bel hlt
end Go.Proofs.YtciglhecjkeogaaGreatDoor
set_option linter.unusedVariables false
set_option linter.unusedSimpArgs false
namespace Go.Proofs.YtciglhecjkeogaaGreatDoor.Cm
theorem le_of_sq {x y : Int} (h0 : 0 ≤ y) (h : x * x ≤ y * y) : x ≤ y := by
  by_cases c : x ≤ y
  · exact c
  · have c' : y + 1 ≤ x := by omega
    have m := Int.mul_le_mul c' c' (by omega) (by omega)
    have e : (y + 1) * (y + 1) = y * y + 2 * y + 1 := by
      simp only [Int.mul_add, Int.add_mul]; omega
    omega
theorem sq_nonneg (x : Int) : 0 ≤ x * x := by
  by_cases c : 0 ≤ x
  · exact Int.mul_nonneg c c
  · have := Int.mul_nonneg (show 0 ≤ -x by omega) (show 0 ≤ -x by omega)
    rwa [Int.neg_mul_neg] at this
theorem sq_mono {x y : Int} (h0 : 0 ≤ x) (h : x ≤ y) : x * x ≤ y * y := Int.mul_le_mul h h h0 (by omega)
theorem sq_abs {x y : Int} (h1 : -y ≤ x) (h2 : x ≤ y) : x * x ≤ y * y := by
  by_cases c : 0 ≤ x
  · exact sq_mono c h2
  · have := sq_mono (show 0 ≤ -x by omega) (show -x ≤ y by omega)
    rwa [Int.neg_mul_neg] at this
def nm (a b E : Int) : Prop := 0 ≤ E ∧ a * a + b * b ≤ E * E
theorem cauchy (a b c d : Int) : (a * c + b * d) * (a * c + b * d) ≤ (a * a + b * b) * (c * c + d * d) := by
  have h := sq_nonneg (a * d - b * c)
  simp only [Int.mul_add, Int.add_mul, Int.sub_mul, Int.mul_sub, Int.mul_assoc, Int.mul_comm, Int.mul_left_comm] at h ⊢
  omega
theorem nm_add {a b c d E F : Int} (h : nm a b E) (k : nm c d F) : nm (a + c) (b + d) (E + F) := by
  obtain ⟨h0, h⟩ := h
  obtain ⟨k0, k⟩ := k
  have hk : a * c + b * d ≤ E * F := by
    refine le_of_sq (Int.mul_nonneg h0 k0) (Int.le_trans (cauchy a b c d) ?_)
    have m := Int.mul_le_mul h k (Int.add_nonneg (sq_nonneg c) (sq_nonneg d)) (sq_nonneg E)
    have e : E * F * (E * F) = E * E * (F * F) := by simp only [Int.mul_assoc, Int.mul_comm, Int.mul_left_comm]
    rw [e]; exact m
  refine ⟨by omega, ?_⟩
  simp only [Int.mul_add, Int.add_mul]
  have e1 : c * a = a * c := Int.mul_comm _ _
  have e2 : d * b = b * d := Int.mul_comm _ _
  have e3 : F * E = E * F := Int.mul_comm _ _
  omega
theorem nm_neg {a b E : Int} (h : nm a b E) : nm (-a) (-b) E := by
  obtain ⟨h0, h⟩ := h
  exact ⟨h0, by rw [Int.neg_mul_neg, Int.neg_mul_neg]; exact h⟩
theorem nm_conj {a b E : Int} (h : nm a b E) : nm a (-b) E := by
  obtain ⟨h0, h⟩ := h
  exact ⟨h0, by rw [Int.neg_mul_neg]; exact h⟩
theorem nm_quarter {a b E : Int} (h : nm a b E) : nm (-b) a E := by
  obtain ⟨h0, h⟩ := h
  exact ⟨h0, by rw [Int.neg_mul_neg]; omega⟩
theorem nm_sub {a b c d E F : Int} (h : nm a b E) (k : nm c d F) : nm (a - c) (b - d) (E + F) := by
  have := nm_add h (nm_neg k)
  rwa [← Int.sub_eq_add_neg, ← Int.sub_eq_add_neg] at this
theorem nm_mono {a b E F : Int} (h : nm a b E) (hF : E ≤ F) : nm a b F := by
  obtain ⟨h0, h⟩ := h
  exact ⟨by omega, Int.le_trans h (sq_mono h0 hF)⟩
theorem nm_mul {a b c d E F : Int} (h : nm a b E) (k : nm c d F) : nm (a * c - b * d) (a * d + b * c) (E * F) := by
  obtain ⟨h0, h⟩ := h
  obtain ⟨k0, k⟩ := k
  refine ⟨Int.mul_nonneg h0 k0, ?_⟩
  have m := Int.mul_le_mul h k (Int.add_nonneg (sq_nonneg c) (sq_nonneg d)) (sq_nonneg E)
  simp only [Int.mul_add, Int.add_mul, Int.sub_mul, Int.mul_sub, Int.mul_assoc, Int.mul_comm, Int.mul_left_comm] at m ⊢
  omega
theorem nm_scale {a b E k : Int} (hk : 0 ≤ k) (h : nm a b E) : nm (k * a) (k * b) (k * E) := by
  have := nm_mul (show nm k 0 k from ⟨hk, by omega⟩) h
  simpa using this
theorem nm_cancel {a b E k : Int} (hk : 0 < k) (h : nm (k * a) (k * b) (k * E)) : nm a b E := by
  obtain ⟨h0, h⟩ := h
  refine ⟨?_, ?_⟩
  · by_cases c : 0 ≤ E
    · exact c
    · have := Int.mul_lt_mul_of_pos_left (show E < 0 by omega) hk
      omega
  · refine Int.le_of_mul_le_mul_left ?_ (Int.mul_pos hk hk)
    simp only [Int.mul_add, Int.add_mul, Int.mul_assoc, Int.mul_comm, Int.mul_left_comm] at h ⊢
    omega
theorem nm_re {a b E : Int} (h : nm a b E) : -E ≤ a ∧ a ≤ E := by
  obtain ⟨h0, h⟩ := h
  have hb := sq_nonneg b
  refine ⟨?_, le_of_sq h0 (by omega)⟩
  have := le_of_sq (x := -a) h0 (by rw [Int.neg_mul_neg]; omega)
  omega
theorem nm_im {a b E : Int} (h : nm a b E) : -E ≤ b ∧ b ≤ E := by
  obtain ⟨h0, h⟩ := h
  have ha := sq_nonneg a
  refine ⟨?_, le_of_sq h0 (by omega)⟩
  have := le_of_sq (x := -b) h0 (by rw [Int.neg_mul_neg]; omega)
  omega
theorem nm_box {a b p E : Int} (h1 : -p ≤ a) (h2 : a ≤ p) (h3 : -p ≤ b) (h4 : b ≤ p) (hE : 0 ≤ E) (h : 2 * (p * p) ≤ E * E) : nm a b E := by
  have x := sq_abs h1 h2
  have y := sq_abs h3 h4
  exact ⟨hE, by omega⟩
theorem nm_zero : nm 0 0 0 := ⟨by decide, by decide⟩
theorem nm_of_sq {a b E : Int} (h0 : 0 ≤ E) (h : a * a + b * b = E * E) : nm a b E := ⟨h0, by omega⟩
structure Cx where
  re : Int
  im : Int
def mul (x y : Cx) : Cx := ⟨x.re * y.re - x.im * y.im, x.re * y.im + x.im * y.re⟩
def cj (x : Cx) : Cx := ⟨x.re, -x.im⟩
def sm (k : Int) (x : Cx) : Cx := ⟨k * x.re, k * x.im⟩
theorem cx_ext {x y : Cx} (h1 : x.re = y.re) (h2 : x.im = y.im) : x = y := by
  cases x; cases y; simp_all
theorem mul_comm (x y : Cx) : mul x y = mul y x := by
  refine cx_ext ?_ ?_
  · simp only [mul, Int.mul_comm]
  · simp only [mul, Int.mul_comm]; omega
theorem mul_assoc (x y z : Cx) : mul (mul x y) z = mul x (mul y z) := by
  refine cx_ext ?_ ?_
  all_goals
    simp only [mul, Int.mul_add, Int.add_mul, Int.sub_mul, Int.mul_sub, Int.mul_assoc]
    omega
theorem mul_left_comm (x y z : Cx) : mul x (mul y z) = mul y (mul x z) := by
  rw [← mul_assoc, mul_comm x y, mul_assoc]
theorem cj_mul (x y : Cx) : cj (mul x y) = mul (cj x) (cj y) := by
  refine cx_ext ?_ ?_
  all_goals
    simp only [mul, cj, Int.neg_mul, Int.mul_neg]
    omega
theorem mul_cj (x : Cx) : mul x (cj x) = ⟨x.re * x.re + x.im * x.im, 0⟩ := by
  refine cx_ext ?_ ?_
  · simp only [mul, cj, Int.mul_neg]; omega
  · have := Int.mul_comm x.re x.im
    simp only [mul, cj, Int.mul_neg]; omega
theorem one_mul (x : Cx) : mul ⟨1, 0⟩ x = x := by
  refine cx_ext ?_ ?_
  all_goals simp [mul]
theorem real_mul (k : Int) (x : Cx) : mul ⟨k, 0⟩ x = sm k x := by
  refine cx_ext ?_ ?_
  all_goals simp [mul, sm]
def pw (w : Cx) : Nat → Cx
  | 0 => ⟨1, 0⟩
  | n + 1 => mul (pw w n) w
theorem pw_add (w : Cx) (m n : Nat) : pw w (m + n) = mul (pw w m) (pw w n) := by
  induction n with
  | zero => rw [Nat.add_zero, pw, mul_comm, one_mul]
  | succ n ih => rw [← Nat.add_assoc, pw, ih, pw, mul_assoc]
theorem pw_cj (w : Cx) (n : Nat) : mul (pw w n) (cj (pw w n)) = ⟨(w.re * w.re + w.im * w.im) ^ n, 0⟩ := by
  induction n with
  | zero => refine cx_ext ?_ ?_ <;> simp [pw, mul, cj]
  | succ n ih =>
    rw [pw, cj_mul, mul_assoc, mul_left_comm w, ← mul_assoc, ih, mul_cj]
    refine cx_ext ?_ ?_
    · simp [mul, Int.pow_succ]
    · simp [mul]
end Go.Proofs.YtciglhecjkeogaaGreatDoor.Cm
set_option linter.unusedVariables false
set_option linter.unusedSimpArgs false
namespace Go.Proofs.YtciglhecjkeogaaGreatDoor.Cm
structure Rot (S : Int) (C Z : Int → Int) : Prop where
  pos : 0 < S
  unit : ∀ n : Int, -100000000000000 ≤ n → n ≤ 100000000000000 → C n * C n + Z n * Z n = S * S
  addC : ∀ n m : Int, -100000000000000 ≤ n → n ≤ 100000000000000 → -100000000000000 ≤ m → m ≤ 100000000000000 → -100000000000000 ≤ n + m → n + m ≤ 100000000000000 → S * C (n + m) = C n * C m - Z n * Z m
  addZ : ∀ n m : Int, -100000000000000 ≤ n → n ≤ 100000000000000 → -100000000000000 ≤ m → m ≤ 100000000000000 → -100000000000000 ≤ n + m → n + m ≤ 100000000000000 → S * Z (n + m) = C n * Z m + Z n * C m
  zeroC : C 0 = S
  zeroZ : Z 0 = 0
  negC : ∀ n : Int, C (-n) = C n
  negZ : ∀ n : Int, Z (-n) = -Z n
theorem dd_pos (w : Cx) (h : 0 < w.re) : 0 < w.re * w.re + w.im * w.im := by
  have := Int.mul_pos h h
  have := sq_nonneg w.im
  omega
def U (w : Cx) (M : Nat) (n : Int) : Cx := mul (pw w (M + n).toNat) (cj (pw w (M - n).toNat))
theorem cj_cj (x : Cx) : cj (cj x) = x := by
  refine cx_ext rfl ?_
  simp [cj]
theorem U_neg (w : Cx) (M : Nat) (n : Int) : U w M (-n) = cj (U w M n) := by
  unfold U
  rw [cj_mul, cj_cj, mul_comm, show (M : Int) + -n = M - n by omega, show (M : Int) - -n = M + n by omega]
theorem U_add (w : Cx) (M : Nat) (n m : Int) (h1 : -(M : Int) ≤ n) (h2 : n ≤ M) (h3 : -(M : Int) ≤ m) (h4 : m ≤ M) (h5 : -(M : Int) ≤ n + m) (h6 : n + m ≤ M) :
    mul (U w M n) (U w M m) = sm ((w.re * w.re + w.im * w.im) ^ M) (U w M (n + m)) := by
  have e1 : mul (pw w (M + n).toNat) (pw w (M + m).toNat) = mul (pw w M) (pw w (M + (n + m)).toNat) := by
    rw [← pw_add, ← pw_add]
    congr 1
    omega
  have e2 : mul (pw w (M - n).toNat) (pw w (M - m).toNat) = mul (pw w M) (pw w (M - (n + m)).toNat) := by
    rw [← pw_add, ← pw_add]
    congr 1
    omega
  have e3 : mul (U w M n) (U w M m) = mul (mul (pw w (M + n).toNat) (pw w (M + m).toNat)) (cj (mul (pw w (M - n).toNat) (pw w (M - m).toNat))) := by
    unfold U
    rw [cj_mul, mul_assoc, mul_assoc, mul_left_comm (cj _)]
  rw [e3, e1, e2, cj_mul, ← real_mul, ← pw_cj w M]
  unfold U
  simp only [mul_assoc]
  congr 1
  rw [mul_left_comm]
theorem U_zero (w : Cx) (M : Nat) : U w M 0 = ⟨(w.re * w.re + w.im * w.im) ^ M, 0⟩ := by
  unfold U
  rw [Int.add_zero, Int.sub_zero, Int.toNat_natCast, pw_cj]
theorem rot_of (w : Cx) (hw : 0 < w.re) (M : Nat) (hM : 100000000000000 ≤ M) : Rot ((w.re * w.re + w.im * w.im) ^ M) (fun n => (U w M n).re) (fun n => (U w M n).im) where
  pos := Int.pow_pos (dd_pos w hw)
  unit n h1 h2 := by
    have h := U_add w M n (-n) (by omega) (by omega) (by omega) (by omega) (by omega) (by omega)
    rw [U_neg, mul_cj, Int.add_right_neg, U_zero] at h
    have := congrArg Cx.re h
    simpa [sm] using this
  addC n m h1 h2 h3 h4 h5 h6 := by
    have h := U_add w M n m (by omega) (by omega) (by omega) (by omega) (by omega) (by omega)
    exact (congrArg Cx.re h).symm
  addZ n m h1 h2 h3 h4 h5 h6 := by
    have h := U_add w M n m (by omega) (by omega) (by omega) (by omega) (by omega) (by omega)
    exact (congrArg Cx.im h).symm
  zeroC := by show (U w M 0).re = _; rw [U_zero]
  zeroZ := by show (U w M 0).im = _; rw [U_zero]
  negC n := by show (U w M (-n)).re = _; rw [U_neg]; rfl
  negZ n := by show (U w M (-n)).im = _; rw [U_neg]; rfl
theorem nm_congr {a b a' b' E E' : Int} (h : nm a b E) (h1 : a = a') (h2 : b = b') (h3 : E = E') : nm a' b' E' := by
  subst h1 h2 h3; exact h
theorem ap_plain (P S x1 x2 y1 y2 u v a b e c d f : Int) (hP : 0 < P) (hS : 0 < S) (hu : S * u = x1 * y1 - x2 * y2) (hv : S * v = x1 * y2 + x2 * y1) (kx : nm x1 x2 S) (ky : nm y1 y2 S) (he : 0 ≤ e) (hf : 0 ≤ f)
    (ha : nm (P * x1 - S * a) (P * x2 - S * b) (S * e)) (hb : nm (P * y1 - S * c) (P * y2 - S * d) (S * f)) :
    nm (P * u - S * ((a * c - b * d) / P)) (P * v - S * ((a * d + b * c) / P)) (S * (e + f + 3 + e * f / P)) := by
  have k1 := nm_scale (Int.le_of_lt hP) ky
  have k2 := nm_mul ha k1
  have k3 := nm_sub (nm_scale (Int.le_of_lt hP) kx) ha
  have k4 := nm_mul k3 hb
  have k5 := nm_add k2 k4
  have r1 := Int.emod_add_mul_ediv (a * c - b * d) P
  have r1a := Int.emod_nonneg (a * c - b * d) (show P ≠ 0 by omega)
  have r1b := Int.emod_lt_of_pos (a * c - b * d) hP
  have r2 := Int.emod_add_mul_ediv (a * d + b * c) P
  have r2a := Int.emod_nonneg (a * d + b * c) (show P ≠ 0 by omega)
  have r2b := Int.emod_lt_of_pos (a * d + b * c) hP
  have k6 : nm ((a * c - b * d) % P) ((a * d + b * c) % P) (P + P) :=
    nm_box (p := P) (by omega) (by omega) (by omega) (by omega) (by omega) (by
      have := sq_nonneg P
      simp only [Int.mul_add, Int.add_mul]
      omega)
  have k7 := nm_add k5 (nm_scale (Int.mul_nonneg (Int.le_of_lt hS) (Int.le_of_lt hS)) k6)
  have ef := Int.emod_add_mul_ediv (e * f) P
  have ef2 := Int.emod_lt_of_pos (e * f) hP
  generalize hR1 : (a * c - b * d) / P = R1 at *
  generalize hR2 : (a * d + b * c) / P = R2 at *
  generalize hm1 : (a * c - b * d) % P = m1 at *
  generalize hm2 : (a * d + b * c) % P = m2 at *
  generalize hq : e * f / P = q at *
  clear hR1 hR2 hm1 hm2 hq
  have hu' : P * P * (S * u) = P * P * (x1 * y1 - x2 * y2) := by rw [hu]
  have hv' : P * P * (S * v) = P * P * (x1 * y2 + x2 * y1) := by rw [hv]
  have s1 : S * S * (m1 + P * R1) = S * S * (a * c - b * d) := by rw [r1]
  have s2 : S * S * (m2 + P * R2) = S * S * (a * d + b * c) := by rw [r2]
  have b1 : S * S * (e * f) ≤ S * S * (P + P * q) := Int.mul_le_mul_of_nonneg_left (by omega) (Int.mul_nonneg (Int.le_of_lt hS) (Int.le_of_lt hS))
  refine nm_cancel (k := P * S) (Int.mul_pos hP hS) (nm_mono (nm_congr k7 ?_ ?_ rfl) ?_)
  · clear k1 k2 k3 k4 k5 k6 k7 ha hb kx ky b1 s2 hv' hu hv r1 r2 ef ef2 r1a r1b r2a r2b
    simp only [Int.mul_add, Int.add_mul, Int.sub_mul, Int.mul_sub, Int.mul_assoc, Int.mul_comm, Int.mul_left_comm] at s1 hu' ⊢
    omega
  · clear k1 k2 k3 k4 k5 k6 k7 ha hb kx ky b1 s1 hu' hu hv r1 r2 ef ef2 r1a r1b r2a r2b
    simp only [Int.mul_add, Int.add_mul, Int.sub_mul, Int.mul_sub, Int.mul_assoc, Int.mul_comm, Int.mul_left_comm] at s2 hv' ⊢
    omega
  · clear k1 k2 k3 k4 k5 k6 k7 ha hb kx ky s1 s2 hu' hv' hu hv r1 r2 ef ef2 r1a r1b r2a r2b
    rw [show (3 : Int) = 1 + 1 + 1 from rfl]
    simp only [Int.mul_add, Int.add_mul, Int.sub_mul, Int.mul_sub, Int.mul_assoc, Int.mul_comm, Int.mul_left_comm, Int.mul_one] at b1 ⊢
    omega
def comb (P : Int) (x y : Int × Int × Int) : Int × Int × Int :=
  ((x.1 * y.1 - x.2.1 * y.2.1) / P, (x.1 * y.2.1 + x.2.1 * y.1) / P, x.2.2 + y.2.2 + 3 + x.2.2 * y.2.2 / P)
def apx (P : Int) (one : Int × Int × Int) : Nat → Nat → Int × Int × Int
  | 0, _ => (P, 0, 0)
  | k + 1, n => if n % 2 = 1 then comb P (comb P (apx P one k (n / 2)) (apx P one k (n / 2))) one else comb P (apx P one k (n / 2)) (apx P one k (n / 2))
def Ap (P S : Int) (C Z : Int → Int) (n : Int) (x : Int × Int × Int) : Prop := 0 ≤ x.2.2 ∧ nm (P * C n - S * x.1) (P * Z n - S * x.2.1) (S * x.2.2)
theorem nm_unit {S : Int} {C Z : Int → Int} (h : Rot S C Z) (n : Int) (h1 : -100000000000000 ≤ n) (h2 : n ≤ 100000000000000) : nm (C n) (Z n) S :=
  nm_of_sq (Int.le_of_lt h.pos) (h.unit n h1 h2)
theorem ap_comb {P S : Int} {C Z : Int → Int} (h : Rot S C Z) (hP : 0 < P) {n m : Int} {x y : Int × Int × Int} (hx : Ap P S C Z n x) (hy : Ap P S C Z m y)
    (h1 : 0 ≤ n) (h3 : 0 ≤ m) (h6 : n + m ≤ 100000000000000) : Ap P S C Z (n + m) (comb P x y) := by
  obtain ⟨e, ha⟩ := hx
  obtain ⟨f, hb⟩ := hy
  refine ⟨?_, ap_plain P S _ _ _ _ _ _ _ _ _ _ _ _ hP h.pos (h.addC n m (by omega) (by omega) (by omega) (by omega) (by omega) (by omega)) (h.addZ n m (by omega) (by omega) (by omega) (by omega) (by omega) (by omega)) (nm_unit h n (by omega) (by omega)) (nm_unit h m (by omega) (by omega)) e f ha hb⟩
  have := Int.ediv_nonneg (Int.mul_nonneg e f) (Int.le_of_lt hP)
  simp only [comb]
  omega
theorem ap_apx {P S : Int} {C Z : Int → Int} (h : Rot S C Z) (hP : 0 < P) {one : Int × Int × Int} (h1 : Ap P S C Z 1 one) : ∀ (k n : Nat), n < 2 ^ k → n ≤ 50000000000000 → Ap P S C Z n (apx P one k n) := by
  intro k
  induction k with
  | zero =>
    intro n hn _
    obtain rfl : n = 0 := by simpa using hn
    refine ⟨by simp [apx], ?_⟩
    simp only [apx, Int.natCast_zero]
    rw [h.zeroC, h.zeroZ]
    exact nm_congr nm_zero (by rw [Int.mul_comm]; omega) (by simp) (by simp)
  | succ k ih =>
    intro n hn hl
    have hk := ih (n / 2) (by rw [Nat.pow_succ] at hn; omega) (by omega)
    have h2 := ap_comb h hP hk hk (by omega) (by omega) (by omega)
    rw [apx]
    by_cases c : n % 2 = 1
    · rw [if_pos c]
      have := ap_comb h hP h2 h1 (by omega) (by omega) (by omega)
      rwa [show ((n / 2 : Nat) : Int) + ((n / 2 : Nat) : Int) + 1 = n by omega] at this
    · rw [if_neg c]
      rwa [show ((n / 2 : Nat) : Int) + ((n / 2 : Nat) : Int) = n by omega] at h2
end Go.Proofs.YtciglhecjkeogaaGreatDoor.Cm
set_option linter.unusedVariables false
set_option linter.unusedSimpArgs false
namespace Go.Proofs.YtciglhecjkeogaaGreatDoor.Cm
def tabT : List Int := [45000000000, 26565051177, 14036243468, 7125016349, 3576334375, 1789910608, 895173710, 447614171, 223810500, 111905677, 55952892, 27976453, 13988227, 6994114, 3497057, 1748528, 874264, 437132, 218566, 109283, 54642, 27321, 13660, 6830, 3415, 1708]
def T (i : Nat) : Int := tabT.getD i 0
def tabH : List Int := [1099511627776, 1554944255988, 1738480528806, 1791984712086, 1805930328731, 1809454098577, 1810337405488, 1810558380454, 1810613633468, 1810627447301, 1810630900795, 1810631764171, 1810631980015, 1810632033977, 1810632047467, 1810632050839, 1810632051682, 1810632051893, 1810632051946, 1810632051959, 1810632051962, 1810632051963, 1810632051963, 1810632051964, 1810632051964, 1810632051964, 1810632051964]
def H (i : Nat) : Int := tabH.getD i 0
def PP : Int := 1267650600228229401496703205376
def one : Int × Int × Int := (1267650600228229401496510131148, 22124676738864985353, 2)
def okAt (i : Nat) : Bool :=
  let x := apx PP one 37 (T i).toNat
  let p : Int := 2 ^ i
  let a := p * H i * PP - p * H (i + 1) * x.1
  let b := H i * PP - p * H (i + 1) * x.2.1
  let e := p * 16 * PP - p * H (i + 1) * x.2.2
  decide (0 ≤ e) && decide (a * a + b * b ≤ e * e) && decide (0 ≤ T i) && decide (T i ≤ 45000000000) && decide (0 ≤ H (i + 1))
theorem ok_all : (List.range 26).all okAt = true := by decide +kernel
theorem ok_quarter : (let x := apx PP one 37 90000000000
    let a := 18446744073709551616 * x.1
    let b := 18446744073709551616 * (x.2.1 - PP)
    let e := 16 * PP - 18446744073709551616 * x.2.2
    decide (0 ≤ e) && decide (a * a + b * b ≤ e * e)) = true := by decide +kernel
theorem ok_one : (let a := 18446744073709551616 * (one.1 - PP)
    let b := 18446744073709551616 * one.2.1
    let e := 321956421 * PP - 18446744073709551616 * one.2.2
    decide (0 ≤ e) && decide (a * a + b * b ≤ e * e)) = true := by decide +kernel
structure Turn (S : Int) (C Z : Int → Int) : Prop where
  rot : Rot S C Z
  step : nm (18446744073709551616 * (C 1 - S)) (18446744073709551616 * Z 1) (321956421 * S)
  quarter : nm (18446744073709551616 * C 90000000000) (18446744073709551616 * (Z 90000000000 - S)) (16 * S)
  at_ : ∀ i : Nat, i < 26 → nm (2 ^ i * H i * S - 2 ^ i * H (i + 1) * C (T i)) (H i * S - 2 ^ i * H (i + 1) * Z (T i)) (2 ^ i * 16 * S)
theorem bd_T (i : Nat) (h : i < 26) : 0 ≤ T i ∧ T i ≤ 45000000000 := by
  have := List.all_eq_true.1 ok_all i (List.mem_range.2 h)
  simp only [okAt, Bool.and_eq_true, decide_eq_true_eq] at this
  exact ⟨this.1.1.2, this.1.2⟩
theorem from_ap {P S L a b A B x y e E : Int} (hP : 0 < P) (hS : 0 < S) (hL : 0 ≤ L) (he : 0 ≤ e) (h : nm (P * x - S * a) (P * y - S * b) (S * e))
    (h0 : 0 ≤ E * P - L * e) (hq : (A * P - L * a) * (A * P - L * a) + (B * P - L * b) * (B * P - L * b) ≤ (E * P - L * e) * (E * P - L * e)) :
    nm (A * S - L * x) (B * S - L * y) (E * S) := by
  have k1 : nm (A * P - L * a) (B * P - L * b) (E * P - L * e) := ⟨h0, hq⟩
  have k2 := nm_sub (nm_scale (Int.le_of_lt hS) k1) (nm_scale hL h)
  refine nm_cancel hP (nm_congr k2 ?_ ?_ ?_)
  all_goals
    simp only [Int.mul_add, Int.add_mul, Int.sub_mul, Int.mul_sub, Int.mul_assoc, Int.mul_comm, Int.mul_left_comm]
    omega
theorem turn_of_rot {S : Int} {C Z : Int → Int} (h : Rot S C Z) (h1 : nm (PP * C 1 - S * one.1) (PP * Z 1 - S * one.2.1) (S * one.2.2)) : Turn S C Z := by
  have hP : 0 < PP := by decide
  have A1 : Ap PP S C Z 1 one := ⟨by decide, h1⟩
  refine ⟨h, ?_, ?_, ?_⟩
  · have k := ok_one
    simp only [Bool.and_eq_true, decide_eq_true_eq] at k
    have := nm_neg (from_ap (A := 18446744073709551616) (B := 0) (L := 18446744073709551616) (E := 321956421) hP h.pos (by decide) A1.1 h1 k.1 (by
      have e := k.2
      rw [← Int.neg_mul_neg (18446744073709551616 * (one.1 - PP)), ← Int.neg_mul_neg (18446744073709551616 * one.2.1)] at e
      rwa [show 18446744073709551616 * PP - 18446744073709551616 * one.1 = -(18446744073709551616 * (one.1 - PP)) by omega, show 0 * PP - 18446744073709551616 * one.2.1 = -(18446744073709551616 * one.2.1) by omega]))
    exact nm_congr this (by omega) (by omega) rfl
  · have k := ok_quarter
    simp only [Bool.and_eq_true, decide_eq_true_eq] at k
    have a := ap_apx h hP A1 37 90000000000 (by decide) (by decide)
    rw [show ((90000000000 : Nat) : Int) = 90000000000 from rfl] at a
    generalize apx PP one 37 90000000000 = x at *
    have := nm_neg (from_ap (A := 0) (B := 18446744073709551616) (L := 18446744073709551616) (E := 16) hP h.pos (by decide) a.1 a.2 k.1 (by
      have e := k.2
      rw [← Int.neg_mul_neg (18446744073709551616 * x.1), ← Int.neg_mul_neg (18446744073709551616 * (x.2.1 - PP))] at e
      rwa [show 18446744073709551616 * PP - 18446744073709551616 * x.2.1 = -(18446744073709551616 * (x.2.1 - PP)) by omega, show 0 * PP - 18446744073709551616 * x.1 = -(18446744073709551616 * x.1) by omega]))
    exact nm_congr this (by omega) (by omega) rfl
  · intro i hi
    have k := List.all_eq_true.1 ok_all i (List.mem_range.2 hi)
    have hT := bd_T i hi
    have pp : (0 : Int) ≤ 2 ^ i := Int.le_of_lt (Int.pow_pos (by decide))
    simp only [okAt, Bool.and_eq_true, decide_eq_true_eq] at k
    have a := ap_apx h hP A1 37 (T i).toNat (by omega) (by omega)
    rw [Int.toNat_of_nonneg hT.1] at a
    generalize apx PP one 37 (T i).toNat = x at *
    exact from_ap hP h.pos (Int.mul_nonneg pp k.2) a.1 a.2 k.1.1.1.1 k.1.1.1.2
theorem exists_turn : ∃ (S : Int) (C Z : Int → Int), Turn S C Z := by
  obtain ⟨M, hM, hM1⟩ : ∃ M : Nat, 100000000000000 ≤ M ∧ 1 ≤ M := ⟨_, Nat.le_refl _, by decide⟩
  obtain ⟨w, hw⟩ : ∃ w : Cx, w = ⟨1298074214633706907132624082305024, 11327834490298872501158⟩ := ⟨_, rfl⟩
  have hr : 0 < w.re := by rw [hw]; decide
  have h := rot_of w hr M hM
  refine ⟨_, _, _, turn_of_rot h ?_⟩
  have hD := dd_pos w hr
  -- one unit is the square of the number
  have e : U w M 1 = sm ((w.re * w.re + w.im * w.im) ^ (M - 1)) (mul w w) := by
    have e1 : pw w ((M : Int) + 1).toNat = mul (pw w (M - 1)) (mul w w) := by
      rw [show ((M : Int) + 1).toNat = M - 1 + 2 by omega, pw_add]
      congr 1
      simp only [pw, one_mul]
    have e2 : pw w ((M : Int) - 1).toNat = pw w (M - 1) := by rw [show ((M : Int) - 1).toNat = M - 1 by omega]
    unfold U
    rw [e1, e2, mul_comm (pw w (M - 1)), mul_assoc, pw_cj, mul_comm, real_mul]
  have eS : (w.re * w.re + w.im * w.im) ^ M = (w.re * w.re + w.im * w.im) ^ (M - 1) * (w.re * w.re + w.im * w.im) := by
    have k := Int.pow_succ (w.re * w.re + w.im * w.im) (M - 1)
    rwa [show (M - 1).succ = M by omega] at k
  have p0 : 0 ≤ (w.re * w.re + w.im * w.im) ^ (M - 1) := Int.le_of_lt (Int.pow_pos hD)
  show nm (PP * (U w M 1).re - _) (PP * (U w M 1).im - _) _
  rw [e, eS]
  generalize (w.re * w.re + w.im * w.im) ^ (M - 1) = R at *
  have fin : nm (PP * (w.re * w.re - w.im * w.im) - (w.re * w.re + w.im * w.im) * one.1) (PP * (w.re * w.im + w.im * w.re) - (w.re * w.re + w.im * w.im) * one.2.1) ((w.re * w.re + w.im * w.im) * one.2.2) := by
    rw [hw]
    unfold nm
    decide +kernel
  refine nm_congr (nm_scale p0 fin) ?_ ?_ ?_
  all_goals
    simp only [sm, mul, Int.mul_add, Int.add_mul, Int.sub_mul, Int.mul_sub, Int.mul_assoc, Int.mul_comm, Int.mul_left_comm]
  all_goals omega
end Go.Proofs.YtciglhecjkeogaaGreatDoor.Cm

