import Derived.Test.YthfcimfoinidbaaDoorZd0
import Derived.Test.YthfcimfoinidbaaDoorZd2
import Derived.Test.YthfcimfoinidbaaDoorZd3
import Derived.Test.YthfcimfoinidbaaDoorCards
import Derived.Test.YthfcimfoinidbaaDoorTie
import Derived.ProofKit
import Derived.OpenShut
import Derived.Deep.DeepHandedRow
import Derived.Lib.LaidTab
import Derived.Stop.LaidErr
import Derived.Carry
import Derived.ChangeMaps5
import Derived.OneCell
import Derived.IntWalk
import Derived.Deep.QuietTactic
import Derived.BigQuiet
import Derived.Outline
set_option linter.unusedVariables false
set_option linter.unusedSimpArgs false
namespace Go.Proofs.YthfcimfoinidbaaDoor
open Go.ChangeShapes Go.WideShapes Go.ChangeAt Go.RowKit
theorem i64_of_wf {a : Int} (h : (Lit.int .i64 a).wf = true) : -9223372036854775808 ≤ a ∧ a ≤ 9223372036854775807 := by
  simp [Lit.wf, IntKind.min, IntKind.max, IntKind.signed, IntKind.bits] at h
  omega
theorem ownS : ownKnob Tryd.prog.godebug = none := by kernel_rfl
theorem gNames : Tryd.prog.globalNamed "cnc/lex.names" = some 1 := by kernel_rfl
theorem gNamesType : (Tryd.prog.globals[1]?).map (·.type) = some 96 := by kernel_rfl
theorem gNamesCells : Tryd.prog.cellsOf 96 = 24 := by kernel_rfl
theorem gStrCells : Tryd.prog.cellsOf 9 = 1 := by kernel_rfl
def strData (ls : List (List UInt8)) : DataW Unit := .agg (ls.map fun l => .lit (.string l))
theorem strData_names : (Rows.laid_cnc_lex_names : DataW Unit) = strData Lx.nms := by kernel_rfl
theorem texts_of {w : World} {sp : Nat → Bool} {held : Bool} {enc : TypeId × Value → Unit} {base fuel : Nat} {cs : List Value} {p : List MemPlace}
    (h : DataW.trod enc Tryd.prog w base sp held fuel 96 cs = some (strData Lx.nms, p)) (i : Nat) (hi : i < 24) : cs[i]? = some (.string (nb i)) := by
  cases fuel with
  | zero => simp [DataW.trod] at h
  | succ f =>
    simp only [DataW.trod, Tryd.underlying96, gStrCells, gNamesCells, Nat.mul_one] at h
    split at h
    · obtain ⟨xs, hm, hx⟩ := Option.map_eq_some_iff.1 h
      obtain ⟨y, hy, hf⟩ := Lib.mapM_at hm i i (by simp [hi])
      obtain ⟨s, hc, hs, _⟩ := DataW.trod_string Tryd.underlying9 hf
      have c0 : cs[i]? = some (.string s) := by
        have := congrArg (fun l => l[0]?) hc
        simpa [List.getElem?_take, List.getElem?_drop] using this
      have d0 : xs.map (·.1) = Lx.nms.map fun l => (DataW.lit (.string l) : DataW Unit) := by
        have := congrArg Prod.fst hx
        simpa [strData] using this
      have e0 : (xs.map (·.1))[i]? = some (DataW.lit (.string s.data.toList)) := by rw [List.getElem?_map, hy, hs]; rfl
      rw [d0, List.getElem?_map, List.getElem?_eq_getElem (by rw [Lx.nms_length]; exact hi)] at e0
      simp only [Option.map_some, Option.some.injEq, DataW.lit.injEq, Lit.string.injEq] at e0
      rw [c0]
      unfold nb Lx.nm
      rw [List.getD_eq_getElem?_getD, List.getElem?_eq_getElem (by rw [Lx.nms_length]; exact hi)]
      simp only [Option.getD_some, e0, bs_of]
    · cases h
theorem gPow : Tryd.prog.globalNamed "internal/strconv.uint64pow10" = some 3 := by kernel_rfl
theorem gPowType : (Tryd.prog.globals[3]?).map (·.type) = some 118 := by kernel_rfl
theorem gPowCells : Tryd.prog.cellsOf 118 = 20 := by kernel_rfl
theorem gU64Cells : Tryd.prog.cellsOf 103 = 1 := by kernel_rfl
theorem tabData_pow : (Rows.laid_internal_strconv_uint64pow10 : DataW Unit) = Lib.tabData .u64 Lib.pow10Tab := by kernel_rfl
theorem gOps : Tryd.prog.globalNamed "cnc/syntax.operators" = some 0 := by kernel_rfl
theorem gOpsType : (Tryd.prog.globals[0]?).map (·.type) = some 92 := by kernel_rfl
theorem gOpsCells : Tryd.prog.cellsOf 92 = 52 := by kernel_rfl
theorem gOpCells : Tryd.prog.cellsOf 91 = 2 := by kernel_rfl
theorem gIntCells : Tryd.prog.cellsOf 3 = 1 := by kernel_rfl
def opsData (ls : List (List UInt8 × Int)) : DataW Unit := .agg (ls.map fun l => .agg [.lit (.string l.1), .lit (.int .i64 l.2)])
def opsL : List (List UInt8 × Int) := (List.range 26).map fun j => (Sy.onm j, (Sy.kds j : Int))
theorem opsData_laid : (Rows.laid_cnc_syntax_operators : DataW Unit) = opsData opsL := by kernel_rfl
theorem opsL_get (i : Nat) (h : i < 26) : opsL[i]? = some (Sy.onm i, (Sy.kds i : Int)) := by
  unfold opsL; rw [List.getElem?_map, List.getElem?_range h]; rfl
set_option maxRecDepth 100000 in
theorem ops_of {w : World} {sp : Nat → Bool} {held : Bool} {enc : TypeId × Value → Unit} {base fuel : Nat} {cs : List Value} {p : List MemPlace}
    (h : DataW.trod enc Tryd.prog w base sp held fuel 92 cs = some (opsData opsL, p)) (i : Nat) (hi : i < 26) : cs[i * 2]? = some (.string (bs (Sy.onm i))) ∧ cs[i * 2 + 1]? = some (.int .i64 (Sy.kds i : Nat)) := by
  cases fuel with
  | zero => simp [DataW.trod] at h
  | succ f =>
    simp only [DataW.trod, Tryd.underlying92, gOpCells, gOpsCells] at h
    split at h
    · obtain ⟨xs, hm, hx⟩ := Option.map_eq_some_iff.1 h
      obtain ⟨y, hy, hf⟩ := Lib.mapM_at hm i i (by simp [hi])
      obtain ⟨zs, n, rfl, rfl, hl, hz, hg⟩ := DataW.trod_struct Tryd.underlying91 hf
      have d0 : xs.map (·.1) = opsL.map fun l => (DataW.agg [.lit (.string l.1), .lit (.int .i64 l.2)] : DataW Unit) := by
        have := congrArg Prod.fst hx
        simpa [opsData] using this
      have e0 : (xs.map (·.1))[i]? = some (DataW.agg (zs.map (·.1))) := by rw [List.getElem?_map, hy]; rfl
      rw [d0, List.getElem?_map, opsL_get i hi] at e0
      simp only [Option.map_some, Option.some.injEq, DataW.agg.injEq] at e0
      have g0 := hg 0 _ rfl
      have g1 := hg 1 _ rfl
      match zs, e0, g0, g1 with
      | [z0, z1], e0, g0, g1 =>
        simp only [List.map_cons, List.map_nil, List.cons.injEq, and_true] at e0
        simp only [List.getElem?_cons_zero, List.getElem?_cons_succ, gStrCells, gIntCells] at g0 g1
        obtain ⟨s, hc, hs, _⟩ := DataW.trod_string Tryd.underlying9 g0
        obtain ⟨m, hc1, hs1, _⟩ := DataW.trod_int Tryd.underlying3 g1
        subst hs hs1
        obtain ⟨k0, k1⟩ := e0
        simp only [DataW.lit.injEq, Lit.string.injEq, Lit.int.injEq, true_and] at k0 k1
        have c0 := congrArg (fun l => l[0]?) hc
        have c1 := congrArg (fun l => l[0]?) hc1
        simp [List.getElem?_take, List.getElem?_drop] at c0 c1
        refine ⟨?_, ?_⟩
        · rw [c0.2, k0]; simp only [bs_of]
        · rw [c1.2, ← k1]
    · cases h
def tabsS : List (String × DataW Unit) := [("math/bits.deBruijn32tab", Rows.laid_math_bits_deBruijn32tab), ("math/bits.deBruijn64tab", Rows.laid_math_bits_deBruijn64tab), ("internal/strconv.uint64pow10", Rows.laid_internal_strconv_uint64pow10), ("cnc/lex.names", Rows.laid_cnc_lex_names), ("cnc/syntax.operators", Rows.laid_cnc_syntax_operators)]
theorem laidNames {W : World} {rest : List (String × DataW Unit)} (h1 : laidMet Tryd.prog (("cnc/lex.names", strData Lx.nms) :: rest) W) : Tn W := by
  obtain ⟨ps, ⟨g, t, cs, fuel, p, q, hg, ht, hvar, hd, _, _⟩, _⟩ := h1
  obtain rfl := Option.some.inj (gNames.symm.trans hg)
  obtain rfl := Option.some.inj (gNamesType.symm.trans ht)
  have cells : ∀ j, j < 24 → W.cell? ⟨1, j, none⟩ = some (.string (nb j)) := by
    intro j hj
    have c := World.var?_cell gNames hvar j
    have t := texts_of hd j hj
    rw [c]
    simpa using t
  refine ⟨?_, cells⟩
  have c := cells 0 (by decide)
  rcases Nat.lt_or_ge 1 W.heap.size with h | h
  · exact h
  · simp [World.cell?, Array.getElem?_eq_none h] at c
theorem laidOps {W : World} {rest : List (String × DataW Unit)} (h1 : laidMet Tryd.prog (("cnc/syntax.operators", opsData opsL) :: rest) W) : Ow W := by
  obtain ⟨ps, ⟨g, t, cs, fuel, p, q, hg, ht, hvar, hd, _, _⟩, _⟩ := h1
  obtain rfl := Option.some.inj (gOps.symm.trans hg)
  obtain rfl := Option.some.inj (gOpsType.symm.trans ht)
  have cells : ∀ j, j < 26 → W.cell? ⟨0, j * 2, none⟩ = some (.string (bs (Sy.onm j))) ∧ W.cell? ⟨0, j * 2 + 1, none⟩ = some (.int .i64 (Sy.kds j : Nat)) := by
    intro j hj
    have c0 := World.var?_cell gOps hvar (j * 2)
    have c1 := World.var?_cell gOps hvar (j * 2 + 1)
    obtain ⟨t0, t1⟩ := ops_of hd j hj
    rw [c0, c1]
    exact ⟨by simpa using t0, by simpa using t1⟩
  refine ⟨?_, cells⟩
  have c := (cells 0 (by decide)).1
  rcases Nat.lt_or_ge 0 W.heap.size with h | h
  · exact h
  · simp [World.cell?, Array.getElem?_eq_none h] at c
theorem tableS {W : World} (h : laidMetH Tryd.prog tabsS W) : Tb W ∧ Tn W ∧ Ow W := by
  have h1 : laidMet Tryd.prog tabsS W := h
  unfold tabsS at h1
  rw [strData_names, opsData_laid, tabData_pow] at h1
  have h3 := h1.tail.tail
  exact ⟨Lib.tabBelow_of_tabIs (Lib.tabIs_of_head gPow gPowType Tryd.underlying118 Tryd.underlying103 gU64Cells gPowCells h3), laidNames h3.tail, laidOps h3.tail.tail⟩
def cellsLit : DataW Unit → Value
  | .lit (.string b) => .string ⟨b.toArray⟩
  | .lit (.int k n) => .int k n
  | _ => .bool false
def cellsS : DataW Unit → Array Value
  | .agg l => (l.flatMap fun x => match x with
    | .agg m => m.map cellsLit
    | y => [cellsLit y]).toArray
  | _ => #[]
noncomputable def laidWorldS (os : Os) : World :=
  let h0 := (World.holding Tryd.prog os ⟨#[], #[], []⟩).heap
  let put (x : DataW Unit) (o : Obj) : Obj := match o with
    | .cells _ t frozen => .cells (cellsS x) t frozen
    | o => o
  let h1 := h0.modify 4 (put Rows.laid_math_bits_deBruijn32tab)
  let h2 := h1.modify 5 (put Rows.laid_math_bits_deBruijn64tab)
  let h3 := h2.modify 3 (put Rows.laid_internal_strconv_uint64pow10)
  let h4 := h3.modify 1 (put Rows.laid_cnc_lex_names)
  let h5 := h4.modify 0 (put Rows.laid_cnc_syntax_operators)
  { World.holding Tryd.prog os ⟨#[], #[], []⟩ with heap := h5 }
theorem laid_metS (os : Os) (args : Array Value) : laidMet Tryd.prog tabsS ((laidWorldS os).forCall (fun _ _ => 0) ⟨#[], args, []⟩).memory :=
  laidMet_of_run' 8 (by kernel_rfl) (by kernel_rfl)
end Go.Proofs.YthfcimfoinidbaaDoor
set_option linter.unusedVariables false
set_option linter.unusedSimpArgs false
namespace Go.Proofs.YthfcimfoinidbaaDoor
open Go.RowKit
inductive KidsB (w : World) (S : Nat → Prop) : Option Addr → Nat → List Sy.Ex → Prop where
  | nl (a : Option Addr) (cap : Nat) (h : cap ≤ 9223372036854775807) : KidsB w S a cap []
  | mk (b off cap : Nat) (ks : List Sy.Ex) (ad : Nat → Option Addr) (cc : Nat → Nat) (hS : S b) (h1 : ks.length ≤ cap) (h2 : cap ≤ 9223372036854775807)
    (hc : ∀ i (h : i < ks.length), w.cell? ⟨b, off + i * 3, none⟩ = some (.int .i64 ks[i].op) ∧ w.cell? ⟨b, off + i * 3 + 1, none⟩ = some (.int .i64 ks[i].n) ∧ w.cell? ⟨b, off + i * 3 + 2, none⟩ = some (.slice (ad i) ks[i].ks.length (cc i)))
    (hk : ∀ i (h : i < ks.length), KidsB w S (ad i) (cc i) ks[i].ks) : KidsB w S (some ⟨b, off, none⟩) cap ks
theorem KidsB.cap {w : World} {S : Nat → Prop} {a : Option Addr} {cap : Nat} {ks : List Sy.Ex} (h : KidsB w S a cap ks) : ks.length ≤ cap ∧ cap ≤ 9223372036854775807 := by
  cases h with
  | nl a cap h => exact ⟨Nat.zero_le _, h⟩
  | mk b off cap ks ad cc hS h1 h2 hc hk => exact ⟨h1, h2⟩
theorem cell_lt {w : World} {b o : Nat} {v : Value} (h : w.cell? ⟨b, o, none⟩ = some v) : b < w.heap.size := by
  rcases Nat.lt_or_ge b w.heap.size with g | g
  · exact g
  · simp [World.cell?, Array.getElem?_eq_none g] at h
theorem KidsB.go {w w' : World} {S T : Nat → Prop} (hb : ∀ b, S b → b < w.heap.size → w'.heap[b]? = w.heap[b]? ∧ T b) {a : Option Addr} {cap : Nat} {ks : List Sy.Ex} (h : KidsB w S a cap ks) : KidsB w' T a cap ks := by
  induction h with
  | nl a cap h => exact .nl a cap h
  | mk b off cap ks ad cc hS h1 h2 hc hk ih =>
    by_cases h0 : ks = []
    · subst h0; exact .nl _ _ h2
    have g := cell_lt (hc 0 (by cases ks with | nil => exact absurd rfl h0 | cons _ _ => simp)).1
    refine .mk b off cap ks ad cc (hb b hS g).2 h1 h2 (fun i hi => ?_) ih
    have k : ∀ o, w'.cell? ⟨b, o, none⟩ = w.cell? ⟨b, o, none⟩ := fun o => World.cell?_of_block (w := w) (hb b hS g).1
    rw [k, k, k]
    exact hc i hi
theorem KidsB.kept {w w' : World} {S : Nat → Prop} {a : Option Addr} {cap : Nat} {ks : List Sy.Ex} (h : KidsB w S a cap ks) (q : Qw w w') : KidsB w' S a cap ks := h.go fun b hS hb => ⟨q.block b hb, hS⟩
theorem KidsB.px {w w' : World} {P : Nat} {S : Nat → Prop} {a : Option Addr} {cap : Nat} {ks : List Sy.Ex} (h : KidsB w S a cap ks) (hS : ∀ b, S b → b ≠ P) (q : Px P w w') : KidsB w' S a cap ks := h.go fun b h hb => ⟨q.block b hb (hS b h), h⟩
theorem KidsB.mono {w : World} {S T : Nat → Prop} {a : Option Addr} {cap : Nat} {ks : List Sy.Ex} (h : KidsB w S a cap ks) (hT : ∀ b, S b → T b) : KidsB w T a cap ks := h.go fun b hS _ => ⟨rfl, hT b hS⟩
theorem KidsB.set {w : World} {S : Nat → Prop} {a : Option Addr} {cap : Nat} {ks : List Sy.Ex} (h : KidsB w S a cap ks) {p : Addr} (hp : ¬ S p.block) (u : Value) : KidsB (w.setCell p u) S a cap ks :=
  h.go fun b hS hb => ⟨Below.heap_setCell _ _ _ _ (fun e => hp (e ▸ hS)), hS⟩
theorem KidsB.one {w : World} {S : Nat → Prop} {G : Nat} {x : Sy.Ex} {t : TypeId} {ka : Option Addr} {kc : Nat} (X : Bx w G #[.int .i64 x.op, .int .i64 x.n, .slice ka x.ks.length kc] t) (hS : S G) (h : KidsB w S ka kc x.ks) : KidsB w S (some ⟨G, 0, none⟩) 1 [x] := by
  refine .mk G 0 1 [x] (fun _ => ka) (fun _ => kc) hS (Nat.le_refl _) (by decide) (fun i hi => ?_) (fun i hi => ?_)
  · obtain rfl : i = 0 := by simp at hi; exact hi
    exact ⟨X.cell' 0 _ rfl, X.cell' 1 _ rfl, X.cell' 2 _ rfl⟩
  · obtain rfl : i = 0 := by simp at hi; exact hi
    exact h
theorem KidsB.two {w : World} {S : Nat → Prop} {G : Nat} {x y : Sy.Ex} {t : TypeId} {ka kb : Option Addr} {kc kd : Nat} (X : Bx w G #[.int .i64 x.op, .int .i64 x.n, .slice ka x.ks.length kc, .int .i64 y.op, .int .i64 y.n, .slice kb y.ks.length kd] t) (hS : S G)
    (h : KidsB w S ka kc x.ks) (h' : KidsB w S kb kd y.ks) : KidsB w S (some ⟨G, 0, none⟩) 2 [x, y] := by
  refine .mk G 0 2 [x, y] (fun i => if i = 0 then ka else kb) (fun i => if i = 0 then kc else kd) hS (Nat.le_refl _) (by decide) (fun i hi => ?_) (fun i hi => ?_)
  · have : i = 0 ∨ i = 1 := by simp at hi; omega
    rcases this with rfl | rfl
    · exact ⟨X.cell' 0 _ rfl, X.cell' 1 _ rfl, X.cell' 2 _ rfl⟩
    · exact ⟨X.cell' 3 _ rfl, X.cell' 4 _ rfl, X.cell' 5 _ rfl⟩
  · have : i = 0 ∨ i = 1 := by simp at hi; omega
    rcases this with rfl | rfl
    · exact h
    · exact h'
def POk (P : Nat) (a : Option Addr) (cap : Nat) (ts : List Lx.Tok) (len : Nat) (w : World) (x : Sy.Ex) (j : Nat) (e : Ending) (w' : World) : Prop :=
  ∃ ka kc, e = .returned (.agg #[.int .i64 x.op, .int .i64 x.n, .slice ka x.ks.length kc]) ∧ KidsB w' (fun b => w.heap.size ≤ b) ka kc x.ks ∧ Par w' P a cap ts len j ∧ Px P w w'
def PBad (P : Nat) (ts : List Lx.Tok) (len : Nat) (w : World) (j : Nat) (e : Ending) (w' : World) : Prop := e = .panicked (failP (Sy.tp ts len j) 2) ∧ Px P w w'
def PR (P : Nat) (a : Option Addr) (cap : Nat) (ts : List Lx.Tok) (len : Nat) (w : World) (r : Sy.Rs Sy.Ex) (e : Ending) (w' : World) : Prop := match r with
  | .ok x j => POk P a cap ts len w x j e w'
  | .bad j => PBad P ts len w j e w'
theorem syCounts (n : Int) (m : Nat) (w : World) : Calls Tryd.prog 24 #[.int .i64 n, .int .i64 (m : Int)] w fun e w' => e = .returned (.bool (Sy.cnt n m)) ∧ w = w' := by
  have main : ∀ b, Sy.cnt n m = b → Calls Tryd.prog 24 #[.int .i64 n, .int .i64 (m : Int)] w fun e w' => e = .returned (.bool b) ∧ w = w' := by
    intro b hb
    unfold Sy.cnt at hb
    by_cases h1 : 1 ≤ n
    · by_cases h2 : n ≤ (m : Int)
      · obtain rfl : b = true := by rw [← hb]; simp [h1, h2]
        clear hb
        go_enter Tryd.func24, Tryd.ntmps24
        go_wp2
        go_ret
        exact ⟨rfl, rfl⟩
      · obtain rfl : b = false := by rw [← hb]; simp [h2]
        clear hb
        have h3 : (m : Int) < n := by omega
        go_enter Tryd.func24, Tryd.ntmps24
        go_wp2
        go_ret
        exact ⟨rfl, rfl⟩
    · obtain rfl : b = false := by rw [← hb]; simp [h1]
      clear hb
      go_enter Tryd.func24, Tryd.ntmps24
      go_wp2
      go_ret
      exact ⟨rfl, rfl⟩
  exact main _ rfl
theorem syIsWord (n : Int) (w : World) : Calls Tryd.prog 45 #[.int .i64 n] w fun e w' => e = .returned (.bool (Sy.isw n)) ∧ w = w' := by
  have main : ∀ b, Sy.isw n = b → Calls Tryd.prog 45 #[.int .i64 n] w fun e w' => e = .returned (.bool b) ∧ w = w' := by
    intro b hb
    unfold Sy.isw at hb
    by_cases h1 : 65 ≤ n
    · by_cases h2 : n ≤ 90
      · by_cases h3 : n = 78
        · obtain rfl : b = false := by rw [← hb]; simp [h3]
          subst h3
          clear hb
          go_enter Tryd.func45, Tryd.ntmps45
          go_wp2
          go_ret
          exact ⟨rfl, rfl⟩
        · by_cases h4 : n = 79
          · obtain rfl : b = false := by rw [← hb]; simp [h4]
            subst h4
            clear hb
            go_enter Tryd.func45, Tryd.ntmps45
            go_wp2
            go_ret
            exact ⟨rfl, rfl⟩
          · obtain rfl : b = true := by rw [← hb]; simp [h1, h2, h3, h4]
            have b3 : (n != 78) = true := by simpa using h3
            have b4 : (n != 79) = true := by simpa using h4
            clear hb
            go_enter Tryd.func45, Tryd.ntmps45
            go_wp2
            go_ret
            exact ⟨rfl, rfl⟩
      · obtain rfl : b = false := by rw [← hb]; simp [h2]
        clear hb
        go_enter Tryd.func45, Tryd.ntmps45
        go_wp2
        go_ret
        exact ⟨rfl, rfl⟩
    · obtain rfl : b = false := by rw [← hb]; simp [h1]
      clear hb
      go_enter Tryd.func45, Tryd.ntmps45
      go_wp2
      go_ret
      exact ⟨rfl, rfl⟩
  exact main _ rfl
theorem syLetterY {w : World} {P : Nat} {a : Option Addr} {cap : Nat} {ts : List Lx.Tok} {len i : Nat} (h : Par w P a cap ts len i) (c : Int) (hk : Sy.kd ts i = 1) (hn : Sy.tn ts i = c) :
    Calls Tryd.prog 32 #[.pointer (some ⟨P, 0, none⟩), .int .i64 c] w fun e w' => e = .returned (.bool true) ∧ Par w' P a cap ts len (i + 1) ∧ Px P w w' := by
  have hi := Sy.kd_lt hk (by decide)
  have hl := h.hl
  have H := Lib.hid h
  have e1 : Hid (((i + 1 : Nat) : Int) = (i : Int) + 1) := Lib.hid (by omega)
  have hv : tokV ts len i = .agg #[.int .i64 1, .int .i64 c, .int .i64 (Sy.tp ts len i : Nat), .string (bs (Sy.tx ts i))] := by unfold tokV; rw [hk, hn]
  replace hv := Lib.hid hv
  clear h hk hn
  have q0 : Hid (Qw w w) := Lib.hid (Qw.refl w)
  go_enter Tryd.func32, Tryd.ntmps32
  go_wp2_with (go_at_call 51; ((with_reducible refine (syNext (H.out.kept (by repeat (first | exact q0.out | exact Qw.refl _ | refine Qw.al ?_ _ | refine Qw.dr ?_ | refine Qw.dn ?_ _ | refine Qw.sc ?_ (by first | (simp; done) | omega | (have := q0.out.size; first | omega | (simp; omega))) _)))).mono ?_); rintro e w' ⟨rfl, q⟩; rw [hv.out]; have p1 : w'.cell? ⟨P, 1, none⟩ = some (.int .i64 (i : Int)) := (H.out.kept q).bx.cell' 1 _ rfl; have p2 := (H.out.kept q).bx.free 1; have pl := (H.out.kept q).bx.lt; replace q0 : Hid (Qw w w') := Lib.hid (Qw.trans (by repeat (first | exact q0.out | exact Qw.refl _ | refine Qw.al ?_ _ | refine Qw.dr ?_ | refine Qw.dn ?_ _ | refine Qw.sc ?_ (by first | (simp; done) | omega | (have := q0.out.size; first | omega | (simp; omega))) _)) q); clear q))
  go_ret
  refine ⟨rfl, Par.kept (w := w'.setCell ⟨P, 1, none⟩ (.int .i64 ((i : Int) + 1))) ?_ ((Below.refl _ _).alloc (Nat.le_refl _) _), (by repeat (first | exact q0.out | exact Px.of q0.out | exact Px.refl _ _ | refine Px.setP ?_ _ _ | refine Px.alloc ?_ _ | refine Px.drewN ?_ _ | refine Px.drew ?_ | refine Px.setNew ?_ (by first | (simp; done) | omega | (have := q0.out.size; first | omega | (simp; omega))) _))⟩
  have := ((H.out.kept q0.out).set (i + 1) hi)
  rw [e1.out] at this; exact this
theorem syLetterN {w : World} {P : Nat} {a : Option Addr} {cap : Nat} {ts : List Lx.Tok} {len i : Nat} (h : Par w P a cap ts len i) (c : Int) (hk : Sy.kd ts i ≠ 1 ∨ Sy.tn ts i ≠ c) :
    Calls Tryd.prog 32 #[.pointer (some ⟨P, 0, none⟩), .int .i64 c] w fun e w' => e = .returned (.bool false) ∧ Qw w w' := by
  have H := Lib.hid h
  have hv : Hid (tokV ts len i = .agg #[.int .i64 (Sy.kd ts i), .int .i64 (Sy.tn ts i), .int .i64 (Sy.tp ts len i : Nat), .string (bs (Sy.tx ts i))]) := Lib.hid rfl
  clear h
  have q0 : Hid (Qw w w) := Lib.hid (Qw.refl w)
  generalize Sy.kd ts i = k at *
  generalize Sy.tn ts i = n at *
  by_cases h1 : k = 1
  · have h2 : n ≠ c := by omega
    have b2 : (n != c) = true := by simpa using h2
    subst h1
    clear hk h2
    go_enter Tryd.func32, Tryd.ntmps32
    go_wp2_with (go_at_call 51; ((with_reducible refine (syNext (H.out.kept (by repeat (first | exact q0.out | exact Qw.refl _ | refine Qw.al ?_ _ | refine Qw.dr ?_ | refine Qw.dn ?_ _ | refine Qw.sc ?_ (by first | (simp; done) | omega | (have := q0.out.size; first | omega | (simp; omega))) _)))).mono ?_); rintro e w' ⟨rfl, q⟩; rw [hv.out]; replace q0 : Hid (Qw w w') := Lib.hid (Qw.trans (by repeat (first | exact q0.out | exact Qw.refl _ | refine Qw.al ?_ _ | refine Qw.dr ?_ | refine Qw.dn ?_ _ | refine Qw.sc ?_ (by first | (simp; done) | omega | (have := q0.out.size; first | omega | (simp; omega))) _)) q); clear q))
    go_ret
    exact ⟨rfl, (by repeat (first | exact q0.out | exact Qw.refl _ | refine Qw.al ?_ _ | refine Qw.dr ?_ | refine Qw.dn ?_ _ | refine Qw.sc ?_ (by first | (simp; done) | omega | (have := q0.out.size; first | omega | (simp; omega))) _))⟩
  · have b2 : (k != 1) = true := by simpa using h1
    clear hk h1
    go_enter Tryd.func32, Tryd.ntmps32
    go_wp2_with (go_at_call 51; ((with_reducible refine (syNext (H.out.kept (by repeat (first | exact q0.out | exact Qw.refl _ | refine Qw.al ?_ _ | refine Qw.dr ?_ | refine Qw.dn ?_ _ | refine Qw.sc ?_ (by first | (simp; done) | omega | (have := q0.out.size; first | omega | (simp; omega))) _)))).mono ?_); rintro e w' ⟨rfl, q⟩; rw [hv.out]; replace q0 : Hid (Qw w w') := Lib.hid (Qw.trans (by repeat (first | exact q0.out | exact Qw.refl _ | refine Qw.al ?_ _ | refine Qw.dr ?_ | refine Qw.dn ?_ _ | refine Qw.sc ?_ (by first | (simp; done) | omega | (have := q0.out.size; first | omega | (simp; omega))) _)) q); clear q))
    go_ret
    exact ⟨rfl, (by repeat (first | exact q0.out | exact Qw.refl _ | refine Qw.al ?_ _ | refine Qw.dr ?_ | refine Qw.dn ?_ _ | refine Qw.sc ?_ (by first | (simp; done) | omega | (have := q0.out.size; first | omega | (simp; omega))) _))⟩
theorem syWholeY {w : World} {P : Nat} {a : Option Addr} {cap : Nat} {ts : List Lx.Tok} {len i : Nat} (h : Par w P a cap ts len i) (m : Nat) (hk : Sy.kd ts i = 2) (ho : whole (Sy.tn ts i) = true) (hc : Sy.cnt (wholev (Sy.tn ts i)) m = true) :
    Calls Tryd.prog 52 #[.pointer (some ⟨P, 0, none⟩), .int .i64 (m : Int)] w fun e w' => e = .returned (.int .i64 (wholev (Sy.tn ts i))) ∧ Par w' P a cap ts len (i + 1) ∧ Px P w w' := by
  have hi := Sy.kd_lt hk (by decide)
  have hl := h.hl
  have H := Lib.hid h
  have e1 : Hid (((i + 1 : Nat) : Int) = (i : Int) + 1) := Lib.hid (by omega)
  have hv : tokV ts len i = .agg #[.int .i64 2, .int .i64 (Sy.tn ts i), .int .i64 (Sy.tp ts len i : Nat), .string (bs (Sy.tx ts i))] := by unfold tokV; rw [hk]
  replace hv := Lib.hid hv
  have fw := fun w => fxWhole (Sy.tn ts i) w
  rw [ho] at fw
  have fc := fun w => syCounts (wholev (Sy.tn ts i)) m w
  rw [hc] at fc
  generalize wholev (Sy.tn ts i) = V at *
  generalize Sy.tn ts i = n at *
  replace fw := Lib.hid fw
  replace fc := Lib.hid fc
  clear h hk ho hc
  have q0 : Hid (Qw w w) := Lib.hid (Qw.refl w)
  go_enter Tryd.func52, Tryd.ntmps52
  go_wp2_with (first | (go_at_call 51; ((with_reducible refine (syNext (H.out.kept (by repeat (first | exact q0.out | exact Qw.refl _ | refine Qw.al ?_ _ | refine Qw.dr ?_ | refine Qw.dn ?_ _ | refine Qw.sc ?_ (by first | (simp; done) | omega | (have := q0.out.size; first | omega | (simp; omega))) _)))).mono ?_); rintro e w' ⟨rfl, q⟩; rw [hv.out]; have p1 : w'.cell? ⟨P, 1, none⟩ = some (.int .i64 (i : Int)) := (H.out.kept q).bx.cell' 1 _ rfl; have p2 := (H.out.kept q).bx.free 1; have pl := (H.out.kept q).bx.lt; replace q0 : Hid (Qw w w') := Lib.hid (Qw.trans (by repeat (first | exact q0.out | exact Qw.refl _ | refine Qw.al ?_ _ | refine Qw.dr ?_ | refine Qw.dn ?_ _ | refine Qw.sc ?_ (by first | (simp; done) | omega | (have := q0.out.size; first | omega | (simp; omega))) _)) q); clear q)) | (go_at_call 67; ((with_reducible refine (fw.out _).mono ?_); rintro e w' ⟨rfl, rfl⟩)) | (go_at_call 24; ((with_reducible refine (fc.out _).mono ?_); rintro e w' ⟨rfl, rfl⟩)))
  go_ret
  refine ⟨rfl, Par.kept (w := w'.setCell ⟨P, 1, none⟩ (.int .i64 ((i : Int) + 1))) ?_ ((Below.refl _ _).alloc (Nat.le_refl _) _), (by repeat (first | exact q0.out | exact Px.of q0.out | exact Px.refl _ _ | refine Px.setP ?_ _ _ | refine Px.alloc ?_ _ | refine Px.drewN ?_ _ | refine Px.drew ?_ | refine Px.setNew ?_ (by first | (simp; done) | omega | (have := q0.out.size; first | omega | (simp; omega))) _))⟩
  have := ((H.out.kept q0.out).set (i + 1) hi)
  rw [e1.out] at this; exact this
theorem syWholeN {w : World} {P : Nat} {a : Option Addr} {cap : Nat} {ts : List Lx.Tok} {len i : Nat} (h : Par w P a cap ts len i) (m : Nat) (hk : Sy.kd ts i ≠ 2 ∨ whole (Sy.tn ts i) = false ∨ Sy.cnt (wholev (Sy.tn ts i)) m = false) :
    Calls Tryd.prog 52 #[.pointer (some ⟨P, 0, none⟩), .int .i64 (m : Int)] w fun e w' => e = .panicked (failP (Sy.tp ts len i) 2) ∧ Qw w w' := by
  have H := Lib.hid h
  have hv : Hid (tokV ts len i = .agg #[.int .i64 (Sy.kd ts i), .int .i64 (Sy.tn ts i), .int .i64 (Sy.tp ts len i : Nat), .string (bs (Sy.tx ts i))]) := Lib.hid rfl
  have fw := fun w => fxWhole (Sy.tn ts i) w
  have fc := fun w => syCounts (wholev (Sy.tn ts i)) m w
  clear h
  have q0 : Hid (Qw w w) := Lib.hid (Qw.refl w)
  generalize Sy.kd ts i = k at *
  by_cases h1 : k = 2
  · replace hk : whole (Sy.tn ts i) = false ∨ Sy.cnt (wholev (Sy.tn ts i)) m = false := hk.resolve_left (fun h => h h1)
    subst h1
    cases ho : whole (Sy.tn ts i)
    · rw [ho] at fw
      generalize wholev (Sy.tn ts i) = V at *
      generalize Sy.tn ts i = n at *
      replace fw := Lib.hid fw
      clear fc hk ho
      go_enter Tryd.func52, Tryd.ntmps52
      go_wp2_with (first | (go_at_call 51; ((with_reducible refine (syNext (H.out.kept (by repeat (first | exact q0.out | exact Qw.refl _ | refine Qw.al ?_ _ | refine Qw.dr ?_ | refine Qw.dn ?_ _ | refine Qw.sc ?_ (by first | (simp; done) | omega | (have := q0.out.size; first | omega | (simp; omega))) _)))).mono ?_); rintro e w' ⟨rfl, q⟩; rw [hv.out]; replace q0 : Hid (Qw w w') := Lib.hid (Qw.trans (by repeat (first | exact q0.out | exact Qw.refl _ | refine Qw.al ?_ _ | refine Qw.dr ?_ | refine Qw.dn ?_ _ | refine Qw.sc ?_ (by first | (simp; done) | omega | (have := q0.out.size; first | omega | (simp; omega))) _)) q); clear q)) | (go_at_call 67; ((with_reducible refine (fw.out _).mono ?_); rintro e w' ⟨rfl, rfl⟩)) | (go_at_call 35; ((with_reducible refine (syUnexpected (H.out.kept (by repeat (first | exact q0.out | exact Qw.refl _ | refine Qw.al ?_ _ | refine Qw.dr ?_ | refine Qw.dn ?_ _ | refine Qw.sc ?_ (by first | (simp; done) | omega | (have := q0.out.size; first | omega | (simp; omega))) _)))).mono ?_); rintro e w' ⟨rfl, q⟩; replace q0 : Hid (Qw w w') := Lib.hid (Qw.trans (by repeat (first | exact q0.out | exact Qw.refl _ | refine Qw.al ?_ _ | refine Qw.dr ?_ | refine Qw.dn ?_ _ | refine Qw.sc ?_ (by first | (simp; done) | omega | (have := q0.out.size; first | omega | (simp; omega))) _)) q); clear q)))
      exact ⟨rfl, rfl, q0.out⟩
    · have hc := hk.resolve_left (by rw [ho]; decide)
      rw [ho] at fw
      rw [hc] at fc
      generalize wholev (Sy.tn ts i) = V at *
      generalize Sy.tn ts i = n at *
      replace fw := Lib.hid fw
      replace fc := Lib.hid fc
      clear hk ho hc
      go_enter Tryd.func52, Tryd.ntmps52
      go_wp2_with (first | (go_at_call 51; ((with_reducible refine (syNext (H.out.kept (by repeat (first | exact q0.out | exact Qw.refl _ | refine Qw.al ?_ _ | refine Qw.dr ?_ | refine Qw.dn ?_ _ | refine Qw.sc ?_ (by first | (simp; done) | omega | (have := q0.out.size; first | omega | (simp; omega))) _)))).mono ?_); rintro e w' ⟨rfl, q⟩; rw [hv.out]; replace q0 : Hid (Qw w w') := Lib.hid (Qw.trans (by repeat (first | exact q0.out | exact Qw.refl _ | refine Qw.al ?_ _ | refine Qw.dr ?_ | refine Qw.dn ?_ _ | refine Qw.sc ?_ (by first | (simp; done) | omega | (have := q0.out.size; first | omega | (simp; omega))) _)) q); clear q)) | (go_at_call 67; ((with_reducible refine (fw.out _).mono ?_); rintro e w' ⟨rfl, rfl⟩)) | (go_at_call 24; ((with_reducible refine (fc.out _).mono ?_); rintro e w' ⟨rfl, rfl⟩)) | (go_at_call 35; ((with_reducible refine (syUnexpected (H.out.kept (by repeat (first | exact q0.out | exact Qw.refl _ | refine Qw.al ?_ _ | refine Qw.dr ?_ | refine Qw.dn ?_ _ | refine Qw.sc ?_ (by first | (simp; done) | omega | (have := q0.out.size; first | omega | (simp; omega))) _)))).mono ?_); rintro e w' ⟨rfl, q⟩; replace q0 : Hid (Qw w w') := Lib.hid (Qw.trans (by repeat (first | exact q0.out | exact Qw.refl _ | refine Qw.al ?_ _ | refine Qw.dr ?_ | refine Qw.dn ?_ _ | refine Qw.sc ?_ (by first | (simp; done) | omega | (have := q0.out.size; first | omega | (simp; omega))) _)) q); clear q)))
      exact ⟨rfl, rfl, q0.out⟩
  · have b2 : (k != 2) = true := by simpa using h1
    clear hk h1 fc
    generalize whole (Sy.tn ts i) = b at *
    generalize wholev (Sy.tn ts i) = V at *
    generalize Sy.tn ts i = n at *
    replace fw := Lib.hid fw
    go_enter Tryd.func52, Tryd.ntmps52
    go_wp2_with (first | (go_at_call 51; ((with_reducible refine (syNext (H.out.kept (by repeat (first | exact q0.out | exact Qw.refl _ | refine Qw.al ?_ _ | refine Qw.dr ?_ | refine Qw.dn ?_ _ | refine Qw.sc ?_ (by first | (simp; done) | omega | (have := q0.out.size; first | omega | (simp; omega))) _)))).mono ?_); rintro e w' ⟨rfl, q⟩; rw [hv.out]; replace q0 : Hid (Qw w w') := Lib.hid (Qw.trans (by repeat (first | exact q0.out | exact Qw.refl _ | refine Qw.al ?_ _ | refine Qw.dr ?_ | refine Qw.dn ?_ _ | refine Qw.sc ?_ (by first | (simp; done) | omega | (have := q0.out.size; first | omega | (simp; omega))) _)) q); clear q)) | (go_at_call 67; ((with_reducible refine (fw.out _).mono ?_); rintro e w' ⟨rfl, rfl⟩)) | (go_at_call 35; ((with_reducible refine (syUnexpected (H.out.kept (by repeat (first | exact q0.out | exact Qw.refl _ | refine Qw.al ?_ _ | refine Qw.dr ?_ | refine Qw.dn ?_ _ | refine Qw.sc ?_ (by first | (simp; done) | omega | (have := q0.out.size; first | omega | (simp; omega))) _)))).mono ?_); rintro e w' ⟨rfl, q⟩; replace q0 : Hid (Qw w w') := Lib.hid (Qw.trans (by repeat (first | exact q0.out | exact Qw.refl _ | refine Qw.al ?_ _ | refine Qw.dr ?_ | refine Qw.dn ?_ _ | refine Qw.sc ?_ (by first | (simp; done) | omega | (have := q0.out.size; first | omega | (simp; omega))) _)) q); clear q)))
    exact ⟨rfl, rfl, q0.out⟩
def PN (P : Nat) (a : Option Addr) (cap : Nat) (ts : List Lx.Tok) (len : Nat) (w : World) (r : Sy.Rs Int) (e : Ending) (w' : World) : Prop := match r with
  | .ok x j => e = .returned (.int .i64 x) ∧ Par w' P a cap ts len j ∧ Px P w w'
  | .bad j => PBad P ts len w j e w'
theorem syWhole {w : World} {P : Nat} {a : Option Addr} {cap : Nat} {ts : List Lx.Tok} {len i : Nat} (h : Par w P a cap ts len i) (hg : Sy.Good ts) (m : Nat) : Calls Tryd.prog 52 #[.pointer (some ⟨P, 0, none⟩), .int .i64 (m : Int)] w (PN P a cap ts len w (Sy.pN ts m i)) := by
  have key : (Sy.kd ts i = 2 ∧ Sy.isc (Sy.tn ts i) m = true) → (whole (Sy.tn ts i) = true ∧ wholev (Sy.tn ts i) = Sy.tn ts i / 1000000 ∧ Sy.cnt (wholev (Sy.tn ts i)) m = true) := by
    rintro ⟨h1, h2⟩
    have := Sy.num_ok hg h1
    unfold Sy.isc at h2
    simp only [Bool.and_eq_true, decide_eq_true_eq] at h2
    have hw : whole (Sy.tn ts i) = true := by unfold whole; rw [vld_t (by omega) (by omega), decide_eq_true h2.1.1]; rfl
    have hv : wholev (Sy.tn ts i) = Sy.tn ts i / 1000000 := by unfold wholev; rw [if_pos hw]
    exact ⟨hw, hv, by rw [hv]; unfold Sy.cnt; simp; omega⟩
  have key2 : ¬ (Sy.kd ts i = 2 ∧ Sy.isc (Sy.tn ts i) m = true) → (Sy.kd ts i ≠ 2 ∨ whole (Sy.tn ts i) = false ∨ Sy.cnt (wholev (Sy.tn ts i)) m = false) := by
    intro h1
    by_cases h2 : Sy.kd ts i = 2
    · right
      cases hw : whole (Sy.tn ts i)
      · exact .inl rfl
      · right
        have hv : wholev (Sy.tn ts i) = Sy.tn ts i / 1000000 := by unfold wholev; rw [if_pos hw]
        cases hc : Sy.cnt (wholev (Sy.tn ts i)) m
        · rfl
        · exfalso
          refine h1 ⟨h2, ?_⟩
          rw [hv] at hc
          unfold whole at hw
          unfold Sy.cnt at hc
          unfold Sy.isc
          simp at hw hc ⊢
          omega
    · exact .inl h2
  by_cases hy : Sy.kd ts i = 2 ∧ Sy.isc (Sy.tn ts i) m = true
  · obtain ⟨h1, h2, h3⟩ := key hy
    unfold Sy.pN
    rw [if_pos hy]
    refine (syWholeY h m hy.1 h1 h3).mono ?_
    rintro e w' ⟨rfl, hp, hq⟩
    exact ⟨by rw [h2], hp, hq⟩
  · unfold Sy.pN
    rw [if_neg hy]
    refine (syWholeN h m (key2 hy)).mono ?_
    rintro e w' ⟨rfl, hq⟩
    exact ⟨rfl, Px.of hq⟩
end Go.Proofs.YthfcimfoinidbaaDoor

