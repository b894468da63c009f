
/- What the frames of the rows share whose list of variables holds the table of names; lists of numbers and texts that came in. -/
import Derived.Test.YtlinfdgmebogbaaDoorCards
import Derived.Test.YtlinfdgmebogbaaDoorTie
import Derived.ProofKit
import Derived.OpenShut
import Derived.Deep.DeepHandedRow
import Derived.Lib.LaidTab
import Derived.Stop.LaidErr
import Derived.Carry
import Derived.ChangeMaps5
import Derived.Test.YtlinfdgmebogbaaDoorLxD
import Derived.Test.YtlinfdgmebogbaaDoorTape
set_option linter.unusedVariables false
set_option linter.unusedSimpArgs false
namespace Go.Proofs.YtlinfdgmebogbaaDoor
open Go.ChangeShapes Go.WideShapes Go.ChangeAt Go.RowKit

theorem i64_of_wf {a : Int} (h : (Lit.int .i64 a).wf = true) : -9223372036854775808 ≤ a ∧ a ≤ 9223372036854775807 := by
  simp [Lit.wf, IntKind.min, IntKind.max, IntKind.signed, IntKind.bits] at h
  omega
theorem u8_of_wf {a : Int} (h : (Lit.int .u8 a).wf = true) : 0 ≤ a ∧ a ≤ 255 := by
  simp [Lit.wf, IntKind.min, IntKind.max, IntKind.signed, IntKind.bits] at h
  omega

theorem ownN : ownKnob Tryd.prog.godebug = none := by kernel_rfl
theorem gNames : Tryd.prog.globalNamed "cnc/lex.names" = some 0 := by kernel_rfl
theorem gNamesType : (Tryd.prog.globals[0]?).map (·.type) = some 57 := by kernel_rfl
theorem gNamesCells : Tryd.prog.cellsOf 57 = 24 := by kernel_rfl
theorem gStrCells : Tryd.prog.cellsOf 9 = 1 := by kernel_rfl

/-- A list of texts as data. -/
def strData (ls : List (List UInt8)) : DataW Unit := .agg (ls.map fun l => .lit (.string l))
theorem strData_names : (Rows.laid_cnc_lex_names : DataW Unit) = strData Lx.nms := by kernel_rfl

/-- An array of texts that reads as the list has those texts in its cells. -/
theorem texts_of {w : World} {sp : Nat → Bool} {held : Bool} {enc : TypeId × Value → Unit} {base fuel : Nat} {cs : List Value} {p : List MemPlace}
    (h : DataW.trod enc Tryd.prog w base sp held fuel 57 cs = some (strData Lx.nms, p)) (i : Nat) (hi : i < 24) : cs[i]? = some (.string (nb i)) := by
  cases fuel with
  | zero => simp [DataW.trod] at h
  | succ f =>
    simp only [DataW.trod, Tryd.underlying57, gStrCells, gNamesCells, Nat.mul_one] at h
    split at h
    · obtain ⟨xs, hm, hx⟩ := Option.map_eq_some_iff.1 h
      obtain ⟨y, hy, hf⟩ := Lib.mapM_at hm i i (by simp [hi])
      obtain ⟨s, hc, hs, _⟩ := DataW.trod_string Tryd.underlying9 hf
      have c0 : cs[i]? = some (.string s) := by
        have := congrArg (fun l => l[0]?) hc
        simpa [List.getElem?_take, List.getElem?_drop] using this
      have d0 : xs.map (·.1) = Lx.nms.map fun l => (DataW.lit (.string l) : DataW Unit) := by
        have := congrArg Prod.fst hx
        simpa [strData] using this
      have e0 : (xs.map (·.1))[i]? = some (DataW.lit (.string s.data.toList)) := by rw [List.getElem?_map, hy, hs]; rfl
      rw [d0, List.getElem?_map, List.getElem?_eq_getElem (by rw [Lx.nms_length]; exact hi)] at e0
      simp only [Option.map_some, Option.some.injEq, DataW.lit.injEq, Lit.string.injEq] at e0
      rw [c0]
      unfold nb Lx.nm
      rw [List.getD_eq_getElem?_getD, List.getElem?_eq_getElem (by rw [Lx.nms_length]; exact hi)]
      simp only [Option.getD_some, e0, bs_of]
    · cases h

/-- The table that the rows list. -/
def tabsN : List (String × DataW Unit) := [("cnc/lex.names", Rows.laid_cnc_lex_names)]

/-- What the list gives. -/
theorem tableN {W : World} (h : laidMetH Tryd.prog tabsN W) : Tn W := by
  have h1 : laidMet Tryd.prog tabsN W := h
  unfold tabsN at h1
  rw [strData_names] at h1
  obtain ⟨ps, ⟨g, t, cs, fuel, p, q, hg, ht, hvar, hd, _, _⟩, _⟩ := h1
  obtain rfl := Option.some.inj (gNames.symm.trans hg)
  obtain rfl := Option.some.inj (gNamesType.symm.trans ht)
  have cells : ∀ j, j < 24 → W.cell? ⟨0, j, none⟩ = some (.string (nb j)) := by
    intro j hj
    have c := World.var?_cell gNames hvar j
    have t := texts_of hd j hj
    rw [c]
    simpa using t
  refine ⟨?_, cells⟩
  have c := cells 0 (by decide)
  rcases Nat.lt_or_ge 0 W.heap.size with h | h
  · exact h
  · simp [World.cell?, Array.getElem?_eq_none h] at c

/-- The values of a table of texts. -/
def cellsN : DataW Unit → Array Value
  | .agg l => (l.map fun x => match x with
    | .lit (.string b) => .string ⟨b.toArray⟩
    | _ => .bool false).toArray
  | _ => #[]

/-- A world in which the table lies as its initialiser lays it. -/
noncomputable def laidWorldN (os : Os) : World :=
  let h0 := (World.holding Tryd.prog os ⟨#[], #[], []⟩).heap
  let put (x : DataW Unit) (o : Obj) : Obj := match o with
    | .cells _ t frozen => .cells (cellsN x) t frozen
    | o => o
  { World.holding Tryd.prog os ⟨#[], #[], []⟩ with heap := h0.modify 0 (put Rows.laid_cnc_lex_names) }

theorem laid_metN (os : Os) (args : Array Value) : laidMet Tryd.prog tabsN ((laidWorldN os).forCall (fun _ _ => 0) ⟨#[], args, []⟩).memory :=
  laidMet_of_run' 8 (by kernel_rfl) (by kernel_rfl)

end Go.Proofs.YtlinfdgmebogbaaDoor
