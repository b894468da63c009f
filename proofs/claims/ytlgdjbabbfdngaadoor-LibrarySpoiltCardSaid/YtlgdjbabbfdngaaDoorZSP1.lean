import Derived.Test.YtlgdjbabbfdngaaDoorZSP0
import Derived.Test.YtlgdjbabbfdngaaDoorCards
import Derived.Test.YtlgdjbabbfdngaaDoorTie
import Derived.ProofKit
import Derived.OpenShut
import Derived.Deep.DeepHandedRow
import Derived.Lib.LaidTab
import Derived.Stop.LaidErr
import Derived.Carry
import Derived.ChangeMaps5
import Derived.Deep.RegionWith
import Derived.Deep.LoopGhost
import Derived.Lib.AppendZeros
import Derived.Laws.OwnMore
import Derived.Maps.OwnSet
set_option linter.unusedVariables false
set_option linter.unusedSimpArgs false
namespace Go.Proofs.YtlgdjbabbfdngaaDoor
open Go.ChangeShapes Go.WideShapes Go.ChangeAt Go.RowKit
theorem i64_of_wf {a : Int} (h : (Lit.int .i64 a).wf = true) : -9223372036854775808 ≤ a ∧ a ≤ 9223372036854775807 := by
  simp [Lit.wf, IntKind.min, IntKind.max, IntKind.signed, IntKind.bits] at h
  omega
theorem ownO : ownKnob Tryd.prog.godebug = none := by kernel_rfl
theorem gStrCells : Tryd.prog.cellsOf 9 = 1 := by kernel_rfl
theorem gOps : Tryd.prog.globalNamed "cnc/syntax.operators" = some 0 := by kernel_rfl
theorem gOpsType : (Tryd.prog.globals[0]?).map (·.type) = some 98 := by kernel_rfl
theorem gOpsCells : Tryd.prog.cellsOf 98 = 52 := by kernel_rfl
theorem gOpCells : Tryd.prog.cellsOf 97 = 2 := by kernel_rfl
theorem gIntCells : Tryd.prog.cellsOf 3 = 1 := by kernel_rfl
def opsData (ls : List (List UInt8 × Int)) : DataW Unit := .agg (ls.map fun l => .agg [.lit (.string l.1), .lit (.int .i64 l.2)])
def opsL : List (List UInt8 × Int) := (List.range 26).map fun j => (Sy.onm j, (Sy.kds j : Int))
theorem opsData_laid : (Rows.laid_cnc_syntax_operators : DataW Unit) = opsData opsL := by kernel_rfl
theorem opsL_get (i : Nat) (h : i < 26) : opsL[i]? = some (Sy.onm i, (Sy.kds i : Int)) := by
  unfold opsL; rw [List.getElem?_map, List.getElem?_range h]; rfl
set_option maxRecDepth 100000 in
theorem ops_of {w : World} {sp : Nat → Bool} {held : Bool} {enc : TypeId × Value → Unit} {base fuel : Nat} {cs : List Value} {p : List MemPlace}
    (h : DataW.trod enc Tryd.prog w base sp held fuel 98 cs = some (opsData opsL, p)) (i : Nat) (hi : i < 26) : cs[i * 2]? = some (.string (bs (Sy.onm i))) ∧ cs[i * 2 + 1]? = some (.int .i64 (Sy.kds i : Nat)) := by
  cases fuel with
  | zero => simp [DataW.trod] at h
  | succ f =>
    simp only [DataW.trod, Tryd.underlying98, gOpCells, gOpsCells] at h
    split at h
    · obtain ⟨xs, hm, hx⟩ := Option.map_eq_some_iff.1 h
      obtain ⟨y, hy, hf⟩ := Lib.mapM_at hm i i (by simp [hi])
      obtain ⟨zs, n, rfl, rfl, hl, hz, hg⟩ := DataW.trod_struct Tryd.underlying97 hf
      have d0 : xs.map (·.1) = opsL.map fun l => (DataW.agg [.lit (.string l.1), .lit (.int .i64 l.2)] : DataW Unit) := by
        have := congrArg Prod.fst hx
        simpa [opsData] using this
      have e0 : (xs.map (·.1))[i]? = some (DataW.agg (zs.map (·.1))) := by rw [List.getElem?_map, hy]; rfl
      rw [d0, List.getElem?_map, opsL_get i hi] at e0
      simp only [Option.map_some, Option.some.injEq, DataW.agg.injEq] at e0
      have g0 := hg 0 _ rfl
      have g1 := hg 1 _ rfl
      match zs, e0, g0, g1 with
      | [z0, z1], e0, g0, g1 =>
        simp only [List.map_cons, List.map_nil, List.cons.injEq, and_true] at e0
        simp only [List.getElem?_cons_zero, List.getElem?_cons_succ, gStrCells, gIntCells] at g0 g1
        obtain ⟨s, hc, hs, _⟩ := DataW.trod_string Tryd.underlying9 g0
        obtain ⟨m, hc1, hs1, _⟩ := DataW.trod_int Tryd.underlying3 g1
        subst hs hs1
        obtain ⟨k0, k1⟩ := e0
        simp only [DataW.lit.injEq, Lit.string.injEq, Lit.int.injEq, true_and] at k0 k1
        have c0 := congrArg (fun l => l[0]?) hc
        have c1 := congrArg (fun l => l[0]?) hc1
        simp [List.getElem?_take, List.getElem?_drop] at c0 c1
        refine ⟨?_, ?_⟩
        · rw [c0.2, k0]; simp only [bs_of]
        · rw [c1.2, ← k1]
    · cases h
def tabsO : List (String × DataW Unit) := [("cnc/syntax.operators", Rows.laid_cnc_syntax_operators)]
theorem laidOps {W : World} {rest : List (String × DataW Unit)} (h1 : laidMet Tryd.prog (("cnc/syntax.operators", opsData opsL) :: rest) W) : Ow W := by
  obtain ⟨ps, ⟨g, t, cs, fuel, p, q, hg, ht, hvar, hd, _, _⟩, _⟩ := h1
  obtain rfl := Option.some.inj (gOps.symm.trans hg)
  obtain rfl := Option.some.inj (gOpsType.symm.trans ht)
  have cells : ∀ j, j < 26 → W.cell? ⟨0, j * 2, none⟩ = some (.string (bs (Sy.onm j))) ∧ W.cell? ⟨0, j * 2 + 1, none⟩ = some (.int .i64 (Sy.kds j : Nat)) := by
    intro j hj
    have c0 := World.var?_cell gOps hvar (j * 2)
    have c1 := World.var?_cell gOps hvar (j * 2 + 1)
    obtain ⟨t0, t1⟩ := ops_of hd j hj
    rw [c0, c1]
    exact ⟨by simpa using t0, by simpa using t1⟩
  refine ⟨?_, cells⟩
  have c := (cells 0 (by decide)).1
  rcases Nat.lt_or_ge 0 W.heap.size with h | h
  · exact h
  · simp [World.cell?, Array.getElem?_eq_none h] at c
theorem tableO {W : World} (h : laidMetH Tryd.prog tabsO W) : Ow W := by
  have h1 : laidMet Tryd.prog tabsO W := h
  unfold tabsO at h1
  rw [opsData_laid] at h1
  exact laidOps h1
def cellsLit : DataW Unit → Value
  | .lit (.string b) => .string ⟨b.toArray⟩
  | .lit (.int k n) => .int k n
  | _ => .bool false
def cellsO : DataW Unit → Array Value
  | .agg l => (l.flatMap fun x => match x with
    | .agg m => m.map cellsLit
    | y => [cellsLit y]).toArray
  | _ => #[]
noncomputable def laidWorldO (os : Os) : World :=
  let h0 := (World.holding Tryd.prog os ⟨#[], #[], []⟩).heap
  let put (x : DataW Unit) (o : Obj) : Obj := match o with
    | .cells _ t frozen => .cells (cellsO x) t frozen
    | o => o
  let h2 := h0.modify 0 (put Rows.laid_cnc_syntax_operators)
  { World.holding Tryd.prog os ⟨#[], #[], []⟩ with heap := h2 }
theorem laid_metO (os : Os) (args : Array Value) : laidMet Tryd.prog tabsO ((laidWorldO os).forCall (fun _ _ => 0) ⟨#[], args, []⟩).memory :=
  laidMet_of_run' 8 (by kernel_rfl) (by kernel_rfl)
theorem laidOutO : laidOutB Tryd.prog = true := by kernel_rfl
set_option maxRecDepth 100000 in
theorem in_ints {H : Type} {enc : TypeId × Value → H} {W : World} {base : Nat} {v : Value} {d : DataW H} {p : List MemPlace} (hval : Value.okWide Tryd.prog W .any base 23 v)
    (h : DataW.Trod enc Tryd.prog W 0 (fun _ => true) true 23 v d p) : ∃ zs, IntsB W.heap.size W v zs := by
  obtain ⟨a0, len, cap, rfl⟩ := okWide_slice Tryd.underlying23 hval
  obtain ⟨fuel, hf⟩ := h
  rcases open_ints Tryd.underlying23 Tryd.underlying3 gIntCells hf with ⟨hcs, hx⟩ | ⟨a, len', cap', zs, hcs, _, hl, hm, hz, hx, hcell, hwz⟩
  · simp [Value.cells] at hcs
    obtain ⟨rfl, rfl, rfl⟩ := hcs
    refine ⟨[], none, 0, by simp, by simp, by simp, .inl rfl⟩
  · simp [Value.cells] at hcs
    obtain ⟨rfl, rfl, rfl⟩ := hcs
    simp only [if_true] at hz
    have lt : (zs.take len).length = len := by rw [List.length_take]; omega
    refine ⟨zs.take len, some a, cap, by rw [lt], by omega, by unfold maxLen at hm; omega, ?_⟩
    by_cases h0 : len = 0
    · left; subst h0; rfl
    · right
      obtain ⟨b, off, spot⟩ := a
      have hspot : spot = none := by simpa [Addr.add] using World.cell?_spot (hcell 0 (by omega))
      subst hspot
      have hb : b < W.heap.size := by
        have c := hcell 0 (by omega)
        rcases Nat.lt_or_ge b W.heap.size with h | h
        · exact h
        · simp [World.cell?, Addr.add, Array.getElem?_eq_none h] at c
      refine ⟨b, off, rfl, hb, fun i hi => ?_⟩
      rw [lt] at hi
      have g : (zs.take len).getD i 0 = zs.getD i 0 := by rw [List.getD_eq_getElem?_getD, List.getD_eq_getElem?_getD, List.getElem?_take_of_lt hi]
      have w := i64_of_wf (hwz (zs.getD i 0) (by rw [List.getD_eq_getElem?_getD, List.getElem?_eq_getElem (by omega)]; exact List.getElem_mem _))
      rw [g]
      exact ⟨by rw [← add_plain]; exact hcell i (by omega), w⟩
theorem out_ints {H : Type} {enc : TypeId × Value → H} {W W' : World} {v : Value} {d : DataW H} {p : List MemPlace} (h : DataW.Trod enc Tryd.prog W 0 (fun _ => true) true 23 v d p) (bel : Below W.heap.size W W')
    (hlt : ∀ x ∈ p, x.block < W.heap.size) : DataW.Trod enc Tryd.prog W' 0 (fun b => decide (b < W.heap.size)) true 23 v d p :=
  Below.trod laidOutO (by kernel_rfl) (of_decide_eq_true (by kernel_rfl)) h bel hlt
end Go.Proofs.YtlgdjbabbfdngaaDoor
set_option linter.unusedVariables false
set_option linter.unusedSimpArgs false
namespace Go.Proofs.YtlgdjbabbfdngaaDoor
open Go.RowKit
inductive KidsB (w : World) (S : Nat → Prop) : Option Addr → Nat → List Sy.Ex → Prop where
  | nl (a : Option Addr) (cap : Nat) (h : cap ≤ 9223372036854775807) : KidsB w S a cap []
  | mk (b off cap : Nat) (ks : List Sy.Ex) (ad : Nat → Option Addr) (cc : Nat → Nat) (hS : S b) (h1 : ks.length ≤ cap) (h2 : cap ≤ 9223372036854775807)
    (hc : ∀ i (h : i < ks.length), w.cell? ⟨b, off + i * 3, none⟩ = some (.int .i64 ks[i].op) ∧ w.cell? ⟨b, off + i * 3 + 1, none⟩ = some (.int .i64 ks[i].n) ∧ w.cell? ⟨b, off + i * 3 + 2, none⟩ = some (.slice (ad i) ks[i].ks.length (cc i)))
    (hk : ∀ i (h : i < ks.length), KidsB w S (ad i) (cc i) ks[i].ks) : KidsB w S (some ⟨b, off, none⟩) cap ks
theorem KidsB.cap {w : World} {S : Nat → Prop} {a : Option Addr} {cap : Nat} {ks : List Sy.Ex} (h : KidsB w S a cap ks) : ks.length ≤ cap ∧ cap ≤ 9223372036854775807 := by
  cases h with
  | nl a cap h => exact ⟨Nat.zero_le _, h⟩
  | mk b off cap ks ad cc hS h1 h2 hc hk => exact ⟨h1, h2⟩
theorem cell_lt {w : World} {b o : Nat} {v : Value} (h : w.cell? ⟨b, o, none⟩ = some v) : b < w.heap.size := by
  rcases Nat.lt_or_ge b w.heap.size with g | g
  · exact g
  · simp [World.cell?, Array.getElem?_eq_none g] at h
theorem KidsB.go {w w' : World} {S T : Nat → Prop} (hb : ∀ b, S b → b < w.heap.size → w'.heap[b]? = w.heap[b]? ∧ T b) {a : Option Addr} {cap : Nat} {ks : List Sy.Ex} (h : KidsB w S a cap ks) : KidsB w' T a cap ks := by
  induction h with
  | nl a cap h => exact .nl a cap h
  | mk b off cap ks ad cc hS h1 h2 hc hk ih =>
    by_cases h0 : ks = []
    · subst h0; exact .nl _ _ h2
    have g := cell_lt (hc 0 (by cases ks with | nil => exact absurd rfl h0 | cons _ _ => simp)).1
    refine .mk b off cap ks ad cc (hb b hS g).2 h1 h2 (fun i hi => ?_) ih
    have k : ∀ o, w'.cell? ⟨b, o, none⟩ = w.cell? ⟨b, o, none⟩ := fun o => World.cell?_of_block (w := w) (hb b hS g).1
    rw [k, k, k]
    exact hc i hi
theorem KidsB.kept {w w' : World} {S : Nat → Prop} {a : Option Addr} {cap : Nat} {ks : List Sy.Ex} (h : KidsB w S a cap ks) (q : Qw w w') : KidsB w' S a cap ks := h.go fun b hS hb => ⟨q.block b hb, hS⟩
theorem KidsB.px {w w' : World} {P : Nat} {S : Nat → Prop} {a : Option Addr} {cap : Nat} {ks : List Sy.Ex} (h : KidsB w S a cap ks) (hS : ∀ b, S b → b ≠ P) (q : Px P w w') : KidsB w' S a cap ks := h.go fun b h hb => ⟨q.block b hb (hS b h), h⟩
theorem KidsB.mono {w : World} {S T : Nat → Prop} {a : Option Addr} {cap : Nat} {ks : List Sy.Ex} (h : KidsB w S a cap ks) (hT : ∀ b, S b → T b) : KidsB w T a cap ks := h.go fun b hS _ => ⟨rfl, hT b hS⟩
theorem KidsB.set {w : World} {S : Nat → Prop} {a : Option Addr} {cap : Nat} {ks : List Sy.Ex} (h : KidsB w S a cap ks) {p : Addr} (hp : ¬ S p.block) (u : Value) : KidsB (w.setCell p u) S a cap ks :=
  h.go fun b hS hb => ⟨Below.heap_setCell _ _ _ _ (fun e => hp (e ▸ hS)), hS⟩
theorem KidsB.one {w : World} {S : Nat → Prop} {G : Nat} {x : Sy.Ex} {t : TypeId} {ka : Option Addr} {kc : Nat} (X : Bx w G #[.int .i64 x.op, .int .i64 x.n, .slice ka x.ks.length kc] t) (hS : S G) (h : KidsB w S ka kc x.ks) : KidsB w S (some ⟨G, 0, none⟩) 1 [x] := by
  refine .mk G 0 1 [x] (fun _ => ka) (fun _ => kc) hS (Nat.le_refl _) (by decide) (fun i hi => ?_) (fun i hi => ?_)
  · obtain rfl : i = 0 := by simp at hi; exact hi
    exact ⟨X.cell' 0 _ rfl, X.cell' 1 _ rfl, X.cell' 2 _ rfl⟩
  · obtain rfl : i = 0 := by simp at hi; exact hi
    exact h
theorem KidsB.two {w : World} {S : Nat → Prop} {G : Nat} {x y : Sy.Ex} {t : TypeId} {ka kb : Option Addr} {kc kd : Nat} (X : Bx w G #[.int .i64 x.op, .int .i64 x.n, .slice ka x.ks.length kc, .int .i64 y.op, .int .i64 y.n, .slice kb y.ks.length kd] t) (hS : S G)
    (h : KidsB w S ka kc x.ks) (h' : KidsB w S kb kd y.ks) : KidsB w S (some ⟨G, 0, none⟩) 2 [x, y] := by
  refine .mk G 0 2 [x, y] (fun i => if i = 0 then ka else kb) (fun i => if i = 0 then kc else kd) hS (Nat.le_refl _) (by decide) (fun i hi => ?_) (fun i hi => ?_)
  · have : i = 0 ∨ i = 1 := by simp at hi; omega
    rcases this with rfl | rfl
    · exact ⟨X.cell' 0 _ rfl, X.cell' 1 _ rfl, X.cell' 2 _ rfl⟩
    · exact ⟨X.cell' 3 _ rfl, X.cell' 4 _ rfl, X.cell' 5 _ rfl⟩
  · have : i = 0 ∨ i = 1 := by simp at hi; omega
    rcases this with rfl | rfl
    · exact h
    · exact h'
theorem syCounts (n : Int) (m : Nat) (w : World) : Calls Tryd.prog 49 #[.int .i64 n, .int .i64 (m : Int)] w fun e w' => e = .returned (.bool (Sy.cnt n m)) ∧ w = w' := by
  have main : ∀ b, Sy.cnt n m = b → Calls Tryd.prog 49 #[.int .i64 n, .int .i64 (m : Int)] w fun e w' => e = .returned (.bool b) ∧ w = w' := by
    intro b hb
    unfold Sy.cnt at hb
    by_cases h1 : 1 ≤ n
    · by_cases h2 : n ≤ (m : Int)
      · obtain rfl : b = true := by rw [← hb]; simp [h1, h2]
        clear hb
        go_enter Tryd.func49, Tryd.ntmps49
        go_wp2
        go_ret
        exact ⟨rfl, rfl⟩
      · obtain rfl : b = false := by rw [← hb]; simp [h2]
        clear hb
        have h3 : (m : Int) < n := by omega
        go_enter Tryd.func49, Tryd.ntmps49
        go_wp2
        go_ret
        exact ⟨rfl, rfl⟩
    · obtain rfl : b = false := by rw [← hb]; simp [h1]
      clear hb
      go_enter Tryd.func49, Tryd.ntmps49
      go_wp2
      go_ret
      exact ⟨rfl, rfl⟩
  exact main _ rfl
theorem syIsWord (n : Int) (w : World) : Calls Tryd.prog 64 #[.int .i64 n] w fun e w' => e = .returned (.bool (Sy.isw n)) ∧ w = w' := by
  have main : ∀ b, Sy.isw n = b → Calls Tryd.prog 64 #[.int .i64 n] w fun e w' => e = .returned (.bool b) ∧ w = w' := by
    intro b hb
    unfold Sy.isw at hb
    by_cases h1 : 65 ≤ n
    · by_cases h2 : n ≤ 90
      · by_cases h3 : n = 78
        · obtain rfl : b = false := by rw [← hb]; simp [h3]
          subst h3
          clear hb
          go_enter Tryd.func64, Tryd.ntmps64
          go_wp2
          go_ret
          exact ⟨rfl, rfl⟩
        · by_cases h4 : n = 79
          · obtain rfl : b = false := by rw [← hb]; simp [h4]
            subst h4
            clear hb
            go_enter Tryd.func64, Tryd.ntmps64
            go_wp2
            go_ret
            exact ⟨rfl, rfl⟩
          · obtain rfl : b = true := by rw [← hb]; simp [h1, h2, h3, h4]
            have b3 : (n != 78) = true := by simpa using h3
            have b4 : (n != 79) = true := by simpa using h4
            clear hb
            go_enter Tryd.func64, Tryd.ntmps64
            go_wp2
            go_ret
            exact ⟨rfl, rfl⟩
      · obtain rfl : b = false := by rw [← hb]; simp [h2]
        clear hb
        go_enter Tryd.func64, Tryd.ntmps64
        go_wp2
        go_ret
        exact ⟨rfl, rfl⟩
    · obtain rfl : b = false := by rw [← hb]; simp [h1]
      clear hb
      go_enter Tryd.func64, Tryd.ntmps64
      go_wp2
      go_ret
      exact ⟨rfl, rfl⟩
  exact main _ rfl
end Go.Proofs.YtlgdjbabbfdngaaDoor
set_option linter.unusedVariables false
set_option linter.unusedSimpArgs false
namespace Go.Proofs.YtlgdjbabbfdngaaDoor
open Go.RowKit
theorem KidsB.alloc {w : World} {S : Nat → Prop} {a : Option Addr} {cap : Nat} {ks : List Sy.Ex} (h : KidsB w S a cap ks) (o : Obj) : KidsB (w.alloc o) S a cap ks := h.kept ((Below.refl _ _).alloc (Nat.le_refl _) _)
theorem Bx.drew {w : World} {b : Nat} {cs : Array Value} {t : TypeId} (h : Bx w b cs t) : Bx w.drew b cs t := h
theorem KidsB.drew {w : World} {S : Nat → Prop} {a : Option Addr} {cap : Nat} {ks : List Sy.Ex} (h : KidsB w S a cap ks) : KidsB w.drew S a cap ks := h.kept ((Below.refl _ _).drew)
def exZ : Array Value := #[.int .i64 0, .int .i64 0, .slice none 0 0]
theorem Rz {w : World} {b : Nat} {cs : Array Value} {t : TypeId} (h : Bx w b cs t := by repeat (first | exact R.out | refine Bx.alloc ?_ _ | refine Bx.drew ?_)) : Bx w b cs t := h
end Go.Proofs.YtlgdjbabbfdngaaDoor
set_option linter.unusedVariables false
set_option linter.unusedSimpArgs false
namespace Go.Proofs.YtlgdjbabbfdngaaDoor
open Go.RowKit
theorem run_append_near {P : Program} (w : World) (base : Nat) (t ty e : TypeId) (i : TypeInfo) (z : Value) (size bytes : Nat) (ht : P.underlying t = some (.slice e)) (hi : P.info? e = some i) (hz : i.zero = some z)
    (hsize : i.size = size) (hby : i.bytes = bytes) (hzs : z.cells.size = size) (hsz : 0 < size) (v : Value) (n : Nat) (xs : List Value) (hown : w.ownsRow base e size v n xs)
    (a : Addr) (m c : Nat) (news : List Value) (hl : news.length = m * size) (hnews : ∀ j u, news[j]? = some u → w.cell? (a.add j) = some u) (h1 : ∀ u ∈ news, u.oneCell' = true)
    (h63 : n + m ≤ maxLen) (hbytes : (n + m) * bytes ≤ 140737488355328) (hbase : base ≤ w.heap.size) :
    ∃ v' w', (Builtin.append_ #[t, t] ty #[v, .slice (some a) m c]).run P w = .ok v' w' ∧ w'.ownsRow base e size v' (n + m) (xs ++ news) ∧ w.grownBy w' v.ownBlock ∧
      (∀ g, v'.ownBlock = some g → v.ownBlock = some g ∨ w.heap.size ≤ g) := by
  rcases hown.2 with ⟨hv, hn⟩ | ⟨g, cap, cur, hv, hb, hg, hn, hm, hc, htk⟩
  · have hown' : w.ownsRow w.heap.size e size v n xs := ⟨hown.1, .inl ⟨hv, hn⟩⟩
    obtain ⟨v', w', h2, h3, h4, h5⟩ := run_append_own (P := P) w w.heap.size t ty e i z size bytes ht hi hz hsize hby hzs hsz v n xs hown' a m c news hl hnews h1 h63 hbytes (Nat.le_refl _)
    refine ⟨v', w', h2, ⟨h3.1, ?_⟩, h4, fun g hg => ?_⟩
    · rcases h3.2 with h | ⟨g, cap, cur, k1, k2, k3⟩
      · exact .inl h
      · exact .inr ⟨g, cap, cur, k1, Nat.le_trans hbase k2, k3⟩
    · rcases h3.2 with ⟨h, _⟩ | ⟨g', cap, cur, k1, k2, k3⟩
      · rw [h] at hg; cases hg
      · rw [k1] at hg
        have : g' = g := by simpa [Value.ownBlock] using hg
        exact .inr (this ▸ k2)
  · subst hv
    by_cases hroom : n + m ≤ cap
    · obtain ⟨w', h2, h3, h4⟩ := run_append_fits (P := P) w base t ty e i size ht hi hsize g n cap xs hown a m c news hl hnews h1 hroom
      exact ⟨_, w', h2, h3, h4, fun g' hg' => .inl hg'⟩
    · obtain ⟨v', w', h2, h3, h4, h5⟩ := run_append_own (P := P) w base t ty e i z size bytes ht hi hz hsize hby hzs hsz _ n xs hown a m c news hl hnews h1 h63 hbytes hbase
      refine ⟨v', w', h2, h3, h4, fun g' hg' => .inr ?_⟩
      subst hsize hby
      have hr := run_append_grow (P := P) w t ty e i z ht hi hz ⟨g, 0, none⟩ n cap xs hown.1 (hown.cells (g := g) rfl) a m c news hl hnews (by omega) (by unfold maxLen at h63; omega) (growslice_fits (by omega) hbytes)
      rw [h2] at hr
      injection hr with e1 e2
      rw [e1] at hg'
      have : w.heap.size = g' := by simpa [Value.ownBlock] using hg'
      omega
structure Wd where
  c : Int
  x : Sy.Ex
  a : Option Addr
  n : Nat
def wcell (d : Wd) : List Value := [.int .i64 d.c, .int .i64 d.x.op, .int .i64 d.x.n, .slice d.a d.x.ks.length d.n]
def wcells (ds : List Wd) : List Value := ds.flatMap wcell
def wds (ds : List Wd) : List (Int × Sy.Ex) := ds.map fun d => (d.c, d.x)
def OwnW (B : Nat) (w : World) (v : Value) (ds : List Wd) : Prop := w.ownsRow B 56 4 v ds.length (wcells ds)
theorem info_word : (Tryd.prog.info? 56).map (fun i => (i.zero, i.size, i.bytes)) = some (some (.agg #[.int .i64 0, .int .i64 0, .int .i64 0, .slice none 0 0]), 4, 48) := by kernel_rfl
def WordsB (w : World) (S : Nat → Prop) (a : Option Addr) (cap : Nat) (ws : List (Int × Sy.Ex)) : Prop :=
  ws.length ≤ cap ∧ cap ≤ 9223372036854775807 ∧ (ws = [] ∨ ∃ (b off : Nat) (ad : Nat → Option Addr) (cc : Nat → Nat), a = some ⟨b, off, none⟩ ∧ S b ∧ ∀ i (h : i < ws.length),
    w.cell? ⟨b, off + i * 4, none⟩ = some (.int .i64 ws[i].1) ∧ w.cell? ⟨b, off + i * 4 + 1, none⟩ = some (.int .i64 ws[i].2.op) ∧ w.cell? ⟨b, off + i * 4 + 2, none⟩ = some (.int .i64 ws[i].2.n) ∧ w.cell? ⟨b, off + i * 4 + 3, none⟩ = some (.slice (ad i) ws[i].2.ks.length (cc i)) ∧
    KidsB w S (ad i) (cc i) ws[i].2.ks)
theorem WordsB.nil (w : World) (S : Nat → Prop) : WordsB w S none 0 [] := ⟨Nat.le_refl _, by decide, .inl rfl⟩
theorem WordsB.go {w w' : World} {S T : Nat → Prop} (hb : ∀ b, S b → b < w.heap.size → w'.heap[b]? = w.heap[b]? ∧ T b) {a : Option Addr} {cap : Nat} {ws : List (Int × Sy.Ex)} (h : WordsB w S a cap ws) : WordsB w' T a cap ws := by
  obtain ⟨h1, h2, h3⟩ := h
  refine ⟨h1, h2, ?_⟩
  rcases h3 with h3 | ⟨b, off, ad, cc, e, hS, hc⟩
  · exact .inl h3
  · by_cases h0 : ws = []
    · exact .inl h0
    have hlt := cell_lt (hc 0 (by cases ws with | nil => exact absurd rfl h0 | cons _ _ => simp)).1
    refine .inr ⟨b, off, ad, cc, e, (hb b hS hlt).2, fun i hi => ?_⟩
    have k : ∀ o, w'.cell? ⟨b, o, none⟩ = w.cell? ⟨b, o, none⟩ := fun o => World.cell?_of_block (w := w) (hb b hS hlt).1
    rw [k, k, k, k]
    obtain ⟨c0, c1, c2, c3, c4⟩ := hc i hi
    exact ⟨c0, c1, c2, c3, c4.go hb⟩
def BlkB (w : World) (S : Nat → Prop) (b : Sy.Bl) (cs : Array Value) : Prop :=
  ∃ (wa : Option Addr) (wc : Nat) (la : Option Addr) (lc : Nat) (xa : Option Addr) (xc : Nat),
    cs = #[.int .i64 b.kind, .int .i64 b.label, .bool b.skip, .slice wa b.words.length wc, .int .i64 b.left.op, .int .i64 b.left.n, .slice la b.left.ks.length lc, .int .i64 b.x.op, .int .i64 b.x.n, .slice xa b.x.ks.length xc, .int .i64 b.n] ∧
    WordsB w S wa wc b.words ∧ KidsB w S la lc b.left.ks ∧ KidsB w S xa xc b.x.ks
theorem BlkB.go {w w' : World} {S T : Nat → Prop} (hb : ∀ b, S b → b < w.heap.size → w'.heap[b]? = w.heap[b]? ∧ T b) {b : Sy.Bl} {cs : Array Value} (h : BlkB w S b cs) : BlkB w' T b cs := by
  obtain ⟨wa, wc, la, lc, xa, xc, e, h1, h2, h3⟩ := h
  exact ⟨wa, wc, la, lc, xa, xc, e, h1.go hb, h2.go hb, h3.go hb⟩
theorem wcells_get (ds : List Wd) (i : Nat) (h : i < ds.length) (j : Nat) (hj : j < 4) : (wcells ds)[i * 4 + j]? = (wcell ds[i])[j]? := by
  induction ds generalizing i with
  | nil => simp at h
  | cons t ts ih =>
    have e : wcells (t :: ts) = wcell t ++ wcells ts := rfl
    have l : (wcell t).length = 4 := rfl
    rw [e]
    cases i with
    | zero => rw [List.getElem?_append_left (by omega)]; simp
    | succ i =>
      rw [List.getElem?_append_right (by omega), l, show (i + 1) * 4 + j - 4 = i * 4 + j by omega]
      rw [ih i (by simpa using h)]; rfl
theorem OwnW.words {B : Nat} {w : World} {v : Value} {ds : List Wd} {S : Nat → Prop} (h : OwnW B w v ds) (hS : ∀ g, v.ownBlock = some g → S g) (hk : ∀ d ∈ ds, KidsB w S d.a d.n d.x.ks) : ∃ a cap, v = .slice a ds.length cap ∧ WordsB w S a cap (wds ds) := by
  have hlen : (wds ds).length = ds.length := List.length_map _
  rcases h.2 with ⟨rfl, h0⟩ | ⟨g, cap, cur, rfl, hb, hg, h1, h2, h3, h4⟩
  · have : ds = [] := List.eq_nil_of_length_eq_zero h0
    subst this
    exact ⟨none, 0, rfl, WordsB.nil _ _⟩
  · refine ⟨_, cap, rfl, by rw [hlen]; exact h1, by unfold maxLen at h2; omega, .inr ⟨g, 0, fun i => (ds.map Wd.a).getD i none, fun i => (ds.map Wd.n).getD i 0, rfl, hS g rfl, fun i hi => ?_⟩⟩
    rw [hlen] at hi
    have e1 : (wds ds)[i]'(by rw [hlen]; exact hi) = (ds[i].c, ds[i].x) := by unfold wds; rw [List.getElem_map]
    have e2 : (ds.map Wd.a).getD i none = ds[i].a := by rw [List.getD_eq_getElem?_getD, List.getElem?_map, List.getElem?_eq_getElem hi]; rfl
    have e3 : (ds.map Wd.n).getD i 0 = ds[i].n := by rw [List.getD_eq_getElem?_getD, List.getElem?_map, List.getElem?_eq_getElem hi]; rfl
    dsimp only
    rw [e1, e2, e3]
    have k : ∀ j (hj : j < 4), w.cell? ⟨g, 0 + i * 4 + j, none⟩ = (wcell ds[i])[j]? := fun j hj => by
      have t := wcells_get ds i hi j hj
      have u : ∃ u, (wcell ds[i])[j]? = some u := ⟨_, List.getElem?_eq_getElem (show j < (wcell ds[i]).length from hj)⟩
      obtain ⟨u, hu⟩ := u
      rw [hu] at t ⊢
      have c := World.ownsRow.cells h (g := g) rfl (i * 4 + j) u t
      rw [Addr.add_mid, Nat.zero_add] at c
      rw [Nat.zero_add]
      exact c
    exact ⟨k 0 (by decide), k 1 (by decide), k 2 (by decide), k 3 (by decide), hk _ (List.getElem_mem hi)⟩
end Go.Proofs.YtlgdjbabbfdngaaDoor
set_option linter.unusedVariables false
set_option linter.unusedSimpArgs false
namespace Go.Proofs.YtlgdjbabbfdngaaDoor
open Go.RowKit
open Go.Maps (Keyed IsMap)
def OwnG (B : Nat) (w : World) (T : TypeId) (z : Nat) (v : Value) (xs : List (List Value)) : Prop := (∀ x ∈ xs, x.length = z) ∧ w.ownsRow B T z v xs.length xs.flatten
theorem flat_len {z : Nat} : ∀ {xs : List (List Value)}, (∀ x ∈ xs, x.length = z) → xs.flatten.length = xs.length * z
  | [], _ => by simp
  | x :: xs, h => by
    rw [List.flatten_cons, List.length_append, h x (List.mem_cons_self ..), flat_len (fun y hy => h y (List.mem_cons_of_mem _ hy)), List.length_cons, Nat.succ_mul, Nat.add_comm]
theorem flat_get {z : Nat} : ∀ {xs : List (List Value)}, (∀ x ∈ xs, x.length = z) → ∀ (i : Nat) (h : i < xs.length) (j : Nat), j < z → xs.flatten[i * z + j]? = (xs[i])[j]?
  | [], _, i, h, _, _ => by simp at h
  | x :: xs, hx, i, h, j, hj => by
    have l := hx x (List.mem_cons_self ..)
    have hxs : ∀ y ∈ xs, y.length = z := fun y hy => hx y (List.mem_cons_of_mem _ hy)
    rw [List.flatten_cons]
    cases i with
    | zero => rw [List.getElem?_append_left (by omega)]; simp
    | succ i =>
      have e : (i + 1) * z = i * z + z := Nat.succ_mul i z
      rw [List.getElem?_append_right (by omega), l, show (i + 1) * z + j - z = i * z + j by omega, flat_get hxs i (by simpa using h) j hj]
      rfl
theorem flat_set {z : Nat} : ∀ {xs : List (List Value)}, (∀ x ∈ xs, x.length = z) → ∀ (i : Nat) (h : i < xs.length) (j : Nat) (u : Value), j < z → xs.flatten.set (i * z + j) u = (xs.set i ((xs[i]).set j u)).flatten
  | [], _, i, h, _, _, _ => by simp at h
  | x :: xs, hx, i, h, j, u, hj => by
    have l := hx x (List.mem_cons_self ..)
    have hxs : ∀ y ∈ xs, y.length = z := fun y hy => hx y (List.mem_cons_of_mem _ hy)
    cases i with
    | zero =>
      show (x ++ xs.flatten).set (0 * z + j) u = (x.set j u) ++ xs.flatten
      rw [Nat.zero_mul, Nat.zero_add, List.set_append_left _ _ (by omega)]
    | succ i =>
      have e : (i + 1) * z = i * z + z := Nat.succ_mul i z
      show (x ++ xs.flatten).set ((i + 1) * z + j) u = x ++ (xs.set i ((xs[i]'(by simpa using h)).set j u)).flatten
      rw [List.set_append_right _ _ (by omega), l, show (i + 1) * z + j - z = i * z + j by omega, flat_set hxs i (by simpa using h) j u hj]
section
variable {B : Nat} {w w' : World} {T : TypeId} {z : Nat} {v : Value} {xs : List (List Value)}
theorem OwnG.go (h : OwnG B w T z v xs) (hb : ∀ g, v.ownBlock = some g → g < w.heap.size → w'.heap[g]? = w.heap[g]?) : OwnG B w' T z v xs := by
  refine ⟨h.1, h.2.1, ?_⟩
  rcases h.2.2 with k | ⟨g, cap, cur, rfl, k1, k2, k3⟩
  · exact .inl k
  · exact .inr ⟨g, cap, cur, rfl, k1, (hb g rfl (Array.getElem?_eq_some_iff.1 k2).1).trans k2, k3⟩
theorem OwnG.lt (h : OwnG B w T z v xs) {g : Nat} (hg : v.ownBlock = some g) : B ≤ g ∧ g < w.heap.size := by
  rcases h.2.2 with ⟨rfl, _⟩ | ⟨g', cap, cur, rfl, k1, k2, k3⟩
  · cases hg
  · have : g' = g := by simpa [Value.ownBlock] using hg
    subst this
    exact ⟨k1, (Array.getElem?_eq_some_iff.1 k2).1⟩
theorem OwnG.nil (B : Nat) (w : World) (T : TypeId) (z : Nat) : OwnG B w T z (.slice none 0 0) [] := ⟨by simp, by simp, .inl ⟨rfl, rfl⟩⟩
theorem OwnG.form (h : OwnG B w T z v xs) : ∃ (a : Option Addr) (cap : Nat), v = .slice a xs.length cap ∧ xs.length ≤ cap ∧ cap ≤ 9223372036854775807 ∧ (xs ≠ [] → ∃ g, a = some ⟨g, 0, none⟩ ∧ B ≤ g ∧ g < w.heap.size) := by
  rcases h.2.2 with ⟨rfl, h0⟩ | ⟨g, cap, cur, rfl, k0, kb, k1, k2, _⟩
  · have : xs = [] := List.eq_nil_of_length_eq_zero h0
    subst this
    exact ⟨none, 0, rfl, Nat.le_refl _, by decide, fun h => absurd rfl h⟩
  · exact ⟨_, cap, rfl, k1, by unfold maxLen at k2; omega, fun _ => ⟨g, rfl, k0, (Array.getElem?_eq_some_iff.1 kb).1⟩⟩
theorem OwnG.at (h : OwnG B w T z v xs) {g : Nat} (hg : v.ownBlock = some g) {i : Nat} (hi : i < xs.length) {j : Nat} {u : Value} (hj : (xs[i])[j]? = some u) : w.cell? ⟨g, i * z + j, none⟩ = some u := by
  have hz : j < z := by
    have := h.1 xs[i] (List.getElem_mem hi)
    rcases Nat.lt_or_ge j z with k | k
    · exact k
    · rw [List.getElem?_eq_none (by omega)] at hj; cases hj
  have c := World.ownsRow.cells h.2 hg (i * z + j) u (by rw [flat_get h.1 i hi j hz]; exact hj)
  rw [Addr.add_mid, Nat.zero_add] at c
  exact c
theorem OwnG.free (h : OwnG B w T z v xs) {g : Nat} (hg : v.ownBlock = some g) (j : Nat) : w.frozen? ⟨g, j, none⟩ = false := by
  obtain ⟨a, cap, rfl, _⟩ := h.form
  rcases h.2.2 with ⟨h', _⟩ | ⟨g', cap', cur, h', _⟩
  · obtain ⟨rfl, _⟩ : a = none ∧ _ := by simpa using h'
    cases hg
  · have e : a = some ⟨g', 0, none⟩ := by simp at h'; exact h'.1
    subst e
    have : g' = g := by simpa [Value.ownBlock] using hg
    subst this
    exact h.2.frozenAt j
theorem OwnG.set (h : OwnG B w T z v xs) {g : Nat} (hg : v.ownBlock = some g) {i : Nat} (hi : i < xs.length) {j : Nat} (hj : j < z) (u : Value) : OwnG B (w.setCell ⟨g, i * z + j, none⟩ u) T z v (xs.set i ((xs[i]).set j u)) := by
  refine ⟨fun x hx => ?_, ?_⟩
  · rcases List.mem_or_eq_of_mem_set hx with k | k
    · exact h.1 x k
    · rw [k, List.length_set]; exact h.1 _ (List.getElem_mem hi)
  · obtain ⟨a, cap, rfl, _⟩ := h.form
    have e : a = some ⟨g, 0, none⟩ := by
      rcases h.2.2 with ⟨h', _⟩ | ⟨g', cap', cur, h', _⟩
      · obtain ⟨rfl, _⟩ : a = none ∧ _ := by simpa using h'
        cases hg
      · have e : a = some ⟨g', 0, none⟩ := by simp at h'; exact h'.1
        subst e
        have : g' = g := by simpa [Value.ownBlock] using hg
        rw [this]
    subst e
    rw [List.length_set, ← flat_set h.1 i hi j u hj]
    exact (h.2.stored (i * z + j) u).1
theorem OwnG.cut {x : List Value} (h : OwnG B w T z v (xs ++ [x])) : ∃ (g cap : Nat), v = .slice (some ⟨g, 0, none⟩) (xs.length + 1) cap ∧ xs.length + 1 ≤ cap ∧ cap ≤ 9223372036854775807 ∧ B ≤ g ∧ g < w.heap.size ∧ OwnG B w T z (.slice (some ⟨g, 0, none⟩) xs.length cap) xs := by
  have hl : (xs ++ [x]).length = xs.length + 1 := by simp
  have hx : ∀ y ∈ xs, y.length = z := fun y hy => h.1 y (List.mem_append_left _ hy)
  rcases h.2.2 with ⟨_, h0⟩ | ⟨g, cap, cur, rfl, k0, k2, k1, k3, k4, k5⟩
  · rw [hl] at h0; omega
  · rw [hl] at k1 k5 ⊢
    refine ⟨g, cap, rfl, k1, by unfold maxLen at k3; omega, k0, (Array.getElem?_eq_some_iff.1 k2).1, hx, flat_len hx, .inr ⟨g, cap, cur, rfl, k0, k2, by omega, k3, k4, ?_⟩⟩
    have := congrArg (List.take (xs.length * z)) k5
    rw [List.take_take, Nat.min_eq_left (Nat.mul_le_mul_right z (by omega)), List.flatten_append, List.take_append_of_le_length (by rw [flat_len hx]; exact Nat.le_refl _), List.take_of_length_le (l := xs.flatten) (by rw [flat_len hx]; exact Nat.le_refl _)] at this
    exact this
end
theorem g_append {B : Nat} {w : World} {v : Value} {xs : List (List Value)} (T sl ty : TypeId) (z bytes : Nat) (zv : Value) (x : List Value) (g : Nat) {t : TypeId}
    (info : (Tryd.prog.info? T).map (fun i => (i.zero, i.size, i.bytes)) = some (some zv, z, bytes)) (hu : Tryd.prog.underlying sl = some (.slice T)) (hzs : zv.cells.size = z) (hz : 0 < z) (hby : bytes ≤ 1000)
    (hb : Bx w g x.toArray t) (hx : x.length = z) (h1 : ∀ u ∈ x, u.oneCell' = true) (hown : OwnG B w T z v xs) (hl : xs.length ≤ 1000000) (hB : B ≤ w.heap.size) :
    ∃ v' w', (Builtin.append_ #[sl, sl] ty #[v, .slice (some ⟨g, 0, none⟩) 1 1]).run Tryd.prog w = .ok v' w' ∧ OwnG B w' T z v' (xs ++ [x]) ∧ w.grownBy w' v.ownBlock ∧ (∀ g, v'.ownBlock = some g → v.ownBlock = some g ∨ w.heap.size ≤ g) := by
  obtain ⟨i0, hi, hz0, hz1, hz2⟩ := info_parts info
  have hmb : (xs.length + 1) * bytes ≤ 1000001 * 1000 := Nat.mul_le_mul (by omega) hby
  obtain ⟨v', w', hr, h2, h3, h4⟩ := run_append_near (P := Tryd.prog) w B sl ty T i0 zv z bytes hu hi hz0 hz1 hz2 hzs hz v xs.length xs.flatten hown.2 ⟨g, 0, none⟩ 1 1 x (by omega) (by
    intro j u hj
    have := hb.cell' j u (by simpa using hj)
    rcases j with _ | j <;> simpa [Addr.add] using this) h1 (by unfold maxLen; omega) (by omega) hB
  refine ⟨v', w', hr, ⟨fun y hy => ?_, ?_⟩, h3, h4⟩
  · rcases List.mem_append.1 hy with k | k
    · exact hown.1 y k
    · rw [List.mem_singleton.1 k]; exact hx
  · rw [List.length_append, List.flatten_append, show [x].flatten = x by simp]
    exact h2
theorem plainElem_bool_inv {H : Type} {P : Program} {e : TypeId} (he : P.underlying e = some .bool) {v : Value} {z : DataW H × List MemPlace} (h : plainElem P e v = some z) : ∃ a, v = .bool a ∧ z = (.lit (.bool a), []) := by
  unfold plainElem at h
  rw [he] at h
  cases v <;> simp at h
  exact ⟨_, rfl, h.symm⟩
theorem keyed_int : Keyed Tryd.prog 3 := Go.Maps.int_keyed Tryd.underlying3
theorem zero_bool (w : World) : (zeroValue 4).run Tryd.prog w = .ok (.bool false) w := by kernel_rfl
theorem und_set : Tryd.prog.underlying 70 = some (.map 3 4) := by kernel_rfl
def SetM (w : World) (b : Nat) (L : List Int) : Prop := ∃ D : DataW Unit, w.ownsMap Tryd.prog 3 (plainElem Tryd.prog 4) b L.length D ∧ ∀ x : Int, D.atKey (.int .i64 x) (.lit (.bool false)) = .lit (.bool (L.contains x))
theorem SetM.lt {w : World} {b : Nat} {L : List Int} (h : SetM w b L) : b < w.heap.size := by obtain ⟨D, h, _⟩ := h; exact h.lt
theorem SetM.go {w w' : World} {b : Nat} {L : List Int} (h : SetM w b L) (hb : w'.heap[b]? = w.heap[b]?) : SetM w' b L := by
  obtain ⟨D, ⟨es, clock, h1, h2⟩, h3⟩ := h
  exact ⟨D, ⟨es, clock, hb.trans h1, h2⟩, h3⟩
theorem SetM.made (w : World) : SetM (w.alloc (.map #[] 0)) w.heap.size [] := ⟨_, World.ownsMap_made _ _ _ _, fun x => rfl⟩
theorem SetM.look {w : World} {b : Nat} {L : List Int} (h : SetM w b L) (n : Int) (h1 : -9223372036854775808 ≤ n) (h2 : n ≤ 9223372036854775807) : (Instr.lookup 70 (.map (some b)) (.int .i64 n) false).run Tryd.prog w = .ok (.bool (L.contains n)) w := by
  obtain ⟨D, h, hD⟩ := h
  obtain ⟨v, ps, hrun, hv⟩ := h.lookup keyed_int und_set (zero_bool w) (plainElem_bool Tryd.underlying4 false) (Go.Maps.keyOf_int_mk Tryd.underlying3 (WalkArith.wf_i64 ⟨h1, h2⟩))
  obtain ⟨c, rfl, hc⟩ := plainElem_bool_inv Tryd.underlying4 hv
  simp only [Prod.mk.injEq] at hc
  rw [hD n] at hc
  have : L.contains n = c := by simpa using hc.1
  rw [this]; exact hrun
theorem SetM.put {w : World} {b : Nat} {L : List Int} (h : SetM w b L) (n : Int) (h1 : -9223372036854775808 ≤ n) (h2 : n ≤ 9223372036854775807) (hl : L.length ≤ 1000000) : ∃ w', (Instr.mapUpdate 70 (.map (some b)) (.int .i64 n) (.bool true)).run Tryd.prog w = .ok () w' ∧ SetM w' b (n :: L) ∧ w.grownBy w' (some b) := by
  obtain ⟨D, h, hD⟩ := h
  obtain ⟨w', hrun, r1, r2⟩ := h.update keyed_int und_set (by unfold maxLen; omega) (Go.Maps.keyOf_int_mk Tryd.underlying3 (WalkArith.wf_i64 ⟨h1, h2⟩)) (plainElem_bool Tryd.underlying4 true)
  refine ⟨w', hrun, ⟨_, r1, fun x => ?_⟩, r2⟩
  by_cases e : x = n
  · subst e
    rw [Go.Maps.atKey_put_same h.isMap (show WideAt.IsKeyLit (.int .i64 x) from trivial)]
    simp
  · rw [Go.Maps.atKey_put_other (by simpa using e), hD x, List.contains_cons, show (x == n) = false by simpa using e, Bool.false_or]
section
variable {ops : Array Oper} {rest : List Oper} {a : Act} {w : World} {Q : Exit → Act → World → Prop} {o : Oper} {b : Nat} {L : List Int}
theorem set_look (hg : o.guard = none) (m x : Operand) (hop : o.op = Op.lookup 70 m x false) (hm : a.eval m = .map (some b)) (n : Int) (hx : a.eval x = .int .i64 n) (hS : SetM w b L) (h1 : -9223372036854775808 ≤ n) (h2 : n ≤ 9223372036854775807)
    (hK : wpList Tryd.prog ops Q rest (a.put o.dst (.bool (L.contains n))) w) : wpList Tryd.prog ops Q (o :: rest) a w := by
  refine wpList_plain hg fun K' hK' => ?_
  have hrun := hS.look n h1 h2
  generalize L.contains n = c at hrun hK
  unfold Oper.wp
  simp [execOp, hop, hm, hx, hrun, Result.andThen]
  exact hK' _ _ hK
theorem set_put (hg : o.guard = none) (m x v : Operand) (hop : o.op = Op.mapUpdate 70 m x v) (hm : a.eval m = .map (some b)) (n : Int) (hx : a.eval x = .int .i64 n) (hv : a.eval v = .bool true) (hS : SetM w b L) (h1 : -9223372036854775808 ≤ n) (h2 : n ≤ 9223372036854775807) (hl : L.length ≤ 1000000)
    (hK : ∀ w', SetM w' b (n :: L) → w.grownBy w' (some b) → wpList Tryd.prog ops Q rest (a.put o.dst undef) w') : wpList Tryd.prog ops Q (o :: rest) a w := by
  refine wpList_plain hg fun K' hK' => ?_
  obtain ⟨w', hrun, r1, r2⟩ := hS.put n h1 h2 hl
  unfold Oper.wp
  simp [execOp, hop, hm, hx, hv, hrun, Result.andThen]
  exact hK' _ _ (hK w' r1 r2)
end
end Go.Proofs.YtlgdjbabbfdngaaDoor

