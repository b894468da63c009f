import Derived.Test.YtlgdjbabbfdngaaDoorZM0
import Derived.Test.YtlgdjbabbfdngaaDoorCards
import Derived.Test.YtlgdjbabbfdngaaDoorTie
import Derived.ProofKit
import Derived.OpenShut
import Derived.Deep.DeepHandedRow
import Derived.Lib.LaidTab
import Derived.Stop.LaidErr
import Derived.Carry
import Derived.ChangeMaps5
set_option linter.unusedVariables false
set_option linter.unusedSimpArgs false
namespace Go.Proofs.YtlgdjbabbfdngaaDoor
open Go.ChangeShapes Go.WideShapes Go.ChangeAt Go.RowKit
theorem i64_of_wf {a : Int} (h : (Lit.int .i64 a).wf = true) : -9223372036854775808 ≤ a ∧ a ≤ 9223372036854775807 := by
  simp [Lit.wf, IntKind.min, IntKind.max, IntKind.signed, IntKind.bits] at h
  omega
theorem ownO : ownKnob Tryd.prog.godebug = none := by kernel_rfl
theorem gStrCells : Tryd.prog.cellsOf 9 = 1 := by kernel_rfl
theorem gOps : Tryd.prog.globalNamed "cnc/syntax.operators" = some 0 := by kernel_rfl
theorem gOpsType : (Tryd.prog.globals[0]?).map (·.type) = some 98 := by kernel_rfl
theorem gOpsCells : Tryd.prog.cellsOf 98 = 52 := by kernel_rfl
theorem gOpCells : Tryd.prog.cellsOf 97 = 2 := by kernel_rfl
theorem gIntCells : Tryd.prog.cellsOf 3 = 1 := by kernel_rfl
def opsData (ls : List (List UInt8 × Int)) : DataW Unit := .agg (ls.map fun l => .agg [.lit (.string l.1), .lit (.int .i64 l.2)])
def opsL : List (List UInt8 × Int) := (List.range 26).map fun j => (Sy.onm j, (Sy.kds j : Int))
theorem opsData_laid : (Rows.laid_cnc_syntax_operators : DataW Unit) = opsData opsL := by kernel_rfl
theorem opsL_get (i : Nat) (h : i < 26) : opsL[i]? = some (Sy.onm i, (Sy.kds i : Int)) := by
  unfold opsL; rw [List.getElem?_map, List.getElem?_range h]; rfl
set_option maxRecDepth 100000 in
theorem ops_of {w : World} {sp : Nat → Bool} {held : Bool} {enc : TypeId × Value → Unit} {base fuel : Nat} {cs : List Value} {p : List MemPlace}
    (h : DataW.trod enc Tryd.prog w base sp held fuel 98 cs = some (opsData opsL, p)) (i : Nat) (hi : i < 26) : cs[i * 2]? = some (.string (bs (Sy.onm i))) ∧ cs[i * 2 + 1]? = some (.int .i64 (Sy.kds i : Nat)) := by
  cases fuel with
  | zero => simp [DataW.trod] at h
  | succ f =>
    simp only [DataW.trod, Tryd.underlying98, gOpCells, gOpsCells] at h
    split at h
    · obtain ⟨xs, hm, hx⟩ := Option.map_eq_some_iff.1 h
      obtain ⟨y, hy, hf⟩ := Lib.mapM_at hm i i (by simp [hi])
      obtain ⟨zs, n, rfl, rfl, hl, hz, hg⟩ := DataW.trod_struct Tryd.underlying97 hf
      have d0 : xs.map (·.1) = opsL.map fun l => (DataW.agg [.lit (.string l.1), .lit (.int .i64 l.2)] : DataW Unit) := by
        have := congrArg Prod.fst hx
        simpa [opsData] using this
      have e0 : (xs.map (·.1))[i]? = some (DataW.agg (zs.map (·.1))) := by rw [List.getElem?_map, hy]; rfl
      rw [d0, List.getElem?_map, opsL_get i hi] at e0
      simp only [Option.map_some, Option.some.injEq, DataW.agg.injEq] at e0
      have g0 := hg 0 _ rfl
      have g1 := hg 1 _ rfl
      match zs, e0, g0, g1 with
      | [z0, z1], e0, g0, g1 =>
        simp only [List.map_cons, List.map_nil, List.cons.injEq, and_true] at e0
        simp only [List.getElem?_cons_zero, List.getElem?_cons_succ, gStrCells, gIntCells] at g0 g1
        obtain ⟨s, hc, hs, _⟩ := DataW.trod_string Tryd.underlying9 g0
        obtain ⟨m, hc1, hs1, _⟩ := DataW.trod_int Tryd.underlying3 g1
        subst hs hs1
        obtain ⟨k0, k1⟩ := e0
        simp only [DataW.lit.injEq, Lit.string.injEq, Lit.int.injEq, true_and] at k0 k1
        have c0 := congrArg (fun l => l[0]?) hc
        have c1 := congrArg (fun l => l[0]?) hc1
        simp [List.getElem?_take, List.getElem?_drop] at c0 c1
        refine ⟨?_, ?_⟩
        · rw [c0.2, k0]; simp only [bs_of]
        · rw [c1.2, ← k1]
    · cases h
def tabsO : List (String × DataW Unit) := [("cnc/syntax.operators", Rows.laid_cnc_syntax_operators)]
theorem laidOps {W : World} {rest : List (String × DataW Unit)} (h1 : laidMet Tryd.prog (("cnc/syntax.operators", opsData opsL) :: rest) W) : Ow W := by
  obtain ⟨ps, ⟨g, t, cs, fuel, p, q, hg, ht, hvar, hd, _, _⟩, _⟩ := h1
  obtain rfl := Option.some.inj (gOps.symm.trans hg)
  obtain rfl := Option.some.inj (gOpsType.symm.trans ht)
  have cells : ∀ j, j < 26 → W.cell? ⟨0, j * 2, none⟩ = some (.string (bs (Sy.onm j))) ∧ W.cell? ⟨0, j * 2 + 1, none⟩ = some (.int .i64 (Sy.kds j : Nat)) := by
    intro j hj
    have c0 := World.var?_cell gOps hvar (j * 2)
    have c1 := World.var?_cell gOps hvar (j * 2 + 1)
    obtain ⟨t0, t1⟩ := ops_of hd j hj
    rw [c0, c1]
    exact ⟨by simpa using t0, by simpa using t1⟩
  refine ⟨?_, cells⟩
  have c := (cells 0 (by decide)).1
  rcases Nat.lt_or_ge 0 W.heap.size with h | h
  · exact h
  · simp [World.cell?, Array.getElem?_eq_none h] at c
theorem tableO {W : World} (h : laidMetH Tryd.prog tabsO W) : Ow W := by
  have h1 : laidMet Tryd.prog tabsO W := h
  unfold tabsO at h1
  rw [opsData_laid] at h1
  exact laidOps h1
def cellsLit : DataW Unit → Value
  | .lit (.string b) => .string ⟨b.toArray⟩
  | .lit (.int k n) => .int k n
  | _ => .bool false
def cellsO : DataW Unit → Array Value
  | .agg l => (l.flatMap fun x => match x with
    | .agg m => m.map cellsLit
    | y => [cellsLit y]).toArray
  | _ => #[]
noncomputable def laidWorldO (os : Os) : World :=
  let h0 := (World.holding Tryd.prog os ⟨#[], #[], []⟩).heap
  let put (x : DataW Unit) (o : Obj) : Obj := match o with
    | .cells _ t frozen => .cells (cellsO x) t frozen
    | o => o
  let h2 := h0.modify 0 (put Rows.laid_cnc_syntax_operators)
  { World.holding Tryd.prog os ⟨#[], #[], []⟩ with heap := h2 }
theorem laid_metO (os : Os) (args : Array Value) : laidMet Tryd.prog tabsO ((laidWorldO os).forCall (fun _ _ => 0) ⟨#[], args, []⟩).memory :=
  laidMet_of_run' 8 (by kernel_rfl) (by kernel_rfl)
theorem laidOutO : laidOutB Tryd.prog = true := by kernel_rfl
set_option maxRecDepth 100000 in
theorem in_ints {H : Type} {enc : TypeId × Value → H} {W : World} {base : Nat} {v : Value} {d : DataW H} {p : List MemPlace} (hval : Value.okWide Tryd.prog W .any base 23 v)
    (h : DataW.Trod enc Tryd.prog W 0 (fun _ => true) true 23 v d p) : ∃ zs, IntsB W.heap.size W v zs := by
  obtain ⟨a0, len, cap, rfl⟩ := okWide_slice Tryd.underlying23 hval
  obtain ⟨fuel, hf⟩ := h
  rcases open_ints Tryd.underlying23 Tryd.underlying3 gIntCells hf with ⟨hcs, hx⟩ | ⟨a, len', cap', zs, hcs, _, hl, hm, hz, hx, hcell, hwz⟩
  · simp [Value.cells] at hcs
    obtain ⟨rfl, rfl, rfl⟩ := hcs
    refine ⟨[], none, 0, by simp, by simp, by simp, .inl rfl⟩
  · simp [Value.cells] at hcs
    obtain ⟨rfl, rfl, rfl⟩ := hcs
    simp only [if_true] at hz
    have lt : (zs.take len).length = len := by rw [List.length_take]; omega
    refine ⟨zs.take len, some a, cap, by rw [lt], by omega, by unfold maxLen at hm; omega, ?_⟩
    by_cases h0 : len = 0
    · left; subst h0; rfl
    · right
      obtain ⟨b, off, spot⟩ := a
      have hspot : spot = none := by simpa [Addr.add] using World.cell?_spot (hcell 0 (by omega))
      subst hspot
      have hb : b < W.heap.size := by
        have c := hcell 0 (by omega)
        rcases Nat.lt_or_ge b W.heap.size with h | h
        · exact h
        · simp [World.cell?, Addr.add, Array.getElem?_eq_none h] at c
      refine ⟨b, off, rfl, hb, fun i hi => ?_⟩
      rw [lt] at hi
      have g : (zs.take len).getD i 0 = zs.getD i 0 := by rw [List.getD_eq_getElem?_getD, List.getD_eq_getElem?_getD, List.getElem?_take_of_lt hi]
      have w := i64_of_wf (hwz (zs.getD i 0) (by rw [List.getD_eq_getElem?_getD, List.getElem?_eq_getElem (by omega)]; exact List.getElem_mem _))
      rw [g]
      exact ⟨by rw [← add_plain]; exact hcell i (by omega), w⟩
theorem out_ints {H : Type} {enc : TypeId × Value → H} {W W' : World} {v : Value} {d : DataW H} {p : List MemPlace} (h : DataW.Trod enc Tryd.prog W 0 (fun _ => true) true 23 v d p) (bel : Below W.heap.size W W')
    (hlt : ∀ x ∈ p, x.block < W.heap.size) : DataW.Trod enc Tryd.prog W' 0 (fun b => decide (b < W.heap.size)) true 23 v d p :=
  Below.trod laidOutO (by kernel_rfl) (of_decide_eq_true (by kernel_rfl)) h bel hlt
end Go.Proofs.YtlgdjbabbfdngaaDoor
set_option linter.unusedVariables false
set_option linter.unusedSimpArgs false
namespace Go.Proofs.YtlgdjbabbfdngaaDoor
namespace Lb
open Sy
structure Pg where
  num : Int
  first : Nat
  fin : Nat
structure St where
  i : Nat
  op : List (Nat × Int)
  pg : List Pg
  lab : List Int
  mate : List Int
def st0 : St := ⟨0, [], [⟨0, 0, 0⟩], [], []⟩
inductive Rs where
  | bad (at_ : Nat) (err : Int)
  | ok (s : St)
def pgS (b : Bl) (s : St) : Rs :=
  if b.kind = 6 then
    match s.op with
    | (j, _) :: _ => .bad j 11
    | [] => if s.pg.any (fun p => p.num == b.n) = true then .bad s.i 7 else .ok { s with pg := s.pg ++ [⟨b.n, s.i, s.i⟩], lab := [] }
  else .ok s
def labS (b : Bl) (s : St) : Rs :=
  if 0 < b.label then (if s.lab.contains b.label = true then .bad s.i 7 else .ok { s with lab := b.label :: s.lab }) else .ok s
def more (i : Nat) : List Pg → List Pg
  | [] => []
  | [p] => [{ p with fin := i + 1 }]
  | p :: l => p :: more i l
def loopS (b : Bl) (s : St) : Rs :=
  if b.kind = 4 then (if s.op.any (fun p => p.2 == b.n) = true then .bad s.i 11 else .ok { s with i := s.i + 1, op := (s.i, b.n) :: s.op, mate := s.mate ++ [-1] })
  else if b.kind = 5 then
    match s.op with
    | [] => .bad s.i 11
    | (j, n) :: r => if n = b.n then .ok { s with i := s.i + 1, op := r, mate := (s.mate ++ [(j : Int)]).set j s.i } else .bad s.i 11
  else .ok { s with i := s.i + 1, mate := s.mate ++ [-1] }
def stepS (b : Bl) (s : St) : Rs := match pgS b s with
  | .bad j e => .bad j e
  | .ok s => match labS b s with
    | .bad j e => .bad j e
    | .ok s => loopS b { s with pg := more s.i s.pg }
def run : List Bl → St → Rs
  | [], s => .ok s
  | b :: l, s => match stepS b s with
    | .bad j e => .bad j e
    | .ok s => run l s
def fin : Rs → Rs
  | .bad j e => .bad j e
  | .ok s => match s.op with
    | (j, _) :: _ => .bad j 11
    | [] => .ok s
def inv : List Bl → Nat → Option Nat
  | [], _ => none
  | b :: l, i => if vldb b = true then inv l (i + 1) else some i
def build (l : List Bl) : Rs :=
  if 2000 < l.length then .bad 0 10 else match inv l 0 with
    | some i => .bad i 1
    | none => fin (run l st0)
theorem run_app (l r : List Bl) : ∀ s, run (l ++ r) s = match run l s with
    | .bad j e => .bad j e
    | .ok s => run r s := by
  induction l with
  | nil => intro s; rfl
  | cons b l ih =>
    intro s
    show (match stepS b s with | .bad j e => Rs.bad j e | .ok s => run (l ++ r) s) = match (match stepS b s with | .bad j e => Rs.bad j e | .ok s => run l s) with | .bad j e => .bad j e | .ok s => run r s
    cases stepS b s with
    | bad j e => rfl
    | ok s => exact ih s
theorem run_one {l : List Bl} {s0 s s' : St} {b : Bl} (h : run l s0 = .ok s) (k : stepS b s = .ok s') : run (l ++ [b]) s0 = .ok s' := by
  rw [run_app, h]
  show (match stepS b s with | .bad j e => Rs.bad j e | .ok s => run [] s) = _
  rw [k]; rfl
theorem inv_none {l : List Bl} (h : ∀ b ∈ l, vldb b = true) : ∀ i, inv l i = none := by
  induction l with
  | nil => intro i; rfl
  | cons b l ih =>
    intro i
    unfold inv
    rw [if_pos (h b (List.mem_cons_self ..))]
    exact ih (fun c hc => h c (List.mem_cons_of_mem _ hc)) _
theorem more_nums (i : Nat) : ∀ l : List Pg, (more i l).map (·.num) = l.map (·.num)
  | [] => rfl
  | [p] => rfl
  | p :: q :: l => by
    show p.num :: (more i (q :: l)).map (·.num) = _
    rw [more_nums i (q :: l)]; rfl
theorem more_any (i : Nat) (n : Int) : ∀ l : List Pg, (more i l).any (fun p => p.num == n) = l.any (fun p => p.num == n)
  | [] => rfl
  | [p] => rfl
  | p :: q :: l => by
    show (p.num == n || (more i (q :: l)).any (fun p => p.num == n)) = _
    rw [more_any i n (q :: l)]; rfl
def down : Nat → List Int
  | 0 => []
  | k + 1 => ((k + 1 : Nat) : Int) :: down k
theorem down_le : ∀ (k : Nat), ∀ n ∈ down k, 1 ≤ n ∧ n ≤ k
  | 0, _, h => by cases h
  | k + 1, n, h => by
    rcases List.mem_cons.1 h with rfl | h
    · exact ⟨by omega, Int.le_refl _⟩
    · have := down_le k n h; omega
def nums (k : Nat) : List Int := (List.range k).map (fun i : Nat => (i : Int))
theorem nums_succ (k : Nat) : nums (k + 1) = nums k ++ [(k : Int)] := by unfold nums; rw [List.range_succ, List.map_append]; rfl
def lay : Nat → List Pg → Nat → Prop
  | a, [], z => a = z
  | a, p :: l, z => p.first = a ∧ a ≤ p.fin ∧ lay p.fin l z
theorem lay_more : ∀ {l : List Pg} {a z : Nat}, l ≠ [] → lay a l z → lay a (more z l) (z + 1)
  | [], _, _, h, _ => absurd rfl h
  | [p], a, z, _, h => by
    obtain ⟨h1, h2, h3⟩ := h
    have : p.fin = z := h3
    exact ⟨h1, by show a ≤ z + 1; omega, rfl⟩
  | p :: q :: l, a, z, _, h => ⟨h.1, h.2.1, lay_more (by simp) h.2.2⟩
theorem lay_app {q : Pg} : ∀ {l : List Pg} {a z : Nat}, lay a l z → q.first = z → q.fin = z → lay a (l ++ [q]) z
  | [], a, z, h, h1, h2 => by have h' : a = z := h; subst h'; exact ⟨h1, by rw [h2]; exact Nat.le_refl _, h2⟩
  | p :: l, a, z, h, h1, h2 => ⟨h.1, h.2.1, lay_app h.2.2 h1 h2⟩
def Inc (l : List Bl) : Prop := l.Pairwise (fun a b => a.label ≠ 0 → b.label ≠ 0 → a.label < b.label)
theorem inc_app {l : List Bl} {b : Bl} {lab : Int} (h : Inc l) (hl : ∀ c ∈ l, c.label ≤ lab) (hb : b.label = 0 ∨ b.label = lab + 1) : Inc (l ++ [b]) := by
  unfold Inc
  rw [List.pairwise_append]
  refine ⟨h, List.pairwise_singleton _ _, fun a ha c hc h1 h2 => ?_⟩
  rw [List.mem_singleton.1 hc] at h2 ⊢
  have := hl a ha
  omega
theorem lb_app {l : List Bl} {b : Bl} {lab : Int} (hl : ∀ c ∈ l, c.label ≤ lab) (hb : b.label = 0 ∨ b.label = lab + 1) (h0 : 0 ≤ lab) : ∀ c ∈ l ++ [b], c.label ≤ lab + 1 := fun c hc => by
  rcases List.mem_append.1 hc with hc | hc
  · have := hl c hc; omega
  · rw [List.mem_singleton.1 hc]; omega
structure Fl (p : Nat) (lab : Int) (k : Nat) (l : List Bl) (s : St) : Prop where
  run : run l st0 = .ok s
  op : s.op.map (·.2) = down k
  pg : ∀ q ∈ s.pg, 0 ≤ q.num ∧ q.num ≤ p
  lo : ∀ x ∈ s.lab, x ≤ lab
  vld : ∀ b ∈ l, vldb b = true
  nm : s.pg.map (·.num) = nums (p + 1)
  ly : lay 0 s.pg s.i
  lb : ∀ b ∈ l, b.label ≤ lab
  inc : Inc l
theorem Fl.ne {p : Nat} {lab : Int} {k : Nat} {l : List Bl} {s : St} (h : Fl p lab k l s) : s.pg ≠ [] := fun e => by
  have := h.nm
  rw [e, nums_succ] at this
  simp at this
theorem Fl.start : Fl 0 0 0 [] st0 := ⟨rfl, rfl, by intro q hq; simp [st0] at hq; subst hq; exact ⟨by decide, by decide⟩, by simp [st0], by simp, rfl, ⟨rfl, Nat.le_refl _, rfl⟩, by simp, List.Pairwise.nil⟩
theorem Fl.skip {p : Nat} {lab lab' : Int} {k : Nat} {l : List Bl} {s : St} (h : Fl p lab k l s) (hl : lab ≤ lab') : Fl p lab' k l s := ⟨h.run, h.op, h.pg, fun x hx => by have := h.lo x hx; omega, h.vld, h.nm, h.ly, fun b hb => by have := h.lb b hb; omega, h.inc⟩
theorem more_mem {i : Nat} {p : Nat} : ∀ {l : List Pg}, (∀ q ∈ l, 0 ≤ q.num ∧ q.num ≤ p) → ∀ q ∈ more i l, 0 ≤ q.num ∧ q.num ≤ p := fun {l} h q hq => by
  have : q.num ∈ (more i l).map (·.num) := List.mem_map.2 ⟨q, hq, rfl⟩
  rw [more_nums] at this
  obtain ⟨r, hr, e⟩ := List.mem_map.1 this
  rw [← e]; exact h r hr
theorem labS_new {b : Bl} {s : St} {lab : Int} (h : ∀ x ∈ s.lab, x ≤ lab) (hb : b.label = 0 ∨ b.label = lab + 1) (h0 : 0 ≤ lab) : ∃ s', labS b s = .ok s' ∧ s'.i = s.i ∧ s'.op = s.op ∧ s'.pg = s.pg ∧ s'.mate = s.mate ∧ ∀ x ∈ s'.lab, x ≤ lab + 1 := by
  unfold labS
  rcases hb with hb | hb
  · rw [if_neg (by omega)]
    exact ⟨s, rfl, rfl, rfl, rfl, rfl, fun x hx => by have := h x hx; omega⟩
  · rw [if_pos (by omega), if_neg]
    · exact ⟨_, rfl, rfl, rfl, rfl, rfl, fun x hx => by
        rcases List.mem_cons.1 hx with rfl | hx
        · omega
        · have := h x hx; omega⟩
    · intro hc
      have := h _ (by simpa using hc)
      omega
theorem vld_app {l : List Bl} {b : Bl} (h : ∀ c ∈ l, vldb c = true) (hb : vldb b = true) : ∀ c ∈ l ++ [b], vldb c = true := fun c hc => by
  rcases List.mem_append.1 hc with hc | hc
  · exact h c hc
  · rw [List.mem_singleton.1 hc]; exact hb
theorem Fl.plain {p : Nat} {lab : Int} {k : Nat} {l : List Bl} {s : St} (h : Fl p lab k l s) {b : Bl} (hk : b.kind ≠ 4 ∧ b.kind ≠ 5 ∧ b.kind ≠ 6) (hb : b.label = 0 ∨ b.label = lab + 1) (h0 : 0 ≤ lab) (hv : vldb b = true) : ∃ s', Fl p (lab + 1) k (l ++ [b]) s' := by
  obtain ⟨s1, e1, f1, f2, f3, f4, f5⟩ := labS_new h.lo hb h0
  refine ⟨_, ⟨run_one h.run (s' := { s1 with pg := more s1.i s1.pg, i := s1.i + 1, mate := s1.mate ++ [-1] }) ?_, by show s1.op.map _ = _; rw [f2]; exact h.op, ?_, f5, vld_app h.vld hv, by show (more s1.i s1.pg).map _ = _; rw [more_nums, f3]; exact h.nm, by show lay 0 (more s1.i s1.pg) (s1.i + 1); rw [f3, f1]; exact lay_more h.ne h.ly, lb_app h.lb hb h0, inc_app h.inc h.lb hb⟩⟩
  · unfold stepS pgS
    rw [if_neg hk.2.2]
    simp only
    rw [e1]
    simp only
    unfold loopS
    rw [if_neg hk.1, if_neg hk.2.1]
  · show ∀ q ∈ more s1.i s1.pg, _
    rw [f3]; exact more_mem h.pg
theorem Fl.while_ {p : Nat} {lab : Int} {k : Nat} {l : List Bl} {s : St} (h : Fl p lab k l s) {b : Bl} (hk : b.kind = 4) (hn : b.n = (k : Int) + 1) (hb : b.label = 0 ∨ b.label = lab + 1) (h0 : 0 ≤ lab) (hv : vldb b = true) : ∃ s', Fl p (lab + 1) (k + 1) (l ++ [b]) s' := by
  obtain ⟨s1, e1, f1, f2, f3, f4, f5⟩ := labS_new h.lo hb h0
  have hop : s1.op.any (fun q => q.2 == b.n) = false := by
    rw [f2, List.any_eq_false]
    intro q hq hc
    have m : q.2 ∈ down k := by rw [← h.op]; exact List.mem_map.2 ⟨q, hq, rfl⟩
    have := down_le k _ m
    have e : q.2 = b.n := by simpa using hc
    omega
  refine ⟨_, ⟨run_one h.run (s' := { s1 with pg := more s1.i s1.pg, i := s1.i + 1, op := (s1.i, b.n) :: s1.op, mate := s1.mate ++ [-1] }) ?_, ?_, ?_, f5, vld_app h.vld hv, by show (more s1.i s1.pg).map _ = _; rw [more_nums, f3]; exact h.nm, by show lay 0 (more s1.i s1.pg) (s1.i + 1); rw [f3, f1]; exact lay_more h.ne h.ly, lb_app h.lb hb h0, inc_app h.inc h.lb hb⟩⟩
  · unfold stepS pgS
    rw [if_neg (by omega)]
    simp only
    rw [e1]
    simp only
    unfold loopS
    rw [if_pos hk, if_neg (by show ¬ s1.op.any _ = true; rw [hop]; decide)]
  · show b.n :: s1.op.map _ = _
    rw [f2, h.op, hn]
    show _ = ((k + 1 : Nat) : Int) :: down k
    rw [show ((k + 1 : Nat) : Int) = (k : Int) + 1 by omega]
  · show ∀ q ∈ more s1.i s1.pg, _
    rw [f3]; exact more_mem h.pg
theorem Fl.end_ {p : Nat} {lab : Int} {k : Nat} {l : List Bl} {s : St} (h : Fl p lab (k + 1) l s) {b : Bl} (hk : b.kind = 5) (hn : b.n = (k : Int) + 1) (hb : b.label = 0 ∨ b.label = lab + 1) (h0 : 0 ≤ lab) (hv : vldb b = true) : ∃ s', Fl p (lab + 1) k (l ++ [b]) s' := by
  obtain ⟨s1, e1, f1, f2, f3, f4, f5⟩ := labS_new h.lo hb h0
  have hop := h.op
  rw [← f2] at hop
  cases hs : s1.op with
  | nil => rw [hs] at hop; cases hop
  | cons q r =>
    obtain ⟨j, m⟩ := q
    rw [hs] at hop
    have hop' : m :: r.map (·.2) = ((k + 1 : Nat) : Int) :: down k := hop
    obtain ⟨hm, hr⟩ := List.cons.inj hop'
    refine ⟨_, ⟨run_one h.run (s' := { s1 with pg := more s1.i s1.pg, i := s1.i + 1, op := r, mate := (s1.mate ++ [(j : Int)]).set j s1.i }) ?_, hr, ?_, f5, vld_app h.vld hv, by show (more s1.i s1.pg).map _ = _; rw [more_nums, f3]; exact h.nm, by show lay 0 (more s1.i s1.pg) (s1.i + 1); rw [f3, f1]; exact lay_more h.ne h.ly, lb_app h.lb hb h0, inc_app h.inc h.lb hb⟩⟩
    · unfold stepS pgS
      rw [if_neg (by omega)]
      simp only
      rw [e1]
      simp only
      unfold loopS
      rw [if_neg (by omega), if_pos hk]
      simp only [hs]
      rw [if_pos (by omega)]
    · show ∀ q ∈ more s1.i s1.pg, _
      rw [f3]; exact more_mem h.pg
theorem Fl.prog {p : Nat} {lab : Int} {l : List Bl} {s : St} (h : Fl p lab 0 l s) {b : Bl} (hk : b.kind = 6) (hn : b.n = (p : Int) + 1) (hb : b.label = 0) (hv : vldb b = true) (h0 : 0 ≤ lab) : ∃ s', Fl (p + 1) lab 0 (l ++ [b]) s' := by
  have hop : s.op = [] := by
    have := h.op
    exact List.map_eq_nil_iff.1 this
  have hpg : s.pg.any (fun q => q.num == b.n) = false := by
    rw [List.any_eq_false]
    intro q hq hc
    have := h.pg q hq
    have e : q.num = b.n := by simpa using hc
    omega
  refine ⟨_, ⟨run_one h.run (s' := { s with pg := more s.i (s.pg ++ [⟨b.n, s.i, s.i⟩]), lab := [], i := s.i + 1, mate := s.mate ++ [-1] }) ?_, ?_, ?_, (by intro x hx; cases hx), vld_app h.vld hv, by show (more s.i (s.pg ++ [⟨b.n, s.i, s.i⟩])).map _ = _; rw [more_nums, List.map_append, h.nm, nums_succ (p + 1)]; congr 1; show [b.n] = _; rw [hn, show ((p + 1 : Nat) : Int) = (p : Int) + 1 by omega], lay_more (by simp) (lay_app h.ly rfl rfl), fun c hc => by
    rcases List.mem_append.1 hc with hc | hc
    · exact h.lb c hc
    · rw [List.mem_singleton.1 hc]; omega, inc_app h.inc h.lb (.inl hb)⟩⟩
  · unfold stepS pgS
    rw [if_pos hk]
    simp only [hop]
    rw [if_neg (by rw [hpg]; decide)]
    simp only
    unfold labS
    rw [if_neg (by omega)]
    simp only
    unfold loopS
    rw [if_neg (by omega), if_neg (by omega)]
  · show s.op.map _ = _
    rw [hop]; rfl
  · refine more_mem (fun q hq => ?_)
    rcases List.mem_append.1 hq with hq | hq
    · have := h.pg q hq; omega
    · rw [List.mem_singleton.1 hq]
      exact ⟨by show 0 ≤ b.n; omega, by show b.n ≤ _; omega⟩
theorem Fl.build {p : Nat} {lab : Int} {l : List Bl} {s : St} (h : Fl p lab 0 l s) (hl : l.length ≤ 2000) : build l = .ok s := by
  have hop : s.op = [] := List.map_eq_nil_iff.1 h.op
  unfold Lb.build
  rw [if_neg (by omega), inv_none h.vld, h.run]
  unfold fin
  simp only [hop]
end Lb
end Go.Proofs.YtlgdjbabbfdngaaDoor
set_option linter.unusedVariables false
set_option linter.unusedSimpArgs false
namespace Go.Proofs.YtlgdjbabbfdngaaDoor
namespace Lb
open Sy
def kdL (l : List Bl) (k : Nat) : Int := match l[k]? with | some b => b.kind | none => 0
def nnL (l : List Bl) (k : Nat) : Int := match l[k]? with | some b => b.n | none => 0
def mt (s : St) (k : Nat) : Int := s.mate.getD k (-1)
theorem kdL_old {l : List Bl} (b : Bl) {k : Nat} (h : k < l.length) : kdL (l ++ [b]) k = kdL l k := by unfold kdL; rw [List.getElem?_append_left h]
theorem nnL_old {l : List Bl} (b : Bl) {k : Nat} (h : k < l.length) : nnL (l ++ [b]) k = nnL l k := by unfold nnL; rw [List.getElem?_append_left h]
theorem kdL_new (l : List Bl) (b : Bl) : kdL (l ++ [b]) l.length = b.kind := by unfold kdL; simp
theorem nnL_new (l : List Bl) (b : Bl) : nnL (l ++ [b]) l.length = b.n := by unfold nnL; simp
structure Mi (l : List Bl) (s : St) : Prop where
  hi : s.i = l.length
  hm : s.mate.length = l.length
  op : ∀ q ∈ s.op, q.1 < l.length ∧ kdL l q.1 = 4 ∧ nnL l q.1 = q.2 ∧ mt s q.1 = -1
  srt : s.op.Pairwise (fun a b => b.1 < a.1)
  no : ∀ k, k < l.length → kdL l k ≠ 4 → kdL l k ≠ 5 → mt s k = -1
  wh : ∀ k, k < l.length → kdL l k = 4 → (mt s k = -1 ∧ ∃ n, (k, n) ∈ s.op) ∨ (∃ m : Nat, m < l.length ∧ k < m ∧ mt s k = m ∧ kdL l m = 5 ∧ mt s m = k ∧ nnL l m = nnL l k)
  en : ∀ k, k < l.length → kdL l k = 5 → ∃ m : Nat, m < k ∧ mt s k = m ∧ kdL l m = 4 ∧ mt s m = k
  cr : ∀ q ∈ s.op, ∀ k, q.1 < k → k < l.length → 0 ≤ mt s k → (q.1 : Int) < mt s k
  cx : ∀ a b : Nat, a < b → mt s a = b → ∀ k, a < k → k < b → 0 ≤ mt s k → (a : Int) ≤ mt s k ∧ mt s k ≤ b
theorem Mi.start : Mi [] st0 := ⟨rfl, rfl, fun q hq => by simp [st0] at hq, by simp [st0], fun k h => by simp at h, fun k h => by simp at h, fun k h => by simp at h, fun q hq => by simp [st0] at hq, fun a b _ h => by simp [mt, st0] at h⟩
theorem Mi.lt {l : List Bl} {s : St} (h : Mi l s) {k : Nat} : mt s k < l.length := by
  by_cases hk : k < l.length
  · by_cases h4 : kdL l k = 4
    · rcases h.wh k hk h4 with ⟨e, _⟩ | ⟨m, m1, _, e, _⟩
      · omega
      · omega
    · by_cases h5 : kdL l k = 5
      · obtain ⟨m, m1, e, _⟩ := h.en k hk h5
        omega
      · have := h.no k hk h4 h5
        omega
  · unfold mt
    rw [List.getD_eq_getElem?_getD, List.getElem?_eq_none (by rw [h.hm]; omega)]
    show (-1 : Int) < _
    omega
theorem loopS_keep {b : Bl} {s : St} {pg : List Pg} {lab : List Int} {s' : St} (h : loopS b { s with pg := pg, lab := lab } = .ok s') : ∃ s1, loopS b s = .ok s1 ∧ s1.i = s'.i ∧ s1.op = s'.op ∧ s1.mate = s'.mate ∧ s'.pg = pg ∧ s'.lab = lab := by
  unfold loopS at h ⊢
  by_cases h4 : b.kind = 4
  · rw [if_pos h4] at h ⊢
    simp only at h
    by_cases ha : s.op.any (fun p => p.2 == b.n) = true
    · rw [if_pos ha] at h; cases h
    · rw [if_neg ha] at h ⊢
      injection h with h; subst h
      exact ⟨_, rfl, rfl, rfl, rfl, rfl, rfl⟩
  · rw [if_neg h4] at h ⊢
    by_cases h5 : b.kind = 5
    · rw [if_pos h5] at h ⊢
      cases ho : s.op with
      | nil => simp only [ho] at h; cases h
      | cons q r =>
        obtain ⟨j, n⟩ := q
        simp only [ho] at h ⊢
        by_cases hn : n = b.n
        · rw [if_pos hn] at h ⊢
          injection h with h; subst h
          exact ⟨_, rfl, rfl, rfl, rfl, rfl, rfl⟩
        · rw [if_neg hn] at h; cases h
    · rw [if_neg h5] at h ⊢
      injection h with h; subst h
      exact ⟨_, rfl, rfl, rfl, rfl, rfl, rfl⟩
theorem Mi.same {l : List Bl} {s s' : St} (h : Mi l s) (h1 : s.i = s'.i) (h2 : s.op = s'.op) (h3 : s.mate = s'.mate) : Mi l s' := by
  have e : ∀ k, mt s' k = mt s k := fun k => by unfold mt; rw [h3]
  obtain ⟨a1, a2, a3, a4, a5, a6, a7, a8, a9⟩ := h
  refine ⟨h1 ▸ a1, h3 ▸ a2, ?_, h2 ▸ a4, ?_, ?_, ?_, ?_, ?_⟩
  · intro q hq; rw [e]; exact a3 q (h2 ▸ hq)
  · intro k; rw [e]; exact a5 k
  · intro k hk h4
    rw [e]
    rcases a6 k hk h4 with ⟨x, n, y⟩ | ⟨m, x⟩
    · exact .inl ⟨x, n, h2 ▸ y⟩
    · exact .inr ⟨m, by rw [e]; exact x⟩
  · intro k hk h5
    obtain ⟨m, x⟩ := a7 k hk h5
    exact ⟨m, by rw [e, e]; exact x⟩
  · intro q hq k; rw [e]; exact a8 q (h2 ▸ hq) k
  · intro a b hab; rw [e]; intro hm k; rw [e]; exact a9 a b hab hm k
theorem mt_app {s s' : St} {x : Int} (h : s'.mate = s.mate ++ [x]) {k : Nat} (hk : k < s.mate.length) : mt s' k = mt s k := by
  unfold mt; rw [h, List.getD_eq_getElem?_getD, List.getD_eq_getElem?_getD, List.getElem?_append_left hk]
theorem mt_last {s s' : St} {x : Int} (h : s'.mate = s.mate ++ [x]) : mt s' s.mate.length = x := by
  unfold mt; rw [h, List.getD_eq_getElem?_getD]; simp
theorem Mi.grow {l : List Bl} {s s' : St} {b : Bl} (h : Mi l s) (h1 : s'.i = s.i + 1) (h3 : s'.mate = s.mate ++ [-1]) (ho : (b.kind ≠ 4 ∧ b.kind ≠ 5 ∧ s'.op = s.op) ∨ (b.kind = 4 ∧ s'.op = (s.i, b.n) :: s.op)) : Mi (l ++ [b]) s' := by
  have hl : (l ++ [b]).length = l.length + 1 := by simp
  have old : ∀ k, k < l.length → mt s' k = mt s k := fun k hk => mt_app h3 (by rw [h.hm]; exact hk)
  have new : mt s' l.length = -1 := by rw [← h.hm]; exact mt_last h3
  have far : ∀ k, l.length ≤ k → mt s' k = -1 := fun k hk => by
    by_cases c : k = l.length
    · rw [c]; exact new
    · unfold mt
      rw [List.getD_eq_getElem?_getD, List.getElem?_eq_none (by rw [h3]; simp; have := h.hm; omega)]; rfl
  have k5 : b.kind ≠ 5 := by rcases ho with ho | ho <;> omega
  have opq : ∀ q ∈ s'.op, (q ∈ s.op) ∨ (b.kind = 4 ∧ q = (l.length, b.n)) := fun q hq => by
    rcases ho with ⟨_, _, e⟩ | ⟨e4, e⟩
    · rw [e] at hq; exact .inl hq
    · rw [e] at hq
      rcases List.mem_cons.1 hq with rfl | hq
      · exact .inr ⟨e4, by rw [h.hi]⟩
      · exact .inl hq
  refine ⟨by rw [h1, h.hi, hl], by rw [h3]; simp [h.hm], ?_, ?_, ?_, ?_, ?_, ?_, ?_⟩
  · intro q hq
    rcases opq q hq with hq | ⟨h4, rfl⟩
    · obtain ⟨x1, x2, x3, x4⟩ := h.op q hq
      exact ⟨by rw [hl]; omega, by rw [kdL_old b x1]; exact x2, by rw [nnL_old b x1]; exact x3, by rw [old _ x1]; exact x4⟩
    · exact ⟨by rw [hl]; exact Nat.lt_succ_self _, by rw [kdL_new]; exact h4, nnL_new l b, new⟩
  · rcases ho with ⟨_, _, e⟩ | ⟨_, e⟩
    · rw [e]; exact h.srt
    · rw [e]
      exact List.Pairwise.cons (fun q hq => by rw [h.hi]; exact (h.op q hq).1) h.srt
  · intro k hk a4 a5
    by_cases c : k < l.length
    · rw [kdL_old b c] at a4 a5; rw [old k c]; exact h.no k c a4 a5
    · exact far k (by omega)
  · intro k hk a4
    by_cases c : k < l.length
    · rw [kdL_old b c] at a4
      rcases h.wh k c a4 with ⟨x, n, y⟩ | ⟨m, m1, m2, m3, m4, m5, m6⟩
      · refine .inl ⟨by rw [old k c]; exact x, n, ?_⟩
        rcases ho with ⟨_, _, e⟩ | ⟨_, e⟩
        · rw [e]; exact y
        · rw [e]; exact List.mem_cons_of_mem _ y
      · exact .inr ⟨m, by rw [hl]; omega, m2, by rw [old k c]; exact m3, by rw [kdL_old b m1]; exact m4, by rw [old m m1]; exact m5, by rw [nnL_old b m1, nnL_old b c]; exact m6⟩
    · obtain rfl : k = l.length := by rw [hl] at hk; omega
      rw [kdL_new] at a4
      rcases ho with ⟨e4, _⟩ | ⟨_, e⟩
      · exact absurd a4 e4
      · exact .inl ⟨new, b.n, by rw [e, h.hi]; exact List.mem_cons_self ..⟩
  · intro k hk a5
    by_cases c : k < l.length
    · rw [kdL_old b c] at a5
      obtain ⟨m, m1, m2, m3, m4⟩ := h.en k c a5
      exact ⟨m, m1, by rw [old k c]; exact m2, by rw [kdL_old b (by omega)]; exact m3, by rw [old m (by omega)]; exact m4⟩
    · obtain rfl : k = l.length := by rw [hl] at hk; omega
      rw [kdL_new] at a5
      exact absurd a5 k5
  · intro q hq k x1 x2 x3
    by_cases c : k < l.length
    · rw [old k c] at x3 ⊢
      rcases opq q hq with hq | ⟨_, rfl⟩
      · exact h.cr q hq k x1 c x3
      · exact absurd x1 (by show ¬ l.length < k; omega)
    · rw [far k (by omega)] at x3; omega
  · intro a c hac hm k x1 x2 x3
    have ca : a < l.length := by
      rcases Nat.lt_or_ge a l.length with g | g
      · exact g
      · rw [far a g] at hm; omega
    rw [old a ca] at hm
    have cc : c < l.length := by have := h.lt (k := a); omega
    rw [old k (by omega)] at x3 ⊢
    exact h.cx a c hac hm k x1 x2 x3
theorem Mi.close {l : List Bl} {s s' : St} {b : Bl} (h : Mi l s) {j : Nat} {r : List (Nat × Int)} (h5 : b.kind = 5) (ho : s.op = (j, b.n) :: r) (h1 : s'.i = s.i + 1) (h2 : s'.op = r) (h3 : s'.mate = (s.mate ++ [(j : Int)]).set j s.i) : Mi (l ++ [b]) s' := by
  have hl : (l ++ [b]).length = l.length + 1 := by simp
  obtain ⟨j1, j2, j3, j4⟩ := h.op (j, b.n) (by rw [ho]; exact List.mem_cons_self ..)
  simp only at j1 j2 j3 j4
  have srt := h.srt
  rw [ho] at srt
  obtain ⟨sr1, sr2⟩ := List.pairwise_cons.1 srt
  have hj : mt s' j = l.length := by
    unfold mt
    rw [h3, List.getD_eq_getElem?_getD, List.getElem?_set, if_pos rfl, if_pos (by simp [h.hm]; omega), h.hi]; rfl
  have old : ∀ k, k < l.length → k ≠ j → mt s' k = mt s k := fun k hk hne => by
    unfold mt
    rw [h3, List.getD_eq_getElem?_getD, List.getD_eq_getElem?_getD, List.getElem?_set, if_neg (Ne.symm hne), List.getElem?_append_left (by rw [h.hm]; exact hk)]
  have new : mt s' l.length = j := by
    unfold mt
    rw [h3, List.getD_eq_getElem?_getD, List.getElem?_set, if_neg (by omega), ← h.hm]
    simp
  have far : ∀ k, l.length < k → mt s' k = -1 := fun k hk => by
    unfold mt
    rw [List.getD_eq_getElem?_getD, List.getElem?_eq_none (by rw [h3]; simp; have := h.hm; omega)]; rfl
  -- whose mate is j, or who is j
  have nj : ∀ k, k < l.length → mt s k ≠ j := fun k hk e => by
    by_cases a4 : kdL l k = 4
    · rcases h.wh k hk a4 with ⟨x, _⟩ | ⟨m, _, _, m3, m4, _⟩
      · omega
      · have : m = j := by omega
        rw [this] at m4; omega
    · by_cases a5 : kdL l k = 5
      · obtain ⟨m, m1, m2, m3, m4⟩ := h.en k hk a5
        have : m = j := by omega
        rw [this, j4] at m4; omega
      · have := h.no k hk a4 a5; omega
  refine ⟨by rw [h1, h.hi, hl], by rw [h3]; simp [h.hm], ?_, by rw [h2]; exact sr2, ?_, ?_, ?_, ?_, ?_⟩
  · intro q hq
    rw [h2] at hq
    obtain ⟨x1, x2, x3, x4⟩ := h.op q (by rw [ho]; exact List.mem_cons_of_mem _ hq)
    have := sr1 q hq
    exact ⟨by rw [hl]; omega, by rw [kdL_old b x1]; exact x2, by rw [nnL_old b x1]; exact x3, by rw [old _ x1 (by simp only at this; omega)]; exact x4⟩
  · intro k hk a4 a5
    by_cases c : k < l.length
    · rw [kdL_old b c] at a4 a5
      have : k ≠ j := fun e => a4 (by rw [e]; exact j2)
      rw [old k c this]; exact h.no k c a4 a5
    · obtain rfl : k = l.length := by rw [hl] at hk; omega
      rw [kdL_new] at a5
      exact absurd h5 a5
  · intro k hk a4
    by_cases c : k < l.length
    · rw [kdL_old b c] at a4
      by_cases e : k = j
      · subst e
        exact .inr ⟨l.length, by rw [hl]; exact Nat.lt_succ_self _, c, hj, by rw [kdL_new]; exact h5, new, by rw [nnL_new, nnL_old b c]; exact j3.symm⟩
      · rcases h.wh k c a4 with ⟨x, n, y⟩ | ⟨m, m1, m2, m3, m4, m5, m6⟩
        · refine .inl ⟨by rw [old k c e]; exact x, n, ?_⟩
          rw [ho] at y
          rcases List.mem_cons.1 y with y | y
          · exact absurd (congrArg Prod.fst y) e
          · rw [h2]; exact y
        · have mj : m ≠ j := fun g => by rw [g] at m4; omega
          exact .inr ⟨m, by rw [hl]; omega, m2, by rw [old k c e]; exact m3, by rw [kdL_old b m1]; exact m4, by rw [old m m1 mj]; exact m5, by rw [nnL_old b m1, nnL_old b c]; exact m6⟩
    · obtain rfl : k = l.length := by rw [hl] at hk; omega
      rw [kdL_new] at a4
      omega
  · intro k hk a5
    by_cases c : k < l.length
    · rw [kdL_old b c] at a5
      obtain ⟨m, m1, m2, m3, m4⟩ := h.en k c a5
      have e : k ≠ j := fun g => by rw [g] at a5; omega
      have mj : m ≠ j := fun g => nj k c (by rw [m2, g])
      exact ⟨m, m1, by rw [old k c e]; exact m2, by rw [kdL_old b (by omega)]; exact m3, by rw [old m (by omega) mj]; exact m4⟩
    · obtain rfl : k = l.length := by rw [hl] at hk; omega
      exact ⟨j, j1, new, by rw [kdL_old b j1]; exact j2, hj⟩
  · intro q hq k x1 x2 x3
    rw [h2] at hq
    have hq' : q ∈ s.op := by rw [ho]; exact List.mem_cons_of_mem _ hq
    have qj := sr1 q hq
    simp only at qj
    by_cases c : k < l.length
    · by_cases e : k = j
      · rw [e, hj]; have := (h.op q hq').1; omega
      · rw [old k c e] at x3 ⊢
        exact h.cr q hq' k x1 c x3
    · obtain rfl : k = l.length := by rw [hl] at x2; omega
      rw [new]; omega
  · intro a c hac hm k x1 x2 x3
    by_cases ea : a = j
    · subst ea
      rw [hj] at hm
      obtain rfl : c = l.length := by omega
      rw [old k x2 (by omega)] at x3 ⊢
      have := h.cr (a, b.n) (by rw [ho]; exact List.mem_cons_self ..) k x1 x2 x3
      have := h.lt (k := k)
      simp only at *
      omega
    · have ca : a < l.length := by
        rcases Nat.lt_trichotomy a l.length with g | g | g
        · exact g
        · rw [g, new] at hm; omega
        · rw [far a g] at hm; omega
      rw [old a ca ea] at hm
      have cc : c < l.length := by have := h.lt (k := a); omega
      by_cases ek : k = j
      · -- the loop that ends lies within a complete one: no
        exfalso
        subst ek
        -- a's loop is closed by c, k lies between and is open
        have a4 : kdL l a = 4 := by
          by_cases g4 : kdL l a = 4
          · exact g4
          · by_cases g5 : kdL l a = 5
            · obtain ⟨m, m1, m2, _⟩ := h.en a ca g5
              omega
            · have := h.no a ca g4 g5; omega
        have hc5 : kdL l c = 5 ∧ mt s c = a := by
          rcases h.wh a ca a4 with ⟨g, _⟩ | ⟨m, m1, m2, m3, m4, m5, _⟩
          · omega
          · have : m = c := by omega
            subst this; exact ⟨m4, m5⟩
        have := h.cr (k, b.n) (by rw [ho]; exact List.mem_cons_self ..) c x2 cc (by rw [hc5.2]; omega)
        rw [hc5.2] at this
        simp only at this
        omega
      · rw [old k (by omega) ek] at x3 ⊢
        exact h.cx a c hac hm k x1 x2 x3
theorem Mi.step {l : List Bl} {s s' : St} {b : Bl} (h : Mi l s) (k : stepS b s = .ok s') : Mi (l ++ [b]) s' := by
  unfold stepS at k
  have p : ∀ s1, pgS b s = .ok s1 → s1.i = s.i ∧ s1.op = s.op ∧ s1.mate = s.mate := by
    intro s1 e
    unfold pgS at e
    by_cases h6 : b.kind = 6
    · rw [if_pos h6] at e
      cases ho : s.op with
      | nil =>
        simp only [ho] at e
        split at e
        · cases e
        · injection e with e; subst e; exact ⟨rfl, ho ▸ rfl, rfl⟩
      | cons q r => simp only [ho] at e; cases e
    · rw [if_neg h6] at e; injection e with e; subst e; exact ⟨rfl, rfl, rfl⟩
  have q : ∀ s1 s2, labS b s1 = .ok s2 → s2.i = s1.i ∧ s2.op = s1.op ∧ s2.mate = s1.mate := by
    intro s1 s2 e
    unfold labS at e
    split at e
    · split at e
      · cases e
      · injection e with e; subst e; exact ⟨rfl, rfl, rfl⟩
    · injection e with e; subst e; exact ⟨rfl, rfl, rfl⟩
  cases e1 : pgS b s with
  | bad j e => rw [e1] at k; cases k
  | ok s1 =>
    rw [e1] at k
    simp only at k
    cases e2 : labS b s1 with
    | bad j e => rw [e2] at k; cases k
    | ok s2 =>
      rw [e2] at k
      simp only at k
      obtain ⟨p1, p2, p3⟩ := p s1 e1
      obtain ⟨q1, q2, q3⟩ := q s1 s2 e2
      have h2 : Mi l s2 := h.same (by rw [q1, p1]) (by rw [q2, p2]) (by rw [q3, p3])
      obtain ⟨s3, k1, f1, f2, f3, _, _⟩ := loopS_keep (s := s2) (pg := more s2.i s2.pg) (lab := s2.lab) k
      refine Mi.same ?_ f1 f2 f3
      unfold loopS at k1
      by_cases h4 : b.kind = 4
      · rw [if_pos h4] at k1
        split at k1
        · cases k1
        · injection k1 with k1; subst k1
          exact h2.grow rfl rfl (.inr ⟨h4, rfl⟩)
      · rw [if_neg h4] at k1
        by_cases h5 : b.kind = 5
        · rw [if_pos h5] at k1
          cases ho : s2.op with
          | nil => simp only [ho] at k1; cases k1
          | cons q r =>
            obtain ⟨j, n⟩ := q
            simp only [ho] at k1
            split at k1
            · rename_i hn
              injection k1 with k1; subst k1
              exact h2.close h5 (by rw [ho, hn]) rfl rfl rfl
            · cases k1
        · rw [if_neg h5] at k1
          injection k1 with k1; subst k1
          exact h2.grow rfl rfl (.inl ⟨h4, h5, rfl⟩)
theorem Mi.run {l : List Bl} : ∀ {r : List Bl} {s s' : St}, Mi l s → Lb.run r s = .ok s' → Mi (l ++ r) s' := by
  intro r
  induction r generalizing l with
  | nil => intro s s' h k; injection k with k; subst k; rw [List.append_nil]; exact h
  | cons b r ih =>
    intro s s' h k
    unfold Lb.run at k
    cases e : stepS b s with
    | bad j x => rw [e] at k; cases k
    | ok s1 =>
      rw [e] at k
      have := ih (l := l ++ [b]) (h.step e) k
      rwa [List.append_assoc] at this
end Lb
end Go.Proofs.YtlgdjbabbfdngaaDoor

