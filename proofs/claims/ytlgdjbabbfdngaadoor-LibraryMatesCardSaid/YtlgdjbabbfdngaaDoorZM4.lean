import Derived.Test.YtlgdjbabbfdngaaDoorZM2
import Derived.Test.YtlgdjbabbfdngaaDoorZM3
import Derived.Lib.AppendZeros
import Derived.Laws.OwnMore
import Derived.OrdersHeld
import Derived.StillTail
import Derived.Deep.MidRow
set_option linter.unusedVariables false
set_option linter.unusedSimpArgs false
namespace Go.Proofs.YtlgdjbabbfdngaaDoor
open Go.RowKit
structure Bi where
  b : Sy.Bl
  wa : Option Addr
  wc : Nat
  la : Option Addr
  lc : Nat
  xa : Option Addr
  xc : Nat
def bicell (d : Bi) : List Value := [.int .i64 d.b.kind, .int .i64 d.b.label, .bool d.b.skip, .slice d.wa d.b.words.length d.wc, .int .i64 d.b.left.op, .int .i64 d.b.left.n, .slice d.la d.b.left.ks.length d.lc, .int .i64 d.b.x.op, .int .i64 d.b.x.n, .slice d.xa d.b.x.ks.length d.xc, .int .i64 d.b.n]
def bicells (ds : List Bi) : List Value := ds.flatMap bicell
def bis (ds : List Bi) : List Sy.Bl := ds.map Bi.b
def OwnK (B : Nat) (w : World) (v : Value) (ds : List Bi) : Prop := w.ownsRow B 37 11 v ds.length (bicells ds)
def BiB (w : World) (S : Nat → Prop) (d : Bi) : Prop := WordsB w S d.wa d.wc d.b.words ∧ KidsB w S d.la d.lc d.b.left.ks ∧ KidsB w S d.xa d.xc d.b.x.ks
theorem BiB.go {w w' : World} {S T : Nat → Prop} {d : Bi} (hb : ∀ b, S b → b < w.heap.size → w'.heap[b]? = w.heap[b]? ∧ T b) (h : BiB w S d) : BiB w' T d := ⟨h.1.go hb, h.2.1.go hb, h.2.2.go hb⟩
theorem info_block : (Tryd.prog.info? 37).map (fun i => (i.zero, i.size, i.bytes)) = some (some (.agg #[.int .i64 0, .int .i64 0, .bool false, .slice none 0 0, .int .i64 0, .int .i64 0, .slice none 0 0, .int .i64 0, .int .i64 0, .slice none 0 0, .int .i64 0]), 11, 136) := by kernel_rfl
theorem OwnK.go {B : Nat} {w w' : World} {v : Value} {ds : List Bi} (h : OwnK B w v ds) (hb : ∀ g, v.ownBlock = some g → g < w.heap.size → w'.heap[g]? = w.heap[g]?) : OwnK B w' v ds := by
  refine ⟨h.1, ?_⟩
  rcases h.2 with k | ⟨g, cap, cur, rfl, k1, k2, k3⟩
  · exact .inl k
  · exact .inr ⟨g, cap, cur, rfl, k1, (hb g rfl (Array.getElem?_eq_some_iff.1 k2).1).trans k2, k3⟩
theorem OwnK.lt {B : Nat} {w : World} {v : Value} {ds : List Bi} (h : OwnK B w v ds) {g : Nat} (hg : v.ownBlock = some g) : B ≤ g ∧ g < w.heap.size ∧ ∃ cur, w.heap[g]? = some (.cells cur 37 (0, 0)) := by
  rcases h.2 with ⟨rfl, _⟩ | ⟨g', cap, cur, rfl, k1, k2, k3⟩
  · cases hg
  · have : g' = g := by simpa [Value.ownBlock] using hg
    subst this
    exact ⟨k1, (Array.getElem?_eq_some_iff.1 k2).1, cur, k2⟩
theorem OwnK.shape {B : Nat} {w : World} {v : Value} {ds : List Bi} (h : OwnK B w v ds) : ∃ (a : Option Addr) (n cap : Nat), v = .slice a n cap := by
  rcases h.2 with ⟨rfl, _⟩ | ⟨g, cap, cur, rfl, _⟩
  · exact ⟨_, _, _, rfl⟩
  · exact ⟨_, _, _, rfl⟩
theorem OwnK.nil (B : Nat) (w : World) : OwnK B w (.slice none 0 0) [] := ⟨rfl, .inl ⟨rfl, rfl⟩⟩
section
variable {ops : Array Oper} {rest : List Oper} {dst : Option Tmp} {ty : TypeId} {pos : String} {after : Array Edge} {a : Act} {w : World} {Q : Exit → Act → World → Prop}
theorem block_append (s x : Tmp) (d : Bi) (B : Nat) (v : Value) (ds : List Bi) (g : Nat) {t : TypeId}
    (hs : a.eval (.tmp s) = v) (hx : a.eval (.tmp x) = .slice (some ⟨g, 0, none⟩) 1 1) (hb : Bx w g (bicell d).toArray t)
    (hown : OwnK B w v ds) (hl : ds.length ≤ 100000) (hB : B ≤ w.heap.size)
    (h : ∀ v' w', OwnK B w' v' (ds ++ [d]) → w.grownBy w' v.ownBlock → (∀ g, v'.ownBlock = some g → v.ownBlock = some g ∨ w.heap.size ≤ g) → wpList Tryd.prog ops Q rest (a.put dst v') w') :
    wpList Tryd.prog ops Q (⟨dst, .call { callee := .builtin .append, args := #[.tmp s, .tmp x], argTypes := #[22, 22] }, ty, pos, after, none⟩ :: rest) a w := by
  obtain ⟨i0, hi, hz0, hz1, hz2⟩ := info_parts info_block
  obtain ⟨v', w', hr, h2, h3, h4⟩ := run_append_near (P := Tryd.prog) w B 22 ty 37 i0 _ 11 136 Tryd.underlying22 hi hz0 hz1 hz2 rfl (by decide) v ds.length (bicells ds) hown ⟨g, 0, none⟩ 1 1 (bicell d) rfl (by
    intro j u hj
    have := hb.cell' j u (by simpa using hj)
    rcases j with _ | j <;> simpa [Addr.add] using this) (by
    intro u hu
    simp [bicell] at hu
    rcases hu with rfl | rfl | rfl | rfl | rfl | rfl | rfl | rfl | rfl | rfl | rfl <;> rfl) (by unfold maxLen; omega) (by omega) hB
  refine Lib.wpList_append_run w rfl (.tmp s) (.tmp x) 22 22 rfl v _ hs hx v' w' hr (h v' w' ?_ h3 h4)
  unfold OwnK
  rw [List.length_append, show bicells (ds ++ [d]) = bicells ds ++ bicell d by simp [bicells]]
  exact h2
end
def BlksB (w : World) (S : Nat → Prop) (a : Option Addr) (cap : Nat) (bs : List Sy.Bl) : Prop :=
  bs.length ≤ cap ∧ cap ≤ 9223372036854775807 ∧ (bs = [] ∨ ∃ (g off : Nat) (f : Nat → Bi), a = some ⟨g, off, none⟩ ∧ S g ∧ ∀ i (h : i < bs.length), (f i).b = bs[i] ∧ BiB w S (f i) ∧ ∀ j u, (bicell (f i))[j]? = some u → w.cell? ⟨g, off + i * 11 + j, none⟩ = some u)
theorem BlksB.nil (w : World) (S : Nat → Prop) : BlksB w S none 0 [] := ⟨by simp, by decide, .inl rfl⟩
theorem BlksB.go {w w' : World} {S T : Nat → Prop} {a : Option Addr} {cap : Nat} {bs : List Sy.Bl} (hb : ∀ b, S b → b < w.heap.size → w'.heap[b]? = w.heap[b]? ∧ T b) (h : BlksB w S a cap bs) : BlksB w' T a cap bs := by
  obtain ⟨h1, h2, h3⟩ := h
  refine ⟨h1, h2, ?_⟩
  rcases h3 with h3 | ⟨g, off, f, rfl, hS, hc⟩
  · exact .inl h3
  · by_cases h0 : bs = []
    · exact .inl h0
    have lt : g < w.heap.size := by
      obtain ⟨_, _, k⟩ := hc 0 (by cases bs with | nil => exact absurd rfl h0 | cons _ _ => simp)
      exact cell_lt (k 0 _ rfl)
    refine .inr ⟨g, off, f, rfl, (hb g hS lt).2, fun i hi => ?_⟩
    obtain ⟨k1, k2, k3⟩ := hc i hi
    refine ⟨k1, k2.go hb, fun j u hj => ?_⟩
    rw [World.cell?_of_block (w := w) (hb g hS lt).1]
    exact k3 j u hj
theorem BlksB.kept {w w' : World} {S : Nat → Prop} {a : Option Addr} {cap : Nat} {bs : List Sy.Bl} (h : BlksB w S a cap bs) (q : Qw w w') : BlksB w' S a cap bs := h.go fun b hS hb => ⟨q.block b hb, hS⟩
theorem bicells_get (ds : List Bi) (i : Nat) (h : i < ds.length) (j : Nat) (hj : j < 11) : (bicells ds)[i * 11 + j]? = (bicell ds[i])[j]? := by
  induction ds generalizing i with
  | nil => simp at h
  | cons t ts ih =>
    have e : bicells (t :: ts) = bicell t ++ bicells ts := rfl
    have l : (bicell t).length = 11 := rfl
    rw [e]
    cases i with
    | zero => rw [List.getElem?_append_left (by omega)]; simp
    | succ i =>
      rw [List.getElem?_append_right (by omega), l, show (i + 1) * 11 + j - 11 = i * 11 + j by omega]
      rw [ih i (by simpa using h)]; rfl
theorem bicell_lt {d : Bi} {j : Nat} {u : Value} (h : (bicell d)[j]? = some u) : j < 11 := by
  rcases Nat.lt_or_ge j 11 with g | g
  · exact g
  · rw [List.getElem?_eq_none (show (bicell d).length ≤ j from g)] at h; cases h
instance : Inhabited Bi := ⟨⟨⟨0, 0, false, [], Sy.zx, Sy.zx, 0⟩, none, 0, none, 0, none, 0⟩⟩
theorem OwnK.blocks {B : Nat} {w : World} {v : Value} {ds : List Bi} {S : Nat → Prop} (h : OwnK B w v ds) (hS : ∀ g, v.ownBlock = some g → S g) (hk : ∀ d ∈ ds, BiB w S d) : ∃ a cap, v = .slice a ds.length cap ∧ BlksB w S a cap (bis ds) := by
  have hlen : (bis ds).length = ds.length := List.length_map _
  rcases h.2 with ⟨rfl, h0⟩ | ⟨g, cap, cur, rfl, hb, hg, h1, h2, h3, h4⟩
  · have : ds = [] := List.eq_nil_of_length_eq_zero h0
    subst this
    exact ⟨none, 0, rfl, BlksB.nil _ _⟩
  · refine ⟨_, cap, rfl, by rw [hlen]; exact h1, by unfold maxLen at h2; omega, .inr ⟨g, 0, fun i => ds.getD i default, rfl, hS g rfl, fun i hi => ?_⟩⟩
    rw [hlen] at hi
    have e1 : ds.getD i default = ds[i] := by rw [List.getD_eq_getElem?_getD, List.getElem?_eq_getElem hi]; rfl
    dsimp only
    rw [e1]
    refine ⟨by show ds[i].b = (ds.map Bi.b)[i]'(by rw [List.length_map]; exact hi); simp, hk _ (List.getElem_mem hi), fun j u hj => ?_⟩
    have t := bicells_get ds i hi j (bicell_lt hj)
    rw [hj] at t
    have c := World.ownsRow.cells h (g := g) rfl (i * 11 + j) u t
    rw [Addr.add_mid, Nat.zero_add] at c
    rw [Nat.zero_add]
    exact c
end Go.Proofs.YtlgdjbabbfdngaaDoor
set_option linter.unusedVariables false
namespace Go.Proofs.YtlgdjbabbfdngaaDoor
open Go
section
variable {P : Program} {ops : Array Oper} {Q : Exit → Act → World → Prop} {md : Region.Mode} {S : World → Prop} {m : Nat}
def wpAnyM (P : Program) (md : Region.Mode) (ops : Array Oper) (Q : Exit → Act → World → Prop) (S : World → Prop) (m : Nat) : Nat → Array Bool → Act → World → Prop
  | 0, listed, a, w => Region.ready md ops listed = [] ∧ Q .normal a w
  | fuel + 1, listed, a, w =>
    (Region.ready md ops listed = [] → Q .normal a w) ∧
    ∀ i ∈ Region.ready md ops listed, wpOp P ops Q i (fun a' w' => (i < m → S w') ∧ wpAnyM P md ops Q S m fuel (listed.setIfInBounds i true) a' w') a w
theorem wpAny_of_M : ∀ (fuel : Nat) (listed : Array Bool) (a : Act) (w : World), wpAnyM P md ops Q S m fuel listed a w → wpAny P md ops Q fuel listed a w
  | 0, _, _, _, h => h
  | fuel + 1, _, _, _, h => ⟨h.1, fun i hi => wpOp_mono (fun a' w' h' => wpAny_of_M fuel _ a' w' h'.2) (h.2 i hi)⟩
theorem wpAnyM_first {i : Nat} {oi : Oper} {v : Value} (hi : ops[i]? = some oi) (hsel : ∀ (j : Nat) (o : Oper) cs b, ops[j]? = some o → o.op ≠ .select cs b)
    (hs : Region.sinkB md ops m = true) (hc : Region.chainB md ops m = true) (hml : m < ops.size) (him : i < m)
    (hQ : ∀ c a w, Q (.panic c) (a.put oi.dst v) w → Q (.panic c) a w) :
    ∀ (fuel : Nat) (listed : Array Bool) (a : Act) (w : World), HeadInv md ops m listed →
      (∀ j oj, ops[j]? = some oj → j ≠ i → listed.getD j true = false → (∀ e ∈ oj.after, Region.binds md e = true → e.on ≠ i) → oi.apart ops oj = true) →
      i ∈ Region.ready md ops listed → YieldsIf P ops S oi v a → S w →
      wpAnyM P md ops Q S m fuel (listed.setIfInBounds i true) (a.put oi.dst v) w → wpAnyM P md ops Q S m (fuel + 1) listed a w := by
  intro fuel
  induction fuel with
  | zero =>
    intro listed a w inv _ hr hy hS H
    refine ⟨fun h => (by rw [h] at hr; cases hr), fun j hj => ?_⟩
    by_cases hji : j = i
    · subst hji; exact hy.wpOp hi hS ⟨fun _ => hS, H⟩
    · have := ready_mono hj hji
      rw [H.1] at this
      cases this
  | succ fuel ih =>
    intro listed a w inv hfree hr hy hS H
    refine ⟨fun h => (by rw [h] at hr; cases hr), fun j hj => ?_⟩
    by_cases hji : j = i
    · subst hji; exact hy.wpOp hi hS ⟨fun _ => hS, H⟩
    · have h1 := H.2 j (ready_mono hj hji)
      have hjm : j < m := by
        rcases Nat.lt_or_ge j m with h | h
        · exact h
        · exact absurd hj (tail_waits hs hc hml inv _ i rfl him (mem_ready.1 hr).1 j h)
      obtain ⟨hjun, oj, hoj, hall⟩ := mem_ready.1 hj
      have hnot : ∀ e ∈ oj.after, Region.binds md e = true → e.on ≠ i := fun e he hb heq => by
        have h1 := hall e he hb
        have h0 := (mem_ready.1 hr).1
        rw [heq] at h1
        rcases Nat.lt_or_ge i listed.size with h' | h'
        · simp [h'] at h0 h1; rw [h0] at h1; cases h1
        · simp [Array.getElem?_eq_none h'] at h1
      have h2 := wpOp_putIf hoj (hfree j oj hoj hji hjun hnot) (fun cs b => hsel i oi cs b hi) (fun cs b => hsel j oj cs b hoj) hQ hy h1
      have hfree' : ∀ k ok, ops[k]? = some ok → k ≠ i → (listed.setIfInBounds j true).getD k true = false →
          (∀ e ∈ ok.after, Region.binds md e = true → e.on ≠ i) → oi.apart ops ok = true := fun k ok hk hki hun hno => by
        refine hfree k ok hk hki ?_ hno
        by_cases hjk : j = k
        · subst hjk; exact hjun
        · rw [getD_set_ne true hjk] at hun; exact hun
      refine wpOp_mono (fun a' w' h3 => ⟨h3.2.1, ih (listed.setIfInBounds j true) a' w' (inv.set hj hjm) hfree' (ready_mono hr (Ne.symm hji)) h3.1 (h3.2.1 hjm) ?_⟩) h2
      rw [Array.setIfInBounds_comm _ _ hji]
      exact h3.2.2
def okL (md : Region.Mode) (ops : Array Oper) (m : Nat) (listed : Array Bool) : Bool :=
  (listed.size == ops.size) && ((List.range ops.size).all fun j => !listed.getD j false || (match ops[j]? with | some o => o.after.all fun e => !Region.binds md e || listed.getD e.on false | none => true)) &&
    ((List.range ops.size).all fun t => decide (t < m) || !listed.getD t true)
theorem okL_inv {listed : Array Bool} (h : okL md ops m listed = true) : HeadInv md ops m listed := by
  unfold okL at h
  simp only [Bool.and_eq_true, List.all_eq_true, List.mem_range, Bool.or_eq_true, beq_iff_eq, decide_eq_true_eq, Bool.not_eq_true'] at h
  obtain ⟨⟨h1, h2⟩, h3⟩ := h
  refine ⟨h1, fun j oj hj hl e he hb => ?_, fun t ht ht' => ?_⟩
  · have hjs : j < ops.size := (Array.getElem?_eq_some_iff.1 hj).1
    rcases h2 j hjs with k | k
    · rw [hl] at k; cases k
    · rw [hj] at k
      simp only [Array.all_eq_true_iff_forall_mem, Bool.or_eq_true, Bool.not_eq_true'] at k
      rcases k e he with k | k
      · rw [hb] at k; cases k
      · exact k
  · rcases h3 t ht' with k | k
    · omega
    · exact k
def takeB (md : Region.Mode) (ops : Array Oper) (m i : Nat) (listed : Array Bool) : Bool :=
  Region.noSelect ops && Region.free md ops listed i && (Region.ready md ops listed).contains i && okL md ops m listed && Region.sinkB md ops m && Region.chainB md ops m && decide (m < ops.size) && decide (i < m)
theorem wpAnyM_take {i : Nat} {oi : Oper} {v : Value} {fuel : Nat} {listed : Array Bool} {a : Act} {w : World} (hi : ops[i]? = some oi)
    (hb : takeB md ops m i listed = true)
    (hQ : ∀ c a w, Q (.panic c) (a.put oi.dst v) w → Q (.panic c) a w) (hy : YieldsIf P ops S oi v a) (hS : S w)
    (h : wpAnyM P md ops Q S m fuel (listed.setIfInBounds i true) (a.put oi.dst v) w) : wpAnyM P md ops Q S m (fuel + 1) listed a w := by
  unfold takeB at hb
  simp only [Bool.and_eq_true, decide_eq_true_eq] at hb
  obtain ⟨⟨⟨⟨⟨⟨⟨h1, h2⟩, h3⟩, h4⟩, h5⟩, h6⟩, h7⟩, h8⟩ := hb
  exact wpAnyM_first hi (Region.noSelect_spec h1) h5 h6 h7 h8 hQ fuel listed a w (okL_inv h4) (Region.free_spec hi h2) (by simpa using h3) hy hS h
theorem wpAnyM_one {i : Nat} {oi : Oper} {fuel : Nat} {listed : Array Bool} {a : Act} {w : World} (hi : ops[i]? = some oi) (hr : Region.ready md ops listed = [i]) (hg : oi.guard = none)
    (h : ∀ K : Act → World → Prop, (∀ a' w', (i < m → S w') → wpAnyM P md ops Q S m fuel (listed.setIfInBounds i true) a' w' → K a' w') → oi.wp P a w K Q) : wpAnyM P md ops Q S m (fuel + 1) listed a w := by
  refine ⟨fun h0 => (by rw [h0] at hr; cases hr), fun j hj => ?_⟩
  rw [hr] at hj
  obtain rfl : j = i := by simpa using hj
  unfold wpOp
  rw [hi]
  simp only
  rw [if_pos (by simp [Region.wanted, hg])]
  exact .inl (h _ fun a' w' hS H => ⟨hS, H⟩)
theorem wpAnyM_done {listed : Array Bool} {a : Act} {w : World} (hr : Region.ready md ops listed = []) (h : Q .normal a w) :
    ∀ fuel, wpAnyM P md ops Q S m fuel listed a w
  | 0 => ⟨hr, h⟩
  | _ + 1 => ⟨fun _ => h, by rw [hr]; simp⟩
theorem wp_region_M {id : Nat} {a : Act} {w : World} (S : World → Prop) (m : Nat) (hm : P.follows .mixedOrders = true)
    (h : wpAnyM P .any ops Q S m ops.size (Array.replicate ops.size false) a w.drew) : (Code.region id ops true).wp P Q a w :=
  wp_region_any hm (wpAny_of_M _ _ _ _ h)
end
end Go.Proofs.YtlgdjbabbfdngaaDoor
set_option linter.unusedVariables false
set_option linter.unusedSimpArgs false
namespace Go.Proofs.YtlgdjbabbfdngaaDoor
open Go.RowKit
def blZ : Array Value := #[.int .i64 0, .int .i64 0, .bool false, .slice none 0 0, .int .i64 0, .int .i64 0, .slice none 0 0, .int .i64 0, .int .i64 0, .slice none 0 0, .int .i64 0]
def putB (w : World) (b : Nat) (v0 v1 v2 v3 v4 v5 v6 v7 v8 v9 v10 : Value) : World :=
  ((((((((((w.setCell ⟨b, 0, none⟩ v0).setCell ⟨b, 1, none⟩ v1).setCell ⟨b, 2, none⟩ v2).setCell ⟨b, 3, none⟩ v3).setCell ⟨b, 4, none⟩ v4).setCell ⟨b, 5, none⟩ v5).setCell ⟨b, 6, none⟩ v6).setCell ⟨b, 7, none⟩ v7).setCell ⟨b, 8, none⟩ v8).setCell ⟨b, 9, none⟩ v9).setCell ⟨b, 10, none⟩ v10
theorem putB_heap (w : World) (b k : Nat) (v0 v1 v2 v3 v4 v5 v6 v7 v8 v9 v10 : Value) (h : k ≠ b) : (putB w b v0 v1 v2 v3 v4 v5 v6 v7 v8 v9 v10).heap[k]? = w.heap[k]? := by
  unfold putB
  iterate 11 rw [Below.heap_setCell _ _ _ _ h]
theorem putB_bx {w : World} {b : Nat} {t : TypeId} {u0 u1 u2 u3 u4 u5 u6 u7 u8 u9 u10 : Value} (v0 v1 v2 v3 v4 v5 v6 v7 v8 v9 v10 : Value) (R : Bx w b #[u0, u1, u2, u3, u4, u5, u6, u7, u8, u9, u10] t) : Bx (putB w b v0 v1 v2 v3 v4 v5 v6 v7 v8 v9 v10) b #[v0, v1, v2, v3, v4, v5, v6, v7, v8, v9, v10] t := by
  have h0 : Bx (w.setCell ⟨b, 0, none⟩ v0) b #[v0, u1, u2, u3, u4, u5, u6, u7, u8, u9, u10] t := R.set 0 v0
  have h1 : Bx ((w.setCell ⟨b, 0, none⟩ v0).setCell ⟨b, 1, none⟩ v1) b #[v0, v1, u2, u3, u4, u5, u6, u7, u8, u9, u10] t := h0.set 1 v1
  have h2 : Bx (((w.setCell ⟨b, 0, none⟩ v0).setCell ⟨b, 1, none⟩ v1).setCell ⟨b, 2, none⟩ v2) b #[v0, v1, v2, u3, u4, u5, u6, u7, u8, u9, u10] t := h1.set 2 v2
  have h3 : Bx ((((w.setCell ⟨b, 0, none⟩ v0).setCell ⟨b, 1, none⟩ v1).setCell ⟨b, 2, none⟩ v2).setCell ⟨b, 3, none⟩ v3) b #[v0, v1, v2, v3, u4, u5, u6, u7, u8, u9, u10] t := h2.set 3 v3
  have h4 : Bx (((((w.setCell ⟨b, 0, none⟩ v0).setCell ⟨b, 1, none⟩ v1).setCell ⟨b, 2, none⟩ v2).setCell ⟨b, 3, none⟩ v3).setCell ⟨b, 4, none⟩ v4) b #[v0, v1, v2, v3, v4, u5, u6, u7, u8, u9, u10] t := h3.set 4 v4
  have h5 : Bx ((((((w.setCell ⟨b, 0, none⟩ v0).setCell ⟨b, 1, none⟩ v1).setCell ⟨b, 2, none⟩ v2).setCell ⟨b, 3, none⟩ v3).setCell ⟨b, 4, none⟩ v4).setCell ⟨b, 5, none⟩ v5) b #[v0, v1, v2, v3, v4, v5, u6, u7, u8, u9, u10] t := h4.set 5 v5
  have h6 : Bx (((((((w.setCell ⟨b, 0, none⟩ v0).setCell ⟨b, 1, none⟩ v1).setCell ⟨b, 2, none⟩ v2).setCell ⟨b, 3, none⟩ v3).setCell ⟨b, 4, none⟩ v4).setCell ⟨b, 5, none⟩ v5).setCell ⟨b, 6, none⟩ v6) b #[v0, v1, v2, v3, v4, v5, v6, u7, u8, u9, u10] t := h5.set 6 v6
  have h7 : Bx ((((((((w.setCell ⟨b, 0, none⟩ v0).setCell ⟨b, 1, none⟩ v1).setCell ⟨b, 2, none⟩ v2).setCell ⟨b, 3, none⟩ v3).setCell ⟨b, 4, none⟩ v4).setCell ⟨b, 5, none⟩ v5).setCell ⟨b, 6, none⟩ v6).setCell ⟨b, 7, none⟩ v7) b #[v0, v1, v2, v3, v4, v5, v6, v7, u8, u9, u10] t := h6.set 7 v7
  have h8 : Bx (((((((((w.setCell ⟨b, 0, none⟩ v0).setCell ⟨b, 1, none⟩ v1).setCell ⟨b, 2, none⟩ v2).setCell ⟨b, 3, none⟩ v3).setCell ⟨b, 4, none⟩ v4).setCell ⟨b, 5, none⟩ v5).setCell ⟨b, 6, none⟩ v6).setCell ⟨b, 7, none⟩ v7).setCell ⟨b, 8, none⟩ v8) b #[v0, v1, v2, v3, v4, v5, v6, v7, v8, u9, u10] t := h7.set 8 v8
  have h9 : Bx ((((((((((w.setCell ⟨b, 0, none⟩ v0).setCell ⟨b, 1, none⟩ v1).setCell ⟨b, 2, none⟩ v2).setCell ⟨b, 3, none⟩ v3).setCell ⟨b, 4, none⟩ v4).setCell ⟨b, 5, none⟩ v5).setCell ⟨b, 6, none⟩ v6).setCell ⟨b, 7, none⟩ v7).setCell ⟨b, 8, none⟩ v8).setCell ⟨b, 9, none⟩ v9) b #[v0, v1, v2, v3, v4, v5, v6, v7, v8, v9, u10] t := h8.set 9 v9
  have h10 : Bx (((((((((((w.setCell ⟨b, 0, none⟩ v0).setCell ⟨b, 1, none⟩ v1).setCell ⟨b, 2, none⟩ v2).setCell ⟨b, 3, none⟩ v3).setCell ⟨b, 4, none⟩ v4).setCell ⟨b, 5, none⟩ v5).setCell ⟨b, 6, none⟩ v6).setCell ⟨b, 7, none⟩ v7).setCell ⟨b, 8, none⟩ v8).setCell ⟨b, 9, none⟩ v9).setCell ⟨b, 10, none⟩ v10) b #[v0, v1, v2, v3, v4, v5, v6, v7, v8, v9, v10] t := h9.set 10 v10
  exact h10
theorem putB_px {P b : Nat} {w w' : World} (q : Px P w w') (h : w.heap.size ≤ b) (v0 v1 v2 v3 v4 v5 v6 v7 v8 v9 v10 : Value) : Px P w (putB w' b v0 v1 v2 v3 v4 v5 v6 v7 v8 v9 v10) := by
  unfold putB
  exact ((((((((((q.setNew h _).setNew h _).setNew h _).setNew h _).setNew h _).setNew h _).setNew h _).setNew h _).setNew h _).setNew h _).setNew h _
end Go.Proofs.YtlgdjbabbfdngaaDoor
set_option linter.unusedVariables false
set_option linter.unusedSimpArgs false
namespace Go.Proofs.YtlgdjbabbfdngaaDoor
open Go.RowKit
theorem info_blockS : (Tryd.prog.info? 37).map (·.size) = some 11 := by kernel_rfl
theorem wordsB_kept {w w' : World} {S : Nat → Prop} {a : Option Addr} {cap : Nat} {ws : List (Int × Sy.Ex)} (h : WordsB w S a cap ws) (q : Qw w w') : WordsB w' S a cap ws := h.go fun b hS hb => ⟨q.block b hb, hS⟩
structure Smb (b : Sy.Bl) : Prop where
  w : b.words.length ≤ 100
  ws : ∀ k ∈ b.words, Smx k.2
  l : Smx b.left
  x : Smx b.x
def CpK (d : Bi) (w : World) : Prop := Calls Tryd.prog 40 #[.agg #[.int .i64 d.b.kind, .int .i64 d.b.label, .bool d.b.skip, .slice d.wa d.b.words.length d.wc, .int .i64 d.b.left.op, .int .i64 d.b.left.n, .slice d.la d.b.left.ks.length d.lc, .int .i64 d.b.x.op, .int .i64 d.b.x.n, .slice d.xa d.b.x.ks.length d.xc, .int .i64 d.b.n]] w fun e w' => ∃ wa wc la lc xa xc, e = .returned (.agg #[.int .i64 d.b.kind, .int .i64 d.b.label, .bool d.b.skip, .slice wa d.b.words.length wc, .int .i64 d.b.left.op, .int .i64 d.b.left.n, .slice la d.b.left.ks.length lc, .int .i64 d.b.x.op, .int .i64 d.b.x.n, .slice xa d.b.x.ks.length xc, .int .i64 d.b.n]) ∧ BiB w' (fun b => w.heap.size ≤ b) ⟨d.b, wa, wc, la, lc, xa, xc⟩ ∧ Qw w w'
set_option maxRecDepth 100000 in
set_option maxHeartbeats 4000000 in
theorem cp_block (d : Bi) (hs : Smb d.b) (S : Nat → Prop) (w : World) (h : BiB w S d) : CpK d w := by
  have c1 := fun w1 (h : WordsB w1 S d.wa d.wc d.b.words) => cp_words d.b.words hs.w hs.ws d.wa d.wc S w1 h
  have c2 := fun w1 (h : KidsB w1 S d.la d.lc d.b.left.ks) => cp_expr d.b.left hs.l d.la d.lc S w1 h
  have c3 := fun w1 (h : KidsB w1 S d.xa d.xc d.b.x.ks) => cp_expr d.b.x hs.x d.xa d.xc S w1 h
  unfold CpX at c2 c3
  unfold CpK
  obtain ⟨hW, hL, hX⟩ := h
  have C1 := Lib.hid c1
  have C2 := Lib.hid c2
  have C3 := Lib.hid c3
  have HW := Lib.hid hW
  have HL := Lib.hid hL
  have HX := Lib.hid hX
  clear c1 c2 c3 hW hL hX hs
  have q0 : Hid (Qw w w) := Lib.hid (Qw.refl w)
  go_enter Tryd.func40, Tryd.ntmps40
  go_wp2_with (go_at_call 57; with_reducible refine (C1.out _ (wordsB_kept HW.out (Qw.al (Qw.al (Qw.refl w) _) _))).mono ?_)
  rintro e w1 ⟨a', c', rfl, kb, q⟩
  have q1 : Qw w w1 := Qw.trans (Qw.al (Qw.al (Qw.refl w) _) _) q
  have X := ((Bx.new w #[.int .i64 d.b.kind, .int .i64 d.b.label, .bool d.b.skip, .slice d.wa d.b.words.length d.wc, .int .i64 d.b.left.op, .int .i64 d.b.left.n, .slice d.la d.b.left.ks.length d.lc, .int .i64 d.b.x.op, .int .i64 d.b.x.n, .slice d.xa d.b.x.ks.length d.xc, .int .i64 d.b.n] 37).alloc (.cells #[.int .i64 0, .int .i64 0, .bool false, .slice none 0 0, .int .i64 0, .int .i64 0, .slice none 0 0, .int .i64 0, .int .i64 0, .slice none 0 0, .int .i64 0] 37)).kept q
  have Y := (Bx.new (w.alloc (.cells #[.int .i64 d.b.kind, .int .i64 d.b.label, .bool d.b.skip, .slice d.wa d.b.words.length d.wc, .int .i64 d.b.left.op, .int .i64 d.b.left.n, .slice d.la d.b.left.ks.length d.lc, .int .i64 d.b.x.op, .int .i64 d.b.x.n, .slice d.xa d.b.x.ks.length d.xc, .int .i64 d.b.n] 37)) #[.int .i64 0, .int .i64 0, .bool false, .slice none 0 0, .int .i64 0, .int .i64 0, .slice none 0 0, .int .i64 0, .int .i64 0, .slice none 0 0, .int .i64 0] 37).kept q
  have sz1 : ∀ (o : Obj), (w.alloc o).heap.size = w.heap.size + 1 := fun o => by simp
  rw [sz1] at Y
  have kb1 : WordsB w1 (fun b => w.heap.size + 2 ≤ b) a' c' d.b.words := kb.go fun b hb hl => ⟨rfl, by have := hb; simp at this; omega⟩
  have x3 := X.cell' 3 _ rfl
  have f3 := X.free 3
  have XS := X.set 3 (.slice a' d.b.words.length c')
  have hnK : w.heap.size + 1 ≠ w.heap.size := by omega
  have YS := Y.other (a := ⟨w.heap.size, 3, none⟩) hnK (.slice a' d.b.words.length c')
  have qs : Qw w (w1.setCell ⟨w.heap.size, 3, none⟩ (.slice a' d.b.words.length c')) := Qw.sc q1 (Nat.le_refl _) _
  have ks : WordsB (w1.setCell ⟨w.heap.size, 3, none⟩ (.slice a' d.b.words.length c')) (fun b => w.heap.size + 2 ≤ b) a' c' d.b.words := kb1.go fun b hb hl => ⟨Below.heap_setCell _ ⟨w.heap.size, 3, none⟩ _ b (by show b ≠ w.heap.size; omega), hb⟩
  clear kb kb1 q sz1
  go_wp2
  clear x3 f3 X Y
  refine code_of (fun w2 => Bx w2 w.heap.size #[.int .i64 d.b.kind, .int .i64 d.b.label, .bool d.b.skip, .slice a' d.b.words.length c', .int .i64 d.b.left.op, .int .i64 d.b.left.n, .slice d.la d.b.left.ks.length d.lc, .int .i64 d.b.x.op, .int .i64 d.b.x.n, .slice d.xa d.b.x.ks.length d.xc, .int .i64 d.b.n] 37 ∧ Bx w2 (w.heap.size + 1) #[.int .i64 0, .int .i64 0, .bool false, .slice none 0 0, .int .i64 0, .int .i64 0, .slice none 0 0, .int .i64 0, .int .i64 0, .slice none 0 0, .int .i64 0] 37 ∧ Qw w w2 ∧ WordsB w2 (fun b => w.heap.size + 2 ≤ b) a' c' d.b.words) ⟨XS, YS, qs, ks⟩ ?_
  clear XS YS qs ks q1 hnK
  rintro w2 ⟨XB, YB, Q2, WB⟩
  have x4 := XB.cell' 4 _ rfl
  have x5 := XB.cell' 5 _ rfl
  have x6 := XB.cell' 6 _ rfl
  have x7 := XB.cell' 7 _ rfl
  have x8 := XB.cell' 8 _ rfl
  have x9 := XB.cell' 9 _ rfl
  have hlt := XB.lt
  obtain ⟨S2, hS⟩ : ∃ S2 : World → Prop, ∀ w', S2 w' ↔ Qw w2 w' := ⟨_, fun _ => Iff.rfl⟩
  have HS := Lib.hid hS
  have CS := Lib.hid (fun w' (h : S2 w') o => ((hS w').1 h).cell (p := ⟨w.heap.size, o, none⟩) hlt)
  clear hS
  refine wp_region_M S2 7 (by kernel_rfl) ?_
  have hSS : S2 (World.drew w2) := (HS.out _).2 (Qw.dr (Qw.refl w2))
  refine wpAnyM_take (i := 0) (v := ?_) rfl (by kernel_rfl) (fun _ _ _ h => h) (Or.inl ⟨by rfl, ?_⟩) hSS ?_
  rotate_left 1
  · intro wS hwS
    go_simp
    try with_reducible rfl
  simp only [List.getElem_toArray, List.getElem_cons_succ, List.getElem_cons_zero, Act.put, List.setIfInBounds_toArray, List.set_cons_zero, List.set_cons_succ]
  refine wpAnyM_take (i := 1) (v := ?_) rfl (by kernel_rfl) (fun _ _ _ h => h) (Or.inl ⟨by rfl, ?_⟩) hSS ?_
  rotate_left 1
  · intro wS hwS
    have c4 := (CS.out wS hwS 4).trans x4; have c5 := (CS.out wS hwS 5).trans x5; have c6 := (CS.out wS hwS 6).trans x6; go_simp
    try with_reducible rfl
  simp only [List.getElem_toArray, List.getElem_cons_succ, List.getElem_cons_zero, Act.put, List.setIfInBounds_toArray, List.set_cons_zero, List.set_cons_succ]
  refine wpAnyM_take (i := 3) (v := ?_) rfl (by kernel_rfl) (fun _ _ _ h => h) (Or.inl ⟨by rfl, ?_⟩) hSS ?_
  rotate_left 1
  · intro wS hwS
    go_simp
    try with_reducible rfl
  simp only [List.getElem_toArray, List.getElem_cons_succ, List.getElem_cons_zero, Act.put, List.setIfInBounds_toArray, List.set_cons_zero, List.set_cons_succ]
  refine wpAnyM_take (i := 4) (v := ?_) rfl (by kernel_rfl) (fun _ _ _ h => h) (Or.inl ⟨by rfl, ?_⟩) hSS ?_
  rotate_left 1
  · intro wS hwS
    have c7 := (CS.out wS hwS 7).trans x7; have c8 := (CS.out wS hwS 8).trans x8; have c9 := (CS.out wS hwS 9).trans x9; go_simp
    try with_reducible rfl
  simp only [List.getElem_toArray, List.getElem_cons_succ, List.getElem_cons_zero, Act.put, List.setIfInBounds_toArray, List.set_cons_zero, List.set_cons_succ]
  clear x4 x5 x6 x7 x8 x9
  refine wpAnyM_one (i := 2) rfl (by kernel_rfl) rfl (fun K hK => ?_)
  go_simp
  refine (C2.out _ (HL.out.kept (Qw.dr Q2))).mono ?_
  rintro e w3 ⟨la', lc', rfl, kl, q3⟩
  have Q3 : Qw w2 w3 := Qw.trans (Qw.dr (Qw.refl w2)) q3
  have hSS : S2 w3 := (HS.out _).2 Q3
  refine hK _ _ (fun _ => hSS) ?_
  clear hK K q3
  refine wpAnyM_take (i := 6) (v := ?_) rfl (by kernel_rfl) (fun _ _ _ h => h) (Or.inl ⟨by rfl, ?_⟩) hSS ?_
  rotate_left 1
  · intro wS hwS
    go_simp
    try with_reducible rfl
  simp only [List.getElem_toArray, List.getElem_cons_succ, List.getElem_cons_zero, Act.put, List.setIfInBounds_toArray, List.set_cons_zero, List.set_cons_succ]
  refine wpAnyM_one (i := 5) rfl (by kernel_rfl) rfl (fun K hK => ?_)
  go_simp
  refine (C3.out _ (HX.out.kept (Qw.trans Q2 Q3))).mono ?_
  rintro e w4 ⟨xa', xc', rfl, kx, q4⟩
  have Q4 : Qw w2 w4 := Qw.trans Q3 q4
  have hSS : S2 w4 := (HS.out _).2 Q4
  refine hK _ _ (fun _ => hSS) ?_
  clear hK K
  have XB4 := XB.kept Q4
  have YB4 := YB.kept Q4
  have hnK : w.heap.size + 1 ≠ w.heap.size := by omega
  have W4 : WordsB w4 (fun b => w.heap.size + 2 ≤ b) a' c' d.b.words := wordsB_kept WB Q4
  have ylt := YB.lt
  have L4 : KidsB w4 (fun b => w.heap.size + 2 ≤ b) la' lc' d.b.left.ks := (kl.kept q4).mono fun b hb => by have := hb; simp at this; omega
  have X4 : KidsB w4 (fun b => w.heap.size + 2 ≤ b) xa' xc' d.b.x.ks := kx.mono fun b hb => by have hb' : w3.heap.size ≤ b := hb; have := Q3.size; omega
  have QQ4 : Qw w w4 := Qw.trans Q2 Q4
  clear XB YB WB kl kx q4 Q3 Q4 Q2
  have x4 := XB4.cell' 4 _ rfl
  have x5 := XB4.cell' 5 _ rfl
  have x6 := XB4.cell' 6 _ rfl
  have f4 := XB4.free 4
  have f5 := XB4.free 5
  have f6 := XB4.free 6
  refine wpAnyM_one (i := 7) rfl (by kernel_rfl) rfl (fun K hK => ?_)
  go_simp
  refine hK _ (((w4.setCell ⟨w.heap.size, 4, none⟩ (.int .i64 d.b.left.op)).setCell ⟨w.heap.size, 5, none⟩ (.int .i64 d.b.left.n)).setCell ⟨w.heap.size, 6, none⟩ (.slice la' d.b.left.ks.length lc')) (fun h => absurd h (by decide)) ?_
  clear hK K hSS x4 x5 x6 f4 f5 f6
  have XB5 := ((XB4.set 4 (.int .i64 d.b.left.op)).set 5 (.int .i64 d.b.left.n)).set 6 (.slice la' d.b.left.ks.length lc')
  have YB5 := ((YB4.other (a := ⟨w.heap.size, 4, none⟩) hnK (.int .i64 d.b.left.op)).other (a := ⟨w.heap.size, 5, none⟩) hnK (.int .i64 d.b.left.n)).other (a := ⟨w.heap.size, 6, none⟩) hnK (.slice la' d.b.left.ks.length lc')
  have e5 : ∀ b, b ≠ w.heap.size → (((w4.setCell ⟨w.heap.size, 4, none⟩ (.int .i64 d.b.left.op)).setCell ⟨w.heap.size, 5, none⟩ (.int .i64 d.b.left.n)).setCell ⟨w.heap.size, 6, none⟩ (.slice la' d.b.left.ks.length lc')).heap[b]? = w4.heap[b]? := fun b hb => (Below.heap_setCell _ _ _ b hb).trans ((Below.heap_setCell _ _ _ b hb).trans (Below.heap_setCell _ _ _ b hb))
  have QQ5 := Qw.sc (p := ⟨w.heap.size, 6, none⟩) (Qw.sc (p := ⟨w.heap.size, 5, none⟩) (Qw.sc (p := ⟨w.heap.size, 4, none⟩) QQ4 (Nat.le_refl _) (.int .i64 d.b.left.op)) (Nat.le_refl _) (.int .i64 d.b.left.n)) (Nat.le_refl _) (.slice la' d.b.left.ks.length lc')
  generalize ((w4.setCell ⟨w.heap.size, 4, none⟩ (.int .i64 d.b.left.op)).setCell ⟨w.heap.size, 5, none⟩ (.int .i64 d.b.left.n)).setCell ⟨w.heap.size, 6, none⟩ (.slice la' d.b.left.ks.length lc') = w5 at *
  have W5 : WordsB w5 (fun b => w.heap.size + 2 ≤ b) a' c' d.b.words := W4.go fun b hb _ => ⟨e5 b (by omega), hb⟩
  have L5 : KidsB w5 (fun b => w.heap.size + 2 ≤ b) la' lc' d.b.left.ks := L4.go fun b hb _ => ⟨e5 b (by omega), hb⟩
  have X5 : KidsB w5 (fun b => w.heap.size + 2 ≤ b) xa' xc' d.b.x.ks := X4.go fun b hb _ => ⟨e5 b (by omega), hb⟩
  clear W4 L4 X4 e5 XB4 YB4
  refine wpAnyM_one (i := 8) rfl (by kernel_rfl) rfl (fun K hK => ?_)
  go_simp
  refine hK _ w5 (fun h => absurd h (by decide)) ?_
  clear hK K
  have x7 := XB5.cell' 7 _ rfl
  have x8 := XB5.cell' 8 _ rfl
  have x9 := XB5.cell' 9 _ rfl
  have f7 := XB5.free 7
  have f8 := XB5.free 8
  have f9 := XB5.free 9
  refine wpAnyM_one (i := 9) rfl (by kernel_rfl) rfl (fun K hK => ?_)
  go_simp
  refine hK _ (((w5.setCell ⟨w.heap.size, 7, none⟩ (.int .i64 d.b.x.op)).setCell ⟨w.heap.size, 8, none⟩ (.int .i64 d.b.x.n)).setCell ⟨w.heap.size, 9, none⟩ (.slice xa' d.b.x.ks.length xc')) (fun h => absurd h (by decide)) ?_
  clear hK K x7 x8 x9 f7 f8 f9
  refine wpAnyM_done (by kernel_rfl) ?_ _
  have XB6 := ((XB5.set 7 (.int .i64 d.b.x.op)).set 8 (.int .i64 d.b.x.n)).set 9 (.slice xa' d.b.x.ks.length xc')
  have YB6 := ((YB5.other (a := ⟨w.heap.size, 7, none⟩) hnK (.int .i64 d.b.x.op)).other (a := ⟨w.heap.size, 8, none⟩) hnK (.int .i64 d.b.x.n)).other (a := ⟨w.heap.size, 9, none⟩) hnK (.slice xa' d.b.x.ks.length xc')
  have e6 : ∀ b, b ≠ w.heap.size → (((w5.setCell ⟨w.heap.size, 7, none⟩ (.int .i64 d.b.x.op)).setCell ⟨w.heap.size, 8, none⟩ (.int .i64 d.b.x.n)).setCell ⟨w.heap.size, 9, none⟩ (.slice xa' d.b.x.ks.length xc')).heap[b]? = w5.heap[b]? := fun b hb => (Below.heap_setCell _ _ _ b hb).trans ((Below.heap_setCell _ _ _ b hb).trans (Below.heap_setCell _ _ _ b hb))
  have QQ6 := Qw.sc (p := ⟨w.heap.size, 9, none⟩) (Qw.sc (p := ⟨w.heap.size, 8, none⟩) (Qw.sc (p := ⟨w.heap.size, 7, none⟩) QQ5 (Nat.le_refl _) (.int .i64 d.b.x.op)) (Nat.le_refl _) (.int .i64 d.b.x.n)) (Nat.le_refl _) (.slice xa' d.b.x.ks.length xc')
  generalize ((w5.setCell ⟨w.heap.size, 7, none⟩ (.int .i64 d.b.x.op)).setCell ⟨w.heap.size, 8, none⟩ (.int .i64 d.b.x.n)).setCell ⟨w.heap.size, 9, none⟩ (.slice xa' d.b.x.ks.length xc') = w6 at *
  have W6 : WordsB w6 (fun b => w.heap.size + 2 ≤ b) a' c' d.b.words := W5.go fun b hb _ => ⟨e6 b (by omega), hb⟩
  have L6 : KidsB w6 (fun b => w.heap.size + 2 ≤ b) la' lc' d.b.left.ks := L5.go fun b hb _ => ⟨e6 b (by omega), hb⟩
  have X6 : KidsB w6 (fun b => w.heap.size + 2 ≤ b) xa' xc' d.b.x.ks := X5.go fun b hb _ => ⟨e6 b (by omega), hb⟩
  clear W5 L5 X5 e6 XB5 YB5
  replace XB6 : Bx w6 w.heap.size #[.int .i64 d.b.kind, .int .i64 d.b.label, .bool d.b.skip, .slice a' d.b.words.length c', .int .i64 d.b.left.op, .int .i64 d.b.left.n, .slice la' d.b.left.ks.length lc', .int .i64 d.b.x.op, .int .i64 d.b.x.n, .slice xa' d.b.x.ks.length xc', .int .i64 d.b.n] 37 := XB6
  have z0 := XB6.cell' 0 (.int .i64 d.b.kind) rfl
  have z1 := XB6.cell' 1 (.int .i64 d.b.label) rfl
  have z2 := XB6.cell' 2 (.bool d.b.skip) rfl
  have z3 := XB6.cell' 3 (.slice a' d.b.words.length c') rfl
  have z4 := XB6.cell' 4 (.int .i64 d.b.left.op) rfl
  have z5 := XB6.cell' 5 (.int .i64 d.b.left.n) rfl
  have z6 := XB6.cell' 6 (.slice la' d.b.left.ks.length lc') rfl
  have z7 := XB6.cell' 7 (.int .i64 d.b.x.op) rfl
  have z8 := XB6.cell' 8 (.int .i64 d.b.x.n) rfl
  have z9 := XB6.cell' 9 (.slice xa' d.b.x.ks.length xc') rfl
  have z10 := XB6.cell' 10 (.int .i64 d.b.n) rfl
  have y0 := YB6.cell' 0 (.int .i64 0) rfl
  have y1 := YB6.cell' 1 (.int .i64 0) rfl
  have y2 := YB6.cell' 2 (.bool false) rfl
  have y3 := YB6.cell' 3 (.slice none 0 0) rfl
  have y4 := YB6.cell' 4 (.int .i64 0) rfl
  have y5 := YB6.cell' 5 (.int .i64 0) rfl
  have y6 := YB6.cell' 6 (.slice none 0 0) rfl
  have y7 := YB6.cell' 7 (.int .i64 0) rfl
  have y8 := YB6.cell' 8 (.int .i64 0) rfl
  have y9 := YB6.cell' 9 (.slice none 0 0) rfl
  have y10 := YB6.cell' 10 (.int .i64 0) rfl
  have g0 := YB6.free 0
  have g1 := YB6.free 1
  have g2 := YB6.free 2
  have g3 := YB6.free 3
  have g4 := YB6.free 4
  have g5 := YB6.free 5
  have g6 := YB6.free 6
  have g7 := YB6.free 7
  have g8 := YB6.free 8
  have g9 := YB6.free 9
  have g10 := YB6.free 10
  have YF := Lib.hid (putB_bx (.int .i64 d.b.kind) (.int .i64 d.b.label) (.bool d.b.skip) (.slice a' d.b.words.length c') (.int .i64 d.b.left.op) (.int .i64 d.b.left.n) (.slice la' d.b.left.ks.length lc') (.int .i64 d.b.x.op) (.int .i64 d.b.x.n) (.slice xa' d.b.x.ks.length xc') (.int .i64 d.b.n) YB6)
  have EF := Lib.hid (fun k h => putB_heap w6 (w.heap.size + 1) k (.int .i64 d.b.kind) (.int .i64 d.b.label) (.bool d.b.skip) (.slice a' d.b.words.length c') (.int .i64 d.b.left.op) (.int .i64 d.b.left.n) (.slice la' d.b.left.ks.length lc') (.int .i64 d.b.x.op) (.int .i64 d.b.x.n) (.slice xa' d.b.x.ks.length xc') (.int .i64 d.b.n) h)
  have QF : Hid (Qw w (putB w6 (w.heap.size + 1) (.int .i64 d.b.kind) (.int .i64 d.b.label) (.bool d.b.skip) (.slice a' d.b.words.length c') (.int .i64 d.b.left.op) (.int .i64 d.b.left.n) (.slice la' d.b.left.ks.length lc') (.int .i64 d.b.x.op) (.int .i64 d.b.x.n) (.slice xa' d.b.x.ks.length xc') (.int .i64 d.b.n))) := Lib.hid (by
    have ge1 : w.heap.size ≤ w.heap.size + 1 := Nat.le_succ _
    unfold putB
    exact Qw.sc (Qw.sc (Qw.sc (Qw.sc (Qw.sc (Qw.sc (Qw.sc (Qw.sc (Qw.sc (Qw.sc (Qw.sc QQ6 ge1 _) ge1 _) ge1 _) ge1 _) ge1 _) ge1 _) ge1 _) ge1 _) ge1 _) ge1 _) ge1 _)
  have BF : Hid (BiB (putB w6 (w.heap.size + 1) (.int .i64 d.b.kind) (.int .i64 d.b.label) (.bool d.b.skip) (.slice a' d.b.words.length c') (.int .i64 d.b.left.op) (.int .i64 d.b.left.n) (.slice la' d.b.left.ks.length lc') (.int .i64 d.b.x.op) (.int .i64 d.b.x.n) (.slice xa' d.b.x.ks.length xc') (.int .i64 d.b.n)) (fun b => w.heap.size ≤ b) ⟨d.b, a', c', la', lc', xa', xc'⟩) := Lib.hid ⟨W6.go fun b hb _ => ⟨EF.out b (by omega), by omega⟩, L6.go fun b hb _ => ⟨EF.out b (by omega), by omega⟩, X6.go fun b hb _ => ⟨EF.out b (by omega), by omega⟩⟩
  clear XB6 C1 C2 C3 HW HL HX CS HS hlt q0 ylt W6 L6 X6 EF QQ6 YB6
  go_wp2
  exact bodyPost_ret (v := .agg #[.int .i64 d.b.kind, .int .i64 d.b.label, .bool d.b.skip, .slice a' d.b.words.length c', .int .i64 d.b.left.op, .int .i64 d.b.left.n, .slice la' d.b.left.ks.length lc', .int .i64 d.b.x.op, .int .i64 d.b.x.n, .slice xa' d.b.x.ks.length xc', .int .i64 d.b.n]) (results_cell_row Tryd.results40 _ _ _ _ _ _ _ (by rfl) YF.out Tryd.underlying37 rfl info_blockS) rfl ⟨_, _, _, _, _, _, rfl, BF.out, QF.out⟩
end Go.Proofs.YtlgdjbabbfdngaaDoor

