import Derived.Test.YtfijmdaeaahodaaDoorZP0
import Derived.Test.YtfijmdaeaahodaaDoorZP1
import Derived.Test.YtfijmdaeaahodaaDoorZP2
import Derived.OrdersHeld
import Derived.StillTail
import Derived.Deep.MidRow
set_option linter.unusedVariables false
namespace Go.Proofs.YtfijmdaeaahodaaDoor
open Go
section
variable {P : Program} {ops : Array Oper} {Q : Exit → Act → World → Prop} {md : Region.Mode} {S : World → Prop} {m : Nat}
def wpAnyM (P : Program) (md : Region.Mode) (ops : Array Oper) (Q : Exit → Act → World → Prop) (S : World → Prop) (m : Nat) : Nat → Array Bool → Act → World → Prop
  | 0, listed, a, w => Region.ready md ops listed = [] ∧ Q .normal a w
  | fuel + 1, listed, a, w =>
    (Region.ready md ops listed = [] → Q .normal a w) ∧
    ∀ i ∈ Region.ready md ops listed, wpOp P ops Q i (fun a' w' => (i < m → S w') ∧ wpAnyM P md ops Q S m fuel (listed.setIfInBounds i true) a' w') a w
theorem wpAny_of_M : ∀ (fuel : Nat) (listed : Array Bool) (a : Act) (w : World), wpAnyM P md ops Q S m fuel listed a w → wpAny P md ops Q fuel listed a w
  | 0, _, _, _, h => h
  | fuel + 1, _, _, _, h => ⟨h.1, fun i hi => wpOp_mono (fun a' w' h' => wpAny_of_M fuel _ a' w' h'.2) (h.2 i hi)⟩
theorem wpAnyM_first {i : Nat} {oi : Oper} {v : Value} (hi : ops[i]? = some oi) (hsel : ∀ (j : Nat) (o : Oper) cs b, ops[j]? = some o → o.op ≠ .select cs b)
    (hs : Region.sinkB md ops m = true) (hc : Region.chainB md ops m = true) (hml : m < ops.size) (him : i < m)
    (hQ : ∀ c a w, Q (.panic c) (a.put oi.dst v) w → Q (.panic c) a w) :
    ∀ (fuel : Nat) (listed : Array Bool) (a : Act) (w : World), HeadInv md ops m listed →
      (∀ j oj, ops[j]? = some oj → j ≠ i → listed.getD j true = false → (∀ e ∈ oj.after, Region.binds md e = true → e.on ≠ i) → oi.apart ops oj = true) →
      i ∈ Region.ready md ops listed → YieldsIf P ops S oi v a → S w →
      wpAnyM P md ops Q S m fuel (listed.setIfInBounds i true) (a.put oi.dst v) w → wpAnyM P md ops Q S m (fuel + 1) listed a w := by
  intro fuel
  induction fuel with
  | zero =>
    intro listed a w inv _ hr hy hS H
    refine ⟨fun h => (by rw [h] at hr; cases hr), fun j hj => ?_⟩
    by_cases hji : j = i
    · subst hji; exact hy.wpOp hi hS ⟨fun _ => hS, H⟩
    · have := ready_mono hj hji
      rw [H.1] at this
      cases this
  | succ fuel ih =>
    intro listed a w inv hfree hr hy hS H
    refine ⟨fun h => (by rw [h] at hr; cases hr), fun j hj => ?_⟩
    by_cases hji : j = i
    · subst hji; exact hy.wpOp hi hS ⟨fun _ => hS, H⟩
    · have h1 := H.2 j (ready_mono hj hji)
      have hjm : j < m := by
        rcases Nat.lt_or_ge j m with h | h
        · exact h
        · exact absurd hj (tail_waits hs hc hml inv _ i rfl him (mem_ready.1 hr).1 j h)
      obtain ⟨hjun, oj, hoj, hall⟩ := mem_ready.1 hj
      have hnot : ∀ e ∈ oj.after, Region.binds md e = true → e.on ≠ i := fun e he hb heq => by
        have h1 := hall e he hb
        have h0 := (mem_ready.1 hr).1
        rw [heq] at h1
        rcases Nat.lt_or_ge i listed.size with h' | h'
        · simp [h'] at h0 h1; rw [h0] at h1; cases h1
        · simp [Array.getElem?_eq_none h'] at h1
      have h2 := wpOp_putIf hoj (hfree j oj hoj hji hjun hnot) (fun cs b => hsel i oi cs b hi) (fun cs b => hsel j oj cs b hoj) hQ hy h1
      have hfree' : ∀ k ok, ops[k]? = some ok → k ≠ i → (listed.setIfInBounds j true).getD k true = false →
          (∀ e ∈ ok.after, Region.binds md e = true → e.on ≠ i) → oi.apart ops ok = true := fun k ok hk hki hun hno => by
        refine hfree k ok hk hki ?_ hno
        by_cases hjk : j = k
        · subst hjk; exact hjun
        · rw [getD_set_ne true hjk] at hun; exact hun
      refine wpOp_mono (fun a' w' h3 => ⟨h3.2.1, ih (listed.setIfInBounds j true) a' w' (inv.set hj hjm) hfree' (ready_mono hr (Ne.symm hji)) h3.1 (h3.2.1 hjm) ?_⟩) h2
      rw [Array.setIfInBounds_comm _ _ hji]
      exact h3.2.2
def okL (md : Region.Mode) (ops : Array Oper) (m : Nat) (listed : Array Bool) : Bool :=
  (listed.size == ops.size) && ((List.range ops.size).all fun j => !listed.getD j false || (match ops[j]? with | some o => o.after.all fun e => !Region.binds md e || listed.getD e.on false | none => true)) &&
    ((List.range ops.size).all fun t => decide (t < m) || !listed.getD t true)
theorem okL_inv {listed : Array Bool} (h : okL md ops m listed = true) : HeadInv md ops m listed := by
  unfold okL at h
  simp only [Bool.and_eq_true, List.all_eq_true, List.mem_range, Bool.or_eq_true, beq_iff_eq, decide_eq_true_eq, Bool.not_eq_true'] at h
  obtain ⟨⟨h1, h2⟩, h3⟩ := h
  refine ⟨h1, fun j oj hj hl e he hb => ?_, fun t ht ht' => ?_⟩
  · have hjs : j < ops.size := (Array.getElem?_eq_some_iff.1 hj).1
    rcases h2 j hjs with k | k
    · rw [hl] at k; cases k
    · rw [hj] at k
      simp only [Array.all_eq_true_iff_forall_mem, Bool.or_eq_true, Bool.not_eq_true'] at k
      rcases k e he with k | k
      · rw [hb] at k; cases k
      · exact k
  · rcases h3 t ht' with k | k
    · omega
    · exact k
def takeB (md : Region.Mode) (ops : Array Oper) (m i : Nat) (listed : Array Bool) : Bool :=
  Region.noSelect ops && Region.free md ops listed i && (Region.ready md ops listed).contains i && okL md ops m listed && Region.sinkB md ops m && Region.chainB md ops m && decide (m < ops.size) && decide (i < m)
theorem wpAnyM_take {i : Nat} {oi : Oper} {v : Value} {fuel : Nat} {listed : Array Bool} {a : Act} {w : World} (hi : ops[i]? = some oi)
    (hb : takeB md ops m i listed = true)
    (hQ : ∀ c a w, Q (.panic c) (a.put oi.dst v) w → Q (.panic c) a w) (hy : YieldsIf P ops S oi v a) (hS : S w)
    (h : wpAnyM P md ops Q S m fuel (listed.setIfInBounds i true) (a.put oi.dst v) w) : wpAnyM P md ops Q S m (fuel + 1) listed a w := by
  unfold takeB at hb
  simp only [Bool.and_eq_true, decide_eq_true_eq] at hb
  obtain ⟨⟨⟨⟨⟨⟨⟨h1, h2⟩, h3⟩, h4⟩, h5⟩, h6⟩, h7⟩, h8⟩ := hb
  exact wpAnyM_first hi (Region.noSelect_spec h1) h5 h6 h7 h8 hQ fuel listed a w (okL_inv h4) (Region.free_spec hi h2) (by simpa using h3) hy hS h
theorem wpAnyM_one {i : Nat} {oi : Oper} {fuel : Nat} {listed : Array Bool} {a : Act} {w : World} (hi : ops[i]? = some oi) (hr : Region.ready md ops listed = [i]) (hg : oi.guard = none)
    (h : ∀ K : Act → World → Prop, (∀ a' w', (i < m → S w') → wpAnyM P md ops Q S m fuel (listed.setIfInBounds i true) a' w' → K a' w') → oi.wp P a w K Q) : wpAnyM P md ops Q S m (fuel + 1) listed a w := by
  refine ⟨fun h0 => (by rw [h0] at hr; cases hr), fun j hj => ?_⟩
  rw [hr] at hj
  obtain rfl : j = i := by simpa using hj
  unfold wpOp
  rw [hi]
  simp only
  rw [if_pos (by simp [Region.wanted, hg])]
  exact .inl (h _ fun a' w' hS H => ⟨hS, H⟩)
theorem wpAnyM_done {listed : Array Bool} {a : Act} {w : World} (hr : Region.ready md ops listed = []) (h : Q .normal a w) :
    ∀ fuel, wpAnyM P md ops Q S m fuel listed a w
  | 0 => ⟨hr, h⟩
  | _ + 1 => ⟨fun _ => h, by rw [hr]; simp⟩
theorem wp_region_M {id : Nat} {a : Act} {w : World} (S : World → Prop) (m : Nat) (hm : P.follows .mixedOrders = true)
    (h : wpAnyM P .any ops Q S m ops.size (Array.replicate ops.size false) a w.drew) : (Code.region id ops true).wp P Q a w :=
  wp_region_any hm (wpAny_of_M _ _ _ _ h)
end
end Go.Proofs.YtfijmdaeaahodaaDoor
set_option linter.unusedVariables false
set_option linter.unusedSimpArgs false
namespace Go.Proofs.YtfijmdaeaahodaaDoor
open Go.RowKit
def blZ : Array Value := #[.int .i64 0, .int .i64 0, .bool false, .slice none 0 0, .int .i64 0, .int .i64 0, .slice none 0 0, .int .i64 0, .int .i64 0, .slice none 0 0, .int .i64 0]
def putB (w : World) (b : Nat) (v0 v1 v2 v3 v4 v5 v6 v7 v8 v9 v10 : Value) : World :=
  ((((((((((w.setCell ⟨b, 0, none⟩ v0).setCell ⟨b, 1, none⟩ v1).setCell ⟨b, 2, none⟩ v2).setCell ⟨b, 3, none⟩ v3).setCell ⟨b, 4, none⟩ v4).setCell ⟨b, 5, none⟩ v5).setCell ⟨b, 6, none⟩ v6).setCell ⟨b, 7, none⟩ v7).setCell ⟨b, 8, none⟩ v8).setCell ⟨b, 9, none⟩ v9).setCell ⟨b, 10, none⟩ v10
theorem putB_heap (w : World) (b k : Nat) (v0 v1 v2 v3 v4 v5 v6 v7 v8 v9 v10 : Value) (h : k ≠ b) : (putB w b v0 v1 v2 v3 v4 v5 v6 v7 v8 v9 v10).heap[k]? = w.heap[k]? := by
  unfold putB
  iterate 11 rw [Below.heap_setCell _ _ _ _ h]
theorem putB_bx {w : World} {b : Nat} {t : TypeId} {u0 u1 u2 u3 u4 u5 u6 u7 u8 u9 u10 : Value} (v0 v1 v2 v3 v4 v5 v6 v7 v8 v9 v10 : Value) (R : Bx w b #[u0, u1, u2, u3, u4, u5, u6, u7, u8, u9, u10] t) : Bx (putB w b v0 v1 v2 v3 v4 v5 v6 v7 v8 v9 v10) b #[v0, v1, v2, v3, v4, v5, v6, v7, v8, v9, v10] t := by
  have h0 : Bx (w.setCell ⟨b, 0, none⟩ v0) b #[v0, u1, u2, u3, u4, u5, u6, u7, u8, u9, u10] t := R.set 0 v0
  have h1 : Bx ((w.setCell ⟨b, 0, none⟩ v0).setCell ⟨b, 1, none⟩ v1) b #[v0, v1, u2, u3, u4, u5, u6, u7, u8, u9, u10] t := h0.set 1 v1
  have h2 : Bx (((w.setCell ⟨b, 0, none⟩ v0).setCell ⟨b, 1, none⟩ v1).setCell ⟨b, 2, none⟩ v2) b #[v0, v1, v2, u3, u4, u5, u6, u7, u8, u9, u10] t := h1.set 2 v2
  have h3 : Bx ((((w.setCell ⟨b, 0, none⟩ v0).setCell ⟨b, 1, none⟩ v1).setCell ⟨b, 2, none⟩ v2).setCell ⟨b, 3, none⟩ v3) b #[v0, v1, v2, v3, u4, u5, u6, u7, u8, u9, u10] t := h2.set 3 v3
  have h4 : Bx (((((w.setCell ⟨b, 0, none⟩ v0).setCell ⟨b, 1, none⟩ v1).setCell ⟨b, 2, none⟩ v2).setCell ⟨b, 3, none⟩ v3).setCell ⟨b, 4, none⟩ v4) b #[v0, v1, v2, v3, v4, u5, u6, u7, u8, u9, u10] t := h3.set 4 v4
  have h5 : Bx ((((((w.setCell ⟨b, 0, none⟩ v0).setCell ⟨b, 1, none⟩ v1).setCell ⟨b, 2, none⟩ v2).setCell ⟨b, 3, none⟩ v3).setCell ⟨b, 4, none⟩ v4).setCell ⟨b, 5, none⟩ v5) b #[v0, v1, v2, v3, v4, v5, u6, u7, u8, u9, u10] t := h4.set 5 v5
  have h6 : Bx (((((((w.setCell ⟨b, 0, none⟩ v0).setCell ⟨b, 1, none⟩ v1).setCell ⟨b, 2, none⟩ v2).setCell ⟨b, 3, none⟩ v3).setCell ⟨b, 4, none⟩ v4).setCell ⟨b, 5, none⟩ v5).setCell ⟨b, 6, none⟩ v6) b #[v0, v1, v2, v3, v4, v5, v6, u7, u8, u9, u10] t := h5.set 6 v6
  have h7 : Bx ((((((((w.setCell ⟨b, 0, none⟩ v0).setCell ⟨b, 1, none⟩ v1).setCell ⟨b, 2, none⟩ v2).setCell ⟨b, 3, none⟩ v3).setCell ⟨b, 4, none⟩ v4).setCell ⟨b, 5, none⟩ v5).setCell ⟨b, 6, none⟩ v6).setCell ⟨b, 7, none⟩ v7) b #[v0, v1, v2, v3, v4, v5, v6, v7, u8, u9, u10] t := h6.set 7 v7
  have h8 : Bx (((((((((w.setCell ⟨b, 0, none⟩ v0).setCell ⟨b, 1, none⟩ v1).setCell ⟨b, 2, none⟩ v2).setCell ⟨b, 3, none⟩ v3).setCell ⟨b, 4, none⟩ v4).setCell ⟨b, 5, none⟩ v5).setCell ⟨b, 6, none⟩ v6).setCell ⟨b, 7, none⟩ v7).setCell ⟨b, 8, none⟩ v8) b #[v0, v1, v2, v3, v4, v5, v6, v7, v8, u9, u10] t := h7.set 8 v8
  have h9 : Bx ((((((((((w.setCell ⟨b, 0, none⟩ v0).setCell ⟨b, 1, none⟩ v1).setCell ⟨b, 2, none⟩ v2).setCell ⟨b, 3, none⟩ v3).setCell ⟨b, 4, none⟩ v4).setCell ⟨b, 5, none⟩ v5).setCell ⟨b, 6, none⟩ v6).setCell ⟨b, 7, none⟩ v7).setCell ⟨b, 8, none⟩ v8).setCell ⟨b, 9, none⟩ v9) b #[v0, v1, v2, v3, v4, v5, v6, v7, v8, v9, u10] t := h8.set 9 v9
  have h10 : Bx (((((((((((w.setCell ⟨b, 0, none⟩ v0).setCell ⟨b, 1, none⟩ v1).setCell ⟨b, 2, none⟩ v2).setCell ⟨b, 3, none⟩ v3).setCell ⟨b, 4, none⟩ v4).setCell ⟨b, 5, none⟩ v5).setCell ⟨b, 6, none⟩ v6).setCell ⟨b, 7, none⟩ v7).setCell ⟨b, 8, none⟩ v8).setCell ⟨b, 9, none⟩ v9).setCell ⟨b, 10, none⟩ v10) b #[v0, v1, v2, v3, v4, v5, v6, v7, v8, v9, v10] t := h9.set 10 v10
  exact h10
theorem putB_px {P b : Nat} {w w' : World} (q : Px P w w') (h : w.heap.size ≤ b) (v0 v1 v2 v3 v4 v5 v6 v7 v8 v9 v10 : Value) : Px P w (putB w' b v0 v1 v2 v3 v4 v5 v6 v7 v8 v9 v10) := by
  unfold putB
  exact ((((((((((q.setNew h _).setNew h _).setNew h _).setNew h _).setNew h _).setNew h _).setNew h _).setNew h _).setNew h _).setNew h _).setNew h _
end Go.Proofs.YtfijmdaeaahodaaDoor
set_option linter.unusedVariables false
set_option linter.unusedSimpArgs false
namespace Go.Proofs.YtfijmdaeaahodaaDoor
open Go.RowKit
theorem info_blockS : (Tryd.prog.info? 37).map (·.size) = some 11 := by kernel_rfl
theorem wordsB_kept {w w' : World} {S : Nat → Prop} {a : Option Addr} {cap : Nat} {ws : List (Int × Sy.Ex)} (h : WordsB w S a cap ws) (q : Qw w w') : WordsB w' S a cap ws := h.go fun b hS hb => ⟨q.block b hb, hS⟩
structure Smb (b : Sy.Bl) : Prop where
  w : b.words.length ≤ 100
  ws : ∀ k ∈ b.words, Smx k.2
  l : Smx b.left
  x : Smx b.x
def CpK (d : Bi) (w : World) : Prop := Calls Tryd.prog 43 #[.agg #[.int .i64 d.b.kind, .int .i64 d.b.label, .bool d.b.skip, .slice d.wa d.b.words.length d.wc, .int .i64 d.b.left.op, .int .i64 d.b.left.n, .slice d.la d.b.left.ks.length d.lc, .int .i64 d.b.x.op, .int .i64 d.b.x.n, .slice d.xa d.b.x.ks.length d.xc, .int .i64 d.b.n]] w fun e w' => ∃ wa wc la lc xa xc, e = .returned (.agg #[.int .i64 d.b.kind, .int .i64 d.b.label, .bool d.b.skip, .slice wa d.b.words.length wc, .int .i64 d.b.left.op, .int .i64 d.b.left.n, .slice la d.b.left.ks.length lc, .int .i64 d.b.x.op, .int .i64 d.b.x.n, .slice xa d.b.x.ks.length xc, .int .i64 d.b.n]) ∧ BiB w' (fun b => w.heap.size ≤ b) ⟨d.b, wa, wc, la, lc, xa, xc⟩ ∧ Qw w w'
set_option maxRecDepth 100000 in
set_option maxHeartbeats 4000000 in
theorem cp_block (d : Bi) (hs : Smb d.b) (S : Nat → Prop) (w : World) (h : BiB w S d) : CpK d w := by
  have c1 := fun w1 (h : WordsB w1 S d.wa d.wc d.b.words) => cp_words d.b.words hs.w hs.ws d.wa d.wc S w1 h
  have c2 := fun w1 (h : KidsB w1 S d.la d.lc d.b.left.ks) => cp_expr d.b.left hs.l d.la d.lc S w1 h
  have c3 := fun w1 (h : KidsB w1 S d.xa d.xc d.b.x.ks) => cp_expr d.b.x hs.x d.xa d.xc S w1 h
  unfold CpX at c2 c3
  unfold CpK
  obtain ⟨hW, hL, hX⟩ := h
  have C1 := Lib.hid c1
  have C2 := Lib.hid c2
  have C3 := Lib.hid c3
  have HW := Lib.hid hW
  have HL := Lib.hid hL
  have HX := Lib.hid hX
  clear c1 c2 c3 hW hL hX hs
  have q0 : Hid (Qw w w) := Lib.hid (Qw.refl w)
  go_enter Tryd.func43, Tryd.ntmps43
  go_wp2_with (go_at_call 60; with_reducible refine (C1.out _ (wordsB_kept HW.out (Qw.al (Qw.al (Qw.refl w) _) _))).mono ?_)
  rintro e w1 ⟨a', c', rfl, kb, q⟩
  have q1 : Qw w w1 := Qw.trans (Qw.al (Qw.al (Qw.refl w) _) _) q
  have X := ((Bx.new w #[.int .i64 d.b.kind, .int .i64 d.b.label, .bool d.b.skip, .slice d.wa d.b.words.length d.wc, .int .i64 d.b.left.op, .int .i64 d.b.left.n, .slice d.la d.b.left.ks.length d.lc, .int .i64 d.b.x.op, .int .i64 d.b.x.n, .slice d.xa d.b.x.ks.length d.xc, .int .i64 d.b.n] 37).alloc (.cells #[.int .i64 0, .int .i64 0, .bool false, .slice none 0 0, .int .i64 0, .int .i64 0, .slice none 0 0, .int .i64 0, .int .i64 0, .slice none 0 0, .int .i64 0] 37)).kept q
  have Y := (Bx.new (w.alloc (.cells #[.int .i64 d.b.kind, .int .i64 d.b.label, .bool d.b.skip, .slice d.wa d.b.words.length d.wc, .int .i64 d.b.left.op, .int .i64 d.b.left.n, .slice d.la d.b.left.ks.length d.lc, .int .i64 d.b.x.op, .int .i64 d.b.x.n, .slice d.xa d.b.x.ks.length d.xc, .int .i64 d.b.n] 37)) #[.int .i64 0, .int .i64 0, .bool false, .slice none 0 0, .int .i64 0, .int .i64 0, .slice none 0 0, .int .i64 0, .int .i64 0, .slice none 0 0, .int .i64 0] 37).kept q
  have sz1 : ∀ (o : Obj), (w.alloc o).heap.size = w.heap.size + 1 := fun o => by simp
  rw [sz1] at Y
  have kb1 : WordsB w1 (fun b => w.heap.size + 2 ≤ b) a' c' d.b.words := kb.go fun b hb hl => ⟨rfl, by have := hb; simp at this; omega⟩
  have x3 := X.cell' 3 _ rfl
  have f3 := X.free 3
  have XS := X.set 3 (.slice a' d.b.words.length c')
  have hnK : w.heap.size + 1 ≠ w.heap.size := by omega
  have YS := Y.other (a := ⟨w.heap.size, 3, none⟩) hnK (.slice a' d.b.words.length c')
  have qs : Qw w (w1.setCell ⟨w.heap.size, 3, none⟩ (.slice a' d.b.words.length c')) := Qw.sc q1 (Nat.le_refl _) _
  have ks : WordsB (w1.setCell ⟨w.heap.size, 3, none⟩ (.slice a' d.b.words.length c')) (fun b => w.heap.size + 2 ≤ b) a' c' d.b.words := kb1.go fun b hb hl => ⟨Below.heap_setCell _ ⟨w.heap.size, 3, none⟩ _ b (by show b ≠ w.heap.size; omega), hb⟩
  clear kb kb1 q sz1
  go_wp2
  clear x3 f3 X Y
  refine code_of (fun w2 => Bx w2 w.heap.size #[.int .i64 d.b.kind, .int .i64 d.b.label, .bool d.b.skip, .slice a' d.b.words.length c', .int .i64 d.b.left.op, .int .i64 d.b.left.n, .slice d.la d.b.left.ks.length d.lc, .int .i64 d.b.x.op, .int .i64 d.b.x.n, .slice d.xa d.b.x.ks.length d.xc, .int .i64 d.b.n] 37 ∧ Bx w2 (w.heap.size + 1) #[.int .i64 0, .int .i64 0, .bool false, .slice none 0 0, .int .i64 0, .int .i64 0, .slice none 0 0, .int .i64 0, .int .i64 0, .slice none 0 0, .int .i64 0] 37 ∧ Qw w w2 ∧ WordsB w2 (fun b => w.heap.size + 2 ≤ b) a' c' d.b.words) ⟨XS, YS, qs, ks⟩ ?_
  clear XS YS qs ks q1 hnK
  rintro w2 ⟨XB, YB, Q2, WB⟩
  have x4 := XB.cell' 4 _ rfl
  have x5 := XB.cell' 5 _ rfl
  have x6 := XB.cell' 6 _ rfl
  have x7 := XB.cell' 7 _ rfl
  have x8 := XB.cell' 8 _ rfl
  have x9 := XB.cell' 9 _ rfl
  have hlt := XB.lt
  obtain ⟨S2, hS⟩ : ∃ S2 : World → Prop, ∀ w', S2 w' ↔ Qw w2 w' := ⟨_, fun _ => Iff.rfl⟩
  have HS := Lib.hid hS
  have CS := Lib.hid (fun w' (h : S2 w') o => ((hS w').1 h).cell (p := ⟨w.heap.size, o, none⟩) hlt)
  clear hS
  refine wp_region_M S2 7 (by kernel_rfl) ?_
  have hSS : S2 (World.drew w2) := (HS.out _).2 (Qw.dr (Qw.refl w2))
  refine wpAnyM_take (i := 0) (v := ?_) rfl (by kernel_rfl) (fun _ _ _ h => h) (Or.inl ⟨by rfl, ?_⟩) hSS ?_
  rotate_left 1
  · intro wS hwS
    go_simp
    try with_reducible rfl
  simp only [List.getElem_toArray, List.getElem_cons_succ, List.getElem_cons_zero, Act.put, List.setIfInBounds_toArray, List.set_cons_zero, List.set_cons_succ]
  refine wpAnyM_take (i := 1) (v := ?_) rfl (by kernel_rfl) (fun _ _ _ h => h) (Or.inl ⟨by rfl, ?_⟩) hSS ?_
  rotate_left 1
  · intro wS hwS
    have c4 := (CS.out wS hwS 4).trans x4; have c5 := (CS.out wS hwS 5).trans x5; have c6 := (CS.out wS hwS 6).trans x6; go_simp
    try with_reducible rfl
  simp only [List.getElem_toArray, List.getElem_cons_succ, List.getElem_cons_zero, Act.put, List.setIfInBounds_toArray, List.set_cons_zero, List.set_cons_succ]
  refine wpAnyM_take (i := 3) (v := ?_) rfl (by kernel_rfl) (fun _ _ _ h => h) (Or.inl ⟨by rfl, ?_⟩) hSS ?_
  rotate_left 1
  · intro wS hwS
    go_simp
    try with_reducible rfl
  simp only [List.getElem_toArray, List.getElem_cons_succ, List.getElem_cons_zero, Act.put, List.setIfInBounds_toArray, List.set_cons_zero, List.set_cons_succ]
  refine wpAnyM_take (i := 4) (v := ?_) rfl (by kernel_rfl) (fun _ _ _ h => h) (Or.inl ⟨by rfl, ?_⟩) hSS ?_
  rotate_left 1
  · intro wS hwS
    have c7 := (CS.out wS hwS 7).trans x7; have c8 := (CS.out wS hwS 8).trans x8; have c9 := (CS.out wS hwS 9).trans x9; go_simp
    try with_reducible rfl
  simp only [List.getElem_toArray, List.getElem_cons_succ, List.getElem_cons_zero, Act.put, List.setIfInBounds_toArray, List.set_cons_zero, List.set_cons_succ]
  clear x4 x5 x6 x7 x8 x9
  refine wpAnyM_one (i := 2) rfl (by kernel_rfl) rfl (fun K hK => ?_)
  go_simp
  refine (C2.out _ (HL.out.kept (Qw.dr Q2))).mono ?_
  rintro e w3 ⟨la', lc', rfl, kl, q3⟩
  have Q3 : Qw w2 w3 := Qw.trans (Qw.dr (Qw.refl w2)) q3
  have hSS : S2 w3 := (HS.out _).2 Q3
  refine hK _ _ (fun _ => hSS) ?_
  clear hK K q3
  refine wpAnyM_take (i := 6) (v := ?_) rfl (by kernel_rfl) (fun _ _ _ h => h) (Or.inl ⟨by rfl, ?_⟩) hSS ?_
  rotate_left 1
  · intro wS hwS
    go_simp
    try with_reducible rfl
  simp only [List.getElem_toArray, List.getElem_cons_succ, List.getElem_cons_zero, Act.put, List.setIfInBounds_toArray, List.set_cons_zero, List.set_cons_succ]
  refine wpAnyM_one (i := 5) rfl (by kernel_rfl) rfl (fun K hK => ?_)
  go_simp
  refine (C3.out _ (HX.out.kept (Qw.trans Q2 Q3))).mono ?_
  rintro e w4 ⟨xa', xc', rfl, kx, q4⟩
  have Q4 : Qw w2 w4 := Qw.trans Q3 q4
  have hSS : S2 w4 := (HS.out _).2 Q4
  refine hK _ _ (fun _ => hSS) ?_
  clear hK K
  have XB4 := XB.kept Q4
  have YB4 := YB.kept Q4
  have hnK : w.heap.size + 1 ≠ w.heap.size := by omega
  have W4 : WordsB w4 (fun b => w.heap.size + 2 ≤ b) a' c' d.b.words := wordsB_kept WB Q4
  have ylt := YB.lt
  have L4 : KidsB w4 (fun b => w.heap.size + 2 ≤ b) la' lc' d.b.left.ks := (kl.kept q4).mono fun b hb => by have := hb; simp at this; omega
  have X4 : KidsB w4 (fun b => w.heap.size + 2 ≤ b) xa' xc' d.b.x.ks := kx.mono fun b hb => by have hb' : w3.heap.size ≤ b := hb; have := Q3.size; omega
  have QQ4 : Qw w w4 := Qw.trans Q2 Q4
  clear XB YB WB kl kx q4 Q3 Q4 Q2
  have x4 := XB4.cell' 4 _ rfl
  have x5 := XB4.cell' 5 _ rfl
  have x6 := XB4.cell' 6 _ rfl
  have f4 := XB4.free 4
  have f5 := XB4.free 5
  have f6 := XB4.free 6
  refine wpAnyM_one (i := 7) rfl (by kernel_rfl) rfl (fun K hK => ?_)
  go_simp
  refine hK _ (((w4.setCell ⟨w.heap.size, 4, none⟩ (.int .i64 d.b.left.op)).setCell ⟨w.heap.size, 5, none⟩ (.int .i64 d.b.left.n)).setCell ⟨w.heap.size, 6, none⟩ (.slice la' d.b.left.ks.length lc')) (fun h => absurd h (by decide)) ?_
  clear hK K hSS x4 x5 x6 f4 f5 f6
  have XB5 := ((XB4.set 4 (.int .i64 d.b.left.op)).set 5 (.int .i64 d.b.left.n)).set 6 (.slice la' d.b.left.ks.length lc')
  have YB5 := ((YB4.other (a := ⟨w.heap.size, 4, none⟩) hnK (.int .i64 d.b.left.op)).other (a := ⟨w.heap.size, 5, none⟩) hnK (.int .i64 d.b.left.n)).other (a := ⟨w.heap.size, 6, none⟩) hnK (.slice la' d.b.left.ks.length lc')
  have e5 : ∀ b, b ≠ w.heap.size → (((w4.setCell ⟨w.heap.size, 4, none⟩ (.int .i64 d.b.left.op)).setCell ⟨w.heap.size, 5, none⟩ (.int .i64 d.b.left.n)).setCell ⟨w.heap.size, 6, none⟩ (.slice la' d.b.left.ks.length lc')).heap[b]? = w4.heap[b]? := fun b hb => (Below.heap_setCell _ _ _ b hb).trans ((Below.heap_setCell _ _ _ b hb).trans (Below.heap_setCell _ _ _ b hb))
  have QQ5 := Qw.sc (p := ⟨w.heap.size, 6, none⟩) (Qw.sc (p := ⟨w.heap.size, 5, none⟩) (Qw.sc (p := ⟨w.heap.size, 4, none⟩) QQ4 (Nat.le_refl _) (.int .i64 d.b.left.op)) (Nat.le_refl _) (.int .i64 d.b.left.n)) (Nat.le_refl _) (.slice la' d.b.left.ks.length lc')
  generalize ((w4.setCell ⟨w.heap.size, 4, none⟩ (.int .i64 d.b.left.op)).setCell ⟨w.heap.size, 5, none⟩ (.int .i64 d.b.left.n)).setCell ⟨w.heap.size, 6, none⟩ (.slice la' d.b.left.ks.length lc') = w5 at *
  have W5 : WordsB w5 (fun b => w.heap.size + 2 ≤ b) a' c' d.b.words := W4.go fun b hb _ => ⟨e5 b (by omega), hb⟩
  have L5 : KidsB w5 (fun b => w.heap.size + 2 ≤ b) la' lc' d.b.left.ks := L4.go fun b hb _ => ⟨e5 b (by omega), hb⟩
  have X5 : KidsB w5 (fun b => w.heap.size + 2 ≤ b) xa' xc' d.b.x.ks := X4.go fun b hb _ => ⟨e5 b (by omega), hb⟩
  clear W4 L4 X4 e5 XB4 YB4
  refine wpAnyM_one (i := 8) rfl (by kernel_rfl) rfl (fun K hK => ?_)
  go_simp
  refine hK _ w5 (fun h => absurd h (by decide)) ?_
  clear hK K
  have x7 := XB5.cell' 7 _ rfl
  have x8 := XB5.cell' 8 _ rfl
  have x9 := XB5.cell' 9 _ rfl
  have f7 := XB5.free 7
  have f8 := XB5.free 8
  have f9 := XB5.free 9
  refine wpAnyM_one (i := 9) rfl (by kernel_rfl) rfl (fun K hK => ?_)
  go_simp
  refine hK _ (((w5.setCell ⟨w.heap.size, 7, none⟩ (.int .i64 d.b.x.op)).setCell ⟨w.heap.size, 8, none⟩ (.int .i64 d.b.x.n)).setCell ⟨w.heap.size, 9, none⟩ (.slice xa' d.b.x.ks.length xc')) (fun h => absurd h (by decide)) ?_
  clear hK K x7 x8 x9 f7 f8 f9
  refine wpAnyM_done (by kernel_rfl) ?_ _
  have XB6 := ((XB5.set 7 (.int .i64 d.b.x.op)).set 8 (.int .i64 d.b.x.n)).set 9 (.slice xa' d.b.x.ks.length xc')
  have YB6 := ((YB5.other (a := ⟨w.heap.size, 7, none⟩) hnK (.int .i64 d.b.x.op)).other (a := ⟨w.heap.size, 8, none⟩) hnK (.int .i64 d.b.x.n)).other (a := ⟨w.heap.size, 9, none⟩) hnK (.slice xa' d.b.x.ks.length xc')
  have e6 : ∀ b, b ≠ w.heap.size → (((w5.setCell ⟨w.heap.size, 7, none⟩ (.int .i64 d.b.x.op)).setCell ⟨w.heap.size, 8, none⟩ (.int .i64 d.b.x.n)).setCell ⟨w.heap.size, 9, none⟩ (.slice xa' d.b.x.ks.length xc')).heap[b]? = w5.heap[b]? := fun b hb => (Below.heap_setCell _ _ _ b hb).trans ((Below.heap_setCell _ _ _ b hb).trans (Below.heap_setCell _ _ _ b hb))
  have QQ6 := Qw.sc (p := ⟨w.heap.size, 9, none⟩) (Qw.sc (p := ⟨w.heap.size, 8, none⟩) (Qw.sc (p := ⟨w.heap.size, 7, none⟩) QQ5 (Nat.le_refl _) (.int .i64 d.b.x.op)) (Nat.le_refl _) (.int .i64 d.b.x.n)) (Nat.le_refl _) (.slice xa' d.b.x.ks.length xc')
  generalize ((w5.setCell ⟨w.heap.size, 7, none⟩ (.int .i64 d.b.x.op)).setCell ⟨w.heap.size, 8, none⟩ (.int .i64 d.b.x.n)).setCell ⟨w.heap.size, 9, none⟩ (.slice xa' d.b.x.ks.length xc') = w6 at *
  have W6 : WordsB w6 (fun b => w.heap.size + 2 ≤ b) a' c' d.b.words := W5.go fun b hb _ => ⟨e6 b (by omega), hb⟩
  have L6 : KidsB w6 (fun b => w.heap.size + 2 ≤ b) la' lc' d.b.left.ks := L5.go fun b hb _ => ⟨e6 b (by omega), hb⟩
  have X6 : KidsB w6 (fun b => w.heap.size + 2 ≤ b) xa' xc' d.b.x.ks := X5.go fun b hb _ => ⟨e6 b (by omega), hb⟩
  clear W5 L5 X5 e6 XB5 YB5
  replace XB6 : Bx w6 w.heap.size #[.int .i64 d.b.kind, .int .i64 d.b.label, .bool d.b.skip, .slice a' d.b.words.length c', .int .i64 d.b.left.op, .int .i64 d.b.left.n, .slice la' d.b.left.ks.length lc', .int .i64 d.b.x.op, .int .i64 d.b.x.n, .slice xa' d.b.x.ks.length xc', .int .i64 d.b.n] 37 := XB6
  have z0 := XB6.cell' 0 (.int .i64 d.b.kind) rfl
  have z1 := XB6.cell' 1 (.int .i64 d.b.label) rfl
  have z2 := XB6.cell' 2 (.bool d.b.skip) rfl
  have z3 := XB6.cell' 3 (.slice a' d.b.words.length c') rfl
  have z4 := XB6.cell' 4 (.int .i64 d.b.left.op) rfl
  have z5 := XB6.cell' 5 (.int .i64 d.b.left.n) rfl
  have z6 := XB6.cell' 6 (.slice la' d.b.left.ks.length lc') rfl
  have z7 := XB6.cell' 7 (.int .i64 d.b.x.op) rfl
  have z8 := XB6.cell' 8 (.int .i64 d.b.x.n) rfl
  have z9 := XB6.cell' 9 (.slice xa' d.b.x.ks.length xc') rfl
  have z10 := XB6.cell' 10 (.int .i64 d.b.n) rfl
  have y0 := YB6.cell' 0 (.int .i64 0) rfl
  have y1 := YB6.cell' 1 (.int .i64 0) rfl
  have y2 := YB6.cell' 2 (.bool false) rfl
  have y3 := YB6.cell' 3 (.slice none 0 0) rfl
  have y4 := YB6.cell' 4 (.int .i64 0) rfl
  have y5 := YB6.cell' 5 (.int .i64 0) rfl
  have y6 := YB6.cell' 6 (.slice none 0 0) rfl
  have y7 := YB6.cell' 7 (.int .i64 0) rfl
  have y8 := YB6.cell' 8 (.int .i64 0) rfl
  have y9 := YB6.cell' 9 (.slice none 0 0) rfl
  have y10 := YB6.cell' 10 (.int .i64 0) rfl
  have g0 := YB6.free 0
  have g1 := YB6.free 1
  have g2 := YB6.free 2
  have g3 := YB6.free 3
  have g4 := YB6.free 4
  have g5 := YB6.free 5
  have g6 := YB6.free 6
  have g7 := YB6.free 7
  have g8 := YB6.free 8
  have g9 := YB6.free 9
  have g10 := YB6.free 10
  have YF := Lib.hid (putB_bx (.int .i64 d.b.kind) (.int .i64 d.b.label) (.bool d.b.skip) (.slice a' d.b.words.length c') (.int .i64 d.b.left.op) (.int .i64 d.b.left.n) (.slice la' d.b.left.ks.length lc') (.int .i64 d.b.x.op) (.int .i64 d.b.x.n) (.slice xa' d.b.x.ks.length xc') (.int .i64 d.b.n) YB6)
  have EF := Lib.hid (fun k h => putB_heap w6 (w.heap.size + 1) k (.int .i64 d.b.kind) (.int .i64 d.b.label) (.bool d.b.skip) (.slice a' d.b.words.length c') (.int .i64 d.b.left.op) (.int .i64 d.b.left.n) (.slice la' d.b.left.ks.length lc') (.int .i64 d.b.x.op) (.int .i64 d.b.x.n) (.slice xa' d.b.x.ks.length xc') (.int .i64 d.b.n) h)
  have QF : Hid (Qw w (putB w6 (w.heap.size + 1) (.int .i64 d.b.kind) (.int .i64 d.b.label) (.bool d.b.skip) (.slice a' d.b.words.length c') (.int .i64 d.b.left.op) (.int .i64 d.b.left.n) (.slice la' d.b.left.ks.length lc') (.int .i64 d.b.x.op) (.int .i64 d.b.x.n) (.slice xa' d.b.x.ks.length xc') (.int .i64 d.b.n))) := Lib.hid (by
    have ge1 : w.heap.size ≤ w.heap.size + 1 := Nat.le_succ _
    unfold putB
    exact Qw.sc (Qw.sc (Qw.sc (Qw.sc (Qw.sc (Qw.sc (Qw.sc (Qw.sc (Qw.sc (Qw.sc (Qw.sc QQ6 ge1 _) ge1 _) ge1 _) ge1 _) ge1 _) ge1 _) ge1 _) ge1 _) ge1 _) ge1 _) ge1 _)
  have BF : Hid (BiB (putB w6 (w.heap.size + 1) (.int .i64 d.b.kind) (.int .i64 d.b.label) (.bool d.b.skip) (.slice a' d.b.words.length c') (.int .i64 d.b.left.op) (.int .i64 d.b.left.n) (.slice la' d.b.left.ks.length lc') (.int .i64 d.b.x.op) (.int .i64 d.b.x.n) (.slice xa' d.b.x.ks.length xc') (.int .i64 d.b.n)) (fun b => w.heap.size ≤ b) ⟨d.b, a', c', la', lc', xa', xc'⟩) := Lib.hid ⟨W6.go fun b hb _ => ⟨EF.out b (by omega), by omega⟩, L6.go fun b hb _ => ⟨EF.out b (by omega), by omega⟩, X6.go fun b hb _ => ⟨EF.out b (by omega), by omega⟩⟩
  clear XB6 C1 C2 C3 HW HL HX CS HS hlt q0 ylt W6 L6 X6 EF QQ6 YB6
  go_wp2
  exact bodyPost_ret (v := .agg #[.int .i64 d.b.kind, .int .i64 d.b.label, .bool d.b.skip, .slice a' d.b.words.length c', .int .i64 d.b.left.op, .int .i64 d.b.left.n, .slice la' d.b.left.ks.length lc', .int .i64 d.b.x.op, .int .i64 d.b.x.n, .slice xa' d.b.x.ks.length xc', .int .i64 d.b.n]) (results_cell_row Tryd.results43 _ _ _ _ _ _ _ (by rfl) YF.out Tryd.underlying37 rfl info_blockS) rfl ⟨_, _, _, _, _, _, rfl, BF.out, QF.out⟩
end Go.Proofs.YtfijmdaeaahodaaDoor
set_option linter.unusedVariables false
set_option linter.unusedSimpArgs false
namespace Go.Proofs.YtfijmdaeaahodaaDoor
namespace Lb
open Sy
structure Pg where
  num : Int
  first : Nat
  fin : Nat
structure St where
  i : Nat
  op : List (Nat × Int)
  pg : List Pg
  lab : List Int
  mate : List Int
def st0 : St := ⟨0, [], [⟨0, 0, 0⟩], [], []⟩
inductive Rs where
  | bad (at_ : Nat) (err : Int)
  | ok (s : St)
def pgS (b : Bl) (s : St) : Rs :=
  if b.kind = 6 then
    match s.op with
    | (j, _) :: _ => .bad j 11
    | [] => if s.pg.any (fun p => p.num == b.n) = true then .bad s.i 7 else .ok { s with pg := s.pg ++ [⟨b.n, s.i, s.i⟩], lab := [] }
  else .ok s
def labS (b : Bl) (s : St) : Rs :=
  if 0 < b.label then (if s.lab.contains b.label = true then .bad s.i 7 else .ok { s with lab := b.label :: s.lab }) else .ok s
def more (i : Nat) : List Pg → List Pg
  | [] => []
  | [p] => [{ p with fin := i + 1 }]
  | p :: l => p :: more i l
def loopS (b : Bl) (s : St) : Rs :=
  if b.kind = 4 then (if s.op.any (fun p => p.2 == b.n) = true then .bad s.i 11 else .ok { s with i := s.i + 1, op := (s.i, b.n) :: s.op, mate := s.mate ++ [-1] })
  else if b.kind = 5 then
    match s.op with
    | [] => .bad s.i 11
    | (j, n) :: r => if n = b.n then .ok { s with i := s.i + 1, op := r, mate := (s.mate ++ [(j : Int)]).set j s.i } else .bad s.i 11
  else .ok { s with i := s.i + 1, mate := s.mate ++ [-1] }
def stepS (b : Bl) (s : St) : Rs := match pgS b s with
  | .bad j e => .bad j e
  | .ok s => match labS b s with
    | .bad j e => .bad j e
    | .ok s => loopS b { s with pg := more s.i s.pg }
def run : List Bl → St → Rs
  | [], s => .ok s
  | b :: l, s => match stepS b s with
    | .bad j e => .bad j e
    | .ok s => run l s
def fin : Rs → Rs
  | .bad j e => .bad j e
  | .ok s => match s.op with
    | (j, _) :: _ => .bad j 11
    | [] => .ok s
def inv : List Bl → Nat → Option Nat
  | [], _ => none
  | b :: l, i => if vldb b = true then inv l (i + 1) else some i
def build (l : List Bl) : Rs :=
  if 2000 < l.length then .bad 0 10 else match inv l 0 with
    | some i => .bad i 1
    | none => fin (run l st0)
theorem run_app (l r : List Bl) : ∀ s, run (l ++ r) s = match run l s with
    | .bad j e => .bad j e
    | .ok s => run r s := by
  induction l with
  | nil => intro s; rfl
  | cons b l ih =>
    intro s
    show (match stepS b s with | .bad j e => Rs.bad j e | .ok s => run (l ++ r) s) = match (match stepS b s with | .bad j e => Rs.bad j e | .ok s => run l s) with | .bad j e => .bad j e | .ok s => run r s
    cases stepS b s with
    | bad j e => rfl
    | ok s => exact ih s
theorem run_one {l : List Bl} {s0 s s' : St} {b : Bl} (h : run l s0 = .ok s) (k : stepS b s = .ok s') : run (l ++ [b]) s0 = .ok s' := by
  rw [run_app, h]
  show (match stepS b s with | .bad j e => Rs.bad j e | .ok s => run [] s) = _
  rw [k]; rfl
theorem inv_none {l : List Bl} (h : ∀ b ∈ l, vldb b = true) : ∀ i, inv l i = none := by
  induction l with
  | nil => intro i; rfl
  | cons b l ih =>
    intro i
    unfold inv
    rw [if_pos (h b (List.mem_cons_self ..))]
    exact ih (fun c hc => h c (List.mem_cons_of_mem _ hc)) _
theorem more_nums (i : Nat) : ∀ l : List Pg, (more i l).map (·.num) = l.map (·.num)
  | [] => rfl
  | [p] => rfl
  | p :: q :: l => by
    show p.num :: (more i (q :: l)).map (·.num) = _
    rw [more_nums i (q :: l)]; rfl
theorem more_any (i : Nat) (n : Int) : ∀ l : List Pg, (more i l).any (fun p => p.num == n) = l.any (fun p => p.num == n)
  | [] => rfl
  | [p] => rfl
  | p :: q :: l => by
    show (p.num == n || (more i (q :: l)).any (fun p => p.num == n)) = _
    rw [more_any i n (q :: l)]; rfl
def down : Nat → List Int
  | 0 => []
  | k + 1 => ((k + 1 : Nat) : Int) :: down k
theorem down_le : ∀ (k : Nat), ∀ n ∈ down k, 1 ≤ n ∧ n ≤ k
  | 0, _, h => by cases h
  | k + 1, n, h => by
    rcases List.mem_cons.1 h with rfl | h
    · exact ⟨by omega, Int.le_refl _⟩
    · have := down_le k n h; omega
def nums (k : Nat) : List Int := (List.range k).map (fun i : Nat => (i : Int))
theorem nums_succ (k : Nat) : nums (k + 1) = nums k ++ [(k : Int)] := by unfold nums; rw [List.range_succ, List.map_append]; rfl
def lay : Nat → List Pg → Nat → Prop
  | a, [], z => a = z
  | a, p :: l, z => p.first = a ∧ a ≤ p.fin ∧ lay p.fin l z
theorem lay_more : ∀ {l : List Pg} {a z : Nat}, l ≠ [] → lay a l z → lay a (more z l) (z + 1)
  | [], _, _, h, _ => absurd rfl h
  | [p], a, z, _, h => by
    obtain ⟨h1, h2, h3⟩ := h
    have : p.fin = z := h3
    exact ⟨h1, by show a ≤ z + 1; omega, rfl⟩
  | p :: q :: l, a, z, _, h => ⟨h.1, h.2.1, lay_more (by simp) h.2.2⟩
theorem lay_app {q : Pg} : ∀ {l : List Pg} {a z : Nat}, lay a l z → q.first = z → q.fin = z → lay a (l ++ [q]) z
  | [], a, z, h, h1, h2 => by have h' : a = z := h; subst h'; exact ⟨h1, by rw [h2]; exact Nat.le_refl _, h2⟩
  | p :: l, a, z, h, h1, h2 => ⟨h.1, h.2.1, lay_app h.2.2 h1 h2⟩
def Inc (l : List Bl) : Prop := l.Pairwise (fun a b => a.label ≠ 0 → b.label ≠ 0 → a.label < b.label)
theorem inc_app {l : List Bl} {b : Bl} {lab : Int} (h : Inc l) (hl : ∀ c ∈ l, c.label ≤ lab) (hb : b.label = 0 ∨ b.label = lab + 1) : Inc (l ++ [b]) := by
  unfold Inc
  rw [List.pairwise_append]
  refine ⟨h, List.pairwise_singleton _ _, fun a ha c hc h1 h2 => ?_⟩
  rw [List.mem_singleton.1 hc] at h2 ⊢
  have := hl a ha
  omega
theorem lb_app {l : List Bl} {b : Bl} {lab : Int} (hl : ∀ c ∈ l, c.label ≤ lab) (hb : b.label = 0 ∨ b.label = lab + 1) (h0 : 0 ≤ lab) : ∀ c ∈ l ++ [b], c.label ≤ lab + 1 := fun c hc => by
  rcases List.mem_append.1 hc with hc | hc
  · have := hl c hc; omega
  · rw [List.mem_singleton.1 hc]; omega
structure Fl (p : Nat) (lab : Int) (k : Nat) (l : List Bl) (s : St) : Prop where
  run : run l st0 = .ok s
  op : s.op.map (·.2) = down k
  pg : ∀ q ∈ s.pg, 0 ≤ q.num ∧ q.num ≤ p
  lo : ∀ x ∈ s.lab, x ≤ lab
  vld : ∀ b ∈ l, vldb b = true
  nm : s.pg.map (·.num) = nums (p + 1)
  ly : lay 0 s.pg s.i
  lb : ∀ b ∈ l, b.label ≤ lab
  inc : Inc l
theorem Fl.ne {p : Nat} {lab : Int} {k : Nat} {l : List Bl} {s : St} (h : Fl p lab k l s) : s.pg ≠ [] := fun e => by
  have := h.nm
  rw [e, nums_succ] at this
  simp at this
theorem Fl.start : Fl 0 0 0 [] st0 := ⟨rfl, rfl, by intro q hq; simp [st0] at hq; subst hq; exact ⟨by decide, by decide⟩, by simp [st0], by simp, rfl, ⟨rfl, Nat.le_refl _, rfl⟩, by simp, List.Pairwise.nil⟩
theorem Fl.skip {p : Nat} {lab lab' : Int} {k : Nat} {l : List Bl} {s : St} (h : Fl p lab k l s) (hl : lab ≤ lab') : Fl p lab' k l s := ⟨h.run, h.op, h.pg, fun x hx => by have := h.lo x hx; omega, h.vld, h.nm, h.ly, fun b hb => by have := h.lb b hb; omega, h.inc⟩
theorem more_mem {i : Nat} {p : Nat} : ∀ {l : List Pg}, (∀ q ∈ l, 0 ≤ q.num ∧ q.num ≤ p) → ∀ q ∈ more i l, 0 ≤ q.num ∧ q.num ≤ p := fun {l} h q hq => by
  have : q.num ∈ (more i l).map (·.num) := List.mem_map.2 ⟨q, hq, rfl⟩
  rw [more_nums] at this
  obtain ⟨r, hr, e⟩ := List.mem_map.1 this
  rw [← e]; exact h r hr
theorem labS_new {b : Bl} {s : St} {lab : Int} (h : ∀ x ∈ s.lab, x ≤ lab) (hb : b.label = 0 ∨ b.label = lab + 1) (h0 : 0 ≤ lab) : ∃ s', labS b s = .ok s' ∧ s'.i = s.i ∧ s'.op = s.op ∧ s'.pg = s.pg ∧ s'.mate = s.mate ∧ ∀ x ∈ s'.lab, x ≤ lab + 1 := by
  unfold labS
  rcases hb with hb | hb
  · rw [if_neg (by omega)]
    exact ⟨s, rfl, rfl, rfl, rfl, rfl, fun x hx => by have := h x hx; omega⟩
  · rw [if_pos (by omega), if_neg]
    · exact ⟨_, rfl, rfl, rfl, rfl, rfl, fun x hx => by
        rcases List.mem_cons.1 hx with rfl | hx
        · omega
        · have := h x hx; omega⟩
    · intro hc
      have := h _ (by simpa using hc)
      omega
theorem vld_app {l : List Bl} {b : Bl} (h : ∀ c ∈ l, vldb c = true) (hb : vldb b = true) : ∀ c ∈ l ++ [b], vldb c = true := fun c hc => by
  rcases List.mem_append.1 hc with hc | hc
  · exact h c hc
  · rw [List.mem_singleton.1 hc]; exact hb
theorem Fl.plain {p : Nat} {lab : Int} {k : Nat} {l : List Bl} {s : St} (h : Fl p lab k l s) {b : Bl} (hk : b.kind ≠ 4 ∧ b.kind ≠ 5 ∧ b.kind ≠ 6) (hb : b.label = 0 ∨ b.label = lab + 1) (h0 : 0 ≤ lab) (hv : vldb b = true) : ∃ s', Fl p (lab + 1) k (l ++ [b]) s' := by
  obtain ⟨s1, e1, f1, f2, f3, f4, f5⟩ := labS_new h.lo hb h0
  refine ⟨_, ⟨run_one h.run (s' := { s1 with pg := more s1.i s1.pg, i := s1.i + 1, mate := s1.mate ++ [-1] }) ?_, by show s1.op.map _ = _; rw [f2]; exact h.op, ?_, f5, vld_app h.vld hv, by show (more s1.i s1.pg).map _ = _; rw [more_nums, f3]; exact h.nm, by show lay 0 (more s1.i s1.pg) (s1.i + 1); rw [f3, f1]; exact lay_more h.ne h.ly, lb_app h.lb hb h0, inc_app h.inc h.lb hb⟩⟩
  · unfold stepS pgS
    rw [if_neg hk.2.2]
    simp only
    rw [e1]
    simp only
    unfold loopS
    rw [if_neg hk.1, if_neg hk.2.1]
  · show ∀ q ∈ more s1.i s1.pg, _
    rw [f3]; exact more_mem h.pg
theorem Fl.while_ {p : Nat} {lab : Int} {k : Nat} {l : List Bl} {s : St} (h : Fl p lab k l s) {b : Bl} (hk : b.kind = 4) (hn : b.n = (k : Int) + 1) (hb : b.label = 0 ∨ b.label = lab + 1) (h0 : 0 ≤ lab) (hv : vldb b = true) : ∃ s', Fl p (lab + 1) (k + 1) (l ++ [b]) s' := by
  obtain ⟨s1, e1, f1, f2, f3, f4, f5⟩ := labS_new h.lo hb h0
  have hop : s1.op.any (fun q => q.2 == b.n) = false := by
    rw [f2, List.any_eq_false]
    intro q hq hc
    have m : q.2 ∈ down k := by rw [← h.op]; exact List.mem_map.2 ⟨q, hq, rfl⟩
    have := down_le k _ m
    have e : q.2 = b.n := by simpa using hc
    omega
  refine ⟨_, ⟨run_one h.run (s' := { s1 with pg := more s1.i s1.pg, i := s1.i + 1, op := (s1.i, b.n) :: s1.op, mate := s1.mate ++ [-1] }) ?_, ?_, ?_, f5, vld_app h.vld hv, by show (more s1.i s1.pg).map _ = _; rw [more_nums, f3]; exact h.nm, by show lay 0 (more s1.i s1.pg) (s1.i + 1); rw [f3, f1]; exact lay_more h.ne h.ly, lb_app h.lb hb h0, inc_app h.inc h.lb hb⟩⟩
  · unfold stepS pgS
    rw [if_neg (by omega)]
    simp only
    rw [e1]
    simp only
    unfold loopS
    rw [if_pos hk, if_neg (by show ¬ s1.op.any _ = true; rw [hop]; decide)]
  · show b.n :: s1.op.map _ = _
    rw [f2, h.op, hn]
    show _ = ((k + 1 : Nat) : Int) :: down k
    rw [show ((k + 1 : Nat) : Int) = (k : Int) + 1 by omega]
  · show ∀ q ∈ more s1.i s1.pg, _
    rw [f3]; exact more_mem h.pg
theorem Fl.end_ {p : Nat} {lab : Int} {k : Nat} {l : List Bl} {s : St} (h : Fl p lab (k + 1) l s) {b : Bl} (hk : b.kind = 5) (hn : b.n = (k : Int) + 1) (hb : b.label = 0 ∨ b.label = lab + 1) (h0 : 0 ≤ lab) (hv : vldb b = true) : ∃ s', Fl p (lab + 1) k (l ++ [b]) s' := by
  obtain ⟨s1, e1, f1, f2, f3, f4, f5⟩ := labS_new h.lo hb h0
  have hop := h.op
  rw [← f2] at hop
  cases hs : s1.op with
  | nil => rw [hs] at hop; cases hop
  | cons q r =>
    obtain ⟨j, m⟩ := q
    rw [hs] at hop
    have hop' : m :: r.map (·.2) = ((k + 1 : Nat) : Int) :: down k := hop
    obtain ⟨hm, hr⟩ := List.cons.inj hop'
    refine ⟨_, ⟨run_one h.run (s' := { s1 with pg := more s1.i s1.pg, i := s1.i + 1, op := r, mate := (s1.mate ++ [(j : Int)]).set j s1.i }) ?_, hr, ?_, f5, vld_app h.vld hv, by show (more s1.i s1.pg).map _ = _; rw [more_nums, f3]; exact h.nm, by show lay 0 (more s1.i s1.pg) (s1.i + 1); rw [f3, f1]; exact lay_more h.ne h.ly, lb_app h.lb hb h0, inc_app h.inc h.lb hb⟩⟩
    · unfold stepS pgS
      rw [if_neg (by omega)]
      simp only
      rw [e1]
      simp only
      unfold loopS
      rw [if_neg (by omega), if_pos hk]
      simp only [hs]
      rw [if_pos (by omega)]
    · show ∀ q ∈ more s1.i s1.pg, _
      rw [f3]; exact more_mem h.pg
theorem Fl.prog {p : Nat} {lab : Int} {l : List Bl} {s : St} (h : Fl p lab 0 l s) {b : Bl} (hk : b.kind = 6) (hn : b.n = (p : Int) + 1) (hb : b.label = 0) (hv : vldb b = true) (h0 : 0 ≤ lab) : ∃ s', Fl (p + 1) lab 0 (l ++ [b]) s' := by
  have hop : s.op = [] := by
    have := h.op
    exact List.map_eq_nil_iff.1 this
  have hpg : s.pg.any (fun q => q.num == b.n) = false := by
    rw [List.any_eq_false]
    intro q hq hc
    have := h.pg q hq
    have e : q.num = b.n := by simpa using hc
    omega
  refine ⟨_, ⟨run_one h.run (s' := { s with pg := more s.i (s.pg ++ [⟨b.n, s.i, s.i⟩]), lab := [], i := s.i + 1, mate := s.mate ++ [-1] }) ?_, ?_, ?_, (by intro x hx; cases hx), vld_app h.vld hv, by show (more s.i (s.pg ++ [⟨b.n, s.i, s.i⟩])).map _ = _; rw [more_nums, List.map_append, h.nm, nums_succ (p + 1)]; congr 1; show [b.n] = _; rw [hn, show ((p + 1 : Nat) : Int) = (p : Int) + 1 by omega], lay_more (by simp) (lay_app h.ly rfl rfl), fun c hc => by
    rcases List.mem_append.1 hc with hc | hc
    · exact h.lb c hc
    · rw [List.mem_singleton.1 hc]; omega, inc_app h.inc h.lb (.inl hb)⟩⟩
  · unfold stepS pgS
    rw [if_pos hk]
    simp only [hop]
    rw [if_neg (by rw [hpg]; decide)]
    simp only
    unfold labS
    rw [if_neg (by omega)]
    simp only
    unfold loopS
    rw [if_neg (by omega), if_neg (by omega)]
  · show s.op.map _ = _
    rw [hop]; rfl
  · refine more_mem (fun q hq => ?_)
    rcases List.mem_append.1 hq with hq | hq
    · have := h.pg q hq; omega
    · rw [List.mem_singleton.1 hq]
      exact ⟨by show 0 ≤ b.n; omega, by show b.n ≤ _; omega⟩
theorem Fl.build {p : Nat} {lab : Int} {l : List Bl} {s : St} (h : Fl p lab 0 l s) (hl : l.length ≤ 2000) : build l = .ok s := by
  have hop : s.op = [] := List.map_eq_nil_iff.1 h.op
  unfold Lb.build
  rw [if_neg (by omega), inv_none h.vld, h.run]
  unfold fin
  simp only [hop]
end Lb
end Go.Proofs.YtfijmdaeaahodaaDoor

