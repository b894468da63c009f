import Derived.Lib.QuietBelow
import Derived.StillTailTactics
import Derived.BigQuiet
import Derived.Test.YtnjcbgnghfppoaaDoorGA
import Derived.Lib.Hide
import Derived.Outline
import Derived.OrdersHeld
import Derived.StillTail
import Derived.Deep.MidRow
import Derived.ArgAppend
import Derived.OwnWalk
import Derived.OneCell
import Derived.IntWalk
import Derived.Deep.QuietTactic
import Derived.WalkLawsBesides

/- A region that draws its order, whose first operations leave the world in a class (calls among them, which may make memory),
   and whose last ones come in one order: walked once, in the order of the text. -/
set_option linter.unusedVariables false
namespace Go.Proofs.YtnjcbgnghfppoaaDoor
open Go Go.RowKit Go.Sort

section
variable {P : Program} {ops : Array Oper} {C : World → Prop}

/-- The head's operations, in any order; behind them L. -/
def headQ (P : Program) (ops : Array Oper) (C : World → Prop) (n : Nat) (L : Array Bool → Act → Prop) : Nat → Array Bool → Act → Prop
  | 0, done, a => L done a
  | f + 1, done, a => Region.ready .any ops done ≠ [] ∧ ∀ i ∈ Region.ready .any ops done, i < n ∧ qOp P ops C i (headQ P ops C n L f (done.setIfInBounds i true)) a

theorem any_of_headQ {n g : Nat} {L : Array Bool → Act → Prop} {Q : Exit → Act → World → Prop} (hL : ∀ done a w, C w → L done a → wpAny P .any ops Q g done a w) :
    ∀ (f : Nat) (done : Array Bool) (a : Act) (w : World), C w → headQ P ops C n L f done a → wpAny P .any ops Q (f + g) done a w
  | 0, _, _, _, hC, h => by rw [Nat.zero_add]; exact hL _ _ _ hC h
  | f + 1, _, _, _, hC, h => by
    rw [show f + 1 + g = (f + g) + 1 by omega]
    exact ⟨fun e => absurd e h.1, fun i hi => wpOp_of_qOp hC (fun _ _ hC' h' => any_of_headQ hL f _ _ _ hC' h') (h.2 i hi).2⟩

theorem headQ_first {n i : Nat} {oi : Oper} {v : Value} {L : Array Bool → Act → Prop} (hi : ops[i]? = some oi) (hsel : ∀ (j : Nat) (o : Oper) cs b, ops[j]? = some o → o.op ≠ .select cs b)
    (hT : ∀ done, HeadInv .any ops n done → ∀ i, i < n → done.getD i true = false → ∀ t, n ≤ t → t ∉ Region.ready .any ops done) (hin : i < n) (hL : ∀ done a, L done a → ∀ j ∈ Region.ready .any ops done, n ≤ j) :
    ∀ (f : Nat) (done : Array Bool) (a : Act), HeadInv .any ops n done →
      (∀ j oj, ops[j]? = some oj → j ≠ i → done.getD j true = false → (∀ e ∈ oj.after, Region.binds .any e = true → e.on ≠ i) → oi.apart ops oj = true) →
      i ∈ Region.ready .any ops done → YieldsIn P ops C oi v a → headQ P ops C n L f (done.setIfInBounds i true) (a.put oi.dst v) → headQ P ops C n L (f + 1) done a := by
  intro f
  induction f with
  | zero =>
    intro done a inv _ hr hy H
    have hun := (mem_ready.1 hr).1
    refine ⟨fun e => (by rw [e] at hr; cases hr), fun j hj => ?_⟩
    have hjn : j < n := (Nat.lt_or_ge j n).resolve_right fun h => hT done inv i hin hun j h hj
    refine ⟨hjn, ?_⟩
    by_cases e : j = i
    · subst e; exact hy.qOp hi H
    · exact absurd (hL _ _ H j (ready_mono hj e)) (by omega)
  | succ f ih =>
    intro done a inv hfree hr hy H
    have hun := (mem_ready.1 hr).1
    refine ⟨fun e => (by rw [e] at hr; cases hr), fun j hj => ?_⟩
    have hjn : j < n := (Nat.lt_or_ge j n).resolve_right fun h => hT done inv i hin hun j h hj
    refine ⟨hjn, ?_⟩
    by_cases e : j = i
    · subst e; exact hy.qOp hi H
    · obtain ⟨hju, oj, hoj, hall⟩ := mem_ready.1 hj
      have hnot : ∀ e ∈ oj.after, Region.binds .any e = true → e.on ≠ i := fun x hx hb heq => by
        have h1 := hall x hx hb
        rw [heq, getD_both hun] at h1
        cases h1
      have hap := hfree j oj hoj e hju hnot
      have h2 := qOp_put hoj hap (fun cs b => hsel i oi cs b hi) (fun cs b => hsel j oj cs b hoj) hy (H.2 j (ready_mono hj e)).2
      refine qOp_mono (fun a' h3 => ih (done.setIfInBounds j true) a' (inv.set hj hjn) (fun k ok hk hki hu hno => hfree k ok hk hki ?_ hno) (ready_mono hr (Ne.symm e)) h3.1 ?_) h2
      · by_cases x : j = k
        · subst x; exact hju
        · rw [getD_set_ne true x] at hu; exact hu
      · rw [Array.setIfInBounds_comm _ _ e]; exact h3.2

/-- The flags behind the first operations. -/
def doneAt : Nat → Nat → Array Bool → Array Bool
  | 0, _, d => d
  | f + 1, k, d => doneAt f (k + 1) (d.setIfInBounds k true)
/-- The first operations may come in the order of the text. -/
def lexOk (ops : Array Oper) (n : Nat) : Nat → Nat → Array Bool → Bool
  | 0, _, d => (Region.ready .any ops d).all fun j => decide (n ≤ j)
  | f + 1, k, d => (Region.ready .any ops d).contains k && Region.free .any ops d k && lexOk ops n f (k + 1) (d.setIfInBounds k true)

theorem headQ_lex {n : Nat} {Lq : Act → Prop} (hsel : Region.noSelect ops = true) (hT : ∀ done, HeadInv .any ops n done → ∀ i, i < n → done.getD i true = false → ∀ t, n ≤ t → t ∉ Region.ready .any ops done) :
    ∀ (l : List Oper) (k : Nat) (done : Array Bool) (a : Act), (∀ j, j < l.length → l[j]? = ops[k + j]?) → k + l.length = n → HeadInv .any ops n done →
    lexOk ops n l.length k done = true → wpQuiet P ops C Lq l a → headQ P ops C n (fun d a' => d = doneAt l.length k done ∧ Lq a') l.length done a
  | [], k, done, a, _, hk, _, hB, h => ⟨rfl, h⟩
  | o :: l, k, done, a, hl, hk, inv, hB, h => by
    have h0 : ops[k]? = some o := by simpa using (hl 0 (by simp)).symm
    simp only [List.length_cons, lexOk, Bool.and_eq_true] at hB hk
    obtain ⟨⟨hr, hf⟩, hB'⟩ := hB
    have hr' : k ∈ Region.ready .any ops done := by simpa using hr
    have hst : qOp P ops C k (wpQuiet P ops C Lq l) a := by unfold qOp; simp only [h0]; exact h
    obtain ⟨v, hy, hK⟩ := yieldsIn_of_qOp h0 hst
    have fin : ∀ (l : List Oper) (k : Nat) (d : Array Bool), lexOk ops n l.length k d = true → ∀ j ∈ Region.ready .any ops (doneAt l.length k d), n ≤ j := by
      intro l
      induction l with
      | nil => intro k d hd j hj; simpa using List.all_eq_true.1 hd j hj
      | cons x l ih => intro k d hd; simp only [List.length_cons, lexOk, Bool.and_eq_true] at hd; exact ih _ _ hd.2
    exact headQ_first (L := fun d a' => d = doneAt l.length (k + 1) (done.setIfInBounds k true) ∧ Lq a') h0 (Region.noSelect_spec hsel) hT (by omega) (fun d a' hd => hd.1 ▸ fin l (k + 1) _ hB') l.length done a inv (Region.free_spec h0 hf) hr' hy
      (headQ_lex hsel hT l (k + 1) _ _ (fun j hj => by have := hl (j + 1) (by simp; omega); simpa [Nat.add_assoc, Nat.add_comm 1 j] using this) (by omega) (inv.set hr' (by omega)) hB' hK)

/-- Each operation behind the head waits for the head's last one, or for one that does. -/
def restB (ops : Array Oper) (n : Nat) : Bool := (List.range ops.size).all fun t => decide (t < n) || (List.range t).any fun j => decide (n ≤ j + 1) && Region.waitsFor .any ops t j
theorem rest_waits {n : Nat} (n0 : 0 < n) (hs : Region.sinkB .any ops (n - 1) = true) (hr : restB ops n = true) (done : Array Bool) (inv : HeadInv .any ops n done) (i : Nat) (hi : i < n) (hun : done.getD i true = false) (t : Nat) (ht : n ≤ t) : t ∉ Region.ready .any ops done := by
  intro hin
  obtain ⟨_, ot, hot, hall⟩ := mem_ready.1 hin
  have htl : t < ops.size := (Array.getElem?_eq_some_iff.1 hot).1
  have h1 := List.all_eq_true.1 hr t (List.mem_range.2 htl)
  simp only [Bool.or_eq_true, decide_eq_true_eq] at h1
  have last : done.getD (n - 1) false = true := by
    rcases h1 with h1 | h1
    · omega
    · obtain ⟨j, hj, hj2⟩ := List.any_eq_true.1 h1
      simp only [Bool.and_eq_true, decide_eq_true_eq] at hj2
      obtain ⟨o', ho', e, he, hb, hon⟩ := Region.waitsFor_spec hj2.2
      obtain rfl : o' = ot := Option.some.inj (ho'.symm.trans hot)
      have h2 := hall e he hb
      rw [hon] at h2
      rcases Nat.lt_or_ge j n with c | c
      · rw [show n - 1 = j by omega]; exact h2
      · have := getD_both (inv.tail j c (by have := List.mem_range.1 hj; omega))
        rw [this] at h2; cases h2
  have all : ∀ d i, n - 1 - i = d → i ≤ n - 1 → done.getD i false = true := by
    intro d
    induction d using Nat.strongRecOn with
    | _ d ih =>
      intro i hd hi
      by_cases e : i = n - 1
      · rw [e]; exact last
      · obtain ⟨j, hj, hj2⟩ := List.any_eq_true.1 (List.all_eq_true.1 hs i (List.mem_range.2 (by omega)))
        simp only [Bool.and_eq_true, decide_eq_true_eq] at hj2
        have := List.mem_range.1 hj
        obtain ⟨oj, hoj, x, hx, hb, hon⟩ := Region.waitsFor_spec hj2.2
        have := inv.closed j oj hoj (ih (n - 1 - j) (by omega) j rfl (by omega)) x hx hb
        rw [hon] at this; exact this
  have := all _ i rfl (by omega)
  rw [getD_both hun] at this; cases this

/-- The head quiet in the class; what comes behind it in whatever order. -/
theorem region_quiet_rest {id : Nat} {Q : Exit → Act → World → Prop} {a : Act} {w : World} {l : List Oper} (n : Nat) (hm : P.follows .mixedOrders = true)
    (hB : (Region.noSelect l.toArray && decide (0 < n) && decide (n ≤ l.length) && Region.sinkB .any l.toArray (n - 1) && restB l.toArray n && lexOk l.toArray n n 0 (Array.replicate l.length false)) = true) (hC : C w.drew)
    (h : wpQuiet P l.toArray C (fun a' => ∀ w', C w' → wpAny P .any l.toArray Q (l.length - n) (doneAt n 0 (Array.replicate l.length false)) a' w') (l.take n) a) : (Code.region id l.toArray true).wp P Q a w := by
  simp only [Bool.and_eq_true, decide_eq_true_eq] at hB
  obtain ⟨⟨⟨⟨⟨hsel, n0⟩, hn⟩, hs⟩, hr⟩, hlex⟩ := hB
  have ht : (l.take n).length = n := by simp; omega
  have inv0 : HeadInv .any l.toArray n (Array.replicate l.length false) :=
    ⟨by simp, fun j oj _ hl => (by rw [getD_replicate_false] at hl; cases hl), fun t _ ht => getD_in (by simpa using ht) (getD_replicate_false _ _)⟩
  have H := headQ_lex (P := P) (C := C) (n := n) hsel (fun d inv i hi hu t ht => rest_waits n0 hs hr d inv i hi hu t ht) (l.take n) 0 _ a (fun j hj => by
    have hj' : j < n := by rw [ht] at hj; exact hj
    simp [hj']) (by simpa using ht) inv0 (by rw [ht]; exact hlex) h
  refine wp_region_any hm ?_
  have := any_of_headQ (Q := Q) (g := l.length - n) (fun done a' w' hC' hL => by
    rw [hL.1, ht]; exact hL.2 w' hC') _ _ _ _ hC H
  rw [ht, show n + (l.length - n) = l.length by omega] at this
  simpa using this

/-- A number that is only reckoned may be reckoned first; then one after the other. -/
theorem any_one {l : List Oper} {Q : Exit → Act → World → Prop} {a : Act} {w : World} {o : Oper} {v : Value} {d : Array Bool} (n : Nat) (ho : l[n]? = some o)
    (hB : (Region.noSelect l.toArray && decide (n < l.length) && Region.free .any l.toArray d n && (Region.ready .any l.toArray d).contains n && Region.seqB .any l.toArray (l.length - (n + 1)) (n + 1) (d.setIfInBounds n true)) = true)
    (hQ : ∀ c a w, Q (.panic c) (a.put o.dst v) w → Q (.panic c) a w) (hw : Region.wanted o (yielded l.toArray a.tmps) = true) (hv : ∀ w, (execOp a.eval o).run P w = .ok (.value v) w)
    (h : wpList P l.toArray Q (l.drop (n + 1)) (a.put o.dst v) w) : wpAny P .any l.toArray Q (l.length - n) d a w := by
  simp only [Bool.and_eq_true, decide_eq_true_eq] at hB
  obtain ⟨⟨⟨⟨hsel, hn⟩, hf⟩, hr⟩, hseq⟩ := hB
  rw [show l.length - n = (l.length - (n + 1)) + 1 by omega]
  refine wpAny_take (i := n) (oi := o) (by simpa using ho) hsel hf hr hQ (.inl ⟨hw, hv⟩) ?_
  have hd : (l.drop (n + 1)).length = l.length - (n + 1) := by simp
  have := wpAny_of_seq (md := .any) (Q' := Q) (ops := l.toArray) (P := P) (l.drop (n + 1)) (n + 1) (d.setIfInBounds n true) (a.put o.dst v) w (fun j => by simp [List.getElem?_drop]) (by rw [hd]; exact hseq) h
  rwa [hd] at this

/-- The head quiet in the class, then the rest, one after the other. -/
theorem region_quiet_tail {id : Nat} {Q : Exit → Act → World → Prop} {a : Act} {w : World} {l : List Oper} (n : Nat) (hm : P.follows .mixedOrders = true)
    (hB : (Region.noSelect l.toArray && decide (0 < n) && decide (n ≤ l.length) && Region.sinkB .any l.toArray (n - 1) && restB l.toArray n && lexOk l.toArray n n 0 (Array.replicate l.length false) &&
      Region.seqB .any l.toArray (l.length - n) n (doneAt n 0 (Array.replicate l.length false))) = true) (hC : C w.drew)
    (h : wpQuiet P l.toArray C (fun a' => ∀ w', C w' → wpList P l.toArray Q (l.drop n) a' w') (l.take n) a) : (Code.region id l.toArray true).wp P Q a w := by
  obtain ⟨hB, hseq⟩ := Bool.and_eq_true_iff.1 hB
  refine region_quiet_rest n hm hB hC ?_
  have key : ∀ (K K' : Act → Prop), (∀ a, K a → K' a) → ∀ (m : List Oper) (a : Act), wpQuiet P l.toArray C K m a → wpQuiet P l.toArray C K' m a := by
    intro K K' hK m
    induction m with
    | nil => intro a h; exact hK _ h
    | cons o m ih =>
      intro a h
      unfold wpQuiet at h ⊢
      split
      · rename_i hw; rw [if_pos hw] at h; exact Oper.quiet_mono (fun a' h' => ih a' h') h
      · rename_i hw; rw [if_neg hw] at h; exact ih _ h
  refine key _ _ (fun a' h' w' hC' => ?_) _ _ h
  have hd : (l.drop n).length = l.length - n := by simp
  have := wpAny_of_seq (md := .any) (Q' := Q) (ops := l.toArray) (P := P) (l.drop n) n _ a' w' (fun j => by simp [List.getElem?_drop]) (by rw [hd]; exact hseq) (h' w' hC')
  rwa [hd] at this

/-! ### a long region: the order of the text is one of its orders, by a check that looks at each pair once -/
def fastFrom (ops : Array Oper) : Nat → List Oper → Bool
  | _, [] => true
  | k, o :: rest => (o.after.all fun e => !Region.binds .any e || Nat.blt e.on k) && ((rest.all fun y => (y.after.any fun e => Region.binds .any e && Nat.beq e.on k) || o.apart ops y) && fastFrom ops (k + 1) rest)

theorem anyQ_fast {Q : Act → Prop} (hs : Region.noSelect ops = true) : ∀ (l : List Oper) (k : Nat) (d : Array Bool) (a : Act), (∀ j, l[j]? = ops[k + j]?) → k + l.length = ops.size → d.size = ops.size →
    (∀ j, j < k → d.getD j false = true) → (∀ j, k ≤ j → j < ops.size → d.getD j true = false) → fastFrom ops k l = true → wpQuiet P ops C Q l a → wpAnyQ P .any ops C Q l.length d a
  | [], k, d, a, _, hk, hz, h1, _, _, h => by
    refine ⟨?_, h⟩
    rw [List.eq_nil_iff_forall_not_mem]
    intro j hj
    obtain ⟨h2, o, ho, _⟩ := mem_ready.1 hj
    have hjl := (Array.getElem?_eq_some_iff.1 ho).1
    have := h1 j (by simp at hk; omega)
    rw [getD_both h2] at this; cases this
  | o :: l, k, d, a, hl, hk, hz, h1, h2, hf, h => by
    have h0 : ops[k]? = some o := by simpa using (hl 0).symm
    simp only [fastFrom, Bool.and_eq_true] at hf
    obtain ⟨ha, hp, hf⟩ := hf
    simp only [List.length_cons] at hk
    have hst : qOp P ops C k (wpQuiet P ops C Q l) a := by unfold qOp; simp only [h0]; exact h
    obtain ⟨v, hy, hK⟩ := yieldsIn_of_qOp h0 hst
    refine wpAnyQ_first h0 (Region.noSelect_spec hs) l.length d a (fun j oj hj hne hu hno => ?_) (mem_ready.2 ⟨h2 k (Nat.le_refl _) (by omega), o, h0, fun e he hb => ?_⟩) hy ?_
    · have hjl := (Array.getElem?_eq_some_iff.1 hj).1
      have hkj : k < j := by
        rcases Nat.lt_or_ge j k with c | c
        · have := h1 j c; rw [getD_both hu] at this; cases this
        · omega
      have hm : oj ∈ l := by
        have := hl (j - k)
        rw [show k + (j - k) = j by omega, hj, show j - k = (j - k - 1) + 1 by omega, List.getElem?_cons_succ] at this
        exact List.mem_of_getElem? this
      have hq := List.all_eq_true.1 hp oj hm
      rcases Bool.or_eq_true_iff.1 hq with hq | hq
      · obtain ⟨e, he, hb⟩ := Array.any_eq_true'.1 hq
        simp only [Bool.and_eq_true] at hb
        exact absurd (Nat.eq_of_beq_eq_true hb.2) (hno e he hb.1)
      · exact hq
    · have := Array.all_eq_true'.1 ha e he
      rw [hb] at this
      have hlt : e.on < k := by simp [Nat.blt] at this; omega
      exact h1 _ hlt
    · refine anyQ_fast hs l (k + 1) _ _ (fun j => by have := hl (j + 1); simpa [Nat.add_assoc, Nat.add_comm 1 j] using this) (by omega) (by simp [hz]) (fun j hj => ?_) (fun j hj hj' => ?_) hf hK
      · by_cases e : k = j
        · subst e; simp [hz]; omega
        · rw [getD_set_ne false e]; exact h1 j (by omega)
      · rw [getD_set_ne true (by omega)]; exact h2 j (by omega) hj'

theorem region_quiet_fast {id : Nat} {Q : Exit → Act → World → Prop} {a : Act} {w : World} {l : List Oper} (hm : P.follows .mixedOrders = true) (hB : (Region.noSelect l.toArray && fastFrom l.toArray 0 l) = true) (hC : C w.drew)
    (h : wpQuiet P l.toArray C (fun a' => ∀ w', C w' → Q .normal a' w') l a) : (Code.region id l.toArray true).wp P Q a w := by
  simp only [Bool.and_eq_true] at hB
  refine wp_region_any hm (wpAny_of_quiet (Q := fun a' => ∀ w', C w' → Q .normal a' w') (fun _ w' hw' h => h w' hw') _ _ _ _ hC ?_)
  have := anyQ_fast (P := P) (C := C) hB.1 l 0 (Array.replicate l.toArray.size false) a (by simp) (by simp) (by simp) (fun j hj => absurd hj (by omega)) (fun j _ hj => getD_in (by simpa using hj) (getD_replicate_false _ _)) hB.2 h
  simpa using this
end
end Go.Proofs.YtnjcbgnghfppoaaDoor

/- Worlds in which nothing old has turned, as a class for regions that draw their order; blocks that are known whole. -/
set_option linter.unusedVariables false
namespace Go.Proofs.YtnjcbgnghfppoaaDoor
open Go Go.RowKit

/-- A world behind this one in which nothing old has turned. -/
structure Kept (w : World) where
  v : World
  h : Qw w v
instance (w : World) : Nonempty (Kept w) := ⟨⟨w, Qw.refl w⟩⟩

theorem qw_drew1 (w : World) : Qw w w.drew := ⟨rfl, rfl, rfl, Nat.le_refl _, fun _ _ => rfl⟩

theorem Kept.call {P : Program} {w : World} {f : FuncId} {args : Array Value} {n : Kept w} {v : Value} (h : Calls P f args n.v fun e w' => e = .returned v ∧ Qw n.v w') :
    Calls P f args n.v fun e w'' => e = .returned v ∧ ∃ p : Kept w, w'' = p.v :=
  h.mono fun _ w'' ⟨he, hq⟩ => ⟨he, ⟨w'', n.h.trans hq⟩, rfl⟩
theorem Kept.same {P : Program} {w : World} {f : FuncId} {args : Array Value} {n : Kept w} {v : Value} (h : Calls P f args n.v fun e w' => e = .returned v ∧ n.v = w') :
    Calls P f args n.v fun e w'' => e = .returned v ∧ ∃ p : Kept w, w'' = p.v :=
  h.mono fun _ _ ⟨he, hq⟩ => ⟨he, n, hq.symm⟩

/-- A region that draws its order, of loads and of calls that may make memory. -/
theorem region_kept {P : Program} {id : Nat} {Q : Exit → Act → World → Prop} {a : Act} {w : World} {l : List Oper} (hm : P.follows .mixedOrders = true) (hB : Region.lexB .any l.toArray = true)
    (h : wpQuiet P l.toArray (fun w' => ∃ p : Kept w, w' = p.v) (fun a' => ∀ w', Qw w w' → Q .normal a' w') l a) : (Code.region id l.toArray true).wp P Q a w := by
  have hh : wpQuiet P l.toArray (fun w' => ∃ p : Kept w, w' = p.v) (fun a' => ∀ w', (∃ p : Kept w, w' = p.v) → Q .normal a' w') l a := by
    have key : (fun a' => ∀ w', (∃ p : Kept w, w' = p.v) → Q .normal a' w') = (fun a' => ∀ w', Qw w w' → Q .normal a' w') := by
      funext a'
      exact propext ⟨fun k w' hq => k w' ⟨⟨w', hq⟩, rfl⟩, fun k w' ⟨p, e⟩ => k w' (e ▸ p.h)⟩
    rw [key]; exact h
  exact wp_region_quiet (C := fun w' => ∃ p : Kept w, w' = p.v) hm hB ⟨⟨_, qw_drew1 w⟩, rfl⟩ (by simpa using hh)

/-- The same for a long region, by the quicker check. -/
theorem region_kept_fast {P : Program} {id : Nat} {Q : Exit → Act → World → Prop} {a : Act} {w : World} {l : List Oper} (hm : P.follows .mixedOrders = true) (hB : (Region.noSelect l.toArray && fastFrom l.toArray 0 l) = true)
    (h : wpQuiet P l.toArray (fun w' => ∃ p : Kept w, w' = p.v) (fun a' => ∀ w', Qw w w' → Q .normal a' w') l a) : (Code.region id l.toArray true).wp P Q a w := by
  refine region_quiet_fast (C := fun w' => ∃ p : Kept w, w' = p.v) hm hB ⟨⟨_, qw_drew1 w⟩, rfl⟩ ?_
  have key : (fun a' => ∀ w', (∃ p : Kept w, w' = p.v) → Q .normal a' w') = (fun a' => ∀ w', Qw w w' → Q .normal a' w') := by
    funext a'
    exact propext ⟨fun k w' hq => k w' ⟨⟨w', hq⟩, rfl⟩, fun k w' ⟨p, e⟩ => k w' (e ▸ p.h)⟩
  rw [key]; exact h

/-- The same with stores at the end. -/
theorem region_kept_tail {P : Program} {id : Nat} {Q : Exit → Act → World → Prop} {a : Act} {w : World} {l : List Oper} (n : Nat) (hm : P.follows .mixedOrders = true)
    (hB : (Region.noSelect l.toArray && decide (0 < n) && decide (n ≤ l.length) && Region.sinkB .any l.toArray (n - 1) && restB l.toArray n && lexOk l.toArray n n 0 (Array.replicate l.length false) &&
      Region.seqB .any l.toArray (l.length - n) n (doneAt n 0 (Array.replicate l.length false))) = true)
    (h : wpQuiet P l.toArray (fun w' => ∃ p : Kept w, w' = p.v) (fun a' => ∀ w', Qw w w' → wpList P l.toArray Q (l.drop n) a' w') (l.take n) a) : (Code.region id l.toArray true).wp P Q a w := by
  refine region_quiet_tail (C := fun w' => ∃ p : Kept w, w' = p.v) n hm hB ⟨⟨_, qw_drew1 w⟩, rfl⟩ ?_
  have key : (fun a' => ∀ w', (∃ p : Kept w, w' = p.v) → wpList P l.toArray Q (l.drop n) a' w') = (fun a' => ∀ w', Qw w w' → wpList P l.toArray Q (l.drop n) a' w') := by
    funext a'
    exact propext ⟨fun k w' hq => k w' ⟨⟨w', hq⟩, rfl⟩, fun k w' ⟨p, e⟩ => k w' (e ▸ p.h)⟩
  rw [key]; exact h
/-- The same, where one number may still be reckoned among the stores. -/
theorem region_kept_rest {P : Program} {id : Nat} {Q : Exit → Act → World → Prop} {a : Act} {w : World} {l : List Oper} (n : Nat) (hm : P.follows .mixedOrders = true)
    (hB : (Region.noSelect l.toArray && decide (0 < n) && decide (n ≤ l.length) && Region.sinkB .any l.toArray (n - 1) && restB l.toArray n && lexOk l.toArray n n 0 (Array.replicate l.length false)) = true)
    (h : wpQuiet P l.toArray (fun w' => ∃ p : Kept w, w' = p.v) (fun a' => ∀ w', Qw w w' → wpAny P .any l.toArray Q (l.length - n) (doneAt n 0 (Array.replicate l.length false)) a' w') (l.take n) a) : (Code.region id l.toArray true).wp P Q a w := by
  refine region_quiet_rest (C := fun w' => ∃ p : Kept w, w' = p.v) n hm hB ⟨⟨_, qw_drew1 w⟩, rfl⟩ ?_
  have key : (fun a' => ∀ w', (∃ p : Kept w, w' = p.v) → wpAny P .any l.toArray Q (l.length - n) (doneAt n 0 (Array.replicate l.length false)) a' w') = (fun a' => ∀ w', Qw w w' → wpAny P .any l.toArray Q (l.length - n) (doneAt n 0 (Array.replicate l.length false)) a' w') := by
    funext a'
    exact propext ⟨fun k w' hq => k w' ⟨⟨w', hq⟩, rfl⟩, fun k w' ⟨p, e⟩ => k w' (e ▸ p.h)⟩
  rw [key]; exact h

/-- The world under a name. -/
theorem code_of {P : Program} {c : Code} {Q : Exit → Act → World → Prop} {a : Act} {w : World} (S : World → Prop) (h : S w) (k : ∀ w', S w' → c.wp P Q a w') : c.wp P Q a w := k w h

/-- Block b is known whole, and may be written. -/
def Bx (w : World) (b : Nat) (cs : Array Value) (t : TypeId) : Prop := w.heap[b]? = some (.cells cs t (0, 0))
section
variable {w w' : World} {b : Nat} {cs : Array Value} {t : TypeId}
theorem Bx.lt (h : Bx w b cs t) : b < w.heap.size := (Array.getElem?_eq_some_iff.1 h).1
theorem Bx.kept (h : Bx w b cs t) (q : Qw w w') : Bx w' b cs t := (q.block b h.lt).trans h
theorem Bx.below {B : Nat} (h : Bx w b cs t) (q : Below B w w') (hb : b < B) : Bx w' b cs t := (q.block b hb).trans h
theorem Bx.cell (h : Bx w b cs t) (i : Nat) : w.cell? ⟨b, i, none⟩ = cs[i]? := by simp only [Bx] at h; simp [World.cell?, h]
theorem Bx.free (h : Bx w b cs t) (i : Nat) : w.frozen? ⟨b, i, none⟩ = false := by simp only [Bx] at h; simp [World.frozen?, h]
theorem Bx.new (w : World) (cs : Array Value) (t : TypeId) : Bx (w.alloc (.cells cs t)) w.heap.size cs t := by
  show (w.heap.push _)[w.heap.size]? = _
  simp
theorem Bx.alloc (h : Bx w b cs t) (o : Obj) : Bx (w.alloc o) b cs t := (Below.heap_alloc w o b h.lt).trans h
theorem Bx.set (h : Bx w b cs t) (i : Nat) (v : Value) : Bx (w.setCell ⟨b, i, none⟩ v) b (cs.setIfInBounds i v) t := by
  simp only [Bx] at h ⊢
  simp only [World.setCell, Array.getElem?_modify, if_true, h, Option.map_some]
  rfl
theorem Bx.other (h : Bx w b cs t) {a : Addr} (hb : b ≠ a.block) (v : Value) : Bx (w.setCell a v) b cs t := (Below.heap_setCell w a v b hb).trans h
theorem Bx.kcell (h : Bx w b cs t) (i : Nat) (v : Value) (hv : cs[i]? = some v) : ∀ p : Kept w, p.v.cell? ⟨b, i, none⟩ = some v := fun p => ((h.kept p.h).cell i).trans hv
theorem Bx.kfree (h : Bx w b cs t) (i : Nat) : ∀ p : Kept w, p.v.frozen? ⟨b, i, none⟩ = false := fun p => (h.kept p.h).free i
theorem Bx.cell' (h : Bx w b cs t) (i : Nat) (v : Value) (hv : cs[i]? = some v) : w.cell? ⟨b, i, none⟩ = some v := (h.cell i).trans hv
end
end Go.Proofs.YtnjcbgnghfppoaaDoor

/- A region that draws its order and ends in one operation that waits for all others: what is read may be taken first under a condition on the world that need not hold behind that last operation. -/
set_option linter.unusedVariables false
namespace Go.Proofs.YtnjcbgnghfppoaaDoor
open Go

section
variable {P : Program} {ops : Array Oper} {Q : Exit → Act → World → Prop} {md : Region.Mode} {S : World → Prop} {m : Nat}

/-- Whatever order is picked, and S holds behind every operation but number m. -/
def wpAnyM (P : Program) (md : Region.Mode) (ops : Array Oper) (Q : Exit → Act → World → Prop) (S : World → Prop) (m : Nat) : Nat → Array Bool → Act → World → Prop
  | 0, listed, a, w => Region.ready md ops listed = [] ∧ Q .normal a w
  | fuel + 1, listed, a, w =>
    (Region.ready md ops listed = [] → Q .normal a w) ∧
    ∀ i ∈ Region.ready md ops listed, wpOp P ops Q i (fun a' w' => (i < m → S w') ∧ wpAnyM P md ops Q S m fuel (listed.setIfInBounds i true) a' w') a w

theorem wpAny_of_M : ∀ (fuel : Nat) (listed : Array Bool) (a : Act) (w : World), wpAnyM P md ops Q S m fuel listed a w → wpAny P md ops Q fuel listed a w
  | 0, _, _, _, h => h
  | fuel + 1, _, _, _, h => ⟨h.1, fun i hi => wpOp_mono (fun a' w' h' => wpAny_of_M fuel _ a' w' h'.2) (h.2 i hi)⟩

theorem wpAnyM_first {i : Nat} {oi : Oper} {v : Value} (hi : ops[i]? = some oi) (hsel : ∀ (j : Nat) (o : Oper) cs b, ops[j]? = some o → o.op ≠ .select cs b)
    (hs : Region.sinkB md ops m = true) (hc : Region.chainB md ops m = true) (hml : m < ops.size) (him : i < m)
    (hQ : ∀ c a w, Q (.panic c) (a.put oi.dst v) w → Q (.panic c) a w) :
    ∀ (fuel : Nat) (listed : Array Bool) (a : Act) (w : World), HeadInv md ops m listed →
      (∀ j oj, ops[j]? = some oj → j ≠ i → listed.getD j true = false → (∀ e ∈ oj.after, Region.binds md e = true → e.on ≠ i) → oi.apart ops oj = true) →
      i ∈ Region.ready md ops listed → YieldsIf P ops S oi v a → S w →
      wpAnyM P md ops Q S m fuel (listed.setIfInBounds i true) (a.put oi.dst v) w → wpAnyM P md ops Q S m (fuel + 1) listed a w := by
  intro fuel
  induction fuel with
  | zero =>
    intro listed a w inv _ hr hy hS H
    refine ⟨fun h => (by rw [h] at hr; cases hr), fun j hj => ?_⟩
    by_cases hji : j = i
    · subst hji; exact hy.wpOp hi hS ⟨fun _ => hS, H⟩
    · have := ready_mono hj hji
      rw [H.1] at this
      cases this
  | succ fuel ih =>
    intro listed a w inv hfree hr hy hS H
    refine ⟨fun h => (by rw [h] at hr; cases hr), fun j hj => ?_⟩
    by_cases hji : j = i
    · subst hji; exact hy.wpOp hi hS ⟨fun _ => hS, H⟩
    · have h1 := H.2 j (ready_mono hj hji)
      have hjm : j < m := by
        rcases Nat.lt_or_ge j m with h | h
        · exact h
        · exact absurd hj (tail_waits hs hc hml inv _ i rfl him (mem_ready.1 hr).1 j h)
      obtain ⟨hjun, oj, hoj, hall⟩ := mem_ready.1 hj
      have hnot : ∀ e ∈ oj.after, Region.binds md e = true → e.on ≠ i := fun e he hb heq => by
        have h1 := hall e he hb
        have h0 := (mem_ready.1 hr).1
        rw [heq] at h1
        rcases Nat.lt_or_ge i listed.size with h' | h'
        · simp [h'] at h0 h1; rw [h0] at h1; cases h1
        · simp [Array.getElem?_eq_none h'] at h1
      have h2 := wpOp_putIf hoj (hfree j oj hoj hji hjun hnot) (fun cs b => hsel i oi cs b hi) (fun cs b => hsel j oj cs b hoj) hQ hy h1
      have hfree' : ∀ k ok, ops[k]? = some ok → k ≠ i → (listed.setIfInBounds j true).getD k true = false →
          (∀ e ∈ ok.after, Region.binds md e = true → e.on ≠ i) → oi.apart ops ok = true := fun k ok hk hki hun hno => by
        refine hfree k ok hk hki ?_ hno
        by_cases hjk : j = k
        · subst hjk; exact hjun
        · rw [getD_set_ne true hjk] at hun; exact hun
      refine wpOp_mono (fun a' w' h3 => ⟨h3.2.1, ih (listed.setIfInBounds j true) a' w' (inv.set hj hjm) hfree' (ready_mono hr (Ne.symm hji)) h3.1 (h3.2.1 hjm) ?_⟩) h2
      rw [Array.setIfInBounds_comm _ _ hji]
      exact h3.2.2

/-- What of the listed operations is asked, as a Bool. -/
def okL (md : Region.Mode) (ops : Array Oper) (m : Nat) (listed : Array Bool) : Bool :=
  (listed.size == ops.size) && ((List.range ops.size).all fun j => !listed.getD j false || (match ops[j]? with | some o => o.after.all fun e => !Region.binds md e || listed.getD e.on false | none => true)) &&
    ((List.range ops.size).all fun t => decide (t < m) || !listed.getD t true)
theorem okL_inv {listed : Array Bool} (h : okL md ops m listed = true) : HeadInv md ops m listed := by
  unfold okL at h
  simp only [Bool.and_eq_true, List.all_eq_true, List.mem_range, Bool.or_eq_true, beq_iff_eq, decide_eq_true_eq, Bool.not_eq_true'] at h
  obtain ⟨⟨h1, h2⟩, h3⟩ := h
  refine ⟨h1, fun j oj hj hl e he hb => ?_, fun t ht ht' => ?_⟩
  · have hjs : j < ops.size := (Array.getElem?_eq_some_iff.1 hj).1
    rcases h2 j hjs with k | k
    · rw [hl] at k; cases k
    · rw [hj] at k
      simp only [Array.all_eq_true_iff_forall_mem, Bool.or_eq_true, Bool.not_eq_true'] at k
      rcases k e he with k | k
      · rw [hb] at k; cases k
      · exact k
  · rcases h3 t ht' with k | k
    · omega
    · exact k

/-- All that a take asks of the region and of what is listed. -/
def takeB (md : Region.Mode) (ops : Array Oper) (m i : Nat) (listed : Array Bool) : Bool :=
  Region.noSelect ops && Region.free md ops listed i && (Region.ready md ops listed).contains i && okL md ops m listed && Region.sinkB md ops m && Region.chainB md ops m && decide (m < ops.size) && decide (i < m)

theorem wpAnyM_take {i : Nat} {oi : Oper} {v : Value} {fuel : Nat} {listed : Array Bool} {a : Act} {w : World} (hi : ops[i]? = some oi)
    (hb : takeB md ops m i listed = true)
    (hQ : ∀ c a w, Q (.panic c) (a.put oi.dst v) w → Q (.panic c) a w) (hy : YieldsIf P ops S oi v a) (hS : S w)
    (h : wpAnyM P md ops Q S m fuel (listed.setIfInBounds i true) (a.put oi.dst v) w) : wpAnyM P md ops Q S m (fuel + 1) listed a w := by
  unfold takeB at hb
  simp only [Bool.and_eq_true, decide_eq_true_eq] at hb
  obtain ⟨⟨⟨⟨⟨⟨⟨h1, h2⟩, h3⟩, h4⟩, h5⟩, h6⟩, h7⟩, h8⟩ := hb
  exact wpAnyM_first hi (Region.noSelect_spec h1) h5 h6 h7 h8 hQ fuel listed a w (okL_inv h4) (Region.free_spec hi h2) (by simpa using h3) hy hS h

/-- One alone may come up. -/
theorem wpAnyM_one {i : Nat} {oi : Oper} {fuel : Nat} {listed : Array Bool} {a : Act} {w : World} (hi : ops[i]? = some oi) (hr : Region.ready md ops listed = [i]) (hg : oi.guard = none)
    (h : ∀ K : Act → World → Prop, (∀ a' w', (i < m → S w') → wpAnyM P md ops Q S m fuel (listed.setIfInBounds i true) a' w' → K a' w') → oi.wp P a w K Q) : wpAnyM P md ops Q S m (fuel + 1) listed a w := by
  refine ⟨fun h0 => (by rw [h0] at hr; cases hr), fun j hj => ?_⟩
  rw [hr] at hj
  obtain rfl : j = i := by simpa using hj
  unfold wpOp
  rw [hi]
  simp only
  rw [if_pos (by simp [Region.wanted, hg])]
  exact .inl (h _ fun a' w' hS H => ⟨hS, H⟩)

/-- One of two may come up. -/
theorem wpAnyM_two {i j : Nat} {oi oj : Oper} {fuel : Nat} {listed : Array Bool} {a : Act} {w : World} (hi : ops[i]? = some oi) (hj : ops[j]? = some oj) (hr : Region.ready md ops listed = [i, j]) (hg : oi.guard = none) (hgj : oj.guard = none)
    (h : ∀ K : Act → World → Prop, (∀ a' w', (i < m → S w') → wpAnyM P md ops Q S m fuel (listed.setIfInBounds i true) a' w' → K a' w') → oi.wp P a w K Q)
    (h' : ∀ K : Act → World → Prop, (∀ a' w', (j < m → S w') → wpAnyM P md ops Q S m fuel (listed.setIfInBounds j true) a' w' → K a' w') → oj.wp P a w K Q) : wpAnyM P md ops Q S m (fuel + 1) listed a w := by
  refine ⟨fun h0 => (by rw [h0] at hr; cases hr), fun k hk => ?_⟩
  rw [hr] at hk
  have hk' : k = i ∨ k = j := by simpa using hk
  rcases hk' with rfl | rfl
  · unfold wpOp
    rw [hi]
    simp only
    rw [if_pos (by simp [Region.wanted, hg])]
    exact .inl (h _ fun a' w' hS H => ⟨hS, H⟩)
  · unfold wpOp
    rw [hj]
    simp only
    rw [if_pos (by simp [Region.wanted, hgj])]
    exact .inl (h' _ fun a' w' hS H => ⟨hS, H⟩)

theorem wpAnyM_done {listed : Array Bool} {a : Act} {w : World} (hr : Region.ready md ops listed = []) (h : Q .normal a w) :
    ∀ fuel, wpAnyM P md ops Q S m fuel listed a w
  | 0 => ⟨hr, h⟩
  | _ + 1 => ⟨fun _ => h, by rw [hr]; simp⟩

theorem wp_region_M {id : Nat} {a : Act} {w : World} (S : World → Prop) (m : Nat) (hm : P.follows .mixedOrders = true)
    (h : wpAnyM P .any ops Q S m ops.size (Array.replicate ops.size false) a w.drew) : (Code.region id ops true).wp P Q a w :=
  wp_region_any hm (wpAny_of_M _ _ _ _ h)

end
end Go.Proofs.YtnjcbgnghfppoaaDoor

/- Plain facts about the variables of a program: what the calls return, and what they leave. -/
namespace Go.Proofs.YtnjcbgnghfppoaaDoor.Vs

/-- The letters' local variables. -/
def tab : List Int := List.replicate 65 0 ++ [1, 2, 3, 7, 8, 9, 0, 11, 4, 5, 6, 0, 13, 0, 0, 0, 17, 18, 19, 20, 21, 22, 23, 24, 25, 26]
def loc (c : Int) : Int := if 0 ≤ c ∧ c < 91 then tab.getD c.toNat 0 else 0

theorem tab_length : tab.length = 91 := by decide +kernel
theorem tab_all : ∀ i, i < 91 → 0 ≤ tab.getD i 0 ∧ tab.getD i 0 ≤ 26 := by decide +kernel
theorem loc_bd (c : Int) : 0 ≤ loc c ∧ loc c ≤ 26 := by
  unfold loc
  split
  · exact tab_all _ (by omega)
  · omega
theorem tab_inj : ∀ i, i < 91 → ∀ j, j < 91 → tab.getD i 0 ≠ 0 → tab.getD i 0 = tab.getD j 0 → i = j := by decide +kernel
theorem loc_inj {c d : Int} (h : loc c ≠ 0) (e : loc c = loc d) : c = d := by
  unfold loc at h e
  by_cases hc : 0 ≤ c ∧ c < 91
  · by_cases hd : 0 ≤ d ∧ d < 91
    · rw [if_pos hc] at h e
      rw [if_pos hd] at e
      have := tab_inj _ (by omega) _ (by omega) h e
      omega
    · rw [if_neg hd, if_pos hc] at e
      rw [if_pos hc] at h
      exact absurd e h
  · rw [if_neg hc] at h
    exact absurd rfl h

/-- The state of a store. -/
structure St where
  n : Nat
  ls : List Int
  cm : List Int
  sy : List Int

structure St.ok (s : St) : Prop where
  n1 : 1 ≤ s.n
  n2 : s.n ≤ 9
  hl : s.ls.length = s.n * 33
  hc : s.cm.length = 100
  hs : s.sy.length = 1000

def zer (n : Nat) : List Int := List.replicate n 0
theorem zer_length (n : Nat) : (zer n).length = n := List.length_replicate
def new : St := ⟨1, zer 33, zer 100, zer 1000⟩
theorem new_ok : new.ok := ⟨by decide, by decide, zer_length 33, zer_length 100, zer_length 1000⟩

def vld (v : Int) : Prop := -1000000000000000 ≤ v ∧ v ≤ 1000000000000000
instance (v : Int) : Decidable (vld v) := by unfold vld; infer_instance

def isL (n : Int) : Prop := 1 ≤ n ∧ n ≤ 33
def isC (n : Int) : Prop := 100 ≤ n ∧ n ≤ 199
def isS (n : Int) : Prop := 5000 ≤ n ∧ n ≤ 5999
instance (v : Int) : Decidable (isL v) := by unfold isL; infer_instance
instance (v : Int) : Decidable (isC v) := by unfold isC; infer_instance
instance (v : Int) : Decidable (isS v) := by unfold isS; infer_instance

/-- Where a local variable of the present level lies. -/
def St.at (s : St) (n : Int) : Nat := (s.n - 1) * 33 + (n - 1).toNat

def St.get (s : St) (n : Int) : Int :=
  if isL n then s.ls.getD (s.at n) 0 else if isC n then s.cm.getD (n - 100).toNat 0 else if isS n then s.sy.getD (n - 5000).toNat 0 else 0
def gerr (n : Int) : Int := if isL n ∨ isC n ∨ isS n then 0 else 6
def serr (n v : Int) : Int := if isS n then 13 else if ¬ isL n ∧ ¬ isC n then 6 else if vld v then 0 else 3
def herr (n v : Int) : Int := if ¬ isS n then 6 else if vld v then 0 else 3
def St.set (s : St) (n v : Int) : St :=
  if serr n v ≠ 0 then s else if isL n then { s with ls := s.ls.set (s.at n) v } else { s with cm := s.cm.set (n - 100).toNat v }
def St.host (s : St) (n v : Int) : St :=
  if herr n v ≠ 0 then s else { s with sy := s.sy.set (n - 5000).toNat v }
def St.pop (s : St) : St := if s.n = 1 then s else { s with n := s.n - 1, ls := s.ls.take ((s.n - 1) * 33) }
def St.poperr (s : St) : Int := if s.n = 1 then 13 else 0

theorem set_ok {s : St} (h : s.ok) (n v : Int) : (s.set n v).ok := by
  obtain ⟨h1, h2, h3, h4, h5⟩ := h
  unfold St.set
  split
  · exact ⟨h1, h2, h3, h4, h5⟩
  · split
    · exact ⟨h1, h2, by simpa using h3, h4, h5⟩
    · exact ⟨h1, h2, h3, by simpa using h4, h5⟩
theorem host_ok {s : St} (h : s.ok) (n v : Int) : (s.host n v).ok := by
  obtain ⟨h1, h2, h3, h4, h5⟩ := h
  unfold St.host
  split
  · exact ⟨h1, h2, h3, h4, h5⟩
  · exact ⟨h1, h2, h3, h4, by simpa using h5⟩
theorem pop_ok {s : St} (h : s.ok) : (s.pop).ok := by
  obtain ⟨h1, h2, h3, h4, h5⟩ := h
  unfold St.pop
  split
  · exact ⟨h1, h2, h3, h4, h5⟩
  · exact ⟨by simp; omega, by simp; omega, by simp only [List.length_take]; omega, h4, h5⟩

/-! ### arguments -/
abbrev Ar := List (Int × Int)
def ltr (l : Ar) (i : Nat) : Int := (l.getD i (0, 0)).1
def num (l : Ar) (i : Nat) : Int := (l.getD i (0, 0)).2
def dup (l : Ar) (i : Nat) : Prop := ∃ k, k < i ∧ ltr l k = ltr l i
instance (l : Ar) (i : Nat) : Decidable (dup l i) := by unfold dup; infer_instance
def errAt (l : Ar) (i : Nat) : Int := if loc (ltr l i) = 0 then 1 else if dup l i then 7 else if vld (num l i) then 0 else 3
def errTo (l : Ar) : Nat → Int
  | 0 => 0
  | m + 1 => if errTo l m = 0 then errAt l m else errTo l m
def err (l : Ar) : Int := errTo l l.length
theorem errTo_mono {l : Ar} {i : Nat} (h : errTo l i ≠ 0) (k : Nat) : errTo l (i + k) = errTo l i := by
  induction k with
  | zero => rfl
  | succ k ih =>
    show (if errTo l (i + k) = 0 then errAt l (i + k) else errTo l (i + k)) = _
    rw [ih, if_neg h]
theorem err_of {l : Ar} {i : Nat} (hi : i < l.length) (h0 : errTo l i = 0) (h : errAt l i ≠ 0) : err l = errAt l i := by
  have e : errTo l (i + 1) = errAt l i := by show (if errTo l i = 0 then _ else _) = _; rw [if_pos h0]
  have := errTo_mono (l := l) (i := i + 1) (by rw [e]; exact h) (l.length - (i + 1))
  rw [show i + 1 + (l.length - (i + 1)) = l.length by omega] at this
  unfold err
  rw [this, e]
theorem errTo_succ {l : Ar} {i : Nat} (h0 : errTo l i = 0) (h : errAt l i = 0) : errTo l (i + 1) = 0 := by
  show (if errTo l i = 0 then _ else _) = _
  rw [if_pos h0, h]
theorem errTo_all {l : Ar} {i : Nat} (h0 : errTo l i = 0) : ∀ k, k < i → errAt l k = 0 := by
  induction i with
  | zero => intro k hk; omega
  | succ i ih =>
    intro k hk
    by_cases e : errTo l i = 0
    · have : errAt l i = 0 := by
        have : (if errTo l i = 0 then errAt l i else errTo l i) = 0 := h0
        rwa [if_pos e] at this
      by_cases hk' : k < i
      · exact ih e k hk'
      · obtain rfl : k = i := by omega
        exact this
    · exfalso
      have : (if errTo l i = 0 then errAt l i else errTo l i) = 0 := h0
      rw [if_neg e] at this
      exact e this
theorem errAt_loc {l : Ar} {i : Nat} (h : errAt l i = 0) : loc (ltr l i) ≠ 0 := by
  unfold errAt at h
  split at h
  · cases h
  · assumption

def slot (l : Ar) (i : Nat) : Nat := (loc (ltr l i) - 1).toNat
/-- The locals of the new level behind the first elements. -/
def vals (l : Ar) : Nat → List Int
  | 0 => zer 33
  | m + 1 => (vals l m).set (slot l m) (num l m)
/-- Which were given. -/
def givn (l : Ar) : Nat → List Bool
  | 0 => List.replicate 33 false
  | m + 1 => (givn l m).set (slot l m) true
theorem vals_length (l : Ar) (m : Nat) : (vals l m).length = 33 := by
  induction m with
  | zero => exact zer_length 33
  | succ m ih => simpa [vals] using ih
theorem givn_length (l : Ar) (m : Nat) : (givn l m).length = 33 := by
  induction m with
  | zero => simp [givn]
  | succ m ih => simpa [givn] using ih
theorem slot_lt (l : Ar) (i : Nat) : slot l i < 33 := by
  have := loc_bd (ltr l i)
  unfold slot
  omega
theorem givn_iff {l : Ar} {m : Nat} (j : Nat) (hj : j < 33) : (givn l m).getD j false = true ↔ ∃ k, k < m ∧ slot l k = j := by
  induction m with
  | zero =>
    constructor
    · intro h
      exfalso
      have e : (givn l 0).getD j false = false := by
        simp only [givn, List.getD_eq_getElem?_getD, List.getElem?_replicate]
        split <;> rfl
      rw [e] at h
      cases h
    · intro ⟨k, hk, _⟩; omega
  | succ m ih =>
    simp only [givn, List.getD_eq_getElem?_getD, List.getElem?_set, givn_length] at ih ⊢
    by_cases e : slot l m = j
    · subst e
      simp only [if_true, slot_lt, Option.getD_some, true_iff]
      exact ⟨m, by omega, rfl⟩
    · rw [if_neg e, ih]
      constructor
      · intro ⟨k, hk, h⟩; exact ⟨k, by omega, h⟩
      · intro ⟨k, hk, h⟩
        refine ⟨k, ?_, h⟩
        rcases Nat.lt_or_ge k m with h' | h'
        · exact h'
        · exfalso
          obtain rfl : k = m := by omega
          exact e h
theorem givn_dup {l : Ar} {i : Nat} (h0 : errTo l i = 0) (h : loc (ltr l i) ≠ 0) : (givn l i).getD (slot l i) false = decide (dup l i) := by
  rw [Bool.eq_iff_iff, givn_iff _ (slot_lt l i), decide_eq_true_iff]
  have hb := loc_bd (ltr l i)
  constructor
  · intro ⟨k, hk, e⟩
    refine ⟨k, hk, ?_⟩
    have hk0 := errAt_loc (errTo_all h0 k hk)
    have hb' := loc_bd (ltr l k)
    unfold slot at e
    exact loc_inj hk0 (by omega)
  · intro ⟨k, hk, e⟩
    exact ⟨k, hk, by unfold slot; rw [e]⟩

def perr (s : St) (l : Ar) : Int := if s.n = 9 then 10 else err l
def St.push (s : St) (l : Ar) : St := if perr s l = 0 then { s with n := s.n + 1, ls := s.ls ++ vals l l.length } else s
theorem push_ok {s : St} (h : s.ok) (l : Ar) : (s.push l).ok := by
  unfold St.push
  split
  · obtain ⟨h1, h2, h3, h4, h5⟩ := h
    rename_i e
    have : s.n ≠ 9 := by intro k; unfold perr at e; rw [if_pos k] at e; cases e
    exact ⟨by simp, by simp; omega, by simp [vals_length]; omega, h4, h5⟩
  · exact h

theorem errAt_cases (l : Ar) (i : Nat) : (loc (ltr l i) = 0 ∧ errAt l i = 1) ∨ (loc (ltr l i) ≠ 0 ∧ dup l i ∧ errAt l i = 7) ∨ (loc (ltr l i) ≠ 0 ∧ ¬ dup l i ∧ ¬ vld (num l i) ∧ errAt l i = 3) ∨ (loc (ltr l i) ≠ 0 ∧ ¬ dup l i ∧ vld (num l i) ∧ errAt l i = 0) := by
  unfold errAt
  by_cases h1 : loc (ltr l i) = 0
  · left; exact ⟨h1, by rw [if_pos h1]⟩
  · right
    rw [if_neg h1]
    by_cases h2 : dup l i
    · left; exact ⟨h1, h2, by rw [if_pos h2]⟩
    · right
      rw [if_neg h2]
      by_cases h3 : vld (num l i)
      · right; exact ⟨h1, h2, h3, by rw [if_pos h3]⟩
      · left; exact ⟨h1, h2, h3, by rw [if_neg h3]⟩

end Go.Proofs.YtnjcbgnghfppoaaDoor.Vs

/- Stores of variables in memory: of the program and of its specification. -/
set_option linter.unusedVariables false
set_option linter.unusedSimpArgs false
namespace Go.Proofs.YtnjcbgnghfppoaaDoor
open Go.RowKit

theorem Qw.al {a w : World} (h : Qw a w) (o : Obj) : Qw a (w.alloc o) := Below.alloc h h.size o
theorem Qw.dr {a w : World} (h : Qw a w) : Qw a w.drew := Below.drew h
theorem Qw.dn {a w : World} (h : Qw a w) (n : Nat) : Qw a (w.drewN n) := Below.trans h ⟨rfl, rfl, rfl, Nat.le_refl _, fun _ _ => rfl⟩
theorem Qw.sc {a w : World} (h : Qw a w) {p : Addr} (hp : a.heap.size ≤ p.block) (u : Value) : Qw a (w.setCell p u) := Below.setCell h hp u
theorem Qw.le {w w' : World} (h : Qw w w') : w.heap.size ≤ w'.heap.size := h.size
theorem Qw.bel {w w' : World} (h : Qw w w') : Below w.heap.size w w' := h

/-- Only the blocks B and L of the old ones have turned. -/
structure Ty (B L : Nat) (w w' : World) : Prop where
  os : w'.os = w.os
  tape : w'.tape = w.tape
  output : w'.output = w.output
  size : w.heap.size ≤ w'.heap.size
  block : ∀ k, k < w.heap.size → k ≠ B → k ≠ L → w'.heap[k]? = w.heap[k]?

theorem Ty.refl (B L : Nat) (w : World) : Ty B L w w := ⟨rfl, rfl, rfl, Nat.le_refl _, fun _ _ _ _ => rfl⟩
theorem Ty.of {B L : Nat} {w w' : World} (q : Qw w w') : Ty B L w w' := ⟨q.os, q.tape, q.output, q.size, fun k h _ _ => q.block k h⟩
theorem Ty.trans {B L : Nat} {a b c : World} (h : Ty B L a b) (k : Ty B L b c) : Ty B L a c :=
  ⟨k.os.trans h.os, k.tape.trans h.tape, k.output.trans h.output, Nat.le_trans h.size k.size, fun i hi h1 h2 => (k.block i (Nat.lt_of_lt_of_le hi h.size) h1 h2).trans (h.block i hi h1 h2)⟩
theorem Ty.setB (B L : Nat) (w : World) (o : Nat) (u : Value) : Ty B L w (w.setCell ⟨B, o, none⟩ u) :=
  ⟨rfl, rfl, rfl, by simp [World.setCell], fun k _ h _ => Below.heap_setCell _ _ _ _ h⟩
theorem Ty.setL (B L : Nat) (w : World) (o : Nat) (u : Value) : Ty B L w (w.setCell ⟨L, o, none⟩ u) :=
  ⟨rfl, rfl, rfl, by simp [World.setCell], fun k _ _ h => Below.heap_setCell _ _ _ _ h⟩
theorem Ty.setNew {B L : Nat} {a w : World} (h : Ty B L a w) {p : Addr} (hp : a.heap.size ≤ p.block) (u : Value) : Ty B L a (w.setCell p u) :=
  ⟨h.os, h.tape, h.output, by have := h.size; simpa [World.setCell] using this, fun k hk h1 h2 => (Below.heap_setCell _ _ _ _ (by omega)).trans (h.block k hk h1 h2)⟩
/-- What lies below a block that lies below both is as it was. -/
theorem Ty.below {B L C : Nat} {w w' : World} (h : Ty B L w w') (hB : C ≤ B) (hL : C ≤ L) (hC : C ≤ w.heap.size) : Below C w w' := ⟨h.os, h.tape, h.output, h.size, fun k hk => h.block k (by omega) (by omega) (by omega)⟩
theorem Bx.ty {B L : Nat} {w w' : World} {b : Nat} {cs : Array Value} {t : TypeId} (h : Bx w b cs t) (q : Ty B L w w') (h1 : b ≠ B) (h2 : b ≠ L) : Bx w' b cs t := (q.block b h.lt h1 h2).trans h

/-- The cells of a store. -/
def stc (v : Value) (s : Vs.St) : Array Value := (v :: (s.cm ++ s.sy).map (Value.int .i64)).toArray
theorem stc_size (v : Value) {s : Vs.St} (h : s.ok) : (stc v s).size = 1101 := by simp [stc, h.hc, h.hs]
theorem stc_0 (v : Value) (s : Vs.St) : (stc v s)[0]? = some v := rfl
theorem stc_c (v : Value) {s : Vs.St} (h : s.ok) {k : Nat} (hk : k < 100) : (stc v s)[1 + k]? = some (.int .i64 (s.cm.getD k 0)) := by
  have l := h.hc
  have e : (stc v s)[1 + k]? = ((s.cm ++ s.sy).map (Value.int .i64))[k]? := by unfold stc; rw [Nat.add_comm]; simp
  rw [e, List.getElem?_map, List.getElem?_append_left (by omega), List.getD_eq_getElem?_getD, List.getElem?_eq_getElem (by omega)]
  rfl
theorem stc_s (v : Value) {s : Vs.St} (h : s.ok) {k : Nat} (hk : k < 1000) : (stc v s)[101 + k]? = some (.int .i64 (s.sy.getD k 0)) := by
  have l := h.hc
  have l2 := h.hs
  have e : (stc v s)[101 + k]? = ((s.cm ++ s.sy).map (Value.int .i64))[100 + k]? := by unfold stc; rw [show 101 + k = 100 + k + 1 by omega]; simp
  rw [e, List.getElem?_map, List.getElem?_append_right (by omega), List.getD_eq_getElem?_getD, List.getElem?_eq_getElem (by omega), List.getElem?_eq_getElem (by omega)]
  simp [l]
theorem stc_set0 (v u : Value) (s : Vs.St) : (stc v s).setIfInBounds 0 u = stc u s := by
  apply Array.ext'
  simp [stc]
theorem stc_setc (v : Value) {s : Vs.St} (h : s.ok) {k : Nat} (hk : k < 100) (n : Int) : (stc v s).setIfInBounds (1 + k) (.int .i64 n) = stc v { s with cm := s.cm.set k n } := by
  have l := h.hc
  apply Array.ext'
  unfold stc
  rw [Nat.add_comm]
  simp [List.set_append, l, hk, ← List.map_set]
theorem stc_sets (v : Value) {s : Vs.St} (h : s.ok) {k : Nat} (hk : k < 1000) (n : Int) : (stc v s).setIfInBounds (101 + k) (.int .i64 n) = stc v { s with sy := s.sy.set k n } := by
  have l := h.hc
  apply Array.ext'
  unfold stc
  rw [show 101 + k = 100 + k + 1 by omega]
  simp [List.set_append, l, hk, ← List.map_set]

/-- Block L holds, first of all, the levels. -/
def Lvl (E : TypeId) (w : World) (L cap : Nat) (s : Vs.St) : Prop :=
  ∃ cur : Array Value, w.heap[L]? = some (.cells cur E (0, 0)) ∧ cur.size = cap * 33 ∧ cur.toList.take (s.n * 33) = s.ls.map (Value.int .i64)
theorem Lvl.lt {E : TypeId} {w : World} {L cap : Nat} {s : Vs.St} (h : Lvl E w L cap s) : L < w.heap.size := by
  obtain ⟨cur, hg, _⟩ := h
  exact (Array.getElem?_eq_some_iff.1 hg).1
theorem Lvl.same {E : TypeId} {w w' : World} {L cap : Nat} {s : Vs.St} (h : Lvl E w L cap s) (e : w'.heap[L]? = w.heap[L]?) : Lvl E w' L cap s := by
  obtain ⟨cur, hg, r⟩ := h
  exact ⟨cur, e.trans hg, r⟩

/-- Block B holds a store whose levels lie in block L. -/
structure Stb (T E : TypeId) (w : World) (B L cap : Nat) (s : Vs.St) : Prop where
  bx : Bx w B (stc (.slice (some ⟨L, 0, none⟩) s.n cap) s) T
  lv : Lvl E w L cap s
  ne : L ≠ B
  c1 : s.n ≤ cap
  c2 : cap ≤ maxLen
  ok : s.ok

section
variable {T E : TypeId} {w w' : World} {B L cap : Nat} {s : Vs.St}
theorem Stb.ltB (h : Stb T E w B L cap s) : B < w.heap.size := h.bx.lt
theorem Stb.ltL (h : Stb T E w B L cap s) : L < w.heap.size := h.lv.lt
theorem Stb.kept (h : Stb T E w B L cap s) (q : Qw w w') : Stb T E w' B L cap s :=
  ⟨h.bx.kept q, h.lv.same (q.block L h.ltL), h.ne, h.c1, h.c2, h.ok⟩
theorem Stb.ty {B' L' : Nat} (h : Stb T E w B L cap s) (q : Ty B' L' w w') (h1 : B ≠ B') (h2 : B ≠ L') (h3 : L ≠ B') (h4 : L ≠ L') : Stb T E w' B L cap s :=
  ⟨h.bx.ty q h1 h2, h.lv.same (q.block L h.ltL h3 h4), h.ne, h.c1, h.c2, h.ok⟩
theorem Stb.cell0 (h : Stb T E w B L cap s) : w.cell? ⟨B, 0, none⟩ = some (.slice (some ⟨L, 0, none⟩) s.n cap) := h.bx.cell' 0 _ (stc_0 _ _)
theorem Stb.cellC (h : Stb T E w B L cap s) {k : Nat} (hk : k < 100) : w.cell? ⟨B, 1 + k, none⟩ = some (.int .i64 (s.cm.getD k 0)) := h.bx.cell' _ _ (stc_c _ h.ok hk)
theorem Stb.cellS (h : Stb T E w B L cap s) {k : Nat} (hk : k < 1000) : w.cell? ⟨B, 101 + k, none⟩ = some (.int .i64 (s.sy.getD k 0)) := h.bx.cell' _ _ (stc_s _ h.ok hk)
theorem Stb.cellL (h : Stb T E w B L cap s) {k : Nat} (hk : k < s.n * 33) : w.cell? ⟨L, k, none⟩ = some (.int .i64 (s.ls.getD k 0)) := by
  obtain ⟨cur, hg, hs, ht⟩ := h.lv
  have l := h.ok.hl
  rw [cell_of_row w L k cur E (0, 0) hg]
  have e : (cur.toList.take (s.n * 33))[k]? = (s.ls.map (Value.int .i64))[k]? := by rw [ht]
  rw [List.getElem?_take_of_lt hk, List.getElem?_map, List.getElem?_eq_getElem (l := s.ls) (by omega)] at e
  rw [List.getD_eq_getElem?_getD, List.getElem?_eq_getElem (by omega)]
  simpa using e
theorem Stb.freeB (h : Stb T E w B L cap s) (o : Nat) : w.frozen? ⟨B, o, none⟩ = false := h.bx.free o
theorem Stb.freeL (h : Stb T E w B L cap s) (o : Nat) : w.frozen? ⟨L, o, none⟩ = false := by
  obtain ⟨cur, hg, _⟩ := h.lv
  exact frozen_of_row w L o cur E hg
theorem Stb.setC (h : Stb T E w B L cap s) {k : Nat} (hk : k < 100) (n : Int) : Stb T E (w.setCell ⟨B, 1 + k, none⟩ (.int .i64 n)) B L cap { s with cm := s.cm.set k n } := by
  have b := h.bx.set (1 + k) (.int .i64 n)
  rw [stc_setc _ h.ok hk] at b
  obtain ⟨o1, o2, o3, o4, o5⟩ := h.ok
  exact ⟨b, h.lv.same (Below.heap_setCell _ _ _ _ h.ne), h.ne, h.c1, h.c2, ⟨o1, o2, o3, by simpa using o4, o5⟩⟩
theorem Stb.setS (h : Stb T E w B L cap s) {k : Nat} (hk : k < 1000) (n : Int) : Stb T E (w.setCell ⟨B, 101 + k, none⟩ (.int .i64 n)) B L cap { s with sy := s.sy.set k n } := by
  have b := h.bx.set (101 + k) (.int .i64 n)
  rw [stc_sets _ h.ok hk] at b
  obtain ⟨o1, o2, o3, o4, o5⟩ := h.ok
  exact ⟨b, h.lv.same (Below.heap_setCell _ _ _ _ h.ne), h.ne, h.c1, h.c2, ⟨o1, o2, o3, o4, by simpa using o5⟩⟩
theorem Stb.setL (h : Stb T E w B L cap s) {k : Nat} (hk : k < s.n * 33) (n : Int) : Stb T E (w.setCell ⟨L, k, none⟩ (.int .i64 n)) B L cap { s with ls := s.ls.set k n } := by
  obtain ⟨cur, hg, hs, ht⟩ := h.lv
  have g := heap_setCell_same w L k cur E (.int .i64 n) hg
  obtain ⟨o1, o2, o3, o4, o5⟩ := h.ok
  refine ⟨(Below.heap_setCell _ _ _ _ (Ne.symm h.ne)).trans h.bx, ⟨_, g, by simpa using hs, ?_⟩, h.ne, h.c1, h.c2, ⟨o1, o2, by simpa using o3, o4, o5⟩⟩
  show (cur.setIfInBounds k (.int .i64 n)).toList.take (s.n * 33) = (s.ls.set k n).map _
  rw [Array.toList_setIfInBounds, List.take_set, ht, ← List.map_set]
/-- The levels shortened. -/
theorem Stb.cut (h : Stb T E w B L cap s) (hn : s.n ≠ 1) : Stb T E (w.setCell ⟨B, 0, none⟩ (.slice (some ⟨L, 0, none⟩) (s.n - 1) cap)) B L cap s.pop := by
  have b := h.bx.set 0 (.slice (some ⟨L, 0, none⟩) (s.n - 1) cap)
  rw [stc_set0] at b
  have e : s.pop = { s with n := s.n - 1, ls := s.ls.take ((s.n - 1) * 33) } := if_neg hn
  have ok := Vs.pop_ok h.ok
  obtain ⟨cur, hg, hs, ht⟩ := h.lv
  have c1 := h.c1
  rw [e] at ok ⊢
  refine ⟨b, ⟨cur, (Below.heap_setCell _ _ _ _ h.ne).trans hg, hs, ?_⟩, h.ne, by show s.n - 1 ≤ cap; omega, h.c2, ok⟩
  show cur.toList.take ((s.n - 1) * 33) = (s.ls.take ((s.n - 1) * 33)).map _
  rw [List.map_take, ← ht, List.take_take, Nat.min_eq_left (by omega)]
/-- The levels own their row. -/
theorem Stb.owns (h : Stb T E w B L cap s) : w.ownsRow L E 33 (.slice (some ⟨L, 0, none⟩) s.n cap) s.n (s.ls.map (Value.int .i64)) := by
  obtain ⟨cur, hg, hs, ht⟩ := h.lv
  exact ⟨by simpa using h.ok.hl, .inr ⟨L, cap, cur, rfl, Nat.le_refl _, hg, h.c1, h.c2, hs, ht⟩⟩
theorem Stb.owns_cells (h : Stb T E w B L cap s) : ∀ j u, (s.ls.map (Value.int .i64))[j]? = some u → w.cell? ((⟨L, 0, none⟩ : Addr).add j) = some u := h.owns.cells (g := L) rfl
end

theorem ints_one (l : List Int) : ∀ u ∈ l.map (Value.int .i64), u.oneCell' = true := by
  intro u hu
  obtain ⟨x, _, rfl⟩ := List.mem_map.1 hu
  rfl

/-- Another slice of levels stored. -/
theorem Stb.putRow {T E : TypeId} {w : World} {B : Nat} {s : Vs.St} {v0 : Value} (X : Bx w B (stc v0 s) T) {L' cap' n' : Nat} {ls' : List Int} (hb : L' ≠ B)
    (own : w.ownsRow L' E 33 (.slice (some ⟨L', 0, none⟩) n' cap') n' (ls'.map (Value.int .i64))) (ok : ({ s with n := n', ls := ls' } : Vs.St).ok) :
    Stb T E (w.setCell ⟨B, 0, none⟩ (.slice (some ⟨L', 0, none⟩) n' cap')) B L' cap' { s with n := n', ls := ls' } := by
  have b := X.set 0 (.slice (some ⟨L', 0, none⟩) n' cap')
  rw [stc_set0] at b
  rcases own.2 with ⟨h, _⟩ | ⟨g, c, cur, h, _, hg, h1, h2, h3, h4⟩
  · cases h
  · injection h with e1 e2 e3
    injection e1 with e1
    injection e1 with e1
    subst e1 e3
    exact ⟨b, ⟨cur, (Below.heap_setCell _ _ _ _ hb).trans hg, h3, h4⟩, hb, h1, h2, ok⟩

end Go.Proofs.YtnjcbgnghfppoaaDoor

/- The walks of the small functions of package vars and of its specification. -/
set_option linter.unusedVariables false
set_option linter.unusedSimpArgs false
namespace Go.Proofs.YtnjcbgnghfppoaaDoor
open Go.RowKit

theorem ret_bb {a b : Bool} (h : a = b) : Ending.returned (.bool a) = .returned (.bool b) := by rw [h]
theorem ret_2 {a b c d : Int} (h : a = b) (g : c = d) : Ending.returned (.tuple #[.int .i64 a, .int .i64 c]) = .returned (.tuple #[.int .i64 b, .int .i64 d]) := by rw [h, g]

theorem vaValid (n : Int) (w : World) : Calls Tryd.prog 100 #[.int .i64 n] w fun e w' => e = .returned (.bool (decide (Vs.vld n))) ∧ w = w' := by
  rcases (show n < -1000000000000000 ∨ 1000000000000000 < n ∨ Vs.vld n by unfold Vs.vld; omega) with h | h | h
  · rw [decide_eq_false (show ¬ Vs.vld n by unfold Vs.vld; omega)]
    go_enter Tryd.func100, Tryd.ntmps100
    go_wp2
    go_ret
    exact ⟨ret_bb (by first | rfl | (simp; omega)), rfl⟩
  · rw [decide_eq_false (show ¬ Vs.vld n by unfold Vs.vld; omega)]
    go_enter Tryd.func100, Tryd.ntmps100
    go_wp2
    go_ret
    exact ⟨ret_bb (by first | rfl | (simp; omega)), rfl⟩
  · rw [decide_eq_true h]
    obtain ⟨h1, h2⟩ := h
    go_enter Tryd.func100, Tryd.ntmps100
    go_wp2
    go_ret
    exact ⟨ret_bb (by first | rfl | (simp; omega)), rfl⟩

theorem vrValid (n : Int) (w : World) : Calls Tryd.prog 74 #[.int .i64 n] w fun e w' => e = .returned (.bool (decide (Vs.vld n))) ∧ w = w' := by
  rcases (show n < -1000000000000000 ∨ 1000000000000000 < n ∨ Vs.vld n by unfold Vs.vld; omega) with h | h | h
  · rw [decide_eq_false (show ¬ Vs.vld n by unfold Vs.vld; omega)]
    go_enter Tryd.func74, Tryd.ntmps74
    go_wp2
    go_ret
    exact ⟨ret_bb (by first | rfl | (simp; omega)), rfl⟩
  · rw [decide_eq_false (show ¬ Vs.vld n by unfold Vs.vld; omega)]
    go_enter Tryd.func74, Tryd.ntmps74
    go_wp2
    go_ret
    exact ⟨ret_bb (by first | rfl | (simp; omega)), rfl⟩
  · rw [decide_eq_true h]
    obtain ⟨h1, h2⟩ := h
    go_enter Tryd.func74, Tryd.ntmps74
    go_wp2
    go_ret
    exact ⟨ret_bb (by first | rfl | (simp; omega)), rfl⟩

def tabV : Array Value := #[.int .i64 1, .int .i64 2, .int .i64 3, .int .i64 7, .int .i64 8, .int .i64 9, .int .i64 0, .int .i64 11, .int .i64 4, .int .i64 5, .int .i64 6, .int .i64 0, .int .i64 13, .int .i64 0, .int .i64 0, .int .i64 0, .int .i64 17, .int .i64 18, .int .i64 19, .int .i64 20, .int .i64 21, .int .i64 22, .int .i64 23, .int .i64 24, .int .i64 25, .int .i64 26]
theorem tabV_at : ∀ k, k < 26 → tabV[k]? = some (.int .i64 (Vs.tab.getD (65 + k) 0)) := by
  intro k hk
  match k, hk with
  | 0, _ => rfl
  | 1, _ => rfl
  | 2, _ => rfl
  | 3, _ => rfl
  | 4, _ => rfl
  | 5, _ => rfl
  | 6, _ => rfl
  | 7, _ => rfl
  | 8, _ => rfl
  | 9, _ => rfl
  | 10, _ => rfl
  | 11, _ => rfl
  | 12, _ => rfl
  | 13, _ => rfl
  | 14, _ => rfl
  | 15, _ => rfl
  | 16, _ => rfl
  | 17, _ => rfl
  | 18, _ => rfl
  | 19, _ => rfl
  | 20, _ => rfl
  | 21, _ => rfl
  | 22, _ => rfl
  | 23, _ => rfl
  | 24, _ => rfl
  | 25, _ => rfl
  | n + 26, h => exact absurd h (by omega)
theorem tab_low : ∀ k, k < 65 → Vs.tab.getD k 0 = 0 := by decide +kernel

end Go.Proofs.YtnjcbgnghfppoaaDoor

/- The walks of Get, Set and Host. -/
set_option linter.unusedVariables false
set_option linter.unusedSimpArgs false
namespace Go.Proofs.YtnjcbgnghfppoaaDoor
open Go.RowKit


/-- Where a variable lies. -/
def place (B L : Nat) (s : Vs.St) (n : Int) : Option Addr :=
  if Vs.isL n then some ⟨L, s.at n, none⟩ else if Vs.isC n then some ⟨B, 1 + (n - 100).toNat, none⟩ else if Vs.isS n then some ⟨B, 101 + (n - 5000).toNat, none⟩ else none

theorem at_lt {s : Vs.St} (h : s.ok) {n : Int} (hn : Vs.isL n) : s.at n < s.n * 33 := by
  have h1 := h.n1
  unfold Vs.isL at hn
  unfold Vs.St.at
  omega

theorem addr_eq {b x y : Nat} (h : x = y) : (⟨b, x, none⟩ : Addr) = ⟨b, y, none⟩ := by rw [h]
theorem ret_ptr {b x y : Nat} (h : x = y) : Ending.returned (.pointer (some ⟨b, x, none⟩)) = .returned (.pointer (some ⟨b, y, none⟩)) := by rw [h]

/-! ### what lies there -/

theorem place_none {B L : Nat} {s : Vs.St} {n : Int} (h : place B L s n = none) : ¬ Vs.isL n ∧ ¬ Vs.isC n ∧ ¬ Vs.isS n := by
  unfold place at h
  by_cases h1 : Vs.isL n
  · rw [if_pos h1] at h; cases h
  · rw [if_neg h1] at h
    by_cases h2 : Vs.isC n
    · rw [if_pos h2] at h; cases h
    · rw [if_neg h2] at h
      by_cases h3 : Vs.isS n
      · rw [if_pos h3] at h; cases h
      · exact ⟨h1, h2, h3⟩

theorem disjoint (n : Int) : (Vs.isL n → ¬ Vs.isC n ∧ ¬ Vs.isS n) ∧ (Vs.isC n → ¬ Vs.isL n ∧ ¬ Vs.isS n) ∧ (Vs.isS n → ¬ Vs.isL n ∧ ¬ Vs.isC n) := by
  unfold Vs.isL Vs.isC Vs.isS; omega

/-- The place of a variable: its block, its number within, what it holds, and what a store of v there leaves. -/
theorem place_some {T E : TypeId} {w : World} {B L cap : Nat} {s : Vs.St} (h : Stb T E w B L cap s) {n : Int} {a : Addr} (e : place B L s n = some a) :
    ∃ b o, a = ⟨b, o, none⟩ ∧ (b = B ∨ b = L) ∧ w.cell? ⟨b, o, none⟩ = some (.int .i64 (s.get n)) ∧ w.frozen? ⟨b, o, none⟩ = false ∧ b < w.heap.size ∧ Vs.gerr n = 0 ∧
      (∀ v, ¬ Vs.isS n → Vs.vld v → Stb T E (w.setCell ⟨b, o, none⟩ (.int .i64 v)) B L cap (s.set n v) ∧ Vs.serr n v = 0) ∧
      (∀ v, Vs.isS n → Vs.vld v → Stb T E (w.setCell ⟨b, o, none⟩ (.int .i64 v)) B L cap (s.host n v) ∧ Vs.herr n v = 0) := by
  obtain ⟨d1, d2, d3⟩ := disjoint n
  unfold place at e
  by_cases h1 : Vs.isL n
  · rw [if_pos h1] at e
    injection e with e
    subst e
    have lt := at_lt h.ok h1
    have sl := h.setL lt
    refine ⟨L, s.at n, rfl, .inr rfl, ?_, h.freeL _, h.ltL, ?_, ?_, ?_⟩
    · unfold Vs.St.get; rw [if_pos h1]; exact h.cellL lt
    · unfold Vs.gerr; rw [if_pos (.inl h1)]
    · intro v hs hv
      have e0 : Vs.serr n v = 0 := by unfold Vs.serr; rw [if_neg hs, if_neg (fun k => k.1 h1), if_pos hv]
      refine ⟨?_, e0⟩
      unfold Vs.St.set
      rw [if_neg (fun k => k e0), if_pos h1]
      exact sl v
    · intro v hs; exact absurd hs (d1 h1).2
  · rw [if_neg h1] at e
    by_cases h2 : Vs.isC n
    · rw [if_pos h2] at e
      injection e with e
      subst e
      have lt : (n - 100).toNat < 100 := by unfold Vs.isC at h2; omega
      refine ⟨B, 1 + (n - 100).toNat, rfl, .inl rfl, ?_, h.freeB _, h.ltB, ?_, ?_, ?_⟩
      · unfold Vs.St.get; rw [if_neg h1, if_pos h2]; exact h.cellC lt
      · unfold Vs.gerr; rw [if_pos (.inr (.inl h2))]
      · intro v hs hv
        have e0 : Vs.serr n v = 0 := by unfold Vs.serr; rw [if_neg hs, if_neg (fun k => k.2 h2), if_pos hv]
        refine ⟨?_, e0⟩
        unfold Vs.St.set
        rw [if_neg (fun k => k e0), if_neg h1]
        exact h.setC lt v
      · intro v hs; exact absurd hs (d2 h2).2
    · rw [if_neg h2] at e
      by_cases h3 : Vs.isS n
      · rw [if_pos h3] at e
        injection e with e
        subst e
        have lt : (n - 5000).toNat < 1000 := by unfold Vs.isS at h3; omega
        refine ⟨B, 101 + (n - 5000).toNat, rfl, .inl rfl, ?_, h.freeB _, h.ltB, ?_, ?_, ?_⟩
        · unfold Vs.St.get; rw [if_neg h1, if_neg h2, if_pos h3]; exact h.cellS lt
        · unfold Vs.gerr; rw [if_pos (.inr (.inr h3))]
        · intro v hs; exact absurd h3 hs
        · intro v hs hv
          have e0 : Vs.herr n v = 0 := by unfold Vs.herr; rw [if_neg (fun k => k h3), if_pos hv]
          refine ⟨?_, e0⟩
          unfold Vs.St.host
          rw [if_neg (fun k => k e0)]
          exact h.setS lt v
      · rw [if_neg h3] at e; cases e

theorem Ty.drewN {B L : Nat} {a w : World} (h : Ty B L a w) (n : Nat) : Ty B L a (w.drewN n) := h.trans ⟨rfl, rfl, rfl, Nat.le_refl _, fun _ _ _ _ => rfl⟩
theorem Ty.one {B L b : Nat} {w w1 : World} (q : Qw w w1) (hb : b = B ∨ b = L) (o : Nat) (u : Value) : Ty B L w (w1.setCell ⟨b, o, none⟩ u) := by
  refine Ty.trans (Ty.of q) ?_
  rcases hb with rfl | rfl
  · exact Ty.setB _ _ _ _ _
  · exact Ty.setL _ _ _ _ _

end Go.Proofs.YtnjcbgnghfppoaaDoor

/- The walk of package vars' arguments. -/
set_option linter.unusedVariables false
set_option linter.unusedSimpArgs false
namespace Go.Proofs.YtnjcbgnghfppoaaDoor
open Go.RowKit


/-- A slice of values (a letter and a number each) below block C. -/
def ValsB (C : Nat) (w : World) (v : Value) (l : Vs.Ar) : Prop :=
  ∃ (a : Option Addr) (cap : Nat), v = .slice a l.length cap ∧ l.length ≤ cap ∧ cap ≤ 9223372036854775807 ∧ (l = [] ∨ ∃ b off, a = some ⟨b, off, none⟩ ∧ b < C ∧
    ∀ i, i < l.length → w.cell? ⟨b, off + i * 2, none⟩ = some (.int .i64 (Vs.ltr l i)) ∧ w.cell? ⟨b, off + i * 2 + 1, none⟩ = some (.int .i64 (Vs.num l i)) ∧
      -9223372036854775808 ≤ Vs.num l i ∧ Vs.num l i ≤ 9223372036854775807)
theorem ValsB.kept {B C : Nat} {w w' : World} {v : Value} {l : Vs.Ar} (h : ValsB B w v l) (hb : Below C w w') (hC : B ≤ C) : ValsB B w' v l := by
  obtain ⟨a, cap, h1, h2, h3, h4⟩ := h
  refine ⟨a, cap, h1, h2, h3, ?_⟩
  rcases h4 with h4 | ⟨b, off, e, hB, h⟩
  · exact .inl h4
  · refine .inr ⟨b, off, e, hB, fun i hi => ?_⟩
    have k : ∀ o, w'.cell? ⟨b, o, none⟩ = w.cell? ⟨b, o, none⟩ := fun o => hb.cell (p := ⟨b, o, none⟩) (by show b < C; omega)
    rw [k, k]
    exact h i hi
theorem ValsB.mono {B C : Nat} {w : World} {v : Value} {l : Vs.Ar} (h : ValsB B w v l) (hC : B ≤ C) : ValsB C w v l := by
  obtain ⟨a, cap, h1, h2, h3, h4⟩ := h
  refine ⟨a, cap, h1, h2, h3, ?_⟩
  rcases h4 with h4 | ⟨b, off, e, hB, h⟩
  · exact .inl h4
  · exact .inr ⟨b, off, e, by omega, h⟩
theorem ValsB.nil (C : Nat) (w : World) : ValsB C w (.slice none 0 0) [] := ⟨none, 0, rfl, Nat.le_refl _, by decide, .inl rfl⟩

/-! ### arrays of numbers, of marks -/
def ivs (l : List Int) : Array Value := (l.map (Value.int .i64)).toArray
def bvs (l : List Bool) : Array Value := (l.map Value.bool).toArray
theorem ivs_size (l : List Int) : (ivs l).size = l.length := by simp [ivs]
theorem bvs_size (l : List Bool) : (bvs l).size = l.length := by simp [bvs]
theorem ivs_at {l : List Int} {i : Nat} (h : i < l.length) : (ivs l)[i]? = some (.int .i64 (l.getD i 0)) := by
  simp [ivs, List.getD_eq_getElem?_getD, List.getElem?_eq_getElem h]
theorem bvs_at {l : List Bool} {i : Nat} (h : i < l.length) : (bvs l)[i]? = some (.bool (l.getD i false)) := by
  simp [bvs, List.getD_eq_getElem?_getD, List.getElem?_eq_getElem h]
theorem ivs_set (l : List Int) (i : Nat) (n : Int) : (ivs l).setIfInBounds i (.int .i64 n) = ivs (l.set i n) := by
  apply Array.ext'
  simp [ivs, ← List.map_set]
theorem bvs_set (l : List Bool) (i : Nat) (n : Bool) : (bvs l).setIfInBounds i (.bool n) = bvs (l.set i n) := by
  apply Array.ext'
  simp [bvs, ← List.map_set]
theorem ivs_one (l : List Int) : (ivs l).all (·.oneCell') = true := by
  simp [ivs, Value.oneCell']

theorem Qw.sr {a w : World} (h : Qw a w) {g : Nat} (hg : a.heap.size ≤ g) (cs : Array Value) : Qw a (w.setRow g cs) :=
  ⟨h.os, h.tape, h.output, by rw [setRow_size]; exact h.size, fun k hk => (setRow_other w g k cs (by omega)).trans (h.block k hk)⟩
theorem Bx.sr {w : World} {g : Nat} {old : Array Value} {t : TypeId} (h : Bx w g old t) (cs : Array Value) : Bx (w.setRow g cs) g cs t := setRow_heap w g old cs t _ h
theorem Bx.srOther {w : World} {b g : Nat} {old : Array Value} {t : TypeId} (h : Bx w b old t) (hb : b ≠ g) (cs : Array Value) : Bx (w.setRow g cs) b old t := (setRow_other w g b cs hb).trans h

theorem bx3 (w : World) {A B C A' B' C' : Array Value} (ta tb tc : TypeId) (hA : A = A') (hB : B = B') (hC : C = C') :
    Bx (((w.alloc (.cells A ta)).alloc (.cells B tb)).alloc (.cells C tc)) w.heap.size A' ta ∧ Bx (((w.alloc (.cells A ta)).alloc (.cells B tb)).alloc (.cells C tc)) (w.heap.size + 1) B' tb ∧
      Bx (((w.alloc (.cells A ta)).alloc (.cells B tb)).alloc (.cells C tc)) (w.heap.size + 1 + 1) C' tc := by
  subst hA hB hC
  have e1 : (w.alloc (.cells A ta)).heap.size = w.heap.size + 1 := by simp
  have e2 : ((w.alloc (.cells A ta)).alloc (.cells B tb)).heap.size = w.heap.size + 1 + 1 := by simp
  refine ⟨((Bx.new w _ _).alloc _).alloc _, ?_, ?_⟩
  · have := (Bx.new (w.alloc (.cells A ta)) B tb).alloc (.cells C tc)
    rwa [e1] at this
  · have := Bx.new ((w.alloc (.cells A ta)).alloc (.cells B tb)) C tc
    rwa [e2] at this

section
variable {ops : Array Oper} {rest : List Oper} {dst : Option Tmp} {ty : TypeId} {pos : String} {after : Array Edge} {a : Act} {w : World} {Q : Exit → Act → World → Prop}
end

def ArgsR (l : Vs.Ar) (w : World) (e : Ending) (w' : World) : Prop := (∃ vs : List Int, vs.length = 33 ∧ (Vs.err l = 0 → vs = Vs.vals l l.length) ∧ e = .returned (.tuple #[.agg (ivs vs), .int .i64 (Vs.err l)])) ∧ Qw w w'

end Go.Proofs.YtnjcbgnghfppoaaDoor
