import Derived.Lib.QuietBelow
import Derived.StillTailTactics
import Derived.BigQuiet
import Derived.Test.YtihmifdadikhaaaGA
import Derived.Lib.Hide
import Derived.Outline
import Derived.OneCell
import Derived.IntWalk
import Derived.Deep.QuietTactic
import Derived.BigRegion
import Derived.RegionTactic
import Derived.Test.YtihmifdadikhaaaGB

/- A region that draws its order, whose first operations leave the world in a class (calls among them, which may make memory),
   and whose last ones come in one order: walked once, in the order of the text. -/
set_option linter.unusedVariables false
namespace Go.Proofs.Ytihmifdadikhaaa
open Go Go.RowKit Go.Sort

section
variable {P : Program} {ops : Array Oper} {C : World → Prop}

/-- The head's operations, in any order; behind them L. -/
def headQ (P : Program) (ops : Array Oper) (C : World → Prop) (n : Nat) (L : Array Bool → Act → Prop) : Nat → Array Bool → Act → Prop
  | 0, done, a => L done a
  | f + 1, done, a => Region.ready .any ops done ≠ [] ∧ ∀ i ∈ Region.ready .any ops done, i < n ∧ qOp P ops C i (headQ P ops C n L f (done.setIfInBounds i true)) a

theorem any_of_headQ {n g : Nat} {L : Array Bool → Act → Prop} {Q : Exit → Act → World → Prop} (hL : ∀ done a w, C w → L done a → wpAny P .any ops Q g done a w) :
    ∀ (f : Nat) (done : Array Bool) (a : Act) (w : World), C w → headQ P ops C n L f done a → wpAny P .any ops Q (f + g) done a w
  | 0, _, _, _, hC, h => by rw [Nat.zero_add]; exact hL _ _ _ hC h
  | f + 1, _, _, _, hC, h => by
    rw [show f + 1 + g = (f + g) + 1 by omega]
    exact ⟨fun e => absurd e h.1, fun i hi => wpOp_of_qOp hC (fun _ _ hC' h' => any_of_headQ hL f _ _ _ hC' h') (h.2 i hi).2⟩

theorem headQ_first {n i : Nat} {oi : Oper} {v : Value} {L : Array Bool → Act → Prop} (hi : ops[i]? = some oi) (hsel : ∀ (j : Nat) (o : Oper) cs b, ops[j]? = some o → o.op ≠ .select cs b)
    (hT : ∀ done, HeadInv .any ops n done → ∀ i, i < n → done.getD i true = false → ∀ t, n ≤ t → t ∉ Region.ready .any ops done) (hin : i < n) (hL : ∀ done a, L done a → ∀ j ∈ Region.ready .any ops done, n ≤ j) :
    ∀ (f : Nat) (done : Array Bool) (a : Act), HeadInv .any ops n done →
      (∀ j oj, ops[j]? = some oj → j ≠ i → done.getD j true = false → (∀ e ∈ oj.after, Region.binds .any e = true → e.on ≠ i) → oi.apart ops oj = true) →
      i ∈ Region.ready .any ops done → YieldsIn P ops C oi v a → headQ P ops C n L f (done.setIfInBounds i true) (a.put oi.dst v) → headQ P ops C n L (f + 1) done a := by
  intro f
  induction f with
  | zero =>
    intro done a inv _ hr hy H
    have hun := (mem_ready.1 hr).1
    refine ⟨fun e => (by rw [e] at hr; cases hr), fun j hj => ?_⟩
    have hjn : j < n := (Nat.lt_or_ge j n).resolve_right fun h => hT done inv i hin hun j h hj
    refine ⟨hjn, ?_⟩
    by_cases e : j = i
    · subst e; exact hy.qOp hi H
    · exact absurd (hL _ _ H j (ready_mono hj e)) (by omega)
  | succ f ih =>
    intro done a inv hfree hr hy H
    have hun := (mem_ready.1 hr).1
    refine ⟨fun e => (by rw [e] at hr; cases hr), fun j hj => ?_⟩
    have hjn : j < n := (Nat.lt_or_ge j n).resolve_right fun h => hT done inv i hin hun j h hj
    refine ⟨hjn, ?_⟩
    by_cases e : j = i
    · subst e; exact hy.qOp hi H
    · obtain ⟨hju, oj, hoj, hall⟩ := mem_ready.1 hj
      have hnot : ∀ e ∈ oj.after, Region.binds .any e = true → e.on ≠ i := fun x hx hb heq => by
        have h1 := hall x hx hb
        rw [heq, getD_both hun] at h1
        cases h1
      have hap := hfree j oj hoj e hju hnot
      have h2 := qOp_put hoj hap (fun cs b => hsel i oi cs b hi) (fun cs b => hsel j oj cs b hoj) hy (H.2 j (ready_mono hj e)).2
      refine qOp_mono (fun a' h3 => ih (done.setIfInBounds j true) a' (inv.set hj hjn) (fun k ok hk hki hu hno => hfree k ok hk hki ?_ hno) (ready_mono hr (Ne.symm e)) h3.1 ?_) h2
      · by_cases x : j = k
        · subst x; exact hju
        · rw [getD_set_ne true x] at hu; exact hu
      · rw [Array.setIfInBounds_comm _ _ e]; exact h3.2

/-- The flags behind the first operations. -/
def doneAt : Nat → Nat → Array Bool → Array Bool
  | 0, _, d => d
  | f + 1, k, d => doneAt f (k + 1) (d.setIfInBounds k true)
/-- The first operations may come in the order of the text. -/
def lexOk (ops : Array Oper) (n : Nat) : Nat → Nat → Array Bool → Bool
  | 0, _, d => (Region.ready .any ops d).all fun j => decide (n ≤ j)
  | f + 1, k, d => (Region.ready .any ops d).contains k && Region.free .any ops d k && lexOk ops n f (k + 1) (d.setIfInBounds k true)

theorem headQ_lex {n : Nat} {Lq : Act → Prop} (hsel : Region.noSelect ops = true) (hT : ∀ done, HeadInv .any ops n done → ∀ i, i < n → done.getD i true = false → ∀ t, n ≤ t → t ∉ Region.ready .any ops done) :
    ∀ (l : List Oper) (k : Nat) (done : Array Bool) (a : Act), (∀ j, j < l.length → l[j]? = ops[k + j]?) → k + l.length = n → HeadInv .any ops n done →
    lexOk ops n l.length k done = true → wpQuiet P ops C Lq l a → headQ P ops C n (fun d a' => d = doneAt l.length k done ∧ Lq a') l.length done a
  | [], k, done, a, _, hk, _, hB, h => ⟨rfl, h⟩
  | o :: l, k, done, a, hl, hk, inv, hB, h => by
    have h0 : ops[k]? = some o := by simpa using (hl 0 (by simp)).symm
    simp only [List.length_cons, lexOk, Bool.and_eq_true] at hB hk
    obtain ⟨⟨hr, hf⟩, hB'⟩ := hB
    have hr' : k ∈ Region.ready .any ops done := by simpa using hr
    have hst : qOp P ops C k (wpQuiet P ops C Lq l) a := by unfold qOp; simp only [h0]; exact h
    obtain ⟨v, hy, hK⟩ := yieldsIn_of_qOp h0 hst
    have fin : ∀ (l : List Oper) (k : Nat) (d : Array Bool), lexOk ops n l.length k d = true → ∀ j ∈ Region.ready .any ops (doneAt l.length k d), n ≤ j := by
      intro l
      induction l with
      | nil => intro k d hd j hj; simpa using List.all_eq_true.1 hd j hj
      | cons x l ih => intro k d hd; simp only [List.length_cons, lexOk, Bool.and_eq_true] at hd; exact ih _ _ hd.2
    exact headQ_first (L := fun d a' => d = doneAt l.length (k + 1) (done.setIfInBounds k true) ∧ Lq a') h0 (Region.noSelect_spec hsel) hT (by omega) (fun d a' hd => hd.1 ▸ fin l (k + 1) _ hB') l.length done a inv (Region.free_spec h0 hf) hr' hy
      (headQ_lex hsel hT l (k + 1) _ _ (fun j hj => by have := hl (j + 1) (by simp; omega); simpa [Nat.add_assoc, Nat.add_comm 1 j] using this) (by omega) (inv.set hr' (by omega)) hB' hK)

/-- Each operation behind the head waits for the head's last one, or for one that does. -/
def restB (ops : Array Oper) (n : Nat) : Bool := (List.range ops.size).all fun t => decide (t < n) || (List.range t).any fun j => decide (n ≤ j + 1) && Region.waitsFor .any ops t j
theorem rest_waits {n : Nat} (n0 : 0 < n) (hs : Region.sinkB .any ops (n - 1) = true) (hr : restB ops n = true) (done : Array Bool) (inv : HeadInv .any ops n done) (i : Nat) (hi : i < n) (hun : done.getD i true = false) (t : Nat) (ht : n ≤ t) : t ∉ Region.ready .any ops done := by
  intro hin
  obtain ⟨_, ot, hot, hall⟩ := mem_ready.1 hin
  have htl : t < ops.size := (Array.getElem?_eq_some_iff.1 hot).1
  have h1 := List.all_eq_true.1 hr t (List.mem_range.2 htl)
  simp only [Bool.or_eq_true, decide_eq_true_eq] at h1
  have last : done.getD (n - 1) false = true := by
    rcases h1 with h1 | h1
    · omega
    · obtain ⟨j, hj, hj2⟩ := List.any_eq_true.1 h1
      simp only [Bool.and_eq_true, decide_eq_true_eq] at hj2
      obtain ⟨o', ho', e, he, hb, hon⟩ := Region.waitsFor_spec hj2.2
      obtain rfl : o' = ot := Option.some.inj (ho'.symm.trans hot)
      have h2 := hall e he hb
      rw [hon] at h2
      rcases Nat.lt_or_ge j n with c | c
      · rw [show n - 1 = j by omega]; exact h2
      · have := getD_both (inv.tail j c (by have := List.mem_range.1 hj; omega))
        rw [this] at h2; cases h2
  have all : ∀ d i, n - 1 - i = d → i ≤ n - 1 → done.getD i false = true := by
    intro d
    induction d using Nat.strongRecOn with
    | _ d ih =>
      intro i hd hi
      by_cases e : i = n - 1
      · rw [e]; exact last
      · obtain ⟨j, hj, hj2⟩ := List.any_eq_true.1 (List.all_eq_true.1 hs i (List.mem_range.2 (by omega)))
        simp only [Bool.and_eq_true, decide_eq_true_eq] at hj2
        have := List.mem_range.1 hj
        obtain ⟨oj, hoj, x, hx, hb, hon⟩ := Region.waitsFor_spec hj2.2
        have := inv.closed j oj hoj (ih (n - 1 - j) (by omega) j rfl (by omega)) x hx hb
        rw [hon] at this; exact this
  have := all _ i rfl (by omega)
  rw [getD_both hun] at this; cases this

/-- The head quiet in the class; what comes behind it in whatever order. -/
theorem region_quiet_rest {id : Nat} {Q : Exit → Act → World → Prop} {a : Act} {w : World} {l : List Oper} (n : Nat) (hm : P.follows .mixedOrders = true)
    (hB : (Region.noSelect l.toArray && decide (0 < n) && decide (n ≤ l.length) && Region.sinkB .any l.toArray (n - 1) && restB l.toArray n && lexOk l.toArray n n 0 (Array.replicate l.length false)) = true) (hC : C w.drew)
    (h : wpQuiet P l.toArray C (fun a' => ∀ w', C w' → wpAny P .any l.toArray Q (l.length - n) (doneAt n 0 (Array.replicate l.length false)) a' w') (l.take n) a) : (Code.region id l.toArray true).wp P Q a w := by
  simp only [Bool.and_eq_true, decide_eq_true_eq] at hB
  obtain ⟨⟨⟨⟨⟨hsel, n0⟩, hn⟩, hs⟩, hr⟩, hlex⟩ := hB
  have ht : (l.take n).length = n := by simp; omega
  have inv0 : HeadInv .any l.toArray n (Array.replicate l.length false) :=
    ⟨by simp, fun j oj _ hl => (by rw [getD_replicate_false] at hl; cases hl), fun t _ ht => getD_in (by simpa using ht) (getD_replicate_false _ _)⟩
  have H := headQ_lex (P := P) (C := C) (n := n) hsel (fun d inv i hi hu t ht => rest_waits n0 hs hr d inv i hi hu t ht) (l.take n) 0 _ a (fun j hj => by
    have hj' : j < n := by rw [ht] at hj; exact hj
    simp [hj']) (by simpa using ht) inv0 (by rw [ht]; exact hlex) h
  refine wp_region_any hm ?_
  have := any_of_headQ (Q := Q) (g := l.length - n) (fun done a' w' hC' hL => by
    rw [hL.1, ht]; exact hL.2 w' hC') _ _ _ _ hC H
  rw [ht, show n + (l.length - n) = l.length by omega] at this
  simpa using this

/-- A number that is only reckoned may be reckoned first; then one after the other. -/
theorem any_one {l : List Oper} {Q : Exit → Act → World → Prop} {a : Act} {w : World} {o : Oper} {v : Value} {d : Array Bool} (n : Nat) (ho : l[n]? = some o)
    (hB : (Region.noSelect l.toArray && decide (n < l.length) && Region.free .any l.toArray d n && (Region.ready .any l.toArray d).contains n && Region.seqB .any l.toArray (l.length - (n + 1)) (n + 1) (d.setIfInBounds n true)) = true)
    (hQ : ∀ c a w, Q (.panic c) (a.put o.dst v) w → Q (.panic c) a w) (hw : Region.wanted o (yielded l.toArray a.tmps) = true) (hv : ∀ w, (execOp a.eval o).run P w = .ok (.value v) w)
    (h : wpList P l.toArray Q (l.drop (n + 1)) (a.put o.dst v) w) : wpAny P .any l.toArray Q (l.length - n) d a w := by
  simp only [Bool.and_eq_true, decide_eq_true_eq] at hB
  obtain ⟨⟨⟨⟨hsel, hn⟩, hf⟩, hr⟩, hseq⟩ := hB
  rw [show l.length - n = (l.length - (n + 1)) + 1 by omega]
  refine wpAny_take (i := n) (oi := o) (by simpa using ho) hsel hf hr hQ (.inl ⟨hw, hv⟩) ?_
  have hd : (l.drop (n + 1)).length = l.length - (n + 1) := by simp
  have := wpAny_of_seq (md := .any) (Q' := Q) (ops := l.toArray) (P := P) (l.drop (n + 1)) (n + 1) (d.setIfInBounds n true) (a.put o.dst v) w (fun j => by simp [List.getElem?_drop]) (by rw [hd]; exact hseq) h
  rwa [hd] at this

/-- The head quiet in the class, then the rest, one after the other. -/
theorem region_quiet_tail {id : Nat} {Q : Exit → Act → World → Prop} {a : Act} {w : World} {l : List Oper} (n : Nat) (hm : P.follows .mixedOrders = true)
    (hB : (Region.noSelect l.toArray && decide (0 < n) && decide (n ≤ l.length) && Region.sinkB .any l.toArray (n - 1) && restB l.toArray n && lexOk l.toArray n n 0 (Array.replicate l.length false) &&
      Region.seqB .any l.toArray (l.length - n) n (doneAt n 0 (Array.replicate l.length false))) = true) (hC : C w.drew)
    (h : wpQuiet P l.toArray C (fun a' => ∀ w', C w' → wpList P l.toArray Q (l.drop n) a' w') (l.take n) a) : (Code.region id l.toArray true).wp P Q a w := by
  obtain ⟨hB, hseq⟩ := Bool.and_eq_true_iff.1 hB
  refine region_quiet_rest n hm hB hC ?_
  have key : ∀ (K K' : Act → Prop), (∀ a, K a → K' a) → ∀ (m : List Oper) (a : Act), wpQuiet P l.toArray C K m a → wpQuiet P l.toArray C K' m a := by
    intro K K' hK m
    induction m with
    | nil => intro a h; exact hK _ h
    | cons o m ih =>
      intro a h
      unfold wpQuiet at h ⊢
      split
      · rename_i hw; rw [if_pos hw] at h; exact Oper.quiet_mono (fun a' h' => ih a' h') h
      · rename_i hw; rw [if_neg hw] at h; exact ih _ h
  refine key _ _ (fun a' h' w' hC' => ?_) _ _ h
  have hd : (l.drop n).length = l.length - n := by simp
  have := wpAny_of_seq (md := .any) (Q' := Q) (ops := l.toArray) (P := P) (l.drop n) n _ a' w' (fun j => by simp [List.getElem?_drop]) (by rw [hd]; exact hseq) (h' w' hC')
  rwa [hd] at this

/-! ### a long region: the order of the text is one of its orders, by a check that looks at each pair once -/
def fastFrom (ops : Array Oper) : Nat → List Oper → Bool
  | _, [] => true
  | k, o :: rest => (o.after.all fun e => !Region.binds .any e || Nat.blt e.on k) && ((rest.all fun y => (y.after.any fun e => Region.binds .any e && Nat.beq e.on k) || o.apart ops y) && fastFrom ops (k + 1) rest)

theorem anyQ_fast {Q : Act → Prop} (hs : Region.noSelect ops = true) : ∀ (l : List Oper) (k : Nat) (d : Array Bool) (a : Act), (∀ j, l[j]? = ops[k + j]?) → k + l.length = ops.size → d.size = ops.size →
    (∀ j, j < k → d.getD j false = true) → (∀ j, k ≤ j → j < ops.size → d.getD j true = false) → fastFrom ops k l = true → wpQuiet P ops C Q l a → wpAnyQ P .any ops C Q l.length d a
  | [], k, d, a, _, hk, hz, h1, _, _, h => by
    refine ⟨?_, h⟩
    rw [List.eq_nil_iff_forall_not_mem]
    intro j hj
    obtain ⟨h2, o, ho, _⟩ := mem_ready.1 hj
    have hjl := (Array.getElem?_eq_some_iff.1 ho).1
    have := h1 j (by simp at hk; omega)
    rw [getD_both h2] at this; cases this
  | o :: l, k, d, a, hl, hk, hz, h1, h2, hf, h => by
    have h0 : ops[k]? = some o := by simpa using (hl 0).symm
    simp only [fastFrom, Bool.and_eq_true] at hf
    obtain ⟨ha, hp, hf⟩ := hf
    simp only [List.length_cons] at hk
    have hst : qOp P ops C k (wpQuiet P ops C Q l) a := by unfold qOp; simp only [h0]; exact h
    obtain ⟨v, hy, hK⟩ := yieldsIn_of_qOp h0 hst
    refine wpAnyQ_first h0 (Region.noSelect_spec hs) l.length d a (fun j oj hj hne hu hno => ?_) (mem_ready.2 ⟨h2 k (Nat.le_refl _) (by omega), o, h0, fun e he hb => ?_⟩) hy ?_
    · have hjl := (Array.getElem?_eq_some_iff.1 hj).1
      have hkj : k < j := by
        rcases Nat.lt_or_ge j k with c | c
        · have := h1 j c; rw [getD_both hu] at this; cases this
        · omega
      have hm : oj ∈ l := by
        have := hl (j - k)
        rw [show k + (j - k) = j by omega, hj, show j - k = (j - k - 1) + 1 by omega, List.getElem?_cons_succ] at this
        exact List.mem_of_getElem? this
      have hq := List.all_eq_true.1 hp oj hm
      rcases Bool.or_eq_true_iff.1 hq with hq | hq
      · obtain ⟨e, he, hb⟩ := Array.any_eq_true'.1 hq
        simp only [Bool.and_eq_true] at hb
        exact absurd (Nat.eq_of_beq_eq_true hb.2) (hno e he hb.1)
      · exact hq
    · have := Array.all_eq_true'.1 ha e he
      rw [hb] at this
      have hlt : e.on < k := by simp [Nat.blt] at this; omega
      exact h1 _ hlt
    · refine anyQ_fast hs l (k + 1) _ _ (fun j => by have := hl (j + 1); simpa [Nat.add_assoc, Nat.add_comm 1 j] using this) (by omega) (by simp [hz]) (fun j hj => ?_) (fun j hj hj' => ?_) hf hK
      · by_cases e : k = j
        · subst e; simp [hz]; omega
        · rw [getD_set_ne false e]; exact h1 j (by omega)
      · rw [getD_set_ne true (by omega)]; exact h2 j (by omega) hj'

theorem region_quiet_fast {id : Nat} {Q : Exit → Act → World → Prop} {a : Act} {w : World} {l : List Oper} (hm : P.follows .mixedOrders = true) (hB : (Region.noSelect l.toArray && fastFrom l.toArray 0 l) = true) (hC : C w.drew)
    (h : wpQuiet P l.toArray C (fun a' => ∀ w', C w' → Q .normal a' w') l a) : (Code.region id l.toArray true).wp P Q a w := by
  simp only [Bool.and_eq_true] at hB
  refine wp_region_any hm (wpAny_of_quiet (Q := fun a' => ∀ w', C w' → Q .normal a' w') (fun _ w' hw' h => h w' hw') _ _ _ _ hC ?_)
  have := anyQ_fast (P := P) (C := C) hB.1 l 0 (Array.replicate l.toArray.size false) a (by simp) (by simp) (by simp) (fun j hj => absurd hj (by omega)) (fun j _ hj => getD_in (by simpa using hj) (getD_replicate_false _ _)) hB.2 h
  simpa using this
end
end Go.Proofs.Ytihmifdadikhaaa

/- Worlds in which nothing old has turned, as a class for regions that draw their order; blocks that are known whole. -/
set_option linter.unusedVariables false
namespace Go.Proofs.Ytihmifdadikhaaa
open Go Go.RowKit

/-- A world behind this one in which nothing old has turned. -/
structure Kept (w : World) where
  v : World
  h : Qw w v
instance (w : World) : Nonempty (Kept w) := ⟨⟨w, Qw.refl w⟩⟩

theorem qw_drew1 (w : World) : Qw w w.drew := ⟨rfl, rfl, rfl, Nat.le_refl _, fun _ _ => rfl⟩

theorem Kept.call {P : Program} {w : World} {f : FuncId} {args : Array Value} {n : Kept w} {v : Value} (h : Calls P f args n.v fun e w' => e = .returned v ∧ Qw n.v w') :
    Calls P f args n.v fun e w'' => e = .returned v ∧ ∃ p : Kept w, w'' = p.v :=
  h.mono fun _ w'' ⟨he, hq⟩ => ⟨he, ⟨w'', n.h.trans hq⟩, rfl⟩
theorem Kept.same {P : Program} {w : World} {f : FuncId} {args : Array Value} {n : Kept w} {v : Value} (h : Calls P f args n.v fun e w' => e = .returned v ∧ n.v = w') :
    Calls P f args n.v fun e w'' => e = .returned v ∧ ∃ p : Kept w, w'' = p.v :=
  h.mono fun _ _ ⟨he, hq⟩ => ⟨he, n, hq.symm⟩

/-- A region that draws its order, of loads and of calls that may make memory. -/
theorem region_kept {P : Program} {id : Nat} {Q : Exit → Act → World → Prop} {a : Act} {w : World} {l : List Oper} (hm : P.follows .mixedOrders = true) (hB : Region.lexB .any l.toArray = true)
    (h : wpQuiet P l.toArray (fun w' => ∃ p : Kept w, w' = p.v) (fun a' => ∀ w', Qw w w' → Q .normal a' w') l a) : (Code.region id l.toArray true).wp P Q a w := by
  have hh : wpQuiet P l.toArray (fun w' => ∃ p : Kept w, w' = p.v) (fun a' => ∀ w', (∃ p : Kept w, w' = p.v) → Q .normal a' w') l a := by
    have key : (fun a' => ∀ w', (∃ p : Kept w, w' = p.v) → Q .normal a' w') = (fun a' => ∀ w', Qw w w' → Q .normal a' w') := by
      funext a'
      exact propext ⟨fun k w' hq => k w' ⟨⟨w', hq⟩, rfl⟩, fun k w' ⟨p, e⟩ => k w' (e ▸ p.h)⟩
    rw [key]; exact h
  exact wp_region_quiet (C := fun w' => ∃ p : Kept w, w' = p.v) hm hB ⟨⟨_, qw_drew1 w⟩, rfl⟩ (by simpa using hh)

/-- The same for a long region, by the quicker check. -/
theorem region_kept_fast {P : Program} {id : Nat} {Q : Exit → Act → World → Prop} {a : Act} {w : World} {l : List Oper} (hm : P.follows .mixedOrders = true) (hB : (Region.noSelect l.toArray && fastFrom l.toArray 0 l) = true)
    (h : wpQuiet P l.toArray (fun w' => ∃ p : Kept w, w' = p.v) (fun a' => ∀ w', Qw w w' → Q .normal a' w') l a) : (Code.region id l.toArray true).wp P Q a w := by
  refine region_quiet_fast (C := fun w' => ∃ p : Kept w, w' = p.v) hm hB ⟨⟨_, qw_drew1 w⟩, rfl⟩ ?_
  have key : (fun a' => ∀ w', (∃ p : Kept w, w' = p.v) → Q .normal a' w') = (fun a' => ∀ w', Qw w w' → Q .normal a' w') := by
    funext a'
    exact propext ⟨fun k w' hq => k w' ⟨⟨w', hq⟩, rfl⟩, fun k w' ⟨p, e⟩ => k w' (e ▸ p.h)⟩
  rw [key]; exact h

/-- The same with stores at the end. -/
theorem region_kept_tail {P : Program} {id : Nat} {Q : Exit → Act → World → Prop} {a : Act} {w : World} {l : List Oper} (n : Nat) (hm : P.follows .mixedOrders = true)
    (hB : (Region.noSelect l.toArray && decide (0 < n) && decide (n ≤ l.length) && Region.sinkB .any l.toArray (n - 1) && restB l.toArray n && lexOk l.toArray n n 0 (Array.replicate l.length false) &&
      Region.seqB .any l.toArray (l.length - n) n (doneAt n 0 (Array.replicate l.length false))) = true)
    (h : wpQuiet P l.toArray (fun w' => ∃ p : Kept w, w' = p.v) (fun a' => ∀ w', Qw w w' → wpList P l.toArray Q (l.drop n) a' w') (l.take n) a) : (Code.region id l.toArray true).wp P Q a w := by
  refine region_quiet_tail (C := fun w' => ∃ p : Kept w, w' = p.v) n hm hB ⟨⟨_, qw_drew1 w⟩, rfl⟩ ?_
  have key : (fun a' => ∀ w', (∃ p : Kept w, w' = p.v) → wpList P l.toArray Q (l.drop n) a' w') = (fun a' => ∀ w', Qw w w' → wpList P l.toArray Q (l.drop n) a' w') := by
    funext a'
    exact propext ⟨fun k w' hq => k w' ⟨⟨w', hq⟩, rfl⟩, fun k w' ⟨p, e⟩ => k w' (e ▸ p.h)⟩
  rw [key]; exact h
/-- The same, where one number may still be reckoned among the stores. -/
theorem region_kept_rest {P : Program} {id : Nat} {Q : Exit → Act → World → Prop} {a : Act} {w : World} {l : List Oper} (n : Nat) (hm : P.follows .mixedOrders = true)
    (hB : (Region.noSelect l.toArray && decide (0 < n) && decide (n ≤ l.length) && Region.sinkB .any l.toArray (n - 1) && restB l.toArray n && lexOk l.toArray n n 0 (Array.replicate l.length false)) = true)
    (h : wpQuiet P l.toArray (fun w' => ∃ p : Kept w, w' = p.v) (fun a' => ∀ w', Qw w w' → wpAny P .any l.toArray Q (l.length - n) (doneAt n 0 (Array.replicate l.length false)) a' w') (l.take n) a) : (Code.region id l.toArray true).wp P Q a w := by
  refine region_quiet_rest (C := fun w' => ∃ p : Kept w, w' = p.v) n hm hB ⟨⟨_, qw_drew1 w⟩, rfl⟩ ?_
  have key : (fun a' => ∀ w', (∃ p : Kept w, w' = p.v) → wpAny P .any l.toArray Q (l.length - n) (doneAt n 0 (Array.replicate l.length false)) a' w') = (fun a' => ∀ w', Qw w w' → wpAny P .any l.toArray Q (l.length - n) (doneAt n 0 (Array.replicate l.length false)) a' w') := by
    funext a'
    exact propext ⟨fun k w' hq => k w' ⟨⟨w', hq⟩, rfl⟩, fun k w' ⟨p, e⟩ => k w' (e ▸ p.h)⟩
  rw [key]; exact h

/-- The world under a name. -/
theorem code_of {P : Program} {c : Code} {Q : Exit → Act → World → Prop} {a : Act} {w : World} (S : World → Prop) (h : S w) (k : ∀ w', S w' → c.wp P Q a w') : c.wp P Q a w := k w h

/-- Block b is known whole, and may be written. -/
def Bx (w : World) (b : Nat) (cs : Array Value) (t : TypeId) : Prop := w.heap[b]? = some (.cells cs t (0, 0))
section
variable {w w' : World} {b : Nat} {cs : Array Value} {t : TypeId}
theorem Bx.lt (h : Bx w b cs t) : b < w.heap.size := (Array.getElem?_eq_some_iff.1 h).1
theorem Bx.kept (h : Bx w b cs t) (q : Qw w w') : Bx w' b cs t := (q.block b h.lt).trans h
theorem Bx.below {B : Nat} (h : Bx w b cs t) (q : Below B w w') (hb : b < B) : Bx w' b cs t := (q.block b hb).trans h
theorem Bx.cell (h : Bx w b cs t) (i : Nat) : w.cell? ⟨b, i, none⟩ = cs[i]? := by simp only [Bx] at h; simp [World.cell?, h]
theorem Bx.free (h : Bx w b cs t) (i : Nat) : w.frozen? ⟨b, i, none⟩ = false := by simp only [Bx] at h; simp [World.frozen?, h]
theorem Bx.new (w : World) (cs : Array Value) (t : TypeId) : Bx (w.alloc (.cells cs t)) w.heap.size cs t := by
  show (w.heap.push _)[w.heap.size]? = _
  simp
theorem Bx.alloc (h : Bx w b cs t) (o : Obj) : Bx (w.alloc o) b cs t := (Below.heap_alloc w o b h.lt).trans h
theorem Bx.set (h : Bx w b cs t) (i : Nat) (v : Value) : Bx (w.setCell ⟨b, i, none⟩ v) b (cs.setIfInBounds i v) t := by
  simp only [Bx] at h ⊢
  simp only [World.setCell, Array.getElem?_modify, if_true, h, Option.map_some]
  rfl
theorem Bx.other (h : Bx w b cs t) {a : Addr} (hb : b ≠ a.block) (v : Value) : Bx (w.setCell a v) b cs t := (Below.heap_setCell w a v b hb).trans h
theorem Bx.kcell (h : Bx w b cs t) (i : Nat) (v : Value) (hv : cs[i]? = some v) : ∀ p : Kept w, p.v.cell? ⟨b, i, none⟩ = some v := fun p => ((h.kept p.h).cell i).trans hv
theorem Bx.kfree (h : Bx w b cs t) (i : Nat) : ∀ p : Kept w, p.v.frozen? ⟨b, i, none⟩ = false := fun p => (h.kept p.h).free i
theorem Bx.cell' (h : Bx w b cs t) (i : Nat) (v : Value) (hv : cs[i]? = some v) : w.cell? ⟨b, i, none⟩ = some v := (h.cell i).trans hv
end
end Go.Proofs.Ytihmifdadikhaaa

/- Plain facts on numbers in millionths: rounded quotients in closed form, and what the functions of package fixed return. -/
set_option linter.unusedVariables false
set_option linter.unusedSimpArgs false
namespace Go.Proofs.Ytihmifdadikhaaa
open Go.RowKit

theorem ediv_eq {x y k : Int} (hy : 0 < y) (h1 : k * y ≤ x) (h2 : x < k * y + y) : x / y = k := by
  have a : x / y < k + 1 := (Int.ediv_lt_iff_lt_mul hy).2 (by rw [Int.add_mul]; omega)
  have b : k ≤ x / y := (Int.le_ediv_iff_mul_le hy).2 h1
  omega

/-- A quotient, rounded by a mode. -/
def qv (m N c : Int) : Int := if m = 0 then N / c else if m = 1 then -((-N) / c) else (2 * N + c) / (2 * c)

theorem prod_mag (a b : Int) : Mth.mag a * Mth.mag b = a * b ∧ (decide (a < 0) != decide (b < 0)) = false ∨ Mth.mag a * Mth.mag b = -(a * b) ∧ (decide (a < 0) != decide (b < 0)) = true := by
  unfold Mth.mag
  by_cases ca : a < 0 <;> by_cases cb : b < 0 <;> simp [ca, cb, Int.neg_mul, Int.mul_neg]

theorem rnd_qv (m N c P : Int) (neg : Bool) (hc : 0 < c) (m0 : 0 ≤ m) (m2 : m ≤ 2) (hP : 0 ≤ P) (h : P = N ∧ neg = false ∨ P = -N ∧ neg = true) :
    Mth.rnd m neg (P / c) (restQ (P % c) c) = qv m N c := by
  have d := Int.emod_add_mul_ediv P c
  have l0 := Int.emod_nonneg P (show c ≠ 0 by omega)
  have l1 := Int.emod_lt_of_pos P hc
  have q0 : 0 ≤ P / c := Int.ediv_nonneg hP (by omega)
  generalize P / c = q at *
  generalize P % c = l at *
  rw [Int.mul_comm] at d
  have e1 : (q + 1) * c = q * c + c := by rw [Int.add_mul, Int.one_mul]
  have e2 : q * (2 * c) = 2 * (q * c) := by rw [← Int.mul_assoc, Int.mul_comm q 2, Int.mul_assoc]
  have e3 : (q + 1) * (2 * c) = 2 * (q * c) + 2 * c := by rw [Int.add_mul, e2, Int.one_mul]
  have e4 : (-q) * c = -(q * c) := Int.neg_mul q c
  have e5 : (-(q + 1)) * c = -(q * c) - c := by rw [Int.neg_mul, e1]; omega
  have e6 : (-q) * (2 * c) = -(2 * (q * c)) := by rw [Int.neg_mul, e2]
  have e7 : (-(q + 1)) * (2 * c) = -(2 * (q * c)) - 2 * c := by rw [Int.neg_mul, e3]; omega
  unfold qv Mth.rnd Mth.away restQ
  rcases h with ⟨rfl, rfl⟩ | ⟨h, rfl⟩
  · have : m = 0 ∨ m = 1 ∨ m = 2 := by omega
    rcases this with rfl | rfl | rfl
    · simp only [Bool.false_and, Bool.false_eq_true, if_false, if_true, Int.add_zero]
      exact (ediv_eq hc (by omega) (by omega)).symm
    · by_cases z : l = 0
      · subst z
        simp only [if_true, Bool.false_eq_true, if_false, Int.one_ne_zero, ne_eq, not_true_eq_false, decide_false, Bool.and_false, Int.add_zero]
        rw [ediv_eq (x := -P) (k := -q) hc (by omega) (by omega)]; omega
      · rw [ediv_eq (x := -P) (k := -(q + 1)) hc (by omega) (by omega)]
        have : (if l = 0 then (0 : Int) else if l < c - l then 1 else if l = c - l then 2 else 3) ≠ 0 := by rw [if_neg z]; split <;> (try split) <;> omega
        simp [this]
    · by_cases g : 2 * l < c
      · rw [if_neg (show ¬ (2 : Int) = 0 by omega), if_neg (show ¬ (2 : Int) = 1 by omega), ediv_eq (x := 2 * P + c) (k := q) (by omega) (by omega) (by omega)]
        by_cases z : l = 0
        · simp [z]
        · simp [z, show l < c - l by omega]
      · rw [if_neg (show ¬ (2 : Int) = 0 by omega), if_neg (show ¬ (2 : Int) = 1 by omega), ediv_eq (x := 2 * P + c) (k := q + 1) (by omega) (by omega) (by omega)]
        have z : ¬ l = 0 := by omega
        have y : ¬ l < c - l := by omega
        by_cases x : l = c - l
        · simp only [if_neg z, if_neg y, if_pos x]; simp
        · simp only [if_neg z, if_neg y, if_neg x]; simp
  · have hN : N = -P := by omega
    subst hN
    have : m = 0 ∨ m = 1 ∨ m = 2 := by omega
    rcases this with rfl | rfl | rfl
    · by_cases z : l = 0
      · subst z
        simp only [if_true, ne_eq, not_true_eq_false, decide_false, Bool.and_false, Bool.false_eq_true, if_false, Int.add_zero]
        rw [ediv_eq (x := -P) (k := -q) hc (by omega) (by omega)]
      · have : (if l = 0 then (0 : Int) else if l < c - l then 1 else if l = c - l then 2 else 3) ≠ 0 := by rw [if_neg z]; split <;> (try split) <;> omega
        simp only [this, if_true, ne_eq, not_false_eq_true, decide_true, Bool.and_self]
        rw [ediv_eq (x := -P) (k := -(q + 1)) hc (by omega) (by omega)]
    · simp only [if_true, if_neg (show ¬ (1 : Int) = 0 by omega), Bool.not_true, Bool.false_and, Bool.false_eq_true, if_false, Int.add_zero, Int.neg_neg]
      rw [ediv_eq (x := P) (k := q) hc (by omega) (by omega)]
    · by_cases g : 2 * l ≤ c
      · rw [if_neg (show ¬ (2 : Int) = 0 by omega), if_neg (show ¬ (2 : Int) = 1 by omega), ediv_eq (x := 2 * -P + c) (k := -q) (by omega) (by omega) (by omega)]
        by_cases z : l = 0
        · simp [z]
        · by_cases x : l < c - l
          · simp [z, x]
          · simp only [if_neg z, if_neg x, if_pos (show l = c - l by omega)]; simp
      · rw [if_neg (show ¬ (2 : Int) = 0 by omega), if_neg (show ¬ (2 : Int) = 1 by omega), ediv_eq (x := 2 * -P + c) (k := -(q + 1)) (by omega) (by omega) (by omega)]
        simp only [if_neg (show ¬ l = 0 by omega), if_neg (show ¬ l < c - l by omega), if_neg (show ¬ l = c - l by omega)]; simp

/-- A quotient by a positive divisor in closed form. -/
theorem md_qv (a b c m : Int) (hc : 0 < c) (m0 : 0 ≤ m) (m2 : m ≤ 2) (r1 : -9223372036854775808 ≤ qv m (a * b) c) (r2 : qv m (a * b) c ≤ 9223372036854775807) :
    mdok a b c m = true ∧ mdv a b c m = qv m (a * b) c := by
  have e : Mth.rnd m (ng a b c) (mq a b c) (mr a b c) = qv m (a * b) c := by
    have hn : ng a b c = (decide (a < 0) != decide (b < 0)) := by unfold ng; rw [decide_eq_false (show ¬ c < 0 by omega)]; simp
    have hm : Mth.mag c = c := by unfold Mth.mag; rw [if_neg (by omega)]
    unfold mq mr
    rw [hm, hn]
    exact rnd_qv m (a * b) c _ _ hc m0 m2 (Int.mul_nonneg (Mth.mag_nonneg a) (Mth.mag_nonneg b)) (prod_mag a b)
  obtain ⟨x, y⟩ := rok_true m (ng a b c) (mq a b c) (mr a b c) _ m0 m2 e r1 r2
  unfold mdv mdok
  rw [if_neg (by omega), if_neg (by omega), x, y]
  exact ⟨rfl, rfl⟩

/-- The nearest quotient is near. -/
theorem md_near (a b c : Int) (h : mdok a b c 2 = true) : 2 * (mdv a b c 2 * c - a * b) ≤ Mth.mag c ∧ 2 * (a * b - mdv a b c 2 * c) ≤ Mth.mag c := by
  obtain ⟨hc, e⟩ := md_ok h
  have pc := mag_pos hc
  rw [e]
  have hP : 0 ≤ Mth.mag a * Mth.mag b := Int.mul_nonneg (Mth.mag_nonneg a) (Mth.mag_nonneg b)
  have d := Int.emod_add_mul_ediv (Mth.mag a * Mth.mag b) (Mth.mag c)
  have l0 := Int.emod_nonneg (Mth.mag a * Mth.mag b) (show Mth.mag c ≠ 0 by omega)
  have l1 := Int.emod_lt_of_pos (Mth.mag a * Mth.mag b) pc
  have pm := prod_mag a b
  unfold mq mr ng
  have cs := mag_sign c
  generalize (decide (a < 0) != decide (b < 0)) = s at *
  generalize Mth.mag a * Mth.mag b = P at *
  generalize Mth.mag c = C at *
  generalize P / C = q at *
  generalize P % C = l at *
  rw [Int.mul_comm] at d
  have e1 : (q + 1) * C = q * C + C := by rw [Int.add_mul, Int.one_mul]
  have key : ∃ k : Int, (k = q ∨ k = q + 1) ∧ Mth.rnd 2 (s != decide (c < 0)) q (restQ l C) = (if (s != decide (c < 0)) = true then -k else k) ∧ 2 * (k * C - P) ≤ C ∧ 2 * (P - k * C) ≤ C := by
    unfold Mth.rnd Mth.away restQ
    generalize (s != decide (c < 0)) = n
    by_cases z : l = 0
    · refine ⟨q, .inl rfl, ?_, by omega, by omega⟩
      cases n <;> simp [z]
    · by_cases g : l < C - l
      · refine ⟨q, .inl rfl, ?_, by omega, by omega⟩
        cases n <;> simp [z, g]
      · by_cases x : l = C - l
        · cases n
          · refine ⟨q + 1, .inr rfl, ?_, by omega, by omega⟩
            simp only [if_neg z, if_neg g, if_pos x]; simp
          · refine ⟨q, .inl rfl, ?_, by omega, by omega⟩
            simp only [if_neg z, if_neg g, if_pos x]; simp
        · refine ⟨q + 1, .inr rfl, ?_, by omega, by omega⟩
          simp only [if_neg z, if_neg g, if_neg x]
          cases n <;> simp
  obtain ⟨k, _, ek, u, v⟩ := key
  rw [ek]
  clear ek e h d e1
  have f1 : (-k) * C = -(k * C) := Int.neg_mul k C
  have f2 : k * (-C) = -(k * C) := Int.mul_neg k C
  have f3 : (-k) * (-C) = k * C := Int.neg_mul_neg k C
  rcases cs with ⟨rfl, cc⟩ | ⟨cs, cc⟩
  · rw [decide_eq_false (by omega)]
    rcases pm with ⟨pm, rfl⟩ | ⟨pm, rfl⟩ <;> simp <;> omega
  · have : c = -C := by omega
    subst this
    rw [decide_eq_true (by omega)]
    rcases pm with ⟨pm, rfl⟩ | ⟨pm, rfl⟩ <;> simp <;> omega

/-! ### what the functions of package fixed return -/

/-- Whether a number is valid. -/
def vld (n : Int) : Bool := decide (-1000000000000000 ≤ n ∧ n ≤ 1000000000000000)
theorem vld_t {n : Int} (h1 : -1000000000000000 ≤ n) (h2 : n ≤ 1000000000000000) : vld n = true := decide_eq_true ⟨h1, h2⟩
theorem vld_f {n : Int} (h : n < -1000000000000000 ∨ 1000000000000000 < n) : vld n = false := decide_eq_false (by omega)
theorem vld_bd {n : Int} (h : vld n = true) : -1000000000000000 ≤ n ∧ n ≤ 1000000000000000 := of_decide_eq_true h
theorem vld_nb {n : Int} (h : vld n = false) : n < -1000000000000000 ∨ 1000000000000000 < n := by have := of_decide_eq_false h; omega
theorem vld_cases (n : Int) : vld n = true ∧ -1000000000000000 ≤ n ∧ n ≤ 1000000000000000 ∨ vld n = false ∧ (n < -1000000000000000 ∨ 1000000000000000 < n) := by
  cases h : vld n
  · exact .inr ⟨rfl, vld_nb h⟩
  · exact .inl ⟨rfl, vld_bd h⟩

def both (a b : Int) : Bool := vld a && vld b
def tv (n : Int) (ok : Bool) : Int := if (ok && vld n) = true then n else 0
def te (n : Int) (ok : Bool) : Int := if (ok && vld n) = true then 0 else 3

def addv (a b : Int) : Int := if both a b = true then tv (a + b) true else 0
def adde (a b : Int) : Int := if both a b = true then te (a + b) true else 1
def subv (a b : Int) : Int := if both a b = true then tv (a - b) true else 0
def sube (a b : Int) : Int := if both a b = true then te (a - b) true else 1
def mulv (a b : Int) : Int := if both a b = true then tv (mdv a b 1000000 2) (mdok a b 1000000 2) else 0
def mule (a b : Int) : Int := if both a b = true then te (mdv a b 1000000 2) (mdok a b 1000000 2) else 1
/-- The error of the operands of a division. -/
def dve (a b : Int) : Int := if both a b = true then (if b = 0 then 4 else 0) else 1
def divv (a b : Int) : Int := if dve a b = 0 then tv (mdv a 1000000 b 2) (mdok a 1000000 b 2) else 0
def dive (a b : Int) : Int := if dve a b = 0 then te (mdv a 1000000 b 2) (mdok a 1000000 b 2) else dve a b
def modv (a b : Int) : Int := if dve a b = 0 then a % b else 0
def sqv (a : Int) : Int := if vld a = true then (if a < 0 then 0 else tv (rtv a 1000000 2) (rtok a 1000000 2)) else 0
def sqe (a : Int) : Int := if vld a = true then (if a < 0 then 5 else te (rtv a 1000000 2) (rtok a 1000000 2)) else 1
def arge (a : Int) : Int := if vld a = true then 0 else 1
def roundv (a : Int) : Int := if vld a = true then (a + 500000) / 1000000 * 1000000 else 0
def flv (a : Int) : Int := a / 1000000 * 1000000
def clv (a : Int) : Int := -((-a) / 1000000 * 1000000)
def fixv (a : Int) : Int := if vld a = true then (if a < 0 then clv a else flv a) else 0
def fupv (a : Int) : Int := if vld a = true then (if a < 0 then flv a else clv a) else 0
def whole (a : Int) : Bool := vld a && decide (a % 1000000 = 0)
def wholev (a : Int) : Int := if whole a = true then a / 1000000 else 0
/-- A length in micrometers. -/
def ln (a u : Int) : Int := if u = 20 then (2 * (a * 254) + 10000) / 20000 else (2 * a + 1000) / 2000
def lene (a u : Int) : Int := if vld a = true ∧ (u = 20 ∨ u = 21) then (if -1048576 ≤ ln a u ∧ ln a u ≤ 1048576 then 0 else 3) else 1
def lenv (a u : Int) : Int := if lene a u = 0 then ln a u else 0

/-- The rounded integer of a number. -/
theorem md_int (a m : Int) (m0 : 0 ≤ m) (m2 : m ≤ 2) (h : vld a = true) :
    mdok a 1 1000000 m = true ∧ mdv a 1 1000000 m = qv m a 1000000 ∧ -1000000000 ≤ qv m a 1000000 ∧ qv m a 1000000 ≤ 1000000000 := by
  have b := vld_bd h
  have r : -1000000000 ≤ qv m a 1000000 ∧ qv m a 1000000 ≤ 1000000000 := by
    unfold qv; split
    · omega
    · split <;> omega
  have := md_qv a 1 1000000 m (by omega) m0 m2 (by rw [Int.mul_one]; omega) (by rw [Int.mul_one]; omega)
  rw [Int.mul_one] at this
  exact ⟨this.1, this.2, r⟩

theorem qv_0 (N c : Int) : qv 0 N c = N / c := rfl
theorem qv_1 (N c : Int) : qv 1 N c = -((-N) / c) := rfl
theorem qv_2 (N c : Int) : qv 2 N c = (2 * N + c) / (2 * c) := rfl

/-- The length of a number of units. -/
theorem md_len (a u : Int) (h : vld a = true) : mdok a (if u = 20 then 25400 else 1000) 1000000 2 = true ∧ mdv a (if u = 20 then 25400 else 1000) 1000000 2 = ln a u := by
  have b := vld_bd h
  have e : qv 2 (a * (if u = 20 then 25400 else 1000)) 1000000 = ln a u ∧ -9223372036854775808 ≤ ln a u ∧ ln a u ≤ 9223372036854775807 := by
    rw [qv_2]; unfold ln; split <;> omega
  have := md_qv a (if u = 20 then 25400 else 1000) 1000000 2 (by omega) (by omega) (by omega) (by rw [e.1]; exact e.2.1) (by rw [e.1]; exact e.2.2)
  rw [e.1] at this
  exact this

end Go.Proofs.Ytihmifdadikhaaa

/- The walks of package fixed on numbers: Valid to Length. -/
set_option linter.unusedVariables false
set_option linter.unusedSimpArgs false
namespace Go.Proofs.Ytihmifdadikhaaa
open Go.RowKit

theorem ret_ii {a b c d : Int} (h : a = b) (g : c = d) : Ending.returned (.tuple #[.int .i64 a, .int .i64 c]) = .returned (.tuple #[.int .i64 b, .int .i64 d]) := by rw [h, g]
theorem ret_bl {a b : Bool} (h : a = b) : Ending.returned (.bool a) = .returned (.bool b) := by rw [h]

theorem dve_cases (a b : Int) : dve a b = 0 ∧ vld a = true ∧ vld b = true ∧ b ≠ 0 ∨ dve a b = 4 ∧ vld a = true ∧ vld b = true ∧ b = 0 ∨ dve a b = 1 ∧ (vld a = false ∨ vld b = false) := by
  unfold dve both
  cases ha : vld a
  · exact .inr (.inr ⟨rfl, .inl rfl⟩)
  · cases hb : vld b
    · exact .inr (.inr ⟨rfl, .inr rfl⟩)
    · by_cases z : b = 0
      · exact .inr (.inl ⟨by simp [z], rfl, rfl, z⟩)
      · exact .inl ⟨by simp [z], rfl, rfl, z⟩

/-- The rounded number. -/
def intv (m a : Int) : Int := if vld a = true then qv m a 1000000 * 1000000 else 0

/-- Whether there is such a unit. -/
def unit (u : Int) : Bool := decide (u = 20 ∨ u = 21)
end Go.Proofs.Ytihmifdadikhaaa

/- Lists of numbers that came in, and tapes: the walks of cncmake.Light, New and Next. -/
set_option linter.unusedVariables false
set_option linter.unusedSimpArgs false
namespace Go.Proofs.Ytihmifdadikhaaa
open Go.RowKit

/-- A slice of ints below block B. -/
def IntsB (B : Nat) (w : World) (v : Value) (zs : List Int) : Prop :=
  ∃ (a : Option Addr) (cap : Nat), v = .slice a zs.length cap ∧ zs.length ≤ cap ∧ cap ≤ 9223372036854775807 ∧ (zs = [] ∨ ∃ b off, a = some ⟨b, off, none⟩ ∧ b < B ∧
    ∀ i, i < zs.length → w.cell? ⟨b, off + i, none⟩ = some (.int .i64 (zs.getD i 0)) ∧ -9223372036854775808 ≤ zs.getD i 0 ∧ zs.getD i 0 ≤ 9223372036854775807)

theorem IntsB.kept {B C : Nat} {w w' : World} {v : Value} {zs : List Int} (h : IntsB B w v zs) (hb : Below C w w') (hC : B ≤ C) : IntsB B w' v zs := by
  obtain ⟨a, cap, h1, h2, h3, h4⟩ := h
  refine ⟨a, cap, h1, h2, h3, ?_⟩
  rcases h4 with h4 | ⟨b, off, e, hB, h⟩
  · exact .inl h4
  · refine .inr ⟨b, off, e, hB, fun i hi => ?_⟩
    rw [hb.cell (p := ⟨b, off + i, none⟩) (by show b < C; omega)]
    exact h i hi

theorem IntsB.mono {B C : Nat} {w : World} {v : Value} {zs : List Int} (h : IntsB B w v zs) (hC : B ≤ C) : IntsB C w v zs := by
  obtain ⟨a, cap, h1, h2, h3, h4⟩ := h
  refine ⟨a, cap, h1, h2, h3, ?_⟩
  rcases h4 with h4 | ⟨b, off, e, hB, h⟩
  · exact .inl h4
  · exact .inr ⟨b, off, e, by omega, h⟩

theorem IntsB.len {B : Nat} {w : World} {v : Value} {zs : List Int} (h : IntsB B w v zs) : ∃ a cap, v = .slice a zs.length cap ∧ zs.length ≤ 9223372036854775807 := by
  obtain ⟨a, cap, h1, h2, h3, _⟩ := h
  exact ⟨a, cap, h1, by omega⟩

theorem lightF (v : Value) (zs : List Int) (B : Nat) (w : World) (h : IntsB B w v zs) :
    Calls Try.prog 23 #[v] w fun e w' => e = .returned (.bool (decide (zs.length ≤ 120))) ∧ w = w' := by
  obtain ⟨a, cap, rfl, _⟩ := h.len
  clear h
  go_enter Try.func23, Try.ntmps23
  go_wp2
  go_ret
  exact ⟨ret_bl (decide_eq_decide.2 (by omega)), rfl⟩

/-! ### tapes -/

/-- Block B holds a tape over zs that stands at k. -/
def TapeAt (w : World) (B : Nat) (v : Value) (zs : List Int) (k : Nat) : Prop :=
  w.heap[B]? = some (.cells #[v, .int .i64 k] 84 (0, 0)) ∧ IntsB B w v zs ∧ k ≤ zs.length

theorem TapeAt.kept {B : Nat} {w w' : World} {v : Value} {zs : List Int} {k : Nat} (h : TapeAt w B v zs k) (q : Qw w w') : TapeAt w' B v zs k := by
  obtain ⟨h1, h2, h3⟩ := h
  have l := lt_of_block h1
  exact ⟨by rw [q.block B l]; exact h1, h2.kept q (by omega), h3⟩

def nxt (zs : List Int) (k : Nat) (n : Int) : Int := if k < zs.length then zs.getD k 0 % n else 0
def adv (zs : List Int) (k : Nat) : Nat := if k < zs.length then k + 1 else k
theorem nxt_bd (zs : List Int) (k : Nat) (n : Int) (h : 1 ≤ n) : 0 ≤ nxt zs k n ∧ nxt zs k n < n := by
  unfold nxt
  split
  · exact ⟨Int.emod_nonneg _ (by omega), Int.emod_lt_of_pos _ (by omega)⟩
  · omega

theorem below_drawn (B : Nat) (w : World) (n : Nat) : Below B w (w.drewN n) := ⟨rfl, rfl, rfl, Nat.le_refl _, fun _ _ => rfl⟩

theorem cells_of_two {w : World} {b : Nat} {x y : Value} {t : TypeId} (h : w.heap[b]? = some (.cells #[x, y] t (0, 0))) :
    w.cell? ⟨b, 0, none⟩ = some x ∧ w.cell? ⟨b, 1, none⟩ = some y ∧ w.frozen? ⟨b, 1, none⟩ = false := by simp [World.cell?, World.frozen?, h]
theorem two_setCell {w : World} {b : Nat} {x y u : Value} {t : TypeId} (h : w.heap[b]? = some (.cells #[x, y] t (0, 0))) : (w.setCell ⟨b, 1, none⟩ u).heap[b]? = some (.cells #[x, u] t (0, 0)) := by
  have hlt := lt_of_block h
  have h' : w.heap[b] = .cells #[x, y] t (0, 0) := by simpa [Array.getElem?_eq_getElem hlt] using h
  show (w.heap.modify b _)[b]? = _
  rw [Array.getElem?_eq_getElem (by simpa using hlt), Array.getElem_modify_self, h']
  rfl

set_option maxRecDepth 100000 in
set_option maxHeartbeats 1000000 in
theorem nextF (B : Nat) (v : Value) (zs : List Int) (k : Nat) (n : Int) (n1 : 1 ≤ n) (n2 : n ≤ 9223372036854775807) (w : World) (h : TapeAt w B v zs k) :
    Calls Try.prog 69 #[.pointer (some ⟨B, 0, none⟩), .int .i64 n] w fun e w' => e = .returned (.int .i64 (nxt zs k n)) ∧ TapeAt w' B v zs (adv zs k) ∧ Below B w w' := by
  obtain ⟨h1, h2, h3⟩ := h
  obtain ⟨a, cap, rfl, l1, l2, h4⟩ := h2
  obtain ⟨c0, c1, f1⟩ := cells_of_two h1
  unfold nxt adv
  by_cases hk : k < zs.length
  · rw [if_pos hk, if_pos hk]
    rcases h4 with rfl | ⟨b, off, rfl, hb, hz⟩
    · simp at hk
    · obtain ⟨z0, z1, z2⟩ := hz k hk
      have hlt := lt_of_block h1
      have hk' : (k : Int) < zs.length := by omega
      have HZ := Lib.hid hz
      have H1 := Lib.hid h1
      have md := fun w => modW (zs.getD k 0) n z1 z2 n1 n2 w
      obtain ⟨z, ez⟩ : ∃ z, zs.getD k 0 = z := ⟨_, rfl⟩
      rw [ez] at z0 z1 z2 md
      rw [ez]
      have MD := Lib.hid md
      have bB : b ≠ B := by omega
      clear hz ez md h1
      go_enter Try.func69, Try.ntmps69
      go_wp2
      go_quiet (fail)
      go_wp2
      obtain ⟨w1, hw1⟩ : ∃ w1, w1 = (w.drewN nq).setCell { block := B, off := 1 } (Value.int IntKind.i64 (↑k + 1)) := ⟨_, rfl⟩
      rw [← hw1]
      have g1 : w1.heap[B]? = some (.cells #[.slice (some ⟨b, off, none⟩) zs.length cap, .int .i64 ((k + 1 : Nat) : Int)] 84 (0, 0)) := by
        rw [hw1]
        exact two_setCell (w := w.drewN nq) H1.out
      have q1 : Below B w w1 := by
        rw [hw1]
        exact Below.setCell (below_drawn B w nq) (p := ⟨B, 1, none⟩) (Nat.le_refl B) _
      obtain ⟨d0, d1, _⟩ := cells_of_two g1
      have d2 : w1.cell? ⟨b, off + k, none⟩ = some (.int .i64 z) := (q1.cell (p := ⟨b, off + k, none⟩) hb).trans z0
      rw [Int.natCast_add] at d1
      have T1 : Hid (TapeAt w1 B (.slice (some ⟨b, off, none⟩) zs.length cap) zs (k + 1)) := Lib.hid ⟨g1, IntsB.kept ⟨some ⟨b, off, none⟩, cap, rfl, l1, l2, .inr ⟨b, off, rfl, hb, HZ.out⟩⟩ q1 (Nat.le_refl _), by omega⟩
      have e1 : IntKind.i64.wrap ((k : Int) + 1 - 1) = k := (IntWalk.i64_in ((k : Int) + 1 - 1) (by omega)).trans (by omega)
      clear g1 hw1 c0 c1 f1 z0
      go_quiet ((go_at_call 16; exact Calls.quiet_of_same ((MD.out _).mono fun _ _ ⟨h1, h2⟩ => ⟨h1, h2.symm⟩)))
      go_wp2
      go_ret
      exact ⟨rfl, T1.out.kept (Qw.drewN w1 _), q1.trans (below_drawn B w1 _)⟩
  · rw [if_neg hk, if_neg hk]
    have hk' : (zs.length : Int) ≤ k := by omega
    have H1 := Lib.hid (show TapeAt w B (.slice a zs.length cap) zs k from ⟨h1, ⟨a, cap, rfl, l1, l2, h4⟩, h3⟩)
    clear h1 h4 hk
    go_enter Try.func69, Try.ntmps69
    go_wp2
    go_quiet (fail)
    go_wp2
    go_ret
    exact ⟨rfl, H1.out.kept (Qw.drewN w nq), below_drawn B w _⟩

theorem newF (v : Value) (zs : List Int) (w : World) (h : IntsB w.heap.size w v zs) :
    Calls Try.prog 25 #[v] w fun e w' => e = .returned (.pointer (some ⟨w.heap.size, 0, none⟩)) ∧ TapeAt w' w.heap.size v zs 0 ∧ Qw w w' := by
  have H := Lib.hid h
  obtain ⟨a, cap, rfl, _⟩ := h.len
  clear h
  go_enter Try.func25, Try.ntmps25
  go_wp2
  go_ret
  exact ⟨rfl, ⟨by first | exact heap_alloc_new _ _ | simp, H.out.kept (Below.alloc (Below.refl w.heap.size w) (Nat.le_refl _) _) (Nat.le_refl _), Nat.zero_le _⟩, (Below.refl _ _).alloc (Nat.le_refl _) _⟩

/-- The number that a tape gives. -/
def numv (zs : List Int) (k : Nat) : Int :=
  if nxt zs k 8 = 0 then nxt zs (adv zs k) 1000000000000000 else if nxt zs k 8 = 1 then nxt zs (adv zs k) 1000000 * 100 else if nxt zs k 8 = 2 ∨ nxt zs k 8 = 3 then nxt zs (adv zs k) 40 * 250000 else nxt zs (adv zs k) 12 * 1000000
theorem numv_bd (zs : List Int) (k : Nat) : 0 ≤ numv zs k ∧ numv zs k ≤ 999999999999999 := by
  unfold numv
  split
  · have := nxt_bd zs (adv zs k) 1000000000000000 (by omega); omega
  · split
    · have := nxt_bd zs (adv zs k) 1000000 (by omega); omega
    · split
      · have := nxt_bd zs (adv zs k) 40 (by omega); omega
      · have := nxt_bd zs (adv zs k) 12 (by omega); omega

end Go.Proofs.Ytihmifdadikhaaa

/- Plain words of layer 4. -/
set_option linter.unusedVariables false
set_option linter.unusedSimpArgs false
namespace Go.Proofs.Ytihmifdadikhaaa
open Go.RowKit

/-- A coordinate. -/
def crd (n : Int) : Bool := decide (-1048576 ≤ n) && decide (n ≤ 1048576)
def wth (x y z : Int) : Bool := crd x && (crd y && crd z)
/-- The position in a plane, and the height. -/
def fu (p x y z : Int) : Int := if p = 17 then x else if p = 18 then z else if p = 19 then y else 0
def fw (p x y z : Int) : Int := if p = 17 then y else if p = 18 then x else if p = 19 then z else 0
def fh (p x y z : Int) : Int := if p = 17 then z else if p = 18 then y else if p = 19 then x else 0
def pin (p : Int) : Bool := decide (p = 17) || (decide (p = 18) || decide (p = 19))
/-- The vector over a position in a plane. -/
def sx (p u v h : Int) : Int := if p = 17 then u else if p = 18 then v else if p = 19 then h else 0
def sy (p u v h : Int) : Int := if p = 17 then v else if p = 18 then h else if p = 19 then u else 0
def sz (p u v h : Int) : Int := if p = 17 then h else if p = 18 then u else if p = 19 then v else 0
/-- A small number. -/
def sm (n : Int) : Int := -4194304 + n % 8388609

theorem sm_bd (n : Int) : -4194304 ≤ sm n ∧ sm n ≤ 4194304 := by unfold sm; omega
theorem vmul_bd {a b L : Int} (l0 : 0 ≤ L) (a1 : -L ≤ a) (a2 : a ≤ L) (b1 : -L ≤ b) (b2 : b ≤ L) : -(L * L) ≤ a * b ∧ a * b ≤ L * L := by
  have key : ∀ x y : Int, x ≤ L → 0 ≤ y → y ≤ L → -L ≤ x → -(L * L) ≤ x * y ∧ x * y ≤ L * L := by
    intro x y hx y0 hy hx'
    have m1 := Int.mul_le_mul_of_nonneg_right hx y0
    have m2 := Int.mul_le_mul_of_nonneg_left hy l0
    have m3 := Int.mul_le_mul_of_nonneg_right hx' y0
    rw [Int.neg_mul] at m3
    omega
  by_cases c : 0 ≤ b
  · exact key a b a2 c b2 a1
  · have := key a (-b) a2 (by omega) (by omega) a1
    rw [Int.mul_neg] at this
    omega
theorem vsq_bd {a b : Int} (a1 : -4194304 ≤ a) (a2 : a ≤ 4194304) (b1 : -4194304 ≤ b) (b2 : b ≤ 4194304) : -17592186044416 ≤ a * b ∧ a * b ≤ 17592186044416 := vmul_bd (L := 4194304) (by decide) a1 a2 b1 b2

end Go.Proofs.Ytihmifdadikhaaa

/- The walks of package vec. -/
set_option linter.unusedVariables false
set_option linter.unusedSimpArgs false
namespace Go.Proofs.Ytihmifdadikhaaa
open Go.RowKit

theorem vc_crd (n : Int) (n1 : -9223372036854775808 ≤ n) (n2 : n ≤ 9223372036854775807) (w : World) :
    Calls Try.prog 82 #[.int .i64 n] w fun e w' => e = .returned (.bool (crd n)) ∧ w = w' := by
  have main : ∀ b, crd n = b → Calls Try.prog 82 #[.int .i64 n] w fun e w' => e = .returned (.bool b) ∧ w = w' := by
    intro b hb
    unfold crd at hb
    by_cases h1 : -1048576 ≤ n
    · by_cases h2 : n ≤ 1048576
      · obtain rfl : b = true := by rw [← hb]; simp [h1, h2]
        clear hb
        go_enter Try.func82, Try.ntmps82
        go_wp2
        go_ret
        exact ⟨rfl, rfl⟩
      · obtain rfl : b = false := by rw [← hb]; simp [h2]
        clear hb
        have h3 : 1048577 ≤ n := by omega
        go_enter Try.func82, Try.ntmps82
        go_wp2
        go_ret
        exact ⟨rfl, rfl⟩
    · obtain rfl : b = false := by rw [← hb]; simp [h1]
      clear hb
      go_enter Try.func82, Try.ntmps82
      go_wp2
      go_ret
      exact ⟨rfl, rfl⟩
  exact main _ rfl

theorem vc_within (x y z : Int) (x1 : -9223372036854775808 ≤ x) (x2 : x ≤ 9223372036854775807) (y1 : -9223372036854775808 ≤ y) (y2 : y ≤ 9223372036854775807) (z1 : -9223372036854775808 ≤ z) (z2 : z ≤ 9223372036854775807) (w : World) :
    Calls Try.prog 44 #[.agg #[.int .i64 x, .int .i64 y, .int .i64 z]] w fun e w' => e = .returned (.bool (wth x y z)) ∧ Qw w w' := by
  have cx := fun w => vc_crd x x1 x2 w
  have cy := fun w => vc_crd y y1 y2 w
  have cz := fun w => vc_crd z z1 z2 w
  unfold wth
  generalize crd x = bx at *
  generalize crd y = b_y at *
  generalize crd z = bz at *
  cases bx
  · have Cx := Lib.hid cx; have Cy := Lib.hid cy; have Cz := Lib.hid cz
    clear cx cy cz
    go_enter Try.func44, Try.ntmps44
    go_wp2_with (first | (go_at_call 82; ((with_reducible refine (Cx.out _).mono ?_); rintro e w' ⟨rfl, rfl⟩)) | (go_at_call 82; ((with_reducible refine (Cy.out _).mono ?_); rintro e w' ⟨rfl, rfl⟩)) | (go_at_call 82; ((with_reducible refine (Cz.out _).mono ?_); rintro e w' ⟨rfl, rfl⟩)))
    go_ret
    exact ⟨rfl, (Below.refl _ _).alloc (Nat.le_refl _) _⟩
  cases b_y
  · have Cx := Lib.hid cx; have Cy := Lib.hid cy; have Cz := Lib.hid cz
    clear cx cy cz
    go_enter Try.func44, Try.ntmps44
    go_wp2_with (first | (go_at_call 82; ((with_reducible refine (Cx.out _).mono ?_); rintro e w' ⟨rfl, rfl⟩)) | (go_at_call 82; ((with_reducible refine (Cy.out _).mono ?_); rintro e w' ⟨rfl, rfl⟩)) | (go_at_call 82; ((with_reducible refine (Cz.out _).mono ?_); rintro e w' ⟨rfl, rfl⟩)))
    go_ret
    exact ⟨rfl, (Below.refl _ _).alloc (Nat.le_refl _) _⟩
  cases bz
  · have Cx := Lib.hid cx; have Cy := Lib.hid cy; have Cz := Lib.hid cz
    clear cx cy cz
    go_enter Try.func44, Try.ntmps44
    go_wp2_with (first | (go_at_call 82; ((with_reducible refine (Cx.out _).mono ?_); rintro e w' ⟨rfl, rfl⟩)) | (go_at_call 82; ((with_reducible refine (Cy.out _).mono ?_); rintro e w' ⟨rfl, rfl⟩)) | (go_at_call 82; ((with_reducible refine (Cz.out _).mono ?_); rintro e w' ⟨rfl, rfl⟩)))
    go_ret
    exact ⟨rfl, (Below.refl _ _).alloc (Nat.le_refl _) _⟩
  · have Cx := Lib.hid cx; have Cy := Lib.hid cy; have Cz := Lib.hid cz
    clear cx cy cz
    go_enter Try.func44, Try.ntmps44
    go_wp2_with (first | (go_at_call 82; ((with_reducible refine (Cx.out _).mono ?_); rintro e w' ⟨rfl, rfl⟩)) | (go_at_call 82; ((with_reducible refine (Cy.out _).mono ?_); rintro e w' ⟨rfl, rfl⟩)) | (go_at_call 82; ((with_reducible refine (Cz.out _).mono ?_); rintro e w' ⟨rfl, rfl⟩)))
    go_ret
    exact ⟨rfl, (Below.refl _ _).alloc (Nat.le_refl _) _⟩

theorem vc_add (x y z a b c : Int) (x1 : -4194304 ≤ x) (x2 : x ≤ 4194304) (y1 : -4194304 ≤ y) (y2 : y ≤ 4194304) (z1 : -4194304 ≤ z) (z2 : z ≤ 4194304) (a1 : -4194304 ≤ a) (a2 : a ≤ 4194304) (b1 : -4194304 ≤ b) (b2 : b ≤ 4194304) (c1 : -4194304 ≤ c) (c2 : c ≤ 4194304) (w : World) :
    Calls Try.prog 46 #[.agg #[.int .i64 x, .int .i64 y, .int .i64 z], .agg #[.int .i64 a, .int .i64 b, .int .i64 c]] w fun e w' => e = .returned (.agg #[.int .i64 (x + a), .int .i64 (y + b), .int .i64 (z + c)]) ∧ Qw w w' := by
  go_enter Try.func46, Try.ntmps46
  go_wp2
  exact bodyPost_ret (v := .agg #[.int .i64 (x + a), .int .i64 (y + b), .int .i64 (z + c)]) (by simp [results, Try.results46, go_sem]) rfl ⟨rfl, (((Below.refl _ _).alloc (Nat.le_refl _) _).alloc (by simp) _).alloc (by simp; omega) _⟩

theorem vc_cross (u v a b : Int) (u1 : -4194304 ≤ u) (u2 : u ≤ 4194304) (v1 : -4194304 ≤ v) (v2 : v ≤ 4194304) (a1 : -4194304 ≤ a) (a2 : a ≤ 4194304) (b1 : -4194304 ≤ b) (b2 : b ≤ 4194304) (w : World) :
    Calls Try.prog 112 #[.agg #[.int .i64 u, .int .i64 v], .agg #[.int .i64 a, .int .i64 b]] w fun e w' => e = .returned (.int .i64 (u * b - v * a)) ∧ Qw w w' := by
  obtain ⟨p1, p2⟩ := vsq_bd u1 u2 b1 b2
  obtain ⟨p3, p4⟩ := vsq_bd v1 v2 a1 a2
  go_enter Try.func112, Try.ntmps112
  go_wp2
  go_ret
  exact ⟨rfl, ((Below.refl _ _).alloc (Nat.le_refl _) _).alloc (by simp) _⟩

theorem vc_inner (u v a b : Int) (u1 : -4194304 ≤ u) (u2 : u ≤ 4194304) (v1 : -4194304 ≤ v) (v2 : v ≤ 4194304) (a1 : -4194304 ≤ a) (a2 : a ≤ 4194304) (b1 : -4194304 ≤ b) (b2 : b ≤ 4194304) (w : World) :
    Calls Try.prog 58 #[.agg #[.int .i64 u, .int .i64 v], .agg #[.int .i64 a, .int .i64 b]] w fun e w' => e = .returned (.int .i64 (u * a + v * b)) ∧ Qw w w' := by
  obtain ⟨p1, p2⟩ := vsq_bd u1 u2 a1 a2
  obtain ⟨p3, p4⟩ := vsq_bd v1 v2 b1 b2
  go_enter Try.func58, Try.ntmps58
  go_wp2
  go_ret
  exact ⟨rfl, ((Below.refl _ _).alloc (Nat.le_refl _) _).alloc (by simp) _⟩

end Go.Proofs.Ytihmifdadikhaaa

/- The walks of vec's Flat and Solid. -/
set_option linter.unusedVariables false
set_option linter.unusedSimpArgs false
namespace Go.Proofs.Ytihmifdadikhaaa
open Go.RowKit

theorem vc_flat (p x y z : Int) (p1 : -9223372036854775808 ≤ p) (p2 : p ≤ 9223372036854775807) (w : World) :
    Calls Try.prog 43 #[.int .i64 p, .agg #[.int .i64 x, .int .i64 y, .int .i64 z]] w fun e w' => e = .returned (.tuple #[.agg #[.int .i64 (fu p x y z), .int .i64 (fw p x y z)], .int .i64 (fh p x y z), .bool (pin p)]) ∧ Qw w w' := by
  have main : ∀ u v h b, fu p x y z = u → fw p x y z = v → fh p x y z = h → pin p = b → Calls Try.prog 43 #[.int .i64 p, .agg #[.int .i64 x, .int .i64 y, .int .i64 z]] w fun e w' => e = .returned (.tuple #[.agg #[.int .i64 u, .int .i64 v], .int .i64 h, .bool b]) ∧ Qw w w' := by
    intro u v h b e1 e2 e3 e4
    unfold fu at e1; unfold fw at e2; unfold fh at e3; unfold pin at e4
    by_cases n1 : p = 17
    · subst n1
      obtain rfl : x = u := by simpa using e1
      obtain rfl : y = v := by simpa using e2
      obtain rfl : z = h := by simpa using e3
      obtain rfl : true = b := by simpa using e4
      clear e1 e2 e3 e4
      go_enter Try.func43, Try.ntmps43
      go_wp2
      go_region
      all_goals (go_wp2; exact bodyPost_ret (v := .tuple #[.agg #[.int .i64 x, .int .i64 y], .int .i64 z, .bool true]) (by simp [results, Try.results43, go_sem]) rfl ⟨rfl, Below.drew (((Below.refl _ _).alloc (Nat.le_refl _) _).alloc (by simp) _)⟩)
    by_cases n2 : p = 18
    · subst n2
      obtain rfl : z = u := by simpa using e1
      obtain rfl : x = v := by simpa using e2
      obtain rfl : y = h := by simpa using e3
      obtain rfl : true = b := by simpa using e4
      clear e1 e2 e3 e4
      go_enter Try.func43, Try.ntmps43
      go_wp2
      go_region
      all_goals (go_wp2; exact bodyPost_ret (v := .tuple #[.agg #[.int .i64 z, .int .i64 x], .int .i64 y, .bool true]) (by simp [results, Try.results43, go_sem]) rfl ⟨rfl, Below.drew (((Below.refl _ _).alloc (Nat.le_refl _) _).alloc (by simp) _)⟩)
    by_cases n3 : p = 19
    · subst n3
      obtain rfl : y = u := by simpa using e1
      obtain rfl : z = v := by simpa using e2
      obtain rfl : x = h := by simpa using e3
      obtain rfl : true = b := by simpa using e4
      clear e1 e2 e3 e4
      go_enter Try.func43, Try.ntmps43
      go_wp2
      go_region
      all_goals (go_wp2; exact bodyPost_ret (v := .tuple #[.agg #[.int .i64 y, .int .i64 z], .int .i64 x, .bool true]) (by simp [results, Try.results43, go_sem]) rfl ⟨rfl, Below.drew (((Below.refl _ _).alloc (Nat.le_refl _) _).alloc (by simp) _)⟩)
    · obtain rfl : 0 = u := by simpa [n1, n2, n3] using e1
      obtain rfl : 0 = v := by simpa [n1, n2, n3] using e2
      obtain rfl : 0 = h := by simpa [n1, n2, n3] using e3
      obtain rfl : false = b := by simpa [n1, n2, n3] using e4
      clear e1 e2 e3 e4
      go_enter Try.func43, Try.ntmps43
      go_wp2
      exact bodyPost_ret (v := .tuple #[.agg #[.int .i64 0, .int .i64 0], .int .i64 0, .bool false]) (by simp [results, Try.results43, go_sem]) rfl ⟨rfl, ((Below.refl _ _).alloc (Nat.le_refl _) _).alloc (by simp) _⟩
  exact main _ _ _ _ rfl rfl rfl rfl

theorem vc_solid (p u v h : Int) (p1 : -9223372036854775808 ≤ p) (p2 : p ≤ 9223372036854775807) (w : World) :
    Calls Try.prog 61 #[.int .i64 p, .agg #[.int .i64 u, .int .i64 v], .int .i64 h] w fun e w' => e = .returned (.tuple #[.agg #[.int .i64 (sx p u v h), .int .i64 (sy p u v h), .int .i64 (sz p u v h)], .bool (pin p)]) ∧ Qw w w' := by
  have main : ∀ x y z b, sx p u v h = x → sy p u v h = y → sz p u v h = z → pin p = b → Calls Try.prog 61 #[.int .i64 p, .agg #[.int .i64 u, .int .i64 v], .int .i64 h] w fun e w' => e = .returned (.tuple #[.agg #[.int .i64 x, .int .i64 y, .int .i64 z], .bool b]) ∧ Qw w w' := by
    intro x y z b e1 e2 e3 e4
    unfold sx at e1; unfold sy at e2; unfold sz at e3; unfold pin at e4
    by_cases n1 : p = 17
    · subst n1
      obtain rfl : u = x := by simpa using e1
      obtain rfl : v = y := by simpa using e2
      obtain rfl : h = z := by simpa using e3
      obtain rfl : true = b := by simpa using e4
      clear e1 e2 e3 e4
      go_enter Try.func61, Try.ntmps61
      go_wp2
      exact bodyPost_ret (v := .tuple #[.agg #[.int .i64 u, .int .i64 v, .int .i64 h], .bool true]) (by simp [results, Try.results61, go_sem]) rfl ⟨rfl, ((Below.refl _ _).alloc (Nat.le_refl _) _).alloc (by simp) _⟩
    by_cases n2 : p = 18
    · subst n2
      obtain rfl : v = x := by simpa using e1
      obtain rfl : h = y := by simpa using e2
      obtain rfl : u = z := by simpa using e3
      obtain rfl : true = b := by simpa using e4
      clear e1 e2 e3 e4
      go_enter Try.func61, Try.ntmps61
      go_wp2
      exact bodyPost_ret (v := .tuple #[.agg #[.int .i64 v, .int .i64 h, .int .i64 u], .bool true]) (by simp [results, Try.results61, go_sem]) rfl ⟨rfl, ((Below.refl _ _).alloc (Nat.le_refl _) _).alloc (by simp) _⟩
    by_cases n3 : p = 19
    · subst n3
      obtain rfl : h = x := by simpa using e1
      obtain rfl : u = y := by simpa using e2
      obtain rfl : v = z := by simpa using e3
      obtain rfl : true = b := by simpa using e4
      clear e1 e2 e3 e4
      go_enter Try.func61, Try.ntmps61
      go_wp2
      exact bodyPost_ret (v := .tuple #[.agg #[.int .i64 h, .int .i64 u, .int .i64 v], .bool true]) (by simp [results, Try.results61, go_sem]) rfl ⟨rfl, ((Below.refl _ _).alloc (Nat.le_refl _) _).alloc (by simp) _⟩
    · obtain rfl : 0 = x := by simpa [n1, n2, n3] using e1
      obtain rfl : 0 = y := by simpa [n1, n2, n3] using e2
      obtain rfl : 0 = z := by simpa [n1, n2, n3] using e3
      obtain rfl : false = b := by simpa [n1, n2, n3] using e4
      clear e1 e2 e3 e4
      go_enter Try.func61, Try.ntmps61
      go_wp2
      exact bodyPost_ret (v := .tuple #[.agg #[.int .i64 0, .int .i64 0, .int .i64 0], .bool false]) (by simp [results, Try.results61, go_sem]) rfl ⟨rfl, ((Below.refl _ _).alloc (Nat.le_refl _) _).alloc (by simp) _⟩
  exact main _ _ _ _ rfl rfl rfl rfl

end Go.Proofs.Ytihmifdadikhaaa

/- The walks of the specification of vec. -/
set_option linter.unusedVariables false
set_option linter.unusedSimpArgs false
namespace Go.Proofs.Ytihmifdadikhaaa
open Go.RowKit

theorem vr_crd (n : Int) (n1 : -9223372036854775808 ≤ n) (n2 : n ≤ 9223372036854775807) (w : World) :
    Calls Try.prog 83 #[.int .i64 n, .int .i64 1048576] w fun e w' => e = .returned (.bool (crd n)) ∧ w = w' := by
  have main : ∀ b, crd n = b → Calls Try.prog 83 #[.int .i64 n, .int .i64 1048576] w fun e w' => e = .returned (.bool b) ∧ w = w' := by
    intro b hb
    unfold crd at hb
    by_cases h1 : -1048576 ≤ n
    · by_cases h2 : n ≤ 1048576
      · obtain rfl : b = true := by rw [← hb]; simp [h1, h2]
        clear hb
        go_enter Try.func83, Try.ntmps83
        go_wp2
        go_ret
        exact ⟨rfl, rfl⟩
      · obtain rfl : b = false := by rw [← hb]; simp [h2]
        clear hb
        have h3 : 1048577 ≤ n := by omega
        go_enter Try.func83, Try.ntmps83
        go_wp2
        go_ret
        exact ⟨rfl, rfl⟩
    · obtain rfl : b = false := by rw [← hb]; simp [h1]
      clear hb
      go_enter Try.func83, Try.ntmps83
      go_wp2
      go_ret
      exact ⟨rfl, rfl⟩
  exact main _ rfl

theorem vr_within (x y z : Int) (x1 : -9223372036854775808 ≤ x) (x2 : x ≤ 9223372036854775807) (y1 : -9223372036854775808 ≤ y) (y2 : y ≤ 9223372036854775807) (z1 : -9223372036854775808 ≤ z) (z2 : z ≤ 9223372036854775807) (w : World) :
    Calls Try.prog 48 #[.agg #[.int .i64 x, .int .i64 y, .int .i64 z]] w fun e w' => e = .returned (.bool (wth x y z)) ∧ Qw w w' := by
  have cx := fun w => vr_crd x x1 x2 w
  have cy := fun w => vr_crd y y1 y2 w
  have cz := fun w => vr_crd z z1 z2 w
  unfold wth
  generalize crd x = bx at *
  generalize crd y = b_y at *
  generalize crd z = bz at *
  cases bx
  · have Cx := Lib.hid cx; have Cy := Lib.hid cy; have Cz := Lib.hid cz
    clear cx cy cz
    go_enter Try.func48, Try.ntmps48
    go_wp2_with (first | (go_at_call 83; ((with_reducible refine (Cx.out _).mono ?_); rintro e w' ⟨rfl, rfl⟩)) | (go_at_call 83; ((with_reducible refine (Cy.out _).mono ?_); rintro e w' ⟨rfl, rfl⟩)) | (go_at_call 83; ((with_reducible refine (Cz.out _).mono ?_); rintro e w' ⟨rfl, rfl⟩)))
    go_ret
    exact ⟨rfl, (Below.refl _ _).alloc (Nat.le_refl _) _⟩
  cases b_y
  · have Cx := Lib.hid cx; have Cy := Lib.hid cy; have Cz := Lib.hid cz
    clear cx cy cz
    go_enter Try.func48, Try.ntmps48
    go_wp2_with (first | (go_at_call 83; ((with_reducible refine (Cx.out _).mono ?_); rintro e w' ⟨rfl, rfl⟩)) | (go_at_call 83; ((with_reducible refine (Cy.out _).mono ?_); rintro e w' ⟨rfl, rfl⟩)) | (go_at_call 83; ((with_reducible refine (Cz.out _).mono ?_); rintro e w' ⟨rfl, rfl⟩)))
    go_ret
    exact ⟨rfl, (Below.refl _ _).alloc (Nat.le_refl _) _⟩
  cases bz
  · have Cx := Lib.hid cx; have Cy := Lib.hid cy; have Cz := Lib.hid cz
    clear cx cy cz
    go_enter Try.func48, Try.ntmps48
    go_wp2_with (first | (go_at_call 83; ((with_reducible refine (Cx.out _).mono ?_); rintro e w' ⟨rfl, rfl⟩)) | (go_at_call 83; ((with_reducible refine (Cy.out _).mono ?_); rintro e w' ⟨rfl, rfl⟩)) | (go_at_call 83; ((with_reducible refine (Cz.out _).mono ?_); rintro e w' ⟨rfl, rfl⟩)))
    go_ret
    exact ⟨rfl, (Below.refl _ _).alloc (Nat.le_refl _) _⟩
  · have Cx := Lib.hid cx; have Cy := Lib.hid cy; have Cz := Lib.hid cz
    clear cx cy cz
    go_enter Try.func48, Try.ntmps48
    go_wp2_with (first | (go_at_call 83; ((with_reducible refine (Cx.out _).mono ?_); rintro e w' ⟨rfl, rfl⟩)) | (go_at_call 83; ((with_reducible refine (Cy.out _).mono ?_); rintro e w' ⟨rfl, rfl⟩)) | (go_at_call 83; ((with_reducible refine (Cz.out _).mono ?_); rintro e w' ⟨rfl, rfl⟩)))
    go_ret
    exact ⟨rfl, (Below.refl _ _).alloc (Nat.le_refl _) _⟩

theorem vr_add (x y z a b c : Int) (x1 : -4194304 ≤ x) (x2 : x ≤ 4194304) (y1 : -4194304 ≤ y) (y2 : y ≤ 4194304) (z1 : -4194304 ≤ z) (z2 : z ≤ 4194304) (a1 : -4194304 ≤ a) (a2 : a ≤ 4194304) (b1 : -4194304 ≤ b) (b2 : b ≤ 4194304) (c1 : -4194304 ≤ c) (c2 : c ≤ 4194304) (w : World) :
    Calls Try.prog 50 #[.agg #[.int .i64 x, .int .i64 y, .int .i64 z], .agg #[.int .i64 a, .int .i64 b, .int .i64 c]] w fun e w' => e = .returned (.agg #[.int .i64 (x + a), .int .i64 (y + b), .int .i64 (z + c)]) ∧ Qw w w' := by
  go_enter Try.func50, Try.ntmps50
  go_wp2
  exact bodyPost_ret (v := .agg #[.int .i64 (x + a), .int .i64 (y + b), .int .i64 (z + c)]) (by simp [results, Try.results50, go_sem]) rfl ⟨rfl, (((Below.refl _ _).alloc (Nat.le_refl _) _).alloc (by simp) _).alloc (by simp; omega) _⟩

theorem vr_sub (x y z a b c : Int) (x1 : -4194304 ≤ x) (x2 : x ≤ 4194304) (y1 : -4194304 ≤ y) (y2 : y ≤ 4194304) (z1 : -4194304 ≤ z) (z2 : z ≤ 4194304) (a1 : -4194304 ≤ a) (a2 : a ≤ 4194304) (b1 : -4194304 ≤ b) (b2 : b ≤ 4194304) (c1 : -4194304 ≤ c) (c2 : c ≤ 4194304) (w : World) :
    Calls Try.prog 77 #[.agg #[.int .i64 x, .int .i64 y, .int .i64 z], .agg #[.int .i64 a, .int .i64 b, .int .i64 c]] w fun e w' => e = .returned (.agg #[.int .i64 (x - a), .int .i64 (y - b), .int .i64 (z - c)]) ∧ Qw w w' := by
  go_enter Try.func77, Try.ntmps77
  go_wp2
  exact bodyPost_ret (v := .agg #[.int .i64 (x - a), .int .i64 (y - b), .int .i64 (z - c)]) (by simp [results, Try.results77, go_sem]) rfl ⟨rfl, (((Below.refl _ _).alloc (Nat.le_refl _) _).alloc (by simp) _).alloc (by simp; omega) _⟩

theorem vr_dot (x y z a b c : Int) (x1 : -4194304 ≤ x) (x2 : x ≤ 4194304) (y1 : -4194304 ≤ y) (y2 : y ≤ 4194304) (z1 : -4194304 ≤ z) (z2 : z ≤ 4194304) (a1 : -4194304 ≤ a) (a2 : a ≤ 4194304) (b1 : -4194304 ≤ b) (b2 : b ≤ 4194304) (c1 : -4194304 ≤ c) (c2 : c ≤ 4194304) (w : World) :
    Calls Try.prog 81 #[.agg #[.int .i64 x, .int .i64 y, .int .i64 z], .agg #[.int .i64 a, .int .i64 b, .int .i64 c]] w fun e w' => e = .returned (.int .i64 (x * a + y * b + z * c)) ∧ Qw w w' := by
  obtain ⟨p1, p2⟩ := vsq_bd x1 x2 a1 a2
  obtain ⟨p3, p4⟩ := vsq_bd y1 y2 b1 b2
  obtain ⟨p5, p6⟩ := vsq_bd z1 z2 c1 c2
  go_enter Try.func81, Try.ntmps81
  go_wp2
  go_ret
  exact ⟨rfl, ((Below.refl _ _).alloc (Nat.le_refl _) _).alloc (by simp) _⟩

theorem vr_length (x y z m : Int) (x1 : -4194304 ≤ x) (x2 : x ≤ 4194304) (y1 : -4194304 ≤ y) (y2 : y ≤ 4194304) (z1 : -4194304 ≤ z) (z2 : z ≤ 4194304) (m1 : -9223372036854775808 ≤ m) (m2 : m ≤ 9223372036854775807) (w : World) :
    Calls Try.prog 42 #[.agg #[.int .i64 x, .int .i64 y, .int .i64 z], .int .i64 m] w fun e w' => e = .returned (.tuple #[.int .i64 (rtv (x * x + y * y + z * z) 1 m), .bool (rtok (x * x + y * y + z * z) 1 m)]) ∧ Qw w w' := by
  obtain ⟨p1, p2⟩ := vsq_bd x1 x2 x1 x2
  obtain ⟨p3, p4⟩ := vsq_bd y1 y2 y1 y2
  obtain ⟨p5, p6⟩ := vsq_bd z1 z2 z1 z2
  have q0 := ((Below.refl w.heap.size w).alloc (Nat.le_refl _) (.cells #[.int .i64 x, .int .i64 y, .int .i64 z] 23))
  have d1 := fun w => vr_dot x y z x y z x1 x2 y1 y2 z1 z2 x1 x2 y1 y2 z1 z2 w
  have d2 := fun w => refSqrtW (x * x + y * y + z * z) m (by omega) (by omega) w
  generalize x * x + y * y + z * z = D at *
  generalize rtv D 1 m = R at *
  generalize rtok D 1 m = K at *
  have D1 := Lib.hid d1; have D2 := Lib.hid d2; have Q0 := Lib.hid q0
  clear d1 d2 p1 p2 p3 p4 p5 p6 q0
  go_enter Try.func42, Try.ntmps42
  go_wp2_with fail
  refine (D1.out _).mono ?_
  rintro e w1 ⟨rfl, h1⟩
  go_wp2_with fail
  refine (D2.out _).mono ?_
  rintro e w2 ⟨rfl, h2⟩
  go_wp2_with fail
  go_ret2
  exact ⟨rfl, Q0.out.trans ((Below.mono h1 (by simp)).trans (Below.mono h2 (Nat.le_trans (by simp) h1.size)))⟩

theorem vr_cross (u v a b : Int) (u1 : -4194304 ≤ u) (u2 : u ≤ 4194304) (v1 : -4194304 ≤ v) (v2 : v ≤ 4194304) (a1 : -4194304 ≤ a) (a2 : a ≤ 4194304) (b1 : -4194304 ≤ b) (b2 : b ≤ 4194304) (w : World) :
    Calls Try.prog 40 #[.agg #[.int .i64 u, .int .i64 v], .agg #[.int .i64 a, .int .i64 b]] w fun e w' => e = .returned (.int .i64 (u * b - v * a)) ∧ Qw w w' := by
  obtain ⟨p1, p2⟩ := vsq_bd u1 u2 b1 b2
  obtain ⟨p3, p4⟩ := vsq_bd v1 v2 a1 a2
  go_enter Try.func40, Try.ntmps40
  go_wp2
  go_ret
  exact ⟨rfl, ((Below.refl _ _).alloc (Nat.le_refl _) _).alloc (by simp) _⟩

theorem vr_inner (u v a b : Int) (u1 : -4194304 ≤ u) (u2 : u ≤ 4194304) (v1 : -4194304 ≤ v) (v2 : v ≤ 4194304) (a1 : -4194304 ≤ a) (a2 : a ≤ 4194304) (b1 : -4194304 ≤ b) (b2 : b ≤ 4194304) (w : World) :
    Calls Try.prog 39 #[.agg #[.int .i64 u, .int .i64 v], .agg #[.int .i64 a, .int .i64 b]] w fun e w' => e = .returned (.int .i64 (u * a + v * b)) ∧ Qw w w' := by
  obtain ⟨p1, p2⟩ := vsq_bd u1 u2 a1 a2
  obtain ⟨p3, p4⟩ := vsq_bd v1 v2 b1 b2
  go_enter Try.func39, Try.ntmps39
  go_wp2
  go_ret
  exact ⟨rfl, ((Below.refl _ _).alloc (Nat.le_refl _) _).alloc (by simp) _⟩

end Go.Proofs.Ytihmifdadikhaaa

/- The walks of Flat and Solid of the specification of vec. -/
set_option linter.unusedVariables false
set_option linter.unusedSimpArgs false
namespace Go.Proofs.Ytihmifdadikhaaa
open Go.RowKit

theorem vr_flat (p x y z : Int) (p1 : -9223372036854775808 ≤ p) (p2 : p ≤ 9223372036854775807) (w : World) :
    Calls Try.prog 52 #[.int .i64 p, .agg #[.int .i64 x, .int .i64 y, .int .i64 z]] w fun e w' => e = .returned (.tuple #[.agg #[.int .i64 (fu p x y z), .int .i64 (fw p x y z)], .int .i64 (fh p x y z), .bool (pin p)]) ∧ Qw w w' := by
  have main : ∀ u v h b, fu p x y z = u → fw p x y z = v → fh p x y z = h → pin p = b → Calls Try.prog 52 #[.int .i64 p, .agg #[.int .i64 x, .int .i64 y, .int .i64 z]] w fun e w' => e = .returned (.tuple #[.agg #[.int .i64 u, .int .i64 v], .int .i64 h, .bool b]) ∧ Qw w w' := by
    intro u v h b e1 e2 e3 e4
    unfold fu at e1; unfold fw at e2; unfold fh at e3; unfold pin at e4
    by_cases n1 : p = 17
    · subst n1
      obtain rfl : x = u := by simpa using e1
      obtain rfl : y = v := by simpa using e2
      obtain rfl : z = h := by simpa using e3
      obtain rfl : true = b := by simpa using e4
      clear e1 e2 e3 e4
      go_enter Try.func52, Try.ntmps52
      go_wp2
      go_region
      all_goals (go_wp2; exact bodyPost_ret (v := .tuple #[.agg #[.int .i64 x, .int .i64 y], .int .i64 z, .bool true]) (by simp [results, Try.results52, go_sem]) rfl ⟨rfl, Below.drew (((Below.refl _ _).alloc (Nat.le_refl _) _).alloc (by simp) _)⟩)
    by_cases n2 : p = 18
    · subst n2
      obtain rfl : z = u := by simpa using e1
      obtain rfl : x = v := by simpa using e2
      obtain rfl : y = h := by simpa using e3
      obtain rfl : true = b := by simpa using e4
      clear e1 e2 e3 e4
      go_enter Try.func52, Try.ntmps52
      go_wp2
      go_region
      all_goals (go_wp2; exact bodyPost_ret (v := .tuple #[.agg #[.int .i64 z, .int .i64 x], .int .i64 y, .bool true]) (by simp [results, Try.results52, go_sem]) rfl ⟨rfl, Below.drew (((Below.refl _ _).alloc (Nat.le_refl _) _).alloc (by simp) _)⟩)
    by_cases n3 : p = 19
    · subst n3
      obtain rfl : y = u := by simpa using e1
      obtain rfl : z = v := by simpa using e2
      obtain rfl : x = h := by simpa using e3
      obtain rfl : true = b := by simpa using e4
      clear e1 e2 e3 e4
      go_enter Try.func52, Try.ntmps52
      go_wp2
      go_region
      all_goals (go_wp2; exact bodyPost_ret (v := .tuple #[.agg #[.int .i64 y, .int .i64 z], .int .i64 x, .bool true]) (by simp [results, Try.results52, go_sem]) rfl ⟨rfl, Below.drew (((Below.refl _ _).alloc (Nat.le_refl _) _).alloc (by simp) _)⟩)
    · obtain rfl : 0 = u := by simpa [n1, n2, n3] using e1
      obtain rfl : 0 = v := by simpa [n1, n2, n3] using e2
      obtain rfl : 0 = h := by simpa [n1, n2, n3] using e3
      obtain rfl : false = b := by simpa [n1, n2, n3] using e4
      clear e1 e2 e3 e4
      go_enter Try.func52, Try.ntmps52
      go_wp2
      exact bodyPost_ret (v := .tuple #[.agg #[.int .i64 0, .int .i64 0], .int .i64 0, .bool false]) (by simp [results, Try.results52, go_sem]) rfl ⟨rfl, ((Below.refl _ _).alloc (Nat.le_refl _) _).alloc (by simp) _⟩
  exact main _ _ _ _ rfl rfl rfl rfl

theorem vr_solid (p u v h : Int) (p1 : -9223372036854775808 ≤ p) (p2 : p ≤ 9223372036854775807) (w : World) :
    Calls Try.prog 51 #[.int .i64 p, .agg #[.int .i64 u, .int .i64 v], .int .i64 h] w fun e w' => e = .returned (.tuple #[.agg #[.int .i64 (sx p u v h), .int .i64 (sy p u v h), .int .i64 (sz p u v h)], .bool (pin p)]) ∧ Qw w w' := by
  have main : ∀ x y z b, sx p u v h = x → sy p u v h = y → sz p u v h = z → pin p = b → Calls Try.prog 51 #[.int .i64 p, .agg #[.int .i64 u, .int .i64 v], .int .i64 h] w fun e w' => e = .returned (.tuple #[.agg #[.int .i64 x, .int .i64 y, .int .i64 z], .bool b]) ∧ Qw w w' := by
    intro x y z b e1 e2 e3 e4
    unfold sx at e1; unfold sy at e2; unfold sz at e3; unfold pin at e4
    by_cases n1 : p = 17
    · subst n1
      obtain rfl : u = x := by simpa using e1
      obtain rfl : v = y := by simpa using e2
      obtain rfl : h = z := by simpa using e3
      obtain rfl : true = b := by simpa using e4
      clear e1 e2 e3 e4
      go_enter Try.func51, Try.ntmps51
      go_wp2
      exact bodyPost_ret (v := .tuple #[.agg #[.int .i64 u, .int .i64 v, .int .i64 h], .bool true]) (by simp [results, Try.results51, go_sem]) rfl ⟨rfl, ((Below.refl _ _).alloc (Nat.le_refl _) _).alloc (by simp) _⟩
    by_cases n2 : p = 18
    · subst n2
      obtain rfl : v = x := by simpa using e1
      obtain rfl : h = y := by simpa using e2
      obtain rfl : u = z := by simpa using e3
      obtain rfl : true = b := by simpa using e4
      clear e1 e2 e3 e4
      go_enter Try.func51, Try.ntmps51
      go_wp2
      exact bodyPost_ret (v := .tuple #[.agg #[.int .i64 v, .int .i64 h, .int .i64 u], .bool true]) (by simp [results, Try.results51, go_sem]) rfl ⟨rfl, ((Below.refl _ _).alloc (Nat.le_refl _) _).alloc (by simp) _⟩
    by_cases n3 : p = 19
    · subst n3
      obtain rfl : h = x := by simpa using e1
      obtain rfl : u = y := by simpa using e2
      obtain rfl : v = z := by simpa using e3
      obtain rfl : true = b := by simpa using e4
      clear e1 e2 e3 e4
      go_enter Try.func51, Try.ntmps51
      go_wp2
      exact bodyPost_ret (v := .tuple #[.agg #[.int .i64 h, .int .i64 u, .int .i64 v], .bool true]) (by simp [results, Try.results51, go_sem]) rfl ⟨rfl, ((Below.refl _ _).alloc (Nat.le_refl _) _).alloc (by simp) _⟩
    · obtain rfl : 0 = x := by simpa [n1, n2, n3] using e1
      obtain rfl : 0 = y := by simpa [n1, n2, n3] using e2
      obtain rfl : 0 = z := by simpa [n1, n2, n3] using e3
      obtain rfl : false = b := by simpa [n1, n2, n3] using e4
      clear e1 e2 e3 e4
      go_enter Try.func51, Try.ntmps51
      go_wp2
      exact bodyPost_ret (v := .tuple #[.agg #[.int .i64 0, .int .i64 0, .int .i64 0], .bool false]) (by simp [results, Try.results51, go_sem]) rfl ⟨rfl, ((Below.refl _ _).alloc (Nat.le_refl _) _).alloc (by simp) _⟩
  exact main _ _ _ _ rfl rfl rfl rfl

end Go.Proofs.Ytihmifdadikhaaa
