
/- A region that draws its order, whose first operations leave the world in a class (calls among them, which may make memory),
   and whose last ones come in one order: walked once, in the order of the text. -/
import Derived.Lib.QuietBelow
import Derived.StillTailTactics
import Derived.BigQuiet
set_option linter.unusedVariables false
namespace Go.Proofs.Ytijakijjeoaikaa
open Go Go.RowKit Go.Sort

section
variable {P : Program} {ops : Array Oper} {C : World → Prop}

/-- The head's operations, in any order; behind them L. -/
def headQ (P : Program) (ops : Array Oper) (C : World → Prop) (n : Nat) (L : Array Bool → Act → Prop) : Nat → Array Bool → Act → Prop
  | 0, done, a => L done a
  | f + 1, done, a => Region.ready .any ops done ≠ [] ∧ ∀ i ∈ Region.ready .any ops done, i < n ∧ qOp P ops C i (headQ P ops C n L f (done.setIfInBounds i true)) a

theorem any_of_headQ {n g : Nat} {L : Array Bool → Act → Prop} {Q : Exit → Act → World → Prop} (hL : ∀ done a w, C w → L done a → wpAny P .any ops Q g done a w) :
    ∀ (f : Nat) (done : Array Bool) (a : Act) (w : World), C w → headQ P ops C n L f done a → wpAny P .any ops Q (f + g) done a w
  | 0, _, _, _, hC, h => by rw [Nat.zero_add]; exact hL _ _ _ hC h
  | f + 1, _, _, _, hC, h => by
    rw [show f + 1 + g = (f + g) + 1 by omega]
    exact ⟨fun e => absurd e h.1, fun i hi => wpOp_of_qOp hC (fun _ _ hC' h' => any_of_headQ hL f _ _ _ hC' h') (h.2 i hi).2⟩

theorem headQ_first {n i : Nat} {oi : Oper} {v : Value} {L : Array Bool → Act → Prop} (hi : ops[i]? = some oi) (hsel : ∀ (j : Nat) (o : Oper) cs b, ops[j]? = some o → o.op ≠ .select cs b)
    (hT : ∀ done, HeadInv .any ops n done → ∀ i, i < n → done.getD i true = false → ∀ t, n ≤ t → t ∉ Region.ready .any ops done) (hin : i < n) (hL : ∀ done a, L done a → ∀ j ∈ Region.ready .any ops done, n ≤ j) :
    ∀ (f : Nat) (done : Array Bool) (a : Act), HeadInv .any ops n done →
      (∀ j oj, ops[j]? = some oj → j ≠ i → done.getD j true = false → (∀ e ∈ oj.after, Region.binds .any e = true → e.on ≠ i) → oi.apart ops oj = true) →
      i ∈ Region.ready .any ops done → YieldsIn P ops C oi v a → headQ P ops C n L f (done.setIfInBounds i true) (a.put oi.dst v) → headQ P ops C n L (f + 1) done a := by
  intro f
  induction f with
  | zero =>
    intro done a inv _ hr hy H
    have hun := (mem_ready.1 hr).1
    refine ⟨fun e => (by rw [e] at hr; cases hr), fun j hj => ?_⟩
    have hjn : j < n := (Nat.lt_or_ge j n).resolve_right fun h => hT done inv i hin hun j h hj
    refine ⟨hjn, ?_⟩
    by_cases e : j = i
    · subst e; exact hy.qOp hi H
    · exact absurd (hL _ _ H j (ready_mono hj e)) (by omega)
  | succ f ih =>
    intro done a inv hfree hr hy H
    have hun := (mem_ready.1 hr).1
    refine ⟨fun e => (by rw [e] at hr; cases hr), fun j hj => ?_⟩
    have hjn : j < n := (Nat.lt_or_ge j n).resolve_right fun h => hT done inv i hin hun j h hj
    refine ⟨hjn, ?_⟩
    by_cases e : j = i
    · subst e; exact hy.qOp hi H
    · obtain ⟨hju, oj, hoj, hall⟩ := mem_ready.1 hj
      have hnot : ∀ e ∈ oj.after, Region.binds .any e = true → e.on ≠ i := fun x hx hb heq => by
        have h1 := hall x hx hb
        rw [heq, getD_both hun] at h1
        cases h1
      have hap := hfree j oj hoj e hju hnot
      have h2 := qOp_put hoj hap (fun cs b => hsel i oi cs b hi) (fun cs b => hsel j oj cs b hoj) hy (H.2 j (ready_mono hj e)).2
      refine qOp_mono (fun a' h3 => ih (done.setIfInBounds j true) a' (inv.set hj hjn) (fun k ok hk hki hu hno => hfree k ok hk hki ?_ hno) (ready_mono hr (Ne.symm e)) h3.1 ?_) h2
      · by_cases x : j = k
        · subst x; exact hju
        · rw [getD_set_ne true x] at hu; exact hu
      · rw [Array.setIfInBounds_comm _ _ e]; exact h3.2

/-- The flags behind the first operations. -/
def doneAt : Nat → Nat → Array Bool → Array Bool
  | 0, _, d => d
  | f + 1, k, d => doneAt f (k + 1) (d.setIfInBounds k true)
/-- The first operations may come in the order of the text. -/
def lexOk (ops : Array Oper) (n : Nat) : Nat → Nat → Array Bool → Bool
  | 0, _, d => (Region.ready .any ops d).all fun j => decide (n ≤ j)
  | f + 1, k, d => (Region.ready .any ops d).contains k && Region.free .any ops d k && lexOk ops n f (k + 1) (d.setIfInBounds k true)

theorem headQ_lex {n : Nat} {Lq : Act → Prop} (hsel : Region.noSelect ops = true) (hT : ∀ done, HeadInv .any ops n done → ∀ i, i < n → done.getD i true = false → ∀ t, n ≤ t → t ∉ Region.ready .any ops done) :
    ∀ (l : List Oper) (k : Nat) (done : Array Bool) (a : Act), (∀ j, j < l.length → l[j]? = ops[k + j]?) → k + l.length = n → HeadInv .any ops n done →
    lexOk ops n l.length k done = true → wpQuiet P ops C Lq l a → headQ P ops C n (fun d a' => d = doneAt l.length k done ∧ Lq a') l.length done a
  | [], k, done, a, _, hk, _, hB, h => ⟨rfl, h⟩
  | o :: l, k, done, a, hl, hk, inv, hB, h => by
    have h0 : ops[k]? = some o := by simpa using (hl 0 (by simp)).symm
    simp only [List.length_cons, lexOk, Bool.and_eq_true] at hB hk
    obtain ⟨⟨hr, hf⟩, hB'⟩ := hB
    have hr' : k ∈ Region.ready .any ops done := by simpa using hr
    have hst : qOp P ops C k (wpQuiet P ops C Lq l) a := by unfold qOp; simp only [h0]; exact h
    obtain ⟨v, hy, hK⟩ := yieldsIn_of_qOp h0 hst
    have fin : ∀ (l : List Oper) (k : Nat) (d : Array Bool), lexOk ops n l.length k d = true → ∀ j ∈ Region.ready .any ops (doneAt l.length k d), n ≤ j := by
      intro l
      induction l with
      | nil => intro k d hd j hj; simpa using List.all_eq_true.1 hd j hj
      | cons x l ih => intro k d hd; simp only [List.length_cons, lexOk, Bool.and_eq_true] at hd; exact ih _ _ hd.2
    exact headQ_first (L := fun d a' => d = doneAt l.length (k + 1) (done.setIfInBounds k true) ∧ Lq a') h0 (Region.noSelect_spec hsel) hT (by omega) (fun d a' hd => hd.1 ▸ fin l (k + 1) _ hB') l.length done a inv (Region.free_spec h0 hf) hr' hy
      (headQ_lex hsel hT l (k + 1) _ _ (fun j hj => by have := hl (j + 1) (by simp; omega); simpa [Nat.add_assoc, Nat.add_comm 1 j] using this) (by omega) (inv.set hr' (by omega)) hB' hK)

/-- Each operation behind the head waits for the head's last one, or for one that does. -/
def restB (ops : Array Oper) (n : Nat) : Bool := (List.range ops.size).all fun t => decide (t < n) || (List.range t).any fun j => decide (n ≤ j + 1) && Region.waitsFor .any ops t j
theorem rest_waits {n : Nat} (n0 : 0 < n) (hs : Region.sinkB .any ops (n - 1) = true) (hr : restB ops n = true) (done : Array Bool) (inv : HeadInv .any ops n done) (i : Nat) (hi : i < n) (hun : done.getD i true = false) (t : Nat) (ht : n ≤ t) : t ∉ Region.ready .any ops done := by
  intro hin
  obtain ⟨_, ot, hot, hall⟩ := mem_ready.1 hin
  have htl : t < ops.size := (Array.getElem?_eq_some_iff.1 hot).1
  have h1 := List.all_eq_true.1 hr t (List.mem_range.2 htl)
  simp only [Bool.or_eq_true, decide_eq_true_eq] at h1
  have last : done.getD (n - 1) false = true := by
    rcases h1 with h1 | h1
    · omega
    · obtain ⟨j, hj, hj2⟩ := List.any_eq_true.1 h1
      simp only [Bool.and_eq_true, decide_eq_true_eq] at hj2
      obtain ⟨o', ho', e, he, hb, hon⟩ := Region.waitsFor_spec hj2.2
      obtain rfl : o' = ot := Option.some.inj (ho'.symm.trans hot)
      have h2 := hall e he hb
      rw [hon] at h2
      rcases Nat.lt_or_ge j n with c | c
      · rw [show n - 1 = j by omega]; exact h2
      · have := getD_both (inv.tail j c (by have := List.mem_range.1 hj; omega))
        rw [this] at h2; cases h2
  have all : ∀ d i, n - 1 - i = d → i ≤ n - 1 → done.getD i false = true := by
    intro d
    induction d using Nat.strongRecOn with
    | _ d ih =>
      intro i hd hi
      by_cases e : i = n - 1
      · rw [e]; exact last
      · obtain ⟨j, hj, hj2⟩ := List.any_eq_true.1 (List.all_eq_true.1 hs i (List.mem_range.2 (by omega)))
        simp only [Bool.and_eq_true, decide_eq_true_eq] at hj2
        have := List.mem_range.1 hj
        obtain ⟨oj, hoj, x, hx, hb, hon⟩ := Region.waitsFor_spec hj2.2
        have := inv.closed j oj hoj (ih (n - 1 - j) (by omega) j rfl (by omega)) x hx hb
        rw [hon] at this; exact this
  have := all _ i rfl (by omega)
  rw [getD_both hun] at this; cases this

/-- The head quiet in the class; what comes behind it in whatever order. -/
theorem region_quiet_rest {id : Nat} {Q : Exit → Act → World → Prop} {a : Act} {w : World} {l : List Oper} (n : Nat) (hm : P.follows .mixedOrders = true)
    (hB : (Region.noSelect l.toArray && decide (0 < n) && decide (n ≤ l.length) && Region.sinkB .any l.toArray (n - 1) && restB l.toArray n && lexOk l.toArray n n 0 (Array.replicate l.length false)) = true) (hC : C w.drew)
    (h : wpQuiet P l.toArray C (fun a' => ∀ w', C w' → wpAny P .any l.toArray Q (l.length - n) (doneAt n 0 (Array.replicate l.length false)) a' w') (l.take n) a) : (Code.region id l.toArray true).wp P Q a w := by
  simp only [Bool.and_eq_true, decide_eq_true_eq] at hB
  obtain ⟨⟨⟨⟨⟨hsel, n0⟩, hn⟩, hs⟩, hr⟩, hlex⟩ := hB
  have ht : (l.take n).length = n := by simp; omega
  have inv0 : HeadInv .any l.toArray n (Array.replicate l.length false) :=
    ⟨by simp, fun j oj _ hl => (by rw [getD_replicate_false] at hl; cases hl), fun t _ ht => getD_in (by simpa using ht) (getD_replicate_false _ _)⟩
  have H := headQ_lex (P := P) (C := C) (n := n) hsel (fun d inv i hi hu t ht => rest_waits n0 hs hr d inv i hi hu t ht) (l.take n) 0 _ a (fun j hj => by
    have hj' : j < n := by rw [ht] at hj; exact hj
    simp [hj']) (by simpa using ht) inv0 (by rw [ht]; exact hlex) h
  refine wp_region_any hm ?_
  have := any_of_headQ (Q := Q) (g := l.length - n) (fun done a' w' hC' hL => by
    rw [hL.1, ht]; exact hL.2 w' hC') _ _ _ _ hC H
  rw [ht, show n + (l.length - n) = l.length by omega] at this
  simpa using this

/-- A number that is only reckoned may be reckoned first; then one after the other. -/
theorem any_one {l : List Oper} {Q : Exit → Act → World → Prop} {a : Act} {w : World} {o : Oper} {v : Value} {d : Array Bool} (n : Nat) (ho : l[n]? = some o)
    (hB : (Region.noSelect l.toArray && decide (n < l.length) && Region.free .any l.toArray d n && (Region.ready .any l.toArray d).contains n && Region.seqB .any l.toArray (l.length - (n + 1)) (n + 1) (d.setIfInBounds n true)) = true)
    (hQ : ∀ c a w, Q (.panic c) (a.put o.dst v) w → Q (.panic c) a w) (hw : Region.wanted o (yielded l.toArray a.tmps) = true) (hv : ∀ w, (execOp a.eval o).run P w = .ok (.value v) w)
    (h : wpList P l.toArray Q (l.drop (n + 1)) (a.put o.dst v) w) : wpAny P .any l.toArray Q (l.length - n) d a w := by
  simp only [Bool.and_eq_true, decide_eq_true_eq] at hB
  obtain ⟨⟨⟨⟨hsel, hn⟩, hf⟩, hr⟩, hseq⟩ := hB
  rw [show l.length - n = (l.length - (n + 1)) + 1 by omega]
  refine wpAny_take (i := n) (oi := o) (by simpa using ho) hsel hf hr hQ (.inl ⟨hw, hv⟩) ?_
  have hd : (l.drop (n + 1)).length = l.length - (n + 1) := by simp
  have := wpAny_of_seq (md := .any) (Q' := Q) (ops := l.toArray) (P := P) (l.drop (n + 1)) (n + 1) (d.setIfInBounds n true) (a.put o.dst v) w (fun j => by simp [List.getElem?_drop]) (by rw [hd]; exact hseq) h
  rwa [hd] at this

/-- The head quiet in the class, then the rest, one after the other. -/
theorem region_quiet_tail {id : Nat} {Q : Exit → Act → World → Prop} {a : Act} {w : World} {l : List Oper} (n : Nat) (hm : P.follows .mixedOrders = true)
    (hB : (Region.noSelect l.toArray && decide (0 < n) && decide (n ≤ l.length) && Region.sinkB .any l.toArray (n - 1) && restB l.toArray n && lexOk l.toArray n n 0 (Array.replicate l.length false) &&
      Region.seqB .any l.toArray (l.length - n) n (doneAt n 0 (Array.replicate l.length false))) = true) (hC : C w.drew)
    (h : wpQuiet P l.toArray C (fun a' => ∀ w', C w' → wpList P l.toArray Q (l.drop n) a' w') (l.take n) a) : (Code.region id l.toArray true).wp P Q a w := by
  obtain ⟨hB, hseq⟩ := Bool.and_eq_true_iff.1 hB
  refine region_quiet_rest n hm hB hC ?_
  have key : ∀ (K K' : Act → Prop), (∀ a, K a → K' a) → ∀ (m : List Oper) (a : Act), wpQuiet P l.toArray C K m a → wpQuiet P l.toArray C K' m a := by
    intro K K' hK m
    induction m with
    | nil => intro a h; exact hK _ h
    | cons o m ih =>
      intro a h
      unfold wpQuiet at h ⊢
      split
      · rename_i hw; rw [if_pos hw] at h; exact Oper.quiet_mono (fun a' h' => ih a' h') h
      · rename_i hw; rw [if_neg hw] at h; exact ih _ h
  refine key _ _ (fun a' h' w' hC' => ?_) _ _ h
  have hd : (l.drop n).length = l.length - n := by simp
  have := wpAny_of_seq (md := .any) (Q' := Q) (ops := l.toArray) (P := P) (l.drop n) n _ a' w' (fun j => by simp [List.getElem?_drop]) (by rw [hd]; exact hseq) (h' w' hC')
  rwa [hd] at this

/-! ### a long region: the order of the text is one of its orders, by a check that looks at each pair once -/
def fastFrom (ops : Array Oper) : Nat → List Oper → Bool
  | _, [] => true
  | k, o :: rest => (o.after.all fun e => !Region.binds .any e || Nat.blt e.on k) && ((rest.all fun y => (y.after.any fun e => Region.binds .any e && Nat.beq e.on k) || o.apart ops y) && fastFrom ops (k + 1) rest)

theorem anyQ_fast {Q : Act → Prop} (hs : Region.noSelect ops = true) : ∀ (l : List Oper) (k : Nat) (d : Array Bool) (a : Act), (∀ j, l[j]? = ops[k + j]?) → k + l.length = ops.size → d.size = ops.size →
    (∀ j, j < k → d.getD j false = true) → (∀ j, k ≤ j → j < ops.size → d.getD j true = false) → fastFrom ops k l = true → wpQuiet P ops C Q l a → wpAnyQ P .any ops C Q l.length d a
  | [], k, d, a, _, hk, hz, h1, _, _, h => by
    refine ⟨?_, h⟩
    rw [List.eq_nil_iff_forall_not_mem]
    intro j hj
    obtain ⟨h2, o, ho, _⟩ := mem_ready.1 hj
    have hjl := (Array.getElem?_eq_some_iff.1 ho).1
    have := h1 j (by simp at hk; omega)
    rw [getD_both h2] at this; cases this
  | o :: l, k, d, a, hl, hk, hz, h1, h2, hf, h => by
    have h0 : ops[k]? = some o := by simpa using (hl 0).symm
    simp only [fastFrom, Bool.and_eq_true] at hf
    obtain ⟨ha, hp, hf⟩ := hf
    simp only [List.length_cons] at hk
    have hst : qOp P ops C k (wpQuiet P ops C Q l) a := by unfold qOp; simp only [h0]; exact h
    obtain ⟨v, hy, hK⟩ := yieldsIn_of_qOp h0 hst
    refine wpAnyQ_first h0 (Region.noSelect_spec hs) l.length d a (fun j oj hj hne hu hno => ?_) (mem_ready.2 ⟨h2 k (Nat.le_refl _) (by omega), o, h0, fun e he hb => ?_⟩) hy ?_
    · have hjl := (Array.getElem?_eq_some_iff.1 hj).1
      have hkj : k < j := by
        rcases Nat.lt_or_ge j k with c | c
        · have := h1 j c; rw [getD_both hu] at this; cases this
        · omega
      have hm : oj ∈ l := by
        have := hl (j - k)
        rw [show k + (j - k) = j by omega, hj, show j - k = (j - k - 1) + 1 by omega, List.getElem?_cons_succ] at this
        exact List.mem_of_getElem? this
      have hq := List.all_eq_true.1 hp oj hm
      rcases Bool.or_eq_true_iff.1 hq with hq | hq
      · obtain ⟨e, he, hb⟩ := Array.any_eq_true'.1 hq
        simp only [Bool.and_eq_true] at hb
        exact absurd (Nat.eq_of_beq_eq_true hb.2) (hno e he hb.1)
      · exact hq
    · have := Array.all_eq_true'.1 ha e he
      rw [hb] at this
      have hlt : e.on < k := by simp [Nat.blt] at this; omega
      exact h1 _ hlt
    · refine anyQ_fast hs l (k + 1) _ _ (fun j => by have := hl (j + 1); simpa [Nat.add_assoc, Nat.add_comm 1 j] using this) (by omega) (by simp [hz]) (fun j hj => ?_) (fun j hj hj' => ?_) hf hK
      · by_cases e : k = j
        · subst e; simp [hz]; omega
        · rw [getD_set_ne false e]; exact h1 j (by omega)
      · rw [getD_set_ne true (by omega)]; exact h2 j (by omega) hj'

theorem region_quiet_fast {id : Nat} {Q : Exit → Act → World → Prop} {a : Act} {w : World} {l : List Oper} (hm : P.follows .mixedOrders = true) (hB : (Region.noSelect l.toArray && fastFrom l.toArray 0 l) = true) (hC : C w.drew)
    (h : wpQuiet P l.toArray C (fun a' => ∀ w', C w' → Q .normal a' w') l a) : (Code.region id l.toArray true).wp P Q a w := by
  simp only [Bool.and_eq_true] at hB
  refine wp_region_any hm (wpAny_of_quiet (Q := fun a' => ∀ w', C w' → Q .normal a' w') (fun _ w' hw' h => h w' hw') _ _ _ _ hC ?_)
  have := anyQ_fast (P := P) (C := C) hB.1 l 0 (Array.replicate l.toArray.size false) a (by simp) (by simp) (by simp) (fun j hj => absurd hj (by omega)) (fun j _ hj => getD_in (by simpa using hj) (getD_replicate_false _ _)) hB.2 h
  simpa using this
end
end Go.Proofs.Ytijakijjeoaikaa
