
/- A region that draws its order and whose guards stand within guards: walked once, in the order of the text. An operation that waits, through others, for the one at hand cannot come up ahead of it. -/
import Derived.Test.YtkfipjlknfinpaaDoorKept
set_option linter.unusedVariables false
namespace Go.Proofs.YtkfipjlknfinpaaDoor
open Go Go.RowKit Go.Sort

section
variable {P : Program} {ops : Array Oper} {C : World → Prop}

/-- j waits for i, through others. -/
inductive Reach (ops : Array Oper) : Nat → Nat → Prop
  | one {j i : Nat} {o : Oper} {e : Edge} : ops[j]? = some o → e ∈ o.after → Region.binds .any e = true → e.on = i → Reach ops j i
  | more {j i : Nat} {o : Oper} {e : Edge} : ops[j]? = some o → e ∈ o.after → Region.binds .any e = true → Reach ops e.on i → Reach ops j i

theorem Reach.done {n j i : Nat} {d : Array Bool} (inv : HeadInv .any ops n d) (r : Reach ops j i) : d.getD j false = true → d.getD i false = true := by
  induction r with
  | one ho he hb hi => intro h; have := inv.closed _ _ ho h _ he hb; rwa [hi] at this
  | more ho he hb _ ih => intro h; exact ih (inv.closed _ _ ho h _ he hb)

theorem ready_not {n j i : Nat} {d : Array Bool} (inv : HeadInv .any ops n d) (hj : j ∈ Region.ready .any ops d) (hi : d.getD i true = false) : ¬ Reach ops j i := by
  intro r
  obtain ⟨_, oj, hoj, hall⟩ := mem_ready.1 hj
  have key : d.getD i false = true := by
    cases r with
    | one ho he hb hi2 =>
      have := Option.some.inj (hoj.symm.trans ho); subst this
      have := hall _ he hb; rwa [hi2] at this
    | more ho he hb r2 =>
      have := Option.some.inj (hoj.symm.trans ho); subst this
      exact r2.done inv (hall _ he hb)
  rw [getD_both hi] at key; cases key

theorem anyQ_take {Q : Act → Prop} {i : Nat} {oi : Oper} {v : Value} (hi : ops[i]? = some oi) (hsel : ∀ (j : Nat) (o : Oper) cs b, ops[j]? = some o → o.op ≠ .select cs b) :
    ∀ (f : Nat) (d : Array Bool) (a : Act), HeadInv .any ops ops.size d →
      (∀ j oj, ops[j]? = some oj → j ≠ i → d.getD j true = false → ¬ Reach ops j i → oi.apart ops oj = true) →
      i ∈ Region.ready .any ops d → YieldsIn P ops C oi v a → wpAnyQ P .any ops C Q f (d.setIfInBounds i true) (a.put oi.dst v) → wpAnyQ P .any ops C Q (f + 1) d a
  | 0, d, a, inv, hfree, hr, hy, H => by
    refine ⟨fun e => absurd hr (by rw [e]; exact List.not_mem_nil), fun j hj => ?_⟩
    rcases Nat.decEq j i with e | e
    · have m := ready_mono hj e
      rw [H.1] at m; exact absurd m List.not_mem_nil
    · rw [e]; exact hy.qOp hi H
  | f + 1, d, a, inv, hfree, hr, hy, H => by
    refine ⟨fun e => absurd hr (by rw [e]; exact List.not_mem_nil), fun j hj => ?_⟩
    rcases Nat.decEq j i with e | e
    · have un := (mem_ready.1 hr).1
      obtain ⟨ju, oj, hoj, _⟩ := mem_ready.1 hj
      have ap := hfree j oj hoj e ju (ready_not inv hj un)
      have later := qOp_put hoj ap (fun cs b => hsel i oi cs b hi) (fun cs b => hsel j oj cs b hoj) hy (H.2 j (ready_mono hj e))
      have hjs : j < ops.size := (Array.getElem?_eq_some_iff.1 hoj).1
      refine qOp_mono (fun a' h3 => anyQ_take hi hsel f (d.setIfInBounds j true) a' (inv.set hj hjs) (fun k ok hk hki hu hno => hfree k ok hk hki ?_ hno) (ready_mono hr (Ne.symm e)) h3.1 ?_) later
      · rcases Nat.decEq j k with x | x
        · rw [getD_set_ne true x] at hu; exact hu
        · rw [← x]; exact ju
      · rw [Array.setIfInBounds_comm _ _ e]; exact h3.2
    · rw [e]; exact hy.qOp hi H

/-! ### the check -/
def reachB (ops : Array Oper) : Nat → Nat → Nat → Bool
  | 0, _, _ => false
  | f + 1, j, i => match ops[j]? with
    | none => false
    | some o => o.after.any fun e => Region.binds .any e && (Nat.beq e.on i || reachB ops f e.on i)
theorem reachB_of : ∀ (f j i : Nat), reachB ops f j i = true → Reach ops j i
  | 0, _, _, h => by cases h
  | f + 1, j, i, h => by
    unfold reachB at h
    cases ho : ops[j]? with
    | none => rw [ho] at h; cases h
    | some o =>
      rw [ho] at h
      obtain ⟨e, he, hb⟩ := Array.any_eq_true'.1 h
      simp only [Bool.and_eq_true, Bool.or_eq_true] at hb
      rcases hb.2 with k | k
      · exact .one ho he hb.1 (Nat.eq_of_beq_eq_true k)
      · exact .more ho he hb.1 (reachB_of f _ _ k)
def pairsB (ops : Array Oper) (o : Oper) (k : Nat) : Nat → List Oper → Bool
  | _, [] => true
  | j, y :: r => (reachB ops 3 j k || o.apart ops y) && pairsB ops o k (j + 1) r
theorem pairsB_at {o : Oper} {k : Nat} : ∀ (l : List Oper) (j : Nat), pairsB ops o k j l = true → ∀ n y, l[n]? = some y → reachB ops 3 (j + n) k = true ∨ o.apart ops y = true
  | [], _, _, n, y, h => by simp at h
  | x :: l, j, hp, n, y, h => by
    unfold pairsB at hp
    obtain ⟨h1, h2⟩ := Bool.and_eq_true_iff.1 hp
    cases n with
    | zero => simp at h; subst h; exact Bool.or_eq_true_iff.1 h1
    | succ n =>
      have := pairsB_at l (j + 1) h2 n y (by simpa using h)
      rwa [show j + 1 + n = j + (n + 1) by omega] at this
def deepFrom (ops : Array Oper) : Nat → List Oper → Bool
  | _, [] => true
  | k, o :: rest => (o.after.all fun e => !Region.binds .any e || Nat.blt e.on k) && (pairsB ops o k (k + 1) rest && deepFrom ops (k + 1) rest)

theorem anyQ_deep {Q : Act → Prop} (hs : Region.noSelect ops = true) : ∀ (l : List Oper) (k : Nat) (d : Array Bool) (a : Act), HeadInv .any ops ops.size d → (∀ j, l[j]? = ops[k + j]?) → k + l.length = ops.size →
    (∀ j, j < k → d.getD j false = true) → (∀ j, k ≤ j → j < ops.size → d.getD j true = false) → deepFrom ops k l = true → wpQuiet P ops C Q l a → wpAnyQ P .any ops C Q l.length d a
  | [], k, d, a, _, _, hk, h1, _, _, h => by
    refine ⟨List.eq_nil_iff_forall_not_mem.2 fun j hj => ?_, h⟩
    obtain ⟨h2, o, ho, _⟩ := mem_ready.1 hj
    have hjl := (Array.getElem?_eq_some_iff.1 ho).1
    have := h1 j (by simp at hk; omega)
    rw [getD_both h2] at this; cases this
  | o :: l, k, d, a, inv, hl, hk, h1, h2, hf, h => by
    have h0 : ops[k]? = some o := by simpa using (hl 0).symm
    unfold deepFrom at hf
    simp only [Bool.and_eq_true] at hf
    obtain ⟨ha, hp, hf⟩ := hf
    simp only [List.length_cons] at hk
    have rd : k ∈ Region.ready .any ops d := mem_ready.2 ⟨h2 k (Nat.le_refl _) (by omega), o, h0, fun e he hb => by
      have := Array.all_eq_true'.1 ha e he
      rw [hb] at this
      exact h1 _ (by simp [Nat.blt] at this; omega)⟩
    have hst : qOp P ops C k (wpQuiet P ops C Q l) a := by unfold qOp; simp only [h0]; exact h
    obtain ⟨v, hy, hK⟩ := yieldsIn_of_qOp h0 hst
    refine anyQ_take h0 (Region.noSelect_spec hs) l.length d a inv (fun j oj hj hne hu hno => ?_) rd hy ?_
    · have hkj : k < j := by
        rcases Nat.lt_or_ge j k with c | c
        · have := h1 j c; rw [getD_both hu] at this; cases this
        · omega
      have hm : l[j - k - 1]? = some oj := by
        have := hl (j - k)
        rwa [show k + (j - k) = j by omega, hj, show j - k = (j - k - 1) + 1 by omega, List.getElem?_cons_succ] at this
      rcases pairsB_at l (k + 1) hp _ _ hm with q | q
      · rw [show k + 1 + (j - k - 1) = j by omega] at q
        exact absurd (reachB_of 3 j k q) hno
      · exact q
    · refine anyQ_deep hs l (k + 1) _ _ (inv.set rd (by omega)) (fun j => by have := hl (j + 1); simpa [Nat.add_assoc, Nat.add_comm 1 j] using this) (by omega) (fun j hj => ?_) (fun j hj hj' => ?_) hf hK
      · rcases Nat.decEq k j with e | e
        · rw [getD_set_ne false e]; exact h1 j (by omega)
        · subst e; simp [inv.size]; omega
      · rw [getD_set_ne true (by omega)]; exact h2 j (by omega) hj'

theorem region_quiet_deep {id : Nat} {Q : Exit → Act → World → Prop} {a : Act} {w : World} {l : List Oper} (hm : P.follows .mixedOrders = true) (hB : (Region.noSelect l.toArray && deepFrom l.toArray 0 l) = true) (hC : C w.drew)
    (h : wpQuiet P l.toArray C (fun a' => ∀ w', C w' → Q .normal a' w') l a) : (Code.region id l.toArray true).wp P Q a w := by
  simp only [Bool.and_eq_true] at hB
  refine wp_region_any hm (wpAny_of_quiet (Q := fun a' => ∀ w', C w' → Q .normal a' w') (fun _ w' hw' h => h w' hw') _ _ _ _ hC ?_)
  have inv0 : HeadInv .any l.toArray l.toArray.size (Array.replicate l.toArray.size false) :=
    ⟨by simp, fun j oj _ hl => (by rw [getD_replicate_false] at hl; cases hl), fun t ht h => by omega⟩
  have := anyQ_deep (P := P) (C := C) hB.1 l 0 (Array.replicate l.toArray.size false) a inv0 (by simp) (by simp) (fun j hj => absurd hj (by omega)) (fun j _ hj => getD_in (by simpa using hj) (getD_replicate_false _ _)) hB.2 h
  simpa using this

/-- A region whose operations only read, whatever its guards. -/
theorem region_deep {id : Nat} {Q : Exit → Act → World → Prop} {a : Act} {w : World} {l : List Oper} (hm : P.follows .mixedOrders = true) (hB : (Region.noSelect l.toArray && deepFrom l.toArray 0 l) = true)
    (h : wpQuiet P l.toArray (fun w' => ∃ n, w' = w.drewN n) (fun a' => ∀ w', (∃ n, w' = w.drewN n) → Q .normal a' w') l a) : (Code.region id l.toArray true).wp P Q a w :=
  region_quiet_deep hm hB ⟨1, rfl⟩ h
end
end Go.Proofs.YtkfipjlknfinpaaDoor
