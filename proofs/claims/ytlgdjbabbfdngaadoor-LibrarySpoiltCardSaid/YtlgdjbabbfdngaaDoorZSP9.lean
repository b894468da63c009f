import Derived.Test.YtlgdjbabbfdngaaDoorZSP0
import Derived.Test.YtlgdjbabbfdngaaDoorZSP1
set_option linter.unusedVariables false
namespace Go.Proofs.YtlgdjbabbfdngaaDoor
open Go Go.RowKit Go.Sort
section
variable {P : Program} {ops : Array Oper} {C : World → Prop}
inductive Reach (ops : Array Oper) : Nat → Nat → Prop
  | one {j i : Nat} {o : Oper} {e : Edge} : ops[j]? = some o → e ∈ o.after → Region.binds .any e = true → e.on = i → Reach ops j i
  | more {j i : Nat} {o : Oper} {e : Edge} : ops[j]? = some o → e ∈ o.after → Region.binds .any e = true → Reach ops e.on i → Reach ops j i
theorem Reach.done {n j i : Nat} {d : Array Bool} (inv : HeadInv .any ops n d) (r : Reach ops j i) : d.getD j false = true → d.getD i false = true := by
  induction r with
  | one ho he hb hi => intro h; have := inv.closed _ _ ho h _ he hb; rwa [hi] at this
  | more ho he hb _ ih => intro h; exact ih (inv.closed _ _ ho h _ he hb)
theorem ready_not {n j i : Nat} {d : Array Bool} (inv : HeadInv .any ops n d) (hj : j ∈ Region.ready .any ops d) (hi : d.getD i true = false) : ¬ Reach ops j i := by
  intro r
  obtain ⟨_, oj, hoj, hall⟩ := mem_ready.1 hj
  have key : d.getD i false = true := by
    cases r with
    | one ho he hb hi2 =>
      have := Option.some.inj (hoj.symm.trans ho); subst this
      have := hall _ he hb; rwa [hi2] at this
    | more ho he hb r2 =>
      have := Option.some.inj (hoj.symm.trans ho); subst this
      exact r2.done inv (hall _ he hb)
  rw [getD_both hi] at key; cases key
theorem anyQ_take {Q : Act → Prop} {i : Nat} {oi : Oper} {v : Value} (hi : ops[i]? = some oi) (hsel : ∀ (j : Nat) (o : Oper) cs b, ops[j]? = some o → o.op ≠ .select cs b) :
    ∀ (f : Nat) (d : Array Bool) (a : Act), HeadInv .any ops ops.size d →
      (∀ j oj, ops[j]? = some oj → j ≠ i → d.getD j true = false → ¬ Reach ops j i → oi.apart ops oj = true) →
      i ∈ Region.ready .any ops d → YieldsIn P ops C oi v a → wpAnyQ P .any ops C Q f (d.setIfInBounds i true) (a.put oi.dst v) → wpAnyQ P .any ops C Q (f + 1) d a
  | 0, d, a, inv, hfree, hr, hy, H => by
    refine ⟨fun e => absurd hr (by rw [e]; exact List.not_mem_nil), fun j hj => ?_⟩
    rcases Nat.decEq j i with e | e
    · have m := ready_mono hj e
      rw [H.1] at m; exact absurd m List.not_mem_nil
    · rw [e]; exact hy.qOp hi H
  | f + 1, d, a, inv, hfree, hr, hy, H => by
    refine ⟨fun e => absurd hr (by rw [e]; exact List.not_mem_nil), fun j hj => ?_⟩
    rcases Nat.decEq j i with e | e
    · have un := (mem_ready.1 hr).1
      obtain ⟨ju, oj, hoj, _⟩ := mem_ready.1 hj
      have ap := hfree j oj hoj e ju (ready_not inv hj un)
      have later := qOp_put hoj ap (fun cs b => hsel i oi cs b hi) (fun cs b => hsel j oj cs b hoj) hy (H.2 j (ready_mono hj e))
      have hjs : j < ops.size := (Array.getElem?_eq_some_iff.1 hoj).1
      refine qOp_mono (fun a' h3 => anyQ_take hi hsel f (d.setIfInBounds j true) a' (inv.set hj hjs) (fun k ok hk hki hu hno => hfree k ok hk hki ?_ hno) (ready_mono hr (Ne.symm e)) h3.1 ?_) later
      · rcases Nat.decEq j k with x | x
        · rw [getD_set_ne true x] at hu; exact hu
        · rw [← x]; exact ju
      · rw [Array.setIfInBounds_comm _ _ e]; exact h3.2
    · rw [e]; exact hy.qOp hi H
def reachB (ops : Array Oper) : Nat → Nat → Nat → Bool
  | 0, _, _ => false
  | f + 1, j, i => match ops[j]? with
    | none => false
    | some o => o.after.any fun e => Region.binds .any e && (Nat.beq e.on i || reachB ops f e.on i)
theorem reachB_of : ∀ (f j i : Nat), reachB ops f j i = true → Reach ops j i
  | 0, _, _, h => by cases h
  | f + 1, j, i, h => by
    unfold reachB at h
    cases ho : ops[j]? with
    | none => rw [ho] at h; cases h
    | some o =>
      rw [ho] at h
      obtain ⟨e, he, hb⟩ := Array.any_eq_true'.1 h
      simp only [Bool.and_eq_true, Bool.or_eq_true] at hb
      rcases hb.2 with k | k
      · exact .one ho he hb.1 (Nat.eq_of_beq_eq_true k)
      · exact .more ho he hb.1 (reachB_of f _ _ k)
def pairsB (ops : Array Oper) (o : Oper) (k : Nat) : Nat → List Oper → Bool
  | _, [] => true
  | j, y :: r => (reachB ops 3 j k || o.apart ops y) && pairsB ops o k (j + 1) r
theorem pairsB_at {o : Oper} {k : Nat} : ∀ (l : List Oper) (j : Nat), pairsB ops o k j l = true → ∀ n y, l[n]? = some y → reachB ops 3 (j + n) k = true ∨ o.apart ops y = true
  | [], _, _, n, y, h => by simp at h
  | x :: l, j, hp, n, y, h => by
    unfold pairsB at hp
    obtain ⟨h1, h2⟩ := Bool.and_eq_true_iff.1 hp
    cases n with
    | zero => simp at h; subst h; exact Bool.or_eq_true_iff.1 h1
    | succ n =>
      have := pairsB_at l (j + 1) h2 n y (by simpa using h)
      rwa [show j + 1 + n = j + (n + 1) by omega] at this
def deepFrom (ops : Array Oper) : Nat → List Oper → Bool
  | _, [] => true
  | k, o :: rest => (o.after.all fun e => !Region.binds .any e || Nat.blt e.on k) && (pairsB ops o k (k + 1) rest && deepFrom ops (k + 1) rest)
theorem anyQ_deep {Q : Act → Prop} (hs : Region.noSelect ops = true) : ∀ (l : List Oper) (k : Nat) (d : Array Bool) (a : Act), HeadInv .any ops ops.size d → (∀ j, l[j]? = ops[k + j]?) → k + l.length = ops.size →
    (∀ j, j < k → d.getD j false = true) → (∀ j, k ≤ j → j < ops.size → d.getD j true = false) → deepFrom ops k l = true → wpQuiet P ops C Q l a → wpAnyQ P .any ops C Q l.length d a
  | [], k, d, a, _, _, hk, h1, _, _, h => by
    refine ⟨List.eq_nil_iff_forall_not_mem.2 fun j hj => ?_, h⟩
    obtain ⟨h2, o, ho, _⟩ := mem_ready.1 hj
    have hjl := (Array.getElem?_eq_some_iff.1 ho).1
    have := h1 j (by simp at hk; omega)
    rw [getD_both h2] at this; cases this
  | o :: l, k, d, a, inv, hl, hk, h1, h2, hf, h => by
    have h0 : ops[k]? = some o := by simpa using (hl 0).symm
    unfold deepFrom at hf
    simp only [Bool.and_eq_true] at hf
    obtain ⟨ha, hp, hf⟩ := hf
    simp only [List.length_cons] at hk
    have rd : k ∈ Region.ready .any ops d := mem_ready.2 ⟨h2 k (Nat.le_refl _) (by omega), o, h0, fun e he hb => by
      have := Array.all_eq_true'.1 ha e he
      rw [hb] at this
      exact h1 _ (by simp [Nat.blt] at this; omega)⟩
    have hst : qOp P ops C k (wpQuiet P ops C Q l) a := by unfold qOp; simp only [h0]; exact h
    obtain ⟨v, hy, hK⟩ := yieldsIn_of_qOp h0 hst
    refine anyQ_take h0 (Region.noSelect_spec hs) l.length d a inv (fun j oj hj hne hu hno => ?_) rd hy ?_
    · have hkj : k < j := by
        rcases Nat.lt_or_ge j k with c | c
        · have := h1 j c; rw [getD_both hu] at this; cases this
        · omega
      have hm : l[j - k - 1]? = some oj := by
        have := hl (j - k)
        rwa [show k + (j - k) = j by omega, hj, show j - k = (j - k - 1) + 1 by omega, List.getElem?_cons_succ] at this
      rcases pairsB_at l (k + 1) hp _ _ hm with q | q
      · rw [show k + 1 + (j - k - 1) = j by omega] at q
        exact absurd (reachB_of 3 j k q) hno
      · exact q
    · refine anyQ_deep hs l (k + 1) _ _ (inv.set rd (by omega)) (fun j => by have := hl (j + 1); simpa [Nat.add_assoc, Nat.add_comm 1 j] using this) (by omega) (fun j hj => ?_) (fun j hj hj' => ?_) hf hK
      · rcases Nat.decEq k j with e | e
        · rw [getD_set_ne false e]; exact h1 j (by omega)
        · subst e; simp [inv.size]; omega
      · rw [getD_set_ne true (by omega)]; exact h2 j (by omega) hj'
theorem region_quiet_deep {id : Nat} {Q : Exit → Act → World → Prop} {a : Act} {w : World} {l : List Oper} (hm : P.follows .mixedOrders = true) (hB : (Region.noSelect l.toArray && deepFrom l.toArray 0 l) = true) (hC : C w.drew)
    (h : wpQuiet P l.toArray C (fun a' => ∀ w', C w' → Q .normal a' w') l a) : (Code.region id l.toArray true).wp P Q a w := by
  simp only [Bool.and_eq_true] at hB
  refine wp_region_any hm (wpAny_of_quiet (Q := fun a' => ∀ w', C w' → Q .normal a' w') (fun _ w' hw' h => h w' hw') _ _ _ _ hC ?_)
  have inv0 : HeadInv .any l.toArray l.toArray.size (Array.replicate l.toArray.size false) :=
    ⟨by simp, fun j oj _ hl => (by rw [getD_replicate_false] at hl; cases hl), fun t ht h => by omega⟩
  have := anyQ_deep (P := P) (C := C) hB.1 l 0 (Array.replicate l.toArray.size false) a inv0 (by simp) (by simp) (fun j hj => absurd hj (by omega)) (fun j _ hj => getD_in (by simpa using hj) (getD_replicate_false _ _)) hB.2 h
  simpa using this
theorem region_deep {id : Nat} {Q : Exit → Act → World → Prop} {a : Act} {w : World} {l : List Oper} (hm : P.follows .mixedOrders = true) (hB : (Region.noSelect l.toArray && deepFrom l.toArray 0 l) = true)
    (h : wpQuiet P l.toArray (fun w' => ∃ n, w' = w.drewN n) (fun a' => ∀ w', (∃ n, w' = w.drewN n) → Q .normal a' w') l a) : (Code.region id l.toArray true).wp P Q a w :=
  region_quiet_deep hm hB ⟨1, rfl⟩ h
end
end Go.Proofs.YtlgdjbabbfdngaaDoor
set_option linter.unusedVariables false
set_option linter.unusedSimpArgs false
namespace Go.Proofs.YtlgdjbabbfdngaaDoor
open Go.RowKit
namespace Sy
def rgw : Nat → Ex → Bool
  | 0, _ => false
  | k + 1, x => nodeB x.op x.n x.ks.length && x.ks.all (rgw k)
theorem dmx_le {l : List Nat} {k : Nat} : dmx l ≤ k ↔ ∀ d ∈ l, d ≤ k := by
  induction l with
  | nil => simp [dmx]
  | cons d l ih => simp only [dmx, List.mem_cons, forall_eq_or_imp, ← ih]; omega
theorem rgw_eq (k : Nat) : ∀ x, rgw k x = (okx x && decide (dpt x ≤ k)) := by
  induction k with
  | zero =>
    intro x
    obtain ⟨op, n, ks⟩ := x
    rw [dpt_mk, decide_eq_false (by omega), Bool.and_false]; rfl
  | succ k ih =>
    intro x
    obtain ⟨op, n, ks⟩ := x
    rw [rgw, okx_mk, dpt_mk]
    show (nodeB op n ks.length && ks.all (rgw k)) = _
    rw [Bool.and_assoc]
    congr 1
    rw [Bool.eq_iff_iff]
    simp only [List.all_eq_true, Bool.and_eq_true, decide_eq_true_eq]
    constructor
    · intro h
      refine ⟨fun x hx => ?_, ?_⟩
      · have := h x hx; rw [ih] at this; simp at this; exact this.1
      · have : dmx (ks.map dpt) ≤ k := dmx_le.2 fun d hd => by
          obtain ⟨x, hx, rfl⟩ := List.mem_map.1 hd
          have := h x hx; rw [ih] at this; simp at this; exact this.2
        omega
    · rintro ⟨h1, h2⟩ x hx
      rw [ih]
      have : dpt x ≤ k := dmx_le.1 (show dmx (ks.map dpt) ≤ k by omega) _ (List.mem_map_of_mem hx)
      simp [h1 x hx, this]
theorem rgt_eq (x : Ex) : rgw 16 x = rgt x := rgw_eq 16 x
end Sy
theorem node_no {op n : Int} {k : Nat} (h : op < 0 ∨ 26 ≤ op) : Sy.nodeB op n k = false := by
  unfold Sy.nodeB
  rcases h with h | h
  · rw [decide_eq_false (show ¬ 0 ≤ op by omega)]; rfl
  · rw [decide_eq_false (show ¬ op ≤ 25 by omega), Bool.and_false]; rfl
theorem node_len {o : Nat} {n : Int} {k : Nat} (h : k ≠ Sy.kds o) : Sy.nodeB (o : Int) n k = false := by
  unfold Sy.nodeB
  rw [show ((o : Int)).toNat = o by omega, decide_eq_false h, Bool.and_false]; rfl
theorem node_num {o : Nat} {n : Int} {k : Nat} (h : n ≠ 0) (h' : o ≠ 0 ∨ n < 0 ∨ 1000000000000000 ≤ n) : Sy.nodeB (o : Int) n k = false := by
  unfold Sy.nodeB
  rw [decide_eq_false h, Bool.false_or]
  have : (decide ((o : Int) = 0) && decide (0 ≤ n) && decide (n < 1000000000000000)) = false := by
    simp; omega
  rw [this, Bool.and_false]
theorem node_yes {o : Nat} {n : Int} {k : Nat} (ho : o < 26) (hk : k = Sy.kds o) (h : n = 0 ∨ (o = 0 ∧ 0 ≤ n ∧ n < 1000000000000000)) : Sy.nodeB (o : Int) n k = true := by
  unfold Sy.nodeB
  rw [show ((o : Int)).toNat = o by omega, decide_eq_true hk, decide_eq_true (show (0 : Int) ≤ o by omega), decide_eq_true (show (o : Int) ≤ 25 by omega)]
  simp; omega
set_option maxRecDepth 100000 in
set_option maxHeartbeats 4000000 in
theorem sv_rightWithin (k : Nat) : ∀ (op n : Int) (ks : List Sy.Ex) (a : Option Addr) (cap : Nat) (S : Nat → Prop) (w : World), k ≤ 16 → Ow w → KidsB w S a cap ks →
    Calls Tryd.prog 65 #[.agg #[.int .i64 op, .int .i64 n, .slice a ks.length cap], .int .i64 (k : Int)] w fun e w' => e = .returned (.bool (Sy.rgw k (.mk op n ks))) ∧ Qw w w' := by
  induction k with
  | zero =>
    intro op n ks a cap S w _ hO hk
    obtain ⟨l1, l2⟩ := hk.cap
    clear hO hk
    go_enter Tryd.func65, Tryd.ntmps65
    go_wp2_with fail
    refine region_deep (by kernel_rfl) (by as_aux_lemma => kernel_rfl) ?_
    repeat (go_big_quiet_step (fail))
    refine wpQuiet_nil ?_
    intro _ hw'
    obtain ⟨nq, hw''⟩ := hw'
    subst hw''
    go_wp2_with fail
    go_ret
    exact ⟨rfl, Qz⟩
  | succ k ih =>
    intro op n ks a cap S w hk16 hO hk
    obtain ⟨l1, l2⟩ := hk.cap
    have k1 : ((k + 1 : Nat) : Int) = (k : Int) + 1 := by omega
    rw [k1]
    have b0 : ((k : Int) + 1 == 0) = false := beq_eq_false_iff_ne.2 (by omega)
    have hg := hO.1
    by_cases c1 : op < 0
    · have e : Sy.rgw (k + 1) (.mk op n ks) = false := by rw [Sy.rgw]; show (Sy.nodeB op n ks.length && _) = _; rw [node_no (.inl c1)]; rfl
      rw [e]
      have d1 : decide (op < 0) = true := decide_eq_true c1
      clear e hO hk ih k1 hg
      go_enter Tryd.func65, Tryd.ntmps65
      go_wp2_with fail
      refine region_deep (by kernel_rfl) (by as_aux_lemma => kernel_rfl) ?_
      repeat (go_big_quiet_step (fail))
      refine wpQuiet_nil ?_
      intro _ hw'
      obtain ⟨nq, hw''⟩ := hw'
      subst hw''
      go_wp2_with fail
      go_ret
      exact ⟨rfl, Qz⟩
    · have d1 : decide (op < 0) = false := decide_eq_false c1
      by_cases c2 : 26 ≤ op
      · have e : Sy.rgw (k + 1) (.mk op n ks) = false := by rw [Sy.rgw]; show (Sy.nodeB op n ks.length && _) = _; rw [node_no (.inr c2)]; rfl
        rw [e]
        have d2 : decide (26 ≤ op) = true := decide_eq_true c2
        clear e hO hk ih k1 hg
        go_enter Tryd.func65, Tryd.ntmps65
        go_wp2_with fail
        refine region_deep (by kernel_rfl) (by as_aux_lemma => kernel_rfl) ?_
        repeat (go_big_quiet_step (fail))
        refine wpQuiet_nil ?_
        intro _ hw'
        obtain ⟨nq, hw''⟩ := hw'
        subst hw''
        go_wp2_with fail
        go_ret
        exact ⟨rfl, Qz⟩
      · have d2 : decide (26 ≤ op) = false := decide_eq_false c2
        obtain ⟨o, rfl⟩ : ∃ o : Nat, op = (o : Int) := ⟨op.toNat, by omega⟩
        have ho : o < 26 := by omega
        have ho2 : (o : Int) < 26 := by omega
        have oc := (hO.2 o ho).2
        clear c1 c2
        by_cases c3 : ks.length = Sy.kds o
        · by_cases c5 : o = 0
          · subst c5
            obtain rfl : ks = [] := List.eq_nil_of_length_eq_zero c3
            have oc0 : w.cell? ⟨0, 1, none⟩ = some (.int .i64 0) := oc
            show Calls Tryd.prog 65 #[.agg #[.int .i64 0, .int .i64 n, .slice a 0 cap], .int .i64 ((k : Int) + 1)] w fun e w' => e = .returned (.bool (Sy.rgw (k + 1) (.mk 0 n []))) ∧ Qw w w'
            clear d1 d2 oc c3 l1 ho ho2
            by_cases c4 : n = 0
            · subst c4
              have e : Sy.rgw (k + 1) (.mk 0 0 []) = true := by rw [Sy.rgw]; show (Sy.nodeB 0 0 ([] : List Sy.Ex).length && true) = _; rw [show Sy.nodeB 0 0 ([] : List Sy.Ex).length = true from node_yes (o := 0) (by decide) (by decide) (.inl rfl)]; rfl
              rw [e]
              clear e hO hk ih k1
              go_enter Tryd.func65, Tryd.ntmps65
              go_wp2_with fail
              refine region_deep (by kernel_rfl) (by as_aux_lemma => kernel_rfl) ?_
              repeat (go_big_quiet_step (fail))
              refine wpQuiet_nil ?_
              intro _ hw'
              obtain ⟨nq, hw''⟩ := hw'
              subst hw''
              go_wp2_with fail
              have QS : Hid (Qw w ((w.alloc (.cells #[.int .i64 0, .int .i64 0, .slice a 0 cap] 35)).drewN nq)) := Lib.hid (bel_drewN ((Below.refl _ _).alloc (Nat.le_refl _) _) _)
              go_loopg [51] 0 (fun g iv wr => iv = .int .i64 0 ∧ Qw w wr)
              case atStart => exact ⟨rfl, QS.out⟩
              case round =>
                obtain ⟨rfl, hQ⟩ := hrel
                have q0 := Lib.hid hQ
                clear hQ QS
                go_wp2_with fail
                go_ret
                exact ⟨rfl, q0.out⟩
            · have f1 : (n != 0) = true := by simpa using c4
              by_cases c6 : n < 0
              · have f2 : decide (n < 0) = true := decide_eq_true c6
                have e : Sy.rgw (k + 1) (.mk 0 n []) = false := by rw [Sy.rgw]; show (Sy.nodeB 0 n ([] : List Sy.Ex).length && _) = _; rw [show Sy.nodeB 0 n ([] : List Sy.Ex).length = false from node_num (o := 0) c4 (.inr (.inl c6))]; rfl
                rw [e]
                clear e hO hk ih k1
                go_enter Tryd.func65, Tryd.ntmps65
                go_wp2_with fail
                refine region_deep (by kernel_rfl) (by as_aux_lemma => kernel_rfl) ?_
                repeat (go_big_quiet_step (fail))
                refine wpQuiet_nil ?_
                intro _ hw'
                obtain ⟨nq, hw''⟩ := hw'
                subst hw''
                go_wp2_with fail
                go_ret
                exact ⟨rfl, Qz⟩
              · have f2 : decide (n < 0) = false := decide_eq_false c6
                by_cases c7 : 1000000000000000 ≤ n
                · have f3 : decide (1000000000000000 ≤ n) = true := decide_eq_true c7
                  have e : Sy.rgw (k + 1) (.mk 0 n []) = false := by rw [Sy.rgw]; show (Sy.nodeB 0 n ([] : List Sy.Ex).length && _) = _; rw [show Sy.nodeB 0 n ([] : List Sy.Ex).length = false from node_num (o := 0) c4 (.inr (.inr c7))]; rfl
                  rw [e]
                  clear e hO hk ih k1
                  go_enter Tryd.func65, Tryd.ntmps65
                  go_wp2_with fail
                  refine region_deep (by kernel_rfl) (by as_aux_lemma => kernel_rfl) ?_
                  repeat (go_big_quiet_step (fail))
                  refine wpQuiet_nil ?_
                  intro _ hw'
                  obtain ⟨nq, hw''⟩ := hw'
                  subst hw''
                  go_wp2_with fail
                  go_ret
                  exact ⟨rfl, Qz⟩
                · have f3 : decide (1000000000000000 ≤ n) = false := decide_eq_false c7
                  have e : Sy.rgw (k + 1) (.mk 0 n []) = true := by rw [Sy.rgw]; show (Sy.nodeB 0 n ([] : List Sy.Ex).length && true) = _; rw [show Sy.nodeB 0 n ([] : List Sy.Ex).length = true from node_yes (o := 0) (by decide) (by decide) (.inr ⟨rfl, by omega, by omega⟩)]; rfl
                  rw [e]
                  clear e hO hk ih k1
                  go_enter Tryd.func65, Tryd.ntmps65
                  go_wp2_with fail
                  refine region_deep (by kernel_rfl) (by as_aux_lemma => kernel_rfl) ?_
                  repeat (go_big_quiet_step (fail))
                  refine wpQuiet_nil ?_
                  intro _ hw'
                  obtain ⟨nq, hw''⟩ := hw'
                  subst hw''
                  go_wp2_with fail
                  have QS : Hid (Qw w ((w.alloc (.cells #[.int .i64 0, .int .i64 n, .slice a 0 cap] 35)).drewN nq)) := Lib.hid (bel_drewN ((Below.refl _ _).alloc (Nat.le_refl _) _) _)
                  go_loopg [51] 0 (fun g iv wr => iv = .int .i64 0 ∧ Qw w wr)
                  case atStart => exact ⟨rfl, QS.out⟩
                  case round =>
                    obtain ⟨rfl, hQ⟩ := hrel
                    have q0 := Lib.hid hQ
                    clear hQ QS
                    go_wp2_with fail
                    go_ret
                    exact ⟨rfl, q0.out⟩
          · have f2 : ((o : Int) != 0) = true := by simpa using c5
            have d3 : ((ks.length : Int) != (Sy.kds o : Nat)) = false := by rw [c3]; simp
            by_cases c4 : n = 0
            · subst c4
              have hn : Sy.nodeB (o : Int) 0 ks.length = true := node_yes ho c3 (.inl rfl)
              have hR : Sy.rgw (k + 1) (.mk (o : Int) 0 ks) = ks.all (Sy.rgw k) := by rw [Sy.rgw]; show (Sy.nodeB (o : Int) 0 ks.length && _) = _; rw [hn]; rfl
              rw [hR]
              have HK := Lib.hid hk
              have HO := Lib.hid hO
              have IH := Lib.hid ih
              clear hR hn hk hO ih k1 c3
              go_enter Tryd.func65, Tryd.ntmps65
              go_wp2_with fail
              refine region_deep (by kernel_rfl) (by as_aux_lemma => kernel_rfl) ?_
              repeat (go_big_quiet_step (fail))
              refine wpQuiet_nil ?_
              intro _ hw'
              obtain ⟨nq, hw''⟩ := hw'
              subst hw''
              go_wp2_with fail
              have QS : Hid (Qw w ((w.alloc (.cells #[.int .i64 (o : Int), .int .i64 0, .slice a ks.length cap] 35)).drewN nq)) := Lib.hid (bel_drewN ((Below.refl _ _).alloc (Nat.le_refl _) _) _)
              go_loopg [51] ks.length (fun g iv wr => ∃ i : Nat, i ≤ ks.length ∧ g = ks.length - i ∧ iv = .int .i64 (i : Int) ∧ Hid ((ks.take i).all (Sy.rgw k) = true) ∧ Qw w wr)
              case atStart => exact ⟨0, Nat.zero_le _, rfl, rfl, Lib.hid (by simp), QS.out⟩
              case round =>
                obtain ⟨i, hi, rfl, rfl, hT, hQ⟩ := hrel
                have q0 := Lib.hid hQ
                by_cases hlt : i < ks.length
                · have hKr := HK.out.kept hQ
                  clear hQ QS
                  cases hKr with
                  | nl => simp at hlt
                  | mk b off cap ks ad cc hS h1 h2 hc hkk =>
                    obtain ⟨z0, z1, z2⟩ := hc i hlt
                    have KK := Lib.hid (hkk i hlt)
                    have hi2 : (i : Int) < (ks.length : Int) := by omega
                    have cr := fun w1 (h : KidsB w1 S (ad i) (cc i) ks[i].ks) (hO : Ow w1) => IH.out ks[i].op ks[i].n ks[i].ks (ad i) (cc i) S w1 (by omega) hO h
                    have eX : Sy.rgw k (.mk ks[i].op ks[i].n ks[i].ks) = Sy.rgw k ks[i] := by cases ks[i]; rfl
                    rw [eX] at cr
                    have bl := cell_lt z0
                    have hne : b ≠ wr.heap.size := by omega
                    cases eR : Sy.rgw k ks[i] with
                    | false =>
                      rw [eR] at cr
                      have eA : Hid (ks.all (Sy.rgw k) = false) := Lib.hid (by rw [List.all_eq_false]; exact ⟨ks[i], List.getElem_mem hlt, by rw [eR]; decide⟩)
                      have CR := Lib.hid cr
                      clear cr eX eR hc hkk
                      go_wp2_with (go_at_call 65; ((with_reducible refine (CR.out _ (KidsB.kept KK.out Qz) (Ow.kept HO.out Qz)).mono ?_); rintro e w' ⟨rfl, q⟩; replace q0 : Hid (Qw w w') := Lib.hid (Qw.trans Qz q); clear q))
                      go_ret
                      exact ⟨ret_bool5 eA.out.symm, q0.out⟩
                    | true =>
                      rw [eR] at cr
                      have hT' : Hid ((ks.take (i + 1)).all (Sy.rgw k) = true) := Lib.hid (by rw [List.take_succ_eq_append_getElem hlt, List.all_append, hT.out]; simp [eR])
                      have CR := Lib.hid cr
                      clear cr eX eR hc hkk hT
                      go_wp2_with (go_at_call 65; ((with_reducible refine (CR.out _ (KidsB.kept KK.out Qz) (Ow.kept HO.out Qz)).mono ?_); rintro e w' ⟨rfl, q⟩; replace q0 : Hid (Qw w w') := Lib.hid (Qw.trans Qz q); clear q))
                      go_roundg (ks.length - (i + 1))
                      case measure => omega
                      case rel => exact ⟨i + 1, by omega, rfl, by go_num, hT', q0.out⟩
                · obtain rfl : i = ks.length := by omega
                  clear hQ QS
                  have hb : ¬ (ks.length : Int) < (ks.length : Int) := by omega
                  go_wp2_with fail
                  go_ret
                  exact ⟨ret_bool5 (by have := hT.out; rw [List.take_length] at this; exact this.symm), q0.out⟩
            · have f1 : (n != 0) = true := by simpa using c4
              have e : Sy.rgw (k + 1) (.mk (o : Int) n ks) = false := by rw [Sy.rgw]; show (Sy.nodeB (o : Int) n (ks : List Sy.Ex).length && _) = _; rw [node_num c4 (.inl c5)]; rfl
              rw [e]
              clear e hO hk ih k1
              go_enter Tryd.func65, Tryd.ntmps65
              go_wp2_with fail
              refine region_deep (by kernel_rfl) (by as_aux_lemma => kernel_rfl) ?_
              repeat (go_big_quiet_step (fail))
              refine wpQuiet_nil ?_
              intro _ hw'
              obtain ⟨nq, hw''⟩ := hw'
              subst hw''
              go_wp2_with fail
              go_ret
              exact ⟨rfl, Qz⟩
        · have d3 : ((ks.length : Int) != (Sy.kds o : Nat)) = true := by simp; omega
          have e : Sy.rgw (k + 1) (.mk (o : Int) n ks) = false := by rw [Sy.rgw]; show (Sy.nodeB (o : Int) n ks.length && _) = _; rw [node_len c3]; rfl
          rw [e]
          clear e hO hk ih k1
          go_enter Tryd.func65, Tryd.ntmps65
          go_wp2_with fail
          refine region_deep (by kernel_rfl) (by as_aux_lemma => kernel_rfl) ?_
          repeat (go_big_quiet_step (fail))
          refine wpQuiet_nil ?_
          intro _ hw'
          obtain ⟨nq, hw''⟩ := hw'
          subst hw''
          go_wp2_with fail
          go_ret
          exact ⟨rfl, Qz⟩
end Go.Proofs.YtlgdjbabbfdngaaDoor
set_option linter.unusedVariables false
set_option linter.unusedSimpArgs false
namespace Go.Proofs.YtlgdjbabbfdngaaDoor
open Go.RowKit
theorem sv_right (op n : Int) (ks : List Sy.Ex) (a : Option Addr) (cap : Nat) (S : Nat → Prop) (w : World) (hO : Ow w) (hk : KidsB w S a cap ks) :
    Calls Tryd.prog 52 #[.agg #[.int .i64 op, .int .i64 n, .slice a ks.length cap]] w fun e w' => e = .returned (.bool (Sy.rgt (.mk op n ks))) ∧ Qw w w' := by
  have c1 : ∀ w, Ow w → KidsB w S a cap ks → Calls Tryd.prog 65 #[.agg #[.int .i64 op, .int .i64 n, .slice a ks.length cap], .int .i64 16] w fun e w' => e = .returned (.bool (Sy.rgt (.mk op n ks))) ∧ Qw w w' := fun w h1 h2 => by
    rw [← Sy.rgt_eq]; exact sv_rightWithin 16 op n ks a cap S w (Nat.le_refl _) h1 h2
  have C1 := Lib.hid c1
  have HO := Lib.hid hO
  have HK := Lib.hid hk
  clear c1 hO hk
  have q0 : Hid (Qw w w) := Lib.hid (Qw.refl w)
  go_enter Tryd.func52, Tryd.ntmps52
  go_wp2_with (go_at_call 65; ((with_reducible refine (C1.out _ (Ow.kept HO.out Qz) (KidsB.kept HK.out Qz)).mono ?_); rintro e w' ⟨rfl, q⟩; replace q0 : Hid (Qw w w') := Lib.hid (Qw.trans Qz q); clear q))
  go_ret
  exact ⟨rfl, q0.out⟩
theorem sv_blank (op n : Int) (l : Nat) (a : Option Addr) (cap : Nat) (l1 : l ≤ cap) (l2 : cap ≤ 9223372036854775807) (w : World) :
    Calls Tryd.prog 51 #[.agg #[.int .i64 op, .int .i64 n, .slice a l cap]] w fun e w' => e = .returned (.bool (decide (op = 0) && decide (n = 0) && decide (l = 0))) ∧ Qw w w' := by
  by_cases c1 : op = 0
  · subst c1
    by_cases c2 : n = 0
    · subst c2
      by_cases c3 : l = 0
      · subst c3
        go_enter Tryd.func51, Tryd.ntmps51
        go_wp2
        go_ret
        exact ⟨rfl, Qz⟩
      · have h3 : ((l : Int) == 0) = false := beq_eq_false_iff_ne.2 (by omega)
        rw [decide_eq_false c3]
        clear c3
        go_enter Tryd.func51, Tryd.ntmps51
        go_wp2
        go_ret
        exact ⟨rfl, Qz⟩
    · have h3 : (n == 0) = false := beq_eq_false_iff_ne.2 c2
      rw [decide_eq_false c2]
      clear c2
      go_enter Tryd.func51, Tryd.ntmps51
      go_wp2
      go_ret
      exact ⟨rfl, Qz⟩
  · have h3 : (op == 0) = false := beq_eq_false_iff_ne.2 c1
    rw [decide_eq_false c1]
    clear c1
    go_enter Tryd.func51, Tryd.ntmps51
    go_wp2
    go_ret
    exact ⟨rfl, Qz⟩
def wdsB (ws : List (Int × Sy.Ex)) : Bool := ws.all (fun w => Sy.isw w.1 && Sy.rgt w.2)
set_option maxRecDepth 100000 in
set_option maxHeartbeats 4000000 in
theorem sv_rightWords (ws : List (Int × Sy.Ex)) (a : Option Addr) (cap : Nat) (S : Nat → Prop) (w : World) (hO : Ow w) (hk : WordsB w S a cap ws) :
    Calls Tryd.prog 50 #[.slice a ws.length cap] w fun e w' => e = .returned (.bool (decide (ws.length ≤ 24) && wdsB ws)) ∧ Qw w w' := by
  obtain ⟨l1, l2, _⟩ := id hk
  have HO := Lib.hid hO
  have HK := Lib.hid hk
  have ol := hO.1
  clear hO hk
  by_cases c1 : ws.length ≤ 24
  · rw [decide_eq_true c1, Bool.true_and]
    have c1' : ¬ (24 : Int) < (ws.length : Int) := by omega
    go_enter Tryd.func50, Tryd.ntmps50
    go_wp2_with fail
    go_loopg [10] ws.length (fun g iv wr => ∃ i : Nat, i ≤ ws.length ∧ g = ws.length - i ∧ iv = .int .i64 (i : Int) ∧ Hid (wdsB (ws.take i) = true) ∧ Qw w wr)
    case atStart => exact ⟨0, Nat.zero_le _, rfl, rfl, Lib.hid (by simp [wdsB]), Qw.refl w⟩
    case round =>
      obtain ⟨i, hi, rfl, rfl, hT, hQ⟩ := hrel
      have q0 := Lib.hid hQ
      by_cases hlt : i < ws.length
      · have hKr := HK.out.go (w' := wr) (T := S) (fun b hS hb => ⟨hQ.block b hb, hS⟩)
        have HOr := Lib.hid (HO.out.kept hQ)
        clear hQ
        obtain ⟨_, _, h0 | ⟨b, off, ad, cc, rfl, hS, hc⟩⟩ := hKr
        · rw [h0] at hlt; simp at hlt
        · obtain ⟨z0, z1, z2, z3, z4⟩ := hc i hlt
          have KK := Lib.hid z4
          have hi2 : (i : Int) < (ws.length : Int) := by omega
          have bl := cell_lt z0
          have hne : b ≠ wr.heap.size := by omega
          have fw := fun w => syIsWord ws[i].1 w
          have cr := fun w1 (h : KidsB w1 S (ad i) (cc i) ws[i].2.ks) (hO : Ow w1) => sv_right ws[i].2.op ws[i].2.n ws[i].2.ks (ad i) (cc i) S w1 hO h
          have eX : Sy.rgt (.mk ws[i].2.op ws[i].2.n ws[i].2.ks) = Sy.rgt ws[i].2 := by cases ws[i].2; rfl
          rw [eX] at cr
          have step : wdsB (ws.take (i + 1)) = (Sy.isw ws[i].1 && Sy.rgt ws[i].2) := by
            have h := hT.out
            unfold wdsB at h ⊢
            rw [List.take_succ_eq_append_getElem hlt, List.all_append, h]; simp
          have bad : (Sy.isw ws[i].1 && Sy.rgt ws[i].2) = false → wdsB ws = false := fun h => by
            unfold wdsB; rw [List.all_eq_false]; exact ⟨ws[i], List.getElem_mem hlt, by rw [h]; decide⟩
          cases eW : Sy.isw ws[i].1 with
          | false =>
            have eA : Hid (wdsB ws = false) := Lib.hid (bad (by rw [eW]; rfl))
            rw [eW] at fw
            have FW := Lib.hid fw
            clear fw cr eX step bad eW hc z4
            go_wp2_with (go_at_call 64; ((with_reducible refine (FW.out _).mono ?_); rintro e w' ⟨rfl, rfl⟩))
            go_ret
            exact ⟨ret_bool5 eA.out.symm, Qz⟩
          | true =>
            rw [eW] at fw
            have FW := Lib.hid fw
            cases eR : Sy.rgt ws[i].2 with
            | false =>
              have eA : Hid (wdsB ws = false) := Lib.hid (bad (by rw [eW, eR]; rfl))
              rw [eR] at cr
              have CR := Lib.hid cr
              clear fw cr eX step bad eW eR hc z4
              go_wp2_with (first | (go_at_call 64; ((with_reducible refine (FW.out _).mono ?_); rintro e w' ⟨rfl, rfl⟩)) | (go_at_call 52; ((with_reducible refine (CR.out _ (KidsB.kept KK.out Qz) (Ow.kept HOr.out Qz)).mono ?_); rintro e w' ⟨rfl, q⟩; replace q0 : Hid (Qw w w') := Lib.hid (Qw.trans Qz q); clear q)))
              go_ret
              exact ⟨ret_bool5 eA.out.symm, q0.out⟩
            | true =>
              have hT' : Hid (wdsB (ws.take (i + 1)) = true) := Lib.hid (by rw [step, eW, eR]; rfl)
              rw [eR] at cr
              have CR := Lib.hid cr
              clear fw cr eX step bad eW eR hc z4 hT
              go_wp2_with (first | (go_at_call 64; ((with_reducible refine (FW.out _).mono ?_); rintro e w' ⟨rfl, rfl⟩)) | (go_at_call 52; ((with_reducible refine (CR.out _ (KidsB.kept KK.out Qz) (Ow.kept HOr.out Qz)).mono ?_); rintro e w' ⟨rfl, q⟩; replace q0 : Hid (Qw w w') := Lib.hid (Qw.trans Qz q); clear q)))
              go_roundg (ws.length - (i + 1))
              case measure => omega
              case rel => exact ⟨i + 1, by omega, rfl, by go_num, hT', q0.out⟩
      · obtain rfl : i = ws.length := by omega
        clear hQ
        have hb : ¬ (ws.length : Int) < (ws.length : Int) := by omega
        go_wp2_with fail
        go_ret
        exact ⟨ret_bool5 (by have := hT.out; rw [List.take_length] at this; exact this.symm), q0.out⟩
  · rw [decide_eq_false c1, Bool.false_and]
    have c1' : (24 : Int) < (ws.length : Int) := by omega
    go_enter Tryd.func50, Tryd.ntmps50
    go_wp2_with fail
    go_ret
    exact ⟨rfl, Qz⟩
end Go.Proofs.YtlgdjbabbfdngaaDoor

