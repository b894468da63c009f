
/- Plain: lines that are joined, and their tokens. -/
import Derived.Test.YtlinfdgmebogbaaDoorLxC
import Derived.Test.YtlinfdgmebogbaaDoorLrC
import Derived.Test.YtlinfdgmebogbaaDoorLsA
set_option linter.unusedVariables false
set_option linter.unusedSimpArgs false
namespace Go.Proofs.YtlinfdgmebogbaaDoor
namespace Lx

def Tok.mv (d : Nat) (t : Tok) : Tok := ⟨t.k, t.n, t.p + d, t.x⟩
def Res.mv (d : Nat) : Res → Res
  | .ok l => .ok (l.map (Tok.mv d))
  | .bad a => .bad (a + d)
theorem mv_pre (d : Nat) (ts : List Tok) (r : Res) : (r.pre ts).mv d = (r.mv d).pre (ts.map (Tok.mv d)) := by
  cases r <;> simp [Res.pre, Res.mv]

theorem lx_shift_aux (d : Nat) : ∀ (n : Nat) (l : List UInt8), l.length ≤ n → ∀ a, lx l (a + d) = (lx l a).mv d
  | n, [], _, a => by rw [lx_nil, lx_nil]; rfl
  | 0, c :: t, h, a => by simp at h
  | n + 1, c :: t, h, a => by
    simp at h
    cases e : act c t with
    | bad => rw [lx_bad e, lx_bad e]; rfl
    | skip k =>
      rw [lx_skip e, lx_skip e, show a + d + 1 + k = a + 1 + k + d by omega]
      exact lx_shift_aux d n _ (by simp; omega) _
    | tok f =>
      rw [lx_tok e, lx_tok e, show a + d + f.m = a + f.m + d by omega, lx_shift_aux d n _ (by simp; omega), mv_pre]; rfl
theorem lx_shift (l : List UInt8) (a d : Nat) : lx l (a + d) = (lx l a).mv d := lx_shift_aux d l.length l (Nat.le_refl _) a

/-! ### bytes that are looked for -/

theorem index_append (t u : List UInt8) (c : UInt8) (h : Lib.indexByte t c ≠ -1) : Lib.indexByte (t ++ u) c = Lib.indexByte t c := by
  induction t with
  | nil => exact absurd rfl h
  | cons b t ih =>
    have e : ∀ l, Lib.indexByte (b :: l) c = if b == c then 0 else if Lib.indexByte l c == -1 then -1 else Lib.indexByte l c + 1 := fun l => rfl
    rw [List.cons_append, e, e]
    rw [e] at h
    cases hb : b == c
    · rw [hb] at h
      have h2 : Lib.indexByte t c ≠ -1 := fun k => by rw [k] at h; exact h rfl
      rw [ih h2]
    · rfl

theorem index_take (t : List UInt8) (c : UInt8) : ∀ (n : Nat), Lib.indexByte t c ≠ -1 → Lib.indexByte t c < n → Lib.indexByte (t.take n) c = Lib.indexByte t c := by
  induction t with
  | nil => intro n h; exact absurd rfl h
  | cons b t ih =>
    intro n h hn
    have e : ∀ l, Lib.indexByte (b :: l) c = if b == c then 0 else if Lib.indexByte l c == -1 then -1 else Lib.indexByte l c + 1 := fun l => rfl
    rw [e] at h hn ⊢
    cases n with
    | zero =>
      exfalso
      revert hn
      split
      · omega
      · split
        · rename_i h1 h2; rw [if_neg h1, if_pos h2] at h; exact absurd rfl h
        · have := Lib.indexByte_ge t c; omega
    | succ n =>
      rw [List.take_succ_cons, e]
      cases hb : b == c
      · rw [hb] at h hn
        have h2 : Lib.indexByte t c ≠ -1 := fun k => by rw [k] at h; exact h rfl
        have h3 : (Lib.indexByte t c == -1) = false := beq_eq_false_iff_ne.2 h2
        rw [h3] at hn
        simp only [Bool.false_eq_true, if_false] at hn
        rw [ih n h2 (by omega)]
      · rfl

/-! ### names and numbers at the beginning -/

theorem nstep_max (l b n : List UInt8) : b.length ≤ (nstep l b n).length ∧ (pfx n l = true → n.length ≤ (nstep l b n).length) := by
  unfold nstep
  by_cases h : (decide (b.length < n.length) && pfx n l) = true
  · rw [if_pos h]; simp at h; omega
  · rw [if_neg h]
    refine ⟨Nat.le_refl _, fun p => ?_⟩
    rw [p] at h; simp at h; exact h
theorem fold_max (l : List UInt8) : ∀ (ns : List (List UInt8)) (b : List UInt8), b.length ≤ (ns.foldl (nstep l) b).length ∧ ∀ n ∈ ns, pfx n l = true → n.length ≤ (ns.foldl (nstep l) b).length
  | [], b => ⟨Nat.le_refl _, fun n h => by simp at h⟩
  | m :: ns, b => by
    obtain ⟨h1, h2⟩ := fold_max l ns (nstep l b m)
    obtain ⟨k1, k2⟩ := nstep_max l b m
    refine ⟨Nat.le_trans k1 h1, fun n hn p => ?_⟩
    rcases List.mem_cons.1 hn with rfl | hn
    · exact Nat.le_trans (k2 p) h1
    · exact h2 n hn p
theorem fnm_eq (l : List UInt8) : fnm l = nms.foldl (nstep l) [] := by
  unfold fnm nfold
  rw [List.take_of_length_le (by rw [nms_length]; exact Nat.le_refl _)]
theorem fnm_max (l : List UInt8) (n : List UInt8) (hn : n ∈ nms) (p : pfx n l = true) : n.length ≤ (fnm l).length := by
  rw [fnm_eq]; exact (fold_max l nms []).2 n hn p

theorem fold_congr {l l' : List UInt8} : ∀ (ns : List (List UInt8)) (b : List UInt8), (∀ n ∈ ns, pfx n l' = pfx n l) → ns.foldl (nstep l') b = ns.foldl (nstep l) b
  | [], b, _ => rfl
  | m :: ns, b, h => by
    rw [List.foldl_cons, List.foldl_cons, show nstep l' b m = nstep l b m by unfold nstep; rw [h m (List.mem_cons_self ..)]]
    exact fold_congr ns _ fun n hn => h n (List.mem_cons_of_mem _ hn)
theorem fnm_congr {l l' : List UInt8} (h : ∀ n ∈ nms, pfx n l' = pfx n l) : fnm l' = fnm l := by
  rw [fnm_eq, fnm_eq]; exact fold_congr nms [] h

theorem fold_mem (l : List UInt8) : ∀ (ns : List (List UInt8)) (b : List UInt8), (ns.foldl (nstep l) b = b) ∨ ((ns.foldl (nstep l) b) ∈ ns ∧ pfx (ns.foldl (nstep l) b) l = true)
  | [], b => .inl rfl
  | m :: ns, b => by
    rw [List.foldl_cons]
    rcases fold_mem l ns (nstep l b m) with h | h
    · rw [h]
      unfold nstep
      by_cases k : (decide (b.length < m.length) && pfx m l) = true
      · rw [if_pos k]; simp at k; exact .inr ⟨List.mem_cons_self .., k.2⟩
      · rw [if_neg k]; exact .inl rfl
    · exact .inr ⟨List.mem_cons_of_mem _ h.1, h.2⟩
/-- What a name is that begins here. -/
theorem fnm_is (l : List UInt8) (h : fnm l ≠ []) : fnm l ∈ nms ∧ l.take (fnm l).length = fnm l ∧ (fnm l).length ≤ l.length := by
  rw [fnm_eq] at h ⊢
  rcases fold_mem l nms [] with k | ⟨k1, k2⟩
  · exact absurd k h
  · unfold pfx at k2
    simp at k2
    exact ⟨k1, k2.2, k2.1⟩

theorem nms_up : ∀ n ∈ nms, ∀ c ∈ n, isu c = true := by decide

theorem pfx_sep (n l v : List UInt8) (s : UInt8) (hs : isu s = false) (hn : n ∈ nms) : pfx n (l ++ s :: v) = pfx n l := by
  unfold pfx
  by_cases h : n.length ≤ l.length
  · rw [List.take_append_of_le_length h, decide_eq_true h, decide_eq_true (by rw [List.length_append]; omega)]
  · rw [decide_eq_false h, Bool.false_and]
    by_cases k : (l ++ s :: v).take n.length = n
    · exfalso
      have m : s ∈ (l ++ s :: v).take n.length := by
        rw [List.take_append, List.mem_append]
        refine .inr ?_
        rw [show n.length - l.length = (n.length - l.length - 1) + 1 by omega, List.take_succ_cons]
        exact List.mem_cons_self ..
      rw [k] at m
      rw [nms_up n hn s m] at hs; exact absurd hs (by decide)
    · rw [decide_eq_false k, Bool.and_false]
theorem fnm_sep (l v : List UInt8) (s : UInt8) (hs : isu s = false) : fnm (l ++ s :: v) = fnm l := fnm_congr fun n hn => pfx_sep n l v s hs hn

theorem fnm_take (l : List UInt8) (N : Nat) (h : (fnm l).length ≤ N) : fnm (l.take N) = fnm l := by
  refine fnm_congr fun n hn => ?_
  unfold pfx
  cases p : pfx n l
  · unfold pfx at p
    by_cases k : n.length ≤ (l.take N).length
    · have k1 : n.length ≤ l.length := by rw [List.length_take] at k; omega
      have k2 : n.length ≤ N := by rw [List.length_take] at k; omega
      rw [decide_eq_true k1] at p ⊢
      rw [decide_eq_true k, List.take_take, Nat.min_eq_left k2]
    · rw [decide_eq_false k, Bool.false_and]
      exact p.symm
  · have q := fnm_max l n hn p
    unfold pfx at p
    simp only [Bool.and_eq_true, decide_eq_true_iff] at p
    rw [List.take_take, Nat.min_eq_left (by omega), decide_eq_true p.1, decide_eq_true p.2, decide_eq_true (by rw [List.length_take]; omega)]

theorem nrun_sep (l v : List UInt8) (s : UInt8) (hs : isn s = false) : nrun (l ++ s :: v) = nrun l := by
  induction l with
  | nil => show (if isn s = true then _ else 0) = 0; rw [if_neg (by rw [hs]; decide)]
  | cons c l ih => show (if isn c = true then nrun (l ++ s :: v) + 1 else 0) = if isn c = true then nrun l + 1 else 0; rw [ih]
theorem nrun_take (l : List UInt8) : ∀ N, nrun l ≤ N → nrun (l.take N) = nrun l := by
  induction l with
  | nil => intro N _; simp
  | cons c l ih =>
    intro N h
    have e : ∀ l, nrun (c :: l) = if isn c = true then nrun l + 1 else 0 := fun l => rfl
    cases N with
    | zero => rw [show nrun (c :: l) = 0 by omega]; rfl
    | succ N =>
      rw [List.take_succ_cons, e, e]
      rw [e] at h
      by_cases k : isn c = true
      · rw [if_pos k] at h; rw [if_pos k, if_pos k, ih N (by omega)]
      · rw [if_neg k, if_neg k]

/-- Where a separator follows, what begins is the same. -/
theorem fst_sep (c : UInt8) (t v : List UInt8) (s : UInt8) (h1 : isn s = false) (h2 : isu s = false) : fst ((c :: t) ++ s :: v) = fst (c :: t) := by
  have g : ((c :: t) ++ s :: v).getD 0 0 = (c :: t).getD 0 0 := rfl
  unfold fst fnum
  rw [g, nrun_sep _ _ _ h1, fnm_sep _ _ _ h2, List.take_append_of_le_length (nrun_le _)]
theorem f_m (k n : Int) (x : List UInt8) (m : Nat) : (F.mk k n x m).m = m := rfl
/-- The same where the line ends behind it. -/
theorem fst_take (c : UInt8) (t : List UInt8) (N : Nat) (h : (fst (c :: t)).m ≤ N) (h0 : (fst (c :: t)).m ≠ 0) : fst ((c :: t).take N) = fst (c :: t) := by
  obtain ⟨M, rfl⟩ : ∃ M, N = M + 1 := ⟨N - 1, by omega⟩
  have g : ((c :: t).take (M + 1)).getD 0 0 = c := rfl
  have g' : (c :: t).getD 0 0 = c := rfl
  cases k : isn c
  · cases k2 : isu c
    · cases k3 : isg c
      · rw [fst_no k k2 k3] at h0; exact (h0 (Eq.refl (0 : Nat))).elim
      · rw [fst_sg k k2 k3, List.take_succ_cons, fst_sg k k2 k3]
    · rw [fst_up k k2] at h h0 ⊢
      rw [List.take_succ_cons, fst_up k k2, ← List.take_succ_cons]
      have f : fnm ((c :: t).take (M + 1)) = fnm (c :: t) := fnm_take _ _ (by
        by_cases z : fnm (c :: t) = []
        · rw [z]; exact Nat.zero_le _
        · rw [if_neg z, f_m] at h; exact h)
      rw [f]
  · have e : fst (c :: t) = fnum (c :: t) := fst_num k
    have e2 : fst ((c :: t).take (M + 1)) = fnum ((c :: t).take (M + 1)) := by rw [List.take_succ_cons]; exact fst_num k
    rw [e] at h h0 ⊢
    rw [e2]
    unfold fnum at h h0 ⊢
    by_cases p : pok ((c :: t).take (nrun (c :: t))) = true
    · rw [if_pos p] at h
      have r := nrun_take (c :: t) (M + 1) h
      rw [r, List.take_take, Nat.min_eq_left h]
    · rw [if_neg p] at h0; exact (h0 (Eq.refl (0 : Nat))).elim

/-! ### what an act may be -/

def plain (c : UInt8) : Prop := ws c = false ∧ c ≠ 59 ∧ c ≠ 40

theorem act_cases (c : UInt8) (t : List UInt8) : (ws c = true ∧ act c t = .skip 0) ∨ (c = 59 ∧ act c t = .skip t.length) ∨ (c = 40 ∧ act c t = .bad) ∨
    (c = 40 ∧ ∃ j : Nat, Lib.indexByte t 41 = j ∧ j < t.length ∧ act c t = .skip (j + 1)) ∨ (plain c ∧ (fst (c :: t)).m = 0 ∧ act c t = .bad) ∨ (plain c ∧ (fst (c :: t)).m ≠ 0 ∧ act c t = .tok (fst (c :: t))) := by
  cases hw : ws c
  · by_cases h : c = 59
    · exact .inr (.inl ⟨h, by rw [h]; exact act_semi⟩)
    · by_cases h2 : c = 40
      · have e : act c t = if Lib.indexByte t 41 = -1 then .bad else .skip ((Lib.indexByte t 41).toNat + 1) := by rw [h2]; exact act_open
        by_cases k : Lib.indexByte t 41 = -1
        · rw [if_pos k] at e
          exact .inr (.inr (.inl ⟨h2, e⟩))
        · rw [if_neg k] at e
          have g := Lib.indexByte_ge t 41
          have l := index_le t 41
          exact .inr (.inr (.inr (.inl ⟨h2, (Lib.indexByte t 41).toNat, by omega, by omega, e⟩)))
      · have e := act_first (t := t) hw h h2
        by_cases m : (fst (c :: t)).m = 0
        · rw [if_pos m] at e
          exact .inr (.inr (.inr (.inr (.inl ⟨⟨hw, h, h2⟩, m, e⟩))))
        · rw [if_neg m] at e
          exact .inr (.inr (.inr (.inr (.inr ⟨⟨hw, h, h2⟩, m, e⟩))))
  · exact .inl ⟨rfl, act_ws hw⟩

theorem act_plain {c : UInt8} {t : List UInt8} (h : plain c) (m : (fst (c :: t)).m ≠ 0) : act c t = .tok (fst (c :: t)) := by
  rw [act_first h.1 h.2.1 h.2.2, if_neg m]

/-- A space or a tab. -/
def sep (s : UInt8) : Prop := ws s = true ∧ isn s = false ∧ isu s = false
theorem sep32 : sep 32 := by refine ⟨?_, ?_, ?_⟩ <;> decide
theorem sep9 : sep 9 := by refine ⟨?_, ?_, ?_⟩ <;> decide

/-- Two lines with a separator between them. -/
theorem lx_join_aux (s : UInt8) (v : List UInt8) (hs : sep s) : ∀ (n : Nat) (u : List UInt8), u.length ≤ n → (∀ c ∈ u, c ≠ 59) → ∀ a ts, lx u a = .ok ts → lx (u ++ s :: v) a = (lx v (a + u.length + 1)).pre ts
  | n, [], _, _, a, ts, h => by
    rw [lx_nil] at h
    injection h with h
    subst h
    rw [List.nil_append, lx_skip (act_ws hs.1), pre_nil]; rfl
  | 0, c :: t, h, _, _, _, _ => by simp at h
  | n + 1, c :: t, hl, h59, a, ts, h => by
    simp at hl
    have h59t : ∀ k, ∀ x ∈ t.drop k, x ≠ 59 := fun k x hx => h59 x (List.mem_cons_of_mem _ (List.mem_of_mem_drop hx))
    rcases act_cases c t with ⟨w, e⟩ | ⟨w, e⟩ | ⟨w, e⟩ | ⟨w, j, hj, jl, e⟩ | ⟨w, m, e⟩ | ⟨w, m, e⟩
    · rw [lx_skip e] at h
      rw [List.cons_append, lx_skip (act_ws w)]
      have r := lx_join_aux s v hs n t (by omega) (fun x hx => h59 x (List.mem_cons_of_mem _ hx)) _ _ h
      rw [List.drop_zero, r, List.length_cons]
      congr 2; omega
    · exact absurd w (h59 c (List.mem_cons_self ..))
    · rw [lx_bad e] at h; cases h
    · rw [lx_skip e] at h
      have e2 : act c (t ++ s :: v) = .skip (j + 1) := by
        rw [w, act_open, index_append t _ 41 (by omega), hj, if_neg (by omega)]; rfl
      have r := lx_join_aux s v hs n (t.drop (j + 1)) (by simp; omega) (h59t _) _ _ h
      rw [List.cons_append, lx_skip e2, List.drop_append_of_le_length (by omega), r, List.length_cons, List.length_drop]
      congr 2; omega
    · rw [lx_bad e] at h; cases h
    · rw [lx_tok e] at h
      have fl := fst_le (c :: t) (by simp)
      have fs : fst (c :: (t ++ s :: v)) = fst (c :: t) := fst_sep c t v s hs.2.1 hs.2.2
      have e2 := act_plain (t := t ++ s :: v) w (by rw [fs]; exact m)
      rw [fs] at e2
      simp at fl
      rw [List.cons_append, lx_tok e2, List.drop_append_of_le_length (by omega)]
      cases q : lx (t.drop ((fst (c :: t)).m - 1)) (a + (fst (c :: t)).m) with
      | bad b => rw [q] at h; cases h
      | ok us =>
        rw [q] at h
        injection h with h
        rw [lx_join_aux s v hs n _ (by simp; omega) (h59t _) _ _ q, pre_pre, h, List.length_cons, List.length_drop]
        congr 2; omega

theorem lx_join {s : UInt8} {u v : List UInt8} (hs : sep s) (h59 : ∀ c ∈ u, c ≠ 59) {a : Nat} {ts : List Tok} (h : lx u a = .ok ts) : lx (u ++ s :: v) a = (lx v (a + u.length + 1)).pre ts :=
  lx_join_aux s v hs u.length u (Nat.le_refl _) h59 a ts h

/-! ### one token after the other -/

/-- The next token, and what stands before it. -/
theorem lx_next_aux (l : List UInt8) : ∀ (n a : Nat), a ≤ l.length → l.length - a ≤ n → ∀ t r, lx (l.drop a) a = .ok (t :: r) →
    a ≤ t.p ∧ ∃ hp : t.p < l.length, plain l[t.p] ∧ (fst (l.drop t.p)).m ≠ 0 ∧ t = ⟨(fst (l.drop t.p)).k, (fst (l.drop t.p)).n, t.p, (fst (l.drop t.p)).x⟩ ∧
      lx (l.drop (t.p + (fst (l.drop t.p)).m)) (t.p + (fst (l.drop t.p)).m) = .ok r ∧ ∀ b, lx ((l.drop a).take (t.p - a)) b = .ok []
  | n, a, ha, hn, t, r, h => by
    by_cases hlt : a < l.length
    · have dl : l.drop a = l[a] :: l.drop (a + 1) := List.drop_eq_getElem_cons hlt
      have go1 : ∀ k, a + 1 + k ≤ l.length → lx (l.drop (a + 1 + k)) (a + 1 + k) = .ok (t :: r) → (∀ N, k + 1 ≤ N → ∃ k', act l[a] ((l.drop (a + 1)).take (N - 1)) = .skip k ∧ k' = k) →
          a ≤ t.p ∧ ∃ hp : t.p < l.length, plain l[t.p] ∧ (fst (l.drop t.p)).m ≠ 0 ∧ t = ⟨(fst (l.drop t.p)).k, (fst (l.drop t.p)).n, t.p, (fst (l.drop t.p)).x⟩ ∧
            lx (l.drop (t.p + (fst (l.drop t.p)).m)) (t.p + (fst (l.drop t.p)).m) = .ok r ∧ ∀ b, lx ((l.drop a).take (t.p - a)) b = .ok [] := by
        intro k hk hh hs
        match n, hn with
        | 0, hn => omega
        | n + 1, hn =>
          obtain ⟨i1, i2, i3, i4, i5, i6, i7⟩ := lx_next_aux l n (a + 1 + k) hk (by omega) t r hh
          refine ⟨by omega, i2, i3, i4, i5, i6, fun b => ?_⟩
          obtain ⟨k', hs, _⟩ := hs (t.p - a) (by omega)
          rw [dl, show t.p - a = (t.p - a - 1) + 1 by omega, List.take_succ_cons, lx_skip hs, List.drop_take, List.drop_drop]
          have := i7 (b + 1 + k)
          rw [show t.p - a - 1 - k = t.p - (a + 1 + k) by omega]
          exact this
      rcases act_cases l[a] (l.drop (a + 1)) with ⟨w, e⟩ | ⟨w, e⟩ | ⟨w, e⟩ | ⟨w, j, hj, jl, e⟩ | ⟨w, m, e⟩ | ⟨w, m, e⟩
      · rw [dl, lx_skip e, List.drop_drop] at h
        exact go1 0 (by omega) h fun N _ => ⟨0, act_ws w, rfl⟩
      · rw [dl, lx_skip e, List.drop_length, lx_nil] at h; cases h
      · rw [dl, lx_bad e] at h; cases h
      · rw [dl, lx_skip e, List.drop_drop] at h
        rw [List.length_drop] at jl
        exact go1 (j + 1) (by omega) h fun N hN => ⟨j + 1, by
          rw [w, act_open, index_take _ 41 (N - 1) (by omega) (by omega), hj, if_neg (by omega)]; rfl, rfl⟩
      · rw [dl, lx_bad e] at h; cases h
      · have m1 := m
        rw [← dl] at m1 e
        rw [dl, lx_tok (by rw [dl] at e; exact e), List.drop_drop, ← dl] at h
        cases q : lx (l.drop (a + 1 + ((fst (l.drop a)).m - 1))) (a + (fst (l.drop a)).m) with
        | bad b => rw [q] at h; cases h
        | ok us =>
          rw [q] at h
          injection h with h
          injection h with h1 h2
          have tp : t.p = a := by rw [← h1]
          refine ⟨by omega, by omega, ?_⟩
          simp only [tp]
          refine ⟨w, m1, h1.symm, ?_, fun b => by rw [Nat.sub_self, List.take_zero, lx_nil]⟩
          rw [← show us = r from h2, ← q, show a + 1 + ((fst (l.drop a)).m - 1) = a + (fst (l.drop a)).m by omega]
    · rw [List.drop_eq_nil_of_le (by omega), lx_nil] at h; cases h

theorem lx_next {l : List UInt8} {a : Nat} (ha : a ≤ l.length) {t : Tok} {r : List Tok} (h : lx (l.drop a) a = .ok (t :: r)) :
    a ≤ t.p ∧ ∃ hp : t.p < l.length, plain l[t.p] ∧ (fst (l.drop t.p)).m ≠ 0 ∧ t = ⟨(fst (l.drop t.p)).k, (fst (l.drop t.p)).n, t.p, (fst (l.drop t.p)).x⟩ ∧
      lx (l.drop (t.p + (fst (l.drop t.p)).m)) (t.p + (fst (l.drop t.p)).m) = .ok r ∧ ∀ b, lx ((l.drop a).take (t.p - a)) b = .ok [] :=
  lx_next_aux l (l.length - a) a ha (Nat.le_refl _) t r h

end Lx
end Go.Proofs.YtlinfdgmebogbaaDoor
