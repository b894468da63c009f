import Derived.Test.YtlgdjbabbfdngaaDoorZSP4
import Derived.Test.YtlgdjbabbfdngaaDoorZSP5
set_option linter.unusedVariables false
set_option linter.unusedSimpArgs false
namespace Go.Proofs.YtlgdjbabbfdngaaDoor
namespace Lb
open Sy
def kdL (l : List Bl) (k : Nat) : Int := match l[k]? with | some b => b.kind | none => 0
def nnL (l : List Bl) (k : Nat) : Int := match l[k]? with | some b => b.n | none => 0
def mt (s : St) (k : Nat) : Int := s.mate.getD k (-1)
theorem kdL_old {l : List Bl} (b : Bl) {k : Nat} (h : k < l.length) : kdL (l ++ [b]) k = kdL l k := by unfold kdL; rw [List.getElem?_append_left h]
theorem nnL_old {l : List Bl} (b : Bl) {k : Nat} (h : k < l.length) : nnL (l ++ [b]) k = nnL l k := by unfold nnL; rw [List.getElem?_append_left h]
theorem kdL_new (l : List Bl) (b : Bl) : kdL (l ++ [b]) l.length = b.kind := by unfold kdL; simp
theorem nnL_new (l : List Bl) (b : Bl) : nnL (l ++ [b]) l.length = b.n := by unfold nnL; simp
structure Mi (l : List Bl) (s : St) : Prop where
  hi : s.i = l.length
  hm : s.mate.length = l.length
  op : ∀ q ∈ s.op, q.1 < l.length ∧ kdL l q.1 = 4 ∧ nnL l q.1 = q.2 ∧ mt s q.1 = -1
  srt : s.op.Pairwise (fun a b => b.1 < a.1)
  no : ∀ k, k < l.length → kdL l k ≠ 4 → kdL l k ≠ 5 → mt s k = -1
  wh : ∀ k, k < l.length → kdL l k = 4 → (mt s k = -1 ∧ ∃ n, (k, n) ∈ s.op) ∨ (∃ m : Nat, m < l.length ∧ k < m ∧ mt s k = m ∧ kdL l m = 5 ∧ mt s m = k ∧ nnL l m = nnL l k)
  en : ∀ k, k < l.length → kdL l k = 5 → ∃ m : Nat, m < k ∧ mt s k = m ∧ kdL l m = 4 ∧ mt s m = k
  cr : ∀ q ∈ s.op, ∀ k, q.1 < k → k < l.length → 0 ≤ mt s k → (q.1 : Int) < mt s k
  cx : ∀ a b : Nat, a < b → mt s a = b → ∀ k, a < k → k < b → 0 ≤ mt s k → (a : Int) ≤ mt s k ∧ mt s k ≤ b
theorem Mi.start : Mi [] st0 := ⟨rfl, rfl, fun q hq => by simp [st0] at hq, by simp [st0], fun k h => by simp at h, fun k h => by simp at h, fun k h => by simp at h, fun q hq => by simp [st0] at hq, fun a b _ h => by simp [mt, st0] at h⟩
theorem Mi.lt {l : List Bl} {s : St} (h : Mi l s) {k : Nat} : mt s k < l.length := by
  by_cases hk : k < l.length
  · by_cases h4 : kdL l k = 4
    · rcases h.wh k hk h4 with ⟨e, _⟩ | ⟨m, m1, _, e, _⟩
      · omega
      · omega
    · by_cases h5 : kdL l k = 5
      · obtain ⟨m, m1, e, _⟩ := h.en k hk h5
        omega
      · have := h.no k hk h4 h5
        omega
  · unfold mt
    rw [List.getD_eq_getElem?_getD, List.getElem?_eq_none (by rw [h.hm]; omega)]
    show (-1 : Int) < _
    omega
theorem loopS_keep {b : Bl} {s : St} {pg : List Pg} {lab : List Int} {s' : St} (h : loopS b { s with pg := pg, lab := lab } = .ok s') : ∃ s1, loopS b s = .ok s1 ∧ s1.i = s'.i ∧ s1.op = s'.op ∧ s1.mate = s'.mate ∧ s'.pg = pg ∧ s'.lab = lab := by
  unfold loopS at h ⊢
  by_cases h4 : b.kind = 4
  · rw [if_pos h4] at h ⊢
    simp only at h
    by_cases ha : s.op.any (fun p => p.2 == b.n) = true
    · rw [if_pos ha] at h; cases h
    · rw [if_neg ha] at h ⊢
      injection h with h; subst h
      exact ⟨_, rfl, rfl, rfl, rfl, rfl, rfl⟩
  · rw [if_neg h4] at h ⊢
    by_cases h5 : b.kind = 5
    · rw [if_pos h5] at h ⊢
      cases ho : s.op with
      | nil => simp only [ho] at h; cases h
      | cons q r =>
        obtain ⟨j, n⟩ := q
        simp only [ho] at h ⊢
        by_cases hn : n = b.n
        · rw [if_pos hn] at h ⊢
          injection h with h; subst h
          exact ⟨_, rfl, rfl, rfl, rfl, rfl, rfl⟩
        · rw [if_neg hn] at h; cases h
    · rw [if_neg h5] at h ⊢
      injection h with h; subst h
      exact ⟨_, rfl, rfl, rfl, rfl, rfl, rfl⟩
theorem Mi.same {l : List Bl} {s s' : St} (h : Mi l s) (h1 : s.i = s'.i) (h2 : s.op = s'.op) (h3 : s.mate = s'.mate) : Mi l s' := by
  have e : ∀ k, mt s' k = mt s k := fun k => by unfold mt; rw [h3]
  obtain ⟨a1, a2, a3, a4, a5, a6, a7, a8, a9⟩ := h
  refine ⟨h1 ▸ a1, h3 ▸ a2, ?_, h2 ▸ a4, ?_, ?_, ?_, ?_, ?_⟩
  · intro q hq; rw [e]; exact a3 q (h2 ▸ hq)
  · intro k; rw [e]; exact a5 k
  · intro k hk h4
    rw [e]
    rcases a6 k hk h4 with ⟨x, n, y⟩ | ⟨m, x⟩
    · exact .inl ⟨x, n, h2 ▸ y⟩
    · exact .inr ⟨m, by rw [e]; exact x⟩
  · intro k hk h5
    obtain ⟨m, x⟩ := a7 k hk h5
    exact ⟨m, by rw [e, e]; exact x⟩
  · intro q hq k; rw [e]; exact a8 q (h2 ▸ hq) k
  · intro a b hab; rw [e]; intro hm k; rw [e]; exact a9 a b hab hm k
theorem mt_app {s s' : St} {x : Int} (h : s'.mate = s.mate ++ [x]) {k : Nat} (hk : k < s.mate.length) : mt s' k = mt s k := by
  unfold mt; rw [h, List.getD_eq_getElem?_getD, List.getD_eq_getElem?_getD, List.getElem?_append_left hk]
theorem mt_last {s s' : St} {x : Int} (h : s'.mate = s.mate ++ [x]) : mt s' s.mate.length = x := by
  unfold mt; rw [h, List.getD_eq_getElem?_getD]; simp
theorem Mi.grow {l : List Bl} {s s' : St} {b : Bl} (h : Mi l s) (h1 : s'.i = s.i + 1) (h3 : s'.mate = s.mate ++ [-1]) (ho : (b.kind ≠ 4 ∧ b.kind ≠ 5 ∧ s'.op = s.op) ∨ (b.kind = 4 ∧ s'.op = (s.i, b.n) :: s.op)) : Mi (l ++ [b]) s' := by
  have hl : (l ++ [b]).length = l.length + 1 := by simp
  have old : ∀ k, k < l.length → mt s' k = mt s k := fun k hk => mt_app h3 (by rw [h.hm]; exact hk)
  have new : mt s' l.length = -1 := by rw [← h.hm]; exact mt_last h3
  have far : ∀ k, l.length ≤ k → mt s' k = -1 := fun k hk => by
    by_cases c : k = l.length
    · rw [c]; exact new
    · unfold mt
      rw [List.getD_eq_getElem?_getD, List.getElem?_eq_none (by rw [h3]; simp; have := h.hm; omega)]; rfl
  have k5 : b.kind ≠ 5 := by rcases ho with ho | ho <;> omega
  have opq : ∀ q ∈ s'.op, (q ∈ s.op) ∨ (b.kind = 4 ∧ q = (l.length, b.n)) := fun q hq => by
    rcases ho with ⟨_, _, e⟩ | ⟨e4, e⟩
    · rw [e] at hq; exact .inl hq
    · rw [e] at hq
      rcases List.mem_cons.1 hq with rfl | hq
      · exact .inr ⟨e4, by rw [h.hi]⟩
      · exact .inl hq
  refine ⟨by rw [h1, h.hi, hl], by rw [h3]; simp [h.hm], ?_, ?_, ?_, ?_, ?_, ?_, ?_⟩
  · intro q hq
    rcases opq q hq with hq | ⟨h4, rfl⟩
    · obtain ⟨x1, x2, x3, x4⟩ := h.op q hq
      exact ⟨by rw [hl]; omega, by rw [kdL_old b x1]; exact x2, by rw [nnL_old b x1]; exact x3, by rw [old _ x1]; exact x4⟩
    · exact ⟨by rw [hl]; exact Nat.lt_succ_self _, by rw [kdL_new]; exact h4, nnL_new l b, new⟩
  · rcases ho with ⟨_, _, e⟩ | ⟨_, e⟩
    · rw [e]; exact h.srt
    · rw [e]
      exact List.Pairwise.cons (fun q hq => by rw [h.hi]; exact (h.op q hq).1) h.srt
  · intro k hk a4 a5
    by_cases c : k < l.length
    · rw [kdL_old b c] at a4 a5; rw [old k c]; exact h.no k c a4 a5
    · exact far k (by omega)
  · intro k hk a4
    by_cases c : k < l.length
    · rw [kdL_old b c] at a4
      rcases h.wh k c a4 with ⟨x, n, y⟩ | ⟨m, m1, m2, m3, m4, m5, m6⟩
      · refine .inl ⟨by rw [old k c]; exact x, n, ?_⟩
        rcases ho with ⟨_, _, e⟩ | ⟨_, e⟩
        · rw [e]; exact y
        · rw [e]; exact List.mem_cons_of_mem _ y
      · exact .inr ⟨m, by rw [hl]; omega, m2, by rw [old k c]; exact m3, by rw [kdL_old b m1]; exact m4, by rw [old m m1]; exact m5, by rw [nnL_old b m1, nnL_old b c]; exact m6⟩
    · obtain rfl : k = l.length := by rw [hl] at hk; omega
      rw [kdL_new] at a4
      rcases ho with ⟨e4, _⟩ | ⟨_, e⟩
      · exact absurd a4 e4
      · exact .inl ⟨new, b.n, by rw [e, h.hi]; exact List.mem_cons_self ..⟩
  · intro k hk a5
    by_cases c : k < l.length
    · rw [kdL_old b c] at a5
      obtain ⟨m, m1, m2, m3, m4⟩ := h.en k c a5
      exact ⟨m, m1, by rw [old k c]; exact m2, by rw [kdL_old b (by omega)]; exact m3, by rw [old m (by omega)]; exact m4⟩
    · obtain rfl : k = l.length := by rw [hl] at hk; omega
      rw [kdL_new] at a5
      exact absurd a5 k5
  · intro q hq k x1 x2 x3
    by_cases c : k < l.length
    · rw [old k c] at x3 ⊢
      rcases opq q hq with hq | ⟨_, rfl⟩
      · exact h.cr q hq k x1 c x3
      · exact absurd x1 (by show ¬ l.length < k; omega)
    · rw [far k (by omega)] at x3; omega
  · intro a c hac hm k x1 x2 x3
    have ca : a < l.length := by
      rcases Nat.lt_or_ge a l.length with g | g
      · exact g
      · rw [far a g] at hm; omega
    rw [old a ca] at hm
    have cc : c < l.length := by have := h.lt (k := a); omega
    rw [old k (by omega)] at x3 ⊢
    exact h.cx a c hac hm k x1 x2 x3
theorem Mi.close {l : List Bl} {s s' : St} {b : Bl} (h : Mi l s) {j : Nat} {r : List (Nat × Int)} (h5 : b.kind = 5) (ho : s.op = (j, b.n) :: r) (h1 : s'.i = s.i + 1) (h2 : s'.op = r) (h3 : s'.mate = (s.mate ++ [(j : Int)]).set j s.i) : Mi (l ++ [b]) s' := by
  have hl : (l ++ [b]).length = l.length + 1 := by simp
  obtain ⟨j1, j2, j3, j4⟩ := h.op (j, b.n) (by rw [ho]; exact List.mem_cons_self ..)
  simp only at j1 j2 j3 j4
  have srt := h.srt
  rw [ho] at srt
  obtain ⟨sr1, sr2⟩ := List.pairwise_cons.1 srt
  have hj : mt s' j = l.length := by
    unfold mt
    rw [h3, List.getD_eq_getElem?_getD, List.getElem?_set, if_pos rfl, if_pos (by simp [h.hm]; omega), h.hi]; rfl
  have old : ∀ k, k < l.length → k ≠ j → mt s' k = mt s k := fun k hk hne => by
    unfold mt
    rw [h3, List.getD_eq_getElem?_getD, List.getD_eq_getElem?_getD, List.getElem?_set, if_neg (Ne.symm hne), List.getElem?_append_left (by rw [h.hm]; exact hk)]
  have new : mt s' l.length = j := by
    unfold mt
    rw [h3, List.getD_eq_getElem?_getD, List.getElem?_set, if_neg (by omega), ← h.hm]
    simp
  have far : ∀ k, l.length < k → mt s' k = -1 := fun k hk => by
    unfold mt
    rw [List.getD_eq_getElem?_getD, List.getElem?_eq_none (by rw [h3]; simp; have := h.hm; omega)]; rfl
  -- whose mate is j, or who is j
  have nj : ∀ k, k < l.length → mt s k ≠ j := fun k hk e => by
    by_cases a4 : kdL l k = 4
    · rcases h.wh k hk a4 with ⟨x, _⟩ | ⟨m, _, _, m3, m4, _⟩
      · omega
      · have : m = j := by omega
        rw [this] at m4; omega
    · by_cases a5 : kdL l k = 5
      · obtain ⟨m, m1, m2, m3, m4⟩ := h.en k hk a5
        have : m = j := by omega
        rw [this, j4] at m4; omega
      · have := h.no k hk a4 a5; omega
  refine ⟨by rw [h1, h.hi, hl], by rw [h3]; simp [h.hm], ?_, by rw [h2]; exact sr2, ?_, ?_, ?_, ?_, ?_⟩
  · intro q hq
    rw [h2] at hq
    obtain ⟨x1, x2, x3, x4⟩ := h.op q (by rw [ho]; exact List.mem_cons_of_mem _ hq)
    have := sr1 q hq
    exact ⟨by rw [hl]; omega, by rw [kdL_old b x1]; exact x2, by rw [nnL_old b x1]; exact x3, by rw [old _ x1 (by simp only at this; omega)]; exact x4⟩
  · intro k hk a4 a5
    by_cases c : k < l.length
    · rw [kdL_old b c] at a4 a5
      have : k ≠ j := fun e => a4 (by rw [e]; exact j2)
      rw [old k c this]; exact h.no k c a4 a5
    · obtain rfl : k = l.length := by rw [hl] at hk; omega
      rw [kdL_new] at a5
      exact absurd h5 a5
  · intro k hk a4
    by_cases c : k < l.length
    · rw [kdL_old b c] at a4
      by_cases e : k = j
      · subst e
        exact .inr ⟨l.length, by rw [hl]; exact Nat.lt_succ_self _, c, hj, by rw [kdL_new]; exact h5, new, by rw [nnL_new, nnL_old b c]; exact j3.symm⟩
      · rcases h.wh k c a4 with ⟨x, n, y⟩ | ⟨m, m1, m2, m3, m4, m5, m6⟩
        · refine .inl ⟨by rw [old k c e]; exact x, n, ?_⟩
          rw [ho] at y
          rcases List.mem_cons.1 y with y | y
          · exact absurd (congrArg Prod.fst y) e
          · rw [h2]; exact y
        · have mj : m ≠ j := fun g => by rw [g] at m4; omega
          exact .inr ⟨m, by rw [hl]; omega, m2, by rw [old k c e]; exact m3, by rw [kdL_old b m1]; exact m4, by rw [old m m1 mj]; exact m5, by rw [nnL_old b m1, nnL_old b c]; exact m6⟩
    · obtain rfl : k = l.length := by rw [hl] at hk; omega
      rw [kdL_new] at a4
      omega
  · intro k hk a5
    by_cases c : k < l.length
    · rw [kdL_old b c] at a5
      obtain ⟨m, m1, m2, m3, m4⟩ := h.en k c a5
      have e : k ≠ j := fun g => by rw [g] at a5; omega
      have mj : m ≠ j := fun g => nj k c (by rw [m2, g])
      exact ⟨m, m1, by rw [old k c e]; exact m2, by rw [kdL_old b (by omega)]; exact m3, by rw [old m (by omega) mj]; exact m4⟩
    · obtain rfl : k = l.length := by rw [hl] at hk; omega
      exact ⟨j, j1, new, by rw [kdL_old b j1]; exact j2, hj⟩
  · intro q hq k x1 x2 x3
    rw [h2] at hq
    have hq' : q ∈ s.op := by rw [ho]; exact List.mem_cons_of_mem _ hq
    have qj := sr1 q hq
    simp only at qj
    by_cases c : k < l.length
    · by_cases e : k = j
      · rw [e, hj]; have := (h.op q hq').1; omega
      · rw [old k c e] at x3 ⊢
        exact h.cr q hq' k x1 c x3
    · obtain rfl : k = l.length := by rw [hl] at x2; omega
      rw [new]; omega
  · intro a c hac hm k x1 x2 x3
    by_cases ea : a = j
    · subst ea
      rw [hj] at hm
      obtain rfl : c = l.length := by omega
      rw [old k x2 (by omega)] at x3 ⊢
      have := h.cr (a, b.n) (by rw [ho]; exact List.mem_cons_self ..) k x1 x2 x3
      have := h.lt (k := k)
      simp only at *
      omega
    · have ca : a < l.length := by
        rcases Nat.lt_trichotomy a l.length with g | g | g
        · exact g
        · rw [g, new] at hm; omega
        · rw [far a g] at hm; omega
      rw [old a ca ea] at hm
      have cc : c < l.length := by have := h.lt (k := a); omega
      by_cases ek : k = j
      · -- the loop that ends lies within a complete one: no
        exfalso
        subst ek
        -- a's loop is closed by c, k lies between and is open
        have a4 : kdL l a = 4 := by
          by_cases g4 : kdL l a = 4
          · exact g4
          · by_cases g5 : kdL l a = 5
            · obtain ⟨m, m1, m2, _⟩ := h.en a ca g5
              omega
            · have := h.no a ca g4 g5; omega
        have hc5 : kdL l c = 5 ∧ mt s c = a := by
          rcases h.wh a ca a4 with ⟨g, _⟩ | ⟨m, m1, m2, m3, m4, m5, _⟩
          · omega
          · have : m = c := by omega
            subst this; exact ⟨m4, m5⟩
        have := h.cr (k, b.n) (by rw [ho]; exact List.mem_cons_self ..) c x2 cc (by rw [hc5.2]; omega)
        rw [hc5.2] at this
        simp only at this
        omega
      · rw [old k (by omega) ek] at x3 ⊢
        exact h.cx a c hac hm k x1 x2 x3
theorem Mi.step {l : List Bl} {s s' : St} {b : Bl} (h : Mi l s) (k : stepS b s = .ok s') : Mi (l ++ [b]) s' := by
  unfold stepS at k
  have p : ∀ s1, pgS b s = .ok s1 → s1.i = s.i ∧ s1.op = s.op ∧ s1.mate = s.mate := by
    intro s1 e
    unfold pgS at e
    by_cases h6 : b.kind = 6
    · rw [if_pos h6] at e
      cases ho : s.op with
      | nil =>
        simp only [ho] at e
        split at e
        · cases e
        · injection e with e; subst e; exact ⟨rfl, ho ▸ rfl, rfl⟩
      | cons q r => simp only [ho] at e; cases e
    · rw [if_neg h6] at e; injection e with e; subst e; exact ⟨rfl, rfl, rfl⟩
  have q : ∀ s1 s2, labS b s1 = .ok s2 → s2.i = s1.i ∧ s2.op = s1.op ∧ s2.mate = s1.mate := by
    intro s1 s2 e
    unfold labS at e
    split at e
    · split at e
      · cases e
      · injection e with e; subst e; exact ⟨rfl, rfl, rfl⟩
    · injection e with e; subst e; exact ⟨rfl, rfl, rfl⟩
  cases e1 : pgS b s with
  | bad j e => rw [e1] at k; cases k
  | ok s1 =>
    rw [e1] at k
    simp only at k
    cases e2 : labS b s1 with
    | bad j e => rw [e2] at k; cases k
    | ok s2 =>
      rw [e2] at k
      simp only at k
      obtain ⟨p1, p2, p3⟩ := p s1 e1
      obtain ⟨q1, q2, q3⟩ := q s1 s2 e2
      have h2 : Mi l s2 := h.same (by rw [q1, p1]) (by rw [q2, p2]) (by rw [q3, p3])
      obtain ⟨s3, k1, f1, f2, f3, _, _⟩ := loopS_keep (s := s2) (pg := more s2.i s2.pg) (lab := s2.lab) k
      refine Mi.same ?_ f1 f2 f3
      unfold loopS at k1
      by_cases h4 : b.kind = 4
      · rw [if_pos h4] at k1
        split at k1
        · cases k1
        · injection k1 with k1; subst k1
          exact h2.grow rfl rfl (.inr ⟨h4, rfl⟩)
      · rw [if_neg h4] at k1
        by_cases h5 : b.kind = 5
        · rw [if_pos h5] at k1
          cases ho : s2.op with
          | nil => simp only [ho] at k1; cases k1
          | cons q r =>
            obtain ⟨j, n⟩ := q
            simp only [ho] at k1
            split at k1
            · rename_i hn
              injection k1 with k1; subst k1
              exact h2.close h5 (by rw [ho, hn]) rfl rfl rfl
            · cases k1
        · rw [if_neg h5] at k1
          injection k1 with k1; subst k1
          exact h2.grow rfl rfl (.inl ⟨h4, h5, rfl⟩)
theorem Mi.run {l : List Bl} : ∀ {r : List Bl} {s s' : St}, Mi l s → Lb.run r s = .ok s' → Mi (l ++ r) s' := by
  intro r
  induction r generalizing l with
  | nil => intro s s' h k; injection k with k; subst k; rw [List.append_nil]; exact h
  | cons b r ih =>
    intro s s' h k
    unfold Lb.run at k
    cases e : stepS b s with
    | bad j x => rw [e] at k; cases k
    | ok s1 =>
      rw [e] at k
      have := ih (l := l ++ [b]) (h.step e) k
      rwa [List.append_assoc] at this
end Lb
end Go.Proofs.YtlgdjbabbfdngaaDoor
set_option linter.unusedVariables false
set_option linter.unusedSimpArgs false
namespace Go.Proofs.YtlgdjbabbfdngaaDoor
open Go.RowKit
namespace Lb
open Sy
theorem kds_le (o : Nat) : kds o ≤ 2 := by
  unfold kds
  rw [List.getD_eq_getElem?_getD]
  by_cases h : o < kdsl.length
  · rw [List.getElem?_eq_getElem h]
    have : ∀ k ∈ kdsl, k ≤ 2 := by decide
    exact this _ (List.getElem_mem h)
  · rw [List.getElem?_eq_none (by omega)]; decide
theorem smx_of : ∀ x : Ex, okx x = true → Smx x := by
  refine Ex.ind fun op n ks ih h => ?_
  rw [okx_mk, Bool.and_eq_true] at h
  obtain ⟨h1, h2⟩ := h
  unfold nodeB at h1
  simp only [Bool.and_eq_true] at h1
  have h3 : ks.length = kds op.toNat := of_decide_eq_true h1.1.2
  refine .mk op n ks (by have := kds_le op.toNat; omega) fun k hk => ih k hk (List.all_eq_true.1 h2 k hk)
theorem smx_none {x : Ex} (h : noneB x = true) : Smx x := by rw [noneB_eq h]; exact .mk 0 0 [] (by simp) (by simp)
theorem vld_all {b : Bl} (h : vldb b = true) : Smb b ∧ 0 ≤ b.label ∧ b.label ≤ 99999 ∧ -100000 ≤ b.n ∧ b.n ≤ 100000 := by
  obtain ⟨h1, h2⟩ := by unfold vldb at h; simpa only [Bool.and_eq_true] using h
  have hl : b.words.length ≤ 24 := by unfold limb at h2; simp only [Bool.and_eq_true] at h2; exact of_decide_eq_true h2.1.1.1
  unfold okb at h1
  simp only [Bool.and_eq_true, Bool.or_eq_true] at h1
  obtain ⟨h3, h4⟩ := h1
  have lab : 0 ≤ b.label ∧ b.label ≤ 99999 := by
    rcases h3 with h3 | h3
    · have := of_decide_eq_true h3; omega
    · unfold cnt at h3; simp only [Bool.and_eq_true, decide_eq_true_eq] at h3; omega
  split at h4
  · simp only [Bool.and_eq_true, decide_eq_true_eq] at h4
    obtain ⟨⟨⟨w1, w2⟩, w3⟩, w4⟩ := h4
    exact ⟨⟨by omega, fun k hk => smx_of _ (by have := List.all_eq_true.1 w1 k hk; simp only [Bool.and_eq_true] at this; exact this.2), smx_none w2, smx_none w3⟩, lab.1, lab.2, by omega, by omega⟩
  · simp only [Bool.and_eq_true, decide_eq_true_eq] at h4
    obtain ⟨e, h5⟩ := h4
    have ws : ∀ k ∈ b.words, Smx k.2 := by rw [e]; simp
    have fin : Smx b.left → Smx b.x → (-100000 ≤ b.n ∧ b.n ≤ 100000) → Smb b ∧ 0 ≤ b.label ∧ b.label ≤ 99999 ∧ -100000 ≤ b.n ∧ b.n ≤ 100000 := fun a c d => ⟨⟨by omega, ws, a, c⟩, lab.1, lab.2, d.1, d.2⟩
    have cn : ∀ m : Nat, m ≤ 100000 → cnt b.n m = true → -100000 ≤ b.n ∧ b.n ≤ 100000 := fun m hm hc => by unfold cnt at hc; simp only [Bool.and_eq_true, decide_eq_true_eq] at hc; omega
    split at h5
    · simp only [Bool.and_eq_true, decide_eq_true_eq] at h5
      exact fin (smx_of _ h5.1.1) (smx_of _ h5.1.2) (by omega)
    · split at h5
      · simp only [Bool.and_eq_true, decide_eq_true_eq] at h5
        exact fin (smx_none h5.1.1) (smx_of _ h5.1.2) (by omega)
      · split at h5
        · simp only [Bool.and_eq_true] at h5
          exact fin (smx_none h5.1.1) (smx_of _ h5.1.2) (cn 3 (by decide) h5.2)
        · split at h5
          · simp only [Bool.and_eq_true] at h5
            exact fin (smx_none h5.1.1) (smx_none h5.1.2) (cn 3 (by decide) h5.2)
          · split at h5
            · simp only [Bool.and_eq_true] at h5
              exact fin (smx_none h5.1.1) (smx_none h5.1.2) (cn 99999 (by decide) h5.2)
            · cases h5
theorem inv_some : ∀ (l : List Bl) (i k : Nat) (hk : k < l.length), (∀ j (h : j < k), vldb (l[j]'(by omega)) = true) → vldb l[k] = false → inv l i = some (i + k)
  | [], _, k, hk, _, _ => by simp at hk
  | b :: l, i, 0, _, _, h => by unfold inv; rw [if_neg (by simpa using h)]; rfl
  | b :: l, i, k + 1, hk, h1, h2 => by
    unfold inv
    rw [if_pos (show vldb b = true from h1 0 (by omega)), inv_some l (i + 1) k (by simpa using hk) (fun j h => h1 (j + 1) (by omega)) h2]
    congr 1; omega
theorem stepS_i {b : Bl} {s s' : St} (h : stepS b s = .ok s') : s'.i = s.i + 1 := by
  unfold stepS at h
  cases h1 : pgS b s with
  | bad j e => rw [h1] at h; cases h
  | ok s1 =>
    rw [h1] at h
    simp only at h
    have e1 : s1.i = s.i := by
      unfold pgS at h1
      split at h1
      · split at h1
        · cases h1
        · split at h1
          · cases h1
          · injection h1 with h1; rw [← h1]
      · injection h1 with h1; rw [← h1]
    cases h2 : labS b s1 with
    | bad j e => rw [h2] at h; cases h
    | ok s2 =>
      rw [h2] at h
      simp only at h
      have e2 : s2.i = s1.i := by
        unfold labS at h2
        split at h2
        · split at h2
          · cases h2
          · injection h2 with h2; rw [← h2]
        · injection h2 with h2; rw [← h2]
      unfold loopS at h
      split at h
      · split at h
        · cases h
        · injection h with h; rw [← h]; show s2.i + 1 = _; omega
      · split at h
        · split at h
          · cases h
          · split at h
            · injection h with h; rw [← h]; show s2.i + 1 = _; omega
            · cases h
        · injection h with h; rw [← h]; show s2.i + 1 = _; omega
theorem stepS_err {b : Bl} {s : St} {j : Nat} {e : Int} (h : stepS b s = .bad j e) : e = 7 ∨ e = 11 := by
  unfold stepS at h
  cases h1 : pgS b s with
  | bad j' e' =>
    rw [h1] at h
    injection h with _ h
    subst h
    unfold pgS at h1
    split at h1
    · split at h1
      · injection h1 with _ h1; exact .inr h1.symm
      · split at h1
        · injection h1 with _ h1; exact .inl h1.symm
        · cases h1
    · cases h1
  | ok s1 =>
    rw [h1] at h
    simp only at h
    cases h2 : labS b s1 with
    | bad j' e' =>
      rw [h2] at h
      injection h with _ h
      subst h
      unfold labS at h2
      split at h2
      · split at h2
        · injection h2 with _ h2; exact .inl h2.symm
        · cases h2
      · cases h2
    | ok s2 =>
      rw [h2] at h
      simp only at h
      unfold loopS at h
      split at h
      · split at h
        · injection h with _ h; exact .inr h.symm
        · cases h
      · split at h
        · split at h
          · injection h with _ h; exact .inr h.symm
          · split at h
            · cases h
            · injection h with _ h; exact .inr h.symm
        · cases h
theorem run_take {l : List Bl} {i : Nat} (hi : i < l.length) {s : St} (h : run (l.take i) st0 = .ok s) : (∀ j e, stepS l[i] s = .bad j e → run l st0 = .bad j e) ∧ ∀ s', stepS l[i] s = .ok s' → run (l.take (i + 1)) st0 = .ok s' := by
  refine ⟨fun j e hb => ?_, fun s' hs => by rw [List.take_succ_eq_append_getElem hi]; exact run_one h hs⟩
  have e1 : l = l.take i ++ (l[i] :: l.drop (i + 1)) := by rw [← List.drop_eq_getElem_cons hi, List.take_append_drop]
  rw [e1, run_app, h]
  show (match stepS l[i] s with | .bad j e => Rs.bad j e | .ok s => run _ s) = _
  rw [hb]
end Lb
end Go.Proofs.YtlgdjbabbfdngaaDoor
set_option linter.unusedVariables false
set_option linter.unusedSimpArgs false
namespace Go.Proofs.YtlgdjbabbfdngaaDoor
namespace Lb
open Sy
def fnd : List Pg → Int → Nat → Option Nat
  | [], _, _ => none
  | p :: l, n, i => if p.num = n then some i else fnd l n (i + 1)
def lbL (l : List Bl) (k : Nat) : Int := match l[k]? with | some b => b.label | none => 0
theorem fnd_none : ∀ (l : List Pg) (n : Int) (i : Nat), (∀ p ∈ l, p.num ≠ n) → fnd l n i = none
  | [], _, _, _ => rfl
  | p :: l, n, i, h => by
    unfold fnd
    rw [if_neg (h p (List.mem_cons_self ..))]
    exact fnd_none l n _ (fun q hq => h q (List.mem_cons_of_mem _ hq))
end Lb
end Go.Proofs.YtlgdjbabbfdngaaDoor
set_option linter.unusedVariables false
set_option linter.unusedSimpArgs false
namespace Go.Proofs.YtlgdjbabbfdngaaDoor
open Go.RowKit
namespace Lb
open Sy
structure Lab (bs : List Bl) (s : St) (p : Pg) : Prop where
  last : ∃ l, s.pg = l ++ [p]
  le : p.first ≤ s.i
  lab : ∀ x, 0 < x → (s.lab.contains x = true ↔ ∃ k, p.first ≤ k ∧ k < s.i ∧ lbL bs k = x)
theorem Lab.start (bs : List Bl) : Lab bs st0 ⟨0, 0, 0⟩ := ⟨⟨[], rfl⟩, Nat.le_refl _, fun x _ => ⟨fun h => by simp [st0] at h, fun ⟨k, _, h, _⟩ => by simp [st0] at h⟩⟩
theorem Lab.pgs {bs : List Bl} {s s1 : St} {p : Pg} (h : Lab bs s p) {b : Bl} (k : pgS b s = .ok s1) : (b.kind ≠ 6 ∧ s1 = s ∧ Lab bs s1 p) ∨ (b.kind = 6 ∧ s1 = { s with pg := s.pg ++ [⟨b.n, s.i, s.i⟩], lab := [] } ∧ Lab bs s1 ⟨b.n, s.i, s.i⟩) := by
  unfold pgS at k
  by_cases h6 : b.kind = 6
  · rw [if_pos h6] at k
    cases ho : s.op with
    | cons q r => rw [ho] at k; cases k
    | nil =>
      rw [ho] at k
      simp only at k
      split at k
      · cases k
      · injection k with k
        refine .inr ⟨h6, k.symm, ?_⟩
        rw [← k]
        exact ⟨⟨s.pg, rfl⟩, Nat.le_refl _, fun x _ => ⟨fun h => by simp at h, fun ⟨j, h1, h2, _⟩ => by have h1' : s.i ≤ j := h1; have h2' : j < s.i := h2; omega⟩⟩
  · rw [if_neg h6] at k
    injection k with k
    exact .inl ⟨h6, k.symm, k ▸ h⟩
theorem Lab.grow {bs : List Bl} {s s' : St} {p p' : Pg} {b : Bl} (h : Lab bs s p) (hb : lbL bs s.i = b.label) (h0 : 0 ≤ b.label) (hi : s'.i = s.i + 1) (hl : ∃ l, s'.pg = l ++ [p']) (hf : p'.first = p.first) (hs : s'.lab = if 0 < b.label then b.label :: s.lab else s.lab) : Lab bs s' p' := by
  refine ⟨hl, by rw [hf, hi]; have := h.le; omega, fun x hx => ?_⟩
  rw [hs, hf, hi]
  have hle := h.le
  constructor
  · intro hc
    by_cases c : 0 < b.label
    · rw [if_pos c, List.contains_cons, Bool.or_eq_true] at hc
      rcases hc with hc | hc
      · have : x = b.label := by simpa using hc
        exact ⟨s.i, hle, by omega, by rw [hb, this]⟩
      · obtain ⟨k, k1, k2, k3⟩ := (h.lab x hx).1 hc
        exact ⟨k, k1, by omega, k3⟩
    · rw [if_neg c] at hc
      obtain ⟨k, k1, k2, k3⟩ := (h.lab x hx).1 hc
      exact ⟨k, k1, by omega, k3⟩
  · rintro ⟨k, k1, k2, k3⟩
    by_cases e : k = s.i
    · have : 0 < b.label := by rw [e, hb] at k3; omega
      rw [if_pos this, List.contains_cons, Bool.or_eq_true]
      rw [e, hb] at k3
      exact .inl (by simp [k3])
    · have hc := (h.lab x hx).2 ⟨k, k1, by omega, k3⟩
      by_cases c : 0 < b.label
      · rw [if_pos c, List.contains_cons, Bool.or_eq_true]; exact .inr hc
      · rw [if_neg c]; exact hc
theorem lbL_get {bs : List Bl} {i : Nat} (h : i < bs.length) : lbL bs i = bs[i].label := by unfold lbL; rw [List.getElem?_eq_getElem h]
def mtf (n : Nat) (s : St) : List Int := s.mate ++ List.replicate (n - s.mate.length) (-1)
theorem mtf_len {n : Nat} {s : St} (h : s.mate.length ≤ n) : (mtf n s).length = n := by unfold mtf; rw [List.length_append, List.length_replicate]; omega
theorem mtf_more {n : Nat} {s s' : St} (h : s.mate.length < n) (e : s'.mate = s.mate ++ [-1]) : mtf n s' = mtf n s := by
  unfold mtf
  rw [e, List.length_append, List.length_singleton, List.append_assoc, show n - s.mate.length = (n - (s.mate.length + 1)) + 1 by omega, List.replicate_succ]
  rfl
theorem mtf_set {n : Nat} {s s' : St} {j : Nat} (h : s.mate.length < n) (hj : j < s.mate.length) (x : Int) (e : s'.mate = (s.mate ++ [(j : Int)]).set j x) : mtf n s' = ((mtf n s).set j x).set s.mate.length (j : Int) := by
  unfold mtf
  have l : ((s.mate ++ [(j : Int)]).set j x).length = s.mate.length + 1 := by simp
  obtain ⟨R, hR⟩ : ∃ R : List Int, R = List.replicate (n - (s.mate.length + 1)) (-1) := ⟨_, rfl⟩
  have r1 : (s.mate ++ (-1 :: R)).set j x = s.mate.set j x ++ (-1 :: R) := List.set_append_left _ _ hj
  have r2 : (s.mate.set j x ++ (-1 :: R)).set s.mate.length (j : Int) = s.mate.set j x ++ ((j : Int) :: R) := by
    rw [List.set_append_right _ _ (by simp), List.length_set, Nat.sub_self]; rfl
  have r3 : (s.mate ++ [(j : Int)]).set j x = s.mate.set j x ++ [(j : Int)] := List.set_append_left _ _ hj
  rw [e, l, show n - s.mate.length = (n - (s.mate.length + 1)) + 1 by omega, List.replicate_succ, ← hR, r1, r2, r3, List.append_assoc]
  rfl
end Lb
end Go.Proofs.YtlgdjbabbfdngaaDoor
set_option linter.unusedVariables false
set_option linter.unusedSimpArgs false
namespace Go.Proofs.YtlgdjbabbfdngaaDoor
open Go.RowKit
structure Sq (B R : Nat) (w : World) (pg : List Lb.Pg) (mt op : List Int) (bv pv mv ov : Value) (col : Nat → Nat) : Prop where
  X : Bx w R #[bv, pv, mv] 41
  G : OwnG B w 76 3 pv (pg.map pcell)
  M : OwnG B w 3 1 mv (mt.map icell)
  O : OwnG B w 3 1 ov (op.map icell)
  c0 : col R = 0
  c1 : ∀ g, pv.ownBlock = some g → col g = 1
  c2 : ∀ g, mv.ownBlock = some g → col g = 2
  c5 : ∀ g, ov.ownBlock = some g → col g = 5
section
variable {B R : Nat} {w w1 w2 : World} {pg : List Lb.Pg} {mt op : List Int} {bv pv mv ov : Value} {col : Nat → Nat}
theorem Sq.ltR (h : Sq B R w pg mt op bv pv mv ov col) : R < w.heap.size := h.X.lt
theorem Sq.px1 (h : Sq B R w pg mt op bv pv mv ov col) {v : Value} {c : Nat} (h0 : c ≠ 0) (hc : ∀ g, v.ownBlock = some g → col g = c) (hg : w.grownBy w1 v.ownBlock) : Bx w1 R #[bv, pv, mv] 41 :=
  (hg.block R h.ltR (fun e => h0 (by rw [← hc R e.symm, h.c0]))).trans h.X
theorem Sq.newG (h : Sq B R w pg mt op bv pv mv ov col) {pg' : List Lb.Pg} {pv' : Value} (ho : OwnG B w1 76 3 pv' (pg'.map pcell)) (hg : w.grownBy w1 pv.ownBlock) (hn : ∀ g, pv'.ownBlock = some g → pv.ownBlock = some g ∨ w.heap.size ≤ g) :
    Sq B R (w1.setCell ⟨R, 1, none⟩ pv') pg' mt op bv pv' mv ov (colN w col 1) := by
  have T := turn_set (p := R) h.c1 hg 1 pv'
  have cn := near_col (fun g hg => (h.G.lt hg).2) h.c1 hn
  have cP : colN w col 1 R = 0 := (colN_old h.ltR).trans h.c0
  exact ⟨(h.px1 (by decide) h.c1 hg).set 1 pv', ho.go fun g hg _ => Below.heap_setCell w1 ⟨R, 1, none⟩ pv' g (fun e => by have := cn g hg; rw [e, cP] at this; cases this), h.M.keep h.c2 h.c0 (by decide) (by decide) T, h.O.keep h.c5 h.c0 (by decide) (by decide) T, cP, cn, h.M.colS 1 h.c2, h.O.colS 1 h.c5⟩
theorem Sq.newM (h : Sq B R w pg mt op bv pv mv ov col) {mt' : List Int} {mv' : Value} (ho : OwnG B w1 3 1 mv' (mt'.map icell)) (hg : w.grownBy w1 mv.ownBlock) (hn : ∀ g, mv'.ownBlock = some g → mv.ownBlock = some g ∨ w.heap.size ≤ g) :
    Sq B R (w1.setCell ⟨R, 2, none⟩ mv') pg mt' op bv pv mv' ov (colN w col 2) := by
  have T := turn_set (p := R) h.c2 hg 2 mv'
  have cn := near_col (fun g hg => (h.M.lt hg).2) h.c2 hn
  have cP : colN w col 2 R = 0 := (colN_old h.ltR).trans h.c0
  exact ⟨(h.px1 (by decide) h.c2 hg).set 2 mv', h.G.keep h.c1 h.c0 (by decide) (by decide) T, ho.go fun g hg _ => Below.heap_setCell w1 ⟨R, 2, none⟩ mv' g (fun e => by have := cn g hg; rw [e, cP] at this; cases this), h.O.keep h.c5 h.c0 (by decide) (by decide) T, cP, h.G.colS 2 h.c1, cn, h.O.colS 2 h.c5⟩
theorem Sq.newO (h : Sq B R w pg mt op bv pv mv ov col) {op' : List Int} {ov' : Value} (ho : OwnG B w1 3 1 ov' (op'.map icell)) (hg : w.grownBy w1 ov.ownBlock) (hn : ∀ g, ov'.ownBlock = some g → ov.ownBlock = some g ∨ w.heap.size ≤ g) :
    Sq B R w1 pg mt op' bv pv mv ov' (colN w col 5) := by
  have T : ∀ b, b < w.heap.size → col b ≠ 5 → b ≠ R → w1.heap[b]? = w.heap[b]? := fun b hb hne _ => hg.block b hb (fun e => hne (h.c5 b e.symm))
  have cn := near_col (fun g hg => (h.O.lt hg).2) h.c5 hn
  have cP : colN w col 5 R = 0 := (colN_old h.ltR).trans h.c0
  exact ⟨h.px1 (by decide) h.c5 hg, h.G.keep h.c1 h.c0 (by decide) (by decide) T, h.M.keep h.c2 h.c0 (by decide) (by decide) T, ho, cP, h.G.colS 5 h.c1, h.M.colS 5 h.c2, cn⟩
theorem Sq.setM (h : Sq B R w pg mt op bv pv mv ov col) {g : Nat} (hg : mv.ownBlock = some g) {i : Nat} (hi : i < mt.length) (x : Int) : Sq B R (w.setCell ⟨g, i, none⟩ (.int .i64 x)) pg (mt.set i x) op bv pv mv ov (colN w col 2) := by
  have hc := h.c2 g hg
  have T := turn_own (w := w) (p := R) hc i (.int .i64 x)
  have cP : colN w col 2 R = 0 := (colN_old h.ltR).trans h.c0
  have hm := h.M.set hg (i := i) (by simpa using hi) (j := 0) (by decide) (.int .i64 x)
  have e : (mt.map icell).set i (((mt.map icell)[i]'(by simpa using hi)).set 0 (.int .i64 x)) = (mt.set i x).map icell := by rw [List.map_set]; congr 1; simp [icell]
  rw [e, Nat.mul_one, Nat.add_zero] at hm
  exact ⟨h.X.other (fun e => by have := h.c0; rw [e] at this; rw [show (⟨g, i, none⟩ : Addr).block = g from rfl, hc] at this; cases this) _, h.G.keep h.c1 h.c0 (by decide) (by decide) T, hm, h.O.keep h.c5 h.c0 (by decide) (by decide) T, cP, h.G.colS 2 h.c1, h.M.colS 2 h.c2, h.O.colS 2 h.c5⟩
theorem Sq.setF {p : Lb.Pg} (h : Sq B R w (pg ++ [p]) mt op bv pv mv ov col) {g : Nat} (hg : pv.ownBlock = some g) (x : Nat) : Sq B R (w.setCell ⟨g, pg.length * 3 + 2, none⟩ (.int .i64 x)) (pg ++ [{ p with fin := x }]) mt op bv pv mv ov (colN w col 1) := by
  have hc := h.c1 g hg
  have T := turn_own (w := w) (p := R) hc (pg.length * 3 + 2) (.int .i64 x)
  have cP : colN w col 1 R = 0 := (colN_old h.ltR).trans h.c0
  have hm := h.G.set hg (i := pg.length) (by simp) (j := 2) (by decide) (.int .i64 x)
  have e : ((pg ++ [p]).map pcell).set pg.length ((((pg ++ [p]).map pcell)[pg.length]'(by simp)).set 2 (.int .i64 x)) = (pg ++ [{ p with fin := x }]).map pcell := by
    simp [pcell, List.set_append_right]
  rw [e] at hm
  exact ⟨h.X.other (fun e => by have := h.c0; rw [e] at this; rw [show (⟨g, pg.length * 3 + 2, none⟩ : Addr).block = g from rfl, hc] at this; cases this) _, hm, h.M.keep h.c2 h.c0 (by decide) (by decide) T, h.O.keep h.c5 h.c0 (by decide) (by decide) T, cP, h.G.colS 1 h.c1, h.M.colS 1 h.c2, h.O.colS 1 h.c5⟩
theorem Sq.topO {q : Int} (h : Sq B R w pg mt (op ++ [q]) bv pv mv ov col) : ∃ (g cap : Nat), ov = .slice (some ⟨g, 0, none⟩) (op.length + 1) cap ∧ op.length + 1 ≤ cap ∧ cap ≤ 9223372036854775807 ∧ g < w.heap.size ∧ g ≠ R ∧ B ≤ g ∧ w.cell? ⟨g, op.length, none⟩ = some (.int .i64 q) ∧
    Sq B R w pg mt op bv pv mv (.slice (some ⟨g, 0, none⟩) op.length cap) (colN w col 5) := by
  have ho := h.O
  rw [List.map_append] at ho
  obtain ⟨g, cap, rfl, k1, k2, k3, k4, k5⟩ := ho.cut
  rw [List.length_map] at *
  have hg : (Value.slice (some ⟨g, 0, none⟩) (op.length + 1) cap).ownBlock = some g := rfl
  have hgP : g ≠ R := fun e => by have := h.c5 g hg; rw [e, h.c0] at this; cases this
  refine ⟨g, cap, rfl, k1, k2, k4, hgP, k3, by have := h.O.at hg (i := op.length) (by simp) (j := 0) (u := .int .i64 q) (by simp [icell]); simpa using this, ?_⟩
  exact h.newO (w1 := w) (op' := op) k5 ⟨rfl, rfl, rfl, Nat.le_refl _, fun _ _ _ => rfl⟩ (fun g' hg' => .inl hg')
theorem Sq.kept (h : Sq B R w pg mt op bv pv mv ov col) (q : Qw w w1) : Sq B R w1 pg mt op bv pv mv ov col :=
  have k := fun {T : TypeId} {z : Nat} {v : Value} {xs : List (List Value)} (o : OwnG B w T z v xs) => o.go (w' := w1) fun g _ hl => q.block g hl
  ⟨h.X.kept q, k h.G, k h.M, k h.O, h.c0, h.c1, h.c2, h.c5⟩
theorem Sq.recol {col' : Nat → Nat} (h : Sq B R w pg mt op bv pv mv ov col) (hc : ∀ b, b < w.heap.size → col' b = col b) : Sq B R w pg mt op bv pv mv ov col' :=
  ⟨h.X, h.G, h.M, h.O, (hc _ h.ltR).trans h.c0, fun g hg => (hc g (h.G.lt hg).2).trans (h.c1 g hg), fun g hg => (hc g (h.M.lt hg).2).trans (h.c2 g hg), fun g hg => (hc g (h.O.lt hg).2).trans (h.c5 g hg)⟩
end
theorem Fc.bx {K : Nat} {w w' : World} {cs : Array Value} {t : TypeId} {col col' : Nat → Nat} (f : Fc w w' col col') (X : Bx w K cs t) (c : 5 < col K) : Bx w' K cs t ∧ 5 < col' K := by
  obtain ⟨e1, e2⟩ := f.2 K X.lt
  exact ⟨(e2 c).trans X, by rw [e1]; exact c⟩
end Go.Proofs.YtlgdjbabbfdngaaDoor

