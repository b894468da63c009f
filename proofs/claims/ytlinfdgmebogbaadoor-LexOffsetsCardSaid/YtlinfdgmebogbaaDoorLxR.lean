
/- Plain: what the laws of layer 5 say. -/
import Derived.Test.YtlinfdgmebogbaaDoorLxQ
import Derived.Test.YtlinfdgmebogbaaDoorFxF
import Derived.Test.YtlinfdgmebogbaaDoorFxT
set_option linter.unusedVariables false
set_option linter.unusedSimpArgs false
namespace Go.Proofs.YtlinfdgmebogbaaDoor
namespace Lx

/-- The text from each token to the next, and something behind it. -/
def nextp (l : List UInt8) : List Tok → Nat
  | [] => l.length
  | u :: _ => u.p
def spc (l bt : List UInt8) : List Tok → List UInt8
  | [] => []
  | t :: r => (l.drop t.p).take (nextp l r - t.p) ++ bt ++ spc l bt r

theorem drop_ne {l : List UInt8} {k : Nat} (h : k < l.length) : l.drop k ≠ [] := by rw [List.drop_eq_getElem_cons h]; exact List.cons_ne_nil _ _

theorem Alike.cons {t u : Tok} {ts us : List Tok} (h : Alike ts us) (h0 : t.k = u.k) (h1 : t.n = u.n) (h2 : t.x = u.x) : Alike (t :: ts) (u :: us) := by
  refine ⟨by simp [h.1], fun i hi hi' => ?_⟩
  cases i with
  | zero => exact ⟨h0, h1, h2⟩
  | succ i => exact h.2 i (by simpa using hi) (by simpa using hi')

/-- What lies between begins with a separator, and leaves nothing. -/
def Between (bt : List UInt8) : Prop := ∃ s bt', bt = s :: bt' ∧ sep s ∧ ∀ v a, lx (bt' ++ v) a = lx v (a + bt'.length)
theorem between_space : Between [32] := ⟨32, [], rfl, sep32, fun v a => rfl⟩
theorem between_note : Between [9, 40, 120, 41] := ⟨9, [40, 120, 41], rfl, sep9, fun v a => by
  have e : act 40 (120 :: 41 :: v) = .skip 2 := rfl
  show lx (40 :: 120 :: 41 :: v) a = _
  rw [lx_skip e]; rfl⟩

theorem spaces (l bt : List UInt8) (h59 : ∀ c ∈ l, c ≠ 59) (hb : Between bt) : ∀ (ts : List Tok) (a : Nat), a ≤ l.length → lx (l.drop a) a = .ok ts → ∀ b, ∃ us, lx (spc l bt ts) b = .ok us ∧ Alike us ts
  | [], a, ha, h, b => ⟨[], lx_nil b, rfl, fun i hi => by simp at hi⟩
  | t :: r, a, ha, h, b => by
    obtain ⟨n1, hp, hpl, hm, ht, hr, _⟩ := lx_next ha h
    have fl := fst_le (l.drop t.p) (drop_ne hp)
    rw [List.length_drop] at fl
    have dl : l.drop t.p = l[t.p] :: l.drop (t.p + 1) := List.drop_eq_getElem_cons hp
    -- up to the next token
    have nx : t.p + (fst (l.drop t.p)).m ≤ nextp l r ∧ nextp l r ≤ l.length ∧ ∀ b, lx ((l.drop (t.p + (fst (l.drop t.p)).m)).take (nextp l r - (t.p + (fst (l.drop t.p)).m))) b = .ok [] := by
      cases r with
      | nil =>
        refine ⟨by show _ ≤ l.length; omega, Nat.le_refl _, fun b => ?_⟩
        rw [List.take_of_length_le (by rw [List.length_drop]; exact Nat.le_refl _)]
        have s0 := lx_shift (l.drop (t.p + (fst (l.drop t.p)).m)) 0
        have z := s0 (t.p + (fst (l.drop t.p)).m)
        rw [Nat.zero_add, hr] at z
        have s1 := s0 b
        rw [Nat.zero_add] at s1
        rw [s1]
        cases q : lx (l.drop (t.p + (fst (l.drop t.p)).m)) 0 with
        | bad x => rw [q] at z; cases z
        | ok us =>
          rw [q] at z
          injection z with z
          have : us = [] := by simpa using z.symm
          rw [this]; rfl
      | cons u r' =>
        obtain ⟨m1, m2, _, _, _, _, m7⟩ := lx_next (by omega) hr
        exact ⟨m1, by show u.p ≤ _; omega, m7⟩
    obtain ⟨nx1, nx2, nx3⟩ := nx
    -- the piece
    have pc : ∀ b, lx ((l.drop t.p).take (nextp l r - t.p)) b = .ok [⟨t.k, t.n, b, t.x⟩] := by
      intro b
      have ft := fst_take l[t.p] (l.drop (t.p + 1)) (nextp l r - t.p) (by rw [← dl]; omega) (by rw [← dl]; exact hm)
      rw [← dl] at ft
      have hd : (l.drop t.p).take (nextp l r - t.p) = l[t.p] :: (l.drop (t.p + 1)).take (nextp l r - t.p - 1) := by
        rw [dl, show nextp l r - t.p = (nextp l r - t.p - 1) + 1 by omega, List.take_succ_cons]; simp
      have ac := act_plain (c := l[t.p]) (t := (l.drop (t.p + 1)).take (nextp l r - t.p - 1)) hpl (by rw [← hd, ft]; exact hm)
      rw [hd, lx_tok ac, ← hd, ft, List.drop_take, List.drop_drop, show t.p + 1 + ((fst (l.drop t.p)).m - 1) = t.p + (fst (l.drop t.p)).m by omega,
        show nextp l r - t.p - 1 - ((fst (l.drop t.p)).m - 1) = nextp l r - (t.p + (fst (l.drop t.p)).m) by omega, nx3]
      rw [ht]; rfl
    obtain ⟨s, bt', rfl, hs, hbt⟩ := hb
    have h59p : ∀ c ∈ (l.drop t.p).take (nextp l r - t.p), c ≠ 59 := fun c hc => h59 c (List.mem_of_mem_drop (List.mem_of_mem_take hc))
    obtain ⟨us, hu, ha⟩ := spaces l (s :: bt') h59 ⟨s, bt', rfl, hs, hbt⟩ r _ (by omega) hr (b + ((l.drop t.p).take (nextp l r - t.p)).length + 1 + bt'.length)
    refine ⟨⟨t.k, t.n, b, t.x⟩ :: us, ?_, ha.cons rfl rfl rfl⟩
    show lx ((l.drop t.p).take (nextp l r - t.p) ++ (s :: bt') ++ spc l (s :: bt') r) b = _
    rw [List.append_assoc, List.cons_append, lx_join hs h59p (pc b), hbt, hu]; rfl

theorem spc_len (l bt : List UInt8) : ∀ (ts : List Tok) (a : Nat), a ≤ l.length → lx (l.drop a) a = .ok ts → (spc l bt ts).length ≤ l.length - a + ts.length * bt.length
  | [], a, _, _ => by simp [spc]
  | t :: r, a, ha, h => by
    obtain ⟨n1, hp, _, _, _, hr, _⟩ := lx_next ha h
    have fl := fst_le (l.drop t.p) (drop_ne hp)
    rw [List.length_drop] at fl
    have nx : t.p ≤ nextp l r ∧ nextp l r ≤ l.length := by
      cases r with
      | nil => exact ⟨by show t.p ≤ l.length; omega, Nat.le_refl _⟩
      | cons u r' =>
        obtain ⟨m1, m2, _⟩ := lx_next (by omega) hr
        exact ⟨by show t.p ≤ u.p; omega, by show u.p ≤ _; omega⟩
    obtain ⟨nx1, nx2⟩ := nx
    have e : (t :: r).length * bt.length = bt.length + r.length * bt.length := by rw [List.length_cons, Nat.succ_mul, Nat.add_comm]
    have ih : (spc l bt r).length ≤ l.length - nextp l r + r.length * bt.length := by
      cases r with
      | nil => simp [spc]
      | cons u r' =>
        obtain ⟨m1, m2, m3, m4, m5, m6, _⟩ := lx_next (a := t.p + (fst (l.drop t.p)).m) (by omega) hr
        -- the next token's own offset
        have du : l.drop u.p = l[u.p] :: l.drop (u.p + 1) := List.drop_eq_getElem_cons m2
        have h2 : lx (l.drop u.p) u.p = .ok (u :: r') := by
          rw [du, lx_tok (act_plain m3 (by rw [← du]; exact m4)), ← du, List.drop_drop, show u.p + 1 + ((fst (l.drop u.p)).m - 1) = u.p + (fst (l.drop u.p)).m by omega, m6]
          exact congrArg (fun x => Res.ok (x :: r')) m5.symm
        exact spc_len l bt (u :: r') u.p (by omega) h2
    show ((l.drop t.p).take (nextp l r - t.p) ++ bt ++ spc l bt r).length ≤ _
    rw [List.length_append, List.length_append, List.length_take, List.length_drop, e]
    omega

/-! ### where tokens stand -/

/-- What stands at a token's offset. -/
def Cont (l : List UInt8) (t : Tok) : Prop := ∃ hp : t.p < l.length, plain l[t.p] ∧ (fst (l.drop t.p)).m ≠ 0 ∧ t = ⟨(fst (l.drop t.p)).k, (fst (l.drop t.p)).n, t.p, (fst (l.drop t.p)).x⟩

theorem offs (l : List UInt8) : ∀ (ts : List Tok) (a : Nat), a ≤ l.length → lx (l.drop a) a = .ok ts → ts.length ≤ l.length - a ∧ ∀ i (h : i < ts.length), a ≤ ts[i].p ∧ Cont l ts[i] ∧ ∀ h' : i + 1 < ts.length, ts[i].p < ts[i + 1].p
  | [], a, _, _ => ⟨Nat.zero_le _, fun i h => by simp at h⟩
  | t :: r, a, ha, h => by
    obtain ⟨n1, hp, hpl, hm, ht, hr, _⟩ := lx_next ha h
    have fl := fst_le (l.drop t.p) (drop_ne hp)
    rw [List.length_drop] at fl
    obtain ⟨ln, ih⟩ := offs l r _ (by omega) hr
    refine ⟨by rw [List.length_cons]; omega, fun i hi => ?_⟩
    cases i with
    | zero =>
      refine ⟨n1, ⟨hp, hpl, hm, ht⟩, fun h' => ?_⟩
      have := (ih 0 (by simpa using h')).1
      show t.p < (t :: r)[0 + 1].p
      rw [List.getElem_cons_succ]; omega
    | succ i =>
      have k := ih i (by simpa using hi)
      refine ⟨by rw [List.getElem_cons_succ]; omega, by rw [List.getElem_cons_succ]; exact k.2.1, fun h' => ?_⟩
      rw [List.getElem_cons_succ, List.getElem_cons_succ]
      exact k.2.2 (by simpa using h')

theorem lx_bad_lt_aux : ∀ (n : Nat) (l : List UInt8), l.length ≤ n → ∀ a b, lx l a = .bad b → b < a + l.length
  | n, [], _, a, b, h => by rw [lx_nil] at h; cases h
  | 0, c :: t, h, _, _, _ => by simp at h
  | n + 1, c :: t, hl, a, b, h => by
    simp at hl
    rw [List.length_cons]
    rcases act_cases c t with ⟨w, e⟩ | ⟨w, e⟩ | ⟨w, e⟩ | ⟨w, j, hj, jl, e⟩ | ⟨w, m, e⟩ | ⟨w, m, e⟩
    · rw [lx_skip e] at h
      have := lx_bad_lt_aux n _ (by simp; omega) _ _ h
      simp at this; omega
    · rw [lx_skip e, List.drop_length, lx_nil] at h; cases h
    · rw [lx_bad e] at h; injection h with h; omega
    · rw [lx_skip e] at h
      have := lx_bad_lt_aux n _ (by simp; omega) _ _ h
      rw [List.length_drop] at this; omega
    · rw [lx_bad e] at h; injection h with h; omega
    · rw [lx_tok e] at h
      have fl := fst_le (c :: t) (List.cons_ne_nil _ _)
      simp at fl
      cases q : lx (t.drop ((fst (c :: t)).m - 1)) (a + (fst (c :: t)).m) with
      | ok us => rw [q] at h; cases h
      | bad x =>
        rw [q] at h
        injection h with h
        have := lx_bad_lt_aux n _ (by simp; omega) _ _ q
        rw [List.length_drop] at this; omega
theorem lx_bad_lt {l : List UInt8} {a b : Nat} (h : lx l a = .bad b) : b < a + l.length := lx_bad_lt_aux l.length l (Nat.le_refl _) a b h

theorem pnum_bd (l : List UInt8) (h : pok l = true) : 0 ≤ pnum l ∧ pnum l < 1000000000000000 := by
  have f6 := pf_le l
  have wb := whole_bd l
  unfold pnum
  cases d : pdot l
  · rw [(pf_none d).1, List.take_zero]
    show 0 ≤ vl 0 (l.take (pw l)) * 10 ^ 6 ∧ vl 0 (l.take (pw l)) * 10 ^ 6 < 1000000000000000
    have : (10 : Int) ^ 6 = 1000000 := by decide
    rw [this]; omega
  · have hl : pw l < l.length := by
      unfold pdot at d; simp at d; exact d.1
    have b := both_bd l d hl
    generalize vl (vl 0 (l.take (pw l))) ((l.drop (pw l + 1)).take (pf l)) = X at *
    rcases k6 f6 with e | e | e | e | e | e | e <;> rw [e] at b ⊢
    · have : (10 : Int) ^ 0 = 1 := by decide
      have t : (10 : Int) ^ (6 - 0) = 1000000 := by decide
      rw [t]; omega
    · have : (10 : Int) ^ 1 = 10 := by decide
      have t : (10 : Int) ^ (6 - 1) = 100000 := by decide
      rw [t]; omega
    · have : (10 : Int) ^ 2 = 100 := by decide
      have t : (10 : Int) ^ (6 - 2) = 10000 := by decide
      rw [t]; omega
    · have : (10 : Int) ^ 3 = 1000 := by decide
      have t : (10 : Int) ^ (6 - 3) = 1000 := by decide
      rw [t]; omega
    · have : (10 : Int) ^ 4 = 10000 := by decide
      have t : (10 : Int) ^ (6 - 4) = 100 := by decide
      rw [t]; omega
    · have : (10 : Int) ^ 5 = 100000 := by decide
      have t : (10 : Int) ^ (6 - 5) = 10 := by decide
      rw [t]; omega
    · have : (10 : Int) ^ 6 = 1000000 := by decide
      have t : (10 : Int) ^ (6 - 6) = 1 := by decide
      rw [t]; omega

/-- The kinds of tokens. -/
theorem fst_kinds (c : UInt8) (t : List UInt8) (h : (fst (c :: t)).m ≠ 0) :
    (isn c = true ∧ ∃ n m, fst (c :: t) = ⟨2, n, [], m⟩ ∧ 0 ≤ n ∧ n < 1000000000000000) ∨ (isu c = true ∧ fst (c :: t) = ⟨1, c.toNat, [], 1⟩) ∨
    (∃ x, x ∈ nms ∧ fst (c :: t) = ⟨3, 0, x, x.length⟩ ∧ (c :: t).take x.length = x ∧ x.length ≤ (c :: t).length) ∨ (isg c = true ∧ fst (c :: t) = ⟨4, 0, [c], 1⟩) := by
  cases k : isn c
  · cases k2 : isu c
    · cases k3 : isg c
      · rw [fst_no k k2 k3] at h; exact (h (Eq.refl (0 : Nat))).elim
      · exact .inr (.inr (.inr ⟨rfl, fst_sg k k2 k3⟩))
    · rw [fst_up k k2]
      by_cases z : fnm (c :: t) = []
      · rw [if_pos z]; exact .inr (.inl ⟨rfl, rfl⟩)
      · rw [if_neg z]
        obtain ⟨x1, x2, x3⟩ := fnm_is _ z
        exact .inr (.inr (.inl ⟨_, x1, rfl, x2, x3⟩))
  · rw [fst_num k] at h ⊢
    unfold fnum at h ⊢
    by_cases p : pok ((c :: t).take (nrun (c :: t))) = true
    · rw [if_pos p]
      exact .inl ⟨rfl, _, _, rfl, pnum_bd _ p⟩
    · rw [if_neg p] at h; exact (h (Eq.refl (0 : Nat))).elim

theorem isnm_mem {x : List UInt8} (h : x ∈ nms) : isnm x = true := by unfold isnm; exact List.contains_iff_mem.2 h
theorem isnm_one (c : UInt8) : isnm [c] = false := by
  have k : ∀ n ∈ nms, n.length ≠ 1 := by decide
  unfold isnm
  rw [Bool.eq_false_iff, ne_eq, List.contains_iff_mem]
  exact fun h => k _ h rfl

/-! ### numbers -/

theorem nrun_all {l : List UInt8} (h : ∀ c ∈ l, isn c = true) : nrun l = l.length := by
  induction l with
  | nil => rfl
  | cons c l ih =>
    show (if isn c = true then nrun l + 1 else 0) = _
    rw [if_pos (h c (List.mem_cons_self ..)), ih fun x hx => h x (List.mem_cons_of_mem _ hx), List.length_cons]

theorem isn_isd {c : UInt8} (h : isd c = true) : isn c = true := by unfold isn; rw [h]; rfl
theorem fmtp_isn (m : Int) : ∀ c ∈ fmtp m, isn c = true := by
  intro c hc
  unfold fmtp at hc
  rcases List.mem_append.1 hc with h | h
  · exact isn_isd (dec_digits _ c h)
  · unfold frac at h
    split at h
    · simp at h
    · rcases List.mem_cons.1 h with rfl | h
      · rfl
      · exact isn_isd (dgs_digits _ _ (kf_range _).2 c h)
theorem fmtp_cons (m : Int) : ∃ d r, fmtp m = d :: r ∧ isd d = true := by
  unfold fmtp
  cases h : Lib.decDigits (m / 1000000).toNat with
  | nil => exact absurd h (dec_ne _)
  | cons d r => exact ⟨d, r ++ frac (m % 1000000), rfl, dec_digits (m / 1000000).toNat d (by rw [h]; exact List.mem_cons_self ..)⟩
theorem isd_not {d : UInt8} (h : isd d = true) : isu d = false ∧ ws d = false ∧ d ≠ 59 ∧ d ≠ 40 := by
  have k : ∀ d : Fin 256, isd (UInt8.ofNat d.val) = true → (isu (UInt8.ofNat d.val) = false ∧ ws (UInt8.ofNat d.val) = false ∧ UInt8.ofNat d.val ≠ 59 ∧ UInt8.ofNat d.val ≠ 40) := by decide +kernel
  have := k ⟨d.toNat, d.toNat_lt⟩
  rw [UInt8.ofNat_toNat] at this
  exact this h

theorem letterX (d : UInt8) (r : List UInt8) (h : isd d = true) : act 88 (d :: r) = .tok ⟨1, 88, [], 1⟩ := by
  have e : fst (88 :: d :: r) = ⟨1, 88, [], 1⟩ := by
    have f : fnm (88 :: d :: r) = fnm [88] := fnm_sep [88] r d (isd_not h).1
    rw [fst_up (c := 88) rfl rfl, f, if_pos (show fnm [88] = [] by decide +kernel)]; rfl
  rw [act_plain (c := 88) ⟨rfl, by decide, by decide⟩ (by rw [e, f_m]; decide), e]

theorem numX (m : Int) (h0 : 0 ≤ m) (h1 : m < 1000000000000000) : lx (88 :: fmtp m) 0 = .ok [⟨1, 88, 0, []⟩, ⟨2, m, 1, []⟩] := by
  obtain ⟨d, r, e, hd⟩ := fmtp_cons m
  obtain ⟨p1, p2⟩ := fmt_parse m h0 h1
  have pk : pok (fmtp m) = true := by
    unfold pre at p2
    cases k : pok (fmtp m)
    · rw [k] at p2; exact absurd p2 (by decide)
    · rfl
  have pn : pnum (fmtp m) = m := (show prv (fmtp m) = pnum (fmtp m) from if_pos pk).symm.trans p1
  have nr := nrun_all (fmtp_isn m)
  obtain ⟨i1, i2, i3, i4⟩ := isd_not hd
  have f : fst (fmtp m) = ⟨2, m, [], (fmtp m).length⟩ := by
    have q : fst (d :: r) = fnum (d :: r) := fst_num (isn_isd hd)
    rw [← e] at q
    rw [q]
    unfold fnum
    rw [nr, List.take_length, if_pos pk, pn]
  have a2 : act d r = .tok (fst (d :: r)) := act_plain ⟨i2, i3, i4⟩ (by rw [← e, f, e]; show (d :: r).length ≠ 0; simp)
  rw [← e, f] at a2
  have z : lx (fmtp m) 1 = .ok [⟨2, m, 1, []⟩] := by
    rw [e, lx_tok a2, e]
    simp only [List.length_cons, Nat.add_sub_cancel, List.drop_length, lx_nil]; rfl
  have a1 := letterX d r hd
  rw [← e] at a1
  rw [lx_tok a1]
  show (lx (fmtp m) 1).pre _ = _
  rw [z]; rfl

theorem numY (m : Int) : lx (88 :: (fmtp m ++ [46, 49, 46])) 0 = .bad 1 := by
  obtain ⟨d, r, e, hd⟩ := fmtp_cons m
  obtain ⟨i1, i2, i3, i4⟩ := isd_not hd
  have al : ∀ c ∈ fmtp m ++ [46, 49, 46], isn c = true := by
    intro c hc
    rcases List.mem_append.1 hc with h | h
    · exact fmtp_isn m c h
    · simp at h; rcases h with rfl | rfl | rfl <;> rfl
  have pk : pok (fmtp m ++ [46, 49, 46]) = false := by
    cases k : pok (fmtp m ++ [46, 49, 46])
    · rfl
    · have q := ((pok_counts _).1 k).2.1
      rw [cp_append] at q
      have := (counts_pos (fmtp m)).2.1
      have t : cp [46, 49, 46] = 2 := by decide
      omega
  have e2 : fmtp m ++ [46, 49, 46] = d :: (r ++ [46, 49, 46]) := by rw [e]; rfl
  have f : (fst (d :: (r ++ [46, 49, 46]))).m = 0 := by
    rw [fst_num (isn_isd hd), ← e2]
    unfold fnum
    rw [nrun_all al, List.take_length, if_neg (by rw [pk]; decide)]
  have a2 : act d (r ++ [46, 49, 46]) = .bad := by rw [act_first i2 i3 i4, if_pos f]
  have a1 := letterX d (r ++ [46, 49, 46]) hd
  rw [e2, lx_tok a1]
  show (lx (d :: (r ++ [46, 49, 46])) 1).pre _ = _
  rw [lx_bad a2]; rfl

/-! ### strange bytes -/

def isbad : Ac → Bool
  | .bad => true
  | _ => false
def oddc (c : Int) : Bool := decide (97 ≤ c) && decide (c ≤ 122) || decide (128 ≤ c) || decide (c < 9) || c == 37 || c == 36 || c == 10 || c == 46 || c == 40 || c == 41
theorem strange (c : UInt8) (h : oddc (c.toNat : Int) = true) (a : Nat) : lx [c] a = .bad a := by
  have k : ∀ c : Fin 256, oddc (c.val : Int) = true → isbad (act (UInt8.ofNat c.val) []) = true := by decide +kernel
  have q := k ⟨c.toNat, c.toNat_lt⟩
  rw [UInt8.ofNat_toNat] at q
  have e := q h
  cases z : act c [] with
  | bad => exact lx_bad z a
  | skip k => rw [z] at e; exact absurd e Bool.false_ne_true
  | tok f => rw [z] at e; exact absurd e Bool.false_ne_true

end Lx
end Go.Proofs.YtlinfdgmebogbaaDoor
