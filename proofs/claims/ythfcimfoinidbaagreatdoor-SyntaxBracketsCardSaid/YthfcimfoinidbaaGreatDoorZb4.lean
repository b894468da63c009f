import Derived.Test.YthfcimfoinidbaaGreatDoorZb3
set_option linter.unusedVariables false
set_option linter.unusedSimpArgs false
namespace Go.Proofs.YthfcimfoinidbaaGreatDoor
namespace Sy
open Lx
def kdsl : List Nat := [0, 1, 1, 2, 2, 2, 2, 2, 1, 1, 1, 2, 1, 1, 1, 1, 1, 2, 2, 2, 2, 2, 2, 2, 2, 2]
def kds (o : Nat) : Nat := kdsl.getD o 0
def nodeB (op n : Int) (k : Nat) : Bool := decide (0 ≤ op) && decide (op ≤ 25) && decide (k = kds op.toNat) && (decide (n = 0) || (decide (op = 0) && decide (0 ≤ n) && decide (n < 1000000000000000)))
def okx : Ex → Bool
  | .mk op n ks => nodeB op n ks.length && ks.attach.all (fun ⟨k, h⟩ => okx k)
theorem okx_mk (op n : Int) (ks : List Ex) : okx (.mk op n ks) = (nodeB op n ks.length && ks.all okx) := by
  rw [okx]; simp
def dmx : List Nat → Nat
  | [] => 0
  | d :: l => max d (dmx l)
def dpt : Ex → Nat
  | .mk op n ks => 1 + dmx (ks.attach.map (fun ⟨k, h⟩ => dpt k))
theorem dpt_mk (op n : Int) (ks : List Ex) : dpt (.mk op n ks) = 1 + dmx (ks.map dpt) := by
  rw [dpt]; simp
inductive Form : Ex → Prop where
  | num (n : Int) (h0 : 0 ≤ n) (h1 : n < 1000000000000000) : Form (num n)
  | un (o : Nat) (x : Ex) (hx : okx x = true) (h : o = 1 ∨ o = 2 ∨ (8 ≤ o ∧ o ≤ 10) ∨ (12 ≤ o ∧ o ≤ 16)) : Form (un o x)
  | bin (o : Nat) (x y : Ex) (hx : okx x = true) (hy : okx y = true) (h : (3 ≤ o ∧ o ≤ 7) ∨ o = 11 ∨ (17 ≤ o ∧ o ≤ 25)) : Form (bin o x y)
theorem kds_0 : ∀ o, o < 26 → kds o = 0 → o = 0 := by decide
theorem kds_1 : ∀ o, o < 26 → kds o = 1 → (o = 1 ∨ o = 2 ∨ (8 ≤ o ∧ o ≤ 10) ∨ (12 ≤ o ∧ o ≤ 16)) := by decide
theorem kds_2 : ∀ o, o < 26 → kds o = 2 → ((3 ≤ o ∧ o ≤ 7) ∨ o = 11 ∨ (17 ≤ o ∧ o ≤ 25)) := by decide
theorem kds_le : ∀ o, o < 26 → kds o = 0 ∨ kds o = 1 ∨ kds o = 2 := by decide
theorem kds_1i : ∀ o, o < 26 → (o = 1 ∨ o = 2 ∨ (8 ≤ o ∧ o ≤ 10) ∨ (12 ≤ o ∧ o ≤ 16)) → kds o = 1 := by decide
theorem kds_2i : ∀ o, o < 26 → ((3 ≤ o ∧ o ≤ 7) ∨ o = 11 ∨ (17 ≤ o ∧ o ≤ 25)) → kds o = 2 := by decide
theorem form {x : Ex} (h : okx x = true) : Form x := by
  obtain ⟨op, n, ks⟩ := x
  rw [okx_mk] at h
  simp only [nodeB, Bool.and_eq_true, Bool.or_eq_true, decide_eq_true_eq] at h
  obtain ⟨⟨⟨⟨h0, h1⟩, hk⟩, hn⟩, ha⟩ := h
  have hb : op.toNat < 26 := by omega
  have ho : (op.toNat : Int) = op := by omega
  rcases kds_le op.toNat hb with k | k | k
  · have e := kds_0 _ hb k
    rw [k] at hk
    obtain rfl := List.eq_nil_of_length_eq_zero hk
    have : op = 0 := by omega
    subst this
    exact Form.num n (by omega) (by omega)
  · have e := kds_1 _ hb k
    rw [k] at hk
    have hn0 : n = 0 := by rcases hn with hn | ⟨⟨hn, _⟩, _⟩ <;> omega
    subst hn0
    obtain ⟨x, rfl⟩ := List.length_eq_one_iff.1 hk
    have := Form.un op.toNat x (by simpa using ha) e
    rw [Sy.un, ho] at this; exact this
  · have e := kds_2 _ hb k
    rw [k] at hk
    have hn0 : n = 0 := by rcases hn with hn | ⟨⟨hn, _⟩, _⟩ <;> omega
    subst hn0
    obtain ⟨x, y, rfl⟩ : ∃ x y, ks = [x, y] := by
      match ks, hk with
      | [x, y], _ => exact ⟨x, y, rfl⟩
    simp at ha
    have := Form.bin op.toNat x y ha.1 ha.2 e
    rw [Sy.bin, ho] at this; exact this
theorem okx_num {n : Int} (h0 : 0 ≤ n) (h1 : n < 1000000000000000) : okx (num n) = true := by
  rw [num, okx_mk]; simp [nodeB, kds, kdsl, h0, h1]
theorem okx_un {o : Nat} {x : Ex} (h : okx x = true) (ho : o = 1 ∨ o = 2 ∨ (8 ≤ o ∧ o ≤ 10) ∨ (12 ≤ o ∧ o ≤ 16)) : okx (un o x) = true := by
  rw [un, okx_mk]
  simp only [nodeB, Bool.and_eq_true, Bool.or_eq_true, decide_eq_true_eq]
  refine ⟨⟨⟨⟨by omega, by omega⟩, ?_⟩, .inl trivial⟩, by simp [h]⟩
  rw [show ((o : Int)).toNat = o by omega, kds_1i o (by omega) ho]; rfl
theorem okx_bin {o : Nat} {x y : Ex} (h : okx x = true) (h' : okx y = true) (ho : (3 ≤ o ∧ o ≤ 7) ∨ o = 11 ∨ (17 ≤ o ∧ o ≤ 25)) : okx (bin o x y) = true := by
  rw [bin, okx_mk]
  simp only [nodeB, Bool.and_eq_true, Bool.or_eq_true, decide_eq_true_eq]
  refine ⟨⟨⟨⟨by omega, by omega⟩, ?_⟩, .inl trivial⟩, by simp [h, h']⟩
  rw [show ((o : Int)).toNat = o by omega, kds_2i o (by omega) ho]; rfl
def Good (ts : List Tok) : Prop := ∀ t ∈ ts, (t.k = 2 → 0 ≤ t.n ∧ t.n < 1000000000000000) ∧ (t.x ≠ [] → t.k = 3 ∨ t.k = 4) ∧ (t.k = 3 ∨ t.k = 4 → t.x ≠ []) ∧ (t.k = 1 → 65 ≤ t.n ∧ t.n ≤ 90)
def OkR (r : Rs Ex) : Prop := match r with
  | .ok x _ => okx x = true
  | .bad _ => True
theorem OkR.shut {ts : List Tok} {r : Rs Ex} (h : OkR r) : OkR (shut ts r) := by
  cases r with
  | bad j => trivial
  | ok x j =>
    unfold Sy.shut; simp only
    by_cases e : tx ts j = [93]
    · rw [if_pos e]; exact h
    · rw [if_neg e]; trivial
theorem OkR.wrapU {o : Nat} {r : Rs Ex} (h : OkR r) (ho : o = 1 ∨ o = 2 ∨ (8 ≤ o ∧ o ≤ 10) ∨ (12 ≤ o ∧ o ≤ 16)) : OkR (wrapU o r) := by
  cases r with
  | bad j => trivial
  | ok x j => exact okx_un h ho
theorem OkR.wrapB {o : Nat} {x : Ex} {r : Rs Ex} (hx : okx x = true) (h : OkR r) (ho : (3 ≤ o ∧ o ≤ 7) ∨ o = 11 ∨ (17 ≤ o ∧ o ≤ 25)) : OkR (wrapB o x r) := by
  cases r with
  | bad j => trivial
  | ok y j => exact okx_bin hx h ho
theorem fun1_range {x : List UInt8} {o : Nat} (h : fun1 x = some o) : (8 ≤ o ∧ o ≤ 10) ∨ (12 ≤ o ∧ o ≤ 16) := by
  unfold fun1 at h
  split at h
  · injection h with h; subst h
    have := fop_range ‹_›; omega
  · have := fop_range h; omega
theorem lop_range {l : Nat} {x : List UInt8} {o : Nat} (h : lop l x = some o) : (3 ≤ o ∧ o ≤ 7) ∨ o = 11 ∨ (17 ≤ o ∧ o ≤ 25) := by
  unfold lop at h
  have := fop_range h
  unfold lo cn at this
  split at this <;> simp at this <;> omega
theorem num_ok {ts : List Tok} (hg : Good ts) {i : Nat} (h : kd ts i = 2) : 0 ≤ tn ts i ∧ tn ts i < 1000000000000000 := by
  have g := kd_lt h (by decide)
  unfold kd at h; unfold tn
  rw [List.getElem?_eq_getElem g] at h ⊢
  exact (hg _ (List.getElem_mem g)).1 h
structure OkAll (ts : List Tok) (f : Nat) : Prop where
  e : ∀ l i, OkR (pE ts f l i)
  l : ∀ l x i, okx x = true → OkR (pL ts f l x i)
  p : ∀ i, OkR (pP ts f i)
  c : ∀ i, OkR (pC ts f i)
  b : ∀ i, OkR (pB ts f i)
theorem okr (ts : List Tok) (hg : Good ts) : ∀ f, OkAll ts f
  | 0 => ⟨fun l i => by unfold pE; trivial, fun l x i h => by unfold pL; trivial, fun i => by unfold pP; trivial, fun i => by unfold pC; trivial, fun i => by unfold pB; trivial⟩
  | f + 1 => by
    have ih := okr ts hg f
    refine ⟨fun l i => ?_, fun l x i h => ?_, fun i => ?_, fun i => ?_, fun i => ?_⟩
    · unfold pE
      split
      · split
        · exact OkR.wrapU (o := 2) (ih.e 5 (i + 1)) (by omega)
        · split
          · exact ih.e 5 (i + 1)
          · exact ih.p i
      · have g := ih.e (l + 1) i
        cases e : pE ts f (l + 1) i with
        | bad j => trivial
        | ok x j => rw [e] at g; exact ih.l l x j g
    · unfold pL
      cases e : lop l (tx ts i) with
      | none => exact h
      | some o =>
        have g := ih.e (l + 1) (i + 1)
        cases e1 : pE ts f (l + 1) (i + 1) with
        | bad j => trivial
        | ok y j =>
          rw [e1] at g
          have k : okx (bin o x y) = true := okx_bin h g (lop_range e)
          simp only
          split
          · exact k
          · exact ih.l l _ j k
    · unfold pP
      split
      · have g := ih.b (i + 1)
        cases e1 : pB ts f (i + 1) with
        | bad j => trivial
        | ok x j =>
          rw [e1] at g
          simp only
          split
          · exact OkR.wrapB (o := 11) g (ih.b (j + 1)) (by omega)
          · trivial
      · cases e1 : fun1 (tx ts i) with
        | none => exact ih.c i
        | some o => exact OkR.wrapU (ih.b (i + 1)) (by have := fun1_range e1; omega)
    · unfold pC
      split
      · have := num_ok hg ‹_›
        exact okx_num this.1 this.2
      · split
        · exact OkR.wrapU (o := 1) (ih.c (i + 1)) (by omega)
        · exact ih.b i
    · unfold pB
      split
      · exact OkR.shut (ih.e 0 (i + 1))
      · trivial
abbrev Tr := Int × Int × List UInt8
def tri (t : Tok) : Tr := (t.k, t.n, t.x)
def sgn (c : UInt8) : Tr := (4, 0, [c])
def nam (x : List UInt8) : Tr := (3, 0, x)
def nmb (n : Int) : Tr := (2, n, [])
def let1 (c : Int) : Tr := (1, c, [])
def otk (o : Nat) : Tr := if (onm o).length = 1 then (4, 0, onm o) else (3, 0, onm o)
def tpc : Ex → List Tr × List Tr
  | .mk op n [] => ([nmb n], [nmb n])
  | .mk op n [x] =>
    if op = 1 then
      let c := sgn 35 :: (if x.op = 0 ∨ x.op = 1 then (tpc x).2 else sgn 91 :: (tpc x).1 ++ [sgn 93])
      (c, c)
    else if op = 2 then
      let p := sgn 45 :: (tpc x).2
      (p, sgn 91 :: p ++ [sgn 93])
    else
      let c := nam (onm op.toNat) :: sgn 91 :: (tpc x).1 ++ [sgn 93]
      (c, c)
  | .mk op n (x :: y :: _) =>
    if op = 11 then
      let c := nam (onm 11) :: sgn 91 :: (tpc x).1 ++ sgn 93 :: sgn 47 :: sgn 91 :: (tpc y).1 ++ [sgn 93]
      (c, c)
    else
      let p := (tpc x).2 ++ otk op.toNat :: (tpc y).2
      (p, sgn 91 :: p ++ [sgn 93])
def tpr (x : Ex) : List Tr := (tpc x).1
def tcl (x : Ex) : List Tr := (tpc x).2
def smp (x : Ex) : Bool := decide (x.op = 0) || decide (x.op = 1)
def tce (x : Ex) : List Tr := if smp x = true then tcl x else sgn 91 :: tpr x ++ [sgn 93]
def Has (ts : List Tok) (i : Nat) (us : List Tr) : Prop := ∃ r, (ts.map tri).drop i = us ++ r
theorem Has.left {ts : List Tok} {i : Nat} {us vs : List Tr} (h : Has ts i (us ++ vs)) : Has ts i us := by
  obtain ⟨r, h⟩ := h; exact ⟨vs ++ r, by rw [h, List.append_assoc]⟩
theorem Has.right {ts : List Tok} {i : Nat} {us vs : List Tr} (h : Has ts i (us ++ vs)) : Has ts (i + us.length) vs := by
  obtain ⟨r, h⟩ := h
  refine ⟨r, ?_⟩
  rw [← List.drop_drop, h, List.append_assoc, List.drop_left]
theorem Has.tail {ts : List Tok} {i : Nat} {u : Tr} {us : List Tr} (h : Has ts i (u :: us)) : Has ts (i + 1) us := Has.right (us := [u]) h
theorem Has.head {ts : List Tok} {i : Nat} {u : Tr} {us : List Tr} (h : Has ts i (u :: us)) : kd ts i = u.1 ∧ tn ts i = u.2.1 ∧ tx ts i = u.2.2 ∧ i < ts.length := by
  obtain ⟨r, h⟩ := h
  have g : (ts.map tri)[i]? = some u := by
    have : ((ts.map tri).drop i)[0]? = some u := by rw [h]; rfl
    rw [List.getElem?_drop] at this; exact this
  rw [List.getElem?_map] at g
  cases e : ts[i]? with
  | none => rw [e] at g; cases g
  | some t =>
    rw [e] at g
    injection g with g
    subst g
    unfold kd tn tx
    rw [e]
    exact ⟨rfl, rfl, rfl, (List.getElem?_eq_some_iff.1 e).1⟩
theorem Has.le {ts : List Tok} {i : Nat} {us : List Tr} (h : Has ts i us) (hi : i ≤ ts.length) : i + us.length ≤ ts.length := by
  obtain ⟨r, h⟩ := h
  have := congrArg List.length h
  simp at this
  omega
def Noop (ts : List Tok) (l i : Nat) : Prop := ∀ m, l ≤ m → m ≤ 4 → lop m (tx ts i) = none
theorem lop_93 : ∀ m, m ≤ 4 → lop m [93] = none := by decide
theorem noop_sgn93 {ts : List Tok} {i : Nat} {us : List Tr} (h : Has ts i (sgn 93 :: us)) : Noop ts 0 i := fun m _ hm => by
  rw [h.head.2.2.1]; exact lop_93 m hm
def need (n i l : Nat) : Nat := 16 * (n - i) + 4 + (5 - l)
theorem lift {ts : List Tok} {i j : Nat} {x : Ex} (h5 : ∀ f, need ts.length i 5 ≤ f → pE ts f 5 i = .ok x j) (l : Nat) (hl : l ≤ 5) (hn : Noop ts l j) : ∀ f, need ts.length i l ≤ f → pE ts f l i = .ok x j := by
  induction hk : 5 - l generalizing l with
  | zero =>
    obtain rfl : l = 5 := by omega
    exact h5
  | succ k ih =>
    intro f hf
    unfold need at hf
    obtain ⟨f, rfl⟩ : ∃ g, f = g + 1 := ⟨f - 1, by omega⟩
    rw [pE, if_neg (by omega), ih (l + 1) (by omega) (fun m hm => hn m (by omega)) (by omega) f (by unfold need; omega)]
    simp only
    obtain ⟨f, rfl⟩ : ∃ g, f = g + 1 := ⟨f - 1, by omega⟩
    rw [pL, hn l (Nat.le_refl _) (by omega)]
def olv (o : Nat) : Nat := if 24 ≤ o then 0 else if o = 23 then 1 else if 17 ≤ o then 2 else if o ≤ 4 then 3 else 4
def binB (o : Nat) : Bool := (decide (3 ≤ o) && decide (o ≤ 7)) || (decide (17 ≤ o) && decide (o ≤ 25))
theorem lop_own : ∀ o, o < 26 → binB o = true → lop (olv o) (onm o) = some o := by decide
theorem lop_up : ∀ o, o < 26 → binB o = true → ∀ m, m < 5 → olv o < m → lop m (onm o) = none := by decide
theorem olv_le : ∀ o, o < 26 → binB o = true → olv o ≤ 4 := by decide
theorem otk_x (o : Nat) : (otk o).2.2 = onm o := by unfold otk; split <;> rfl
theorem pE_bin {ts : List Tok} {i j k : Nat} {x y : Ex} {o : Nat} (ho : binB o = true) (ho' : o < 26) (hij : i < j) (hjl : j < ts.length) (hjk : j + 1 < k)
    (hx : ∀ f, need ts.length i 5 ≤ f → pE ts f 5 i = .ok x j) (ht : tx ts j = onm o)
    (hy : ∀ f, need ts.length (j + 1) 5 ≤ f → pE ts f 5 (j + 1) = .ok y k) (hn : Noop ts 0 k) (l : Nat) (hl : l ≤ olv o) : ∀ f, need ts.length i l ≤ f → pE ts f l i = .ok (bin o x y) k := by
  have hv := olv_le o ho' ho
  induction hd : olv o - l generalizing l with
  | zero =>
    obtain rfl : l = olv o := by omega
    intro f hf
    unfold need at hf
    obtain ⟨f, rfl⟩ : ∃ g, f = g + 1 := ⟨f - 1, by omega⟩
    rw [pE, if_neg (by omega)]
    rw [lift hx (olv o + 1) (by omega) (fun m h1 h2 => by rw [ht]; exact lop_up o ho' ho m (by omega) (by omega)) f (by unfold need; omega)]
    simp only
    obtain ⟨f, rfl⟩ : ∃ g, f = g + 1 := ⟨f - 1, by omega⟩
    rw [pL, ht, lop_own o ho' ho]
    simp only
    rw [lift hy (olv o + 1) (by omega) (fun m h1 h2 => hn m (by omega) h2) f (by unfold need; omega)]
    simp only
    split
    · rfl
    · obtain ⟨f, rfl⟩ : ∃ g, f = g + 1 := ⟨f - 1, by omega⟩
      rw [pL, hn _ (Nat.zero_le _) (by omega)]
  | succ d ih =>
    intro f hf
    unfold need at hf
    obtain ⟨f, rfl⟩ : ∃ g, f = g + 1 := ⟨f - 1, by omega⟩
    rw [pE, if_neg (by omega), ih (l + 1) (by omega) (by omega) f (by unfold need; omega)]
    simp only
    obtain ⟨f, rfl⟩ : ∃ g, f = g + 1 := ⟨f - 1, by omega⟩
    rw [pL, hn l (Nat.zero_le _) (by omega)]
structure Back (x : Ex) : Prop where
  c : ∀ ts i, i ≤ ts.length → Has ts i (tcl x) → ∀ f, 16 * (ts.length - i) + 3 ≤ f → pP ts f i = .ok x (i + (tcl x).length)
  p : ∀ ts i, i ≤ ts.length → Has ts i (tpr x) → Noop ts 0 (i + (tpr x).length) → ∀ f, need ts.length i 0 ≤ f → pE ts f 0 i = .ok x (i + (tpr x).length)
  s : smp x = true → ∀ ts i, i ≤ ts.length → Has ts i (tcl x) → ∀ f, 16 * (ts.length - i) + 2 ≤ f → pC ts f i = .ok x (i + (tcl x).length)
theorem Back.b {x : Ex} (h : Back x) {ts : List Tok} {i : Nat} (hi : i ≤ ts.length) (hh : Has ts i (sgn 91 :: tpr x ++ [sgn 93])) : ∀ f, 16 * (ts.length - i) + 1 ≤ f → pB ts f i = .ok x (i + (tpr x).length + 2) := by
  intro f hf
  obtain ⟨f, rfl⟩ : ∃ g, f = g + 1 := ⟨f - 1, by omega⟩
  have h0 := hh.head
  have h1 : Has ts (i + 1) (tpr x) := (Has.left hh).tail
  have h2 : Has ts (i + 1 + (tpr x).length) [sgn 93] := by
    have := Has.right (us := sgn 91 :: tpr x) hh
    rw [List.length_cons, show i + ((tpr x).length + 1) = i + 1 + (tpr x).length by omega] at this; exact this
  have l2 := h0.2.2.2
  rw [pB, if_pos (show tx ts i = [91] from h0.2.2.1), h.p ts (i + 1) (by omega) h1 (noop_sgn93 h2) f (by unfold need; omega)]
  unfold shut
  simp only
  rw [if_pos (show tx ts (i + 1 + (tpr x).length) = [93] from h2.head.2.2.1), show i + 1 + (tpr x).length + 1 = i + (tpr x).length + 2 by omega]
theorem Back.ce {x : Ex} (h : Back x) {ts : List Tok} {i : Nat} (hi : i ≤ ts.length) (hh : Has ts i (tce x)) : ∀ f, 16 * (ts.length - i) + 2 ≤ f → pC ts f i = .ok x (i + (tce x).length) := by
  intro f hf
  unfold tce at hh ⊢
  cases hs : smp x with
  | true =>
    rw [hs, if_pos rfl] at hh
    rw [if_pos rfl]
    exact h.s hs ts i hi hh f hf
  | false =>
    rw [hs, if_neg (by decide)] at hh
    rw [if_neg (by decide)]
    obtain ⟨f, rfl⟩ : ∃ g, f = g + 1 := ⟨f - 1, by omega⟩
    have h0 := hh.head
    have k0 : kd ts i = 4 := h0.1
    have x0 : tx ts i = [91] := h0.2.2.1
    rw [pC, if_neg (by rw [k0]; decide), if_neg (by rw [x0]; decide), h.b hi hh f (by omega)]
    congr 1
    simp only [List.cons_append, List.length_cons, List.length_append, List.length_nil]; omega
theorem pP_cell {ts : List Tok} {i : Nat} (hx : tx ts i = [] ∨ tx ts i = [35] ∨ tx ts i = [91]) (f : Nat) : pP ts (f + 1) i = pC ts f i := by
  rw [pP]
  rcases hx with h | h | h <;> rw [h] <;> rw [if_neg (by decide)] <;> rfl
theorem pE_5 {ts : List Tok} {i : Nat} (h1 : tx ts i ≠ [45]) (h2 : tx ts i ≠ [43]) (f : Nat) : pE ts (f + 1) 5 i = pP ts f i := by
  rw [pE, if_pos rfl, if_neg h1, if_neg h2]
theorem names_ne : ∀ o, o < 26 → ((8 ≤ o ∧ o ≤ 10) ∨ (12 ≤ o ∧ o ≤ 16)) → onm o ≠ [65, 84, 65, 78] ∧ fun1 (onm o) = some o ∧ onm o ≠ [45] ∧ onm o ≠ [43] := by decide
theorem tcl_head {x : Ex} (h : Form x) : ∃ u us, tcl x = u :: us ∧ u.2.2 ≠ [45] ∧ u.2.2 ≠ [43] := by
  cases h with
  | num n h0 h1 => exact ⟨nmb n, [], by simp [tcl, num, tpc], by simp [nmb], by simp [nmb]⟩
  | un o x hx ho =>
    unfold tcl un
    rw [tpc]
    split
    · exact ⟨_, _, rfl, by decide, by decide⟩
    · split
      · exact ⟨_, _, rfl, by decide, by decide⟩
      · refine ⟨_, _, rfl, ?_, ?_⟩ <;> (simp only [nam]; have := names_ne o (by omega) (by omega); rw [show ((o : Int)).toNat = o by omega]; simp [this])
  | bin o x y hx hy ho =>
    unfold tcl bin
    rw [tpc]
    split
    · exact ⟨_, _, rfl, by decide, by decide⟩
    · exact ⟨_, _, rfl, by decide, by decide⟩
theorem Back.five {x : Ex} (h : Back x) (hf : Form x) {ts : List Tok} {i : Nat} (hi : i ≤ ts.length) (hh : Has ts i (tcl x)) : ∀ f, need ts.length i 5 ≤ f → pE ts f 5 i = .ok x (i + (tcl x).length) := by
  intro f hn
  unfold need at hn
  obtain ⟨f, rfl⟩ : ∃ g, f = g + 1 := ⟨f - 1, by omega⟩
  obtain ⟨u, us, e, h1, h2⟩ := tcl_head hf
  have hd := (show Has ts i (u :: us) from e ▸ hh).head.2.2.1
  rw [pE_5 (by rw [hd]; exact h1) (by rw [hd]; exact h2), h.c ts i hi hh f (by omega)]
theorem Back.ofC {x : Ex} (hf : Form x) (e : tpr x = tcl x) (hc : ∀ ts i, i ≤ ts.length → Has ts i (tcl x) → ∀ f, 16 * (ts.length - i) + 3 ≤ f → pP ts f i = .ok x (i + (tcl x).length))
    (hs : smp x = true → ∀ ts i, i ≤ ts.length → Has ts i (tcl x) → ∀ f, 16 * (ts.length - i) + 2 ≤ f → pC ts f i = .ok x (i + (tcl x).length)) : Back x := by
  refine ⟨hc, fun ts i hi hh hn => ?_, hs⟩
  rw [e] at hh hn ⊢
  refine lift (fun f hf' => ?_) 0 (by omega) hn
  unfold need at hf'
  obtain ⟨f, rfl⟩ : ∃ g, f = g + 1 := ⟨f - 1, by omega⟩
  obtain ⟨u, us, e', h1, h2⟩ := tcl_head hf
  have hd := (show Has ts i (u :: us) from e' ▸ hh).head.2.2.1
  rw [pE_5 (by rw [hd]; exact h1) (by rw [hd]; exact h2), hc ts i hi hh f (by omega)]
theorem Back.ofP {x : Ex} (hf : Form x) (e : tcl x = sgn 91 :: tpr x ++ [sgn 93]) (hs0 : smp x = false)
    (hp : ∀ ts i, i ≤ ts.length → Has ts i (tpr x) → Noop ts 0 (i + (tpr x).length) → ∀ f, need ts.length i 0 ≤ f → pE ts f 0 i = .ok x (i + (tpr x).length)) : Back x := by
  have hs : smp x = true → ∀ ts i, i ≤ ts.length → Has ts i (tcl x) → ∀ f, 16 * (ts.length - i) + 2 ≤ f → pC ts f i = .ok x (i + (tcl x).length) := fun h => by rw [hs0] at h; cases h
  refine ⟨fun ts i hi hh f hf' => ?_, hp, hs⟩
  obtain ⟨f, rfl⟩ : ∃ g, f = g + 1 := ⟨f - 1, by omega⟩
  rw [e] at hh ⊢
  have x0 : tx ts i = [91] := hh.head.2.2.1
  have k0 : kd ts i = 4 := hh.head.1
  rw [pP_cell (.inr (.inr x0))]
  obtain ⟨f, rfl⟩ : ∃ g, f = g + 1 := ⟨f - 1, by omega⟩
  have l2 := hh.head.2.2.2
  obtain ⟨f, rfl⟩ : ∃ g, f = g + 1 := ⟨f - 1, by omega⟩
  have h1 : Has ts (i + 1) (tpr x) := (Has.left hh).tail
  have h2 : Has ts (i + 1 + (tpr x).length) [sgn 93] := by
    have := Has.right (us := sgn 91 :: tpr x) hh
    rw [List.length_cons, show i + ((tpr x).length + 1) = i + 1 + (tpr x).length by omega] at this; exact this
  rw [pC, if_neg (by rw [k0]; decide), if_neg (by rw [x0]; decide), pB, if_pos x0, hp ts (i + 1) (by omega) h1 (noop_sgn93 h2) f (by unfold need; omega)]
  unfold shut
  simp only
  rw [if_pos (show tx ts (i + 1 + (tpr x).length) = [93] from h2.head.2.2.1)]
  congr 1
  simp only [List.cons_append, List.length_cons, List.length_append, List.length_nil]; omega
theorem binB_of {o : Nat} (h : (3 ≤ o ∧ o ≤ 7) ∨ o = 11 ∨ (17 ≤ o ∧ o ≤ 25)) (h' : o ≠ 11) : binB o = true := by
  unfold binB; simp; omega
theorem tcl_pos {x : Ex} (h : Form x) : 1 ≤ (tcl x).length := by
  obtain ⟨u, us, e, _⟩ := tcl_head h; rw [e]; simp
theorem back (x : Ex) : okx x = true → Back x := by
  induction x using Ex.ind with
  | h op n ks ih =>
    intro hok
    have hF := form hok
    cases hF with
    | num n h0 h1 =>
      have hc : ∀ ts i, i ≤ ts.length → Has ts i (tcl (.mk 0 n [])) → ∀ f, 16 * (ts.length - i) + 2 ≤ f → pC ts f i = .ok (.mk 0 n []) (i + (tcl (.mk 0 n [])).length) := fun ts i hi hh f hf => by
        obtain ⟨f, rfl⟩ : ∃ g, f = g + 1 := ⟨f - 1, by omega⟩
        have e : tcl (.mk 0 n []) = [nmb n] := by simp [tcl, tpc]
        rw [e] at hh ⊢
        have h := hh.head
        rw [pC, if_pos (show kd ts i = 2 from h.1), show tn ts i = n from h.2.1]; rfl
      refine Back.ofC (Form.num n h0 h1) (by simp [tpr, tcl, tpc]) (fun ts i hi hh f hf => ?_) (fun _ => hc)
      obtain ⟨f, rfl⟩ : ∃ g, f = g + 1 := ⟨f - 1, by omega⟩
      have e : tcl (.mk 0 n []) = [nmb n] := by simp [tcl, tpc]
      have hx : tx ts i = [] := (show Has ts i [nmb n] from e ▸ hh).head.2.2.1
      rw [pP_cell (.inl hx)]
      exact hc ts i hi hh f (by omega)
    | un o x hx ho =>
      have ihx := ih x (by simp) hx
      have hT : ((o : Int)).toNat = o := by omega
      by_cases o1 : o = 1
      · subst o1
        have e : tcl (.mk ((1 : Nat) : Int) 0 [x]) = sgn 35 :: tce x := by
          simp only [tcl, tpc, tce, smp, tpr]
          simp
        have hc : ∀ ts i, i ≤ ts.length → Has ts i (tcl (.mk ((1 : Nat) : Int) 0 [x])) → ∀ f, 16 * (ts.length - i) + 2 ≤ f → pC ts f i = .ok (.mk ((1 : Nat) : Int) 0 [x]) (i + (tcl (.mk ((1 : Nat) : Int) 0 [x])).length) := fun ts i hi hh f hf => by
          obtain ⟨f, rfl⟩ : ∃ g, f = g + 1 := ⟨f - 1, by omega⟩
          rw [e] at hh ⊢
          have h := hh.head
          have k0 : kd ts i = 4 := h.1
          have l0 := h.2.2.2
          rw [pC, if_neg (by rw [k0]; decide), if_pos (show tx ts i = [35] from h.2.2.1), ihx.ce (by omega) hh.tail f (by omega)]
          show Rs.ok _ _ = _
          congr 1
          simp only [List.length_cons]; omega
        refine Back.ofC (Form.un 1 x hx ho) (by simp [tpr, tcl, tpc]) (fun ts i hi hh f hf => ?_) (fun _ => hc)
        obtain ⟨f, rfl⟩ : ∃ g, f = g + 1 := ⟨f - 1, by omega⟩
        have h35 : tx ts i = [35] := (show Has ts i (sgn 35 :: tce x) from e ▸ hh).head.2.2.1
        rw [pP_cell (.inr (.inl h35))]
        exact hc ts i hi hh f (by omega)
      · by_cases o2 : o = 2
        · subst o2
          refine Back.ofP (Form.un 2 x hx ho) (by simp [tpr, tcl, tpc]) (by simp [smp, Ex.op]) (fun ts i hi hh hn => ?_)
          have e : tpr (.mk ((2 : Nat) : Int) 0 [x]) = sgn 45 :: tcl x := by simp [tpr, tcl, tpc]
          rw [e] at hh hn ⊢
          have h := hh.head
          have l0 := h.2.2.2
          refine lift (fun f hf => ?_) 0 (by omega) hn
          unfold need at hf
          obtain ⟨f, rfl⟩ : ∃ g, f = g + 1 := ⟨f - 1, by omega⟩
          rw [pE, if_pos rfl, if_pos (show tx ts i = [45] from h.2.2.1), ihx.five (form hx) (by omega) hh.tail f (by unfold need; omega)]
          show Rs.ok _ _ = _
          congr 1
          simp only [List.length_cons]; omega
        · have e : tcl (.mk (o : Int) 0 [x]) = nam (onm o) :: (sgn 91 :: tpr x ++ [sgn 93]) := by
            unfold tcl; rw [tpc, if_neg (by omega), if_neg (by omega), hT]; rfl
          have e' : tpr (.mk (o : Int) 0 [x]) = nam (onm o) :: (sgn 91 :: tpr x ++ [sgn 93]) := by
            unfold tpr; rw [tpc, if_neg (by omega), if_neg (by omega), hT]; rfl
          have hs0 : smp (.mk (o : Int) 0 [x]) = false := by unfold smp Ex.op; simp; omega
          refine Back.ofC (Form.un o x hx ho) (by rw [e, e']) (fun ts i hi hh f hf => ?_) (fun h => by rw [hs0] at h; cases h)
          obtain ⟨f, rfl⟩ : ∃ g, f = g + 1 := ⟨f - 1, by omega⟩
          rw [e] at hh ⊢
          have h := hh.head
          have l0 := h.2.2.2
          have nn := names_ne o (by omega) (by omega)
          have hx0 : tx ts i = onm o := h.2.2.1
          rw [pP, hx0, if_neg nn.1, nn.2.1]
          simp only
          rw [ihx.b (by omega) hh.tail f (by omega)]
          show Rs.ok _ _ = _
          congr 1
          simp only [List.cons_append, List.length_cons, List.length_append, List.length_nil]; omega
    | bin o x y hx hy ho =>
      have ihx := ih x (by simp) hx
      have ihy := ih y (by simp) hy
      have hT : ((o : Int)).toNat = o := by omega
      by_cases o11 : o = 11
      · subst o11
        have e : tcl (.mk ((11 : Nat) : Int) 0 [x, y]) = nam (onm 11) :: ((sgn 91 :: tpr x ++ [sgn 93]) ++ (sgn 47 :: (sgn 91 :: tpr y ++ [sgn 93]))) := by
          unfold tcl; rw [tpc, if_pos (show ((11 : Nat) : Int) = 11 from rfl)]; simp [tpr]
        have e' : tpr (.mk ((11 : Nat) : Int) 0 [x, y]) = tcl (.mk ((11 : Nat) : Int) 0 [x, y]) := by
          unfold tcl tpr; rw [tpc, if_pos (show ((11 : Nat) : Int) = 11 from rfl)]
        have hs0 : smp (.mk ((11 : Nat) : Int) 0 [x, y]) = false := by unfold smp Ex.op; simp
        refine Back.ofC (Form.bin 11 x y hx hy ho) e' (fun ts i hi hh f hf => ?_) (fun h => by rw [hs0] at h; cases h)
        obtain ⟨f, rfl⟩ : ∃ g, f = g + 1 := ⟨f - 1, by omega⟩
        rw [e] at hh ⊢
        have h := hh.head
        have l0 := h.2.2.2
        have hx0 : tx ts i = [65, 84, 65, 78] := h.2.2.1
        have h1 := hh.tail.left
        have h2 := hh.tail.right
        have l1 : (sgn 91 :: tpr x ++ [sgn 93]).length = (tpr x).length + 2 := by simp
        rw [l1] at h2
        have g2 := h2.head
        have l2 := g2.2.2.2
        rw [pP, if_pos hx0, ihx.b (by omega) h1 f (by omega)]
        simp only
        rw [show i + 1 + (tpr x).length + 2 = i + 1 + ((tpr x).length + 2) by omega, if_pos (show tx ts (i + 1 + ((tpr x).length + 2)) = [47] from g2.2.2.1), ihy.b (by omega) h2.tail f (by omega)]
        show Rs.ok _ _ = _
        congr 1
        simp only [List.cons_append, List.length_cons, List.length_append, List.length_nil]; omega
      · have hb := binB_of ho o11
        have e : tpr (.mk (o : Int) 0 [x, y]) = tcl x ++ otk o :: tcl y := by
          unfold tpr; rw [tpc, if_neg (by omega), hT]; rfl
        refine Back.ofP (Form.bin o x y hx hy ho) (by rw [e]; unfold tcl; rw [tpc, if_neg (by omega), hT]) (by unfold smp Ex.op; simp; omega) (fun ts i hi hh hn f hf => ?_)
        rw [e] at hh hn ⊢
        have h1 := hh.left
        have h2 := hh.right
        have g2 := h2.head
        have p1 := tcl_pos (form hx)
        have p2 := tcl_pos (form hy)
        have lk : i + (tcl x ++ otk o :: tcl y).length = i + (tcl x).length + 1 + (tcl y).length := by simp only [List.length_cons, List.length_append]; omega
        rw [lk] at hn ⊢
        exact pE_bin hb (by omega) (by omega) g2.2.2.2 (by omega) (ihx.five (form hx) hi h1) (by rw [g2.2.2.1, otk_x]) (ihy.five (form hy) (by have := g2.2.2.2; omega) h2.tail) hn 0 (by omega) f hf
end Sy
end Go.Proofs.YthfcimfoinidbaaGreatDoor
set_option linter.unusedVariables false
set_option linter.unusedSimpArgs false
namespace Go.Proofs.YthfcimfoinidbaaGreatDoor
namespace Sy
open Lx
def noneB (x : Ex) : Bool := decide (x.op = 0) && decide (x.n = 0) && decide (x.ks.length = 0)
theorem noneB_eq {x : Ex} (h : noneB x = true) : x = zx := by
  obtain ⟨o, n, ks⟩ := x
  unfold noneB at h
  simp only [Bool.and_eq_true] at h
  obtain ⟨⟨h1, h2⟩, h3⟩ := h
  have k1 : o = 0 := of_decide_eq_true h1
  have k2 : n = 0 := of_decide_eq_true h2
  have k3 : ks.length = 0 := of_decide_eq_true h3
  rw [k1, k2, List.eq_nil_of_length_eq_zero k3]; rfl
theorem noneB_zx : noneB zx = true := rfl
def depB (x : Ex) : Bool := decide (dpt x ≤ 16)
def rgt (x : Ex) : Bool := okx x && depB x
def cnt (n : Int) (m : Nat) : Bool := decide (1 ≤ n) && decide (n ≤ m)
def okb (b : Bl) : Bool :=
  (decide (b.label = 0) || cnt b.label 99999) &&
  (if b.kind = 0 then b.words.all (fun w => isw w.1 && okx w.2) && noneB b.left && noneB b.x && decide (b.n = 0)
  else decide (b.words = []) &&
    (if b.kind = 1 ∨ b.kind = 3 then okx b.left && okx b.x && decide (b.n = 0)
    else if b.kind = 2 then noneB b.left && okx b.x && decide (b.n = 0)
    else if b.kind = 4 then noneB b.left && okx b.x && cnt b.n 3
    else if b.kind = 5 then noneB b.left && noneB b.x && cnt b.n 3
    else if b.kind = 6 then noneB b.left && noneB b.x && cnt b.n 99999
    else false))
def limb (b : Bl) : Bool := decide (b.words.length ≤ 24) && b.words.all (fun w => depB w.2) && depB b.left && depB b.x
def vldb (b : Bl) : Bool := okb b && limb b
theorem dpt_zx : depB zx = true := by unfold depB zx; rw [dpt_mk]; decide
def cIF : List UInt8 := [73, 70]
def cGOTO : List UInt8 := [71, 79, 84, 79]
def cWHILE : List UInt8 := [87, 72, 73, 76, 69]
def cDO : List UInt8 := [68, 79]
def cEND : List UInt8 := [69, 78, 68]
def inbT (x : Ex) : List Tr := sgn 91 :: tpr x ++ [sgn 93]
theorem has_all {ts : List Tok} {us : List Tr} (h : ts.map tri = us) : Has ts 0 us := ⟨[], by rw [List.drop_zero, h, List.append_nil]⟩
theorem kd_end (ts : List Tok) : kd ts ts.length = 0 ∧ tx ts ts.length = [] := by
  unfold kd tx; rw [List.getElem?_eq_none (Nat.le_refl _)]; exact ⟨rfl, rfl⟩
theorem pV_ok {ts : List Tok} (hg : Good ts) (i : Nat) : OkR (pV ts i) := by
  unfold pV
  split
  · exact OkR.wrapU (o := 2) ((okr ts hg _).c (i + 1)) (by omega)
  · split
    · exact (okr ts hg _).c (i + 1)
    · exact (okr ts hg _).c i
def wsB (ws : List (Int × Ex)) : Bool := ws.all (fun w => isw w.1 && okx w.2)
theorem pW_ok {ts : List Tok} (hg : Good ts) : ∀ (f : Nat) (ws : List (Int × Ex)) (i : Nat), wsB ws = true → ∀ us j, pW ts f ws i = .ok us j → wsB us = true
  | 0, ws, i, h, us, j, e => by unfold pW at e; cases e
  | f + 1, ws, i, h, us, j, e => by
    unfold pW at e
    split at e
    · rename_i hc
      have g := pV_ok hg (i + 1)
      cases e1 : pV ts (i + 1) with
      | bad k => rw [e1] at e; cases e
      | ok x k =>
        rw [e1] at e g
        simp only at e
        refine pW_ok hg f _ k ?_ us j e
        unfold wsB at h ⊢
        rw [List.all_append, h]
        simp [hc.2, show okx x = true from g]
    · cases e; exact h
theorem wrapC_ok {α β : Type} {g : α → β} {r : Rs α} {y : β} {j : Nat} (e : wrapC g r = .ok y j) : ∃ x, r = .ok x j ∧ y = g x := by
  cases r with
  | bad k => cases e
  | ok x k => cases e; exact ⟨x, rfl, rfl⟩
end Sy
end Go.Proofs.YthfcimfoinidbaaGreatDoor

