import Derived.Test.YtbcbnkapipimmaaGreatDoorRows
import Derived.WalkKit
import Derived.BigQuiet
import Derived.Deep.QuietTactic
import Derived.Lib.Hide
import Derived.Lib.ItoaNum
import Derived.Shelf.Small.Bits
import Derived.Shelf.Strconv.Itoa0
import Derived.Shelf.Bits.Mul64
import Derived.Laws.Externs
import Derived.Below
import Derived.Lib.Bytealg
import Derived.IntWalk
import Derived.Lib.MinMax
import Derived.Outline
import Derived.Deep.MidRow
import Derived.Lib.Strings
set_option linter.unusedVariables false
set_option linter.unusedSimpArgs false
namespace Go.Proofs.YtbcbnkapipimmaaGreatDoor.Mth
def isq : Nat → Nat
  | 0 => 0
  | n + 1 => if (isq n + 1) * (isq n + 1) ≤ n + 1 then isq n + 1 else isq n
def rt (n : Int) : Int := (isq n.toNat : Int)
def away (mode : Int) (neg : Bool) (rest : Int) : Bool :=
  if mode = 0 then neg && decide (rest ≠ 0) else if mode = 1 then !neg && decide (rest ≠ 0) else (decide (rest = 3) || (decide (rest = 2) && !neg))
def rnd (mode : Int) (neg : Bool) (q rest : Int) : Int :=
  if neg then -(q + (if away mode neg rest then 1 else 0)) else q + (if away mode neg rest then 1 else 0)
def rok (mode : Int) (neg : Bool) (q rest : Int) : Bool :=
  decide (mode = 0 ∨ mode = 1 ∨ mode = 2) && decide (-9223372036854775808 ≤ rnd mode neg q rest ∧ rnd mode neg q rest ≤ 9223372036854775807)
def rv (mode : Int) (neg : Bool) (q rest : Int) : Int := if rok mode neg q rest then rnd mode neg q rest else 0
end Go.Proofs.YtbcbnkapipimmaaGreatDoor.Mth
set_option linter.unusedVariables false
set_option linter.unusedSimpArgs false
namespace Go.Proofs.YtbcbnkapipimmaaGreatDoor
open Go.RowKit
theorem ret_i64 {a b : Int} (h : a = b) : Ending.returned (.int .i64 a) = .returned (.int .i64 b) := by rw [h]
def restR (q o l n : Int) : Int := if o = 0 ∧ l = 0 then 0 else if o < q ∨ o = q ∧ 4 * l < n then 1 else if o = q ∧ 4 * l = n then 2 else 3
end Go.Proofs.YtbcbnkapipimmaaGreatDoor
set_option linter.unusedVariables false
set_option linter.unusedSimpArgs false
namespace Go.Proofs.YtbcbnkapipimmaaGreatDoor
open Go.RowKit
theorem ret_ib {a b : Int} {p q : Bool} (h : a = b) (g : p = q) : Ending.returned (.tuple #[.int .i64 a, .bool p]) = .returned (.tuple #[.int .i64 b, .bool q]) := by rw [h, g]
end Go.Proofs.YtbcbnkapipimmaaGreatDoor
set_option linter.unusedVariables false
set_option linter.unusedSimpArgs false
namespace Go.Proofs.YtbcbnkapipimmaaGreatDoor
open Go.RowKit
def dr (hi lo y : Int) : Int := (hi * 18446744073709551616 + lo) % y
end Go.Proofs.YtbcbnkapipimmaaGreatDoor
set_option linter.unusedVariables false
set_option linter.unusedSimpArgs false
namespace Go.Proofs.YtbcbnkapipimmaaGreatDoor
open Go.RowKit
def rr (N n : Int) : Int := restR (Mth.rt (N / n)) (N / n - Mth.rt (N / n) * Mth.rt (N / n)) (N % n) n
end Go.Proofs.YtbcbnkapipimmaaGreatDoor
set_option linter.unusedVariables false
set_option linter.unusedSimpArgs false
namespace Go.Proofs.YtbcbnkapipimmaaGreatDoor
open Go.RowKit
def sg (a b : Int) : Bool := decide (a < 0) != decide (b < 0)
end Go.Proofs.YtbcbnkapipimmaaGreatDoor
set_option linter.unusedVariables false
set_option linter.unusedSimpArgs false
namespace Go.Proofs.YtbcbnkapipimmaaGreatDoor
open Go.RowKit
def Qw (w w' : World) : Prop := Below w.heap.size w w'
theorem Qw.refl (w : World) : Qw w w := Below.refl _ _
theorem Qw.trans {a b c : World} (h : Qw a b) (k : Qw b c) : Qw a c := Below.trans h (Below.mono k h.size)
theorem Qw.drewN (w : World) (n : Nat) : Qw w (w.drewN n) := ⟨rfl, rfl, rfl, Nat.le_refl _, fun _ _ => rfl⟩
theorem tmod_of (v n : Int) (n1 : 1 ≤ n) : 0 ≤ v % n ∧ v % n < n ∧ (v.tmod n = v % n ∨ v < 0 ∧ v.tmod n = v % n - n) ∧ (0 ≤ v → v.tmod n = v % n) ∧ (v < 0 → v.tmod n ≤ 0) := by
  have m0 : 0 ≤ v % n := Int.emod_nonneg _ (by omega)
  have m1 : v % n < n := Int.emod_lt_of_pos _ (by omega)
  have e := Int.tmod_eq_emod (a := v) (b := n)
  refine ⟨m0, m1, ?_, ?_, ?_⟩
  · by_cases h : 0 ≤ v ∨ n ∣ v
    · left; rw [if_pos h] at e; omega
    · right; rw [if_neg h] at e; omega
  · intro h; rw [if_pos (.inl h)] at e; omega
  · intro h
    by_cases h2 : 0 ≤ v ∨ n ∣ v
    · rw [if_pos h2] at e
      have := Int.emod_eq_zero_of_dvd (h2.resolve_left (by omega))
      omega
    · rw [if_neg h2] at e; omega
theorem modW (v n : Int) (v1 : -9223372036854775808 ≤ v) (v2 : v ≤ 9223372036854775807) (n1 : 1 ≤ n) (n2 : n ≤ 9223372036854775807) (w : World) :
    Calls Tryz.prog 11 #[.int .i64 v, .int .i64 n] w fun e w' => e = .returned (.int .i64 (v % n)) ∧ w = w' := by
  have nz : (n == 0) = false := beq_eq_false_iff_ne.2 (by omega)
  have m0 : 0 ≤ v % n := Int.emod_nonneg _ (by omega)
  have m1 : v % n < n := Int.emod_lt_of_pos _ (by omega)
  go_enter Tryz.func11, Tryz.ntmps11
  go_wp2
  all_goals
    go_ret
    refine ⟨ret_i64 ?_, rfl⟩
  · rename_i h
    have := tmod_of v n n1
    unfold wrap64
    omega
  · rename_i h
    have := tmod_of v n n1
    omega
end Go.Proofs.YtbcbnkapipimmaaGreatDoor
set_option linter.unusedVariables false
set_option linter.unusedSimpArgs false
namespace Go.Proofs.YtbcbnkapipimmaaGreatDoor
open Go.RowKit
def vld (n : Int) : Bool := decide (-1000000000000000 ≤ n ∧ n ≤ 1000000000000000)
theorem vld_t {n : Int} (h1 : -1000000000000000 ≤ n) (h2 : n ≤ 1000000000000000) : vld n = true := decide_eq_true ⟨h1, h2⟩
theorem vld_f {n : Int} (h : n < -1000000000000000 ∨ 1000000000000000 < n) : vld n = false := decide_eq_false (by omega)
theorem vld_bd {n : Int} (h : vld n = true) : -1000000000000000 ≤ n ∧ n ≤ 1000000000000000 := of_decide_eq_true h
def tv (n : Int) (ok : Bool) : Int := if (ok && vld n) = true then n else 0
def whole (a : Int) : Bool := vld a && decide (a % 1000000 = 0)
def wholev (a : Int) : Int := if whole a = true then a / 1000000 else 0
def ln (a u : Int) : Int := if u = 20 then (2 * (a * 254) + 10000) / 20000 else (2 * a + 1000) / 2000
end Go.Proofs.YtbcbnkapipimmaaGreatDoor
set_option linter.unusedVariables false
set_option linter.unusedSimpArgs false
namespace Go.Proofs.YtbcbnkapipimmaaGreatDoor
theorem getD_of (l : List UInt8) (i : Nat) (h : i < l.length) : l.getD i 0 = l[i] := by rw [List.getD_eq_getElem?_getD, List.getElem?_eq_getElem h]; rfl
theorem pow10_nat (k : Nat) : (10 : Int) ^ k = ((10 ^ k : Nat) : Int) := by rw [Int.natCast_pow]; rfl
theorem pow10_le {a b : Nat} (h : a ≤ b) : (10 : Int) ^ a ≤ 10 ^ b := by
  have := Nat.pow_le_pow_right (show 0 < 10 by decide) h
  rw [pow10_nat, pow10_nat]; exact Int.ofNat_le.2 this
def isd (c : UInt8) : Bool := decide (48 ≤ (c.toNat : Int) ∧ (c.toNat : Int) ≤ 57)
theorem isd_t {c : UInt8} (h : isd c = true) : 48 ≤ (c.toNat : Int) ∧ (c.toNat : Int) ≤ 57 := of_decide_eq_true h
theorem isd_f {c : UInt8} (h : isd c = false) : (c.toNat : Int) < 48 ∨ 57 < (c.toNat : Int) := by have := of_decide_eq_false h; omega
def vl (n : Int) : List UInt8 → Int
  | [] => n
  | c :: l => vl (n * 10 + ((c.toNat : Int) - 48)) l
theorem vl_append (l k : List UInt8) : ∀ n, vl n (l ++ k) = vl (vl n l) k := by
  induction l with
  | nil => intro n; rfl
  | cons c l ih => intro n; exact ih _
theorem vl_snoc (n : Int) (l : List UInt8) (c : UInt8) : vl n (l ++ [c]) = vl n l * 10 + ((c.toNat : Int) - 48) := by rw [vl_append]; rfl
theorem vl_bd (l : List UInt8) : ∀ n : Int, 0 ≤ n → (∀ c ∈ l, isd c = true) → n ≤ vl n l ∧ vl n l < (n + 1) * 10 ^ l.length := by
  induction l with
  | nil => intro n h _; simp [vl]; omega
  | cons c l ih =>
    intro n h hd
    have d := isd_t (hd c (List.mem_cons_self ..))
    obtain ⟨x, y⟩ := ih (n * 10 + ((c.toNat : Int) - 48)) (by omega) (fun c hc => hd c (List.mem_cons_of_mem _ hc))
    refine ⟨by show n ≤ vl _ l; omega, ?_⟩
    show vl _ l < _
    refine Int.lt_of_lt_of_le y ?_
    rw [List.length_cons, Int.pow_succ, Int.mul_comm ((10 : Int) ^ l.length) 10, ← Int.mul_assoc]
    exact Int.mul_le_mul_of_nonneg_right (by omega) (Int.le_of_lt (Int.pow_pos (by decide)))
def rk : List UInt8 → Nat → Nat
  | [], _ => 0
  | _ :: _, 0 => 0
  | c :: l, k + 1 => if isd c = true then rk l k + 1 else 0
theorem rk_le : ∀ (l : List UInt8) (k : Nat), rk l k ≤ k ∧ rk l k ≤ l.length
  | [], k => by simp [rk]
  | c :: l, 0 => by simp [rk]
  | c :: l, k + 1 => by
    have := rk_le l k
    unfold rk
    split <;> simp <;> omega
theorem rk_uniq : ∀ (l : List UInt8) (k j : Nat), j ≤ k → j ≤ l.length → (∀ i, i < j → isd (l.getD i 0) = true) → (j = k ∨ j = l.length ∨ isd (l.getD j 0) = false) → rk l k = j
  | [], k, j, _, h2, _, _ => by simp at h2; simp [rk, h2]
  | c :: l, 0, j, h1, _, _, _ => by simp [rk]; omega
  | c :: l, k + 1, 0, _, _, _, h4 => by
    unfold rk
    have : isd c = false := by
      rcases h4 with h | h | h
      · omega
      · simp at h
      · simpa using h
    rw [if_neg (by rw [this]; decide)]
  | c :: l, k + 1, j + 1, h1, h2, h3, h4 => by
    unfold rk
    rw [if_pos (by simpa using h3 0 (by omega)), rk_uniq l k j (by omega) (by simpa using h2) (fun i hi => by simpa using h3 (i + 1) (by omega)) (by
      rcases h4 with h | h | h
      · exact .inl (by omega)
      · exact .inr (.inl (by simpa using h))
      · exact .inr (.inr (by simpa using h)))]
theorem rk_dig : ∀ (l : List UInt8) (k i : Nat), i < rk l k → isd (l.getD i 0) = true
  | [], k, i, h => by simp [rk] at h
  | c :: l, 0, i, h => by simp [rk] at h
  | c :: l, k + 1, i, h => by
    unfold rk at h
    split at h
    · rename_i hc
      cases i with
      | zero => simpa using hc
      | succ i => simpa using rk_dig l k i (by omega)
    · omega
theorem all_take (l : List UInt8) (j : Nat) (hj : j ≤ l.length) (h : ∀ i, i < j → isd (l.getD i 0) = true) : ∀ c ∈ l.take j, isd c = true := by
  intro c hc
  obtain ⟨i, hi, rfl⟩ := List.getElem_of_mem hc
  have hi' : i < j := by simp at hi; omega
  have := h i hi'
  rw [getD_of _ _ (by omega)] at this
  rw [List.getElem_take]; exact this
def pw (l : List UInt8) : Nat := rk l 9
def pdot (l : List UInt8) : Bool := decide (pw l < l.length) && (l.getD (pw l) 0 == 46)
def pf (l : List UInt8) : Nat := if pdot l = true then rk (l.drop (pw l + 1)) 6 else 0
def pend (l : List UInt8) : Nat := if pdot l = true then pw l + 1 + pf l else pw l
def pok (l : List UInt8) : Bool := decide (pend l = l.length) && decide (pw l + pf l ≠ 0)
def pnum (l : List UInt8) : Int := vl (vl 0 (l.take (pw l))) ((l.drop (pw l + 1)).take (pf l)) * 10 ^ (6 - pf l)
def prv (l : List UInt8) : Int := if pok l = true then pnum l else 0
def pre (l : List UInt8) : Int := if pok l = true then 0 else 2
theorem pf_le (l : List UInt8) : pf l ≤ 6 := by unfold pf; split; exact (rk_le _ _).1; omega
theorem pw_le (l : List UInt8) : pw l ≤ 9 ∧ pw l ≤ l.length := rk_le l 9
theorem pf_none {l : List UInt8} (h : pdot l = false) : pf l = 0 ∧ pend l = pw l := by unfold pend pf; rw [h]; exact ⟨rfl, rfl⟩
theorem whole_bd (l : List UInt8) : 0 ≤ vl 0 (l.take (pw l)) ∧ vl 0 (l.take (pw l)) ≤ 999999999 := by
  have b := pw_le l
  obtain ⟨x, y⟩ := vl_bd (l.take (pw l)) 0 (by omega) (all_take l _ b.2 (rk_dig l 9))
  refine ⟨x, ?_⟩
  have : (10 : Int) ^ (l.take (pw l)).length ≤ 10 ^ 9 := pow10_le (by rw [List.length_take]; omega)
  have e : (10 : Int) ^ 9 = 1000000000 := by decide
  omega
end Go.Proofs.YtbcbnkapipimmaaGreatDoor
set_option linter.unusedVariables false
set_option linter.unusedSimpArgs false
namespace Go.Proofs.YtbcbnkapipimmaaGreatDoor
namespace Lx
structure Tok where
  k : Int
  n : Int
  p : Nat
  x : List UInt8
def nms : List (List UInt8) := [[73, 70], [71, 79, 84, 79], [87, 72, 73, 76, 69], [68, 79], [69, 78, 68], [69, 81], [78, 69], [71, 84], [71, 69], [76, 84], [76, 69], [65, 78, 68], [79, 82], [88, 79, 82], [77, 79, 68], [83, 73, 78], [67, 79, 83], [84, 65, 78], [65, 84, 65, 78], [83, 81, 82, 84], [65, 66, 83], [82, 79, 85, 78, 68], [70, 73, 88], [70, 85, 80]]
def nm (i : Nat) : List UInt8 := nms.getD i []
def pfx (n l : List UInt8) : Bool := decide (n.length ≤ l.length) && decide (l.take n.length = n)
def nstep (l b n : List UInt8) : List UInt8 := if (decide (b.length < n.length) && pfx n l) = true then n else b
def nfold (l : List UInt8) (k : Nat) : List UInt8 := (nms.take k).foldl (nstep l) []
def fnm (l : List UInt8) : List UInt8 := nfold l 24
theorem nms_length : nms.length = 24 := by decide
theorem nfold_succ (l : List UInt8) (k : Nat) (h : k < 24) : nfold l (k + 1) = nstep l (nfold l k) (nm k) := by
  unfold nfold
  have hk : k < nms.length := by rw [nms_length]; exact h
  rw [List.take_succ_eq_append_getElem hk, List.foldl_append]
  unfold nm
  rw [List.getD_eq_getElem?_getD, List.getElem?_eq_getElem hk]
  rfl
def isn (c : UInt8) : Bool := isd c || (c == 46)
def isu (c : UInt8) : Bool := decide (65 ≤ (c.toNat : Int) ∧ (c.toNat : Int) ≤ 90)
def sgs : List UInt8 := [43, 45, 42, 47, 61, 35, 91, 93]
def isg (c : UInt8) : Bool := decide ((0 : Int) ≤ Lib.indexByte sgs c)
def ws (c : UInt8) : Bool := c == 32 || c == 9 || c == 13
def nrun : List UInt8 → Nat
  | [] => 0
  | c :: l => if isn c = true then nrun l + 1 else 0
structure F where
  k : Int
  n : Int
  x : List UInt8
  m : Nat
def fnum (l : List UInt8) : F := if pok (l.take (nrun l)) = true then ⟨2, pnum (l.take (nrun l)), [], nrun l⟩ else ⟨0, 0, [], 0⟩
def fst (l : List UInt8) : F :=
  if isn (l.getD 0 0) = true then fnum l
  else if isu (l.getD 0 0) = true then (if fnm l = [] then ⟨1, (l.getD 0 0).toNat, [], 1⟩ else ⟨3, 0, fnm l, (fnm l).length⟩)
  else if isg (l.getD 0 0) = true then ⟨4, 0, [l.getD 0 0], 1⟩ else ⟨0, 0, [], 0⟩
inductive Ac where
  | bad
  | skip (k : Nat)
  | tok (f : F)
def act (c : UInt8) (t : List UInt8) : Ac :=
  if ws c = true then .skip 0
  else if c = 59 then .skip t.length
  else if c = 40 then (if Lib.indexByte t 41 = -1 then .bad else .skip ((Lib.indexByte t 41).toNat + 1))
  else if (fst (c :: t)).m = 0 then .bad else .tok (fst (c :: t))
inductive Res where
  | ok (l : List Tok)
  | bad (a : Nat)
def Res.pre (ts : List Tok) : Res → Res
  | .ok l => .ok (ts ++ l)
  | .bad a => .bad a
def lx (l : List UInt8) (a : Nat) : Res :=
  match l with
  | [] => .ok []
  | c :: t =>
    match act c t with
    | .bad => .bad a
    | .skip k => lx (t.drop k) (a + 1 + k)
    | .tok f => (lx (t.drop (f.m - 1)) (a + f.m)).pre [⟨f.k, f.n, a, f.x⟩]
termination_by l.length
decreasing_by all_goals (simp; omega)
def tks (l : List UInt8) : List Tok := match lx l 0 with
  | .ok ts => ts
  | .bad _ => []
def tat (l : List UInt8) : Nat := match lx l 0 with
  | .ok _ => l.length
  | .bad a => a
def ter (l : List UInt8) : Int := match lx l 0 with
  | .ok _ => 0
  | .bad _ => 2
theorem pre_pre (a b : List Tok) (r : Res) : (r.pre b).pre a = r.pre (a ++ b) := by
  cases r <;> simp [Res.pre]
theorem pre_nil (r : Res) : r.pre [] = r := by cases r <;> simp [Res.pre]
theorem lx_nil (a : Nat) : lx [] a = .ok [] := by unfold lx; rfl
theorem lx_bad {c : UInt8} {t : List UInt8} (h : act c t = .bad) (a : Nat) : lx (c :: t) a = .bad a := by unfold lx; rw [h]
theorem lx_skip {c : UInt8} {t : List UInt8} {k : Nat} (h : act c t = .skip k) (a : Nat) : lx (c :: t) a = lx (t.drop k) (a + 1 + k) := by
  rw [lx, h]
theorem lx_tok {c : UInt8} {t : List UInt8} {f : F} (h : act c t = .tok f) (a : Nat) : lx (c :: t) a = (lx (t.drop (f.m - 1)) (a + f.m)).pre [⟨f.k, f.n, a, f.x⟩] := by
  rw [lx, h]
def At (l : List UInt8) (k : Nat) (ts : List Tok) : Prop := k ≤ l.length ∧ ts.length ≤ k ∧ lx l 0 = (lx (l.drop k) k).pre ts
theorem At.start (l : List UInt8) : At l 0 [] := ⟨Nat.zero_le _, Nat.le_refl _, by rw [pre_nil]; rfl⟩
theorem At.fin {l : List UInt8} {k : Nat} {ts : List Tok} (h : At l k ts) (e : k = l.length) : tks l = ts ∧ tat l = l.length ∧ ter l = 0 := by
  have := h.2.2
  rw [e, List.drop_length, lx_nil] at this
  simp only [Res.pre, List.append_nil] at this
  unfold tks tat ter
  rw [this]; exact ⟨rfl, rfl, rfl⟩
theorem At.bad {l : List UInt8} {k : Nat} {ts : List Tok} (h : At l k ts) (hk : k < l.length) (e : act l[k] (l.drop (k + 1)) = .bad) : tks l = [] ∧ tat l = k ∧ ter l = 2 := by
  have := h.2.2
  rw [List.drop_eq_getElem_cons hk, lx_bad e] at this
  simp only [Res.pre] at this
  unfold tks tat ter
  rw [this]; exact ⟨rfl, rfl, rfl⟩
theorem At.skip {l : List UInt8} {k j : Nat} {ts : List Tok} (h : At l k ts) (hk : k < l.length) (e : act l[k] (l.drop (k + 1)) = .skip j) (hj : k + 1 + j ≤ l.length) : At l (k + 1 + j) ts := by
  refine ⟨hj, by have := h.2.1; omega, ?_⟩
  rw [h.2.2, List.drop_eq_getElem_cons hk, lx_skip e, List.drop_drop]
theorem At.tok {l : List UInt8} {k : Nat} {f : F} {ts : List Tok} (h : At l k ts) (hk : k < l.length) (e : act l[k] (l.drop (k + 1)) = .tok f) (hm : 1 ≤ f.m) (hj : k + f.m ≤ l.length) : At l (k + f.m) (ts ++ [⟨f.k, f.n, k, f.x⟩]) := by
  refine ⟨hj, by have := h.2.1; rw [List.length_append]; simp; omega, ?_⟩
  rw [h.2.2, List.drop_eq_getElem_cons hk, lx_tok e, List.drop_drop, pre_pre, show k + 1 + (f.m - 1) = k + f.m by omega]
theorem nrun_le (l : List UInt8) : nrun l ≤ l.length := by
  induction l with
  | nil => exact Nat.le_refl _
  | cons c l ih => unfold nrun; split <;> simp <;> omega
theorem pfx_le {n l : List UInt8} (h : pfx n l = true) : n.length ≤ l.length := by
  unfold pfx at h; simp at h; exact h.1
theorem nstep_le {l b n : List UInt8} (h : b.length ≤ l.length) : (nstep l b n).length ≤ l.length := by
  unfold nstep
  split
  · rename_i h; simp at h; exact pfx_le h.2
  · exact h
theorem nfold_le (l : List UInt8) : ∀ k, k ≤ 24 → (nfold l k).length ≤ l.length
  | 0, _ => Nat.zero_le _
  | k + 1, h => by rw [nfold_succ l k (by omega)]; exact nstep_le (nfold_le l k (by omega))
theorem fst_le (l : List UInt8) (h : l ≠ []) : (fst l).m ≤ l.length := by
  have h1 : 1 ≤ l.length := by cases l with
    | nil => exact absurd rfl h
    | cons _ _ => simp
  have h2 := nrun_le l
  have h3 := nfold_le l 24 (Nat.le_refl _)
  unfold fst fnum fnm
  (repeat' split) <;> simp_all
end Lx
end Go.Proofs.YtbcbnkapipimmaaGreatDoor
set_option linter.unusedVariables false
set_option linter.unusedSimpArgs false
namespace Go.Proofs.YtbcbnkapipimmaaGreatDoor
open Go.RowKit
theorem ret_ii {a b c d : Int} (h : a = b) (g : c = d) : Ending.returned (.tuple #[.int .i64 a, .int .i64 c]) = .returned (.tuple #[.int .i64 b, .int .i64 d]) := by rw [h, g]
theorem ret_bl {a b : Bool} (h : a = b) : Ending.returned (.bool a) = .returned (.bool b) := by rw [h]
theorem fxValid (n : Int) (w : World) : Calls Tryz.prog 154 #[.int .i64 n] w fun e w' => e = .returned (.bool (vld n)) ∧ w = w' := by
  by_cases h1 : n < -1000000000000000
  · rw [vld_f (.inl h1)]
    go_enter Tryz.func154, Tryz.ntmps154
    go_wp2
    go_ret
    exact ⟨ret_bl (by first | rfl | (simp; omega)), rfl⟩
  · by_cases h2 : 1000000000000000 < n
    · rw [vld_f (.inr h2)]
      go_enter Tryz.func154, Tryz.ntmps154
      go_wp2
      go_ret
      exact ⟨ret_bl (by first | rfl | (simp; omega)), rfl⟩
    · rw [vld_t (by omega) (by omega)]
      go_enter Tryz.func154, Tryz.ntmps154
      go_wp2
      go_ret
      exact ⟨ret_bl (by first | rfl | (simp; omega)), rfl⟩
theorem fxWhole (a : Int) (w : World) : Calls Tryz.prog 143 #[.int .i64 a] w fun e w' => e = .returned (.tuple #[.int .i64 (wholev a), .bool (whole a)]) ∧ w = w' := by
  cases h : vld a
  · have e : whole a = false := by unfold whole; rw [h]; rfl
    rw [show wholev a = 0 from if_neg (by rw [e]; decide), e]
    clear e
    go_enter Tryz.func143, Tryz.ntmps143
    go_wp2_with (go_at_call 154; refine (fxValid _ _).mono ?_; rintro e w' ⟨rfl, rfl⟩)
    go_ret2
    exact ⟨rfl, rfl⟩
  · obtain ⟨a1, a2⟩ := vld_bd h
    have t := tmod_of a 1000000 (by omega)
    by_cases c : a % 1000000 = 0
    · have e : whole a = true := by unfold whole; rw [h, decide_eq_true c]; rfl
      have d : a.tdiv 1000000 = a / 1000000 := by
        obtain ⟨k, hk⟩ : ∃ k, a = 1000000 * k := ⟨a / 1000000, by omega⟩
        rw [hk, Int.mul_tdiv_cancel_left _ (by decide), Int.mul_ediv_cancel_left _ (by decide)]
      rw [show wholev a = a / 1000000 from if_pos e, e]
      have z : a.tmod 1000000 = 0 := Int.tmod_eq_zero_of_dvd (Int.dvd_of_emod_eq_zero c)
      clear e t
      by_cases s : 0 ≤ a
      · clear z d
        go_enter Tryz.func143, Tryz.ntmps143
        go_wp2_with (go_at_call 154; refine (fxValid _ _).mono ?_; rintro e w' ⟨rfl, rfl⟩)
        go_ret2
        exact ⟨rfl, rfl⟩
      · clear c
        have D := Lib.hid d
        clear d
        go_enter Tryz.func143, Tryz.ntmps143
        go_wp2_with (go_at_call 154; refine (fxValid _ _).mono ?_; rintro e w' ⟨rfl, rfl⟩)
        go_ret2
        exact ⟨ret_ib (by have := D.out; omega) rfl, rfl⟩
    · have e : whole a = false := by unfold whole; rw [h, decide_eq_false c]; rfl
      rw [show wholev a = 0 from if_neg (by rw [e]; decide), e]
      have z : (a.tmod 1000000 == 0) = false := beq_eq_false_iff_ne.2 (by omega)
      have z' : (a % 1000000 == 0) = false := beq_eq_false_iff_ne.2 c
      clear e t
      by_cases s : 0 ≤ a
      · clear z
        go_enter Tryz.func143, Tryz.ntmps143
        go_wp2_with (go_at_call 154; refine (fxValid _ _).mono ?_; rintro e w' ⟨rfl, rfl⟩)
        go_ret2
        exact ⟨rfl, rfl⟩
      · clear z'
        go_enter Tryz.func143, Tryz.ntmps143
        go_wp2_with (go_at_call 154; refine (fxValid _ _).mono ?_; rintro e w' ⟨rfl, rfl⟩)
        go_ret2
        exact ⟨rfl, rfl⟩
end Go.Proofs.YtbcbnkapipimmaaGreatDoor
set_option linter.unusedVariables false
set_option linter.unusedSimpArgs false
namespace Go.Proofs.YtbcbnkapipimmaaGreatDoor
open Go.RowKit
def rdl (l : List UInt8) (a c : Int) : Nat := rk (l.drop a.toNat) c.toNat
def rdv (n : Int) (l : List UInt8) (a c : Int) : Int := vl n ((l.drop a.toNat).take (rdl l a c))
def DigK (n0 : Int) (l : List UInt8) (A C j : Nat) (v : Int) : Prop :=
  j ≤ C ∧ A + j ≤ l.length ∧ (∀ i, i < j → isd ((l.drop A).getD i 0) = true) ∧ v = vl n0 ((l.drop A).take j)
theorem DigK.bd {n0 : Int} {l : List UInt8} {A C j : Nat} {v : Int} (h : DigK n0 l A C j v) (h0 : 0 ≤ n0) (h1 : n0 ≤ 999999999) (hj : j ≤ 8) : 0 ≤ v ∧ v ≤ 100000000000000000 := by
  obtain ⟨k1, k2, k3, rfl⟩ := h
  obtain ⟨x, y⟩ := vl_bd ((l.drop A).take j) n0 h0 (all_take _ _ (by rw [List.length_drop]; omega) k3)
  refine ⟨by omega, ?_⟩
  have p := pow10_le (show ((l.drop A).take j).length ≤ 8 by rw [List.length_take]; omega)
  have e : (10 : Int) ^ 8 = 100000000 := by decide
  have m : (n0 + 1) * 10 ^ ((l.drop A).take j).length ≤ 1000000000 * 100000000 := Int.mul_le_mul (by omega) (by omega) (Int.le_of_lt (Int.pow_pos (by decide))) (by decide)
  omega
theorem DigK.succ {n0 : Int} {l : List UInt8} {A C j : Nat} {v : Int} (h : DigK n0 l A C j v) (hc : j < C) (hl : A + j < l.length) (hd : isd l[A + j] = true) :
    DigK n0 l A C (j + 1) (v * 10 + ((l[A + j].toNat : Int) - 48)) := by
  obtain ⟨k1, k2, k3, rfl⟩ := h
  have g : (l.drop A).getD j 0 = l[A + j] := by rw [getD_of _ _ (by rw [List.length_drop]; omega), List.getElem_drop]
  refine ⟨hc, hl, ?_, ?_⟩
  · intro i hi
    by_cases e : i = j
    · subst e; rw [g]; exact hd
    · exact k3 i (by omega)
  · rw [List.take_succ_eq_append_getElem (by rw [List.length_drop]; omega), vl_snoc, List.getElem_drop]
theorem DigK.done {n0 : Int} {l : List UInt8} {A C j : Nat} {v : Int} (h : DigK n0 l A C j v) (e : j = C ∨ A + j = l.length ∨ ∃ h : A + j < l.length, isd l[A + j] = false) :
    rk (l.drop A) C = j ∧ v = vl n0 ((l.drop A).take (rk (l.drop A) C)) := by
  obtain ⟨k1, k2, k3, rfl⟩ := h
  have r : rk (l.drop A) C = j := rk_uniq _ _ _ k1 (by rw [List.length_drop]; omega) k3 (by
    rcases e with e | e | ⟨e, f⟩
    · exact .inl e
    · exact .inr (.inl (by rw [List.length_drop]; omega))
    · exact .inr (.inr (by rw [getD_of _ _ (by rw [List.length_drop]; omega), List.getElem_drop]; exact f)))
  exact ⟨r, by rw [r]⟩
set_option maxRecDepth 100000 in
set_option maxHeartbeats 400000 in
theorem fxDigits (n a c : Int) (s : ByteArray) (n0 : 0 ≤ n) (n1 : n ≤ 999999999) (a0 : 0 ≤ a) (a1 : a ≤ s.size) (a2 : a ≤ 10) (c0 : 0 ≤ c) (c1 : c ≤ 9) (hs : s.size ≤ maxLen) (w : World) :
    Calls Tryz.prog 165 #[.int .i64 n, .string s, .int .i64 a, .int .i64 c] w fun e w' =>
      e = .returned (.tuple #[.int .i64 (rdv n s.data.toList a c), .int .i64 (a + (rdl s.data.toList a c : Nat))]) ∧ w = w' := by
  obtain ⟨A, rfl⟩ := Int.eq_ofNat_of_zero_le a0
  obtain ⟨C, rfl⟩ := Int.eq_ofNat_of_zero_le c0
  unfold maxLen at hs
  unfold rdv rdl
  rw [Int.toNat_natCast, Int.toNat_natCast]
  have sl : s.data.toList.length = s.size := by rw [Array.length_toList]; rfl
  obtain ⟨E, hE⟩ : ∃ E : Nat, E = min (A + C) s.size := ⟨_, rfl⟩
  have hm : min ((A : Int) + (C : Int)) (s.size : Int) = (E : Int) := by omega
  have E1 : (E : Int) ≤ A + C := by omega
  have E2 : (E : Int) ≤ s.size := by omega
  have E3 : (A : Int) ≤ E := by omega
  have HE := Lib.hid hE
  have SL := Lib.hid sl
  clear hE sl
  go_enter Tryz.func165, Tryz.ntmps165
  go_wp2
  go_loop [0, 2] (fun nv av => ∃ (j : Nat) (v : Int), DigK n s.data.toList A C j v ∧ A + j ≤ E ∧ nv = .int .i64 v ∧ av = .int .i64 ((A + j : Nat) : Int)) (fun _ av => E - (intOf av).toNat)
  case atStart => exact ⟨0, n, ⟨by omega, by have := SL.out; omega, fun i hi => by omega, by simp [vl]⟩, by omega, rfl, by go_num⟩
  case round =>
    obtain ⟨j, v, hK, hj, rfl, rfl⟩ := hrel
    obtain ⟨k, hk⟩ : ∃ k : Nat, k = A + j := ⟨_, rfl⟩
    have K := Lib.hid hK
    rw [← hk] at hj ⊢
    by_cases hlt : k < E
    · have hks : k < s.size := by omega
      have b := hK.bd n0 n1 (by have := HE.out; omega)
      obtain ⟨b0, b1⟩ := b
      have HK := Lib.hid hk
      clear hk hK
      by_cases hd : isd s[k] = true
      · obtain ⟨d1, d2⟩ := isd_t hd
        have D := Lib.hid hd
        clear hd
        go_wp2
        go_round
        case rel =>
          have hk := HK.out
          subst hk
          have S := DigK.succ K.out (by have := HE.out; omega) (by have := SL.out; omega) D.out
          exact ⟨j + 1, _, S, by omega, by go_num, by go_num⟩
        case measure => simp [intOf]; omega
      · have hd' : isd s[k] = false := by simpa using hd
        have D := Lib.hid hd'
        have hn := isd_f hd'
        clear hd hd'
        have R := DigK.done K.out (.inr (.inr ⟨by have := SL.out; have := HK.out; omega, by have hk := HK.out; subst hk; exact D.out⟩))
        have RR := Lib.hid R
        clear R
        by_cases h1 : (s[k].toNat : Int) < 48
        · go_wp2
          go_ret2
          exact ⟨ret_ii RR.out.2 (by have := RR.out.1; have := HK.out; omega), rfl⟩
        · have h2 : 57 < (s[k].toNat : Int) := by omega
          clear hn
          go_wp2
          go_ret2
          exact ⟨ret_ii RR.out.2 (by have := RR.out.1; have := HK.out; omega), rfl⟩
    · have R := DigK.done K.out (by have := HE.out; have := SL.out; omega)
      have RR := Lib.hid R
      have HK := Lib.hid hk
      clear R hk hK
      go_wp2
      go_ret2
      exact ⟨ret_ii RR.out.2 (by have := RR.out.1; have := HK.out; omega), rfl⟩
end Go.Proofs.YtbcbnkapipimmaaGreatDoor
set_option linter.unusedVariables false
set_option linter.unusedSimpArgs false
namespace Go.Proofs.YtbcbnkapipimmaaGreatDoor
open Go.RowKit
theorem ret_str5 {a b : ByteArray} (h : a = b) : Ending.returned (.string a) = .returned (.string b) := by rw [h]
theorem ret_bool5 {a b : Bool} (h : a = b) : Ending.returned (.bool a) = .returned (.bool b) := by rw [h]
def bs (l : List UInt8) : ByteArray := ⟨l.toArray⟩
theorem bs_size (l : List UInt8) : (bs l).size = l.length := by unfold bs; simp [ByteArray.size]
theorem bs_list (l : List UInt8) : (bs l).data.toList = l := by unfold bs; simp
theorem bs_of (s : ByteArray) : bs s.data.toList = s := by unfold bs; simp
theorem bs_inj {a b : List UInt8} : bs a = bs b ↔ a = b := ⟨fun h => by rw [← bs_list a, h, bs_list], fun h => by rw [h]⟩
theorem size_len (s : ByteArray) : s.data.toList.length = s.size := by rw [Array.length_toList]; rfl
theorem beq_txt (a b : ByteArray) : (a.toList == b.toList) = decide (a = b) := by
  by_cases h : a = b
  · subst h; simp
  · rw [decide_eq_false h]
    cases e : a.toList == b.toList
    · rfl
    · rw [beq_iff_eq, ByteArray.toList_eq, ByteArray.toList_eq] at e
      exact absurd (ByteArray.ext (Array.toList_inj.mp e)) h
def nb (j : Nat) : ByteArray := bs (Lx.nm j)
theorem nb_size (j : Nat) : (nb j).size ≤ 5 := by
  unfold nb; rw [bs_size]; unfold Lx.nm
  rcases Nat.lt_or_ge j 24 with h | h
  · have : ∀ j : Fin 24, (Lx.nms.getD j.val []).length ≤ 5 := by decide
    exact this ⟨j, h⟩
  · rw [List.getD_eq_getElem?_getD, List.getElem?_eq_none (by rw [Lx.nms_length]; exact h)]; simp
theorem nb_list (j : Nat) : (nb j).data.toList = Lx.nm j := bs_list _
def chI (c : Int) : Bool := decide (48 ≤ c ∧ c ≤ 57) || c == 46
theorem isn_chI (c : UInt8) : Lx.isn c = chI (c.toNat : Int) := by
  unfold Lx.isn chI isd
  congr 1
  rw [Bool.eq_iff_iff, beq_iff_eq, beq_iff_eq, ← UInt8.toNat_inj]
  show c.toNat = 46 ↔ _
  omega
theorem lxInNumber (c : Int) (w : World) : Calls Tryz.prog 106 #[.int .u8 c] w fun e w' => e = .returned (.bool (chI c)) ∧ w = w' := by
  unfold chI
  by_cases h1 : c < 48
  · by_cases h2 : c = 46
    · subst h2
      go_enter Tryz.func106, Tryz.ntmps106
      go_wp2
      go_ret
      exact ⟨rfl, rfl⟩
    · have hb : (c == 46) = false := beq_eq_false_iff_ne.2 h2
      go_enter Tryz.func106, Tryz.ntmps106
      go_wp2
      go_ret
      exact ⟨ret_bool5 (by first | rfl | (simp; omega)), rfl⟩
  · by_cases h2 : 57 < c
    · have hb : (c == 46) = false := beq_eq_false_iff_ne.2 (by omega)
      go_enter Tryz.func106, Tryz.ntmps106
      go_wp2
      go_ret
      exact ⟨ret_bool5 (by first | rfl | (simp; omega)), rfl⟩
    · go_enter Tryz.func106, Tryz.ntmps106
      go_wp2
      go_ret
      exact ⟨ret_bool5 (by first | rfl | (simp; omega)), rfl⟩
def nmA : Array Value := (Lx.nms.map fun n => .string (bs n)).toArray
def Tn (w : World) : Prop := 1 < w.heap.size ∧ ∀ j, j < 24 → w.cell? ⟨1, j, none⟩ = some (.string (nb j))
theorem Tn.kept {w w' : World} (h : Tn w) (q : Qw w w') : Tn w' :=
  ⟨Nat.lt_of_lt_of_le h.1 q.size, fun j hj => (q.cell (p := ⟨1, j, none⟩) h.1).trans (h.2 j hj)⟩
theorem nmA_get (j : Nat) (hj : j < 24) : (Lx.nms.map fun n => Value.string (bs n))[j]? = some (.string (nb j)) := by
  rw [List.getElem?_map]
  unfold nb Lx.nm
  rw [List.getD_eq_getElem?_getD, List.getElem?_eq_getElem (by rw [Lx.nms_length]; exact hj)]
  rfl
theorem info_names : (Tryz.prog.info? 134).map (·.size) = some 24 := by kernel_rfl
theorem range_names (w : World) (h : Tn w) : w.rangeAt 1 0 (Lx.nms.map fun n => Value.string (bs n)) := by
  intro j v hv
  have hj : j < 24 := by
    have := (List.getElem?_eq_some_iff.1 hv).1
    rw [List.length_map, Lx.nms_length] at this; exact this
  rw [nmA_get j hj] at hv
  rw [Nat.zero_add, h.2 j hj, hv]
theorem names_load {ops : Array Oper} {rest : List Oper} {dst : Option Tmp} {ty : TypeId} {pos : String} {after : Array Edge} {a : Act} {w : World} {Q : Exit → Act → World → Prop} (ht : Tn w) (h : wpList Tryz.prog ops Q rest (a.put dst (.agg nmA)) w) :
    wpList Tryz.prog ops Q (⟨dst, .load 134 (.global 1), ty, pos, after, none⟩ :: rest) a w :=
  wpList_load_mid rfl 134 (.global 1) rfl 1 0 rfl (Lx.nms.map fun n => Value.string (bs n)) _ (range_names w ht) Tryz.underlying134 rfl (by rw [List.length_map, Lx.nms_length]; exact info_names) h
theorem index_names (j : Nat) (hj : j < 24) (w : World) : (Instr.index 134 (.agg nmA) (.int .i64 (j : Int))).run Tryz.prog w = .ok (.string (nb j)) w := by
  have hu := Tryz.underlying134
  have c1 : Tryz.prog.cellsOf 9 = 1 := by kernel_rfl
  have e : nmA[j]? = some (.string (nb j)) := by unfold nmA; rw [List.getElem?_toArray]; exact nmA_get j hj
  simp [Instr.index, run_underlying hu, asIntOf, go_sem, hj, e]
theorem take_data (s : ByteArray) (k : Nat) : (s.extract 0 k).data.toList = s.data.toList.take k := by rw [Lib.extract_data, List.drop_zero, Nat.sub_zero]
theorem pfx_of (t n : ByteArray) : Lx.pfx n.data.toList t.data.toList = (decide (n.size ≤ t.size) && decide (t.extract 0 n.size = n)) := by
  have tl : t.data.toList.length = t.size := by rw [Array.length_toList]; rfl
  have nl : n.data.toList.length = n.size := by rw [Array.length_toList]; rfl
  unfold Lx.pfx
  rw [tl, nl, ← take_data]
  congr 1
  refine decide_eq_decide.2 ⟨fun h => ?_, fun h => by rw [h]⟩
  exact ByteArray.ext (Array.toList_inj.1 h)
set_option maxRecDepth 100000 in
theorem slHasPrefix (t n : ByteArray) (ht : t.size ≤ maxLen) (hn : n.size ≤ maxLen) (w : World) :
    Calls Tryz.prog 166 #[.string t, .string n] w fun e w' => e = .returned (.bool (Lx.pfx n.data.toList t.data.toList)) ∧ w = w' := by
  rw [pfx_of]
  have hm : t.size ≤ 9223372036854775807 := ht
  have hm2 : n.size ≤ 9223372036854775807 := hn
  clear ht hn
  by_cases h : n.size ≤ t.size
  · go_enter Tryz.func166, Tryz.ntmps166
    go_wp2
    go_ret
    exact ⟨ret_bool5 (by rw [decide_eq_true h]; rw [beq_txt]; rfl), rfl⟩
  · go_enter Tryz.func166, Tryz.ntmps166
    go_wp2
    go_ret
    exact ⟨ret_bool5 (by rw [decide_eq_false h]; rfl), rfl⟩
theorem stHasPrefix (t n : ByteArray) (ht : t.size ≤ maxLen) (hn : n.size ≤ maxLen) (w : World) :
    Calls Tryz.prog 142 #[.string t, .string n] w fun e w' => e = .returned (.bool (Lx.pfx n.data.toList t.data.toList)) ∧ w = w' := by
  go_enter Tryz.func142, Tryz.ntmps142
  go_wp2_with (go_at_call 166; ((with_reducible refine (slHasPrefix _ _ ht hn _).mono ?_); rintro e w' ⟨rfl, rfl⟩))
  go_ret
  exact ⟨rfl, rfl⟩
set_option maxRecDepth 100000 in
theorem slIndexByte (t : ByteArray) (c : Int) (w : World) :
    Calls Tryz.prog 105 #[.string t, .int .u8 c] w fun e w' => e = .returned (.int .i64 (Lib.indexByte t.data.toList c.toNat.toUInt8)) ∧ w = w' := by
  go_enter Tryz.func105, Tryz.ntmps105
  go_wp2
  rw [run_callFunc_extern Tryz.func140 (by kernel_rfl) (by kernel_rfl) (by kernel_rfl) (e := Extern.BytealgIndexByte.indexByte) (by kernel_rfl), Lib.run_indexByteString]
  simp only [Result.andThen]
  rw [Oper.upon_value]
  go_wp2
  go_ret
  exact ⟨rfl, rfl⟩
theorem stIndexByte (t : ByteArray) (c : Int) (w : World) :
    Calls Tryz.prog 74 #[.string t, .int .u8 c] w fun e w' => e = .returned (.int .i64 (Lib.indexByte t.data.toList c.toNat.toUInt8)) ∧ w = w' := by
  go_enter Tryz.func74, Tryz.ntmps74
  go_wp2_with (go_at_call 105; ((with_reducible refine (slIndexByte _ _ _).mono ?_); rintro e w' ⟨rfl, rfl⟩))
  go_ret
  exact ⟨rfl, rfl⟩
theorem pfx_nb (s : ByteArray) (j : Nat) : Lx.pfx (nb j).data.toList s.data.toList = Lx.pfx (Lx.nm j) s.data.toList := by rw [nb_list]
set_option maxRecDepth 100000 in
set_option maxHeartbeats 1000000 in
theorem lxFirstName (s : ByteArray) (hs : s.size ≤ maxLen) (w : World) (ht : Tn w) :
    Calls Tryz.prog 108 #[.string s] w fun e w' => e = .returned (.string (bs (Lx.fnm s.data.toList))) ∧ w = w' := by
  have HT := Lib.hid ht
  have ix := fun j hj => index_names j hj w
  have hm : s.size ≤ 9223372036854775807 := hs
  have IX := Lib.hid ix
  clear ix ht
  go_enter Tryz.func108, Tryz.ntmps108
  go_wp2_with (with_reducible refine names_load HT.out ?_)
  go_loop [3, 7] (fun bv kv => ∃ k : Nat, k ≤ 24 ∧ bv = .string (bs (Lx.nfold s.data.toList k)) ∧ kv = .int .i64 (k : Int)) (fun _ kv => 24 - (intOf kv).toNat)
  case atStart => exact ⟨0, by omega, rfl, rfl⟩
  case round =>
    obtain ⟨k, hk, rfl, rfl⟩ := hrel
    have fl := Lx.nfold_le s.data.toList k hk
    rw [size_len, ← bs_size] at fl
    by_cases h24 : k < 24
    · have ik := IX.out k h24
      have c1 := fun w => stHasPrefix s (nb k) hs (by have := nb_size k; unfold maxLen; omega) w
      rw [pfx_nb] at c1
      have sc := Lx.nfold_succ s.data.toList k h24
      have ns := nb_size k
      have nl : (nb k).size = (Lx.nm k).length := by unfold nb; rw [bs_size]
      have bl := bs_size (Lx.nfold s.data.toList k)
      unfold Lx.nstep at sc
      rw [← bl, ← nl] at sc
      have yes : (bs (Lx.nfold s.data.toList k)).size < (nb k).size → Lx.pfx (Lx.nm k) s.data.toList = true → bs (Lx.nfold s.data.toList (k + 1)) = nb k := fun h1 h2 => by
        rw [sc, decide_eq_true h1, h2]; rfl
      have no : ¬ ((bs (Lx.nfold s.data.toList k)).size < (nb k).size ∧ Lx.pfx (Lx.nm k) s.data.toList = true) → bs (Lx.nfold s.data.toList (k + 1)) = bs (Lx.nfold s.data.toList k) := fun h1 => by
        rw [sc, if_neg (by rw [Bool.and_eq_true, decide_eq_true_iff]; exact h1)]
      obtain ⟨Z, hZ⟩ : ∃ Z, bs (Lx.nfold s.data.toList (k + 1)) = Z := ⟨_, rfl⟩
      rw [hZ] at yes no
      have HZ := Lib.hid hZ
      clear sc bl nl hZ
      generalize Lx.pfx (Lx.nm k) s.data.toList = p at *
      have C1 := Lib.hid c1
      clear c1
      generalize bs (Lx.nfold s.data.toList k) = X at *
      generalize nb k = Y at *
      by_cases hb : X.size < Y.size
      · cases p
        · obtain rfl := no (by simp)
          clear yes no
          go_wp2_with (go_at_call 142; ((with_reducible refine (C1.out _).mono ?_); rintro e w' ⟨rfl, rfl⟩))
          go_round
          case rel => exact ⟨k + 1, by omega, by rw [HZ.out], by go_num⟩
          case measure => simp [intOf]; omega
        · obtain rfl := yes hb rfl
          clear yes no
          go_wp2_with (go_at_call 142; ((with_reducible refine (C1.out _).mono ?_); rintro e w' ⟨rfl, rfl⟩))
          go_round
          case rel => exact ⟨k + 1, by omega, by rw [HZ.out], by go_num⟩
          case measure => simp [intOf]; omega
      · obtain rfl := no (by simp [hb])
        clear yes no
        go_wp2_with (go_at_call 142; ((with_reducible refine (C1.out _).mono ?_); rintro e w' ⟨rfl, rfl⟩))
        go_round
        case rel => exact ⟨k + 1, by omega, by rw [HZ.out], by go_num⟩
        case measure => simp [intOf]; omega
    · obtain rfl : k = 24 := by omega
      clear h24
      obtain ⟨Z, hZ⟩ : ∃ Z, bs (Lx.nfold s.data.toList 24) = Z := ⟨_, rfl⟩
      rw [hZ] at fl ⊢
      have HZ := Lib.hid hZ
      clear hZ
      go_wp2
      go_ret
      exact ⟨ret_str5 (by rw [← HZ.out]; rfl), rfl⟩
end Go.Proofs.YtbcbnkapipimmaaGreatDoor

