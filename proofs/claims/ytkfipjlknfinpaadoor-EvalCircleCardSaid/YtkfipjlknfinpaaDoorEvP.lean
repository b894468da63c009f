
/- Plain: the value of an expression with the variables of a store. -/
import Derived.Test.YtkfipjlknfinpaaDoorL2a
import Derived.Test.YtkfipjlknfinpaaDoorCM
import Derived.Test.YtkfipjlknfinpaaDoorVaP
import Derived.Test.YtkfipjlknfinpaaDoorSY
set_option linter.unusedVariables false
set_option linter.unusedSimpArgs false
namespace Go.Proofs.YtkfipjlknfinpaaDoor
namespace Ev
open Sy

/-- A value and an error. -/
abbrev V := Int × Int

def quo (a b : Int) : V := (tv (mdv a 1000000 b 2) (mdok a 1000000 b 2), te (mdv a 1000000 b 2) (mdok a 1000000 b 2))
def tanv (a : Int) : V := if (Cm.sc a).1 = 0 then (0, 4) else quo (Cm.sc a).2 (Cm.sc a).1
def big (a b : Int) : Bool := decide (1099511627776 < a) || decide (a < -1099511627776) || decide (1099511627776 < b) || decide (b < -1099511627776)
/-- Halves as long as there is something greater. -/
def hal : Nat → Int → Int → Int × Int
  | 0, a, b => (a, b)
  | k + 1, a, b => if big a b = true then hal k (a / 2) (b / 2) else (a, b)
def dirv (a b : Int) : V := if a = 0 ∧ b = 0 then (0, 4) else (Cm.angv (hal 10 a b).2 (hal 10 a b).1, 0)
def flg (b : Bool) : V := (if b = true then 1000000 else 0, 0)
def varv (s : Vs.St) (a : Int) : V := if whole a = true then (s.get (wholev a), Vs.gerr (wholev a)) else (0, 6)
/-- What operator o makes of two values. -/
def opv (s : Vs.St) (n a b : Int) : Nat → V
  | 0 => (n, 0)
  | 1 => varv s a
  | 2 => (-a, 0)
  | 3 => (addv a b, adde a b)
  | 4 => (subv a b, sube a b)
  | 5 => (mulv a b, mule a b)
  | 6 => (divv a b, dive a b)
  | 7 => (modv a b, dve a b)
  | 8 => quo (Cm.sc a).2 1073741824
  | 9 => quo (Cm.sc a).1 1073741824
  | 10 => tanv a
  | 11 => dirv a b
  | 12 => (sqv a, sqe a)
  | 13 => (max a (-a), 0)
  | 14 => (roundv a, arge a)
  | 15 => (fixv a, arge a)
  | 16 => (fupv a, arge a)
  | 17 => flg (a == b)
  | 18 => flg (a != b)
  | 19 => flg (decide (b < a))
  | 20 => flg (decide (b ≤ a))
  | 21 => flg (decide (a < b))
  | 22 => flg (decide (a ≤ b))
  | 23 => flg ((a != 0) && (b != 0))
  | 24 => flg ((a != 0) || (b != 0))
  | _ => flg ((a != 0) != (b != 0))
/-- The first error. -/
def fe : List V → Int
  | [] => 0
  | v :: l => if v.2 = 0 then fe l else v.2
def kv (l : List V) (i : Nat) : Int := (l.getD i (0, 0)).1
def opk (s : Vs.St) (o n : Int) (l : List V) : V := if fe l = 0 then opv s n (kv l 0) (kv l 1) o.toNat else (0, fe l)
/-- The value of an expression. -/
def val (s : Vs.St) : Ex → V
  | .mk o n ks => opk s o n (ks.attach.map (fun ⟨k, h⟩ => val s k))
theorem val_mk (s : Vs.St) (o n : Int) (ks : List Ex) : val s (.mk o n ks) = opk s o n (ks.map (val s)) := by
  rw [val]; simp

theorem fe_no {l : List V} (h : fe l = 0) : ∀ v ∈ l, v.2 = 0 := by
  induction l with
  | nil => intro v hv; cases hv
  | cons a l ih =>
    unfold fe at h
    by_cases e : a.2 = 0
    · rw [if_pos e] at h
      intro v hv
      rcases List.mem_cons.1 hv with rfl | hv
      · exact e
      · exact ih h v hv
    · rw [if_neg e] at h; exact absurd h e
theorem fe_stop {l r : List V} {v : V} (h : fe l = 0) (hv : v.2 ≠ 0) : fe (l ++ v :: r) = v.2 := by
  induction l with
  | nil => exact if_neg hv
  | cons a l ih =>
    unfold fe at h
    by_cases e : a.2 = 0
    · rw [if_pos e] at h
      exact (if_pos e).trans (ih h)
    · rw [if_neg e] at h; exact absurd h e
theorem fe_more {l : List V} {v : V} (h : fe l = 0) (hv : v.2 = 0) : fe (l ++ [v]) = 0 := by
  induction l with
  | nil => exact if_pos hv
  | cons a l ih =>
    unfold fe at h
    by_cases e : a.2 = 0
    · rw [if_pos e] at h
      exact (if_pos e).trans (ih h)
    · rw [if_neg e] at h; exact absurd h e

/-! ### bounds -/
def Bd (n : Int) : Prop := -1000000000000000 ≤ n ∧ n ≤ 1000000000000000
theorem bd0 : Bd 0 := ⟨by decide, by decide⟩
theorem tv_bd (n : Int) (b : Bool) : Bd (tv n b) := by
  unfold tv
  split
  · rename_i h
    simp only [Bool.and_eq_true] at h
    exact vld_bd h.2
  · exact bd0
theorem ite_bd {p : Prop} [Decidable p] {a b : Int} (ha : p → Bd a) (hb : Bd b) : Bd (if p then a else b) := by
  split
  · rename_i h; exact ha h
  · exact hb
theorem ite_bd' {p : Prop} [Decidable p] {a b : Int} (ha : Bd a) (hb : Bd b) : Bd (if p then a else b) := ite_bd (fun _ => ha) hb
theorem both_bd {a b : Int} (h : both a b = true) : Bd a ∧ Bd b := by
  unfold both at h
  simp only [Bool.and_eq_true] at h
  exact ⟨vld_bd h.1, vld_bd h.2⟩
theorem mod_bd (a b : Int) : Bd (modv a b) := by
  unfold modv
  refine ite_bd (fun h => ?_) bd0
  unfold dve at h
  split at h
  · rename_i hb
    obtain ⟨_, b1, b2⟩ := both_bd hb
    by_cases b0 : b = 0
    · rw [if_pos b0] at h; exact absurd h (by decide)
    · have m0 := Int.emod_nonneg a b0
      have m1 := Int.emod_lt a b0
      exact ⟨by omega, by omega⟩
  · exact absurd h (by decide)
theorem quo_bd (a b : Int) : Bd (quo a b).1 := tv_bd _ _
theorem flg_bd (b : Bool) : Bd (flg b).1 := by
  unfold flg
  cases b
  · exact ⟨by decide, by decide⟩
  · exact ⟨by decide, by decide⟩
theorem ang_bd (x y : Int) : 0 ≤ Cm.angv x y ∧ Cm.angv x y < 360000000 := by
  unfold Cm.angv
  split
  · unfold Cm.ang; omega
  · exact ⟨by decide, by decide⟩
theorem dir_bd (a b : Int) : Bd (dirv a b).1 := by
  unfold dirv
  split
  · exact bd0
  · have := ang_bd (hal 10 a b).2 (hal 10 a b).1
    exact ⟨by show _ ≤ Cm.angv _ _; omega, by show Cm.angv _ _ ≤ _; omega⟩
theorem tan_bd (a : Int) : Bd (tanv a).1 := by
  unfold tanv
  split
  · exact bd0
  · exact quo_bd _ _
theorem round_bd (a : Int) : Bd (roundv a) := by
  unfold roundv
  exact ite_bd (fun h => by obtain ⟨h1, h2⟩ := vld_bd h; exact ⟨by omega, by omega⟩) bd0
theorem fix_bd (a : Int) : Bd (fixv a) := by
  unfold fixv flv clv
  refine ite_bd (fun h => ?_) bd0
  obtain ⟨h1, h2⟩ := vld_bd h
  split
  · exact ⟨by omega, by omega⟩
  · exact ⟨by omega, by omega⟩
theorem fup_bd (a : Int) : Bd (fupv a) := by
  unfold fupv flv clv
  refine ite_bd (fun h => ?_) bd0
  obtain ⟨h1, h2⟩ := vld_bd h
  split
  · exact ⟨by omega, by omega⟩
  · exact ⟨by omega, by omega⟩

/-- Every variable holds a number. -/
def Good (s : Vs.St) : Prop := ∀ n, Bd (s.get n)
theorem var_bd {s : Vs.St} (h : Good s) (a : Int) : Bd (varv s a).1 := by
  unfold varv
  split
  · exact h _
  · exact bd0
theorem opv_bd {s : Vs.St} (hs : Good s) {n a b : Int} (hn : Bd n) (ha : Bd a) (hb : Bd b) (o : Nat) : Bd (opv s n a b o).1 := by
  unfold opv
  split
  · exact hn
  · exact var_bd hs a
  · obtain ⟨h1, h2⟩ := ha
    exact ⟨by show _ ≤ -a; omega, by show -a ≤ _; omega⟩
  · exact ite_bd (fun _ => tv_bd _ _) bd0
  · exact ite_bd (fun _ => tv_bd _ _) bd0
  · exact ite_bd (fun _ => tv_bd _ _) bd0
  · exact ite_bd (fun _ => tv_bd _ _) bd0
  · exact mod_bd a b
  · exact quo_bd _ _
  · exact quo_bd _ _
  · exact tan_bd a
  · exact dir_bd a b
  · exact ite_bd (fun _ => ite_bd' bd0 (tv_bd _ _)) bd0
  · obtain ⟨h1, h2⟩ := ha
    exact ⟨by show _ ≤ max a (-a); omega, by show max a (-a) ≤ _; omega⟩
  · exact round_bd a
  · exact fix_bd a
  · exact fup_bd a
  · exact flg_bd _
  · exact flg_bd _
  · exact flg_bd _
  · exact flg_bd _
  · exact flg_bd _
  · exact flg_bd _
  · exact flg_bd _
  · exact flg_bd _
  · exact flg_bd _
theorem kv_bd {l : List V} (h : ∀ v ∈ l, Bd v.1) (i : Nat) : Bd (kv l i) := by
  unfold kv
  rw [List.getD_eq_getElem?_getD]
  by_cases hi : i < l.length
  · rw [List.getElem?_eq_getElem hi]; exact h _ (List.getElem_mem hi)
  · rw [List.getElem?_eq_none (by omega)]; exact bd0
theorem val_bd {s : Vs.St} (hs : Good s) : ∀ x : Ex, okx x = true → Bd (val s x).1 := by
  refine Ex.ind fun op n ks ih h => ?_
  rw [okx_mk] at h
  simp only [nodeB, Bool.and_eq_true, Bool.or_eq_true, decide_eq_true_eq, List.all_eq_true] at h
  obtain ⟨⟨_, hn⟩, ha⟩ := h
  have k : ∀ v ∈ ks.map (val s), Bd v.1 := fun v hv => by
    obtain ⟨x, hx, rfl⟩ := List.mem_map.1 hv
    exact ih x hx (ha x hx)
  have bn : Bd n := by
    rcases hn with rfl | ⟨⟨_, h1⟩, h2⟩
    · exact bd0
    · exact ⟨by omega, by omega⟩
  rw [val_mk]
  unfold opk
  split
  · exact opv_bd hs bn (kv_bd k 0) (kv_bd k 1) _
  · exact bd0

/-- The value of any expression. -/
def evl (s : Vs.St) (x : Ex) : V := if rgt x = true then val s x else (0, 1)

/-! ### halving -/
theorem hal_no {k : Nat} {a b : Int} (h : big a b = false) : hal k a b = (a, b) := by
  cases k with
  | zero => rfl
  | succ k => exact if_neg (by rw [h]; decide)
theorem hal_yes {k : Nat} {a b : Int} (h : big a b = true) : hal (k + 1) a b = hal k (a / 2) (b / 2) := if_pos h
/-- So much may be left while k halvings are left. -/
def Hb (k : Nat) (a : Int) : Prop := -(1099511627776 * 2 ^ k) ≤ a ∧ a ≤ 1099511627776 * 2 ^ k
theorem hb_half {k : Nat} {a : Int} (h : Hb (k + 1) a) : Hb k (a / 2) := by
  unfold Hb at *
  rw [Int.pow_succ] at h
  generalize (2 : Int) ^ k = p at *
  omega
theorem hb_zero {a b : Int} (ha : Hb 0 a) (hb : Hb 0 b) : big a b = false := by
  unfold Hb at *
  unfold big
  simp at ha hb ⊢
  omega
theorem hb_ten {a : Int} (h : Bd a) : Hb 10 a := by
  unfold Bd at h; unfold Hb
  have : (2 : Int) ^ 10 = 1024 := by decide
  rw [this]; omega
end Ev
end Go.Proofs.YtkfipjlknfinpaaDoor
