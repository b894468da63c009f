import Derived.Test.YtciglhecjkeogaaGreatDoorZTX1
import Derived.Test.YtciglhecjkeogaaGreatDoorZTX2
import Derived.Test.YtciglhecjkeogaaGreatDoorZTX7
import Derived.Test.YtciglhecjkeogaaGreatDoorZTX9
import Derived.Lib.LaidTab
import Derived.Lib.Hide
import Derived.Deep.QuietTactic
import Derived.BigQuiet
import Derived.StillTailTactics
import Derived.Outline
import Derived.OneCell
namespace Go.Proofs.YtciglhecjkeogaaGreatDoor.Vs
def tab : List Int := List.replicate 65 0 ++ [1, 2, 3, 7, 8, 9, 0, 11, 4, 5, 6, 0, 13, 0, 0, 0, 17, 18, 19, 20, 21, 22, 23, 24, 25, 26]
def loc (c : Int) : Int := if 0 ≤ c ∧ c < 91 then tab.getD c.toNat 0 else 0
structure St where
  n : Nat
  ls : List Int
  cm : List Int
  sy : List Int
structure St.ok (s : St) : Prop where
  n1 : 1 ≤ s.n
  n2 : s.n ≤ 9
  hl : s.ls.length = s.n * 33
  hc : s.cm.length = 100
  hs : s.sy.length = 1000
def zer (n : Nat) : List Int := List.replicate n 0
theorem zer_length (n : Nat) : (zer n).length = n := List.length_replicate
def new : St := ⟨1, zer 33, zer 100, zer 1000⟩
theorem new_ok : new.ok := ⟨by decide, by decide, zer_length 33, zer_length 100, zer_length 1000⟩
def vld (v : Int) : Prop := -1000000000000000 ≤ v ∧ v ≤ 1000000000000000
instance (v : Int) : Decidable (vld v) := by unfold vld; infer_instance
def isL (n : Int) : Prop := 1 ≤ n ∧ n ≤ 33
def isC (n : Int) : Prop := 100 ≤ n ∧ n ≤ 199
def isS (n : Int) : Prop := 5000 ≤ n ∧ n ≤ 5999
instance (v : Int) : Decidable (isL v) := by unfold isL; infer_instance
instance (v : Int) : Decidable (isC v) := by unfold isC; infer_instance
instance (v : Int) : Decidable (isS v) := by unfold isS; infer_instance
def St.at (s : St) (n : Int) : Nat := (s.n - 1) * 33 + (n - 1).toNat
def St.get (s : St) (n : Int) : Int :=
  if isL n then s.ls.getD (s.at n) 0 else if isC n then s.cm.getD (n - 100).toNat 0 else if isS n then s.sy.getD (n - 5000).toNat 0 else 0
def gerr (n : Int) : Int := if isL n ∨ isC n ∨ isS n then 0 else 6
def serr (n v : Int) : Int := if isS n then 13 else if ¬ isL n ∧ ¬ isC n then 6 else if vld v then 0 else 3
def herr (n v : Int) : Int := if ¬ isS n then 6 else if vld v then 0 else 3
def St.set (s : St) (n v : Int) : St :=
  if serr n v ≠ 0 then s else if isL n then { s with ls := s.ls.set (s.at n) v } else { s with cm := s.cm.set (n - 100).toNat v }
def St.host (s : St) (n v : Int) : St :=
  if herr n v ≠ 0 then s else { s with sy := s.sy.set (n - 5000).toNat v }
abbrev Ar := List (Int × Int)
def ltr (l : Ar) (i : Nat) : Int := (l.getD i (0, 0)).1
def num (l : Ar) (i : Nat) : Int := (l.getD i (0, 0)).2
def dup (l : Ar) (i : Nat) : Prop := ∃ k, k < i ∧ ltr l k = ltr l i
instance (l : Ar) (i : Nat) : Decidable (dup l i) := by unfold dup; infer_instance
def errAt (l : Ar) (i : Nat) : Int := if loc (ltr l i) = 0 then 1 else if dup l i then 7 else if vld (num l i) then 0 else 3
def errTo (l : Ar) : Nat → Int
  | 0 => 0
  | m + 1 => if errTo l m = 0 then errAt l m else errTo l m
def err (l : Ar) : Int := errTo l l.length
def slot (l : Ar) (i : Nat) : Nat := (loc (ltr l i) - 1).toNat
def vals (l : Ar) : Nat → List Int
  | 0 => zer 33
  | m + 1 => (vals l m).set (slot l m) (num l m)
def perr (s : St) (l : Ar) : Int := if s.n = 9 then 10 else err l
def St.push (s : St) (l : Ar) : St := if perr s l = 0 then { s with n := s.n + 1, ls := s.ls ++ vals l l.length } else s
end Go.Proofs.YtciglhecjkeogaaGreatDoor.Vs
set_option linter.unusedVariables false
set_option linter.unusedSimpArgs false
namespace Go.Proofs.YtciglhecjkeogaaGreatDoor
namespace Ev
open Sy
abbrev V := Int × Int
def quo (a b : Int) : V := (tv (mdv a 1000000 b 2) (mdok a 1000000 b 2), te (mdv a 1000000 b 2) (mdok a 1000000 b 2))
def tanv (a : Int) : V := if (Cm.sc a).1 = 0 then (0, 4) else quo (Cm.sc a).2 (Cm.sc a).1
def big (a b : Int) : Bool := decide (1099511627776 < a) || decide (a < -1099511627776) || decide (1099511627776 < b) || decide (b < -1099511627776)
def hal : Nat → Int → Int → Int × Int
  | 0, a, b => (a, b)
  | k + 1, a, b => if big a b = true then hal k (a / 2) (b / 2) else (a, b)
def dirv (a b : Int) : V := if a = 0 ∧ b = 0 then (0, 4) else (Cm.angv (hal 10 a b).2 (hal 10 a b).1, 0)
def flg (b : Bool) : V := (if b = true then 1000000 else 0, 0)
def varv (s : Vs.St) (a : Int) : V := if whole a = true then (s.get (wholev a), Vs.gerr (wholev a)) else (0, 6)
def opv (s : Vs.St) (n a b : Int) : Nat → V
  | 0 => (n, 0)
  | 1 => varv s a
  | 2 => (-a, 0)
  | 3 => (addv a b, adde a b)
  | 4 => (subv a b, sube a b)
  | 5 => (mulv a b, mule a b)
  | 6 => (divv a b, dive a b)
  | 7 => (modv a b, dve a b)
  | 8 => quo (Cm.sc a).2 1073741824
  | 9 => quo (Cm.sc a).1 1073741824
  | 10 => tanv a
  | 11 => dirv a b
  | 12 => (sqv a, sqe a)
  | 13 => (max a (-a), 0)
  | 14 => (roundv a, arge a)
  | 15 => (fixv a, arge a)
  | 16 => (fupv a, arge a)
  | 17 => flg (a == b)
  | 18 => flg (a != b)
  | 19 => flg (decide (b < a))
  | 20 => flg (decide (b ≤ a))
  | 21 => flg (decide (a < b))
  | 22 => flg (decide (a ≤ b))
  | 23 => flg ((a != 0) && (b != 0))
  | 24 => flg ((a != 0) || (b != 0))
  | _ => flg ((a != 0) != (b != 0))
def fe : List V → Int
  | [] => 0
  | v :: l => if v.2 = 0 then fe l else v.2
def kv (l : List V) (i : Nat) : Int := (l.getD i (0, 0)).1
def opk (s : Vs.St) (o n : Int) (l : List V) : V := if fe l = 0 then opv s n (kv l 0) (kv l 1) o.toNat else (0, fe l)
def val (s : Vs.St) : Ex → V
  | .mk o n ks => opk s o n (ks.attach.map (fun ⟨k, h⟩ => val s k))
theorem val_mk (s : Vs.St) (o n : Int) (ks : List Ex) : val s (.mk o n ks) = opk s o n (ks.map (val s)) := by
  rw [val]; simp
theorem fe_stop {l r : List V} {v : V} (h : fe l = 0) (hv : v.2 ≠ 0) : fe (l ++ v :: r) = v.2 := by
  induction l with
  | nil => exact if_neg hv
  | cons a l ih =>
    unfold fe at h
    by_cases e : a.2 = 0
    · rw [if_pos e] at h
      exact (if_pos e).trans (ih h)
    · rw [if_neg e] at h; exact absurd h e
theorem fe_more {l : List V} {v : V} (h : fe l = 0) (hv : v.2 = 0) : fe (l ++ [v]) = 0 := by
  induction l with
  | nil => exact if_pos hv
  | cons a l ih =>
    unfold fe at h
    by_cases e : a.2 = 0
    · rw [if_pos e] at h
      exact (if_pos e).trans (ih h)
    · rw [if_neg e] at h; exact absurd h e
def Bd (n : Int) : Prop := -1000000000000000 ≤ n ∧ n ≤ 1000000000000000
theorem bd0 : Bd 0 := ⟨by decide, by decide⟩
theorem tv_bd (n : Int) (b : Bool) : Bd (tv n b) := by
  unfold tv
  split
  · rename_i h
    simp only [Bool.and_eq_true] at h
    exact vld_bd h.2
  · exact bd0
theorem ite_bd {p : Prop} [Decidable p] {a b : Int} (ha : p → Bd a) (hb : Bd b) : Bd (if p then a else b) := by
  split
  · rename_i h; exact ha h
  · exact hb
theorem ite_bd' {p : Prop} [Decidable p] {a b : Int} (ha : Bd a) (hb : Bd b) : Bd (if p then a else b) := ite_bd (fun _ => ha) hb
theorem both_bd {a b : Int} (h : both a b = true) : Bd a ∧ Bd b := by
  unfold both at h
  simp only [Bool.and_eq_true] at h
  exact ⟨vld_bd h.1, vld_bd h.2⟩
theorem mod_bd (a b : Int) : Bd (modv a b) := by
  unfold modv
  refine ite_bd (fun h => ?_) bd0
  unfold dve at h
  split at h
  · rename_i hb
    obtain ⟨_, b1, b2⟩ := both_bd hb
    by_cases b0 : b = 0
    · rw [if_pos b0] at h; exact absurd h (by decide)
    · have m0 := Int.emod_nonneg a b0
      have m1 := Int.emod_lt a b0
      exact ⟨by omega, by omega⟩
  · exact absurd h (by decide)
theorem quo_bd (a b : Int) : Bd (quo a b).1 := tv_bd _ _
theorem flg_bd (b : Bool) : Bd (flg b).1 := by
  unfold flg
  cases b
  · exact ⟨by decide, by decide⟩
  · exact ⟨by decide, by decide⟩
theorem ang_bd (x y : Int) : 0 ≤ Cm.angv x y ∧ Cm.angv x y < 360000000 := by
  unfold Cm.angv
  split
  · unfold Cm.ang; omega
  · exact ⟨by decide, by decide⟩
theorem dir_bd (a b : Int) : Bd (dirv a b).1 := by
  unfold dirv
  split
  · exact bd0
  · have := ang_bd (hal 10 a b).2 (hal 10 a b).1
    exact ⟨by show _ ≤ Cm.angv _ _; omega, by show Cm.angv _ _ ≤ _; omega⟩
theorem tan_bd (a : Int) : Bd (tanv a).1 := by
  unfold tanv
  split
  · exact bd0
  · exact quo_bd _ _
theorem round_bd (a : Int) : Bd (roundv a) := by
  unfold roundv
  exact ite_bd (fun h => by obtain ⟨h1, h2⟩ := vld_bd h; exact ⟨by omega, by omega⟩) bd0
theorem fix_bd (a : Int) : Bd (fixv a) := by
  unfold fixv flv clv
  refine ite_bd (fun h => ?_) bd0
  obtain ⟨h1, h2⟩ := vld_bd h
  split
  · exact ⟨by omega, by omega⟩
  · exact ⟨by omega, by omega⟩
theorem fup_bd (a : Int) : Bd (fupv a) := by
  unfold fupv flv clv
  refine ite_bd (fun h => ?_) bd0
  obtain ⟨h1, h2⟩ := vld_bd h
  split
  · exact ⟨by omega, by omega⟩
  · exact ⟨by omega, by omega⟩
def Good (s : Vs.St) : Prop := ∀ n, Bd (s.get n)
theorem var_bd {s : Vs.St} (h : Good s) (a : Int) : Bd (varv s a).1 := by
  unfold varv
  split
  · exact h _
  · exact bd0
theorem opv_bd {s : Vs.St} (hs : Good s) {n a b : Int} (hn : Bd n) (ha : Bd a) (hb : Bd b) (o : Nat) : Bd (opv s n a b o).1 := by
  unfold opv
  split
  · exact hn
  · exact var_bd hs a
  · obtain ⟨h1, h2⟩ := ha
    exact ⟨by show _ ≤ -a; omega, by show -a ≤ _; omega⟩
  · exact ite_bd (fun _ => tv_bd _ _) bd0
  · exact ite_bd (fun _ => tv_bd _ _) bd0
  · exact ite_bd (fun _ => tv_bd _ _) bd0
  · exact ite_bd (fun _ => tv_bd _ _) bd0
  · exact mod_bd a b
  · exact quo_bd _ _
  · exact quo_bd _ _
  · exact tan_bd a
  · exact dir_bd a b
  · exact ite_bd (fun _ => ite_bd' bd0 (tv_bd _ _)) bd0
  · obtain ⟨h1, h2⟩ := ha
    exact ⟨by show _ ≤ max a (-a); omega, by show max a (-a) ≤ _; omega⟩
  · exact round_bd a
  · exact fix_bd a
  · exact fup_bd a
  · exact flg_bd _
  · exact flg_bd _
  · exact flg_bd _
  · exact flg_bd _
  · exact flg_bd _
  · exact flg_bd _
  · exact flg_bd _
  · exact flg_bd _
  · exact flg_bd _
theorem kv_bd {l : List V} (h : ∀ v ∈ l, Bd v.1) (i : Nat) : Bd (kv l i) := by
  unfold kv
  rw [List.getD_eq_getElem?_getD]
  by_cases hi : i < l.length
  · rw [List.getElem?_eq_getElem hi]; exact h _ (List.getElem_mem hi)
  · rw [List.getElem?_eq_none (by omega)]; exact bd0
theorem val_bd {s : Vs.St} (hs : Good s) : ∀ x : Ex, okx x = true → Bd (val s x).1 := by
  refine Ex.ind fun op n ks ih h => ?_
  rw [okx_mk] at h
  simp only [nodeB, Bool.and_eq_true, Bool.or_eq_true, decide_eq_true_eq, List.all_eq_true] at h
  obtain ⟨⟨_, hn⟩, ha⟩ := h
  have k : ∀ v ∈ ks.map (val s), Bd v.1 := fun v hv => by
    obtain ⟨x, hx, rfl⟩ := List.mem_map.1 hv
    exact ih x hx (ha x hx)
  have bn : Bd n := by
    rcases hn with rfl | ⟨⟨_, h1⟩, h2⟩
    · exact bd0
    · exact ⟨by omega, by omega⟩
  rw [val_mk]
  unfold opk
  split
  · exact opv_bd hs bn (kv_bd k 0) (kv_bd k 1) _
  · exact bd0
def evl (s : Vs.St) (x : Ex) : V := if rgt x = true then val s x else (0, 1)
theorem hal_no {k : Nat} {a b : Int} (h : big a b = false) : hal k a b = (a, b) := by
  cases k with
  | zero => rfl
  | succ k => exact if_neg (by rw [h]; decide)
theorem hal_yes {k : Nat} {a b : Int} (h : big a b = true) : hal (k + 1) a b = hal k (a / 2) (b / 2) := if_pos h
def Hb (k : Nat) (a : Int) : Prop := -(1099511627776 * 2 ^ k) ≤ a ∧ a ≤ 1099511627776 * 2 ^ k
theorem hb_half {k : Nat} {a : Int} (h : Hb (k + 1) a) : Hb k (a / 2) := by
  unfold Hb at *
  rw [Int.pow_succ] at h
  generalize (2 : Int) ^ k = p at *
  omega
theorem hb_zero {a b : Int} (ha : Hb 0 a) (hb : Hb 0 b) : big a b = false := by
  unfold Hb at *
  unfold big
  simp at ha hb ⊢
  omega
theorem hb_ten {a : Int} (h : Bd a) : Hb 10 a := by
  unfold Bd at h; unfold Hb
  have : (2 : Int) ^ 10 = 1024 := by decide
  rw [this]; omega
end Ev
end Go.Proofs.YtciglhecjkeogaaGreatDoor
set_option linter.unusedVariables false
set_option linter.unusedSimpArgs false
namespace Go.Proofs.YtciglhecjkeogaaGreatDoor
open Go.RowKit
def Tc (w : World) : Prop := 3 < w.heap.size ∧ ∀ i : Nat, i < 26 → w.cell? ⟨3, i, none⟩ = some (.int .i64 (Cm.T i))
theorem Tc.kept {w w' : World} (h : Tc w) (q : Qw w w') : Tc w' := ⟨Nat.lt_of_lt_of_le h.1 q.size, fun i hi => by
  have := q.cell (p := ⟨3, i, none⟩) h.1
  rw [this]; exact h.2 i hi⟩
theorem sh_bd (y : Int) (i : Nat) (y1 : -4000000000000000000 ≤ y) (y2 : y ≤ 4000000000000000000) : -4000000000000000000 ≤ y / 2 ^ i ∧ y / 2 ^ i ≤ 4000000000000000000 := by
  have hp : (0 : Int) < 2 ^ i := Int.pow_pos (by decide)
  refine ⟨?_, ?_⟩
  · refine (Int.le_ediv_iff_mul_le hp).2 ?_
    have := Int.mul_le_mul_of_nonneg_left (show (1 : Int) ≤ 2 ^ i by omega) (show (0 : Int) ≤ 4000000000000000000 by decide)
    omega
  · by_cases c : 0 ≤ y
    · exact Int.le_trans (Int.ediv_le_self _ c) y2
    · have := Int.ediv_neg_of_neg_of_pos (show y < 0 by omega) hp
      omega
theorem qw_drew {w w' : World} (h : Qw w w') : Qw w w'.drew := Below.trans h ⟨rfl, rfl, rfl, Nat.le_refl _, fun _ _ => rfl⟩
set_option maxRecDepth 100000 in
theorem co_left (x y z : Int) (i : Nat) (hi : i < 26) (x1 : -4000000000000000000 ≤ x) (x2 : x ≤ 4000000000000000000) (y1 : -4000000000000000000 ≤ y) (y2 : y ≤ 4000000000000000000) (z1 : -1000000000000 ≤ z) (z2 : z ≤ 1000000000000) (w : World) (ht : Tc w) :
    Calls Tryz.prog 113 #[.agg #[.int .i64 x, .int .i64 y, .int .i64 z], .int .i64 i] w fun e w' => e = .returned (.agg #[.int .i64 (Cm.lx i x y), .int .i64 (Cm.ly i x y), .int .i64 (z - Cm.T i)]) ∧ Qw w w' := by
  obtain ⟨hs, hT⟩ := ht
  have hc := hT i hi
  have bt := Cm.bd_T i hi
  clear hT
  have i0 : (0 : Int) ≤ i := by omega
  have i1 : (i : Int) < 26 := by omega
  obtain ⟨d1, d2⟩ := sh_bd y i y1 y2
  obtain ⟨d3, d4⟩ := sh_bd x i x1 x2
  have e1 : IntKind.i64.wrap (x - y / 2 ^ i) = Cm.lx i x y := IntWalk.i64_in _ (by omega)
  have e2 : IntKind.i64.wrap (y + x / 2 ^ i) = Cm.ly i x y := IntWalk.i64_in _ (by omega)
  have e3 : IntKind.i64.wrap (z - Cm.T i) = z - Cm.T i := IntWalk.i64_in _ (by omega)
  clear bt d1 d2 d3 d4 x1 x2 y1 y2 z1 z2
  have gz : 0 < w.heap.size := by omega
  go_enter Tryz.func113, Tryz.ntmps113
  go_wp2
  refine wp_region_still_tail 21 (by kernel_rfl) (by kernel_rfl) ?_
  change wpStill _ _ (World.drew _) _ _ _
  simp only [List.take_succ_cons, List.take_zero, List.drop_succ_cons, List.drop_zero]
  repeat still_step
  refine wpStill_nil ?_
  change wpList _ _ _ _ _ (World.drew _)
  go_wp2
  exact bodyPost_ret (v := .agg #[.int .i64 (Cm.lx i x y), .int .i64 (Cm.ly i x y), .int .i64 (z - Cm.T i)]) (by simp [results, Tryz.results113, go_sem]) rfl ⟨rfl, qw_drew (((Below.refl _ _).alloc (Nat.le_refl _) _).alloc (by simp) _)⟩
set_option maxRecDepth 100000 in
theorem co_right (x y z : Int) (i : Nat) (hi : i < 26) (x1 : -4000000000000000000 ≤ x) (x2 : x ≤ 4000000000000000000) (y1 : -4000000000000000000 ≤ y) (y2 : y ≤ 4000000000000000000) (z1 : -1000000000000 ≤ z) (z2 : z ≤ 1000000000000) (w : World) (ht : Tc w) :
    Calls Tryz.prog 114 #[.agg #[.int .i64 x, .int .i64 y, .int .i64 z], .int .i64 i] w fun e w' => e = .returned (.agg #[.int .i64 (Cm.rx i x y), .int .i64 (Cm.ry i x y), .int .i64 (z + Cm.T i)]) ∧ Qw w w' := by
  obtain ⟨hs, hT⟩ := ht
  have hc := hT i hi
  have bt := Cm.bd_T i hi
  clear hT
  have i0 : (0 : Int) ≤ i := by omega
  have i1 : (i : Int) < 26 := by omega
  obtain ⟨d1, d2⟩ := sh_bd y i y1 y2
  obtain ⟨d3, d4⟩ := sh_bd x i x1 x2
  have e1 : IntKind.i64.wrap (x + y / 2 ^ i) = Cm.rx i x y := IntWalk.i64_in _ (by omega)
  have e2 : IntKind.i64.wrap (y - x / 2 ^ i) = Cm.ry i x y := IntWalk.i64_in _ (by omega)
  have e3 : IntKind.i64.wrap (z + Cm.T i) = z + Cm.T i := IntWalk.i64_in _ (by omega)
  clear bt d1 d2 d3 d4 x1 x2 y1 y2 z1 z2
  have gz : 0 < w.heap.size := by omega
  go_enter Tryz.func114, Tryz.ntmps114
  go_wp2
  refine wp_region_still_tail 21 (by kernel_rfl) (by kernel_rfl) ?_
  change wpStill _ _ (World.drew _) _ _ _
  simp only [List.take_succ_cons, List.take_zero, List.drop_succ_cons, List.drop_zero]
  repeat still_step
  refine wpStill_nil ?_
  change wpList _ _ _ _ _ (World.drew _)
  go_wp2
  exact bodyPost_ret (v := .agg #[.int .i64 (Cm.rx i x y), .int .i64 (Cm.ry i x y), .int .i64 (z + Cm.T i)]) (by simp [results, Tryz.results114, go_sem]) rfl ⟨rfl, qw_drew (((Below.refl _ _).alloc (Nat.le_refl _) _).alloc (by simp) _)⟩
end Go.Proofs.YtciglhecjkeogaaGreatDoor
set_option linter.unusedVariables false
set_option linter.unusedSimpArgs false
namespace Go.Proofs.YtciglhecjkeogaaGreatDoor
open Go.RowKit
def RayAt (w : World) (B : Nat) (x y z : Int) : Prop := w.heap[B]? = some (.cells #[.int .i64 x, .int .i64 y, .int .i64 z] 113 (0, 0))
theorem cells_of_ray {w : World} {B : Nat} {x y z : Int} (h : RayAt w B x y z) :
    w.cell? ⟨B, 0, none⟩ = some (.int .i64 x) ∧ w.cell? ⟨B, 1, none⟩ = some (.int .i64 y) ∧ w.cell? ⟨B, 2, none⟩ = some (.int .i64 z) ∧
    w.frozen? ⟨B, 0, none⟩ = false ∧ w.frozen? ⟨B, 1, none⟩ = false ∧ w.frozen? ⟨B, 2, none⟩ = false := by
  unfold RayAt at h
  simp [World.cell?, World.frozen?, h]
theorem RayAt.kept {w w' : World} {B : Nat} {x y z : Int} (h : RayAt w B x y z) (q : Qw w w') : RayAt w' B x y z := by
  have l := lt_of_block h
  unfold RayAt at h ⊢
  rw [q.block B l]; exact h
theorem three_0 {w : World} {b : Nat} {x y z u : Value} {t : TypeId} (h : w.heap[b]? = some (.cells #[x, y, z] t (0, 0))) : (w.setCell ⟨b, 0, none⟩ u).heap[b]? = some (.cells #[u, y, z] t (0, 0)) := by
  have hlt := lt_of_block h
  have h' : w.heap[b] = .cells #[x, y, z] t (0, 0) := by simpa [Array.getElem?_eq_getElem hlt] using h
  show (w.heap.modify b _)[b]? = _
  rw [Array.getElem?_eq_getElem (by simpa using hlt), Array.getElem_modify_self, h']
  rfl
theorem three_1 {w : World} {b : Nat} {x y z u : Value} {t : TypeId} (h : w.heap[b]? = some (.cells #[x, y, z] t (0, 0))) : (w.setCell ⟨b, 1, none⟩ u).heap[b]? = some (.cells #[x, u, z] t (0, 0)) := by
  have hlt := lt_of_block h
  have h' : w.heap[b] = .cells #[x, y, z] t (0, 0) := by simpa [Array.getElem?_eq_getElem hlt] using h
  show (w.heap.modify b _)[b]? = _
  rw [Array.getElem?_eq_getElem (by simpa using hlt), Array.getElem_modify_self, h']
  rfl
theorem three_2 {w : World} {b : Nat} {x y z u : Value} {t : TypeId} (h : w.heap[b]? = some (.cells #[x, y, z] t (0, 0))) : (w.setCell ⟨b, 2, none⟩ u).heap[b]? = some (.cells #[x, y, u] t (0, 0)) := by
  have hlt := lt_of_block h
  have h' : w.heap[b] = .cells #[x, y, z] t (0, 0) := by simpa [Array.getElem?_eq_getElem hlt] using h
  show (w.heap.modify b _)[b]? = _
  rw [Array.getElem?_eq_getElem (by simpa using hlt), Array.getElem_modify_self, h']
  rfl
theorem ray_store {w : World} {B : Nat} {x y z a b c : Int} (h : RayAt w B x y z) : RayAt (((w.setCell ⟨B, 0, none⟩ (.int .i64 a)).setCell ⟨B, 1, none⟩ (.int .i64 b)).setCell ⟨B, 2, none⟩ (.int .i64 c)) B a b c :=
  three_2 (three_1 (three_0 h))
theorem ray_other {w : World} {B B' : Nat} {x y z a b c : Int} (h : RayAt w B' x y z) (hB : B' ≠ B) : RayAt (((w.setCell ⟨B, 0, none⟩ (.int .i64 a)).setCell ⟨B, 1, none⟩ (.int .i64 b)).setCell ⟨B, 2, none⟩ (.int .i64 c)) B' x y z := by
  unfold RayAt at h ⊢
  rw [Below.heap_setCell _ _ _ _ (by exact fun e => hB e), Below.heap_setCell _ _ _ _ (by exact fun e => hB e), Below.heap_setCell _ _ _ _ (by exact fun e => hB e)]
  exact h
theorem ray_below {N : Nat} {W w : World} {B : Nat} {a b c : Int} (h : Below N W w) (hB : N ≤ B) : Below N W (((w.setCell ⟨B, 0, none⟩ (.int .i64 a)).setCell ⟨B, 1, none⟩ (.int .i64 b)).setCell ⟨B, 2, none⟩ (.int .i64 c)) :=
  ((h.setCell (p := ⟨B, 0, none⟩) hB _).setCell (p := ⟨B, 1, none⟩) hB _).setCell (p := ⟨B, 2, none⟩) hB _
set_option maxRecDepth 100000 in
set_option maxHeartbeats 1000000 in
theorem co_byZ (r : Int) (h1 : -45000000 ≤ r) (h2 : r ≤ 45000000) (w : World) (ht : Tc w) :
    Calls Tryz.prog 80 #[.agg #[.int .i64 652032874, .int .i64 0, .int .i64 (r * 1000)]] w fun e w' => e = .returned (.agg #[.int .i64 (Cm.rs r 26).1, .int .i64 (Cm.rs r 26).2.1, .int .i64 (Cm.rs r 26).2.2]) ∧ Qw w w' := by
  have HT := Lib.hid ht
  clear ht
  go_enter Tryz.func80, Tryz.ntmps80
  go_wp2
  go_loopw [3, 4] (fun u i wr => ∃ k : Nat, k ≤ 26 ∧ i = .int .i64 k ∧ RayAt wr w.heap.size (Cm.rs r k).1 (Cm.rs r k).2.1 (Cm.rs r k).2.2 ∧ RayAt wr (w.heap.size + 1) 0 0 0 ∧ Below w.heap.size w wr) (fun _ i _ => 26 - (intOf i).toNat)
  case atStart => exact ⟨0, by omega, rfl, heap_alloc2_old _ _ _, heap_alloc2_new _ _ _, ((Below.refl _ _).alloc (Nat.le_refl _) _).alloc (by simp) _⟩
  case round =>
    obtain ⟨k, hk, rfl, hr, hz, hb⟩ := hrel
    by_cases c : k < 26
    · obtain ⟨a1, a2, b1, b2, e1, e2⟩ := Cm.rs_bd r h1 h2 k hk
      have rs1 := Cm.rs_succ r k
      generalize hx : (Cm.rs r k).1 = x at *
      generalize hy : (Cm.rs r k).2.1 = y at *
      generalize hzz : (Cm.rs r k).2.2 = z at *
      obtain ⟨c0, c1, c2, f0, f1, f2⟩ := cells_of_ray hr
      have RS := Lib.hid rs1
      have HR := Lib.hid hr
      have HZ := Lib.hid hz
      have TC := Lib.hid (HT.out.kept hb)
      clear rs1 hr hz hx hy hzz
      by_cases d : 0 ≤ z
      · go_wp2_with fail
        refine (co_left x y z k c a1 a2 b1 b2 (by omega) (by omega) _ TC.out).mono ?_
        rintro e w' ⟨rfl, q⟩
        have r1 := HR.out.kept q
        have z1 := HZ.out.kept q
        have q1 := hb.trans (q.mono hb.size)
        clear c0 c1 c2 f0 f1 f2
        obtain ⟨c0, c1, c2, f0, f1, f2⟩ := cells_of_ray r1
        have R1 := Lib.hid r1
        have Z1 := Lib.hid z1
        clear r1 z1
        go_wp2_with fail
        exact ⟨⟨k + 1, by omega, by go_num, by rw [RS.out, if_pos d]; exact ray_store R1.out, ray_other Z1.out (by omega), ray_below q1 (Nat.le_refl _)⟩, by simp [intOf]; omega⟩
      · go_wp2_with fail
        refine (co_right x y z k c a1 a2 b1 b2 (by omega) (by omega) _ TC.out).mono ?_
        rintro e w' ⟨rfl, q⟩
        have r1 := HR.out.kept q
        have z1 := HZ.out.kept q
        have q1 := hb.trans (q.mono hb.size)
        clear c0 c1 c2 f0 f1 f2
        obtain ⟨c0, c1, c2, f0, f1, f2⟩ := cells_of_ray r1
        have R1 := Lib.hid r1
        have Z1 := Lib.hid z1
        clear r1 z1
        go_wp2_with fail
        exact ⟨⟨k + 1, by omega, by go_num, by rw [RS.out, if_neg (by omega)]; exact ray_store R1.out, ray_other Z1.out (by omega), ray_below q1 (Nat.le_refl _)⟩, by simp [intOf]; omega⟩
    · obtain rfl : k = 26 := by omega
      obtain ⟨c0, c1, c2, f0, f1, f2⟩ := cells_of_ray hr
      obtain ⟨g0, g1, g2, i0, i1, i2⟩ := cells_of_ray hz
      have HZ := Lib.hid hz
      clear hr hz
      go_wp2
      obtain ⟨d0, d1, d2, _, _, _⟩ := cells_of_ray (ray_store (a := (Cm.rs r 26).1) (b := (Cm.rs r 26).2.1) (c := (Cm.rs r 26).2.2) HZ.out)
      exact bodyPost_ret (v := .agg #[.int .i64 (Cm.rs r 26).1, .int .i64 (Cm.rs r 26).2.1, .int .i64 (Cm.rs r 26).2.2]) (by simp [results, Tryz.results80, go_sem, d0, d1, d2]) rfl ⟨rfl, ray_below hb (by omega)⟩
end Go.Proofs.YtciglhecjkeogaaGreatDoor
set_option linter.unusedVariables false
set_option linter.unusedSimpArgs false
namespace Go.Proofs.YtciglhecjkeogaaGreatDoor
open Go.RowKit
set_option maxRecDepth 100000 in
set_option maxHeartbeats 1000000 in
theorem co_toAxis (x0 y0 : Int) (h0 : 0 ≤ x0) (h0' : x0 ≤ 1152921504606846976) (h1 : -x0 ≤ y0) (h2 : y0 ≤ x0) (w : World) (ht : Tc w) :
    Calls Tryz.prog 134 #[.agg #[.int .i64 x0, .int .i64 y0, .int .i64 0]] w fun e w' => e = .returned (.agg #[.int .i64 (Cm.vs x0 y0 26).1, .int .i64 (Cm.vs x0 y0 26).2.1, .int .i64 (Cm.vs x0 y0 26).2.2]) ∧ Qw w w' := by
  have HT := Lib.hid ht
  clear ht
  go_enter Tryz.func134, Tryz.ntmps134
  go_wp2
  go_loopw [3, 4] (fun u i wr => ∃ k : Nat, k ≤ 26 ∧ i = .int .i64 k ∧ RayAt wr w.heap.size (Cm.vs x0 y0 k).1 (Cm.vs x0 y0 k).2.1 (Cm.vs x0 y0 k).2.2 ∧ RayAt wr (w.heap.size + 1) 0 0 0 ∧ Below w.heap.size w wr) (fun _ i _ => 26 - (intOf i).toNat)
  case atStart => exact ⟨0, by omega, rfl, heap_alloc2_old _ _ _, heap_alloc2_new _ _ _, ((Below.refl _ _).alloc (Nat.le_refl _) _).alloc (by simp) _⟩
  case round =>
    obtain ⟨k, hk, rfl, hr, hz, hb⟩ := hrel
    by_cases c : k < 26
    · obtain ⟨a1, a2, b1, b2, e1, e2⟩ := Cm.vs_bd x0 y0 h0 h0' h1 h2 k hk
      have rs1 := Cm.vs_succ x0 y0 k
      generalize hx : (Cm.vs x0 y0 k).1 = x at *
      generalize hy : (Cm.vs x0 y0 k).2.1 = y at *
      generalize hzz : (Cm.vs x0 y0 k).2.2 = z at *
      obtain ⟨c0, c1, c2, f0, f1, f2⟩ := cells_of_ray hr
      have RS := Lib.hid rs1
      have HR := Lib.hid hr
      have HZ := Lib.hid hz
      have TC := Lib.hid (HT.out.kept hb)
      clear rs1 hr hz hx hy hzz
      by_cases d : 0 ≤ y
      · go_wp2_with fail
        refine (co_right x y z k c a1 a2 b1 b2 (by omega) (by omega) _ TC.out).mono ?_
        rintro e w' ⟨rfl, q⟩
        have r1 := HR.out.kept q
        have z1 := HZ.out.kept q
        have q1 := hb.trans (q.mono hb.size)
        clear c0 c1 c2 f0 f1 f2
        obtain ⟨c0, c1, c2, f0, f1, f2⟩ := cells_of_ray r1
        have R1 := Lib.hid r1
        have Z1 := Lib.hid z1
        clear r1 z1
        go_wp2_with fail
        exact ⟨⟨k + 1, by omega, by go_num, by rw [RS.out, if_pos d]; exact ray_store R1.out, ray_other Z1.out (by omega), ray_below q1 (Nat.le_refl _)⟩, by simp [intOf]; omega⟩
      · go_wp2_with fail
        refine (co_left x y z k c a1 a2 b1 b2 (by omega) (by omega) _ TC.out).mono ?_
        rintro e w' ⟨rfl, q⟩
        have r1 := HR.out.kept q
        have z1 := HZ.out.kept q
        have q1 := hb.trans (q.mono hb.size)
        clear c0 c1 c2 f0 f1 f2
        obtain ⟨c0, c1, c2, f0, f1, f2⟩ := cells_of_ray r1
        have R1 := Lib.hid r1
        have Z1 := Lib.hid z1
        clear r1 z1
        go_wp2_with fail
        exact ⟨⟨k + 1, by omega, by go_num, by rw [RS.out, if_neg (by omega)]; exact ray_store R1.out, ray_other Z1.out (by omega), ray_below q1 (Nat.le_refl _)⟩, by simp [intOf]; omega⟩
    · obtain rfl : k = 26 := by omega
      obtain ⟨c0, c1, c2, f0, f1, f2⟩ := cells_of_ray hr
      obtain ⟨g0, g1, g2, i0, i1, i2⟩ := cells_of_ray hz
      have HZ := Lib.hid hz
      clear hr hz
      go_wp2
      obtain ⟨d0, d1, d2, _, _, _⟩ := cells_of_ray (ray_store (a := (Cm.vs x0 y0 26).1) (b := (Cm.vs x0 y0 26).2.1) (c := (Cm.vs x0 y0 26).2.2) HZ.out)
      exact bodyPost_ret (v := .agg #[.int .i64 (Cm.vs x0 y0 26).1, .int .i64 (Cm.vs x0 y0 26).2.1, .int .i64 (Cm.vs x0 y0 26).2.2]) (by simp [results, Tryz.results134, go_sem, d0, d1, d2]) rfl ⟨rfl, ray_below hb (by omega)⟩
end Go.Proofs.YtciglhecjkeogaaGreatDoor
set_option linter.unusedVariables false
set_option linter.unusedSimpArgs false
namespace Go.Proofs.YtciglhecjkeogaaGreatDoor
open Go.RowKit
theorem ret_n {a b : Int} (h : a = b) : Ending.returned (.int .i64 a) = .returned (.int .i64 b) := by rw [h]
theorem ret_b {a b : Bool} (h : a = b) : Ending.returned (.bool a) = .returned (.bool b) := by rw [h]
theorem co_rem (v n : Int) (v1 : -9223372036854775808 ≤ v) (v2 : v ≤ 9223372036854775807) (n1 : 1 ≤ n) (n2 : n ≤ 9223372036854775807) (w : World) :
    Calls Tryz.prog 79 #[.int .i64 v, .int .i64 n] w fun e w' => e = .returned (.int .i64 (v % n)) ∧ w = w' := by
  have nz : (n == 0) = false := beq_eq_false_iff_ne.2 (by omega)
  have m0 : 0 ≤ v % n := Int.emod_nonneg _ (by omega)
  have m1 : v % n < n := Int.emod_lt_of_pos _ (by omega)
  go_enter Tryz.func79, Tryz.ntmps79
  go_wp2
  all_goals
    go_ret
    refine ⟨ret_i64 ?_, rfl⟩
  · rename_i h
    have := tmod_of v n n1
    unfold wrap64
    omega
  · rename_i h
    have := tmod_of v n n1
    omega
def bey (n m : Int) : Bool := decide (n < -m) || decide (m < n)
theorem co_beyond (n m : Int) (m1 : 0 ≤ m) (m2 : m ≤ 9223372036854775807) (w : World) :
    Calls Tryz.prog 132 #[.int .i64 n, .int .i64 m] w fun e w' => e = .returned (.bool (bey n m)) ∧ w = w' := by
  unfold bey
  by_cases c : n < -m
  · go_enter Tryz.func132, Tryz.ntmps132
    go_wp2
    go_ret
    exact ⟨ret_b (by first | rfl | simp [c]), rfl⟩
  · have c' : decide (n < -m) = false := decide_eq_false c
    go_enter Tryz.func132, Tryz.ntmps132
    go_wp2
    go_ret
    exact ⟨ret_b (by first | rfl | simp), rfl⟩
def rd (n d : Int) : Int := (n + d / 2) / d
theorem tdiv_floor (N d : Int) (hd : 1 ≤ d) : (N - N % d).tdiv d = N / d := by
  have e := Int.emod_add_mul_ediv N d
  rw [show N - N % d = d * (N / d) by omega, Int.mul_tdiv_cancel_left _ (by omega)]
theorem co_near (n d : Int) (n1 : -9000000000000000000 ≤ n) (n2 : n ≤ 9000000000000000000) (d1 : 1 ≤ d) (d2 : d ≤ 1073741824) (w : World) :
    Calls Tryz.prog 133 #[.int .i64 n, .int .i64 d] w fun e w' => e = .returned (.int .i64 (rd n d)) ∧ w = w' := by
  have nz : (d == 0) = false := beq_eq_false_iff_ne.2 (by omega)
  unfold rd
  have k := tdiv_floor (n + d / 2) d d1
  have m0 : 0 ≤ (n + d / 2) % d := Int.emod_nonneg _ (by omega)
  have m1 : (n + d / 2) % d < d := Int.emod_lt_of_pos _ (by omega)
  have l1 : 0 ≤ d / 2 := by omega
  have l2 : d / 2 ≤ d := by omega
  have q1 : -9000000000000000000 ≤ (n + d / 2) / d := by
    rw [Int.le_ediv_iff_mul_le (by omega)]
    have := Int.mul_le_mul_of_nonneg_left d1 (show (0 : Int) ≤ 9000000000000000000 by decide)
    omega
  have q2 : (n + d / 2) / d ≤ 9000000002000000000 := by
    have := Int.ediv_lt_of_lt_mul (c := d) (a := n + d / 2) (b := 9000000002000000001) (by omega) (by
      have := Int.mul_le_mul_of_nonneg_left d1 (show (0 : Int) ≤ 9000000002000000001 by decide)
      omega)
    omega
  have K := Lib.hid k
  clear k
  go_enter Tryz.func133, Tryz.ntmps133
  go_wp2_with (go_at_call 79; refine (co_rem _ _ (by omega) (by omega) (by omega) (by omega) _).mono ?_; rintro e w' ⟨rfl, rfl⟩)
  go_ret
  refine ⟨ret_n ?_, rfl⟩
  first
    | exact K.out
    | (rw [K.out]; unfold wrap64; omega)
theorem qt_bd (p : Int × Int) (k : Nat) (h1 : -4000000000000000000 ≤ p.1) (h2 : p.1 ≤ 4000000000000000000) (h3 : -4000000000000000000 ≤ p.2) (h4 : p.2 ≤ 4000000000000000000) :
    -4000000000000000000 ≤ (Cm.qt k p).1 ∧ (Cm.qt k p).1 ≤ 4000000000000000000 ∧ -4000000000000000000 ≤ (Cm.qt k p).2 ∧ (Cm.qt k p).2 ≤ 4000000000000000000 := by
  induction k with
  | zero => exact ⟨h1, h2, h3, h4⟩
  | succ k ih => simp only [Cm.qt]; omega
theorem bs_bd (r : Int) (h1 : -45000000 ≤ r) (h2 : r ≤ 45000000) : -4000000000000000000 ≤ (Cm.bs r).1 ∧ (Cm.bs r).1 ≤ 4000000000000000000 ∧ -4000000000000000000 ≤ (Cm.bs r).2 ∧ (Cm.bs r).2 ≤ 4000000000000000000 := by
  have := Cm.rs_bd r h1 h2 26 (by decide)
  unfold Cm.bs
  split
  · decide
  · dsimp only; omega
set_option maxRecDepth 100000 in
set_option maxHeartbeats 1000000 in
theorem co_sincos (a : Int) (a1 : -9223372036854775808 ≤ a) (a2 : a ≤ 9223372036854775807) (w : World) (ht : Tc w) :
    Calls Tryz.prog 51 #[.int .i64 a] w fun e w' => e = .returned (.tuple #[.int .i64 (Cm.sc a).2, .int .i64 (Cm.sc a).1]) ∧ Qw w w' := by
  obtain ⟨k0, k1, r0, r1, kr⟩ := Cm.kk_bd a
  have bb := bs_bd (Cm.rest a) r0 (by omega)
  have qb := fun k => qt_bd (Cm.bs (Cm.rest a)) k bb.1 bb.2.1 bb.2.2.1 bb.2.2.2
  have ek : (a % 360000000 + 45000000) / 90000000 = Cm.kk a := rfl
  have er : a % 360000000 - Cm.kk a * 90000000 = Cm.rest a := rfl
  have es : Cm.sc a = Cm.qt (Cm.kk a).toNat (Cm.bs (Cm.rest a)) := rfl
  rw [es]
  have b0 : 0 ≤ a % 360000000 := by omega
  have b1 : a % 360000000 < 360000000 := by omega
  have c1 := fun w => co_rem a 360000000 a1 a2 (by decide) (by decide) w
  generalize a % 360000000 = R at *
  have HT := Lib.hid ht
  have C1 := Lib.hid c1
  clear c1 es ht kr
  generalize Cm.kk a = k at *
  have z0 : Cm.rest a = 0 → (Cm.bs (Cm.rest a)).1 = 1073741824 ∧ (Cm.bs (Cm.rest a)).2 = 0 := fun h => by rw [h]; exact ⟨rfl, rfl⟩
  have z1 : Cm.rest a ≠ 0 → (Cm.rs (Cm.rest a) 26).1 = (Cm.bs (Cm.rest a)).1 ∧ (Cm.rs (Cm.rest a) 26).2.1 = (Cm.bs (Cm.rest a)).2 := fun h => by unfold Cm.bs; rw [if_neg h]; exact ⟨rfl, rfl⟩
  generalize Cm.rest a = r at *
  have c2 := fun w ht => co_byZ r r0 (by omega) w ht
  obtain ⟨p, hp⟩ : ∃ p, Cm.bs r = p := ⟨_, rfl⟩
  rw [hp] at z0 z1 bb qb ⊢
  clear hp
  obtain ⟨p1, p2⟩ := p
  dsimp only at z0 z1
  clear a1 a2 bb
  have kn : ((k.toNat : Nat) : Int) = k := by omega
  have QB := Lib.hid qb
  have KN := Lib.hid kn
  have q0 := Qw.refl w
  clear qb kn
  by_cases c : r = 0
  · obtain ⟨rfl, rfl⟩ := z0 c
    have c' : (r != 0) = false := by rw [c]; rfl
    clear z0 z1 c2 c
    go_enter Tryz.func51, Tryz.ntmps51
    go_wp2_with (go_at_call 79; ((with_reducible refine (C1.out _).mono ?_); rintro e w' ⟨rfl, rfl⟩))
    go_loop [7, 8, 30] (fun x y i => ∃ j : Nat, j ≤ k.toNat ∧ i = .int .i64 j ∧ x = .int .i64 (Cm.qt j (1073741824, 0)).1 ∧ y = .int .i64 (Cm.qt j (1073741824, 0)).2) (fun _ _ i => k.toNat - (intOf i).toNat)
    case atStart => exact ⟨0, by omega, rfl, rfl, rfl⟩
    case round =>
      obtain ⟨j, hj, rfl, rfl, rfl⟩ := hrel
      obtain ⟨x1, x2, y1, y2⟩ := QB.out j
      by_cases c : j < k.toNat
      · have s1 : (Cm.qt (j + 1) (1073741824, 0)).1 = -(Cm.qt j (1073741824, 0)).2 := rfl
        have s2 : (Cm.qt (j + 1) (1073741824, 0)).2 = (Cm.qt j (1073741824, 0)).1 := rfl
        have S1 := Lib.hid s1
        have S2 := Lib.hid s2
        clear s1 s2
        generalize (Cm.qt j (1073741824, 0)).1 = x at *
        generalize (Cm.qt j (1073741824, 0)).2 = y at *
        have lt : (j : Int) < k := by omega
        go_wp2
        go_round
        case rel => exact ⟨j + 1, by omega, by go_num, by rw [S1.out], by rw [S2.out]⟩
        case measure => simp [intOf]; omega
      · obtain rfl : j = k.toNat := by omega
        have ge : ¬ ((k.toNat : Nat) : Int) < k := by omega
        go_wp2
        go_ret2
        exact ⟨rfl, q0⟩
  · obtain ⟨e1, e2⟩ := z1 c
    have c' : (r != 0) = true := by rw [bne_iff_ne]; exact c
    rw [e1, e2] at c2
    have C2 := Lib.hid c2
    clear z0 z1 c2 c e1 e2
    generalize (Cm.rs r 26).2.2 = zz at *
    go_enter Tryz.func51, Tryz.ntmps51
    go_wp2_with (first | (go_at_call 79; ((with_reducible refine (C1.out _).mono ?_); rintro e w' ⟨rfl, rfl⟩)) | (go_at_call 80; ((with_reducible refine (C2.out _ HT.out).mono ?_); rintro e w' ⟨rfl, h⟩; replace q0 := Qw.trans q0 h; clear h)))
    go_quiet (fail)
    go_wp2
    go_loop [7, 8, 30] (fun x y i => ∃ j : Nat, j ≤ k.toNat ∧ i = .int .i64 j ∧ x = .int .i64 (Cm.qt j (p1, p2)).1 ∧ y = .int .i64 (Cm.qt j (p1, p2)).2) (fun _ _ i => k.toNat - (intOf i).toNat)
    case atStart => exact ⟨0, by omega, rfl, rfl, rfl⟩
    case round =>
      obtain ⟨j, hj, rfl, rfl, rfl⟩ := hrel
      obtain ⟨x1, x2, y1, y2⟩ := QB.out j
      by_cases c : j < k.toNat
      · have s1 : (Cm.qt (j + 1) (p1, p2)).1 = -(Cm.qt j (p1, p2)).2 := rfl
        have s2 : (Cm.qt (j + 1) (p1, p2)).2 = (Cm.qt j (p1, p2)).1 := rfl
        have S1 := Lib.hid s1
        have S2 := Lib.hid s2
        clear s1 s2
        generalize (Cm.qt j (p1, p2)).1 = x at *
        generalize (Cm.qt j (p1, p2)).2 = y at *
        have lt : (j : Int) < k := by omega
        go_wp2
        go_round
        case rel => exact ⟨j + 1, by omega, by go_num, by rw [S1.out], by rw [S2.out]⟩
        case measure => simp [intOf]; omega
      · obtain rfl : j = k.toNat := by omega
        have ge : ¬ ((k.toNat : Nat) : Int) < k := by omega
        go_wp2
        go_ret2
        exact ⟨rfl, Qw.trans (Qw.trans q0 ((Below.refl _ _).alloc (Nat.le_refl _) _)) (Qw.drewN _ _)⟩
end Go.Proofs.YtciglhecjkeogaaGreatDoor

