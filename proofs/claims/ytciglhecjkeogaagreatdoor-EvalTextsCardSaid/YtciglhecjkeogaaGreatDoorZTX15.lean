import Derived.Test.YtciglhecjkeogaaGreatDoorZTX8
import Derived.Test.YtciglhecjkeogaaGreatDoorZTX12
import Derived.Test.YtciglhecjkeogaaGreatDoorZTX13
import Derived.Test.YtciglhecjkeogaaGreatDoorZTX14
import Derived.OrdersHeld
import Derived.StillTail
import Derived.Deep.MidRow
import Derived.Great.BuildSlice
import Derived.Great.FillDense
import Derived.WalkSpells
import Derived.Deep.WholeRow
import Derived.Defers
import Derived.Recover
set_option linter.unusedVariables false
namespace Go.Proofs.YtciglhecjkeogaaGreatDoor
open Go
section
variable {P : Program} {ops : Array Oper} {Q : Exit → Act → World → Prop} {md : Region.Mode} {S : World → Prop} {m : Nat}
def okL (md : Region.Mode) (ops : Array Oper) (m : Nat) (listed : Array Bool) : Bool :=
  (listed.size == ops.size) && ((List.range ops.size).all fun j => !listed.getD j false || (match ops[j]? with | some o => o.after.all fun e => !Region.binds md e || listed.getD e.on false | none => true)) &&
    ((List.range ops.size).all fun t => decide (t < m) || !listed.getD t true)
end
end Go.Proofs.YtciglhecjkeogaaGreatDoor
set_option linter.unusedVariables false
set_option linter.unusedSimpArgs false
namespace Go.Proofs.YtciglhecjkeogaaGreatDoor
open Go.RowKit
section
variable {ops : Array Oper} {rest : List Oper} {dst : Option Tmp} {ty : TypeId} {pos : String} {after : Array Edge} {a : Act} {w : World} {Q : Exit → Act → World → Prop}
end
section
variable {ops : Array Oper} {rest : List Oper} {dst : Option Tmp} {ty : TypeId} {pos : String} {after : Array Edge} {a : Act} {w : World} {Q : Exit → Act → World → Prop}
end
section
variable {ops : Array Oper} {rest : List Oper} {dst : Option Tmp} {ty : TypeId} {pos : String} {after : Array Edge} {a : Act} {w : World} {Q : Exit → Act → World → Prop} {K : Act → World → Prop}
end
section
variable {ops : Array Oper} {rest : List Oper} {dst : Option Tmp} {ty : TypeId} {pos : String} {after : Array Edge} {a : Act} {w : World} {Q : Exit → Act → World → Prop} {K : Act → World → Prop}
end
end Go.Proofs.YtciglhecjkeogaaGreatDoor
set_option linter.unusedVariables false
set_option linter.unusedSimpArgs false
namespace Go.Proofs.YtciglhecjkeogaaGreatDoor
open Go.RowKit
theorem Qw.gb {w w' : World} {L : Nat} (h : w.grownBy w' (some L)) (B : Nat) : Ty B L w w' := ⟨h.os, h.tape, h.output, h.size, fun k hk _ h2 => h.block k hk (by simpa using h2)⟩
theorem Bx.dr {w : World} {b : Nat} {cs : Array Value} {t : TypeId} (X : Bx w b cs t) : Bx w.drew b cs t := X
theorem Bx.gb {w w' : World} {L b : Nat} {cs : Array Value} {t : TypeId} (X : Bx w b cs t) (h : w.grownBy w' (some L)) (hb : b ≠ L) : Bx w' b cs t := (h.block b X.lt (by simpa using hb)).trans X
end Go.Proofs.YtciglhecjkeogaaGreatDoor
set_option linter.unusedVariables false
set_option linter.unusedSimpArgs false
namespace Go.Proofs.YtciglhecjkeogaaGreatDoor
open Go.RowKit
theorem fill_part (place : Nat → Option (Nat × Nat)) (A M C : List Value) (i : Nat) (v : Value) (rest : List (Nat × Value)) (hp : place i = some (A.length, M.length)) (hv : v.cells.size = M.length) :
    Instr.fill place (A ++ M ++ C).toArray ((i, v) :: rest) = Instr.fill place (A ++ v.cells.toList ++ C).toArray rest := by
  conv => lhs; unfold Instr.fill
  rw [hp]
  simp only
  rw [if_neg (by simp [hv])]
  congr 1
  apply Array.ext_getElem?
  intro k
  rw [← Array.foldl_toList, Array.toList_zipIdx]
  have h := (Great.foldl_set A.length v.cells.toList 0 (A ++ M ++ C).toArray).2 k
  refine Eq.trans h ?_
  have hl : v.cells.toList.length = M.length := by simpa using hv
  simp only [List.getElem?_toArray, Nat.add_zero, List.size_toArray, List.length_append, hl]
  by_cases h1 : k < A.length
  · rw [if_neg (by omega), List.append_assoc, List.append_assoc, List.getElem?_append_left h1, List.getElem?_append_left h1]
  · by_cases h2 : k < A.length + M.length
    · rw [if_pos (by omega), List.append_assoc, List.getElem?_append_right (by omega), List.getElem?_append_left (by omega)]
    · rw [if_neg (by omega), List.getElem?_append_right (by simp; omega), List.getElem?_append_right (by simp [hl]; omega)]
      simp [hl]
theorem built_v (parts : List (Nat × Value)) : Tryz.prog.built 70 parts = Instr.fill (#[(0, 1), (1, 100), (101, 1000)][·]?) (stc (.slice none 0 0) Vs.new) parts := by kernel_rfl
theorem built_r (parts : List (Nat × Value)) : Tryz.prog.built 73 parts = Instr.fill (#[(0, 1), (1, 100), (101, 1000)][·]?) (stc (.slice none 0 0) Vs.new) parts := by kernel_rfl
theorem stc_parts (v : Value) (s : Vs.St) : stc v s = ([] ++ [v] ++ (s.cm.map (Value.int .i64) ++ s.sy.map (Value.int .i64))).toArray := by
  simp [stc]
theorem fill_one (a : Option Addr) (n c : Nat) : Instr.fill (#[(0, 1), (1, 100), (101, 1000)][·]?) (stc (.slice none 0 0) Vs.new) [(0, .slice a n c)] = some (stc (.slice a n c) Vs.new) := by
  rw [stc_parts, stc_parts, fill_part _ [] [Value.slice none 0 0] _ 0 _ _ rfl rfl]
  rfl
end Go.Proofs.YtciglhecjkeogaaGreatDoor
set_option linter.unusedVariables false
set_option linter.unusedSimpArgs false
namespace Go.Proofs.YtciglhecjkeogaaGreatDoor
open Go.RowKit
section
variable {ops : Array Oper} {rest : List Oper} {dst : Option Tmp} {ty : TypeId} {pos : String} {after : Array Edge} {a : Act} {w : World} {Q : Exit → Act → World → Prop}
theorem bu_v (x : Tmp) {b : Option Addr} {n c : Nat} (hx : a.eval (.tmp x) = .slice b n c) (h : wpList Tryz.prog ops Q rest (a.put dst (.agg (stc (.slice b n c) Vs.new))) w) :
    wpList Tryz.prog ops Q (⟨dst, .build 70 #[(0, .tmp x)], ty, pos, after, none⟩ :: rest) a w := by
  have e : Tryz.prog.built 70 ((#[(0, Operand.tmp x)] : Array (Nat × Operand)).map fun (i, x) => (i, a.eval x)).toList = some (stc (.slice b n c) Vs.new) := by
    rw [built_v]
    have e2 : ((#[(0, Operand.tmp x)] : Array (Nat × Operand)).map fun (i, x) => (i, a.eval x)).toList = [(0, Value.slice b n c)] := by simp [hx]
    rw [e2]
    exact fill_one b n c
  refine wpList_build rfl 70 #[(0, .tmp x)] rfl (by rw [e]; rfl) ?_
  rw [e]
  exact h
theorem bu_r (x : Tmp) {b : Option Addr} {n c : Nat} (hx : a.eval (.tmp x) = .slice b n c) (h : wpList Tryz.prog ops Q rest (a.put dst (.agg (stc (.slice b n c) Vs.new))) w) :
    wpList Tryz.prog ops Q (⟨dst, .build 73 #[(0, .tmp x)], ty, pos, after, none⟩ :: rest) a w := by
  have e : Tryz.prog.built 73 ((#[(0, Operand.tmp x)] : Array (Nat × Operand)).map fun (i, x) => (i, a.eval x)).toList = some (stc (.slice b n c) Vs.new) := by
    rw [built_r]
    have e2 : ((#[(0, Operand.tmp x)] : Array (Nat × Operand)).map fun (i, x) => (i, a.eval x)).toList = [(0, Value.slice b n c)] := by simp [hx]
    rw [e2]
    exact fill_one b n c
  refine wpList_build rfl 73 #[(0, .tmp x)] rfl (by rw [e]; rfl) ?_
  rw [e]
  exact h
end
def NewR (S : World → Nat → Nat → Nat → Vs.St → Prop) (s : Vs.St) (w : World) (e : Ending) (w' : World) : Prop :=
  ∃ B L cap, e = .returned (.pointer (some ⟨B, 0, none⟩)) ∧ S w' B L cap s ∧ w.heap.size ≤ B ∧ w.heap.size ≤ L ∧ Qw w w'
theorem new_mem (T E : TypeId) (w : World) (A : Array Value) (hA : A = ivs (Vs.zer 33)) :
    Stb T E ((w.alloc (.cells A E)).alloc (.cells (stc (.slice (some ⟨w.heap.size, 0, none⟩) 1 1) Vs.new) T)) (w.heap.size + 1) w.heap.size 1 Vs.new := by
  subst hA
  have e1 : (w.alloc (.cells (ivs (Vs.zer 33)) E)).heap.size = w.heap.size + 1 := by simp
  have X := Bx.new (w.alloc (.cells (ivs (Vs.zer 33)) E)) (stc (.slice (some ⟨w.heap.size, 0, none⟩) 1 1) Vs.new) T
  rw [e1] at X
  refine ⟨X, ⟨ivs (Vs.zer 33), (Bx.new w _ _).alloc _, ?_, ?_⟩, by omega, Nat.le_refl _, by decide, Vs.new_ok⟩
  · rw [ivs_size, Vs.zer_length]
  · show ((Vs.zer 33).map _).take 33 = (Vs.zer 33).map _
    exact List.take_of_length_le (by rw [List.length_map, Vs.zer_length]; exact Nat.le_refl _)
set_option maxRecDepth 100000 in
set_option maxHeartbeats 4000000 in
theorem vaNew (w : World) : Calls Tryz.prog 12 #[] w (NewR Pst Vs.new w) := by
  have hmk : ∀ w, (Instr.makeSlice 66 (.int .i64 1) (.int .i64 1)).run Tryz.prog w = .ok (.slice (some ⟨w.heap.size, 0, none⟩) 1 1) (w.alloc (.cells (ivs (Vs.zer 33)) 103)) := fun _ => by kernel_rfl
  go_enter Tryz.func12, Tryz.ntmps12
  go_wp2_with (refine bu_v 1 rfl ?_)
  go_ret
  exact ⟨_, _, _, rfl, new_mem _ _ w _ rfl, by omega, Nat.le_refl _, Qw.al (Qw.al (Qw.refl w) _) _⟩
set_option maxRecDepth 100000 in
set_option maxHeartbeats 4000000 in
theorem vrNew (w : World) : Calls Tryz.prog 16 #[] w (NewR Rst Vs.new w) := by
  have hmk : ∀ w, (Instr.makeSlice 71 (.int .i64 1) (.int .i64 1)).run Tryz.prog w = .ok (.slice (some ⟨w.heap.size, 0, none⟩) 1 1) (w.alloc (.cells (ivs (Vs.zer 33)) 79)) := fun _ => by kernel_rfl
  go_enter Tryz.func16, Tryz.ntmps16
  go_wp2_with (refine bu_r 1 rfl ?_)
  go_ret
  exact ⟨_, _, _, rfl, new_mem _ _ w _ rfl, by omega, Nat.le_refl _, Qw.al (Qw.al (Qw.refl w) _) _⟩
end Go.Proofs.YtciglhecjkeogaaGreatDoor
set_option linter.unusedVariables false
set_option linter.unusedSimpArgs false
namespace Go.Proofs.YtciglhecjkeogaaGreatDoor
open Go.RowKit
section
variable {ops : Array Oper} {dst : Option Tmp} {ty : TypeId} {pos : String} {after : Array Edge} {a : Act}
end
theorem Qw.ty {w w' : World} (B L : Nat) (q : Qw w w') : Ty B L w w' := Ty.of q
end Go.Proofs.YtciglhecjkeogaaGreatDoor
set_option linter.unusedVariables false
set_option linter.unusedSimpArgs false
namespace Go.Proofs.YtciglhecjkeogaaGreatDoor
open Go.RowKit
structure Tf (F : Nat → Prop) (w w' : World) : Prop where
  os : w'.os = w.os
  tape : w'.tape = w.tape
  output : w'.output = w.output
  size : w.heap.size ≤ w'.heap.size
  block : ∀ k, k < w.heap.size → ¬ F k → w'.heap[k]? = w.heap[k]?
theorem Tf.refl (F : Nat → Prop) (w : World) : Tf F w w := ⟨rfl, rfl, rfl, Nat.le_refl _, fun _ _ _ => rfl⟩
theorem Tf.of {F : Nat → Prop} {w w' : World} (q : Qw w w') : Tf F w w' := ⟨q.os, q.tape, q.output, q.size, fun k h _ => q.block k h⟩
theorem Tf.trans {F : Nat → Prop} {a b c : World} (h : Tf F a b) (k : Tf F b c) : Tf F a c :=
  ⟨k.os.trans h.os, k.tape.trans h.tape, k.output.trans h.output, Nat.le_trans h.size k.size, fun i hi h1 => (k.block i (Nat.lt_of_lt_of_le hi h.size) h1).trans (h.block i hi h1)⟩
theorem Tf.ty {F : Nat → Prop} {B L : Nat} {w w' : World} (h : Ty B L w w') (hB : F B) (hL : F L) : Tf F w w' :=
  ⟨h.os, h.tape, h.output, h.size, fun k hk hF => h.block k hk (fun e => hF (e ▸ hB)) (fun e => hF (e ▸ hL))⟩
theorem Tf.step {F G : Nat → Prop} {a b c : World} (h : Tf F a b) (k : Tf G b c) (hG : ∀ i, i < a.heap.size → G i → F i) : Tf F a c :=
  ⟨k.os.trans h.os, k.tape.trans h.tape, k.output.trans h.output, Nat.le_trans h.size k.size, fun i hi h1 => (k.block i (Nat.lt_of_lt_of_le hi h.size) (fun g => h1 (hG i hi g))).trans (h.block i hi h1)⟩
theorem Qw.tf {F : Nat → Prop} {w0 w w' : World} (q : Qw w0 w) (t : Tf F w w') (hF : ∀ k, F k → w0.heap.size ≤ k) : Qw w0 w' :=
  ⟨t.os.trans q.os, t.tape.trans q.tape, t.output.trans q.output, Nat.le_trans q.size t.size, fun k hk => (t.block k (Nat.lt_of_lt_of_le hk q.size) (fun h => by have := hF k h; omega)).trans (q.block k hk)⟩
theorem Qw.tyn {B L : Nat} {w0 w w' : World} (q : Qw w0 w) (t : Ty B L w w') (hB : w0.heap.size ≤ B) (hL : w0.heap.size ≤ L) : Qw w0 w' :=
  q.tf (F := fun k => k = B ∨ k = L) (Tf.ty t (.inl rfl) (.inr rfl)) (fun k h => by rcases h with rfl | rfl <;> assumption)
theorem aw_1 : Vs.perr Vs.new [(88, 7)] = 0 := by decide +kernel
theorem aw_2 : (Vs.new.push [(88, 7)]).get 24 = 7 ∧ Vs.gerr 24 = 0 ∧ Vs.gerr 34 = 6 := by decide +kernel
end Go.Proofs.YtciglhecjkeogaaGreatDoor
set_option linter.unusedVariables false
set_option linter.unusedSimpArgs false
namespace Go.Proofs.YtciglhecjkeogaaGreatDoor
open Go.RowKit
structure Tw (w : World) : Prop where
  c : Tc w
  o : Ow w
theorem Tw.kept {w w' : World} (h : Tw w) (q : Qw w w') : Tw w' := ⟨h.c.kept q, h.o.kept q⟩
abbrev Kd (w : World) (a : Option Addr) (c : Nat) (ks : List Sy.Ex) : Prop := KidsB w (fun _ => True) a c ks
namespace Ev
def All (s : Vs.St) : Prop := (∀ x ∈ s.ls, Bd x) ∧ (∀ x ∈ s.cm, Bd x) ∧ (∀ x ∈ s.sy, Bd x)
theorem getD_bd {l : List Int} (h : ∀ x ∈ l, Bd x) (i : Nat) : Bd (l.getD i 0) := by
  rw [List.getD_eq_getElem?_getD]
  by_cases hi : i < l.length
  · rw [List.getElem?_eq_getElem hi]; exact h _ (List.getElem_mem hi)
  · rw [List.getElem?_eq_none (by omega)]; exact bd0
theorem All.good {s : Vs.St} (h : All s) : Good s := by
  obtain ⟨h1, h2, h3⟩ := h
  intro n
  unfold Vs.St.get
  split
  · exact getD_bd h1 _
  · split
    · exact getD_bd h2 _
    · split
      · exact getD_bd h3 _
      · exact bd0
theorem zer_bd (n : Nat) : ∀ x ∈ Vs.zer n, Bd x := fun x hx => by
  rw [List.eq_of_mem_replicate hx]; exact bd0
theorem all_new : All Vs.new := ⟨zer_bd _, zer_bd _, zer_bd _⟩
theorem set_bd {l : List Int} (h : ∀ x ∈ l, Bd x) {v : Int} (hv : Bd v) (i : Nat) : ∀ x ∈ l.set i v, Bd x := fun x hx => by
  rcases List.mem_or_eq_of_mem_set hx with hx | rfl
  · exact h x hx
  · exact hv
theorem all_set {s : Vs.St} (h : All s) {v : Int} (hv : Bd v) (n : Int) : All (s.set n v) := by
  obtain ⟨h1, h2, h3⟩ := h
  unfold Vs.St.set
  split
  · exact ⟨h1, h2, h3⟩
  · split
    · exact ⟨set_bd h1 hv _, h2, h3⟩
    · exact ⟨h1, set_bd h2 hv _, h3⟩
theorem set_n (s : Vs.St) (n v : Int) : (s.set n v).n = s.n := by
  unfold Vs.St.set
  split
  · rfl
  · split <;> rfl
theorem good_new : Good Vs.new := all_new.good
theorem evl_ok {s : Vs.St} {x : Sy.Ex} (h : Sy.okx x = true) (d : Sy.dpt x ≤ 16) : evl s x = val s x :=
  if_pos (by unfold Sy.rgt Sy.depB; rw [h, decide_eq_true d]; rfl)
theorem evl_no {s : Vs.St} {x : Sy.Ex} (h : Sy.rgt x = false) : evl s x = (0, 1) := if_neg (by rw [h]; decide)
theorem evl_yes {s : Vs.St} {x : Sy.Ex} (h : Sy.rgt x = true) : evl s x = val s x := if_pos h
theorem val_num (s : Vs.St) (n : Int) : val s (Sy.num n) = (n, 0) := by unfold Sy.num; rw [val_mk]; rfl
theorem val_bin (s : Vs.St) (o : Int) (x y : Sy.Ex) : val s (Sy.bin o x y) = opk s o 0 [val s x, val s y] := by unfold Sy.bin; rw [val_mk]; rfl
theorem opk_two (s : Vs.St) (o n a b : Int) : opk s o n [(a, 0), (b, 0)] = opv s n a b o.toNat := rfl
theorem aw_1 : evl Vs.new (Sy.bin 6 (Sy.num 1000000) (Sy.num 0)) = (0, 4) := by
  have o1 := Sy.okx_num' (n := 1000000) (by decide) (by decide)
  have o2 := Sy.okx_num' (n := 0) (by decide) (by decide)
  rw [evl_ok (Sy.okx_bin' (by decide) rfl o1 o2) (by rw [Sy.dpt_bin, Sy.dpt_num, Sy.dpt_num]; decide), val_bin, val_num, val_num, opk_two]
  show (divv 1000000 0, dive 1000000 0) = (0, 4)
  decide +kernel
theorem aw_2 : evl Vs.new (Sy.bin 11 (Sy.num 1000000) (Sy.num 0)) = (90000000, 0) := by
  have o1 := Sy.okx_num' (n := 1000000) (by decide) (by decide)
  have o2 := Sy.okx_num' (n := 0) (by decide) (by decide)
  rw [evl_ok (Sy.okx_bin' (by decide) rfl o1 o2) (by rw [Sy.dpt_bin, Sy.dpt_num, Sy.dpt_num]; decide), val_bin, val_num, val_num, opk_two]
  show dirv 1000000 0 = (90000000, 0)
  decide +kernel
end Ev
theorem kd_nil (w : World) : Kd w none 0 [] := .nl none 0 (by decide)
set_option maxRecDepth 100000 in
set_option maxHeartbeats 4000000 in
theorem evEval {B L cap : Nat} {s : Vs.St} (hg : Ev.Good s) (x : Sy.Ex) (a : Option Addr) (c : Nat) (w : World) (hp : Pst w B L cap s) (ht : Tw w) (hk : Kd w a c x.ks) :
    Calls Tryz.prog 11 #[.agg #[.int .i64 x.op, .int .i64 x.n, .slice a x.ks.length c], .pointer (some ⟨B, 0, none⟩)] w fun e w' => e = .returned (.tuple #[.int .i64 (Ev.evl s x).1, .int .i64 (Ev.evl s x).2]) ∧ Qw w w' := by
  have cr := fun w1 (h1 : Ow w1) (h2 : Kd w1 a c x.ks) => sv_right x.op x.n x.ks a c _ w1 h1 h2
  rw [show Sy.Ex.mk x.op x.n x.ks = x by cases x; rfl] at cr
  obtain ⟨l1, l2⟩ := hk.cap
  have HK := Lib.hid hk
  have HT := Lib.hid ht
  have HP := Lib.hid hp
  have q0 : Hid (Qw w w) := Lib.hid (Qw.refl w)
  clear hk ht hp
  cases hr : Sy.rgt x with
  | false =>
    rw [hr] at cr
    have CR := Lib.hid cr
    clear cr
    rw [Ev.evl_no hr]
    clear hr
    go_enter Tryz.func11, Tryz.ntmps11
    go_wp2_with (go_at_call 26; ((with_reducible refine (CR.out _ (HT.out.o.kept Qz) (KidsB.kept HK.out Qz)).mono ?_); rintro e w' ⟨rfl, q⟩; replace q0 : Hid (Qw w w') := Lib.hid (Qw.trans Qz q); clear q))
    go_ret2
    exact ⟨rfl, q0.out⟩
  | true =>
    rw [hr] at cr
    have CR := Lib.hid cr
    rw [Ev.evl_yes hr]
    have hok : Sy.okx x = true := by unfold Sy.rgt at hr; simp only [Bool.and_eq_true] at hr; exact hr.1
    have CV := Lib.hid (fun (w1 : World) (h1 : Pst w1 B L cap s) h2 h3 => evValue hg x hok a c (fun _ => True) w1 h1 h2 h3)
    clear cr hr hok
    generalize (Ev.val s x).1 = v at *
    generalize (Ev.val s x).2 = ee at *
    go_enter Tryz.func11, Tryz.ntmps11
    go_wp2_with (first
      | (go_at_call 26; ((with_reducible refine (CR.out _ (HT.out.o.kept Qz) (KidsB.kept HK.out Qz)).mono ?_); rintro e w' ⟨rfl, q⟩; have x0 := (Bx.kept (Bx.new w #[.int .i64 x.op, .int .i64 x.n, .slice a x.ks.length c] 31) q).cell' 0 _ rfl; have x1 := (Bx.kept (Bx.new w #[.int .i64 x.op, .int .i64 x.n, .slice a x.ks.length c] 31) q).cell' 1 _ rfl; have x2 := (Bx.kept (Bx.new w #[.int .i64 x.op, .int .i64 x.n, .slice a x.ks.length c] 31) q).cell' 2 _ rfl; replace q0 : Hid (Qw w w') := Lib.hid (Qw.trans Qz q); clear q))
      | (go_at_call 28; ((with_reducible refine (CV.out _ (HP.out.kept Qz) (HT.out.c.kept Qz) (KidsB.kept HK.out Qz)).mono ?_); rintro e w' ⟨rfl, q⟩; replace q0 : Hid (Qw w w') := Lib.hid (Qw.trans Qz q); clear q)))
    go_ret2
    exact ⟨rfl, q0.out⟩
theorem bx_at8 (w : World) (cs : Array Value) (t : TypeId) (n : Nat) (h : w.heap.size = n) : Bx (w.alloc (.cells cs t)) n cs t := h ▸ Bx.new w cs t
theorem evNum (n : Int) (w : World) : Calls Tryz.prog 14 #[.int .i64 n] w fun e w' => e = .returned (.agg #[.int .i64 0, .int .i64 n, .slice none 0 0]) ∧ Qw w w' := by
  go_enter Tryz.func14, Tryz.ntmps14
  go_wp2_with fail
  exact bodyPost_ret (ret_ex Tryz.results14 rfl (Bx.new w _ _)) rfl ⟨rfl, Qw.al (Qw.refl w) _⟩
set_option maxRecDepth 100000 in
set_option maxHeartbeats 4000000 in
theorem evTwo (o : Int) (x y : Sy.Ex) (xa ya : Option Addr) (xc yc : Nat) (w : World) (hx : Kd w xa xc x.ks) (hy : Kd w ya yc y.ks) :
    Calls Tryz.prog 13 #[.int .i64 o, .agg #[.int .i64 x.op, .int .i64 x.n, .slice xa x.ks.length xc], .agg #[.int .i64 y.op, .int .i64 y.n, .slice ya y.ks.length yc]] w fun e w' =>
      ∃ b, e = .returned (.agg #[.int .i64 o, .int .i64 0, .slice (some ⟨b, 0, none⟩) 2 2]) ∧ Kd w' (some ⟨b, 0, none⟩) 2 [x, y] ∧ Qw w w' := by
  obtain ⟨l1, l2⟩ := hx.cap
  obtain ⟨l3, l4⟩ := hy.cap
  have HX := Lib.hid hx
  have HY := Lib.hid hy
  clear hx hy
  generalize hX : x.ks.length = lx at *
  generalize hY : y.ks.length = ly at *
  go_enter Tryz.func13, Tryz.ntmps13
  go_wp2_with fail
  subst hX hY
  have QF : Qw w ((((w.alloc (.cells #[.int .i64 x.op, .int .i64 x.n, .slice xa x.ks.length xc] 31)).alloc (.cells #[.int .i64 y.op, .int .i64 y.n, .slice ya y.ks.length yc] 31)).alloc (.cells #[.int .i64 o, .int .i64 0, .slice (some ⟨w.heap.size + 1 + 1 + 1, 0, none⟩) 2 2] 31)).alloc (.cells #[.int .i64 x.op, .int .i64 x.n, .slice xa x.ks.length xc, .int .i64 y.op, .int .i64 y.n, .slice ya y.ks.length yc] 31)) := Qw.al (Qw.al (Qw.al (Qw.al (Qw.refl w) _) _) _) _
  exact bodyPost_ret (ret_ex Tryz.results13 rfl (Bx.alloc (bx_at8 _ _ _ _ (by simp)) _)) rfl ⟨_, rfl, KidsB.two (bx_at8 _ _ _ _ (by simp)) trivial (KidsB.kept HX.out QF) (KidsB.kept HY.out QF), QF⟩
set_option maxRecDepth 100000 in
set_option maxHeartbeats 4000000 in
theorem awake8 (w : World) (ht : Tw w) : Calls Tryz.prog 5 #[] w fun e w' => e = .returned (.bool true) ∧ Qw w w' := by
  have HT := Lib.hid ht
  have C6 := Lib.hid (fun (w1 : World) (B L cap b : Nat) (h1 : Pst w1 B L cap Vs.new) (h2 : Tw w1) (h3 : Kd w1 (some ⟨b, 0, none⟩) 2 [Sy.num 1000000, Sy.num 0]) => show Calls Tryz.prog 11 #[.agg #[.int .i64 6, .int .i64 0, .slice (some ⟨b, 0, none⟩) 2 2], .pointer (some ⟨B, 0, none⟩)] w1 fun e w' => e = .returned (.tuple #[.int .i64 0, .int .i64 4]) ∧ Qw w1 w' by
    have := evEval Ev.good_new (Sy.bin 6 (Sy.num 1000000) (Sy.num 0)) (some ⟨b, 0, none⟩) 2 w1 h1 h2 h3
    rw [Ev.aw_1] at this
    exact this)
  have C11 := Lib.hid (fun (w1 : World) (B L cap b : Nat) (h1 : Pst w1 B L cap Vs.new) (h2 : Tw w1) (h3 : Kd w1 (some ⟨b, 0, none⟩) 2 [Sy.num 1000000, Sy.num 0]) => show Calls Tryz.prog 11 #[.agg #[.int .i64 11, .int .i64 0, .slice (some ⟨b, 0, none⟩) 2 2], .pointer (some ⟨B, 0, none⟩)] w1 fun e w' => e = .returned (.tuple #[.int .i64 90000000, .int .i64 0]) ∧ Qw w1 w' by
    have := evEval Ev.good_new (Sy.bin 11 (Sy.num 1000000) (Sy.num 0)) (some ⟨b, 0, none⟩) 2 w1 h1 h2 h3
    rw [Ev.aw_2] at this
    exact this)
  have CT := Lib.hid (fun (o : Int) (w1 : World) => show Calls Tryz.prog 13 #[.int .i64 o, .agg #[.int .i64 0, .int .i64 1000000, .slice none 0 0], .agg #[.int .i64 0, .int .i64 0, .slice none 0 0]] w1 fun e w' => ∃ b, e = .returned (.agg #[.int .i64 o, .int .i64 0, .slice (some ⟨b, 0, none⟩) 2 2]) ∧ Kd w' (some ⟨b, 0, none⟩) 2 [Sy.num 1000000, Sy.num 0] ∧ Qw w1 w' from
    evTwo o (Sy.num 1000000) (Sy.num 0) none none 0 0 w1 (kd_nil w1) (kd_nil w1))
  have q0 : Hid (Qw w w) := Lib.hid (Qw.refl w)
  clear ht
  go_enter Tryz.func5, Tryz.ntmps5
  go_wp2_with (first
    | (go_at_call 12; ((with_reducible refine (vaNew _).mono ?_); rintro e w' ⟨B, L, cap, rfl, hP, hB, hL, q⟩; have P := Lib.hid hP; clear hP hB hL; replace q0 : Hid (Qw w w') := Lib.hid (Qw.trans Qz q); clear q))
    | (go_at_call 14; ((with_reducible refine (evNum _ _).mono ?_); rintro e w' ⟨rfl, q⟩; replace P := Lib.hid (P.out.kept q); replace q0 : Hid (Qw w w') := Lib.hid (Qw.trans Qz q); clear q))
    | (go_at_call 13; ((with_reducible refine (CT.out _ _).mono ?_); rintro e w' ⟨b, rfl, hk, q⟩; replace P := Lib.hid (P.out.kept q); have K := Lib.hid hk; clear hk; replace q0 : Hid (Qw w w') := Lib.hid (Qw.trans Qz q); clear q))
    | (go_at_call 11; ((with_reducible refine (C6.out _ _ _ _ _ P.out (HT.out.kept q0.out) K.out).mono ?_); rintro e w' ⟨rfl, q⟩; replace P := Lib.hid (P.out.kept q); clear K; replace q0 : Hid (Qw w w') := Lib.hid (Qw.trans Qz q); clear q))
    | (go_at_call 11; ((with_reducible refine (C11.out _ _ _ _ _ P.out (HT.out.kept q0.out) K.out).mono ?_); rintro e w' ⟨rfl, q⟩; replace P := Lib.hid (P.out.kept q); clear K; replace q0 : Hid (Qw w w') := Lib.hid (Qw.trans Qz q); clear q))
    | (go_at_call 15; ((with_reducible refine (evTruth _ _).mono ?_); rintro e w' ⟨rfl, rfl⟩)))
  go_ret
  exact ⟨rfl, q0.out⟩
end Go.Proofs.YtciglhecjkeogaaGreatDoor
set_option linter.unusedVariables false
set_option linter.unusedSimpArgs false
namespace Go.Proofs.YtciglhecjkeogaaGreatDoor
open Go.ChangeShapes Go.WideShapes Go.ChangeAt Go.RowKit
theorem gSteps : Tryz.prog.globalNamed "cnc/cordic.steps" = some 3 := by kernel_rfl
theorem gStepsType : (Tryz.prog.globals[3]?).map (·.type) = some 126 := by kernel_rfl
theorem gStepsCells : Tryz.prog.cellsOf 126 = 26 := by kernel_rfl
theorem gIntCellsC : Tryz.prog.cellsOf 3 = 1 := by kernel_rfl
theorem tabData_steps : (Rows.laid_cnc_cordic_steps : DataW Unit) = Lib.tabData .i64 Cm.tabT := by kernel_rfl
def tabsT : List (String × DataW Unit) := ("cnc/cordic.steps", Rows.laid_cnc_cordic_steps) :: tabsS
theorem tableT {W : World} (h : laidMetH Tryz.prog tabsT W) : Tw W ∧ Tb W ∧ Tn W := by
  have h1 : laidMet Tryz.prog tabsT W := h
  unfold tabsT at h1
  rw [tabData_steps] at h1
  obtain ⟨hb, hn, ho⟩ := tableS h1.tail
  refine ⟨⟨?_, ho⟩, hb, hn⟩
  have h2 := Lib.tabIs_of_head gSteps gStepsType Tryz.underlying126 Tryz.underlying3 gIntCellsC gStepsCells h1
  have hc : ∀ i : Nat, i < 26 → W.cell? ⟨3, i, none⟩ = some (.int .i64 (Cm.T i)) := fun i hi => h2.cell gSteps i hi
  refine ⟨?_, hc⟩
  have c := hc 0 (by decide)
  rcases Nat.lt_or_ge 3 W.heap.size with h | h
  · exact h
  · simp [World.cell?, Array.getElem?_eq_none h] at c
noncomputable def laidWorldT (os : Os) : World :=
  let h0 := (World.holding Tryz.prog os ⟨#[], #[], []⟩).heap
  let put (x : DataW Unit) (o : Obj) : Obj := match o with
    | .cells _ t frozen => .cells (cellsS x) t frozen
    | o => o
  let h1 := h0.modify 7 (put Rows.laid_math_bits_deBruijn32tab)
  let h2 := h1.modify 8 (put Rows.laid_math_bits_deBruijn64tab)
  let h3 := h2.modify 6 (put Rows.laid_internal_strconv_uint64pow10)
  let h4 := h3.modify 1 (put Rows.laid_cnc_lex_names)
  let h5 := h4.modify 0 (put Rows.laid_cnc_syntax_operators)
  let h6 := h5.modify 3 (put Rows.laid_cnc_cordic_steps)
  { World.holding Tryz.prog os ⟨#[], #[], []⟩ with heap := h6 }
theorem laid_metT (os : Os) (args : Array Value) : laidMet Tryz.prog tabsT ((laidWorldT os).forCall (fun _ _ => 0) ⟨#[], args, []⟩).memory :=
  laidMet_of_run' 8 (by kernel_rfl) (by kernel_rfl)
end Go.Proofs.YtciglhecjkeogaaGreatDoor
set_option linter.unusedVariables false
set_option linter.unusedSimpArgs false
namespace Go.Proofs.YtciglhecjkeogaaGreatDoor
open Go.RowKit
theorem ta_nil (w : World) : (Instr.typeAssert Value.nilIface 20 59 true).run Tryz.prog w = .ok (.tuple #[.agg #[.int .i64 0, .int .i64 0], .bool false]) w := by kernel_rfl
theorem ta_fail (p c : Int) (w : World) : (Instr.typeAssert (.iface 59 (.agg #[.int .i64 p, .int .i64 c])) 20 59 true).run Tryz.prog w = .ok (.tuple #[.agg #[.int .i64 p, .int .i64 c], .bool true]) w := by kernel_rfl
set_option maxRecDepth 100000 in
set_option maxHeartbeats 4000000 in
theorem catch_idle (a0 a1 a2 : Addr) (w : World) :
    CallsD Tryz.prog 23 #[.pointer (some a0), .pointer (some a1), .pointer (some a2)] .returning w fun e u' w' => e = .returned (.tuple #[]) ∧ u' = .returning ∧ Qw w w' := by
  refine callsD_of_wpS Tryz.func23 rfl fun c₀ cs hu => ?_
  apply wpS_seq
  apply wpS_region
  simp [wpOpsS, go_sem, recoverD, hu, Tryz.ntmps23, Exit.thenS, ta_nil]
  refine wpS_of_wp ?_
  change Code.wp _ _ _ { tmps := #[.pointer (some a0), .pointer (some a1), .pointer (some a2), .pointer (some ⟨w.heap.size, 0, none⟩), .bool false, .tuple #[.agg #[.int .i64 0, .int .i64 0], .bool false], Value.nilIface, .tuple #[.agg #[.int .i64 0, .int .i64 0], .bool false], .agg #[.int .i64 0, .int .i64 0], .bool false, undef, undef, undef, undef, undef, undef], defers := [] } _
  go_wp2_with fail
  cases c₀
  simp_all [bodyPostS, results, Tryz.results23]
  exact (Below.refl _ _).alloc (Nat.le_refl _) _
end Go.Proofs.YtciglhecjkeogaaGreatDoor
set_option linter.unusedVariables false
set_option linter.unusedSimpArgs false
namespace Go.Proofs.YtciglhecjkeogaaGreatDoor
open Go.RowKit
set_option maxRecDepth 100000 in
set_option maxHeartbeats 4000000 in
theorem sy_cell {P : Nat} {a : Option Addr} {cap : Nat} {ts : List Lx.Tok} {len f : Nat} (A : SyAll P a cap ts len f) (i : Nat) (w : World) (h : Par w P a cap ts len i) (hf : 16 * (ts.length - i) + 2 ≤ f + 1) :
    Calls Tryz.prog 105 #[.pointer (some ⟨P, 0, none⟩)] w (PR P a cap ts len w (Sy.pC ts (f + 1) i)) := by
  obtain ⟨hP, hO⟩ := h.lt
  have hle := h.le
  have H := Lib.hid h
  clear h
  have R : Hid (Bx (w.alloc (.cells exZ 31)) w.heap.size exZ 31) := Lib.hid (Bx.new w _ _)
  rw [Sy.pC]
  by_cases hk : Sy.kd ts i = 2
  · rw [if_pos hk]
    have hi := Sy.kd_lt hk (by decide)
    have hl := H.out.hl
    have hv : tokV ts len i = .agg #[.int .i64 2, .int .i64 (Sy.tn ts i), .int .i64 (Sy.tp ts len i : Nat), .string (bs (Sy.tx ts i))] := by unfold tokV; rw [hk]
    replace hv := Lib.hid hv
    have e1 : Hid (((i + 1 : Nat) : Int) = (i : Int) + 1) := Lib.hid (by omega)
    generalize Sy.tn ts i = n at *
    clear hk
    have q0 : Hid (Px P w w) := Lib.hid (Px.refl P w)
    go_enter Tryz.func105, Tryz.ntmps105
    go_wp2_with (go_at_call 64; ((with_reducible refine (syNext (H.out.kept Qz)).mono ?_); rintro e w' ⟨rfl, q⟩; rw [hv.out]; replace R : Hid (Bx w' w.heap.size exZ 31) := Lib.hid (Bx.kept Rz q); have rl := R.out.lt; have r0 := R.out.cell' 0 _ rfl; have r1 := R.out.cell' 1 _ rfl; have r2 := R.out.cell' 2 _ rfl; have s0 := R.out.free 0; have s1 := R.out.free 1; have s2 := R.out.free 2; replace H := Lib.hid (Par.kept H.out (Qw.trans Qz q)); have p1 : w'.cell? ⟨P, 1, none⟩ = some (.int .i64 (i : Int)) := H.out.bx.cell' 1 _ rfl; have p2 := H.out.bx.free 1; have pl := H.out.bx.lt; replace q0 : Hid (Px P w w') := Lib.hid (Px.trans Pz (Px.of q)); clear q))
    have h1 := H.out.set (i + 1) hi
    rw [e1.out] at h1
    exact exRet (x := Sy.num n) Tryz.results105 rfl rfl (exAl _ (exEnd (x := Sy.num n) hP hO rfl rfl rfl (R.out.other (by show w.heap.size ≠ P; omega) _) (KidsB.nl none 0 (by decide)) h1 (q0.out.setP 1 _)))
  · rw [if_neg hk]
    have hv : Hid (tokV ts len i = .agg #[.int .i64 (Sy.kd ts i), .int .i64 (Sy.tn ts i), .int .i64 (Sy.tp ts len i : Nat), .string (bs (Sy.tx ts i))]) := Lib.hid rfl
    have hb : (Sy.kd ts i == 2) = false := by simpa using hk
    clear hk
    by_cases hx : Sy.tx ts i = [35]
    · rw [if_pos hx]
      have hi := Sy.tx_lt hx (by decide)
      have x1 : Hid ((⟨#[35]⟩ : ByteArray) = bs (Sy.tx ts i)) := Lib.hid (by rw [hx]; rfl)
      have x2 : Hid (Sy.tx ts i ≠ []) := Lib.hid (by rw [hx]; decide)
      have c1 : ∀ w, Par w P a cap ts len (i + 1) → Calls Tryz.prog 105 #[.pointer (some ⟨P, 0, none⟩)] w (PR P a cap ts len w (Sy.pC ts f (i + 1))) := fun w h => A.c (i + 1) w h (by omega)
      clear hx
      cases e1 : Sy.pC ts f (i + 1) with
      | bad j =>
        rw [e1] at c1
        have C1 := Lib.hid c1
        clear c1 e1
        have q0 : Hid (Px P w w) := Lib.hid (Px.refl P w)
        go_enter Tryz.func105, Tryz.ntmps105
        go_wp2_with (first | (go_at_call 64; ((with_reducible refine (syNext (H.out.kept Qz)).mono ?_); rintro e w' ⟨rfl, q⟩; rw [hv.out]; replace R : Hid (Bx w' w.heap.size exZ 31) := Lib.hid (Bx.kept Rz q); replace H := Lib.hid (Par.kept H.out (Qw.trans Qz q)); replace q0 : Hid (Px P w w') := Lib.hid (Px.trans Pz (Px.of q)); clear q)) | (go_at_call 40; ((with_reducible refine (syAcceptY (H.out.kept Qz) _ x1.out x2.out).mono ?_); rintro e w' ⟨rfl, hp, q⟩; have pw := (Par.lt hp).1; skip; replace H := Lib.hid hp; clear hp; replace q0 : Hid (Px P w w') := Lib.hid (Px.trans Pz q); clear q)) | (go_at_call 105; ((with_reducible refine (C1.out _ (H.out.kept Qz)).mono ?_); rintro e w' ⟨rfl, q⟩; replace q0 : Hid (Px P w w') := Lib.hid (Px.trans Pz q); clear q)))
        exact ⟨rfl, rfl, q0.out⟩
      | ok x j =>
        rw [e1] at c1
        have C1 := Lib.hid c1
        clear c1 e1
        have q0 : Hid (Px P w w) := Lib.hid (Px.refl P w)
        go_enter Tryz.func105, Tryz.ntmps105
        go_wp2_with (first | (go_at_call 64; ((with_reducible refine (syNext (H.out.kept Qz)).mono ?_); rintro e w' ⟨rfl, q⟩; rw [hv.out]; replace R : Hid (Bx w' w.heap.size exZ 31) := Lib.hid (Bx.kept Rz q); replace H := Lib.hid (Par.kept H.out (Qw.trans Qz q)); replace q0 : Hid (Px P w w') := Lib.hid (Px.trans Pz (Px.of q)); clear q)) | (go_at_call 40; ((with_reducible refine (syAcceptY (H.out.kept Qz) _ x1.out x2.out).mono ?_); rintro e w' ⟨rfl, hp, q⟩; have pw := (Par.lt hp).1; replace R : Hid (Bx w' w.heap.size exZ 31) := Lib.hid (Bx.px Rz q (by omega)); replace H := Lib.hid hp; clear hp; replace q0 : Hid (Px P w w') := Lib.hid (Px.trans Pz q); clear q)) | (go_at_call 105; ((with_reducible refine (C1.out _ (H.out.kept Qz)).mono ?_); rintro e w' ⟨ka, kc, rfl, k, hp, q⟩; have pw := (Par.lt hp).1; have K : Hid (KidsB w' (fun b => w.heap.size < b) ka kc (Sy.Ex.ks x)) := Lib.hid (KidsB.mono k (fun b hb => Nat.lt_of_lt_of_le (Bx.lt Rz) hb)); clear k; replace R : Hid (Bx w' w.heap.size exZ 31) := Lib.hid (Bx.px Rz q (by omega)); replace H := Lib.hid hp; clear hp; replace q0 : Hid (Px P w w') := Lib.hid (Px.trans Pz q); clear q)) | (go_at_call 124; ((with_reducible refine (syNode _ _ _ _ _).mono ?_); rintro e w' ⟨rfl, q⟩; have G := Bx.kept (Bx.new _ _ _) q; have K2 : Hid (KidsB w' (fun b => w.heap.size < b) _ 1 [x]) := Lib.hid (KidsB.one G (Bx.lt Rz) (KidsB.kept (by repeat (first | exact K.out | refine KidsB.alloc ?_ _ | refine KidsB.drew ?_)) q)); clear G; replace R : Hid (Bx w' w.heap.size exZ 31) := Lib.hid (Bx.kept Rz q); have rl := R.out.lt; have r0 := R.out.cell' 0 _ rfl; have r1 := R.out.cell' 1 _ rfl; have r2 := R.out.cell' 2 _ rfl; have s0 := R.out.free 0; have s1 := R.out.free 1; have s2 := R.out.free 2; replace H := Lib.hid (Par.kept H.out (Qw.trans Qz q)); replace q0 : Hid (Px P w w') := Lib.hid (Px.trans Pz (Px.of q)); clear q)))
        exact exRet (x := Sy.un 1 x) Tryz.results105 rfl rfl (exEnd (x := Sy.un 1 x) hP hO rfl rfl rfl R.out K2.out H.out q0.out)
    · rw [if_neg hx]
      have x1 : Hid ((⟨#[35]⟩ : ByteArray) ≠ bs (Sy.tx ts i)) := Lib.hid (fun h => hx (bs_inj.1 (show bs [35] = _ from h)).symm)
      have c1 : ∀ w, Par w P a cap ts len i → Calls Tryz.prog 107 #[.pointer (some ⟨P, 0, none⟩)] w (PR P a cap ts len w (Sy.pB ts f i)) := fun w h => A.b i w h (by omega)
      clear hx
      cases e1 : Sy.pB ts f i with
      | bad j =>
        rw [e1] at c1
        have C1 := Lib.hid c1
        clear c1 e1
        have q0 : Hid (Px P w w) := Lib.hid (Px.refl P w)
        go_enter Tryz.func105, Tryz.ntmps105
        go_wp2_with (first | (go_at_call 64; ((with_reducible refine (syNext (H.out.kept Qz)).mono ?_); rintro e w' ⟨rfl, q⟩; rw [hv.out]; replace R : Hid (Bx w' w.heap.size exZ 31) := Lib.hid (Bx.kept Rz q); replace H := Lib.hid (Par.kept H.out (Qw.trans Qz q)); replace q0 : Hid (Px P w w') := Lib.hid (Px.trans Pz (Px.of q)); clear q)) | (go_at_call 40; ((with_reducible refine (syAcceptN (H.out.kept Qz) _ x1.out).mono ?_); rintro e w' ⟨rfl, q⟩; skip; replace H := Lib.hid (Par.kept H.out (Qw.trans Qz q)); replace q0 : Hid (Px P w w') := Lib.hid (Px.trans Pz (Px.of q)); clear q)) | (go_at_call 107; ((with_reducible refine (C1.out _ (H.out.kept Qz)).mono ?_); rintro e w' ⟨rfl, q⟩; replace q0 : Hid (Px P w w') := Lib.hid (Px.trans Pz q); clear q)))
        exact ⟨rfl, rfl, q0.out⟩
      | ok x j =>
        rw [e1] at c1
        have C1 := Lib.hid c1
        clear c1 e1
        have q0 : Hid (Px P w w) := Lib.hid (Px.refl P w)
        go_enter Tryz.func105, Tryz.ntmps105
        go_wp2_with (first | (go_at_call 64; ((with_reducible refine (syNext (H.out.kept Qz)).mono ?_); rintro e w' ⟨rfl, q⟩; rw [hv.out]; replace R : Hid (Bx w' w.heap.size exZ 31) := Lib.hid (Bx.kept Rz q); replace H := Lib.hid (Par.kept H.out (Qw.trans Qz q)); replace q0 : Hid (Px P w w') := Lib.hid (Px.trans Pz (Px.of q)); clear q)) | (go_at_call 40; ((with_reducible refine (syAcceptN (H.out.kept Qz) _ x1.out).mono ?_); rintro e w' ⟨rfl, q⟩; replace R : Hid (Bx w' w.heap.size exZ 31) := Lib.hid (Bx.kept Rz q); replace H := Lib.hid (Par.kept H.out (Qw.trans Qz q)); replace q0 : Hid (Px P w w') := Lib.hid (Px.trans Pz (Px.of q)); clear q)) | (go_at_call 107; ((with_reducible refine (C1.out _ (H.out.kept Qz)).mono ?_); rintro e w' ⟨ka, kc, rfl, k, hp, q⟩; have pw := (Par.lt hp).1; have K : Hid (KidsB w' (fun b => w.heap.size < b) ka kc (Sy.Ex.ks x)) := Lib.hid (KidsB.mono k (fun b hb => Nat.lt_of_lt_of_le (Bx.lt Rz) hb)); clear k; replace R : Hid (Bx w' w.heap.size exZ 31) := Lib.hid (Bx.px Rz q (by omega)); have rl := R.out.lt; have r0 := R.out.cell' 0 _ rfl; have r1 := R.out.cell' 1 _ rfl; have r2 := R.out.cell' 2 _ rfl; have s0 := R.out.free 0; have s1 := R.out.free 1; have s2 := R.out.free 2; replace H := Lib.hid hp; clear hp; replace q0 : Hid (Px P w w') := Lib.hid (Px.trans Pz q); clear q)))
        exact exRet (x := x) Tryz.results105 rfl rfl (exEnd (x := x) hP hO rfl rfl rfl R.out K.out H.out q0.out)
end Go.Proofs.YtciglhecjkeogaaGreatDoor

