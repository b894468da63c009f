
/- The sanity check of the laws of layer 11. -/
import Derived.Test.YtijakijjeoaikaaMdF
set_option linter.unusedVariables false
set_option linter.unusedSimpArgs false
namespace Go.Proofs.Ytijakijjeoaikaa
open Go.RowKit

section
variable {ops : Array Oper} {rest : List Oper} {dst : Option Tmp} {ty : TypeId} {pos : String} {after : Array Edge} {a : Act} {w : World} {Q : Exit → Act → World → Prop}
set_option maxRecDepth 100000 in
theorem bu_start (h : wpList Try.prog ops Q rest (a.put dst (.agg (mdc Md.S.start))) w) :
    wpList Try.prog ops Q (⟨dst, .build MT #[(0, .const (.int .i64 80)), (1, .const (.int .i64 17)), (2, .const (.int .i64 90)), (3, .const (.int .i64 21)), (4, .const (.int .i64 94)), (5, .const (.int .i64 40)), (6, .const (.int .i64 49)), (7, .const (.int .i64 98)), (8, .const (.int .i64 54)), (9, .const (.int .i64 61)), (10, .const (.int .i64 15)), (11, .const (.int .i64 69)), (12, .const (.int .i64 5))], ty, pos, after, none⟩ :: rest) a w := by
  have e : Try.prog.built MT ((#[(0, .const (.int .i64 80)), (1, .const (.int .i64 17)), (2, .const (.int .i64 90)), (3, .const (.int .i64 21)), (4, .const (.int .i64 94)), (5, .const (.int .i64 40)), (6, .const (.int .i64 49)), (7, .const (.int .i64 98)), (8, .const (.int .i64 54)), (9, .const (.int .i64 61)), (10, .const (.int .i64 15)), (11, .const (.int .i64 69)), (12, .const (.int .i64 5))] : Array (Nat × Operand)).map fun (i, x) => (i, a.eval x)).toList = some (mdc Md.S.start) := built_start _ (by simp [Act.eval])
  refine wpList_build rfl MT _ rfl (by rw [e]; rfl) ?_
  rw [e]
  exact h
theorem st_to (x y : Tmp) {P : Nat} {t : Md.S} {old : Md.S} (hx : a.eval (.tmp x) = .pointer (some ⟨P, 0, none⟩)) (hy : a.eval (.tmp y) = .agg (mdc t)) (X : Bx w P (mdc old) MT)
    (h : ∀ w', Bx w' P (mdc t) MT → (∀ w0, Qw w0 w → w0.heap.size ≤ P → Qw w0 w') → wpList Try.prog ops Q rest (a.put dst undef) w') : wpList Try.prog ops Q (⟨dst, .store MT (.tmp x) (.tmp y), ty, pos, after, none⟩ :: rest) a w :=
  st_md x y hx hy X (h _ X.srS (fun w0 q hp => q.sr' hp _))
end
set_option maxRecDepth 100000 in
theorem mdStart (w : World) : Calls Try.prog 25 #[] w fun e w' => e = .returned (.agg (mdc Md.S.start)) ∧ Qw w w' := by
  go_enter Try.func25, Try.ntmps25
  go_wp2_with (first | (refine al_md ?_; intro w1 P hp X q; have X1 := Lib.hid X; have Q1 := Lib.hid q; clear X q) | (refine bu_start ?_) | (refine st_md 0 1 rfl rfl X1.out ?_))
  exact bodyPost_ret (ret_m1 0 Try.results25 rfl X1.out.srS) rfl ⟨rfl, Q1.out.sr' hp _⟩
set_option maxRecDepth 100000 in
theorem mrStart (w : World) : Calls Try.prog 26 #[] w fun e w' => e = .returned (.agg (mdc Md.S.start)) ∧ Qw w w' := by
  go_enter Try.func26, Try.ntmps26
  go_wp2_with (first | (refine al_md ?_; intro w1 P hp X q; have X1 := Lib.hid X; have Q1 := Lib.hid q; clear X q) | (refine bu_start ?_) | (refine st_md 0 1 rfl rfl X1.out ?_))
  exact bodyPost_ret (ret_m1 0 Try.results26 rfl X1.out.srS) rfl ⟨rfl, Q1.out.sr' hp _⟩
theorem vals_two (w : World) (a b c d : Int) (t : TypeId) (b1 : -9223372036854775808 ≤ b) (b2 : b ≤ 9223372036854775807) (d1 : -9223372036854775808 ≤ d) (d2 : d ≤ 9223372036854775807) :
    ValsB (w.alloc (.cells #[.int .i64 a, .int .i64 b, .int .i64 c, .int .i64 d] t)).heap.size (w.alloc (.cells #[.int .i64 a, .int .i64 b, .int .i64 c, .int .i64 d] t)) (.slice (some ⟨w.heap.size, 0, none⟩) 2 2) [(a, b), (c, d)] := by
  have X := Bx.new w #[.int .i64 a, .int .i64 b, .int .i64 c, .int .i64 d] t
  refine ⟨some ⟨w.heap.size, 0, none⟩, 2, rfl, by simp, by decide, .inr ⟨w.heap.size, 0, rfl, by simp, fun i hi => ?_⟩⟩
  match i, hi with
  | 0, _ => exact ⟨X.cell' 0 _ rfl, X.cell' 1 _ rfl, b1, b2⟩
  | 1, _ => exact ⟨X.cell' 2 _ rfl, X.cell' 3 _ rfl, d1, d2⟩
theorem vals_one' (w : World) (a b : Int) (t : TypeId) (b1 : -9223372036854775808 ≤ b) (b2 : b ≤ 9223372036854775807) :
    ValsB (w.alloc (.cells #[.int .i64 a, .int .i64 b] t)).heap.size (w.alloc (.cells #[.int .i64 a, .int .i64 b] t)) (.slice (some ⟨w.heap.size, 0, none⟩) 1 1) [(a, b)] := by
  have X := Bx.new w #[.int .i64 a, .int .i64 b] t
  refine ⟨some ⟨w.heap.size, 0, none⟩, 1, rfl, by simp, by decide, .inr ⟨w.heap.size, 0, rfl, by simp, fun i hi => ?_⟩⟩
  match i, hi with
  | 0, _ => exact ⟨X.cell' 0 _ rfl, X.cell' 1 _ rfl, b1, b2⟩
theorem aw_1 : Md.aps Md.S.start [(70, 100000000), (71, 20000000)] = { Md.S.start with un := 20, fd := 2540000 } ∧ Md.ape Md.S.start [(70, 100000000), (71, 20000000)] = 0 := by decide +kernel
theorem aw_2 : Md.chk [(71, 1000000), (71, 2000000)] = 8 := by decide +kernel
theorem aw_3 : Md.grp 71 2 = 1 := by decide +kernel
set_option maxRecDepth 100000 in
set_option maxHeartbeats 4000000 in
theorem awakeM (w : World) : Calls Try.prog 15 #[] w fun e w' => e = .returned (.bool true) ∧ Qw w w' := by
  have ca : ∀ w : World, Calls Try.prog 33 #[.agg (mdc Md.S.start), .slice (some ⟨w.heap.size, 0, none⟩) 2 2] (w.alloc (.cells #[.int .i64 70, .int .i64 100000000, .int .i64 71, .int .i64 20000000] 50)) fun e w' => e = .returned (.tuple #[.agg (mdc { Md.S.start with un := 20, fd := 2540000 }), .int .i64 0]) ∧ Qw (w.alloc (.cells #[.int .i64 70, .int .i64 100000000, .int .i64 71, .int .i64 20000000] 50)) w' := fun w => by
    have := mdApply Md.S.start (vals_two w 70 100000000 71 20000000 50 (by decide) (by decide) (by decide) (by decide)) (Nat.le_refl _)
    rw [aw_1.1, aw_1.2] at this
    exact this
  have cc : ∀ w : World, Calls Try.prog 27 #[.slice (some ⟨w.heap.size, 0, none⟩) 2 2] (w.alloc (.cells #[.int .i64 71, .int .i64 1000000, .int .i64 71, .int .i64 2000000] 50)) fun e w' => e = .returned (.int .i64 8) ∧ Qw (w.alloc (.cells #[.int .i64 71, .int .i64 1000000, .int .i64 71, .int .i64 2000000] 50)) w' := fun w => by
    have := mdCheck (vals_two w 71 1000000 71 2000000 50 (by decide) (by decide) (by decide) (by decide)) (Nat.le_refl _)
    rw [aw_2] at this
    exact this
  have cg := mdGroup 71 2
  rw [aw_3] at cg
  have CA := Lib.hid ca
  have CC := Lib.hid cc
  have CG := Lib.hid cg
  clear ca cc cg
  have q0 : Hid (Qw w w) := Lib.hid (Qw.refl w)
  go_enter Try.func15, Try.ntmps15
  go_wp2_with (first | (go_at_call 25; ((with_reducible refine (mdStart _).mono ?_); rintro e w1 ⟨rfl, q⟩; have Q1 := Lib.hid q; clear q)) | (go_at_call 33; ((with_reducible refine (CA.out _).mono ?_); rintro e w2 ⟨rfl, q⟩; have Q2 := Lib.hid (Qw.trans (Qw.al Q1.out _) q); clear q)) | (refine al_md ?_; intro w3 P hp X q; have X3 := Lib.hid X; have Q3 := Lib.hid (Qw.trans Q2.out q); have hP3 : w.heap.size ≤ P := Nat.le_trans Q2.out.size hp; clear X q) | (refine st_to 1 9 rfl rfl X3.out ?_; intro w4 X q; have Q4 := Lib.hid (q _ Q3.out hP3); have c16 := X.cell' 16 (.int .i64 2540000) rfl; have c3 := X.cell' 3 (.int .i64 20) rfl; clear X q) | (go_at_call 19; ((with_reducible refine (CG.out _).mono ?_); rintro e w' ⟨rfl, rfl⟩)) | (go_at_call 27; ((with_reducible refine (CC.out _).mono ?_); rintro e w5 ⟨rfl, q⟩; have Q5 := Lib.hid (Qw.trans (Qw.al Q4.out _) q); clear q)))
  go_ret
  exact ⟨rfl, Q5.out⟩
end Go.Proofs.Ytijakijjeoaikaa
