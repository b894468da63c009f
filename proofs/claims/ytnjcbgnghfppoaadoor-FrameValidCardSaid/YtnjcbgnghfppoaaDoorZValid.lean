import Derived.Test.YtnjcbgnghfppoaaDoorGSc
import Derived.Test.YtnjcbgnghfppoaaDoorGS
import Derived.Test.YtnjcbgnghfppoaaDoorGFa
import Derived.Test.YtnjcbgnghfppoaaDoorGSf
import Derived.Test.YtnjcbgnghfppoaaDoorGFc
import Derived.Test.YtnjcbgnghfppoaaDoorGFb
import Derived.Test.YtnjcbgnghfppoaaDoorGO
import Derived.Test.YtnjcbgnghfppoaaDoorGR
import Derived.Test.YtnjcbgnghfppoaaDoorGF

/- FrameValid: frames are valid as the specification says, and their origin is its origin.
   Conditions: the listed table lies as the program's own text lays it (the card ties it); every input. -/
set_option linter.unusedVariables false
set_option linter.unusedSimpArgs false
namespace Go.Proofs.YtnjcbgnghfppoaaDoor
open Go.ChangeShapes Go.WideShapes Go.ChangeAt Go.RowKit

section
variable {ops : Array Oper} {rest : List Oper} {dst : Option Tmp} {ty : TypeId} {pos : String} {after : Array Edge} {a : Act} {Q : Act → Prop} {C : World → Prop} {P : Nat} {f : Fm.F} {gd : Option (Nat × Bool)}
theorem q_ldf (x : Tmp) (hw : Region.wanted ⟨dst, .load FT (.tmp x), ty, pos, after, gd⟩ (yielded ops a.tmps) = true) (hx : a.eval (.tmp x) = .pointer (some ⟨P, 0, none⟩)) (X : ∀ w, C w → Bx w P (frc f) FT) (h : wpQuiet Tryd.prog ops C Q rest (a.put dst (.agg (frc f)))) :
    wpQuiet Tryd.prog ops C Q (⟨dst, .load FT (.tmp x), ty, pos, after, gd⟩ :: rest) a := by
  refine wpQuiet_step fun K hK => ?_
  rw [if_pos hw]
  refine ⟨_, fun w hC => ?_, hK _ h⟩
  unfold Oper.quietAt execOp
  simp only [hx, Sem.run_bind, run_load_fr w P f (X w hC), Result.andThen_ok, Sem.run_pure]
  exact ⟨rfl, rfl⟩
end
set_option maxRecDepth 100000 in
set_option maxHeartbeats 8000000 in
theorem walk_frameValid (raw : Fm.F) (v1 : Value) (z1 : List Int) (n : Int) (n1 : -9223372036854775808 ≤ n) (n2 : n ≤ 9223372036854775807) (b : Int) (b1 : -9223372036854775808 ≤ b) (b2 : b ≤ 9223372036854775807) (w : World) (hr : Fm.Wf raw) (h1 : IntsB w.heap.size w v1 z1) (T : Tc w) : Calls Tryd.prog 3 #[.agg (frc raw), v1, .int .i64 n, .int .i64 b] w fun e w' => e = .returned (.bool true) ∧ Below w.heap.size w w' := by
  have AW := Lib.hid (fun (w' : World) (q : Qw w w') => awake12 w' (T.kept q))
  cases k1 : decide (z1.length ≤ 120)
  · have L1 := Lib.hid (fun (w' : World) (q : Qw w w') => lightN h1 q k1)
    clear k1 h1 T hr
    go_enter Tryd.func3, Tryd.ntmps3
    go_wp2_with (first | (refine box_fr 0 rfl ?_; intro w0 A hA X q; have X0 := Lib.hid X; have Q0 := Lib.hid q; clear X q) | (go_at_call 11; ((with_reducible refine (L1.out _ Q0.out).mono ?_); rintro e w' ⟨rfl, rfl⟩)) | (go_at_call 12; ((with_reducible refine (AW.out _ Q0.out).mono ?_); rintro e w9 ⟨rfl, q⟩; have Q9 := Lib.hid q; clear q)))
    go_ret
    exact ⟨rfl, Qw.trans Q0.out Q9.out⟩
  have L1 := Lib.hid (fun (w' : World) (q : Qw w w') => lightN h1 q k1)
  have H1 := Lib.hid h1
  have MN := Lib.hid (fun w => modW n 8 n1 n2 (by decide) (by decide) w)
  have MB := Lib.hid (fun w => modW b 6 b1 b2 (by decide) (by decide) w)
  have mn : 0 ≤ n % 8 ∧ n % 8 < 8 := by omega
  have mb : 0 ≤ b % 6 ∧ b % 6 < 6 := by omega
  generalize n % 8 = r at *
  generalize b % 6 = t at *
  have HR := Lib.hid hr
  clear k1 h1 T n1 n2 hr
  go_enter Tryd.func3, Tryd.ntmps3
  go_upto_region 3 with (first | (refine box_fr 0 rfl ?_; intro w0 A hA X q; have X0 := Lib.hid X; have Q0 := Lib.hid q; clear X q) | (go_at_call 11; ((with_reducible refine (L1.out _ Q0.out).mono ?_); rintro e w' ⟨rfl, rfl⟩)))
  go_upto_region 4 with (first | (go_at_call 14; ((with_reducible refine (newN H1.out Q0.out).mono ?_); rintro e w1 ⟨rfl, t1, q⟩; have T1 := Lib.hid t1; have Q1 := Lib.hid q; clear t1 q)) | (go_at_call 13; ((with_reducible refine (frameN T1.out Q1.out (Nat.le_refl _)).mono ?_); rintro e w2 ⟨⟨f, rfl, hg⟩, q⟩; have G2 := Lib.hid hg; have Q2 := Lib.hid q; clear hg q)) | (refine al_fr ?_; intro w3 P hp X q; have X3 := Lib.hid X; have Q3 := Lib.hid q; clear X q) | (refine st_fr2 9 17 rfl rfl X3.out ?_))
  refine code_of (fun w' => Bx w' P (frc f) FT ∧ Qw w0 w') ⟨X3.out.srS, (Qw.trans Q2.out Q3.out).sr' (Nat.le_trans Q2.out.size hp) _⟩ ?_
  have hP : w0.heap.size ≤ P := Nat.le_trans Q2.out.size hp
  clear H1 L1 T1 Q1 Q2 X3 Q3 hp
  rintro w4 ⟨F, q⟩
  have F4 := Lib.hid F
  have Q4 := Lib.hid q
  clear F q
  go_upto_region 5 with (first | (refine ld_fr 9 rfl F4.out ?_) | (refine al_fr ?_; intro w5 P5 hp X q; have X5 := Lib.hid X; have Q5 := Lib.hid q; clear X q) | (refine st_fr2 10 18 rfl rfl X5.out ?_))
  refine code_of (fun w' => Bx w' P5 (frc f) FT ∧ Qw w4 w') ⟨X5.out.srS, Q5.out.sr' hp _⟩ ?_
  clear X5 Q5
  rintro w6 ⟨G, q⟩
  have G6 := Lib.hid G
  have F6 := Lib.hid (F4.out.kept q)
  have A6 := Lib.hid (X0.out.kept (Qw.trans Q4.out q))
  have Q6 := Lib.hid (Qw.trans Q0.out (Qw.trans Q4.out q))
  have nPA : A ≠ P5 := by have := (X0.out.kept Q4.out).lt; omega
  have nPF : P ≠ P5 := by have := F4.out.lt; omega
  have hP5 : w.heap.size ≤ P5 := by have := Q0.out.size; have := Q4.out.size; omega
  have W6 := Lib.hid G2.out.wf
  clear G q F4 Q4 X0 Q0 hA hP hp
  have hr8 : r = 0 ∨ r = 1 ∨ r = 2 ∨ r = 3 ∨ r = 4 ∨ r = 5 ∨ r = 6 ∨ r = 7 := by omega
  have ht6 : t = 0 ∨ t = 1 ∨ t = 2 ∨ t = 3 ∨ t = 4 ∨ t = 5 := by omega
  clear mn mb
  rcases hr8 with rfl | rfl | rfl | rfl | rfl | rfl | rfl | rfl
  · have c0 := G6.out.cell' 18 (.int .i64 f.n) rfl
    have f0 := G6.out.free 18
    go_upto_region 21 with (first | (go_at_call 15; ((with_reducible refine (MN.out _).mono ?_); rintro e w' ⟨rfl, rfl⟩)) | (go_at_call 15; ((with_reducible refine (MB.out _).mono ?_); rintro e w' ⟨rfl, rfl⟩)))
    have WG : Hid (Fm.Wf { f with n := b }) := Lib.hid ⟨W6.out.c, ⟨b1, b2⟩, W6.out.lx, W6.out.ly, W6.out.lz, W6.out.sx, W6.out.sy, W6.out.sz, W6.out.g, W6.out.p, W6.out.ex, W6.out.ey, W6.out.ez, W6.out.a⟩
    refine code_of (fun w' => Bx w' P5 (frc { f with n := b }) FT ∧ Bx w' P (frc f) FT ∧ Bx w' A (frc raw) FT ∧ Qw w w') ⟨G6.out.set 18 _, F6.out.other nPF _, A6.out.other nPA _, Q6.out.setCell hP5 _⟩ ?_
    clear c0 f0 G6 F6 A6 Q6 W6 MN MB nPA nPF hP5
    generalize { f with n := b } = g at *
    rintro w7 ⟨G, F, X, Q7⟩
    have V1 := Lib.hid (fun w' => fmValid raw HR.out w')
    have V2 := Lib.hid (fun w' => rfValid raw HR.out w')
    have V3 : Hid (∀ w' : World, Calls Tryd.prog 16 #[.agg (frc f)] w' fun e w'' => e = .returned (.bool true) ∧ Qw w' w'') := Lib.hid (fun w' => by have := fmValid f G2.out.wf w'; rwa [G2.out.vld] at this)
    have V4 := Lib.hid (fun w' => fmValid g WG.out w')
    have V5 := Lib.hid (fun w' => rfValid g WG.out w')
    have O1 := Lib.hid (fun w' => fmOrigin f G2.out w')
    have O2 := Lib.hid (fun w' => rfOrigin f G2.out w')
    have AK : ∀ p : Kept w7, Calls Tryd.prog 12 #[] p.v fun e w'' => e = .returned (.bool true) ∧ Qw p.v w'' := fun p => AW.out _ (Qw.trans Q7 p.h)
    have AK2 := Lib.hid AK
    clear AK
    have HG := Lib.hid G
    have HF := Lib.hid F
    have HX := Lib.hid X
    have HQ := Lib.hid Q7
    clear G F X Q7
    generalize Fm.vldF raw = vr at *
    generalize Fm.vldF g = vg at *
    generalize Fm.ox f = o0 at *
    generalize Fm.oy f = o1 at *
    generalize Fm.oz f = o2 at *
    refine region_kept (by kernel_rfl) (by kernel_rfl) ?_
    repeat (first | (refine q_ldf 4 rfl rfl (fun w' h => h.elim fun p e => e ▸ HX.out.kept p.h) ?_; simp only [List.getElem_toArray, List.getElem_cons_succ, List.getElem_cons_zero, Act.put, List.setIfInBounds_toArray, List.set_cons_zero, List.set_cons_succ]) | (refine q_ldf 9 rfl rfl (fun w' h => h.elim fun p e => e ▸ HF.out.kept p.h) ?_; simp only [List.getElem_toArray, List.getElem_cons_succ, List.getElem_cons_zero, Act.put, List.setIfInBounds_toArray, List.set_cons_zero, List.set_cons_succ]) | (refine q_ldf 10 rfl rfl (fun w' h => h.elim fun p e => e ▸ HG.out.kept p.h) ?_; simp only [List.getElem_toArray, List.getElem_cons_succ, List.getElem_cons_zero, Act.put, List.setIfInBounds_toArray, List.set_cons_zero, List.set_cons_succ]) | (go_big_quiet_step (first | (go_at_call 12; with_reducible exact Kept.call (AK2.out _)) | (go_at_call 16; first | with_reducible exact Kept.call (V1.out _) | with_reducible exact Kept.call (V3.out _) | with_reducible exact Kept.call (V4.out _)) | (go_at_call 17; first | with_reducible exact Kept.call (V2.out _) | with_reducible exact Kept.call (V5.out _)) | (go_at_call 18; with_reducible exact Kept.call (O1.out _)) | (go_at_call 19; with_reducible exact Kept.call (O2.out _)))))
    refine wpQuiet_nil ?_
    intro w8 q8
    have HQ8 := Lib.hid (Qw.trans HQ.out q8)
    clear q8
    go_wp2
    go_ret
    exact ⟨rfl, HQ8.out⟩
  · have c0 := G6.out.cell' 25 (.int .i64 f.g) rfl
    have f0 := G6.out.free 25
    go_upto_region 21 with (first | (go_at_call 15; ((with_reducible refine (MN.out _).mono ?_); rintro e w' ⟨rfl, rfl⟩)) | (go_at_call 15; ((with_reducible refine (MB.out _).mono ?_); rintro e w' ⟨rfl, rfl⟩)))
    have WG : Hid (Fm.Wf { f with g := b }) := Lib.hid ⟨W6.out.c, W6.out.n, W6.out.lx, W6.out.ly, W6.out.lz, W6.out.sx, W6.out.sy, W6.out.sz, ⟨b1, b2⟩, W6.out.p, W6.out.ex, W6.out.ey, W6.out.ez, W6.out.a⟩
    refine code_of (fun w' => Bx w' P5 (frc { f with g := b }) FT ∧ Bx w' P (frc f) FT ∧ Bx w' A (frc raw) FT ∧ Qw w w') ⟨G6.out.set 25 _, F6.out.other nPF _, A6.out.other nPA _, Q6.out.setCell hP5 _⟩ ?_
    clear c0 f0 G6 F6 A6 Q6 W6 MN MB nPA nPF hP5
    generalize { f with g := b } = g at *
    rintro w7 ⟨G, F, X, Q7⟩
    have V1 := Lib.hid (fun w' => fmValid raw HR.out w')
    have V2 := Lib.hid (fun w' => rfValid raw HR.out w')
    have V3 : Hid (∀ w' : World, Calls Tryd.prog 16 #[.agg (frc f)] w' fun e w'' => e = .returned (.bool true) ∧ Qw w' w'') := Lib.hid (fun w' => by have := fmValid f G2.out.wf w'; rwa [G2.out.vld] at this)
    have V4 := Lib.hid (fun w' => fmValid g WG.out w')
    have V5 := Lib.hid (fun w' => rfValid g WG.out w')
    have O1 := Lib.hid (fun w' => fmOrigin f G2.out w')
    have O2 := Lib.hid (fun w' => rfOrigin f G2.out w')
    have AK : ∀ p : Kept w7, Calls Tryd.prog 12 #[] p.v fun e w'' => e = .returned (.bool true) ∧ Qw p.v w'' := fun p => AW.out _ (Qw.trans Q7 p.h)
    have AK2 := Lib.hid AK
    clear AK
    have HG := Lib.hid G
    have HF := Lib.hid F
    have HX := Lib.hid X
    have HQ := Lib.hid Q7
    clear G F X Q7
    generalize Fm.vldF raw = vr at *
    generalize Fm.vldF g = vg at *
    generalize Fm.ox f = o0 at *
    generalize Fm.oy f = o1 at *
    generalize Fm.oz f = o2 at *
    refine region_kept (by kernel_rfl) (by kernel_rfl) ?_
    repeat (first | (refine q_ldf 4 rfl rfl (fun w' h => h.elim fun p e => e ▸ HX.out.kept p.h) ?_; simp only [List.getElem_toArray, List.getElem_cons_succ, List.getElem_cons_zero, Act.put, List.setIfInBounds_toArray, List.set_cons_zero, List.set_cons_succ]) | (refine q_ldf 9 rfl rfl (fun w' h => h.elim fun p e => e ▸ HF.out.kept p.h) ?_; simp only [List.getElem_toArray, List.getElem_cons_succ, List.getElem_cons_zero, Act.put, List.setIfInBounds_toArray, List.set_cons_zero, List.set_cons_succ]) | (refine q_ldf 10 rfl rfl (fun w' h => h.elim fun p e => e ▸ HG.out.kept p.h) ?_; simp only [List.getElem_toArray, List.getElem_cons_succ, List.getElem_cons_zero, Act.put, List.setIfInBounds_toArray, List.set_cons_zero, List.set_cons_succ]) | (go_big_quiet_step (first | (go_at_call 12; with_reducible exact Kept.call (AK2.out _)) | (go_at_call 16; first | with_reducible exact Kept.call (V1.out _) | with_reducible exact Kept.call (V3.out _) | with_reducible exact Kept.call (V4.out _)) | (go_at_call 17; first | with_reducible exact Kept.call (V2.out _) | with_reducible exact Kept.call (V5.out _)) | (go_at_call 18; with_reducible exact Kept.call (O1.out _)) | (go_at_call 19; with_reducible exact Kept.call (O2.out _)))))
    refine wpQuiet_nil ?_
    intro w8 q8
    have HQ8 := Lib.hid (Qw.trans HQ.out q8)
    clear q8
    go_wp2
    go_ret
    exact ⟨rfl, HQ8.out⟩
  · have c0 := G6.out.cell' 27 (.int .i64 f.p) rfl
    have f0 := G6.out.free 27
    go_upto_region 21 with (first | (go_at_call 15; ((with_reducible refine (MN.out _).mono ?_); rintro e w' ⟨rfl, rfl⟩)) | (go_at_call 15; ((with_reducible refine (MB.out _).mono ?_); rintro e w' ⟨rfl, rfl⟩)))
    have WG : Hid (Fm.Wf { f with p := b }) := Lib.hid ⟨W6.out.c, W6.out.n, W6.out.lx, W6.out.ly, W6.out.lz, W6.out.sx, W6.out.sy, W6.out.sz, W6.out.g, ⟨b1, b2⟩, W6.out.ex, W6.out.ey, W6.out.ez, W6.out.a⟩
    refine code_of (fun w' => Bx w' P5 (frc { f with p := b }) FT ∧ Bx w' P (frc f) FT ∧ Bx w' A (frc raw) FT ∧ Qw w w') ⟨G6.out.set 27 _, F6.out.other nPF _, A6.out.other nPA _, Q6.out.setCell hP5 _⟩ ?_
    clear c0 f0 G6 F6 A6 Q6 W6 MN MB nPA nPF hP5
    generalize { f with p := b } = g at *
    rintro w7 ⟨G, F, X, Q7⟩
    have V1 := Lib.hid (fun w' => fmValid raw HR.out w')
    have V2 := Lib.hid (fun w' => rfValid raw HR.out w')
    have V3 : Hid (∀ w' : World, Calls Tryd.prog 16 #[.agg (frc f)] w' fun e w'' => e = .returned (.bool true) ∧ Qw w' w'') := Lib.hid (fun w' => by have := fmValid f G2.out.wf w'; rwa [G2.out.vld] at this)
    have V4 := Lib.hid (fun w' => fmValid g WG.out w')
    have V5 := Lib.hid (fun w' => rfValid g WG.out w')
    have O1 := Lib.hid (fun w' => fmOrigin f G2.out w')
    have O2 := Lib.hid (fun w' => rfOrigin f G2.out w')
    have AK : ∀ p : Kept w7, Calls Tryd.prog 12 #[] p.v fun e w'' => e = .returned (.bool true) ∧ Qw p.v w'' := fun p => AW.out _ (Qw.trans Q7 p.h)
    have AK2 := Lib.hid AK
    clear AK
    have HG := Lib.hid G
    have HF := Lib.hid F
    have HX := Lib.hid X
    have HQ := Lib.hid Q7
    clear G F X Q7
    generalize Fm.vldF raw = vr at *
    generalize Fm.vldF g = vg at *
    generalize Fm.ox f = o0 at *
    generalize Fm.oy f = o1 at *
    generalize Fm.oz f = o2 at *
    refine region_kept (by kernel_rfl) (by kernel_rfl) ?_
    repeat (first | (refine q_ldf 4 rfl rfl (fun w' h => h.elim fun p e => e ▸ HX.out.kept p.h) ?_; simp only [List.getElem_toArray, List.getElem_cons_succ, List.getElem_cons_zero, Act.put, List.setIfInBounds_toArray, List.set_cons_zero, List.set_cons_succ]) | (refine q_ldf 9 rfl rfl (fun w' h => h.elim fun p e => e ▸ HF.out.kept p.h) ?_; simp only [List.getElem_toArray, List.getElem_cons_succ, List.getElem_cons_zero, Act.put, List.setIfInBounds_toArray, List.set_cons_zero, List.set_cons_succ]) | (refine q_ldf 10 rfl rfl (fun w' h => h.elim fun p e => e ▸ HG.out.kept p.h) ?_; simp only [List.getElem_toArray, List.getElem_cons_succ, List.getElem_cons_zero, Act.put, List.setIfInBounds_toArray, List.set_cons_zero, List.set_cons_succ]) | (go_big_quiet_step (first | (go_at_call 12; with_reducible exact Kept.call (AK2.out _)) | (go_at_call 16; first | with_reducible exact Kept.call (V1.out _) | with_reducible exact Kept.call (V3.out _) | with_reducible exact Kept.call (V4.out _)) | (go_at_call 17; first | with_reducible exact Kept.call (V2.out _) | with_reducible exact Kept.call (V5.out _)) | (go_at_call 18; with_reducible exact Kept.call (O1.out _)) | (go_at_call 19; with_reducible exact Kept.call (O2.out _)))))
    refine wpQuiet_nil ?_
    intro w8 q8
    have HQ8 := Lib.hid (Qw.trans HQ.out q8)
    clear q8
    go_wp2
    go_ret
    exact ⟨rfl, HQ8.out⟩
  · have c0 := G6.out.cell' 31 (.int .i64 f.a) rfl
    have f0 := G6.out.free 31
    go_upto_region 21 with (first | (go_at_call 15; ((with_reducible refine (MN.out _).mono ?_); rintro e w' ⟨rfl, rfl⟩)) | (go_at_call 15; ((with_reducible refine (MB.out _).mono ?_); rintro e w' ⟨rfl, rfl⟩)))
    have WG : Hid (Fm.Wf { f with a := b }) := Lib.hid ⟨W6.out.c, W6.out.n, W6.out.lx, W6.out.ly, W6.out.lz, W6.out.sx, W6.out.sy, W6.out.sz, W6.out.g, W6.out.p, W6.out.ex, W6.out.ey, W6.out.ez, ⟨b1, b2⟩⟩
    refine code_of (fun w' => Bx w' P5 (frc { f with a := b }) FT ∧ Bx w' P (frc f) FT ∧ Bx w' A (frc raw) FT ∧ Qw w w') ⟨G6.out.set 31 _, F6.out.other nPF _, A6.out.other nPA _, Q6.out.setCell hP5 _⟩ ?_
    clear c0 f0 G6 F6 A6 Q6 W6 MN MB nPA nPF hP5
    generalize { f with a := b } = g at *
    rintro w7 ⟨G, F, X, Q7⟩
    have V1 := Lib.hid (fun w' => fmValid raw HR.out w')
    have V2 := Lib.hid (fun w' => rfValid raw HR.out w')
    have V3 : Hid (∀ w' : World, Calls Tryd.prog 16 #[.agg (frc f)] w' fun e w'' => e = .returned (.bool true) ∧ Qw w' w'') := Lib.hid (fun w' => by have := fmValid f G2.out.wf w'; rwa [G2.out.vld] at this)
    have V4 := Lib.hid (fun w' => fmValid g WG.out w')
    have V5 := Lib.hid (fun w' => rfValid g WG.out w')
    have O1 := Lib.hid (fun w' => fmOrigin f G2.out w')
    have O2 := Lib.hid (fun w' => rfOrigin f G2.out w')
    have AK : ∀ p : Kept w7, Calls Tryd.prog 12 #[] p.v fun e w'' => e = .returned (.bool true) ∧ Qw p.v w'' := fun p => AW.out _ (Qw.trans Q7 p.h)
    have AK2 := Lib.hid AK
    clear AK
    have HG := Lib.hid G
    have HF := Lib.hid F
    have HX := Lib.hid X
    have HQ := Lib.hid Q7
    clear G F X Q7
    generalize Fm.vldF raw = vr at *
    generalize Fm.vldF g = vg at *
    generalize Fm.ox f = o0 at *
    generalize Fm.oy f = o1 at *
    generalize Fm.oz f = o2 at *
    refine region_kept (by kernel_rfl) (by kernel_rfl) ?_
    repeat (first | (refine q_ldf 4 rfl rfl (fun w' h => h.elim fun p e => e ▸ HX.out.kept p.h) ?_; simp only [List.getElem_toArray, List.getElem_cons_succ, List.getElem_cons_zero, Act.put, List.setIfInBounds_toArray, List.set_cons_zero, List.set_cons_succ]) | (refine q_ldf 9 rfl rfl (fun w' h => h.elim fun p e => e ▸ HF.out.kept p.h) ?_; simp only [List.getElem_toArray, List.getElem_cons_succ, List.getElem_cons_zero, Act.put, List.setIfInBounds_toArray, List.set_cons_zero, List.set_cons_succ]) | (refine q_ldf 10 rfl rfl (fun w' h => h.elim fun p e => e ▸ HG.out.kept p.h) ?_; simp only [List.getElem_toArray, List.getElem_cons_succ, List.getElem_cons_zero, Act.put, List.setIfInBounds_toArray, List.set_cons_zero, List.set_cons_succ]) | (go_big_quiet_step (first | (go_at_call 12; with_reducible exact Kept.call (AK2.out _)) | (go_at_call 16; first | with_reducible exact Kept.call (V1.out _) | with_reducible exact Kept.call (V3.out _) | with_reducible exact Kept.call (V4.out _)) | (go_at_call 17; first | with_reducible exact Kept.call (V2.out _) | with_reducible exact Kept.call (V5.out _)) | (go_at_call 18; with_reducible exact Kept.call (O1.out _)) | (go_at_call 19; with_reducible exact Kept.call (O2.out _)))))
    refine wpQuiet_nil ?_
    intro w8 q8
    have HQ8 := Lib.hid (Qw.trans HQ.out q8)
    clear q8
    go_wp2
    go_ret
    exact ⟨rfl, HQ8.out⟩
  · have c0 := G6.out.cell' 26 (.bool f.t) rfl
    have f0 := G6.out.free 26
    go_upto_region 21 with (first | (go_at_call 15; ((with_reducible refine (MN.out _).mono ?_); rintro e w' ⟨rfl, rfl⟩)) | (go_at_call 15; ((with_reducible refine (MB.out _).mono ?_); rintro e w' ⟨rfl, rfl⟩)))
    have WG : Hid (Fm.Wf { f with t := !f.t }) := Lib.hid ⟨W6.out.c, W6.out.n, W6.out.lx, W6.out.ly, W6.out.lz, W6.out.sx, W6.out.sy, W6.out.sz, W6.out.g, W6.out.p, W6.out.ex, W6.out.ey, W6.out.ez, W6.out.a⟩
    refine code_of (fun w' => Bx w' P5 (frc { f with t := !f.t }) FT ∧ Bx w' P (frc f) FT ∧ Bx w' A (frc raw) FT ∧ Qw w w') ⟨G6.out.set 26 _, F6.out.other nPF _, A6.out.other nPA _, Q6.out.setCell hP5 _⟩ ?_
    clear c0 f0 G6 F6 A6 Q6 W6 MN MB nPA nPF hP5
    generalize { f with t := !f.t } = g at *
    rintro w7 ⟨G, F, X, Q7⟩
    have V1 := Lib.hid (fun w' => fmValid raw HR.out w')
    have V2 := Lib.hid (fun w' => rfValid raw HR.out w')
    have V3 : Hid (∀ w' : World, Calls Tryd.prog 16 #[.agg (frc f)] w' fun e w'' => e = .returned (.bool true) ∧ Qw w' w'') := Lib.hid (fun w' => by have := fmValid f G2.out.wf w'; rwa [G2.out.vld] at this)
    have V4 := Lib.hid (fun w' => fmValid g WG.out w')
    have V5 := Lib.hid (fun w' => rfValid g WG.out w')
    have O1 := Lib.hid (fun w' => fmOrigin f G2.out w')
    have O2 := Lib.hid (fun w' => rfOrigin f G2.out w')
    have AK : ∀ p : Kept w7, Calls Tryd.prog 12 #[] p.v fun e w'' => e = .returned (.bool true) ∧ Qw p.v w'' := fun p => AW.out _ (Qw.trans Q7 p.h)
    have AK2 := Lib.hid AK
    clear AK
    have HG := Lib.hid G
    have HF := Lib.hid F
    have HX := Lib.hid X
    have HQ := Lib.hid Q7
    clear G F X Q7
    generalize Fm.vldF raw = vr at *
    generalize Fm.vldF g = vg at *
    generalize Fm.ox f = o0 at *
    generalize Fm.oy f = o1 at *
    generalize Fm.oz f = o2 at *
    refine region_kept (by kernel_rfl) (by kernel_rfl) ?_
    repeat (first | (refine q_ldf 4 rfl rfl (fun w' h => h.elim fun p e => e ▸ HX.out.kept p.h) ?_; simp only [List.getElem_toArray, List.getElem_cons_succ, List.getElem_cons_zero, Act.put, List.setIfInBounds_toArray, List.set_cons_zero, List.set_cons_succ]) | (refine q_ldf 9 rfl rfl (fun w' h => h.elim fun p e => e ▸ HF.out.kept p.h) ?_; simp only [List.getElem_toArray, List.getElem_cons_succ, List.getElem_cons_zero, Act.put, List.setIfInBounds_toArray, List.set_cons_zero, List.set_cons_succ]) | (refine q_ldf 10 rfl rfl (fun w' h => h.elim fun p e => e ▸ HG.out.kept p.h) ?_; simp only [List.getElem_toArray, List.getElem_cons_succ, List.getElem_cons_zero, Act.put, List.setIfInBounds_toArray, List.set_cons_zero, List.set_cons_succ]) | (go_big_quiet_step (first | (go_at_call 12; with_reducible exact Kept.call (AK2.out _)) | (go_at_call 16; first | with_reducible exact Kept.call (V1.out _) | with_reducible exact Kept.call (V3.out _) | with_reducible exact Kept.call (V4.out _)) | (go_at_call 17; first | with_reducible exact Kept.call (V2.out _) | with_reducible exact Kept.call (V5.out _)) | (go_at_call 18; with_reducible exact Kept.call (O1.out _)) | (go_at_call 19; with_reducible exact Kept.call (O2.out _)))))
    refine wpQuiet_nil ?_
    intro w8 q8
    have HQ8 := Lib.hid (Qw.trans HQ.out q8)
    clear q8
    go_wp2
    go_ret
    exact ⟨rfl, HQ8.out⟩
  · have c0 := G6.out.cell' 20 (.int .i64 f.ly) rfl
    have f0 := G6.out.free 20
    go_upto_region 21 with (first | (go_at_call 15; ((with_reducible refine (MN.out _).mono ?_); rintro e w' ⟨rfl, rfl⟩)) | (go_at_call 15; ((with_reducible refine (MB.out _).mono ?_); rintro e w' ⟨rfl, rfl⟩)))
    have WG : Hid (Fm.Wf { f with ly := b }) := Lib.hid ⟨W6.out.c, W6.out.n, W6.out.lx, ⟨b1, b2⟩, W6.out.lz, W6.out.sx, W6.out.sy, W6.out.sz, W6.out.g, W6.out.p, W6.out.ex, W6.out.ey, W6.out.ez, W6.out.a⟩
    refine code_of (fun w' => Bx w' P5 (frc { f with ly := b }) FT ∧ Bx w' P (frc f) FT ∧ Bx w' A (frc raw) FT ∧ Qw w w') ⟨G6.out.set 20 _, F6.out.other nPF _, A6.out.other nPA _, Q6.out.setCell hP5 _⟩ ?_
    clear c0 f0 G6 F6 A6 Q6 W6 MN MB nPA nPF hP5
    generalize { f with ly := b } = g at *
    rintro w7 ⟨G, F, X, Q7⟩
    have V1 := Lib.hid (fun w' => fmValid raw HR.out w')
    have V2 := Lib.hid (fun w' => rfValid raw HR.out w')
    have V3 : Hid (∀ w' : World, Calls Tryd.prog 16 #[.agg (frc f)] w' fun e w'' => e = .returned (.bool true) ∧ Qw w' w'') := Lib.hid (fun w' => by have := fmValid f G2.out.wf w'; rwa [G2.out.vld] at this)
    have V4 := Lib.hid (fun w' => fmValid g WG.out w')
    have V5 := Lib.hid (fun w' => rfValid g WG.out w')
    have O1 := Lib.hid (fun w' => fmOrigin f G2.out w')
    have O2 := Lib.hid (fun w' => rfOrigin f G2.out w')
    have AK : ∀ p : Kept w7, Calls Tryd.prog 12 #[] p.v fun e w'' => e = .returned (.bool true) ∧ Qw p.v w'' := fun p => AW.out _ (Qw.trans Q7 p.h)
    have AK2 := Lib.hid AK
    clear AK
    have HG := Lib.hid G
    have HF := Lib.hid F
    have HX := Lib.hid X
    have HQ := Lib.hid Q7
    clear G F X Q7
    generalize Fm.vldF raw = vr at *
    generalize Fm.vldF g = vg at *
    generalize Fm.ox f = o0 at *
    generalize Fm.oy f = o1 at *
    generalize Fm.oz f = o2 at *
    refine region_kept (by kernel_rfl) (by kernel_rfl) ?_
    repeat (first | (refine q_ldf 4 rfl rfl (fun w' h => h.elim fun p e => e ▸ HX.out.kept p.h) ?_; simp only [List.getElem_toArray, List.getElem_cons_succ, List.getElem_cons_zero, Act.put, List.setIfInBounds_toArray, List.set_cons_zero, List.set_cons_succ]) | (refine q_ldf 9 rfl rfl (fun w' h => h.elim fun p e => e ▸ HF.out.kept p.h) ?_; simp only [List.getElem_toArray, List.getElem_cons_succ, List.getElem_cons_zero, Act.put, List.setIfInBounds_toArray, List.set_cons_zero, List.set_cons_succ]) | (refine q_ldf 10 rfl rfl (fun w' h => h.elim fun p e => e ▸ HG.out.kept p.h) ?_; simp only [List.getElem_toArray, List.getElem_cons_succ, List.getElem_cons_zero, Act.put, List.setIfInBounds_toArray, List.set_cons_zero, List.set_cons_succ]) | (go_big_quiet_step (first | (go_at_call 12; with_reducible exact Kept.call (AK2.out _)) | (go_at_call 16; first | with_reducible exact Kept.call (V1.out _) | with_reducible exact Kept.call (V3.out _) | with_reducible exact Kept.call (V4.out _)) | (go_at_call 17; first | with_reducible exact Kept.call (V2.out _) | with_reducible exact Kept.call (V5.out _)) | (go_at_call 18; with_reducible exact Kept.call (O1.out _)) | (go_at_call 19; with_reducible exact Kept.call (O2.out _)))))
    refine wpQuiet_nil ?_
    intro w8 q8
    have HQ8 := Lib.hid (Qw.trans HQ.out q8)
    clear q8
    go_wp2
    go_ret
    exact ⟨rfl, HQ8.out⟩
  · rcases ht6 with rfl | rfl | rfl | rfl | rfl | rfl
    · have c0 := G6.out.cell' 0 (.int .i64 (f.c 0)) rfl
      have f0 := G6.out.free 0
      go_upto_region 21 with (first | (go_at_call 15; ((with_reducible refine (MN.out _).mono ?_); rintro e w' ⟨rfl, rfl⟩)) | (go_at_call 15; ((with_reducible refine (MB.out _).mono ?_); rintro e w' ⟨rfl, rfl⟩)))
      have WG : Hid (Fm.Wf { f with c := fun j => if j = 0 then b else f.c j }) := Lib.hid ⟨fun j hj => (by show -9223372036854775808 ≤ (if j = 0 then b else f.c j) ∧ (if j = 0 then b else f.c j) ≤ 9223372036854775807; split; exact ⟨b1, b2⟩; exact W6.out.c j hj), W6.out.n, W6.out.lx, W6.out.ly, W6.out.lz, W6.out.sx, W6.out.sy, W6.out.sz, W6.out.g, W6.out.p, W6.out.ex, W6.out.ey, W6.out.ez, W6.out.a⟩
      refine code_of (fun w' => Bx w' P5 (frc { f with c := fun j => if j = 0 then b else f.c j }) FT ∧ Bx w' P (frc f) FT ∧ Bx w' A (frc raw) FT ∧ Qw w w') ⟨G6.out.set 0 _, F6.out.other nPF _, A6.out.other nPA _, Q6.out.setCell hP5 _⟩ ?_
      clear c0 f0 G6 F6 A6 Q6 W6 MN MB nPA nPF hP5
      generalize { f with c := fun j => if j = 0 then b else f.c j } = g at *
      rintro w7 ⟨G, F, X, Q7⟩
      have V1 := Lib.hid (fun w' => fmValid raw HR.out w')
      have V2 := Lib.hid (fun w' => rfValid raw HR.out w')
      have V3 : Hid (∀ w' : World, Calls Tryd.prog 16 #[.agg (frc f)] w' fun e w'' => e = .returned (.bool true) ∧ Qw w' w'') := Lib.hid (fun w' => by have := fmValid f G2.out.wf w'; rwa [G2.out.vld] at this)
      have V4 := Lib.hid (fun w' => fmValid g WG.out w')
      have V5 := Lib.hid (fun w' => rfValid g WG.out w')
      have O1 := Lib.hid (fun w' => fmOrigin f G2.out w')
      have O2 := Lib.hid (fun w' => rfOrigin f G2.out w')
      have AK : ∀ p : Kept w7, Calls Tryd.prog 12 #[] p.v fun e w'' => e = .returned (.bool true) ∧ Qw p.v w'' := fun p => AW.out _ (Qw.trans Q7 p.h)
      have AK2 := Lib.hid AK
      clear AK
      have HG := Lib.hid G
      have HF := Lib.hid F
      have HX := Lib.hid X
      have HQ := Lib.hid Q7
      clear G F X Q7
      generalize Fm.vldF raw = vr at *
      generalize Fm.vldF g = vg at *
      generalize Fm.ox f = o0 at *
      generalize Fm.oy f = o1 at *
      generalize Fm.oz f = o2 at *
      refine region_kept (by kernel_rfl) (by kernel_rfl) ?_
      repeat (first | (refine q_ldf 4 rfl rfl (fun w' h => h.elim fun p e => e ▸ HX.out.kept p.h) ?_; simp only [List.getElem_toArray, List.getElem_cons_succ, List.getElem_cons_zero, Act.put, List.setIfInBounds_toArray, List.set_cons_zero, List.set_cons_succ]) | (refine q_ldf 9 rfl rfl (fun w' h => h.elim fun p e => e ▸ HF.out.kept p.h) ?_; simp only [List.getElem_toArray, List.getElem_cons_succ, List.getElem_cons_zero, Act.put, List.setIfInBounds_toArray, List.set_cons_zero, List.set_cons_succ]) | (refine q_ldf 10 rfl rfl (fun w' h => h.elim fun p e => e ▸ HG.out.kept p.h) ?_; simp only [List.getElem_toArray, List.getElem_cons_succ, List.getElem_cons_zero, Act.put, List.setIfInBounds_toArray, List.set_cons_zero, List.set_cons_succ]) | (go_big_quiet_step (first | (go_at_call 12; with_reducible exact Kept.call (AK2.out _)) | (go_at_call 16; first | with_reducible exact Kept.call (V1.out _) | with_reducible exact Kept.call (V3.out _) | with_reducible exact Kept.call (V4.out _)) | (go_at_call 17; first | with_reducible exact Kept.call (V2.out _) | with_reducible exact Kept.call (V5.out _)) | (go_at_call 18; with_reducible exact Kept.call (O1.out _)) | (go_at_call 19; with_reducible exact Kept.call (O2.out _)))))
      refine wpQuiet_nil ?_
      intro w8 q8
      have HQ8 := Lib.hid (Qw.trans HQ.out q8)
      clear q8
      go_wp2
      go_ret
      exact ⟨rfl, HQ8.out⟩
    · have c0 := G6.out.cell' 3 (.int .i64 (f.c 3)) rfl
      have f0 := G6.out.free 3
      go_upto_region 21 with (first | (go_at_call 15; ((with_reducible refine (MN.out _).mono ?_); rintro e w' ⟨rfl, rfl⟩)) | (go_at_call 15; ((with_reducible refine (MB.out _).mono ?_); rintro e w' ⟨rfl, rfl⟩)))
      have WG : Hid (Fm.Wf { f with c := fun j => if j = 3 then b else f.c j }) := Lib.hid ⟨fun j hj => (by show -9223372036854775808 ≤ (if j = 3 then b else f.c j) ∧ (if j = 3 then b else f.c j) ≤ 9223372036854775807; split; exact ⟨b1, b2⟩; exact W6.out.c j hj), W6.out.n, W6.out.lx, W6.out.ly, W6.out.lz, W6.out.sx, W6.out.sy, W6.out.sz, W6.out.g, W6.out.p, W6.out.ex, W6.out.ey, W6.out.ez, W6.out.a⟩
      refine code_of (fun w' => Bx w' P5 (frc { f with c := fun j => if j = 3 then b else f.c j }) FT ∧ Bx w' P (frc f) FT ∧ Bx w' A (frc raw) FT ∧ Qw w w') ⟨G6.out.set 3 _, F6.out.other nPF _, A6.out.other nPA _, Q6.out.setCell hP5 _⟩ ?_
      clear c0 f0 G6 F6 A6 Q6 W6 MN MB nPA nPF hP5
      generalize { f with c := fun j => if j = 3 then b else f.c j } = g at *
      rintro w7 ⟨G, F, X, Q7⟩
      have V1 := Lib.hid (fun w' => fmValid raw HR.out w')
      have V2 := Lib.hid (fun w' => rfValid raw HR.out w')
      have V3 : Hid (∀ w' : World, Calls Tryd.prog 16 #[.agg (frc f)] w' fun e w'' => e = .returned (.bool true) ∧ Qw w' w'') := Lib.hid (fun w' => by have := fmValid f G2.out.wf w'; rwa [G2.out.vld] at this)
      have V4 := Lib.hid (fun w' => fmValid g WG.out w')
      have V5 := Lib.hid (fun w' => rfValid g WG.out w')
      have O1 := Lib.hid (fun w' => fmOrigin f G2.out w')
      have O2 := Lib.hid (fun w' => rfOrigin f G2.out w')
      have AK : ∀ p : Kept w7, Calls Tryd.prog 12 #[] p.v fun e w'' => e = .returned (.bool true) ∧ Qw p.v w'' := fun p => AW.out _ (Qw.trans Q7 p.h)
      have AK2 := Lib.hid AK
      clear AK
      have HG := Lib.hid G
      have HF := Lib.hid F
      have HX := Lib.hid X
      have HQ := Lib.hid Q7
      clear G F X Q7
      generalize Fm.vldF raw = vr at *
      generalize Fm.vldF g = vg at *
      generalize Fm.ox f = o0 at *
      generalize Fm.oy f = o1 at *
      generalize Fm.oz f = o2 at *
      refine region_kept (by kernel_rfl) (by kernel_rfl) ?_
      repeat (first | (refine q_ldf 4 rfl rfl (fun w' h => h.elim fun p e => e ▸ HX.out.kept p.h) ?_; simp only [List.getElem_toArray, List.getElem_cons_succ, List.getElem_cons_zero, Act.put, List.setIfInBounds_toArray, List.set_cons_zero, List.set_cons_succ]) | (refine q_ldf 9 rfl rfl (fun w' h => h.elim fun p e => e ▸ HF.out.kept p.h) ?_; simp only [List.getElem_toArray, List.getElem_cons_succ, List.getElem_cons_zero, Act.put, List.setIfInBounds_toArray, List.set_cons_zero, List.set_cons_succ]) | (refine q_ldf 10 rfl rfl (fun w' h => h.elim fun p e => e ▸ HG.out.kept p.h) ?_; simp only [List.getElem_toArray, List.getElem_cons_succ, List.getElem_cons_zero, Act.put, List.setIfInBounds_toArray, List.set_cons_zero, List.set_cons_succ]) | (go_big_quiet_step (first | (go_at_call 12; with_reducible exact Kept.call (AK2.out _)) | (go_at_call 16; first | with_reducible exact Kept.call (V1.out _) | with_reducible exact Kept.call (V3.out _) | with_reducible exact Kept.call (V4.out _)) | (go_at_call 17; first | with_reducible exact Kept.call (V2.out _) | with_reducible exact Kept.call (V5.out _)) | (go_at_call 18; with_reducible exact Kept.call (O1.out _)) | (go_at_call 19; with_reducible exact Kept.call (O2.out _)))))
      refine wpQuiet_nil ?_
      intro w8 q8
      have HQ8 := Lib.hid (Qw.trans HQ.out q8)
      clear q8
      go_wp2
      go_ret
      exact ⟨rfl, HQ8.out⟩
    · have c0 := G6.out.cell' 6 (.int .i64 (f.c 6)) rfl
      have f0 := G6.out.free 6
      go_upto_region 21 with (first | (go_at_call 15; ((with_reducible refine (MN.out _).mono ?_); rintro e w' ⟨rfl, rfl⟩)) | (go_at_call 15; ((with_reducible refine (MB.out _).mono ?_); rintro e w' ⟨rfl, rfl⟩)))
      have WG : Hid (Fm.Wf { f with c := fun j => if j = 6 then b else f.c j }) := Lib.hid ⟨fun j hj => (by show -9223372036854775808 ≤ (if j = 6 then b else f.c j) ∧ (if j = 6 then b else f.c j) ≤ 9223372036854775807; split; exact ⟨b1, b2⟩; exact W6.out.c j hj), W6.out.n, W6.out.lx, W6.out.ly, W6.out.lz, W6.out.sx, W6.out.sy, W6.out.sz, W6.out.g, W6.out.p, W6.out.ex, W6.out.ey, W6.out.ez, W6.out.a⟩
      refine code_of (fun w' => Bx w' P5 (frc { f with c := fun j => if j = 6 then b else f.c j }) FT ∧ Bx w' P (frc f) FT ∧ Bx w' A (frc raw) FT ∧ Qw w w') ⟨G6.out.set 6 _, F6.out.other nPF _, A6.out.other nPA _, Q6.out.setCell hP5 _⟩ ?_
      clear c0 f0 G6 F6 A6 Q6 W6 MN MB nPA nPF hP5
      generalize { f with c := fun j => if j = 6 then b else f.c j } = g at *
      rintro w7 ⟨G, F, X, Q7⟩
      have V1 := Lib.hid (fun w' => fmValid raw HR.out w')
      have V2 := Lib.hid (fun w' => rfValid raw HR.out w')
      have V3 : Hid (∀ w' : World, Calls Tryd.prog 16 #[.agg (frc f)] w' fun e w'' => e = .returned (.bool true) ∧ Qw w' w'') := Lib.hid (fun w' => by have := fmValid f G2.out.wf w'; rwa [G2.out.vld] at this)
      have V4 := Lib.hid (fun w' => fmValid g WG.out w')
      have V5 := Lib.hid (fun w' => rfValid g WG.out w')
      have O1 := Lib.hid (fun w' => fmOrigin f G2.out w')
      have O2 := Lib.hid (fun w' => rfOrigin f G2.out w')
      have AK : ∀ p : Kept w7, Calls Tryd.prog 12 #[] p.v fun e w'' => e = .returned (.bool true) ∧ Qw p.v w'' := fun p => AW.out _ (Qw.trans Q7 p.h)
      have AK2 := Lib.hid AK
      clear AK
      have HG := Lib.hid G
      have HF := Lib.hid F
      have HX := Lib.hid X
      have HQ := Lib.hid Q7
      clear G F X Q7
      generalize Fm.vldF raw = vr at *
      generalize Fm.vldF g = vg at *
      generalize Fm.ox f = o0 at *
      generalize Fm.oy f = o1 at *
      generalize Fm.oz f = o2 at *
      refine region_kept (by kernel_rfl) (by kernel_rfl) ?_
      repeat (first | (refine q_ldf 4 rfl rfl (fun w' h => h.elim fun p e => e ▸ HX.out.kept p.h) ?_; simp only [List.getElem_toArray, List.getElem_cons_succ, List.getElem_cons_zero, Act.put, List.setIfInBounds_toArray, List.set_cons_zero, List.set_cons_succ]) | (refine q_ldf 9 rfl rfl (fun w' h => h.elim fun p e => e ▸ HF.out.kept p.h) ?_; simp only [List.getElem_toArray, List.getElem_cons_succ, List.getElem_cons_zero, Act.put, List.setIfInBounds_toArray, List.set_cons_zero, List.set_cons_succ]) | (refine q_ldf 10 rfl rfl (fun w' h => h.elim fun p e => e ▸ HG.out.kept p.h) ?_; simp only [List.getElem_toArray, List.getElem_cons_succ, List.getElem_cons_zero, Act.put, List.setIfInBounds_toArray, List.set_cons_zero, List.set_cons_succ]) | (go_big_quiet_step (first | (go_at_call 12; with_reducible exact Kept.call (AK2.out _)) | (go_at_call 16; first | with_reducible exact Kept.call (V1.out _) | with_reducible exact Kept.call (V3.out _) | with_reducible exact Kept.call (V4.out _)) | (go_at_call 17; first | with_reducible exact Kept.call (V2.out _) | with_reducible exact Kept.call (V5.out _)) | (go_at_call 18; with_reducible exact Kept.call (O1.out _)) | (go_at_call 19; with_reducible exact Kept.call (O2.out _)))))
      refine wpQuiet_nil ?_
      intro w8 q8
      have HQ8 := Lib.hid (Qw.trans HQ.out q8)
      clear q8
      go_wp2
      go_ret
      exact ⟨rfl, HQ8.out⟩
    · have c0 := G6.out.cell' 9 (.int .i64 (f.c 9)) rfl
      have f0 := G6.out.free 9
      go_upto_region 21 with (first | (go_at_call 15; ((with_reducible refine (MN.out _).mono ?_); rintro e w' ⟨rfl, rfl⟩)) | (go_at_call 15; ((with_reducible refine (MB.out _).mono ?_); rintro e w' ⟨rfl, rfl⟩)))
      have WG : Hid (Fm.Wf { f with c := fun j => if j = 9 then b else f.c j }) := Lib.hid ⟨fun j hj => (by show -9223372036854775808 ≤ (if j = 9 then b else f.c j) ∧ (if j = 9 then b else f.c j) ≤ 9223372036854775807; split; exact ⟨b1, b2⟩; exact W6.out.c j hj), W6.out.n, W6.out.lx, W6.out.ly, W6.out.lz, W6.out.sx, W6.out.sy, W6.out.sz, W6.out.g, W6.out.p, W6.out.ex, W6.out.ey, W6.out.ez, W6.out.a⟩
      refine code_of (fun w' => Bx w' P5 (frc { f with c := fun j => if j = 9 then b else f.c j }) FT ∧ Bx w' P (frc f) FT ∧ Bx w' A (frc raw) FT ∧ Qw w w') ⟨G6.out.set 9 _, F6.out.other nPF _, A6.out.other nPA _, Q6.out.setCell hP5 _⟩ ?_
      clear c0 f0 G6 F6 A6 Q6 W6 MN MB nPA nPF hP5
      generalize { f with c := fun j => if j = 9 then b else f.c j } = g at *
      rintro w7 ⟨G, F, X, Q7⟩
      have V1 := Lib.hid (fun w' => fmValid raw HR.out w')
      have V2 := Lib.hid (fun w' => rfValid raw HR.out w')
      have V3 : Hid (∀ w' : World, Calls Tryd.prog 16 #[.agg (frc f)] w' fun e w'' => e = .returned (.bool true) ∧ Qw w' w'') := Lib.hid (fun w' => by have := fmValid f G2.out.wf w'; rwa [G2.out.vld] at this)
      have V4 := Lib.hid (fun w' => fmValid g WG.out w')
      have V5 := Lib.hid (fun w' => rfValid g WG.out w')
      have O1 := Lib.hid (fun w' => fmOrigin f G2.out w')
      have O2 := Lib.hid (fun w' => rfOrigin f G2.out w')
      have AK : ∀ p : Kept w7, Calls Tryd.prog 12 #[] p.v fun e w'' => e = .returned (.bool true) ∧ Qw p.v w'' := fun p => AW.out _ (Qw.trans Q7 p.h)
      have AK2 := Lib.hid AK
      clear AK
      have HG := Lib.hid G
      have HF := Lib.hid F
      have HX := Lib.hid X
      have HQ := Lib.hid Q7
      clear G F X Q7
      generalize Fm.vldF raw = vr at *
      generalize Fm.vldF g = vg at *
      generalize Fm.ox f = o0 at *
      generalize Fm.oy f = o1 at *
      generalize Fm.oz f = o2 at *
      refine region_kept (by kernel_rfl) (by kernel_rfl) ?_
      repeat (first | (refine q_ldf 4 rfl rfl (fun w' h => h.elim fun p e => e ▸ HX.out.kept p.h) ?_; simp only [List.getElem_toArray, List.getElem_cons_succ, List.getElem_cons_zero, Act.put, List.setIfInBounds_toArray, List.set_cons_zero, List.set_cons_succ]) | (refine q_ldf 9 rfl rfl (fun w' h => h.elim fun p e => e ▸ HF.out.kept p.h) ?_; simp only [List.getElem_toArray, List.getElem_cons_succ, List.getElem_cons_zero, Act.put, List.setIfInBounds_toArray, List.set_cons_zero, List.set_cons_succ]) | (refine q_ldf 10 rfl rfl (fun w' h => h.elim fun p e => e ▸ HG.out.kept p.h) ?_; simp only [List.getElem_toArray, List.getElem_cons_succ, List.getElem_cons_zero, Act.put, List.setIfInBounds_toArray, List.set_cons_zero, List.set_cons_succ]) | (go_big_quiet_step (first | (go_at_call 12; with_reducible exact Kept.call (AK2.out _)) | (go_at_call 16; first | with_reducible exact Kept.call (V1.out _) | with_reducible exact Kept.call (V3.out _) | with_reducible exact Kept.call (V4.out _)) | (go_at_call 17; first | with_reducible exact Kept.call (V2.out _) | with_reducible exact Kept.call (V5.out _)) | (go_at_call 18; with_reducible exact Kept.call (O1.out _)) | (go_at_call 19; with_reducible exact Kept.call (O2.out _)))))
      refine wpQuiet_nil ?_
      intro w8 q8
      have HQ8 := Lib.hid (Qw.trans HQ.out q8)
      clear q8
      go_wp2
      go_ret
      exact ⟨rfl, HQ8.out⟩
    · have c0 := G6.out.cell' 12 (.int .i64 (f.c 12)) rfl
      have f0 := G6.out.free 12
      go_upto_region 21 with (first | (go_at_call 15; ((with_reducible refine (MN.out _).mono ?_); rintro e w' ⟨rfl, rfl⟩)) | (go_at_call 15; ((with_reducible refine (MB.out _).mono ?_); rintro e w' ⟨rfl, rfl⟩)))
      have WG : Hid (Fm.Wf { f with c := fun j => if j = 12 then b else f.c j }) := Lib.hid ⟨fun j hj => (by show -9223372036854775808 ≤ (if j = 12 then b else f.c j) ∧ (if j = 12 then b else f.c j) ≤ 9223372036854775807; split; exact ⟨b1, b2⟩; exact W6.out.c j hj), W6.out.n, W6.out.lx, W6.out.ly, W6.out.lz, W6.out.sx, W6.out.sy, W6.out.sz, W6.out.g, W6.out.p, W6.out.ex, W6.out.ey, W6.out.ez, W6.out.a⟩
      refine code_of (fun w' => Bx w' P5 (frc { f with c := fun j => if j = 12 then b else f.c j }) FT ∧ Bx w' P (frc f) FT ∧ Bx w' A (frc raw) FT ∧ Qw w w') ⟨G6.out.set 12 _, F6.out.other nPF _, A6.out.other nPA _, Q6.out.setCell hP5 _⟩ ?_
      clear c0 f0 G6 F6 A6 Q6 W6 MN MB nPA nPF hP5
      generalize { f with c := fun j => if j = 12 then b else f.c j } = g at *
      rintro w7 ⟨G, F, X, Q7⟩
      have V1 := Lib.hid (fun w' => fmValid raw HR.out w')
      have V2 := Lib.hid (fun w' => rfValid raw HR.out w')
      have V3 : Hid (∀ w' : World, Calls Tryd.prog 16 #[.agg (frc f)] w' fun e w'' => e = .returned (.bool true) ∧ Qw w' w'') := Lib.hid (fun w' => by have := fmValid f G2.out.wf w'; rwa [G2.out.vld] at this)
      have V4 := Lib.hid (fun w' => fmValid g WG.out w')
      have V5 := Lib.hid (fun w' => rfValid g WG.out w')
      have O1 := Lib.hid (fun w' => fmOrigin f G2.out w')
      have O2 := Lib.hid (fun w' => rfOrigin f G2.out w')
      have AK : ∀ p : Kept w7, Calls Tryd.prog 12 #[] p.v fun e w'' => e = .returned (.bool true) ∧ Qw p.v w'' := fun p => AW.out _ (Qw.trans Q7 p.h)
      have AK2 := Lib.hid AK
      clear AK
      have HG := Lib.hid G
      have HF := Lib.hid F
      have HX := Lib.hid X
      have HQ := Lib.hid Q7
      clear G F X Q7
      generalize Fm.vldF raw = vr at *
      generalize Fm.vldF g = vg at *
      generalize Fm.ox f = o0 at *
      generalize Fm.oy f = o1 at *
      generalize Fm.oz f = o2 at *
      refine region_kept (by kernel_rfl) (by kernel_rfl) ?_
      repeat (first | (refine q_ldf 4 rfl rfl (fun w' h => h.elim fun p e => e ▸ HX.out.kept p.h) ?_; simp only [List.getElem_toArray, List.getElem_cons_succ, List.getElem_cons_zero, Act.put, List.setIfInBounds_toArray, List.set_cons_zero, List.set_cons_succ]) | (refine q_ldf 9 rfl rfl (fun w' h => h.elim fun p e => e ▸ HF.out.kept p.h) ?_; simp only [List.getElem_toArray, List.getElem_cons_succ, List.getElem_cons_zero, Act.put, List.setIfInBounds_toArray, List.set_cons_zero, List.set_cons_succ]) | (refine q_ldf 10 rfl rfl (fun w' h => h.elim fun p e => e ▸ HG.out.kept p.h) ?_; simp only [List.getElem_toArray, List.getElem_cons_succ, List.getElem_cons_zero, Act.put, List.setIfInBounds_toArray, List.set_cons_zero, List.set_cons_succ]) | (go_big_quiet_step (first | (go_at_call 12; with_reducible exact Kept.call (AK2.out _)) | (go_at_call 16; first | with_reducible exact Kept.call (V1.out _) | with_reducible exact Kept.call (V3.out _) | with_reducible exact Kept.call (V4.out _)) | (go_at_call 17; first | with_reducible exact Kept.call (V2.out _) | with_reducible exact Kept.call (V5.out _)) | (go_at_call 18; with_reducible exact Kept.call (O1.out _)) | (go_at_call 19; with_reducible exact Kept.call (O2.out _)))))
      refine wpQuiet_nil ?_
      intro w8 q8
      have HQ8 := Lib.hid (Qw.trans HQ.out q8)
      clear q8
      go_wp2
      go_ret
      exact ⟨rfl, HQ8.out⟩
    · have c0 := G6.out.cell' 15 (.int .i64 (f.c 15)) rfl
      have f0 := G6.out.free 15
      go_upto_region 21 with (first | (go_at_call 15; ((with_reducible refine (MN.out _).mono ?_); rintro e w' ⟨rfl, rfl⟩)) | (go_at_call 15; ((with_reducible refine (MB.out _).mono ?_); rintro e w' ⟨rfl, rfl⟩)))
      have WG : Hid (Fm.Wf { f with c := fun j => if j = 15 then b else f.c j }) := Lib.hid ⟨fun j hj => (by show -9223372036854775808 ≤ (if j = 15 then b else f.c j) ∧ (if j = 15 then b else f.c j) ≤ 9223372036854775807; split; exact ⟨b1, b2⟩; exact W6.out.c j hj), W6.out.n, W6.out.lx, W6.out.ly, W6.out.lz, W6.out.sx, W6.out.sy, W6.out.sz, W6.out.g, W6.out.p, W6.out.ex, W6.out.ey, W6.out.ez, W6.out.a⟩
      refine code_of (fun w' => Bx w' P5 (frc { f with c := fun j => if j = 15 then b else f.c j }) FT ∧ Bx w' P (frc f) FT ∧ Bx w' A (frc raw) FT ∧ Qw w w') ⟨G6.out.set 15 _, F6.out.other nPF _, A6.out.other nPA _, Q6.out.setCell hP5 _⟩ ?_
      clear c0 f0 G6 F6 A6 Q6 W6 MN MB nPA nPF hP5
      generalize { f with c := fun j => if j = 15 then b else f.c j } = g at *
      rintro w7 ⟨G, F, X, Q7⟩
      have V1 := Lib.hid (fun w' => fmValid raw HR.out w')
      have V2 := Lib.hid (fun w' => rfValid raw HR.out w')
      have V3 : Hid (∀ w' : World, Calls Tryd.prog 16 #[.agg (frc f)] w' fun e w'' => e = .returned (.bool true) ∧ Qw w' w'') := Lib.hid (fun w' => by have := fmValid f G2.out.wf w'; rwa [G2.out.vld] at this)
      have V4 := Lib.hid (fun w' => fmValid g WG.out w')
      have V5 := Lib.hid (fun w' => rfValid g WG.out w')
      have O1 := Lib.hid (fun w' => fmOrigin f G2.out w')
      have O2 := Lib.hid (fun w' => rfOrigin f G2.out w')
      have AK : ∀ p : Kept w7, Calls Tryd.prog 12 #[] p.v fun e w'' => e = .returned (.bool true) ∧ Qw p.v w'' := fun p => AW.out _ (Qw.trans Q7 p.h)
      have AK2 := Lib.hid AK
      clear AK
      have HG := Lib.hid G
      have HF := Lib.hid F
      have HX := Lib.hid X
      have HQ := Lib.hid Q7
      clear G F X Q7
      generalize Fm.vldF raw = vr at *
      generalize Fm.vldF g = vg at *
      generalize Fm.ox f = o0 at *
      generalize Fm.oy f = o1 at *
      generalize Fm.oz f = o2 at *
      refine region_kept (by kernel_rfl) (by kernel_rfl) ?_
      repeat (first | (refine q_ldf 4 rfl rfl (fun w' h => h.elim fun p e => e ▸ HX.out.kept p.h) ?_; simp only [List.getElem_toArray, List.getElem_cons_succ, List.getElem_cons_zero, Act.put, List.setIfInBounds_toArray, List.set_cons_zero, List.set_cons_succ]) | (refine q_ldf 9 rfl rfl (fun w' h => h.elim fun p e => e ▸ HF.out.kept p.h) ?_; simp only [List.getElem_toArray, List.getElem_cons_succ, List.getElem_cons_zero, Act.put, List.setIfInBounds_toArray, List.set_cons_zero, List.set_cons_succ]) | (refine q_ldf 10 rfl rfl (fun w' h => h.elim fun p e => e ▸ HG.out.kept p.h) ?_; simp only [List.getElem_toArray, List.getElem_cons_succ, List.getElem_cons_zero, Act.put, List.setIfInBounds_toArray, List.set_cons_zero, List.set_cons_succ]) | (go_big_quiet_step (first | (go_at_call 12; with_reducible exact Kept.call (AK2.out _)) | (go_at_call 16; first | with_reducible exact Kept.call (V1.out _) | with_reducible exact Kept.call (V3.out _) | with_reducible exact Kept.call (V4.out _)) | (go_at_call 17; first | with_reducible exact Kept.call (V2.out _) | with_reducible exact Kept.call (V5.out _)) | (go_at_call 18; with_reducible exact Kept.call (O1.out _)) | (go_at_call 19; with_reducible exact Kept.call (O2.out _)))))
      refine wpQuiet_nil ?_
      intro w8 q8
      have HQ8 := Lib.hid (Qw.trans HQ.out q8)
      clear q8
      go_wp2
      go_ret
      exact ⟨rfl, HQ8.out⟩
  · have c0 := G6.out.cell' 30 (.int .i64 f.ez) rfl
    have f0 := G6.out.free 30
    go_upto_region 21 with (first | (go_at_call 15; ((with_reducible refine (MN.out _).mono ?_); rintro e w' ⟨rfl, rfl⟩)) | (go_at_call 15; ((with_reducible refine (MB.out _).mono ?_); rintro e w' ⟨rfl, rfl⟩)))
    have WG : Hid (Fm.Wf { f with ez := b }) := Lib.hid ⟨W6.out.c, W6.out.n, W6.out.lx, W6.out.ly, W6.out.lz, W6.out.sx, W6.out.sy, W6.out.sz, W6.out.g, W6.out.p, W6.out.ex, W6.out.ey, ⟨b1, b2⟩, W6.out.a⟩
    refine code_of (fun w' => Bx w' P5 (frc { f with ez := b }) FT ∧ Bx w' P (frc f) FT ∧ Bx w' A (frc raw) FT ∧ Qw w w') ⟨G6.out.set 30 _, F6.out.other nPF _, A6.out.other nPA _, Q6.out.setCell hP5 _⟩ ?_
    clear c0 f0 G6 F6 A6 Q6 W6 MN MB nPA nPF hP5
    generalize { f with ez := b } = g at *
    rintro w7 ⟨G, F, X, Q7⟩
    have V1 := Lib.hid (fun w' => fmValid raw HR.out w')
    have V2 := Lib.hid (fun w' => rfValid raw HR.out w')
    have V3 : Hid (∀ w' : World, Calls Tryd.prog 16 #[.agg (frc f)] w' fun e w'' => e = .returned (.bool true) ∧ Qw w' w'') := Lib.hid (fun w' => by have := fmValid f G2.out.wf w'; rwa [G2.out.vld] at this)
    have V4 := Lib.hid (fun w' => fmValid g WG.out w')
    have V5 := Lib.hid (fun w' => rfValid g WG.out w')
    have O1 := Lib.hid (fun w' => fmOrigin f G2.out w')
    have O2 := Lib.hid (fun w' => rfOrigin f G2.out w')
    have AK : ∀ p : Kept w7, Calls Tryd.prog 12 #[] p.v fun e w'' => e = .returned (.bool true) ∧ Qw p.v w'' := fun p => AW.out _ (Qw.trans Q7 p.h)
    have AK2 := Lib.hid AK
    clear AK
    have HG := Lib.hid G
    have HF := Lib.hid F
    have HX := Lib.hid X
    have HQ := Lib.hid Q7
    clear G F X Q7
    generalize Fm.vldF raw = vr at *
    generalize Fm.vldF g = vg at *
    generalize Fm.ox f = o0 at *
    generalize Fm.oy f = o1 at *
    generalize Fm.oz f = o2 at *
    refine region_kept (by kernel_rfl) (by kernel_rfl) ?_
    repeat (first | (refine q_ldf 4 rfl rfl (fun w' h => h.elim fun p e => e ▸ HX.out.kept p.h) ?_; simp only [List.getElem_toArray, List.getElem_cons_succ, List.getElem_cons_zero, Act.put, List.setIfInBounds_toArray, List.set_cons_zero, List.set_cons_succ]) | (refine q_ldf 9 rfl rfl (fun w' h => h.elim fun p e => e ▸ HF.out.kept p.h) ?_; simp only [List.getElem_toArray, List.getElem_cons_succ, List.getElem_cons_zero, Act.put, List.setIfInBounds_toArray, List.set_cons_zero, List.set_cons_succ]) | (refine q_ldf 10 rfl rfl (fun w' h => h.elim fun p e => e ▸ HG.out.kept p.h) ?_; simp only [List.getElem_toArray, List.getElem_cons_succ, List.getElem_cons_zero, Act.put, List.setIfInBounds_toArray, List.set_cons_zero, List.set_cons_succ]) | (go_big_quiet_step (first | (go_at_call 12; with_reducible exact Kept.call (AK2.out _)) | (go_at_call 16; first | with_reducible exact Kept.call (V1.out _) | with_reducible exact Kept.call (V3.out _) | with_reducible exact Kept.call (V4.out _)) | (go_at_call 17; first | with_reducible exact Kept.call (V2.out _) | with_reducible exact Kept.call (V5.out _)) | (go_at_call 18; with_reducible exact Kept.call (O1.out _)) | (go_at_call 19; with_reducible exact Kept.call (O2.out _)))))
    refine wpQuiet_nil ?_
    intro w8 q8
    have HQ8 := Lib.hid (Qw.trans HQ.out q8)
    clear q8
    go_wp2
    go_ret
    exact ⟨rfl, HQ8.out⟩

/-! ### the row and the card -/
theorem reads_frameValid (os : Os) {H : Type} (enc : TypeId × Value → H) : ∃ places, DataW.whole enc Tryd.prog ((laidWorldC os).forCall (fun _ _ => 0) ⟨#[], #[.agg #[.int .i64 0, .int .i64 0, .int .i64 0, .int .i64 0, .int .i64 0, .int .i64 0, .int .i64 0, .int .i64 0, .int .i64 0, .int .i64 0, .int .i64 0, .int .i64 0, .int .i64 0, .int .i64 0, .int .i64 0, .int .i64 0, .int .i64 0, .int .i64 0, .int .i64 0, .int .i64 0, .int .i64 0, .int .i64 0, .int .i64 0, .int .i64 0, .int .i64 0, .int .i64 0, .bool false, .int .i64 0, .int .i64 0, .int .i64 0, .int .i64 0, .int .i64 0], .slice none 0 0, .int .i64 0, .int .i64 0], []⟩).memory Tryd.f3.params.toList Rows.frameValidSpec.vars false #[(.agg #[.int .i64 0, .int .i64 0, .int .i64 0, .int .i64 0, .int .i64 0, .int .i64 0, .int .i64 0, .int .i64 0, .int .i64 0, .int .i64 0, .int .i64 0, .int .i64 0, .int .i64 0, .int .i64 0, .int .i64 0, .int .i64 0, .int .i64 0, .int .i64 0, .int .i64 0, .int .i64 0, .int .i64 0, .int .i64 0, .int .i64 0, .int .i64 0, .int .i64 0, .int .i64 0, .bool false, .int .i64 0, .int .i64 0, .int .i64 0, .int .i64 0, .int .i64 0] : Value), .slice none 0 0, .int .i64 0, .int .i64 0].toList 8 = some ([.agg [.agg [.agg [.lit (.int .i64 0), .lit (.int .i64 0), .lit (.int .i64 0)], .agg [.lit (.int .i64 0), .lit (.int .i64 0), .lit (.int .i64 0)], .agg [.lit (.int .i64 0), .lit (.int .i64 0), .lit (.int .i64 0)], .agg [.lit (.int .i64 0), .lit (.int .i64 0), .lit (.int .i64 0)], .agg [.lit (.int .i64 0), .lit (.int .i64 0), .lit (.int .i64 0)], .agg [.lit (.int .i64 0), .lit (.int .i64 0), .lit (.int .i64 0)]], .lit (.int .i64 0), .agg [.lit (.int .i64 0), .lit (.int .i64 0), .lit (.int .i64 0)], .agg [.lit (.int .i64 0), .lit (.int .i64 0), .lit (.int .i64 0)], .lit (.int .i64 0), .lit (.bool false), .lit (.int .i64 0), .agg [.lit (.int .i64 0), .lit (.int .i64 0), .lit (.int .i64 0)], .lit (.int .i64 0)], .nil, .lit (.int .i64 0), .lit (.int .i64 0)], [], places) :=
  ⟨[], by kernel_rfl⟩
set_option maxRecDepth 100000 in
theorem lifted_frameValid (os : Os) (started : os.Started) (H : Type) (enc : TypeId × Value → H) (F : Stop.Interp) :
    ReturnsInHanded {} Tryd.checked os 3 .any ((OpenSpec.ofChange Rows.frameValidSpec).preRow enc Tryd.prog Tryd.f3 Rows.frameValidRow.domain false Rows.frameValidRow.laid) (((OpenSpec.ofChange Rows.frameValidSpec).at F).post enc Tryd.prog Tryd.f3 false true false false) := by
  obtain ⟨places, hx⟩ := reads_frameValid os enc
  refine returnsInHanded_of_row (C := Tryd.checked) (s := OpenSpec.ofChange Rows.frameValidSpec) ownC started (by kernel_rfl) Tryd.func3
    (witness_row_at (enc := enc) (C := Tryd.checked) false (laidWorldC os) #[.agg #[.int .i64 0, .int .i64 0, .int .i64 0, .int .i64 0, .int .i64 0, .int .i64 0, .int .i64 0, .int .i64 0, .int .i64 0, .int .i64 0, .int .i64 0, .int .i64 0, .int .i64 0, .int .i64 0, .int .i64 0, .int .i64 0, .int .i64 0, .int .i64 0, .int .i64 0, .int .i64 0, .int .i64 0, .int .i64 0, .int .i64 0, .int .i64 0, .int .i64 0, .int .i64 0, .bool false, .int .i64 0, .int .i64 0, .int .i64 0, .int .i64 0, .int .i64 0], .slice none 0 0, .int .i64 0, .int .i64 0] rfl (by kernel_rfl) (by kernel_rfl) (by kernel_rfl)
      (OpenSpec.preRow_of_cond 8 hx (by kernel_rfl) (fun k hk => by cases hk) (by kernel_rfl) (laid_metC os _))) ?_
  intro W base args ds gs before hval0 hW _ _ _ hL _ _
  have ht : Tc W := tableC hL
  have hval : ∀ (j : Nat) t v, Tryd.f3.params[j]? = some t → args[j]? = some v → Value.okWide Tryd.prog W .any base t v := hval0
  have hW' := hW
  obtain ⟨p, q, hA0, hV, rfl, hfz, hnd⟩ := hW
  have hA : DataW.TrodAll enc Tryd.prog W 0 (fun _ => true) true Tryd.f3.params.toList args.toList ds p := hA0
  rw [Tryd.params3] at hA hval
  obtain ⟨v0, vs0, d0, ds0, p0, q0, hargs, rfl, rfl, h0, r0⟩ := trodAll_cons hA
  obtain ⟨v1, vs1, d1, ds1, p1, q1, rfl, rfl, rfl, h1, r1⟩ := trodAll_cons r0
  obtain ⟨v2, vs2, d2, ds2, p2, q2, rfl, rfl, rfl, h2, r2⟩ := trodAll_cons r1
  obtain ⟨v3, vs3, d3, ds3, p3, q3, rfl, rfl, rfl, h3, r3⟩ := trodAll_cons r2
  obtain ⟨rfl, rfl, rfl⟩ := trodAll_nil r3
  obtain rfl : args = #[v0, v1, v2, v3] := by cases args; simp_all
  obtain ⟨rfl, rfl⟩ := trodVars_none hV
  obtain ⟨s0, hs0, hf0⟩ := open_fr (hval 0 26 v0 rfl rfl) h0
  subst hs0
  obtain ⟨u1, hu1⟩ := inM_ints (hval 1 27 v1 rfl rfl) h1
  obtain ⟨a2, rfl, rfl, rfl, w2⟩ := open_int Tryd.underlying3 (hval 2 3 v2 rfl rfl) h2
  obtain ⟨x2, y2⟩ := i64_wfC w2
  obtain ⟨a3, rfl, rfl, rfl, w3⟩ := open_int Tryd.underlying3 (hval 3 3 v3 rfl rfl) h3
  obtain ⟨x3, y3⟩ := i64_wfC w3
  clear hA0 hval0 hL
  simp only [List.append_nil] at hW'
  refine (walk_frameValid s0 v1 u1 a2 x2 y2 a3 x3 y3 W hf0 hu1 ht).mono fun e W' ⟨he, bel⟩ => ?_
  subst he
  exact ⟨_, rfl, _, _, _, [], _, [], hW', trodAll_mk1 (shut_bool Tryd.underlying4 _), (trodAll_cons_mk (out_fr h0 bel (fun x hx => hW'.lt x (by first | exact hx | simp [hx]))) (trodAll_cons_mk (outM_ints h1 bel (fun x hx => hW'.lt x (by first | exact hx | simp [hx]))) (trodAll_cons_mk (shut_int Tryd.underlying3 w2) (trodAll_cons_mk (shut_int Tryd.underlying3 w3) trodAll_mk0)))), rfl, Below.frame bel _, fun h => by cases h⟩

theorem frameValid_said : Rows.FrameValidSaid :=
  OpenClaim.holds_of_cond 3 Tryd.f3 rfl rfl rfl rfl rfl rfl rfl ⟨rfl, rfl, rfl, rfl, rfl⟩ rfl rfl rfl rfl rfl (by kernel_rfl) Tryd.func3 (by kernel_rfl)
    (of_decide_eq_true (by kernel_rfl)) (by unfold Func.isWrapper; first | (rw [if_pos (by decide +kernel)]; kernel_rfl) | (rw [if_neg (by decide +kernel)]; exact ⟨rfl, rfl⟩))
    (fun os started H enc _ F => by rw [OpenClaim.pre_eq_preRow]; exact lifted_frameValid os started H enc F)

theorem plain_frameValid (f : FuncId) (fn : Func) (hf : Tryd.pinned.checked.prog.funcNamed "cnc/cnclaw12.FrameValid" = some f) (hfn : Tryd.pinned.checked.prog.funcs[f]? = some fn) :
    false = Tryd.pinned.checked.prog.looks [] ∧ ∀ (j : Nat) t, fn.params[j]? = some t → Tryd.pinned.checked.prog.wantsStandIn t = false := by
  obtain rfl : f = 3 := Option.some.inj ((show Tryd.prog.funcNamed "cnc/cnclaw12.FrameValid" = some 3 by kernel_rfl).symm.trans hf) |>.symm
  obtain rfl : fn = Tryd.f3 := (Option.some.inj (Tryd.func3.symm.trans hfn)).symm
  refine ⟨by kernel_rfl, fun j t ht => ?_⟩
  rw [Tryd.params3] at ht
  have hm : t = 26 ∨ t = 27 ∨ t = 3 := by simpa using Array.mem_of_getElem? ht
  rcases hm with rfl | rfl | rfl
  · exact (show Tryd.prog.wantsStandIn 26 = false by kernel_rfl)
  · exact (show Tryd.prog.wantsStandIn 27 = false by kernel_rfl)
  · exact (show Tryd.prog.wantsStandIn 3 = false by kernel_rfl)

/-- The statement. -/
theorem frameValid_card : Rows.FrameValidCardSaid :=
  Claim7.holds_tied_plain_at .later [] _ _ _ _ frameValid_said (fun _ h => by cases h) (by kernel_rfl) (fun _ h => by cases h) frameValid_row_tie rfl ⟨rfl, rfl⟩ (by kernel_rfl) rfl plain_frameValid (by kernel_rfl)

end Go.Proofs.YtnjcbgnghfppoaaDoor
