
/- The walks of package modal's codes. -/
import Derived.Test.YtijakijjeoaikaaMdB
import Derived.Test.YtijakijjeoaikaaMdM
set_option linter.unusedVariables false
set_option linter.unusedSimpArgs false
namespace Go.Proofs.Ytijakijjeoaikaa
open Go.RowKit

set_option maxRecDepth 100000 in
set_option maxHeartbeats 4000000 in
theorem mdCoolant (s : Md.S) (c : Int) (w : World) : Calls Try.prog 72 #[.agg (mdc s), .int .i64 c] w fun e w' => e = .returned (.agg (mdc (Md.wcl s c))) ∧ Qw w w' := by
  unfold Md.wcl
  by_cases h7 : c = 7
  · rw [if_pos h7]
    subst h7
    go_enter Try.func72, Try.ntmps72
    go_wp2_with (first | (refine two_start 0 rfl ?_; intro w1 P R T; have T1 := Lib.hid T; have f13 := T.bp.free 13; have c13 := T.cell 13 _ rfl; clear T) | (refine ld_md 2 rfl (T1.out.setP 13 _ ({ s with mi := true }) rfl).bp ?_) | (refine st_R 4 16 (T1.out.setP 13 _ ({ s with mi := true }) rfl) rfl rfl ?_; intro w3 T; have T3 := Lib.hid T; clear T))
    exact bodyPost_ret (ret_m1 4 Try.results72 rfl T3.out.br) rfl ⟨rfl, T3.out.q⟩
  by_cases h8 : c = 8
  · rw [if_neg h7, if_pos h8]
    subst h8
    go_enter Try.func72, Try.ntmps72
    go_wp2_with (first | (refine two_start 0 rfl ?_; intro w1 P R T; have T1 := Lib.hid T; have f14 := T.bp.free 14; have c14 := T.cell 14 _ rfl; clear T) | (refine ld_md 2 rfl (T1.out.setP 14 _ ({ s with fl := true }) rfl).bp ?_) | (refine st_R 4 16 (T1.out.setP 14 _ ({ s with fl := true }) rfl) rfl rfl ?_; intro w3 T; have T3 := Lib.hid T; clear T))
    exact bodyPost_ret (ret_m1 4 Try.results72 rfl T3.out.br) rfl ⟨rfl, T3.out.q⟩
  by_cases h9 : c = 9
  · rw [if_neg h7, if_neg h8, if_pos h9]
    subst h9
    go_enter Try.func72, Try.ntmps72
    go_wp2_with (first | (refine two_start 0 rfl ?_; intro w1 P R T; have T1 := Lib.hid T; have f13 := T.bp.free 13; have c13 := T.cell 13 _ rfl; have f14 := T.bp.free 14; have c14 := T.cell 14 _ rfl; clear T) | (refine ld_md 2 rfl ((T1.out.setP 13 _ ({ s with mi := false }) rfl).setP 14 _ ({ { s with mi := false } with fl := false }) rfl).bp ?_) | (refine st_R 4 16 ((T1.out.setP 13 _ ({ s with mi := false }) rfl).setP 14 _ ({ { s with mi := false } with fl := false }) rfl) rfl rfl ?_; intro w3 T; have T3 := Lib.hid T; clear T))
    exact bodyPost_ret (ret_m1 4 Try.results72 rfl T3.out.br) rfl ⟨rfl, T3.out.q⟩
  rw [if_neg h7, if_neg h8, if_neg h9]
  have z7 : (c == 7) = false := beq_eq_false_iff_ne.2 h7
  have z8 : (c == 8) = false := beq_eq_false_iff_ne.2 h8
  have z9 : (c == 9) = false := beq_eq_false_iff_ne.2 h9
  go_enter Try.func72, Try.ntmps72
  go_wp2_with (first | (refine two_start 0 rfl ?_; intro w1 P R T; have T1 := Lib.hid T; clear T) | (refine ld_md 2 rfl T1.out.bp ?_) | (refine st_R 4 16 T1.out rfl rfl ?_; intro w3 T; have T3 := Lib.hid T; clear T))
  exact bodyPost_ret (ret_m1 4 Try.results72 rfl T3.out.br) rfl ⟨rfl, T3.out.q⟩
set_option maxRecDepth 100000 in
set_option maxHeartbeats 4000000 in
theorem mdCode_g1 (s : Md.S) (l c : Int) (w : World) (hg : Md.grp l c = 1) : Calls Try.prog 50 #[.agg (mdc s), .int .i64 l, .int .i64 c] w fun e w' => e = .returned (.agg (mdc ({ s with mo := c }))) ∧ Qw w w' := by
  have GG := Lib.hid (mdGroup l c)
  rw [hg] at GG
  clear hg
  go_enter Try.func50, Try.ntmps50
  go_wp2_with (first | (refine two_start 0 rfl ?_; intro w1 P R T; have T1 := Lib.hid T; have f0 := T.bp.free 0; have c0 := T.cell 0 _ rfl; clear T) | (go_at_call 19; ((with_reducible refine (GG.out _).mono ?_); rintro e w' ⟨rfl, rfl⟩)) | (refine ld_md 3 rfl (T1.out.setP 0 _ ({ s with mo := c }) rfl).bp ?_) | (refine st_R 6 74 (T1.out.setP 0 _ ({ s with mo := c }) rfl) rfl rfl ?_; intro w3 T; have T3 := Lib.hid T; clear T))
  exact bodyPost_ret (ret_m1 6 Try.results50 rfl T3.out.br) rfl ⟨rfl, T3.out.q⟩
set_option maxRecDepth 100000 in
set_option maxHeartbeats 4000000 in
theorem mdCode_g2 (s : Md.S) (l c : Int) (w : World) (hg : Md.grp l c = 2) : Calls Try.prog 50 #[.agg (mdc s), .int .i64 l, .int .i64 c] w fun e w' => e = .returned (.agg (mdc ({ s with pl := c }))) ∧ Qw w w' := by
  have GG := Lib.hid (mdGroup l c)
  rw [hg] at GG
  clear hg
  go_enter Try.func50, Try.ntmps50
  go_wp2_with (first | (refine two_start 0 rfl ?_; intro w1 P R T; have T1 := Lib.hid T; have f1 := T.bp.free 1; have c1 := T.cell 1 _ rfl; clear T) | (go_at_call 19; ((with_reducible refine (GG.out _).mono ?_); rintro e w' ⟨rfl, rfl⟩)) | (refine ld_md 3 rfl (T1.out.setP 1 _ ({ s with pl := c }) rfl).bp ?_) | (refine st_R 6 74 (T1.out.setP 1 _ ({ s with pl := c }) rfl) rfl rfl ?_; intro w3 T; have T3 := Lib.hid T; clear T))
  exact bodyPost_ret (ret_m1 6 Try.results50 rfl T3.out.br) rfl ⟨rfl, T3.out.q⟩
set_option maxRecDepth 100000 in
set_option maxHeartbeats 4000000 in
theorem mdCode_g3 (s : Md.S) (l c : Int) (w : World) (hg : Md.grp l c = 3) : Calls Try.prog 50 #[.agg (mdc s), .int .i64 l, .int .i64 c] w fun e w' => e = .returned (.agg (mdc ({ s with di := c }))) ∧ Qw w w' := by
  have GG := Lib.hid (mdGroup l c)
  rw [hg] at GG
  clear hg
  go_enter Try.func50, Try.ntmps50
  go_wp2_with (first | (refine two_start 0 rfl ?_; intro w1 P R T; have T1 := Lib.hid T; have f2 := T.bp.free 2; have c2 := T.cell 2 _ rfl; clear T) | (go_at_call 19; ((with_reducible refine (GG.out _).mono ?_); rintro e w' ⟨rfl, rfl⟩)) | (refine ld_md 3 rfl (T1.out.setP 2 _ ({ s with di := c }) rfl).bp ?_) | (refine st_R 6 74 (T1.out.setP 2 _ ({ s with di := c }) rfl) rfl rfl ?_; intro w3 T; have T3 := Lib.hid T; clear T))
  exact bodyPost_ret (ret_m1 6 Try.results50 rfl T3.out.br) rfl ⟨rfl, T3.out.q⟩
set_option maxRecDepth 100000 in
set_option maxHeartbeats 4000000 in
theorem mdCode_g4 (s : Md.S) (l c : Int) (w : World) (hg : Md.grp l c = 4) : Calls Try.prog 50 #[.agg (mdc s), .int .i64 l, .int .i64 c] w fun e w' => e = .returned (.agg (mdc ({ s with un := c }))) ∧ Qw w w' := by
  have GG := Lib.hid (mdGroup l c)
  rw [hg] at GG
  clear hg
  go_enter Try.func50, Try.ntmps50
  go_wp2_with (first | (refine two_start 0 rfl ?_; intro w1 P R T; have T1 := Lib.hid T; have f3 := T.bp.free 3; have c3 := T.cell 3 _ rfl; clear T) | (go_at_call 19; ((with_reducible refine (GG.out _).mono ?_); rintro e w' ⟨rfl, rfl⟩)) | (refine ld_md 3 rfl (T1.out.setP 3 _ ({ s with un := c }) rfl).bp ?_) | (refine st_R 6 74 (T1.out.setP 3 _ ({ s with un := c }) rfl) rfl rfl ?_; intro w3 T; have T3 := Lib.hid T; clear T))
  exact bodyPost_ret (ret_m1 6 Try.results50 rfl T3.out.br) rfl ⟨rfl, T3.out.q⟩
set_option maxRecDepth 100000 in
set_option maxHeartbeats 4000000 in
theorem mdCode_g5 (s : Md.S) (l c : Int) (w : World) (hg : Md.grp l c = 5) : Calls Try.prog 50 #[.agg (mdc s), .int .i64 l, .int .i64 c] w fun e w' => e = .returned (.agg (mdc ({ s with fe := c }))) ∧ Qw w w' := by
  have GG := Lib.hid (mdGroup l c)
  rw [hg] at GG
  clear hg
  go_enter Try.func50, Try.ntmps50
  go_wp2_with (first | (refine two_start 0 rfl ?_; intro w1 P R T; have T1 := Lib.hid T; have f4 := T.bp.free 4; have c4 := T.cell 4 _ rfl; clear T) | (go_at_call 19; ((with_reducible refine (GG.out _).mono ?_); rintro e w' ⟨rfl, rfl⟩)) | (refine ld_md 3 rfl (T1.out.setP 4 _ ({ s with fe := c }) rfl).bp ?_) | (refine st_R 6 74 (T1.out.setP 4 _ ({ s with fe := c }) rfl) rfl rfl ?_; intro w3 T; have T3 := Lib.hid T; clear T))
  exact bodyPost_ret (ret_m1 6 Try.results50 rfl T3.out.br) rfl ⟨rfl, T3.out.q⟩
end Go.Proofs.Ytijakijjeoaikaa
