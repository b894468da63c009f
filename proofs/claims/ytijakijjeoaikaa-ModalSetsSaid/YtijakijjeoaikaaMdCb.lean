
/- The walks of package modal's codes. -/
import Derived.Test.YtijakijjeoaikaaMdB
import Derived.Test.YtijakijjeoaikaaMdM
set_option linter.unusedVariables false
set_option linter.unusedSimpArgs false
namespace Go.Proofs.Ytijakijjeoaikaa
open Go.RowKit

set_option maxRecDepth 100000 in
set_option maxHeartbeats 4000000 in
theorem mdCode_g8 (s : Md.S) (l c : Int) (w : World) (hg : Md.grp l c = 8) : Calls Try.prog 50 #[.agg (mdc s), .int .i64 l, .int .i64 c] w fun e w' => e = .returned (.agg (mdc ({ s with re := c }))) ∧ Qw w w' := by
  have GG := Lib.hid (mdGroup l c)
  rw [hg] at GG
  clear hg
  go_enter Try.func50, Try.ntmps50
  go_wp2_with (first | (refine two_start 0 rfl ?_; intro w1 P R T; have T1 := Lib.hid T; have f7 := T.bp.free 7; have c7 := T.cell 7 _ rfl; clear T) | (go_at_call 19; ((with_reducible refine (GG.out _).mono ?_); rintro e w' ⟨rfl, rfl⟩)) | (refine ld_md 3 rfl (T1.out.setP 7 _ ({ s with re := c }) rfl).bp ?_) | (refine st_R 6 74 (T1.out.setP 7 _ ({ s with re := c }) rfl) rfl rfl ?_; intro w3 T; have T3 := Lib.hid T; clear T))
  exact bodyPost_ret (ret_m1 6 Try.results50 rfl T3.out.br) rfl ⟨rfl, T3.out.q⟩
set_option maxRecDepth 100000 in
set_option maxHeartbeats 4000000 in
theorem mdCode_g9 (s : Md.S) (l c : Int) (w : World) (hg : Md.grp l c = 9) : Calls Try.prog 50 #[.agg (mdc s), .int .i64 l, .int .i64 c] w fun e w' => e = .returned (.agg (mdc ({ s with sy := c }))) ∧ Qw w w' := by
  have GG := Lib.hid (mdGroup l c)
  rw [hg] at GG
  clear hg
  go_enter Try.func50, Try.ntmps50
  go_wp2_with (first | (refine two_start 0 rfl ?_; intro w1 P R T; have T1 := Lib.hid T; have f8 := T.bp.free 8; have c8 := T.cell 8 _ rfl; clear T) | (go_at_call 19; ((with_reducible refine (GG.out _).mono ?_); rintro e w' ⟨rfl, rfl⟩)) | (refine ld_md 3 rfl (T1.out.setP 8 _ ({ s with sy := c }) rfl).bp ?_) | (refine st_R 6 74 (T1.out.setP 8 _ ({ s with sy := c }) rfl) rfl rfl ?_; intro w3 T; have T3 := Lib.hid T; clear T))
  exact bodyPost_ret (ret_m1 6 Try.results50 rfl T3.out.br) rfl ⟨rfl, T3.out.q⟩
set_option maxRecDepth 100000 in
set_option maxHeartbeats 4000000 in
theorem mdCode_g11 (s : Md.S) (l c : Int) (w : World) (hg : Md.grp l c = 11) : Calls Try.prog 50 #[.agg (mdc s), .int .i64 l, .int .i64 c] w fun e w' => e = .returned (.agg (mdc ({ s with po := c }))) ∧ Qw w w' := by
  have GG := Lib.hid (mdGroup l c)
  rw [hg] at GG
  clear hg
  go_enter Try.func50, Try.ntmps50
  go_wp2_with (first | (refine two_start 0 rfl ?_; intro w1 P R T; have T1 := Lib.hid T; have f10 := T.bp.free 10; have c10 := T.cell 10 _ rfl; clear T) | (go_at_call 19; ((with_reducible refine (GG.out _).mono ?_); rintro e w' ⟨rfl, rfl⟩)) | (refine ld_md 3 rfl (T1.out.setP 10 _ ({ s with po := c }) rfl).bp ?_) | (refine st_R 6 74 (T1.out.setP 10 _ ({ s with po := c }) rfl) rfl rfl ?_; intro w3 T; have T3 := Lib.hid T; clear T))
  exact bodyPost_ret (ret_m1 6 Try.results50 rfl T3.out.br) rfl ⟨rfl, T3.out.q⟩
set_option maxRecDepth 100000 in
set_option maxHeartbeats 4000000 in
theorem mdCode_g12 (s : Md.S) (l c : Int) (w : World) (hg : Md.grp l c = 12) : Calls Try.prog 50 #[.agg (mdc s), .int .i64 l, .int .i64 c] w fun e w' => e = .returned (.agg (mdc ({ s with tu := c }))) ∧ Qw w w' := by
  have GG := Lib.hid (mdGroup l c)
  rw [hg] at GG
  clear hg
  go_enter Try.func50, Try.ntmps50
  go_wp2_with (first | (refine two_start 0 rfl ?_; intro w1 P R T; have T1 := Lib.hid T; have f11 := T.bp.free 11; have c11 := T.cell 11 _ rfl; clear T) | (go_at_call 19; ((with_reducible refine (GG.out _).mono ?_); rintro e w' ⟨rfl, rfl⟩)) | (refine ld_md 3 rfl (T1.out.setP 11 _ ({ s with tu := c }) rfl).bp ?_) | (refine st_R 6 74 (T1.out.setP 11 _ ({ s with tu := c }) rfl) rfl rfl ?_; intro w3 T; have T3 := Lib.hid T; clear T))
  exact bodyPost_ret (ret_m1 6 Try.results50 rfl T3.out.br) rfl ⟨rfl, T3.out.q⟩
set_option maxRecDepth 100000 in
set_option maxHeartbeats 4000000 in
theorem mdCode_g22 (s : Md.S) (l c : Int) (w : World) (hg : Md.grp l c = 22) : Calls Try.prog 50 #[.agg (mdc s), .int .i64 l, .int .i64 c] w fun e w' => e = .returned (.agg (mdc ({ s with sp := c }))) ∧ Qw w w' := by
  have GG := Lib.hid (mdGroup l c)
  rw [hg] at GG
  clear hg
  go_enter Try.func50, Try.ntmps50
  go_wp2_with (first | (refine two_start 0 rfl ?_; intro w1 P R T; have T1 := Lib.hid T; have f12 := T.bp.free 12; have c12 := T.cell 12 _ rfl; clear T) | (go_at_call 19; ((with_reducible refine (GG.out _).mono ?_); rintro e w' ⟨rfl, rfl⟩)) | (refine ld_md 3 rfl (T1.out.setP 12 _ ({ s with sp := c }) rfl).bp ?_) | (refine st_R 6 74 (T1.out.setP 12 _ ({ s with sp := c }) rfl) rfl rfl ?_; intro w3 T; have T3 := Lib.hid T; clear T))
  exact bodyPost_ret (ret_m1 6 Try.results50 rfl T3.out.br) rfl ⟨rfl, T3.out.q⟩
set_option maxRecDepth 100000 in
set_option maxHeartbeats 4000000 in
theorem mdCode_g6a (s : Md.S) (l c : Int) (hc : c = 40) (w : World) (hg : Md.grp l c = 6) : Calls Try.prog 50 #[.agg (mdc s), .int .i64 l, .int .i64 c] w fun e w' => e = .returned (.agg (mdc ({ { s with cu := 40 } with d := 0 }))) ∧ Qw w w' := by
  have GG := Lib.hid (mdGroup l c)
  rw [hg] at GG
  clear hg
  subst hc
  go_enter Try.func50, Try.ntmps50
  go_wp2_with (first | (refine two_start 0 rfl ?_; intro w1 P R T; have T1 := Lib.hid T; have f5 := T.bp.free 5; have c5 := T.cell 5 _ rfl; have f21 := T.bp.free 21; have c21 := T.cell 21 _ rfl; clear T) | (go_at_call 19; ((with_reducible refine (GG.out _).mono ?_); rintro e w' ⟨rfl, rfl⟩)) | (refine ld_md 3 rfl ((T1.out.setP 5 _ ({ s with cu := 40 }) rfl).setP 21 _ ({ { s with cu := 40 } with d := 0 }) rfl).bp ?_) | (refine st_R 6 74 ((T1.out.setP 5 _ ({ s with cu := 40 }) rfl).setP 21 _ ({ { s with cu := 40 } with d := 0 }) rfl) rfl rfl ?_; intro w3 T; have T3 := Lib.hid T; clear T))
  exact bodyPost_ret (ret_m1 6 Try.results50 rfl T3.out.br) rfl ⟨rfl, T3.out.q⟩
end Go.Proofs.Ytijakijjeoaikaa
