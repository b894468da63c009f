
/- The walks of package modal's codes. -/
import Derived.Test.YtijakijjeoaikaaMdB
import Derived.Test.YtijakijjeoaikaaMdM
import Derived.Test.YtijakijjeoaikaaMdCa
import Derived.Test.YtijakijjeoaikaaMdCb
set_option linter.unusedVariables false
set_option linter.unusedSimpArgs false
namespace Go.Proofs.Ytijakijjeoaikaa
open Go.RowKit

set_option maxRecDepth 100000 in
set_option maxHeartbeats 4000000 in
theorem mdCode_g6b (s : Md.S) (l c : Int) (hc : c ≠ 40) (w : World) (hg : Md.grp l c = 6) : Calls Try.prog 50 #[.agg (mdc s), .int .i64 l, .int .i64 c] w fun e w' => e = .returned (.agg (mdc ({ s with cu := c }))) ∧ Qw w w' := by
  have GG := Lib.hid (mdGroup l c)
  rw [hg] at GG
  clear hg
  have z : (c == 40) = false := beq_eq_false_iff_ne.2 hc
  clear hc
  go_enter Try.func50, Try.ntmps50
  go_wp2_with (first | (refine two_start 0 rfl ?_; intro w1 P R T; have T1 := Lib.hid T; have f5 := T.bp.free 5; have c5 := T.cell 5 _ rfl; clear T) | (go_at_call 19; ((with_reducible refine (GG.out _).mono ?_); rintro e w' ⟨rfl, rfl⟩)) | (refine ld_md 3 rfl (T1.out.setP 5 _ ({ s with cu := c }) rfl).bp ?_) | (refine st_R 6 74 (T1.out.setP 5 _ ({ s with cu := c }) rfl) rfl rfl ?_; intro w3 T; have T3 := Lib.hid T; clear T))
  exact bodyPost_ret (ret_m1 6 Try.results50 rfl T3.out.br) rfl ⟨rfl, T3.out.q⟩
set_option maxRecDepth 100000 in
set_option maxHeartbeats 4000000 in
theorem mdCode_g7a (s : Md.S) (l c : Int) (hc : c = 49) (w : World) (hg : Md.grp l c = 7) : Calls Try.prog 50 #[.agg (mdc s), .int .i64 l, .int .i64 c] w fun e w' => e = .returned (.agg (mdc ({ { s with le := 49 } with h := 0 }))) ∧ Qw w w' := by
  have GG := Lib.hid (mdGroup l c)
  rw [hg] at GG
  clear hg
  subst hc
  go_enter Try.func50, Try.ntmps50
  go_wp2_with (first | (refine two_start 0 rfl ?_; intro w1 P R T; have T1 := Lib.hid T; have f6 := T.bp.free 6; have c6 := T.cell 6 _ rfl; have f20 := T.bp.free 20; have c20 := T.cell 20 _ rfl; clear T) | (go_at_call 19; ((with_reducible refine (GG.out _).mono ?_); rintro e w' ⟨rfl, rfl⟩)) | (refine ld_md 3 rfl ((T1.out.setP 6 _ ({ s with le := 49 }) rfl).setP 20 _ ({ { s with le := 49 } with h := 0 }) rfl).bp ?_) | (refine st_R 6 74 ((T1.out.setP 6 _ ({ s with le := 49 }) rfl).setP 20 _ ({ { s with le := 49 } with h := 0 }) rfl) rfl rfl ?_; intro w3 T; have T3 := Lib.hid T; clear T))
  exact bodyPost_ret (ret_m1 6 Try.results50 rfl T3.out.br) rfl ⟨rfl, T3.out.q⟩
set_option maxRecDepth 100000 in
set_option maxHeartbeats 4000000 in
theorem mdCode_g7b (s : Md.S) (l c : Int) (hc : c ≠ 49) (w : World) (hg : Md.grp l c = 7) : Calls Try.prog 50 #[.agg (mdc s), .int .i64 l, .int .i64 c] w fun e w' => e = .returned (.agg (mdc ({ s with le := c }))) ∧ Qw w w' := by
  have GG := Lib.hid (mdGroup l c)
  rw [hg] at GG
  clear hg
  have z : (c == 49) = false := beq_eq_false_iff_ne.2 hc
  clear hc
  go_enter Try.func50, Try.ntmps50
  go_wp2_with (first | (refine two_start 0 rfl ?_; intro w1 P R T; have T1 := Lib.hid T; have f6 := T.bp.free 6; have c6 := T.cell 6 _ rfl; clear T) | (go_at_call 19; ((with_reducible refine (GG.out _).mono ?_); rintro e w' ⟨rfl, rfl⟩)) | (refine ld_md 3 rfl (T1.out.setP 6 _ ({ s with le := c }) rfl).bp ?_) | (refine st_R 6 74 (T1.out.setP 6 _ ({ s with le := c }) rfl) rfl rfl ?_; intro w3 T; have T3 := Lib.hid T; clear T))
  exact bodyPost_ret (ret_m1 6 Try.results50 rfl T3.out.br) rfl ⟨rfl, T3.out.q⟩
set_option maxRecDepth 100000 in
set_option maxHeartbeats 4000000 in
theorem mdCode_g10 (s : Md.S) (l c : Int) (w : World) (hg : Md.grp l c = 10) : Calls Try.prog 50 #[.agg (mdc s), .int .i64 l, .int .i64 c] w fun e w' => e = .returned (.agg (mdc ({ { s with pa := c } with bl := 0 }))) ∧ Qw w w' := by
  have GG := Lib.hid (mdGroup l c)
  rw [hg] at GG
  clear hg
  go_enter Try.func50, Try.ntmps50
  go_wp2_with (first | (refine two_start 0 rfl ?_; intro w1 P R T; have T1 := Lib.hid T; have f9 := T.bp.free 9; have c9 := T.cell 9 _ rfl; have f15 := T.bp.free 15; have c15 := T.cell 15 _ rfl; clear T) | (go_at_call 19; ((with_reducible refine (GG.out _).mono ?_); rintro e w' ⟨rfl, rfl⟩)) | (refine ld_md 3 rfl ((T1.out.setP 9 _ ({ s with pa := c }) rfl).setP 15 _ ({ { s with pa := c } with bl := 0 }) rfl).bp ?_) | (refine st_R 6 74 ((T1.out.setP 9 _ ({ s with pa := c }) rfl).setP 15 _ ({ { s with pa := c } with bl := 0 }) rfl) rfl rfl ?_; intro w3 T; have T3 := Lib.hid T; clear T))
  exact bodyPost_ret (ret_m1 6 Try.results50 rfl T3.out.br) rfl ⟨rfl, T3.out.q⟩
set_option maxRecDepth 100000 in
set_option maxHeartbeats 4000000 in
theorem mdCode_g24 (s : Md.S) (l c : Int) (w : World) (hg : Md.grp l c = 24) : Calls Try.prog 50 #[.agg (mdc s), .int .i64 l, .int .i64 c] w fun e w' => e = .returned (.agg (mdc (Md.wcl s c))) ∧ Qw w w' := by
  have GG := Lib.hid (mdGroup l c)
  rw [hg] at GG
  clear hg
  have CO := Lib.hid (mdCoolant s c)
  go_enter Try.func50, Try.ntmps50
  go_wp2_with (first | (refine two_start 0 rfl ?_; intro w1 P R T; have T1 := Lib.hid T; clear T) | (go_at_call 19; ((with_reducible refine (GG.out _).mono ?_); rintro e w' ⟨rfl, rfl⟩)) | (refine ld_md 3 rfl T1.out.bp ?_) | (go_at_call 72; ((with_reducible refine (CO.out _).mono ?_); rintro e w2 ⟨rfl, q⟩; have T2 := Lib.hid (T1.out.kept q); clear q)) | (refine st_P 3 73 T2.out rfl rfl ?_; intro w3 T; have T3 := Lib.hid T; clear T) | (refine ld_md 3 rfl T3.out.bp ?_) | (refine st_R 6 74 T3.out rfl rfl ?_; intro w4 T; have T4 := Lib.hid T; clear T))
  exact bodyPost_ret (ret_m1 6 Try.results50 rfl T4.out.br) rfl ⟨rfl, T4.out.q⟩
set_option maxRecDepth 100000 in
set_option maxHeartbeats 4000000 in
theorem mdCode_no (s : Md.S) (l c g : Int) (w : World) (hg : Md.grp l c = g) (hn : g ≠ 1 ∧ g ≠ 2 ∧ g ≠ 3 ∧ g ≠ 4 ∧ g ≠ 5 ∧ g ≠ 6 ∧ g ≠ 7 ∧ g ≠ 8 ∧ g ≠ 9 ∧ g ≠ 10 ∧ g ≠ 11 ∧ g ≠ 12 ∧ g ≠ 22 ∧ g ≠ 24) : Calls Try.prog 50 #[.agg (mdc s), .int .i64 l, .int .i64 c] w fun e w' => e = .returned (.agg (mdc s)) ∧ Qw w w' := by
  have GG := Lib.hid (mdGroup l c)
  rw [hg] at GG
  have z1 : (g == 1) = false := beq_eq_false_iff_ne.2 (by omega)
  have z2 : (g == 2) = false := beq_eq_false_iff_ne.2 (by omega)
  have z3 : (g == 3) = false := beq_eq_false_iff_ne.2 (by omega)
  have z4 : (g == 4) = false := beq_eq_false_iff_ne.2 (by omega)
  have z5 : (g == 5) = false := beq_eq_false_iff_ne.2 (by omega)
  have z6 : (g == 6) = false := beq_eq_false_iff_ne.2 (by omega)
  have z7 : (g == 7) = false := beq_eq_false_iff_ne.2 (by omega)
  have z8 : (g == 8) = false := beq_eq_false_iff_ne.2 (by omega)
  have z9 : (g == 9) = false := beq_eq_false_iff_ne.2 (by omega)
  have z10 : (g == 10) = false := beq_eq_false_iff_ne.2 (by omega)
  have z11 : (g == 11) = false := beq_eq_false_iff_ne.2 (by omega)
  have z12 : (g == 12) = false := beq_eq_false_iff_ne.2 (by omega)
  have z22 : (g == 22) = false := beq_eq_false_iff_ne.2 (by omega)
  have z24 : (g == 24) = false := beq_eq_false_iff_ne.2 (by omega)
  clear hg hn
  go_enter Try.func50, Try.ntmps50
  go_wp2_with (first | (refine two_start 0 rfl ?_; intro w1 P R T; have T1 := Lib.hid T; clear T) | (go_at_call 19; ((with_reducible refine (GG.out _).mono ?_); rintro e w' ⟨rfl, rfl⟩)) | (refine ld_md 3 rfl T1.out.bp ?_) | (refine st_R 6 74 T1.out rfl rfl ?_; intro w3 T; have T3 := Lib.hid T; clear T))
  exact bodyPost_ret (ret_m1 6 Try.results50 rfl T3.out.br) rfl ⟨rfl, T3.out.q⟩
theorem mdWithCode (s : Md.S) (l c : Int) (w : World) : Calls Try.prog 50 #[.agg (mdc s), .int .i64 l, .int .i64 c] w fun e w' => e = .returned (.agg (mdc (Md.wgc s (Md.grp l c) c))) ∧ Qw w w' := by
  unfold Md.wgc
  by_cases h1 : Md.grp l c = 1
  · rw [if_pos h1]
    exact mdCode_g1 s l c w h1
  by_cases h2 : Md.grp l c = 2
  · rw [if_neg h1, if_pos h2]
    exact mdCode_g2 s l c w h2
  by_cases h3 : Md.grp l c = 3
  · rw [if_neg h1, if_neg h2, if_pos h3]
    exact mdCode_g3 s l c w h3
  by_cases h4 : Md.grp l c = 4
  · rw [if_neg h1, if_neg h2, if_neg h3, if_pos h4]
    exact mdCode_g4 s l c w h4
  by_cases h5 : Md.grp l c = 5
  · rw [if_neg h1, if_neg h2, if_neg h3, if_neg h4, if_pos h5]
    exact mdCode_g5 s l c w h5
  by_cases h6 : Md.grp l c = 6
  · rw [if_neg h1, if_neg h2, if_neg h3, if_neg h4, if_neg h5, if_pos h6]
    by_cases hc : c = 40
    · rw [if_pos hc]
      subst hc
      exact mdCode_g6a s l _ rfl w h6
    · rw [if_neg hc]
      exact mdCode_g6b s l c hc w h6
  by_cases h7 : Md.grp l c = 7
  · rw [if_neg h1, if_neg h2, if_neg h3, if_neg h4, if_neg h5, if_neg h6, if_pos h7]
    by_cases hc : c = 49
    · rw [if_pos hc]
      subst hc
      exact mdCode_g7a s l _ rfl w h7
    · rw [if_neg hc]
      exact mdCode_g7b s l c hc w h7
  by_cases h8 : Md.grp l c = 8
  · rw [if_neg h1, if_neg h2, if_neg h3, if_neg h4, if_neg h5, if_neg h6, if_neg h7, if_pos h8]
    exact mdCode_g8 s l c w h8
  by_cases h9 : Md.grp l c = 9
  · rw [if_neg h1, if_neg h2, if_neg h3, if_neg h4, if_neg h5, if_neg h6, if_neg h7, if_neg h8, if_pos h9]
    exact mdCode_g9 s l c w h9
  by_cases h10 : Md.grp l c = 10
  · rw [if_neg h1, if_neg h2, if_neg h3, if_neg h4, if_neg h5, if_neg h6, if_neg h7, if_neg h8, if_neg h9, if_pos h10]
    exact mdCode_g10 s l c w h10
  by_cases h11 : Md.grp l c = 11
  · rw [if_neg h1, if_neg h2, if_neg h3, if_neg h4, if_neg h5, if_neg h6, if_neg h7, if_neg h8, if_neg h9, if_neg h10, if_pos h11]
    exact mdCode_g11 s l c w h11
  by_cases h12 : Md.grp l c = 12
  · rw [if_neg h1, if_neg h2, if_neg h3, if_neg h4, if_neg h5, if_neg h6, if_neg h7, if_neg h8, if_neg h9, if_neg h10, if_neg h11, if_pos h12]
    exact mdCode_g12 s l c w h12
  by_cases h22 : Md.grp l c = 22
  · rw [if_neg h1, if_neg h2, if_neg h3, if_neg h4, if_neg h5, if_neg h6, if_neg h7, if_neg h8, if_neg h9, if_neg h10, if_neg h11, if_neg h12, if_pos h22]
    exact mdCode_g22 s l c w h22
  by_cases h24 : Md.grp l c = 24
  · rw [if_neg h1, if_neg h2, if_neg h3, if_neg h4, if_neg h5, if_neg h6, if_neg h7, if_neg h8, if_neg h9, if_neg h10, if_neg h11, if_neg h12, if_neg h22, if_pos h24]
    exact mdCode_g24 s l c w h24
  rw [if_neg h1, if_neg h2, if_neg h3, if_neg h4, if_neg h5, if_neg h6, if_neg h7, if_neg h8, if_neg h9, if_neg h10, if_neg h11, if_neg h12, if_neg h22, if_neg h24]
  exact mdCode_no s l c _ w rfl ⟨h1, h2, h3, h4, h5, h6, h7, h8, h9, h10, h11, h12, h22, h24⟩
end Go.Proofs.Ytijakijjeoaikaa
