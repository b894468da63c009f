
/- The walks of package modal's words. -/
import Derived.Test.YtijakijjeoaikaaMdC
set_option linter.unusedVariables false
set_option linter.unusedSimpArgs false
namespace Go.Proofs.Ytijakijjeoaikaa
open Go.RowKit

/-- What is known of the block of a call. -/
structure Blk (w : World) (v : Value) (l : Vs.Ar) : Prop where
  find : ∀ w' c, Qw w w' → Calls Try.prog 23 #[v, .int .i64 c] w' fun e w'' => e = .returned (.tuple #[.int .i64 (Md.fv l c), .bool (Md.fo l c)]) ∧ Qw w' w''
  has : ∀ w' c k, Qw w w' → Calls Try.prog 21 #[v, .int .i64 c, .int .i64 k] w' fun e w'' => e = .returned (.bool (Md.has l c k)) ∧ Qw w' w''
theorem Blk.of {C : Nat} {w : World} {v : Value} {l : Vs.Ar} (h : ValsB C w v l) (hC : C ≤ w.heap.size) : Blk w v l :=
  ⟨fun w' c q => mdFind (h.kept q hC) (Nat.le_trans hC q.size) c, fun w' c k q => mdHas (h.kept q hC) (Nat.le_trans hC q.size) c k⟩
theorem Blk.kept {w w' : World} {v : Value} {l : Vs.Ar} (h : Blk w v l) (q : Qw w w') : Blk w' v l :=
  ⟨fun w2 c q2 => h.find w2 c (Qw.trans q q2), fun w2 c k q2 => h.has w2 c k (Qw.trans q q2)⟩
theorem ret_mi {s t : Md.S} {a b : Int} (h : s = t) (g : a = b) : Ending.returned (.tuple #[.agg (mdc s), .int .i64 a]) = .returned (.tuple #[.agg (mdc t), .int .i64 b]) := by rw [h, g]
set_option maxRecDepth 100000 in
set_option maxHeartbeats 4000000 in
theorem mdFeed (s : Md.S) {w : World} {v : Value} {l : Vs.Ar} (h : Blk w v l) : Calls Try.prog 73 #[.agg (mdc s), v] w fun e w' => e = .returned (.tuple #[.agg (mdc (Md.fds s l)), .int .i64 (Md.fde s l)]) ∧ Qw w w' := by
  have f70 := fun w' q => h.find w' 70 q
  unfold Md.fde Md.fds
  cases hf : Md.fo l 70
  · rw [hf] at f70
    rw [if_neg (by decide), if_neg (by decide)]
    have FF := Lib.hid f70
    clear f70 hf h
    go_enter Try.func73, Try.ntmps73
    go_wp2_with (first | (refine two_start 0 rfl ?_; intro w1 P R T; have T1 := Lib.hid T; clear T) | (go_at_call 23; ((with_reducible refine (FF.out _ T1.out.q).mono ?_); rintro e w2 ⟨rfl, q⟩; have T2 := Lib.hid (T1.out.kept q); clear q)) | (refine ld_md 2 rfl T2.out.bp ?_) | (refine st_R 4 17 T2.out rfl rfl ?_; intro w3 T; have T3 := Lib.hid T; clear T))
    exact bodyPost_ret (ret_m2 4 5 Try.results73 rfl rfl T3.out.br) rfl ⟨rfl, T3.out.q⟩
  · rw [hf] at f70
    rw [if_pos rfl, if_pos rfl]
    generalize Md.fv l 70 = n at *
    have FF := Lib.hid f70
    have RR := Lib.hid (mdRate n s.un)
    clear f70 hf h
    generalize hrv : Md.rev n s.un = rv at *
    generalize Md.ree n s.un = re at *
    clear hrv
    go_enter Try.func73, Try.ntmps73
    go_wp2_with (first | (refine two_start 0 rfl ?_; intro w1 P R T; have T1 := Lib.hid T; clear T) | (go_at_call 23; ((with_reducible refine (FF.out _ T1.out.q).mono ?_); rintro e w2 ⟨rfl, q⟩; have T2 := Lib.hid (T1.out.kept q); have c3 := T2.out.cell 3 (.int .i64 s.un) rfl; clear q)) | (go_at_call 29; ((with_reducible refine (RR.out _).mono ?_); rintro e w3 ⟨rfl, q⟩; have T3 := Lib.hid (T2.out.kept q); have c16 := T3.out.cell 16 _ rfl; have f16 := T3.out.bp.free 16; clear q)) | (refine ld_md 2 rfl (T3.out.setP 16 _ { s with fd := rv } rfl).bp ?_) | (refine st_R 4 27 (T3.out.setP 16 _ { s with fd := rv } rfl) rfl rfl ?_; intro w4 T; have T4 := Lib.hid T; clear T))
    exact bodyPost_ret (ret_m2 4 5 Try.results73 rfl rfl T4.out.br) rfl ⟨rfl, T4.out.q⟩
set_option maxRecDepth 100000 in
set_option maxHeartbeats 4000000 in
theorem mdBlend (s : Md.S) {w : World} {v : Value} {l : Vs.Ar} (h : Blk w v l) : Calls Try.prog 75 #[.agg (mdc s), v] w fun e w' => e = .returned (.tuple #[.agg (mdc (Md.bls s l)), .int .i64 (Md.ble s l)]) ∧ Qw w w' := by
  have f80 := fun w' q => h.find w' 80 q
  have h64 := fun w' q => h.has w' 71 64 q
  unfold Md.ble Md.bls Md.blw
  cases hf : Md.fo l 80
  · rw [hf] at f80
    rw [Bool.false_and, if_neg (by decide), if_neg (by decide)]
    have FF := Lib.hid f80
    clear f80 hf h h64
    go_enter Try.func75, Try.ntmps75
    go_wp2_with (first | (refine two_start 0 rfl ?_; intro w1 P R T; have T1 := Lib.hid T; clear T) | (go_at_call 23; ((with_reducible refine (FF.out _ T1.out.q).mono ?_); rintro e w2 ⟨rfl, q⟩; have T2 := Lib.hid (T1.out.kept q); clear q)) | (refine ld_md 2 rfl T2.out.bp ?_) | (refine st_R 4 22 T2.out rfl rfl ?_; intro w3 T; have T3 := Lib.hid T; clear T))
    exact bodyPost_ret (ret_m2 4 5 Try.results75 rfl rfl T3.out.br) rfl ⟨rfl, T3.out.q⟩
  · rw [hf] at f80
    cases hh : Md.has l 71 64
    · rw [hh] at h64
      rw [Bool.and_false, if_neg (by decide), if_neg (by decide)]
      have FF := Lib.hid f80
      have HH := Lib.hid h64
      clear f80 hf h h64 hh
      go_enter Try.func75, Try.ntmps75
      go_wp2_with (first | (refine two_start 0 rfl ?_; intro w1 P R T; have T1 := Lib.hid T; clear T) | (go_at_call 23; ((with_reducible refine (FF.out _ T1.out.q).mono ?_); rintro e w2 ⟨rfl, q⟩; have T2 := Lib.hid (T1.out.kept q); clear q)) | (go_at_call 21; ((with_reducible refine (HH.out _ T2.out.q).mono ?_); rintro e w3 ⟨rfl, q⟩; have T3 := Lib.hid (T2.out.kept q); clear q)) | (refine ld_md 2 rfl T3.out.bp ?_) | (refine st_R 4 22 T3.out rfl rfl ?_; intro w4 T; have T4 := Lib.hid T; clear T))
      exact bodyPost_ret (ret_m2 4 5 Try.results75 rfl rfl T4.out.br) rfl ⟨rfl, T4.out.q⟩
    · rw [hh] at h64
      rw [Bool.and_true, if_pos rfl, if_pos rfl]
      generalize Md.fv l 80 = n at *
      have FF := Lib.hid f80
      have HH := Lib.hid h64
      have LL := Lib.hid (fxLength n s.un)
      clear f80 hf h h64 hh
      generalize hlv : lenv n s.un = lv at *
      generalize hle : lene n s.un = le at *
      clear hlv hle
      by_cases h0 : le = 0
      · by_cases h1 : lv < 0
        · rw [if_pos ⟨h0, .inl h1⟩]
          subst h0
          go_enter Try.func75, Try.ntmps75
          go_wp2_with (first | (refine two_start 0 rfl ?_; intro w1 P R T; have T1 := Lib.hid T; clear T) | (go_at_call 23; ((with_reducible refine (FF.out _ T1.out.q).mono ?_); rintro e w2 ⟨rfl, q⟩; have T2 := Lib.hid (T1.out.kept q); clear q)) | (go_at_call 21; ((with_reducible refine (HH.out _ T2.out.q).mono ?_); rintro e w3 ⟨rfl, q⟩; have T3 := Lib.hid (T2.out.kept q); have c3 := T3.out.cell 3 (.int .i64 s.un) rfl; clear q)) | (go_at_call 45; ((with_reducible refine (LL.out _).mono ?_); rintro e w4 ⟨rfl, q⟩; have T4 := Lib.hid (T3.out.kept q); have c15 := T4.out.cell 15 _ rfl; have f15 := T4.out.bp.free 15; clear q)) | (refine ld_md 2 rfl (T4.out.setP 15 _ { s with bl := lv } rfl).bp ?_) | (refine st_R 4 42 (T4.out.setP 15 _ { s with bl := lv } rfl) rfl rfl ?_; intro w5 T; have T5 := Lib.hid T; clear T))
          exact bodyPost_ret (ret_m2 4 5 Try.results75 rfl rfl T5.out.br) rfl ⟨rfl, T5.out.q⟩
        · by_cases h2 : 1000 < lv
          · rw [if_pos ⟨h0, .inr h2⟩]
            subst h0
            go_enter Try.func75, Try.ntmps75
            go_wp2_with (first | (refine two_start 0 rfl ?_; intro w1 P R T; have T1 := Lib.hid T; clear T) | (go_at_call 23; ((with_reducible refine (FF.out _ T1.out.q).mono ?_); rintro e w2 ⟨rfl, q⟩; have T2 := Lib.hid (T1.out.kept q); clear q)) | (go_at_call 21; ((with_reducible refine (HH.out _ T2.out.q).mono ?_); rintro e w3 ⟨rfl, q⟩; have T3 := Lib.hid (T2.out.kept q); have c3 := T3.out.cell 3 (.int .i64 s.un) rfl; clear q)) | (go_at_call 45; ((with_reducible refine (LL.out _).mono ?_); rintro e w4 ⟨rfl, q⟩; have T4 := Lib.hid (T3.out.kept q); have c15 := T4.out.cell 15 _ rfl; have f15 := T4.out.bp.free 15; clear q)) | (refine ld_md 2 rfl (T4.out.setP 15 _ { s with bl := lv } rfl).bp ?_) | (refine st_R 4 42 (T4.out.setP 15 _ { s with bl := lv } rfl) rfl rfl ?_; intro w5 T; have T5 := Lib.hid T; clear T))
            exact bodyPost_ret (ret_m2 4 5 Try.results75 rfl rfl T5.out.br) rfl ⟨rfl, T5.out.q⟩
          · rw [if_neg (by omega)]
            subst h0
            go_enter Try.func75, Try.ntmps75
            go_wp2_with (first | (refine two_start 0 rfl ?_; intro w1 P R T; have T1 := Lib.hid T; clear T) | (go_at_call 23; ((with_reducible refine (FF.out _ T1.out.q).mono ?_); rintro e w2 ⟨rfl, q⟩; have T2 := Lib.hid (T1.out.kept q); clear q)) | (go_at_call 21; ((with_reducible refine (HH.out _ T2.out.q).mono ?_); rintro e w3 ⟨rfl, q⟩; have T3 := Lib.hid (T2.out.kept q); have c3 := T3.out.cell 3 (.int .i64 s.un) rfl; clear q)) | (go_at_call 45; ((with_reducible refine (LL.out _).mono ?_); rintro e w4 ⟨rfl, q⟩; have T4 := Lib.hid (T3.out.kept q); have c15 := T4.out.cell 15 _ rfl; have f15 := T4.out.bp.free 15; clear q)) | (refine ld_md 2 rfl (T4.out.setP 15 _ { s with bl := lv } rfl).bp ?_) | (refine st_R 4 42 (T4.out.setP 15 _ { s with bl := lv } rfl) rfl rfl ?_; intro w5 T; have T5 := Lib.hid T; clear T))
            exact bodyPost_ret (ret_m2 4 5 Try.results75 rfl rfl T5.out.br) rfl ⟨rfl, T5.out.q⟩
      · rw [if_neg (fun h => h0 h.1)]
        have z : (le == 0) = false := beq_eq_false_iff_ne.2 h0
        clear h0
        go_enter Try.func75, Try.ntmps75
        go_wp2_with (first | (refine two_start 0 rfl ?_; intro w1 P R T; have T1 := Lib.hid T; clear T) | (go_at_call 23; ((with_reducible refine (FF.out _ T1.out.q).mono ?_); rintro e w2 ⟨rfl, q⟩; have T2 := Lib.hid (T1.out.kept q); clear q)) | (go_at_call 21; ((with_reducible refine (HH.out _ T2.out.q).mono ?_); rintro e w3 ⟨rfl, q⟩; have T3 := Lib.hid (T2.out.kept q); have c3 := T3.out.cell 3 (.int .i64 s.un) rfl; clear q)) | (go_at_call 45; ((with_reducible refine (LL.out _).mono ?_); rintro e w4 ⟨rfl, q⟩; have T4 := Lib.hid (T3.out.kept q); have c15 := T4.out.cell 15 _ rfl; have f15 := T4.out.bp.free 15; clear q)) | (refine ld_md 2 rfl (T4.out.setP 15 _ { s with bl := lv } rfl).bp ?_) | (refine st_R 4 42 (T4.out.setP 15 _ { s with bl := lv } rfl) rfl rfl ?_; intro w5 T; have T5 := Lib.hid T; clear T))
        exact bodyPost_ret (ret_m2 4 5 Try.results75 rfl rfl T5.out.br) rfl ⟨rfl, T5.out.q⟩
end Go.Proofs.Ytijakijjeoaikaa
