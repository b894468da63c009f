import Derived.Test.YtihmifdadikhaaaGH

/- Drawing an arc from a tape. -/
set_option linter.unusedVariables false
set_option linter.unusedSimpArgs false
namespace Go.Proofs.Ytihmifdadikhaaa
open Go.RowKit

namespace Ac
/-- A drawn arc. -/
def mkA (p h k d a b c e x y fd bl bk : Int) (u pr : Bool) : I := ⟨3, bk, sx p (x + a) (y + b) h, sy p (x + a) (y + b) h, sz p (x + a) (y + b) h, sx p (x + c) (y + e) k, sy p (x + c) (y + e) k, sz p (x + c) (y + e) k, p, sx p x y h, sy p x y h, sz p x y h, d, u, fd, pr, 0, 0, bl, 0, 0, false⟩
theorem sxb {p u v h L : Int} (l0 : 0 ≤ L) (h1 : -L ≤ u ∧ u ≤ L) (h2 : -L ≤ v ∧ v ≤ L) (h3 : -L ≤ h ∧ h ≤ L) : (-L ≤ sx p u v h ∧ sx p u v h ≤ L) ∧ (-L ≤ sy p u v h ∧ sy p u v h ≤ L) ∧ (-L ≤ sz p u v h ∧ sz p u v h ≤ L) := by
  unfold sx sy sz
  by_cases k1 : p = 17
  · simp only [k1, if_true]; exact ⟨h1, h2, h3⟩
  · by_cases k2 : p = 18
    · simp only [k2, if_true, if_false]; exact ⟨h2, h3, h1⟩
    · by_cases k3 : p = 19
      · simp only [k3, if_true, if_false]; exact ⟨h3, h1, h2⟩
      · simp only [k1, k2, k3, if_false]; omega
theorem back {p : Int} (h1 : 17 ≤ p) (h2 : p ≤ 19) (u v h : Int) : fu p (sx p u v h) (sy p u v h) (sz p u v h) = u ∧ fw p (sx p u v h) (sy p u v h) (sz p u v h) = v ∧ fh p (sx p u v h) (sy p u v h) (sz p u v h) = h := by
  have hp : p = 17 ∨ p = 18 ∨ p = 19 := by omega
  rcases hp with rfl | rfl | rfl <;> exact ⟨rfl, rfl, rfl⟩
theorem mkA_gd {p h k d a b c e x y fd bl bk : Int} {u pr : Bool} (p1 : 17 ≤ p) (p2 : p ≤ 19) (hh : -500 ≤ h ∧ h ≤ 500) (hk : -500 ≤ k ∧ k ≤ 500) (hd : d = 1 ∨ d = -1)
    (ha : -20000 ≤ a ∧ a ≤ 20000) (hb : -20000 ≤ b ∧ b ≤ 20000) (hc : -20002 ≤ c ∧ c ≤ 20002) (he : -20002 ≤ e ∧ e ≤ 20002) (hx : -30000 ≤ x ∧ x ≤ 30000) (hy : -30000 ≤ y ∧ y ≤ 30000)
    (ft : fit (inn a b a b) (inn c e c e) = true) (ag : agr u a b c e = true) : Gd (mkA p h k d a b c e x y fd bl bk u pr) := by
  obtain ⟨f1, f2, f3⟩ := back p1 p2 (x + a) (y + b) h
  obtain ⟨t1, t2, t3⟩ := back p1 p2 (x + c) (y + e) k
  obtain ⟨c1, c2, c3⟩ := back p1 p2 x y h
  obtain ⟨g1, g2, g3⟩ := sxb (p := p) (u := x + a) (v := y + b) (h := h) (L := 200000) (by decide) (by omega) (by omega) (by omega)
  obtain ⟨g4, g5, g6⟩ := sxb (p := p) (u := x + c) (v := y + e) (h := k) (L := 200000) (by decide) (by omega) (by omega) (by omega)
  obtain ⟨g7, g8, g9⟩ := sxb (p := p) (u := x) (v := y) (h := h) (L := 200000) (by decide) (by omega) (by omega) (by omega)
  have e1 : au (mkA p h k d a b c e x y fd bl bk u pr) = a := by show fu p (sx p (x + a) (y + b) h) (sy p (x + a) (y + b) h) (sz p (x + a) (y + b) h) - fu p (sx p x y h) (sy p x y h) (sz p x y h) = a; rw [f1, c1]; omega
  have e2 : aw (mkA p h k d a b c e x y fd bl bk u pr) = b := by show fw p (sx p (x + a) (y + b) h) (sy p (x + a) (y + b) h) (sz p (x + a) (y + b) h) - fw p (sx p x y h) (sy p x y h) (sz p x y h) = b; rw [f2, c2]; omega
  have e3 : bu (mkA p h k d a b c e x y fd bl bk u pr) = c := by show fu p (sx p (x + c) (y + e) k) (sy p (x + c) (y + e) k) (sz p (x + c) (y + e) k) - fu p (sx p x y h) (sy p x y h) (sz p x y h) = c; rw [t1, c1]; omega
  have e4 : bw (mkA p h k d a b c e x y fd bl bk u pr) = e := by show fw p (sx p (x + c) (y + e) k) (sy p (x + c) (y + e) k) (sz p (x + c) (y + e) k) - fw p (sx p x y h) (sy p x y h) (sz p x y h) = e; rw [t2, c2]; omega
  exact ⟨rfl, p1, p2, hd, g1, g2, g3, g4, g5, g6, g7, g8, g9, c3.trans f3.symm, by rw [e1, e2, e3, e4]; exact ft, by rw [e1, e2, e3, e4]; exact ag⟩
end Ac
theorem built_arc (p h k d a b c e x y fd bl bk : Int) (u pr : Bool) : ∀ l, l = [(0, Value.int .i64 3), (2, .agg #[.int .i64 (sx p (x + a) (y + b) h), .int .i64 (sy p (x + a) (y + b) h), .int .i64 (sz p (x + a) (y + b) h)]), (3, .agg #[.int .i64 (sx p (x + c) (y + e) k), .int .i64 (sy p (x + c) (y + e) k), .int .i64 (sz p (x + c) (y + e) k)]), (4, .int .i64 p), (5, .agg #[.int .i64 (sx p x y h), .int .i64 (sy p x y h), .int .i64 (sz p x y h)]), (6, .int .i64 d), (7, .bool u), (8, .int .i64 fd), (9, .bool pr), (12, .int .i64 bl), (1, .int .i64 bk)] →
    Try.prog.built IT l = some (itc (Ac.mkA p h k d a b c e x y fd bl bk u pr)) := by rintro l rfl; kernel_rfl
theorem wpb_it {a : Act} {w : World} {K : Act → World → Prop} {Q : Exit → Act → World → Prop} {o : Oper} {parts : Array (Nat × Operand)} {cs : Array Value} (ho : o.op = .build IT parts) (hb : Try.prog.built IT (parts.map fun (i, x) => (i, a.eval x)).toList = some cs) (h : K (a.put o.dst (.agg cs)) w) : o.wp Try.prog a w K Q := by
  refine wp_build IT parts ho (by rw [hb]; rfl) ?_
  rw [hb]
  exact h
/-- What Arc leaves. -/
def ArcR (w0 w : World) (B : Nat) (tv : Value) (zs : List Int) (e : Ending) (w' : World) : Prop :=
  (∃ i : Ac.I, e = .returned (.agg (itc i)) ∧ Ac.Gd i) ∧ Tm w0 B tv zs w' ∧ w.grownBy w' (some B)
set_option maxRecDepth 100000 in
set_option maxHeartbeats 16000000 in
theorem arcD (B : Nat) (tv : Value) (zs : List Int) (w0 w : World) (hm : Tm w0 B tv zs w) :
    Calls Try.prog 24 #[.pointer (some ⟨B, 0, none⟩)] w (ArcR w0 w B tv zs) := by
  have RG := Lib.hid (fun lo hi h0 h1 h2 w' (h : Tm w B tv zs w') => rangeD B tv zs lo hi h0 h1 h2 w w' h)
  have NX := Lib.hid (fun m m0 m1 w' (h : Tm w B tv zs w') => nextD B tv zs m m0 m1 w w' h)
  have PD := Lib.hid (fun s s0 s1 w' (h : Tm w B tv zs w') => ptD B tv zs w w' h s s0 s1)
  have SP := Lib.hid (fun w' (h : Tm w B tv zs w') => spokesD B tv zs w w' h)
  have HM := Lib.hid hm
  obtain ⟨⟨kk, tt⟩, _, _⟩ := hm
  have MM := Lib.hid (Tm.of tt)
  clear tt
  go_enter Try.func24, Try.ntmps24
  go_upto_region 1 with (go_big_may; ((with_reducible refine al_it (dst := some 2) ?_); intro w1 B2 hb xx qq; have h2 := Lib.hid (Nat.le_trans MM.out.size hb); replace MM := Lib.hid (MM.out.new qq); have X2 := Lib.hid xx; clear xx qq hb))
  go_upto_region 2 with (go_big_may; (go_at_call 66; ((with_reducible refine (RG.out 17 19 (by decide) (by decide) (by decide) _ MM.out).mono ?_); rintro e w2 ⟨⟨p, rfl, p1, p2⟩, mm, gg⟩; replace X2 := Lib.hid (X2.out.grM gg (MM.out.nt h2.out)); replace MM := Lib.hid mm; clear mm gg)))
  go_upto_region 3 with (go_big_may; (first | (go_at_call 67; ((with_reducible refine (SP.out _ MM.out).mono ?_); rintro e w3 ⟨⟨a, b, c, e0, u, okk, rfl, ab, bb, cb, eb, okf⟩, mm, gg⟩; have OKF := Lib.hid okf; have AB := Lib.hid (And.intro ab (And.intro bb (And.intro cb eb))); clear okf ab bb cb eb; replace X2 := Lib.hid (X2.out.grM gg (MM.out.nt h2.out)); replace MM := Lib.hid mm; clear mm gg)) | ((with_reducible refine al_pt (dst := some 4) ?_); intro w4 B4 hb xx qq; have n4_2 := Lib.hid (Nat.ne_of_gt (Nat.lt_of_lt_of_le X2.out.lt hb)); have m4_2 := Lib.hid (Nat.ne_of_lt (Nat.lt_of_lt_of_le X2.out.lt hb)); have h4 := Lib.hid (Nat.le_trans MM.out.size hb); replace X2 := Lib.hid (X2.out.kept qq); replace MM := Lib.hid (MM.out.new qq); have X4 := Lib.hid xx; clear xx qq hb) | ((with_reducible refine al_pt (dst := some 5) ?_); intro w5 B5 hb xx qq; have n5_2 := Lib.hid (Nat.ne_of_gt (Nat.lt_of_lt_of_le X2.out.lt hb)); have n5_4 := Lib.hid (Nat.ne_of_gt (Nat.lt_of_lt_of_le X4.out.lt hb)); have m5_2 := Lib.hid (Nat.ne_of_lt (Nat.lt_of_lt_of_le X2.out.lt hb)); have m5_4 := Lib.hid (Nat.ne_of_lt (Nat.lt_of_lt_of_le X4.out.lt hb)); have h5 := Lib.hid (Nat.le_trans MM.out.size hb); replace X2 := Lib.hid (X2.out.kept qq); replace X4 := Lib.hid (X4.out.kept qq); replace MM := Lib.hid (MM.out.new qq); have X5 := Lib.hid xx; clear xx qq hb) | ((with_reducible refine sg_pt (x := ?_) (y := ?_) 4 17 ?_ ?_ X4.out ?_); rotate_left 2; (rfl); (rfl); intro w6 xx ss; replace X2 := Lib.hid (ss.oth m4_2.out X2.out); replace X5 := Lib.hid (ss.oth n5_4.out X5.out); replace MM := Lib.hid (ss.tm MM.out h4.out); replace X4 := Lib.hid xx; clear xx ss) | ((with_reducible refine sg_pt (x := ?_) (y := ?_) 5 18 ?_ ?_ X5.out ?_); rotate_left 2; (rfl); (rfl); intro w7 xx ss; replace X2 := Lib.hid (ss.oth m5_2.out X2.out); replace X4 := Lib.hid (ss.oth m5_4.out X4.out); replace MM := Lib.hid (ss.tm MM.out h5.out); replace X5 := Lib.hid xx; clear xx ss)))
  cases okk
  · go_upto_region 4 with fail
    go_upto_region 5 with (go_big_may; (first | ((with_reducible refine sg_pt (x := ?_) (y := ?_) 4 23 ?_ ?_ X4.out ?_); rotate_left 2; (rfl); (rfl); intro w8 xx ss; replace X2 := Lib.hid (ss.oth m4_2.out X2.out); replace X5 := Lib.hid (ss.oth n5_4.out X5.out); replace MM := Lib.hid (ss.tm MM.out h4.out); replace X4 := Lib.hid xx; clear xx ss) | ((with_reducible refine sg_pt (x := ?_) (y := ?_) 5 24 ?_ ?_ X5.out ?_); rotate_left 2; (rfl); (rfl); intro w9 xx ss; replace X2 := Lib.hid (ss.oth m5_2.out X2.out); replace X4 := Lib.hid (ss.oth m5_4.out X4.out); replace MM := Lib.hid (ss.tm MM.out h5.out); replace X5 := Lib.hid xx; clear xx ss)))
    clear AB OKF
    obtain ⟨a9, ea⟩ : ∃ n : Int, n = 50 := ⟨_, rfl⟩
    obtain ⟨b9, eb⟩ : ∃ n : Int, n = 0 := ⟨_, rfl⟩
    obtain ⟨c9, ec⟩ : ∃ n : Int, n = 0 := ⟨_, rfl⟩
    obtain ⟨e9, ee⟩ : ∃ n : Int, n = 50 := ⟨_, rfl⟩
    have Y4 : Hid (Bx w9 B4 #[.int .i64 a9, .int .i64 b9] 32) := by rw [ea, eb]; exact X4
    have Y5 : Hid (Bx w9 B5 #[.int .i64 c9, .int .i64 e9] 32) := by rw [ec, ee]; exact X5
    clear X4 X5
    have X4 := Y4
    have X5 := Y5
    clear Y4 Y5
    have FA : Hid (Ac.fit (Ac.inn a9 b9 a9 b9) (Ac.inn c9 e9 c9 e9) = true ∧ Ac.agr false a9 b9 c9 e9 = true) := Lib.hid (by rw [ea, eb, ec, ee]; decide +kernel)
    have AB : Hid ((-20000 ≤ a9 ∧ a9 ≤ 20000) ∧ (-20000 ≤ b9 ∧ b9 ≤ 20000) ∧ (-20002 ≤ c9 ∧ c9 ≤ 20002) ∧ (-20002 ≤ e9 ∧ e9 ≤ 20002)) := Lib.hid (by omega)
    clear ea eb ec ee
    go_upto_region 6 with (go_big_may; (first | (go_at_call 68; ((with_reducible refine (PD.out 30000 (by decide) (by decide) _ MM.out).mono ?_); rintro e w10 ⟨⟨x, y, rfl, ⟨x1, x2⟩, ⟨y1, y2⟩⟩, mm, gg⟩; replace X2 := Lib.hid (X2.out.grM gg (MM.out.nt h2.out)); replace X4 := Lib.hid (X4.out.grM gg (MM.out.nt h4.out)); replace X5 := Lib.hid (X5.out.grM gg (MM.out.nt h5.out)); replace MM := Lib.hid mm; clear mm gg)) | ((with_reducible refine al_pt (dst := some 8) ?_); intro w11 B8 hb xx qq; have n8_2 := Lib.hid (Nat.ne_of_gt (Nat.lt_of_lt_of_le X2.out.lt hb)); have n8_4 := Lib.hid (Nat.ne_of_gt (Nat.lt_of_lt_of_le X4.out.lt hb)); have n8_5 := Lib.hid (Nat.ne_of_gt (Nat.lt_of_lt_of_le X5.out.lt hb)); have m8_2 := Lib.hid (Nat.ne_of_lt (Nat.lt_of_lt_of_le X2.out.lt hb)); have m8_4 := Lib.hid (Nat.ne_of_lt (Nat.lt_of_lt_of_le X4.out.lt hb)); have m8_5 := Lib.hid (Nat.ne_of_lt (Nat.lt_of_lt_of_le X5.out.lt hb)); have h8 := Lib.hid (Nat.le_trans MM.out.size hb); replace X2 := Lib.hid (X2.out.kept qq); replace X4 := Lib.hid (X4.out.kept qq); replace X5 := Lib.hid (X5.out.kept qq); replace MM := Lib.hid (MM.out.new qq); have X8 := Lib.hid xx; clear xx qq hb) | ((with_reducible refine sg_pt (x := ?_) (y := ?_) 8 26 ?_ ?_ X8.out ?_); rotate_left 2; (rfl); (rfl); intro w12 xx ss; replace X2 := Lib.hid (ss.oth m8_2.out X2.out); replace X4 := Lib.hid (ss.oth m8_4.out X4.out); replace X5 := Lib.hid (ss.oth m8_5.out X5.out); replace MM := Lib.hid (ss.tm MM.out h8.out); replace X8 := Lib.hid xx; clear xx ss)))
    go_upto_region 7 with (go_big_may; (first | (go_at_call 66; ((first | (with_reducible refine (RG.out (-500) 500 (by decide) (by decide) (by decide) _ (HF1.out _ MM.out)).mono ?_) | (refine (RG.out (-500) 500 (by decide) (by decide) (by decide) _ (HF1.out _ MM.out)).mono ?_)); rintro e w14 ⟨⟨kt, rfl, kt1, kt2⟩, mm, gg⟩; replace X2 := Lib.hid (X2.out.grM gg (MM.out.nt h2.out)); replace X4 := Lib.hid (X4.out.grM gg (MM.out.nt h4.out)); replace X5 := Lib.hid (X5.out.grM gg (MM.out.nt h5.out)); replace X8 := Lib.hid (X8.out.grM gg (MM.out.nt h8.out)); replace MM := Lib.hid mm; clear mm gg)) | (go_at_call 66; ((first | (with_reducible refine (RG.out (-500) 500 (by decide) (by decide) (by decide) _ MM.out).mono ?_) | (refine (RG.out (-500) 500 (by decide) (by decide) (by decide) _ MM.out).mono ?_)); rintro e w13 ⟨⟨ht, rfl, ht1, ht2⟩, mm, gg⟩; have HF1 := Lib.hid (fun (v : World) (t : Tm w B tv zs v) => t); replace X2 := Lib.hid (X2.out.grM gg (MM.out.nt h2.out)); replace X4 := Lib.hid (X4.out.grM gg (MM.out.nt h4.out)); replace X5 := Lib.hid (X5.out.grM gg (MM.out.nt h5.out)); replace X8 := Lib.hid (X8.out.grM gg (MM.out.nt h8.out)); replace MM := Lib.hid mm; clear mm gg))))
    go_upto_region 8 with (go_big_may; (go_at_call 69; ((with_reducible refine (NX.out 2 (by decide) (by decide) _ MM.out).mono ?_); rintro e w15 ⟨⟨n2, rfl, n21, n22⟩, mm, gg⟩; replace X2 := Lib.hid (X2.out.grM gg (MM.out.nt h2.out)); replace X4 := Lib.hid (X4.out.grM gg (MM.out.nt h4.out)); replace X5 := Lib.hid (X5.out.grM gg (MM.out.nt h5.out)); replace X8 := Lib.hid (X8.out.grM gg (MM.out.nt h8.out)); replace MM := Lib.hid mm; clear mm gg)))
    obtain ⟨⟨ab1, ab2⟩, ⟨bb1, bb2⟩, ⟨cb1, cb2⟩, ⟨eb1, eb2⟩⟩ : (-20000 ≤ (a9 : Int) ∧ (a9 : Int) ≤ 20000) ∧ (-20000 ≤ (b9 : Int) ∧ (b9 : Int) ≤ 20000) ∧ (-20002 ≤ (c9 : Int) ∧ (c9 : Int) ≤ 20002) ∧ (-20002 ≤ (e9 : Int) ∧ (e9 : Int) ≤ 20002) := AB.out
    have A1 := Lib.hid (fun w' => arAddPt x y (a9) (b9) (by omega) (by omega) (by omega) (by omega) (by omega) (by omega) (by omega) (by omega) w')
    have A2 := Lib.hid (fun w' => arAddPt x y (c9) (e9) (by omega) (by omega) (by omega) (by omega) (by omega) (by omega) (by omega) (by omega) w')
    have T1 := Lib.hid (fun w' => arAt p (x + a9) (y + b9) ht (by omega) (by omega) w')
    have T2 := Lib.hid (fun w' => arAt p (x + c9) (y + e9) kt (by omega) (by omega) w')
    have T3 := Lib.hid (fun w' => arAt p x y ht (by omega) (by omega) w')
    have GD : ∀ fd bl bk pr, Ac.Gd (Ac.mkA p ht kt (1 - 2 * n2) (a9) (b9) (c9) (e9) x y fd bl bk false pr) := fun fd bl bk pr => Ac.mkA_gd (by omega) (by omega) (by omega) (by omega) (by omega) (by omega) (by omega) (by omega) (by omega) (by omega) (by omega) FA.out.1 FA.out.2
    have GD := Lib.hid GD
    clear ab1 ab2 bb1 bb2 cb1 cb2 eb1 eb2
    try simp only [List.getElem_toArray, List.getElem_cons_succ, List.getElem_cons_zero, Act.put, List.setIfInBounds_toArray, List.set_cons_zero, List.set_cons_succ]
    refine wp_region_M (fun wS => Tm w B tv zs wS ∧ Bx wS B8 #[.int .i64 x, .int .i64 y] 32 ∧ Bx wS B4 #[.int .i64 a9, .int .i64 b9] 32 ∧ Bx wS B5 #[.int .i64 c9, .int .i64 e9] 32 ∧ Bx wS B2 (itc Ac.I.zero) IT) 29 (by kernel_rfl) ?_
    have hSS : (fun wS => Tm w B tv zs wS ∧ Bx wS B8 #[.int .i64 x, .int .i64 y] 32 ∧ Bx wS B4 #[.int .i64 a9, .int .i64 b9] 32 ∧ Bx wS B5 #[.int .i64 c9, .int .i64 e9] 32 ∧ Bx wS B2 (itc Ac.I.zero) IT) (World.drew _) := ⟨MM.out.new (qw_drew1 _), X8.out.kept (qw_drew1 _), X4.out.kept (qw_drew1 _), X5.out.kept (qw_drew1 _), X2.out.kept (qw_drew1 _)⟩
    skip
    refine wpM_named (S' := fun wS => Tm w B tv zs wS ∧ Bx wS B8 #[.int .i64 x, .int .i64 y] 32 ∧ Bx wS B4 #[.int .i64 a9, .int .i64 b9] 32 ∧ Bx wS B5 #[.int .i64 c9, .int .i64 e9] 32 ∧ Bx wS B2 (itc Ac.I.zero) IT) hSS ?_
    intro wd hSS
    refine wpAnyM_take (i := 0) (v := ?_) rfl (by kernel_rfl) (fun _ _ _ h => h) (Or.inl ⟨by rfl, ?_⟩) hSS ?_
    rotate_left 1
    · intro wS hwS
      go_simp
      try with_reducible rfl
    simp only [List.getElem_toArray, List.getElem_cons_succ, List.getElem_cons_zero, Act.put, List.setIfInBounds_toArray, List.set_cons_zero, List.set_cons_succ]
    refine wpAnyM_take (i := 1) (v := ?_) rfl (by kernel_rfl) (fun _ _ _ h => h) (Or.inl ⟨by rfl, ?_⟩) hSS ?_
    rotate_left 1
    · intro wS hwS
      have y0 := (hwS.2.1).p0; have y1 := (hwS.2.1).p1; go_simp
      try with_reducible rfl
    simp only [List.getElem_toArray, List.getElem_cons_succ, List.getElem_cons_zero, Act.put, List.setIfInBounds_toArray, List.set_cons_zero, List.set_cons_succ]
    refine wpAnyM_take (i := 2) (v := ?_) rfl (by kernel_rfl) (fun _ _ _ h => h) (Or.inl ⟨by rfl, ?_⟩) hSS ?_
    rotate_left 1
    · intro wS hwS
      have y0 := (hwS.2.2.1).p0; have y1 := (hwS.2.2.1).p1; go_simp
      try with_reducible rfl
    simp only [List.getElem_toArray, List.getElem_cons_succ, List.getElem_cons_zero, Act.put, List.setIfInBounds_toArray, List.set_cons_zero, List.set_cons_succ]
    refine wpAnyM_take (i := 4) (v := ?_) rfl (by kernel_rfl) (fun _ _ _ h => h) (Or.inl ⟨by rfl, ?_⟩) hSS ?_
    rotate_left 1
    · intro wS hwS
      go_simp
      try with_reducible rfl
    simp only [List.getElem_toArray, List.getElem_cons_succ, List.getElem_cons_zero, Act.put, List.setIfInBounds_toArray, List.set_cons_zero, List.set_cons_succ]
    refine wpAnyM_take (i := 6) (v := ?_) rfl (by kernel_rfl) (fun _ _ _ h => h) (Or.inl ⟨by rfl, ?_⟩) hSS ?_
    rotate_left 1
    · intro wS hwS
      go_simp
      try with_reducible rfl
    simp only [List.getElem_toArray, List.getElem_cons_succ, List.getElem_cons_zero, Act.put, List.setIfInBounds_toArray, List.set_cons_zero, List.set_cons_succ]
    refine wpAnyM_take (i := 7) (v := ?_) rfl (by kernel_rfl) (fun _ _ _ h => h) (Or.inl ⟨by rfl, ?_⟩) hSS ?_
    rotate_left 1
    · intro wS hwS
      have y0 := (hwS.2.1).p0; have y1 := (hwS.2.1).p1; go_simp
      try with_reducible rfl
    simp only [List.getElem_toArray, List.getElem_cons_succ, List.getElem_cons_zero, Act.put, List.setIfInBounds_toArray, List.set_cons_zero, List.set_cons_succ]
    refine wpAnyM_take (i := 8) (v := ?_) rfl (by kernel_rfl) (fun _ _ _ h => h) (Or.inl ⟨by rfl, ?_⟩) hSS ?_
    rotate_left 1
    · intro wS hwS
      have y0 := (hwS.2.2.2.1).p0; have y1 := (hwS.2.2.2.1).p1; go_simp
      try with_reducible rfl
    simp only [List.getElem_toArray, List.getElem_cons_succ, List.getElem_cons_zero, Act.put, List.setIfInBounds_toArray, List.set_cons_zero, List.set_cons_succ]
    refine wpAnyM_take (i := 10) (v := ?_) rfl (by kernel_rfl) (fun _ _ _ h => h) (Or.inl ⟨by rfl, ?_⟩) hSS ?_
    rotate_left 1
    · intro wS hwS
      go_simp
      try with_reducible rfl
    simp only [List.getElem_toArray, List.getElem_cons_succ, List.getElem_cons_zero, Act.put, List.setIfInBounds_toArray, List.set_cons_zero, List.set_cons_succ]
    refine wpAnyM_take (i := 12) (v := ?_) rfl (by kernel_rfl) (fun _ _ _ h => h) (Or.inl ⟨by rfl, ?_⟩) hSS ?_
    rotate_left 1
    · intro wS hwS
      go_simp
      try with_reducible rfl
    simp only [List.getElem_toArray, List.getElem_cons_succ, List.getElem_cons_zero, Act.put, List.setIfInBounds_toArray, List.set_cons_zero, List.set_cons_succ]
    refine wpAnyM_take (i := 13) (v := ?_) rfl (by kernel_rfl) (fun _ _ _ h => h) (Or.inl ⟨by rfl, ?_⟩) hSS ?_
    rotate_left 1
    · intro wS hwS
      go_simp
      try with_reducible rfl
    simp only [List.getElem_toArray, List.getElem_cons_succ, List.getElem_cons_zero, Act.put, List.setIfInBounds_toArray, List.set_cons_zero, List.set_cons_succ]
    refine wpAnyM_take (i := 14) (v := ?_) rfl (by kernel_rfl) (fun _ _ _ h => h) (Or.inl ⟨by rfl, ?_⟩) hSS ?_
    rotate_left 1
    · intro wS hwS
      have y0 := (hwS.2.1).p0; have y1 := (hwS.2.1).p1; go_simp
      try with_reducible rfl
    simp only [List.getElem_toArray, List.getElem_cons_succ, List.getElem_cons_zero, Act.put, List.setIfInBounds_toArray, List.set_cons_zero, List.set_cons_succ]
    refine wpAnyM_take (i := 15) (v := ?_) rfl (by kernel_rfl) (fun _ _ _ h => h) (Or.inl ⟨by rfl, ?_⟩) hSS ?_
    rotate_left 1
    · intro wS hwS
      go_simp
      try with_reducible rfl
    simp only [List.getElem_toArray, List.getElem_cons_succ, List.getElem_cons_zero, Act.put, List.setIfInBounds_toArray, List.set_cons_zero, List.set_cons_succ]
    refine wpAnyM_take (i := 17) (v := ?_) rfl (by kernel_rfl) (fun _ _ _ h => h) (Or.inl ⟨by rfl, ?_⟩) hSS ?_
    rotate_left 1
    · intro wS hwS
      go_simp
      try with_reducible rfl
    simp only [List.getElem_toArray, List.getElem_cons_succ, List.getElem_cons_zero, Act.put, List.setIfInBounds_toArray, List.set_cons_zero, List.set_cons_succ]
    refine wpAnyM_take (i := 18) (v := ?_) rfl (by kernel_rfl) (fun _ _ _ h => h) (Or.inl ⟨by rfl, ?_⟩) hSS ?_
    rotate_left 1
    · intro wS hwS
      go_simp
      try with_reducible rfl
    simp only [List.getElem_toArray, List.getElem_cons_succ, List.getElem_cons_zero, Act.put, List.setIfInBounds_toArray, List.set_cons_zero, List.set_cons_succ]
    refine wpAnyM_take (i := 19) (v := ?_) rfl (by kernel_rfl) (fun _ _ _ h => h) (Or.inl ⟨by rfl, ?_⟩) hSS ?_
    rotate_left 1
    · intro wS hwS
      go_simp
      try with_reducible rfl
    simp only [List.getElem_toArray, List.getElem_cons_succ, List.getElem_cons_zero, Act.put, List.setIfInBounds_toArray, List.set_cons_zero, List.set_cons_succ]
    refine wpAnyM_take (i := 21) (v := ?_) rfl (by kernel_rfl) (fun _ _ _ h => h) (Or.inl ⟨by rfl, ?_⟩) hSS ?_
    rotate_left 1
    · intro wS hwS
      go_simp
      try with_reducible rfl
    simp only [List.getElem_toArray, List.getElem_cons_succ, List.getElem_cons_zero, Act.put, List.setIfInBounds_toArray, List.set_cons_zero, List.set_cons_succ]
    refine wpAnyM_take (i := 24) (v := ?_) rfl (by kernel_rfl) (fun _ _ _ h => h) (Or.inl ⟨by rfl, ?_⟩) hSS ?_
    rotate_left 1
    · intro wS hwS
      go_simp
      try with_reducible rfl
    simp only [List.getElem_toArray, List.getElem_cons_succ, List.getElem_cons_zero, Act.put, List.setIfInBounds_toArray, List.set_cons_zero, List.set_cons_succ]
    refine wpAnyM_take (i := 26) (v := ?_) rfl (by kernel_rfl) (fun _ _ _ h => h) (Or.inl ⟨by rfl, ?_⟩) hSS ?_
    rotate_left 1
    · intro wS hwS
      go_simp
      try with_reducible rfl
    simp only [List.getElem_toArray, List.getElem_cons_succ, List.getElem_cons_zero, Act.put, List.setIfInBounds_toArray, List.set_cons_zero, List.set_cons_succ]
    refine wpAnyM_one (i := 3) rfl (by kernel_rfl) rfl (fun K hK => ?_)
    go_simp
    refine (A1.out _).mono ?_
    rintro e wE ⟨rfl, qq⟩
    have m2 : (fun wS => Tm w B tv zs wS ∧ Bx wS B8 #[.int .i64 x, .int .i64 y] 32 ∧ Bx wS B4 #[.int .i64 a9, .int .i64 b9] 32 ∧ Bx wS B5 #[.int .i64 c9, .int .i64 e9] 32 ∧ Bx wS B2 (itc Ac.I.zero) IT) wE := ⟨hSS.1.new qq, (hSS.2.1).kept qq, (hSS.2.2.1).kept qq, (hSS.2.2.2.1).kept qq, (hSS.2.2.2.2).kept qq⟩
    clear qq
    refine hK _ _ (fun _ => m2) ?_
    clear hK K hSS
    have hSS := m2
    clear m2
    try simp only [List.getElem_toArray, List.getElem_cons_succ, List.getElem_cons_zero, Act.put, List.setIfInBounds_toArray, List.set_cons_zero, List.set_cons_succ]
    refine wpAnyM_one (i := 5) rfl (by kernel_rfl) rfl (fun K hK => ?_)
    go_simp
    refine (T1.out _).mono ?_
    rintro e wE ⟨rfl, qq⟩
    have m2 : (fun wS => Tm w B tv zs wS ∧ Bx wS B8 #[.int .i64 x, .int .i64 y] 32 ∧ Bx wS B4 #[.int .i64 a9, .int .i64 b9] 32 ∧ Bx wS B5 #[.int .i64 c9, .int .i64 e9] 32 ∧ Bx wS B2 (itc Ac.I.zero) IT) wE := ⟨hSS.1.new qq, (hSS.2.1).kept qq, (hSS.2.2.1).kept qq, (hSS.2.2.2.1).kept qq, (hSS.2.2.2.2).kept qq⟩
    clear qq
    refine hK _ _ (fun _ => m2) ?_
    clear hK K hSS
    have hSS := m2
    clear m2
    try simp only [List.getElem_toArray, List.getElem_cons_succ, List.getElem_cons_zero, Act.put, List.setIfInBounds_toArray, List.set_cons_zero, List.set_cons_succ]
    refine wpAnyM_one (i := 9) rfl (by kernel_rfl) rfl (fun K hK => ?_)
    go_simp
    refine (A2.out _).mono ?_
    rintro e wE ⟨rfl, qq⟩
    have m2 : (fun wS => Tm w B tv zs wS ∧ Bx wS B8 #[.int .i64 x, .int .i64 y] 32 ∧ Bx wS B4 #[.int .i64 a9, .int .i64 b9] 32 ∧ Bx wS B5 #[.int .i64 c9, .int .i64 e9] 32 ∧ Bx wS B2 (itc Ac.I.zero) IT) wE := ⟨hSS.1.new qq, (hSS.2.1).kept qq, (hSS.2.2.1).kept qq, (hSS.2.2.2.1).kept qq, (hSS.2.2.2.2).kept qq⟩
    clear qq
    refine hK _ _ (fun _ => m2) ?_
    clear hK K hSS
    have hSS := m2
    clear m2
    try simp only [List.getElem_toArray, List.getElem_cons_succ, List.getElem_cons_zero, Act.put, List.setIfInBounds_toArray, List.set_cons_zero, List.set_cons_succ]
    refine wpAnyM_one (i := 11) rfl (by kernel_rfl) rfl (fun K hK => ?_)
    go_simp
    refine (T2.out _).mono ?_
    rintro e wE ⟨rfl, qq⟩
    have m2 : (fun wS => Tm w B tv zs wS ∧ Bx wS B8 #[.int .i64 x, .int .i64 y] 32 ∧ Bx wS B4 #[.int .i64 a9, .int .i64 b9] 32 ∧ Bx wS B5 #[.int .i64 c9, .int .i64 e9] 32 ∧ Bx wS B2 (itc Ac.I.zero) IT) wE := ⟨hSS.1.new qq, (hSS.2.1).kept qq, (hSS.2.2.1).kept qq, (hSS.2.2.2.1).kept qq, (hSS.2.2.2.2).kept qq⟩
    clear qq
    refine hK _ _ (fun _ => m2) ?_
    clear hK K hSS
    have hSS := m2
    clear m2
    try simp only [List.getElem_toArray, List.getElem_cons_succ, List.getElem_cons_zero, Act.put, List.setIfInBounds_toArray, List.set_cons_zero, List.set_cons_succ]
    refine wpAnyM_one (i := 16) rfl (by kernel_rfl) rfl (fun K hK => ?_)
    go_simp
    refine (T3.out _).mono ?_
    rintro e wE ⟨rfl, qq⟩
    have m2 : (fun wS => Tm w B tv zs wS ∧ Bx wS B8 #[.int .i64 x, .int .i64 y] 32 ∧ Bx wS B4 #[.int .i64 a9, .int .i64 b9] 32 ∧ Bx wS B5 #[.int .i64 c9, .int .i64 e9] 32 ∧ Bx wS B2 (itc Ac.I.zero) IT) wE := ⟨hSS.1.new qq, (hSS.2.1).kept qq, (hSS.2.2.1).kept qq, (hSS.2.2.2.1).kept qq, (hSS.2.2.2.2).kept qq⟩
    clear qq
    refine hK _ _ (fun _ => m2) ?_
    clear hK K hSS
    have hSS := m2
    clear m2
    try simp only [List.getElem_toArray, List.getElem_cons_succ, List.getElem_cons_zero, Act.put, List.setIfInBounds_toArray, List.set_cons_zero, List.set_cons_succ]
    refine wpAnyM_one (i := 20) rfl (by kernel_rfl) rfl (fun K hK => ?_)
    go_simp
    refine (RG.out 1 90000 (by decide) (by decide) (by decide) _ hSS.1).mono ?_
    rintro e wE ⟨⟨fd, rfl, fd1, fd2⟩, mm, gg⟩
    have m2 : (fun wS => Tm w B tv zs wS ∧ Bx wS B8 #[.int .i64 x, .int .i64 y] 32 ∧ Bx wS B4 #[.int .i64 a9, .int .i64 b9] 32 ∧ Bx wS B5 #[.int .i64 c9, .int .i64 e9] 32 ∧ Bx wS B2 (itc Ac.I.zero) IT) wE := ⟨mm, (hSS.2.1).grM gg (hSS.1.nt h8.out), (hSS.2.2.1).grM gg (hSS.1.nt h4.out), (hSS.2.2.2.1).grM gg (hSS.1.nt h5.out), (hSS.2.2.2.2).grM gg (hSS.1.nt h2.out)⟩
    clear mm gg
    refine hK _ _ (fun _ => m2) ?_
    clear hK K hSS
    have hSS := m2
    clear m2
    try simp only [List.getElem_toArray, List.getElem_cons_succ, List.getElem_cons_zero, Act.put, List.setIfInBounds_toArray, List.set_cons_zero, List.set_cons_succ]
    refine wpAnyM_one (i := 22) rfl (by kernel_rfl) rfl (fun K hK => ?_)
    go_simp
    refine (NX.out 4 (by decide) (by decide) _ hSS.1).mono ?_
    rintro e wE ⟨⟨n4, rfl, n41, n42⟩, mm, gg⟩
    have m2 : (fun wS => Tm w B tv zs wS ∧ Bx wS B8 #[.int .i64 x, .int .i64 y] 32 ∧ Bx wS B4 #[.int .i64 a9, .int .i64 b9] 32 ∧ Bx wS B5 #[.int .i64 c9, .int .i64 e9] 32 ∧ Bx wS B2 (itc Ac.I.zero) IT) wE := ⟨mm, (hSS.2.1).grM gg (hSS.1.nt h8.out), (hSS.2.2.1).grM gg (hSS.1.nt h4.out), (hSS.2.2.2.1).grM gg (hSS.1.nt h5.out), (hSS.2.2.2.2).grM gg (hSS.1.nt h2.out)⟩
    clear mm gg
    refine hK _ _ (fun _ => m2) ?_
    clear hK K hSS
    have hSS := m2
    clear m2
    try simp only [List.getElem_toArray, List.getElem_cons_succ, List.getElem_cons_zero, Act.put, List.setIfInBounds_toArray, List.set_cons_zero, List.set_cons_succ]
    refine wpAnyM_take (i := 23) (v := ?_) rfl (by kernel_rfl) (fun _ _ _ h => h) (Or.inl ⟨by rfl, ?_⟩) hSS ?_
    rotate_left 1
    · intro wS hwS
      go_simp
      try with_reducible rfl
    simp only [List.getElem_toArray, List.getElem_cons_succ, List.getElem_cons_zero, Act.put, List.setIfInBounds_toArray, List.set_cons_zero, List.set_cons_succ]
    refine wpAnyM_one (i := 25) rfl (by kernel_rfl) rfl (fun K hK => ?_)
    go_simp
    refine (NX.out 200 (by decide) (by decide) _ hSS.1).mono ?_
    rintro e wE ⟨⟨bl, rfl, bl1, bl2⟩, mm, gg⟩
    have m2 : (fun wS => Tm w B tv zs wS ∧ Bx wS B8 #[.int .i64 x, .int .i64 y] 32 ∧ Bx wS B4 #[.int .i64 a9, .int .i64 b9] 32 ∧ Bx wS B5 #[.int .i64 c9, .int .i64 e9] 32 ∧ Bx wS B2 (itc Ac.I.zero) IT) wE := ⟨mm, (hSS.2.1).grM gg (hSS.1.nt h8.out), (hSS.2.2.1).grM gg (hSS.1.nt h4.out), (hSS.2.2.2.1).grM gg (hSS.1.nt h5.out), (hSS.2.2.2.2).grM gg (hSS.1.nt h2.out)⟩
    clear mm gg
    refine hK _ _ (fun _ => m2) ?_
    clear hK K hSS
    have hSS := m2
    clear m2
    try simp only [List.getElem_toArray, List.getElem_cons_succ, List.getElem_cons_zero, Act.put, List.setIfInBounds_toArray, List.set_cons_zero, List.set_cons_succ]
    refine wpAnyM_one (i := 27) rfl (by kernel_rfl) rfl (fun K hK => ?_)
    go_simp
    refine (NX.out 20 (by decide) (by decide) _ hSS.1).mono ?_
    rintro e wE ⟨⟨bk, rfl, bk1, bk2⟩, mm, gg⟩
    have m2 : (fun wS => Tm w B tv zs wS ∧ Bx wS B8 #[.int .i64 x, .int .i64 y] 32 ∧ Bx wS B4 #[.int .i64 a9, .int .i64 b9] 32 ∧ Bx wS B5 #[.int .i64 c9, .int .i64 e9] 32 ∧ Bx wS B2 (itc Ac.I.zero) IT) wE := ⟨mm, (hSS.2.1).grM gg (hSS.1.nt h8.out), (hSS.2.2.1).grM gg (hSS.1.nt h4.out), (hSS.2.2.2.1).grM gg (hSS.1.nt h5.out), (hSS.2.2.2.2).grM gg (hSS.1.nt h2.out)⟩
    clear mm gg
    refine hK _ _ (fun _ => m2) ?_
    clear hK K hSS
    have hSS := m2
    clear m2
    try simp only [List.getElem_toArray, List.getElem_cons_succ, List.getElem_cons_zero, Act.put, List.setIfInBounds_toArray, List.set_cons_zero, List.set_cons_succ]
    refine wpAnyM_one (i := 28) rfl (by kernel_rfl) rfl (fun K hK => ?_)
    refine wpb_it rfl (built_arc p ht kt (1 - 2 * n2) (a9) (b9) (c9) (e9) x y fd bl bk false (n4 == 0) _ (by simp [Act.eval])) ?_
    refine hK _ _ (fun _ => hSS) ?_
    clear hK K
    try simp only [List.getElem_toArray, List.getElem_cons_succ, List.getElem_cons_zero, Act.put, List.setIfInBounds_toArray, List.set_cons_zero, List.set_cons_succ]
    refine wpAnyM_one (i := 29) rfl (by kernel_rfl) rfl (fun K hK => ?_)
    refine wp_store_row IT (.tmp 2) (.tmp 63) rfl B2 (itc (Ac.mkA p ht kt (1 - 2 * n2) (a9) (b9) (c9) (e9) x y fd bl bk false (n4 == 0))) rfl rfl IT (itc Ac.I.zero) (hSS.2.2.2.2) (by rw [itc_size]; exact info_it) (by rw [itc_size, itc_size]) (itc_one _) ?_
    have XF := Lib.hid (Bx.srS (cs := itc (Ac.mkA p ht kt (1 - 2 * n2) (a9) (b9) (c9) (e9) x y fd bl bk false (n4 == 0))) (hSS.2.2.2.2))
    have MF := Lib.hid (SetR.tm (P := B2) ⟨itc (Ac.mkA p ht kt (1 - 2 * n2) (a9) (b9) (c9) (e9) x y fd bl bk false (n4 == 0)), rfl⟩ hSS.1 h2.out)
    refine hK _ _ (fun h => absurd h (by decide)) ?_
    clear hK K
    try simp only [List.getElem_toArray, List.getElem_cons_succ, List.getElem_cons_zero, Act.put, List.setIfInBounds_toArray, List.set_cons_zero, List.set_cons_succ]
    refine wpAnyM_done (by kernel_rfl) ?_ _
    go_wp2
    exact bodyPost_ret (v := .agg (itc (Ac.mkA p ht kt (1 - 2 * n2) (a9) (b9) (c9) (e9) x y fd bl bk false (n4 == 0)))) (ret_it 2 rfl rfl XF.out) rfl (by show ArcR w0 w B tv zs _ _; unfold ArcR; exact ⟨⟨_, rfl, GD.out fd bl bk (n4 == 0)⟩, ⟨MF.out.t, HM.out.g.trans MF.out.g, HM.out.b⟩, MF.out.g⟩)
  · have HK := Lib.hid (rfl : true = true)
    go_upto_region 5 with fail
    go_upto_region 6 with (go_big_may; (first | (go_at_call 68; ((with_reducible refine (PD.out 30000 (by decide) (by decide) _ MM.out).mono ?_); rintro e w8 ⟨⟨x, y, rfl, ⟨x1, x2⟩, ⟨y1, y2⟩⟩, mm, gg⟩; replace X2 := Lib.hid (X2.out.grM gg (MM.out.nt h2.out)); replace X4 := Lib.hid (X4.out.grM gg (MM.out.nt h4.out)); replace X5 := Lib.hid (X5.out.grM gg (MM.out.nt h5.out)); replace MM := Lib.hid mm; clear mm gg)) | ((with_reducible refine al_pt (dst := some 8) ?_); intro w9 B8 hb xx qq; have n8_2 := Lib.hid (Nat.ne_of_gt (Nat.lt_of_lt_of_le X2.out.lt hb)); have n8_4 := Lib.hid (Nat.ne_of_gt (Nat.lt_of_lt_of_le X4.out.lt hb)); have n8_5 := Lib.hid (Nat.ne_of_gt (Nat.lt_of_lt_of_le X5.out.lt hb)); have m8_2 := Lib.hid (Nat.ne_of_lt (Nat.lt_of_lt_of_le X2.out.lt hb)); have m8_4 := Lib.hid (Nat.ne_of_lt (Nat.lt_of_lt_of_le X4.out.lt hb)); have m8_5 := Lib.hid (Nat.ne_of_lt (Nat.lt_of_lt_of_le X5.out.lt hb)); have h8 := Lib.hid (Nat.le_trans MM.out.size hb); replace X2 := Lib.hid (X2.out.kept qq); replace X4 := Lib.hid (X4.out.kept qq); replace X5 := Lib.hid (X5.out.kept qq); replace MM := Lib.hid (MM.out.new qq); have X8 := Lib.hid xx; clear xx qq hb) | ((with_reducible refine sg_pt (x := ?_) (y := ?_) 8 26 ?_ ?_ X8.out ?_); rotate_left 2; (rfl); (rfl); intro w10 xx ss; replace X2 := Lib.hid (ss.oth m8_2.out X2.out); replace X4 := Lib.hid (ss.oth m8_4.out X4.out); replace X5 := Lib.hid (ss.oth m8_5.out X5.out); replace MM := Lib.hid (ss.tm MM.out h8.out); replace X8 := Lib.hid xx; clear xx ss)))
    go_upto_region 7 with (go_big_may; (first | (go_at_call 66; ((first | (with_reducible refine (RG.out (-500) 500 (by decide) (by decide) (by decide) _ (HF1.out _ MM.out)).mono ?_) | (refine (RG.out (-500) 500 (by decide) (by decide) (by decide) _ (HF1.out _ MM.out)).mono ?_)); rintro e w12 ⟨⟨kt, rfl, kt1, kt2⟩, mm, gg⟩; replace X2 := Lib.hid (X2.out.grM gg (MM.out.nt h2.out)); replace X4 := Lib.hid (X4.out.grM gg (MM.out.nt h4.out)); replace X5 := Lib.hid (X5.out.grM gg (MM.out.nt h5.out)); replace X8 := Lib.hid (X8.out.grM gg (MM.out.nt h8.out)); replace MM := Lib.hid mm; clear mm gg)) | (go_at_call 66; ((first | (with_reducible refine (RG.out (-500) 500 (by decide) (by decide) (by decide) _ MM.out).mono ?_) | (refine (RG.out (-500) 500 (by decide) (by decide) (by decide) _ MM.out).mono ?_)); rintro e w11 ⟨⟨ht, rfl, ht1, ht2⟩, mm, gg⟩; have HF1 := Lib.hid (fun (v : World) (t : Tm w B tv zs v) => t); replace X2 := Lib.hid (X2.out.grM gg (MM.out.nt h2.out)); replace X4 := Lib.hid (X4.out.grM gg (MM.out.nt h4.out)); replace X5 := Lib.hid (X5.out.grM gg (MM.out.nt h5.out)); replace X8 := Lib.hid (X8.out.grM gg (MM.out.nt h8.out)); replace MM := Lib.hid mm; clear mm gg))))
    go_upto_region 8 with (go_big_may; (go_at_call 69; ((with_reducible refine (NX.out 2 (by decide) (by decide) _ MM.out).mono ?_); rintro e w13 ⟨⟨n2, rfl, n21, n22⟩, mm, gg⟩; replace X2 := Lib.hid (X2.out.grM gg (MM.out.nt h2.out)); replace X4 := Lib.hid (X4.out.grM gg (MM.out.nt h4.out)); replace X5 := Lib.hid (X5.out.grM gg (MM.out.nt h5.out)); replace X8 := Lib.hid (X8.out.grM gg (MM.out.nt h8.out)); replace MM := Lib.hid mm; clear mm gg)))
    obtain ⟨⟨ab1, ab2⟩, ⟨bb1, bb2⟩, ⟨cb1, cb2⟩, ⟨eb1, eb2⟩⟩ : (-20000 ≤ (a : Int) ∧ (a : Int) ≤ 20000) ∧ (-20000 ≤ (b : Int) ∧ (b : Int) ≤ 20000) ∧ (-20002 ≤ (c : Int) ∧ (c : Int) ≤ 20002) ∧ (-20002 ≤ (e0 : Int) ∧ (e0 : Int) ≤ 20002) := AB.out
    have A1 := Lib.hid (fun w' => arAddPt x y (a) (b) (by omega) (by omega) (by omega) (by omega) (by omega) (by omega) (by omega) (by omega) w')
    have A2 := Lib.hid (fun w' => arAddPt x y (c) (e0) (by omega) (by omega) (by omega) (by omega) (by omega) (by omega) (by omega) (by omega) w')
    have T1 := Lib.hid (fun w' => arAt p (x + a) (y + b) ht (by omega) (by omega) w')
    have T2 := Lib.hid (fun w' => arAt p (x + c) (y + e0) kt (by omega) (by omega) w')
    have T3 := Lib.hid (fun w' => arAt p x y ht (by omega) (by omega) w')
    have GD : ∀ fd bl bk pr, Ac.Gd (Ac.mkA p ht kt (1 - 2 * n2) (a) (b) (c) (e0) x y fd bl bk u pr) := fun fd bl bk pr => Ac.mkA_gd (by omega) (by omega) (by omega) (by omega) (by omega) (by omega) (by omega) (by omega) (by omega) (by omega) (by omega) (OKF.out HK.out).1 (OKF.out HK.out).2
    have GD := Lib.hid GD
    clear ab1 ab2 bb1 bb2 cb1 cb2 eb1 eb2
    try simp only [List.getElem_toArray, List.getElem_cons_succ, List.getElem_cons_zero, Act.put, List.setIfInBounds_toArray, List.set_cons_zero, List.set_cons_succ]
    refine wp_region_M (fun wS => Tm w B tv zs wS ∧ Bx wS B8 #[.int .i64 x, .int .i64 y] 32 ∧ Bx wS B4 #[.int .i64 a, .int .i64 b] 32 ∧ Bx wS B5 #[.int .i64 c, .int .i64 e0] 32 ∧ Bx wS B2 (itc Ac.I.zero) IT) 29 (by kernel_rfl) ?_
    have hSS : (fun wS => Tm w B tv zs wS ∧ Bx wS B8 #[.int .i64 x, .int .i64 y] 32 ∧ Bx wS B4 #[.int .i64 a, .int .i64 b] 32 ∧ Bx wS B5 #[.int .i64 c, .int .i64 e0] 32 ∧ Bx wS B2 (itc Ac.I.zero) IT) (World.drew _) := ⟨MM.out.new (qw_drew1 _), X8.out.kept (qw_drew1 _), X4.out.kept (qw_drew1 _), X5.out.kept (qw_drew1 _), X2.out.kept (qw_drew1 _)⟩
    skip
    refine wpM_named (S' := fun wS => Tm w B tv zs wS ∧ Bx wS B8 #[.int .i64 x, .int .i64 y] 32 ∧ Bx wS B4 #[.int .i64 a, .int .i64 b] 32 ∧ Bx wS B5 #[.int .i64 c, .int .i64 e0] 32 ∧ Bx wS B2 (itc Ac.I.zero) IT) hSS ?_
    intro wd hSS
    refine wpAnyM_take (i := 0) (v := ?_) rfl (by kernel_rfl) (fun _ _ _ h => h) (Or.inl ⟨by rfl, ?_⟩) hSS ?_
    rotate_left 1
    · intro wS hwS
      go_simp
      try with_reducible rfl
    simp only [List.getElem_toArray, List.getElem_cons_succ, List.getElem_cons_zero, Act.put, List.setIfInBounds_toArray, List.set_cons_zero, List.set_cons_succ]
    refine wpAnyM_take (i := 1) (v := ?_) rfl (by kernel_rfl) (fun _ _ _ h => h) (Or.inl ⟨by rfl, ?_⟩) hSS ?_
    rotate_left 1
    · intro wS hwS
      have y0 := (hwS.2.1).p0; have y1 := (hwS.2.1).p1; go_simp
      try with_reducible rfl
    simp only [List.getElem_toArray, List.getElem_cons_succ, List.getElem_cons_zero, Act.put, List.setIfInBounds_toArray, List.set_cons_zero, List.set_cons_succ]
    refine wpAnyM_take (i := 2) (v := ?_) rfl (by kernel_rfl) (fun _ _ _ h => h) (Or.inl ⟨by rfl, ?_⟩) hSS ?_
    rotate_left 1
    · intro wS hwS
      have y0 := (hwS.2.2.1).p0; have y1 := (hwS.2.2.1).p1; go_simp
      try with_reducible rfl
    simp only [List.getElem_toArray, List.getElem_cons_succ, List.getElem_cons_zero, Act.put, List.setIfInBounds_toArray, List.set_cons_zero, List.set_cons_succ]
    refine wpAnyM_take (i := 4) (v := ?_) rfl (by kernel_rfl) (fun _ _ _ h => h) (Or.inl ⟨by rfl, ?_⟩) hSS ?_
    rotate_left 1
    · intro wS hwS
      go_simp
      try with_reducible rfl
    simp only [List.getElem_toArray, List.getElem_cons_succ, List.getElem_cons_zero, Act.put, List.setIfInBounds_toArray, List.set_cons_zero, List.set_cons_succ]
    refine wpAnyM_take (i := 6) (v := ?_) rfl (by kernel_rfl) (fun _ _ _ h => h) (Or.inl ⟨by rfl, ?_⟩) hSS ?_
    rotate_left 1
    · intro wS hwS
      go_simp
      try with_reducible rfl
    simp only [List.getElem_toArray, List.getElem_cons_succ, List.getElem_cons_zero, Act.put, List.setIfInBounds_toArray, List.set_cons_zero, List.set_cons_succ]
    refine wpAnyM_take (i := 7) (v := ?_) rfl (by kernel_rfl) (fun _ _ _ h => h) (Or.inl ⟨by rfl, ?_⟩) hSS ?_
    rotate_left 1
    · intro wS hwS
      have y0 := (hwS.2.1).p0; have y1 := (hwS.2.1).p1; go_simp
      try with_reducible rfl
    simp only [List.getElem_toArray, List.getElem_cons_succ, List.getElem_cons_zero, Act.put, List.setIfInBounds_toArray, List.set_cons_zero, List.set_cons_succ]
    refine wpAnyM_take (i := 8) (v := ?_) rfl (by kernel_rfl) (fun _ _ _ h => h) (Or.inl ⟨by rfl, ?_⟩) hSS ?_
    rotate_left 1
    · intro wS hwS
      have y0 := (hwS.2.2.2.1).p0; have y1 := (hwS.2.2.2.1).p1; go_simp
      try with_reducible rfl
    simp only [List.getElem_toArray, List.getElem_cons_succ, List.getElem_cons_zero, Act.put, List.setIfInBounds_toArray, List.set_cons_zero, List.set_cons_succ]
    refine wpAnyM_take (i := 10) (v := ?_) rfl (by kernel_rfl) (fun _ _ _ h => h) (Or.inl ⟨by rfl, ?_⟩) hSS ?_
    rotate_left 1
    · intro wS hwS
      go_simp
      try with_reducible rfl
    simp only [List.getElem_toArray, List.getElem_cons_succ, List.getElem_cons_zero, Act.put, List.setIfInBounds_toArray, List.set_cons_zero, List.set_cons_succ]
    refine wpAnyM_take (i := 12) (v := ?_) rfl (by kernel_rfl) (fun _ _ _ h => h) (Or.inl ⟨by rfl, ?_⟩) hSS ?_
    rotate_left 1
    · intro wS hwS
      go_simp
      try with_reducible rfl
    simp only [List.getElem_toArray, List.getElem_cons_succ, List.getElem_cons_zero, Act.put, List.setIfInBounds_toArray, List.set_cons_zero, List.set_cons_succ]
    refine wpAnyM_take (i := 13) (v := ?_) rfl (by kernel_rfl) (fun _ _ _ h => h) (Or.inl ⟨by rfl, ?_⟩) hSS ?_
    rotate_left 1
    · intro wS hwS
      go_simp
      try with_reducible rfl
    simp only [List.getElem_toArray, List.getElem_cons_succ, List.getElem_cons_zero, Act.put, List.setIfInBounds_toArray, List.set_cons_zero, List.set_cons_succ]
    refine wpAnyM_take (i := 14) (v := ?_) rfl (by kernel_rfl) (fun _ _ _ h => h) (Or.inl ⟨by rfl, ?_⟩) hSS ?_
    rotate_left 1
    · intro wS hwS
      have y0 := (hwS.2.1).p0; have y1 := (hwS.2.1).p1; go_simp
      try with_reducible rfl
    simp only [List.getElem_toArray, List.getElem_cons_succ, List.getElem_cons_zero, Act.put, List.setIfInBounds_toArray, List.set_cons_zero, List.set_cons_succ]
    refine wpAnyM_take (i := 15) (v := ?_) rfl (by kernel_rfl) (fun _ _ _ h => h) (Or.inl ⟨by rfl, ?_⟩) hSS ?_
    rotate_left 1
    · intro wS hwS
      go_simp
      try with_reducible rfl
    simp only [List.getElem_toArray, List.getElem_cons_succ, List.getElem_cons_zero, Act.put, List.setIfInBounds_toArray, List.set_cons_zero, List.set_cons_succ]
    refine wpAnyM_take (i := 17) (v := ?_) rfl (by kernel_rfl) (fun _ _ _ h => h) (Or.inl ⟨by rfl, ?_⟩) hSS ?_
    rotate_left 1
    · intro wS hwS
      go_simp
      try with_reducible rfl
    simp only [List.getElem_toArray, List.getElem_cons_succ, List.getElem_cons_zero, Act.put, List.setIfInBounds_toArray, List.set_cons_zero, List.set_cons_succ]
    refine wpAnyM_take (i := 18) (v := ?_) rfl (by kernel_rfl) (fun _ _ _ h => h) (Or.inl ⟨by rfl, ?_⟩) hSS ?_
    rotate_left 1
    · intro wS hwS
      go_simp
      try with_reducible rfl
    simp only [List.getElem_toArray, List.getElem_cons_succ, List.getElem_cons_zero, Act.put, List.setIfInBounds_toArray, List.set_cons_zero, List.set_cons_succ]
    refine wpAnyM_take (i := 19) (v := ?_) rfl (by kernel_rfl) (fun _ _ _ h => h) (Or.inl ⟨by rfl, ?_⟩) hSS ?_
    rotate_left 1
    · intro wS hwS
      go_simp
      try with_reducible rfl
    simp only [List.getElem_toArray, List.getElem_cons_succ, List.getElem_cons_zero, Act.put, List.setIfInBounds_toArray, List.set_cons_zero, List.set_cons_succ]
    refine wpAnyM_take (i := 21) (v := ?_) rfl (by kernel_rfl) (fun _ _ _ h => h) (Or.inl ⟨by rfl, ?_⟩) hSS ?_
    rotate_left 1
    · intro wS hwS
      go_simp
      try with_reducible rfl
    simp only [List.getElem_toArray, List.getElem_cons_succ, List.getElem_cons_zero, Act.put, List.setIfInBounds_toArray, List.set_cons_zero, List.set_cons_succ]
    refine wpAnyM_take (i := 24) (v := ?_) rfl (by kernel_rfl) (fun _ _ _ h => h) (Or.inl ⟨by rfl, ?_⟩) hSS ?_
    rotate_left 1
    · intro wS hwS
      go_simp
      try with_reducible rfl
    simp only [List.getElem_toArray, List.getElem_cons_succ, List.getElem_cons_zero, Act.put, List.setIfInBounds_toArray, List.set_cons_zero, List.set_cons_succ]
    refine wpAnyM_take (i := 26) (v := ?_) rfl (by kernel_rfl) (fun _ _ _ h => h) (Or.inl ⟨by rfl, ?_⟩) hSS ?_
    rotate_left 1
    · intro wS hwS
      go_simp
      try with_reducible rfl
    simp only [List.getElem_toArray, List.getElem_cons_succ, List.getElem_cons_zero, Act.put, List.setIfInBounds_toArray, List.set_cons_zero, List.set_cons_succ]
    refine wpAnyM_one (i := 3) rfl (by kernel_rfl) rfl (fun K hK => ?_)
    go_simp
    refine (A1.out _).mono ?_
    rintro e wE ⟨rfl, qq⟩
    have m2 : (fun wS => Tm w B tv zs wS ∧ Bx wS B8 #[.int .i64 x, .int .i64 y] 32 ∧ Bx wS B4 #[.int .i64 a, .int .i64 b] 32 ∧ Bx wS B5 #[.int .i64 c, .int .i64 e0] 32 ∧ Bx wS B2 (itc Ac.I.zero) IT) wE := ⟨hSS.1.new qq, (hSS.2.1).kept qq, (hSS.2.2.1).kept qq, (hSS.2.2.2.1).kept qq, (hSS.2.2.2.2).kept qq⟩
    clear qq
    refine hK _ _ (fun _ => m2) ?_
    clear hK K hSS
    have hSS := m2
    clear m2
    try simp only [List.getElem_toArray, List.getElem_cons_succ, List.getElem_cons_zero, Act.put, List.setIfInBounds_toArray, List.set_cons_zero, List.set_cons_succ]
    refine wpAnyM_one (i := 5) rfl (by kernel_rfl) rfl (fun K hK => ?_)
    go_simp
    refine (T1.out _).mono ?_
    rintro e wE ⟨rfl, qq⟩
    have m2 : (fun wS => Tm w B tv zs wS ∧ Bx wS B8 #[.int .i64 x, .int .i64 y] 32 ∧ Bx wS B4 #[.int .i64 a, .int .i64 b] 32 ∧ Bx wS B5 #[.int .i64 c, .int .i64 e0] 32 ∧ Bx wS B2 (itc Ac.I.zero) IT) wE := ⟨hSS.1.new qq, (hSS.2.1).kept qq, (hSS.2.2.1).kept qq, (hSS.2.2.2.1).kept qq, (hSS.2.2.2.2).kept qq⟩
    clear qq
    refine hK _ _ (fun _ => m2) ?_
    clear hK K hSS
    have hSS := m2
    clear m2
    try simp only [List.getElem_toArray, List.getElem_cons_succ, List.getElem_cons_zero, Act.put, List.setIfInBounds_toArray, List.set_cons_zero, List.set_cons_succ]
    refine wpAnyM_one (i := 9) rfl (by kernel_rfl) rfl (fun K hK => ?_)
    go_simp
    refine (A2.out _).mono ?_
    rintro e wE ⟨rfl, qq⟩
    have m2 : (fun wS => Tm w B tv zs wS ∧ Bx wS B8 #[.int .i64 x, .int .i64 y] 32 ∧ Bx wS B4 #[.int .i64 a, .int .i64 b] 32 ∧ Bx wS B5 #[.int .i64 c, .int .i64 e0] 32 ∧ Bx wS B2 (itc Ac.I.zero) IT) wE := ⟨hSS.1.new qq, (hSS.2.1).kept qq, (hSS.2.2.1).kept qq, (hSS.2.2.2.1).kept qq, (hSS.2.2.2.2).kept qq⟩
    clear qq
    refine hK _ _ (fun _ => m2) ?_
    clear hK K hSS
    have hSS := m2
    clear m2
    try simp only [List.getElem_toArray, List.getElem_cons_succ, List.getElem_cons_zero, Act.put, List.setIfInBounds_toArray, List.set_cons_zero, List.set_cons_succ]
    refine wpAnyM_one (i := 11) rfl (by kernel_rfl) rfl (fun K hK => ?_)
    go_simp
    refine (T2.out _).mono ?_
    rintro e wE ⟨rfl, qq⟩
    have m2 : (fun wS => Tm w B tv zs wS ∧ Bx wS B8 #[.int .i64 x, .int .i64 y] 32 ∧ Bx wS B4 #[.int .i64 a, .int .i64 b] 32 ∧ Bx wS B5 #[.int .i64 c, .int .i64 e0] 32 ∧ Bx wS B2 (itc Ac.I.zero) IT) wE := ⟨hSS.1.new qq, (hSS.2.1).kept qq, (hSS.2.2.1).kept qq, (hSS.2.2.2.1).kept qq, (hSS.2.2.2.2).kept qq⟩
    clear qq
    refine hK _ _ (fun _ => m2) ?_
    clear hK K hSS
    have hSS := m2
    clear m2
    try simp only [List.getElem_toArray, List.getElem_cons_succ, List.getElem_cons_zero, Act.put, List.setIfInBounds_toArray, List.set_cons_zero, List.set_cons_succ]
    refine wpAnyM_one (i := 16) rfl (by kernel_rfl) rfl (fun K hK => ?_)
    go_simp
    refine (T3.out _).mono ?_
    rintro e wE ⟨rfl, qq⟩
    have m2 : (fun wS => Tm w B tv zs wS ∧ Bx wS B8 #[.int .i64 x, .int .i64 y] 32 ∧ Bx wS B4 #[.int .i64 a, .int .i64 b] 32 ∧ Bx wS B5 #[.int .i64 c, .int .i64 e0] 32 ∧ Bx wS B2 (itc Ac.I.zero) IT) wE := ⟨hSS.1.new qq, (hSS.2.1).kept qq, (hSS.2.2.1).kept qq, (hSS.2.2.2.1).kept qq, (hSS.2.2.2.2).kept qq⟩
    clear qq
    refine hK _ _ (fun _ => m2) ?_
    clear hK K hSS
    have hSS := m2
    clear m2
    try simp only [List.getElem_toArray, List.getElem_cons_succ, List.getElem_cons_zero, Act.put, List.setIfInBounds_toArray, List.set_cons_zero, List.set_cons_succ]
    refine wpAnyM_one (i := 20) rfl (by kernel_rfl) rfl (fun K hK => ?_)
    go_simp
    refine (RG.out 1 90000 (by decide) (by decide) (by decide) _ hSS.1).mono ?_
    rintro e wE ⟨⟨fd, rfl, fd1, fd2⟩, mm, gg⟩
    have m2 : (fun wS => Tm w B tv zs wS ∧ Bx wS B8 #[.int .i64 x, .int .i64 y] 32 ∧ Bx wS B4 #[.int .i64 a, .int .i64 b] 32 ∧ Bx wS B5 #[.int .i64 c, .int .i64 e0] 32 ∧ Bx wS B2 (itc Ac.I.zero) IT) wE := ⟨mm, (hSS.2.1).grM gg (hSS.1.nt h8.out), (hSS.2.2.1).grM gg (hSS.1.nt h4.out), (hSS.2.2.2.1).grM gg (hSS.1.nt h5.out), (hSS.2.2.2.2).grM gg (hSS.1.nt h2.out)⟩
    clear mm gg
    refine hK _ _ (fun _ => m2) ?_
    clear hK K hSS
    have hSS := m2
    clear m2
    try simp only [List.getElem_toArray, List.getElem_cons_succ, List.getElem_cons_zero, Act.put, List.setIfInBounds_toArray, List.set_cons_zero, List.set_cons_succ]
    refine wpAnyM_one (i := 22) rfl (by kernel_rfl) rfl (fun K hK => ?_)
    go_simp
    refine (NX.out 4 (by decide) (by decide) _ hSS.1).mono ?_
    rintro e wE ⟨⟨n4, rfl, n41, n42⟩, mm, gg⟩
    have m2 : (fun wS => Tm w B tv zs wS ∧ Bx wS B8 #[.int .i64 x, .int .i64 y] 32 ∧ Bx wS B4 #[.int .i64 a, .int .i64 b] 32 ∧ Bx wS B5 #[.int .i64 c, .int .i64 e0] 32 ∧ Bx wS B2 (itc Ac.I.zero) IT) wE := ⟨mm, (hSS.2.1).grM gg (hSS.1.nt h8.out), (hSS.2.2.1).grM gg (hSS.1.nt h4.out), (hSS.2.2.2.1).grM gg (hSS.1.nt h5.out), (hSS.2.2.2.2).grM gg (hSS.1.nt h2.out)⟩
    clear mm gg
    refine hK _ _ (fun _ => m2) ?_
    clear hK K hSS
    have hSS := m2
    clear m2
    try simp only [List.getElem_toArray, List.getElem_cons_succ, List.getElem_cons_zero, Act.put, List.setIfInBounds_toArray, List.set_cons_zero, List.set_cons_succ]
    refine wpAnyM_take (i := 23) (v := ?_) rfl (by kernel_rfl) (fun _ _ _ h => h) (Or.inl ⟨by rfl, ?_⟩) hSS ?_
    rotate_left 1
    · intro wS hwS
      go_simp
      try with_reducible rfl
    simp only [List.getElem_toArray, List.getElem_cons_succ, List.getElem_cons_zero, Act.put, List.setIfInBounds_toArray, List.set_cons_zero, List.set_cons_succ]
    refine wpAnyM_one (i := 25) rfl (by kernel_rfl) rfl (fun K hK => ?_)
    go_simp
    refine (NX.out 200 (by decide) (by decide) _ hSS.1).mono ?_
    rintro e wE ⟨⟨bl, rfl, bl1, bl2⟩, mm, gg⟩
    have m2 : (fun wS => Tm w B tv zs wS ∧ Bx wS B8 #[.int .i64 x, .int .i64 y] 32 ∧ Bx wS B4 #[.int .i64 a, .int .i64 b] 32 ∧ Bx wS B5 #[.int .i64 c, .int .i64 e0] 32 ∧ Bx wS B2 (itc Ac.I.zero) IT) wE := ⟨mm, (hSS.2.1).grM gg (hSS.1.nt h8.out), (hSS.2.2.1).grM gg (hSS.1.nt h4.out), (hSS.2.2.2.1).grM gg (hSS.1.nt h5.out), (hSS.2.2.2.2).grM gg (hSS.1.nt h2.out)⟩
    clear mm gg
    refine hK _ _ (fun _ => m2) ?_
    clear hK K hSS
    have hSS := m2
    clear m2
    try simp only [List.getElem_toArray, List.getElem_cons_succ, List.getElem_cons_zero, Act.put, List.setIfInBounds_toArray, List.set_cons_zero, List.set_cons_succ]
    refine wpAnyM_one (i := 27) rfl (by kernel_rfl) rfl (fun K hK => ?_)
    go_simp
    refine (NX.out 20 (by decide) (by decide) _ hSS.1).mono ?_
    rintro e wE ⟨⟨bk, rfl, bk1, bk2⟩, mm, gg⟩
    have m2 : (fun wS => Tm w B tv zs wS ∧ Bx wS B8 #[.int .i64 x, .int .i64 y] 32 ∧ Bx wS B4 #[.int .i64 a, .int .i64 b] 32 ∧ Bx wS B5 #[.int .i64 c, .int .i64 e0] 32 ∧ Bx wS B2 (itc Ac.I.zero) IT) wE := ⟨mm, (hSS.2.1).grM gg (hSS.1.nt h8.out), (hSS.2.2.1).grM gg (hSS.1.nt h4.out), (hSS.2.2.2.1).grM gg (hSS.1.nt h5.out), (hSS.2.2.2.2).grM gg (hSS.1.nt h2.out)⟩
    clear mm gg
    refine hK _ _ (fun _ => m2) ?_
    clear hK K hSS
    have hSS := m2
    clear m2
    try simp only [List.getElem_toArray, List.getElem_cons_succ, List.getElem_cons_zero, Act.put, List.setIfInBounds_toArray, List.set_cons_zero, List.set_cons_succ]
    refine wpAnyM_one (i := 28) rfl (by kernel_rfl) rfl (fun K hK => ?_)
    refine wpb_it rfl (built_arc p ht kt (1 - 2 * n2) (a) (b) (c) (e0) x y fd bl bk u (n4 == 0) _ (by simp [Act.eval])) ?_
    refine hK _ _ (fun _ => hSS) ?_
    clear hK K
    try simp only [List.getElem_toArray, List.getElem_cons_succ, List.getElem_cons_zero, Act.put, List.setIfInBounds_toArray, List.set_cons_zero, List.set_cons_succ]
    refine wpAnyM_one (i := 29) rfl (by kernel_rfl) rfl (fun K hK => ?_)
    refine wp_store_row IT (.tmp 2) (.tmp 63) rfl B2 (itc (Ac.mkA p ht kt (1 - 2 * n2) (a) (b) (c) (e0) x y fd bl bk u (n4 == 0))) rfl rfl IT (itc Ac.I.zero) (hSS.2.2.2.2) (by rw [itc_size]; exact info_it) (by rw [itc_size, itc_size]) (itc_one _) ?_
    have XF := Lib.hid (Bx.srS (cs := itc (Ac.mkA p ht kt (1 - 2 * n2) (a) (b) (c) (e0) x y fd bl bk u (n4 == 0))) (hSS.2.2.2.2))
    have MF := Lib.hid (SetR.tm (P := B2) ⟨itc (Ac.mkA p ht kt (1 - 2 * n2) (a) (b) (c) (e0) x y fd bl bk u (n4 == 0)), rfl⟩ hSS.1 h2.out)
    refine hK _ _ (fun h => absurd h (by decide)) ?_
    clear hK K
    try simp only [List.getElem_toArray, List.getElem_cons_succ, List.getElem_cons_zero, Act.put, List.setIfInBounds_toArray, List.set_cons_zero, List.set_cons_succ]
    refine wpAnyM_done (by kernel_rfl) ?_ _
    go_wp2
    exact bodyPost_ret (v := .agg (itc (Ac.mkA p ht kt (1 - 2 * n2) (a) (b) (c) (e0) x y fd bl bk u (n4 == 0)))) (ret_it 2 rfl rfl XF.out) rfl (by show ArcR w0 w B tv zs _ _; unfold ArcR; exact ⟨⟨_, rfl, GD.out fd bl bk (n4 == 0)⟩, ⟨MF.out.t, HM.out.g.trans MF.out.g, HM.out.b⟩, MF.out.g⟩)
end Go.Proofs.Ytihmifdadikhaaa
