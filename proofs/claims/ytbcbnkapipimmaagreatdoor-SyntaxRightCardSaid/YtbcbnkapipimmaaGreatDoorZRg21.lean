import Derived.Test.YtbcbnkapipimmaaGreatDoorZRg20
set_option linter.unusedVariables false
set_option linter.unusedSimpArgs false
namespace Go.Proofs.YtbcbnkapipimmaaGreatDoor
open Go.RowKit
set_option maxRecDepth 100000 in
set_option maxHeartbeats 4000000 in
theorem sx_format_tf {kind label n : Int} {words : List (Int × Sy.Ex)} {left x : Sy.Ex} {wa la xa : Option Addr} {wc lc xc : Nat} {S : Nat → Prop} (w : World) (hO : Ow w) (hT : Tb w) (hW : WordsB w S wa wc words) (hL : KidsB w S la lc left.ks) (hX : KidsB w S xa xc x.ks)
    (hv : Sy.vldb ⟨kind, label, true, words, left, x, n⟩ = true) (hl : label = 0) :
    Calls Tryz.prog 26 #[.agg #[.int .i64 kind, .int .i64 label, .bool true, .slice wa words.length wc, .int .i64 left.op, .int .i64 left.n, .slice la left.ks.length lc, .int .i64 x.op, .int .i64 x.n, .slice xa x.ks.length xc, .int .i64 n]] w fun e w' => e = .returned (.string (bs (Sy.fmb ⟨kind, label, true, words, left, x, n⟩))) ∧ Qw w w' := by
  have hB : BlkB w S ⟨kind, label, true, words, left, x, n⟩ #[.int .i64 kind, .int .i64 label, .bool true, .slice wa words.length wc, .int .i64 left.op, .int .i64 left.n, .slice la left.ks.length lc, .int .i64 x.op, .int .i64 x.n, .slice xa x.ks.length xc, .int .i64 n] := ⟨wa, wc, la, lc, xa, xc, rfl, hW, hL, hX⟩
  have blk : ∀ w1, Qw w w1 → BlkB w1 S ⟨kind, label, true, words, left, x, n⟩ #[.int .i64 kind, .int .i64 label, .bool true, .slice wa words.length wc, .int .i64 left.op, .int .i64 left.n, .slice la left.ks.length lc, .int .i64 x.op, .int .i64 x.n, .slice xa x.ks.length xc, .int .i64 n] := fun w1 q => hB.go fun b hS hb => ⟨q.block b hb, hS⟩
  have cv : ∀ w1, Qw w w1 → Calls Tryz.prog 24 #[.agg #[.int .i64 kind, .int .i64 label, .bool true, .slice wa words.length wc, .int .i64 left.op, .int .i64 left.n, .slice la left.ks.length lc, .int .i64 x.op, .int .i64 x.n, .slice xa x.ks.length xc, .int .i64 n]] w1 fun e w' => e = .returned (.bool true) ∧ Qw w1 w' := fun w1 q => by
    have := sv_valid _ _ S w1 (hO.kept q) (blk w1 q)
    rw [hv] at this; exact this
  have cc : kind ≠ 0 → ∀ w1, Qw w w1 → Calls Tryz.prog 55 #[.agg #[.int .i64 kind, .int .i64 label, .bool true, .slice wa words.length wc, .int .i64 left.op, .int .i64 left.n, .slice la left.ks.length lc, .int .i64 x.op, .int .i64 x.n, .slice xa x.ks.length xc, .int .i64 n]] w1 fun e w' => e = .returned (.string (bs (Sy.ctl ⟨kind, label, true, words, left, x, n⟩))) ∧ Qw w1 w' := fun k w1 q => sx_control ⟨kind, label, true, words, left, x, n⟩ hv k _ S w1 (hO.kept q) (hT.kept q) (blk w1 q)
  obtain ⟨hw24, hwd⟩ := Sy.vld_word hv
  have hnow : kind ≠ 0 → words = [] := fun k => Sy.vld_nowords hv k
  have hbig := Sy.fmb_big hv
  have hparts : Sy.fmb ⟨kind, label, true, words, left, x, n⟩ = Sy.joinb ([[47]] ++ (words.map Sy.wdb ++ if kind = 0 then [] else [Sy.ctl ⟨kind, label, true, words, left, x, n⟩])) := by
    unfold Sy.fmb Sy.partsb; simp [hl]
  subst hl
  have cells : ∀ i (h : i < words.length), ∃ (b off : Nat) (ad : Option Addr) (cc : Nat), wa = some ⟨b, off, none⟩ ∧ b < w.heap.size ∧ (∀ w1, Qw w w1 → w1.cell? ⟨b, off + i * 4, none⟩ = some (.int .i64 words[i].1) ∧ w1.cell? ⟨b, off + i * 4 + 1, none⟩ = some (.int .i64 words[i].2.op) ∧ w1.cell? ⟨b, off + i * 4 + 2, none⟩ = some (.int .i64 words[i].2.n) ∧ w1.cell? ⟨b, off + i * 4 + 3, none⟩ = some (.slice ad words[i].2.ks.length cc)) ∧
      (∀ w1, Qw w w1 → Calls Tryz.prog 54 #[.agg #[.int .i64 words[i].2.op, .int .i64 words[i].2.n, .slice ad words[i].2.ks.length cc]] w1 fun e w' => e = .returned (.string (bs (Sy.bva words[i].2))) ∧ Qw w1 w') := by
    intro i hi
    rcases hW.2.2 with h0 | ⟨b, off, ad, cd, rfl, hS, hc⟩
    · rw [h0] at hi; simp at hi
    · obtain ⟨h1, h2, h3, h4, h5⟩ := hc i hi
      have bl := cell_lt h1
      refine ⟨b, off, ad i, cd i, rfl, bl, fun w1 q => ?_, fun w1 q => ?_⟩
      · have k : ∀ o, w1.cell? ⟨b, o, none⟩ = w.cell? ⟨b, o, none⟩ := fun o => World.cell?_of_block (w := w) (q.block b bl)
        rw [k, k, k, k]; exact ⟨h1, h2, h3, h4⟩
      · exact sx_valued _ (hwd i hi).2.1 (hwd i hi).2.2 (ad i) (cd i) S w1 (hO.kept q) (hT.kept q) (h5.kept q)
  have CV := Lib.hid cv
  have CC := Lib.hid cc
  have HP := Lib.hid hparts
  have CL := Lib.hid cells
  have HB := Lib.hid hbig
  have HN := Lib.hid hnow
  have HW := Lib.hid hwd
  have hwl : words.length ≤ 24 := hw24
  clear cv cc hparts cells hbig hnow hwd hW hL hX hB blk hO hT hv hw24
  have q0 : Hid (Qw w w) := Lib.hid (Qw.refl w)
  go_enter Tryz.func26, Tryz.ntmps26
  go_wp2_with (first
    | (go_at_call 24; go_loud ((with_reducible refine (CV.out _ Qz).mono ?_); rintro e w' ⟨rfl, q⟩; have F : Hid (Fm w #[.int .i64 kind, .int .i64 0, .bool true, .slice wa words.length wc, .int .i64 left.op, .int .i64 left.n, .slice la left.ks.length lc, .int .i64 x.op, .int .i64 x.n, .slice xa x.ks.length xc, .int .i64 n] (.slice none 0 0) [] w') := Lib.hid ⟨Bx.kept (by repeat (first | exact Bx.new _ _ _ | refine Bx.alloc ?_ _ | refine Bx.drew ?_)) q, World.ownsRow_nil _ _ _ _, Qw.trans Qz q⟩; obtain ⟨x0, x1, x2, x3, x4, x5, x6, x7, x8, x9, x10⟩ := Bx.c11 F.out.B; clear q q0))
    | (at_builtin; refine str_append 11 12 [47] (w.heap.size + 1) _ [] _ (by rfl) (by rfl) (Bx.new _ _ _) (F.out.alloc _).O (by simp) (by have := (F.out.alloc (.cells #[] 0)).sz; simp at this ⊢; omega) ?_; intro v' w2 ho hg hn; replace F := Lib.hid ((F.out.alloc _).app ho hg); obtain ⟨x0, x1, x2, x3, x4, x5, x6, x7, x8, x9, x10⟩ := Bx.c11 F.out.B; clear ho hg hn))
  go_loopw [3, 27] (fun pv iv wr => ∃ i : Nat, iv = .int .i64 (i : Int) ∧ i ≤ words.length ∧ Hid (Fm w #[.int .i64 kind, .int .i64 0, .bool true, .slice wa words.length wc, .int .i64 left.op, .int .i64 left.n, .slice la left.ks.length lc, .int .i64 x.op, .int .i64 x.n, .slice xa x.ks.length xc, .int .i64 n] pv ([[47]] ++ (words.take i).map Sy.wdb) wr)) (fun _ iv _ => words.length - (intOf iv).toNat)
  case atStart => exact ⟨0, rfl, Nat.zero_le _, F⟩
  case round =>
    clear F x0 x1 x2 x3 x4 x5 x6 x7 x8 x9 x10
    obtain ⟨i, rfl, hi, F⟩ := hrel
    by_cases hlt : i < words.length
    · obtain ⟨b, off, ad, cc, rfl, bl, hc, cw⟩ := CL.out i hlt
      obtain ⟨c0, c1, c2, c3⟩ := hc _ F.out.q
      obtain ⟨hu, hok, hdp⟩ := HW.out i hlt
      have hiw : (i : Int) < (words.length : Int) := by omega
      have hb90 : 65 ≤ words[i].1 ∧ words[i].1 ≤ 90 := by simp [Sy.isw] at hu; omega
      have hv2 := Sy.bva_len2 hok hdp
      have eW : Utf8.encode words[i].1 ++ bs (Sy.bva words[i].2) = bs (Sy.wdb words[i]) := by rw [enc_letter hb90.1 hb90.2, bs_app]; rfl
      have hzw : ¬ 9223372036854775807 < (Utf8.encode words[i].1).size + (bs (Sy.bva words[i].2)).size := by rw [enc_letter hb90.1 hb90.2, bs_size, bs_size, List.length_singleton]; omega
      have etk : (words.take (i + 1)).map Sy.wdb = (words.take i).map Sy.wdb ++ [Sy.wdb words[i]] := by rw [← List.take_append_getElem hlt, List.map_append]; rfl
      have hcnt : ([[47]] ++ (words.take i).map Sy.wdb).length ≤ 1000000 := by simp; omega
      have ETK := Lib.hid etk
      have EW := Lib.hid eW
      generalize Sy.wdb words[i] = pw at *
      generalize Sy.bva words[i].2 = rv at *
      have CW := Lib.hid cw
      generalize words[i].2.ks.length = kl at *
      generalize words[i].2.op = wop at *
      generalize words[i].2.n = wn at *
      generalize words[i].1 = wc0 at *
      obtain ⟨hb1, hb2⟩ := hb90
      have h32 : IntKind.wrap .i32 wc0 = wc0 := by simp [IntKind.wrap, IntKind.bits, IntKind.signed]; omega
      go_upto_region 11 with fail
      refine code_of (fun w2 => Fm w #[.int .i64 kind, .int .i64 0, .bool true, .slice (some ⟨b, off, none⟩) words.length wc, .int .i64 left.op, .int .i64 left.n, .slice la left.ks.length lc, .int .i64 x.op, .int .i64 x.n, .slice xa x.ks.length xc, .int .i64 n] u3 ([[47]] ++ (words.take i).map Sy.wdb) w2 ∧ Bx w2 wr.heap.size #[.int .i64 wc0, .int .i64 wop, .int .i64 wn, .slice ad kl cc] 77) ⟨F.out.alloc _, Bx.new _ _ _⟩ ?_
      rintro w2 ⟨F1, X⟩
      have z0 := X.cell' 0 _ rfl
      have z1 := X.cell' 1 _ rfl
      have z2 := X.cell' 2 _ rfl
      have z3 := X.cell' 3 _ rfl
      replace F1 := Lib.hid F1
      have XH := Lib.hid X
      clear X F c0 c1 c2 c3
      go_region_law (first
        | (refine step_str rfl 31 40 rfl pw (w.heap.size + 1) u3 ([[47]] ++ (words.take i).map Sy.wdb) w'.heap.size (by simp [Act.eval, Act.put]) (by simp [Act.eval, Act.put]) (by rw [← EW.out]; exact Bx.new _ _ _) (F2.out.alloc _).O hcnt (by have := (F2.out.alloc (.cells #[] 0)).sz; simp at this ⊢; omega) ?_; intro v' w3 ho hg hn; have F3 := Lib.hid ((F2.out.alloc _).app ho hg); clear ho hg hn)
        | (go_simp; go_wp2_with (go_at_call 54; ((with_reducible refine (CW.out _ F1.out.drew.q).mono ?_); rintro e w' ⟨rfl, q⟩; have F2 := Lib.hid (F1.out.drew.kept q); have X2 := Bx.kept XH.out.drew q; have z0 := X2.cell' 0 _ rfl; have z1 := X2.cell' 1 _ rfl; have z2 := X2.cell' 2 _ rfl; have z3 := X2.cell' 3 _ rfl; clear X2))))
      all_goals go_wp2_with fail
      all_goals go_roundw
      all_goals (first | (case measure => simp [intOf]; omega) | skip)
      all_goals exact ⟨i + 1, by go_num, by omega, Lib.hid (by rw [ETK.out, ← List.append_assoc]; exact F3.out)⟩
    · obtain rfl : i = words.length := by omega
      obtain ⟨x0, x1, x2, x3, x4, x5, x6, x7, x8, x9, x10⟩ := Bx.c11 F.out.B
      have hnl : ¬ ((words.length : Nat) : Int) < (words.length : Int) := by omega
      have ePS : [[47]] ++ (words.take words.length).map Sy.wdb = [[47]] ++ words.map Sy.wdb := by rw [List.take_length]
      rw [ePS] at F
      have hcnt : ([[47]] ++ words.map Sy.wdb).length ≤ 1000000 := by simp; omega
      clear ePS CL HW
      by_cases hk : kind = 0
      · subst hk
        have eJ : Sy.fmb ⟨0, 0, true, words, left, x, n⟩ = Sy.joinb ([[47]] ++ words.map Sy.wdb) := by rw [HP.out, if_pos rfl, List.append_nil]
        have EJ := Lib.hid eJ
        rw [eJ] at HB
        have CJ := Lib.hid (joinW F.out.O hcnt (Nat.le_trans HB.out (by decide)))
        clear CC HP HN eJ
        go_wp2_with (go_at_call 56; ((with_reducible refine CJ.out.mono ?_); rintro e w' ⟨rfl, q⟩; have QF := Lib.hid (Qw.trans F.out.q q); clear q))
        go_ret
        exact ⟨by rw [EJ.out] <;> rfl, QF.out⟩
      · have hwn := HN.out hk
        have C1 := Lib.hid (CC.out hk)
        have hk2 : (kind != 0) = true := by simpa using hk
        have eJ : Sy.fmb ⟨kind, 0, true, words, left, x, n⟩ = Sy.joinb ([[47]] ++ words.map Sy.wdb ++ [Sy.ctl ⟨kind, 0, true, words, left, x, n⟩]) := by rw [HP.out, if_neg hk, List.append_assoc]
        have EJ := Lib.hid eJ
        rw [eJ] at HB
        have hcnt2 : ([[47]] ++ words.map Sy.wdb ++ [Sy.ctl ⟨kind, 0, true, words, left, x, n⟩]).length ≤ 1000000 := by simp; omega
        have cj := fun v w1 (h : OwnS (w.heap.size + 1) w1 v ([[47]] ++ words.map Sy.wdb ++ [Sy.ctl ⟨kind, 0, true, words, left, x, n⟩])) => joinW h hcnt2 (Nat.le_trans HB.out (by decide))
        have CJ := Lib.hid cj
        clear CC HP HN eJ HB cj hcnt2 hwn
        generalize Sy.ctl ⟨kind, 0, true, words, left, x, n⟩ = ct at CJ C1 EJ
        go_wp2_with (first
          | (go_at_call 55; ((with_reducible refine (C1.out _ F.out.q).mono ?_); rintro e w' ⟨rfl, q⟩; replace F := Lib.hid (F.out.kept q); obtain ⟨x0, x1, x2, x3, x4, x5, x6, x7, x8, x9, x10⟩ := Bx.c11 F.out.B; clear q))
          | (at_builtin; refine str_append 46 49 ct (w.heap.size + 1) _ _ _ (by rfl) (by rfl) (Bx.new _ _ _) (F.out.alloc _).O (by first | exact hcnt | simp) (by have := (F.out.alloc (.cells #[] 0)).sz; simp at this ⊢; omega) ?_; intro v' w2 ho hg hn; replace F := Lib.hid ((F.out.alloc _).app ho hg); obtain ⟨x0, x1, x2, x3, x4, x5, x6, x7, x8, x9, x10⟩ := Bx.c11 F.out.B; clear ho hg hn)
          | (go_at_call 56; ((with_reducible refine (CJ.out _ _ F.out.O).mono ?_); rintro e w' ⟨rfl, q⟩; have QF := Lib.hid (Qw.trans F.out.q q); clear q)))
        go_ret
        exact ⟨by rw [EJ.out] <;> rfl, QF.out⟩
set_option maxRecDepth 100000 in
set_option maxHeartbeats 4000000 in
theorem sx_format_tt {kind label n : Int} {words : List (Int × Sy.Ex)} {left x : Sy.Ex} {wa la xa : Option Addr} {wc lc xc : Nat} {S : Nat → Prop} (w : World) (hO : Ow w) (hT : Tb w) (hW : WordsB w S wa wc words) (hL : KidsB w S la lc left.ks) (hX : KidsB w S xa xc x.ks)
    (hv : Sy.vldb ⟨kind, label, true, words, left, x, n⟩ = true) (hl : label ≠ 0) :
    Calls Tryz.prog 26 #[.agg #[.int .i64 kind, .int .i64 label, .bool true, .slice wa words.length wc, .int .i64 left.op, .int .i64 left.n, .slice la left.ks.length lc, .int .i64 x.op, .int .i64 x.n, .slice xa x.ks.length xc, .int .i64 n]] w fun e w' => e = .returned (.string (bs (Sy.fmb ⟨kind, label, true, words, left, x, n⟩))) ∧ Qw w w' := by
  have hB : BlkB w S ⟨kind, label, true, words, left, x, n⟩ #[.int .i64 kind, .int .i64 label, .bool true, .slice wa words.length wc, .int .i64 left.op, .int .i64 left.n, .slice la left.ks.length lc, .int .i64 x.op, .int .i64 x.n, .slice xa x.ks.length xc, .int .i64 n] := ⟨wa, wc, la, lc, xa, xc, rfl, hW, hL, hX⟩
  have blk : ∀ w1, Qw w w1 → BlkB w1 S ⟨kind, label, true, words, left, x, n⟩ #[.int .i64 kind, .int .i64 label, .bool true, .slice wa words.length wc, .int .i64 left.op, .int .i64 left.n, .slice la left.ks.length lc, .int .i64 x.op, .int .i64 x.n, .slice xa x.ks.length xc, .int .i64 n] := fun w1 q => hB.go fun b hS hb => ⟨q.block b hb, hS⟩
  have cv : ∀ w1, Qw w w1 → Calls Tryz.prog 24 #[.agg #[.int .i64 kind, .int .i64 label, .bool true, .slice wa words.length wc, .int .i64 left.op, .int .i64 left.n, .slice la left.ks.length lc, .int .i64 x.op, .int .i64 x.n, .slice xa x.ks.length xc, .int .i64 n]] w1 fun e w' => e = .returned (.bool true) ∧ Qw w1 w' := fun w1 q => by
    have := sv_valid _ _ S w1 (hO.kept q) (blk w1 q)
    rw [hv] at this; exact this
  have cc : kind ≠ 0 → ∀ w1, Qw w w1 → Calls Tryz.prog 55 #[.agg #[.int .i64 kind, .int .i64 label, .bool true, .slice wa words.length wc, .int .i64 left.op, .int .i64 left.n, .slice la left.ks.length lc, .int .i64 x.op, .int .i64 x.n, .slice xa x.ks.length xc, .int .i64 n]] w1 fun e w' => e = .returned (.string (bs (Sy.ctl ⟨kind, label, true, words, left, x, n⟩))) ∧ Qw w1 w' := fun k w1 q => sx_control ⟨kind, label, true, words, left, x, n⟩ hv k _ S w1 (hO.kept q) (hT.kept q) (blk w1 q)
  obtain ⟨hw24, hwd⟩ := Sy.vld_word hv
  have hnow : kind ≠ 0 → words = [] := fun k => Sy.vld_nowords hv k
  have hbig := Sy.fmb_big hv
  have hparts : Sy.fmb ⟨kind, label, true, words, left, x, n⟩ = Sy.joinb ([[47], 78 :: Sy.decs label] ++ (words.map Sy.wdb ++ if kind = 0 then [] else [Sy.ctl ⟨kind, label, true, words, left, x, n⟩])) := by
    unfold Sy.fmb Sy.partsb; simp [hl]
  obtain ⟨lb0, lb1⟩ := Sy.vld_label hv hl
  have ci : ∀ w1, Qw w w1 → Calls Tryz.prog 53 #[.int .i64 label] w1 fun e w' => e = .returned (.string (bs (Sy.decs label))) ∧ Qw w1 w' := fun w1 q => itW label lb0 lb1 w1 (hT.kept q)
  have eL : bs [78] ++ bs (Sy.decs label) = bs (78 :: Sy.decs label) := by rw [bs_app]; rfl
  have dl := Sy.decs_len (n := label) (m := 99999) (by simp only at lb0 lb1 hl; simp [Sy.cnt]; omega) (by decide)
  have hzl : ¬ 9223372036854775807 < 1 + (bs (Sy.decs label)).size := by rw [bs_size]; omega
  generalize Sy.decs label = dg at *
  have CI := Lib.hid ci
  have EL := Lib.hid eL
  clear ci eL dl
  have hlb : (label != 0) = true := by simpa using hl
  have cells : ∀ i (h : i < words.length), ∃ (b off : Nat) (ad : Option Addr) (cc : Nat), wa = some ⟨b, off, none⟩ ∧ b < w.heap.size ∧ (∀ w1, Qw w w1 → w1.cell? ⟨b, off + i * 4, none⟩ = some (.int .i64 words[i].1) ∧ w1.cell? ⟨b, off + i * 4 + 1, none⟩ = some (.int .i64 words[i].2.op) ∧ w1.cell? ⟨b, off + i * 4 + 2, none⟩ = some (.int .i64 words[i].2.n) ∧ w1.cell? ⟨b, off + i * 4 + 3, none⟩ = some (.slice ad words[i].2.ks.length cc)) ∧
      (∀ w1, Qw w w1 → Calls Tryz.prog 54 #[.agg #[.int .i64 words[i].2.op, .int .i64 words[i].2.n, .slice ad words[i].2.ks.length cc]] w1 fun e w' => e = .returned (.string (bs (Sy.bva words[i].2))) ∧ Qw w1 w') := by
    intro i hi
    rcases hW.2.2 with h0 | ⟨b, off, ad, cd, rfl, hS, hc⟩
    · rw [h0] at hi; simp at hi
    · obtain ⟨h1, h2, h3, h4, h5⟩ := hc i hi
      have bl := cell_lt h1
      refine ⟨b, off, ad i, cd i, rfl, bl, fun w1 q => ?_, fun w1 q => ?_⟩
      · have k : ∀ o, w1.cell? ⟨b, o, none⟩ = w.cell? ⟨b, o, none⟩ := fun o => World.cell?_of_block (w := w) (q.block b bl)
        rw [k, k, k, k]; exact ⟨h1, h2, h3, h4⟩
      · exact sx_valued _ (hwd i hi).2.1 (hwd i hi).2.2 (ad i) (cd i) S w1 (hO.kept q) (hT.kept q) (h5.kept q)
  have CV := Lib.hid cv
  have CC := Lib.hid cc
  have HP := Lib.hid hparts
  have CL := Lib.hid cells
  have HB := Lib.hid hbig
  have HN := Lib.hid hnow
  have HW := Lib.hid hwd
  have hwl : words.length ≤ 24 := hw24
  clear cv cc hparts cells hbig hnow hwd hW hL hX hB blk hO hT hv hw24
  have q0 : Hid (Qw w w) := Lib.hid (Qw.refl w)
  go_enter Tryz.func26, Tryz.ntmps26
  go_wp2_with (first
    | (go_at_call 24; go_loud ((with_reducible refine (CV.out _ Qz).mono ?_); rintro e w' ⟨rfl, q⟩; have F : Hid (Fm w #[.int .i64 kind, .int .i64 label, .bool true, .slice wa words.length wc, .int .i64 left.op, .int .i64 left.n, .slice la left.ks.length lc, .int .i64 x.op, .int .i64 x.n, .slice xa x.ks.length xc, .int .i64 n] (.slice none 0 0) [] w') := Lib.hid ⟨Bx.kept (by repeat (first | exact Bx.new _ _ _ | refine Bx.alloc ?_ _ | refine Bx.drew ?_)) q, World.ownsRow_nil _ _ _ _, Qw.trans Qz q⟩; obtain ⟨x0, x1, x2, x3, x4, x5, x6, x7, x8, x9, x10⟩ := Bx.c11 F.out.B; clear q q0))
    | (at_builtin; refine str_append 11 12 [47] (w.heap.size + 1) _ [] _ (by rfl) (by rfl) (Bx.new _ _ _) (F.out.alloc _).O (by simp) (by have := (F.out.alloc (.cells #[] 0)).sz; simp at this ⊢; omega) ?_; intro v' w2 ho hg hn; replace F := Lib.hid ((F.out.alloc _).app ho hg); obtain ⟨x0, x1, x2, x3, x4, x5, x6, x7, x8, x9, x10⟩ := Bx.c11 F.out.B; clear ho hg hn)
    | (go_at_call 53; ((with_reducible refine (CI.out _ F.out.q).mono ?_); rintro e w' ⟨rfl, q⟩; replace F := Lib.hid (F.out.kept q); obtain ⟨x0, x1, x2, x3, x4, x5, x6, x7, x8, x9, x10⟩ := Bx.c11 F.out.B; clear q))
    | (at_builtin; refine str_append 17 22 (78 :: dg) (w.heap.size + 1) _ _ _ (by rfl) (by rfl) (by rw [← EL.out]; exact Bx.new _ _ _) (F.out.alloc _).O (by simp) (by have := (F.out.alloc (.cells #[] 0)).sz; simp at this ⊢; omega) ?_; intro v' w2 ho hg hn; replace F := Lib.hid ((F.out.alloc _).app ho hg); obtain ⟨x0, x1, x2, x3, x4, x5, x6, x7, x8, x9, x10⟩ := Bx.c11 F.out.B; clear ho hg hn))
  go_loopw [3, 27] (fun pv iv wr => ∃ i : Nat, iv = .int .i64 (i : Int) ∧ i ≤ words.length ∧ Hid (Fm w #[.int .i64 kind, .int .i64 label, .bool true, .slice wa words.length wc, .int .i64 left.op, .int .i64 left.n, .slice la left.ks.length lc, .int .i64 x.op, .int .i64 x.n, .slice xa x.ks.length xc, .int .i64 n] pv ([[47], 78 :: dg] ++ (words.take i).map Sy.wdb) wr)) (fun _ iv _ => words.length - (intOf iv).toNat)
  case atStart => exact ⟨0, rfl, Nat.zero_le _, F⟩
  case round =>
    clear F x0 x1 x2 x3 x4 x5 x6 x7 x8 x9 x10
    obtain ⟨i, rfl, hi, F⟩ := hrel
    by_cases hlt : i < words.length
    · obtain ⟨b, off, ad, cc, rfl, bl, hc, cw⟩ := CL.out i hlt
      obtain ⟨c0, c1, c2, c3⟩ := hc _ F.out.q
      obtain ⟨hu, hok, hdp⟩ := HW.out i hlt
      have hiw : (i : Int) < (words.length : Int) := by omega
      have hb90 : 65 ≤ words[i].1 ∧ words[i].1 ≤ 90 := by simp [Sy.isw] at hu; omega
      have hv2 := Sy.bva_len2 hok hdp
      have eW : Utf8.encode words[i].1 ++ bs (Sy.bva words[i].2) = bs (Sy.wdb words[i]) := by rw [enc_letter hb90.1 hb90.2, bs_app]; rfl
      have hzw : ¬ 9223372036854775807 < (Utf8.encode words[i].1).size + (bs (Sy.bva words[i].2)).size := by rw [enc_letter hb90.1 hb90.2, bs_size, bs_size, List.length_singleton]; omega
      have etk : (words.take (i + 1)).map Sy.wdb = (words.take i).map Sy.wdb ++ [Sy.wdb words[i]] := by rw [← List.take_append_getElem hlt, List.map_append]; rfl
      have hcnt : ([[47], 78 :: dg] ++ (words.take i).map Sy.wdb).length ≤ 1000000 := by simp; omega
      have ETK := Lib.hid etk
      have EW := Lib.hid eW
      generalize Sy.wdb words[i] = pw at *
      generalize Sy.bva words[i].2 = rv at *
      have CW := Lib.hid cw
      generalize words[i].2.ks.length = kl at *
      generalize words[i].2.op = wop at *
      generalize words[i].2.n = wn at *
      generalize words[i].1 = wc0 at *
      obtain ⟨hb1, hb2⟩ := hb90
      have h32 : IntKind.wrap .i32 wc0 = wc0 := by simp [IntKind.wrap, IntKind.bits, IntKind.signed]; omega
      go_upto_region 11 with fail
      refine code_of (fun w2 => Fm w #[.int .i64 kind, .int .i64 label, .bool true, .slice (some ⟨b, off, none⟩) words.length wc, .int .i64 left.op, .int .i64 left.n, .slice la left.ks.length lc, .int .i64 x.op, .int .i64 x.n, .slice xa x.ks.length xc, .int .i64 n] u3 ([[47], 78 :: dg] ++ (words.take i).map Sy.wdb) w2 ∧ Bx w2 wr.heap.size #[.int .i64 wc0, .int .i64 wop, .int .i64 wn, .slice ad kl cc] 77) ⟨F.out.alloc _, Bx.new _ _ _⟩ ?_
      rintro w2 ⟨F1, X⟩
      have z0 := X.cell' 0 _ rfl
      have z1 := X.cell' 1 _ rfl
      have z2 := X.cell' 2 _ rfl
      have z3 := X.cell' 3 _ rfl
      replace F1 := Lib.hid F1
      have XH := Lib.hid X
      clear X F c0 c1 c2 c3
      go_region_law (first
        | (refine step_str rfl 31 40 rfl pw (w.heap.size + 1) u3 ([[47], 78 :: dg] ++ (words.take i).map Sy.wdb) w'.heap.size (by simp [Act.eval, Act.put]) (by simp [Act.eval, Act.put]) (by rw [← EW.out]; exact Bx.new _ _ _) (F2.out.alloc _).O hcnt (by have := (F2.out.alloc (.cells #[] 0)).sz; simp at this ⊢; omega) ?_; intro v' w3 ho hg hn; have F3 := Lib.hid ((F2.out.alloc _).app ho hg); clear ho hg hn)
        | (go_simp; go_wp2_with (go_at_call 54; ((with_reducible refine (CW.out _ F1.out.drew.q).mono ?_); rintro e w' ⟨rfl, q⟩; have F2 := Lib.hid (F1.out.drew.kept q); have X2 := Bx.kept XH.out.drew q; have z0 := X2.cell' 0 _ rfl; have z1 := X2.cell' 1 _ rfl; have z2 := X2.cell' 2 _ rfl; have z3 := X2.cell' 3 _ rfl; clear X2))))
      all_goals go_wp2_with fail
      all_goals go_roundw
      all_goals (first | (case measure => simp [intOf]; omega) | skip)
      all_goals exact ⟨i + 1, by go_num, by omega, Lib.hid (by rw [ETK.out, ← List.append_assoc]; exact F3.out)⟩
    · obtain rfl : i = words.length := by omega
      obtain ⟨x0, x1, x2, x3, x4, x5, x6, x7, x8, x9, x10⟩ := Bx.c11 F.out.B
      have hnl : ¬ ((words.length : Nat) : Int) < (words.length : Int) := by omega
      have ePS : [[47], 78 :: dg] ++ (words.take words.length).map Sy.wdb = [[47], 78 :: dg] ++ words.map Sy.wdb := by rw [List.take_length]
      rw [ePS] at F
      have hcnt : ([[47], 78 :: dg] ++ words.map Sy.wdb).length ≤ 1000000 := by simp; omega
      clear ePS CL HW
      by_cases hk : kind = 0
      · subst hk
        have eJ : Sy.fmb ⟨0, label, true, words, left, x, n⟩ = Sy.joinb ([[47], 78 :: dg] ++ words.map Sy.wdb) := by rw [HP.out, if_pos rfl, List.append_nil]
        have EJ := Lib.hid eJ
        rw [eJ] at HB
        have CJ := Lib.hid (joinW F.out.O hcnt (Nat.le_trans HB.out (by decide)))
        clear CC HP HN eJ
        go_wp2_with (go_at_call 56; ((with_reducible refine CJ.out.mono ?_); rintro e w' ⟨rfl, q⟩; have QF := Lib.hid (Qw.trans F.out.q q); clear q))
        go_ret
        exact ⟨by rw [EJ.out] <;> rfl, QF.out⟩
      · have hwn := HN.out hk
        have C1 := Lib.hid (CC.out hk)
        have hk2 : (kind != 0) = true := by simpa using hk
        have eJ : Sy.fmb ⟨kind, label, true, words, left, x, n⟩ = Sy.joinb ([[47], 78 :: dg] ++ words.map Sy.wdb ++ [Sy.ctl ⟨kind, label, true, words, left, x, n⟩]) := by rw [HP.out, if_neg hk, List.append_assoc]
        have EJ := Lib.hid eJ
        rw [eJ] at HB
        have hcnt2 : ([[47], 78 :: dg] ++ words.map Sy.wdb ++ [Sy.ctl ⟨kind, label, true, words, left, x, n⟩]).length ≤ 1000000 := by simp; omega
        have cj := fun v w1 (h : OwnS (w.heap.size + 1) w1 v ([[47], 78 :: dg] ++ words.map Sy.wdb ++ [Sy.ctl ⟨kind, label, true, words, left, x, n⟩])) => joinW h hcnt2 (Nat.le_trans HB.out (by decide))
        have CJ := Lib.hid cj
        clear CC HP HN eJ HB cj hcnt2 hwn
        generalize Sy.ctl ⟨kind, label, true, words, left, x, n⟩ = ct at CJ C1 EJ
        go_wp2_with (first
          | (go_at_call 55; ((with_reducible refine (C1.out _ F.out.q).mono ?_); rintro e w' ⟨rfl, q⟩; replace F := Lib.hid (F.out.kept q); obtain ⟨x0, x1, x2, x3, x4, x5, x6, x7, x8, x9, x10⟩ := Bx.c11 F.out.B; clear q))
          | (at_builtin; refine str_append 46 49 ct (w.heap.size + 1) _ _ _ (by rfl) (by rfl) (Bx.new _ _ _) (F.out.alloc _).O (by first | exact hcnt | simp) (by have := (F.out.alloc (.cells #[] 0)).sz; simp at this ⊢; omega) ?_; intro v' w2 ho hg hn; replace F := Lib.hid ((F.out.alloc _).app ho hg); obtain ⟨x0, x1, x2, x3, x4, x5, x6, x7, x8, x9, x10⟩ := Bx.c11 F.out.B; clear ho hg hn)
          | (go_at_call 56; ((with_reducible refine (CJ.out _ _ F.out.O).mono ?_); rintro e w' ⟨rfl, q⟩; have QF := Lib.hid (Qw.trans F.out.q q); clear q)))
        go_ret
        exact ⟨by rw [EJ.out] <;> rfl, QF.out⟩
end Go.Proofs.YtbcbnkapipimmaaGreatDoor
set_option linter.unusedVariables false
set_option linter.unusedSimpArgs false
namespace Go.Proofs.YtbcbnkapipimmaaGreatDoor
open Go.RowKit
def Sy.fmt (b : Sy.Bl) : List UInt8 := if Sy.vldb b = true then Sy.fmb b else []
theorem sx_format (b : Sy.Bl) (cs : Array Value) (S : Nat → Prop) (w : World) (hO : Ow w) (hT : Tb w) (hB : BlkB w S b cs) : Calls Tryz.prog 26 #[.agg cs] w fun e w' => e = .returned (.string (bs (Sy.fmt b))) ∧ Qw w w' := by
  unfold Sy.fmt
  cases hv : Sy.vldb b with
  | false => rw [if_neg (by decide)]; exact sx_format_no b hv cs S w hO hB
  | true =>
    rw [if_pos rfl]
    obtain ⟨kind, label, skip, words, left, x, n⟩ := b
    obtain ⟨wa, wc, la, lc, xa, xc, rfl, hW, hL, hX⟩ := hB
    by_cases hl : label = 0
    · cases skip
      · exact sx_format_ff w hO hT hW hL hX hv hl
      · exact sx_format_tf w hO hT hW hL hX hv hl
    · cases skip
      · exact sx_format_ft w hO hT hW hL hX hv hl
      · exact sx_format_tt w hO hT hW hL hX hv hl
def Sy.prt (x : Sy.Ex) : List UInt8 := if Sy.rgt x = true then Sy.bpr x else []
theorem sx_print (op n : Int) (ks : List Sy.Ex) (a : Option Addr) (cap : Nat) (S : Nat → Prop) (w : World) (hO : Ow w) (hT : Tb w) (hk : KidsB w S a cap ks) :
    Calls Tryz.prog 47 #[.agg #[.int .i64 op, .int .i64 n, .slice a ks.length cap]] w fun e w' => e = .returned (.string (bs (Sy.prt (.mk op n ks)))) ∧ Qw w w' := by
  have cr : ∀ w1, Qw w w1 → Calls Tryz.prog 46 #[.agg #[.int .i64 op, .int .i64 n, .slice a ks.length cap]] w1 fun e w' => e = .returned (.bool (Sy.rgt (.mk op n ks))) ∧ Qw w1 w' := fun w1 q => sv_right op n ks a cap S w1 (hO.kept q) (hk.kept q)
  unfold Sy.prt
  cases hv : Sy.rgt (.mk op n ks) with
  | false =>
    rw [hv] at cr
    rw [if_neg (by decide)]
    have CR := Lib.hid cr
    clear cr hO hT hk
    have q0 : Hid (Qw w w) := Lib.hid (Qw.refl w)
    go_enter Tryz.func47, Tryz.ntmps47
    go_wp2_with (go_at_call 46; ((with_reducible refine (CR.out _ Qz).mono ?_); rintro e w' ⟨rfl, q⟩; replace q0 : Hid (Qw w w') := Lib.hid (Qw.trans Qz q); clear q))
    go_ret
    exact ⟨rfl, q0.out⟩
  | true =>
    rw [hv] at cr
    rw [if_pos rfl]
    have hv2 := hv
    simp only [Sy.rgt, Sy.depB, Bool.and_eq_true, decide_eq_true_eq] at hv2
    have A := sx_all (.mk op n ks) hv2.1 hv2.2
    have cp : ∀ w1, Qw w w1 → Calls Tryz.prog 84 #[.agg #[.int .i64 op, .int .i64 n, .slice a ks.length cap]] w1 fun e w' => e = .returned (.string (bs (Sy.bpr (.mk op n ks)))) ∧ Qw w1 w' := fun w1 q => A.p a cap S w1 (hO.kept q) (hT.kept q) (hk.kept q)
    generalize Sy.bpr (.mk op n ks) = r at cp ⊢
    have CR := Lib.hid cr
    have CP := Lib.hid cp
    clear cr cp hO hT hk A hv hv2
    have q0 : Hid (Qw w w) := Lib.hid (Qw.refl w)
    go_enter Tryz.func47, Tryz.ntmps47
    go_wp2_with (first
      | (go_at_call 46; ((with_reducible refine (CR.out _ Qz).mono ?_); rintro e w' ⟨rfl, q⟩; have B : Bx w' w.heap.size #[.int .i64 op, .int .i64 n, .slice a ks.length cap] 27 := Bx.kept (by repeat (first | exact Bx.new _ _ _ | refine Bx.alloc ?_ _ | refine Bx.drew ?_)) q; have x0 := B.cell' 0 _ rfl; have x1 := B.cell' 1 _ rfl; have x2 := B.cell' 2 _ rfl; clear B; replace q0 : Hid (Qw w w') := Lib.hid (Qw.trans Qz q); clear q))
      | (go_at_call 84; ((with_reducible refine (CP.out _ Qz).mono ?_); rintro e w' ⟨rfl, q⟩; replace q0 : Hid (Qw w w') := Lib.hid (Qw.trans Qz q); clear q)))
    go_ret
    exact ⟨rfl, q0.out⟩
end Go.Proofs.YtbcbnkapipimmaaGreatDoor
set_option linter.unusedVariables false
set_option linter.unusedSimpArgs false
namespace Go.Proofs.YtbcbnkapipimmaaGreatDoor
open Go.RowKit
namespace Lx
def lxf : Nat → List UInt8 → Nat → Res
  | 0, _, a => .bad a
  | f + 1, l, a => match l with
    | [] => .ok []
    | c :: t => match act c t with
      | .bad => .bad a
      | .skip k => lxf f (t.drop k) (a + 1 + k)
      | .tok g => (lxf f (t.drop (g.m - 1)) (a + g.m)).pre [⟨g.k, g.n, a, g.x⟩]
theorem lxf_eq : ∀ (f : Nat) (l : List UInt8) (a : Nat), l.length < f → lxf f l a = lx l a
  | 0, l, a, h => by omega
  | f + 1, [], a, h => by rw [lx]; rfl
  | f + 1, c :: t, a, h => by
    rw [lxf, lx]
    simp only [List.length_cons] at h
    cases act c t with
    | bad => rfl
    | skip k => exact lxf_eq f _ _ (by rw [List.length_drop]; omega)
    | tok g =>
      have := lxf_eq f (t.drop (g.m - 1)) (a + g.m) (by rw [List.length_drop]; omega)
      simp only [this]
end Lx
namespace Sy
open Lx
def getT : Res → List Lx.Tok
  | .ok ts => ts
  | .bad _ => []
theorem lnR_of {l : List UInt8} {ts : List Lx.Tok} {b : Bl} {j : Nat} (hl : l.length ≤ 65536) (h1 : lxf (l.length + 1) l 0 = .ok ts) (h2 : pLn ts = .ok b j) (h3 : vldb b = true) : lnR l = (b, l.length, 0) := by
  rw [lxf_eq _ _ _ (Nat.lt_succ_self _)] at h1
  unfold lnR
  rw [if_neg (by omega), h1]
  simp only [h2]
  rw [if_pos h3]
theorem okx_num' {n : Int} (h0 : 0 ≤ n) (h1 : n < 1000000000000000) : okx (num n) = true := by
  unfold num; rw [okx_mk]; unfold nodeB; simp [kds, kdsl]; omega
theorem okx_un' {o : Int} {x : Ex} (h : 0 ≤ o ∧ o ≤ 25) (k : kds o.toNat = 1) (hx : okx x = true) : okx (un o x) = true := by
  unfold un; rw [okx_mk]; unfold nodeB; simp [k, hx]; omega
theorem okx_bin' {o : Int} {x y : Ex} (h : 0 ≤ o ∧ o ≤ 25) (k : kds o.toNat = 2) (hx : okx x = true) (hy : okx y = true) : okx (bin o x y) = true := by
  unfold bin; rw [okx_mk]; unfold nodeB; simp [k, hx, hy]; omega
theorem dpt_num (n : Int) : dpt (num n) = 1 := by unfold num; rw [dpt_mk]; rfl
theorem dpt_un (o : Int) (x : Ex) : dpt (un o x) = 1 + dpt x := by unfold un; rw [dpt_mk]; simp [dmx]
theorem dpt_bin (o : Int) (x y : Ex) : dpt (bin o x y) = 1 + max (dpt x) (dpt y) := by unfold bin; rw [dpt_mk]; simp [dmx]
theorem dpt_zx' : dpt zx = 1 := by unfold zx; rw [dpt_mk]; rfl
def awE : Ex := un 2 (bin 3 (un 1 (num 1000000)) (bin 5 (num 2000000) (num 3000000)))
def awB : Bl := ⟨0, 10, false, [(71, num 1000000), (88, awE)], zx, zx, 0⟩
theorem awE_ok : okx awE = true := okx_un' (by decide) rfl (okx_bin' (by decide) rfl (okx_un' (by decide) rfl (okx_num' (by decide) (by decide))) (okx_bin' (by decide) rfl (okx_num' (by decide) (by decide)) (okx_num' (by decide) (by decide))))
theorem awE_dpt : dpt awE = 4 := by unfold awE; rw [dpt_un, dpt_bin, dpt_un, dpt_num, dpt_bin, dpt_num, dpt_num]; rfl
theorem aw_vld : vldb awB = true := by
  have h1 := okx_num' (n := 1000000) (by decide) (by decide)
  unfold vldb okb limb awB depB
  simp [cnt, isw, h1, awE_ok, awE_dpt, dpt_num, dpt_zx', noneB, zx, Ex.op, Ex.n, Ex.ks]
  exact decide_eq_true (show dpt zx ≤ 16 by rw [dpt_zx']; decide)
theorem aw_line : lnR [78, 49, 48, 71, 48, 49, 88, 45, 91, 35, 49, 43, 50, 42, 51, 93] = (awB, 16, 0) := lnR_of (ts := getT (lxf 17 [78, 49, 48, 71, 48, 49, 88, 45, 91, 35, 49, 43, 50, 42, 51, 93] 0)) (j := 14) (by decide) (by kernel_rfl) (by kernel_rfl) aw_vld
theorem aw_n : lnR [110] = (zb, 0, 2) := by kernel_rfl
theorem decs_1 {n : Int} (h0 : 0 ≤ n) (h : n < 10) : decs n = [UInt8.ofNat (48 + n.toNat)] := by
  unfold decs; rw [Lib.decDigits, dif_pos (by omega)]
theorem fmtp_1 (n m : Int) (e : n = m * 1000000) (h0 : 0 ≤ m) (h : m < 10) : fmtp n = [UInt8.ofNat (48 + m.toNat)] := by rw [e, fmtp_whole, decs_1 h0 h]
theorem decs_10 : decs 10 = [49, 48] := by
  unfold decs; rw [Lib.decDigits, dif_neg (by decide), Lib.decDigits, dif_pos (by decide)]; rfl
theorem aw_fmt : fmt awB = [78, 49, 48, 32, 71, 49, 32, 88, 91, 45, 91, 35, 49, 32, 43, 32, 91, 50, 32, 42, 32, 51, 93, 93, 93] := by
  have d1 := fmtp_1 1000000 1 rfl (by decide) (by decide)
  have d2 := fmtp_1 2000000 2 rfl (by decide) (by decide)
  have d3 := fmtp_1 3000000 3 rfl (by decide) (by decide)
  unfold fmt
  rw [if_pos aw_vld]
  unfold fmb partsb awB
  simp [joinb, decs_10, wdb, bva, smp, num, un, bin, awE, bcl, bpr, binb, bpc, d1, d2, d3, onm, onms, Ex.op]
end Sy
end Go.Proofs.YtbcbnkapipimmaaGreatDoor

