
/- The walks of package lex: the first token of a text. -/
import Derived.Test.YtlinfdgmebogbaaDoorLxA
import Derived.Test.YtlinfdgmebogbaaDoorFxD
import Derived.Test.YtlinfdgmebogbaaDoorKept
import Derived.Outline
set_option linter.unusedVariables false
set_option linter.unusedSimpArgs false
namespace Go.Proofs.YtlinfdgmebogbaaDoor
open Go.RowKit

namespace Lx
theorem nrun_step (l : List UInt8) (k : Nat) (h : k < l.length) : (isn l[k] = true → nrun (l.drop k) = nrun (l.drop (k + 1)) + 1) ∧ (isn l[k] = false → nrun (l.drop k) = 0) := by
  rw [List.drop_eq_getElem_cons h, show nrun (l[k] :: l.drop (k + 1)) = if isn l[k] = true then nrun (l.drop (k + 1)) + 1 else 0 from rfl]
  exact ⟨fun e => if_pos e, fun e => if_neg (by rw [e]; decide)⟩
theorem nrun_end (l : List UInt8) (k : Nat) (h : l.length ≤ k) : nrun (l.drop k) = 0 := by rw [List.drop_eq_nil_of_le h]; rfl
end Lx

/-- A token and its length, as lex.first hands them back. -/
def fv (f : Lx.F) : Value := .tuple #[.agg #[.int .i64 f.k, .int .i64 f.n, .int .i64 0, .string (bs f.x)], .int .i64 (f.m : Int)]

theorem fnum_ok (l : List UInt8) (h : pre (l.take (Lx.nrun l)) = 0) : Lx.fnum l = ⟨2, prv (l.take (Lx.nrun l)), [], Lx.nrun l⟩ := by
  unfold pre at h
  unfold Lx.fnum prv
  cases e : pok (l.take (Lx.nrun l))
  · rw [e] at h; exact absurd h (by decide)
  · rfl
theorem fnum_no (l : List UInt8) (h : pre (l.take (Lx.nrun l)) ≠ 0) : Lx.fnum l = ⟨0, 0, [], 0⟩ := by
  unfold pre at h
  unfold Lx.fnum
  cases e : pok (l.take (Lx.nrun l))
  · rfl
  · rw [e] at h; exact absurd rfl h

theorem cell4 {w : World} {b : Nat} {a0 a1 a2 a3 : Value} {t : TypeId} (h : w.heap[b]? = some (.cells #[a0, a1, a2, a3] t (0, 0))) :
    w.cell? ⟨b, 0, none⟩ = some a0 ∧ w.cell? ⟨b, 1, none⟩ = some a1 ∧ w.cell? ⟨b, 2, none⟩ = some a2 ∧ w.cell? ⟨b, 3, none⟩ = some a3 ∧
    w.frozen? ⟨b, 0, none⟩ = false ∧ w.frozen? ⟨b, 1, none⟩ = false ∧ w.frozen? ⟨b, 2, none⟩ = false ∧ w.frozen? ⟨b, 3, none⟩ = false := by simp [World.cell?, World.frozen?, h]

set_option maxRecDepth 100000 in
set_option maxHeartbeats 1000000 in
theorem lxFirstNumber (s : ByteArray) (hs : s.size ≤ maxLen) (w : World) :
    Calls Tryd.prog 36 #[.string s] w fun e w' => e = .returned (fv (Lx.fnum s.data.toList)) ∧ Qw w w' := by
  have hm : s.size ≤ 9223372036854775807 := hs
  have sl := size_len s
  have SL := Lib.hid sl
  have c1 := fun k (hk : k ≤ s.size) w => fxParse (s.extract 0 k) (by simp; omega) w
  simp only [take_data] at c1
  have C1 := Lib.hid c1
  obtain ⟨R, hR⟩ : ∃ R, fv (Lx.fnum s.data.toList) = R := ⟨_, rfl⟩
  rw [hR]
  have HR := Lib.hid hR.symm
  clear sl c1 hR
  go_enter Tryd.func36, Tryd.ntmps36
  go_wp2
  go_loop [4] (fun kv => ∃ k : Nat, k ≤ s.size ∧ k + Lx.nrun (s.data.toList.drop k) = Lx.nrun s.data.toList ∧ kv = .int .i64 (k : Int)) (fun kv => s.size - (intOf kv).toNat)
  case atStart => exact ⟨0, by omega, by simp, rfl⟩
  case round =>
    obtain ⟨k, hk, hn, rfl⟩ := hrel
    have HN := Lib.hid hn
    clear hn
    by_cases hlt : k < s.size
    · have st := Lx.nrun_step s.data.toList k (by have := SL.out; omega)
      have gl : s.data.toList[k]'(by have := SL.out; omega) = s[k] := rfl
      rw [gl, isn_chI] at st
      have ST := Lib.hid st
      clear st gl
      cases hc : chI (s[k].toNat : Int)
      · have EK := (show k = Lx.nrun s.data.toList by have := HN.out; have := ST.out.2 hc; omega)
        have C2 := Lib.hid (C1.out k hk)
        rw [EK] at C2
        clear HN C1
        by_cases hp : pre (s.data.toList.take (Lx.nrun s.data.toList)) = 0
        · have EQ := HR.out.symm
          rw [fnum_ok _ hp, ← EK] at EQ
          rw [hp, ← EK] at C2
          unfold fv at EQ
          generalize prv (s.data.toList.take k) = V at *
          have EQ := Lib.hid EQ
          clear hp EK
          go_wp2_with (first | (go_at_call 35; ((with_reducible refine (lxInNumber _ _).mono ?_); rintro e w' ⟨rfl, rfl⟩)) | (go_at_call 40; ((with_reducible refine (C2.out _).mono ?_); rintro e w' ⟨rfl, rfl⟩)))
          exact bodyPost_ret (v := .tuple #[.agg #[.int .i64 2, .int .i64 V, .int .i64 0, .string (bs [])], .int .i64 k]) (by simp [results, Tryd.results36, go_sem, bs]) rfl ⟨by rw [EQ.out], by repeat (first | exact Below.refl _ _ | refine Below.setCell ?_ (by simp) _ | refine Below.alloc ?_ (by simp) _)⟩
        · have EQ := HR.out.symm
          have hp2 : pre (s.data.toList.take (Lx.nrun s.data.toList)) = 2 := by unfold pre at hp ⊢; split at hp; exact absurd rfl hp; rename_i h; rw [if_neg h]
          rw [fnum_no _ hp] at EQ
          rw [hp2, ← EK] at C2
          unfold fv at EQ
          have EQ := Lib.hid EQ
          generalize prv (s.data.toList.take k) = V at *
          clear hp hp2 EK
          go_wp2_with (first | (go_at_call 35; ((with_reducible refine (lxInNumber _ _).mono ?_); rintro e w' ⟨rfl, rfl⟩)) | (go_at_call 40; ((with_reducible refine (C2.out _).mono ?_); rintro e w' ⟨rfl, rfl⟩)))
          exact bodyPost_ret (v := .tuple #[.agg #[.int .i64 0, .int .i64 0, .int .i64 0, .string (bs [])], .int .i64 0]) (by simp [results, Tryd.results36, go_sem, bs]) rfl ⟨by rw [← EQ.out]; rfl, by repeat (first | exact Below.refl _ _ | refine Below.setCell ?_ (by simp) _ | refine Below.alloc ?_ (by simp) _)⟩
      · have E := ST.out.1 hc
        have HE := Lib.hid E
        clear E ST C1
        go_wp2_with (go_at_call 35; ((with_reducible refine (lxInNumber _ _).mono ?_); rintro e w' ⟨rfl, rfl⟩))
        go_round
        case rel => exact ⟨k + 1, by omega, by have := HN.out; have := HE.out; omega, by go_num⟩
        case measure => simp [intOf]; omega
    · have EK := (show k = Lx.nrun s.data.toList by have := HN.out; have := Lx.nrun_end s.data.toList k (by have := SL.out; omega); omega)
      have C2 := Lib.hid (C1.out k hk)
      rw [EK] at C2
      clear HN C1
      by_cases hp : pre (s.data.toList.take (Lx.nrun s.data.toList)) = 0
      · have EQ := HR.out.symm
        rw [fnum_ok _ hp, ← EK] at EQ
        rw [hp, ← EK] at C2
        unfold fv at EQ
        generalize prv (s.data.toList.take k) = V at *
        have EQ := Lib.hid EQ
        clear hp EK
        go_wp2_with (first | (go_at_call 35; ((with_reducible refine (lxInNumber _ _).mono ?_); rintro e w' ⟨rfl, rfl⟩)) | (go_at_call 40; ((with_reducible refine (C2.out _).mono ?_); rintro e w' ⟨rfl, rfl⟩)))
        exact bodyPost_ret (v := .tuple #[.agg #[.int .i64 2, .int .i64 V, .int .i64 0, .string (bs [])], .int .i64 k]) (by simp [results, Tryd.results36, go_sem, bs]) rfl ⟨by rw [EQ.out], by repeat (first | exact Below.refl _ _ | refine Below.setCell ?_ (by simp) _ | refine Below.alloc ?_ (by simp) _)⟩
      · have EQ := HR.out.symm
        have hp2 : pre (s.data.toList.take (Lx.nrun s.data.toList)) = 2 := by unfold pre at hp ⊢; split at hp; exact absurd rfl hp; rename_i h; rw [if_neg h]
        rw [fnum_no _ hp] at EQ
        rw [hp2, ← EK] at C2
        unfold fv at EQ
        have EQ := Lib.hid EQ
        generalize prv (s.data.toList.take k) = V at *
        clear hp hp2 EK
        go_wp2_with (first | (go_at_call 35; ((with_reducible refine (lxInNumber _ _).mono ?_); rintro e w' ⟨rfl, rfl⟩)) | (go_at_call 40; ((with_reducible refine (C2.out _).mono ?_); rintro e w' ⟨rfl, rfl⟩)))
        exact bodyPost_ret (v := .tuple #[.agg #[.int .i64 0, .int .i64 0, .int .i64 0, .string (bs [])], .int .i64 0]) (by simp [results, Tryd.results36, go_sem, bs]) rfl ⟨by rw [← EQ.out]; rfl, by repeat (first | exact Below.refl _ _ | refine Below.setCell ?_ (by simp) _ | refine Below.alloc ?_ (by simp) _)⟩

/-- Behind a world of the call's own, with stores into its blocks. -/
theorem Qw.trans' {a b c : World} (h : Qw a b) (k : Below a.heap.size b c) : Qw a c := Below.trans h k

theorem empty_txt (a : ByteArray) : a.toList.isEmpty = decide (a.size = 0) := by
  rw [ByteArray.toList_eq]
  cases h : a.data.toList with
  | nil => rw [← size_len, h]; rfl
  | cons c l => rw [← size_len, h]; rfl
theorem rune_txt (c : UInt8) (h : (c.toNat : Int) < 128) : Utf8.encode (wrap32 (c.toNat : Int)) = bs [c] ∧ Utf8.encode (c.toNat : Int) = bs [c] := by
  have h' : c.toNat < 128 := by omega
  have e : wrap32 (c.toNat : Int) = (c.toNat : Int) := by unfold wrap32; omega
  rw [e, and_self]
  unfold Utf8.encode
  have v : Utf8.valid (c.toNat : Int) = true := by unfold Utf8.valid; simp; omega
  simp only [v, if_true, Int.toNat_natCast]
  rw [if_pos h', UInt8.ofNat_toNat]; rfl

theorem sg_char (c : UInt8) (h : Lx.isg c = true) : (c.toNat : Int) < 128 := by
  have : ∀ c : Fin 256, Lx.isg (UInt8.ofNat c.val) = true → c.val < 128 := by decide +kernel
  have k := this ⟨c.toNat, c.toNat_lt⟩ (by rw [UInt8.ofNat_toNat]; exact h)
  show ((c.toNat : Nat) : Int) < 128
  exact Int.ofNat_lt.2 k

set_option maxRecDepth 100000 in
set_option maxHeartbeats 2000000 in
theorem lxFirst (s : ByteArray) (hs : s.size ≤ maxLen) (h0 : 0 < s.size) (w : World) (ht : Tn w) :
    Calls Tryd.prog 26 #[.string s] w fun e w' => e = .returned (fv (Lx.fst s.data.toList)) ∧ Qw w w' := by
  have hm : s.size ≤ 9223372036854775807 := hs
  have sl := size_len s
  have gd : s.data.toList.getD 0 0 = s[0] := by rw [getD_of _ _ (by omega)]; rfl
  have c1 := fun w => lxFirstNumber s hs w
  have c2 := fun w ht => lxFirstName s hs w ht
  have c3 := fun w => stIndexByte (bs Lx.sgs) (s[0].toNat : Int) w
  rw [bs_list, show (s[0].toNat : Int).toNat.toUInt8 = s[0] by simp] at c3
  have HT := Lib.hid ht
  obtain ⟨R, hR⟩ : ∃ R, fv (Lx.fst s.data.toList) = R := ⟨_, rfl⟩
  rw [hR]
  unfold Lx.fst at hR
  rw [gd] at hR
  rw [isn_chI] at hR
  have q0 : Qw w (w.alloc (.cells #[.int .i64 0, .int .i64 0, .int .i64 0, .string ⟨#[]⟩] 39)) := (Below.refl _ _).alloc (Nat.le_refl _) _
  have T0 := Lib.hid (HT.out.kept q0)
  have b0 := Bx.new w #[.int .i64 0, .int .i64 0, .int .i64 0, .string ⟨#[]⟩] 39
  have B0 := Lib.hid b0
  have Q0 := Lib.hid q0
  clear b0 q0 ht gd sl
  cases hc : chI (s[0].toNat : Int)
  · rw [hc, if_neg (by decide)] at hR
    obtain ⟨g0, g1, g2, g3, g4, g5, g6, g7⟩ := cell4 B0.out
    by_cases hu : (65 : Int) ≤ (s[0].toNat : Int) ∧ (s[0].toNat : Int) ≤ 90
    · rw [show Lx.isu s[0] = true from decide_eq_true hu, if_pos rfl] at hR
      obtain ⟨hu1, hu2⟩ := hu
      have C2 := Lib.hid (c2 _ T0.out)
      clear c1 c2 c3
      have bq := empty_txt (bs (Lx.fnm s.data.toList))
      have zl := bs_size (Lx.fnm s.data.toList)
      have nl := Lx.nfold_le s.data.toList 24 (Nat.le_refl _)
      rw [size_len, ← show Lx.fnm s.data.toList = Lx.nfold s.data.toList 24 from rfl, ← zl] at nl
      rw [zl] at bq
      by_cases hz : Lx.fnm s.data.toList = []
      · rw [if_pos hz] at hR
        rw [hz] at bq C2
        have HR := Lib.hid hR
        clear hR hz zl nl
        obtain ⟨X, hX⟩ : ∃ X, bs [] = X := ⟨_, rfl⟩
        rw [hX] at bq C2
        clear hX
        go_enter Tryd.func26, Tryd.ntmps26
        go_wp2_with (first | (go_at_call 35; ((with_reducible refine (lxInNumber _ _).mono ?_); rintro e w' ⟨rfl, rfl⟩)) | (go_at_call 37; ((with_reducible refine C2.out.mono ?_); rintro e w' ⟨rfl, rfl⟩)))
        exact bodyPost_ret (v := .tuple #[.agg #[.int .i64 1, .int .i64 (s[0].toNat : Int), .int .i64 0, .string ⟨#[]⟩], .int .i64 1]) (by simp [results, Tryd.results26, go_sem]) rfl ⟨by rw [← HR.out]; rfl, (Below.refl _ _).alloc (Nat.le_refl _) _⟩
      · rw [if_neg hz] at hR
        have n0 : (Lx.fnm s.data.toList).length ≠ 0 := fun h => hz (List.eq_nil_of_length_eq_zero h)
        rw [decide_eq_false n0] at bq
        rw [← zl] at hR
        generalize hX : bs (Lx.fnm s.data.toList) = X at *
        have HR := Lib.hid hR
        have HX := Lib.hid hX
        clear hR hz n0 hX zl
        go_enter Tryd.func26, Tryd.ntmps26
        go_wp2_with (first | (go_at_call 35; ((with_reducible refine (lxInNumber _ _).mono ?_); rintro e w' ⟨rfl, rfl⟩)) | (go_at_call 37; ((with_reducible refine C2.out.mono ?_); rintro e w' ⟨rfl, rfl⟩)))
        exact bodyPost_ret (v := .tuple #[.agg #[.int .i64 3, .int .i64 0, .int .i64 0, .string X], .int .i64 (X.size : Int)]) (by simp [results, Tryd.results26, go_sem]) rfl ⟨by rw [← HR.out]; unfold fv; simp only [HX.out], (Below.refl _ _).alloc (Nat.le_refl _) _⟩
    · rw [show Lx.isu s[0] = false from decide_eq_false hu, if_neg (by decide)] at hR
      have hu' : (s[0].toNat : Int) < 65 ∨ 90 < (s[0].toNat : Int) := by omega
      have C3 : Hid (∀ w, Calls Tryd.prog 25 #[.string ⟨#[43, 45, 42, 47, 61, 35, 91, 93]⟩, .int .u8 (s[0].toNat : Int)] w fun e w' => e = .returned (.int .i64 (Lib.indexByte Lx.sgs s[0])) ∧ w = w') := Lib.hid c3
      have ib := Lib.indexByte_ge Lx.sgs s[0]
      have gs : Lx.isg s[0] = decide ((0 : Int) ≤ Lib.indexByte Lx.sgs s[0]) := rfl
      have sc := sg_char s[0]
      rw [gs] at hR sc
      clear c1 c2 c3 gs hu
      generalize Lib.indexByte Lx.sgs s[0] = I at *
      by_cases hI : (0 : Int) ≤ I
      · rw [decide_eq_true hI, if_pos rfl] at hR
        have HR := Lib.hid hR
        have cv := rune_txt s[0] (sc (decide_eq_true hI))
        generalize hX : bs [s[0]] = X at cv
        have CV := Lib.hid cv
        have HX := Lib.hid hX
        clear hR sc hX cv
        rcases hu' with hu' | hu'
        · go_enter Tryd.func26, Tryd.ntmps26
          go_wp2_with (first | (go_at_call 35; ((with_reducible refine (lxInNumber _ _).mono ?_); rintro e w' ⟨rfl, rfl⟩)) | (go_at_call 25; ((with_reducible refine (C3.out _).mono ?_); rintro e w' ⟨rfl, rfl⟩)))
          exact bodyPost_ret (v := .tuple #[.agg #[.int .i64 4, .int .i64 0, .int .i64 0, .string X], .int .i64 1]) (by simp [results, Tryd.results26, go_sem, CV.out.1, CV.out.2]) rfl ⟨by rw [← HR.out]; unfold fv; simp only [HX.out]; rfl, (Below.refl _ _).alloc (Nat.le_refl _) _⟩
        · go_enter Tryd.func26, Tryd.ntmps26
          go_wp2_with (first | (go_at_call 35; ((with_reducible refine (lxInNumber _ _).mono ?_); rintro e w' ⟨rfl, rfl⟩)) | (go_at_call 25; ((with_reducible refine (C3.out _).mono ?_); rintro e w' ⟨rfl, rfl⟩)))
          exact bodyPost_ret (v := .tuple #[.agg #[.int .i64 4, .int .i64 0, .int .i64 0, .string X], .int .i64 1]) (by simp [results, Tryd.results26, go_sem, CV.out.1, CV.out.2]) rfl ⟨by rw [← HR.out]; unfold fv; simp only [HX.out]; rfl, (Below.refl _ _).alloc (Nat.le_refl _) _⟩
      · rw [decide_eq_false hI, if_neg (by decide)] at hR
        have HR := Lib.hid hR
        have hI' : I < 0 := by omega
        clear hR sc hI
        rcases hu' with hu' | hu'
        · go_enter Tryd.func26, Tryd.ntmps26
          go_wp2_with (first | (go_at_call 35; ((with_reducible refine (lxInNumber _ _).mono ?_); rintro e w' ⟨rfl, rfl⟩)) | (go_at_call 25; ((with_reducible refine (C3.out _).mono ?_); rintro e w' ⟨rfl, rfl⟩)))
          exact bodyPost_ret (v := .tuple #[.agg #[.int .i64 0, .int .i64 0, .int .i64 0, .string ⟨#[]⟩], .int .i64 0]) (by simp [results, Tryd.results26, go_sem]) rfl ⟨by rw [← HR.out]; rfl, (Below.refl _ _).alloc (Nat.le_refl _) _⟩
        · go_enter Tryd.func26, Tryd.ntmps26
          go_wp2_with (first | (go_at_call 35; ((with_reducible refine (lxInNumber _ _).mono ?_); rintro e w' ⟨rfl, rfl⟩)) | (go_at_call 25; ((with_reducible refine (C3.out _).mono ?_); rintro e w' ⟨rfl, rfl⟩)))
          exact bodyPost_ret (v := .tuple #[.agg #[.int .i64 0, .int .i64 0, .int .i64 0, .string ⟨#[]⟩], .int .i64 0]) (by simp [results, Tryd.results26, go_sem]) rfl ⟨by rw [← HR.out]; rfl, (Below.refl _ _).alloc (Nat.le_refl _) _⟩
  · rw [hc, if_pos rfl] at hR
    have HR := Lib.hid hR
    clear hR c2 c3
    generalize Lx.fnum s.data.toList = f at *
    unfold fv at c1
    have C1 := Lib.hid c1
    clear c1
    go_enter Tryd.func26, Tryd.ntmps26
    go_wp2_with (first | (go_at_call 35; ((with_reducible refine (lxInNumber _ _).mono ?_); rintro e w' ⟨rfl, rfl⟩)) | (go_at_call 36; ((with_reducible refine (C1.out _).mono ?_); rintro e w1 ⟨rfl, q1⟩; have b1 := B0.out.kept q1; have B1 := Lib.hid b1; have Q1 := Lib.hid q1; obtain ⟨g0, g1, g2, g3, g4, g5, g6, g7⟩ := cell4 b1; clear b1 q1)))
    have b2 := (((B1.out.set 0 (.int .i64 f.k)).set 1 (.int .i64 f.n)).set 2 (.int .i64 0)).set 3 (.string (bs f.x))
    obtain ⟨k0, k1, k2, k3, _⟩ := cell4 (w := ((((w1.setCell ⟨w.heap.size, 0, none⟩ (.int .i64 f.k)).setCell ⟨w.heap.size, 1, none⟩ (.int .i64 f.n)).setCell ⟨w.heap.size, 2, none⟩ (.int .i64 0)).setCell ⟨w.heap.size, 3, none⟩ (.string (bs f.x)))) (b := w.heap.size) b2
    exact bodyPost_ret (v := fv f) (by simp [results, Tryd.results26, go_sem, fv, k0, k1, k2, k3]) rfl ⟨by rw [← HR.out], (Q0.out.trans Q1.out).trans' (by repeat (first | exact Below.refl _ _ | refine Below.setCell ?_ (by simp) _))⟩

end Go.Proofs.YtlinfdgmebogbaaDoor
