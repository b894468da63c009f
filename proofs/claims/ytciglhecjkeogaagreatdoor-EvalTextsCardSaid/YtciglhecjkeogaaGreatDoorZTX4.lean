import Derived.Test.YtciglhecjkeogaaGreatDoorZTX3
import Derived.Outline
import Derived.OwnWalk
import Derived.WalkMore
set_option linter.unusedVariables false
set_option linter.unusedSimpArgs false
namespace Go.Proofs.YtciglhecjkeogaaGreatDoor
open Go.RowKit
namespace Lx
theorem nrun_step (l : List UInt8) (k : Nat) (h : k < l.length) : (isn l[k] = true → nrun (l.drop k) = nrun (l.drop (k + 1)) + 1) ∧ (isn l[k] = false → nrun (l.drop k) = 0) := by
  rw [List.drop_eq_getElem_cons h, show nrun (l[k] :: l.drop (k + 1)) = if isn l[k] = true then nrun (l.drop (k + 1)) + 1 else 0 from rfl]
  exact ⟨fun e => if_pos e, fun e => if_neg (by rw [e]; decide)⟩
theorem nrun_end (l : List UInt8) (k : Nat) (h : l.length ≤ k) : nrun (l.drop k) = 0 := by rw [List.drop_eq_nil_of_le h]; rfl
end Lx
def fv (f : Lx.F) : Value := .tuple #[.agg #[.int .i64 f.k, .int .i64 f.n, .int .i64 0, .string (bs f.x)], .int .i64 (f.m : Int)]
theorem fnum_ok (l : List UInt8) (h : pre (l.take (Lx.nrun l)) = 0) : Lx.fnum l = ⟨2, prv (l.take (Lx.nrun l)), [], Lx.nrun l⟩ := by
  unfold pre at h
  unfold Lx.fnum prv
  cases e : pok (l.take (Lx.nrun l))
  · rw [e] at h; exact absurd h (by decide)
  · rfl
theorem fnum_no (l : List UInt8) (h : pre (l.take (Lx.nrun l)) ≠ 0) : Lx.fnum l = ⟨0, 0, [], 0⟩ := by
  unfold pre at h
  unfold Lx.fnum
  cases e : pok (l.take (Lx.nrun l))
  · rfl
  · rw [e] at h; exact absurd rfl h
theorem cell4 {w : World} {b : Nat} {a0 a1 a2 a3 : Value} {t : TypeId} (h : w.heap[b]? = some (.cells #[a0, a1, a2, a3] t (0, 0))) :
    w.cell? ⟨b, 0, none⟩ = some a0 ∧ w.cell? ⟨b, 1, none⟩ = some a1 ∧ w.cell? ⟨b, 2, none⟩ = some a2 ∧ w.cell? ⟨b, 3, none⟩ = some a3 ∧
    w.frozen? ⟨b, 0, none⟩ = false ∧ w.frozen? ⟨b, 1, none⟩ = false ∧ w.frozen? ⟨b, 2, none⟩ = false ∧ w.frozen? ⟨b, 3, none⟩ = false := by simp [World.cell?, World.frozen?, h]
set_option maxRecDepth 100000 in
set_option maxHeartbeats 1000000 in
theorem lxFirstNumber (s : ByteArray) (hs : s.size ≤ maxLen) (w : World) :
    Calls Tryz.prog 62 #[.string s] w fun e w' => e = .returned (fv (Lx.fnum s.data.toList)) ∧ Qw w w' := by
  have hm : s.size ≤ 9223372036854775807 := hs
  have sl := size_len s
  have SL := Lib.hid sl
  have c1 := fun k (hk : k ≤ s.size) w => fxParse (s.extract 0 k) (by simp; omega) w
  simp only [take_data] at c1
  have C1 := Lib.hid c1
  obtain ⟨R, hR⟩ : ∃ R, fv (Lx.fnum s.data.toList) = R := ⟨_, rfl⟩
  rw [hR]
  have HR := Lib.hid hR.symm
  clear sl c1 hR
  go_enter Tryz.func62, Tryz.ntmps62
  go_wp2
  go_loop [4] (fun kv => ∃ k : Nat, k ≤ s.size ∧ k + Lx.nrun (s.data.toList.drop k) = Lx.nrun s.data.toList ∧ kv = .int .i64 (k : Int)) (fun kv => s.size - (intOf kv).toNat)
  case atStart => exact ⟨0, by omega, by simp, rfl⟩
  case round =>
    obtain ⟨k, hk, hn, rfl⟩ := hrel
    have HN := Lib.hid hn
    clear hn
    by_cases hlt : k < s.size
    · have st := Lx.nrun_step s.data.toList k (by have := SL.out; omega)
      have gl : s.data.toList[k]'(by have := SL.out; omega) = s[k] := rfl
      rw [gl, isn_chI] at st
      have ST := Lib.hid st
      clear st gl
      cases hc : chI (s[k].toNat : Int)
      · have EK := (show k = Lx.nrun s.data.toList by have := HN.out; have := ST.out.2 hc; omega)
        have C2 := Lib.hid (C1.out k hk)
        rw [EK] at C2
        clear HN C1
        by_cases hp : pre (s.data.toList.take (Lx.nrun s.data.toList)) = 0
        · have EQ := HR.out.symm
          rw [fnum_ok _ hp, ← EK] at EQ
          rw [hp, ← EK] at C2
          unfold fv at EQ
          generalize prv (s.data.toList.take k) = V at *
          have EQ := Lib.hid EQ
          clear hp EK
          go_wp2_with (first | (go_at_call 61; ((with_reducible refine (lxInNumber _ _).mono ?_); rintro e w' ⟨rfl, rfl⟩)) | (go_at_call 102; ((with_reducible refine (C2.out _).mono ?_); rintro e w' ⟨rfl, rfl⟩)))
          exact bodyPost_ret (v := .tuple #[.agg #[.int .i64 2, .int .i64 V, .int .i64 0, .string (bs [])], .int .i64 k]) (by simp [results, Tryz.results62, go_sem, bs]) rfl ⟨by rw [EQ.out], by repeat (first | exact Below.refl _ _ | refine Below.setCell ?_ (by simp) _ | refine Below.alloc ?_ (by simp) _)⟩
        · have EQ := HR.out.symm
          have hp2 : pre (s.data.toList.take (Lx.nrun s.data.toList)) = 2 := by unfold pre at hp ⊢; split at hp; exact absurd rfl hp; rename_i h; rw [if_neg h]
          rw [fnum_no _ hp] at EQ
          rw [hp2, ← EK] at C2
          unfold fv at EQ
          have EQ := Lib.hid EQ
          generalize prv (s.data.toList.take k) = V at *
          clear hp hp2 EK
          go_wp2_with (first | (go_at_call 61; ((with_reducible refine (lxInNumber _ _).mono ?_); rintro e w' ⟨rfl, rfl⟩)) | (go_at_call 102; ((with_reducible refine (C2.out _).mono ?_); rintro e w' ⟨rfl, rfl⟩)))
          exact bodyPost_ret (v := .tuple #[.agg #[.int .i64 0, .int .i64 0, .int .i64 0, .string (bs [])], .int .i64 0]) (by simp [results, Tryz.results62, go_sem, bs]) rfl ⟨by rw [← EQ.out]; rfl, by repeat (first | exact Below.refl _ _ | refine Below.setCell ?_ (by simp) _ | refine Below.alloc ?_ (by simp) _)⟩
      · have E := ST.out.1 hc
        have HE := Lib.hid E
        clear E ST C1
        go_wp2_with (go_at_call 61; ((with_reducible refine (lxInNumber _ _).mono ?_); rintro e w' ⟨rfl, rfl⟩))
        go_round
        case rel => exact ⟨k + 1, by omega, by have := HN.out; have := HE.out; omega, by go_num⟩
        case measure => simp [intOf]; omega
    · have EK := (show k = Lx.nrun s.data.toList by have := HN.out; have := Lx.nrun_end s.data.toList k (by have := SL.out; omega); omega)
      have C2 := Lib.hid (C1.out k hk)
      rw [EK] at C2
      clear HN C1
      by_cases hp : pre (s.data.toList.take (Lx.nrun s.data.toList)) = 0
      · have EQ := HR.out.symm
        rw [fnum_ok _ hp, ← EK] at EQ
        rw [hp, ← EK] at C2
        unfold fv at EQ
        generalize prv (s.data.toList.take k) = V at *
        have EQ := Lib.hid EQ
        clear hp EK
        go_wp2_with (first | (go_at_call 61; ((with_reducible refine (lxInNumber _ _).mono ?_); rintro e w' ⟨rfl, rfl⟩)) | (go_at_call 102; ((with_reducible refine (C2.out _).mono ?_); rintro e w' ⟨rfl, rfl⟩)))
        exact bodyPost_ret (v := .tuple #[.agg #[.int .i64 2, .int .i64 V, .int .i64 0, .string (bs [])], .int .i64 k]) (by simp [results, Tryz.results62, go_sem, bs]) rfl ⟨by rw [EQ.out], by repeat (first | exact Below.refl _ _ | refine Below.setCell ?_ (by simp) _ | refine Below.alloc ?_ (by simp) _)⟩
      · have EQ := HR.out.symm
        have hp2 : pre (s.data.toList.take (Lx.nrun s.data.toList)) = 2 := by unfold pre at hp ⊢; split at hp; exact absurd rfl hp; rename_i h; rw [if_neg h]
        rw [fnum_no _ hp] at EQ
        rw [hp2, ← EK] at C2
        unfold fv at EQ
        have EQ := Lib.hid EQ
        generalize prv (s.data.toList.take k) = V at *
        clear hp hp2 EK
        go_wp2_with (first | (go_at_call 61; ((with_reducible refine (lxInNumber _ _).mono ?_); rintro e w' ⟨rfl, rfl⟩)) | (go_at_call 102; ((with_reducible refine (C2.out _).mono ?_); rintro e w' ⟨rfl, rfl⟩)))
        exact bodyPost_ret (v := .tuple #[.agg #[.int .i64 0, .int .i64 0, .int .i64 0, .string (bs [])], .int .i64 0]) (by simp [results, Tryz.results62, go_sem, bs]) rfl ⟨by rw [← EQ.out]; rfl, by repeat (first | exact Below.refl _ _ | refine Below.setCell ?_ (by simp) _ | refine Below.alloc ?_ (by simp) _)⟩
theorem Qw.trans' {a b c : World} (h : Qw a b) (k : Below a.heap.size b c) : Qw a c := Below.trans h k
theorem empty_txt (a : ByteArray) : a.toList.isEmpty = decide (a.size = 0) := by
  rw [ByteArray.toList_eq]
  cases h : a.data.toList with
  | nil => rw [← size_len, h]; rfl
  | cons c l => rw [← size_len, h]; rfl
theorem rune_txt (c : UInt8) (h : (c.toNat : Int) < 128) : Utf8.encode (wrap32 (c.toNat : Int)) = bs [c] ∧ Utf8.encode (c.toNat : Int) = bs [c] := by
  have h' : c.toNat < 128 := by omega
  have e : wrap32 (c.toNat : Int) = (c.toNat : Int) := by unfold wrap32; omega
  rw [e, and_self]
  unfold Utf8.encode
  have v : Utf8.valid (c.toNat : Int) = true := by unfold Utf8.valid; simp; omega
  simp only [v, if_true, Int.toNat_natCast]
  rw [if_pos h', UInt8.ofNat_toNat]; rfl
theorem sg_char (c : UInt8) (h : Lx.isg c = true) : (c.toNat : Int) < 128 := by
  have : ∀ c : Fin 256, Lx.isg (UInt8.ofNat c.val) = true → c.val < 128 := by decide +kernel
  have k := this ⟨c.toNat, c.toNat_lt⟩ (by rw [UInt8.ofNat_toNat]; exact h)
  show ((c.toNat : Nat) : Int) < 128
  exact Int.ofNat_lt.2 k
set_option maxRecDepth 100000 in
set_option maxHeartbeats 2000000 in
theorem lxFirst (s : ByteArray) (hs : s.size ≤ maxLen) (h0 : 0 < s.size) (w : World) (ht : Tn w) :
    Calls Tryz.prog 39 #[.string s] w fun e w' => e = .returned (fv (Lx.fst s.data.toList)) ∧ Qw w w' := by
  have hm : s.size ≤ 9223372036854775807 := hs
  have sl := size_len s
  have gd : s.data.toList.getD 0 0 = s[0] := by rw [getD_of _ _ (by omega)]; rfl
  have c1 := fun w => lxFirstNumber s hs w
  have c2 := fun w ht => lxFirstName s hs w ht
  have c3 := fun w => stIndexByte (bs Lx.sgs) (s[0].toNat : Int) w
  rw [bs_list, show (s[0].toNat : Int).toNat.toUInt8 = s[0] by simp] at c3
  have HT := Lib.hid ht
  obtain ⟨R, hR⟩ : ∃ R, fv (Lx.fst s.data.toList) = R := ⟨_, rfl⟩
  rw [hR]
  unfold Lx.fst at hR
  rw [gd] at hR
  rw [isn_chI] at hR
  have q0 : Qw w (w.alloc (.cells #[.int .i64 0, .int .i64 0, .int .i64 0, .string ⟨#[]⟩] 82)) := (Below.refl _ _).alloc (Nat.le_refl _) _
  have T0 := Lib.hid (HT.out.kept q0)
  have b0 := Bx.new w #[.int .i64 0, .int .i64 0, .int .i64 0, .string ⟨#[]⟩] 82
  have B0 := Lib.hid b0
  have Q0 := Lib.hid q0
  clear b0 q0 ht gd sl
  cases hc : chI (s[0].toNat : Int)
  · rw [hc, if_neg (by decide)] at hR
    obtain ⟨g0, g1, g2, g3, g4, g5, g6, g7⟩ := cell4 B0.out
    by_cases hu : (65 : Int) ≤ (s[0].toNat : Int) ∧ (s[0].toNat : Int) ≤ 90
    · rw [show Lx.isu s[0] = true from decide_eq_true hu, if_pos rfl] at hR
      obtain ⟨hu1, hu2⟩ := hu
      have C2 := Lib.hid (c2 _ T0.out)
      clear c1 c2 c3
      have bq := empty_txt (bs (Lx.fnm s.data.toList))
      have zl := bs_size (Lx.fnm s.data.toList)
      have nl := Lx.nfold_le s.data.toList 24 (Nat.le_refl _)
      rw [size_len, ← show Lx.fnm s.data.toList = Lx.nfold s.data.toList 24 from rfl, ← zl] at nl
      rw [zl] at bq
      by_cases hz : Lx.fnm s.data.toList = []
      · rw [if_pos hz] at hR
        rw [hz] at bq C2
        have HR := Lib.hid hR
        clear hR hz zl nl
        obtain ⟨X, hX⟩ : ∃ X, bs [] = X := ⟨_, rfl⟩
        rw [hX] at bq C2
        clear hX
        go_enter Tryz.func39, Tryz.ntmps39
        go_wp2_with (first | (go_at_call 61; ((with_reducible refine (lxInNumber _ _).mono ?_); rintro e w' ⟨rfl, rfl⟩)) | (go_at_call 63; ((with_reducible refine C2.out.mono ?_); rintro e w' ⟨rfl, rfl⟩)))
        exact bodyPost_ret (v := .tuple #[.agg #[.int .i64 1, .int .i64 (s[0].toNat : Int), .int .i64 0, .string ⟨#[]⟩], .int .i64 1]) (by simp [results, Tryz.results39, go_sem]) rfl ⟨by rw [← HR.out]; rfl, (Below.refl _ _).alloc (Nat.le_refl _) _⟩
      · rw [if_neg hz] at hR
        have n0 : (Lx.fnm s.data.toList).length ≠ 0 := fun h => hz (List.eq_nil_of_length_eq_zero h)
        rw [decide_eq_false n0] at bq
        rw [← zl] at hR
        generalize hX : bs (Lx.fnm s.data.toList) = X at *
        have HR := Lib.hid hR
        have HX := Lib.hid hX
        clear hR hz n0 hX zl
        go_enter Tryz.func39, Tryz.ntmps39
        go_wp2_with (first | (go_at_call 61; ((with_reducible refine (lxInNumber _ _).mono ?_); rintro e w' ⟨rfl, rfl⟩)) | (go_at_call 63; ((with_reducible refine C2.out.mono ?_); rintro e w' ⟨rfl, rfl⟩)))
        exact bodyPost_ret (v := .tuple #[.agg #[.int .i64 3, .int .i64 0, .int .i64 0, .string X], .int .i64 (X.size : Int)]) (by simp [results, Tryz.results39, go_sem]) rfl ⟨by rw [← HR.out]; unfold fv; simp only [HX.out], (Below.refl _ _).alloc (Nat.le_refl _) _⟩
    · rw [show Lx.isu s[0] = false from decide_eq_false hu, if_neg (by decide)] at hR
      have hu' : (s[0].toNat : Int) < 65 ∨ 90 < (s[0].toNat : Int) := by omega
      have C3 : Hid (∀ w, Calls Tryz.prog 38 #[.string ⟨#[43, 45, 42, 47, 61, 35, 91, 93]⟩, .int .u8 (s[0].toNat : Int)] w fun e w' => e = .returned (.int .i64 (Lib.indexByte Lx.sgs s[0])) ∧ w = w') := Lib.hid c3
      have ib := Lib.indexByte_ge Lx.sgs s[0]
      have gs : Lx.isg s[0] = decide ((0 : Int) ≤ Lib.indexByte Lx.sgs s[0]) := rfl
      have sc := sg_char s[0]
      rw [gs] at hR sc
      clear c1 c2 c3 gs hu
      generalize Lib.indexByte Lx.sgs s[0] = I at *
      by_cases hI : (0 : Int) ≤ I
      · rw [decide_eq_true hI, if_pos rfl] at hR
        have HR := Lib.hid hR
        have cv := rune_txt s[0] (sc (decide_eq_true hI))
        generalize hX : bs [s[0]] = X at cv
        have CV := Lib.hid cv
        have HX := Lib.hid hX
        clear hR sc hX cv
        rcases hu' with hu' | hu'
        · go_enter Tryz.func39, Tryz.ntmps39
          go_wp2_with (first | (go_at_call 61; ((with_reducible refine (lxInNumber _ _).mono ?_); rintro e w' ⟨rfl, rfl⟩)) | (go_at_call 38; ((with_reducible refine (C3.out _).mono ?_); rintro e w' ⟨rfl, rfl⟩)))
          exact bodyPost_ret (v := .tuple #[.agg #[.int .i64 4, .int .i64 0, .int .i64 0, .string X], .int .i64 1]) (by simp [results, Tryz.results39, go_sem, CV.out.1, CV.out.2]) rfl ⟨by rw [← HR.out]; unfold fv; simp only [HX.out]; rfl, (Below.refl _ _).alloc (Nat.le_refl _) _⟩
        · go_enter Tryz.func39, Tryz.ntmps39
          go_wp2_with (first | (go_at_call 61; ((with_reducible refine (lxInNumber _ _).mono ?_); rintro e w' ⟨rfl, rfl⟩)) | (go_at_call 38; ((with_reducible refine (C3.out _).mono ?_); rintro e w' ⟨rfl, rfl⟩)))
          exact bodyPost_ret (v := .tuple #[.agg #[.int .i64 4, .int .i64 0, .int .i64 0, .string X], .int .i64 1]) (by simp [results, Tryz.results39, go_sem, CV.out.1, CV.out.2]) rfl ⟨by rw [← HR.out]; unfold fv; simp only [HX.out]; rfl, (Below.refl _ _).alloc (Nat.le_refl _) _⟩
      · rw [decide_eq_false hI, if_neg (by decide)] at hR
        have HR := Lib.hid hR
        have hI' : I < 0 := by omega
        clear hR sc hI
        rcases hu' with hu' | hu'
        · go_enter Tryz.func39, Tryz.ntmps39
          go_wp2_with (first | (go_at_call 61; ((with_reducible refine (lxInNumber _ _).mono ?_); rintro e w' ⟨rfl, rfl⟩)) | (go_at_call 38; ((with_reducible refine (C3.out _).mono ?_); rintro e w' ⟨rfl, rfl⟩)))
          exact bodyPost_ret (v := .tuple #[.agg #[.int .i64 0, .int .i64 0, .int .i64 0, .string ⟨#[]⟩], .int .i64 0]) (by simp [results, Tryz.results39, go_sem]) rfl ⟨by rw [← HR.out]; rfl, (Below.refl _ _).alloc (Nat.le_refl _) _⟩
        · go_enter Tryz.func39, Tryz.ntmps39
          go_wp2_with (first | (go_at_call 61; ((with_reducible refine (lxInNumber _ _).mono ?_); rintro e w' ⟨rfl, rfl⟩)) | (go_at_call 38; ((with_reducible refine (C3.out _).mono ?_); rintro e w' ⟨rfl, rfl⟩)))
          exact bodyPost_ret (v := .tuple #[.agg #[.int .i64 0, .int .i64 0, .int .i64 0, .string ⟨#[]⟩], .int .i64 0]) (by simp [results, Tryz.results39, go_sem]) rfl ⟨by rw [← HR.out]; rfl, (Below.refl _ _).alloc (Nat.le_refl _) _⟩
  · rw [hc, if_pos rfl] at hR
    have HR := Lib.hid hR
    clear hR c2 c3
    generalize Lx.fnum s.data.toList = f at *
    unfold fv at c1
    have C1 := Lib.hid c1
    clear c1
    go_enter Tryz.func39, Tryz.ntmps39
    go_wp2_with (first | (go_at_call 61; ((with_reducible refine (lxInNumber _ _).mono ?_); rintro e w' ⟨rfl, rfl⟩)) | (go_at_call 62; ((with_reducible refine (C1.out _).mono ?_); rintro e w1 ⟨rfl, q1⟩; have b1 := B0.out.kept q1; have B1 := Lib.hid b1; have Q1 := Lib.hid q1; obtain ⟨g0, g1, g2, g3, g4, g5, g6, g7⟩ := cell4 b1; clear b1 q1)))
    have b2 := (((B1.out.set 0 (.int .i64 f.k)).set 1 (.int .i64 f.n)).set 2 (.int .i64 0)).set 3 (.string (bs f.x))
    obtain ⟨k0, k1, k2, k3, _⟩ := cell4 (w := ((((w1.setCell ⟨w.heap.size, 0, none⟩ (.int .i64 f.k)).setCell ⟨w.heap.size, 1, none⟩ (.int .i64 f.n)).setCell ⟨w.heap.size, 2, none⟩ (.int .i64 0)).setCell ⟨w.heap.size, 3, none⟩ (.string (bs f.x)))) (b := w.heap.size) b2
    exact bodyPost_ret (v := fv f) (by simp [results, Tryz.results39, go_sem, fv, k0, k1, k2, k3]) rfl ⟨by rw [← HR.out], (Q0.out.trans Q1.out).trans' (by repeat (first | exact Below.refl _ _ | refine Below.setCell ?_ (by simp) _))⟩
end Go.Proofs.YtciglhecjkeogaaGreatDoor
set_option linter.unusedVariables false
set_option linter.unusedSimpArgs false
namespace Go.Proofs.YtciglhecjkeogaaGreatDoor
open Go.RowKit
def tcell (t : Lx.Tok) : List Value := [.int .i64 t.k, .int .i64 t.n, .int .i64 (t.p : Int), .string (bs t.x)]
def tcells (ts : List Lx.Tok) : List Value := ts.flatMap tcell
def OwnT (B : Nat) (w : World) (v : Value) (ts : List Lx.Tok) : Prop := w.ownsRow B 82 4 v ts.length (tcells ts)
theorem OwnT.nil (B : Nat) (w : World) : OwnT B w (.slice none 0 0) [] := World.ownsRow_nil w _ _ _
theorem OwnT.kept {B : Nat} {w w' : World} {v : Value} {ts : List Lx.Tok} (h : OwnT B w v ts) (q : Qw w w') : OwnT B w' v ts :=
  World.ownsRow.kept h (row := none) ⟨q.os, q.tape, q.output, q.size, fun k hk _ => q.block k hk⟩ (by cases hv : v.ownBlock <;> simp)
theorem info_tok : (Tryz.prog.info? 82).map (fun i => (i.zero, i.size, i.bytes)) = some (some (.agg #[.int .i64 0, .int .i64 0, .int .i64 0, .string ⟨#[]⟩]), 4, 40) := by kernel_rfl
theorem tok_append {ops : Array Oper} {rest : List Oper} {dst : Option Tmp} {ty : TypeId} {pos : String} {after : Array Edge} {a : Act} {w : World} {Q : Exit → Act → World → Prop} (s x : Tmp) (t : Lx.Tok) (B : Nat) (v : Value) (ts : List Lx.Tok) (g : Nat)
    (hs : a.eval (.tmp s) = v) (hx : a.eval (.tmp x) = .slice (some ⟨g, 0, none⟩) 1 1) (hb : w.heap[g]? = some (.cells #[.int .i64 t.k, .int .i64 t.n, .int .i64 (t.p : Int), .string (bs t.x)] 82 (0, 0)))
    (hown : OwnT B w v ts) (hl : ts.length ≤ 1000000) (hB : B ≤ w.heap.size)
    (h : ∀ v' w', OwnT B w' v' (ts ++ [t]) → Below B w w' → wpList Tryz.prog ops Q rest (a.put dst v') w') :
    wpList Tryz.prog ops Q (⟨dst, .call { callee := .builtin .append, args := #[.tmp s, .tmp x], argTypes := #[55, 55] }, ty, pos, after, none⟩ :: rest) a w := by
  obtain ⟨i0, hi, hz0, hz1, hz2⟩ := info_parts info_tok
  refine wpList_append_own w rfl (.tmp s) (.tmp x) 55 rfl B 82 i0 _ 4 40 Tryz.underlying55 hi hz0 hz1 hz2 rfl (by decide) v ts.length (tcells ts) hs hown ⟨g, 0, none⟩ 1 1 (tcell t) hx rfl ?_ ?_ (by unfold maxLen; omega) (by omega) hB ?_
  · intro j u hj
    have := cell4 hb
    match j, hj with
    | 0, hj => simp [tcell] at hj; subst hj; simpa [Addr.add] using this.1
    | 1, hj => simp [tcell] at hj; subst hj; simpa [Addr.add] using this.2.1
    | 2, hj => simp [tcell] at hj; subst hj; simpa [Addr.add] using this.2.2.1
    | 3, hj => simp [tcell] at hj; subst hj; simpa [Addr.add] using this.2.2.2.1
    | n + 4, hj => simp [tcell] at hj
  · intro u hu
    simp [tcell] at hu
    rcases hu with rfl | rfl | rfl | rfl <;> rfl
  · intro v' w' ho hg _
    refine h v' w' ?_ (Below.grown (Below.refl B w) hg hB (fun k hk => (World.ownsRow.lt hown k hk).1))
    unfold OwnT
    rw [List.length_append, show tcells (ts ++ [t]) = tcells ts ++ tcell t by simp [tcells]]
    exact ho
def ToksB (B : Nat) (w : World) (v : Value) (ts : List Lx.Tok) : Prop :=
  ∃ (a : Option Addr) (cap : Nat), v = .slice a ts.length cap ∧ ts.length ≤ cap ∧ cap ≤ 9223372036854775807 ∧ (ts = [] ∨ ∃ b off, a = some ⟨b, off, none⟩ ∧ b < B ∧
    ∀ i (h : i < ts.length), w.cell? ⟨b, off + i * 4, none⟩ = some (.int .i64 ts[i].k) ∧ w.cell? ⟨b, off + i * 4 + 1, none⟩ = some (.int .i64 ts[i].n) ∧ w.cell? ⟨b, off + i * 4 + 2, none⟩ = some (.int .i64 (ts[i].p : Int)) ∧ w.cell? ⟨b, off + i * 4 + 3, none⟩ = some (.string (bs ts[i].x)))
theorem ToksB.kept {B C : Nat} {w w' : World} {v : Value} {ts : List Lx.Tok} (h : ToksB B w v ts) (hb : Below C w w') (hC : B ≤ C) : ToksB B w' v ts := by
  obtain ⟨a, cap, h1, h2, h3, h4⟩ := h
  refine ⟨a, cap, h1, h2, h3, ?_⟩
  rcases h4 with h4 | ⟨b, off, e, hB, h⟩
  · exact .inl h4
  · refine .inr ⟨b, off, e, hB, fun i hi => ?_⟩
    have k : ∀ o, w'.cell? ⟨b, o, none⟩ = w.cell? ⟨b, o, none⟩ := fun o => hb.cell (p := ⟨b, o, none⟩) (by show b < C; omega)
    rw [k, k, k, k]
    exact h i hi
theorem ToksB.mono {B C : Nat} {w : World} {v : Value} {ts : List Lx.Tok} (h : ToksB B w v ts) (hC : B ≤ C) : ToksB C w v ts := by
  obtain ⟨a, cap, h1, h2, h3, h4⟩ := h
  refine ⟨a, cap, h1, h2, h3, ?_⟩
  rcases h4 with h4 | ⟨b, off, e, hB, h⟩
  · exact .inl h4
  · exact .inr ⟨b, off, e, by omega, h⟩
theorem tcells_get (ts : List Lx.Tok) (i : Nat) (h : i < ts.length) (j : Nat) (hj : j < 4) : (tcells ts)[i * 4 + j]? = (tcell ts[i])[j]? := by
  induction ts generalizing i with
  | nil => simp at h
  | cons t ts ih =>
    have e : tcells (t :: ts) = tcell t ++ tcells ts := rfl
    have l : (tcell t).length = 4 := rfl
    rw [e]
    cases i with
    | zero => rw [List.getElem?_append_left (by omega)]; simp
    | succ i =>
      rw [List.getElem?_append_right (by omega), l, show (i + 1) * 4 + j - 4 = i * 4 + j by omega]
      rw [ih i (by simpa using h)]; rfl
theorem OwnT.toks {B : Nat} {w : World} {v : Value} {ts : List Lx.Tok} (h : OwnT B w v ts) : ToksB w.heap.size w v ts := by
  rcases h.2 with ⟨rfl, h0⟩ | ⟨g, cap, cur, rfl, hb, hg, h1, h2, h3, h4⟩
  · have : ts = [] := List.eq_nil_of_length_eq_zero h0
    subst this
    exact ⟨none, 0, rfl, Nat.le_refl _, by decide, .inl rfl⟩
  · refine ⟨_, cap, rfl, h1, by unfold maxLen at h2; omega, .inr ⟨g, 0, rfl, (Array.getElem?_eq_some_iff.1 hg).1, fun i hi => ?_⟩⟩
    have k : ∀ j (hj : j < 4), w.cell? ⟨g, 0 + i * 4 + j, none⟩ = (tcell ts[i])[j]? := fun j hj => by
      have t := tcells_get ts i hi j hj
      have u : ∃ u, (tcell ts[i])[j]? = some u := ⟨_, List.getElem?_eq_getElem (show j < (tcell ts[i]).length from hj)⟩
      obtain ⟨u, hu⟩ := u
      rw [hu] at t ⊢
      have c := World.ownsRow.cells h (g := g) rfl (i * 4 + j) u t
      rw [Addr.add_mid, Nat.zero_add] at c
      rw [Nat.zero_add]
      exact c
    exact ⟨k 0 (by decide), k 1 (by decide), k 2 (by decide), k 3 (by decide)⟩
theorem ToksB.len {B : Nat} {w : World} {v : Value} {ts : List Lx.Tok} (h : ToksB B w v ts) : ∃ a cap, v = .slice a ts.length cap ∧ ts.length ≤ cap ∧ cap ≤ 9223372036854775807 := by
  obtain ⟨a, cap, h1, h2, h3, _⟩ := h
  exact ⟨a, cap, h1, h2, h3⟩
theorem drop_data (s : ByteArray) (k : Nat) : (s.extract k s.size).data.toList = s.data.toList.drop k := by
  rw [Lib.extract_data, List.take_of_length_le (by rw [List.length_drop, size_len]; omega)]
namespace Lx
theorem act_ws {c : UInt8} {t : List UInt8} (h : ws c = true) : act c t = .skip 0 := if_pos h
theorem act_semi {t : List UInt8} : act 59 t = .skip t.length := rfl
theorem act_open {t : List UInt8} : act 40 t = if Lib.indexByte t 41 = -1 then .bad else .skip ((Lib.indexByte t 41).toNat + 1) := rfl
theorem act_first {c : UInt8} {t : List UInt8} (h : ws c = false) (h1 : c ≠ 59) (h2 : c ≠ 40) : act c t = if (fst (c :: t)).m = 0 then .bad else .tok (fst (c :: t)) := by
  unfold act; rw [if_neg (by rw [h]; decide), if_neg h1, if_neg h2]
theorem index_open (t : List UInt8) : Lib.indexByte (40 :: t) 41 = if Lib.indexByte t 41 = -1 then -1 else Lib.indexByte t 41 + 1 := by
  have e : Lib.indexByte (40 :: t) 41 = if Lib.indexByte t 41 == -1 then -1 else Lib.indexByte t 41 + 1 := rfl
  rw [e]
  by_cases h : Lib.indexByte t 41 = -1
  · rw [h]; rfl
  · rw [if_neg h, if_neg (by simpa using h)]
theorem index_le (t : List UInt8) (c : UInt8) : Lib.indexByte t c < t.length := by
  induction t with
  | nil => unfold Lib.indexByte; simp
  | cons b t ih =>
    unfold Lib.indexByte
    simp only [List.length_cons]
    split
    · omega
    · split
      · omega
      · omega
end Lx
end Go.Proofs.YtciglhecjkeogaaGreatDoor
set_option linter.unusedVariables false
set_option linter.unusedSimpArgs false
namespace Go.Proofs.YtciglhecjkeogaaGreatDoor
open Go.RowKit
theorem two_new (w : World) (o : Obj) (cs : Array Value) (t : TypeId) : ((w.alloc o).alloc (.cells cs t)).heap[w.heap.size + 1]? = some (.cells cs t (0, 0)) := by
  have := Bx.new (w.alloc o) cs t
  simp only [Bx] at this
  rw [show (w.alloc o).heap.size = w.heap.size + 1 by simp] at this
  exact this
theorem le_two {wr w1 : World} {B : Nat} (hs : B ≤ wr.heap.size) (q : Qw wr w1) {o1 o2 : Obj} : B ≤ ((w1.alloc o1).alloc o2).heap.size := by
  have := q.size
  simp; omega
theorem after_append {w wr w1 w2 : World} {B : Nat} (hB : Below B w wr) (hs : B ≤ wr.heap.size) (q : Qw wr w1) {o1 o2 : Obj} (hb : Below B ((w1.alloc o1).alloc o2) w2) : Below B w w2 ∧ B ≤ w2.heap.size := by
  have h1 := q.size
  have h2 := hb.size
  have h3 := @le_two wr w1 B hs q o1 o2
  refine ⟨(((hB.trans (q.mono hs)).alloc (by omega) _).alloc (by simp; omega) _).trans hb, by omega⟩
def LexK (B : Nat) (l : List UInt8) (w : World) (tv av : Value) (wr : World) (k : Nat) (ts : List Lx.Tok) : Prop :=
  Lx.At l k ts ∧ OwnT B wr tv ts ∧ Below B w wr ∧ B ≤ wr.heap.size ∧ av = .int .i64 (k : Int)
set_option maxRecDepth 100000 in
set_option maxHeartbeats 2000000 in
theorem lxTokens (s : ByteArray) (hs : s.size ≤ 1000000) (w : World) (ht : Tn w) :
    Calls Tryz.prog 22 #[.string s] w fun e w' => (∃ v, e = .returned (.tuple #[v, .int .i64 (Lx.tat s.data.toList : Int), .int .i64 (Lx.ter s.data.toList)]) ∧ ToksB w'.heap.size w' v (Lx.tks s.data.toList)) ∧ Qw w w' := by
  have sl := size_len s
  have SL := Lib.hid sl
  have HT := Lib.hid ht
  have ix := fun k w => stIndexByte (s.extract k s.size) 41 w
  simp only [drop_data, show (Int.toNat 41).toUInt8 = 41 from rfl] at ix
  have fs := fun k (h : k < s.size) w ht => lxFirst (s.extract k s.size) (by simp; unfold maxLen; omega) (by simp; omega) w ht
  simp only [drop_data] at fs
  have IX := Lib.hid ix
  have FS := Lib.hid fs
  clear ix fs sl ht
  go_enter Tryz.func22, Tryz.ntmps22
  go_wp2
  go_step3
  go_wp2
  go_step3
  go_wp2
  go_loopw [5, 6] (fun tv av wr => ∃ k ts, LexK w.heap.size s.data.toList w tv av wr k ts) (fun _ av _ => s.size - (intOf av).toNat)
  case atStart => exact ⟨0, [], Lx.At.start _, OwnT.nil _ _, Below.refl _ _, Nat.le_refl _, rfl⟩
  case round =>
    obtain ⟨k, ts, hA, hO, hB, hBs, rfl⟩ := hrel
    have hk : k ≤ s.size := by have := hA.1; have := SL.out; omega
    have AT := Lib.hid hA
    have OW := Lib.hid hO
    have BL := Lib.hid hB
    have tl := hA.2.1
    clear hA hO hB
    by_cases hlt : k < s.size
    · have gl : s.data.toList[k]'(by have := SL.out; omega) = s[k] := rfl
      have dl : s.data.toList.drop k = s[k] :: s.data.toList.drop (k + 1) := by rw [← gl]; exact List.drop_eq_getElem_cons _
      have tlen : (s.data.toList.drop (k + 1)).length = s.size - (k + 1) := by rw [List.length_drop, SL.out]
      have A2 : Hid (∀ a, Lx.act s[k] (s.data.toList.drop (k + 1)) = a → Lx.act (s.data.toList[k]'(by have := SL.out; omega)) (s.data.toList.drop (k + 1)) = a) := Lib.hid fun a h => by rw [gl]; exact h
      by_cases hw : s[k] = 32 ∨ s[k] = 9 ∨ s[k] = 13
      · have N := Lib.hid (AT.out.skip (by have := SL.out; omega) (A2.out _ (Lx.act_ws (by unfold Lx.ws; rcases hw with h | h | h <;> rw [h] <;> rfl))) (by have := SL.out; omega))
        clear dl tlen A2 gl
        rcases hw with h | h | h
        · have b : (s[k].toNat : Int) = 32 := by rw [h]; rfl
          clear h
          go_wp2
          go_roundw
          case rel => exact ⟨k + 1, ts, N.out, OW.out, BL.out, hBs, by go_num⟩
          case measure => simp [intOf]; omega
        · have b : (s[k].toNat : Int) = 9 := by rw [h]; rfl
          clear h
          go_wp2
          go_roundw
          case rel => exact ⟨k + 1, ts, N.out, OW.out, BL.out, hBs, by go_num⟩
          case measure => simp [intOf]; omega
        · have b : (s[k].toNat : Int) = 13 := by rw [h]; rfl
          clear h
          go_wp2
          go_roundw
          case rel => exact ⟨k + 1, ts, N.out, OW.out, BL.out, hBs, by go_num⟩
          case measure => simp [intOf]; omega
      · by_cases h59 : s[k] = 59
        · have N := AT.out.skip (by have := SL.out; omega) (A2.out _ (by rw [h59]; exact Lx.act_semi)) (by have := SL.out; omega)
          have F := Lib.hid (N.fin (by have := SL.out; omega))
          have b : (s[k].toNat : Int) = 59 := by rw [h59]; rfl
          clear N dl tlen A2 gl hw h59
          go_wp2
          try rw [Exit.noGoto_ret]
          go_ret3
          exact ⟨⟨u5, by rw [F.out.2.1, F.out.2.2, SL.out]; try rfl, by rw [F.out.1]; exact OW.out.toks⟩, BL.out⟩
        · by_cases h40 : s[k] = 40
          · have b : (s[k].toNat : Int) = 40 := by rw [h40]; rfl
            have ao : Lx.act s[k] (s.data.toList.drop (k + 1)) = (if Lib.indexByte (s.data.toList.drop (k + 1)) 41 = -1 then .bad else .skip ((Lib.indexByte (s.data.toList.drop (k + 1)) 41).toNat + 1)) := by rw [h40]; exact Lx.act_open
            have ixk := IX.out k
            rw [dl, h40, Lx.index_open] at ixk
            have il := Lx.index_le (s.data.toList.drop (k + 1)) 41
            have ig := Lib.indexByte_ge (s.data.toList.drop (k + 1)) 41
            generalize Lib.indexByte (s.data.toList.drop (k + 1)) 41 = I at *
            by_cases hI : I = -1
            · rw [if_pos hI] at ao
              rw [if_pos hI] at ixk
              have F := Lib.hid (AT.out.bad (by have := SL.out; omega) (A2.out _ ao))
              have IK := Lib.hid ixk
              clear ixk ao dl tlen A2 gl hw h59 h40 hI il ig
              go_wp2_with (go_at_call 38; ((with_reducible refine (IK.out _).mono ?_); rintro e w' ⟨rfl, rfl⟩))
              try rw [Exit.noGoto_ret]
              go_ret3
              exact ⟨⟨.slice none 0 0, by rw [F.out.2.1, F.out.2.2]; try rfl, by rw [F.out.1]; exact (OwnT.nil wr.heap.size wr).toks⟩, BL.out⟩
            · rw [if_neg hI] at ao
              rw [if_neg hI] at ixk
              obtain ⟨J, rfl⟩ : ∃ J : Nat, I = J := ⟨I.toNat, by omega⟩
              have jl : k + 1 + (J + 1) ≤ s.size := by omega
              rw [Int.toNat_natCast] at ao
              have N := Lib.hid (AT.out.skip (by have := SL.out; omega) (A2.out _ ao) (by have := SL.out; omega))
              have IK := Lib.hid ixk
              clear ixk ao dl tlen A2 gl hw h59 h40 hI il ig
              go_wp2_with (go_at_call 38; ((with_reducible refine (IK.out _).mono ?_); rintro e w' ⟨rfl, rfl⟩))
              go_roundw
              case rel => exact ⟨k + 1 + (J + 1), ts, N.out, OW.out, BL.out, hBs, by go_num⟩
              case measure => simp [intOf]; omega
          · have wsf : Lx.ws s[k] = false := by
              unfold Lx.ws
              rw [show (s[k] == 32) = false from beq_eq_false_iff_ne.2 (fun h => hw (.inl h)), show (s[k] == 9) = false from beq_eq_false_iff_ne.2 (fun h => hw (.inr (.inl h))), show (s[k] == 13) = false from beq_eq_false_iff_ne.2 (fun h => hw (.inr (.inr h)))]
              rfl
            have af := Lx.act_first (t := s.data.toList.drop (k + 1)) wsf h59 h40
            rw [← dl] at af
            have fk := FS.out k hlt wr (HT.out.kept BL.out)
            have fl := Lx.fst_le (s.data.toList.drop k) (by rw [dl]; simp)
            rw [List.length_drop, SL.out] at fl
            have nb : ∀ n : UInt8, s[k] ≠ n → ((s[k].toNat : Int) == (n.toNat : Int)) = false := fun n h => beq_eq_false_iff_ne.2 (fun e => h (UInt8.toNat_inj.1 (by omega)))
            have b1 : ((s[k].toNat : Int) == 32) = false := nb 32 (fun h => hw (.inl h))
            have b2 : ((s[k].toNat : Int) == 9) = false := nb 9 (fun h => hw (.inr (.inl h)))
            have b3 : ((s[k].toNat : Int) == 13) = false := nb 13 (fun h => hw (.inr (.inr h)))
            have b4 : ((s[k].toNat : Int) == 59) = false := nb 59 h59
            have b5 : ((s[k].toNat : Int) == 40) = false := nb 40 h40
            generalize Lx.fst (s.data.toList.drop k) = f at *
            unfold fv at fk
            have FK := Lib.hid fk
            by_cases hm : f.m = 0
            · rw [if_pos hm] at af
              have F := Lib.hid (AT.out.bad (by have := SL.out; omega) (A2.out _ af))
              have mz : ((f.m : Int) == 0) = true := by rw [hm]; rfl
              clear af fk wsf nb dl tlen A2 gl hw h59 h40 hm
              go_wp2_with (go_at_call 39; ((with_reducible refine FK.out.mono ?_); rintro e w1 ⟨rfl, q1⟩; have Q1 := Lib.hid q1; clear q1))
              try rw [Exit.noGoto_ret]
              go_ret3
              exact ⟨⟨.slice none 0 0, by rw [F.out.2.1, F.out.2.2]; try rfl, by rw [F.out.1]; exact (OwnT.nil 0 _).toks⟩, (BL.out.trans (Q1.out.mono hBs)).alloc (by have := Q1.out.size; omega) _⟩
            · rw [if_neg hm] at af
              have N := Lib.hid (AT.out.tok (by have := SL.out; omega) (A2.out _ af) (by omega) (by have := SL.out; omega))
              have mz : ((f.m : Int) == 0) = false := beq_eq_false_iff_ne.2 (by omega)
              clear af fk wsf nb dl tlen A2 gl hw h59 h40
              go_wp2_with (first | (go_at_call 39; ((with_reducible refine FK.out.mono ?_); rintro e w1 ⟨rfl, q1⟩; have Q1 := Lib.hid q1; clear q1)) | (at_builtin; refine tok_append 50 52 ⟨f.k, f.n, k, f.x⟩ w.heap.size u5 ts (w1.heap.size + 1) (by rfl) (by rfl) (two_new w1 _ _ _) (World.ownsRow.alloc (World.ownsRow.alloc (OW.out.kept Q1.out) _) _) (by omega) (le_two hBs Q1.out) ?_; intro v' w2 ho hb; have HO := Lib.hid ho; have hx := after_append BL.out hBs Q1.out hb; have HB := Lib.hid hx.1; have zb := hx.2; clear hx; clear ho hb))
              go_roundw
              case rel => exact ⟨k + f.m, ts ++ [⟨f.k, f.n, k, f.x⟩], N.out, HO.out, HB.out, zb, by go_num⟩
              case measure => simp [intOf]; omega
    · obtain rfl : k = s.size := by omega
      have f := Lib.hid (AT.out.fin (by have := SL.out; omega))
      go_wp2
      try rw [Exit.noGoto_ret]
      go_ret3
      exact ⟨⟨u5, by rw [f.out.2.1, f.out.2.2, SL.out]; try rfl, by rw [f.out.1]; exact OW.out.toks⟩, BL.out⟩
end Go.Proofs.YtciglhecjkeogaaGreatDoor

