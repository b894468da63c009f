
/- The walk of cncstage.Text: a text that a tape gives. -/
import Derived.Test.YthfgpmdgklphkaaDoorTape
import Derived.Test.YthfgpmdgklphkaaDoorFxH
set_option linter.unusedVariables false
set_option linter.unusedSimpArgs false
namespace Go.Proofs.YthfgpmdgklphkaaDoor
open Go.RowKit

def txl (zs : List Int) (k : Nat) : List UInt8 :=
  if nxt zs (adv zs (adv zs k)) 6 = 0 then [48] ++ fmtp (numv zs k) else if nxt zs (adv zs (adv zs k)) 6 = 1 then fmtp (numv zs k) ++ [46] else if nxt zs (adv zs (adv zs k)) 6 = 2 then fmtp (numv zs k) ++ [48] else if nxt zs (adv zs (adv zs k)) 6 = 3 then [46] ++ fmtp (numv zs k) else fmtp (numv zs k)

theorem txl_len (zs : List Int) (k : Nat) : (txl zs k).length ≤ 1011 := by
  have b := numv_bd zs k
  have l := fmtp_len (numv zs k) b.1 (by omega)
  unfold txl
  (repeat' split) <;> simp <;> omega

set_option maxRecDepth 100000 in
theorem textF (B : Nat) (v : Value) (zs : List Int) (k : Nat) (w : World) (h : TapeAt w B v zs k) :
    Calls Tryd.prog 19 #[.pointer (some ⟨B, 0, none⟩)] w fun e w' => e = .returned (.string ⟨(txl zs k).toArray⟩) ∧ TapeAt w' B v zs (adv zs (adv zs (adv zs k))) ∧ Below B w w' := by
  have c1 := numberF B v zs k w h
  have nb := numv_bd zs k
  have c2 := fun w => rxFormatP (numv zs k) nb.1 (by omega) w
  have c3 := fun w h => nextF B v zs (adv zs (adv zs k)) 6 (by omega) (by omega) w h
  have ln := fmtp_len (numv zs k) nb.1 (by omega)
  have b1 := nxt_bd zs (adv zs (adv zs k)) 6 (by omega)
  unfold txl
  obtain ⟨S, hS⟩ : ∃ S : ByteArray, S = ⟨(fmtp (numv zs k)).toArray⟩ := ⟨_, rfl⟩
  rw [← hS] at c2
  have s1 : S.size ≤ 1010 := by rw [hS, mk_size]; exact ln
  have C1 := Lib.hid c1
  have C2 := Lib.hid c2
  have C3 := Lib.hid c3
  have HS := Lib.hid hS
  clear c1 c2 c3 hS ln h nb
  generalize numv zs k = n at *
  generalize nxt zs (adv zs (adv zs k)) 6 = c at *
  obtain ⟨b10, b11⟩ := b1
  have cs : c = 0 ∨ c = 1 ∨ c = 2 ∨ c = 3 ∨ 4 ≤ c := by omega
  rcases cs with rfl | rfl | rfl | rfl | hc
  · rw [if_pos rfl]
    go_enter Tryd.func19, Tryd.ntmps19
    go_wp2_with fail
    ((with_reducible refine C1.out.mono ?_); rintro e w1 ⟨rfl, h1, q1⟩)
    have H1 := Lib.hid h1
    clear h1
    go_wp2_with fail
    ((with_reducible refine (C2.out _).mono ?_); rintro e w' ⟨rfl, rfl⟩)
    go_wp2_with fail
    ((with_reducible refine (C3.out _ H1.out).mono ?_); rintro e w2 ⟨rfl, h2, q2⟩)
    have H2 := Lib.hid h2
    clear h2
    go_wp2
    go_ret
    exact ⟨ret_str (by rw [HS.out, show (⟨#[48]⟩ : ByteArray) = ⟨[(48 : UInt8)].toArray⟩ from rfl, str_append]; try rfl), H2.out, q1.trans q2⟩
  · rw [if_neg (by decide), if_pos rfl]
    go_enter Tryd.func19, Tryd.ntmps19
    go_wp2_with fail
    ((with_reducible refine C1.out.mono ?_); rintro e w1 ⟨rfl, h1, q1⟩)
    have H1 := Lib.hid h1
    clear h1
    go_wp2_with fail
    ((with_reducible refine (C2.out _).mono ?_); rintro e w' ⟨rfl, rfl⟩)
    go_wp2_with fail
    ((with_reducible refine (C3.out _ H1.out).mono ?_); rintro e w2 ⟨rfl, h2, q2⟩)
    have H2 := Lib.hid h2
    clear h2
    go_wp2
    go_ret
    exact ⟨ret_str (by rw [HS.out, show (⟨#[46]⟩ : ByteArray) = ⟨[(46 : UInt8)].toArray⟩ from rfl, str_append]; try rfl), H2.out, q1.trans q2⟩
  · rw [if_neg (by decide), if_neg (by decide), if_pos rfl]
    go_enter Tryd.func19, Tryd.ntmps19
    go_wp2_with fail
    ((with_reducible refine C1.out.mono ?_); rintro e w1 ⟨rfl, h1, q1⟩)
    have H1 := Lib.hid h1
    clear h1
    go_wp2_with fail
    ((with_reducible refine (C2.out _).mono ?_); rintro e w' ⟨rfl, rfl⟩)
    go_wp2_with fail
    ((with_reducible refine (C3.out _ H1.out).mono ?_); rintro e w2 ⟨rfl, h2, q2⟩)
    have H2 := Lib.hid h2
    clear h2
    go_wp2
    go_ret
    exact ⟨ret_str (by rw [HS.out, show (⟨#[48]⟩ : ByteArray) = ⟨[(48 : UInt8)].toArray⟩ from rfl, str_append]; try rfl), H2.out, q1.trans q2⟩
  · rw [if_neg (by decide), if_neg (by decide), if_neg (by decide), if_pos rfl]
    go_enter Tryd.func19, Tryd.ntmps19
    go_wp2_with fail
    ((with_reducible refine C1.out.mono ?_); rintro e w1 ⟨rfl, h1, q1⟩)
    have H1 := Lib.hid h1
    clear h1
    go_wp2_with fail
    ((with_reducible refine (C2.out _).mono ?_); rintro e w' ⟨rfl, rfl⟩)
    go_wp2_with fail
    ((with_reducible refine (C3.out _ H1.out).mono ?_); rintro e w2 ⟨rfl, h2, q2⟩)
    have H2 := Lib.hid h2
    clear h2
    go_wp2
    go_ret
    exact ⟨ret_str (by rw [HS.out, show (⟨#[46]⟩ : ByteArray) = ⟨[(46 : UInt8)].toArray⟩ from rfl, str_append]; try rfl), H2.out, q1.trans q2⟩
  · rw [if_neg (by omega), if_neg (by omega), if_neg (by omega), if_neg (by omega)]
    have z0 : (c == 0) = false := beq_eq_false_iff_ne.2 (by omega)
    have z1 : (c == 1) = false := beq_eq_false_iff_ne.2 (by omega)
    have z2 : (c == 2) = false := beq_eq_false_iff_ne.2 (by omega)
    have z3 : (c == 3) = false := beq_eq_false_iff_ne.2 (by omega)
    go_enter Tryd.func19, Tryd.ntmps19
    go_wp2_with fail
    ((with_reducible refine C1.out.mono ?_); rintro e w1 ⟨rfl, h1, q1⟩)
    have H1 := Lib.hid h1
    clear h1
    go_wp2_with fail
    ((with_reducible refine (C2.out _).mono ?_); rintro e w' ⟨rfl, rfl⟩)
    go_wp2_with fail
    ((with_reducible refine (C3.out _ H1.out).mono ?_); rintro e w2 ⟨rfl, h2, q2⟩)
    have H2 := Lib.hid h2
    clear h2
    go_wp2
    go_ret
    exact ⟨ret_str HS.out, H2.out, q1.trans q2⟩

end Go.Proofs.YthfgpmdgklphkaaDoor
