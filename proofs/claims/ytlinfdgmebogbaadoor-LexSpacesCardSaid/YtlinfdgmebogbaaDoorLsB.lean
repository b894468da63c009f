
/- The walk of spaced: a line with something between all tokens. -/
import Derived.Test.YtlinfdgmebogbaaDoorLxR
import Derived.Test.YtlinfdgmebogbaaDoorLyB
import Derived.Outline
set_option linter.unusedVariables false
set_option linter.unusedSimpArgs false
namespace Go.Proofs.YtlinfdgmebogbaaDoor
open Go.RowKit

theorem Lx.Alike.symm {a b : List Lx.Tok} (h : Lx.Alike a b) : Lx.Alike b a := ⟨h.1.symm, fun i hi hi' => by
  obtain ⟨x, y, z⟩ := h.2 i hi' hi
  exact ⟨x.symm, y.symm, z.symm⟩⟩

theorem extract_data' (s : ByteArray) (a b : Nat) : (s.extract a b).data.toList = (s.data.toList.drop a).take (b - a) := Lib.extract_data s a b

set_option maxRecDepth 100000 in
set_option maxHeartbeats 2000000 in
theorem spacedT (S bt : ByteArray) (v : Value) (ts : List Lx.Tok) (B : Nat) (w : World) (hv : ToksB B w v ts) (hx : Lx.lx S.data.toList 0 = .ok ts) (hS : S.size ≤ 200) (hb : bt.size ≤ 4) :
    Calls Tryd.prog 20 #[.string S, v, .string bt] w fun e w' => (∃ X : ByteArray, e = .returned (.string X) ∧ X.data.toList = Lx.spc S.data.toList bt.data.toList ts ∧ X.size ≤ 1000) ∧ w = w' := by
  obtain ⟨ln, of⟩ := Lx.offs S.data.toList ts 0 (Nat.zero_le _) hx
  have sp := Lx.spc_len S.data.toList bt.data.toList ts 0 (Nat.zero_le _) hx
  have sl := size_len S
  have bl := size_len bt
  rw [sl] at ln sp
  rw [bl] at sp
  have mb : ts.length * bt.size ≤ 200 * 4 := Nat.mul_le_mul (by omega) hb
  have s1000 : (Lx.spc S.data.toList bt.data.toList ts).length ≤ 1000 := by omega
  obtain ⟨a, cap, rfl, l1, l2, h3⟩ := hv
  have n200 : ts.length ≤ 200 := by omega
  have H3 := Lib.hid h3
  have OF := Lib.hid of
  have SL := Lib.hid sl
  have S1 := Lib.hid s1000
  clear h3 of sl sp bl mb s1000 hx ln
  go_enter Tryd.func20, Tryd.ntmps20
  go_wp2
  go_loop [7, 8] (fun sv iv => ∃ (X : ByteArray) (i : Nat), i ≤ ts.length ∧ X.data.toList ++ Lx.spc S.data.toList bt.data.toList (ts.drop i) = Lx.spc S.data.toList bt.data.toList ts ∧ sv = .string X ∧ iv = .int .i64 (i : Int)) (fun _ iv => ts.length - (intOf iv).toNat)
  case atStart => exact ⟨⟨#[]⟩, 0, by omega, by rw [List.drop_zero]; rfl, rfl, rfl⟩
  case round =>
    obtain ⟨X, i, hi, hX, rfl, rfl⟩ := hrel
    have xs : X.size ≤ 1000 := by
      have := congrArg List.length hX
      rw [List.length_append, size_len] at this
      have := S1.out; omega
    have HX := Lib.hid hX
    clear hX
    by_cases hlt : i < ts.length
    · rcases H3.out with h | ⟨b, off, rfl, hb2, hc⟩
      · rw [h] at hlt; simp at hlt
      · have c2 := (hc i hlt).2.2.1
        obtain ⟨_, hco, hn⟩ := OF.out i hlt
        obtain ⟨hp, _⟩ := hco
        rw [SL.out] at hp
        have dr : ts.drop i = ts[i] :: ts.drop (i + 1) := List.drop_eq_getElem_cons hlt
        by_cases hl2 : i + 1 < ts.length
        · have c3 := (hc (i + 1) hl2).2.2.1
          have lt := hn hl2
          obtain ⟨_, hco2, _⟩ := OF.out (i + 1) hl2
          obtain ⟨hp2, _⟩ := hco2
          rw [SL.out] at hp2
          have dr2 : ts.drop (i + 1) = ts[i + 1] :: ts.drop (i + 1 + 1) := List.drop_eq_getElem_cons hl2
          have st : Lx.spc S.data.toList bt.data.toList (ts.drop i) = (S.extract ts[i].p ts[i + 1].p).data.toList ++ bt.data.toList ++ Lx.spc S.data.toList bt.data.toList (ts.drop (i + 1)) := by
            rw [extract_data', dr]
            show (S.data.toList.drop ts[i].p).take (Lx.nextp S.data.toList (ts.drop (i + 1)) - ts[i].p) ++ _ ++ _ = _
            rw [dr2]; rfl
          have ST := Lib.hid st
          have d1 : decide (((i + 1 : Nat) : Int) < (ts.length : Int)) = true := decide_eq_true (by omega)
          have d2 : decide ((i : Int) + 1 < (ts.length : Int)) = true := decide_eq_true (by omega)
          clear hc hn dr dr2 st
          generalize ts[i].p = p at *
          generalize ts[i + 1].p = q at *
          have z0 : (0 : Int) ≤ (p : Int) := by omega
          have z1 : (p : Int) ≤ (q : Int) := by omega
          have z2 : (q : Int) ≤ (S.size : Int) := by omega
          have d3 : decide ((q : Int) < (p : Int)) = false := decide_eq_false (by omega)
          have k' : (i : Int) < (ts.length : Int) := by omega
          go_wp2
          go_round
          case rel => exact ⟨X ++ S.extract p q ++ bt, i + 1, by omega, by rw [← HX.out, ST.out, cat_list, cat_list]; simp only [List.append_assoc], rfl, by go_num⟩
          case measure => simp [intOf]; omega
        · obtain e1 : i + 1 = ts.length := by omega
          have dr2 : ts.drop (i + 1) = [] := by rw [e1]; exact List.drop_length
          have st : Lx.spc S.data.toList bt.data.toList (ts.drop i) = (S.extract ts[i].p S.size).data.toList ++ bt.data.toList ++ Lx.spc S.data.toList bt.data.toList (ts.drop (i + 1)) := by
            rw [extract_data', dr, dr2]
            show (S.data.toList.drop ts[i].p).take (S.data.toList.length - ts[i].p) ++ _ ++ _ = _
            rw [SL.out]
          have ST := Lib.hid st
          have d1 : decide ((i : Int) + 1 < (ts.length : Int)) = false := decide_eq_false (by omega)
          clear hc hn dr dr2 st
          generalize ts[i].p = p at *
          have z0 : (0 : Int) ≤ (p : Int) := by omega
          have z1 : (p : Int) ≤ (S.size : Int) := by omega
          have d3 : decide ((S.size : Int) < (p : Int)) = false := decide_eq_false (by omega)
          have k' : (i : Int) < (ts.length : Int) := by omega
          go_wp2
          go_round
          case rel => exact ⟨X ++ S.extract p S.size ++ bt, i + 1, by omega, by rw [← HX.out, ST.out, cat_list, cat_list]; simp only [List.append_assoc], rfl, by go_num⟩
          case measure => simp [intOf]; omega
    · obtain rfl : i = ts.length := by omega
      go_wp2
      go_ret
      exact ⟨⟨X, rfl, by have := HX.out; rw [List.drop_length] at this; simpa [Lx.spc] using this, xs⟩, rfl⟩

end Go.Proofs.YtlinfdgmebogbaaDoor
