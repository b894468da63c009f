
/- The walk of add of the specification of layer 1. -/
import Derived.Test.YtijakijjeoaikaaRefC
set_option linter.unusedVariables false
set_option linter.unusedSimpArgs false
namespace Go.Proofs.Ytijakijjeoaikaa
open Go.RowKit

/-- At the head of round k, with the carry c. -/
def AddK (A B : List Int) (k : Nat) (c : Int) (D : List Int) : Prop :=
  D.length = k ∧ Dg.Dig D ∧ 0 ≤ c ∧ c ≤ 1 ∧ Dg.val D + 65536 ^ k * c = Dg.val (A.take k) + Dg.val (B.take k)

theorem get_out {A : List Int} {k : Nat} (h : A.length ≤ k) : A.getD k 0 = 0 := by
  rw [List.getD_eq_getElem?_getD, List.getElem?_eq_none h]; rfl

theorem add_step {A B : List Int} {k : Nat} {c : Int} {D : List Int} (h : AddK A B k c D) (X Y : Int) (hX : A.getD k 0 = X) (hY : B.getD k 0 = Y) :
    0 ≤ X → X ≤ 65535 → 0 ≤ Y → Y ≤ 65535 → AddK A B (k + 1) ((c + X + Y) / 65536) (D ++ [(c + X + Y) % 65536]) := by
  intro x0 x1 y0 y1
  obtain ⟨h1, h2, h3, h4, h5⟩ := h
  refine ⟨by simp [h1], Dg.dig_append.2 ⟨h2, Dg.dig_cons.2 ⟨⟨by omega, by omega⟩, Dg.dig_nil⟩⟩, by omega, by omega, ?_⟩
  rw [Dg.val_append, h1, Dg.val, Dg.val]
  have s := Dg.add_digit A B k (Dg.val D) c h5 (c + X + Y) (by rw [hX, hY])
  rw [Int.mul_zero, Int.add_zero]
  exact s

set_option maxHeartbeats 1000000 in
theorem refAdd (u v : Value) (x y : Int) (w : World) (hx : Num w u x) (hy : Num w v y) (hs : ∀ A B : List Int, Dg.Dig A → Dg.Dig B → Dg.Top A → Dg.Top B → Dg.val A = x → Dg.val B = y → A.length ≤ 900 ∧ B.length ≤ 900) :
    Calls Try.prog 69 #[u, v] w fun e w' => ∃ r, e = .returned r ∧ Num w' r (x + y) ∧ Qw w w' := by
  obtain ⟨A, dA, tA, eA, _, rA⟩ := hx
  obtain ⟨B, dB, tB, eB, _, rB⟩ := hy
  have lAB := hs A B dA dB tA tB eA eB
  subst eA eB
  obtain ⟨a, ca, rfl, _, _, fA⟩ := raw_form rA
  obtain ⟨b, cb, rfl, _, _, fB⟩ := raw_form rB
  obtain ⟨i0, hi, hz0, hz1, hz2⟩ := info_parts info_u64
  clear hs rA rB tA tB
  obtain ⟨la, ela⟩ : ∃ n, A.length = n := ⟨_, rfl⟩
  obtain ⟨lb, elb⟩ : ∃ n, B.length = n := ⟨_, rfl⟩
  have Ela := Lib.hid ela; have Elb := Lib.hid elb
  have FA := Lib.hid fA; have FB := Lib.hid fB
  clear fA fB
  rw [ela, elb] at lAB ⊢
  clear ela elb
  obtain ⟨la1, lb1⟩ := lAB
  obtain ⟨M, hM1, hM2, hM3⟩ : ∃ M, la ≤ M ∧ lb ≤ M ∧ (M = la ∨ M = lb) := by
    rcases Nat.le_total la lb with h | h
    · exact ⟨lb, h, Nat.le_refl _, .inr rfl⟩
    · exact ⟨la, Nat.le_refl _, h, .inl rfl⟩
  have HM := Lib.hid hM3
  clear hM3
  have Mb : M ≤ 900 := by have := HM.out; omega
  go_enter Try.func69, Try.ntmps69
  go_wp2
  go_loopw [5, 6, 7] (fun out cc i wr => ∃ (k : Nat) (c : Int) (D : List Int), i = .int .i64 (k : Int) ∧ cc = .int .u64 c ∧ AddK A B k c D ∧ (k : Int) + c ≤ M + 1 ∧ RawB w.heap.size wr out D ∧ Qw w wr) (fun _ cc i _ => 2 * (M + 1 - (intOf i).toNat) + (intOf cc).toNat)
  case atStart => exact ⟨0, 0, [], rfl, rfl, ⟨rfl, Dg.dig_nil, by decide, by decide, by simp [Dg.val]⟩, by omega, World.ownsRow_nil _ _ _ _, Qw.refl _⟩
  case round =>
    obtain ⟨k, c, D, rfl, rfl, hk, hb, hr, hq⟩ := hrel
    have c0 := hk.2.2.1
    have c1 := hk.2.2.2.1
    have Dl := Lib.hid hk.1
    have hK := Lib.hid hk; have HR := Lib.hid hr
    clear hk hr
    by_cases pa : k < la
    · by_cases pb : k < lb
      · have lA : 0 < A.length := by rw [Ela.out]; omega
        obtain ⟨ga, rfl, ga1, ga2⟩ := FA.out lA
        have xa : wr.cell? ⟨ga, k, none⟩ = some (.int .u64 (A.getD k 0)) := (hq.cell (p := ⟨ga, k, none⟩) ga1).trans (ga2 k (by rw [Ela.out]; omega))
        clear ga2
        have lB : 0 < B.length := by rw [Elb.out]; omega
        obtain ⟨gb, rfl, gb1, gb2⟩ := FB.out lB
        have xb : wr.cell? ⟨gb, k, none⟩ = some (.int .u64 (B.getD k 0)) := (hq.cell (p := ⟨gb, k, none⟩) gb1).trans (gb2 k (by rw [Elb.out]; omega))
        clear gb2
        obtain ⟨x0, x1⟩ := Dg.dig_get dA k
        obtain ⟨y0, y1⟩ := Dg.dig_get dB k
        have stp := add_step hK.out (A.getD k 0) (B.getD k 0) rfl rfl x0 x1 y0 y1
        generalize A.getD k 0 = X at *
        generalize B.getD k 0 = Y at *
        have Stp := Lib.hid stp
        clear stp
        have ea := and_mask16 (c + X + Y) (by omega) (by omega)
        have da : decide (k < la) = true := decide_eq_true (by omega)
        have db : decide (k < lb) = true := decide_eq_true (by omega)
        go_wp2_with (at_builtin; refine wpList_append_own _ rfl _ _ 83 rfl w.heap.size 75 i0 (.int .u64 0) 1 8 Try.underlying83 hi hz0 hz1 hz2 rfl (by decide) _ _ _ rfl (HR.out.alloc _) ⟨wr.heap.size, 0, none⟩ 1 1 [.int .u64 ((c + X + Y) % 65536)] rfl rfl (cell_one_new _ _ _) (ints_oneCell .u64 [(c + X + Y) % 65536]) (by unfold maxLen; have := Dl.out; omega) (by have := Dl.out; omega) (by have := hq.size; simp; omega) ?_)
        intro v1 w1 hown1 hgrow1 _
        have hr1 : RawB w.heap.size w1 v1 (D ++ [(c + X + Y) % 65536]) := raw_push hown1
        have hq1 : Qw w w1 := hq.grown HR.out _ (by simp) ((Below.refl _ _).alloc (Nat.le_refl _) _) hgrow1
        clear hown1 hgrow1 hq ea da db
        have HR1 := Lib.hid hr1
        clear hr1
        go_wp2
        go_roundw
        case rel => exact ⟨k + 1, _, _, by go_num, rfl, by simpa using Stp.out, by omega, HR1.out, hq1⟩
        case measure => simp [intOf]; omega
      · have lA : 0 < A.length := by rw [Ela.out]; omega
        obtain ⟨ga, rfl, ga1, ga2⟩ := FA.out lA
        have xa : wr.cell? ⟨ga, k, none⟩ = some (.int .u64 (A.getD k 0)) := (hq.cell (p := ⟨ga, k, none⟩) ga1).trans (ga2 k (by rw [Ela.out]; omega))
        clear ga2
        have zy : B.getD k 0 = 0 := get_out (by rw [Elb.out]; omega)
        obtain ⟨x0, x1⟩ := Dg.dig_get dA k
        obtain ⟨y0, y1⟩ := Dg.dig_get dB k
        have stp := add_step hK.out (A.getD k 0) (B.getD k 0) rfl rfl x0 x1 y0 y1
        generalize A.getD k 0 = X at *
        generalize B.getD k 0 = Y at *
        subst zy
        have Stp := Lib.hid stp
        clear stp
        have ea := and_mask16 (c + X) (by omega) (by omega)
        have da : decide (k < la) = true := decide_eq_true (by omega)
        have db : decide (k < lb) = false := decide_eq_false (by omega)
        go_wp2_with (at_builtin; refine wpList_append_own _ rfl _ _ 83 rfl w.heap.size 75 i0 (.int .u64 0) 1 8 Try.underlying83 hi hz0 hz1 hz2 rfl (by decide) _ _ _ rfl (HR.out.alloc _) ⟨wr.heap.size, 0, none⟩ 1 1 [.int .u64 ((c + X) % 65536)] rfl rfl (cell_one_new _ _ _) (ints_oneCell .u64 [(c + X) % 65536]) (by unfold maxLen; have := Dl.out; omega) (by have := Dl.out; omega) (by have := hq.size; simp; omega) ?_)
        intro v1 w1 hown1 hgrow1 _
        have hr1 : RawB w.heap.size w1 v1 (D ++ [(c + X) % 65536]) := raw_push hown1
        have hq1 : Qw w w1 := hq.grown HR.out _ (by simp) ((Below.refl _ _).alloc (Nat.le_refl _) _) hgrow1
        clear hown1 hgrow1 hq ea da db
        have HR1 := Lib.hid hr1
        clear hr1
        go_wp2
        go_roundw
        case rel => exact ⟨k + 1, _, _, by go_num, rfl, by simpa using Stp.out, by omega, HR1.out, hq1⟩
        case measure => simp [intOf]; omega
    · by_cases pb : k < lb
      · have zx : A.getD k 0 = 0 := get_out (by rw [Ela.out]; omega)
        have lB : 0 < B.length := by rw [Elb.out]; omega
        obtain ⟨gb, rfl, gb1, gb2⟩ := FB.out lB
        have xb : wr.cell? ⟨gb, k, none⟩ = some (.int .u64 (B.getD k 0)) := (hq.cell (p := ⟨gb, k, none⟩) gb1).trans (gb2 k (by rw [Elb.out]; omega))
        clear gb2
        obtain ⟨x0, x1⟩ := Dg.dig_get dA k
        obtain ⟨y0, y1⟩ := Dg.dig_get dB k
        have stp := add_step hK.out (A.getD k 0) (B.getD k 0) rfl rfl x0 x1 y0 y1
        generalize A.getD k 0 = X at *
        generalize B.getD k 0 = Y at *
        subst zx
        have Stp := Lib.hid stp
        clear stp
        have ea := and_mask16 (c + Y) (by omega) (by omega)
        have da : decide (k < la) = false := decide_eq_false (by omega)
        have db : decide (k < lb) = true := decide_eq_true (by omega)
        go_wp2_with (at_builtin; refine wpList_append_own _ rfl _ _ 83 rfl w.heap.size 75 i0 (.int .u64 0) 1 8 Try.underlying83 hi hz0 hz1 hz2 rfl (by decide) _ _ _ rfl (HR.out.alloc _) ⟨wr.heap.size, 0, none⟩ 1 1 [.int .u64 ((c + Y) % 65536)] rfl rfl (cell_one_new _ _ _) (ints_oneCell .u64 [(c + Y) % 65536]) (by unfold maxLen; have := Dl.out; omega) (by have := Dl.out; omega) (by have := hq.size; simp; omega) ?_)
        intro v1 w1 hown1 hgrow1 _
        have hr1 : RawB w.heap.size w1 v1 (D ++ [(c + Y) % 65536]) := raw_push hown1
        have hq1 : Qw w w1 := hq.grown HR.out _ (by simp) ((Below.refl _ _).alloc (Nat.le_refl _) _) hgrow1
        clear hown1 hgrow1 hq ea da db
        have HR1 := Lib.hid hr1
        clear hr1
        go_wp2
        go_roundw
        case rel => exact ⟨k + 1, _, _, by go_num, rfl, by simpa using Stp.out, by omega, HR1.out, hq1⟩
        case measure => simp [intOf]; omega
      · by_cases hc : 0 < c
        · have zx : A.getD k 0 = 0 := get_out (by rw [Ela.out]; omega)
          have zy : B.getD k 0 = 0 := get_out (by rw [Elb.out]; omega)
          obtain ⟨x0, x1⟩ := Dg.dig_get dA k
          obtain ⟨y0, y1⟩ := Dg.dig_get dB k
          have stp := add_step hK.out (A.getD k 0) (B.getD k 0) rfl rfl x0 x1 y0 y1
          generalize A.getD k 0 = X at *
          generalize B.getD k 0 = Y at *
          subst zx
          subst zy
          have Stp := Lib.hid stp
          clear stp
          have ea := and_mask16 (c) (by omega) (by omega)
          have da : decide (k < la) = false := decide_eq_false (by omega)
          have db : decide (k < lb) = false := decide_eq_false (by omega)
          have dc : decide (0 < c) = true := decide_eq_true hc
          go_wp2_with (at_builtin; refine wpList_append_own _ rfl _ _ 83 rfl w.heap.size 75 i0 (.int .u64 0) 1 8 Try.underlying83 hi hz0 hz1 hz2 rfl (by decide) _ _ _ rfl (HR.out.alloc _) ⟨wr.heap.size, 0, none⟩ 1 1 [.int .u64 ((c) % 65536)] rfl rfl (cell_one_new _ _ _) (ints_oneCell .u64 [(c) % 65536]) (by unfold maxLen; have := Dl.out; omega) (by have := Dl.out; omega) (by have := hq.size; simp; omega) ?_)
          intro v1 w1 hown1 hgrow1 _
          have hr1 : RawB w.heap.size w1 v1 (D ++ [(c) % 65536]) := raw_push hown1
          have hq1 : Qw w w1 := hq.grown HR.out _ (by simp) ((Below.refl _ _).alloc (Nat.le_refl _) _) hgrow1
          clear hown1 hgrow1 hq ea da db
          have HR1 := Lib.hid hr1
          clear hr1
          go_wp2
          go_roundw
          case rel => exact ⟨k + 1, _, _, by go_num, rfl, by simpa using Stp.out, by omega, HR1.out, hq1⟩
          case measure => simp [intOf]; omega
        · obtain rfl : c = 0 := by omega
          have da : decide (k < la) = false := decide_eq_false pa
          have db : decide (k < lb) = false := decide_eq_false pb
          have fin : Dg.val D = Dg.val A + Dg.val B := by
            have := hK.out.2.2.2.2
            rw [Int.mul_zero, Int.add_zero, List.take_of_length_le (by rw [Ela.out]; omega), List.take_of_length_le (by rw [Elb.out]; omega)] at this
            exact this
          have Fin := Lib.hid fin
          have cut := fun v hv => refCut v D wr hK.out.2.1 (by rw [Dl.out]; omega) hv
          have Cut := Lib.hid cut
          clear fin cut hc
          go_wp2_with (go_at_call 78; refine (Cut.out _ HR.out.raw).mono ?_; rintro e w' ⟨r, rfl, hr, rfl⟩)
          go_ret
          exact ⟨_, rfl, by rw [← Fin.out]; exact hr, hq⟩

end Go.Proofs.Ytijakijjeoaikaa
