
/- The walk of mul of the specification of layer 1: the school method. -/
import Derived.Test.YtijakijjeoaikaaRefC
set_option linter.unusedVariables false
set_option linter.unusedSimpArgs false
namespace Go.Proofs.Ytijakijjeoaikaa
open Go.RowKit

/-- At the head of the outer round i. -/
def MulK (A B : List Int) (n i : Nat) (O : List Int) : Prop :=
  O.length = n ∧ Dg.Dig O ∧ Dg.val O = Dg.val (A.take i) * Dg.val B ∧ ∀ j, i + B.length ≤ j → O.getD j 0 = 0

/-- At the head of the inner round k, with the carry c. -/
def InK (A B : List Int) (n i k : Nat) (c : Int) (O : List Int) : Prop :=
  O.length = n ∧ Dg.Dig O ∧ Dg.val O + 65536 ^ (i + k) * c = Dg.val (A.take i) * Dg.val B + 65536 ^ i * (A.getD i 0 * Dg.val (B.take k)) ∧ ∀ j, i + B.length ≤ j → O.getD j 0 = 0

theorem cells_made (n : Nat) : (madeCells #[Value.int .u64 0] n).toList = cells (List.replicate n 0) := by
  rw [toList_madeCells_one]
  simp [cells]

theorem mul_start (A B : List Int) (n : Nat) : MulK A B n 0 (List.replicate n 0) :=
  ⟨by simp, Dg.dig_replicate n, by rw [Dg.val_replicate]; simp [Dg.val], fun j _ => by
    rw [List.getD_eq_getElem?_getD, List.getElem?_replicate]; split <;> rfl⟩

theorem in_start {A B : List Int} {n i : Nat} {O : List Int} (h : MulK A B n i O) : InK A B n i 0 0 O := by
  obtain ⟨h1, h2, h3, h4⟩ := h
  exact ⟨h1, h2, by rw [h3]; simp [Dg.val], h4⟩

theorem raw_cell {B : Nat} {w : World} {g n cap : Nat} {ds : List Int} (h : RawB B w (.slice (some ⟨g, 0, none⟩) n cap) ds) (j : Nat) (hj : j < ds.length) : w.cell? ⟨g, j, none⟩ = some (.int .u64 (ds.getD j 0)) := by
  obtain ⟨h1, h2⟩ := h
  have e : n = ds.length := by
    rcases h2 with ⟨h2, _⟩ | ⟨g', cap', cur, hv, _⟩
    · cases h2
    · cases hv; rfl
  subst e
  rw [World.ownsRow.cellAt ⟨h1, h2⟩ j (by omega)]
  unfold cells
  rw [List.getElem?_map, List.getD_eq_getElem?_getD, List.getElem?_eq_getElem hj]
  rfl

theorem raw_free {B : Nat} {w : World} {g n cap : Nat} {ds : List Int} (h : RawB B w (.slice (some ⟨g, 0, none⟩) n cap) ds) (j : Nat) : w.frozen? ⟨g, j, none⟩ = false := by
  obtain ⟨h1, h2⟩ := h
  have e : n = ds.length := by
    rcases h2 with ⟨h2, _⟩ | ⟨g', cap', cur, hv, _⟩
    · cases h2
    · cases hv; rfl
  subst e
  exact World.ownsRow.frozenAt ⟨h1, h2⟩ j

theorem raw_store {B : Nat} {w : World} {g n cap : Nat} {ds : List Int} (h : RawB B w (.slice (some ⟨g, 0, none⟩) n cap) ds) (j : Nat) (d : Int) : RawB B (w.setCell ⟨g, j, none⟩ (.int .u64 d)) (.slice (some ⟨g, 0, none⟩) n cap) (ds.set j d) := by
  obtain ⟨h1, h2⟩ := h
  have e : n = ds.length := by
    rcases h2 with ⟨h2, _⟩ | ⟨g', cap', cur, hv, _⟩
    · cases h2
    · cases hv; rfl
  subst e
  have s := (World.ownsRow.stored ⟨h1, h2⟩ j (.int .u64 d)).1
  unfold RawB
  rw [List.length_set]
  have c : cells (ds.set j d) = (cells ds).set j (.int .u64 d) := by simp [cells, List.map_set]
  rw [c]
  exact s

theorem in_step {A B : List Int} {n i k : Nat} {c : Int} {O : List Int} (h : InK A B n i k c O) (hk : k < B.length) (hik : i + k < O.length) (v : Int) (hv : v = O.getD (i + k) 0 + A.getD i 0 * B.getD k 0 + c) :
    InK A B n i (k + 1) (v / 65536) (O.set (i + k) (v % 65536)) := by
  obtain ⟨h1, h2, h3, h4⟩ := h
  refine ⟨by rw [List.length_set]; exact h1, Dg.dig_set h2 _ _ ⟨by omega, by omega⟩, Dg.mul_digit O B i k (A.getD i 0) c _ hik h3 v hv, fun j hj => ?_⟩
  rw [Dg.get_set _ _ _ _ hik, if_neg (by omega)]
  exact h4 j hj

theorem mul_step {A B : List Int} {n i lb : Nat} {c : Int} {O : List Int} (h : InK A B n i lb c O) (hl : B.length = lb) (hi : i + lb < O.length) (hc : 0 ≤ c ∧ c ≤ 65535) (z : O.getD (i + lb) 0 = 0) :
    MulK A B n (i + 1) (O.set (i + lb) c) := by
  obtain ⟨h1, h2, h3, h4⟩ := h
  subst hl
  have r := Dg.mul_row O A B i c hi h3 z
  rw [show (0 : Int) + c = c from by omega] at r
  refine ⟨by rw [List.length_set]; exact h1, Dg.dig_set h2 _ _ hc, r, fun j hj => ?_⟩
  rw [Dg.get_set _ _ _ _ hi, if_neg (by omega)]
  exact h4 j (by omega)

theorem refMul (u v : Value) (x y : Int) (w : World) (hx : Num w u x) (hy : Num w v y) (hs : ∀ A B : List Int, Dg.Dig A → Dg.Dig B → Dg.Top A → Dg.Top B → Dg.val A = x → Dg.val B = y → A.length + B.length ≤ 1000) :
    Calls Try.prog 68 #[u, v] w fun e w' => ∃ r, e = .returned r ∧ Num w' r (x * y) ∧ Qw w w' := by
  obtain ⟨A, dA, tA, eA, _, rA⟩ := hx
  obtain ⟨B, dB, tB, eB, _, rB⟩ := hy
  have lAB := hs A B dA dB tA tB eA eB
  subst eA eB
  obtain ⟨a, ca, rfl, _, _, fA⟩ := raw_form rA
  obtain ⟨b, cb, rfl, _, _, fB⟩ := raw_form rB
  obtain ⟨i0, hi, hz0, hz1, hz2⟩ := info_parts info_u64
  clear hs rA rB tA tB
  obtain ⟨la, ela⟩ : ∃ n, A.length = n := ⟨_, rfl⟩
  obtain ⟨lb, elb⟩ : ∃ n, B.length = n := ⟨_, rfl⟩
  have Ela := Lib.hid ela; have Elb := Lib.hid elb
  have FA := Lib.hid fA; have FB := Lib.hid fB
  clear fA fB
  rw [ela, elb] at lAB ⊢
  clear ela elb
  go_enter Try.func68, Try.ntmps68
  go_wp2_with (at_make; go_loud (refine wpList_make_full _ rfl _ _ 83 rfl w.heap.size 75 i0 (.int .u64 0) 1 Try.underlying83 hi hz0 hz1 .i64 .i64 _ _ (la + lb) rfl rfl (by omega) (by omega) (by rw [hz2]; omega) (by unfold maxLen; omega) (Nat.le_refl _) ?_))
  intro w1 hown1 hgrow1
  rw [cells_made] at hown1
  have hr1 : RawB w.heap.size w1 (.slice (some ⟨w.heap.size, 0, none⟩) (la + lb) (la + lb)) (List.replicate (la + lb) 0) := by
    unfold RawB; rw [List.length_replicate]; exact hown1
  have hq1 : Qw w w1 := Below.grown (Below.refl _ _) hgrow1 (Nat.le_refl _) (fun k hk => by cases hk)
  clear hown1 hgrow1
  obtain ⟨G, eG⟩ : ∃ G, w.heap.size = G := ⟨_, rfl⟩
  rw [eG] at hr1
  have EG := Lib.hid eG
  simp only [eG]
  clear eG
  obtain ⟨n, en⟩ : ∃ n, la + lb = n := ⟨_, rfl⟩
  rw [en] at hr1
  have En := Lib.hid en
  have nb : n ≤ 1000 := by omega
  simp only [en]
  clear en
  have Hr1 := Lib.hid hr1
  clear hr1
  go_wp2
  go_loopw [6] (fun i wr => ∃ (k : Nat) (O : List Int), i = .int .i64 (k : Int) ∧ k ≤ la ∧ MulK A B n k O ∧ RawB G wr (.slice (some ⟨G, 0, none⟩) n n) O ∧ Qw w wr) (fun i _ => la - (intOf i).toNat)
  case atStart => exact ⟨0, _, rfl, Nat.zero_le _, mul_start A B n, Hr1.out, hq1⟩
  case round =>
    obtain ⟨k, O, rfl, hk, hM, hr, hq⟩ := hrel
    have HM := Lib.hid hM; have HR := Lib.hid hr
    clear hM hr Hr1 hq1
    obtain ⟨wo, rfl⟩ : ∃ wo : World, wo = wr := ⟨_, rfl⟩
    by_cases hlt : k < la
    · have lA : 0 < A.length := by rw [Ela.out]; omega
      obtain ⟨ga, rfl, ga1, ga2⟩ := FA.out lA
      have xa : w.cell? ⟨ga, k, none⟩ = some (.int .u64 (A.getD k 0)) := ga2 k (by rw [Ela.out]; exact hlt)
      obtain ⟨xk0, xk1⟩ := Dg.dig_get dA k
      obtain ⟨X, eX⟩ : ∃ X, A.getD k 0 = X := ⟨_, rfl⟩
      rw [eX] at xa xk0 xk1
      have EX := Lib.hid eX
      have XA := Lib.hid xa
      clear ga2 lA eX xa
      go_wp2
      go_loopw [7, 8] (fun c kk wr => ∃ (k2 : Nat) (cc : Int) (O2 : List Int), c = .int .u64 cc ∧ kk = .int .i64 (k2 : Int) ∧ k2 ≤ lb ∧ 0 ≤ cc ∧ cc ≤ 65535 ∧ InK A B n k k2 cc O2 ∧ RawB G wr (.slice (some ⟨G, 0, none⟩) n n) O2 ∧ Qw w wr) (fun _ kk _ => lb - (intOf kk).toNat)
      case atStart => exact ⟨0, 0, O, rfl, rfl, Nat.zero_le _, by decide, by decide, in_start HM.out, HR.out, hq⟩
      case round =>
        obtain ⟨k2, cc, O2, rfl, rfl, hk2, c0, c1, hI, hr2, hq2⟩ := hrel
        have HI := Lib.hid hI; have HR2 := Lib.hid hr2
        clear hI hr2 hq HM HR
        have lO : O2.length = n := HI.out.1
        by_cases hlt2 : k2 < lb
        · have lB : 0 < B.length := by rw [Elb.out]; omega
          obtain ⟨gb, rfl, gb1, gb2⟩ := FB.out lB
          have xb : w.cell? ⟨gb, k2, none⟩ = some (.int .u64 (B.getD k2 0)) := gb2 k2 (by rw [Elb.out]; exact hlt2)
          obtain ⟨yk0, yk1⟩ := Dg.dig_get dB k2
          obtain ⟨zk0, zk1⟩ := Dg.dig_get HI.out.2.1 (k + k2)
          obtain ⟨Y, eY⟩ : ∃ Y, B.getD k2 0 = Y := ⟨_, rfl⟩
          obtain ⟨Z, eZ⟩ : ∃ Z, O2.getD (k + k2) 0 = Z := ⟨_, rfl⟩
          rw [eY] at xb yk0 yk1
          rw [eZ] at zk0 zk1
          have EY := Lib.hid eY; have EZ := Lib.hid eZ
          clear eY lB
          have xa' : wr.cell? ⟨ga, k, none⟩ = some (.int .u64 X) := (hq2.cell (p := ⟨ga, k, none⟩) ga1).trans XA.out
          have xb' : wr.cell? ⟨gb, k2, none⟩ = some (.int .u64 Y) := (hq2.cell (p := ⟨gb, k2, none⟩) gb1).trans xb
          have kk : k + k2 < n := by have := En.out; omega
          have xo : wr.cell? ⟨G, k + k2, none⟩ = some (.int .u64 Z) := by
            rw [← eZ]; exact raw_cell HR2.out (k + k2) (by rw [lO]; exact kk)
          have fo : wr.frozen? ⟨G, k + k2, none⟩ = false := raw_free HR2.out (k + k2)
          clear xb eZ gb2
          have m0 : 0 ≤ X * Y := Int.mul_nonneg xk0 yk0
          have m1 : X * Y ≤ 65535 * 65535 := Int.mul_le_mul xk1 yk1 yk0 (by decide)
          have s1 : IntKind.i64.wrap ((k : Int) + (k2 : Int)) = (k : Int) + (k2 : Int) := by rw [IntKind.wrap_i64]; omega
          have s2 : ((k : Int) + (k2 : Int)).toNat = k + k2 := by omega
          have s3 : 0 ≤ (k : Int) + (k2 : Int) := by omega
          have s4 : (k : Int) + (k2 : Int) < n := by omega
          obtain ⟨V, eV⟩ : ∃ V, Z + X * Y + cc = V := ⟨_, rfl⟩
          have v0 : 0 ≤ V := by omega
          have v1 : V ≤ 4294967295 := by omega
          have ea := and_mask16 V v0 (by omega)
          have EV := Lib.hid eV
          go_wp2
          go_quiet (fail)
          clear eV m0 m1 s1 s3
          go_wp2
          go_roundw
          case rel => exact ⟨k2 + 1, _, _, rfl, by go_num, by omega, by omega, by omega, in_step HI.out (by rw [Elb.out]; exact hlt2) (by rw [lO]; exact kk) V (by rw [← EV.out, EX.out, EY.out, EZ.out]), raw_store (w := wr.drewN nq) HR2.out (k + k2) (V % 65536), (hq2.trans (Qw.drewN _ _)).setCell (by rw [EG.out]; exact Nat.le_refl _) _⟩
          case measure => simp [intOf]; omega
        · obtain rfl : k2 = lb := by omega
          have kk : k + k2 < n := by have := En.out; omega
          have zz : O2.getD (k + k2) 0 = 0 := HI.out.2.2.2 _ (by rw [Elb.out]; exact Nat.le_refl _)
          have xo : wr.cell? ⟨G, k + k2, none⟩ = some (.int .u64 0) := by
            rw [← zz]; exact raw_cell HR2.out (k + k2) (by rw [lO]; exact kk)
          have fo : wr.frozen? ⟨G, k + k2, none⟩ = false := raw_free HR2.out (k + k2)
          have Zz := Lib.hid zz
          have s2 : ((k : Int) + (k2 : Int)).toNat = k + k2 := by omega
          clear zz hlt2
          go_wp2
          go_roundw
          case rel => exact ⟨k + 1, _, by go_num, by omega, mul_step HI.out Elb.out (by rw [lO]; exact kk) ⟨c0, c1⟩ Zz.out, by have := raw_store HR2.out (k + k2) cc; exact this, hq2.setCell (by rw [EG.out]; exact Nat.le_refl _) _⟩
          case measure => simp [intOf]; omega
    · obtain rfl : k = la := by omega
      have lO : O.length = n := HM.out.1
      have fin : Dg.val O = Dg.val A * Dg.val B := by rw [HM.out.2.2.1, List.take_of_length_le (by rw [Ela.out]; exact Nat.le_refl _)]
      have Fin := Lib.hid fin
      have cut := refCut (.slice (some ⟨G, 0, none⟩) n n) O wo HM.out.2.1 (by omega) HR.out.raw
      have Cut := Lib.hid cut
      clear fin cut hlt
      go_wp2_with (go_at_call 78; refine (Cut.out).mono ?_; rintro e w' ⟨r, rfl, hr, rfl⟩)
      go_ret
      exact ⟨_, rfl, by rw [← Fin.out]; exact hr, hq⟩

end Go.Proofs.Ytijakijjeoaikaa
