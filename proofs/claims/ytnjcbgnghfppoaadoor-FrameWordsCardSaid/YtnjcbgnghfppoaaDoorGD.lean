import Derived.Test.YtnjcbgnghfppoaaDoorGA
import Derived.Test.YtnjcbgnghfppoaaDoorGC
import Derived.Lib.LaidTab
import Derived.Lib.Hide
import Derived.Deep.QuietTactic
import Derived.BigQuiet
import Derived.StillTailTactics
import Derived.Outline
import Derived.OneCell

/- The walks of package cordic's ray: a step to the left, a step to the right. -/
set_option linter.unusedVariables false
set_option linter.unusedSimpArgs false
namespace Go.Proofs.YtnjcbgnghfppoaaDoor
open Go.RowKit

/-- The table of the steps' angles lies as it was laid. -/
def Tc (w : World) : Prop := 0 < w.heap.size ∧ ∀ i : Nat, i < 26 → w.cell? ⟨0, i, none⟩ = some (.int .i64 (Cm.T i))
theorem Tc.kept {w w' : World} (h : Tc w) (q : Qw w w') : Tc w' := ⟨Nat.lt_of_lt_of_le h.1 q.size, fun i hi => by
  have := q.cell (p := ⟨0, i, none⟩) h.1
  rw [this]; exact h.2 i hi⟩

/-- A shifted coordinate is no greater. -/
theorem sh_bd (y : Int) (i : Nat) (y1 : -4000000000000000000 ≤ y) (y2 : y ≤ 4000000000000000000) : -4000000000000000000 ≤ y / 2 ^ i ∧ y / 2 ^ i ≤ 4000000000000000000 := by
  have hp : (0 : Int) < 2 ^ i := Int.pow_pos (by decide)
  refine ⟨?_, ?_⟩
  · refine (Int.le_ediv_iff_mul_le hp).2 ?_
    have := Int.mul_le_mul_of_nonneg_left (show (1 : Int) ≤ 2 ^ i by omega) (show (0 : Int) ≤ 4000000000000000000 by decide)
    omega
  · by_cases c : 0 ≤ y
    · exact Int.le_trans (Int.ediv_le_self _ c) y2
    · have := Int.ediv_neg_of_neg_of_pos (show y < 0 by omega) hp
      omega

theorem qw_drew {w w' : World} (h : Qw w w') : Qw w w'.drew := Below.trans h ⟨rfl, rfl, rfl, Nat.le_refl _, fun _ _ => rfl⟩

set_option maxRecDepth 100000 in
theorem co_left (x y z : Int) (i : Nat) (hi : i < 26) (x1 : -4000000000000000000 ≤ x) (x2 : x ≤ 4000000000000000000) (y1 : -4000000000000000000 ≤ y) (y2 : y ≤ 4000000000000000000) (z1 : -1000000000000 ≤ z) (z2 : z ≤ 1000000000000) (w : World) (ht : Tc w) :
    Calls Tryd.prog 103 #[.agg #[.int .i64 x, .int .i64 y, .int .i64 z], .int .i64 i] w fun e w' => e = .returned (.agg #[.int .i64 (Cm.lx i x y), .int .i64 (Cm.ly i x y), .int .i64 (z - Cm.T i)]) ∧ Qw w w' := by
  obtain ⟨hs, hT⟩ := ht
  have hc := hT i hi
  have bt := Cm.bd_T i hi
  clear hT
  have i0 : (0 : Int) ≤ i := by omega
  have i1 : (i : Int) < 26 := by omega
  obtain ⟨d1, d2⟩ := sh_bd y i y1 y2
  obtain ⟨d3, d4⟩ := sh_bd x i x1 x2
  have e1 : IntKind.i64.wrap (x - y / 2 ^ i) = Cm.lx i x y := IntWalk.i64_in _ (by omega)
  have e2 : IntKind.i64.wrap (y + x / 2 ^ i) = Cm.ly i x y := IntWalk.i64_in _ (by omega)
  have e3 : IntKind.i64.wrap (z - Cm.T i) = z - Cm.T i := IntWalk.i64_in _ (by omega)
  clear bt d1 d2 d3 d4 x1 x2 y1 y2 z1 z2
  have gz : 0 < w.heap.size := by omega
  go_enter Tryd.func103, Tryd.ntmps103
  go_wp2
  refine wp_region_still_tail 21 (by kernel_rfl) (by kernel_rfl) ?_
  change wpStill _ _ (World.drew _) _ _ _
  simp only [List.take_succ_cons, List.take_zero, List.drop_succ_cons, List.drop_zero]
  repeat still_step
  refine wpStill_nil ?_
  change wpList _ _ _ _ _ (World.drew _)
  go_wp2
  exact bodyPost_ret (v := .agg #[.int .i64 (Cm.lx i x y), .int .i64 (Cm.ly i x y), .int .i64 (z - Cm.T i)]) (by simp [results, Tryd.results103, go_sem]) rfl ⟨rfl, qw_drew (((Below.refl _ _).alloc (Nat.le_refl _) _).alloc (by simp) _)⟩

set_option maxRecDepth 100000 in
theorem co_right (x y z : Int) (i : Nat) (hi : i < 26) (x1 : -4000000000000000000 ≤ x) (x2 : x ≤ 4000000000000000000) (y1 : -4000000000000000000 ≤ y) (y2 : y ≤ 4000000000000000000) (z1 : -1000000000000 ≤ z) (z2 : z ≤ 1000000000000) (w : World) (ht : Tc w) :
    Calls Tryd.prog 104 #[.agg #[.int .i64 x, .int .i64 y, .int .i64 z], .int .i64 i] w fun e w' => e = .returned (.agg #[.int .i64 (Cm.rx i x y), .int .i64 (Cm.ry i x y), .int .i64 (z + Cm.T i)]) ∧ Qw w w' := by
  obtain ⟨hs, hT⟩ := ht
  have hc := hT i hi
  have bt := Cm.bd_T i hi
  clear hT
  have i0 : (0 : Int) ≤ i := by omega
  have i1 : (i : Int) < 26 := by omega
  obtain ⟨d1, d2⟩ := sh_bd y i y1 y2
  obtain ⟨d3, d4⟩ := sh_bd x i x1 x2
  have e1 : IntKind.i64.wrap (x + y / 2 ^ i) = Cm.rx i x y := IntWalk.i64_in _ (by omega)
  have e2 : IntKind.i64.wrap (y - x / 2 ^ i) = Cm.ry i x y := IntWalk.i64_in _ (by omega)
  have e3 : IntKind.i64.wrap (z + Cm.T i) = z + Cm.T i := IntWalk.i64_in _ (by omega)
  clear bt d1 d2 d3 d4 x1 x2 y1 y2 z1 z2
  have gz : 0 < w.heap.size := by omega
  go_enter Tryd.func104, Tryd.ntmps104
  go_wp2
  refine wp_region_still_tail 21 (by kernel_rfl) (by kernel_rfl) ?_
  change wpStill _ _ (World.drew _) _ _ _
  simp only [List.take_succ_cons, List.take_zero, List.drop_succ_cons, List.drop_zero]
  repeat still_step
  refine wpStill_nil ?_
  change wpList _ _ _ _ _ (World.drew _)
  go_wp2
  exact bodyPost_ret (v := .agg #[.int .i64 (Cm.rx i x y), .int .i64 (Cm.ry i x y), .int .i64 (z + Cm.T i)]) (by simp [results, Tryd.results104, go_sem]) rfl ⟨rfl, qw_drew (((Below.refl _ _).alloc (Nat.le_refl _) _).alloc (by simp) _)⟩
end Go.Proofs.YtnjcbgnghfppoaaDoor

/- The walks of package cordic's ray: the 26 steps. -/
set_option linter.unusedVariables false
set_option linter.unusedSimpArgs false
namespace Go.Proofs.YtnjcbgnghfppoaaDoor
open Go.RowKit

/-- Block B holds a ray. -/
def RayAt (w : World) (B : Nat) (x y z : Int) : Prop := w.heap[B]? = some (.cells #[.int .i64 x, .int .i64 y, .int .i64 z] 122 (0, 0))

theorem cells_of_ray {w : World} {B : Nat} {x y z : Int} (h : RayAt w B x y z) :
    w.cell? ⟨B, 0, none⟩ = some (.int .i64 x) ∧ w.cell? ⟨B, 1, none⟩ = some (.int .i64 y) ∧ w.cell? ⟨B, 2, none⟩ = some (.int .i64 z) ∧
    w.frozen? ⟨B, 0, none⟩ = false ∧ w.frozen? ⟨B, 1, none⟩ = false ∧ w.frozen? ⟨B, 2, none⟩ = false := by
  unfold RayAt at h
  simp [World.cell?, World.frozen?, h]

theorem RayAt.kept {w w' : World} {B : Nat} {x y z : Int} (h : RayAt w B x y z) (q : Qw w w') : RayAt w' B x y z := by
  have l := lt_of_block h
  unfold RayAt at h ⊢
  rw [q.block B l]; exact h

theorem three_0 {w : World} {b : Nat} {x y z u : Value} {t : TypeId} (h : w.heap[b]? = some (.cells #[x, y, z] t (0, 0))) : (w.setCell ⟨b, 0, none⟩ u).heap[b]? = some (.cells #[u, y, z] t (0, 0)) := by
  have hlt := lt_of_block h
  have h' : w.heap[b] = .cells #[x, y, z] t (0, 0) := by simpa [Array.getElem?_eq_getElem hlt] using h
  show (w.heap.modify b _)[b]? = _
  rw [Array.getElem?_eq_getElem (by simpa using hlt), Array.getElem_modify_self, h']
  rfl
theorem three_1 {w : World} {b : Nat} {x y z u : Value} {t : TypeId} (h : w.heap[b]? = some (.cells #[x, y, z] t (0, 0))) : (w.setCell ⟨b, 1, none⟩ u).heap[b]? = some (.cells #[x, u, z] t (0, 0)) := by
  have hlt := lt_of_block h
  have h' : w.heap[b] = .cells #[x, y, z] t (0, 0) := by simpa [Array.getElem?_eq_getElem hlt] using h
  show (w.heap.modify b _)[b]? = _
  rw [Array.getElem?_eq_getElem (by simpa using hlt), Array.getElem_modify_self, h']
  rfl
theorem three_2 {w : World} {b : Nat} {x y z u : Value} {t : TypeId} (h : w.heap[b]? = some (.cells #[x, y, z] t (0, 0))) : (w.setCell ⟨b, 2, none⟩ u).heap[b]? = some (.cells #[x, y, u] t (0, 0)) := by
  have hlt := lt_of_block h
  have h' : w.heap[b] = .cells #[x, y, z] t (0, 0) := by simpa [Array.getElem?_eq_getElem hlt] using h
  show (w.heap.modify b _)[b]? = _
  rw [Array.getElem?_eq_getElem (by simpa using hlt), Array.getElem_modify_self, h']
  rfl

/-- A ray is stored. -/
theorem ray_store {w : World} {B : Nat} {x y z a b c : Int} (h : RayAt w B x y z) : RayAt (((w.setCell ⟨B, 0, none⟩ (.int .i64 a)).setCell ⟨B, 1, none⟩ (.int .i64 b)).setCell ⟨B, 2, none⟩ (.int .i64 c)) B a b c :=
  three_2 (three_1 (three_0 h))
theorem ray_other {w : World} {B B' : Nat} {x y z a b c : Int} (h : RayAt w B' x y z) (hB : B' ≠ B) : RayAt (((w.setCell ⟨B, 0, none⟩ (.int .i64 a)).setCell ⟨B, 1, none⟩ (.int .i64 b)).setCell ⟨B, 2, none⟩ (.int .i64 c)) B' x y z := by
  unfold RayAt at h ⊢
  rw [Below.heap_setCell _ _ _ _ (by exact fun e => hB e), Below.heap_setCell _ _ _ _ (by exact fun e => hB e), Below.heap_setCell _ _ _ _ (by exact fun e => hB e)]
  exact h
theorem ray_below {N : Nat} {W w : World} {B : Nat} {a b c : Int} (h : Below N W w) (hB : N ≤ B) : Below N W (((w.setCell ⟨B, 0, none⟩ (.int .i64 a)).setCell ⟨B, 1, none⟩ (.int .i64 b)).setCell ⟨B, 2, none⟩ (.int .i64 c)) :=
  ((h.setCell (p := ⟨B, 0, none⟩) hB _).setCell (p := ⟨B, 1, none⟩) hB _).setCell (p := ⟨B, 2, none⟩) hB _

set_option maxRecDepth 100000 in
set_option maxHeartbeats 1000000 in
theorem co_byZ (r : Int) (h1 : -45000000 ≤ r) (h2 : r ≤ 45000000) (w : World) (ht : Tc w) :
    Calls Tryd.prog 98 #[.agg #[.int .i64 652032874, .int .i64 0, .int .i64 (r * 1000)]] w fun e w' => e = .returned (.agg #[.int .i64 (Cm.rs r 26).1, .int .i64 (Cm.rs r 26).2.1, .int .i64 (Cm.rs r 26).2.2]) ∧ Qw w w' := by
  have HT := Lib.hid ht
  clear ht
  go_enter Tryd.func98, Tryd.ntmps98
  go_wp2
  go_loopw [3, 4] (fun u i wr => ∃ k : Nat, k ≤ 26 ∧ i = .int .i64 k ∧ RayAt wr w.heap.size (Cm.rs r k).1 (Cm.rs r k).2.1 (Cm.rs r k).2.2 ∧ RayAt wr (w.heap.size + 1) 0 0 0 ∧ Below w.heap.size w wr) (fun _ i _ => 26 - (intOf i).toNat)
  case atStart => exact ⟨0, by omega, rfl, heap_alloc2_old _ _ _, heap_alloc2_new _ _ _, ((Below.refl _ _).alloc (Nat.le_refl _) _).alloc (by simp) _⟩
  case round =>
    obtain ⟨k, hk, rfl, hr, hz, hb⟩ := hrel
    by_cases c : k < 26
    · obtain ⟨a1, a2, b1, b2, e1, e2⟩ := Cm.rs_bd r h1 h2 k hk
      have rs1 := Cm.rs_succ r k
      generalize hx : (Cm.rs r k).1 = x at *
      generalize hy : (Cm.rs r k).2.1 = y at *
      generalize hzz : (Cm.rs r k).2.2 = z at *
      obtain ⟨c0, c1, c2, f0, f1, f2⟩ := cells_of_ray hr
      have RS := Lib.hid rs1
      have HR := Lib.hid hr
      have HZ := Lib.hid hz
      have TC := Lib.hid (HT.out.kept hb)
      clear rs1 hr hz hx hy hzz
      by_cases d : 0 ≤ z
      · go_wp2_with fail
        refine (co_left x y z k c a1 a2 b1 b2 (by omega) (by omega) _ TC.out).mono ?_
        rintro e w' ⟨rfl, q⟩
        have r1 := HR.out.kept q
        have z1 := HZ.out.kept q
        have q1 := hb.trans (q.mono hb.size)
        clear c0 c1 c2 f0 f1 f2
        obtain ⟨c0, c1, c2, f0, f1, f2⟩ := cells_of_ray r1
        have R1 := Lib.hid r1
        have Z1 := Lib.hid z1
        clear r1 z1
        go_wp2_with fail
        exact ⟨⟨k + 1, by omega, by go_num, by rw [RS.out, if_pos d]; exact ray_store R1.out, ray_other Z1.out (by omega), ray_below q1 (Nat.le_refl _)⟩, by simp [intOf]; omega⟩
      · go_wp2_with fail
        refine (co_right x y z k c a1 a2 b1 b2 (by omega) (by omega) _ TC.out).mono ?_
        rintro e w' ⟨rfl, q⟩
        have r1 := HR.out.kept q
        have z1 := HZ.out.kept q
        have q1 := hb.trans (q.mono hb.size)
        clear c0 c1 c2 f0 f1 f2
        obtain ⟨c0, c1, c2, f0, f1, f2⟩ := cells_of_ray r1
        have R1 := Lib.hid r1
        have Z1 := Lib.hid z1
        clear r1 z1
        go_wp2_with fail
        exact ⟨⟨k + 1, by omega, by go_num, by rw [RS.out, if_neg (by omega)]; exact ray_store R1.out, ray_other Z1.out (by omega), ray_below q1 (Nat.le_refl _)⟩, by simp [intOf]; omega⟩
    · obtain rfl : k = 26 := by omega
      obtain ⟨c0, c1, c2, f0, f1, f2⟩ := cells_of_ray hr
      obtain ⟨g0, g1, g2, i0, i1, i2⟩ := cells_of_ray hz
      have HZ := Lib.hid hz
      clear hr hz
      go_wp2
      obtain ⟨d0, d1, d2, _, _, _⟩ := cells_of_ray (ray_store (a := (Cm.rs r 26).1) (b := (Cm.rs r 26).2.1) (c := (Cm.rs r 26).2.2) HZ.out)
      exact bodyPost_ret (v := .agg #[.int .i64 (Cm.rs r 26).1, .int .i64 (Cm.rs r 26).2.1, .int .i64 (Cm.rs r 26).2.2]) (by simp [results, Tryd.results98, go_sem, d0, d1, d2]) rfl ⟨rfl, ray_below hb (by omega)⟩

end Go.Proofs.YtnjcbgnghfppoaaDoor

/- The walks of package cordic: remainder, beyond, near, SinCos, Rotate. -/
set_option linter.unusedVariables false
set_option linter.unusedSimpArgs false
namespace Go.Proofs.YtnjcbgnghfppoaaDoor
open Go.RowKit

theorem ret_n {a b : Int} (h : a = b) : Ending.returned (.int .i64 a) = .returned (.int .i64 b) := by rw [h]
theorem ret_b {a b : Bool} (h : a = b) : Ending.returned (.bool a) = .returned (.bool b) := by rw [h]
theorem ret_nn {a b c d : Int} (h : a = b) (g : c = d) : Ending.returned (.tuple #[.int .i64 a, .int .i64 c]) = .returned (.tuple #[.int .i64 b, .int .i64 d]) := by rw [h, g]

theorem co_rem (v n : Int) (v1 : -9223372036854775808 ≤ v) (v2 : v ≤ 9223372036854775807) (n1 : 1 ≤ n) (n2 : n ≤ 9223372036854775807) (w : World) :
    Calls Tryd.prog 97 #[.int .i64 v, .int .i64 n] w fun e w' => e = .returned (.int .i64 (v % n)) ∧ w = w' := by
  have nz : (n == 0) = false := beq_eq_false_iff_ne.2 (by omega)
  have m0 : 0 ≤ v % n := Int.emod_nonneg _ (by omega)
  have m1 : v % n < n := Int.emod_lt_of_pos _ (by omega)
  go_enter Tryd.func97, Tryd.ntmps97
  go_wp2
  all_goals
    go_ret
    refine ⟨ret_i64 ?_, rfl⟩
  · rename_i h
    have := tmod_of v n n1
    unfold wrap64
    omega
  · rename_i h
    have := tmod_of v n n1
    omega

/-- Whether a number is too great. -/
def bey (n m : Int) : Bool := decide (n < -m) || decide (m < n)
theorem bey_t {n m : Int} (h : n < -m ∨ m < n) : bey n m = true := by unfold bey; simpa using h
theorem bey_f {n m : Int} (h1 : -m ≤ n) (h2 : n ≤ m) : bey n m = false := by unfold bey; simp; omega

theorem co_beyond (n m : Int) (m1 : 0 ≤ m) (m2 : m ≤ 9223372036854775807) (w : World) :
    Calls Tryd.prog 80 #[.int .i64 n, .int .i64 m] w fun e w' => e = .returned (.bool (bey n m)) ∧ w = w' := by
  unfold bey
  by_cases c : n < -m
  · go_enter Tryd.func80, Tryd.ntmps80
    go_wp2
    go_ret
    exact ⟨ret_b (by first | rfl | simp [c]), rfl⟩
  · have c' : decide (n < -m) = false := decide_eq_false c
    go_enter Tryd.func80, Tryd.ntmps80
    go_wp2
    go_ret
    exact ⟨ret_b (by first | rfl | simp), rfl⟩

/-- The rounded quotient. -/
def rd (n d : Int) : Int := (n + d / 2) / d

theorem tdiv_floor (N d : Int) (hd : 1 ≤ d) : (N - N % d).tdiv d = N / d := by
  have e := Int.emod_add_mul_ediv N d
  rw [show N - N % d = d * (N / d) by omega, Int.mul_tdiv_cancel_left _ (by omega)]

theorem co_near (n d : Int) (n1 : -9000000000000000000 ≤ n) (n2 : n ≤ 9000000000000000000) (d1 : 1 ≤ d) (d2 : d ≤ 1073741824) (w : World) :
    Calls Tryd.prog 82 #[.int .i64 n, .int .i64 d] w fun e w' => e = .returned (.int .i64 (rd n d)) ∧ w = w' := by
  have nz : (d == 0) = false := beq_eq_false_iff_ne.2 (by omega)
  unfold rd
  have k := tdiv_floor (n + d / 2) d d1
  have m0 : 0 ≤ (n + d / 2) % d := Int.emod_nonneg _ (by omega)
  have m1 : (n + d / 2) % d < d := Int.emod_lt_of_pos _ (by omega)
  have l1 : 0 ≤ d / 2 := by omega
  have l2 : d / 2 ≤ d := by omega
  have q1 : -9000000000000000000 ≤ (n + d / 2) / d := by
    rw [Int.le_ediv_iff_mul_le (by omega)]
    have := Int.mul_le_mul_of_nonneg_left d1 (show (0 : Int) ≤ 9000000000000000000 by decide)
    omega
  have q2 : (n + d / 2) / d ≤ 9000000002000000000 := by
    have := Int.ediv_lt_of_lt_mul (c := d) (a := n + d / 2) (b := 9000000002000000001) (by omega) (by
      have := Int.mul_le_mul_of_nonneg_left d1 (show (0 : Int) ≤ 9000000002000000001 by decide)
      omega)
    omega
  have K := Lib.hid k
  clear k
  go_enter Tryd.func82, Tryd.ntmps82
  go_wp2_with (go_at_call 97; refine (co_rem _ _ (by omega) (by omega) (by omega) (by omega) _).mono ?_; rintro e w' ⟨rfl, rfl⟩)
  go_ret
  refine ⟨ret_n ?_, rfl⟩
  first
    | exact K.out
    | (rw [K.out]; unfold wrap64; omega)

/-! ### SinCos -/

theorem qt_bd (p : Int × Int) (k : Nat) (h1 : -4000000000000000000 ≤ p.1) (h2 : p.1 ≤ 4000000000000000000) (h3 : -4000000000000000000 ≤ p.2) (h4 : p.2 ≤ 4000000000000000000) :
    -4000000000000000000 ≤ (Cm.qt k p).1 ∧ (Cm.qt k p).1 ≤ 4000000000000000000 ∧ -4000000000000000000 ≤ (Cm.qt k p).2 ∧ (Cm.qt k p).2 ≤ 4000000000000000000 := by
  induction k with
  | zero => exact ⟨h1, h2, h3, h4⟩
  | succ k ih => simp only [Cm.qt]; omega

theorem bs_bd (r : Int) (h1 : -45000000 ≤ r) (h2 : r ≤ 45000000) : -4000000000000000000 ≤ (Cm.bs r).1 ∧ (Cm.bs r).1 ≤ 4000000000000000000 ∧ -4000000000000000000 ≤ (Cm.bs r).2 ∧ (Cm.bs r).2 ≤ 4000000000000000000 := by
  have := Cm.rs_bd r h1 h2 26 (by decide)
  unfold Cm.bs
  split
  · decide
  · dsimp only; omega

set_option maxRecDepth 100000 in
set_option maxHeartbeats 1000000 in
theorem co_sincos (a : Int) (a1 : -9223372036854775808 ≤ a) (a2 : a ≤ 9223372036854775807) (w : World) (ht : Tc w) :
    Calls Tryd.prog 81 #[.int .i64 a] w fun e w' => e = .returned (.tuple #[.int .i64 (Cm.sc a).2, .int .i64 (Cm.sc a).1]) ∧ Qw w w' := by
  obtain ⟨k0, k1, r0, r1, kr⟩ := Cm.kk_bd a
  have bb := bs_bd (Cm.rest a) r0 (by omega)
  have qb := fun k => qt_bd (Cm.bs (Cm.rest a)) k bb.1 bb.2.1 bb.2.2.1 bb.2.2.2
  have ek : (a % 360000000 + 45000000) / 90000000 = Cm.kk a := rfl
  have er : a % 360000000 - Cm.kk a * 90000000 = Cm.rest a := rfl
  have es : Cm.sc a = Cm.qt (Cm.kk a).toNat (Cm.bs (Cm.rest a)) := rfl
  rw [es]
  have b0 : 0 ≤ a % 360000000 := by omega
  have b1 : a % 360000000 < 360000000 := by omega
  have c1 := fun w => co_rem a 360000000 a1 a2 (by decide) (by decide) w
  generalize a % 360000000 = R at *
  have HT := Lib.hid ht
  have C1 := Lib.hid c1
  clear c1 es ht kr
  generalize Cm.kk a = k at *
  have z0 : Cm.rest a = 0 → (Cm.bs (Cm.rest a)).1 = 1073741824 ∧ (Cm.bs (Cm.rest a)).2 = 0 := fun h => by rw [h]; exact ⟨rfl, rfl⟩
  have z1 : Cm.rest a ≠ 0 → (Cm.rs (Cm.rest a) 26).1 = (Cm.bs (Cm.rest a)).1 ∧ (Cm.rs (Cm.rest a) 26).2.1 = (Cm.bs (Cm.rest a)).2 := fun h => by unfold Cm.bs; rw [if_neg h]; exact ⟨rfl, rfl⟩
  generalize Cm.rest a = r at *
  have c2 := fun w ht => co_byZ r r0 (by omega) w ht
  obtain ⟨p, hp⟩ : ∃ p, Cm.bs r = p := ⟨_, rfl⟩
  rw [hp] at z0 z1 bb qb ⊢
  clear hp
  obtain ⟨p1, p2⟩ := p
  dsimp only at z0 z1
  clear a1 a2 bb
  have kn : ((k.toNat : Nat) : Int) = k := by omega
  have QB := Lib.hid qb
  have KN := Lib.hid kn
  have q0 := Qw.refl w
  clear qb kn
  by_cases c : r = 0
  · obtain ⟨rfl, rfl⟩ := z0 c
    have c' : (r != 0) = false := by rw [c]; rfl
    clear z0 z1 c2 c
    go_enter Tryd.func81, Tryd.ntmps81
    go_wp2_with (go_at_call 97; ((with_reducible refine (C1.out _).mono ?_); rintro e w' ⟨rfl, rfl⟩))
    go_loop [7, 8, 30] (fun x y i => ∃ j : Nat, j ≤ k.toNat ∧ i = .int .i64 j ∧ x = .int .i64 (Cm.qt j (1073741824, 0)).1 ∧ y = .int .i64 (Cm.qt j (1073741824, 0)).2) (fun _ _ i => k.toNat - (intOf i).toNat)
    case atStart => exact ⟨0, by omega, rfl, rfl, rfl⟩
    case round =>
      obtain ⟨j, hj, rfl, rfl, rfl⟩ := hrel
      obtain ⟨x1, x2, y1, y2⟩ := QB.out j
      by_cases c : j < k.toNat
      · have s1 : (Cm.qt (j + 1) (1073741824, 0)).1 = -(Cm.qt j (1073741824, 0)).2 := rfl
        have s2 : (Cm.qt (j + 1) (1073741824, 0)).2 = (Cm.qt j (1073741824, 0)).1 := rfl
        have S1 := Lib.hid s1
        have S2 := Lib.hid s2
        clear s1 s2
        generalize (Cm.qt j (1073741824, 0)).1 = x at *
        generalize (Cm.qt j (1073741824, 0)).2 = y at *
        have lt : (j : Int) < k := by omega
        go_wp2
        go_round
        case rel => exact ⟨j + 1, by omega, by go_num, by rw [S1.out], by rw [S2.out]⟩
        case measure => simp [intOf]; omega
      · obtain rfl : j = k.toNat := by omega
        have ge : ¬ ((k.toNat : Nat) : Int) < k := by omega
        go_wp2
        go_ret2
        exact ⟨rfl, q0⟩
  · obtain ⟨e1, e2⟩ := z1 c
    have c' : (r != 0) = true := by rw [bne_iff_ne]; exact c
    rw [e1, e2] at c2
    have C2 := Lib.hid c2
    clear z0 z1 c2 c e1 e2
    generalize (Cm.rs r 26).2.2 = zz at *
    go_enter Tryd.func81, Tryd.ntmps81
    go_wp2_with (first | (go_at_call 97; ((with_reducible refine (C1.out _).mono ?_); rintro e w' ⟨rfl, rfl⟩)) | (go_at_call 98; ((with_reducible refine (C2.out _ HT.out).mono ?_); rintro e w' ⟨rfl, h⟩; replace q0 := Qw.trans q0 h; clear h)))
    go_quiet (fail)
    go_wp2
    go_loop [7, 8, 30] (fun x y i => ∃ j : Nat, j ≤ k.toNat ∧ i = .int .i64 j ∧ x = .int .i64 (Cm.qt j (p1, p2)).1 ∧ y = .int .i64 (Cm.qt j (p1, p2)).2) (fun _ _ i => k.toNat - (intOf i).toNat)
    case atStart => exact ⟨0, by omega, rfl, rfl, rfl⟩
    case round =>
      obtain ⟨j, hj, rfl, rfl, rfl⟩ := hrel
      obtain ⟨x1, x2, y1, y2⟩ := QB.out j
      by_cases c : j < k.toNat
      · have s1 : (Cm.qt (j + 1) (p1, p2)).1 = -(Cm.qt j (p1, p2)).2 := rfl
        have s2 : (Cm.qt (j + 1) (p1, p2)).2 = (Cm.qt j (p1, p2)).1 := rfl
        have S1 := Lib.hid s1
        have S2 := Lib.hid s2
        clear s1 s2
        generalize (Cm.qt j (p1, p2)).1 = x at *
        generalize (Cm.qt j (p1, p2)).2 = y at *
        have lt : (j : Int) < k := by omega
        go_wp2
        go_round
        case rel => exact ⟨j + 1, by omega, by go_num, by rw [S1.out], by rw [S2.out]⟩
        case measure => simp [intOf]; omega
      · obtain rfl : j = k.toNat := by omega
        have ge : ¬ ((k.toNat : Nat) : Int) < k := by omega
        go_wp2
        go_ret2
        exact ⟨rfl, Qw.trans (Qw.trans q0 ((Below.refl _ _).alloc (Nat.le_refl _) _)) (Qw.drewN _ _)⟩

/-! ### Rotate -/

theorem mul_bd {x c : Int} (x1 : -4194304 ≤ x) (x2 : x ≤ 4194304) (c1 : -1073741900 ≤ c) (c2 : c ≤ 1073741900) : -4503599946137600 ≤ x * c ∧ x * c ≤ 4503599946137600 :=
  Cm.mul_abs x1 x2 c1 c2

/-- The point after the turn. -/
def rotv (x y a : Int) : Int × Int := if bey x 4194304 || bey y 4194304 then (0, 0) else (rd (x * (Cm.sc a).1 - y * (Cm.sc a).2) 1073741824, rd (x * (Cm.sc a).2 + y * (Cm.sc a).1) 1073741824)
def rotok (x y : Int) : Bool := !(bey x 4194304 || bey y 4194304)

set_option maxRecDepth 100000 in
set_option maxHeartbeats 1000000 in
theorem co_rotate (x y a : Int) (a1 : -9223372036854775808 ≤ a) (a2 : a ≤ 9223372036854775807) (w : World) (ht : Tc w) :
    Calls Tryd.prog 70 #[.int .i64 x, .int .i64 y, .int .i64 a] w fun e w' => e = .returned (.tuple #[.int .i64 (rotv x y a).1, .int .i64 (rotv x y a).2, .bool (rotok x y)]) ∧ Qw w w' := by
  have b1 := fun w => co_beyond x 4194304 (by decide) (by decide) w
  have b2 := fun w => co_beyond y 4194304 (by decide) (by decide) w
  have c3 := fun w ht => co_sincos a a1 a2 w ht
  have HT := Lib.hid ht
  have q0 := Qw.refl w
  unfold rotv rotok
  clear ht a1 a2
  cases hx : bey x 4194304
  · cases hy : bey y 4194304
    · rw [hx] at b1
      rw [hy] at b2
      have sb := Cm.sc_bd a
      have s1 := Cm.nm_re sb
      have s2 := Cm.nm_im sb
      have xb : -4194304 ≤ x ∧ x ≤ 4194304 := by unfold bey at hx; simp at hx; omega
      have yb : -4194304 ≤ y ∧ y ≤ 4194304 := by unfold bey at hy; simp at hy; omega
      simp only [Bool.or_false, Bool.not_false, Bool.false_eq_true, if_false]
      generalize (Cm.sc a).1 = c at *
      generalize (Cm.sc a).2 = s at *
      obtain ⟨p1, p2⟩ := mul_bd xb.1 xb.2 s1.1 s1.2
      obtain ⟨p3, p4⟩ := mul_bd yb.1 yb.2 s2.1 s2.2
      obtain ⟨p5, p6⟩ := mul_bd xb.1 xb.2 s2.1 s2.2
      obtain ⟨p7, p8⟩ := mul_bd yb.1 yb.2 s1.1 s1.2
      clear sb s1 s2 xb yb hx hy
      have B1 := Lib.hid b1
      have B2 := Lib.hid b2
      have C3 := Lib.hid c3
      clear b1 b2 c3
      generalize e1 : x * c = P1 at *
      generalize e2 : y * s = P2 at *
      generalize e3 : x * s = P3 at *
      generalize e4 : y * c = P4 at *
      have n1 := fun w => co_near (P1 - P2) 1073741824 (by omega) (by omega) (by decide) (by decide) w
      have n2 := fun w => co_near (P3 + P4) 1073741824 (by omega) (by omega) (by decide) (by decide) w
      have N1 := Lib.hid n1
      have N2 := Lib.hid n2
      clear n1 n2
      generalize rd (P1 - P2) 1073741824 = R1 at *
      generalize rd (P3 + P4) 1073741824 = R2 at *
      go_enter Tryd.func70, Tryd.ntmps70
      go_wp2_with (first | (go_at_call 80; ((with_reducible refine (B1.out _).mono ?_); rintro e w' ⟨rfl, rfl⟩)) | (go_at_call 80; ((with_reducible refine (B2.out _).mono ?_); rintro e w' ⟨rfl, rfl⟩)) | (go_at_call 81; ((with_reducible refine (C3.out _ HT.out).mono ?_); rintro e w' ⟨rfl, h⟩; replace q0 := Qw.trans q0 h; clear h)) | (go_at_call 82; ((with_reducible refine (N1.out _).mono ?_); rintro e w' ⟨rfl, rfl⟩)) | (go_at_call 82; ((with_reducible refine (N2.out _).mono ?_); rintro e w' ⟨rfl, rfl⟩)))
      go_ret3
      exact ⟨rfl, q0⟩
    · rw [hx] at b1
      rw [hy] at b2
      simp only [Bool.or_true, Bool.not_true, if_true]
      have B1 := Lib.hid b1
      have B2 := Lib.hid b2
      clear b1 b2 c3 hx hy
      go_enter Tryd.func70, Tryd.ntmps70
      go_wp2_with (first | (go_at_call 80; ((with_reducible refine (B1.out _).mono ?_); rintro e w' ⟨rfl, rfl⟩)) | (go_at_call 80; ((with_reducible refine (B2.out _).mono ?_); rintro e w' ⟨rfl, rfl⟩)))
      go_ret3
      exact ⟨rfl, q0⟩
  · rw [hx] at b1
    simp only [Bool.true_or, Bool.not_true, if_true]
    have B1 := Lib.hid b1
    clear b1 b2 c3 hx
    go_enter Tryd.func70, Tryd.ntmps70
    go_wp2_with (go_at_call 80; ((with_reducible refine (B1.out _).mono ?_); rintro e w' ⟨rfl, rfl⟩))
    go_ret3
    exact ⟨rfl, q0⟩

end Go.Proofs.YtnjcbgnghfppoaaDoor

/- The walk of cordic.Angle. -/
set_option linter.unusedVariables false
set_option linter.unusedSimpArgs false
namespace Go.Proofs.YtnjcbgnghfppoaaDoor
open Go.RowKit

theorem ret_nb {a b : Int} {c d : Bool} (h : a = b) (g : c = d) : Ending.returned (.tuple #[.int .i64 a, .bool c]) = .returned (.tuple #[.int .i64 b, .bool d]) := by rw [h, g]

theorem run_field_z (a b c : Int) (w : World) : (Instr.field 122 (.agg #[.int .i64 a, .int .i64 b, .int .i64 c]) 2).run Tryd.prog w = .ok (.int .i64 c) w := by kernel_rfl

theorem an_no {x y : Int} (h : (x = 0 ∧ y = 0) ∨ x < -1099511627776 ∨ 1099511627776 < x ∨ y < -1099511627776 ∨ 1099511627776 < y) : Cm.angv x y = 0 ∧ Cm.aok x y = false := by
  have e := Cm.aok_f h
  exact ⟨by unfold Cm.angv; rw [e]; rfl, e⟩

end Go.Proofs.YtnjcbgnghfppoaaDoor
