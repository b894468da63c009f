
/- The walks of package cordic's ray: a step to the left, a step to the right. -/
import Derived.Test.YtkkgjcjjjbikfaaDoorCore
import Derived.Test.YtkkgjcjjjbikfaaDoorCmE
import Derived.Lib.LaidTab
import Derived.Lib.Hide
import Derived.Deep.QuietTactic
import Derived.BigQuiet
import Derived.StillTailTactics
import Derived.Outline
set_option linter.unusedVariables false
set_option linter.unusedSimpArgs false
namespace Go.Proofs.YtkkgjcjjjbikfaaDoor
open Go.RowKit

/-- The table of the steps' angles lies as it was laid. -/
def Tc (w : World) : Prop := 2 < w.heap.size ∧ ∀ i : Nat, i < 26 → w.cell? ⟨2, i, none⟩ = some (.int .i64 (Cm.T i))
theorem Tc.kept {w w' : World} (h : Tc w) (q : Qw w w') : Tc w' := ⟨Nat.lt_of_lt_of_le h.1 q.size, fun i hi => by
  have := q.cell (p := ⟨2, i, none⟩) h.1
  rw [this]; exact h.2 i hi⟩

/-- A shifted coordinate is no greater. -/
theorem sh_bd (y : Int) (i : Nat) (y1 : -4000000000000000000 ≤ y) (y2 : y ≤ 4000000000000000000) : -4000000000000000000 ≤ y / 2 ^ i ∧ y / 2 ^ i ≤ 4000000000000000000 := by
  have hp : (0 : Int) < 2 ^ i := Int.pow_pos (by decide)
  refine ⟨?_, ?_⟩
  · refine (Int.le_ediv_iff_mul_le hp).2 ?_
    have := Int.mul_le_mul_of_nonneg_left (show (1 : Int) ≤ 2 ^ i by omega) (show (0 : Int) ≤ 4000000000000000000 by decide)
    omega
  · by_cases c : 0 ≤ y
    · exact Int.le_trans (Int.ediv_le_self _ c) y2
    · have := Int.ediv_neg_of_neg_of_pos (show y < 0 by omega) hp
      omega

theorem qw_drew {w w' : World} (h : Qw w w') : Qw w w'.drew := Below.trans h ⟨rfl, rfl, rfl, Nat.le_refl _, fun _ _ => rfl⟩

theorem co_left (x y z : Int) (i : Nat) (hi : i < 26) (x1 : -4000000000000000000 ≤ x) (x2 : x ≤ 4000000000000000000) (y1 : -4000000000000000000 ≤ y) (y2 : y ≤ 4000000000000000000) (z1 : -1000000000000 ≤ z) (z2 : z ≤ 1000000000000) (w : World) (ht : Tc w) :
    Calls Tryd.prog 41 #[.agg #[.int .i64 x, .int .i64 y, .int .i64 z], .int .i64 i] w fun e w' => e = .returned (.agg #[.int .i64 (Cm.lx i x y), .int .i64 (Cm.ly i x y), .int .i64 (z - Cm.T i)]) ∧ Qw w w' := by
  obtain ⟨hs, hT⟩ := ht
  have hc := hT i hi
  have bt := Cm.bd_T i hi
  clear hT
  have i0 : (0 : Int) ≤ i := by omega
  have i1 : (i : Int) < 26 := by omega
  obtain ⟨d1, d2⟩ := sh_bd y i y1 y2
  obtain ⟨d3, d4⟩ := sh_bd x i x1 x2
  have e1 : IntKind.i64.wrap (x - y / 2 ^ i) = Cm.lx i x y := IntWalk.i64_in _ (by omega)
  have e2 : IntKind.i64.wrap (y + x / 2 ^ i) = Cm.ly i x y := IntWalk.i64_in _ (by omega)
  have e3 : IntKind.i64.wrap (z - Cm.T i) = z - Cm.T i := IntWalk.i64_in _ (by omega)
  clear bt d1 d2 d3 d4 x1 x2 y1 y2 z1 z2
  go_enter Tryd.func41, Tryd.ntmps41
  go_wp2
  refine wp_region_still_tail 21 (by kernel_rfl) (by kernel_rfl) ?_
  change wpStill _ _ (World.drew _) _ _ _
  simp only [List.take_succ_cons, List.take_zero, List.drop_succ_cons, List.drop_zero]
  repeat still_step
  refine wpStill_nil ?_
  change wpList _ _ _ _ _ (World.drew _)
  go_wp2
  exact bodyPost_ret (v := .agg #[.int .i64 (Cm.lx i x y), .int .i64 (Cm.ly i x y), .int .i64 (z - Cm.T i)]) (by simp [results, Tryd.results41, go_sem]) rfl ⟨rfl, qw_drew (((Below.refl _ _).alloc (Nat.le_refl _) _).alloc (by simp) _)⟩

theorem co_right (x y z : Int) (i : Nat) (hi : i < 26) (x1 : -4000000000000000000 ≤ x) (x2 : x ≤ 4000000000000000000) (y1 : -4000000000000000000 ≤ y) (y2 : y ≤ 4000000000000000000) (z1 : -1000000000000 ≤ z) (z2 : z ≤ 1000000000000) (w : World) (ht : Tc w) :
    Calls Tryd.prog 42 #[.agg #[.int .i64 x, .int .i64 y, .int .i64 z], .int .i64 i] w fun e w' => e = .returned (.agg #[.int .i64 (Cm.rx i x y), .int .i64 (Cm.ry i x y), .int .i64 (z + Cm.T i)]) ∧ Qw w w' := by
  obtain ⟨hs, hT⟩ := ht
  have hc := hT i hi
  have bt := Cm.bd_T i hi
  clear hT
  have i0 : (0 : Int) ≤ i := by omega
  have i1 : (i : Int) < 26 := by omega
  obtain ⟨d1, d2⟩ := sh_bd y i y1 y2
  obtain ⟨d3, d4⟩ := sh_bd x i x1 x2
  have e1 : IntKind.i64.wrap (x + y / 2 ^ i) = Cm.rx i x y := IntWalk.i64_in _ (by omega)
  have e2 : IntKind.i64.wrap (y - x / 2 ^ i) = Cm.ry i x y := IntWalk.i64_in _ (by omega)
  have e3 : IntKind.i64.wrap (z + Cm.T i) = z + Cm.T i := IntWalk.i64_in _ (by omega)
  clear bt d1 d2 d3 d4 x1 x2 y1 y2 z1 z2
  go_enter Tryd.func42, Tryd.ntmps42
  go_wp2
  refine wp_region_still_tail 21 (by kernel_rfl) (by kernel_rfl) ?_
  change wpStill _ _ (World.drew _) _ _ _
  simp only [List.take_succ_cons, List.take_zero, List.drop_succ_cons, List.drop_zero]
  repeat still_step
  refine wpStill_nil ?_
  change wpList _ _ _ _ _ (World.drew _)
  go_wp2
  exact bodyPost_ret (v := .agg #[.int .i64 (Cm.rx i x y), .int .i64 (Cm.ry i x y), .int .i64 (z + Cm.T i)]) (by simp [results, Tryd.results42, go_sem]) rfl ⟨rfl, qw_drew (((Below.refl _ _).alloc (Nat.le_refl _) _).alloc (by simp) _)⟩
end Go.Proofs.YtkkgjcjjjbikfaaDoor
