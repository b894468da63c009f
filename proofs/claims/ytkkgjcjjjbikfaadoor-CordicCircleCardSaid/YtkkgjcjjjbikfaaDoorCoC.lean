
/- The walks of package cordic's ray: the 26 steps to the axis. -/
import Derived.Test.YtkkgjcjjjbikfaaDoorCoB
import Derived.Test.YtkkgjcjjjbikfaaDoorCmF
set_option linter.unusedVariables false
set_option linter.unusedSimpArgs false
namespace Go.Proofs.YtkkgjcjjjbikfaaDoor
open Go.RowKit

set_option maxRecDepth 100000 in
set_option maxHeartbeats 1000000 in
theorem co_toAxis (x0 y0 : Int) (h0 : 0 ≤ x0) (h0' : x0 ≤ 1152921504606846976) (h1 : -x0 ≤ y0) (h2 : y0 ≤ x0) (w : World) (ht : Tc w) :
    Calls Tryd.prog 34 #[.agg #[.int .i64 x0, .int .i64 y0, .int .i64 0]] w fun e w' => e = .returned (.agg #[.int .i64 (Cm.vs x0 y0 26).1, .int .i64 (Cm.vs x0 y0 26).2.1, .int .i64 (Cm.vs x0 y0 26).2.2]) ∧ Qw w w' := by
  have HT := Lib.hid ht
  clear ht
  go_enter Tryd.func34, Tryd.ntmps34
  go_wp2
  go_loopw [3, 4] (fun u i wr => ∃ k : Nat, k ≤ 26 ∧ i = .int .i64 k ∧ RayAt wr w.heap.size (Cm.vs x0 y0 k).1 (Cm.vs x0 y0 k).2.1 (Cm.vs x0 y0 k).2.2 ∧ RayAt wr (w.heap.size + 1) 0 0 0 ∧ Below w.heap.size w wr) (fun _ i _ => 26 - (intOf i).toNat)
  case atStart => exact ⟨0, by omega, rfl, heap_alloc2_old _ _ _, heap_alloc2_new _ _ _, ((Below.refl _ _).alloc (Nat.le_refl _) _).alloc (by simp) _⟩
  case round =>
    obtain ⟨k, hk, rfl, hr, hz, hb⟩ := hrel
    by_cases c : k < 26
    · obtain ⟨a1, a2, b1, b2, e1, e2⟩ := Cm.vs_bd x0 y0 h0 h0' h1 h2 k hk
      have rs1 := Cm.vs_succ x0 y0 k
      generalize hx : (Cm.vs x0 y0 k).1 = x at *
      generalize hy : (Cm.vs x0 y0 k).2.1 = y at *
      generalize hzz : (Cm.vs x0 y0 k).2.2 = z at *
      obtain ⟨c0, c1, c2, f0, f1, f2⟩ := cells_of_ray hr
      have RS := Lib.hid rs1
      have HR := Lib.hid hr
      have HZ := Lib.hid hz
      have TC := Lib.hid (HT.out.kept hb)
      clear rs1 hr hz hx hy hzz
      by_cases d : 0 ≤ y
      · go_wp2_with fail
        refine (co_right x y z k c a1 a2 b1 b2 (by omega) (by omega) _ TC.out).mono ?_
        rintro e w' ⟨rfl, q⟩
        have r1 := HR.out.kept q
        have z1 := HZ.out.kept q
        have q1 := hb.trans (q.mono hb.size)
        clear c0 c1 c2 f0 f1 f2
        obtain ⟨c0, c1, c2, f0, f1, f2⟩ := cells_of_ray r1
        have R1 := Lib.hid r1
        have Z1 := Lib.hid z1
        clear r1 z1
        go_wp2_with fail
        exact ⟨⟨k + 1, by omega, by go_num, by rw [RS.out, if_pos d]; exact ray_store R1.out, ray_other Z1.out (by omega), ray_below q1 (Nat.le_refl _)⟩, by simp [intOf]; omega⟩
      · go_wp2_with fail
        refine (co_left x y z k c a1 a2 b1 b2 (by omega) (by omega) _ TC.out).mono ?_
        rintro e w' ⟨rfl, q⟩
        have r1 := HR.out.kept q
        have z1 := HZ.out.kept q
        have q1 := hb.trans (q.mono hb.size)
        clear c0 c1 c2 f0 f1 f2
        obtain ⟨c0, c1, c2, f0, f1, f2⟩ := cells_of_ray r1
        have R1 := Lib.hid r1
        have Z1 := Lib.hid z1
        clear r1 z1
        go_wp2_with fail
        exact ⟨⟨k + 1, by omega, by go_num, by rw [RS.out, if_neg (by omega)]; exact ray_store R1.out, ray_other Z1.out (by omega), ray_below q1 (Nat.le_refl _)⟩, by simp [intOf]; omega⟩
    · obtain rfl : k = 26 := by omega
      obtain ⟨c0, c1, c2, f0, f1, f2⟩ := cells_of_ray hr
      obtain ⟨g0, g1, g2, i0, i1, i2⟩ := cells_of_ray hz
      have HZ := Lib.hid hz
      clear hr hz
      go_wp2
      obtain ⟨d0, d1, d2, _, _, _⟩ := cells_of_ray (ray_store (a := (Cm.vs x0 y0 26).1) (b := (Cm.vs x0 y0 26).2.1) (c := (Cm.vs x0 y0 26).2.2) HZ.out)
      exact bodyPost_ret (v := .agg #[.int .i64 (Cm.vs x0 y0 26).1, .int .i64 (Cm.vs x0 y0 26).2.1, .int .i64 (Cm.vs x0 y0 26).2.2]) (by simp [results, Tryd.results34, go_sem, d0, d1, d2]) rfl ⟨rfl, ray_below hb (by omega)⟩

end Go.Proofs.YtkkgjcjjjbikfaaDoor
