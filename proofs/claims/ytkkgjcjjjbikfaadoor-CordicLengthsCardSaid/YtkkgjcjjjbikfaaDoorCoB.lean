
/- The walks of package cordic's ray: the 26 steps. -/
import Derived.Test.YtkkgjcjjjbikfaaDoorCoA
import Derived.OneCell
set_option linter.unusedVariables false
set_option linter.unusedSimpArgs false
namespace Go.Proofs.YtkkgjcjjjbikfaaDoor
open Go.RowKit

/-- Block B holds a ray. -/
def RayAt (w : World) (B : Nat) (x y z : Int) : Prop := w.heap[B]? = some (.cells #[.int .i64 x, .int .i64 y, .int .i64 z] 38 (0, 0))

theorem cells_of_ray {w : World} {B : Nat} {x y z : Int} (h : RayAt w B x y z) :
    w.cell? ⟨B, 0, none⟩ = some (.int .i64 x) ∧ w.cell? ⟨B, 1, none⟩ = some (.int .i64 y) ∧ w.cell? ⟨B, 2, none⟩ = some (.int .i64 z) ∧
    w.frozen? ⟨B, 0, none⟩ = false ∧ w.frozen? ⟨B, 1, none⟩ = false ∧ w.frozen? ⟨B, 2, none⟩ = false := by
  unfold RayAt at h
  simp [World.cell?, World.frozen?, h]

theorem RayAt.kept {w w' : World} {B : Nat} {x y z : Int} (h : RayAt w B x y z) (q : Qw w w') : RayAt w' B x y z := by
  have l := lt_of_block h
  unfold RayAt at h ⊢
  rw [q.block B l]; exact h

theorem three_0 {w : World} {b : Nat} {x y z u : Value} {t : TypeId} (h : w.heap[b]? = some (.cells #[x, y, z] t (0, 0))) : (w.setCell ⟨b, 0, none⟩ u).heap[b]? = some (.cells #[u, y, z] t (0, 0)) := by
  have hlt := lt_of_block h
  have h' : w.heap[b] = .cells #[x, y, z] t (0, 0) := by simpa [Array.getElem?_eq_getElem hlt] using h
  show (w.heap.modify b _)[b]? = _
  rw [Array.getElem?_eq_getElem (by simpa using hlt), Array.getElem_modify_self, h']
  rfl
theorem three_1 {w : World} {b : Nat} {x y z u : Value} {t : TypeId} (h : w.heap[b]? = some (.cells #[x, y, z] t (0, 0))) : (w.setCell ⟨b, 1, none⟩ u).heap[b]? = some (.cells #[x, u, z] t (0, 0)) := by
  have hlt := lt_of_block h
  have h' : w.heap[b] = .cells #[x, y, z] t (0, 0) := by simpa [Array.getElem?_eq_getElem hlt] using h
  show (w.heap.modify b _)[b]? = _
  rw [Array.getElem?_eq_getElem (by simpa using hlt), Array.getElem_modify_self, h']
  rfl
theorem three_2 {w : World} {b : Nat} {x y z u : Value} {t : TypeId} (h : w.heap[b]? = some (.cells #[x, y, z] t (0, 0))) : (w.setCell ⟨b, 2, none⟩ u).heap[b]? = some (.cells #[x, y, u] t (0, 0)) := by
  have hlt := lt_of_block h
  have h' : w.heap[b] = .cells #[x, y, z] t (0, 0) := by simpa [Array.getElem?_eq_getElem hlt] using h
  show (w.heap.modify b _)[b]? = _
  rw [Array.getElem?_eq_getElem (by simpa using hlt), Array.getElem_modify_self, h']
  rfl

/-- A ray is stored. -/
theorem ray_store {w : World} {B : Nat} {x y z a b c : Int} (h : RayAt w B x y z) : RayAt (((w.setCell ⟨B, 0, none⟩ (.int .i64 a)).setCell ⟨B, 1, none⟩ (.int .i64 b)).setCell ⟨B, 2, none⟩ (.int .i64 c)) B a b c :=
  three_2 (three_1 (three_0 h))
theorem ray_other {w : World} {B B' : Nat} {x y z a b c : Int} (h : RayAt w B' x y z) (hB : B' ≠ B) : RayAt (((w.setCell ⟨B, 0, none⟩ (.int .i64 a)).setCell ⟨B, 1, none⟩ (.int .i64 b)).setCell ⟨B, 2, none⟩ (.int .i64 c)) B' x y z := by
  unfold RayAt at h ⊢
  rw [Below.heap_setCell _ _ _ _ (by exact fun e => hB e), Below.heap_setCell _ _ _ _ (by exact fun e => hB e), Below.heap_setCell _ _ _ _ (by exact fun e => hB e)]
  exact h
theorem ray_below {N : Nat} {W w : World} {B : Nat} {a b c : Int} (h : Below N W w) (hB : N ≤ B) : Below N W (((w.setCell ⟨B, 0, none⟩ (.int .i64 a)).setCell ⟨B, 1, none⟩ (.int .i64 b)).setCell ⟨B, 2, none⟩ (.int .i64 c)) :=
  ((h.setCell (p := ⟨B, 0, none⟩) hB _).setCell (p := ⟨B, 1, none⟩) hB _).setCell (p := ⟨B, 2, none⟩) hB _

set_option maxRecDepth 100000 in
set_option maxHeartbeats 1000000 in
theorem co_byZ (r : Int) (h1 : -45000000 ≤ r) (h2 : r ≤ 45000000) (w : World) (ht : Tc w) :
    Calls Tryd.prog 27 #[.agg #[.int .i64 652032874, .int .i64 0, .int .i64 (r * 1000)]] w fun e w' => e = .returned (.agg #[.int .i64 (Cm.rs r 26).1, .int .i64 (Cm.rs r 26).2.1, .int .i64 (Cm.rs r 26).2.2]) ∧ Qw w w' := by
  have HT := Lib.hid ht
  clear ht
  go_enter Tryd.func27, Tryd.ntmps27
  go_wp2
  go_loopw [3, 4] (fun u i wr => ∃ k : Nat, k ≤ 26 ∧ i = .int .i64 k ∧ RayAt wr w.heap.size (Cm.rs r k).1 (Cm.rs r k).2.1 (Cm.rs r k).2.2 ∧ RayAt wr (w.heap.size + 1) 0 0 0 ∧ Below w.heap.size w wr) (fun _ i _ => 26 - (intOf i).toNat)
  case atStart => exact ⟨0, by omega, rfl, heap_alloc2_old _ _ _, heap_alloc2_new _ _ _, ((Below.refl _ _).alloc (Nat.le_refl _) _).alloc (by simp) _⟩
  case round =>
    obtain ⟨k, hk, rfl, hr, hz, hb⟩ := hrel
    by_cases c : k < 26
    · obtain ⟨a1, a2, b1, b2, e1, e2⟩ := Cm.rs_bd r h1 h2 k hk
      have rs1 := Cm.rs_succ r k
      generalize hx : (Cm.rs r k).1 = x at *
      generalize hy : (Cm.rs r k).2.1 = y at *
      generalize hzz : (Cm.rs r k).2.2 = z at *
      obtain ⟨c0, c1, c2, f0, f1, f2⟩ := cells_of_ray hr
      have RS := Lib.hid rs1
      have HR := Lib.hid hr
      have HZ := Lib.hid hz
      have TC := Lib.hid (HT.out.kept hb)
      clear rs1 hr hz hx hy hzz
      by_cases d : 0 ≤ z
      · go_wp2_with fail
        refine (co_left x y z k c a1 a2 b1 b2 (by omega) (by omega) _ TC.out).mono ?_
        rintro e w' ⟨rfl, q⟩
        have r1 := HR.out.kept q
        have z1 := HZ.out.kept q
        have q1 := hb.trans (q.mono hb.size)
        clear c0 c1 c2 f0 f1 f2
        obtain ⟨c0, c1, c2, f0, f1, f2⟩ := cells_of_ray r1
        have R1 := Lib.hid r1
        have Z1 := Lib.hid z1
        clear r1 z1
        go_wp2_with fail
        exact ⟨⟨k + 1, by omega, by go_num, by rw [RS.out, if_pos d]; exact ray_store R1.out, ray_other Z1.out (by omega), ray_below q1 (Nat.le_refl _)⟩, by simp [intOf]; omega⟩
      · go_wp2_with fail
        refine (co_right x y z k c a1 a2 b1 b2 (by omega) (by omega) _ TC.out).mono ?_
        rintro e w' ⟨rfl, q⟩
        have r1 := HR.out.kept q
        have z1 := HZ.out.kept q
        have q1 := hb.trans (q.mono hb.size)
        clear c0 c1 c2 f0 f1 f2
        obtain ⟨c0, c1, c2, f0, f1, f2⟩ := cells_of_ray r1
        have R1 := Lib.hid r1
        have Z1 := Lib.hid z1
        clear r1 z1
        go_wp2_with fail
        exact ⟨⟨k + 1, by omega, by go_num, by rw [RS.out, if_neg (by omega)]; exact ray_store R1.out, ray_other Z1.out (by omega), ray_below q1 (Nat.le_refl _)⟩, by simp [intOf]; omega⟩
    · obtain rfl : k = 26 := by omega
      obtain ⟨c0, c1, c2, f0, f1, f2⟩ := cells_of_ray hr
      obtain ⟨g0, g1, g2, i0, i1, i2⟩ := cells_of_ray hz
      have HZ := Lib.hid hz
      clear hr hz
      go_wp2
      obtain ⟨d0, d1, d2, _, _, _⟩ := cells_of_ray (ray_store (a := (Cm.rs r 26).1) (b := (Cm.rs r 26).2.1) (c := (Cm.rs r 26).2.2) HZ.out)
      exact bodyPost_ret (v := .agg #[.int .i64 (Cm.rs r 26).1, .int .i64 (Cm.rs r 26).2.1, .int .i64 (Cm.rs r 26).2.2]) (by simp [results, Tryd.results27, go_sem, d0, d1, d2]) rfl ⟨rfl, ray_below hb (by omega)⟩

end Go.Proofs.YtkkgjcjjjbikfaaDoor
