
/- New stores, copies: of package vars and of its specification. -/
import Derived.Test.YtkfipjlknfinpaaDoorVaD
import Derived.Test.YtkfipjlknfinpaaDoorVaF
import Derived.WalkSpells
set_option linter.unusedVariables false
set_option linter.unusedSimpArgs false
namespace Go.Proofs.YtkfipjlknfinpaaDoor
open Go.RowKit


section
variable {ops : Array Oper} {rest : List Oper} {dst : Option Tmp} {ty : TypeId} {pos : String} {after : Array Edge} {a : Act} {w : World} {Q : Exit → Act → World → Prop}
theorem bu_v (x : Tmp) {b : Option Addr} {n c : Nat} (hx : a.eval (.tmp x) = .slice b n c) (h : wpList Tryd.prog ops Q rest (a.put dst (.agg (stc (.slice b n c) Vs.new))) w) :
    wpList Tryd.prog ops Q (⟨dst, .build 69 #[(0, .tmp x)], ty, pos, after, none⟩ :: rest) a w := by
  have e : Tryd.prog.built 69 ((#[(0, Operand.tmp x)] : Array (Nat × Operand)).map fun (i, x) => (i, a.eval x)).toList = some (stc (.slice b n c) Vs.new) := by
    rw [built_v]
    have e2 : ((#[(0, Operand.tmp x)] : Array (Nat × Operand)).map fun (i, x) => (i, a.eval x)).toList = [(0, Value.slice b n c)] := by simp [hx]
    rw [e2]
    exact fill_one b n c
  refine wpList_build rfl 69 #[(0, .tmp x)] rfl (by rw [e]; rfl) ?_
  rw [e]
  exact h
theorem bu_r (x : Tmp) {b : Option Addr} {n c : Nat} (hx : a.eval (.tmp x) = .slice b n c) (h : wpList Tryd.prog ops Q rest (a.put dst (.agg (stc (.slice b n c) Vs.new))) w) :
    wpList Tryd.prog ops Q (⟨dst, .build 66 #[(0, .tmp x)], ty, pos, after, none⟩ :: rest) a w := by
  have e : Tryd.prog.built 66 ((#[(0, Operand.tmp x)] : Array (Nat × Operand)).map fun (i, x) => (i, a.eval x)).toList = some (stc (.slice b n c) Vs.new) := by
    rw [built_r]
    have e2 : ((#[(0, Operand.tmp x)] : Array (Nat × Operand)).map fun (i, x) => (i, a.eval x)).toList = [(0, Value.slice b n c)] := by simp [hx]
    rw [e2]
    exact fill_one b n c
  refine wpList_build rfl 66 #[(0, .tmp x)] rfl (by rw [e]; rfl) ?_
  rw [e]
  exact h
end

def NewR (S : World → Nat → Nat → Nat → Vs.St → Prop) (s : Vs.St) (w : World) (e : Ending) (w' : World) : Prop :=
  ∃ B L cap, e = .returned (.pointer (some ⟨B, 0, none⟩)) ∧ S w' B L cap s ∧ w.heap.size ≤ B ∧ w.heap.size ≤ L ∧ Qw w w'

theorem new_mem (T E : TypeId) (w : World) (A : Array Value) (hA : A = ivs (Vs.zer 33)) :
    Stb T E ((w.alloc (.cells A E)).alloc (.cells (stc (.slice (some ⟨w.heap.size, 0, none⟩) 1 1) Vs.new) T)) (w.heap.size + 1) w.heap.size 1 Vs.new := by
  subst hA
  have e1 : (w.alloc (.cells (ivs (Vs.zer 33)) E)).heap.size = w.heap.size + 1 := by simp
  have X := Bx.new (w.alloc (.cells (ivs (Vs.zer 33)) E)) (stc (.slice (some ⟨w.heap.size, 0, none⟩) 1 1) Vs.new) T
  rw [e1] at X
  refine ⟨X, ⟨ivs (Vs.zer 33), (Bx.new w _ _).alloc _, ?_, ?_⟩, by omega, Nat.le_refl _, by decide, Vs.new_ok⟩
  · rw [ivs_size, Vs.zer_length]
  · show ((Vs.zer 33).map _).take 33 = (Vs.zer 33).map _
    exact List.take_of_length_le (by rw [List.length_map, Vs.zer_length]; exact Nat.le_refl _)

set_option maxRecDepth 100000 in
set_option maxHeartbeats 4000000 in
theorem vaNew (w : World) : Calls Tryd.prog 23 #[] w (NewR Pst Vs.new w) := by
  have hmk : ∀ w, (Instr.makeSlice 67 (.int .i64 1) (.int .i64 1)).run Tryd.prog w = .ok (.slice (some ⟨w.heap.size, 0, none⟩) 1 1) (w.alloc (.cells (ivs (Vs.zer 33)) 79)) := fun _ => by kernel_rfl
  go_enter Tryd.func23, Tryd.ntmps23
  go_wp2_with (refine bu_v 1 rfl ?_)
  go_ret
  exact ⟨_, _, _, rfl, new_mem _ _ w _ rfl, by omega, Nat.le_refl _, Qw.al (Qw.al (Qw.refl w) _) _⟩

set_option maxRecDepth 100000 in
set_option maxHeartbeats 4000000 in
theorem vrNew (w : World) : Calls Tryd.prog 27 #[] w (NewR Rst Vs.new w) := by
  have hmk : ∀ w, (Instr.makeSlice 62 (.int .i64 1) (.int .i64 1)).run Tryd.prog w = .ok (.slice (some ⟨w.heap.size, 0, none⟩) 1 1) (w.alloc (.cells (ivs (Vs.zer 33)) 61)) := fun _ => by kernel_rfl
  go_enter Tryd.func27, Tryd.ntmps27
  go_wp2_with (refine bu_r 1 rfl ?_)
  go_ret
  exact ⟨_, _, _, rfl, new_mem _ _ w _ rfl, by omega, Nat.le_refl _, Qw.al (Qw.al (Qw.refl w) _) _⟩

end Go.Proofs.YtkfipjlknfinpaaDoor
