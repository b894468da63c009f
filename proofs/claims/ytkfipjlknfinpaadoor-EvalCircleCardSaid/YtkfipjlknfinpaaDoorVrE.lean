
/- Push of the specification. -/
import Derived.Test.YtkfipjlknfinpaaDoorVrD
set_option linter.unusedVariables false
set_option linter.unusedSimpArgs false
namespace Go.Proofs.YtkfipjlknfinpaaDoor
open Go.RowKit


/-- What Push leaves behind its last store. -/
theorem PushR.fin {w wr w5 : World} {B L cap L' cap' : Nat} {s : Vs.St} {l : Vs.Ar} {v0 : Value} (H : Rst w B L cap s) (q : Qw w wr) (e1 : Vs.perr s l = 0) (e2 : s.push l = { s with n := s.n + 1, ls := s.ls ++ Vs.vals l l.length }) (ok : (s.push l).ok) (hB : B < w.heap.size)
    (q5 : Qw wr w5) (XB : Bx w5 B (stc v0 s) 66) (nr : wr.heap.size ≤ L')
    (own : w5.ownsRow L' 61 33 (.slice (some ⟨L', 0, none⟩) (s.n + 1) cap') (s.n + 1) ((s.ls ++ Vs.vals l l.length).map (Value.int .i64))) :
    PushR B L s l Rst w (.returned (.int .i64 0)) (w5.setCell ⟨B, 0, none⟩ (.slice (some ⟨L', 0, none⟩) (s.n + 1) cap')) := by
  have hw := q.size
  rw [e2] at ok
  have k := Stb.putRow XB (L' := L') (cap' := cap') (n' := s.n + 1) (ls' := s.ls ++ Vs.vals l l.length) (by omega) own ok
  exact ⟨ret_n e1.symm, ⟨L', cap', by rw [e2]; exact k, .inr (by omega)⟩, Ty.one (q.trans q5) (.inl rfl) _ _⟩

end Go.Proofs.YtkfipjlknfinpaaDoor
