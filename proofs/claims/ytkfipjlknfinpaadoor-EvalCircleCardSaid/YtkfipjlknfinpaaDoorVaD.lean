
/- The walks of Push and Pop of package vars. -/
import Derived.Test.YtkfipjlknfinpaaDoorVaE
set_option linter.unusedVariables false
set_option linter.unusedSimpArgs false
namespace Go.Proofs.YtkfipjlknfinpaaDoor
open Go.RowKit


theorem Qw.gb {w w' : World} {L : Nat} (h : w.grownBy w' (some L)) (B : Nat) : Ty B L w w' := ⟨h.os, h.tape, h.output, h.size, fun k hk _ h2 => h.block k hk (by simpa using h2)⟩
theorem Bx.dr {w : World} {b : Nat} {cs : Array Value} {t : TypeId} (X : Bx w b cs t) : Bx w.drew b cs t := X
theorem Bx.gb {w w' : World} {L b : Nat} {cs : Array Value} {t : TypeId} (X : Bx w b cs t) (h : w.grownBy w' (some L)) (hb : b ≠ L) : Bx w' b cs t := (h.block b X.lt (by simpa using hb)).trans X

theorem ret_n {a b : Int} (h : a = b) : Ending.returned (.int .i64 a) = .returned (.int .i64 b) := by rw [h]

def PushR (B L : Nat) (s : Vs.St) (l : Vs.Ar) (S : World → Nat → Nat → Nat → Vs.St → Prop) (w : World) (e : Ending) (w' : World) : Prop :=
  e = .returned (.int .i64 (Vs.perr s l)) ∧ (∃ L' cap', S w' B L' cap' (s.push l) ∧ (L' = L ∨ w.heap.size ≤ L')) ∧ Ty B L w w'

end Go.Proofs.YtkfipjlknfinpaaDoor
