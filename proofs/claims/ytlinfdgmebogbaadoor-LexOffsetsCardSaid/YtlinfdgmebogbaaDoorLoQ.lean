
/- New blocks turn nothing old. -/
import Derived.Test.YtlinfdgmebogbaaDoorCore
set_option linter.unusedVariables false
namespace Go.Proofs.YtlinfdgmebogbaaDoor
open Go.RowKit
theorem qalloc0 (a : World) (o : Obj) : Qw a (a.alloc o) := (Below.refl _ _).alloc (Nat.le_refl _) _
theorem qalloc1 {a b : World} (q : Qw a b) (o : Obj) : Qw a (b.alloc o) := q.trans (qalloc0 b o)
theorem qalloc2 (a : World) (o : Obj) (n : Nat) : Qw a ((a.alloc o).drewN n) := (qalloc0 a o).trans (Qw.drewN _ _)
end Go.Proofs.YtlinfdgmebogbaaDoor
