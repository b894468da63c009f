
/- Package syntax: Right, Depth, valid blocks. -/
import Derived.Test.YtkfipjlknfinpaaDoorSvA
set_option linter.unusedVariables false
set_option linter.unusedSimpArgs false
namespace Go.Proofs.YtkfipjlknfinpaaDoor
open Go.RowKit

theorem sv_right (op n : Int) (ks : List Sy.Ex) (a : Option Addr) (cap : Nat) (S : Nat → Prop) (w : World) (hO : Ow w) (hk : KidsB w S a cap ks) :
    Calls Tryd.prog 32 #[.agg #[.int .i64 op, .int .i64 n, .slice a ks.length cap]] w fun e w' => e = .returned (.bool (Sy.rgt (.mk op n ks))) ∧ Qw w w' := by
  have c1 : ∀ w, Ow w → KidsB w S a cap ks → Calls Tryd.prog 42 #[.agg #[.int .i64 op, .int .i64 n, .slice a ks.length cap], .int .i64 16] w fun e w' => e = .returned (.bool (Sy.rgt (.mk op n ks))) ∧ Qw w w' := fun w h1 h2 => by
    rw [← Sy.rgt_eq]; exact sv_rightWithin 16 op n ks a cap S w (Nat.le_refl _) h1 h2
  have C1 := Lib.hid c1
  have HO := Lib.hid hO
  have HK := Lib.hid hk
  clear c1 hO hk
  have q0 : Hid (Qw w w) := Lib.hid (Qw.refl w)
  go_enter Tryd.func32, Tryd.ntmps32
  go_wp2_with (go_at_call 42; ((with_reducible refine (C1.out _ (Ow.kept HO.out (by repeat (first | exact q0.out | exact Qw.refl _ | refine Qw.al ?_ _ | refine Qw.dr ?_ | refine Qw.dn ?_ _ | refine Qw.sc ?_ (by first | (simp; done) | omega | (have := q0.out.size; first | omega | (simp; omega))) _))) (KidsB.kept HK.out (by repeat (first | exact q0.out | exact Qw.refl _ | refine Qw.al ?_ _ | refine Qw.dr ?_ | refine Qw.dn ?_ _ | refine Qw.sc ?_ (by first | (simp; done) | omega | (have := q0.out.size; first | omega | (simp; omega))) _)))).mono ?_); rintro e w' ⟨rfl, q⟩; replace q0 : Hid (Qw w w') := Lib.hid (Qw.trans (by repeat (first | exact q0.out | exact Qw.refl _ | refine Qw.al ?_ _ | refine Qw.dr ?_ | refine Qw.dn ?_ _ | refine Qw.sc ?_ (by first | (simp; done) | omega | (have := q0.out.size; first | omega | (simp; omega))) _)) q); clear q))
  go_ret
  exact ⟨rfl, q0.out⟩

/-- Depth, at most k. -/
def Sy.dpk (k : Nat) (x : Sy.Ex) : Nat := min (Sy.dpt x) k

def wdsB (ws : List (Int × Sy.Ex)) : Bool := ws.all (fun w => Sy.isw w.1 && Sy.rgt w.2)

end Go.Proofs.YtkfipjlknfinpaaDoor
