
/- Acts: the variable and the arguments of an act; short scripts. -/
import Derived.Test.YtmfhiabajkdikaaDoorVlA
set_option linter.unusedVariables false
set_option linter.unusedSimpArgs false
namespace Go.Proofs.YtmfhiabajkdikaaDoor
open Go.RowKit


namespace Vs
/-- An act. -/
structure A where
  what : Int
  n : Int
  v : Int
  near : Bool
  args : Ar
def vtab : List Int := [0, 1, 2, 3, 32, 33, 34, 99, 100, 101, 199, 200, 4999, 5000, 5021, 5999, 6000]
def A.var (a : A) : Int := if a.near then vtab.getD (a.n % 17).toNat 0 else a.n
def A.val (a : A) : Int := if a.near then -1000000000000001 + a.v % (1000000000000001 - -1000000000000001 + 1) else a.v
def ltrs : List Int := [65, 73, 88, 90]
def btw (x : Int) : Int := -1000000000000000 + x % (1000000000000000 - -1000000000000000 + 1)
def nar (l : Ar) : Nat → Ar
  | 0 => []
  | m + 1 => nar l m ++ [(ltrs.getD m 0, btw (num l m))]
def A.ars (a : A) : Ar := if a.near then nar a.args (min a.args.length 4) else a.args
theorem nar_length (l : Ar) (m : Nat) : (nar l m).length = m := by
  induction m with
  | zero => rfl
  | succ m ih => simp [nar, ih]
end Vs

/-- An act by value. -/
def ActV (C : Nat) (w : World) (u : Value) (a : Vs.A) : Prop :=
  ∃ sv, u = .agg #[.int .i64 a.what, .int .i64 a.n, .int .i64 a.v, .bool a.near, sv] ∧ ValsB C w sv a.args ∧ -9223372036854775808 ≤ a.n ∧ a.n ≤ 9223372036854775807 ∧ -9223372036854775808 ≤ a.v ∧ a.v ≤ 9223372036854775807
theorem ActV.kept {B C : Nat} {w w' : World} {u : Value} {a : Vs.A} (h : ActV B w u a) (hb : Below C w w') (hC : B ≤ C) : ActV B w' u a := by
  obtain ⟨sv, h1, h2, h3⟩ := h
  exact ⟨sv, h1, h2.kept hb hC, h3⟩

def vtabV : Array Value := #[.int .i64 0, .int .i64 1, .int .i64 2, .int .i64 3, .int .i64 32, .int .i64 33, .int .i64 34, .int .i64 99, .int .i64 100, .int .i64 101, .int .i64 199, .int .i64 200, .int .i64 4999, .int .i64 5000, .int .i64 5021, .int .i64 5999, .int .i64 6000]
theorem vtabV_at : ∀ k, k < 17 → vtabV[k]? = some (.int .i64 (Vs.vtab.getD k 0)) := by
  intro k hk
  match k, hk with
  | 0, _ => rfl
  | 1, _ => rfl
  | 2, _ => rfl
  | 3, _ => rfl
  | 4, _ => rfl
  | 5, _ => rfl
  | 6, _ => rfl
  | 7, _ => rfl
  | 8, _ => rfl
  | 9, _ => rfl
  | 10, _ => rfl
  | 11, _ => rfl
  | 12, _ => rfl
  | 13, _ => rfl
  | 14, _ => rfl
  | 15, _ => rfl
  | 16, _ => rfl
  | n + 17, h => exact absurd h (by omega)

set_option maxRecDepth 100000 in
set_option maxHeartbeats 4000000 in
theorem vlVar (x n v : Int) (near : Bool) (sv : Value) (hsv : ∃ a l c, sv = .slice a l c) (n1 : -9223372036854775808 ≤ n) (n2 : n ≤ 9223372036854775807) (y : Int) (hy : (if near then Vs.vtab.getD (n % 17).toNat 0 else n) = y) (w : World) :
    Calls Tryd.prog 26 #[.agg #[.int .i64 x, .int .i64 n, .int .i64 v, .bool near, sv]] w fun e w' => e = .returned (.int .i64 y) ∧ Qw w w' := by
  subst hy
  obtain ⟨sa, sl, sc, rfl⟩ := hsv
  cases near with
  | false =>
    simp only [Bool.false_eq_true, if_false]
    go_enter Tryd.func26, Tryd.ntmps26
    go_wp2
    go_ret
    exact ⟨rfl, Qw.al (Qw.refl _) _⟩
  | true =>
    simp only [if_true]
    have m0 := Int.emod_nonneg n (show (17 : Int) ≠ 0 by decide)
    have m1 := Int.emod_lt_of_pos n (show (0 : Int) < 17 by decide)
    have MD := Lib.hid (fun w => modW n 17 n1 n2 (by decide) (by decide) w)
    obtain ⟨k, hk⟩ : ∃ k : Nat, n % 17 = k := ⟨(n % 17).toNat, by omega⟩
    rw [hk] at MD ⊢
    rw [Int.toNat_natCast]
    have hk17 : k < 17 := by omega
    have hki : (k : Int) < 17 := by omega
    have hk0 : 0 ≤ (k : Int) := by omega
    have X : ((w.alloc (.cells #[.int .i64 x, .int .i64 n, .int .i64 v, .bool true, .slice sa sl sc] 34)).alloc (.cells vtabV 3)).cell? ⟨w.heap.size + 1, k, none⟩ = some (.int .i64 (Vs.vtab.getD k 0)) := by
      have := (Bx.new (w.alloc (.cells #[.int .i64 x, .int .i64 n, .int .i64 v, .bool true, .slice sa sl sc] 34)) vtabV 3).cell' k _ (vtabV_at k hk17)
      have e : (w.alloc (.cells #[.int .i64 x, .int .i64 n, .int .i64 v, .bool true, .slice sa sl sc] 34)).heap.size = w.heap.size + 1 := by simp
      rw [e] at this
      exact this
    generalize Vs.vtab.getD k 0 = z at *
    unfold vtabV at X
    clear hk m0 m1 n1 n2
    go_enter Tryd.func26, Tryd.ntmps26
    go_wp2_with (go_at_call 15; ((with_reducible refine (MD.out _).mono ?_); rintro e w' ⟨rfl, rfl⟩))
    go_ret
    exact ⟨rfl, Qw.al (Qw.al (Qw.refl _) _) _⟩

end Go.Proofs.YtmfhiabajkdikaaDoor
