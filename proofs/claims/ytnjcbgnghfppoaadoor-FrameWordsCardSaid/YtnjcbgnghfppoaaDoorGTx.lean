import Derived.Test.YtnjcbgnghfppoaaDoorGFa
import Derived.Test.YtnjcbgnghfppoaaDoorGTw
import Derived.Test.YtnjcbgnghfppoaaDoorGRg
import Derived.Test.YtnjcbgnghfppoaaDoorGR

/- The states that the laws build, lists that the calls of a law are given. -/
set_option linter.unusedVariables false
set_option linter.unusedSimpArgs false
namespace Go.Proofs.YtnjcbgnghfppoaaDoor
open Go.RowKit

namespace Tg
def ms (p d po : Int) : Md.S := { Md.S.zero with pl := p, di := d, un := 21, po := po }
end Tg
theorem built_ms (p po : Int) : ∀ l, l = [(1, Value.int .i64 p), (2, .int .i64 90), (3, .int .i64 21), (10, .int .i64 po)] → Tryd.prog.built MT l = some (mdc (Tg.ms p 90 po)) := by rintro l rfl; kernel_rfl
section
variable {ops : Array Oper} {rest : List Oper} {dst : Option Tmp} {ty : TypeId} {pos : String} {after : Array Edge} {a : Act} {w w0 : World} {Q : Exit → Act → World → Prop}
theorem bu_msp (i : Tmp) {p : Int} (h2 : a.eval (.tmp i) = .int .i64 p) (h : wpList Tryd.prog ops Q rest (a.put dst (.agg (mdc (Tg.ms p 90 16)))) w) : wpList Tryd.prog ops Q (⟨dst, .build MT #[(1, .tmp i), (2, .const (.int .i64 90)), (3, .const (.int .i64 21)), (10, .const (.int .i64 16))], ty, pos, after, none⟩ :: rest) a w := by
  have e : Tryd.prog.built MT ((#[(1, .tmp i), (2, .const (.int .i64 90)), (3, .const (.int .i64 21)), (10, .const (.int .i64 16))] : Array (Nat × Operand)).map fun (i, x) => (i, a.eval x)).toList = some (mdc (Tg.ms p 90 16)) := built_ms p 16 _ (by have e1 : ∀ v, a.eval (.const v) = v := fun v => rfl; simp [h2, e1])
  refine wpList_build rfl MT _ rfl (by rw [e]; rfl) ?_
  rw [e]
  exact h
theorem bu_msw (h : wpList Tryd.prog ops Q rest (a.put dst (.agg (mdc (Tg.ms 17 90 15)))) w) : wpList Tryd.prog ops Q (⟨dst, .build MT #[(1, .const (.int .i64 17)), (2, .const (.int .i64 90)), (3, .const (.int .i64 21)), (10, .const (.int .i64 15))], ty, pos, after, none⟩ :: rest) a w := by
  have e : Tryd.prog.built MT ((#[(1, .const (.int .i64 17)), (2, .const (.int .i64 90)), (3, .const (.int .i64 21)), (10, .const (.int .i64 15))] : Array (Nat × Operand)).map fun (i, x) => (i, a.eval x)).toList = some (mdc (Tg.ms 17 90 15)) := built_ms 17 15 _ (by simp [Act.eval])
  refine wpList_build rfl MT _ rfl (by rw [e]; rfl) ?_
  rw [e]
  exact h
end
theorem own_start (w : World) (a b : Int) : OwnM w.heap.size (w.alloc (.cells #[.int .i64 a, .int .i64 b] 58)) (.slice (some ⟨w.heap.size, 0, none⟩) 1 1) [(a, b)] :=
  World.ownsRow_lit w #[.int .i64 a, .int .i64 b] 1 (Nat.le_refl _) (by unfold maxLen; omega) rfl
theorem OwnM.qw {B : Nat} {w w' : World} {v : Value} {l : Vs.Ar} (h : OwnM B w v l) (q : Qw w w') : OwnM B w' v l := h.go (fun g _ hg => q.block g hg)
theorem OwnM.st3 {B N : Nat} {w : World} {v : Value} {l : Vs.Ar} (h : OwnM B w v l) (hn : ∀ g, v.ownBlock = some g → g ≠ N) (x y z : Value) : OwnM B (((w.setCell ⟨N, 0, none⟩ x).setCell ⟨N, 1, none⟩ y).setCell ⟨N, 2, none⟩ z) v l :=
  h.go (fun g hg _ => by
    have e : ∀ (w : World) k v, (w.setCell ⟨N, k, none⟩ v).heap[g]? = w.heap[g]? := fun w k v => Below.heap_setCell w ⟨N, k, none⟩ v g (hn g hg)
    rw [e, e, e])
namespace Tg
theorem wt_same {b : Nat → Bool} {i : Nat} (n : Nat → Int) (d at_ : Int) (j : Nat) (h : b i = false) : wt b n d at_ (i + 1) j = wt b n d at_ i j := by
  unfold wt
  by_cases e : j = i
  · subst e; simp [h]
  · have : (j < i + 1) ↔ (j < i) := by omega
    simp only [this]
theorem wt_other {i j : Nat} (b : Nat → Bool) (n : Nat → Int) (d at_ : Int) (h : j ≠ i) : wt b n d at_ (i + 1) j = wt b n d at_ i j := by
  unfold wt
  have : (j < i + 1) ↔ (j < i) := by omega
  simp only [this]
theorem wt_new {b : Nat → Bool} {i : Nat} (n : Nat → Int) (d at_ : Int) (h : b i = true) : wt b n d at_ (i + 1) i = if d = 91 then n i + at_ else n i := by
  unfold wt
  rw [if_pos ⟨by omega, h⟩]
theorem wl_same {b : Nat → Bool} {i : Nat} (n : Nat → Int) (h : b i = false) : wl b n (i + 1) = wl b n i := by
  rw [wl, h]; rfl
theorem wl_new {b : Nat → Bool} {i : Nat} (n : Nat → Int) (h : b i = true) : wl b n (i + 1) = wl b n i ++ [(88 + (i : Int), n i * 1000)] := by
  rw [wl, if_pos h]
theorem wl_bdd (b : Nat → Bool) (n : Nat → Int) (hn : ∀ j, -90000 ≤ n j ∧ n j ≤ 90000) (k : Nat) (hk : k ≤ 3) : Bdd (wl b n k) := fun p hp => by
  rcases wl_words b n k hk p hp with rfl | ⟨j, _, _, rfl⟩
  · decide
  · have := hn j; show -9000000000000000 ≤ n j * 1000 ∧ n j * 1000 ≤ 9000000000000000; omega
def n3 (a b c : Int) (j : Nat) : Int := if j = 0 then a else if j = 1 then b else c
end Tg
theorem betweenQ (n lo hi : Int) (n1 : -9223372036854775808 ≤ n) (n2 : n ≤ 9223372036854775807) (h : lo ≤ hi) (h1 : -1000000 ≤ lo) (h2 : hi ≤ 1000000) :
    ∃ m : Int, (lo ≤ m ∧ m ≤ hi) ∧ ∀ w : World, Calls Tryd.prog 34 #[.int .i64 n, .int .i64 lo, .int .i64 hi] w fun e w' => e = .returned (.int .i64 m) ∧ Qw w w' := by
  refine ⟨lo + n % (hi - lo + 1), ⟨by have := Int.emod_nonneg n (show hi - lo + 1 ≠ 0 by omega); omega, by have := Int.emod_lt_of_pos n (show 0 < hi - lo + 1 by omega); omega⟩, fun w => ?_⟩
  exact (betweenW n lo hi n1 n2 (by omega) (by omega) (by omega) (by omega) w).mono fun e w' ⟨h, k⟩ => ⟨h, k ▸ Qw.refl _⟩
theorem modQ (n m : Int) (n1 : -9223372036854775808 ≤ n) (n2 : n ≤ 9223372036854775807) (h : 1 ≤ m) (h2 : m ≤ 1000000) :
    ∃ r : Int, (0 ≤ r ∧ r < m) ∧ ∀ w : World, Calls Tryd.prog 15 #[.int .i64 n, .int .i64 m] w fun e w' => e = .returned (.int .i64 r) ∧ Qw w w' := by
  refine ⟨n % m, ⟨Int.emod_nonneg n (by omega), Int.emod_lt_of_pos n (by omega)⟩, fun w => ?_⟩
  exact (modW n m n1 n2 (by omega) (by omega) w).mono fun e w' ⟨h, k⟩ => ⟨h, k ▸ Qw.refl _⟩
end Go.Proofs.YtnjcbgnghfppoaaDoor
