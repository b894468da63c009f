
/- Lists of numbers that came in, and tapes: the walks of cncmake.Light, New and Next. -/
import Derived.Test.YtijakijjeoaikaaFxA
import Derived.OneCell
import Derived.IntWalk
import Derived.Deep.QuietTactic
import Derived.BigQuiet
import Derived.Outline
set_option linter.unusedVariables false
set_option linter.unusedSimpArgs false
namespace Go.Proofs.Ytijakijjeoaikaa
open Go.RowKit

/-- A slice of ints below block B. -/
def IntsB (B : Nat) (w : World) (v : Value) (zs : List Int) : Prop :=
  ∃ (a : Option Addr) (cap : Nat), v = .slice a zs.length cap ∧ zs.length ≤ cap ∧ cap ≤ 9223372036854775807 ∧ (zs = [] ∨ ∃ b off, a = some ⟨b, off, none⟩ ∧ b < B ∧
    ∀ i, i < zs.length → w.cell? ⟨b, off + i, none⟩ = some (.int .i64 (zs.getD i 0)) ∧ -9223372036854775808 ≤ zs.getD i 0 ∧ zs.getD i 0 ≤ 9223372036854775807)

theorem IntsB.kept {B C : Nat} {w w' : World} {v : Value} {zs : List Int} (h : IntsB B w v zs) (hb : Below C w w') (hC : B ≤ C) : IntsB B w' v zs := by
  obtain ⟨a, cap, h1, h2, h3, h4⟩ := h
  refine ⟨a, cap, h1, h2, h3, ?_⟩
  rcases h4 with h4 | ⟨b, off, e, hB, h⟩
  · exact .inl h4
  · refine .inr ⟨b, off, e, hB, fun i hi => ?_⟩
    rw [hb.cell (p := ⟨b, off + i, none⟩) (by show b < C; omega)]
    exact h i hi

theorem IntsB.mono {B C : Nat} {w : World} {v : Value} {zs : List Int} (h : IntsB B w v zs) (hC : B ≤ C) : IntsB C w v zs := by
  obtain ⟨a, cap, h1, h2, h3, h4⟩ := h
  refine ⟨a, cap, h1, h2, h3, ?_⟩
  rcases h4 with h4 | ⟨b, off, e, hB, h⟩
  · exact .inl h4
  · exact .inr ⟨b, off, e, by omega, h⟩

theorem IntsB.len {B : Nat} {w : World} {v : Value} {zs : List Int} (h : IntsB B w v zs) : ∃ a cap, v = .slice a zs.length cap ∧ zs.length ≤ 9223372036854775807 := by
  obtain ⟨a, cap, h1, h2, h3, _⟩ := h
  exact ⟨a, cap, h1, by omega⟩

theorem lightF (v : Value) (zs : List Int) (B : Nat) (w : World) (h : IntsB B w v zs) :
    Calls Try.prog 14 #[v] w fun e w' => e = .returned (.bool (decide (zs.length ≤ 120))) ∧ w = w' := by
  obtain ⟨a, cap, rfl, _⟩ := h.len
  clear h
  go_enter Try.func14, Try.ntmps14
  go_wp2
  go_ret
  exact ⟨ret_bl (decide_eq_decide.2 (by omega)), rfl⟩

/-! ### tapes -/

/-- Block B holds a tape over zs that stands at k. -/
def TapeAt (w : World) (B : Nat) (v : Value) (zs : List Int) (k : Nat) : Prop :=
  w.heap[B]? = some (.cells #[v, .int .i64 k] 58 (0, 0)) ∧ IntsB B w v zs ∧ k ≤ zs.length

theorem TapeAt.kept {B : Nat} {w w' : World} {v : Value} {zs : List Int} {k : Nat} (h : TapeAt w B v zs k) (q : Qw w w') : TapeAt w' B v zs k := by
  obtain ⟨h1, h2, h3⟩ := h
  have l := lt_of_block h1
  exact ⟨by rw [q.block B l]; exact h1, h2.kept q (by omega), h3⟩

def nxt (zs : List Int) (k : Nat) (n : Int) : Int := if k < zs.length then zs.getD k 0 % n else 0
def adv (zs : List Int) (k : Nat) : Nat := if k < zs.length then k + 1 else k
theorem nxt_bd (zs : List Int) (k : Nat) (n : Int) (h : 1 ≤ n) : 0 ≤ nxt zs k n ∧ nxt zs k n < n := by
  unfold nxt
  split
  · exact ⟨Int.emod_nonneg _ (by omega), Int.emod_lt_of_pos _ (by omega)⟩
  · omega

theorem below_drawn (B : Nat) (w : World) (n : Nat) : Below B w (w.drewN n) := ⟨rfl, rfl, rfl, Nat.le_refl _, fun _ _ => rfl⟩

theorem cells_of_two {w : World} {b : Nat} {x y : Value} {t : TypeId} (h : w.heap[b]? = some (.cells #[x, y] t (0, 0))) :
    w.cell? ⟨b, 0, none⟩ = some x ∧ w.cell? ⟨b, 1, none⟩ = some y ∧ w.frozen? ⟨b, 1, none⟩ = false := by simp [World.cell?, World.frozen?, h]
theorem two_setCell {w : World} {b : Nat} {x y u : Value} {t : TypeId} (h : w.heap[b]? = some (.cells #[x, y] t (0, 0))) : (w.setCell ⟨b, 1, none⟩ u).heap[b]? = some (.cells #[x, u] t (0, 0)) := by
  have hlt := lt_of_block h
  have h' : w.heap[b] = .cells #[x, y] t (0, 0) := by simpa [Array.getElem?_eq_getElem hlt] using h
  show (w.heap.modify b _)[b]? = _
  rw [Array.getElem?_eq_getElem (by simpa using hlt), Array.getElem_modify_self, h']
  rfl

set_option maxRecDepth 100000 in
set_option maxHeartbeats 1000000 in
theorem nextF (B : Nat) (v : Value) (zs : List Int) (k : Nat) (n : Int) (n1 : 1 ≤ n) (n2 : n ≤ 9223372036854775807) (w : World) (h : TapeAt w B v zs k) :
    Calls Try.prog 35 #[.pointer (some ⟨B, 0, none⟩), .int .i64 n] w fun e w' => e = .returned (.int .i64 (nxt zs k n)) ∧ TapeAt w' B v zs (adv zs k) ∧ Below B w w' := by
  obtain ⟨h1, h2, h3⟩ := h
  obtain ⟨a, cap, rfl, l1, l2, h4⟩ := h2
  obtain ⟨c0, c1, f1⟩ := cells_of_two h1
  unfold nxt adv
  by_cases hk : k < zs.length
  · rw [if_pos hk, if_pos hk]
    rcases h4 with rfl | ⟨b, off, rfl, hb, hz⟩
    · simp at hk
    · obtain ⟨z0, z1, z2⟩ := hz k hk
      have hlt := lt_of_block h1
      have hk' : (k : Int) < zs.length := by omega
      have HZ := Lib.hid hz
      have H1 := Lib.hid h1
      have md := fun w => modW (zs.getD k 0) n z1 z2 n1 n2 w
      obtain ⟨z, ez⟩ : ∃ z, zs.getD k 0 = z := ⟨_, rfl⟩
      rw [ez] at z0 z1 z2 md
      rw [ez]
      have MD := Lib.hid md
      have bB : b ≠ B := by omega
      clear hz ez md h1
      go_enter Try.func35, Try.ntmps35
      go_wp2
      go_quiet (fail)
      go_wp2
      obtain ⟨w1, hw1⟩ : ∃ w1, w1 = (w.drewN nq).setCell { block := B, off := 1 } (Value.int IntKind.i64 (↑k + 1)) := ⟨_, rfl⟩
      rw [← hw1]
      have g1 : w1.heap[B]? = some (.cells #[.slice (some ⟨b, off, none⟩) zs.length cap, .int .i64 ((k + 1 : Nat) : Int)] 58 (0, 0)) := by
        rw [hw1]
        exact two_setCell (w := w.drewN nq) H1.out
      have q1 : Below B w w1 := by
        rw [hw1]
        exact Below.setCell (below_drawn B w nq) (p := ⟨B, 1, none⟩) (Nat.le_refl B) _
      obtain ⟨d0, d1, _⟩ := cells_of_two g1
      have d2 : w1.cell? ⟨b, off + k, none⟩ = some (.int .i64 z) := (q1.cell (p := ⟨b, off + k, none⟩) hb).trans z0
      rw [Int.natCast_add] at d1
      have T1 : Hid (TapeAt w1 B (.slice (some ⟨b, off, none⟩) zs.length cap) zs (k + 1)) := Lib.hid ⟨g1, IntsB.kept ⟨some ⟨b, off, none⟩, cap, rfl, l1, l2, .inr ⟨b, off, rfl, hb, HZ.out⟩⟩ q1 (Nat.le_refl _), by omega⟩
      have e1 : IntKind.i64.wrap ((k : Int) + 1 - 1) = k := (IntWalk.i64_in ((k : Int) + 1 - 1) (by omega)).trans (by omega)
      clear g1 hw1 c0 c1 f1 z0
      go_quiet ((go_at_call 18; exact Calls.quiet_of_same ((MD.out _).mono fun _ _ ⟨h1, h2⟩ => ⟨h1, h2.symm⟩)))
      go_wp2
      go_ret
      exact ⟨rfl, T1.out.kept (Qw.drewN w1 _), q1.trans (below_drawn B w1 _)⟩
  · rw [if_neg hk, if_neg hk]
    have hk' : (zs.length : Int) ≤ k := by omega
    have H1 := Lib.hid (show TapeAt w B (.slice a zs.length cap) zs k from ⟨h1, ⟨a, cap, rfl, l1, l2, h4⟩, h3⟩)
    clear h1 h4 hk
    go_enter Try.func35, Try.ntmps35
    go_wp2
    go_quiet (fail)
    go_wp2
    go_ret
    exact ⟨rfl, H1.out.kept (Qw.drewN w nq), below_drawn B w _⟩

theorem newF (v : Value) (zs : List Int) (w : World) (h : IntsB w.heap.size w v zs) :
    Calls Try.prog 17 #[v] w fun e w' => e = .returned (.pointer (some ⟨w.heap.size, 0, none⟩)) ∧ TapeAt w' w.heap.size v zs 0 ∧ Qw w w' := by
  have H := Lib.hid h
  obtain ⟨a, cap, rfl, _⟩ := h.len
  clear h
  go_enter Try.func17, Try.ntmps17
  go_wp2
  go_ret
  exact ⟨rfl, ⟨by first | exact heap_alloc_new _ _ | simp, H.out.kept (Below.alloc (Below.refl w.heap.size w) (Nat.le_refl _) _) (Nat.le_refl _), Nat.zero_le _⟩, (Below.refl _ _).alloc (Nat.le_refl _) _⟩

/-- The number that a tape gives. -/
def numv (zs : List Int) (k : Nat) : Int :=
  if nxt zs k 8 = 0 then nxt zs (adv zs k) 1000000000000000 else if nxt zs k 8 = 1 then nxt zs (adv zs k) 1000000 * 100 else if nxt zs k 8 = 2 ∨ nxt zs k 8 = 3 then nxt zs (adv zs k) 40 * 250000 else nxt zs (adv zs k) 12 * 1000000
theorem numv_bd (zs : List Int) (k : Nat) : 0 ≤ numv zs k ∧ numv zs k ≤ 999999999999999 := by
  unfold numv
  split
  · have := nxt_bd zs (adv zs k) 1000000000000000 (by omega); omega
  · split
    · have := nxt_bd zs (adv zs k) 1000000 (by omega); omega
    · split
      · have := nxt_bd zs (adv zs k) 40 (by omega); omega
      · have := nxt_bd zs (adv zs k) 12 (by omega); omega

set_option maxRecDepth 100000 in
theorem numberF (B : Nat) (v : Value) (zs : List Int) (k : Nat) (w : World) (h : TapeAt w B v zs k) :
    Calls Try.prog 36 #[.pointer (some ⟨B, 0, none⟩)] w fun e w' => e = .returned (.int .i64 (numv zs k)) ∧ TapeAt w' B v zs (adv zs (adv zs k)) ∧ Below B w w' := by
  have c1 := nextF B v zs k 8 (by omega) (by omega) w h
  have c2 := fun n n1 n2 w h => nextF B v zs (adv zs k) n n1 n2 w h
  have b1 := nxt_bd zs k 8 (by omega)
  have b2 := fun n n1 => nxt_bd zs (adv zs k) n n1
  have C1 := Lib.hid c1
  unfold numv
  generalize nxt zs k 8 = c at *
  obtain ⟨b10, b11⟩ := b1
  have cs : c = 0 ∨ c = 1 ∨ c = 2 ∨ c = 3 ∨ 4 ≤ c := by omega
  rcases cs with rfl | rfl | rfl | rfl | hc
  · rw [if_pos rfl]
    have b := b2 1000000000000000 (by omega)
    have cc := fun w h => c2 1000000000000000 (by omega) (by omega) w h
    clear c1 c2 b2 h
    generalize nxt zs (adv zs k) 1000000000000000 = r at *
    obtain ⟨r0, r1⟩ := b
    have CC := Lib.hid cc
    clear cc
    go_enter Try.func36, Try.ntmps36
    go_wp2_with fail
    ((with_reducible refine C1.out.mono ?_); rintro e w1 ⟨rfl, h1, q1⟩)
    have H1 := Lib.hid h1
    clear h1
    go_wp2_with fail
    ((with_reducible refine (CC.out _ H1.out).mono ?_); rintro e w2 ⟨rfl, h2, q2⟩)
    have H2 := Lib.hid h2
    clear h2
    go_wp2
    go_ret
    exact ⟨rfl, H2.out, q1.trans q2⟩
  · rw [if_neg (by decide), if_pos rfl]
    have b := b2 1000000 (by omega)
    have cc := fun w h => c2 1000000 (by omega) (by omega) w h
    clear c1 c2 b2 h
    generalize nxt zs (adv zs k) 1000000 = r at *
    obtain ⟨r0, r1⟩ := b
    have CC := Lib.hid cc
    clear cc
    go_enter Try.func36, Try.ntmps36
    go_wp2_with fail
    ((with_reducible refine C1.out.mono ?_); rintro e w1 ⟨rfl, h1, q1⟩)
    have H1 := Lib.hid h1
    clear h1
    go_wp2_with fail
    ((with_reducible refine (CC.out _ H1.out).mono ?_); rintro e w2 ⟨rfl, h2, q2⟩)
    have H2 := Lib.hid h2
    clear h2
    go_wp2
    go_ret
    exact ⟨rfl, H2.out, q1.trans q2⟩
  · rw [if_neg (by decide), if_neg (by decide), if_pos (.inl rfl)]
    have b := b2 40 (by omega)
    have cc := fun w h => c2 40 (by omega) (by omega) w h
    clear c1 c2 b2 h
    generalize nxt zs (adv zs k) 40 = r at *
    obtain ⟨r0, r1⟩ := b
    have CC := Lib.hid cc
    clear cc
    go_enter Try.func36, Try.ntmps36
    go_wp2_with fail
    ((with_reducible refine C1.out.mono ?_); rintro e w1 ⟨rfl, h1, q1⟩)
    have H1 := Lib.hid h1
    clear h1
    go_wp2_with fail
    ((with_reducible refine (CC.out _ H1.out).mono ?_); rintro e w2 ⟨rfl, h2, q2⟩)
    have H2 := Lib.hid h2
    clear h2
    go_wp2
    go_ret
    exact ⟨rfl, H2.out, q1.trans q2⟩
  · rw [if_neg (by decide), if_neg (by decide), if_pos (.inr rfl)]
    have b := b2 40 (by omega)
    have cc := fun w h => c2 40 (by omega) (by omega) w h
    clear c1 c2 b2 h
    generalize nxt zs (adv zs k) 40 = r at *
    obtain ⟨r0, r1⟩ := b
    have CC := Lib.hid cc
    clear cc
    go_enter Try.func36, Try.ntmps36
    go_wp2_with fail
    ((with_reducible refine C1.out.mono ?_); rintro e w1 ⟨rfl, h1, q1⟩)
    have H1 := Lib.hid h1
    clear h1
    go_wp2_with fail
    ((with_reducible refine (CC.out _ H1.out).mono ?_); rintro e w2 ⟨rfl, h2, q2⟩)
    have H2 := Lib.hid h2
    clear h2
    go_wp2
    go_ret
    exact ⟨rfl, H2.out, q1.trans q2⟩
  · rw [if_neg (by omega), if_neg (by omega), if_neg (by omega)]
    have z0 : (c == 0) = false := beq_eq_false_iff_ne.2 (by omega)
    have z1 : (c == 1) = false := beq_eq_false_iff_ne.2 (by omega)
    have z2 : (c == 2) = false := beq_eq_false_iff_ne.2 (by omega)
    have z3 : (c == 3) = false := beq_eq_false_iff_ne.2 (by omega)
    have b := b2 12 (by omega)
    have cc := fun w h => c2 12 (by omega) (by omega) w h
    clear c1 c2 b2 h
    generalize nxt zs (adv zs k) 12 = r at *
    obtain ⟨r0, r1⟩ := b
    have CC := Lib.hid cc
    clear cc
    go_enter Try.func36, Try.ntmps36
    go_wp2_with fail
    ((with_reducible refine C1.out.mono ?_); rintro e w1 ⟨rfl, h1, q1⟩)
    have H1 := Lib.hid h1
    clear h1
    go_wp2_with fail
    ((with_reducible refine (CC.out _ H1.out).mono ?_); rintro e w2 ⟨rfl, h2, q2⟩)
    have H2 := Lib.hid h2
    clear h2
    go_wp2
    go_ret
    exact ⟨rfl, H2.out, q1.trans q2⟩

end Go.Proofs.Ytijakijjeoaikaa
