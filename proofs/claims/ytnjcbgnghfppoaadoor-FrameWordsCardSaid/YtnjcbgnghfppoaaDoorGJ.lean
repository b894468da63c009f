import Derived.Test.YtnjcbgnghfppoaaDoorGG
import Derived.OneCell
import Derived.IntWalk
import Derived.Deep.QuietTactic
import Derived.BigQuiet
import Derived.Outline
import Derived.Test.YtnjcbgnghfppoaaDoorGI
import Derived.Lib.AppendZeros
import Derived.Laws.OwnMore
import Derived.Maps.AppendAt
import Derived.Deep.MidRow
import Derived.Deep.DeepCutAuto
import Derived.Deep.Cut
import Derived.Test.YtnjcbgnghfppoaaDoorGF

/- Lists of numbers that came in, and tapes: the walks of cncmake.Light, New and Next. -/
set_option linter.unusedVariables false
set_option linter.unusedSimpArgs false
namespace Go.Proofs.YtnjcbgnghfppoaaDoor
open Go.RowKit

/-- A slice of ints below block B. -/
def IntsB (B : Nat) (w : World) (v : Value) (zs : List Int) : Prop :=
  ∃ (a : Option Addr) (cap : Nat), v = .slice a zs.length cap ∧ zs.length ≤ cap ∧ cap ≤ 9223372036854775807 ∧ (zs = [] ∨ ∃ b off, a = some ⟨b, off, none⟩ ∧ b < B ∧
    ∀ i, i < zs.length → w.cell? ⟨b, off + i, none⟩ = some (.int .i64 (zs.getD i 0)) ∧ -9223372036854775808 ≤ zs.getD i 0 ∧ zs.getD i 0 ≤ 9223372036854775807)

theorem IntsB.kept {B C : Nat} {w w' : World} {v : Value} {zs : List Int} (h : IntsB B w v zs) (hb : Below C w w') (hC : B ≤ C) : IntsB B w' v zs := by
  obtain ⟨a, cap, h1, h2, h3, h4⟩ := h
  refine ⟨a, cap, h1, h2, h3, ?_⟩
  rcases h4 with h4 | ⟨b, off, e, hB, h⟩
  · exact .inl h4
  · refine .inr ⟨b, off, e, hB, fun i hi => ?_⟩
    rw [hb.cell (p := ⟨b, off + i, none⟩) (by show b < C; omega)]
    exact h i hi

theorem IntsB.mono {B C : Nat} {w : World} {v : Value} {zs : List Int} (h : IntsB B w v zs) (hC : B ≤ C) : IntsB C w v zs := by
  obtain ⟨a, cap, h1, h2, h3, h4⟩ := h
  refine ⟨a, cap, h1, h2, h3, ?_⟩
  rcases h4 with h4 | ⟨b, off, e, hB, h⟩
  · exact .inl h4
  · exact .inr ⟨b, off, e, by omega, h⟩

theorem IntsB.len {B : Nat} {w : World} {v : Value} {zs : List Int} (h : IntsB B w v zs) : ∃ a cap, v = .slice a zs.length cap ∧ zs.length ≤ 9223372036854775807 := by
  obtain ⟨a, cap, h1, h2, h3, _⟩ := h
  exact ⟨a, cap, h1, by omega⟩

theorem lightF (v : Value) (zs : List Int) (B : Nat) (w : World) (h : IntsB B w v zs) :
    Calls Tryd.prog 11 #[v] w fun e w' => e = .returned (.bool (decide (zs.length ≤ 120))) ∧ w = w' := by
  obtain ⟨a, cap, rfl, _⟩ := h.len
  clear h
  go_enter Tryd.func11, Tryd.ntmps11
  go_wp2
  go_ret
  exact ⟨ret_bl (decide_eq_decide.2 (by omega)), rfl⟩

/-! ### tapes -/

/-- Block B holds a tape over zs that stands at k. -/
def TapeAt (w : World) (B : Nat) (v : Value) (zs : List Int) (k : Nat) : Prop :=
  w.heap[B]? = some (.cells #[v, .int .i64 k] 73 (0, 0)) ∧ IntsB B w v zs ∧ k ≤ zs.length

theorem TapeAt.kept {B : Nat} {w w' : World} {v : Value} {zs : List Int} {k : Nat} (h : TapeAt w B v zs k) (q : Qw w w') : TapeAt w' B v zs k := by
  obtain ⟨h1, h2, h3⟩ := h
  have l := lt_of_block h1
  exact ⟨by rw [q.block B l]; exact h1, h2.kept q (by omega), h3⟩

def nxt (zs : List Int) (k : Nat) (n : Int) : Int := if k < zs.length then zs.getD k 0 % n else 0
def adv (zs : List Int) (k : Nat) : Nat := if k < zs.length then k + 1 else k
theorem nxt_bd (zs : List Int) (k : Nat) (n : Int) (h : 1 ≤ n) : 0 ≤ nxt zs k n ∧ nxt zs k n < n := by
  unfold nxt
  split
  · exact ⟨Int.emod_nonneg _ (by omega), Int.emod_lt_of_pos _ (by omega)⟩
  · omega

theorem below_drawn (B : Nat) (w : World) (n : Nat) : Below B w (w.drewN n) := ⟨rfl, rfl, rfl, Nat.le_refl _, fun _ _ => rfl⟩

theorem cells_of_two {w : World} {b : Nat} {x y : Value} {t : TypeId} (h : w.heap[b]? = some (.cells #[x, y] t (0, 0))) :
    w.cell? ⟨b, 0, none⟩ = some x ∧ w.cell? ⟨b, 1, none⟩ = some y ∧ w.frozen? ⟨b, 1, none⟩ = false := by simp [World.cell?, World.frozen?, h]
theorem two_setCell {w : World} {b : Nat} {x y u : Value} {t : TypeId} (h : w.heap[b]? = some (.cells #[x, y] t (0, 0))) : (w.setCell ⟨b, 1, none⟩ u).heap[b]? = some (.cells #[x, u] t (0, 0)) := by
  have hlt := lt_of_block h
  have h' : w.heap[b] = .cells #[x, y] t (0, 0) := by simpa [Array.getElem?_eq_getElem hlt] using h
  show (w.heap.modify b _)[b]? = _
  rw [Array.getElem?_eq_getElem (by simpa using hlt), Array.getElem_modify_self, h']
  rfl

set_option maxRecDepth 100000 in
set_option maxHeartbeats 1000000 in
theorem nextF (B : Nat) (v : Value) (zs : List Int) (k : Nat) (n : Int) (n1 : 1 ≤ n) (n2 : n ≤ 9223372036854775807) (w : World) (h : TapeAt w B v zs k) :
    Calls Tryd.prog 42 #[.pointer (some ⟨B, 0, none⟩), .int .i64 n] w fun e w' => e = .returned (.int .i64 (nxt zs k n)) ∧ TapeAt w' B v zs (adv zs k) ∧ Below B w w' := by
  obtain ⟨h1, h2, h3⟩ := h
  obtain ⟨a, cap, rfl, l1, l2, h4⟩ := h2
  obtain ⟨c0, c1, f1⟩ := cells_of_two h1
  unfold nxt adv
  by_cases hk : k < zs.length
  · rw [if_pos hk, if_pos hk]
    rcases h4 with rfl | ⟨b, off, rfl, hb, hz⟩
    · simp at hk
    · obtain ⟨z0, z1, z2⟩ := hz k hk
      have hlt := lt_of_block h1
      have hk' : (k : Int) < zs.length := by omega
      have HZ := Lib.hid hz
      have H1 := Lib.hid h1
      have md := fun w => modW (zs.getD k 0) n z1 z2 n1 n2 w
      obtain ⟨z, ez⟩ : ∃ z, zs.getD k 0 = z := ⟨_, rfl⟩
      rw [ez] at z0 z1 z2 md
      rw [ez]
      have MD := Lib.hid md
      have bB : b ≠ B := by omega
      clear hz ez md h1
      go_enter Tryd.func42, Tryd.ntmps42
      go_wp2
      go_quiet (fail)
      go_wp2
      obtain ⟨w1, hw1⟩ : ∃ w1, w1 = (w.drewN nq).setCell { block := B, off := 1 } (Value.int IntKind.i64 (↑k + 1)) := ⟨_, rfl⟩
      rw [← hw1]
      have g1 : w1.heap[B]? = some (.cells #[.slice (some ⟨b, off, none⟩) zs.length cap, .int .i64 ((k + 1 : Nat) : Int)] 73 (0, 0)) := by
        rw [hw1]
        exact two_setCell (w := w.drewN nq) H1.out
      have q1 : Below B w w1 := by
        rw [hw1]
        exact Below.setCell (below_drawn B w nq) (p := ⟨B, 1, none⟩) (Nat.le_refl B) _
      obtain ⟨d0, d1, _⟩ := cells_of_two g1
      have d2 : w1.cell? ⟨b, off + k, none⟩ = some (.int .i64 z) := (q1.cell (p := ⟨b, off + k, none⟩) hb).trans z0
      rw [Int.natCast_add] at d1
      have T1 : Hid (TapeAt w1 B (.slice (some ⟨b, off, none⟩) zs.length cap) zs (k + 1)) := Lib.hid ⟨g1, IntsB.kept ⟨some ⟨b, off, none⟩, cap, rfl, l1, l2, .inr ⟨b, off, rfl, hb, HZ.out⟩⟩ q1 (Nat.le_refl _), by omega⟩
      have e1 : IntKind.i64.wrap ((k : Int) + 1 - 1) = k := (IntWalk.i64_in ((k : Int) + 1 - 1) (by omega)).trans (by omega)
      clear g1 hw1 c0 c1 f1 z0
      go_quiet ((go_at_call 15; exact Calls.quiet_of_same ((MD.out _).mono fun _ _ ⟨h1, h2⟩ => ⟨h1, h2.symm⟩)))
      go_wp2
      go_ret
      exact ⟨rfl, T1.out.kept (Qw.drewN w1 _), q1.trans (below_drawn B w1 _)⟩
  · rw [if_neg hk, if_neg hk]
    have hk' : (zs.length : Int) ≤ k := by omega
    have H1 := Lib.hid (show TapeAt w B (.slice a zs.length cap) zs k from ⟨h1, ⟨a, cap, rfl, l1, l2, h4⟩, h3⟩)
    clear h1 h4 hk
    go_enter Tryd.func42, Tryd.ntmps42
    go_wp2
    go_quiet (fail)
    go_wp2
    go_ret
    exact ⟨rfl, H1.out.kept (Qw.drewN w nq), below_drawn B w _⟩

theorem newF (v : Value) (zs : List Int) (w : World) (h : IntsB w.heap.size w v zs) :
    Calls Tryd.prog 14 #[v] w fun e w' => e = .returned (.pointer (some ⟨w.heap.size, 0, none⟩)) ∧ TapeAt w' w.heap.size v zs 0 ∧ Qw w w' := by
  have H := Lib.hid h
  obtain ⟨a, cap, rfl, _⟩ := h.len
  clear h
  go_enter Tryd.func14, Tryd.ntmps14
  go_wp2
  go_ret
  exact ⟨rfl, ⟨by first | exact heap_alloc_new _ _ | simp, H.out.kept (Below.alloc (Below.refl w.heap.size w) (Nat.le_refl _) _) (Nat.le_refl _), Nat.zero_le _⟩, (Below.refl _ _).alloc (Nat.le_refl _) _⟩

/-- The number that a tape gives. -/
def numv (zs : List Int) (k : Nat) : Int :=
  if nxt zs k 8 = 0 then nxt zs (adv zs k) 1000000000000000 else if nxt zs k 8 = 1 then nxt zs (adv zs k) 1000000 * 100 else if nxt zs k 8 = 2 ∨ nxt zs k 8 = 3 then nxt zs (adv zs k) 40 * 250000 else nxt zs (adv zs k) 12 * 1000000
theorem numv_bd (zs : List Int) (k : Nat) : 0 ≤ numv zs k ∧ numv zs k ≤ 999999999999999 := by
  unfold numv
  split
  · have := nxt_bd zs (adv zs k) 1000000000000000 (by omega); omega
  · split
    · have := nxt_bd zs (adv zs k) 1000000 (by omega); omega
    · split
      · have := nxt_bd zs (adv zs k) 40 (by omega); omega
      · have := nxt_bd zs (adv zs k) 12 (by omega); omega

set_option maxRecDepth 100000 in
theorem numberF (B : Nat) (v : Value) (zs : List Int) (k : Nat) (w : World) (h : TapeAt w B v zs k) :
    Calls Tryd.prog 54 #[.pointer (some ⟨B, 0, none⟩)] w fun e w' => e = .returned (.int .i64 (numv zs k)) ∧ TapeAt w' B v zs (adv zs (adv zs k)) ∧ Below B w w' := by
  have c1 := nextF B v zs k 8 (by omega) (by omega) w h
  have c2 := fun n n1 n2 w h => nextF B v zs (adv zs k) n n1 n2 w h
  have b1 := nxt_bd zs k 8 (by omega)
  have b2 := fun n n1 => nxt_bd zs (adv zs k) n n1
  have C1 := Lib.hid c1
  unfold numv
  generalize nxt zs k 8 = c at *
  obtain ⟨b10, b11⟩ := b1
  have cs : c = 0 ∨ c = 1 ∨ c = 2 ∨ c = 3 ∨ 4 ≤ c := by omega
  rcases cs with rfl | rfl | rfl | rfl | hc
  · rw [if_pos rfl]
    have b := b2 1000000000000000 (by omega)
    have cc := fun w h => c2 1000000000000000 (by omega) (by omega) w h
    clear c1 c2 b2 h
    generalize nxt zs (adv zs k) 1000000000000000 = r at *
    obtain ⟨r0, r1⟩ := b
    have CC := Lib.hid cc
    clear cc
    go_enter Tryd.func54, Tryd.ntmps54
    go_wp2_with fail
    ((with_reducible refine C1.out.mono ?_); rintro e w1 ⟨rfl, h1, q1⟩)
    have H1 := Lib.hid h1
    clear h1
    go_wp2_with fail
    ((with_reducible refine (CC.out _ H1.out).mono ?_); rintro e w2 ⟨rfl, h2, q2⟩)
    have H2 := Lib.hid h2
    clear h2
    go_wp2
    go_ret
    exact ⟨rfl, H2.out, q1.trans q2⟩
  · rw [if_neg (by decide), if_pos rfl]
    have b := b2 1000000 (by omega)
    have cc := fun w h => c2 1000000 (by omega) (by omega) w h
    clear c1 c2 b2 h
    generalize nxt zs (adv zs k) 1000000 = r at *
    obtain ⟨r0, r1⟩ := b
    have CC := Lib.hid cc
    clear cc
    go_enter Tryd.func54, Tryd.ntmps54
    go_wp2_with fail
    ((with_reducible refine C1.out.mono ?_); rintro e w1 ⟨rfl, h1, q1⟩)
    have H1 := Lib.hid h1
    clear h1
    go_wp2_with fail
    ((with_reducible refine (CC.out _ H1.out).mono ?_); rintro e w2 ⟨rfl, h2, q2⟩)
    have H2 := Lib.hid h2
    clear h2
    go_wp2
    go_ret
    exact ⟨rfl, H2.out, q1.trans q2⟩
  · rw [if_neg (by decide), if_neg (by decide), if_pos (.inl rfl)]
    have b := b2 40 (by omega)
    have cc := fun w h => c2 40 (by omega) (by omega) w h
    clear c1 c2 b2 h
    generalize nxt zs (adv zs k) 40 = r at *
    obtain ⟨r0, r1⟩ := b
    have CC := Lib.hid cc
    clear cc
    go_enter Tryd.func54, Tryd.ntmps54
    go_wp2_with fail
    ((with_reducible refine C1.out.mono ?_); rintro e w1 ⟨rfl, h1, q1⟩)
    have H1 := Lib.hid h1
    clear h1
    go_wp2_with fail
    ((with_reducible refine (CC.out _ H1.out).mono ?_); rintro e w2 ⟨rfl, h2, q2⟩)
    have H2 := Lib.hid h2
    clear h2
    go_wp2
    go_ret
    exact ⟨rfl, H2.out, q1.trans q2⟩
  · rw [if_neg (by decide), if_neg (by decide), if_pos (.inr rfl)]
    have b := b2 40 (by omega)
    have cc := fun w h => c2 40 (by omega) (by omega) w h
    clear c1 c2 b2 h
    generalize nxt zs (adv zs k) 40 = r at *
    obtain ⟨r0, r1⟩ := b
    have CC := Lib.hid cc
    clear cc
    go_enter Tryd.func54, Tryd.ntmps54
    go_wp2_with fail
    ((with_reducible refine C1.out.mono ?_); rintro e w1 ⟨rfl, h1, q1⟩)
    have H1 := Lib.hid h1
    clear h1
    go_wp2_with fail
    ((with_reducible refine (CC.out _ H1.out).mono ?_); rintro e w2 ⟨rfl, h2, q2⟩)
    have H2 := Lib.hid h2
    clear h2
    go_wp2
    go_ret
    exact ⟨rfl, H2.out, q1.trans q2⟩
  · rw [if_neg (by omega), if_neg (by omega), if_neg (by omega)]
    have z0 : (c == 0) = false := beq_eq_false_iff_ne.2 (by omega)
    have z1 : (c == 1) = false := beq_eq_false_iff_ne.2 (by omega)
    have z2 : (c == 2) = false := beq_eq_false_iff_ne.2 (by omega)
    have z3 : (c == 3) = false := beq_eq_false_iff_ne.2 (by omega)
    have b := b2 12 (by omega)
    have cc := fun w h => c2 12 (by omega) (by omega) w h
    clear c1 c2 b2 h
    generalize nxt zs (adv zs k) 12 = r at *
    obtain ⟨r0, r1⟩ := b
    have CC := Lib.hid cc
    clear cc
    go_enter Tryd.func54, Tryd.ntmps54
    go_wp2_with fail
    ((with_reducible refine C1.out.mono ?_); rintro e w1 ⟨rfl, h1, q1⟩)
    have H1 := Lib.hid h1
    clear h1
    go_wp2_with fail
    ((with_reducible refine (CC.out _ H1.out).mono ?_); rintro e w2 ⟨rfl, h2, q2⟩)
    have H2 := Lib.hid h2
    clear h2
    go_wp2
    go_ret
    exact ⟨rfl, H2.out, q1.trans q2⟩

end Go.Proofs.YtnjcbgnghfppoaaDoor

/- Drawing the values of a block from a tape: cncstage.Values. -/
set_option linter.unusedVariables false
set_option linter.unusedSimpArgs false
namespace Go.Proofs.YtnjcbgnghfppoaaDoor
open Go.RowKit

/-- append onto a row of the call's own: the row behind it is the old one, or a new block. -/
theorem run_append_nearM {P : Program} (w : World) (base : Nat) (t ty e : TypeId) (i : TypeInfo) (z : Value) (size bytes : Nat) (ht : P.underlying t = some (.slice e)) (hi : P.info? e = some i) (hz : i.zero = some z)
    (hsize : i.size = size) (hby : i.bytes = bytes) (hzs : z.cells.size = size) (hsz : 0 < size) (v : Value) (n : Nat) (xs : List Value) (hown : w.ownsRow base e size v n xs)
    (a : Addr) (m c : Nat) (news : List Value) (hl : news.length = m * size) (hnews : ∀ j u, news[j]? = some u → w.cell? (a.add j) = some u) (h1 : ∀ u ∈ news, u.oneCell' = true)
    (h63 : n + m ≤ maxLen) (hbytes : (n + m) * bytes ≤ 140737488355328) (hbase : base ≤ w.heap.size) :
    ∃ v' w', (Builtin.append_ #[t, t] ty #[v, .slice (some a) m c]).run P w = .ok v' w' ∧ w'.ownsRow base e size v' (n + m) (xs ++ news) ∧ w.grownBy w' v.ownBlock ∧
      (∀ g, v'.ownBlock = some g → v.ownBlock = some g ∨ w.heap.size ≤ g) := by
  rcases hown.2 with ⟨hv, hn⟩ | ⟨g, cap, cur, hv, hb, hg, hn, hm, hc, htk⟩
  · have hown' : w.ownsRow w.heap.size e size v n xs := ⟨hown.1, .inl ⟨hv, hn⟩⟩
    obtain ⟨v', w', h2, h3, h4, h5⟩ := run_append_own (P := P) w w.heap.size t ty e i z size bytes ht hi hz hsize hby hzs hsz v n xs hown' a m c news hl hnews h1 h63 hbytes (Nat.le_refl _)
    refine ⟨v', w', h2, ⟨h3.1, ?_⟩, h4, fun g hg => ?_⟩
    · rcases h3.2 with h | ⟨g, cap, cur, k1, k2, k3⟩
      · exact .inl h
      · exact .inr ⟨g, cap, cur, k1, Nat.le_trans hbase k2, k3⟩
    · rcases h3.2 with ⟨h, _⟩ | ⟨g', cap, cur, k1, k2, k3⟩
      · rw [h] at hg; cases hg
      · rw [k1] at hg
        have : g' = g := by simpa [Value.ownBlock] using hg
        exact .inr (this ▸ k2)
  · subst hv
    by_cases hroom : n + m ≤ cap
    · obtain ⟨w', h2, h3, h4⟩ := run_append_fits (P := P) w base t ty e i size ht hi hsize g n cap xs hown a m c news hl hnews h1 hroom
      exact ⟨_, w', h2, h3, h4, fun g' hg' => .inl hg'⟩
    · obtain ⟨v', w', h2, h3, h4, h5⟩ := run_append_own (P := P) w base t ty e i z size bytes ht hi hz hsize hby hzs hsz _ n xs hown a m c news hl hnews h1 h63 hbytes hbase
      refine ⟨v', w', h2, h3, h4, fun g' hg' => .inr ?_⟩
      subst hsize hby
      have hr := run_append_grow (P := P) w t ty e i z ht hi hz ⟨g, 0, none⟩ n cap xs hown.1 (hown.cells (g := g) rfl) a m c news hl hnews (by omega) (by unfold maxLen at h63; omega) (growslice_fits (by omega) hbytes)
      rw [h2] at hr
      injection hr with e1 e2
      rw [e1] at hg'
      have : w.heap.size = g' := by simpa [Value.ownBlock] using hg'
      omega


/-! ### lists of values that a call has made -/
def mvc (l : Vs.Ar) : List Value := l.flatMap fun p => [.int .i64 p.1, .int .i64 p.2]
theorem mvc_length (l : Vs.Ar) : (mvc l).length = l.length * 2 := by
  induction l with
  | nil => rfl
  | cons p l ih =>
    have : mvc (p :: l) = [.int .i64 p.1, .int .i64 p.2] ++ mvc l := rfl
    rw [this, List.length_append, ih, List.length_cons]
    simp only [List.length_cons, List.length_nil]
    omega
theorem mvc_at (l : Vs.Ar) (i : Nat) (h : i < l.length) : (mvc l)[i * 2]? = some (.int .i64 (Vs.ltr l i)) ∧ (mvc l)[i * 2 + 1]? = some (.int .i64 (Vs.num l i)) := by
  induction l generalizing i with
  | nil => simp at h
  | cons p l ih =>
    have e : mvc (p :: l) = .int .i64 p.1 :: .int .i64 p.2 :: mvc l := rfl
    rw [e]
    cases i with
    | zero => exact ⟨rfl, rfl⟩
    | succ i =>
      have k := ih i (by simpa using h)
      have e2 : (i + 1) * 2 = i * 2 + 1 + 1 := by omega
      rw [e2]
      exact k
theorem info_valM : (Tryd.prog.info? 58).map (fun i => (i.zero, i.size, i.bytes)) = some (some (.agg #[.int .i64 0, .int .i64 0]), 2, 16) := by kernel_rfl
/-- A list of values that the call has made. -/
def OwnM (B : Nat) (w : World) (v : Value) (l : Vs.Ar) : Prop := w.ownsRow B 58 2 v l.length (mvc l)
/-- The numbers are far from the ends of the range. -/
def Bdd (l : Vs.Ar) : Prop := ∀ p ∈ l, -9000000000000000 ≤ p.2 ∧ p.2 ≤ 9000000000000000
theorem bdd_num {l : Vs.Ar} (h : Bdd l) (i : Nat) (hi : i < l.length) : -9000000000000000 ≤ Vs.num l i ∧ Vs.num l i ≤ 9000000000000000 := by
  unfold Vs.num
  rw [List.getD_eq_getElem?_getD, List.getElem?_eq_getElem hi]
  exact h _ (List.getElem_mem hi)
theorem Bdd.snoc {l : Vs.Ar} (h : Bdd l) {p : Int × Int} (h1 : -9000000000000000 ≤ p.2) (h2 : p.2 ≤ 9000000000000000) : Bdd (l ++ [p]) := fun q hq => by
  rcases List.mem_append.1 hq with k | k
  · exact h q k
  · rw [List.mem_singleton.1 k]; exact ⟨h1, h2⟩
theorem OwnM.vals {B : Nat} {w : World} {v : Value} {l : Vs.Ar} (own : OwnM B w v l) (hb : Bdd l) : ValsB w.heap.size w v l := by
  rcases own.2 with ⟨rfl, h⟩ | ⟨g, cap, cur, rfl, hbg, hg, h1, h2, h3, h4⟩
  · have : l = [] := List.eq_nil_of_length_eq_zero h
    subst this
    exact ⟨none, 0, rfl, Nat.le_refl _, by decide, .inl rfl⟩
  · refine ⟨_, cap, rfl, h1, by unfold maxLen at h2; omega, .inr ⟨g, 0, rfl, (Array.getElem?_eq_some_iff.1 hg).1, fun i hi => ?_⟩⟩
    have k := mvc_at l i hi
    have c := World.ownsRow.cells own (g := g) rfl
    have c0 := c _ _ k.1
    have c1 := c _ _ k.2
    rw [Addr.add_mid] at c0 c1
    rw [← Nat.add_assoc] at c1
    have n := bdd_num hb i hi
    exact ⟨c0, c1, by omega, by omega⟩
theorem OwnM.go {B : Nat} {w w' : World} {v : Value} {l : Vs.Ar} (h : OwnM B w v l) (hb : ∀ g, v.ownBlock = some g → g < w.heap.size → w'.heap[g]? = w.heap[g]?) : OwnM B w' v l := by
  refine ⟨h.1, ?_⟩
  rcases h.2 with k | ⟨g, cap, cur, rfl, k1, k2, k3⟩
  · exact .inl k
  · exact .inr ⟨g, cap, cur, rfl, k1, (hb g rfl (Array.getElem?_eq_some_iff.1 k2).1).trans k2, k3⟩
theorem OwnM.lt {B : Nat} {w : World} {v : Value} {l : Vs.Ar} (h : OwnM B w v l) {g : Nat} (hg : v.ownBlock = some g) : B ≤ g ∧ g < w.heap.size := World.ownsRow.lt h g hg
theorem OwnM.nil (B : Nat) (w : World) : OwnM B w (.slice none 0 0) [] := World.ownsRow_nil _ _ _ _
section
variable {ops : Array Oper} {rest : List Oper} {dst : Option Tmp} {ty : TypeId} {pos : String} {after : Array Edge} {a : Act} {w : World} {Q : Exit → Act → World → Prop}
theorem val_append (s x : Tmp) (p : Int × Int) (B : Nat) (v : Value) (l : Vs.Ar) (g : Nat) {t : TypeId}
    (hs : a.eval (.tmp s) = v) (hx : a.eval (.tmp x) = .slice (some ⟨g, 0, none⟩) 1 1) (hb : Bx w g #[.int .i64 p.1, .int .i64 p.2] t)
    (hown : OwnM B w v l) (hl : l.length ≤ 1000000) (hB : B ≤ w.heap.size)
    (h : ∀ v' w', OwnM B w' v' (l ++ [p]) → w.grownBy w' v.ownBlock → (∀ g, v'.ownBlock = some g → v.ownBlock = some g ∨ w.heap.size ≤ g) → wpList Tryd.prog ops Q rest (a.put dst v') w') :
    wpList Tryd.prog ops Q (⟨dst, .call { callee := .builtin .append, args := #[.tmp s, .tmp x], argTypes := #[42, 42] }, ty, pos, after, none⟩ :: rest) a w := by
  obtain ⟨i0, hi, hz0, hz1, hz2⟩ := info_parts info_valM
  obtain ⟨v', w', hr, h2, h3, h4⟩ := run_append_nearM (P := Tryd.prog) w B 42 ty 58 i0 _ 2 16 Tryd.underlying42 hi hz0 hz1 hz2 rfl (by decide) v l.length (mvc l) hown ⟨g, 0, none⟩ 1 1 [.int .i64 p.1, .int .i64 p.2] rfl (by
    intro j u hj
    match j, hj with
    | 0, hj => simp at hj; subst hj; simpa [Addr.add] using hb.cell' 0 _ rfl
    | 1, hj => simp at hj; subst hj; simpa [Addr.add] using hb.cell' 1 _ rfl
    | n + 2, hj => simp at hj) (by
    intro u hu
    simp at hu
    rcases hu with rfl | rfl <;> rfl) (by unfold maxLen; omega) (by omega) hB
  refine Lib.wpList_append_run w rfl (.tmp s) (.tmp x) 42 42 rfl v _ hs hx v' w' hr (h v' w' ?_ h3 h4)
  unfold OwnM
  rw [List.length_append, show mvc (l ++ [p]) = mvc l ++ [.int .i64 p.1, .int .i64 p.2] by simp [mvc]]
  exact h2
end

/-! ### the tape, the next number -/
theorem grownR {w w' : World} {row : Option Nat} : w.grownBy w row := ⟨rfl, rfl, rfl, Nat.le_refl _, fun _ _ _ => rfl⟩
theorem grownAl (w : World) (o : Obj) (row : Option Nat) : w.grownBy (w.alloc o) row := ⟨rfl, rfl, rfl, by simp, fun k hk _ => Below.heap_alloc w o k hk⟩
theorem grownDr (w : World) (n : Nat) (row : Option Nat) : w.grownBy (w.drewN n) row := ⟨rfl, rfl, rfl, Nat.le_refl _, fun _ _ _ => rfl⟩
theorem grownSet (w : World) (b i : Nat) (u : Value) : w.grownBy (w.setCell ⟨b, i, none⟩ u) (some b) :=
  ⟨rfl, rfl, rfl, by simp [World.setCell], fun k hk hne => Below.heap_setCell w ⟨b, i, none⟩ u k (fun e => hne (by rw [e]))⟩
theorem IntsB.grownM {B C : Nat} {w w' : World} {v : Value} {zs : List Int} (h : IntsB B w v zs) (q : w.grownBy w' (some C)) (hC : B ≤ C) (hw : B ≤ w.heap.size) : IntsB B w' v zs :=
  h.kept (C := B) ⟨q.os, q.tape, q.output, q.size, fun k hk => q.block k (by omega) (by simp; omega)⟩ (Nat.le_refl _)
set_option maxRecDepth 100000 in
set_option maxHeartbeats 1000000 in
theorem nextM (B : Nat) (v : Value) (zs : List Int) (k : Nat) (n : Int) (n1 : 1 ≤ n) (n2 : n ≤ 9223372036854775807) (w : World) (h : TapeAt w B v zs k) :
    Calls Tryd.prog 42 #[.pointer (some ⟨B, 0, none⟩), .int .i64 n] w fun e w' => e = .returned (.int .i64 (nxt zs k n)) ∧ TapeAt w' B v zs (adv zs k) ∧ w.grownBy w' (some B) := by
  have hB := lt_of_block h.1
  obtain ⟨h1, h2, h3⟩ := h
  obtain ⟨a, cap, rfl, l1, l2, h4⟩ := h2
  obtain ⟨c0, c1, f1⟩ := cells_of_two h1
  unfold nxt adv
  by_cases hk : k < zs.length
  · rw [if_pos hk, if_pos hk]
    rcases h4 with rfl | ⟨b, off, rfl, hb, hz⟩
    · simp at hk
    · obtain ⟨z0, z1, z2⟩ := hz k hk
      have hlt := lt_of_block h1
      have hk' : (k : Int) < zs.length := by omega
      have HZ := Lib.hid hz
      have H1 := Lib.hid h1
      have md := fun w => modW (zs.getD k 0) n z1 z2 n1 n2 w
      obtain ⟨z, ez⟩ : ∃ z, zs.getD k 0 = z := ⟨_, rfl⟩
      rw [ez] at z0 z1 z2 md
      rw [ez]
      have MD := Lib.hid md
      have bB : b ≠ B := by omega
      clear hz ez md h1
      go_enter Tryd.func42, Tryd.ntmps42
      go_wp2
      go_quiet (fail)
      go_wp2
      obtain ⟨w1, hw1⟩ : ∃ w1, w1 = (w.drewN nq).setCell { block := B, off := 1 } (Value.int IntKind.i64 (↑k + 1)) := ⟨_, rfl⟩
      rw [← hw1]
      have g1 : w1.heap[B]? = some (.cells #[.slice (some ⟨b, off, none⟩) zs.length cap, .int .i64 ((k + 1 : Nat) : Int)] 73 (0, 0)) := by
        rw [hw1]
        exact two_setCell (w := w.drewN nq) H1.out
      have q1 : w.grownBy w1 (some B) := by
        rw [hw1]
        exact (grownDr w nq (some B)).trans (grownSet (w.drewN nq) B 1 _)
      have p1 : w1.cell? ⟨b, off + k, none⟩ = w.cell? ⟨b, off + k, none⟩ := World.cell?_of_block (a := ⟨b, off + k, none⟩) (q1.block b (by omega) (by simp; omega))
      obtain ⟨d0, d1, _⟩ := cells_of_two g1
      have d2 : w1.cell? ⟨b, off + k, none⟩ = some (.int .i64 z) := p1.trans z0
      rw [Int.natCast_add] at d1
      have T1 : Hid (TapeAt w1 B (.slice (some ⟨b, off, none⟩) zs.length cap) zs (k + 1)) := Lib.hid ⟨g1, IntsB.grownM ⟨some ⟨b, off, none⟩, cap, rfl, l1, l2, .inr ⟨b, off, rfl, hb, HZ.out⟩⟩ q1 (Nat.le_refl _) (by omega), by omega⟩
      have e1 : IntKind.i64.wrap ((k : Int) + 1 - 1) = k := (IntWalk.i64_in ((k : Int) + 1 - 1) (by omega)).trans (by omega)
      clear g1 hw1 c0 c1 f1 z0 p1
      go_quiet ((go_at_call 15; exact Calls.quiet_of_same ((MD.out _).mono fun _ _ ⟨h1, h2⟩ => ⟨h1, h2.symm⟩)))
      go_wp2
      go_ret
      exact ⟨rfl, T1.out.kept (Qw.drewN w1 _), q1.trans (grownDr w1 _ _)⟩
  · rw [if_neg hk, if_neg hk]
    have hk' : (zs.length : Int) ≤ k := by omega
    have H1 := Lib.hid (show TapeAt w B (.slice a zs.length cap) zs k from ⟨h1, ⟨a, cap, rfl, l1, l2, h4⟩, h3⟩)
    clear h1 h4 hk
    go_enter Tryd.func42, Tryd.ntmps42
    go_wp2
    go_quiet (fail)
    go_wp2
    go_ret
    exact ⟨rfl, H1.out.kept (Qw.drewN w nq), grownDr w _ _⟩

/-- While a block is drawn: the tape lies in block B, block E is not the list's. -/
structure Vm (w0 : World) (B E : Nat) (tv : Value) (zs : List Int) (k : Nat) (sl : Value) (l : Vs.Ar) (w : World) : Prop where
  t : TapeAt w B tv zs k
  o : OwnM w0.heap.size w sl l
  g : w0.grownBy w (some B)
  b : B < w0.heap.size
  n : Bdd l
  e : sl.ownBlock ≠ some E
section
variable {w0 w w' : World} {B E : Nat} {tv : Value} {zs : List Int} {k : Nat} {sl : Value} {l : Vs.Ar}
theorem Vm.next {k' : Nat} (h : Vm w0 B E tv zs k sl l w) (t : TapeAt w' B tv zs k') (g : w.grownBy w' (some B)) : Vm w0 B E tv zs k' sl l w' :=
  ⟨t, h.o.go fun b hb hl => g.block b hl (by have := (h.o.lt hb).1; have := h.b; simp; omega), h.g.trans g, h.b, h.n, h.e⟩
theorem Vm.al (h : Vm w0 B E tv zs k sl l w) (o : Obj) : Vm w0 B E tv zs k sl l (w.alloc o) :=
  h.next ⟨(Below.heap_alloc w o B (lt_of_block h.t.1)).trans h.t.1, h.t.2.1.kept (Below.alloc (Below.refl w.heap.size w) (Nat.le_refl _) o) (Nat.le_of_lt (lt_of_block h.t.1)), h.t.2.2⟩ (grownAl w o _)
theorem Vm.start (t : TapeAt w B tv zs k) (E : Nat) : Vm w B E tv zs k (.slice none 0 0) [] w :=
  ⟨t, OwnM.nil _ _, ⟨rfl, rfl, rfl, Nat.le_refl _, fun _ _ _ => rfl⟩, lt_of_block t.1, (fun p hp => by cases hp), by simp [Value.ownBlock]⟩
theorem Vm.re (h : Vm w0 B E tv zs k sl l w) (o : Obj) : Vm w0 B w.heap.size tv zs k sl l (w.alloc o) := by
  have a := h.al o
  exact ⟨a.t, a.o, a.g, a.b, a.n, fun e => by have := (h.o.lt e).2; omega⟩
/-- One value more. -/
theorem Vm.app {p : Int × Int} {sl' : Value} (h : Vm w0 B E tv zs k sl l w) (hE : E < w.heap.size) (o : OwnM w0.heap.size w' sl' (l ++ [p])) (g : w.grownBy w' sl.ownBlock) (n : ∀ b, sl'.ownBlock = some b → sl.ownBlock = some b ∨ w.heap.size ≤ b)
    (h1 : -9000000000000000 ≤ p.2) (h2 : p.2 ≤ 9000000000000000) : Vm w0 B E tv zs k sl' (l ++ [p]) w' := by
  have hB := lt_of_block h.t.1
  have ne : ∀ b, sl.ownBlock = some b → w0.heap.size ≤ b := fun b hb => (h.o.lt hb).1
  have bl : ∀ b, b < w0.heap.size → w'.heap[b]? = w.heap[b]? := fun b hb => g.block b (by have := h.g.size; omega) (fun e => by have := ne b e.symm; omega)
  refine ⟨⟨(bl B h.b).trans h.t.1, ?_, h.t.2.2⟩, o, ⟨g.os.trans h.g.os, g.tape.trans h.g.tape, g.output.trans h.g.output, Nat.le_trans h.g.size g.size, fun b hb hn => (bl b hb).trans (h.g.block b hb hn)⟩, h.b, h.n.snoc h1 h2, fun e => ?_⟩
  · exact h.t.2.1.kept (C := B) ⟨g.os, g.tape, g.output, g.size, fun b hb => bl b (by have := h.b; omega)⟩ (Nat.le_refl _)
  · rcases n E e with k | k
    · exact h.e k
    · omega
end
end Go.Proofs.YtnjcbgnghfppoaaDoor

/- Drawing the values of a block from a tape: the walk. -/
set_option linter.unusedVariables false
set_option linter.unusedSimpArgs false
namespace Go.Proofs.YtnjcbgnghfppoaaDoor
open Go.RowKit

set_option maxRecDepth 100000 in
theorem numberM (B : Nat) (v : Value) (zs : List Int) (k : Nat) (w : World) (h : TapeAt w B v zs k) :
    Calls Tryd.prog 54 #[.pointer (some ⟨B, 0, none⟩)] w fun e w' => e = .returned (.int .i64 (numv zs k)) ∧ TapeAt w' B v zs (adv zs (adv zs k)) ∧ w.grownBy w' (some B) := by
  have c1 := nextM B v zs k 8 (by omega) (by omega) w h
  have c2 := fun n n1 n2 w h => nextM B v zs (adv zs k) n n1 n2 w h
  have b1 := nxt_bd zs k 8 (by omega)
  have b2 := fun n n1 => nxt_bd zs (adv zs k) n n1
  have C1 := Lib.hid c1
  unfold numv
  generalize nxt zs k 8 = c at *
  obtain ⟨b10, b11⟩ := b1
  have cs : c = 0 ∨ c = 1 ∨ c = 2 ∨ c = 3 ∨ 4 ≤ c := by omega
  rcases cs with rfl | rfl | rfl | rfl | hc
  · rw [if_pos rfl]
    have b := b2 1000000000000000 (by omega)
    have cc := fun w h => c2 1000000000000000 (by omega) (by omega) w h
    clear c1 c2 b2 h
    generalize nxt zs (adv zs k) 1000000000000000 = r at *
    obtain ⟨r0, r1⟩ := b
    have CC := Lib.hid cc
    clear cc
    go_enter Tryd.func54, Tryd.ntmps54
    go_wp2_with fail
    ((with_reducible refine C1.out.mono ?_); rintro e w1 ⟨rfl, h1, q1⟩)
    have H1 := Lib.hid h1
    clear h1
    go_wp2_with fail
    ((with_reducible refine (CC.out _ H1.out).mono ?_); rintro e w2 ⟨rfl, h2, q2⟩)
    have H2 := Lib.hid h2
    clear h2
    go_wp2
    go_ret
    exact ⟨rfl, H2.out, q1.trans q2⟩
  · rw [if_neg (by decide), if_pos rfl]
    have b := b2 1000000 (by omega)
    have cc := fun w h => c2 1000000 (by omega) (by omega) w h
    clear c1 c2 b2 h
    generalize nxt zs (adv zs k) 1000000 = r at *
    obtain ⟨r0, r1⟩ := b
    have CC := Lib.hid cc
    clear cc
    go_enter Tryd.func54, Tryd.ntmps54
    go_wp2_with fail
    ((with_reducible refine C1.out.mono ?_); rintro e w1 ⟨rfl, h1, q1⟩)
    have H1 := Lib.hid h1
    clear h1
    go_wp2_with fail
    ((with_reducible refine (CC.out _ H1.out).mono ?_); rintro e w2 ⟨rfl, h2, q2⟩)
    have H2 := Lib.hid h2
    clear h2
    go_wp2
    go_ret
    exact ⟨rfl, H2.out, q1.trans q2⟩
  · rw [if_neg (by decide), if_neg (by decide), if_pos (.inl rfl)]
    have b := b2 40 (by omega)
    have cc := fun w h => c2 40 (by omega) (by omega) w h
    clear c1 c2 b2 h
    generalize nxt zs (adv zs k) 40 = r at *
    obtain ⟨r0, r1⟩ := b
    have CC := Lib.hid cc
    clear cc
    go_enter Tryd.func54, Tryd.ntmps54
    go_wp2_with fail
    ((with_reducible refine C1.out.mono ?_); rintro e w1 ⟨rfl, h1, q1⟩)
    have H1 := Lib.hid h1
    clear h1
    go_wp2_with fail
    ((with_reducible refine (CC.out _ H1.out).mono ?_); rintro e w2 ⟨rfl, h2, q2⟩)
    have H2 := Lib.hid h2
    clear h2
    go_wp2
    go_ret
    exact ⟨rfl, H2.out, q1.trans q2⟩
  · rw [if_neg (by decide), if_neg (by decide), if_pos (.inr rfl)]
    have b := b2 40 (by omega)
    have cc := fun w h => c2 40 (by omega) (by omega) w h
    clear c1 c2 b2 h
    generalize nxt zs (adv zs k) 40 = r at *
    obtain ⟨r0, r1⟩ := b
    have CC := Lib.hid cc
    clear cc
    go_enter Tryd.func54, Tryd.ntmps54
    go_wp2_with fail
    ((with_reducible refine C1.out.mono ?_); rintro e w1 ⟨rfl, h1, q1⟩)
    have H1 := Lib.hid h1
    clear h1
    go_wp2_with fail
    ((with_reducible refine (CC.out _ H1.out).mono ?_); rintro e w2 ⟨rfl, h2, q2⟩)
    have H2 := Lib.hid h2
    clear h2
    go_wp2
    go_ret
    exact ⟨rfl, H2.out, q1.trans q2⟩
  · rw [if_neg (by omega), if_neg (by omega), if_neg (by omega)]
    have z0 : (c == 0) = false := beq_eq_false_iff_ne.2 (by omega)
    have z1 : (c == 1) = false := beq_eq_false_iff_ne.2 (by omega)
    have z2 : (c == 2) = false := beq_eq_false_iff_ne.2 (by omega)
    have z3 : (c == 3) = false := beq_eq_false_iff_ne.2 (by omega)
    have b := b2 12 (by omega)
    have cc := fun w h => c2 12 (by omega) (by omega) w h
    clear c1 c2 b2 h
    generalize nxt zs (adv zs k) 12 = r at *
    obtain ⟨r0, r1⟩ := b
    have CC := Lib.hid cc
    clear cc
    go_enter Tryd.func54, Tryd.ntmps54
    go_wp2_with fail
    ((with_reducible refine C1.out.mono ?_); rintro e w1 ⟨rfl, h1, q1⟩)
    have H1 := Lib.hid h1
    clear h1
    go_wp2_with fail
    ((with_reducible refine (CC.out _ H1.out).mono ?_); rintro e w2 ⟨rfl, h2, q2⟩)
    have H2 := Lib.hid h2
    clear h2
    go_wp2
    go_ret
    exact ⟨rfl, H2.out, q1.trans q2⟩


def cdl : List Int := [0, 1, 2, 3, 4, 10, 12, 13, 15, 16, 17, 18, 19, 20, 21, 31, 33, 40, 41, 42, 43, 44, 49, 52, 53, 54, 55, 59, 61, 64, 68, 69, 73, 80, 81, 90, 91, 92, 94, 95, 98, 99, 5, 65]
def msl : List Int := [0, 1, 2, 3, 4, 5, 6, 7, 8, 9, 30, 62, 63, 98, 10]
def ivm (l : List Int) : Array Value := (l.map (Value.int .i64)).toArray
theorem ivm_at {l : List Int} {i : Nat} (h : i < l.length) : (ivm l)[i]? = some (.int .i64 (l.getD i 0)) := by
  simp [ivm, List.getD_eq_getElem?_getD, List.getElem?_eq_getElem h]
theorem cdl_bd : ∀ j : Fin 44, 0 ≤ cdl.getD j 0 ∧ cdl.getD j 0 ≤ 99 := by decide
theorem msl_bd : ∀ j : Fin 15, 0 ≤ msl.getD j 0 ∧ msl.getD j 0 ≤ 99 := by decide
def ltb : ByteArray := { data := #[88, 89, 90, 73, 74, 75, 82, 81, 80, 76, 70, 83, 84, 72, 68] }
theorem Bx.grM {w w' : World} {b B : Nat} {cs : Array Value} {t : TypeId} (h : Bx w b cs t) (q : w.grownBy w' (some B)) (hb : b ≠ B) : Bx w' b cs t := (q.block b h.lt (by simpa using hb)).trans h
def ValR (w0 : World) (B : Nat) (tv : Value) (zs : List Int) (e : Ending) (w' : World) : Prop := ∃ (E : Nat) (k : Nat) (sv : Value) (l : Vs.Ar), e = .returned sv ∧ Vm w0 B E tv zs k sv l w' ∧ l.length ≤ 20
set_option maxRecDepth 100000 in
set_option maxHeartbeats 8000000 in
theorem valuesM {w : World} {B : Nat} {tv : Value} {zs : List Int} {k : Nat} (h : TapeAt w B tv zs k) : Calls Tryd.prog 26 #[.pointer (some ⟨B, 0, none⟩)] w (ValR w B tv zs) := by
  have hBw := lt_of_block h.1
  have HV0 := Lib.hid ((Vm.start h 0).re (.cells (ivm cdl) 3))
  have HX0 := Lib.hid (Bx.new w (ivm cdl) 3)
  have c0 := fun w h => nextM B tv zs k 4 (by omega) (by omega) w h
  have b0 := nxt_bd zs k 4 (by omega)
  clear h
  generalize nxt zs k 4 = n0 at *
  generalize adv zs k = k0 at *
  have C0 := Lib.hid c0
  clear c0
  obtain ⟨m0, rfl⟩ := Int.eq_ofNat_of_zero_le b0.1
  have hm0 : m0 < 4 := by omega
  clear b0
  go_enter Tryd.func26, Tryd.ntmps26
  go_wp2_with (go_at_call 42; (refine (C0.out _ HV0.out.t).mono ?_; rintro e w1 ⟨rfl, h1, q1⟩; have V1 := Lib.hid (HV0.out.next h1 q1); have X1 := Lib.hid (HX0.out.grM q1 (by omega)); clear h1 q1))
  clear HV0 HX0 C0
  obtain ⟨D, hD⟩ : ∃ D, D = w.heap.size := ⟨_, rfl⟩
  rw [← hD] at V1 X1 ⊢
  have hBD : B < D := by omega
  have HD := Lib.hid hD
  clear hD
  go_loopw [3, 5] (fun lv nv wr => ∃ (sl : Value) (l : Vs.Ar) (k n : Nat), sl = lv ∧ nv = .int .i64 (n : Int) ∧ l.length + n ≤ 3 ∧ Hid (Vm w B D tv zs k sl l wr) ∧ Hid (Bx wr D (ivm cdl) 3)) (fun _ nv _ => (intOf nv).toNat)
  case atStart => exact ⟨_, _, _, m0, rfl, rfl, by simp; omega, V1, X1⟩
  case round =>
    clear V1 X1
    obtain ⟨sl, l, k, n, rfl, rfl, hl, HV, HX⟩ := hrel
    by_cases hn : 0 < n
    · have cn := fun w h => nextM B tv zs k 44 (by omega) (by omega) w h
      have bn := nxt_bd zs k 44 (by omega)
      generalize nxt zs k 44 = r at *
      obtain ⟨R, rfl⟩ := Int.eq_ofNat_of_zero_le bn.1
      have hR : R < 44 := by omega
      have cb := cdl_bd ⟨R, hR⟩
      simp only at cb
      have ca := ivm_at (l := cdl) (i := R) hR
      generalize cdl.getD R 0 = c at *
      obtain ⟨cb0, cb1⟩ := cb
      have CN := Lib.hid cn
      have CA := Lib.hid ca
      have rl : (R : Int) < 44 := by omega
      have hn' : (0 : Int) < (n : Int) := by omega
      clear cn ca bn
      go_wp2_with (first | (go_at_call 42; ((with_reducible refine (CN.out _ HV.out.t).mono ?_); rintro e w2 ⟨rfl, h2, q2⟩; have V2 := Lib.hid (HV.out.next h2 q2); have X2 := Lib.hid (HX.out.grM q2 (by omega)); have cx := X2.out.cell' R _ CA.out; clear h2 q2)) | (refine val_append 18 28 (71, c * 1000000) w.heap.size sl l w2.heap.size rfl rfl (Bx.new w2 _ _) (V2.out.al _).o (by omega) (by have := V2.out.g.size; simp; omega) ?_; intro v' w3 o g nr; have V3 := Lib.hid ((V2.out.al _).app (by have := X2.out.lt; simp; omega) o g nr (by show -9000000000000000 ≤ c * 1000000; omega) (by show c * 1000000 ≤ 9000000000000000; omega)); have X3 := Lib.hid (show Bx w3 D (ivm cdl) 3 from (g.block D (by have := X2.out.lt; simp; omega) (fun e => V2.out.e e.symm)).trans (X2.out.alloc _)); clear o g nr))
      go_roundw
      case rel => exact ⟨_, _, _, n - 1, rfl, by go_num, by simp; omega, V3, X3⟩
      case measure => simp [intOf]; omega
    · obtain rfl : n = 0 := by omega
      have HV0 := Lib.hid (HV.out.re (.cells (ivm msl) 3))
      have HX0 := Lib.hid (Bx.new wr (ivm msl) 3)
      have c0 := fun w h => nextM B tv zs k 3 (by omega) (by omega) w h
      have b0 := nxt_bd zs k 3 (by omega)
      have hBr : B < wr.heap.size := lt_of_block HV.out.t.1
      generalize nxt zs k 3 = n0 at *
      generalize adv zs k = k0 at *
      have C0 := Lib.hid c0
      clear c0 hn HX
      obtain ⟨m0, rfl⟩ := Int.eq_ofNat_of_zero_le b0.1
      have hm0 : m0 < 3 := by omega
      clear b0
      go_wp2_with (go_at_call 42; (refine (C0.out _ HV0.out.t).mono ?_; rintro e w1 ⟨rfl, h1, q1⟩; have V1 := Lib.hid (HV0.out.next h1 q1); have X1 := Lib.hid (HX0.out.grM q1 (by omega)); clear h1 q1))
      clear HV0 HX0 C0 HV
      generalize wr.heap.size = D2 at *
      have hl3 : l.length ≤ 3 := by omega
      clear hl
      go_loopw [3, 7] (fun lv nv wr => ∃ (sl : Value) (l : Vs.Ar) (k n : Nat), sl = lv ∧ nv = .int .i64 (n : Int) ∧ l.length + n ≤ 5 ∧ Hid (Vm w B D2 tv zs k sl l wr) ∧ Hid (Bx wr D2 (ivm msl) 3)) (fun _ nv _ => (intOf nv).toNat)
      case atStart => exact ⟨_, _, _, m0, rfl, rfl, by omega, V1, X1⟩
      case round =>
        clear V1 X1
        obtain ⟨sl, l, k, n, rfl, rfl, hl, HV, HX⟩ := hrel
        by_cases hn : 0 < n
        · have cn := fun w h => nextM B tv zs k 15 (by omega) (by omega) w h
          have bn := nxt_bd zs k 15 (by omega)
          generalize nxt zs k 15 = r at *
          obtain ⟨R, rfl⟩ := Int.eq_ofNat_of_zero_le bn.1
          have hR : R < 15 := by omega
          have cb := msl_bd ⟨R, hR⟩
          simp only at cb
          have ca := ivm_at (l := msl) (i := R) hR
          generalize msl.getD R 0 = c at *
          obtain ⟨cb0, cb1⟩ := cb
          have CN := Lib.hid cn
          have CA := Lib.hid ca
          have rl : (R : Int) < 15 := by omega
          have hn' : (0 : Int) < (n : Int) := by omega
          clear cn ca bn
          go_wp2_with (first | (go_at_call 42; ((with_reducible refine (CN.out _ HV.out.t).mono ?_); rintro e w2 ⟨rfl, h2, q2⟩; have V2 := Lib.hid (HV.out.next h2 q2); have X2 := Lib.hid (HX.out.grM q2 (by omega)); have cx := X2.out.cell' R _ CA.out; clear h2 q2)) | (refine val_append 37 47 (77, c * 1000000) w.heap.size sl l w2.heap.size rfl rfl (Bx.new w2 _ _) (V2.out.al _).o (by omega) (by have := V2.out.g.size; simp; omega) ?_; intro v' w3 o g nr; have V3 := Lib.hid ((V2.out.al _).app (by have := X2.out.lt; simp; omega) o g nr (by show -9000000000000000 ≤ c * 1000000; omega) (by show c * 1000000 ≤ 9000000000000000; omega)); have X3 := Lib.hid (show Bx w3 D2 (ivm msl) 3 from (g.block D2 (by have := X2.out.lt; simp; omega) (fun e => V2.out.e e.symm)).trans (X2.out.alloc _)); clear o g nr))
          go_roundw
          case rel => exact ⟨_, _, _, n - 1, rfl, by go_num, by simp; omega, V3, X3⟩
          case measure => simp [intOf]; omega
        · obtain rfl : n = 0 := by omega
          have hl5 : l.length ≤ 5 := by omega
          have HE : D2 < wr.heap.size := HX.out.lt
          clear hl hn HX
          go_wp2
          obtain ⟨S, hS⟩ : ∃ S : ByteArray, S = { data := #[88, 89, 90, 73, 74, 75, 82, 81, 80, 76, 70, 83, 84, 72, 68] } := ⟨_, rfl⟩
          have hs : S.size = 15 := by rw [hS]; rfl
          rw [← hS]
          clear hS
          try rw [show (((0 : Nat) : Int)) = 0 from rfl]
          go_loopw [3, 9] (fun lv iv wr => ∃ (sl : Value) (l : Vs.Ar) (k i : Nat), sl = lv ∧ iv = .int .i64 (i : Int) ∧ i ≤ 15 ∧ l.length ≤ 5 + i ∧ Hid (Vm w B D2 tv zs k sl l wr) ∧ D2 < wr.heap.size) (fun _ iv _ => 15 - (intOf iv).toNat)
          case atStart => exact ⟨_, _, _, 0, rfl, rfl, by omega, by omega, HV, HE⟩
          case round =>
            clear HV HE
            obtain ⟨sl, l, k, i, rfl, rfl, hi, hl, HV, HE⟩ := hrel
            by_cases hlt : i < 15
            · have cn := fun w h => nextM B tv zs k 4 (by omega) (by omega) w h
              have hi15 : (i : Int) < 15 := by omega
              have hi0 : 0 ≤ (i : Int) := by omega
              generalize nxt zs k 4 = r at *
              generalize adv zs k = k1 at *
              have CN := Lib.hid cn
              clear cn
              by_cases hr : r = 0
              · subst hr
                have cm := fun w h => numberM B tv zs k1 w h
                have bm := numv_bd zs k1
                generalize numv zs k1 = x at *
                generalize adv zs (adv zs k1) = k2 at *
                have CM := Lib.hid cm
                have cq := fun w h => nextM B tv zs k2 3 (by omega) (by omega) w h
                generalize nxt zs k2 3 = r2 at *
                have CQ := Lib.hid cq
                obtain ⟨bm0, bm1⟩ := bm
                have hz : i < S.size := by omega
                have z1 : ((S[i]'hz).toNat : Int) ≤ 255 := by have := (S[i]'hz).toNat_lt; omega
                have z0 : (0 : Int) ≤ ((S[i]'hz).toNat : Int) := by omega
                clear cm cq
                by_cases hr2 : r2 = 0
                · subst hr2
                  go_wp2_with (first | (go_at_call 42; (first | ((with_reducible refine (CN.out _ HV.out.t).mono ?_); rintro e w2 ⟨rfl, h2, q2⟩; have V2 := Lib.hid (HV.out.next h2 q2); have hE2 : D2 < w2.heap.size := Nat.lt_of_lt_of_le HE q2.size; clear h2 q2) | ((with_reducible refine (CQ.out _ V4.out.t).mono ?_); rintro e w5 ⟨rfl, h5, q5⟩; have V5 := Lib.hid (V4.out.next h5 q5); have hE5 : D2 < w5.heap.size := Nat.lt_of_lt_of_le hE4 q5.size; clear h5 q5))) | (go_at_call 54; ((with_reducible refine (CM.out _ V2.out.t).mono ?_); rintro e w4 ⟨rfl, h4, q4⟩; have V4 := Lib.hid (V2.out.next h4 q4); have hE4 : D2 < w4.heap.size := Nat.lt_of_lt_of_le hE2 q4.size; clear h4 q4)) | (refine val_append 65 72 (((S[i]'hz).toNat : Int), -x) w.heap.size sl l w5.heap.size rfl rfl (Bx.new w5 _ _) (V5.out.al _).o (by omega) (by have := V5.out.g.size; simp; omega) ?_; intro v' w6 o g nr; have V6 := Lib.hid ((V5.out.al _).app (by simp; omega) o g nr (by show -9000000000000000 ≤ -x; omega) (by show -x ≤ 9000000000000000; omega)); have hE6 : D2 < w6.heap.size := Nat.lt_of_lt_of_le hE5 (Nat.le_trans (by simp) g.size); clear o g nr))
                  go_roundw
                  case rel => exact ⟨_, _, _, i + 1, rfl, by go_num, by omega, by simp; omega, V6, hE6⟩
                  case measure => simp [intOf]; omega
                · have z2 : (r2 == 0) = false := beq_eq_false_iff_ne.2 hr2
                  clear hr2
                  go_wp2_with (first | (go_at_call 42; (first | ((with_reducible refine (CN.out _ HV.out.t).mono ?_); rintro e w2 ⟨rfl, h2, q2⟩; have V2 := Lib.hid (HV.out.next h2 q2); have hE2 : D2 < w2.heap.size := Nat.lt_of_lt_of_le HE q2.size; clear h2 q2) | ((with_reducible refine (CQ.out _ V4.out.t).mono ?_); rintro e w5 ⟨rfl, h5, q5⟩; have V5 := Lib.hid (V4.out.next h5 q5); have hE5 : D2 < w5.heap.size := Nat.lt_of_lt_of_le hE4 q5.size; clear h5 q5))) | (go_at_call 54; ((with_reducible refine (CM.out _ V2.out.t).mono ?_); rintro e w4 ⟨rfl, h4, q4⟩; have V4 := Lib.hid (V2.out.next h4 q4); have hE4 : D2 < w4.heap.size := Nat.lt_of_lt_of_le hE2 q4.size; clear h4 q4)) | (refine val_append 65 72 (((S[i]'hz).toNat : Int), x) w.heap.size sl l w5.heap.size rfl rfl (Bx.new w5 _ _) (V5.out.al _).o (by omega) (by have := V5.out.g.size; simp; omega) ?_; intro v' w6 o g nr; have V6 := Lib.hid ((V5.out.al _).app (by simp; omega) o g nr (by show -9000000000000000 ≤ x; omega) (by show x ≤ 9000000000000000; omega)); have hE6 : D2 < w6.heap.size := Nat.lt_of_lt_of_le hE5 (Nat.le_trans (by simp) g.size); clear o g nr))
                  go_roundw
                  case rel => exact ⟨_, _, _, i + 1, rfl, by go_num, by omega, by simp; omega, V6, hE6⟩
                  case measure => simp [intOf]; omega
              · have z : (r == 0) = false := beq_eq_false_iff_ne.2 hr
                clear hr
                go_wp2_with (go_at_call 42; ((with_reducible refine (CN.out _ HV.out.t).mono ?_); rintro e w2 ⟨rfl, h2, q2⟩; have V2 := Lib.hid (HV.out.next h2 q2); have hE2 : D2 < w2.heap.size := Nat.lt_of_lt_of_le HE q2.size; clear h2 q2))
                go_roundw
                case rel => exact ⟨_, _, _, i + 1, rfl, by go_num, by omega, by omega, V2, hE2⟩
                case measure => simp [intOf]; omega
            · obtain rfl : i = 15 := by omega
              clear hlt
              go_wp2
              go_ret
              exact ⟨D2, _, _, _, rfl, HV.out, by omega⟩
end Go.Proofs.YtnjcbgnghfppoaaDoor

/- Drawing a modal state from a tape: cncstage.Modal. -/
set_option linter.unusedVariables false
set_option linter.unusedSimpArgs false
namespace Go.Proofs.YtnjcbgnghfppoaaDoor
open Go.RowKit

def mol : List Int := [0, 1, 2, 3, 33, 73, 74, 80, 81, 82, 83, 84, 85, 86, 89]
def lel : List Int := [43, 44, 49]
def pal : List Int := [61, 64]
/-- While a state is drawn: the tape, the result's block, the three tables. -/
structure Mv (w0 : World) (B R D1 D2 D3 : Nat) (tv : Value) (zs : List Int) (k : Nat) (w : World) : Prop where
  t : TapeAt w B tv zs k
  xr : Bx w R (mdc Md.S.zero) MT
  x1 : Bx w D1 (ivm mol) 3
  x2 : Bx w D2 (ivm lel) 3
  x3 : Bx w D3 (ivm pal) 3
  g : w0.grownBy w (some B)
  b : B < w0.heap.size
  r : w0.heap.size ≤ R
  d1 : w0.heap.size ≤ D1
  d2 : w0.heap.size ≤ D2
  d3 : w0.heap.size ≤ D3
def Mx (w0 : World) (B R D1 D2 D3 : Nat) (tv : Value) (zs : List Int) (w : World) : Prop := ∃ k, Mv w0 B R D1 D2 D3 tv zs k w
section
variable {w0 w w' : World} {B R D1 D2 D3 : Nat} {tv : Value} {zs : List Int} {k : Nat}
theorem Mv.next {k' : Nat} (h : Mv w0 B R D1 D2 D3 tv zs k w) (t : TapeAt w' B tv zs k') (g : w.grownBy w' (some B)) : Mv w0 B R D1 D2 D3 tv zs k' w' := by
  have hb := h.b
  exact ⟨t, h.xr.grM g (by have := h.r; omega), h.x1.grM g (by have := h.d1; omega), h.x2.grM g (by have := h.d2; omega), h.x3.grM g (by have := h.d3; omega), h.g.trans g, h.b, h.r, h.d1, h.d2, h.d3⟩
/-- What is new, and what does not lie in the blocks that are known. -/
theorem Mv.new (h : Mv w0 B R D1 D2 D3 tv zs k w) (q : Qw w w') : Mv w0 B R D1 D2 D3 tv zs k w' :=
  ⟨h.t.kept q, h.xr.kept q, h.x1.kept q, h.x2.kept q, h.x3.kept q, h.g.trans ⟨q.os, q.tape, q.output, q.size, fun b hb _ => q.block b hb⟩, h.b, h.r, h.d1, h.d2, h.d3⟩
theorem Mx.new (h : Mx w0 B R D1 D2 D3 tv zs w) (q : Qw w w') : Mx w0 B R D1 D2 D3 tv zs w' := by obtain ⟨k, h⟩ := h; exact ⟨k, h.new q⟩
theorem Mx.x1 (h : Mx w0 B R D1 D2 D3 tv zs w) : Bx w D1 (ivm mol) 3 := by obtain ⟨k, h⟩ := h; exact h.x1
theorem Mx.x2 (h : Mx w0 B R D1 D2 D3 tv zs w) : Bx w D2 (ivm lel) 3 := by obtain ⟨k, h⟩ := h; exact h.x2
theorem Mx.x3 (h : Mx w0 B R D1 D2 D3 tv zs w) : Bx w D3 (ivm pal) 3 := by obtain ⟨k, h⟩ := h; exact h.x3
theorem Mx.xr (h : Mx w0 B R D1 D2 D3 tv zs w) : Bx w R (mdc Md.S.zero) MT := by obtain ⟨k, h⟩ := h; exact h.xr
theorem Mx.gr (h : Mx w0 B R D1 D2 D3 tv zs w) : w0.grownBy w (some B) := by obtain ⟨k, h⟩ := h; exact h.g
end
set_option maxRecDepth 100000 in
theorem rangeM (B : Nat) (tv : Value) (zs : List Int) (k : Nat) (lo hi : Int) (h0 : 0 ≤ lo) (h1 : lo ≤ hi) (h2 : hi ≤ 1000000) (w : World) (h : TapeAt w B tv zs k) :
    Calls Tryd.prog 41 #[.pointer (some ⟨B, 0, none⟩), .int .i64 lo, .int .i64 hi] w fun e w' => e = .returned (.int .i64 (lo + nxt zs k (hi - lo + 1))) ∧ TapeAt w' B tv zs (adv zs k) ∧ w.grownBy w' (some B) := by
  have c := nextM B tv zs k (hi - lo + 1) (by omega) (by omega) w h
  have b := nxt_bd zs k (hi - lo + 1) (by omega)
  generalize nxt zs k (hi - lo + 1) = n at *
  obtain ⟨b0, b1⟩ := b
  have C := Lib.hid c
  clear c h
  go_enter Tryd.func41, Tryd.ntmps41
  go_wp2_with (go_at_call 42; ((with_reducible refine (C.out).mono ?_); rintro e w1 ⟨rfl, t, g⟩; have T1 := Lib.hid t; have G1 := Lib.hid g; clear t g))
  go_ret
  exact ⟨rfl, T1.out, G1.out⟩
section
variable {w0 : World} {B R D1 D2 D3 : Nat} {tv : Value} {zs : List Int}
def NumR (w0 : World) (B R D1 D2 D3 : Nat) (tv : Value) (zs : List Int) (w : World) (m : Int) (e : Ending) (w' : World) : Prop := (∃ n : Int, e = .returned (.int .i64 n) ∧ 0 ≤ n ∧ n < m) ∧ Mx w0 B R D1 D2 D3 tv zs w' ∧ w.grownBy w' (some B)
theorem nextX (m : Int) (m0 : 1 ≤ m) (m1 : m ≤ 1000000) (w : World) (h : Mx w0 B R D1 D2 D3 tv zs w) : Calls Tryd.prog 42 #[.pointer (some ⟨B, 0, none⟩), .int .i64 m] w fun e w' => (∃ n : Int, e = .returned (.int .i64 n) ∧ 0 ≤ n ∧ n < m) ∧ Mx w0 B R D1 D2 D3 tv zs w' ∧ w.grownBy w' (some B) := by
  obtain ⟨k, h⟩ := h
  have b := nxt_bd zs k m (by omega)
  exact (nextM B tv zs k m (by omega) (by omega) w h.t).mono fun e w' ⟨he, t, g⟩ => ⟨⟨_, he, b.1, b.2⟩, ⟨_, h.next t g⟩, g⟩
theorem rangeX (lo hi : Int) (h0 : 0 ≤ lo) (h1 : lo ≤ hi) (h2 : hi ≤ 1000000) (w : World) (h : Mx w0 B R D1 D2 D3 tv zs w) : Calls Tryd.prog 41 #[.pointer (some ⟨B, 0, none⟩), .int .i64 lo, .int .i64 hi] w fun e w' => (∃ n : Int, e = .returned (.int .i64 n) ∧ lo ≤ n ∧ n ≤ hi) ∧ Mx w0 B R D1 D2 D3 tv zs w' ∧ w.grownBy w' (some B) := by
  obtain ⟨k, h⟩ := h
  have b := nxt_bd zs k (hi - lo + 1) (by omega)
  exact (rangeM B tv zs k lo hi h0 h1 h2 w h.t).mono fun e w' ⟨he, t, g⟩ => ⟨⟨_, he, by omega, by omega⟩, ⟨_, h.next t g⟩, g⟩
end
/-- The state that is drawn lies in block P. -/
structure Mz (w0 : World) (B R D1 D2 D3 : Nat) (tv : Value) (zs : List Int) (P : Nat) (s : Md.S) (w : World) : Prop where
  m : Mx w0 B R D1 D2 D3 tv zs w
  x : Bx w P (mdc s) MT
  ne : w0.heap.size ≤ P ∧ P ≠ R ∧ P ≠ D1 ∧ P ≠ D2 ∧ P ≠ D3
section
variable {w0 w w' : World} {B R D1 D2 D3 P : Nat} {tv : Value} {zs : List Int} {s : Md.S}
theorem Mz.next (h : Mz w0 B R D1 D2 D3 tv zs P s w) (m : Mx w0 B R D1 D2 D3 tv zs w') (g : w.grownBy w' (some B)) : Mz w0 B R D1 D2 D3 tv zs P s w' := by
  obtain ⟨k, hk⟩ := h.m
  exact ⟨m, h.x.grM g (by have := hk.b; have := h.ne.1; omega), h.ne⟩
theorem Mz.gen (h : Mz w0 B R D1 D2 D3 tv zs P s w) (g : w.grownBy w' (some P)) (t : Md.S) (x : Bx w' P (mdc t) MT) : Mz w0 B R D1 D2 D3 tv zs P t w' := by
  obtain ⟨⟨k, hk⟩, h2, h3, h4, h5, h6, h7⟩ := h
  have hb := hk.b
  have hB := lt_of_block hk.t.1
  refine ⟨⟨k, ⟨(g.block B hB (by simp; omega)).trans hk.t.1, ?_, hk.t.2.2⟩, hk.xr.grM g (by omega), hk.x1.grM g (by omega), hk.x2.grM g (by omega), hk.x3.grM g (by omega), ?_, hb, hk.r, hk.d1, hk.d2, hk.d3⟩, x, h3, h4, h5, h6, h7⟩
  · exact hk.t.2.1.kept (C := B) ⟨g.os, g.tape, g.output, g.size, fun b hl => g.block b (by omega) (by simp; omega)⟩ (Nat.le_refl _)
  · exact ⟨g.os.trans hk.g.os, g.tape.trans hk.g.tape, g.output.trans hk.g.output, Nat.le_trans hk.g.size g.size, fun b hl hn => (g.block b (by have := hk.g.size; omega) (by simp; omega)).trans (hk.g.block b hl hn)⟩
theorem Mz.set (h : Mz w0 B R D1 D2 D3 tv zs P s w) (k : Nat) (v : Value) (t : Md.S) (ht : (mdc s).setIfInBounds k v = mdc t) : Mz w0 B R D1 D2 D3 tv zs P t (w.setCell ⟨P, k, none⟩ v) :=
  h.gen (grownSet w P k v) t (ht ▸ h.x.set k v)
theorem Mz.new (h : Mx w0 B R D1 D2 D3 tv zs w) (q : Qw w w') (hP : w.heap.size ≤ P) (x : Bx w' P (mdc s) MT) : Mz w0 B R D1 D2 D3 tv zs P s w' := by
  obtain ⟨k, hk⟩ := h
  exact ⟨⟨k, hk.new q⟩, x, Nat.le_trans hk.g.size hP, by have := hk.xr.lt; omega, by have := hk.x1.lt; omega, by have := hk.x2.lt; omega, by have := hk.x3.lt; omega⟩
theorem Mz.row (h : Mz w0 B R D1 D2 D3 tv zs P s w) (t : Md.S) : Mz w0 B R D1 D2 D3 tv zs P t (w.setRow P (mdc t)) :=
  h.gen (show w.grownBy (w.setRow P (mdc t)) (some P) from ⟨rfl, rfl, rfl, by rw [setRow_size]; exact Nat.le_refl _, fun b _ hn => setRow_other w P b _ (fun e => hn (by rw [e]))⟩) t h.x.srS
end
section
variable {dst : Option Tmp} {ty : TypeId} {pos : String} {after : Array Edge} {a : Act} {w : World} {Q : Exit → Act → World → Prop} {K : Act → World → Prop}
set_option maxRecDepth 100000 in
theorem al_wp (h : ∀ w' P, w.heap.size ≤ P → Bx w' P (mdc Md.S.zero) MT → Qw w w' → K (a.put dst (.pointer (some ⟨P, 0, none⟩))) w') : Oper.wp Tryd.prog ⟨dst, .alloc MT, ty, pos, after, none⟩ a w K Q := by
  unfold Oper.wp execOp
  simp only [run_alloc_md w]
  exact h _ _ (Nat.le_refl _) (Bx.new w _ _) (Qw.al (Qw.refl w) _)
theorem st_wp (x y : Tmp) {P : Nat} {t : Md.S} {old : Md.S} (hx : a.eval (.tmp x) = .pointer (some ⟨P, 0, none⟩)) (hy : a.eval (.tmp y) = .agg (mdc t)) (X : Bx w P (mdc old) MT)
    (h : K (a.put dst undef) (w.setRow P (mdc t))) : Oper.wp Tryd.prog ⟨dst, .store MT (.tmp x) (.tmp y), ty, pos, after, none⟩ a w K Q :=
  wp_store_row MT (.tmp x) (.tmp y) rfl P (mdc t) hx hy MT (mdc old) X (by rw [mdc_size]; exact info_md) (by rw [mdc_size, mdc_size]) (mdc_one t) h
end
theorem mol_at (n : Int) (h0 : 0 ≤ n) (h1 : n < 15) : ∃ (N : Nat) (x : Int), n = N ∧ N < 15 ∧ (ivm mol)[N]? = some (.int .i64 x) := ⟨n.toNat, _, by omega, by omega, ivm_at (show n.toNat < 15 by omega)⟩
theorem lel_at (n : Int) (h0 : 0 ≤ n) (h1 : n < 3) : ∃ (N : Nat) (x : Int), n = N ∧ N < 3 ∧ (ivm lel)[N]? = some (.int .i64 x) := ⟨n.toNat, _, by omega, by omega, ivm_at (show n.toNat < 3 by omega)⟩
theorem pal_at (n : Int) (h0 : 0 ≤ n) (h1 : n < 2) : ∃ (N : Nat) (x : Int), n = N ∧ N < 2 ∧ (ivm pal)[N]? = some (.int .i64 x) := ⟨n.toNat, _, by omega, by omega, ivm_at (show n.toNat < 2 by omega)⟩
end Go.Proofs.YtnjcbgnghfppoaaDoor
