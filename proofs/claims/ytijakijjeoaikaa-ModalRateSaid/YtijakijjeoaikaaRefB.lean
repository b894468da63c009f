
/- Numbers in memory, and the walks of limbs, cut and cmp of the specification of layer 1. -/
import Derived.Test.YtijakijjeoaikaaCore
import Derived.Test.YtijakijjeoaikaaDigits
import Derived.WalkSmall
set_option linter.unusedVariables false
set_option linter.unusedSimpArgs false
namespace Go.Proofs.Ytijakijjeoaikaa
open Go.RowKit

def cells (ds : List Int) : List Value := ds.map (Value.int .u64)

/-- A slice that holds the digits ds in a block of its own, from block B on. -/
def RawB (B : Nat) (w : World) (v : Value) (ds : List Int) : Prop := w.ownsRow B 75 1 v ds.length (cells ds)
/-- A slice that holds the digits ds in a block of its own. -/
def Raw (w : World) (v : Value) (ds : List Int) : Prop := RawB 0 w v ds
theorem RawB.raw {B : Nat} {w : World} {v : Value} {ds : List Int} (h : RawB B w v ds) : Raw w v ds := by
  obtain ⟨h1, h2⟩ := h
  refine ⟨h1, ?_⟩
  rcases h2 with h2 | ⟨g, cap, cur, hv, hg, r⟩
  · exact .inl h2
  · exact .inr ⟨g, cap, cur, hv, Nat.zero_le _, r⟩

/-- Behind a step that writes at most into the call's own row. -/
theorem Qw.grown {w wr w1 : World} {v : Value} {ds : List Int} (h : Qw w wr) (hr : RawB w.heap.size wr v ds) (wx : World) (hx : wr.heap.size ≤ wx.heap.size) (hq : Qw wr wx) (hg : wx.grownBy w1 v.ownBlock) : Qw w w1 :=
  Below.grown (Qw.trans h hq) hg (by have := h.size; omega) (fun k hk => (hr.lt k hk).1)

/-- A slice that holds a number, without leading zeros. -/
def Num (w : World) (v : Value) (x : Int) : Prop := ∃ ds, Dg.Dig ds ∧ Dg.Top ds ∧ Dg.val ds = x ∧ ds.length ≤ 1000 ∧ Raw w v ds

theorem raw_kept {w w' : World} {v : Value} {ds : List Int} (h : Raw w v ds) (q : Qw w w') : Raw w' v ds := by
  obtain ⟨h1, h2⟩ := h
  refine ⟨h1, ?_⟩
  rcases h2 with h2 | ⟨g, cap, cur, hv, hg, hh, r⟩
  · exact .inl h2
  · refine .inr ⟨g, cap, cur, hv, hg, ?_, r⟩
    rw [q.block g (Array.getElem?_eq_some_iff.1 hh).1]
    exact hh

theorem num_kept {w w' : World} {v : Value} {x : Int} (h : Num w v x) (q : Qw w w') : Num w' v x := by
  obtain ⟨ds, h1, h2, h3, h4, h5⟩ := h
  exact ⟨ds, h1, h2, h3, h4, raw_kept h5 q⟩

/-- What a slice of digits is: nil, or a head of a block. -/
theorem raw_cases {w : World} {v : Value} {ds : List Int} (h : Raw w v ds) :
    (v = .slice none 0 0 ∧ ds = []) ∨ ∃ g cap, v = .slice (some ⟨g, 0, none⟩) ds.length cap ∧ ds.length ≤ cap ∧ cap ≤ 9223372036854775807 ∧ g < w.heap.size ∧ ∀ j, j < ds.length → w.cell? ⟨g, j, none⟩ = some (.int .u64 (ds.getD j 0)) := by
  have h0 := h
  obtain ⟨h1, h2⟩ := h
  rcases h2 with ⟨h2, h3⟩ | ⟨g, cap, cur, rfl, hg, hh, r1, r2, r3, r4⟩
  · exact .inl ⟨h2, List.eq_nil_of_length_eq_zero h3⟩
  · refine .inr ⟨g, cap, rfl, r1, by unfold maxLen at r2; omega, (Array.getElem?_eq_some_iff.1 hh).1, fun j hj => ?_⟩
    rw [World.ownsRow.cellAt h0 j (by omega)]
    unfold cells
    rw [List.getElem?_map, List.getD_eq_getElem?_getD, List.getElem?_eq_getElem hj]
    rfl

theorem raw_take {w : World} {g cap : Nat} {ds : List Int} (h : Raw w (.slice (some ⟨g, 0, none⟩) ds.length cap) ds) (k : Nat) (hk : k ≤ ds.length) :
    Raw w (.slice (some ⟨g, 0, none⟩) k cap) (ds.take k) := by
  obtain ⟨h1, h2⟩ := h
  have l : (ds.take k).length = k := by rw [List.length_take]; omega
  refine ⟨by simp [cells], ?_⟩
  rcases h2 with ⟨h2, h3⟩ | ⟨g', cap', cur, hv, hg, hh, r1, r2, r3, r4⟩
  · cases h2
  · cases hv
    refine .inr ⟨g, cap, cur, by rw [l], hg, hh, by omega, r2, r3, ?_⟩
    rw [l]
    have : (cur.toList.take (ds.length * 1)).take (k * 1) = (cells ds).take (k * 1) := by rw [r4]
    rw [List.take_take, Nat.min_eq_left (by omega)] at this
    rw [this]
    simp [cells, List.map_take]

/-- The digits without the zeros at the end. -/
def Stripped (ds : List Int) (k : Nat) : Prop := k ≤ ds.length ∧ ∀ j, k ≤ j → j < ds.length → ds.getD j 0 = 0

theorem val_strip {ds : List Int} {k : Nat} (h : Stripped ds k) : Dg.val (ds.take k) = Dg.val ds := by
  obtain ⟨h1, h2⟩ := h
  have e : ds = ds.take k ++ ds.drop k := (List.take_append_drop k ds).symm
  have z : Dg.val (ds.drop k) = 0 := by
    have r : ds.drop k = List.replicate (ds.length - k) 0 := by
      apply List.ext_getElem?
      intro j
      rw [List.getElem?_drop]
      by_cases c : j < ds.length - k
      · rw [List.getElem?_replicate, if_pos c]
        have := h2 (k + j) (by omega) (by omega)
        rw [List.getD_eq_getElem?_getD, List.getElem?_eq_getElem (by omega)] at this
        rw [List.getElem?_eq_getElem (by omega)]
        simpa using this
      · rw [List.getElem?_replicate, if_neg c, List.getElem?_eq_none (by omega)]
    rw [r, Dg.val_replicate]
  conv => rhs; rw [e]
  rw [Dg.val_append, z]
  omega

theorem top_strip {ds : List Int} {k : Nat} (h1 : k ≤ ds.length) (h : k = 0 ∨ ds.getD (k - 1) 0 ≠ 0) : Dg.Top (ds.take k) := by
  intro d hd
  rcases Nat.eq_zero_or_pos k with c | c
  · subst c; simp at hd
  · rcases h with h | h
    · omega
    · have l : (ds.take k).length = k := by rw [List.length_take]; omega
      rw [List.getLast?_eq_getElem?, l, List.getElem?_take, if_pos (by omega)] at hd
      rw [List.getD_eq_getElem?_getD, hd] at h
      exact h

theorem strip_step {ds : List Int} {j : Nat} (h : Stripped ds (j + 1)) (z : ds.getD j 0 = 0) : Stripped ds j := by
  obtain ⟨h1, h2⟩ := h
  refine ⟨by omega, fun i h3 h4 => ?_⟩
  rcases Nat.eq_or_lt_of_le h3 with e | e
  · rw [← e]; exact z
  · exact h2 i e h4

theorem raw_nil (w : World) : Raw w (.slice none 0 0) [] := World.ownsRow_nil w _ _ _
theorem num_nil (w : World) : Num w (.slice none 0 0) 0 :=
  ⟨[], Dg.dig_nil, fun d h => by simp at h, rfl, by decide, raw_nil w⟩

def lenOf : Value → Nat
  | .slice _ k _ => k
  | _ => 0

theorem refCut (v : Value) (ds : List Int) (w : World) (hd : Dg.Dig ds) (hl : ds.length ≤ 1000) (hr : Raw w v ds) :
    Calls Try.prog 78 #[v] w fun e w' => ∃ v', e = .returned v' ∧ Num w v' (Dg.val ds) ∧ w = w' := by
  rcases raw_cases hr with ⟨rfl, rfl⟩ | ⟨g, cap, rfl, c1, c2, c3, c4⟩
  · go_enter Try.func78, Try.ntmps78
    go_wp2
    go_loop [0] (fun v => v = .slice none 0 0) (fun _ => 0)
    case atStart => rfl
    case round =>
      subst hrel
      go_wp2
      go_ret
      exact ⟨_, rfl, num_nil w, rfl⟩
  · go_enter Try.func78, Try.ntmps78
    go_wp2
    go_loop [0] (fun v => ∃ k : Nat, v = .slice (some ⟨g, 0, none⟩) k cap ∧ Stripped ds k) (fun v => lenOf v)
    case atStart => exact ⟨ds.length, rfl, Nat.le_refl _, fun j h1 h2 => by omega⟩
    case round =>
      obtain ⟨k, rfl, hk⟩ := hrel
      have hk1 := hk.1
      have Hk := Lib.hid hk
      clear hk
      cases k with
      | zero =>
        go_wp2
        go_ret
        exact ⟨_, rfl, ⟨ds.take 0, Dg.dig_take hd 0, top_strip (Nat.zero_le _) (.inl rfl), val_strip Hk.out, by simp, raw_take hr 0 (Nat.zero_le _)⟩, rfl⟩
      | succ j =>
        have hcell := c4 j (by omega)
        obtain ⟨d, ed⟩ : ∃ d, ds.getD j 0 = d := ⟨_, rfl⟩
        rw [ed] at hcell
        have Ed := Lib.hid ed
        clear ed c4
        by_cases cz : d = 0
        · subst cz
          go_wp2
          go_round
          case rel => exact ⟨j, rfl, strip_step Hk.out Ed.out⟩
          case measure => simp [lenOf]
        · have bz : (d == 0) = false := beq_eq_false_iff_ne.2 cz
          have Cz := Lib.hid cz
          clear cz
          go_wp2
          go_ret
          exact ⟨_, rfl, ⟨ds.take (j + 1), Dg.dig_take hd _, top_strip hk1 (.inr (by rw [show j + 1 - 1 = j from by omega, Ed.out]; exact Cz.out)), val_strip Hk.out, by rw [List.length_take]; omega, raw_take hr _ hk1⟩, rfl⟩

/-! ### limbs -/

/-- What is known at the head of a round of limbs: m is still to come. -/
def LimbK (n m : Int) (ds : List Int) : Prop :=
  Dg.Dig ds ∧ Dg.val ds + 65536 ^ ds.length * m = n ∧ (m = 0 → Dg.Top ds) ∧ 0 ≤ m ∧
    (ds.length = 0 ∧ m < 18446744073709551616 ∨ ds.length = 1 ∧ m < 281474976710656 ∨ ds.length = 2 ∧ m < 4294967296 ∨ ds.length = 3 ∧ m < 65536 ∨ ds.length = 4 ∧ m < 1)

theorem limb_step {n m : Int} {ds : List Int} (h : LimbK n m ds) (hm : 0 < m) : LimbK n (m / 65536) (ds ++ [m % 65536]) := by
  obtain ⟨h1, h2, h3, h4, h5⟩ := h
  have l : (ds ++ [m % 65536]).length = ds.length + 1 := by simp
  refine ⟨Dg.dig_append.2 ⟨h1, Dg.dig_cons.2 ⟨⟨by omega, by omega⟩, Dg.dig_nil⟩⟩, ?_, ?_, by omega, by omega⟩
  · rw [l, Dg.val_append, Dg.val, Dg.val, Dg.pow_succ, Int.mul_zero, Int.add_zero, Int.mul_comm 65536, Int.mul_assoc, Int.mul_comm 65536 (m / 65536)]
    have d := Int.emod_add_mul_ediv m 65536
    have e : (65536 : Int) ^ ds.length * (m % 65536) + 65536 ^ ds.length * (m / 65536 * 65536) = 65536 ^ ds.length * m := by
      rw [← Int.mul_add, Int.mul_comm (m / 65536), d]
    omega
  · intro z d hd
    simp at hd
    omega

theorem and_mask16 (x : Int) (h0 : 0 ≤ x) (h1 : x < 18446744073709551616) : bits .and .u64 x 65535 = x % 65536 := by
  obtain ⟨n, rfl⟩ := Int.eq_ofNat_of_zero_le h0
  have h := bits_and_u64_nat n 65535 (by omega) (by omega)
  have e : n &&& 65535 = n % 65536 := Nat.and_two_pow_sub_one_eq_mod n 16
  rw [e] at h
  exact h

theorem cell_one_new (w : World) (a : Value) (t : TypeId) : ∀ j u, [a][j]? = some u → (w.alloc (.cells #[a] t)).cell? ((⟨w.heap.size, 0, none⟩ : Addr).add j) = some u := by
  intro j u hj
  match j, hj with
  | 0, hj => simp at hj; subst hj; simp [Addr.add]
  | j + 1, hj => simp at hj

theorem raw_push {B : Nat} {w : World} {v : Value} {ds : List Int} {d : Int} (h : w.ownsRow B 75 1 v (ds.length + 1) (cells ds ++ [.int .u64 d])) : RawB B w v (ds ++ [d]) := by
  unfold RawB
  have l : (ds ++ [d]).length = ds.length + 1 := by simp
  rw [l]
  have c : cells (ds ++ [d]) = cells ds ++ [.int .u64 d] := by simp [cells]
  rw [c]
  exact h

theorem info_u64 : (Try.prog.info? 75).map (fun i => (i.zero, i.size, i.bytes)) = some (some (.int .u64 0), 1, 8) := by kernel_rfl

theorem refLimbs (n : Int) (n0 : 0 ≤ n) (n1 : n < 18446744073709551616) (w : World) :
    Calls Try.prog 65 #[.int .u64 n] w fun e w' => ∃ v, e = .returned v ∧ Num w' v n ∧ Qw w w' := by
  obtain ⟨i0, hi, hz0, hz1, hz2⟩ := info_parts info_u64
  go_enter Try.func65, Try.ntmps65
  go_wp2
  go_loopw [0, 3] (fun m v wr => ∃ k ds, m = .int .u64 k ∧ LimbK n k ds ∧ RawB w.heap.size wr v ds ∧ Qw w wr) (fun m _ _ => (intOf m).toNat)
  case atStart => exact ⟨n, [], rfl, ⟨Dg.dig_nil, by simp [Dg.val], fun _ d h => by simp at h, n0, .inl ⟨rfl, n1⟩⟩, World.ownsRow_nil _ _ _ _, Qw.refl _⟩
  case round =>
    obtain ⟨k, ds, rfl, hk, hr, hq⟩ := hrel
    have k0 : 0 ≤ k := hk.2.2.2.1
    have k1 : k < 18446744073709551616 := by have := hk.2.2.2.2; omega
    have kl : ds.length ≤ 4 := by have := hk.2.2.2.2; omega
    have Hk := Lib.hid hk
    have Hr := Lib.hid hr
    clear hk hr
    by_cases c : 0 < k
    · have hc := Lib.hid c
      have ea : bits .and .u64 k 65535 = k % 65536 := and_mask16 k k0 k1
      go_wp2_with (at_builtin; refine wpList_append_own _ rfl _ _ 83 rfl w.heap.size 75 i0 (.int .u64 0) 1 8 Try.underlying83 hi hz0 hz1 hz2 rfl (by decide) _ _ _ rfl (Hr.out.alloc _) ⟨wr.heap.size, 0, none⟩ 1 1 [.int .u64 (k % 65536)] rfl rfl (cell_one_new _ _ _) (ints_oneCell .u64 [k % 65536]) (by unfold maxLen; omega) (by omega) (by have := hq.size; simp; omega) ?_)
      intro v1 w1 hown1 hgrow1 _
      have hr1 : RawB w.heap.size w1 v1 (ds ++ [k % 65536]) := raw_push hown1
      have hq1 : Qw w w1 := hq.grown Hr.out _ (by simp) ((Below.refl _ _).alloc (Nat.le_refl _) _) hgrow1
      clear hown1 hgrow1 hq ea
      have HR := Lib.hid hr1
      clear hr1
      go_wp2
      go_roundw
      case rel => exact ⟨_, _, rfl, limb_step Hk.out hc.out, HR.out, hq1⟩
      case measure => simp [intOf]; omega
    · obtain rfl : k = 0 := by omega
      go_wp2
      go_ret
      exact ⟨_, rfl, ⟨ds, Hk.out.1, Hk.out.2.2.1 rfl, by have := Hk.out.2.1; rw [Int.mul_zero] at this; omega, by omega, Hr.out.raw⟩, hq⟩

end Go.Proofs.Ytijakijjeoaikaa
